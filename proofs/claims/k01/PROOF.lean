import PyProof.Rows.All
import Wide.All
import OpenK.AllK
import Wide.FinOn
import KE.KeyNested
import KE.GoesMore
import KE.GoesEnum
import HandS.ForMost
import HandS.Evl
import HandS.IsInst
import HandS.Style
import HandS.SetKeys
import HandS.TupLen
import HandS.TupAny
import HandS.Conv
import HandS.Rev
import HandS.ForExc
import HandS.WordsExc
import HandS.TryOnly
import HandS.SetFor
import HandS.Sort
import HandS.Strs
import HandS.Lambda
import HandS.ExcIs
import HandS.EndOwn
import HandS.TryMany
import HandS.SortInts
import HandS.Walk
import HandS.Zip
import HandS.DictComp
import HandS.Flow
import HandS.TupMul
import PySem.Challenge.RW_pushedclerks_k01_whole_machines
set_option Elab.async false
set_option linter.all false
set_option maxRecDepth 100000
set_option maxHeartbeats 4000000
namespace L2
open PySem PySem.Spec PyProof.Rows

/-! ### dicts whose keys are nested tuples -/
/-- at a: a dict with the keys, where they stand, and the values kvs -/
def DictN (P : Program) (w : World) (a : Addr) (kvs : List (NestedKey × Addr × V)) : HO := .ext fun h => (a == sysModules) = false ∧ kvs.length ≤ sizeLine ∧
  ∃ xs : List (NestedKey × Addr × Value), Paired (fun (p : NestedKey × Addr × V) (q : NestedKey × Addr × Value) => p.1 = q.1 ∧ p.2.1 = q.2.1 ∧ RelV p.2.2 q.2.2) kvs xs ∧
    ∃ o es ep, h.get? a = some o ∧ o.ExactDict ∧ o.data = .dict es ep ∧ es.toList = xs.map (entryOfKey (nestedKind P w)) ∧ (xs.map (·.1)).Nodup
mutual
/-- a value of the abstract heap is a key -/
inductive NKey (K : PySem.W.Frag) (H : Hp) : V → NestedKey → Prop
  | int (i : Int) : NKey K H (.int i) (.num i)
  | tup {a : Addr} {xs : List V} {ks : List NestedKey} : SqT K H a xs → NKeys K H xs ks → NKey K H (.ref a) (.tup ks)
inductive NKeys (K : PySem.W.Frag) (H : Hp) : List V → List NestedKey → Prop
  | nil : NKeys K H [] []
  | cons {v : V} {vs : List V} {k : NestedKey} {ks : List NestedKey} : NKey K H v k → NKeys K H vs ks → NKeys K H (v :: vs) (k :: ks)
end
def TK (K : PySem.W.Frag) (H H' : Hp) : Prop := ∀ a xs, SqT K H a xs → SqT K H' a xs
mutual
theorem NKey.keep {K : PySem.W.Frag} {H H' : Hp} (e : TK K H H') : ∀ (k : NestedKey) (v : V), NKey K H v k → NKey K H' v k
  | .num i, _, h => by cases h; exact .int i
  | .tup ks, _, h => by
    cases h with
    | tup h1 h2 => exact .tup (e _ _ h1) (NKeys.keep e ks _ h2)
  | .none, _, h => by cases h
  | .text _, _, h => by cases h
theorem NKeys.keep {K : PySem.W.Frag} {H H' : Hp} (e : TK K H H') : ∀ (ks : List NestedKey) (vs : List V), NKeys K H vs ks → NKeys K H' vs ks
  | [], _, h => by cases h; exact .nil
  | k :: ks, _, h => by
    cases h with
    | cons h1 h2 => exact .cons (NKey.keep e k _ h1) (NKeys.keep e ks _ h2)
end
section
variable {X : Cx} {pinz : List (Addr × Obj)} {σ : St} {H : Hp} {s : Shared}
mutual
theorem NKey.is (I : Inv X pinz σ H s) : ∀ (k : NestedKey) (v : V) (u : Value), NKey X.K H v k → RelV v u → NestedIs s.heap k u
  | .num i, _, _, h, r => by
    cases h
    obtain ⟨t, rfl⟩ := r
    exact .int i t
  | .tup ks, _, _, h, r => by
    cases h with
    | tup h1 h2 =>
      cases r
      obtain ⟨its, rV, ⟨o, ho, hc, n, hd⟩, _⟩ := I.tuple h1
      exact .tup ho hc hd (NKeys.is I ks _ _ h2 rV)
  | .none, _, _, h, _ => by cases h
  | .text _, _, _, h, _ => by cases h
theorem NKeys.is (I : Inv X pinz σ H s) : ∀ (ks : List NestedKey) (vs : List V) (us : List Value), NKeys X.K H vs ks → Vals vs us → NestedAll s.heap ks us
  | [], _, _, h, r => by
    cases h
    cases r
    exact .nil
  | k :: ks, _, _, h, r => by
    cases h with
    | cons h1 h2 =>
      cases r with
      | cons r1 r2 => exact .cons (NKey.is I k _ _ h1 r1) (NKeys.is I ks _ _ h2 r2)
end
end
/-- what stands at a key -/
def atN (kvs : List (NestedKey × Addr × V)) (k : NestedKey) : Option V := (kvs.find? fun e => decide (e.1 = k)).map (·.2.2)
theorem atN_rel {kvs : List (NestedKey × Addr × V)} {xs : List (NestedKey × Addr × Value)} (r : Paired (fun (p : NestedKey × Addr × V) (q : NestedKey × Addr × Value) => p.1 = q.1 ∧ p.2.1 = q.2.1 ∧ RelV p.2.2 q.2.2) kvs xs) (k : NestedKey) :
    RelO (atN kvs k) ((atKey xs k).map (·.2)) := by
  induction r with
  | nil => exact True.intro
  | @cons p q ps qs h t ih =>
    obtain ⟨h1, _, h2⟩ := h
    by_cases e : p.1 = k
    · have y' : q.1 = k := h1.symm.trans e
      have b : atKey (q :: qs) k = some q.2 := by simp [atKey, List.find?_cons, y']
      have c : atN (p :: ps) k = some p.2.2 := by simp [atN, List.find?_cons, e]
      rw [b, c]; exact h2
    · have y' : ¬ q.1 = k := fun z => e (h1.trans z)
      have b : atKey (q :: qs) k = atKey qs k := by simp [atKey, List.find?_cons, y']
      have c : atN (p :: ps) k = atN ps k := by simp [atN, List.find?_cons, e]
      rw [b, c]; exact ih
theorem dictN_stay {P : Program} {w : World} {a : Addr} {kvs : List (NestedKey × Addr × V)} : ∀ h1 h2 : Heap, ((a == sysModules) = false ∧ kvs.length ≤ sizeLine ∧
  ∃ xs : List (NestedKey × Addr × Value), Paired (fun (p : NestedKey × Addr × V) (q : NestedKey × Addr × Value) => p.1 = q.1 ∧ p.2.1 = q.2.1 ∧ RelV p.2.2 q.2.2) kvs xs ∧
    ∃ o es ep, h1.get? a = some o ∧ o.ExactDict ∧ o.data = .dict es ep ∧ es.toList = xs.map (entryOfKey (nestedKind P w)) ∧ (xs.map (·.1)).Nodup) → (∀ o, h1.get? a = some o → h2.get? a = some o) → ((a == sysModules) = false ∧ kvs.length ≤ sizeLine ∧
  ∃ xs : List (NestedKey × Addr × Value), Paired (fun (p : NestedKey × Addr × V) (q : NestedKey × Addr × Value) => p.1 = q.1 ∧ p.2.1 = q.2.1 ∧ RelV p.2.2 q.2.2) kvs xs ∧
    ∃ o es ep, h2.get? a = some o ∧ o.ExactDict ∧ o.data = .dict es ep ∧ es.toList = xs.map (entryOfKey (nestedKind P w)) ∧ (xs.map (·.1)).Nodup) := by
  rintro h1 h2 ⟨z, y, xs, r, o, es, ep, e, c⟩ k
  exact ⟨z, y, xs, r, o, es, ep, k o e, c⟩
theorem dictN_ok {P : Program} {w : World} {H : Hp} {h : Heap} {a : Addr} {kvs : List (NestedKey × Addr × V)} {xs : List (NestedKey × Addr × Value)} (hd : (a == sysModules) = false) (hl : kvs.length ≤ sizeLine)
    (r : Paired (fun (p : NestedKey × Addr × V) (q : NestedKey × Addr × Value) => p.1 = q.1 ∧ p.2.1 = q.2.1 ∧ RelV p.2.2 q.2.2) kvs xs) (dd : h.DictOfH (nestedKind P w) a xs) : ObjOk P w H h a (DictN P w a kvs) := by
  obtain ⟨o, es, ep, h1, h2, h3, h4, _, h5⟩ := dd
  exact ⟨⟨hd, hl, xs, r, o, es, ep, h1, h2, h3, h4, h5⟩, ⟨o, h1⟩, dictN_stay⟩
/-- {} whose keys will be nested tuples -/
def tDNewN (P : Program) (w : World) : TE := fun _ H Q => ∀ p, H p = none → Q (.ref p) (upd H p (DictN P w p []))
theorem pe_dnewN {X : Cx} {pos : Pos} : PE X (.Dict [] [] pos) (tDNewN X.prog X.w) := ⟨fun pinz s σ H Q I h =>
  wpAny_Dict_empty ⟨.ref s.heap.objs.size, _, I.laid (a := s.heap.objs.size) (o := DictN X.prog X.w s.heap.objs.size []) (t' := s.toks) (fun _ _ q => Heap.get?_push_of_some _ q) (Nat.le_refl _)
    (dictN_ok (by have := I.big; exact beq_eq_false_iff_ne.mpr (Nat.ne_of_gt this)) (Nat.zero_le _) .nil (Heap.DictOfH.new s.heap)), rfl, h _ (I.hok.fresh (Nat.le_refl _))⟩⟩
section
variable {X : Cx} {pinz : List (Addr × Obj)} {σ : St} {H : Hp} {s : Shared} {a b : Addr} {A : Around} {E : Value → Shared → Prop}
theorem dictN_get {kvs : List (NestedKey × Addr × V)} (I : Inv X pinz σ H s) (e : H a = some (DictN X.prog X.w a kvs)) (hk : ∀ q ∈ kvs, NKey X.K H (.ref q.2.1) q.1 ∧ q.1.depth ≤ 8) :
    (a == sysModules) = false ∧ kvs.length ≤ sizeLine ∧ ∃ xs : List (NestedKey × Addr × Value), Paired (fun (p : NestedKey × Addr × V) (q : NestedKey × Addr × Value) => p.1 = q.1 ∧ p.2.1 = q.2.1 ∧ RelV p.2.2 q.2.2) kvs xs ∧ s.heap.DictOfH (nestedKind X.prog X.w) a xs := by
  obtain ⟨⟨z, y, xs, r, o, es, ep, h1, h2, h3, h4, h5⟩, _⟩ := I.hok a _ e
  refine ⟨z, y, xs, r, o, es, ep, h1, h2, h3, h4, fun x hx => ?_, h5⟩
  have all : ∀ {l : List (NestedKey × Addr × V)} {m : List (NestedKey × Addr × Value)}, Paired (fun (p : NestedKey × Addr × V) (q : NestedKey × Addr × Value) => p.1 = q.1 ∧ p.2.1 = q.2.1 ∧ RelV p.2.2 q.2.2) l m → (∀ q ∈ l, NKey X.K H (.ref q.2.1) q.1 ∧ q.1.depth ≤ 8) → ∀ x ∈ m, (nestedKind X.prog X.w).is s.heap x.1 x.2.1 := by
    intro l m q
    induction q with
    | nil => intro _ x hx; exact nomatch hx
    | @cons p q ps qs wq t ih =>
      intro hl x hx
      rcases List.mem_cons.mp hx with e | hx
      · subst e
        have := hl p List.mem_cons_self
        rw [← wq.1, ← wq.2.1]
        exact ⟨NKey.is I _ _ _ this.1 rfl, this.2⟩
      · exact ih (fun q wq => hl q (List.mem_cons_of_mem _ wq)) x hx
  exact all r hk x hx
theorem dn_setd {kvs : List (NestedKey × Addr × V)} {k : NestedKey} {d : V} {r : Value} {Q : Value → Shared → Prop} (hu : A.units + 9 < cLine) (I : Inv X pinz σ H s) (e : H a = some (DictN X.prog X.w a kvs)) (hk : ∀ q ∈ kvs, NKey X.K H (.ref q.2.1) q.1 ∧ q.1.depth ≤ 8)
    (ky : NKey X.K H (.ref b) k) (kd : k.depth ≤ 8) (rd : RelV d r) (hl : kvs.length < sizeLine)
    (h1 : ∀ v, atN kvs k = some v → ∀ (w' : Value) (s' : Shared), Inv X pinz σ H s' → RelV v w' → Q w' s') (h2 : atN kvs k = none → ∀ (w' : Value) (s' : Shared), Inv X pinz σ (upd H a (DictN X.prog X.w a (kvs ++ [(k, b, d)]))) s' → RelV d w' → Q w' s') :
    wpAny (model X.prog X.w) A (call (.builtin "dict.setdefault") [.ref a, .ref b, r]) Q E s := by
  obtain ⟨hd, z, xs, rel, dd⟩ := dictN_get I e hk
  have wz : xs.length ≤ sizeLine := by rw [← Paired.length rel]; exact z
  have rl := atN_rel rel k
  refine call_setdefault_heap (hsz := wz) (knd := nestedKind X.prog X.w) (show A.in1.units + 8 < cLine from by show A.units + 1 + 8 < cLine; omega) ⟨NKey.is I _ _ _ ky rfl, kd⟩ hd dd (fun p hp => ?_) fun hn h' dd' hs => ?_
  · rw [hp] at rl
    cases q0 : atN kvs k with
    | none => rw [q0] at rl; exact (show False from rl).elim
    | some v0 => rw [q0] at rl; exact h1 v0 q0 _ _ (I.tok _) rl
  · rw [hn] at rl
    cases q0 : atN kvs k with
    | some v0 => rw [q0] at rl; exact (show False from rl).elim
    | none =>
      rw [storedH_new hn] at dd'
      have he : ∃ q, h'.get? a = some q := let ⟨q, _, _, wq, _⟩ := dd'; ⟨q, wq⟩
      refine h2 q0 _ _ (d_write (t' := s.toks + (nestedKind X.prog X.w).draws k) I (by rw [e]; exact True.intro) hs he (dictN_ok hd ?_ (Paired.snoc rel ⟨rfl, rfl, rd⟩) dd')) rd
      rw [List.length_append]
      exact hl
end
/-- d.setdefault(y, z), y a tuple -/
def tDSetdN (K : PySem.W.Frag) (P : Program) (w : World) (td ty tx : TE) : TE := fun σ H Q => td σ H fun x H1 => ∃ a, x = .ref a ∧ (∃ kvs, H1 a = some (DictN P w a kvs)) ∧ ty σ H1 fun y H2 => tx σ H2 fun z H3 => ∃ (kvs : List (NestedKey × Addr × V)) (k : NestedKey) (b : Addr),
  H3 a = some (DictN P w a kvs) ∧ y = .ref b ∧ (∀ q ∈ kvs, NKey K H3 (.ref q.2.1) q.1 ∧ q.1.depth ≤ 8) ∧ NKey K H3 (.ref b) k ∧ k.depth ≤ 8 ∧ kvs.length < sizeLine ∧
  (∀ v, atN kvs k = some v → Q v H3) ∧ (atN kvs k = none → Q z (upd H3 a (DictN P w a (kvs ++ [(k, b, z)]))))
section
variable {X : Cx} {o e f : Expr} {td ty tx : TE} {apos cpos : Pos}
theorem pe_dsetdN (hu : X.A.units + 9 < cLine) (ho : PE X o td) (he : PE X e ty) (hf : PE X f tx) (m : M2 X o "setdefault" apos e f cpos) : PE X (.Call (.Attribute o "setdefault" apos) [e, f] [] cpos) (tDSetdN X.K X.prog X.w td ty tx) := by
  refine ⟨fun pinz s σ H Q I h => ?_⟩
  refine wpAny_Call_method m.base m.few m.line PySem.F.plainAttrs_dict PySem.F.slot_dict_setdefault PySem.F.type_dict_setdefault (thn (ho.run pinz s σ H _ I h) fun u z1 ⟨x, H1, J1, rx, a, ex, ⟨kvs0, d0⟩, k1⟩ => ?_)
  subst ex
  obtain rfl : u = Value.ref a := rx
  have tt : z1.TypeIs (.ref a) "dict" ∧ (∀ b, Value.ref a = .ref b → ∃ ob, z1.heap.get? b = some ob ∧ ob.dict = none) := by
    obtain ⟨⟨_, _, xs, _, ob, es, ep, h1, h2, h3, _⟩, _⟩ := J1.hok a _ d0
    exact ⟨⟨ob, h1, h2.1⟩, fun b q => by cases q; exact ⟨ob, h1, h2.2.1⟩⟩
  refine ⟨tt.1, tt.2, ?_⟩
  rw [m.trees]
  refine Calls.callWith_builtin rfl (Calls.evalArgs_plain (Calls.spliced_cons (thn (he.run pinz z1 σ H1 _ J1 k1) fun iv z2 ⟨y, H2, J2, ry, k2⟩ =>
    Calls.spliced_cons (thn (hf.run pinz z2 σ H2 _ J2 k2) fun fv z3 ⟨z, H3, J3, rz, kvs, k, b, ea, ey, hk, ky, kd, hl, k3, k4⟩ => Calls.spliced_nil ?_))))
  subst ey
  obtain rfl : iv = Value.ref b := ry
  exact dn_setd hu J3 ea hk ky kd rz hl (fun v hv w' z4 I4 rw' => ⟨v, _, I4, rw', k3 v hv⟩) fun hn w' z4 I4 rw' => ⟨z, _, I4, rw', k4 hn⟩
end

/-! ### enumerate(t), t a tuple -/
theorem meets_enumerate_new1 {v : Value} {o : Obj} {H : Heap → Prop} (B : Begins v o H) :
    Meets (Builtin.«enumerate.__new__» ⟨[.type "enumerate", v], []⟩) (fun _ R s => H s.heap ∧
      R (.ok (.ret (.ref (s.heap.push o).objs.size))) { s with heap := (s.heap.push o).push { cls := .type "enumerate", data := .fields #[.none, .bool false, .ref s.heap.objs.size, rawInt 0, .none, .none] } }) :=
  .of_wp fun prog w A R s h => by
    obtain ⟨hp0, g, d, tk0, os0⟩ := s; obtain ⟨h1, h⟩ := h
    have wsub := sub_enumerate
    have k1 : ∀ {A' : Around} {E : Value → Shared → Prop} {Q : Value → Shared → Prop}, Q (.ref hp0.objs.size) ⟨hp0.push o, g, d, tk0, os0⟩ → wpAny (model prog w) A' (pyIter v) Q E ⟨hp0, g, d, tk0, os0⟩ :=
      fun q => B.iter prog w _ _ ⟨hp0, g, d, tk0, os0⟩ _ h1 q
    wp_walk using k1
    refine wpAny_stack_any fun st0 => wpAny_pure ?_
    split
    · rename_i c _ _ _ _ _
      cases (c == Value.type "enumerate")
      · wp_walk using k1
        exact ⟨_, rfl, h⟩
      · wp_walk using k1
        exact ⟨_, rfl, h⟩
    · wp_walk using k1
      exact ⟨_, rfl, h⟩
section
variable {prog : Program} {w : World} {A : Around} {E : Value → Shared → Prop} {s : Shared}
theorem enum_begins1 {v : Value} {o : Obj} {H : Heap → Prop} {Q : Value → Shared → Prop} (B : Begins v o H) (h1 : H s.heap)
    (h : ∀ h', IsEnum h' (s.heap.objs.size + 1) s.heap.objs.size 0 .none → h'.get? s.heap.objs.size = some o → h'.objs.size = s.heap.objs.size + 2 →
      (∀ b o, s.heap.get? b = some o → h'.get? b = some o) →
      Q (.ref (s.heap.objs.size + 1)) { s with heap := h' }) :
    wpAny (model prog w) A (call (.type "enumerate") [v]) Q E s := by
  refine callType_new F.called_enumerate (by decide)
    (F.typeCall_enumerate_1 _) (F.newCall_enumerate_1 _) (fun obj => F.args_object_init_2 obj _) F.entry_enumerate_new
    (meets_enumerate_new1 B) ⟨h1, ?_⟩
  have wz : (s.heap.push o).objs.size = s.heap.objs.size + 1 := Heap.size_push ..
  show _ ∧ _
  rw [wz]
  have he0 : IsEnum ((s.heap.push o).push { cls := .type "enumerate", data := .fields #[.none, .bool false, .ref s.heap.objs.size, rawInt 0, .none, .none] }) (s.heap.objs.size + 1) s.heap.objs.size 0 .none := by
    have := Heap.get?_push_size (s.heap.push o) (o := { cls := .type "enumerate", data := .fields #[.none, .bool false, .ref s.heap.objs.size, rawInt 0, .none, .none] }) rfl
    rw [wz] at this; exact this
  refine ⟨⟨_, he0, rfl⟩, h _ he0 (Heap.get?_push_of_some _ (Heap.get?_push_size _ B.free)) (by rw [Heap.size_push, wz]) fun b o x => Heap.get?_push_of_some _ (Heap.get?_push_of_some _ x)⟩
end
/-- the tuple at a as it stands at each turn, each item in a new pair -/
def IteT (K : PySem.W.Frag) (a : Addr) : It :=
  ⟨fun i H => ∃ (ws : List V) (x : V), SqT K H a ws ∧ ws[i]? = some x, fun i H v H' => ∃ T x, v = .ref T ∧ H T = none ∧ H' = upd H T (.tup [.int (i : Nat), x]) ∧ ∀ ws, SqT K H a ws → ws[i]? = some x, fun i H => ∃ ws : List V, SqT K H a ws ∧ ws.length = i⟩
theorem turn_enumT {P : Program} {w : World} {K : PySem.W.Frag} {elts : List Expr} {kk : Nat} {tpos : Pos} (a e it : Addr) (hai : a ≠ it) (hae : a ≠ e) (hei : e ≠ it) :
    Turn P w K (.Tuple elts kk tpos) (IteT K a) [e, it] e (fun i h => (∃ old, IsEnum h e it ((i : Nat) : Int) old) ∧ h.IsTupleIter it a i) where
  mem := by simp
  obj := fun i h st0 b hb0 => by
    obtain ⟨⟨old, he0⟩, ⟨o, ho0, hc0, hd⟩⟩ := st0
    have yy : b = e ∨ b = it := by simpa using hb0
    rcases yy with z | z
    · rw [z]; exact ⟨_, he0, fun v q => nomatch q⟩
    · rw [z]; exact ⟨o, ho0, fun v q => by rw [hd] at q; cases q⟩
  keep := fun i h h' st0 k => let ⟨⟨old, he0⟩, hi⟩ := st0; ⟨⟨old, k e (by simp) _ he0⟩, hi.at fun o q => k it (by simp) o q⟩
  item := by
    intro X hP hw hK hc0 i pinz s σ H E I hf st0 hg
    subst hP hw hK
    obtain ⟨⟨old, he0⟩, wit⟩ := st0
    obtain ⟨ws, x, wq, hx⟩ := hg
    obtain ⟨its, rV, p, wz⟩ := I.tuple wq
    obtain ⟨u, hu, ru⟩ := rV.get hx
    have wel : e < s.heap.objs.size := Heap.lt_size he0
    have wil : it < s.heap.objs.size := by obtain ⟨_, q, _⟩ := wit; exact Heap.lt_size q
    have D := Draws.tuple (prog := X.prog) (w := X.w) (A := X.A.in1) (I.ok.hd hc0) it a hai its.toArray
    refine wpAny_pyNext_enum_itemD D he0 ⟨wit, p⟩ (by
      have := (List.getElem?_eq_some_iff.mp hu).1
      simpa using this) hei (by simp [hei, hae.symm]) fun x' h' tk0 hP ho0 stt hT hsz hk0 => ?_
    have ex' : x' = u := by
      have hPp : its[i]? = some x' := by simpa using hP
      rw [hu] at hPp
      exact (Option.some.inj hPp).symm
    subst ex'
    refine ⟨_, rfl, wpAny_letOwnedTupleGo_enum (s := { s with heap := h', toks := tk0 + 1 }) ho0 fun hh2 he' sb => ?_⟩
    have wT2 : hh2.get? s.heap.objs.size = some { cls := .type "tuple", data := .seq #[.int i tk0, x'] } := (sb.2 _ (Nat.ne_of_gt wel)).trans hT
    have new : ObjOk X.prog X.w (upd H s.heap.objs.size (.tup [.int (i : Nat), x])) hh2 s.heap.objs.size (.tup [.int (i : Nat), x]) :=
      ⟨by show 2 ≤ sizeLine; decide, [.int i tk0, x'], .cons ⟨_, rfl⟩ (.cons ru .nil), ⟨_, wT2, rfl, _, rfl⟩⟩
    have J1 : Inv X pinz σ (upd H s.heap.objs.size (.tup [.int (i : Nat), x])) { s with heap := hh2, toks := tk0 + 1 } :=
      I.turnedNew (ch := [e, it]) (fun b ob0 hb0 q => (sb.2 b (fun z => hb0 (by simp [z]))).trans (hk0 b ob0 (fun z => hb0 (by simp [z])) (fun z => hb0 (by simp [z])) q)) hf (Nat.le_refl _) new
    refine ⟨.ref s.heap.objs.size, _, J1, rfl, ⟨_, x, rfl, I.hok.fresh (Nat.le_refl _), rfl, fun ys hy => by rw [I.tuple_inj hy wq]; exact hx⟩, ⟨⟨x', ?_⟩, stt.1.at fun o q => (sb.2 it (Ne.symm hei)).trans q⟩, fun b hb0 => ?_⟩
    · have ee1 : ((i + 1 : Nat) : Int) = (i : Int) + 1 := by omega
      rw [ee1]; exact he'
    · have wb' : b < s.heap.objs.size := by
        have yy : b = e ∨ b = it := by simpa using hb0
        rcases yy with z | z
        · rw [z]; exact wel
        · rw [z]; exact wil
      rw [upd_ne (Nat.ne_of_lt wb')]
      exact (hf b hb0).1
  done := by
    intro X hP hw hK hc0 i pinz s σ H E I hf st0 hg
    subst hP hw hK
    obtain ⟨⟨old, he0⟩, wit⟩ := st0
    obtain ⟨ws, wq, hx⟩ := hg
    obtain ⟨its, rV, p, wz⟩ := I.tuple wq
    obtain ⟨u0, u1, u2, u3, u4, u5⟩ := hf it (by simp)
    have hl := rV.length
    have D := Draws.tuple (prog := X.prog) (w := X.w) (A := X.A.in1) (I.ok.hd hc0) it a hai its.toArray
    have hn : its.toArray.size = i := by rw [List.size_toArray]; omega
    have stt : s.heap.IsTupleIter it a its.toArray.size ∧ s.heap.IsTuple a its.toArray := ⟨by rw [hn]; exact wit, p⟩
    exact wpAny_pyNext_enum_endD D he0 stt fun h' eb => ⟨rfl, I.turned (t' := s.toks) (fun b o hb0 q => eb b o hb0 q) u0 u1 u3 u4 u5⟩
  self := fun A i s Q E st0 h => let ⟨⟨_, he0⟩, _⟩ := st0; wpAny_pyIter_enum he0 h

def iEnumT (K : PySem.W.Frag) (ta : TA) : TI := fun σ H R => ta σ H fun vs H1 => ∃ a ws, vs = [.ref a] ∧ SqT K H1 a ws ∧ R (IteT K a) H1
theorem pi_enumT {X : Cx} {e : Expr} {ta : TA} {p pos tpos : Pos} {elts : List Expr} {kk : Nat} (hg : Gl X "enumerate") (hm : X.mg "enumerate" = none) (ha : PA X [e] ta) (hs : starEach [e] X.env = [(false, eval e X.env)] := by rfl) :
    PI X (.Tuple elts kk tpos) (.Call (.Name "enumerate" p) [e] [] pos) (iEnumT X.K ta) := by
  refine ⟨fun pinz s σ H R I h => ?_⟩
  refine Call_ (ld_blt I hg hm boot_enumerate (PyProof.Rows.callWith_type1 (thn (ha.run pos pinz s σ H _ I h) fun us z1 ⟨vs, H1, J1, r1, k1⟩ => ?_) hs rfl))
  obtain ⟨a, ws, ex, wq, q⟩ := k1
  subst ex
  cases r1 with
  | cons r rr =>
    cases rr
    cases r
    obtain ⟨its, rV, p', wz⟩ := J1.tuple wq
    have wal : a < z1.heap.objs.size := by obtain ⟨o, ho0, _⟩ := p'; exact Heap.lt_size ho0
    refine enum_begins1 (begins_tuple a its.toArray) p' fun h' he0 wit hsz hk0 => wpAny_pyIter_enum he0 ?_
    have J2 : Inv X pinz σ H1 { z1 with heap := h' } := J1.kept (t' := z1.toks) hk0
    refine ⟨z1.heap.objs.size + 1, [z1.heap.objs.size + 1, z1.heap.objs.size], _, _, H1, rfl, J2, turn_enumT a (z1.heap.objs.size + 1) z1.heap.objs.size (Nat.ne_of_lt wal) (Nat.ne_of_lt (Nat.lt_succ_of_lt wal)) (Nat.succ_ne_self _), ⟨⟨.none, he0⟩, ⟨_, wit, rfl, rfl⟩⟩, fun b hb0 => ?_, q⟩
    have yy : b = z1.heap.objs.size + 1 ∨ b = z1.heap.objs.size := by simpa using hb0
    have wle : z1.heap.objs.size ≤ b := by
      rcases yy with z | z
      · rw [z]; exact Nat.le_add_right _ _
      · rw [z]; exact Nat.le_refl _
    exact J1.fpOk wle (J1.hok.fresh wle)
/-- a loop over enumerate of a tuple that stands still -/
theorem for_enumT {K : PySem.W.Frag} {a : Addr} {ws : List V} {g : TG} {tb : TS} {D : Ends} {σ : St} {H : Hp} (Pw : Nat → St → Hp → Prop) (h0 : Pw 0 σ H) (hl : ∀ i σ H, i ≤ ws.length → Pw i σ H → SqT K H a ws)
    (hs : ∀ i x T σ H, ws[i]? = some x → Pw i σ H → H T = none → g (.ref T) σ (upd H T (.tup [.int (i : Nat), x])) fun σ2 H2 => tb { D with nx := Pw (i + 1), ct := Pw (i + 1), bk := D.nx } σ2 H2) (hd : ∀ σ H, Pw ws.length σ H → D.nx σ H) :
    ∃ W : Nat → Nat → St → Hp → Prop, (∃ m, W 0 m σ H) ∧
      ∀ i m σ H, W i m σ H →
      ((IteT K a).stop i H ∧ D.nx σ H) ∨ ((IteT K a).go i H ∧ ∃ N : St → Hp → Prop, (∀ σ' H', N σ' H' → ∃ m', m' < m ∧ W (i + 1) m' σ' H') ∧ ∀ x H', (IteT K a).yld i H x H' → g x σ H' fun σ2 H2 => tb { D with nx := N, ct := N, bk := D.nx } σ2 H2) := by
  refine ⟨fun i m σ H => m = ws.length - i ∧ i ≤ ws.length ∧ Pw i σ H, ⟨ws.length, by simp, Nat.zero_le _, h0⟩, ?_⟩
  rintro i m σ H ⟨rfl, hi, p⟩
  have q := hl i σ H hi p
  by_cases hlt0 : i < ws.length
  · refine .inr ⟨⟨ws, ws[i], q, by simp [hlt0]⟩, Pw (i + 1), fun σ' H' p' => ⟨ws.length - (i + 1), by omega, rfl, hlt0, p'⟩, fun x H' y => ?_⟩
    obtain ⟨T, x', ee1, nT, e2, y⟩ := y
    subst ee1 e2
    exact hs i x' T σ H (y ws q) p nT
  · have e : i = ws.length := by omega
    subst e
    exact .inl ⟨⟨ws, q, rfl⟩, hd σ H p⟩

/-! ### a def of the text, by its name -/
structure Has (P : Program) (w : World) (K : PySem.W.Frag) (mg : Str → Option Value) (base : Heap) (x : Str) (k : Nat) (ps : List Str) (sp : Sp) : Prop where
  ex : ∃ (f : Addr) (fd : FuncData), mg x = some (.ref f) ∧ PySem.W.keepIn K (.ref f) = true ∧ Binds K fd ps [] ∧ FnOk P w K mg base CX0 k f fd ps sp
theorem Has.mk' {P : Program} {w : World} {K : PySem.W.Frag} {mg : Str → Option Value} {base : Heap} {x : Str} {k : Nat} {ps : List Str} {sp : Sp} {f : Addr} {fd : FuncData} (h1 : mg x = some (.ref f)) (h2 : PySem.W.keepIn K (.ref f) = true) (h3 : Binds K fd ps []) (h4 : FnOk P w K mg base CX0 k f fd ps sp) : Has P w K mg base x k ps sp := ⟨⟨f, fd, h1, h2, h3, h4⟩⟩
theorem pe_has {X : Cx} {x : Str} {k : Nat} {ps : List Str} {sp : Sp} {e : Expr} {es : List Expr} {t : TA} {p pos : Pos} (h : Has X.prog X.w X.K X.mg X.base x k ps sp) (hr : Room k X.A) (hg : Gl X x)
    (ha : PA X (e :: es) t)
    (hdb : (x == ("__debug__" : Str)) = false := by decide) (he : starEach (e :: es) X.env = (false, eval e X.env) :: starEach es X.env := by rfl) (hpl : (backTo pos (starEach es X.env)).any (·.1) = false := by rfl) :
    PE X (.Call (.Name x p) (e :: es) [] pos) (tCall sp [] E0 t) := by
  obtain ⟨f, fd, h1, h2, h3, h4⟩ := h.ex
  exact pe_call h4 hr hg h1 h2 h3 .nil pass0 ha hdb he hpl
theorem pe_globI {X : Cx} {x : Str} {n : Int} {pos : Pos} (hg : Gl X x) (h : ∃ t, X.mg x = some (.int n t)) (hd : (x == ("__debug__" : Str)) = false := by decide) (hcd : True := trivial) : PE X (.Name x pos) (tC (.int n)) := by
  obtain ⟨t, e⟩ := h
  exact pe_glob hg e ⟨_, rfl⟩ hd
/-! ### tuples of whole numbers, tables, machines -/
def nV (n : Nat) : V := .int (n : Int)
def rowV (r : List Nat) : List V := r.map nV
def RowAt (K : PySem.W.Frag) (H : Hp) (v : V) (r : List Nat) : Prop := ∃ a, v = .ref a ∧ SqT K H a (rowV r)
def TabAt (K : PySem.W.Frag) (H : Hp) (v : V) (t : List (List Nat)) : Prop := ∃ a vs, v = .ref a ∧ SqT K H a vs ∧ Paired (RowAt K H) vs t
def MacAt (K : PySem.W.Frag) (H : Hp) (v : V) (s t : List (List Nat)) : Prop := ∃ a x y, v = .ref a ∧ SqT K H a [x, y] ∧ TabAt K H x s ∧ TabAt K H y t
theorem TK.refl {K : PySem.W.Frag} {H : Hp} : TK K H H := fun _ _ h => h
theorem TK.trans {K : PySem.W.Frag} {H H1 H2 : Hp} (a : TK K H H1) (b : TK K H1 H2) : TK K H H2 := fun x xs h => b x xs (a x xs h)
theorem TK.ex {K : PySem.W.Frag} {H H' : Hp} (e : Evl.Ex H H') : TK K H H' := fun _ _ h => Evl.ex_t e h
theorem TK.upd {K : PySem.W.Frag} {H : Hp} {a : Addr} {o o' : HO} (h : H a = some o) (hn : ∀ xs, o ≠ .tup xs) (hf : ∀ ob xs, o ≠ .frz ob (.tup xs)) : TK K H (upd H a o') := fun b xs q => by
  rcases q with (q | ⟨ob, q⟩) | q
  · exact .inl (.inl (by rw [upd_ne (fun e => by subst e; rw [h] at q; exact hn _ (Option.some.inj q))]; exact q))
  · exact .inl (.inr ⟨ob, by rw [upd_ne (fun e => by subst e; rw [h] at q; exact hf _ _ (Option.some.inj q))]; exact q⟩)
  · exact .inr q
theorem TK.lst {K : PySem.W.Frag} {H : Hp} {a : Addr} {xs : List V} {o' : HO} (h : H a = some (.lst xs)) : TK K H (L2.upd H a o') := TK.upd h (fun _ z => by cases z) (fun _ _ z => by cases z)
theorem RowAt.keep {K : PySem.W.Frag} {H H' : Hp} (e : TK K H H') {v : V} {r : List Nat} (h : RowAt K H v r) : RowAt K H' v r := let ⟨a, h1, h2⟩ := h; ⟨a, h1, e _ _ h2⟩
theorem TabAt.keep {K : PySem.W.Frag} {H H' : Hp} (e : TK K H H') {v : V} {t : List (List Nat)} (h : TabAt K H v t) : TabAt K H' v t := let ⟨a, vs, h1, h2, h3⟩ := h; ⟨a, vs, h1, e _ _ h2, Paired.mapP h3 fun _ _ q => q.keep e⟩
theorem MacAt.keep {K : PySem.W.Frag} {H H' : Hp} (e : TK K H H') {v : V} {s t : List (List Nat)} (h : MacAt K H v s t) : MacAt K H' v s t := let ⟨a, x, y, h1, h2, h3, h4⟩ := h; ⟨a, x, y, h1, e _ _ h2, h3.keep e, h4.keep e⟩
theorem Paired.get {α β : Type} {F : α → β → Prop} : ∀ {l : List α} {m : List β} {i : Nat} {y : β}, Paired F l m → m[i]? = some y → ∃ x, l[i]? = some x ∧ F x y
  | _, _, _, _, .nil, e => by simp at e
  | _, _, 0, _, .cons r _, e => by simp at e; subst e; exact ⟨_, rfl, r⟩
  | _, _, i + 1, y, .cons _ t, e => by
    obtain ⟨u, h1, h2⟩ := Paired.get (i := i) (y := y) t (by simpa using e)
    exact ⟨u, by simpa using h1, h2⟩
theorem Paired.get' {α β : Type} {F : α → β → Prop} : ∀ {l : List α} {m : List β} {i : Nat} {x : α}, Paired F l m → l[i]? = some x → ∃ y, m[i]? = some y ∧ F x y
  | _, _, _, _, .nil, e => by simp at e
  | _, _, 0, _, .cons r _, e => by simp at e; subst e; exact ⟨_, rfl, r⟩
  | _, _, i + 1, y, .cons _ t, e => by
    obtain ⟨u, h1, h2⟩ := Paired.get' (i := i) (x := y) t (by simpa using e)
    exact ⟨u, by simpa using h1, h2⟩
theorem rowV_at {r : List Nat} {i n : Nat} (h : r[i]? = some n) : (rowV r)[i]? = some (nV n) := by unfold rowV; rw [List.getElem?_map, h]; rfl
theorem rowV_len (r : List Nat) : (rowV r).length = r.length := by unfold rowV; rw [List.length_map]
/-- an all of a comprehension's answers: each item true -/
theorem small {n : Nat} (h : n ≤ 100000) : n < sizeLine := Nat.lt_of_le_of_lt h (by decide)
theorem sqT_ty {K : PySem.W.Frag} {H : Hp} {a : Addr} {xs : List V} (h : SqT K H a xs) : TyX K H (.ref a) (.type "tuple") := by
  rcases h with (h | ⟨o, h⟩) | ⟨o, its, n, e, c, _⟩
  · exact .base (.tup h)
  · exact .fTuple h
  · exact .kTuple e c
theorem sqL_ty {K : PySem.W.Frag} {H : Hp} {a : Addr} {xs : List V} (h : SqL K H a xs) : TyX K H (.ref a) (.type "list") := by
  rcases h with (h | ⟨o, h⟩) | ⟨o, its, n, e, c, _⟩
  · exact .base (.lst h)
  · exact .base (.frz h)
  · exact .kList e c
/-! ### what evaluates to what: tuples -/
open Evl
section
variable {K : PySem.W.Frag} {σ : L2.St} {H H' : Hp} {ta tb te tx : TE} {t u : TT} {x y z v : V} {D : Ends} {tu tw tz : TS} {g : TG}
theorem ev_isi {T U : String} {b : Bool} (ha : Ev ta σ H x) (hy : ∀ H1, Ex H H1 → TyX K H1 x (.type T)) (hk : kitB T U = some b) : Ev (tCB (rIsi K) (tCons ta (tCons (tC (.ty U)) tNil))) σ H (.bl b) := fun H1 e Q q =>
  ha H1 e _ fun H2 e2 => ⟨x, .ty U, _, _, b, rfl, .ty _, hy H2 (e.trans e2), kit_ty hk, q H2 e2⟩
theorem ev_lenT {p : Addr} {xs : List V} (ha : Ev ta σ H (.ref p)) (h : SqT K H p xs) : Ev (tCB (rLenS K) (tCons ta tNil)) σ H (.int (xs.length : Int)) := fun H1 e Q q =>
  ha H1 e _ fun H2 e2 => ⟨p, xs, rfl, Or.inr (ex_t (e.trans e2) h), q H2 e2⟩
theorem ev_allN {n : Nat} (ha : EvL ta σ H ((List.range n).map fun _ => V.bl true)) : Ev (tCB (rAll K) (tCons ta tNil)) σ H (.bl true) := fun H1 e Q q =>
  ha H1 e _ fun p H2 _ e2 h2 => ⟨p, (List.range n).map fun _ => true, rfl, sq_of (by rw [h2, List.map_map]; rfl), by
    have : ((List.range n).map fun _ => true).all id = true := by rw [List.all_eq_true]; intro b hb; obtain ⟨_, _, e⟩ := List.mem_map.mp hb; rw [← e]; rfl
    rw [this]
    exact q H2 e2⟩
theorem ev_chainLe {a b c : Int} (ha : Ev ta σ H (.int a)) (hb : Ev tb σ H (.int b)) (hc : Ev te σ H (.int c)) : Ev (tChain (rI0 fun i j => .bl (decide (i ≤ j))) (rI0 fun i j => .bl (decide (i ≤ j))) ta tb te) σ H (.bl (decide (a ≤ b) && decide (b ≤ c))) := fun H1 e Q q =>
  ha H1 e _ fun H2 e2 => hb H2 (e.trans e2) _ fun H3 e3 => ⟨a, b, rfl, rfl, decide (a ≤ b), rfl, by
    by_cases h : a ≤ b
    · rw [decide_eq_true h]
      refine iteT (hc H3 ((e.trans e2).trans e3) _ fun H4 e4 => ⟨b, c, rfl, rfl, ?_⟩)
      have := q H4 ((e2.trans e3).trans e4)
      rw [decide_eq_true h, Bool.true_and] at this
      exact this
    · rw [decide_eq_false h]
      refine iteF ?_
      have := q H3 (e2.trans e3)
      rw [decide_eq_false h, Bool.false_and] at this
      exact this⟩
def gvn (n : Nat) (v : Nat → V) : List V := (List.range n).map v
theorem gvn_succ (n : Nat) (v : Nat → V) : gvn (n + 1) v = gvn n v ++ [v n] := by unfold gvn; rw [List.range_succ, List.map_append]; rfl
theorem gvn_len (n : Nat) (v : Nat → V) : (gvn n v).length = n := by unfold gvn; rw [List.length_map, List.length_range]
def Cv (H : Hp) (v : Nat → V) (Dl : Addr) (i : Nat) (H' : Hp) : Prop := H Dl = none ∧ Ex H H' ∧ H' Dl = some (.lst (gvn i v))
theorem cv_turn {H H' : Hp} {v : Nat → V} {Dl : Addr} {i : Nat} {σ2 : L2.St} (p : Cv H v Dl i H') (hi : i < 50000) (he : Ev te σ2 H (v i)) :
    tYes σ2 H' fun b H3 => if b = true then te σ2 H3 fun y H4 => ∃ acc, H4 Dl = some (.lst acc) ∧ acc.length < sizeLine ∧ Cv H v Dl (i + 1) (upd H4 Dl (.lst (acc ++ [y]))) else Cv H v Dl (i + 1) H3 := by
  obtain ⟨p1, p2, p3⟩ := p
  show te σ2 H' fun y H4 => ∃ acc, H4 Dl = some (.lst acc) ∧ acc.length < sizeLine ∧ Cv H v Dl (i + 1) (upd H4 Dl (.lst (acc ++ [y])))
  refine he H' p2 _ fun H4 e4 => ⟨gvn i v, e4 Dl _ p3, sz_lt (by rw [gvn_len]; omega), p1, Ex.mut (p2.trans e4) p1, ?_⟩
  rw [gvn_succ]
  exact upd_same
/-- [e for x in t], t a tuple -/
theorem el_lcT {a : Addr} {xs : List V} {tl : TE} {j : Nat} {vs : List Nat} (v : Nat → V) (h : Ev tl σ H (.ref a)) (hx : SqT K H a xs) (wz : xs.length ≤ 40000) (hw : ∀ x, wipe ((wipe σ vs).set j (some x)) vs = wipe σ vs)
    (he : ∀ (i : Nat) (x : V) H1, Ex H H1 → xs[i]? = some x → Ev te ((wipe σ vs).set j (some x)) H1 (v i)) :
    EvL (tLc (iTup K tl) (gName j) tYes te vs) σ H (gvn xs.length v) := fun H0 e Q q => h H0 e _ fun H1 e1 => ⟨a, rfl, ⟨xs, ex_t (e.trans e1) hx⟩, fun Dl hD =>
  lc_tup (xs := xs) (Cv H1 v Dl) ⟨hD, Ex.new hD, upd_same⟩ (fun i H' _ p => ex_t ((e.trans e1).trans p.2.1) hx) (fun i x H' hi p => ⟨hw x, cv_turn p (by have := (List.getElem?_eq_some_iff.mp hi).1; omega) (he i x H1 (e.trans e1) hi)⟩)
    (fun H' p => q Dl H' (fresh_back e1 p.1) (e1.trans p.2.1) p.2.2)⟩
theorem el_lcLv {a : Addr} {xs : List V} {tl : TE} {j : Nat} {vs : List Nat} (v : Nat → V) (h : Ev tl σ H (.ref a)) (hx : SqL K H a xs) (wz : xs.length ≤ 40000) (hw : ∀ x, wipe ((wipe σ vs).set j (some x)) vs = wipe σ vs)
    (he : ∀ (i : Nat) (x : V) H1, Ex H H1 → xs[i]? = some x → Ev te ((wipe σ vs).set j (some x)) H1 (v i)) :
    EvL (tLc (iList K tl) (gName j) tYes te vs) σ H (gvn xs.length v) := fun H0 e Q q => h H0 e _ fun H1 e1 => ⟨a, rfl, ⟨xs, ex_l (e.trans e1) hx⟩, fun Dl hD =>
  lc_list (xs := xs) (Cv H1 v Dl) ⟨hD, Ex.new hD, upd_same⟩ (fun i H' _ p => ex_l ((e.trans e1).trans p.2.1) hx) (fun i x H' hi p => ⟨hw x, cv_turn p (by have := (List.getElem?_eq_some_iff.mp hi).1; omega) (he i x H1 (e.trans e1) hi)⟩)
    (fun H' p => q Dl H' (fresh_back e1 p.1) (e1.trans p.2.1) p.2.2)⟩
theorem el_lcRv {ta : TA} {j : Nat} {vs : List Nat} {n : Int} (v : Nat → V) (h : EvA ta σ H [.int n]) (hn : 0 ≤ n ∧ n ≤ 40000) (hw : ∀ x, wipe ((wipe σ vs).set j (some x)) vs = wipe σ vs)
    (he : ∀ (i : Nat) H1, Ex H H1 → (i : Int) < n → Ev te ((wipe σ vs).set j (some (.int (i : Int)))) H1 (v i)) :
    EvL (tLc (iRng1 ta) (gName j) tYes te vs) σ H (gvn n.toNat v) := fun H0 e Q q => h H0 e _ fun H1 e1 => ⟨n, rfl, by omega, by omega, fun Dl hD =>
  lc_range (lo := 0) (n := n.toNat) (Cv H1 v Dl) ⟨hD, Ex.new hD, upd_same⟩ (fun i H' hi p => by
    have z0 : (0 : Int) + (i : Int) = (i : Int) := Int.zero_add _
    show wipe ((wipe σ vs).set j (some (.int ((0 : Int) + (i : Int))))) vs = wipe σ vs ∧ tYes ((wipe σ vs).set j (some (.int ((0 : Int) + (i : Int))))) H' fun b H3 => if b = true then te ((wipe σ vs).set j (some (.int ((0 : Int) + (i : Int))))) H3 fun y H4 => ∃ acc, H4 Dl = some (.lst acc) ∧ acc.length < sizeLine ∧ Cv H1 v Dl (i + 1) (upd H4 Dl (.lst (acc ++ [y]))) else Cv H1 v Dl (i + 1) H3
    rw [z0]
    exact ⟨hw _, cv_turn p (by omega) (he i H1 (e.trans e1) (by omega))⟩) (fun H' p => q Dl H' (fresh_back e1 p.1) (e1.trans p.2.1) p.2.2)⟩
/-- tuple([..]) -/
def rTupOf (K : PySem.W.Frag) : List V → Hp → VK → Prop := fun xs H Q => ∃ p ys, xs = [.ref p] ∧ ((SqL K H p ys ∧ ∀ l, H l = none → Q (.ref l) (upd H l (.tup ys))) ∨ (SqT K H p ys ∧ Q (.ref p) H))
theorem eu_tupN {xs : List V} (h : EvL ta σ H xs) : EvU (tCB (rTupOf K) (tCons ta tNil)) σ H xs := fun H1 e Q q =>
  h H1 e _ fun p H2 hp e2 h2 => ⟨p, xs, rfl, Or.inl ⟨sq_of h2, fun l hl => q l _ (fresh_back e2 hl) (e2.trans (Ex.new hl)) upd_same⟩⟩
theorem eu_tupL {p : Addr} {xs : List V} (h : Ev ta σ H (.ref p)) (hs : SqL K H p xs) : EvU (tCB (rTupOf K) (tCons ta tNil)) σ H xs := fun H1 e Q q =>
  h H1 e _ fun H2 e2 => ⟨p, xs, rfl, Or.inl ⟨ex_l (e.trans e2) hs, fun l hl => q l _ (fresh_back e2 hl) (e2.trans (Ex.new hl)) upd_same⟩⟩
theorem ev_callV {sp : Sp} {vs : List V} {E : XK} {ta : TA} (h : EvA ta σ H vs) (hs : ∀ H1, Ex H H1 → ∀ Q : VK, (∀ H2, Ex H1 H2 → Q z H2) → sp vs H1 Q E) : Ev (tCall sp [] E ta) σ H z := fun H1 e Q q =>
  h H1 e _ fun H2 e2 => by
    rw [List.append_nil]
    exact hs H2 (e.trans e2) Q fun H3 e3 => q H3 (e2.trans e3)
end
section
variable {X : Cx} {K : PySem.W.Frag}
theorem ix_tupK (h : X.K = K) : IxR X (rIxT K) := by subst h; exact ix_tup
theorem ix_listK (h : X.K = K) : IxR X (rIxL K) := by subst h; exact ix_list
theorem call_lenK (h : X.K = K) : CallR X (.builtin "len") (Evl.rLenS K) := by subst h; exact call_len_seq
theorem call_isi1 (h : X.K = K) : CallR X (.builtin "isinstance") (rIsi K) := by subst h; exact call_isi
theorem call_isiTu (h : X.K = K) : CallR X (.builtin "isinstance") (rIsiT K) := by subst h; exact call_isiT
theorem call_tupleK (h : X.K = K) : CallR X (.type "tuple") (rTupOf K) := by subst h; exact call_tuple_of
theorem call_listK (h : X.K = K) : CallR X (.type "list") (Evl.rListS K) := by subst h; exact call_list_of
theorem sl_tupK (h : X.K = K) : SlR X (rSlT K) := by subst h; exact sl_tup
theorem op_eqDK (h : X.K = K) (hu : X.A.units + 64 < cLine) : OpR X (compareOp .Eq) (rEqD K) := by subst h; exact op_eqD hu
theorem op_neDK (h : X.K = K) (hu : X.A.units + 64 < cLine) : OpR X (compareOp .NotEq) (rNeD K) := by subst h; exact op_neD hu
end
theorem hu9_of {A : Around} {k : Nat} (hr : Room k A) : A.units + 9 < cLine := by have := hr.units; omega
/-- len of a dict with nested keys -/
def rLenN (K : PySem.W.Frag) (P : Program) (w : World) : List V → Hp → VK → Prop := fun xs H Q => ∃ (p : Addr) (kvs : List (NestedKey × Addr × V)), xs = [.ref p] ∧ H p = some (DictN P w p kvs) ∧ (∀ q ∈ kvs, NKey K H (.ref q.2.1) q.1 ∧ q.1.depth ≤ 8) ∧ Q (.int ((kvs.length : Nat) : Int)) H
theorem call_len_DN {X : Cx} : CallR X (.builtin "len") (rLenN X.K X.prog X.w) := by
  intro pinz s σ H xs us Q I r h
  obtain ⟨p, kvs, rfl, hp, hk, q⟩ := h
  obtain ⟨u, rfl, rx⟩ := vals1 r
  obtain rfl : u = .ref p := rx
  obtain ⟨hd, z, ys, rel, dd⟩ := dictN_get I hp hk
  have hl : kvs.length = ys.length := Paired.length rel
  refine call_len_dictH hd dd
    (by rw [← hl]; rw [sizeLine_eq] at z; omega) ?_
  rw [← hl]
  exact ⟨.int ((kvs.length : Nat) : Int), H, I.tok _, ⟨_, rfl⟩, q⟩
/-! ### lists of whole numbers compared -/
def rowD (r : List Nat) : List PyData := r.map fun (n : Nat) => .int (n : Int)
theorem eqv_rows : ∀ r q : List Nat, PyData.eqvAll (rowD r) (rowD q) = decide (r = q)
  | [], [] => by simp [rowD, PyData.eqvAll]
  | [], _ :: _ => by simp [rowD, PyData.eqvAll]
  | _ :: _, [] => by simp [rowD, PyData.eqvAll]
  | x :: r, y :: q => by
    have ih := eqv_rows r q
    show (PyData.eqv (.int (x : Int)) (.int (y : Int)) && PyData.eqvAll (rowD r) (rowD q)) = decide (x :: r = y :: q)
    rw [ih]
    simp only [PyData.eqv, List.cons.injEq, Bool.decide_and]
    congr 1
    rw [Bool.beq_eq_decide_eq]
    exact decide_eq_decide.mpr Int.ofNat_inj
theorem canLay_row : ∀ r : List Nat, PyData.canLayAll0 (rowD r) = true
  | [] => by simp [rowD, PyData.canLayAll0]
  | x :: r => by
    show (PyData.canLay0 (.int (x : Int)) && PyData.canLayAll0 (rowD r)) = true
    rw [canLay_row r]
    simp [PyData.canLay0]
theorem depth_row : ∀ r : List Nat, PyData.depthAll (rowD r) = 0
  | [] => by simp [rowD, PyData.depthAll]
  | x :: r => by
    show max (PyData.depth (.int (x : Int))) (PyData.depthAll (rowD r)) = 0
    rw [depth_row r]
    simp [PyData.depth]
theorem shaped_rowL (r : List Nat) : SeqAt.shaped (.list (rowD r)) = true := by
  unfold SeqAt.shaped
  simp only [PyData.canLay0, PyData.depth, canLay_row, depth_row]
  decide
theorem dp_row {K : PySem.W.Frag} {H : Hp} : ∀ r : List Nat, DpAll K H (rowV r) (rowD r)
  | [] => .nil
  | x :: r => .cons (.int _) (dp_row r)
theorem rv_eqRows {K : PySem.W.Frag} {H : Hp} {p q : Addr} {r s : List Nat} (hp : SqL K H p (rowV r)) (wq : SqL K H q (rowV s)) : Evl.RV (rEqD K) (.ref p) (.ref q) H (.bl (decide (r = s))) := fun H1 e Q k =>
  ⟨_, _, .lst (Evl.ex_l e hp) (dp_row r), .lst (Evl.ex_l e wq) (dp_row s), shaped_rowL r, shaped_rowL s, by
    rw [show PyData.eqv (.list (rowD r)) (.list (rowD s)) = decide (r = s) by rw [PyData.eqv]; exact eqv_rows r s]
    exact k H1 (Evl.Ex.refl H1)⟩
open Evl in
theorem eu_callU {sp : Sp} {vs xs : List V} {E : XK} {ta : TA} {σ : L2.St} {H : Hp} (h : EvA ta σ H vs) (hs : ∀ H1, Ex H H1 → ∀ Q : VK, (∀ p H2, H1 p = none → Ex H1 H2 → H2 p = some (.tup xs) → Q (.ref p) H2) → sp vs H1 Q E) : EvU (tCall sp [] E ta) σ H xs := fun H1 e Q q =>
  h H1 e _ fun H2 e2 => by
    rw [List.append_nil]
    exact hs H2 (e.trans e2) Q fun p H3 hp e3 h3 => q p H3 (fresh_back e2 hp) (e2.trans e3) h3
open Evl in
theorem el_callL {sp : Sp} {vs xs : List V} {E : XK} {ta : TA} {σ : L2.St} {H : Hp} (h : EvA ta σ H vs) (hs : ∀ H1, Ex H H1 → ∀ Q : VK, (∀ p H2, H1 p = none → Ex H1 H2 → H2 p = some (.lst xs) → Q (.ref p) H2) → sp vs H1 Q E) : EvL (tCall sp [] E ta) σ H xs := fun H1 e Q q =>
  h H1 e _ fun H2 e2 => by
    rw [List.append_nil]
    exact hs H2 (e.trans e2) Q fun p H3 hp e3 h3 => q p H3 (fresh_back e2 hp) (e2.trans e3) h3
theorem rowV_snoc (r : List Nat) (n : Nat) : rowV (r ++ [n]) = rowV r ++ [nV n] := by unfold rowV; rw [List.map_append]; rfl
theorem map_of {α β : Type} {f : α → β} {l : List α} {i : Nat} {y : β} (h : (l.map f)[i]? = some y) : ∃ x, l[i]? = some x ∧ y = f x := by
  rw [List.getElem?_map] at h
  cases e : l[i]? with
  | none => rw [e] at h; cases h
  | some x => rw [e] at h; exact ⟨x, rfl, (Option.some.inj h).symm⟩
theorem ix_seqK {X : Cx} {K : PySem.W.Frag} (h : X.K = K) : IxR X (rIx K) := by subst h; exact ix_seq
/-! ### a row of draws, written at each draw: what stands but it -/
def ExB (a : Addr) (H H' : Hp) : Prop := ∀ b o, b ≠ a → H b = some o → H' b = some o
theorem ExB.refl (a : Addr) (H : Hp) : ExB a H H := fun _ _ _ h => h
theorem ExB.trans {a : Addr} {H H1 H2 : Hp} (x : ExB a H H1) (y : ExB a H1 H2) : ExB a H H2 := fun b o n h => y b o n (x b o n h)
theorem ExB.of {a : Addr} {H H' : Hp} (e : Evl.Ex H H') : ExB a H H' := fun b o _ h => e b o h
theorem ExB.upd {a : Addr} {H : Hp} {o : HO} : ExB a H (L2.upd H a o) := fun b u n h => by rw [upd_ne n]; exact h
theorem ExB.mut {a p : Addr} {H H' : Hp} {o : HO} (e : ExB a H H') (h : H p = none) : ExB a H (L2.upd H' p o) := fun b u n hb => by
  rw [upd_ne (ne_of_none hb h)]
  exact e b u n hb
theorem ExB.fresh {a p : Addr} {H H' : Hp} (e : ExB a H H') (n : p ≠ a) (h : H' p = none) : H p = none := by
  cases q : H p with
  | none => rfl
  | some o => rw [e p o n q] at h; cases h
theorem ExB.tk {K : PySem.W.Frag} {a : Addr} {H H' : Hp} {xs : List V} (e : ExB a H H') (h : H a = some (.lst xs)) : TK K H H' := fun b ys q => by
  rcases q with (q | ⟨ob, q⟩) | q
  · exact .inl (.inl (e b _ (fun z => by subst z; rw [h] at q; cases q) q))
  · exact .inl (.inr ⟨ob, e b _ (fun z => by subst z; rw [h] at q; cases q) q⟩)
  · exact .inr q
theorem ExB.seq {K : PySem.W.Frag} {a b : Addr} {H H' : Hp} {xs : List V} (e : ExB a H H') (n : b ≠ a) (h : SqL K H b xs) : SqL K H' b xs := by
  rcases h with (h | ⟨o, h⟩) | h
  · exact .inl (.inl (e _ _ n h))
  · exact .inl (.inr ⟨o, e _ _ n h⟩)
  · exact .inr h
/-- the row that the draws are taken from: the script, a place, a number, a rest -/
def RowOk (K : PySem.W.Frag) (H : Hp) (a scr : Addr) (ns : List Int) : Prop := (∃ i z q : Int, H a = some (.lst [.ref scr, .int i, .int z, .int q]) ∧ 0 ≤ i ∧ 0 ≤ z ∧ z < 2147483647) ∧ (∀ H', ExB a H H' → SqL K H' scr (ns.map V.int)) ∧ ns.length ≤ 63
theorem RowOk.lst {K : PySem.W.Frag} {H : Hp} {a scr : Addr} {ns : List Int} (h : RowOk K H a scr ns) : ∃ xs, H a = some (.lst xs) := let ⟨⟨_, _, _, h, _⟩, _⟩ := h; ⟨_, h⟩
theorem RowOk.ex {K : PySem.W.Frag} {H H' : Hp} {a scr : Addr} {ns : List Int} (h : RowOk K H a scr ns) (e : Evl.Ex H H') : RowOk K H' a scr ns := by
  obtain ⟨⟨i, z, q, h1, h2⟩, h3, h4⟩ := h
  exact ⟨⟨i, z, q, e _ _ h1, h2⟩, fun H'' x => h3 H'' ((ExB.of e).trans x), h4⟩
/-- the row as it stands at H', the script as it stood at H -/
theorem RowOk.join {K : PySem.W.Frag} {H H' : Hp} {a scr : Addr} {ns : List Int} {H'' : Hp} (h : RowOk K H a scr ns) (h' : RowOk K H' a scr ns) (e : ExB a H H'') (ea : H'' a = H' a) : RowOk K H'' a scr ns := by
  obtain ⟨_, h3, h4⟩ := h
  obtain ⟨⟨i, z, q, h1, h2⟩, _⟩ := h'
  exact ⟨⟨i, z, q, by rw [ea]; exact h1, h2⟩, fun H3 x => h3 H3 (e.trans x), h4⟩
/-- an expression that takes a draw below m -/
def EvR (K : PySem.W.Frag) (te : TE) (σ : L2.St) (H : Hp) (a scr : Addr) (ns : List Int) (m : Nat) : Prop := ∀ H1, ExB a H H1 → RowOk K H1 a scr ns → ∀ Q : VK, (∀ (r : Nat) H2, r < m → ExB a H1 H2 → RowOk K H2 a scr ns → Q (nV r) H2) → te σ H1 Q
theorem EvR.mono {K : PySem.W.Frag} {te : TE} {σ : L2.St} {H H' : Hp} {a scr : Addr} {ns : List Int} {m : Nat} (e : ExB a H H') (h : EvR K te σ H a scr ns m) : EvR K te σ H' a scr ns m := fun H1 e1 R Q q => h H1 (e.trans e1) R Q q
open Evl in
/-- [draw for x in range(..)], the number of turns itself may be drawn -/
theorem er_lcX {K : PySem.W.Frag} {ta : TA} {te : TE} {σ : L2.St} {H : Hp} {a scr : Addr} {ns : List Int} {j m : Nat} {vs : List Nat} (Pn : Nat → Prop) (h : ∀ R : List V → Hp → Prop, (∀ n H1, n ≤ 1000 → Pn n → ExB a H H1 → RowOk K H1 a scr ns → R [.int (n : Int)] H1) → ta σ H R) (hw : ∀ x, wipe ((wipe σ vs).set j (some x)) vs = wipe σ vs)
    (he : ∀ i : Nat, i < 1000 → EvR K te ((wipe σ vs).set j (some (.int (i : Int)))) H a scr ns m) (Q : VK)
    (q : ∀ p l H2, H p = none → p ≠ a → ExB a H H2 → RowOk K H2 a scr ns → H2 p = some (.lst (rowV l)) → l.length ≤ 1000 → Pn l.length → (∀ x ∈ l, x < m) → Q (.ref p) H2) : tLc (iRng1 ta) (gName j) tYes te vs σ H Q := by
  refine h _ fun n H1 hn pn e1 R => ⟨_, rfl, by omega, by omega, fun D hD => ?_⟩
  have hna : D ≠ a := fun z => by
    subst z
    obtain ⟨xs, hx⟩ := R.lst
    rw [hx] at hD
    cases hD
  have nD : H D = none := e1.fresh hna hD
  have e2 : ExB a H1 (L2.upd H1 D (.lst [])) := ExB.of (Ex.new (o := .lst []) hD)
  have R2 := R.ex (Ex.new (o := .lst []) hD)
  refine lc_range (lo := 0) (n := ((n : Int)).toNat) (fun i H' => ∃ l, ExB a H1 H' ∧ RowOk K H' a scr ns ∧ H' D = some (.lst (rowV l)) ∧ l.length = i ∧ ∀ x ∈ l, x < m) ⟨[], e2, R2, upd_same, rfl, fun _ h => by simp at h⟩ (fun i H' hi p => ?_) fun H' p => ?_
  · obtain ⟨l, p1, p2, p3, p4, p5⟩ := p
    have z0 : (0 : Int) + (i : Int) = (i : Int) := Int.zero_add _
    rw [z0]
    refine ⟨hw _, ?_⟩
    show te _ H' fun y H4 => ∃ acc, H4 D = some (.lst acc) ∧ acc.length < sizeLine ∧ ∃ l, ExB a H1 (L2.upd H4 D (.lst (acc ++ [y]))) ∧ RowOk K (L2.upd H4 D (.lst (acc ++ [y]))) a scr ns ∧ (L2.upd H4 D (.lst (acc ++ [y]))) D = some (.lst (rowV l)) ∧ l.length = i + 1 ∧ ∀ x ∈ l, x < m
    refine he i (by omega) H' (e1.trans p1) p2 _ fun r H4 hr e4 R4 => ?_
    refine ⟨rowV l, e4 _ _ hna p3, by rw [rowV_len]; exact small1000 (by omega), l ++ [r], (p1.trans e4).mut hD, ?_, by rw [rowV_snoc]; exact upd_same, by rw [List.length_append, List.length_singleton, p4], fun x hx => ?_⟩
    · exact R.join R4 ((p1.trans e4).mut hD) (upd_ne hna.symm)
    · rcases List.mem_append.mp hx with hx | hx
      · exact p5 x hx
      · rw [List.mem_singleton] at hx; subst hx; exact hr
  · obtain ⟨l, p1, p2, p3, p4, p5⟩ := p
    have p4' : l.length = n := by rw [p4]; exact Int.toNat_natCast n
    exact q D l H' nD hna (e1.trans p1) p2 p3 (by omega) (by rw [p4']; exact pn) p5
open Evl in
/-- [draw for x in range(n)] -/
theorem er_lcR {K : PySem.W.Frag} {ta : TA} {te : TE} {σ : L2.St} {H : Hp} {a scr : Addr} {ns : List Int} {j n m : Nat} {vs : List Nat} (h : EvA ta σ H [.int (n : Int)]) (hn : n ≤ 1000) (R : RowOk K H a scr ns) (hw : ∀ x, wipe ((wipe σ vs).set j (some x)) vs = wipe σ vs)
    (he : ∀ i : Nat, i < 1000 → EvR K te ((wipe σ vs).set j (some (.int (i : Int)))) H a scr ns m) (Q : VK)
    (q : ∀ p l H2, H p = none → p ≠ a → ExB a H H2 → RowOk K H2 a scr ns → H2 p = some (.lst (rowV l)) → l.length = n → (∀ x ∈ l, x < m) → Q (.ref p) H2) : tLc (iRng1 ta) (gName j) tYes te vs σ H Q :=
  er_lcX (fun k => k = n) (fun R' r => h H (Ex.refl H) _ fun H1 e1 => r n H1 hn rfl (ExB.of e1) (R.ex e1)) hw he Q fun p l H2 h1 h2 h3 h4 h5 _ h6 h7 => q p l H2 h1 h2 h3 h4 h5 h6 h7
end L2
namespace L2
open PySem PySem.Spec PyProof.Rows
/-! ### setdefault of a dict with tuple keys -/
section
variable {X : Cx} {pins : List (Addr × Obj)} {σ : St} {H : Hp} {s : Shared} {a b : Addr} {A : Around} {E : Value → Shared → Prop}
theorem dt_setd {kvs : List (List Key × V)} {k : List Key} {d : V} {r : Value} {Q : Value → Shared → Prop} (hu : A.units + 1 < cLine) (I : Inv X pins σ H s) (e : H a = some (.dT kvs)) (ky : H b = some (.tup (k.map kV))) (rd : RelV d r) (hl : kvs.length < sizeLine)
    (h1 : ∀ v, valV kvs k = some v → ∀ (w' : Value) (s' : Shared), Inv X pins σ H s' → RelV v w' → Q w' s') (h2 : valV kvs k = none → ∀ (w' : Value) (s' : Shared), Inv X pins σ (upd H a (.dT (putK kvs k d))) s' → RelV d w' → Q w' s') :
    wpAny (model X.prog X.w) A (call (.builtin "dict.setdefault") [.ref a, .ref b, r]) Q E s := by
  obtain ⟨z, hd, xs, rel, dd⟩ := dt_of I.hok e
  have hz : xs.length ≤ sizeLine := by
    have hlen := Paired.length rel
    omega
  have rl := rel.val k
  refine call_setdefault_heap (hsz := hz) (knd := tupleKind (mixKind X.prog X.w)) (tupleKind_room_in1 hu) (key_of I.hok ky) hd dd (fun p hp => ?_) fun hn h' dd' hs => ?_
  · rw [hp] at rl
    cases q0 : valV kvs k with
    | none => rw [q0] at rl; exact (show False from rl).elim
    | some v0 => rw [q0] at rl; exact h1 v0 q0 _ _ (I.tok _) rl
  · rw [hn] at rl
    cases q0 : valV kvs k with
    | some v0 => rw [q0] at rl; exact (show False from rl).elim
    | none =>
      have hl2 : (putK kvs k d).length ≤ sizeLine := by
        have hp := length_putK kvs k d
        omega
      obtain ⟨o, es, ep, ho, c2, c3, c4, _, c5⟩ := dd'
      refine h2 q0 _ _ (d_write (t' := s.toks + (tupleKind (mixKind X.prog X.w)).draws k) I (by rw [e]; exact True.intro) hs ⟨o, ho⟩ ⟨hl2, hd, _, (rel.put k ky rd).keeps fun c ys ec => ?_, o, es, ep, ho, c2, c3, c4, c5⟩) rd
      rw [upd_ne (ne_of ec e (fun z => nomatch z))]
      exact ec
end
def tDSetdT (td ty tx : TE) : TE := fun σ H Q => td σ H fun x H1 => ∃ a, x = .ref a ∧ IsD H1 a ∧ ty σ H1 fun y H2 => tx σ H2 fun z H3 => ∃ (kvs : List (List Key × V)) (k : List Key) (b : Addr),
  H3 a = some (.dT kvs) ∧ y = .ref b ∧ H3 b = some (.tup (k.map kV)) ∧ kvs.length < sizeLine ∧ (∀ v, valV kvs k = some v → Q v H3) ∧ (valV kvs k = none → Q z (upd H3 a (.dT (putK kvs k z))))
section
variable {X : Cx} {o e f : Expr} {td ty tx : TE} {apos cpos : Pos}
theorem pe_dsetdT (hu : X.A.units + 1 < cLine) (ho : PE X o td) (he : PE X e ty) (hf : PE X f tx) (m : M2 X o "setdefault" apos e f cpos) : PE X (.Call (.Attribute o "setdefault" apos) [e, f] [] cpos) (tDSetdT td ty tx) := by
  refine ⟨fun pz s0 σ H Q I h => ?_⟩
  refine wpAny_Call_method m.base m.few m.line PySem.F.plainAttrs_dict PySem.F.slot_dict_setdefault PySem.F.type_dict_setdefault
    (thn (ho.run pz s0 σ H _ I h) fun u s1 ⟨x, H1, I1, rx, a, ex, d, q1⟩ => ?_)
  subst ex
  cases (show u = Value.ref a from rx)
  obtain ⟨t1, t2, _⟩ := isD_at I1 d
  refine ⟨t1, t2, ?_⟩
  rw [m.trees]
  refine Calls.callWith_builtin rfl (Calls.evalArgs_plain (Calls.spliced_cons
    (thn (he.run pz s1 σ H1 _ I1 q1) fun iv s2 ⟨y, H2, I2, ry, q2⟩ =>
      Calls.spliced_cons (thn (hf.run pz s2 σ H2 _ I2 q2) fun fv s3 ⟨z, H3, I3, rz, kvs, k, b, ea, ey, eb, hl, q3, q4⟩ => Calls.spliced_nil ?_))))
  subst ey
  cases (show iv = Value.ref b from ry)
  exact dt_setd hu I3 ea eb rz hl (fun v hv w' s4 I4 rw' => ⟨v, _, I4, rw', q3 v hv⟩) fun hn w' s4 I4 rw' => ⟨z, _, I4, rw', q4 hn⟩
end
/-! ### an object that is known from now on, and not written any more -/
def tFrz (t : TE) : TE := fun σ H Q => t σ H fun v H1 => ∃ d u, v = .ref d ∧ H1 d = some u ∧ Mut (some u) ∧ ∀ od, Q v (upd H1 d (.frz od u))
theorem pe_frz {X : Cx} {e : Expr} {t : TE} (h : PE X e t) : PE X e (tFrz t) := by
  refine ⟨fun pz s0 σ H Q I hw => ?_⟩
  refine thn (h.run pz s0 σ H _ I hw) fun v s1 ⟨x, H1, I1, r, d, u, ex, hd, mu, q⟩ => ?_
  obtain ⟨od, I2⟩ := I1.lock hd mu
  exact ⟨x, _, I2, r, q od⟩
/-! ### truth of a dict with tuple keys -/
theorem truthy_dictH {prog : Program} {w : World} {κ : Type} [DecidableEq κ] {knd : HeapKind prog w κ} {A : Around} {E : Value → Shared → Prop} {s : Shared} {d : Addr} {xs : List (κ × Addr × Value)} {Q : Bool → Shared → Prop} (hd : (d == sysModules) = false) (hm : s.heap.DictOfH knd d xs) (hfit : (xs.length : Int) < 2 ^ 63)
    (h : Q (!xs.isEmpty) { s with toks := s.toks + 1 + 1 }) : wpAny (model prog w) A (truthy (.ref d)) Q E s := by
  have hne : ((xs.length : Int) != 0) = !xs.isEmpty := by cases xs <;> simp <;> omega
  have key : wpAny (model prog w) A (runValue (.builtin "len" ⟨[.ref d], []⟩)) (fun r s' => r = .int xs.length (s.toks + 1) ∧ Q (!xs.isEmpty) s') E s := by
    refine wpAny_runValue (codeAny_builtin entry_len ?_)
    rw [Around.under_plainId plain_len _]
    exact wpAny_mono (wpAny_len_body_dictH (Q := fun r s' => r = .int xs.length (s.toks + 1) ∧ Q (!xs.isEmpty) s') hd hm hfit ⟨rfl, h⟩)
      (fun fin s' h' => by obtain ⟨r, rfl, hq⟩ := h'; exact hq) fun _ _ e => e
  unfold truthy
  refine wpAny_bind (wpAny_callSpecial?_none (name := Str.ofString "__bool__") hm.typeIs noBool_dict ?_)
  refine wpAny_bind (wpAny_specialOf (name := Str.ofString "__len__") hm.typeIs F.slot_dict_len.lookup ?_)
  refine wpAny_bind (wpAny_mono key (fun r s' h' => ?_) fun _ _ e => e)
  obtain ⟨rfl, hq⟩ := h'
  exact wpAny_pure (hne ▸ hq)
def tTruT (t : TE) : TT := fun σ H Q => t σ H fun x H1 => ∃ p kvs, x = .ref p ∧ H1 p = some (.dT kvs) ∧ Q (!kvs.isEmpty) H1
theorem pt_truthT {X : Cx} {e : Expr} {t : TE} (h : PE X e t) (he : ∀ whole, isTrue e X.env whole = (do let v ← whole; standAt e.pos; holding [v] (truthy v)) := by intro _; rfl) : PT X e (tTruT t) := by
  refine ⟨fun pz s0 σ H Q I hw => ?_⟩
  refine isTrue_plain (thn (h.run pz s0 σ H _ I hw) fun v s1 ⟨x, H1, I1, r, p, kvs, ex, hp, q⟩ => ?_) (he _)
  subst ex
  cases (show v = Value.ref p from r)
  obtain ⟨z, hd, ys, rel, dd⟩ := dt_of I1.hok hp
  have hl : kvs.length = ys.length := Paired.length rel
  have hb : kvs.isEmpty = ys.isEmpty := by cases rel <;> rfl
  refine truthy_dictH hd dd (by rw [← hl]; rw [sizeLine_eq] at z; omega) ?_
  rw [← hb]
  exact ⟨H1, I1.tok _, q⟩
theorem tru_list {K : PySem.W.Frag} {H : Hp} {p : Addr} {xs : List V} (h : SqL K H p xs) : TruV K (.ref p) H (!xs.isEmpty) := .inl ⟨xs, h, rfl⟩
theorem tru_tup {K : PySem.W.Frag} {H : Hp} {p : Addr} {xs : List V} (h : SqT K H p xs) : TruV K (.ref p) H (!xs.isEmpty) := .inr (.inl ⟨xs, h, rfl⟩)
theorem pt_tru {X : Cx} {K : PySem.W.Frag} (hK : X.K = K) {e : Expr} {t : TE} (h : PE X e t) (he : ∀ whole, isTrue e X.env whole = (do let v ← whole; standAt e.pos; holding [v] (truthy v)) := by intro _; rfl) : PT X e (fun σ H Q => t σ H fun x H' => ∃ k, TruV K x H' k ∧ Q k H') := by
  subst hK
  exact pt_truth h he
theorem op_catK {X : Cx} {K : PySem.W.Frag} (hK : X.K = K) : OpR X (binaryOp .Add) (rCatA K) := by
  subst hK
  exact op_catA
theorem sl_tupAK {X : Cx} {K : PySem.W.Frag} (hK : X.K = K) : SlR X (rSlA K) := by
  subst hK
  exact sl_tupA
open Evl in
theorem et_tru {K : PySem.W.Frag} {ta : TE} {σ : L2.St} {H : Hp} {x : V} {b : Bool} (ha : Ev ta σ H x) (hb : ∀ H1, Ex H H1 → TruV K x H1 b) : EvT (fun σ H Q => ta σ H fun x H' => ∃ k, TruV K x H' k ∧ Q k H') σ H b := fun H1 e Q q =>
  ha H1 e _ fun H2 e2 => ⟨b, hb H2 (e.trans e2), q H2 e2⟩
theorem pg_tupK {X : Cx} {K : PySem.W.Frag} {es : List Expr} {k n : Nat} {t : TGs} {pos : Pos} (hK : X.K = K) (hc : X.calm = true) (h : PGs X es t)
    (hn : (assignEach es X.env).length = n := by rfl) (hst : (assignEach es X.env).findIdx? (·.1) = none := by rfl) : PG X (.Tuple es k pos) (gTup K n t) := by
  subst hK
  exact pg_tup hc h hn hst
theorem pi_tupK {X : Cx} {K : PySem.W.Frag} {tg l : Expr} {tl : TE} (hK : X.K = K) (hl : PE X l tl) : PI X tg l (iTup K tl) := by
  subst hK
  exact pi_tup hl
theorem pi_listK {X : Cx} {K : PySem.W.Frag} {tg l : Expr} {tl : TE} (hK : X.K = K) (hl : PE X l tl) : PI X tg l (iList K tl) := by
  subst hK
  exact pi_list hl
/-- a loop over enumerate of a list that stands still -/
theorem for_enumL {K : PySem.W.Frag} {a : Addr} {ws : List V} {g : TG} {tb : TS} {D : Ends} {σ : St} {H : Hp} (Pw : Nat → St → Hp → Prop) (h0 : Pw 0 σ H) (hl : ∀ i σ H, i ≤ ws.length → Pw i σ H → SqL K H a ws)
    (hs : ∀ i x T σ H, ws[i]? = some x → Pw i σ H → H T = none → g (.ref T) σ (upd H T (.tup [.int (i : Nat), x])) fun σ2 H2 => tb { D with nx := Pw (i + 1), ct := Pw (i + 1), bk := D.nx } σ2 H2) (hd : ∀ σ H, Pw ws.length σ H → D.nx σ H) :
    ∃ W : Nat → Nat → St → Hp → Prop, (∃ m, W 0 m σ H) ∧ ∀ i m σ H, W i m σ H →
      ((Ite K a).stop i H ∧ D.nx σ H) ∨ ((Ite K a).go i H ∧ ∃ N : St → Hp → Prop, (∀ σ' H', N σ' H' → ∃ m', m' < m ∧ W (i + 1) m' σ' H') ∧ ∀ x H', (Ite K a).yld i H x H' → g x σ H' fun σ2 H2 => tb { D with nx := N, ct := N, bk := D.nx } σ2 H2) := by
  refine ⟨fun i m σ H => m = ws.length - i ∧ i ≤ ws.length ∧ Pw i σ H, ⟨ws.length, by simp, Nat.zero_le _, h0⟩, ?_⟩
  rintro i m σ H ⟨rfl, hi, p⟩
  have q := hl i σ H hi p
  by_cases hlt0 : i < ws.length
  · refine .inr ⟨⟨ws, ws[i], q, by simp [hlt0]⟩, Pw (i + 1), fun σ' H' p' => ⟨ws.length - (i + 1), by omega, rfl, hlt0, p'⟩, fun x H' y => ?_⟩
    obtain ⟨T, x', ee1, nT, e2, y⟩ := y
    subst ee1 e2
    exact hs i x' T σ H (y ws q) p nT
  · have e : i = ws.length := by omega
    subst e
    exact .inl ⟨⟨ws, q, Nat.le_refl _⟩, hd σ H p⟩
section
open Evl
variable {K : PySem.W.Frag} {σ : St} {H : Hp} {te : TE}
/-- [e for x in t], t a new tuple -/
theorem el_lcNT {xs : List V} {tl : TE} {j : Nat} {vs : List Nat} (v : Nat → V) (h : EvU tl σ H xs) (wz : xs.length ≤ 40000) (hw : ∀ x, wipe ((wipe σ vs).set j (some x)) vs = wipe σ vs)
    (he : ∀ (i : Nat) (x : V) H1, Ex H H1 → xs[i]? = some x → Ev te ((wipe σ vs).set j (some x)) H1 (v i)) :
    EvL (tLc (iTup K tl) (gName j) tYes te vs) σ H (gvn xs.length v) := fun H0 e Q q => h H0 e _ fun a H1 ha e1 hx => ⟨a, rfl, ⟨xs, SqT.of hx⟩, fun Dl hD =>
  lc_tup (xs := xs) (Cv H1 v Dl) ⟨hD, Ex.new hD, upd_same⟩ (fun i H' _ p => SqT.of (p.2.1 _ _ hx)) (fun i x H' hi p => ⟨hw x, cv_turn p (by have := (List.getElem?_eq_some_iff.mp hi).1; omega) (he i x H1 (e.trans e1) hi)⟩)
    (fun H' p => q Dl H' (fresh_back e1 p.1) (e1.trans p.2.1) p.2.2)⟩
end
end L2
namespace L2
open PySem PySem.Spec PyProof.Rows
/-! ### errors without arguments -/
/-- an own error class, over ValueError by own classes without an own making -/
structure ErrC (K : PySem.W.Frag) (mg : Str → Option Value) (x : Str) (C : Addr) : Prop where
  g : mg x = some (.ref C)
  x : PySem.W.excIn K C [.type "ValueError", .type "Exception", .type "BaseException", .type "object"] "ValueError.__new__" = true
  k : PySem.W.keepIn K (.ref C) = true
  b : PySem.W.subIn K (.ref C) (.type "BaseException") = some true
  t : PySem.W.typeIn K (.ref C) = some (.type "type")
theorem ErrC.one {K : PySem.W.Frag} {mg : Str → Option Value} {x : Str} {C C' : Addr} (h : ErrC K mg x C) (e : mg x = some (.ref C')) : C' = C := by
  rw [h.g] at e
  cases e
  rfl
/-- X() -/
theorem pmk_own0 {X : Cx} {C : Addr} {x : Str} {p pos : Pos} (E : ErrC X.K X.mg x C) (hg : Gl X x) (hdb : (x == ("__debug__" : Str)) = false := by decide) : PMk X (.Call (.Name x p) [] [] pos) (fun _ H Q => Q (.ref C) none H) := by
  intro pins s σ H Q I h
  refine wpAny_Call_Name_kw (ld_glob I hg E.g ?_ hdb)
  refine PySem.W.callWith_K0 I.kIn E.k ?_
  obtain ⟨bm, N, nm, qn, bs, hdct, sn, sub, ab, col, dd, k0, k1, k2, k3, k5, mN, hC, hN, hni, T⟩ := exc_obj I.kIn E.x
  refine wpAny_call_exc_subT PySem.F.excBase_ValueError T hC hN hni (fun h' e hm => ?_) (Nat.zero_le _)
  exact mk_of I hm (raises_own E.b E.t) h (I.hok.gone hm.new)
/-! ### defs that may raise -/
structure HasX (P : Program) (w : World) (K : PySem.W.Frag) (mg : Str → Option Value) (base : Heap) (x : Str) (k : Nat) (ps : List Str) (sp : Sp) : Prop where
  ex : ∃ (f : Addr) (fd : FuncData), mg x = some (.ref f) ∧ PySem.W.keepIn K (.ref f) = true ∧ Binds K fd ps [] ∧ FnOk P w K mg base (L2.CX P w) k f fd ps sp
theorem HasX.mk' {P : Program} {w : World} {K : PySem.W.Frag} {mg : Str → Option Value} {base : Heap} {x : Str} {k : Nat} {ps : List Str} {sp : Sp} {f : Addr} {fd : FuncData} (h1 : mg x = some (.ref f)) (h2 : PySem.W.keepIn K (.ref f) = true) (h3 : Binds K fd ps []) (h4 : FnOk P w K mg base (L2.CX P w) k f fd ps sp) : HasX P w K mg base x k ps sp := ⟨⟨f, fd, h1, h2, h3, h4⟩⟩
section
variable {X : Cx} {x : Str} {k : Nat} {ps : List Str} {sp : Sp} {e : Expr} {es : List Expr} {t : TA} {p pos : Pos}
/-- it is called, and what it raises is wished for -/
theorem pe_hasT {W : WX} (h : HasX X.prog X.w X.K X.mg X.base x k ps sp) (hr : Room k X.A) (tk : Takes X W) (hg : Gl X x) (ha : PA X (e :: es) t)
    (hdb : (x == ("__debug__" : Str)) = false := by decide) (he : starEach (e :: es) X.env = (false, eval e X.env) :: starEach es X.env := by rfl) (hpl : (backTo pos (starEach es X.env)).any (·.1) = false := by rfl) :
    PE X (.Call (.Name x p) (e :: es) [] pos) (tCallS sp (WE W) t) := by
  obtain ⟨f, fd, h1, h2, h3, h4⟩ := h.ex
  exact pe_callS h4 hr hg h1 h2 h3 (fun σ => passAt tk σ) ha hdb he hpl
end
end L2
namespace L2
open PySem PySem.Spec PyProof.Rows
/-! ### set(xs) of a list of whole numbers -/
abbrev newS (w : World) : Obj := { cls := .type "set", dict := none, data := .set #[] 0 (.fresh 0 0 (!w.params.followText "set-order")) }
section
variable {P : Program} {w : World} {A : Around} {E : Value → Shared → Prop} {s : Shared}
theorem call_set_lstI {l : Addr} {its : Array Value} (zs : List Int) {Q : Value → Shared → Prop} (h0 : A.handled = none) (il : s.heap.IsList l its) (ia : IntsAre its.toList zs) (ub : zs.length + 1 < scanBound)
    (h : ∀ (h' : Heap) (tk c : Nat), SetR w h' s.heap.objs.size (fun j => decide (j ∈ zs)) c → c ≤ zs.length → (∀ b o, s.heap.get? b = some o → h'.get? b = some o) → Q (.ref s.heap.objs.size) { s with heap := h', toks := tk }) :
    wpAny (model P w) A (call (.type "set") [.ref l]) Q E s := by
  have zl : its.size = zs.length := by
    have q := IntsAre.length ia
    rw [Array.length_toList] at q
    exact q
  obtain ⟨c, tl, mr⟩ := F.called_set.mro
  have md := F.called_set.made
  have sb := F.called_set.sub
  refine wpAny_call (codeAny_of_tree ?_)
  show wpAny _ _ (callAny (.type "set") _) _ _ _
  refine wpAny_pure ⟨Code.quiet_builtin _ (by decide +kernel), codeAny_builtin F.entry_type_call ?_⟩
  rw [Around.under_plain (weight_type_call_type "set" [.ref l] []) rfl]
  have n1 := F.called_set.notType
  have n2 := F.called_set.canCreate
  have ct := F.typeCall_set_1 (.ref l)
  repeat (any_goals (first | assumption | wp_step))

  refine codeAny_mono (code_set_led1 (.ref l) (E := E) (Q₁ := fun ob s₁ => ob = .ref s.heap.objs.size ∧ s₁ = { s with heap := s.heap.push (newS w) }) ⟨rfl, rfl⟩) fun r s₁ rr => ?_
  cases r with
  | error e => exact rr
  | ok fl =>
    cases fl with
    | ret ob =>
      obtain ⟨rfl, rfl⟩ := rr
      have gs : (s.heap.push (newS w)).get? s.heap.objs.size = some (newS w) := Heap.get?_push_size _ rfl
      have ts : Shared.TypeIs { s with heap := s.heap.push (newS w) } (.ref s.heap.objs.size) "set" := ⟨_, gs, rfl⟩
      have li := F.called_set.init.lookup
      have bi := F.called_set.init.bind (.ref s.heap.objs.size)
      repeat (any_goals (first | assumption | wp_step))

      refine codeAny_mono (codeAny_call_builtin (R := wants (fun r s₂ => r = .none ∧ ∃ h' tk c, s₂ = { s with heap := h', toks := tk } ∧ SetR w h' s.heap.objs.size (fun j => decide (j ∈ zs)) c ∧ c ≤ zs.length ∧
          (∀ b o, s.heap.get? b = some o → h'.get? b = some o)) E) F.called_set.init.plain F.entry_set_init (check_set_init_1 ts ?_)) fun r₂ s₂ rr2 => ?_
      · obtain ⟨ol, ol0, oc, nl, od⟩ := il
        obtain ⟨ocls, odict, odata, oslots⟩ := ol
        simp only at oc od
        subst oc; subst od
        have ol1 : (s.heap.push (newS w)).get? l = some { cls := .type "list", dict := odict, data := .seq its nl, slots := oslots } := Heap.get?_push_of_some _ ol0
        have sl1 := F.sub_list_set
        have sl2 := F.sub_list_frozenset
        have ne1 : (Value.type "list" == Value.type "dict") = false := by decide
        have il1 : (s.heap.push (newS w)).IsList l its := ⟨_, ol1, rfl, nl, rfl⟩
        unfold Builtin.«set.__init__» noKeywords Builtin.Frozenset.updateFrom
        generalize eP : pyIter = pI
        wp_walk
        subst eP

        refine wpAny_pyIter_list il1 ?_
        refine wpAny_bind (wpAny_runValue ?_)
        have ls1 : l < s.heap.objs.size := Heap.lt_size ol0
        have h03 : A.in1.in1.in1.handled = none := by simp [h0]
        have z1 : (s.heap.push (newS w)).objs.size = s.heap.objs.size + 1 := Heap.size_push ..
        have neI : l ≠ (s.heap.push (newS w)).objs.size := by
          rw [Heap.size_push]; exact Nat.ne_of_lt (Nat.lt_succ_of_lt ls1)
        have nf : s.heap.objs.size ∉ [(s.heap.push (newS w)).objs.size, l] := by
          rw [Heap.size_push]; simp only [List.mem_cons, List.mem_singleton, List.not_mem_nil, or_false, not_or]
          exact ⟨Nat.ne_of_lt (Nat.lt_succ_self _), Nat.ne_of_gt ls1⟩
        have vl : ∀ (i : Nat) (v : Value), its[i]? = some v → ∃ k t, zs[i]? = some k ∧ v = .int k t := fun i v qv => by
          have qi : i < zs.length := by rw [← zl]; exact (Array.getElem?_eq_some_iff.mp qv).1
          obtain ⟨t, e⟩ := PyProof.Rows.IntsAre.int_at ia i v (by rw [Array.getElem?_toList]; exact qv)
          refine ⟨zs[i], t, List.getElem?_eq_getElem qi, ?_⟩
          rw [e, List.getD_eq_getElem?_getD, List.getElem?_eq_getElem qi] <;> rfl
        refine set_update_ints ((Walks.list h03 _ l neI its).toS) s.heap.objs.size
          nf zs zl ub vl (its.size - 0) 0 _ (by omega) (Nat.zero_le _)
          ⟨⟨_, Heap.get?_push_size _ rfl, rfl, rfl⟩, (il1.push _)⟩ ?gs0 ?gR
        case gs0 =>
          have gt1 : ((s.heap.push (newS w)).push { cls := .type "list_iterator", data := .fields #[.ref l, .int 0 0] }).get? s.heap.objs.size
              = some (newS w) := Heap.get?_push_of_some _ gs
          exact ⟨0, Nat.le_refl 0, setR_new_at gt1⟩
        case gR =>
          intro s' c' mv cc' gs'
          obtain ⟨h', g2, d', tk', os'⟩ := s'
          have q1 : g2 = s.gens := mv.gens
          have q2 : d' = s.drawn := mv.drawn
          have q3 : os' = s.os := mv.os
          subst q1; subst q2; subst q3
          show wpAny _ _ _ _ _ _
          refine wpAny_pure ?_
          show wpAny _ _ (ret Value.none) _ _ _
          rw [zl] at cc'
          refine wpAny_pure ⟨rfl, h', tk', c', rfl, gs', cc', fun b o e => ?_⟩
          have u0 : b < s.heap.objs.size := Heap.lt_size e
          have u1 : b ≠ s.heap.objs.size := Nat.ne_of_lt u0
          have u2 : b ≠ (s.heap.push (newS w)).objs.size := by
            rw [Heap.size_push]; exact Nat.ne_of_lt (Nat.lt_succ_of_lt u0)
          exact mv.heap b o (by simp only [List.mem_cons, List.mem_singleton, List.not_mem_nil, or_false, not_or]; exact ⟨u1, u2⟩) (Heap.get?_push_of_some _ (Heap.get?_push_of_some _ e))

      · cases r₂ with
        | error e => exact rr2
        | ok fl₂ =>
          cases fl₂ with
          | ret r =>
            obtain ⟨rfl, h', tk, c', rfl, gs', cc', kk'⟩ := rr2
            repeat (any_goals (first | assumption | wp_step))
            exact h _ _ _ gs' cc' kk'
          | _ => exact rr2.elim
    | _ => exact rr.elim

end
def rSetL1 (K : PySem.W.Frag) (w : World) : List V → Hp → VK → Prop := fun vs H Q => ∃ (l : Addr) (ns : List Int), vs = [V.ref l] ∧ SqL K H l (ns.map V.int) ∧ ns.length + 1 < scanBound ∧ ∀ c p, c ≤ ns.length → H p = none → Q (.ref p) (upd H p (SetO w p (fun j => decide (j ∈ ns)) c))
theorem cr_setL1 {X : Cx} {K : PySem.W.Frag} (hK : X.K = K) (hc : X.calm = true) : CallR X (.type "set") (rSetL1 K X.w) := by
  subst hK
  intro pins s σ H vs us Q I r h
  obtain ⟨l, ns, rfl, hS, hb, q⟩ := h
  rw [Vals.ref1 r]
  obtain ⟨its, rv, ⟨⟨cls, dd, data, sl⟩, n, ho, hcl, hdn, hd⟩, hlen⟩ := I.list hS
  simp only at hcl hd
  subst hcl hd
  have hi := ints_of_vals rv
  refine call_set_lstI ns (I.ok.hd hc) (its := its.toArray) ⟨_, ho, rfl, n, rfl⟩ hi hb fun h' tk c R hcn k => ?_
  have hn : H s.heap.objs.size = none := I.hok.fresh (Nat.le_refl _)
  exact ⟨.ref s.heap.objs.size, _, I.laid (t' := tk) k (Nat.le_refl _) (setO_new R), rfl, q c _ hcn hn⟩
theorem cr_sortedPK {X : Cx} {K : PySem.W.Frag} (hK : X.K = K) : CallR X (.builtin "sorted") (rSortedP K) := by
  subst hK
  exact cr_sortedP
theorem cr_maxK {X : Cx} {K : PySem.W.Frag} (hK : X.K = K) (hc : X.calm = true) : CallR X (.builtin "max") (rMax K) := by
  subst hK
  exact cr_max hc
end L2
namespace L2
open PySem PySem.Spec PyProof.Rows
/-! ### count of flat things in a list, in a tuple -/
theorem countP_eqU {x : V} : ∀ {xs : List V} {us : List Value}, Vals xs us → xs.all flatV = true → us.countP (eqU x) = xs.countP fun y => eqV y x
  | _, _, .nil, _ => rfl
  | y :: xs, u :: us, .cons r t, f => by
    rw [List.all_cons, Bool.and_eq_true] at f
    rw [List.countP_cons, List.countP_cons, countP_eqU t f.2, eqU_of r f.1]
def rCntF (K : PySem.W.Frag) : V → List V → Hp → VK → Prop := fun x xs H Q => ∃ (p : Addr) (ys : List V) (y : V), x = .ref p ∧ xs = [y] ∧ SqL K H p ys ∧ flatV y = true ∧ ys.all flatV = true ∧ Q (.int ((ys.countP fun z => eqV z y : Nat) : Int)) H
def rCntT (K : PySem.W.Frag) : V → List V → Hp → VK → Prop := fun x xs H Q => ∃ (p : Addr) (ys : List V) (y : V), x = .ref p ∧ xs = [y] ∧ SqT K H p ys ∧ flatV y = true ∧ ys.all flatV = true ∧ Q (.int ((ys.countP fun z => eqV z y : Nat) : Int)) H
section
variable {X : Cx}
theorem mt_countF {K : PySem.W.Frag} (hK : X.K = K) : MtR X "list.count" (rCntF K) := by
  subst hK
  intro pins s σ H x xs v us Q I rx rxs h
  obtain ⟨p, ys, y, rfl, rfl, hs, fy, fys, q⟩ := h
  cases rx
  cases rxs with
  | cons ry rt =>
    rename_i uy ut
    cases rt
    obtain ⟨its, rv, ⟨⟨cls, dd, data, sl⟩, n, ho, hc, hdn, hd⟩, hlen⟩ := I.list hs
    simp only at hc hd
    subst hc hd
    refine call_meets PySem.F.slot_list_count ⟨_, ho, rfl⟩ PySem.F.entry_list_count (PySem.F.args_list_count_2 _ _)
      (SeqAt.list_countAt p its.toArray n dd sl uy (eqU y)) ⟨ho, fun u' hu' => mem_eqAt ry fy rv fys u' (by simpa using hu'), ?_⟩
    refine ⟨.int ((ys.countP fun z => eqV z y : Nat) : Int), H, I.tok _, ⟨s.toks, ?_⟩, q⟩
    show Value.int ((its.toArray.toList.countP (eqU y) : Nat) : Int) s.toks = _
    rw [show its.toArray.toList = its from rfl, countP_eqU rv fys]
theorem mt_countT {K : PySem.W.Frag} (hK : X.K = K) : MtR X "tuple.count" (rCntT K) := by
  subst hK
  intro pins s σ H x xs v us Q I rx rxs h
  obtain ⟨p, ys, y, rfl, rfl, hs, fy, fys, q⟩ := h
  cases rx
  cases rxs with
  | cons ry rt =>
    rename_i uy ut
    cases rt
    obtain ⟨its, rv, ⟨⟨cls, dd, data, sl⟩, ho, hc, n, hd⟩, hlen⟩ := I.tuple hs
    simp only at hc hd
    subst hc hd
    refine call_meets PySem.F.slot_tuple_count ⟨_, ho, rfl⟩ PySem.F.entry_tuple_count (PySem.F.args_tuple_count_2 _ _)
      (SeqAt.tuple_countAt p its.toArray n dd sl uy (eqU y)) ⟨ho, fun u' hu' => mem_eqAt ry fy rv fys u' (by simpa using hu'), ?_⟩
    refine ⟨.int ((ys.countP fun z => eqV z y : Nat) : Int), H, I.tok _, ⟨s.toks, ?_⟩, q⟩
    show Value.int ((its.toArray.toList.countP (eqU y) : Nat) : Int) s.toks = _
    rw [show its.toArray.toList = its from rfl, countP_eqU rv fys]
end
end L2
namespace L2
open PySem PySem.Spec PyProof.Rows
section
variable {P : Program} {w : World} {K : PySem.W.Frag} {mg : Str → Option Value} {base : Heap}
/-- a def by its body, its code object told -/
theorem ok_cd {x qual : Str} {st : Stmt} {f : Addr} {N ps : List Str} {k : Nat} {sp : Sp} {oc kV doc pm cdv ct : Value} {od an : Option Addr} {osl : Array (Option Value)}
    (lk : K.lookup f = some ⟨oc, od, .func (PySem.W.fnOf x qual (defArgs st) (defBody st) (defScope st) .none kV doc pm an cdv ct), osl⟩) (hcd : PySem.W.codeIn K cdv qual = true) (S : FnScope N ps (defScope st)) (len : ∀ vs H Q E, sp vs H Q E → vs.length = ps.length)
    (hbody : ∀ (A : Around) (outer : List Env) (s : Shared) (H : Hp) (vs : List V) (Q : VK) (E : XK), Room k (A.deeper (envOfC qual (defScope st) s.heap.objs.size f cdv)) → sp vs H Q E →
      ∃ t, PSs (cxOf CX0 P w K mg base N qual (defScope st) f cdv A outer s H E).nox (defBody st) t ∧ t { nx := fun _ H' => Q .non H', rt := Q } (start N vs) H) : FnOk P w K mg base CX0 (k + 1) f (PySem.W.fnOf x qual (defArgs st) (defBody st) (defScope st) .none kV doc pm an cdv ct) ps sp := by
  refine fn_of lk hcd S len fun A outer s H vs Q E hr hsp => ?_
  obtain ⟨t, h, q⟩ := hbody A outer s H vs Q E hr hsp
  exact ⟨t, h.nox, q⟩
/-- own error classes under one -/
structure ErrU (K : PySem.W.Frag) (mg : Str → Option Value) (bs : Str) (names : List Str) : Prop where
  u : ∃ B, mg bs = some (.ref B) ∧ ∀ x ∈ names, ∃ C, mg x = some (.ref C) ∧ PySem.W.exmOne K (.ref C) (.ref B) = some true ∧ ExcC K C
  r : ∀ x ∈ names, ∀ y ∈ names, ∃ C D, mg x = some (.ref C) ∧ mg y = some (.ref D) ∧ PySem.W.kitOne K (.ref C) (.ref D) = some (decide (x = y))
end
end L2
namespace L2
open PySem PySem.Spec PyProof.Rows
theorem kit_self {K : PySem.W.Frag} {C : Addr} : PySem.W.kitOne K (.ref C) (.ref C) = some true := by
  unfold PySem.W.kitOne
  rw [if_pos (by simp)]
theorem kit_no {K : PySem.W.Frag} {C D : Addr} (hd : PySem.W.hasDictIn K D = true) (ht : PySem.W.typeIn K (.ref D) = some (.type "type")) (hs : PySem.W.subIn K (.ref C) (.ref D) = some false) (hn : (Value.ref C == Value.ref D) = false) : PySem.W.kitOne K (.ref C) (.ref D) = some false := by
  obtain ⟨cd, hc, _⟩ := PySem.W.any_some hd
  unfold PySem.W.kitOne
  rw [if_neg (by rw [hn]; decide)]
  have e2 : ((PySem.W.clsIn K D).isSome && PySem.W.typeIn K (.ref D) == some (.type "type")) = true := by rw [hc, ht] <;> rfl
  show (if ((PySem.W.clsIn K D).isSome && PySem.W.typeIn K (.ref D) == some (.type "type")) = true then PySem.W.subIn K (.ref C) (.ref D) else none) = some false
  rw [if_pos e2]
  exact hs
end L2
namespace PyProof.Rows
open PySem PySem.Spec PySem.W
section
variable {prog : Program} {w : World} {A : Around} {E : Value → Shared → Prop} {s : Shared}
/-- what a tuple holds, gathered in a new list -/
theorem own_gatherT {l : Addr} {vs : List Value} {Q : List Value → Shared → Prop} (hl : s.heap.IsTuple l vs.toArray)
    (h : Q vs { s with heap := (s.heap.push (seqObj "list" #[] 0)).update s.heap.objs.size (Obj.mapSeq (· ++ vs.toArray)) }) (hsz : vs.length ≤ sizeLine) : wpAny (model prog w) A (collect (.ref l)) Q E s := by
  obtain ⟨o, ho, hc, n, hd⟩ := id hl
  have ho2 : (s.heap.push (seqObj "list" #[] 0)).get? l = some o := Heap.get?_push_of_some _ ho
  have hcond : (Value.type "tuple" == Value.type "tuple") = true := by rfl
  have hcond2 : (Value.type "tuple" == Value.type "list") = false := by decide
  unfold collect
  refine wpAny_bind (wpAny_runValue (codeAny_builtin entry_proto_collect' ?_)); show wpAny _ _ (do again (.builtin "list.__iadd__" ⟨[← newList [], .ref l], []⟩)) _ _ s
  refine wpAny_bind (wpAny_newList (wpAny_pure ⟨Code.quiet_builtin _ (by decide +kernel), codeAny_builtin entry_list_iadd' ?_⟩)); show wpAny _ _ (Builtin.List.listExtendWith (.ref s.heap.objs.size) (.ref l) (.ref s.heap.objs.size)) _ _ { s with heap := s.heap.push (seqObj "list" #[] 0) }
  unfold Builtin.List.listExtendWith
  refine wpAny_bind (wpAny_typeOf (T := "tuple") ⟨o, ho2, hc⟩ ?_)
  rw [if_pos (by rw [hcond]; simp)]
  refine wpAny_bind (listItems_at ho2 hd ?_)
  refine wpAny_bind (listItems_at (xs := #[]) (n := 0) (Heap.get?_push_size _ rfl) rfl ?_)
  rw [if_neg (by simp)]
  refine wpAny_bind (listUpdate_at (xs := #[]) (n := 0) (Heap.get?_push_size _ rfl) rfl ?_ (Nat.zero_le _) (by show (#[] ++ vs.toArray).size ≤ sizeLine + 1; simp only [Array.size_append, List.size_toArray, List.length_nil]; omega)); refine wpAny_pure ?_
  refine wpAny_bind (wpAny_load (get?_update_seq (Heap.get?_push_size _ rfl) _) ?_)
  show wpAny _ _ (pure ((#[] : Array Value) ++ vs.toArray).toList) Q E _
  have e0 : ((#[] : Array Value) ++ vs.toArray).toList = vs := by simp
  rw [e0]; exact wpAny_pure h
end
end PyProof.Rows
namespace SrtO
open PySem PyProof.Rows Srt
section
variable {prog : Program} {w : World} {A : Around} {E : Value → Shared → Prop} {s : Shared}
theorem own_sortT {l : Addr} {vs : List Value} {ltv : Value → Value → Bool} {Q : Value → Shared → Prop} (O : Swo ltv) (hl : s.heap.IsTuple l vs.toArray) (hz : vs.length ≤ sizeLine)
    (hS : 2 ≤ vs.length → ∀ (h₁ : Heap) (a : Addr), h₁.get? a = some (seqObj "list" vs.toArray 0) → (∀ b o, s.heap.get? b = some o → b ≠ a ∧ h₁.get? b = some o) → SortableO prog w A.in1.in1 { s with heap := h₁ } a vs ltv)
    (h : ∀ out : List Value, Srtd ltv out → Stb ltv out vs → Q (.ref (s.heap.objs.size + 1)) { s with heap := sortedAll s.heap vs out.toArray }) : wpAny (model prog w) A (call (.builtin "sorted") [.ref l]) Q E s := by
  refine Calls.call_function_entry kind_sorted plain_sorted entry_sorted (args_sorted1 _) ?_; unfold Builtin.«sorted»
  refine wpAny_bind (m := checkCount "sorted" 1 1 _) (wpAny_pure ?_); refine wpAny_bind (own_gatherT hl ?_ hz)
  refine wpAny_bind (wpAny_newList ?_ hz)
  have n1 : ((s.heap.push (seqObj "list" #[] 0)).update s.heap.objs.size (Obj.mapSeq (· ++ vs.toArray))).objs.size = s.heap.objs.size + 1 := by rw [Heap.size_update, size_push']
  have g1 : (((s.heap.push (seqObj "list" #[] 0)).update s.heap.objs.size (Obj.mapSeq (· ++ vs.toArray))).push (seqObj "list" vs.toArray 0)).get? (s.heap.objs.size + 1) = some (seqObj "list" vs.toArray 0) := by rw [← n1]; exact Heap.get?_push_size _ rfl
  have k1 : ∀ b o, s.heap.get? b = some o → b ≠ s.heap.objs.size + 1 ∧ (((s.heap.push (seqObj "list" #[] 0)).update s.heap.objs.size (Obj.mapSeq (· ++ vs.toArray))).push (seqObj "list" vs.toArray 0)).get? b = some o := fun b o q => by
    have lt := Heap.lt_size q
    exact ⟨Nat.ne_of_lt (Nat.lt_succ_of_lt lt), Heap.get?_push_of_some _ (by rw [Heap.get?_update_ne _ _ _ _ (Nat.ne_of_lt lt)]; exact Heap.get?_push_of_some _ q)⟩
  show wpAny _ _ _ _ _ { s with heap := ((s.heap.push (seqObj "list" #[] 0)).update s.heap.objs.size (Obj.mapSeq (· ++ vs.toArray))).push (seqObj "list" vs.toArray 0) }; rw [n1]
  exact wpAny_bind (wpAny_holding (wpAny_call_entry slot_list_sort ⟨_, g1, rfl⟩ entry_list_sort (list_sort_ord O g1 hz (fun h2 => hS h2 _ _ g1 k1) fun out hs hb => ⟨_, rfl, wpAny_pure ⟨_, rfl, h out hs hb⟩⟩) (args_list_sort _)))
end
end SrtO
namespace L2
open PySem PySem.Spec PyProof.Rows RZ
/-- sorted(t), whole numbers in a tuple -/
def rSortedTI (K : PySem.W.Frag) : List V → Hp → VK → Prop := fun vs H Q => ∃ (a : Addr) (ns : List Int), vs = [V.ref a] ∧ SqT K H a (ns.map V.int) ∧
  ∀ (ns' : List Int) (p : Addr), ns'.Perm ns → ns'.Pairwise (· ≤ ·) → H p = none → Q (.ref p) (upd H p (.lst (ns'.map V.int)))
theorem cr_sortedTI {X : Cx} {K : PySem.W.Frag} (hK : X.K = K) : CallR X (.builtin "sorted") (rSortedTI K) := by
  subst hK
  intro pins s σ H vs us Q I r h
  obtain ⟨a, ns, rfl, hs, q⟩ := h
  obtain ⟨its, rv, hl, hz⟩ := I.tuple hs
  rw [Vals.ref1 r]
  have hi := rv.ints
  refine SrtO.own_sortT SrtO.swo_int hl (by rw [← rv.length]; exact hz) (fun h2 h₁ a' _ _ => SrtO.ints_sortable hi h2) fun out h1 h2 => ?_
  obtain ⟨k1, k2, k3⟩ := SrtO.ints_out hi h1 h2
  obtain ⟨ep, he'⟩ := PyProof.Rows.sortedAll_at s.heap its out.toArray
  have ll : ((out.map SrtO.iv).map V.int).length ≤ sizeLine := by
    rw [List.length_map] at hz ⊢; rw [k2.length_eq]; exact hz
  exact ⟨.ref _, _, I.laid (o := .lst ((out.map SrtO.iv).map V.int)) (t' := s.toks) (fun _ _ => PyProof.Rows.sortedAll_old) (Nat.le_succ _) ⟨ll, out, ep, vals_of_ints k1, he'⟩, rfl, q _ _ k2 k3 (I.hok.fresh (Nat.le_succ _))⟩
theorem cr_sortedIK {X : Cx} {K : PySem.W.Frag} (hK : X.K = K) : CallR X (.builtin "sorted") (rSortedI K) := by
  subst hK
  exact cr_sortedI
theorem pi_zipAK {X : Cx} {K : PySem.W.Frag} (hK : X.K = K) {e e2 : Expr} {ta : TA} {p pos tpos : Pos} {elts : List Expr} {kk : Nat} (hg : Gl X "zip") (hm : X.mg "zip" = none) (ha : PA X [e, e2] ta)
    (hs : starEach [e, e2] X.env = (false, eval e X.env) :: starEach [e2] X.env := by rfl) (hpl : (backTo pos (starEach [e2] X.env)).any (·.1) = false := by rfl) : PI X (.Tuple elts kk tpos) (.Call (.Name "zip" p) [e, e2] [] pos) (iZipA K ta) := by
  subst hK
  exact pi_zipA hg hm ha hs hpl
theorem walk_zipT {K : PySem.W.Frag} {a b : Addr} {xs ys : List V} {n : Nat} (hn : n = min xs.length ys.length) : Walk (ItzT K a b) n (fun H => SqT K H a xs ∧ SqT K H b ys) (YPair (fun i => xs[i]?) (fun i => ys[i]?)) := by
  subst hn
  refine ⟨fun i _ hi q => ⟨xs, ys, xs[i]'(by omega), ys[i]'(by omega), q.1, q.2, List.getElem?_eq_getElem (by omega), List.getElem?_eq_getElem (by omega)⟩, fun _ q => ⟨xs, ys, q.1, q.2, by omega⟩, fun i H v H' _ q y => ?_⟩
  obtain ⟨T, x, z, h1, h2, h3, h4, h5⟩ := y
  exact ⟨T, x, z, h1, h2, h3, h4 xs q.1, h5 ys q.2⟩
end L2
namespace L2
open PySem PySem.Spec PyProof.Rows
/-! ### a new tuple whose object is known; methods of such a tuple -/
def SqF (H : Hp) (a : Addr) (xs : List V) : Prop := ∃ o : Obj, H a = some (.frz o (.tup xs)) ∧ o.dict = none
theorem SqF.sq {K : PySem.W.Frag} {H : Hp} {a : Addr} {xs : List V} (h : SqF H a xs) : SqT K H a xs := let ⟨o, h, _⟩ := h; .inl (.inr ⟨o, h⟩)
theorem SqF.ex {H H' : Hp} {a : Addr} {xs : List V} (h : SqF H a xs) (e : Evl.Ex H H') : SqF H' a xs := let ⟨o, h, d⟩ := h; ⟨o, e _ _ h, d⟩
def rTupF (K : PySem.W.Frag) : List V → Hp → VK → Prop := fun xs H Q => ∃ p ys, xs = [.ref p] ∧ SqL K H p ys ∧ ∀ l o, H l = none → o.dict = none → Q (.ref l) (upd H l (.frz o (.tup ys)))
def tBMT (T : String) (r : V → List V → Hp → VK → Prop) (to : TE) (t : TA) : TE := fun σ H Q => to σ H fun x H1 => (T = "tuple" ∧ ∃ p xs, x = .ref p ∧ SqF H1 p xs) ∧ t σ H1 fun xs H2 => r x xs H2 Q
section
variable {X : Cx}
theorem cr_tupF {K : PySem.W.Frag} (hK : X.K = K) : CallR X (.type "tuple") (rTupF K) := by
  subst hK
  intro pins s σ H xs us Q I r h
  obtain ⟨p, ys, rfl, hq, q⟩ := h
  rw [Vals.ref1 r]
  obtain ⟨its, rv, pl, hz⟩ := I.list hq
  have hlen := rv.length
  refine call_tuple_list pl.isList (fun h' kp => ?_) (by simp only [List.size_toArray] <;> omega)
  have J : Inv X pins σ H { s with heap := h' } := I.kept (t' := s.toks) kp
  exact ⟨.ref h'.objs.size, _, J.laid (o := .frz { cls := .type "tuple", data := .seq its.toArray } (.tup ys)) (t' := s.toks) (fun b o e => Heap.get?_push_of_some _ e) (Nat.le_refl _) ⟨Heap.get?_push_size _ rfl, hz, its, rv, IsTup.new _ _⟩, rfl, q _ _ (J.hok.fresh (Nat.le_refl _)) rfl⟩
theorem pe_bmT {o e : Expr} {es : List Expr} {to : TE} {t : TA} {name : Str} {apos cpos : Pos} {T id : String} {r : V → List V → Hp → VK → Prop} (pa : PlainAttrs T) (slot : Slot T name id) (hty : typeOf (.builtin id) = pure (.type "method_descriptor")) (hm : MtR X id r) (ho : PE X o to) (ha : PA X (e :: es) t)
    (hbase : attributeBase o name X.env (eval o X.env) = eval o X.env := by rfl)
    (hfew : ((backTo cpos (starEach (e :: es) X.env)).all (fun x => !x.1) && (backToKw cpos (keywordEach [] X.env)).all (fun x => x.1.isSome) && decide ((e :: es).length + ([] : List Keyword).length + (if ([] : List Keyword).isEmpty then 0 else 1) < 30)) = true := by rfl)
    (hline : (apos.endLine == cpos.line) = true := by rfl) (hs : starEach (e :: es) X.env = (false, eval e X.env) :: starEach es X.env := by rfl) (hplain : (backTo cpos (starEach es X.env)).any (·.1) = false := by rfl) : PE X (.Call (.Attribute o name apos) (e :: es) [] cpos) (tBMT T r to t) := by
  refine ⟨fun pins s σ H Q I h => wpAny_Call_method_late hbase hfew hline rfl (thn (ho.run pins s σ H _ I h) fun v s1 ⟨x, H1, I1, r1, ty, q1⟩ => ?_)⟩
  obtain ⟨rfl, p, xs, rfl, o1, hp, hd⟩ := ty
  cases r1
  obtain ⟨hg, _, its, _, ot, hot, hc, n, _⟩ := I1.hok p _ hp
  refine ⟨"tuple", id, pa, slot, hty, ⟨ot, hot, hc⟩, fun a e => ?_, ?_⟩
  · cases e
    exact ⟨o1, hg, hd⟩
  · have hA := ha.run cpos pins s1 σ H1 _ I1 q1
    rw [hs] at hA ⊢
    exact Calls.callWith_builtin (by show (false || (backTo cpos (starEach es X.env)).any (·.1)) = false; rw [hplain] <;> rfl) (Calls.evalArgs_plain (thn hA fun us s2 ⟨vs, H2, I2, r2, q2⟩ => hm pins s2 σ H2 (.ref p) vs _ us Q I2 rfl r2 q2))
end
theorem walk_enumT {K : PySem.W.Frag} {a : Addr} {xs : List V} : Walk (IteT K a) xs.length (fun H => SqT K H a xs) (YPair (fun i => some (.int (i : Nat))) (fun i => xs[i]?)) := by
  refine ⟨fun i _ hi q => ⟨xs, xs[i], q, List.getElem?_eq_getElem hi⟩, fun _ q => ⟨xs, q, rfl⟩, fun i H v H' _ q y => ?_⟩
  obtain ⟨T, x, h1, h2, h3, h4⟩ := y
  exact ⟨T, .int (i : Nat), x, h1, h2, h3, rfl, h4 xs q⟩
end L2
/-! The mathematics of machines: numbering by first coming, partition refinement, the table of pairs, the states by first coming. No Python. -/
namespace M1
/-! ### lists -/
theorem nodup_le {α : Type} [DecidableEq α] : ∀ {l m : List α}, l.Nodup → (∀ x ∈ l, x ∈ m) → l.length ≤ m.length
  | [], _, _, _ => Nat.zero_le _
  | a :: l, m, hn, hs => by
    have hn2 := List.nodup_cons.mp hn
    have ha : a ∈ m := hs a List.mem_cons_self
    have ih := nodup_le (l := l) (m := m.erase a) hn2.2 fun x hx => by
      have hne : x ≠ a := fun e => hn2.1 (e ▸ hx)
      exact (List.mem_erase_of_ne hne).mpr (hs x (List.mem_cons_of_mem _ hx))
    have hl := List.length_erase_of_mem ha
    have hp : 0 < m.length := List.length_pos_of_mem ha
    rw [List.length_cons]
    omega
theorem snoc_ind {α : Type} {P : List α → Prop} (h0 : P []) (h1 : ∀ l a, P l → P (l ++ [a])) (l : List α) : P l := by
  have h : ∀ n (l : List α), l.length = n → P l := by
    intro n
    induction n with
    | zero => intro l hl; have : l = [] := List.length_eq_zero_iff.mp hl; subst this; exact h0
    | succ n ih =>
      intro l hl
      have hne : l ≠ [] := fun e => by subst e; simp at hl
      have e := List.dropLast_concat_getLast hne
      rw [← e]
      refine h1 _ _ (ih _ ?_)
      rw [List.length_dropLast, hl]
      rfl
  exact h _ l rfl
theorem take_succ' {α : Type} {l : List α} {i : Nat} {x : α} (h : l[i]? = some x) : l.take (i + 1) = l.take i ++ [x] := by
  rw [List.take_add_one, h]; rfl

/-! ### numbering by first coming -/
section
variable {α : Type} [DecidableEq α] {β : Type} [DecidableEq β]
def nub (ks : List α) : List α := ks.foldl (fun a k => if k ∈ a then a else a ++ [k]) []
theorem nub_snoc (ks : List α) (k : α) : nub (ks ++ [k]) = if k ∈ nub ks then nub ks else nub ks ++ [k] := by
  unfold nub
  rw [List.foldl_append]
  rfl
theorem mem_nub (ks : List α) : ∀ x, x ∈ nub ks ↔ x ∈ ks := by
  refine snoc_ind (P := fun ks => ∀ x, x ∈ nub ks ↔ x ∈ ks) (fun x => Iff.rfl) (fun l a ih x => ?_) ks
  rw [nub_snoc]
  by_cases h : a ∈ nub l
  · rw [if_pos h, ih x, List.mem_append, List.mem_singleton]
    refine ⟨.inl, fun q => ?_⟩
    rcases q with q | q
    · exact q
    · subst q; exact (ih x).mp h
  · rw [if_neg h, List.mem_append, List.mem_append, ih x]
theorem nub_nodup (ks : List α) : (nub ks).Nodup := by
  refine snoc_ind (P := fun ks => (nub ks).Nodup) List.nodup_nil (fun l a ih => ?_) ks
  rw [nub_snoc]
  by_cases h : a ∈ nub l
  · rw [if_pos h]; exact ih
  · rw [if_neg h, List.nodup_append]
    refine ⟨ih, by simp, fun x hx y hy => ?_⟩
    rw [List.mem_singleton] at hy
    subst hy
    exact fun e => h (e ▸ hx)
/-- the numbers that first_come_numbers gives -/
def fc (ks : List α) : List Nat := ks.map fun k => (nub ks).idxOf k
theorem fc_length (ks : List α) : (fc ks).length = ks.length := by unfold fc; rw [List.length_map]
theorem idxOf_nub_snoc {ks : List α} {a x : α} (h : x ∈ ks) : (nub (ks ++ [a])).idxOf x = (nub ks).idxOf x := by
  rw [nub_snoc]
  split
  · rfl
  · rw [List.idxOf_append, if_pos ((mem_nub ks x).mpr h)]
theorem fc_snoc (ks : List α) (k : α) : fc (ks ++ [k]) = fc ks ++ [if k ∈ ks then (nub ks).idxOf k else (nub ks).length] := by
  unfold fc
  rw [List.map_append]
  have e1 : ks.map (fun x => (nub (ks ++ [k])).idxOf x) = ks.map fun x => (nub ks).idxOf x := List.map_congr_left fun x hx => idxOf_nub_snoc hx
  rw [e1]
  congr 1
  rw [List.map_singleton]
  congr 1
  by_cases h : k ∈ ks
  · rw [if_pos h, idxOf_nub_snoc h]
  · have h' : k ∉ nub ks := fun q => h ((mem_nub ks k).mp q)
    rw [if_neg h, nub_snoc, if_neg h', List.idxOf_append, if_neg h']
    simp
theorem fc_eq_iff {ks : List α} {i j : Nat} {a b : α} (hi : ks[i]? = some a) (hj : ks[j]? = some b) : (fc ks)[i]? = (fc ks)[j]? ↔ a = b := by
  unfold fc
  rw [List.getElem?_map, List.getElem?_map, hi, hj, Option.map_some, Option.map_some]
  refine ⟨fun e => ?_, fun e => by rw [e]⟩
  have e := Option.some.inj e
  have ma := (mem_nub ks a).mpr (List.mem_of_getElem? hi)
  have mb := (mem_nub ks b).mpr (List.mem_of_getElem? hj)
  have ha := List.idxOf_lt_length_of_mem ma
  have g1 := List.getElem_idxOf ha
  have hb := List.idxOf_lt_length_of_mem mb
  have g2 := List.getElem_idxOf hb
  rw [← g1, ← g2]
  congr 1
/-- the numbering goes by the kernel alone -/
theorem fc_kernel (ks : List α) : ∀ ls : List β, ls.length = ks.length → (∀ (i j : Nat) a b c d, ks[i]? = some a → ks[j]? = some b → ls[i]? = some c → ls[j]? = some d → (a = b ↔ c = d)) → fc ks = fc ls ∧ (nub ks).length = (nub ls).length := by
  refine snoc_ind (P := fun ks : List α => ∀ ls : List β, ls.length = ks.length → (∀ (i j : Nat) a b c d, ks[i]? = some a → ks[j]? = some b → ls[i]? = some c → ls[j]? = some d → (a = b ↔ c = d)) → fc ks = fc ls ∧ (nub ks).length = (nub ls).length) ?_ ?_ ks
  · intro ls hl _
    have : ls = [] := List.length_eq_zero_iff.mp hl
    subst this
    exact ⟨rfl, rfl⟩
  · intro ks k ih ls hl hk
    have hne : ls ≠ [] := fun e => by subst e; simp at hl
    obtain ⟨ms, m, rfl⟩ : ∃ ms m, ls = ms ++ [m] := ⟨_, _, (List.dropLast_concat_getLast hne).symm⟩
    have hl2 : ms.length = ks.length := by simpa using hl
    have lift : ∀ {γ : Type} (l : List γ) (x : γ) (i : Nat) (y : γ), l[i]? = some y → (l ++ [x])[i]? = some y := fun l x i y h => by
      rw [List.getElem?_append_left (List.getElem?_eq_some_iff.mp h).1]; exact h
    have lastg : ∀ {γ : Type} (l : List γ) (x : γ), (l ++ [x])[l.length]? = some x := fun l x => by simp
    obtain ⟨e1, e2⟩ := ih ms hl2 fun i j a b c d h1 h2 h3 h4 => hk i j a b c d (lift _ _ _ _ h1) (lift _ _ _ _ h2) (lift _ _ _ _ h3) (lift _ _ _ _ h4)
    have hmem : k ∈ ks ↔ m ∈ ms := by
      constructor
      · intro h
        obtain ⟨i, hi, e⟩ := List.getElem_of_mem h
        have g : ks[i]? = some k := by rw [List.getElem?_eq_getElem hi, e]
        have hi' : i < ms.length := by omega
        have q := (hk i ks.length k k ms[i] m (lift _ _ _ _ g) (lastg _ _) (lift _ _ _ _ (List.getElem?_eq_getElem hi')) (by rw [← hl2]; exact lastg _ _)).mp rfl
        rw [← q]
        exact List.getElem_mem hi'
      · intro h
        obtain ⟨i, hi, e⟩ := List.getElem_of_mem h
        have g : ms[i]? = some m := by rw [List.getElem?_eq_getElem hi, e]
        have hi' : i < ks.length := by omega
        have q := (hk i ks.length ks[i] k m m (lift _ _ _ _ (List.getElem?_eq_getElem hi')) (lastg _ _) (lift _ _ _ _ g) (by rw [← hl2]; exact lastg _ _)).mpr rfl
        rw [← q]
        exact List.getElem_mem hi'
    rw [fc_snoc, fc_snoc, nub_snoc, nub_snoc, e1]
    by_cases h : k ∈ ks
    · have h' := hmem.mp h
      rw [if_pos h, if_pos h', if_pos ((mem_nub ks k).mpr h), if_pos ((mem_nub ms m).mpr h')]
      refine ⟨?_, e2⟩
      congr 2
      obtain ⟨i, hi, e⟩ := List.getElem_of_mem h
      have hi' : i < ms.length := by omega
      have g : ks[i]? = some k := by rw [List.getElem?_eq_getElem hi, e]
      have q := (hk i ks.length k k ms[i] m (lift _ _ _ _ g) (lastg _ _) (lift _ _ _ _ (List.getElem?_eq_getElem hi')) (by rw [← hl2]; exact lastg _ _)).mp rfl
      have f1 : (fc ks)[i]? = some ((nub ks).idxOf k) := by unfold fc; rw [List.getElem?_map, g]; rfl
      have f2 : (fc ms)[i]? = some ((nub ms).idxOf m) := by unfold fc; rw [List.getElem?_map, List.getElem?_eq_getElem hi', q]; rfl
      rw [e1, f2] at f1
      exact (Option.some.inj f1).symm
    · have h' : m ∉ ms := fun q => h (hmem.mpr q)
      rw [if_neg h, if_neg h', if_neg (fun q => h ((mem_nub ks k).mp q)), if_neg (fun q => h' ((mem_nub ms m).mp q)), e2]
      refine ⟨rfl, ?_⟩
      rw [List.length_append, List.length_append, e2]
      rfl
end
end M1
namespace M1
/-! ### machines -/
/-- steps and answers: for each state a row, for each letter an item -/
structure Mach where
  st : List (List Nat)
  an : List (List Nat)
def Mach.n (M : Mach) : Nat := M.st.length
def Mach.k (M : Mach) : Nat := (M.st.getD 0 []).length
structure Mach.Ok (M : Mach) : Prop where
  n1 : 1 ≤ M.st.length
  n6 : M.st.length ≤ 6
  k1 : 1 ≤ M.k
  k3 : M.k ≤ 3
  la : M.an.length = M.st.length
  rs : ∀ r ∈ M.st, r.length = M.k ∧ ∀ x ∈ r, x < M.st.length
  ra : ∀ r ∈ M.an, r.length = M.k ∧ ∀ x ∈ r, x ≤ 9
def Mach.row (M : Mach) (i : Nat) : List Nat := M.st.getD i []
def Mach.ans (M : Mach) (i : Nat) : List Nat := M.an.getD i []
def Mach.go (M : Mach) (i a : Nat) : Nat := (M.row i).getD a 0
def Mach.out (M : Mach) (i a : Nat) : Nat := (M.ans i).getD a 0
section
variable {M : Mach}
theorem Mach.row_at {i : Nat} (h : i < M.st.length) : M.st[i]? = some (M.row i) := by
  unfold Mach.row
  rw [List.getD_eq_getElem?_getD, List.getElem?_eq_getElem h]
  rfl
theorem Mach.ans_at (ok : M.Ok) {i : Nat} (h : i < M.st.length) : M.an[i]? = some (M.ans i) := by
  have h' : i < M.an.length := by rw [ok.la]; exact h
  unfold Mach.ans
  rw [List.getD_eq_getElem?_getD, List.getElem?_eq_getElem h']
  rfl
theorem Mach.row_len (ok : M.Ok) {i : Nat} (h : i < M.st.length) : (M.row i).length = M.k := (ok.rs _ (List.mem_of_getElem? (M.row_at h))).1
theorem Mach.ans_len (ok : M.Ok) {i : Nat} (h : i < M.st.length) : (M.ans i).length = M.k := (ok.ra _ (List.mem_of_getElem? (M.ans_at ok h))).1
theorem Mach.go_at (ok : M.Ok) {i a : Nat} (h : i < M.st.length) (ha : a < M.k) : (M.row i)[a]? = some (M.go i a) := by
  have h' : a < (M.row i).length := by rw [M.row_len ok h]; exact ha
  unfold Mach.go
  rw [List.getD_eq_getElem?_getD, List.getElem?_eq_getElem h']
  rfl
theorem Mach.out_at (ok : M.Ok) {i a : Nat} (h : i < M.st.length) (ha : a < M.k) : (M.ans i)[a]? = some (M.out i a) := by
  have h' : a < (M.ans i).length := by rw [M.ans_len ok h]; exact ha
  unfold Mach.out
  rw [List.getD_eq_getElem?_getD, List.getElem?_eq_getElem h']
  rfl
theorem Mach.go_lt (ok : M.Ok) {i a : Nat} (h : i < M.st.length) (ha : a < M.k) : M.go i a < M.st.length :=
  (ok.rs _ (List.mem_of_getElem? (M.row_at h))).2 _ (List.mem_of_getElem? (M.go_at ok h ha))
theorem Mach.row_mem (ok : M.Ok) {i x : Nat} (h : i < M.st.length) (hx : x ∈ M.row i) : x < M.st.length := (ok.rs _ (List.mem_of_getElem? (M.row_at h))).2 x hx

/-- what a bisimulation asks -/
def Mach.Bis (M : Mach) (R : Nat → Nat → Prop) : Prop := ∀ x y, R x y → x < M.st.length ∧ y < M.st.length ∧ M.ans x = M.ans y ∧ ∀ a, a < M.k → R (M.go x a) (M.go y a)
/-- from both states every word is answered alike -/
def Mach.Eqv (M : Mach) (i j : Nat) : Prop := ∃ R : Nat → Nat → Prop, R i j ∧ M.Bis R
theorem Mach.Eqv.bis : M.Bis M.Eqv := fun x y ⟨R, h, b⟩ => ⟨(b x y h).1, (b x y h).2.1, (b x y h).2.2.1, fun a ha => ⟨R, (b x y h).2.2.2 a ha, b⟩⟩
theorem Mach.Eqv.refl (ok : M.Ok) {i : Nat} (h : i < M.st.length) : M.Eqv i i :=
  ⟨fun x y => x = y ∧ x < M.st.length, ⟨rfl, h⟩, fun x y ⟨e, hx⟩ => by subst e; exact ⟨hx, hx, rfl, fun a ha => ⟨rfl, M.go_lt ok hx ha⟩⟩⟩
theorem Mach.Eqv.symm {i j : Nat} (h : M.Eqv i j) : M.Eqv j i := by
  obtain ⟨R, h, b⟩ := h
  exact ⟨fun x y => R y x, h, fun x y q => ⟨(b y x q).2.1, (b y x q).1, (b y x q).2.2.1.symm, fun a ha => (b y x q).2.2.2 a ha⟩⟩
theorem Mach.Eqv.trans {i j k : Nat} (h : M.Eqv i j) (h' : M.Eqv j k) : M.Eqv i k :=
  ⟨fun x y => ∃ z, M.Eqv x z ∧ M.Eqv z y, ⟨j, h, h'⟩, fun x y ⟨z, p, q⟩ => by
    obtain ⟨a1, _, a3, a4⟩ := Mach.Eqv.bis x z p
    obtain ⟨_, b2, b3, b4⟩ := Mach.Eqv.bis z y q
    exact ⟨a1, b2, a3.trans b3, fun a ha => ⟨_, a4 a ha, b4 a ha⟩⟩⟩
end
open Classical in
/-- the same, told -/
noncomputable def Mach.eqv (M : Mach) (i j : Nat) : Bool := decide (M.Eqv i j)
theorem Mach.eqv_iff {M : Mach} {i j : Nat} : M.eqv i j = true ↔ M.Eqv i j := by
  unfold Mach.eqv
  simp

/-! ### partition refinement: alike_classes -/
/-- a state's key at a turn: its class and its row's classes -/
def Mach.key (M : Mach) (c : List Nat) (i : Nat) : Nat × List Nat := (c.getD i 0, (M.row i).map fun x => c.getD x 0)
def Mach.keys (M : Mach) (c : List Nat) : List (Nat × List Nat) := (List.range M.st.length).map (M.key c)
/-- the classes are coarser than being alike, and part what is answered unlike; they are numbered as they come -/
structure Mach.Cls (M : Mach) (c : List Nat) : Prop where
  len : c.length = M.st.length
  lt : ∀ x ∈ c, x < M.st.length
  coarse : ∀ i j, M.Eqv i j → c.getD i 0 = c.getD j 0
  part : ∀ i j, i < M.st.length → j < M.st.length → c.getD i 0 = c.getD j 0 → M.ans i = M.ans j
  num : fc c = c
theorem fc_fc {α : Type} [DecidableEq α] (ks : List α) : fc (fc ks) = fc ks := by
  refine (fc_kernel ks (fc ks) (fc_length ks) fun i j a b c d h1 h2 h3 h4 => ?_).1.symm
  rw [← fc_eq_iff h1 h2, h3, h4]
  exact ⟨fun e => Option.some.inj e, fun e => by rw [e]⟩
theorem fc_lt {α : Type} [DecidableEq α] (ks : List α) : ∀ x ∈ fc ks, x < ks.length := fun x hx => by
  unfold fc at hx
  obtain ⟨k, hk, e⟩ := List.mem_map.mp hx
  have h1 := List.idxOf_lt_length_of_mem ((mem_nub ks k).mpr hk)
  have h2 : (nub ks).length ≤ ks.length := nodup_le (nub_nodup ks) fun y hy => (mem_nub ks y).mp hy
  omega
theorem getD_of {α : Type} {l : List α} {i : Nat} {x d : α} (h : l[i]? = some x) : l.getD i d = x := by rw [List.getD_eq_getElem?_getD, h]; rfl
theorem getD_at {α : Type} {l : List α} {i : Nat} {d : α} (h : i < l.length) : l[i]? = some (l.getD i d) := by
  rw [List.getD_eq_getElem?_getD, List.getElem?_eq_getElem h]
  rfl
section
variable {M : Mach}
theorem fc_getD {α : Type} [DecidableEq α] {ks : List α} {i j : Nat} {a b : α} (hi : ks[i]? = some a) (hj : ks[j]? = some b) : (fc ks).getD i 0 = (fc ks).getD j 0 ↔ a = b := by
  have h1 : i < (fc ks).length := by rw [fc_length]; exact (List.getElem?_eq_some_iff.mp hi).1
  have h2 : j < (fc ks).length := by rw [fc_length]; exact (List.getElem?_eq_some_iff.mp hj).1
  rw [← fc_eq_iff hi hj, getD_at (d := 0) h1, getD_at (d := 0) h2]
  exact ⟨fun e => by rw [e], fun e => Option.some.inj e⟩
theorem Mach.Cls.first (ok : M.Ok) : M.Cls (fc M.an) where
  len := by rw [fc_length, ok.la]
  lt := fun x hx => by rw [← ok.la]; exact fc_lt _ x hx
  coarse := fun i j h => by
    obtain ⟨hi, hj, e, _⟩ := Mach.Eqv.bis i j h
    exact (fc_getD (M.ans_at ok hi) (M.ans_at ok hj)).mpr e
  part := fun i j hi hj e => (fc_getD (M.ans_at ok hi) (M.ans_at ok hj)).mp e
  num := fc_fc _
theorem Mach.keys_at {c : List Nat} {i : Nat} (h : i < M.st.length) : (M.keys c)[i]? = some (M.key c i) := by
  unfold Mach.keys
  rw [List.getElem?_map, List.getElem?_range h]
  rfl
theorem Mach.keys_len {c : List Nat} : (M.keys c).length = M.st.length := by unfold Mach.keys; rw [List.length_map, List.length_range]
theorem map_ext_at {α β : Type} {f : α → β} {l m : List α} (hl : l.length = m.length) (h : ∀ (i : Nat) a b, l[i]? = some a → m[i]? = some b → f a = f b) : l.map f = m.map f := by
  refine List.ext_getElem? fun i => ?_
  rw [List.getElem?_map, List.getElem?_map]
  by_cases hi : i < l.length
  · have hi' : i < m.length := by omega
    rw [List.getElem?_eq_getElem hi, List.getElem?_eq_getElem hi', Option.map_some, Option.map_some, h i _ _ (List.getElem?_eq_getElem hi) (List.getElem?_eq_getElem hi')]
  · rw [List.getElem?_eq_none (by omega), List.getElem?_eq_none (by omega)]
theorem Mach.Cls.next (ok : M.Ok) {c : List Nat} (C : M.Cls c) : M.Cls (fc (M.keys c)) where
  len := by rw [fc_length, M.keys_len]
  lt := fun x hx => by have := fc_lt _ x hx; rwa [M.keys_len] at this
  coarse := fun i j h => by
    obtain ⟨hi, hj, e, g⟩ := Mach.Eqv.bis i j h
    refine (fc_getD (M.keys_at hi) (M.keys_at hj)).mpr ?_
    unfold Mach.key
    rw [C.coarse i j h]
    congr 1
    refine List.ext_getElem? fun a => ?_
    rw [List.getElem?_map, List.getElem?_map]
    by_cases ha : a < M.k
    · rw [M.go_at ok hi ha, M.go_at ok hj ha, Option.map_some, Option.map_some, C.coarse _ _ (g a ha)]
    · rw [List.getElem?_eq_none (by rw [M.row_len ok hi]; omega), List.getElem?_eq_none (by rw [M.row_len ok hj]; omega)]
  part := fun i j hi hj e => by
    have q := (fc_getD (M.keys_at hi) (M.keys_at hj)).mp e
    exact C.part i j hi hj (Prod.mk.inj q).1
  num := fc_fc _
/-- at the end -/
theorem Mach.Cls.done (ok : M.Ok) {c : List Nat} (C : M.Cls c) (e : fc (M.keys c) = c) {i j : Nat} (hi : i < M.st.length) (hj : j < M.st.length) : c.getD i 0 = c.getD j 0 ↔ M.Eqv i j := by
  refine ⟨fun h => ⟨fun x y => x < M.st.length ∧ y < M.st.length ∧ c.getD x 0 = c.getD y 0, ⟨hi, hj, h⟩, fun x y ⟨hx, hy, q⟩ => ⟨hx, hy, C.part x y hx hy q, fun a ha => ⟨M.go_lt ok hx ha, M.go_lt ok hy ha, ?_⟩⟩⟩, C.coarse i j⟩
  have q2 : (fc (M.keys c)).getD x 0 = (fc (M.keys c)).getD y 0 := by rw [e]; exact q
  have q3 := (Prod.mk.inj ((fc_getD (M.keys_at hx) (M.keys_at hy)).mp q2)).2
  have q4 := congrArg (fun l => l[a]?) q3
  simp only [List.getElem?_map] at q4
  rw [M.go_at ok hx ha, M.go_at ok hy ha, Option.map_some, Option.map_some] at q4
  exact Option.some.inj q4
/-- what falls: the pairs of one class -/
def pairsN (n : Nat) : List (Nat × Nat) := (List.range n).flatMap fun i => (List.range n).map fun j => (i, j)
theorem mem_pairsN {n : Nat} {p : Nat × Nat} : p ∈ pairsN n ↔ p.1 < n ∧ p.2 < n := by
  unfold pairsN
  rw [List.mem_flatMap]
  constructor
  · rintro ⟨i, hi, h⟩
    obtain ⟨j, hj, rfl⟩ := List.mem_map.mp h
    exact ⟨List.mem_range.mp hi, List.mem_range.mp hj⟩
  · rintro ⟨h1, h2⟩
    exact ⟨p.1, List.mem_range.mpr h1, List.mem_map.mpr ⟨p.2, List.mem_range.mpr h2, rfl⟩⟩
theorem pairsN_len (n : Nat) : (pairsN n).length = n * n := by
  unfold pairsN
  have h : ∀ l : List Nat, (l.flatMap fun i => (List.range n).map fun j => (i, j)).length = l.length * n := by
    intro l
    induction l with
    | nil => simp
    | cons a l ih => rw [List.flatMap_cons, List.length_append, ih, List.length_map, List.length_range, List.length_cons, Nat.add_mul, Nat.one_mul]; omega
  rw [h, List.length_range]
def meas (n : Nat) (c : List Nat) : Nat := ((pairsN n).filter fun p => decide (c.getD p.1 0 = c.getD p.2 0)).length
theorem filter_lt {α : Type} {p q : α → Bool} : ∀ {l : List α}, (∀ x ∈ l, p x = true → q x = true) → (∃ x ∈ l, q x = true ∧ p x = false) → (l.filter p).length < (l.filter q).length
  | [], _, ⟨x, hx, _⟩ => by simp at hx
  | a :: l, h, ⟨x, hx, h1, h2⟩ => by
    have hle : (l.filter p).length ≤ (l.filter q).length := by
      have : ∀ l : List α, (∀ x ∈ l, p x = true → q x = true) → (l.filter p).length ≤ (l.filter q).length := by
        intro l
        induction l with
        | nil => intro _; simp
        | cons b l ih =>
          intro hb
          have ih := ih fun x hx => hb x (List.mem_cons_of_mem _ hx)
          rw [List.filter_cons, List.filter_cons]
          by_cases e : p b = true
          · rw [if_pos e, if_pos (hb b List.mem_cons_self e), List.length_cons, List.length_cons]; omega
          · rw [if_neg e]
            split
            · rw [List.length_cons]; omega
            · exact ih
      exact this l fun x hx => h x (List.mem_cons_of_mem _ hx)
    rw [List.filter_cons, List.filter_cons]
    rcases List.mem_cons.mp hx with e | hx
    · subst e
      rw [if_pos h1, if_neg (by rw [h2]; decide), List.length_cons]
      omega
    · have ih := filter_lt (l := l) (fun x hx => h x (List.mem_cons_of_mem _ hx)) ⟨x, hx, h1, h2⟩
      by_cases e : p a = true
      · rw [if_pos e, if_pos (h a List.mem_cons_self e), List.length_cons, List.length_cons]; omega
      · rw [if_neg e]
        split
        · rw [List.length_cons]; omega
        · exact ih
theorem Mach.Cls.fall {c : List Nat} (C : M.Cls c) (e : fc (M.keys c) ≠ c) : meas M.st.length (fc (M.keys c)) < meas M.st.length c := by
  have fine : ∀ i j, i < M.st.length → j < M.st.length → (fc (M.keys c)).getD i 0 = (fc (M.keys c)).getD j 0 → c.getD i 0 = c.getD j 0 := fun i j hi hj q =>
    (Prod.mk.inj ((fc_getD (M.keys_at hi) (M.keys_at hj)).mp q)).1
  refine filter_lt (fun p hp q => ?_) ?_
  · obtain ⟨h1, h2⟩ := mem_pairsN.mp hp
    exact decide_eq_true (fine _ _ h1 h2 (of_decide_eq_true q))
  · refine Classical.byContradiction fun hno => e ?_
    have all : ∀ i j, i < M.st.length → j < M.st.length → c.getD i 0 = c.getD j 0 → (fc (M.keys c)).getD i 0 = (fc (M.keys c)).getD j 0 := fun i j hi hj q => by
      refine Classical.byContradiction fun hn => hno ⟨(i, j), mem_pairsN.mpr ⟨hi, hj⟩, decide_eq_true q, decide_eq_false hn⟩
    have h := (fc_kernel c (M.keys c) (by rw [M.keys_len, C.len]) fun i j a b x y h1 h2 h3 h4 => ?_).1
    · rw [← h]; exact C.num
    · have hi : i < M.st.length := by have := (List.getElem?_eq_some_iff.mp h1).1; rwa [C.len] at this
      have hj : j < M.st.length := by have := (List.getElem?_eq_some_iff.mp h2).1; rwa [C.len] at this
      have f := fc_getD h3 h4
      rw [← f]
      have ga := getD_of (d := 0) h1
      have gb := getD_of (d := 0) h2
      constructor
      · intro q
        exact all i j hi hj (by rw [ga, gb, q])
      · intro q
        have := fine i j hi hj q
        rw [ga, gb] at this
        exact this
end
end M1
namespace M1
/-! ### the table of pairs: _law_unlike -/
/-- what a turn asks of a pair, the table being ps -/
def Mach.unl (M : Mach) (ps : List (Nat × Nat)) (p : Nat × Nat) : Prop := M.ans p.1 ≠ M.ans p.2 ∨ ∃ a, a < M.k ∧ (M.go p.1 a, M.go p.2 a) ∈ ps
noncomputable instance {M : Mach} {ps : List (Nat × Nat)} {p : Nat × Nat} : Decidable (M.unl ps p) := Classical.propDecidable _
def addP (ps : List (Nat × Nat)) (p : Nat × Nat) : List (Nat × Nat) := if p ∈ ps then ps else ps ++ [p]
section
variable {M : Mach}
/-- the table's pairs are states that are not alike; each once -/
structure Mach.Tab (M : Mach) (ps : List (Nat × Nat)) : Prop where
  nd : ps.Nodup
  lt : ∀ p ∈ ps, p.1 < M.st.length ∧ p.2 < M.st.length
  sound : ∀ p ∈ ps, ¬ M.Eqv p.1 p.2
theorem Mach.Tab.nil : M.Tab [] := ⟨List.nodup_nil, fun _ h => by simp at h, fun _ h => by simp at h⟩
theorem Mach.Tab.add {ps : List (Nat × Nat)} {p : Nat × Nat} (T : M.Tab ps) (h1 : p.1 < M.st.length) (h2 : p.2 < M.st.length) (h : M.unl ps p) : M.Tab (addP ps p) := by
  unfold addP
  by_cases hm : p ∈ ps
  · rw [if_pos hm]; exact T
  · rw [if_neg hm]
    refine ⟨?_, fun q hq => ?_, fun q hq => ?_⟩
    · rw [List.nodup_append]
      refine ⟨T.nd, by simp, fun x hx y hy e => ?_⟩
      rw [List.mem_singleton] at hy
      subst hy e
      exact hm hx
    · rcases List.mem_append.mp hq with hq | hq
      · exact T.lt q hq
      · rw [List.mem_singleton] at hq; subst hq; exact ⟨h1, h2⟩
    · rcases List.mem_append.mp hq with hq | hq
      · exact T.sound q hq
      · rw [List.mem_singleton] at hq
        subst hq
        intro e
        obtain ⟨_, _, e1, e2⟩ := Mach.Eqv.bis _ _ e
        rcases h with h | ⟨a, ha, h⟩
        · exact h e1
        · exact T.sound _ h (e2 a ha)
theorem addP_len (ps : List (Nat × Nat)) (p : Nat × Nat) : ps.length ≤ (addP ps p).length := by
  unfold addP
  split
  · exact Nat.le_refl _
  · rw [List.length_append]; omega
theorem addP_sub {ps : List (Nat × Nat)} {p : Nat × Nat} : ∀ q ∈ ps, q ∈ addP ps p := fun q hq => by
  unfold addP
  split
  · exact hq
  · exact List.mem_append_left _ hq
theorem addP_mem {ps : List (Nat × Nat)} {p : Nat × Nat} : p ∈ addP ps p := by
  unfold addP
  split
  · assumption
  · exact List.mem_append_right _ (List.mem_singleton.mpr rfl)
theorem Mach.unl.mono {ps qs : List (Nat × Nat)} {p : Nat × Nat} (s : ∀ q ∈ ps, q ∈ qs) (h : M.unl ps p) : M.unl qs p := by
  rcases h with h | ⟨a, ha, h⟩
  · exact .inl h
  · exact .inr ⟨a, ha, s _ h⟩
/-- all that are not alike are in -/
def Mach.Full (M : Mach) (ps : List (Nat × Nat)) : Prop := ∀ i j, i < M.st.length → j < M.st.length → ¬ M.Eqv i j → (i, j) ∈ ps
theorem Mach.full_of (ok : M.Ok) {ps : List (Nat × Nat)} (h : ∀ p, p.1 < M.st.length → p.2 < M.st.length → M.unl ps p → p ∈ ps) : M.Full ps := fun i j hi hj hn => by
  refine Classical.byContradiction fun hm => hn ⟨fun x y => x < M.st.length ∧ y < M.st.length ∧ (x, y) ∉ ps, ⟨hi, hj, hm⟩, fun x y ⟨hx, hy, q⟩ => ⟨hx, hy, ?_, fun a ha => ⟨M.go_lt ok hx ha, M.go_lt ok hy ha, fun r => q (h _ hx hy (.inr ⟨a, ha, r⟩))⟩⟩⟩
  exact Classical.byContradiction fun r => q (h _ hx hy (.inl r))
/-- the table as the turns go: t of them done -/
def Mach.Turns (M : Mach) (t : Nat) (ps : List (Nat × Nat)) : Prop := M.Tab ps ∧ (M.Full ps ∨ t ≤ ps.length)
/-- within a turn: begun with ps, the pairs ahead of those of one's row i and other j done -/
def Mach.In (M : Mach) (ps : List (Nat × Nat)) (i j : Nat) (qs : List (Nat × Nat)) : Prop :=
  M.Tab qs ∧ (∃ more, qs = ps ++ more) ∧ ∀ p : Nat × Nat, p.1 < M.st.length → p.2 < M.st.length → (p.1 < i ∨ p.1 = i ∧ p.2 < j) → M.unl ps p → p ∈ qs
theorem Mach.In.first {t : Nat} {ps : List (Nat × Nat)} (h : M.Turns t ps) : M.In ps 0 0 ps := ⟨h.1, ⟨[], by simp⟩, fun p _ _ h => by omega⟩
theorem Mach.In.more {ps qs : List (Nat × Nat)} {i j : Nat} (h : M.In ps i j qs) : ∀ q ∈ ps, q ∈ qs := fun q hq => by
  obtain ⟨m, e⟩ := h.2.1
  rw [e]
  exact List.mem_append_left _ hq
theorem Mach.In.add {ps qs : List (Nat × Nat)} {i j : Nat} (h : M.In ps i j qs) (hi : i < M.st.length) (hj : j < M.st.length) (u : M.unl qs (i, j)) : M.In ps i (j + 1) (addP qs (i, j)) := by
  obtain ⟨T, ⟨more, e⟩, k⟩ := h
  refine ⟨T.add hi hj u, ?_, fun p h1 h2 h3 h4 => ?_⟩
  · unfold addP
    split
    · exact ⟨more, e⟩
    · exact ⟨more ++ [(i, j)], by rw [e, List.append_assoc]⟩
  · by_cases ep : p = (i, j)
    · rw [ep]; exact addP_mem
    · refine addP_sub _ (k p h1 h2 ?_ h4)
      rcases h3 with h3 | ⟨h3, h5⟩
      · exact .inl h3
      · refine .inr ⟨h3, ?_⟩
        have : p.2 ≠ j := fun e => ep (by rw [← h3, ← e])
        omega
theorem Mach.In.skip {ps qs : List (Nat × Nat)} {i j : Nat} (h : M.In ps i j qs) (u : ¬ M.unl qs (i, j)) : M.In ps i (j + 1) qs := by
  have hs := h.more
  obtain ⟨T, me, k⟩ := h
  refine ⟨T, me, fun p h1 h2 h3 h4 => k p h1 h2 ?_ h4⟩
  rcases h3 with h3 | ⟨h3, h5⟩
  · exact .inl h3
  · refine .inr ⟨h3, ?_⟩
    have : p.2 ≠ j := fun e => u (by
      have ep : p = (i, j) := by rw [← h3, ← e]
      rw [← ep]
      exact h4.mono hs)
    omega
theorem Mach.In.row {ps qs : List (Nat × Nat)} {i : Nat} (h : M.In ps i M.st.length qs) : M.In ps (i + 1) 0 qs := by
  obtain ⟨T, me, k⟩ := h
  refine ⟨T, me, fun p h1 h2 h3 h4 => k p h1 h2 ?_ h4⟩
  rcases h3 with h3 | ⟨h3, h5⟩
  · by_cases e : p.1 = i
    · exact .inr ⟨e, h2⟩
    · exact .inl (by omega)
  · omega
theorem Mach.In.turn (ok : M.Ok) {t : Nat} {ps qs : List (Nat × Nat)} (h0 : M.Turns t ps) (h : M.In ps M.st.length 0 qs) : M.Turns (t + 1) qs := by
  have hs := h.more
  obtain ⟨T, ⟨more, e⟩, k⟩ := h
  refine ⟨T, ?_⟩
  rcases h0.2 with f | f
  · exact .inl fun i j hi hj hn => hs _ (f i j hi hj hn)
  · by_cases hm : more = []
    · subst hm
      rw [List.append_nil] at e
      subst e
      exact .inl (M.full_of ok fun p h1 h2 h4 => k p h1 h2 (.inl h1) h4)
    · refine .inr ?_
      rw [e, List.length_append]
      have := List.length_pos_iff.mpr hm
      omega
theorem Mach.Turns.done {ps : List (Nat × Nat)} (h : M.Turns (M.st.length * M.st.length + 1) ps) : M.Full ps := by
  rcases h.2 with f | f
  · exact f
  · have h1 := nodup_le h.1.nd (m := pairsN M.st.length) fun p hp => mem_pairsN.mpr (h.1.lt p hp)
    rw [pairsN_len] at h1
    omega
/-- in the table at the end: not alike -/
theorem Mach.Turns.iff {ps : List (Nat × Nat)} (h : M.Turns (M.st.length * M.st.length + 1) ps) {i j : Nat} (hi : i < M.st.length) (hj : j < M.st.length) : (i, j) ∈ ps ↔ M.eqv i j = false := by
  have e : M.eqv i j = false ↔ ¬ M.Eqv i j := by rw [← Mach.eqv_iff]; simp
  rw [e]
  exact ⟨h.1.sound (i, j), h.done i j hi hj⟩

/-! ### the states by first coming -/
/-- a row's states taken in: those that are alike to none -/
noncomputable def Mach.grow1 (M : Mach) (o : List Nat) (x : Nat) : List Nat := if (o.any fun y => M.eqv y x) = true then o else o ++ [x]
noncomputable def Mach.grow (M : Mach) (o : List Nat) (r : List Nat) : List Nat := r.foldl M.grow1 o
noncomputable def Mach.ord (M : Mach) : Nat → List Nat
  | 0 => [0]
  | i + 1 => match (M.ord i)[i]? with
    | some s => M.grow (M.ord i) (M.row s)
    | none => M.ord i
/-- states, no two of them alike -/
structure Mach.Apart (M : Mach) (o : List Nat) : Prop where
  lt : ∀ x ∈ o, x < M.st.length
  ap : o.Pairwise fun x y => ¬ M.Eqv x y
theorem Mach.grow1_pre (o : List Nat) (x : Nat) : ∃ m, M.grow1 o x = o ++ m := by
  unfold Mach.grow1
  split
  · exact ⟨[], by simp⟩
  · exact ⟨[x], rfl⟩
theorem Mach.grow_pre (r : List Nat) : ∀ o : List Nat, ∃ m, M.grow o r = o ++ m := by
  induction r with
  | nil => exact fun o => ⟨[], by simp [Mach.grow]⟩
  | cons x r ih =>
    intro o
    obtain ⟨m, e⟩ := M.grow1_pre o x
    obtain ⟨m', e'⟩ := ih (M.grow1 o x)
    exact ⟨m ++ m', by show M.grow (M.grow1 o x) r = _; rw [e', e, List.append_assoc]⟩
theorem Mach.grow1_apart {o : List Nat} (A : M.Apart o) {x : Nat} (hx : x < M.st.length) : M.Apart (M.grow1 o x) := by
  unfold Mach.grow1
  by_cases h : (o.any fun y => M.eqv y x) = true
  · rw [if_pos h]; exact A
  · rw [if_neg h]
    refine ⟨fun y hy => ?_, ?_⟩
    · rcases List.mem_append.mp hy with hy | hy
      · exact A.lt y hy
      · rw [List.mem_singleton] at hy; subst hy; exact hx
    · rw [List.pairwise_append]
      refine ⟨A.ap, by simp, fun y hy z hz e => ?_⟩
      rw [List.mem_singleton] at hz
      subst hz
      exact h (List.any_eq_true.mpr ⟨y, hy, Mach.eqv_iff.mpr e⟩)
theorem Mach.grow_apart : ∀ {r o : List Nat}, M.Apart o → (∀ x ∈ r, x < M.st.length) → M.Apart (M.grow o r)
  | [], _, A, _ => A
  | x :: r, _, A, h => Mach.grow_apart (r := r) (M.grow1_apart A (h x List.mem_cons_self)) fun y hy => h y (List.mem_cons_of_mem _ hy)
theorem Mach.ord_apart (ok : M.Ok) : ∀ i, M.Apart (M.ord i)
  | 0 => ⟨fun x hx => by
      have : x = 0 := by simpa [Mach.ord] using hx
      subst this
      exact ok.n1, by simp [Mach.ord]⟩
  | i + 1 => by
    have A := Mach.ord_apart ok i
    unfold Mach.ord
    cases e : (M.ord i)[i]? with
    | none => exact A
    | some s => exact M.grow_apart A fun x hx => M.row_mem ok (A.lt s (List.mem_of_getElem? e)) hx
theorem Mach.Apart.le (ok : M.Ok) {o : List Nat} (A : M.Apart o) : o.length ≤ M.st.length := by
  have hn : o.Nodup := by
    refine A.ap.imp_of_mem fun {x y} hx _ h e => ?_
    subst e
    exact h (Mach.Eqv.refl ok (A.lt x hx))
  have h := nodup_le hn (m := List.range M.st.length) fun x hx => List.mem_range.mpr (A.lt x hx)
  rwa [List.length_range] at h
theorem Mach.ord_pre (i : Nat) : ∃ m, M.ord (i + 1) = M.ord i ++ m := by
  show ∃ m, (match (M.ord i)[i]? with | some s => M.grow (M.ord i) (M.row s) | none => M.ord i) = M.ord i ++ m
  cases (M.ord i)[i]? with
  | none => exact ⟨[], by simp⟩
  | some s => exact M.grow_pre _ _
theorem Mach.ord_pres (i : Nat) : ∀ d, ∃ m, M.ord (i + d) = M.ord i ++ m
  | 0 => ⟨[], by simp⟩
  | d + 1 => by
    obtain ⟨m, e⟩ := Mach.ord_pres i d
    obtain ⟨m', e'⟩ := Mach.ord_pre (M := M) (i + d)
    exact ⟨m ++ m', by rw [← Nat.add_assoc, e', e, List.append_assoc]⟩
theorem Mach.ord_step {i s : Nat} (h : (M.ord i)[i]? = some s) : M.ord (i + 1) = M.grow (M.ord i) (M.row s) := by
  show (match (M.ord i)[i]? with | some s => M.grow (M.ord i) (M.row s) | none => M.ord i) = _
  rw [h]
theorem Mach.ord_stop {i : Nat} (h : (M.ord i).length ≤ i) : ∀ d, M.ord (i + d) = M.ord i
  | 0 => rfl
  | d + 1 => by
    have ih := Mach.ord_stop h d
    have g : (M.ord (i + d))[i + d]? = none := by rw [ih]; exact List.getElem?_eq_none (by omega)
    rw [← Nat.add_assoc]
    show (match (M.ord (i + d))[i + d]? with | some s => M.grow (M.ord (i + d)) (M.row s) | none => M.ord (i + d)) = _
    rw [g]
    exact ih
/-- all of them, in the end -/
noncomputable def Mach.all (M : Mach) : List Nat := M.ord 6
theorem Mach.all_of (ok : M.Ok) {i : Nat} (h : (M.ord i).length ≤ i) : M.ord i = M.all := by
  unfold Mach.all
  have l6 := (Mach.ord_apart ok 6).le ok
  have n6 := ok.n6
  by_cases hi : i ≤ 6
  · have := Mach.ord_stop h (6 - i)
    rw [show i + (6 - i) = 6 by omega] at this
    exact this.symm
  · have := Mach.ord_stop (M := M) (i := 6) (by omega) (i - 6)
    rw [show 6 + (i - 6) = i by omega] at this
    exact this
/-- the number that a state has among o: its class's -/
noncomputable def Mach.num (M : Mach) (o : List Nat) (x : Nat) : Nat := o.findIdx fun y => M.eqv y x
/-- the least machine -/
noncomputable def Mach.least (M : Mach) : Mach := ⟨M.all.map fun s => (M.row s).map (M.num M.all), M.all.map M.ans⟩
theorem Mach.grow_has : ∀ {r o : List Nat} {x : Nat}, (∀ z ∈ r, z < M.st.length) → M.Ok → x ∈ r → ∃ y ∈ M.grow o r, M.eqv y x = true
  | z :: r, o, x, hz, ok, h => by
    rcases List.mem_cons.mp h with e | h
    · subst e
      obtain ⟨m, e2⟩ := M.grow_pre r (M.grow1 o x)
      have h1 : ∃ y ∈ M.grow1 o x, M.eqv y x = true := by
        unfold Mach.grow1
        by_cases h : (o.any fun y => M.eqv y x) = true
        · rw [if_pos h]
          obtain ⟨y, hy, q⟩ := List.any_eq_true.mp h
          exact ⟨y, hy, q⟩
        · rw [if_neg h]
          exact ⟨x, List.mem_append_right _ (List.mem_singleton.mpr rfl), Mach.eqv_iff.mpr (Mach.Eqv.refl ok (hz x List.mem_cons_self))⟩
      obtain ⟨y, hy, q⟩ := h1
      exact ⟨y, by show y ∈ M.grow (M.grow1 o x) r; rw [e2]; exact List.mem_append_left _ hy, q⟩
    · exact Mach.grow_has (r := r) (o := M.grow1 o z) (fun w hw => hz w (List.mem_cons_of_mem _ hw)) ok h
/-- a number, once there, stays -/
theorem Mach.num_pre {o m : List Nat} {x : Nat} (h : ∃ y ∈ o, M.eqv y x = true) : M.num (o ++ m) x = M.num o x := by
  unfold Mach.num
  rw [List.findIdx_append, if_pos]
  exact List.findIdx_lt_length_of_exists h
theorem Mach.num_lt {o : List Nat} {x : Nat} (h : ∃ y ∈ o, M.eqv y x = true) : M.num o x < o.length := List.findIdx_lt_length_of_exists h
theorem Mach.num_at {o : List Nat} {x : Nat} (h : ∃ y ∈ o, M.eqv y x = true) : ∃ y, o[M.num o x]? = some y ∧ M.eqv y x = true := by
  have hl := M.num_lt h
  exact ⟨_, List.getElem?_eq_getElem hl, List.findIdx_getElem (w := hl)⟩
/-- the number by which an apart list names a state is the only one -/
theorem Mach.Apart.only {o : List Nat} (A : M.Apart o) {i j : Nat} {x y z : Nat} (hi : o[i]? = some x) (hj : o[j]? = some y) (hx : M.Eqv x z) (hy : M.Eqv y z) : i = j := by
  obtain ⟨h1, e1⟩ := List.getElem?_eq_some_iff.mp hi
  obtain ⟨h2, e2⟩ := List.getElem?_eq_some_iff.mp hj
  have q := List.pairwise_iff_getElem.mp A.ap
  rcases Nat.lt_trichotomy i j with h | h | h
  · exact absurd (hx.trans hy.symm) (by have := q i j h1 h2 h; rw [e1, e2] at this; exact this)
  · exact h
  · exact absurd (hy.trans hx.symm) (by have := q j i h2 h1 h; rw [e1, e2] at this; exact this)
end
end M1
namespace M1
section
variable {M : Mach}
/-- the state to which a word leads -/
def Mach.led (M : Mach) (i : Nat) (r : List Nat) : Nat := r.foldl M.go i
/-- the answer to the letter at j -/
def Mach.tld (M : Mach) (i : Nat) (r : List Nat) (j : Nat) : Nat := M.out (M.led i (r.take j)) (r.getD j 0)
theorem Mach.led_lt (ok : M.Ok) : ∀ {r : List Nat} {i : Nat}, i < M.st.length → (∀ x ∈ r, x < M.k) → M.led i r < M.st.length
  | [], _, h, _ => h
  | a :: r, i, h, hr => Mach.led_lt ok (r := r) (i := M.go i a) (M.go_lt ok h (hr a List.mem_cons_self)) fun x hx => hr x (List.mem_cons_of_mem _ hx)
theorem Mach.led_take {i : Nat} {r : List Nat} {j a : Nat} (h : r[j]? = some a) : M.led i (r.take (j + 1)) = M.go (M.led i (r.take j)) a := by
  unfold Mach.led
  rw [take_succ' h, List.foldl_append]
  rfl
theorem fc_map {α β : Type} [DecidableEq α] [DecidableEq β] (f : α → β) (hf : ∀ a b, f a = f b → a = b) (ks : List α) : fc (ks.map f) = fc ks := by
  refine (fc_kernel (ks.map f) ks (by rw [List.length_map]) fun i j a b c d h1 h2 h3 h4 => ?_).1
  rw [List.getElem?_map, h3] at h1
  rw [List.getElem?_map, h4] at h2
  have e1 := Option.some.inj h1
  have e2 := Option.some.inj h2
  rw [← e1, ← e2]
  exact ⟨fun e => hf _ _ e, fun e => by rw [e]⟩
theorem idxOf_take {α : Type} [DecidableEq α] {ks : List α} {i : Nat} {k : α} (h : ks[i]? = some k) :
    fc (ks.take (i + 1)) = fc (ks.take i) ++ [if k ∈ nub (ks.take i) then (nub (ks.take i)).idxOf k else (nub (ks.take i)).length] := by
  rw [take_succ' h, fc_snoc]
  congr 2
  by_cases hm : k ∈ ks.take i
  · rw [if_pos hm, if_pos ((mem_nub _ k).mpr hm)]
  · rw [if_neg hm, if_neg fun q => hm ((mem_nub _ k).mp q)]
theorem nub_take {α : Type} [DecidableEq α] {ks : List α} {i : Nat} {k : α} (h : ks[i]? = some k) :
    nub (ks.take (i + 1)) = if k ∈ nub (ks.take i) then nub (ks.take i) else nub (ks.take i) ++ [k] := by
  rw [take_succ' h, nub_snoc]
theorem nub_len {α : Type} [DecidableEq α] (ks : List α) : (nub ks).length ≤ ks.length := nodup_le (nub_nodup ks) fun y hy => (mem_nub ks y).mp hy
theorem Mach.keys_take {c : List Nat} {i : Nat} (h : i < M.st.length) : (List.range (i + 1)).map (M.key c) = (List.range i).map (M.key c) ++ [M.key c i] := by rw [List.range_succ, List.map_append]; rfl
/-! ### the least machine's rows as they are made -/
theorem Mach.ord_lt (ok : M.Ok) {i s : Nat} (h : (M.ord i)[i]? = some s) : s < M.st.length := (M.ord_apart ok i).lt s (List.mem_of_getElem? h)
theorem Mach.all_pre (ok : M.Ok) (i : Nat) : ∃ m, M.all = M.ord i ++ m := by
  by_cases h : i ≤ 6
  · obtain ⟨m, e⟩ := Mach.ord_pres (M := M) i (6 - i)
    refine ⟨m, ?_⟩
    unfold Mach.all
    rw [← e, show i + (6 - i) = 6 by omega]
  · have l6 := (M.ord_apart ok 6).le ok
    have n6 := ok.n6
    have := Mach.ord_stop (M := M) (i := 6) (by omega) (i - 6)
    rw [show 6 + (i - 6) = i by omega] at this
    exact ⟨[], by rw [this, List.append_nil]; rfl⟩
/-- a row's numbers are the same at the end -/
theorem Mach.row_num (ok : M.Ok) {i s : Nat} (h : (M.ord i)[i]? = some s) : (M.row s).map (M.num (M.ord (i + 1))) = (M.row s).map (M.num M.all) := by
  obtain ⟨m, e⟩ := M.all_pre ok (i + 1)
  refine List.map_congr_left fun x hx => ?_
  rw [e, M.num_pre]
  rw [M.ord_step h]
  exact M.grow_has (fun z hz => M.row_mem ok (M.ord_lt ok h) hz) ok hx
theorem Mach.all_at (ok : M.Ok) {i s : Nat} (h : (M.ord i)[i]? = some s) : M.all[i]? = some s := by
  obtain ⟨m, e⟩ := M.all_pre ok i
  rw [e, List.getElem?_append_left (List.getElem?_eq_some_iff.mp h).1]
  exact h
/-- within a row: taken in so far -/
noncomputable def Mach.mid (M : Mach) (i s j : Nat) : List Nat := M.grow (M.ord i) ((M.row s).take j)
theorem Mach.mid_zero {i s : Nat} : M.mid i s 0 = M.ord i := rfl
theorem Mach.mid_succ {i s j x : Nat} (h : (M.row s)[j]? = some x) : M.mid i s (j + 1) = M.grow1 (M.mid i s j) x := by
  unfold Mach.mid Mach.grow
  rw [take_succ' h, List.foldl_append]
  rfl
theorem Mach.mid_end {i s : Nat} (h : (M.ord i)[i]? = some s) : M.mid i s (M.row s).length = M.ord (i + 1) := by
  rw [M.ord_step h]
  unfold Mach.mid
  rw [List.take_length]
theorem Mach.mid_apart (ok : M.Ok) {i s j : Nat} (hs : s < M.st.length) : M.Apart (M.mid i s j) := M.grow_apart (M.ord_apart ok i) fun x hx => M.row_mem ok hs (List.mem_of_mem_take hx)
theorem Mach.grow_num : ∀ {r o : List Nat} {x : Nat}, (∃ y ∈ o, M.eqv y x = true) → M.num (M.grow o r) x = M.num o x := fun {r o x} h => by
  obtain ⟨m, e⟩ := M.grow_pre r o
  rw [e, M.num_pre h]
theorem Mach.mid_num {i s j x : Nat} (hx : ∃ y ∈ M.mid i s (j + 1), M.eqv y x = true) (hs : (M.ord i)[i]? = some s) (hj : j < (M.row s).length) : M.num (M.mid i s (j + 1)) x = M.num (M.ord (i + 1)) x := by
  rw [← M.mid_end hs]
  have e : M.mid i s (M.row s).length = M.grow (M.mid i s (j + 1)) ((M.row s).drop (j + 1)) := by
    unfold Mach.mid Mach.grow
    rw [← List.foldl_append, List.take_append_drop, List.take_length]
  rw [e, M.grow_num hx]
end
end M1
/-! The mathematics of late words: layers of pairs, walks, rounds. No Python. -/
namespace M1
section
variable {M : Mach}
def Mach.Letters (M : Mach) (w : List Nat) : Prop := ∀ x ∈ w, x < M.k
/-- a state to which a word leads from state 0 -/
def Mach.Rch (M : Mach) (i : Nat) : Prop := ∃ w, M.Letters w ∧ M.led 0 w = i
theorem Mach.Rch.zero : M.Rch 0 := ⟨[], fun _ h => by simp at h, rfl⟩
theorem Mach.led_append (i : Nat) (u w : List Nat) : M.led i (u ++ w) = M.led (M.led i u) w := by unfold Mach.led; rw [List.foldl_append]
theorem Mach.Rch.go {i a : Nat} (h : M.Rch i) (ha : a < M.k) : M.Rch (M.go i a) := by
  obtain ⟨w, hw, e⟩ := h
  refine ⟨w ++ [a], fun x hx => ?_, by rw [M.led_append, e]; rfl⟩
  rcases List.mem_append.mp hx with hx | hx
  · exact hw x hx
  · rw [List.mem_singleton] at hx; subst hx; exact ha
theorem Mach.Rch.lt (ok : M.Ok) {i : Nat} (h : M.Rch i) : i < M.st.length := by
  obtain ⟨w, hw, e⟩ := h
  rw [← e]
  exact M.led_lt ok ok.n1 hw
theorem Mach.Rch.led {i : Nat} (h : M.Rch i) {w : List Nat} (hw : M.Letters w) : M.Rch (M.led i w) := by
  obtain ⟨u, hu, e⟩ := h
  refine ⟨u ++ w, fun x hx => ?_, by rw [M.led_append, e]⟩
  rcases List.mem_append.mp hx with hx | hx
  · exact hu x hx
  · exact hw x hx
/-- the last letter of the word is answered unlike from i and from j -/
def Mach.Unl (M : Mach) (i j : Nat) (w : List Nat) : Prop := ∃ u a, w = u ++ [a] ∧ M.out (M.led i u) a ≠ M.out (M.led j u) a
theorem Mach.unl_cons {i j a : Nat} {w : List Nat} (hw : w ≠ []) : M.Unl i j (a :: w) ↔ M.Unl (M.go i a) (M.go j a) w := by
  constructor
  · rintro ⟨u, b, e, h⟩
    cases u with
    | nil => simp at e; exact absurd e.2 hw
    | cons c u =>
      simp at e
      obtain ⟨rfl, rfl⟩ := e
      exact ⟨u, b, rfl, h⟩
  · rintro ⟨u, b, rfl, h⟩
    exact ⟨a :: u, b, rfl, h⟩
theorem Mach.unl_one {i j a : Nat} : M.Unl i j [a] ↔ M.out i a ≠ M.out j a := by
  constructor
  · rintro ⟨u, b, e, h⟩
    cases u with
    | nil => simp at e; subst e; exact h
    | cons c u => simp at e
  · intro h; exact ⟨[], a, rfl, h⟩
/-- a pair whose first state comes -/
def Mach.Pr (M : Mach) (p : Nat × Nat) : Prop := M.Rch p.1 ∧ p.2 < M.st.length
theorem Mach.Pr.go (ok : M.Ok) {p : Nat × Nat} (h : M.Pr p) {a : Nat} (ha : a < M.k) : M.Pr (M.go p.1 a, M.go p.2 a) := ⟨h.1.go ha, M.go_lt ok h.2 ha⟩
/-- there is a late word of this length -/
def Mach.Late (M : Mach) (n : Nat) : Prop := ∃ p w, M.Pr p ∧ M.Letters w ∧ w.length = n ∧ M.Unl p.1 p.2 w
/-- p has a late word of this length -/
def Mach.LateAt (M : Mach) (p : Nat × Nat) (n : Nat) : Prop := ∃ w, M.Letters w ∧ w.length = n ∧ M.Unl p.1 p.2 w
theorem Mach.lateAt_zero {p : Nat × Nat} : ¬ M.LateAt p 0 := by
  rintro ⟨w, _, h, u, a, e, _⟩
  rw [e] at h
  simp at h
theorem Mach.lateAt_one {p : Nat × Nat} : M.LateAt p 1 ↔ ∃ a, a < M.k ∧ M.out p.1 a ≠ M.out p.2 a := by
  constructor
  · rintro ⟨w, hw, h, hu⟩
    obtain ⟨a, rfl⟩ : ∃ a, w = [a] := by
      cases w with
      | nil => simp at h
      | cons a w => cases w with
        | nil => exact ⟨a, rfl⟩
        | cons _ _ => simp at h
    exact ⟨a, hw a List.mem_cons_self, M.unl_one.mp hu⟩
  · rintro ⟨a, ha, h⟩
    exact ⟨[a], fun x hx => by rw [List.mem_singleton] at hx; subst hx; exact ha, rfl, M.unl_one.mpr h⟩
theorem Mach.lateAt_succ {p : Nat × Nat} {n : Nat} : M.LateAt p (n + 2) ↔ ∃ a, a < M.k ∧ M.LateAt (M.go p.1 a, M.go p.2 a) (n + 1) := by
  constructor
  · rintro ⟨w, hw, h, hu⟩
    cases w with
    | nil => simp at h
    | cons a w =>
      have hne : w ≠ [] := fun e => by subst e; simp at h
      exact ⟨a, hw a List.mem_cons_self, w, fun x hx => hw x (List.mem_cons_of_mem _ hx), by simpa using h, (M.unl_cons hne).mp hu⟩
  · rintro ⟨a, ha, w, hw, h, hu⟩
    have hne : w ≠ [] := fun e => by subst e; simp at h
    refine ⟨a :: w, fun x hx => ?_, by simp [h], (M.unl_cons hne).mpr hu⟩
    rcases List.mem_cons.mp hx with e | hx
    · subst e; exact ha
    · exact hw x hx
theorem Mach.late_iff {n : Nat} : M.Late n ↔ ∃ p, M.Pr p ∧ M.LateAt p n := by
  constructor
  · rintro ⟨p, w, hp, a, b, c⟩; exact ⟨p, hp, w, a, b, c⟩
  · rintro ⟨p, hp, w, a, b, c⟩; exact ⟨p, w, hp, a, b, c⟩
theorem Mach.late_down (ok : M.Ok) {n : Nat} (h : M.Late (n + 2)) : M.Late (n + 1) := by
  obtain ⟨p, hp, h⟩ := M.late_iff.mp h
  obtain ⟨a, ha, h⟩ := M.lateAt_succ.mp h
  exact M.late_iff.mpr ⟨_, hp.go ok ha, h⟩
theorem Mach.late_le (ok : M.Ok) {n : Nat} : ∀ d, M.Late (n + 1 + d) → M.Late (n + 1)
  | 0, h => h
  | d + 1, h => Mach.late_le ok d (M.late_down ok (n := n + d) (by rw [show n + d + 2 = n + 1 + (d + 1) by omega]; exact h) |> fun q => by rw [show n + 1 + d = n + d + 1 by omega]; exact q)
theorem Mach.late_mono (ok : M.Ok) {m n : Nat} (hm : 1 ≤ m) (h : m ≤ n) (hn : M.Late n) : M.Late m := by
  have := M.late_le ok (n := m - 1) (n - m) (by rw [show m - 1 + 1 + (n - m) = n by omega]; exact hn)
  rwa [show m - 1 + 1 = m by omega] at this
/-! ### walks -/
/-- the pairs along a word, each with the letter read there -/
def Mach.Walk (M : Mach) : List ((Nat × Nat) × Nat) → Prop
  | [] => True
  | [(p, a)] => a < M.k ∧ M.out p.1 a ≠ M.out p.2 a
  | (p, a) :: (q, b) :: r => a < M.k ∧ q = (M.go p.1 a, M.go p.2 a) ∧ Mach.Walk M ((q, b) :: r)
def wordOf (w : List ((Nat × Nat) × Nat)) : List Nat := w.map (·.2)
theorem Mach.Walk.word : ∀ {w : List ((Nat × Nat) × Nat)} {p : Nat × Nat} {a : Nat}, M.Walk ((p, a) :: w) → M.Letters (wordOf ((p, a) :: w)) ∧ M.Unl p.1 p.2 (wordOf ((p, a) :: w))
  | [], p, a, h => ⟨fun x hx => by simp [wordOf] at hx; subst hx; exact h.1, M.unl_one.mpr h.2⟩
  | (q, b) :: r, p, a, h => by
    obtain ⟨h1, h2, h3⟩ := h
    obtain ⟨i1, i2⟩ := Mach.Walk.word h3
    refine ⟨fun x hx => ?_, ?_⟩
    · rcases List.mem_cons.mp hx with e | hx
      · subst e; exact h1
      · exact i1 x hx
    · subst h2
      exact (M.unl_cons (by simp [wordOf])).mpr i2
theorem Mach.Walk.tail : ∀ {w : List ((Nat × Nat) × Nat)} {x : (Nat × Nat) × Nat}, M.Walk (x :: w) → M.Walk w
  | [], _, _ => trivial
  | (_, _) :: _, (_, _), h => h.2.2
theorem Mach.Walk.drop : ∀ {w : List ((Nat × Nat) × Nat)} (i : Nat), M.Walk w → M.Walk (w.drop i)
  | _, 0, h => h
  | [], _ + 1, h => h
  | _ :: _, i + 1, h => Mach.Walk.drop i h.tail
/-- a walk's next pair -/
theorem Mach.Walk.step : ∀ {w : List ((Nat × Nat) × Nat)} {i : Nat} {p q : Nat × Nat} {a b : Nat}, M.Walk w → w[i]? = some (p, a) → w[i + 1]? = some (q, b) → a < M.k ∧ q = (M.go p.1 a, M.go p.2 a)
  | (_, _) :: (_, _) :: _, 0, p, q, a, b, h, h1, h2 => by
    simp at h1 h2
    obtain ⟨⟨rfl, rfl⟩, rfl⟩ := h1
    obtain ⟨⟨rfl, rfl⟩, rfl⟩ := h2
    exact ⟨h.1, h.2.1⟩
  | x :: r, i + 1, p, q, a, b, h, h1, h2 => Mach.Walk.step (w := r) (i := i) h.tail (by simpa using h1) (by simpa using h2)
  | [(_, _)], 0, _, _, _, _, _, _, h2 => by simp at h2
theorem Mach.Walk.letter : ∀ {w : List ((Nat × Nat) × Nat)} {i : Nat} {p : Nat × Nat} {a : Nat}, M.Walk w → w[i]? = some (p, a) → a < M.k
  | (_, _) :: [], 0, _, _, h, h1 => by simp at h1; obtain ⟨_, rfl⟩ := h1; exact h.1
  | (_, _) :: (_, _) :: _, 0, _, _, h, h1 => by simp at h1; obtain ⟨_, rfl⟩ := h1; exact h.1
  | _ :: r, i + 1, _, _, h, h1 => Mach.Walk.letter (w := r) (i := i) h.tail (by simpa using h1)
/-- from the i-th to the j-th pair -/
theorem Mach.Walk.led {w : List ((Nat × Nat) × Nat)} (h : M.Walk w) {i : Nat} {p : Nat × Nat} {a : Nat} (hi : w[i]? = some (p, a)) : ∀ (d : Nat) {q : Nat × Nat} {b : Nat}, w[i + d]? = some (q, b) → q = (M.led p.1 (wordOf ((w.drop i).take d)), M.led p.2 (wordOf ((w.drop i).take d)))
  | 0, q, b, hj => by
    rw [Nat.add_zero, hi] at hj
    have := Option.some.inj hj
    have : q = p := (Prod.mk.inj this).1.symm
    subst this
    rfl
  | d + 1, q, b, hj => by
    have hlt : i + d < w.length := by
      have := (List.getElem?_eq_some_iff.mp hj).1
      omega
    obtain ⟨r, c, hr⟩ : ∃ r c, w[i + d]? = some (r, c) := ⟨(w[i + d]).1, (w[i + d]).2, List.getElem?_eq_getElem hlt⟩
    have ih := h.led hi d hr
    obtain ⟨_, hs⟩ := h.step hr (by rw [show i + d + 1 = i + (d + 1) by omega]; exact hj)
    have e : wordOf ((w.drop i).take (d + 1)) = wordOf ((w.drop i).take d) ++ [c] := by
      have g : (w.drop i)[d]? = some (r, c) := by rw [List.getElem?_drop]; exact hr
      unfold wordOf
      rw [take_succ' g, List.map_append]
      rfl
    rw [hs, e, M.led_append, M.led_append, ih]
    rfl
/-- round and round: words of any length -/
theorem Mach.pump (ok : M.Ok) {p : Nat × Nat} (hp : M.Pr p) {u w : List Nat} (hu : u ≠ []) (lu : M.Letters u) (h1 : M.led p.1 u = p.1) (h2 : M.led p.2 u = p.2) (lw : M.Letters w) (hw : M.Unl p.1 p.2 w) : ∀ n, 1 ≤ n → M.Late n := by
  have hpos : 1 ≤ w.length := by
    obtain ⟨_, _, e, _⟩ := hw
    rw [e]; simp
  have big : ∀ k, ∃ v, M.Letters v ∧ k + w.length ≤ v.length ∧ M.Unl p.1 p.2 v := by
    intro k
    induction k with
    | zero => exact ⟨w, lw, by omega, hw⟩
    | succ k ih =>
      obtain ⟨v, lv, hv, x, a, e, hx⟩ := ih
      refine ⟨u ++ v, fun y hy => ?_, ?_, u ++ x, a, by rw [e, List.append_assoc], ?_⟩
      · rcases List.mem_append.mp hy with hy | hy
        · exact lu y hy
        · exact lv y hy
      · have : 1 ≤ u.length := List.length_pos_iff.mpr hu
        rw [List.length_append]
        omega
      · rw [M.led_append, M.led_append, h1, h2]
        exact hx
  intro n hn
  obtain ⟨v, lv, hv, hu⟩ := big n
  exact M.late_mono ok hn (by omega : n ≤ v.length) ⟨p, v, hp, lv, rfl, hu⟩
/-- two places with the same pair -/
theorem Mach.Walk.round (ok : M.Ok) {w : List ((Nat × Nat) × Nat)} (h : M.Walk w) {i j : Nat} {p : Nat × Nat} {a b : Nat} (hp : M.Pr p) (hij : i < j) (hi : w[i]? = some (p, a)) (hj : w[j]? = some (p, b)) :
    M.Letters (wordOf ((w.drop i).take (j - i))) ∧ wordOf ((w.drop i).take (j - i)) ≠ [] ∧ M.led p.1 (wordOf ((w.drop i).take (j - i))) = p.1 ∧ M.led p.2 (wordOf ((w.drop i).take (j - i))) = p.2 ∧ M.Letters (wordOf (w.drop j)) ∧ M.Unl p.1 p.2 (wordOf (w.drop j)) := by
  have hjl := (List.getElem?_eq_some_iff.mp hj).1
  have e := h.led hi (j - i) (by rw [show i + (j - i) = j by omega]; exact hj)
  have hd : w.drop j = (p, b) :: w.drop (j + 1) := by
    have g := (List.getElem?_eq_some_iff.mp hj).2
    rw [List.drop_eq_getElem_cons hjl, g]
  have hw := h.drop j
  rw [hd] at hw
  have hl := hw.word
  rw [← hd] at hl
  refine ⟨fun x hx => ?_, ?_, (Prod.mk.inj e).1.symm, (Prod.mk.inj e).2.symm, hl.1, hl.2⟩
  · unfold wordOf at hx
    obtain ⟨y, hy, rfl⟩ := List.mem_map.mp hx
    obtain ⟨k, hk⟩ := List.mem_iff_getElem?.mp (List.mem_of_mem_take hy)
    rw [List.getElem?_drop] at hk
    exact h.letter (p := y.1) (a := y.2) hk
  · intro z
    have : (wordOf ((w.drop i).take (j - i))).length = j - i := by
      unfold wordOf
      rw [List.length_map, List.length_take, List.length_drop]
      omega
    rw [z] at this
    simp at this
    omega
theorem Mach.Walk.endless (ok : M.Ok) {w : List ((Nat × Nat) × Nat)} (h : M.Walk w) {i j : Nat} {p : Nat × Nat} {a b : Nat} (hp : M.Pr p) (hij : i < j) (hi : w[i]? = some (p, a)) (hj : w[j]? = some (p, b)) : ∀ n, 1 ≤ n → M.Late n := by
  obtain ⟨h1, h2, h3, h4, h5, h6⟩ := h.round ok hp hij hi hj
  exact M.pump ok hp h2 h1 h3 h4 h5 h6
theorem Mach.Walk.pr (ok : M.Ok) : ∀ {w : List ((Nat × Nat) × Nat)}, M.Walk w → (∀ x, w.head? = some x → M.Pr x.1) → ∀ x ∈ w, M.Pr x.1
  | [], _, _, x, hx => by simp at hx
  | [(p, a)], _, h0, x, hx => by
    rw [List.mem_singleton] at hx
    subst hx
    exact h0 _ rfl
  | (p, a) :: (q, b) :: r, h, h0, x, hx => by
    rcases List.mem_cons.mp hx with e | hx
    · subst e; exact h0 _ rfl
    · refine Mach.Walk.pr ok (w := (q, b) :: r) h.2.2 (fun y hy => ?_) x hx
      simp at hy
      subst hy
      show M.Pr q
      rw [h.2.1]
      exact (h0 _ rfl).go ok h.1
/-- more pairs than there are: one comes twice -/
theorem twice {α : Type} [DecidableEq α] : ∀ {l m : List α}, (∀ x ∈ l, x ∈ m) → m.length < l.length → ∃ (i j : Nat) (x : α), i < j ∧ l[i]? = some x ∧ l[j]? = some x := by
  intro l m hs hl
  refine Classical.byContradiction fun hn => ?_
  have nd : l.Nodup := by
    refine List.pairwise_iff_getElem.mpr fun i j hi hj hij e => hn ⟨i, j, l[j], hij, ?_, List.getElem?_eq_getElem hj⟩
    rw [List.getElem?_eq_getElem hi, e]
  have := nodup_le nd hs
  omega
/-- what late tells: the greatest length, or none -/
def Mach.LateIs (M : Mach) (o : Option Nat) : Prop := match o with
  | some n => (∀ m, 1 ≤ m → (M.Late m ↔ m ≤ n))
  | none => ∀ m, 1 ≤ m → M.Late m
theorem Mach.LateIs.only {o u : Option Nat} (h : M.LateIs o) (h' : M.LateIs u) : o = u := by
  cases o with
  | none => cases u with
    | none => rfl
    | some n => exact absurd ((h' (n + 1) (by omega)).mp (h (n + 1) (by omega))) (by omega)
  | some n => cases u with
    | none => exact absurd ((h (n + 1) (by omega)).mp (h' (n + 1) (by omega))) (by omega)
    | some m =>
      congr 1
      rcases Nat.lt_trichotomy n m with q | q | q
      · exact absurd ((h m (by omega)).mp ((h' m (by omega)).mpr (Nat.le_refl _))) (by omega)
      · exact q
      · exact absurd ((h' n (by omega)).mp ((h n (by omega)).mpr (Nat.le_refl _))) (by omega)
end
end M1
namespace M1
/-! ### pairs with a letter: the dicts of a layer -/
abbrev PL := List ((Nat × Nat) × Nat)
def addF (f : PL) (p : Nat × Nat) (a : Nat) : PL := if p ∈ f.map (·.1) then f else f ++ [(p, a)]
structure Lay (G : Nat × Nat → Nat → Prop) (k : Nat) (ps : List (Nat × Nat)) (f : PL) : Prop where
  nd : (f.map (·.1)).Nodup
  sound : ∀ x ∈ f, x.1 ∈ ps ∧ x.2 < k ∧ G x.1 x.2
  full : ∀ p ∈ ps, ∀ a, a < k → G p a → p ∈ f.map (·.1)
structure LayIn (G : Nat × Nat → Nat → Prop) (k : Nat) (ps : List (Nat × Nat)) (i j : Nat) (f : PL) : Prop where
  nd : (f.map (·.1)).Nodup
  sound : ∀ x ∈ f, x.1 ∈ ps ∧ x.2 < k ∧ G x.1 x.2
  full : ∀ (n : Nat) p, ps[n]? = some p → ∀ a, a < k → (n < i ∨ n = i ∧ a < j) → G p a → p ∈ f.map (·.1)
section
variable {G : Nat × Nat → Nat → Prop} {k i j : Nat} {ps : List (Nat × Nat)} {f : PL} {p : Nat × Nat} {a : Nat}
theorem LayIn.nil : LayIn G k ps 0 0 [] := ⟨by simp, fun _ h => by simp at h, fun _ _ _ _ _ h => by omega⟩
theorem addF_mem : ∀ q, q ∈ (addF f p a).map (·.1) ↔ q ∈ f.map (·.1) ∨ q = p := fun q => by
  unfold addF
  by_cases h : p ∈ f.map (·.1)
  · rw [if_pos h]
    refine ⟨.inl, fun z => ?_⟩
    rcases z with z | z
    · exact z
    · rw [z]; exact h
  · rw [if_neg h, List.map_append, List.mem_append]
    simp
theorem LayIn.add (L : LayIn G k ps i j f) (hp : ps[i]? = some p) (hj : j < k) (g : G p j) : LayIn G k ps i (j + 1) (addF f p j) := by
  refine ⟨?_, fun x hx => ?_, fun n q hn b hb hc hg => ?_⟩
  · unfold addF
    by_cases h : p ∈ f.map (·.1)
    · rw [if_pos h]; exact L.nd
    · rw [if_neg h, List.map_append, List.nodup_append]
      refine ⟨L.nd, by simp, fun y hy z hz e => ?_⟩
      have hz' : z = p := by simpa using hz
      subst e
      exact h (hz' ▸ hy)
  · unfold addF at hx
    by_cases h : p ∈ f.map (·.1)
    · rw [if_pos h] at hx; exact L.sound x hx
    · rw [if_neg h] at hx
      rcases List.mem_append.mp hx with hx | hx
      · exact L.sound x hx
      · rw [List.mem_singleton] at hx
        subst hx
        exact ⟨List.mem_of_getElem? hp, hj, g⟩
  · rw [addF_mem]
    by_cases e : n = i ∧ b = j
    · obtain ⟨rfl, rfl⟩ := e
      rw [hp] at hn
      exact .inr (Option.some.inj hn).symm
    · exact .inl (L.full n q hn b hb (by omega) hg)
theorem LayIn.skip (L : LayIn G k ps i j f) (hp : ps[i]? = some p) (g : ¬ G p j) : LayIn G k ps i (j + 1) f := by
  refine ⟨L.nd, L.sound, fun n q hn b hb hc hg => ?_⟩
  by_cases e : n = i ∧ b = j
  · obtain ⟨rfl, rfl⟩ := e
    rw [hp] at hn
    exact absurd ((Option.some.inj hn) ▸ hg) g
  · exact L.full n q hn b hb (by omega) hg
theorem LayIn.row (L : LayIn G k ps i k f) : LayIn G k ps (i + 1) 0 f := ⟨L.nd, L.sound, fun n q hn b hb hc hg => L.full n q hn b hb (by omega) hg⟩
theorem LayIn.done (L : LayIn G k ps ps.length 0 f) : Lay G k ps f := ⟨L.nd, L.sound, fun p hp a ha hg => by
  obtain ⟨n, hn⟩ := List.mem_iff_getElem?.mp hp
  exact L.full n p hn a ha (.inl (List.getElem?_eq_some_iff.mp hn).1) hg⟩
theorem LayIn.len (L : LayIn G k ps i j f) : f.length ≤ ps.length := by
  have h := nodup_le L.nd (m := ps) fun q hq => by
    obtain ⟨x, hx, rfl⟩ := List.mem_map.mp hq
    exact (L.sound x hx).1
  rwa [List.length_map] at h
end
section
variable {M : Mach}
/-- all pairs whose first state comes -/
def Mach.AllP (M : Mach) (ps : List (Nat × Nat)) : Prop := ∀ p, p ∈ ps ↔ M.Pr p
/-- a layer: the pairs that have a late word of n letters, each with a first letter of one -/
structure Mach.LayAt (M : Mach) (n : Nat) (f : PL) : Prop where
  keys : ∀ p, p ∈ f.map (·.1) ↔ M.Pr p ∧ M.LateAt p n
  lt : ∀ x ∈ f, x.2 < M.k
theorem Mach.layAt_one {ps : List (Nat × Nat)} (hp : M.AllP ps) {f : PL} (L : Lay (fun p a => M.out p.1 a ≠ M.out p.2 a) M.k ps f) : M.LayAt 1 f ∧ ∀ x ∈ f, M.out x.1.1 x.2 ≠ M.out x.1.2 x.2 := by
  refine ⟨⟨fun p => ⟨fun h => ?_, fun ⟨h1, h2⟩ => ?_⟩, fun x hx => (L.sound x hx).2.1⟩, fun x hx => (L.sound x hx).2.2⟩
  · obtain ⟨x, hx, rfl⟩ := List.mem_map.mp h
    obtain ⟨a, b, c⟩ := L.sound x hx
    exact ⟨(hp _).mp a, M.lateAt_one.mpr ⟨_, b, c⟩⟩
  · obtain ⟨a, ha, h⟩ := M.lateAt_one.mp h2
    exact L.full p ((hp p).mpr h1) a ha h
theorem Mach.layAt_succ (ok : M.Ok) {ps : List (Nat × Nat)} (hp : M.AllP ps) {n : Nat} {e f : PL} (Le : M.LayAt (n + 1) e) (L : Lay (fun p a => (M.go p.1 a, M.go p.2 a) ∈ e.map (·.1)) M.k ps f) : M.LayAt (n + 2) f ∧ ∀ x ∈ f, (M.go x.1.1 x.2, M.go x.1.2 x.2) ∈ e.map (·.1) := by
  refine ⟨⟨fun p => ⟨fun h => ?_, fun ⟨h1, h2⟩ => ?_⟩, fun x hx => (L.sound x hx).2.1⟩, fun x hx => (L.sound x hx).2.2⟩
  · obtain ⟨x, hx, rfl⟩ := List.mem_map.mp h
    obtain ⟨a, b, c⟩ := L.sound x hx
    exact ⟨(hp _).mp a, M.lateAt_succ.mpr ⟨_, b, ((Le.keys _).mp c).2⟩⟩
  · obtain ⟨a, ha, h⟩ := M.lateAt_succ.mp h2
    exact L.full p ((hp p).mpr h1) a ha ((Le.keys _).mpr ⟨h1.go ok ha, h⟩)
/-- the layers from one letter on -/
structure Mach.Layers (M : Mach) (fs : List PL) : Prop where
  at_ : ∀ (n : Nat) f, fs[n]? = some f → M.LayAt (n + 1) f ∧ f ≠ []
  first : ∀ f, fs[0]? = some f → ∀ x ∈ f, M.out x.1.1 x.2 ≠ M.out x.1.2 x.2
  step : ∀ (n : Nat) e f, fs[n]? = some e → fs[n + 1]? = some f → ∀ x ∈ f, (M.go x.1.1 x.2, M.go x.1.2 x.2) ∈ e.map (·.1)
theorem Mach.LayAt.none {n : Nat} {f : PL} (h : M.LayAt n f) (e : f = []) : ¬ M.Late n := fun q => by
  obtain ⟨p, hp, hl⟩ := M.late_iff.mp q
  have := (h.keys p).mpr ⟨hp, hl⟩
  rw [e] at this
  simp at this
theorem Mach.LayAt.some {n : Nat} {f : PL} (h : M.LayAt n f) (e : f ≠ []) : M.Late n := by
  cases f with
  | nil => exact absurd rfl e
  | cons x f => exact M.late_iff.mpr ⟨x.1, (h.keys x.1).mp (by simp)⟩
/-- how the layers end: no late word of one letter more, or more layers than pairs -/
def Mach.Ends (M : Mach) (ps : List (Nat × Nat)) (fs : List PL) : Prop := ¬ M.Late (fs.length + 1) ∨ ps.length < fs.length
/-- what a walk is worth -/
structure Mach.Wk (M : Mach) (w : PL) : Prop where
  walk : M.Walk w
  pr : ∀ x ∈ w, M.Pr x.1
  late : (w.map (·.1)).Nodup → M.LateIs (some w.length)
theorem Mach.Wk.endless (ok : M.Ok) {w : PL} (W : M.Wk w) {i j : Nat} {p : Nat × Nat} {a b : Nat} (hij : i < j) (hi : w[i]? = some (p, a)) (hj : w[j]? = some (p, b)) : M.LateIs none :=
  W.walk.endless ok (W.pr _ (List.mem_of_getElem? hi)) hij hi hj
theorem Mach.lateIs_of (ok : M.Ok) {n : Nat} (h1 : n = 0 ∨ M.Late n) (h2 : ¬ M.Late (n + 1)) : M.LateIs (some n) := fun m hm => by
  constructor
  · intro h
    refine Classical.byContradiction fun q => h2 (M.late_mono ok (by omega) (by omega) h)
  · intro h
    rcases h1 with z | z
    · omega
    · exact M.late_mono ok hm h z
end
end M1
namespace M1
section
variable {M : Mach}
theorem Mach.Layers.nil : M.Layers [] := ⟨fun _ _ h => by simp at h, fun _ h => by simp at h, fun _ _ _ h => by simp at h⟩
theorem Mach.Layers.one {f : PL} (h : M.LayAt 1 f) (hf : ∀ x ∈ f, M.out x.1.1 x.2 ≠ M.out x.1.2 x.2) (hn : f ≠ []) : M.Layers [f] := by
  refine ⟨fun n g hg => ?_, fun g hg => ?_, fun n e g he hg => ?_⟩
  · cases n with
    | zero => simp at hg; subst hg; exact ⟨h, hn⟩
    | succ n => simp at hg
  · simp at hg; subst hg; exact hf
  · simp at hg
theorem Mach.Layers.snoc {fs : List PL} {f g : PL} (L : M.Layers (fs ++ [f])) (h : M.LayAt (fs.length + 2) g) (hs : ∀ x ∈ g, (M.go x.1.1 x.2, M.go x.1.2 x.2) ∈ f.map (·.1)) (hn : g ≠ []) : M.Layers ((fs ++ [f]) ++ [g]) := by
  have hl : (fs ++ [f]).length = fs.length + 1 := by rw [List.length_append]; rfl
  have at_ : ∀ {n : Nat} {u : PL}, ((fs ++ [f]) ++ [g])[n]? = some u → n < fs.length + 1 ∧ (fs ++ [f])[n]? = some u ∨ n = fs.length + 1 ∧ u = g := by
    intro n u hu
    by_cases h1 : n < (fs ++ [f]).length
    · rw [List.getElem?_append_left h1] at hu
      exact .inl ⟨by omega, hu⟩
    · rw [List.getElem?_append_right (by omega)] at hu
      have h2 := (List.getElem?_eq_some_iff.mp hu).1
      simp at h2
      have h3 : n = fs.length + 1 := by omega
      subst h3
      simp at hu
      exact .inr ⟨rfl, hu.symm⟩
  refine ⟨fun n u hu => ?_, fun u hu => ?_, fun n e u he hu => ?_⟩
  · rcases at_ hu with ⟨_, q⟩ | ⟨rfl, rfl⟩
    · exact L.at_ n u q
    · exact ⟨h, hn⟩
  · rcases at_ hu with ⟨_, q⟩ | ⟨z, _⟩
    · exact L.first u q
    · omega
  · rcases at_ hu with ⟨z, q⟩ | ⟨z, rfl⟩
    · rcases at_ he with ⟨_, q2⟩ | ⟨y, _⟩
      · exact L.step n e u q2 q
      · omega
    · have hn' : n = fs.length := by omega
      subst hn'
      rcases at_ he with ⟨_, q2⟩ | ⟨y, _⟩
      · rw [List.getElem?_append_right (Nat.le_refl _)] at q2
        simp at q2
        subst q2
        exact hs
      · omega
theorem Mach.walk_of : ∀ {w : PL}, w ≠ [] → (∀ (i : Nat) p a, w[i]? = some (p, a) → a < M.k) → (∀ (i : Nat) p q a b, w[i]? = some (p, a) → w[i + 1]? = some (q, b) → q = (M.go p.1 a, M.go p.2 a)) → (∀ p a, w.getLast? = some (p, a) → M.out p.1 a ≠ M.out p.2 a) → M.Walk w
  | [], h, _, _, _ => absurd rfl h
  | [(p, a)], _, h1, _, h3 => ⟨h1 0 p a rfl, h3 p a rfl⟩
  | (p, a) :: (q, b) :: r, _, h1, h2, h3 => ⟨h1 0 p a rfl, h2 0 p q a b rfl rfl, Mach.walk_of (w := (q, b) :: r) (by simp) (fun i u c h => h1 (i + 1) u c (by simpa using h)) (fun i u v c d h h' => h2 (i + 1) u v c d (by simpa using h) (by simpa using h')) fun u c h => h3 u c (by rw [List.getLast?_cons_cons]; exact h)⟩
/-- the walk through the layers, its first i steps; p: where it goes on -/
structure Mach.WkIn (M : Mach) (fs : List PL) (i : Nat) (w : PL) (p : Nat × Nat) : Prop where
  len : w.length = i
  lt : ∀ (j : Nat) q a, w[j]? = some (q, a) → a < M.k ∧ M.Pr q
  next : ∀ (j : Nat) q u a b, w[j]? = some (q, a) → w[j + 1]? = some (u, b) → u = (M.go q.1 a, M.go q.2 a)
  last : ∀ q a, w.getLast? = some (q, a) → p = (M.go q.1 a, M.go q.2 a) ∧ (i = fs.length → M.out q.1 a ≠ M.out q.2 a)
  key : i < fs.length → ∃ f, fs[fs.length - 1 - i]? = some f ∧ p ∈ f.map (·.1)
theorem Mach.WkIn.start {fs : List PL} {p : Nat × Nat} {f : PL} (h : fs.getLast? = some f) (hp : p ∈ f.map (·.1)) : M.WkIn fs 0 [] p :=
  ⟨rfl, fun _ _ _ h => by simp at h, fun _ _ _ _ _ h => by simp at h, fun _ _ h => by simp at h, fun _ => ⟨f, by rw [List.getLast?_eq_getElem?] at h; exact h, hp⟩⟩
theorem Mach.WkIn.go {fs : List PL} (L : M.Layers fs) {i : Nat} {w : PL} {p : Nat × Nat} (W : M.WkIn fs i w p) {f : PL} (hf : fs[fs.length - 1 - i]? = some f) (hi : i < fs.length) {a : Nat} (ha : (p, a) ∈ f) : M.WkIn fs (i + 1) (w ++ [(p, a)]) (M.go p.1 a, M.go p.2 a) := by
  have hL := (L.at_ _ f hf).1
  have hk := hL.lt _ ha
  have hpr := ((hL.keys p).mp (List.mem_map_of_mem (f := (·.1)) ha)).1
  have at_ : ∀ {n : Nat} {u : (Nat × Nat) × Nat}, (w ++ [(p, a)])[n]? = some u → n < i ∧ w[n]? = some u ∨ n = i ∧ u = (p, a) := by
    intro n u hu
    by_cases h1 : n < w.length
    · rw [List.getElem?_append_left h1] at hu
      exact .inl ⟨by have := W.len; omega, hu⟩
    · rw [List.getElem?_append_right (by omega)] at hu
      have h2 := (List.getElem?_eq_some_iff.mp hu).1
      simp at h2
      have h3 : n = w.length := by have := W.len; omega
      subst h3
      simp at hu
      exact .inr ⟨W.len, hu.symm⟩
  refine ⟨by rw [List.length_append, W.len]; rfl, fun j q b h => ?_, fun j q u b c h h' => ?_, fun q b h => ?_, fun h => ?_⟩
  · rcases at_ h with ⟨_, h⟩ | ⟨_, h⟩
    · exact W.lt j q b h
    · injection h with h1 h2
      subst h1 h2
      exact ⟨hk, hpr⟩
  · rcases at_ h' with ⟨z', h'⟩ | ⟨z', h'⟩
    · rcases at_ h with ⟨_, h⟩ | ⟨z, _⟩
      · exact W.next j q u b c h h'
      · omega
    · injection h' with h1 h2
      subst h1 h2
      rcases at_ h with ⟨z, h⟩ | ⟨z, _⟩
      · refine (W.last q b ?_).1
        rw [List.getLast?_eq_getElem?, W.len, show i - 1 = j by omega]
        exact h
      · omega
  · rw [List.getLast?_append] at h
    simp at h
    obtain ⟨rfl, rfl⟩ := h
    refine ⟨rfl, fun e => ?_⟩
    rw [show fs.length - 1 - i = 0 by omega] at hf
    exact L.first f hf _ ha
  · refine ⟨_, List.getElem?_eq_getElem (by omega : fs.length - 1 - (i + 1) < fs.length), ?_⟩
    exact L.step (fs.length - 1 - (i + 1)) _ f (List.getElem?_eq_getElem _) (by rw [show fs.length - 1 - (i + 1) + 1 = fs.length - 1 - i by omega]; exact hf) _ ha
theorem Mach.Layers.wk (ok : M.Ok) {ps : List (Nat × Nat)} (hp : M.AllP ps) {fs : List PL} (L : M.Layers fs) (hE : M.Ends ps fs) {w : PL} {p : Nat × Nat} (W : fs = [] ∧ w = [] ∨ fs ≠ [] ∧ M.WkIn fs fs.length w p) : M.Wk w := by
  have hpr : ∀ x ∈ w, M.Pr x.1 := fun x hx => by
    rcases W with ⟨_, e⟩ | ⟨_, W⟩
    · rw [e] at hx; simp at hx
    · obtain ⟨j, hj⟩ := List.mem_iff_getElem?.mp hx
      exact (W.lt j x.1 x.2 hj).2
  have hlen : w.length = fs.length := by
    rcases W with ⟨e, e'⟩ | ⟨_, W⟩
    · rw [e, e']; rfl
    · exact W.len
  refine ⟨?_, hpr, fun nd => ?_⟩
  · rcases W with ⟨_, e⟩ | ⟨hn, W⟩
    · rw [e]; exact True.intro
    · refine M.walk_of (fun e => ?_) (fun i p a h => (W.lt i p a h).1) (fun i p q a b => W.next i p q a b) fun q a h => (W.last q a h).2 rfl
      rw [e] at hlen
      exact hn (List.length_eq_zero_iff.mp hlen.symm)
  · rw [hlen]
    have hle : fs.length ≤ ps.length := by
      have := nodup_le nd (m := ps) fun q hq => by
        obtain ⟨x, hx, rfl⟩ := List.mem_map.mp hq
        exact (hp _).mpr (hpr x hx)
      rw [List.length_map] at this
      omega
    refine M.lateIs_of ok ?_ (hE.resolve_right (by omega))
    cases h : fs.length with
    | zero => exact .inl rfl
    | succ n =>
      refine .inr ?_
      have hlt : n < fs.length := by omega
      obtain ⟨h1, h2⟩ := L.at_ n _ (List.getElem?_eq_getElem hlt)
      exact h1.some h2
end
end M1
namespace M1
section
variable {M : Mach}
/-! ### the states that come, by turns -/
structure Mach.ComeIn (M : Mach) (t : Nat) (r : List Nat) : Prop where
  nd : r.Nodup
  zero : 0 ∈ r
  sound : ∀ i ∈ r, M.Rch i
  grow : (∀ i ∈ r, ∀ a, a < M.k → M.go i a ∈ r) ∨ t + 1 ≤ r.length
theorem Mach.ComeIn.start : M.ComeIn 0 [0] := ⟨by simp, by simp, fun i h => by
  rw [List.mem_singleton] at h
  subst h
  exact Mach.Rch.zero, .inr (Nat.le_refl _)⟩
theorem Mach.row_iff (ok : M.Ok) {i : Nat} (hi : i < M.st.length) {x : Nat} : x ∈ M.row i ↔ ∃ a, a < M.k ∧ M.go i a = x := by
  constructor
  · intro h
    obtain ⟨a, ha⟩ := List.mem_iff_getElem?.mp h
    have hl := (List.getElem?_eq_some_iff.mp ha).1
    rw [M.row_len ok hi] at hl
    refine ⟨a, hl, ?_⟩
    have := M.go_at ok hi hl
    rw [ha] at this
    exact (Option.some.inj this).symm
  · rintro ⟨a, ha, rfl⟩
    exact List.mem_of_getElem? (M.go_at ok hi ha)
theorem Mach.ComeIn.go (ok : M.Ok) {t : Nat} {r s : List Nat} (C : M.ComeIn t r) (nd : s.Nodup) (hs : ∀ x, x ∈ s ↔ x ∈ r ∨ ∃ i ∈ r, x ∈ M.row i) : M.ComeIn (t + 1) s := by
  have lt : ∀ i ∈ r, i < M.st.length := fun i hi => (C.sound i hi).lt ok
  refine ⟨nd, (hs 0).mpr (.inl C.zero), fun x hx => ?_, ?_⟩
  · rcases (hs x).mp hx with h | ⟨i, hi, h⟩
    · exact C.sound x h
    · obtain ⟨a, ha, rfl⟩ := (M.row_iff ok (lt i hi)).mp h
      exact (C.sound i hi).go ha
  · by_cases hc : ∀ i ∈ r, ∀ a, a < M.k → M.go i a ∈ r
    · refine .inl fun i hi a ha => (hs _).mpr (.inl ?_)
      rcases (hs i).mp hi with h | ⟨j, hj, h⟩
      · exact hc i h a ha
      · obtain ⟨b, hb, rfl⟩ := (M.row_iff ok (lt j hj)).mp h
        exact hc _ (hc j hj b hb) a ha
    · refine .inr ?_
      have hr := C.grow.resolve_left hc
      obtain ⟨i, hi, a, ha, hn⟩ : ∃ i, i ∈ r ∧ ∃ a, a < M.k ∧ M.go i a ∉ r := Classical.byContradiction fun z => hc fun i hi a ha => Classical.byContradiction fun q => z ⟨i, hi, a, ha, q⟩
      have h1 : (M.go i a :: r).Nodup := List.nodup_cons.mpr ⟨hn, C.nd⟩
      have := nodup_le h1 (m := s) fun x hx => by
        rcases List.mem_cons.mp hx with e | hx
        · subst e
          exact (hs _).mpr (.inr ⟨i, hi, (M.row_iff ok (lt i hi)).mpr ⟨a, ha, rfl⟩⟩)
        · exact (hs _).mpr (.inl hx)
      rw [List.length_cons] at this
      omega
theorem Mach.ComeIn.len (ok : M.Ok) {t : Nat} {r : List Nat} (C : M.ComeIn t r) : r.length ≤ M.st.length := by
  have := nodup_le C.nd (m := List.range M.st.length) fun x hx => List.mem_range.mpr ((C.sound x hx).lt ok)
  rwa [List.length_range] at this
theorem Mach.ComeIn.done (ok : M.Ok) {r : List Nat} (C : M.ComeIn M.st.length r) : ∀ i, i ∈ r ↔ M.Rch i := fun i => by
  refine ⟨C.sound i, ?_⟩
  have hc := C.grow.resolve_right (by have := C.len ok; omega)
  rintro ⟨u, hu, rfl⟩
  have gen : ∀ (u : List Nat) (i : Nat), i ∈ r → M.Letters u → M.led i u ∈ r := by
    intro u
    induction u with
    | nil => exact fun i hi _ => hi
    | cons a u ih => exact fun i hi hu => ih (M.go i a) (hc i hi a (hu a List.mem_cons_self)) fun x hx => hu x (List.mem_cons_of_mem _ hx)
  exact gen u 0 C.zero hu
/-! ### the lots of pairs -/
/-- words of n letters lead to p from a pair whose first state comes -/
def Mach.At (M : Mach) (n : Nat) (p : Nat × Nat) : Prop := ∃ q u, M.Pr q ∧ M.Letters u ∧ u.length = n ∧ p = (M.led q.1 u, M.led q.2 u)
theorem Mach.at_zero {p : Nat × Nat} : M.At 0 p ↔ M.Pr p := by
  constructor
  · rintro ⟨q, u, hq, _, hl, rfl⟩
    obtain rfl := List.length_eq_zero_iff.mp hl
    exact hq
  · exact fun h => ⟨p, [], h, fun _ h => by simp at h, rfl, rfl⟩
theorem Mach.at_succ {n : Nat} {p : Nat × Nat} : M.At (n + 1) p ↔ ∃ q a, M.At n q ∧ a < M.k ∧ p = (M.go q.1 a, M.go q.2 a) := by
  constructor
  · rintro ⟨q, u, hq, hu, hl, rfl⟩
    rcases List.eq_nil_or_concat u with z | ⟨v, a, z⟩
    · subst z; simp at hl
    · rw [List.concat_eq_append] at z
      subst z
      rw [List.length_append, List.length_singleton] at hl
      refine ⟨(M.led q.1 v, M.led q.2 v), a, ⟨q, v, hq, fun x hx => hu x (List.mem_append_left _ hx), by omega, rfl⟩, hu a (List.mem_append_right _ (List.mem_singleton.mpr rfl)), ?_⟩
      rw [M.led_append, M.led_append]
      rfl
  · rintro ⟨_, a, ⟨q, u, hq, hu, hl, rfl⟩, ha, rfl⟩
    refine ⟨q, u ++ [a], hq, fun x hx => ?_, by rw [List.length_append, hl]; rfl, by rw [M.led_append, M.led_append]; rfl⟩
    rcases List.mem_append.mp hx with h | h
    · exact hu x h
    · rw [List.mem_singleton] at h; subst h; exact ha
theorem Mach.At.pr (ok : M.Ok) {n : Nat} {p : Nat × Nat} (h : M.At n p) : M.Pr p := by
  obtain ⟨q, u, hq, hu, _, rfl⟩ := h
  exact ⟨hq.1.led hu, M.led_lt ok hq.2 hu⟩
/-- unlike answers somewhere -/
theorem Mach.late_at (ok : M.Ok) {n : Nat} : M.Late (n + 1) ↔ ∃ p, M.At n p ∧ M.ans p.1 ≠ M.ans p.2 := by
  constructor
  · rintro ⟨p, w, hp, hw, hl, u, a, rfl, h⟩
    rw [List.length_append, List.length_singleton] at hl
    have hu : M.Letters u := fun x hx => hw x (List.mem_append_left _ hx)
    refine ⟨(M.led p.1 u, M.led p.2 u), ⟨p, u, hp, hu, by omega, rfl⟩, fun z => h ?_⟩
    have ha := hw a (List.mem_append_right _ (List.mem_singleton.mpr rfl))
    have h1 := M.out_at ok (M.led_lt ok (hp.1.lt ok) hu) ha
    have h2 := M.out_at ok (M.led_lt ok hp.2 hu) ha
    have z' : M.ans (M.led p.1 u) = M.ans (M.led p.2 u) := z
    rw [z', h2] at h1
    exact (Option.some.inj h1).symm
  · rintro ⟨_, ⟨p, u, hp, hu, hl, rfl⟩, h⟩
    have l1 := M.led_lt ok (hp.1.lt ok) hu
    have l2 := M.led_lt ok hp.2 hu
    obtain ⟨a, ha, hne⟩ : ∃ a, a < M.k ∧ M.out (M.led p.1 u) a ≠ M.out (M.led p.2 u) a := Classical.byContradiction fun z => h (List.ext_getElem? fun a => by
      show (M.ans (M.led p.1 u))[a]? = (M.ans (M.led p.2 u))[a]?
      by_cases ha : a < M.k
      · rw [M.out_at ok l1 ha, M.out_at ok l2 ha]
        congr 1
        exact Classical.byContradiction fun q => z ⟨a, ha, q⟩
      · rw [List.getElem?_eq_none (by rw [M.ans_len ok l1]; omega), List.getElem?_eq_none (by rw [M.ans_len ok l2]; omega)])
    refine ⟨p, u ++ [a], hp, fun x hx => ?_, by rw [List.length_append, hl]; rfl, u, a, rfl, hne⟩
    rcases List.mem_append.mp hx with q | q
    · exact hu x q
    · rw [List.mem_singleton] at q; subst q; exact ha
/-! ### more letters than pairs: any length -/
def Mach.walkOf (M : Mach) : Nat × Nat → List Nat → PL
  | _, [] => []
  | p, a :: u => (p, a) :: Mach.walkOf M (M.go p.1 a, M.go p.2 a) u
theorem Mach.walkOf_len : ∀ (u : List Nat) (p : Nat × Nat), (M.walkOf p u).length = u.length
  | [], _ => rfl
  | a :: u, p => by
    show (M.walkOf _ u).length + 1 = u.length + 1
    rw [Mach.walkOf_len u]
theorem Mach.walkOf_walk : ∀ (u : List Nat) (p : Nat × Nat), M.Letters u → M.Unl p.1 p.2 u → M.Walk (M.walkOf p u)
  | [], _, _, h => by obtain ⟨_, _, e, _⟩ := h; simp at e
  | [a], p, hu, h => ⟨hu a (by simp), M.unl_one.mp h⟩
  | a :: b :: u, p, hu, h => ⟨hu a (by simp), rfl, Mach.walkOf_walk (b :: u) _ (fun x hx => hu x (List.mem_cons_of_mem _ hx)) ((M.unl_cons (by simp)).mp h)⟩
theorem Mach.late_big (ok : M.Ok) {n : Nat} (hn : 36 < n) (h : M.Late n) : M.LateIs none := by
  obtain ⟨p, u, hp, hu, hl, hU⟩ := h
  have hW := M.walkOf_walk u p hu hU
  have hpr : ∀ x ∈ M.walkOf p u, M.Pr x.1 := hW.pr ok fun x hx => by
    cases u with
    | nil => simp [Mach.walkOf] at hx
    | cons a u =>
      have : x = (p, a) := by simpa [Mach.walkOf] using hx.symm
      rw [this]
      exact hp
  have n6 := ok.n6
  have hm : (pairsN M.st.length).length ≤ 36 := by
    rw [pairsN_len]
    exact Nat.mul_le_mul n6 n6
  obtain ⟨i, j, q, hij, hi, hj⟩ := twice (l := (M.walkOf p u).map (·.1)) (m := pairsN M.st.length) (fun q hq => by
    obtain ⟨x, hx, rfl⟩ := List.mem_map.mp hq
    exact mem_pairsN.mpr ⟨(hpr x hx).1.lt ok, (hpr x hx).2⟩) (by rw [List.length_map, M.walkOf_len]; omega)
  rw [List.getElem?_map] at hi hj
  cases ei : (M.walkOf p u)[i]? with
  | none => rw [ei] at hi; cases hi
  | some x => cases ej : (M.walkOf p u)[j]? with
    | none => rw [ej] at hj; cases hj
    | some y =>
      rw [ei] at hi
      rw [ej] at hj
      have e1 : x.1 = q := Option.some.inj hi
      have e2 : y.1 = q := Option.some.inj hj
      obtain ⟨x1, x2⟩ := x
      obtain ⟨y1, y2⟩ := y
      dsimp only at e1 e2
      subst e1
      subst e2
      exact hW.endless ok (hpr _ (List.mem_of_getElem? ei)) hij ei ej
end
end M1
namespace M1
section
variable {M : Mach}
/-! ### a greatest length is less than the number of states -/
/-- alike behind m letters or more -/
def Mach.Rm (M : Mach) (m i j : Nat) : Prop := ∀ n, m < n → ¬ M.LateAt (i, j) n
theorem Mach.rm_refl (m i : Nat) : M.Rm m i i := fun _ _ ⟨_, _, _, _, _, _, h⟩ => h rfl
theorem Mach.lateAt_symm {i j n : Nat} (h : M.LateAt (i, j) n) : M.LateAt (j, i) n := by
  obtain ⟨w, h1, h2, u, a, e, h⟩ := h
  exact ⟨w, h1, h2, u, a, e, fun z => h z.symm⟩
theorem Mach.rm_symm {m i j : Nat} (h : M.Rm m i j) : M.Rm m j i := fun n hn q => h n hn (M.lateAt_symm q)
theorem Mach.lateAt_trans {i j l n : Nat} (h : M.LateAt (i, l) n) : M.LateAt (i, j) n ∨ M.LateAt (j, l) n := by
  obtain ⟨w, h1, h2, u, a, e, h⟩ := h
  by_cases z : M.out (M.led i u) a = M.out (M.led j u) a
  · exact .inr ⟨w, h1, h2, u, a, e, fun q => h (z.trans q)⟩
  · exact .inl ⟨w, h1, h2, u, a, e, z⟩
theorem Mach.rm_trans {m i j l : Nat} (h : M.Rm m i j) (h' : M.Rm m j l) : M.Rm m i l := fun n hn q => (M.lateAt_trans q).elim (h n hn) (h' n hn)
theorem Mach.rm_mono {m n i j : Nat} (h : m ≤ n) (q : M.Rm m i j) : M.Rm n i j := fun l hl => q l (by omega)
theorem Mach.rm_succ {m i j : Nat} : M.Rm (m + 1) i j ↔ ∀ a, a < M.k → M.Rm m (M.go i a) (M.go j a) := by
  constructor
  · intro h a ha n hn q
    obtain ⟨n, rfl⟩ : ∃ l, n = l + 1 := ⟨n - 1, by omega⟩
    exact h (n + 2) (by omega) (M.lateAt_succ.mpr ⟨a, ha, q⟩)
  · intro h n hn q
    obtain ⟨n, rfl⟩ : ∃ l, n = l + 2 := ⟨n - 2, by omega⟩
    obtain ⟨a, ha, q⟩ := M.lateAt_succ.mp q
    exact h a ha (n + 1) (by omega) q
/-- no finer at one turn: never finer again -/
theorem Mach.rm_stop (ok : M.Ok) {m : Nat} (h : ∀ i j, i < M.st.length → j < M.st.length → M.Rm (m + 1) i j → M.Rm m i j) : ∀ d i j, i < M.st.length → j < M.st.length → M.Rm (m + d) i j → M.Rm m i j
  | 0, _, _, _, _, q => q
  | d + 1, i, j, hi, hj, q => h i j hi hj (M.rm_succ.mpr fun a ha => Mach.rm_stop ok h d _ _ (M.go_lt ok hi ha) (M.go_lt ok hj ha) (M.rm_succ.mp q a ha))
open Classical in
noncomputable def Mach.reps (M : Mach) (m : Nat) : List Nat := (List.range M.st.length).filter fun i => decide (∀ j, j < i → ¬ M.Rm m i j)
open Classical in
theorem Mach.mem_reps {m i : Nat} : i ∈ M.reps m ↔ i < M.st.length ∧ ∀ j, j < i → ¬ M.Rm m i j := by
  unfold Mach.reps
  rw [List.mem_filter, List.mem_range, decide_eq_true_iff]
open Classical in
theorem Mach.reps_nodup (m : Nat) : (M.reps m).Nodup := by
  unfold Mach.reps
  exact List.nodup_range.filter _
theorem Mach.rep_of (m : Nat) : ∀ i, i < M.st.length → ∃ r, r ∈ M.reps m ∧ M.Rm m i r ∧ r ≤ i := fun i => by
  induction i using Nat.strongRecOn with
  | _ i ih =>
    intro hi
    by_cases h : ∀ j, j < i → ¬ M.Rm m i j
    · exact ⟨i, M.mem_reps.mpr ⟨hi, h⟩, M.rm_refl m i, Nat.le_refl _⟩
    · obtain ⟨j, hj⟩ := Classical.not_forall.mp h
      obtain ⟨hj, hR⟩ := Classical.not_imp.mp hj
      obtain ⟨r, h1, h2, h3⟩ := ih j hj (by omega)
      exact ⟨r, h1, M.rm_trans (Classical.not_not.mp hR) h2, by omega⟩
theorem Mach.reps_sub {m n : Nat} (h : m ≤ n) : ∀ i ∈ M.reps n, i ∈ M.reps m := fun i hi => by
  obtain ⟨h1, h2⟩ := M.mem_reps.mp hi
  exact M.mem_reps.mpr ⟨h1, fun j hj q => h2 j hj (M.rm_mono h q)⟩
theorem Mach.reps_less {m i j : Nat} (hi : i < M.st.length) (hj : j < M.st.length) (h1 : M.Rm (m + 1) i j) (h2 : ¬ M.Rm m i j) : (M.reps (m + 1)).length < (M.reps m).length := by
  obtain ⟨r, a1, a2, _⟩ := M.rep_of m i hi
  obtain ⟨s, b1, b2, _⟩ := M.rep_of m j hj
  have hne : r ≠ s := fun e => by
    subst e
    exact h2 (M.rm_trans a2 (M.rm_symm b2))
  have hrs : M.Rm (m + 1) r s := M.rm_trans (M.rm_symm (M.rm_mono (by omega) a2)) (M.rm_trans h1 (M.rm_mono (by omega) b2))
  obtain ⟨x, hx, hx'⟩ : ∃ x, x ∈ M.reps m ∧ x ∉ M.reps (m + 1) := by
    rcases Nat.lt_trichotomy r s with q | q | q
    · exact ⟨s, b1, fun z => (M.mem_reps.mp z).2 r q (M.rm_symm hrs)⟩
    · exact absurd q hne
    · exact ⟨r, a1, fun z => (M.mem_reps.mp z).2 s q hrs⟩
  have hnd : (x :: M.reps (m + 1)).Nodup := List.nodup_cons.mpr ⟨hx', M.reps_nodup _⟩
  have := nodup_le hnd (m := M.reps m) fun y hy => by
    rcases List.mem_cons.mp hy with e | h
    · exact e ▸ hx
    · exact M.reps_sub (by omega) y h
  rw [List.length_cons] at this
  omega
theorem Mach.late_lt (ok : M.Ok) {n : Nat} (h : M.LateIs (some n)) : n < M.st.length := by
  by_cases h0 : n = 0
  · rw [h0]; exact ok.n1
  have all : ∀ i j, i < M.st.length → j < M.st.length → M.Rm n i j := by
    have z : ∀ i, i < M.st.length → M.Rm n 0 i := fun i hi l hl q => by
      have := (h l (by omega)).mp (M.late_iff.mpr ⟨(0, i), ⟨.zero, hi⟩, q⟩)
      omega
    exact fun i j hi hj => M.rm_trans (M.rm_symm (z i hi)) (z j hj)
  obtain ⟨p, hp, hL⟩ := M.late_iff.mp ((h n (by omega)).mpr (Nat.le_refl _))
  have less : ∀ m, m < n → (M.reps (m + 1)).length < (M.reps m).length := fun m hm => by
    apply Classical.byContradiction
    intro hne
    have hst : ∀ i j, i < M.st.length → j < M.st.length → M.Rm (m + 1) i j → M.Rm m i j := fun i j hi hj q => Classical.byContradiction fun z => hne (M.reps_less hi hj q z)
    have := M.rm_stop ok hst (n - m) p.1 p.2 (hp.1.lt ok) hp.2 (by rw [show m + (n - m) = n by omega]; exact all _ _ (hp.1.lt ok) hp.2)
    exact this n hm hL
  have down : ∀ d, d ≤ n → (M.reps d).length + d ≤ (M.reps 0).length := fun d => by
    induction d with
    | zero => intro _; omega
    | succ d ih =>
      intro hd
      have := ih (by omega)
      have := less d (by omega)
      omega
  have h1 := down n (Nat.le_refl _)
  have h2 : 0 < (M.reps n).length := List.length_pos_of_mem (M.mem_reps.mpr ⟨ok.n1, fun j hj => by omega⟩)
  have h3 : (M.reps 0).length ≤ M.st.length := by
    have := nodup_le (M.reps_nodup 0) (m := List.range M.st.length) fun y hy => List.mem_range.mpr (M.mem_reps.mp hy).1
    rwa [List.length_range] at this
  omega
/-- behind more letters than the greatest late word has, all states answer as the first one does -/
theorem Mach.LateIs.alike {n : Nat} (h : M.LateIs (some n)) {i j : Nat} (hi : i < M.st.length) (hj : j < M.st.length) {u : List Nat} {a : Nat} (hu : M.Letters (u ++ [a])) (hl : n ≤ u.length) : M.out (M.led i u) a = M.out (M.led j u) a := by
  have z : ∀ i, i < M.st.length → M.out (M.led 0 u) a = M.out (M.led i u) a := fun i hi => Classical.byContradiction fun q => by
    have := (h (u.length + 1) (by omega)).mp ⟨(0, i), u ++ [a], ⟨.zero, hi⟩, hu, by simp, u, a, rfl, q⟩
    omega
  exact (z i hi).symm.trans (z j hj)
end
end M1
namespace M1
section
variable {M : Mach}
/-! ### late words of the least machine -/
theorem Mach.all_ord (ok : M.Ok) {i s : Nat} (h : M.all[i]? = some s) : (M.ord i)[i]? = some s := by
  obtain ⟨m, e⟩ := M.all_pre ok i
  have hl : i < (M.ord i).length := by
    apply Classical.byContradiction
    intro z
    have := M.all_of ok (i := i) (by omega)
    rw [← this] at h
    have := (List.getElem?_eq_some_iff.mp h).1
    omega
  rw [e, List.getElem?_append_left hl] at h
  exact h
theorem Mach.all_apart (ok : M.Ok) : M.Apart M.all := M.ord_apart ok 6
theorem Mach.all_has (ok : M.Ok) {i s x : Nat} (h : M.all[i]? = some s) (hx : x ∈ M.row s) : ∃ y ∈ M.all, M.eqv y x = true := by
  have ho := M.all_ord ok h
  obtain ⟨m, e⟩ := M.all_pre ok (i + 1)
  obtain ⟨y, hy, q⟩ := M.grow_has (o := M.ord i) (fun z hz => M.row_mem ok (M.ord_lt ok ho) hz) ok hx
  rw [← M.ord_step ho] at hy
  exact ⟨y, by rw [e]; exact List.mem_append_left _ hy, q⟩
theorem Mach.all_zero (ok : M.Ok) : M.all[0]? = some 0 := by
  obtain ⟨m, e⟩ := M.all_pre ok 0
  rw [e]
  rfl
theorem Mach.least_row {i s : Nat} (h : M.all[i]? = some s) : M.least.row i = (M.row s).map (M.num M.all) := by
  unfold Mach.row
  rw [List.getD_eq_getElem?_getD]
  show ((M.all.map fun s => (M.row s).map (M.num M.all))[i]?).getD [] = _
  rw [List.getElem?_map, h]
  rfl
theorem Mach.least_ans {i s : Nat} (h : M.all[i]? = some s) : M.least.ans i = M.ans s := by
  show ((M.all.map M.ans).getD i []) = _
  rw [List.getD_eq_getElem?_getD, List.getElem?_map, h]
  rfl
theorem Mach.least_k (ok : M.Ok) : M.least.k = M.k := by
  show (M.least.row 0).length = _
  rw [M.least_row (M.all_zero ok), List.length_map, M.row_len ok ok.n1]
theorem Mach.least_n (ok : M.Ok) : M.least.st.length = M.all.length := by
  show (M.all.map _).length = _
  rw [List.length_map]
theorem Mach.least_go (ok : M.Ok) {i s a : Nat} (h : M.all[i]? = some s) (ha : a < M.k) : M.least.go i a = M.num M.all (M.go s a) := by
  have hs := M.ord_lt ok (M.all_ord ok h)
  unfold Mach.go
  rw [M.least_row h, List.getD_eq_getElem?_getD, List.getElem?_map, M.go_at ok hs ha]
  rfl
theorem Mach.least_ok (ok : M.Ok) : M.least.Ok where
  n1 := by
    rw [M.least_n ok]
    exact Nat.lt_of_le_of_lt (Nat.zero_le _) (List.getElem?_eq_some_iff.mp (M.all_zero ok)).1
  n6 := by
    rw [M.least_n ok]
    exact Nat.le_trans ((M.all_apart ok).le ok) ok.n6
  k1 := by rw [M.least_k ok]; exact ok.k1
  k3 := by rw [M.least_k ok]; exact ok.k3
  la := by rw [M.least_n ok]; show (M.all.map M.ans).length = _; rw [List.length_map]
  rs := fun r hr => by
    rw [M.least_k ok, M.least_n ok]
    obtain ⟨s, hs, rfl⟩ := List.mem_map.mp (show r ∈ M.all.map fun s => (M.row s).map (M.num M.all) from hr)
    obtain ⟨i, hi, e⟩ := List.getElem_of_mem hs
    have hg : M.all[i]? = some s := by rw [List.getElem?_eq_getElem hi, e]
    refine ⟨by rw [List.length_map, M.row_len ok ((M.all_apart ok).lt s hs)], fun x hx => ?_⟩
    obtain ⟨y, hy, rfl⟩ := List.mem_map.mp hx
    exact M.num_lt (M.all_has ok hg hy)
  ra := fun r hr => by
    rw [M.least_k ok]
    obtain ⟨s, hs, rfl⟩ := List.mem_map.mp (show r ∈ M.all.map M.ans from hr)
    exact ok.ra _ (List.mem_of_getElem? (M.ans_at ok ((M.all_apart ok).lt s hs)))
/-- a state of the least machine stands for one of the machine's -/
def Mach.Stands (M : Mach) (i s : Nat) : Prop := ∃ s', M.all[i]? = some s' ∧ M.Eqv s' s
theorem Mach.Stands.go (ok : M.Ok) {i s a : Nat} (h : M.Stands i s) (ha : a < M.k) : M.Stands (M.least.go i a) (M.go s a) := by
  obtain ⟨s', h1, h2⟩ := h
  have hs' := M.ord_lt ok (M.all_ord ok h1)
  rw [M.least_go ok h1 ha]
  obtain ⟨y, hy, q⟩ := M.num_at (M.all_has ok h1 (List.mem_of_getElem? (M.go_at ok hs' ha)))
  exact ⟨y, hy, (Mach.eqv_iff.mp q).trans ((Mach.Eqv.bis s' s h2).2.2.2 a ha)⟩
theorem Mach.Stands.led (ok : M.Ok) : ∀ {w : List Nat} {i s : Nat}, M.Stands i s → M.Letters w → M.Stands (M.least.led i w) (M.led s w)
  | [], _, _, h, _ => h
  | a :: w, _, _, h, hw => Mach.Stands.led ok (w := w) (h.go ok (hw a List.mem_cons_self)) fun x hx => hw x (List.mem_cons_of_mem _ hx)
theorem Mach.Stands.out {i s a : Nat} (h : M.Stands i s) : M.least.out i a = M.out s a := by
  obtain ⟨s', h1, h2⟩ := h
  unfold Mach.out
  rw [M.least_ans h1, (Mach.Eqv.bis s' s h2).2.2.1]
theorem Mach.Stands.zero (ok : M.Ok) : M.Stands 0 0 := ⟨0, M.all_zero ok, Mach.Eqv.refl ok ok.n1⟩
theorem Mach.least_late (ok : M.Ok) {n : Nat} (h : M.least.Late n) : M.Late n := by
  obtain ⟨p, w, ⟨⟨u, hu, e⟩, hp2⟩, hw, hl, x, a, rfl, hne⟩ := h
  have kk := M.least_k ok
  have hu' : M.Letters u := fun y hy => by rw [← kk]; exact hu y hy
  have hw' : M.Letters (x ++ [a]) := fun y hy => by rw [← kk]; exact hw y hy
  have hx : M.Letters x := fun y hy => hw' y (List.mem_append_left _ hy)
  rw [M.least_n ok] at hp2
  obtain ⟨s, hs⟩ : ∃ s, M.all[p.2]? = some s := ⟨_, List.getElem?_eq_getElem hp2⟩
  have hsl := M.ord_lt ok (M.all_ord ok hs)
  have s1 : M.Stands p.1 (M.led 0 u) := by
    rw [← e]
    exact Mach.Stands.led ok (Mach.Stands.zero ok) hu'
  have s2 : M.Stands p.2 s := ⟨s, hs, Mach.Eqv.refl ok hsl⟩
  refine ⟨(M.led 0 u, s), x ++ [a], ⟨⟨u, hu', rfl⟩, hsl⟩, hw', hl, x, a, rfl, fun z => hne ?_⟩
  rw [(s1.led ok hx).out, (s2.led ok hx).out]
  exact z
theorem Mach.late_some (ok : M.Ok) : ∃ o, M.LateIs o := by
  by_cases h : M.Late 37
  · exact ⟨none, M.late_big ok (n := 37) (by omega) h⟩
  · have fall : ∀ d, ¬ M.Late (d + 1) → ∃ o, M.LateIs o := fun d => by
      induction d with
      | zero => exact fun h => ⟨some 0, M.lateIs_of ok (.inl rfl) h⟩
      | succ d ih =>
        intro h
        by_cases h1 : M.Late (d + 1)
        · exact ⟨some (d + 1), M.lateIs_of ok (.inr h1) h⟩
        · exact ih h1
    exact fall 36 h
/-! ### how many copies -/
/-- rounded up -/
def up (a b : Nat) : Nat := (a + b - 1) / b
theorem up_le {a b m : Nat} (hb : 1 ≤ b) : up a b ≤ m ↔ a ≤ m * b := by
  unfold up
  rw [← Nat.lt_succ_iff, Nat.div_lt_iff_lt_mul (by omega), Nat.succ_mul]
  omega
theorem up_zero {b : Nat} (hb : 1 ≤ b) : up 0 b = 0 := by
  have := (up_le (a := 0) (b := b) (m := 0) hb).mpr (by omega)
  omega
theorem up_pos {a b : Nat} (ha : 1 ≤ a) (hb : 1 ≤ b) : 1 ≤ up a b := by
  apply Classical.byContradiction
  intro z
  have := (up_le (a := a) (b := b) (m := 0) hb).mp (by omega)
  omega
theorem up_mono {a c b : Nat} (h : a ≤ c) (hb : 1 ≤ b) : up a b ≤ up c b := (up_le hb).mpr (Nat.le_trans h ((up_le hb).mp (Nat.le_refl _)))
theorem up_self {a b : Nat} (hb : 1 ≤ b) : a ≤ up a b * b := (up_le hb).mp (Nat.le_refl _)
theorem up_bound {a b : Nat} (hb : 1 ≤ b) : up a b ≤ a := (up_le hb).mpr (by
  have : a * 1 ≤ a * b := Nat.mul_le_mul_left a hb
  omega)
/-- the least number that is enough -/
def needed (o : Option Nat) (p g : Nat) : Option Nat := if p = 0 then some 1 else o.map fun d => 2 * p * up d g + 1
end
end M1
namespace M1
/-! ### courses: copies that strikes push -/
abbrev Strk := Nat × List (Nat × Nat)
def setAll (st : List Nat) (ps : List (Nat × Nat)) : List Nat := ps.foldl (fun s p => s.set p.1 p.2) st
theorem setAll_len (ps : List (Nat × Nat)) : ∀ st : List Nat, (setAll st ps).length = st.length := by
  induction ps with
  | nil => exact fun _ => rfl
  | cons p ps ih =>
    intro st
    show (setAll (st.set p.1 p.2) ps).length = _
    rw [ih, List.length_set]
theorem setAll_snoc (st : List Nat) (ps : List (Nat × Nat)) (p : Nat × Nat) : setAll st (ps ++ [p]) = (setAll st ps).set p.1 p.2 := by
  unfold setAll
  rw [List.foldl_append]
  rfl
theorem setAll_get (ps : List (Nat × Nat)) : ∀ (st : List Nat) (i : Nat) (q : Nat), (setAll st ps)[i]? = some q → st[i]? = some q ∨ ∃ p ∈ ps, p.1 = i ∧ p.2 = q := by
  induction ps with
  | nil => exact fun st i q h => .inl h
  | cons p ps ih =>
    intro st i q h
    rcases ih (st.set p.1 p.2) i q h with h | ⟨r, hr, h⟩
    · by_cases e : p.1 = i
      · subst e
        by_cases hl : p.1 < st.length
        · rw [List.getElem?_set_self hl] at h
          exact .inr ⟨p, List.mem_cons_self, rfl, Option.some.inj h⟩
        · rw [List.getElem?_eq_none (by rw [List.length_set]; omega)] at h
          cases h
      · rw [List.getElem?_set_ne e] at h
        exact .inl h
    · exact .inr ⟨r, List.mem_cons_of_mem _ hr, h⟩
theorem setAll_same (ps : List (Nat × Nat)) : ∀ (st : List Nat) (i : Nat), (∀ p ∈ ps, p.1 ≠ i) → (setAll st ps)[i]? = st[i]? := by
  induction ps with
  | nil => exact fun st i h => rfl
  | cons p ps ih =>
    intro st i h
    show (setAll (st.set p.1 p.2) ps)[i]? = _
    rw [ih _ _ fun q hq => h q (List.mem_cons_of_mem _ hq), List.getElem?_set_ne (h p List.mem_cons_self)]
def atPl (S : List Strk) (j : Nat) : List (Nat × Nat) := match S.find? (fun s => decide (s.1 = j)) with
  | some s => s.2
  | none => []
theorem atPl_mem {S : List Strk} {j : Nat} {p : Nat × Nat} (h : p ∈ atPl S j) : ∃ s ∈ S, s.1 = j ∧ p ∈ s.2 := by
  unfold atPl at h
  cases e : S.find? (fun s => decide (s.1 = j)) with
  | none => rw [e] at h; simp at h
  | some s =>
    rw [e] at h
    exact ⟨s, List.mem_of_find?_eq_some e, by simpa using List.find?_some e, h⟩
/-- one strike behind the other -/
theorem atPl_fold {S : List Strk} (j : Nat) (hS : S.Pairwise fun a b => a.1 < b.1) : ∀ st : List Nat, S.foldl (fun s x => if x.1 = j then setAll s x.2 else s) st = setAll st (atPl S j) := by
  induction S with
  | nil => exact fun _ => rfl
  | cons x S ih =>
    intro st
    have hx := List.pairwise_cons.mp hS
    rw [List.foldl_cons]
    by_cases e : x.1 = j
    · rw [if_pos e]
      have none_ : ∀ (l : List Strk) (st : List Nat), (∀ y ∈ l, y.1 ≠ j) → l.foldl (fun s x => if x.1 = j then setAll s x.2 else s) st = st := by
        intro l
        induction l with
        | nil => exact fun _ _ => rfl
        | cons y l ih =>
          intro st h
          rw [List.foldl_cons, if_neg (h y List.mem_cons_self)]
          exact ih st fun z hz => h z (List.mem_cons_of_mem _ hz)
      rw [none_ S _ fun y hy => by
        have := hx.1 y hy
        omega]
      unfold atPl
      rw [List.find?_cons_of_pos (by simpa using e)]
    · rw [if_neg e, ih hx.2]
      unfold atPl
      rw [List.find?_cons_of_neg (by simpa using e)]
/-- the answer of more than half -/
def voteOf (l : List Nat) : Option Nat := l.find? fun a => decide (l.length < 2 * l.count a)
theorem voteOf_of {l : List Nat} {a : Nat} (h : l.length < 2 * l.count a) : voteOf l = some a := by
  unfold voteOf
  have hm : a ∈ l := List.count_pos_iff.mp (by omega)
  cases e : l.find? (fun a => decide (l.length < 2 * l.count a)) with
  | none =>
    have := List.find?_eq_none.mp e a hm
    exact absurd (decide_eq_true h) this
  | some b =>
    have hb : l.length < 2 * l.count b := by simpa using List.find?_some e
    by_cases hab : a = b
    · rw [hab]
    · have h2 : l.count a + l.count b ≤ l.length := by
        clear e h hb hm
        induction l with
        | nil => simp
        | cons x l ih =>
          rw [List.count_cons, List.count_cons, List.length_cons]
          have : (if x == a then 1 else 0) + (if x == b then 1 else 0) ≤ 1 := by
            by_cases h1 : x = a
            · subst h1
              simp [hab]
            · by_cases h2 : x = b
              · subst h2
                simp [Ne.symm hab]
              · simp [h1, h2]
          omega
      omega
theorem voteOf_some {l : List Nat} {a : Nat} (h : voteOf l = some a) : l.length < 2 * l.count a := by
  unfold voteOf at h
  simpa using List.find?_some h
theorem voteOf_none {l : List Nat} (h : ∀ a, ¬ l.length < 2 * l.count a) : voteOf l = none := by
  unfold voteOf
  rw [List.find?_eq_none]
  exact fun a _ z => h a (of_decide_eq_true z)
/-- what more than half are stands in the middle -/
theorem middle {l : List Nat} {s : List Nat} (hp : s.Perm l) (hs : s.Pairwise (· ≤ ·)) {a : Nat} (h : l.length < 2 * l.count a) {m : Nat} (hm : s[l.length / 2]? = some m) : m = a := by
  have hl := hp.length_eq
  rw [← hp.count_eq] at h
  have cut : s.count a = (s.take (l.length / 2)).count a + (s.drop (l.length / 2)).count a := by rw [← List.count_append, List.take_append_drop]
  have cut2 : s.count a = (s.take (l.length / 2 + 1)).count a + (s.drop (l.length / 2 + 1)).count a := by rw [← List.count_append, List.take_append_drop]
  have ge : ∀ x ∈ s.drop (l.length / 2), m ≤ x := fun x hx => by
    obtain ⟨i, hi⟩ := List.mem_iff_getElem?.mp hx
    rw [List.getElem?_drop] at hi
    by_cases h0 : i = 0
    · subst h0
      rw [Nat.add_zero, hm] at hi
      exact Nat.le_of_eq (Option.some.inj hi)
    · have h1 := List.getElem?_eq_some_iff.mp hm
      have h2 := List.getElem?_eq_some_iff.mp hi
      have := List.pairwise_iff_getElem.mp hs _ _ h1.1 h2.1 (by omega)
      rw [h1.2, h2.2] at this
      exact this
  have le : ∀ x ∈ s.take (l.length / 2 + 1), x ≤ m := fun x hx => by
    obtain ⟨i, hi⟩ := List.mem_iff_getElem?.mp hx
    have hil : i < l.length / 2 + 1 := by
      have := (List.getElem?_eq_some_iff.mp hi).1
      rw [List.length_take] at this
      omega
    rw [List.getElem?_take_of_lt hil] at hi
    by_cases h0 : i = l.length / 2
    · subst h0
      rw [hm] at hi
      exact Nat.le_of_eq (Option.some.inj hi).symm
    · have h1 := List.getElem?_eq_some_iff.mp hm
      have h2 := List.getElem?_eq_some_iff.mp hi
      have := List.pairwise_iff_getElem.mp hs _ _ h2.1 h1.1 (by omega)
      rw [h1.2, h2.2] at this
      exact this
  rcases Nat.lt_trichotomy m a with q | q | q
  · have : (s.take (l.length / 2 + 1)).count a = 0 := List.count_eq_zero.mpr fun z => by
      have := le a z
      omega
    have h3 := List.count_le_length (a := a) (l := s.drop (l.length / 2 + 1))
    rw [List.length_drop] at h3
    omega
  · exact q
  · have : (s.drop (l.length / 2)).count a = 0 := List.count_eq_zero.mpr fun z => by
      have := ge a z
      omega
    have h3 := List.count_le_length (a := a) (l := s.take (l.length / 2))
    rw [List.length_take] at h3
    omega
section
variable {M : Mach}
/-- the copies' states behind j letters -/
def Mach.sts (M : Mach) (c : Nat) (w : List Nat) (S : List Strk) : Nat → List Nat
  | 0 => List.replicate c 0
  | j + 1 => (setAll (M.sts c w S j) (atPl S j)).map fun s => M.go s (w.getD j 0)
def Mach.hit (M : Mach) (c : Nat) (w : List Nat) (S : List Strk) (j : Nat) : List Nat := setAll (M.sts c w S j) (atPl S j)
def Mach.rgt (M : Mach) (w : List Nat) (j : Nat) : Nat := M.led 0 (w.take j)
def Mach.giv (M : Mach) (c : Nat) (w : List Nat) (S : List Strk) (j : Nat) : List Nat := (M.hit c w S j).map fun s => M.out s (w.getD j 0)
theorem Mach.sts_len (c : Nat) (w : List Nat) (S : List Strk) : ∀ j, (M.sts c w S j).length = c
  | 0 => by unfold Mach.sts; rw [List.length_replicate]
  | j + 1 => by
    unfold Mach.sts
    rw [List.length_map, setAll_len, Mach.sts_len]
theorem Mach.hit_len (c : Nat) (w : List Nat) (S : List Strk) (j : Nat) : (M.hit c w S j).length = c := by
  unfold Mach.hit
  rw [setAll_len, M.sts_len]
theorem Mach.giv_len (c : Nat) (w : List Nat) (S : List Strk) (j : Nat) : (M.giv c w S j).length = c := by
  unfold Mach.giv
  rw [List.length_map, M.hit_len]
theorem Mach.rgt_succ {w : List Nat} {j a : Nat} (h : w[j]? = some a) : M.rgt w (j + 1) = M.go (M.rgt w j) a := by
  unfold Mach.rgt
  rw [take_succ' h, M.led_append]
  rfl
structure Mach.Strs (M : Mach) (c : Nat) (S : List Strk) : Prop where
  asc : S.Pairwise fun a b => a.1 < b.1
  pl : ∀ s ∈ S, s.1 ≤ 4000
  ne : ∀ s ∈ S, s.2 ≠ []
  pu : ∀ s ∈ S, s.2.Pairwise fun a b => a.1 < b.1
  ok : ∀ s ∈ S, ∀ p ∈ s.2, p.1 < c ∧ p.2 < M.st.length
theorem Mach.Strs.at_ok {c : Nat} {S : List Strk} (T : M.Strs c S) {j : Nat} : ∀ p ∈ atPl S j, p.1 < c ∧ p.2 < M.st.length := fun p hp => by
  obtain ⟨s, hs, _, h⟩ := atPl_mem hp
  exact T.ok s hs p h
theorem Mach.sts_lt (ok : M.Ok) {c : Nat} {w : List Nat} {S : List Strk} (T : M.Strs c S) : ∀ j, (∀ i a, i < j → w[i]? = some a → a < M.k) → j ≤ w.length → (∀ x ∈ M.sts c w S j, x < M.st.length) ∧ ∀ x ∈ M.hit c w S j, x < M.st.length := fun j => by
  have hitl : ∀ st : List Nat, (∀ x ∈ st, x < M.st.length) → ∀ x ∈ setAll st (atPl S j), x < M.st.length := fun st h x hx => by
    obtain ⟨i, hi⟩ := List.mem_iff_getElem?.mp hx
    rcases setAll_get _ _ _ _ hi with h1 | ⟨p, hp, _, rfl⟩
    · exact h x (List.mem_of_getElem? h1)
    · exact (T.at_ok p hp).2
  induction j with
  | zero =>
    intro _ _
    have h0 : ∀ x ∈ M.sts c w S 0, x < M.st.length := fun x hx => by
      have : x = 0 := List.eq_of_mem_replicate hx
      have := ok.n1
      omega
    exact ⟨h0, hitl _ h0⟩
  | succ j ih =>
    intro hw hl
    have hj : j < w.length := by omega
    have wj : w[j]? = some w[j] := List.getElem?_eq_getElem hj
    have ha := hw j _ (by omega) wj
    have hitl' : ∀ x ∈ M.hit c w S j, x < M.st.length := by
      have h1 := (ih (fun st h x hx => by
        obtain ⟨i, hi⟩ := List.mem_iff_getElem?.mp hx
        rcases setAll_get _ _ _ _ hi with h1 | ⟨p, hp, _, rfl⟩
        · exact h x (List.mem_of_getElem? h1)
        · exact (T.at_ok p hp).2) (fun i a hi => hw i a (by omega)) (by omega))
      exact h1.2
    have h0 : ∀ x ∈ M.sts c w S (j + 1), x < M.st.length := fun x hx => by
      unfold Mach.sts at hx
      obtain ⟨s, hs, rfl⟩ := List.mem_map.mp hx
      rw [getD_of wj]
      exact M.go_lt ok (hitl' s hs) ha
    exact ⟨h0, hitl _ h0⟩
/-- whence a copy's state comes -/
def Mach.Whence (M : Mach) (w : List Nat) (S : List Strk) (j i q : Nat) : Prop := ∃ t z, t ≤ j ∧ z < M.st.length ∧ q = M.led z ((w.drop t).take (j - t)) ∧ (z = M.rgt w t ∨ ∃ s ∈ S, s.1 = t ∧ ∃ p ∈ s.2, p.1 = i)
theorem Mach.rgt_lt (ok : M.Ok) {w : List Nat} (hw : M.Letters w) (j : Nat) : M.rgt w j < M.st.length := M.led_lt ok ok.n1 fun x hx => hw x (List.mem_of_mem_take hx)
theorem Mach.whence (ok : M.Ok) {c : Nat} {w : List Nat} {S : List Strk} (T : M.Strs c S) (hw : M.Letters w) : ∀ j, j ≤ w.length → (∀ i q, (M.sts c w S j)[i]? = some q → M.Whence w S j i q) ∧ ∀ i q, (M.hit c w S j)[i]? = some q → M.Whence w S j i q := fun j => by
  have up_ : ∀ j, (∀ i q, (M.sts c w S j)[i]? = some q → M.Whence w S j i q) → ∀ i q, (M.hit c w S j)[i]? = some q → M.Whence w S j i q := fun j h i q hq => by
    rcases setAll_get _ _ _ _ hq with h1 | ⟨p, hp, rfl, rfl⟩
    · exact h i q h1
    · obtain ⟨s, hs, e, hp'⟩ := atPl_mem hp
      exact ⟨j, p.2, Nat.le_refl _, (T.at_ok p hp).2, by rw [Nat.sub_self]; rfl, .inr ⟨s, hs, e, p, hp', rfl⟩⟩
  induction j with
  | zero =>
    intro _
    have h0 : ∀ i q, (M.sts c w S 0)[i]? = some q → M.Whence w S 0 i q := fun i q hq => by
      have : q = 0 := List.eq_of_mem_replicate (List.mem_of_getElem? hq)
      subst this
      exact ⟨0, 0, Nat.le_refl _, ok.n1, rfl, .inl rfl⟩
    exact ⟨h0, up_ 0 h0⟩
  | succ j ih =>
    intro hl
    have hj : j < w.length := by omega
    have wj : w[j]? = some w[j] := List.getElem?_eq_getElem hj
    have h0 : ∀ i q, (M.sts c w S (j + 1))[i]? = some q → M.Whence w S (j + 1) i q := fun i q hq => by
      unfold Mach.sts at hq
      rw [List.getElem?_map] at hq
      cases e : (setAll (M.sts c w S j) (atPl S j))[i]? with
      | none => rw [e] at hq; cases hq
      | some q0 =>
        rw [e] at hq
        have hq' : M.go q0 (w.getD j 0) = q := Option.some.inj hq
        rw [getD_of wj] at hq'
        obtain ⟨t, z, ht, hz, e1, hh⟩ := (ih (by omega)).2 i q0 e
        refine ⟨t, z, by omega, hz, ?_, hh⟩
        rw [← hq', e1, show j + 1 - t = (j - t) + 1 by omega, take_succ' (x := w[j]) (by rw [List.getElem?_drop, show t + (j - t) = j by omega]; exact wj), M.led_append]
        rfl
    exact ⟨h0, up_ _ h0⟩
theorem Mach.led_rgt {w : List Nat} {t j : Nat} (h : t ≤ j) (hj : j ≤ w.length) : M.led (M.rgt w t) ((w.drop t).take (j - t)) = M.rgt w j := by
  unfold Mach.rgt
  rw [← M.led_append]
  congr 1
  rw [List.take_drop, show t + (j - t) = j by omega]
  have : w.take t = (w.take j).take t := by rw [List.take_take, Nat.min_eq_left h]
  rw [this, List.take_append_drop]
/-- the copies pushed of late -/
def recent (S : List Strk) (d j : Nat) : List Strk := S.filter fun s => decide (s.1 ≤ j) && decide (j < s.1 + d)
theorem Mach.fair (ok : M.Ok) {c d : Nat} {w : List Nat} {S : List Strk} (T : M.Strs c S) (hw : M.Letters w) (hL : M.LateIs (some d)) {j i q : Nat} (hj : j < w.length) (hq : (M.hit c w S j)[i]? = some q) (hi : i ∉ (recent S d j).flatMap fun s => s.2.map (·.1)) : M.out q (w.getD j 0) = M.out (M.rgt w j) (w.getD j 0) := by
  have wj : w[j]? = some w[j] := List.getElem?_eq_getElem hj
  rw [getD_of wj]
  obtain ⟨t, z, ht, hz, rfl, hh⟩ := (M.whence ok T hw j (by omega)).2 i q hq
  rcases hh with rfl | ⟨s, hs, e, p, hp, rfl⟩
  · rw [M.led_rgt ht (by omega)]
  · rw [← M.led_rgt ht (by omega)]
    have hd : ¬ j < t + d := fun z => hi (List.mem_flatMap.mpr ⟨s, List.mem_filter.mpr ⟨hs, by rw [e, decide_eq_true ht, decide_eq_true z]; rfl⟩, List.mem_map.mpr ⟨p, hp, rfl⟩⟩)
    refine hL.alike hz (M.rgt_lt ok hw t) (u := (w.drop t).take (j - t)) (a := w[j]) (fun x hx => ?_) ?_
    · rcases List.mem_append.mp hx with h | h
      · exact hw x (List.mem_of_mem_drop (List.mem_of_mem_take h))
      · rw [List.mem_singleton] at h
        rw [h]
        exact hw _ (List.getElem_mem hj)
    · rw [List.length_take, List.length_drop]
      omega
theorem count_bad {l : List Nat} {a : Nat} {B : List Nat} (h : ∀ i x, l[i]? = some x → i ∉ B → x = a) : l.length ≤ l.count a + B.length := by
  have key : ∀ (l : List Nat) (f : Nat → Bool), (∀ i x, l[i]? = some x → f i = false → x = a) → l.length ≤ l.count a + ((List.range l.length).filter f).length := fun l => by
    refine snoc_ind (P := fun l => ∀ f : Nat → Bool, (∀ i x, l[i]? = some x → f i = false → x = a) → l.length ≤ l.count a + ((List.range l.length).filter f).length) (fun f _ => by simp) (fun l x ih f h => ?_) l
    have h1 := ih f fun i y hy => h i y (by rw [List.getElem?_append_left (List.getElem?_eq_some_iff.mp hy).1]; exact hy)
    have h2 := h l.length x (by rw [List.getElem?_append_right (Nat.le_refl _)]; simp)
    rw [List.length_append, List.length_singleton, List.range_succ, List.filter_append, List.length_append, List.count_append]
    cases hf : f l.length with
    | true =>
      rw [List.filter_cons, if_pos hf]
      simp only [List.filter_nil, List.length_singleton]
      omega
    | false =>
      rw [h2 hf]
      simp
      omega
  have h1 := key l (fun i => decide (i ∈ B)) fun i x hx hf => h i x hx (of_decide_eq_false hf)
  have h2 : ((List.range l.length).filter fun i => decide (i ∈ B)).length ≤ B.length := nodup_le (List.nodup_range.filter _) fun i hi => of_decide_eq_true (List.mem_filter.mp hi).2
  omega
theorem gaps {S : List Strk} {g d j : Nat} (hg : 1 ≤ g) (hS : S.Pairwise fun a b => a.1 + g ≤ b.1) : (recent S d j).length ≤ up d g := by
  have hF : (recent S d j).Pairwise fun a b => a.1 + g ≤ b.1 := hS.filter _
  have hm : ∀ s ∈ recent S d j, s.1 ≤ j ∧ j < s.1 + d := fun s hs => by
    have := (List.mem_filter.mp hs).2
    rw [Bool.and_eq_true] at this
    exact ⟨of_decide_eq_true this.1, of_decide_eq_true this.2⟩
  generalize recent S d j = F at hF hm
  cases F with
  | nil => exact Nat.zero_le _
  | cons x F =>
    have far : ∀ (F : List Strk) (x : Strk), (x :: F).Pairwise (fun a b => a.1 + g ≤ b.1) → ∃ y ∈ x :: F, x.1 + F.length * g ≤ y.1 := fun F => by
      induction F with
      | nil => exact fun x _ => ⟨x, List.mem_cons_self, by simp⟩
      | cons z F ih =>
        intro x h
        have hx := List.pairwise_cons.mp h
        obtain ⟨y, hy, h2⟩ := ih z hx.2
        have := hx.1 z List.mem_cons_self
        refine ⟨y, List.mem_cons_of_mem _ hy, ?_⟩
        rw [List.length_cons, Nat.succ_mul]
        omega
    obtain ⟨y, hy, h2⟩ := far F x hF
    have h3 := hm x List.mem_cons_self
    have h4 := hm y hy
    rw [List.length_cons]
    apply Classical.byContradiction
    intro z
    have := (up_le (a := d) (b := g) (m := F.length) hg).mp (by omega)
    omega
/-- where the copies are enough, the vote is right -/
theorem Mach.vote_right (ok : M.Ok) {c p g : Nat} {o : Option Nat} {w : List Nat} {S : List Strk} (T : M.Strs c S) (hw : M.Letters w) (hL : M.LateIs o) (hg : 1 ≤ g) (hp : ∀ s ∈ S, s.2.length ≤ p) (hS : S.Pairwise fun a b => a.1 + g ≤ b.1) {m : Nat} (hm : needed o p g = some m) (hc : m ≤ c) {j : Nat} (hj : j < w.length) :
    voteOf (M.giv c w S j) = some (M.out (M.rgt w j) (w.getD j 0)) := by
  have hb : ∃ B : List Nat, 2 * B.length < c ∧ ∀ i q, (M.hit c w S j)[i]? = some q → i ∉ B → M.out q (w.getD j 0) = M.out (M.rgt w j) (w.getD j 0) := by
    unfold needed at hm
    by_cases h0 : p = 0
    · rw [if_pos h0] at hm
      have := Option.some.inj hm
      refine ⟨[], by show 2 * 0 < c; omega, fun i q hq _ => ?_⟩
      obtain ⟨t, z, ht, hz, rfl, hh⟩ := (M.whence ok T hw j (by omega)).2 i q hq
      rcases hh with rfl | ⟨s, hs, e, x, hx, rfl⟩
      · rw [M.led_rgt ht (by omega)]
      · have := hp s hs
        have : s.2 = [] := List.length_eq_zero_iff.mp (by omega)
        rw [this] at hx
        simp at hx
    · rw [if_neg h0] at hm
      cases o with
      | none => cases hm
      | some d =>
        have hm' : 2 * p * up d g + 1 = m := Option.some.inj hm
        refine ⟨(recent S d j).flatMap fun s => s.2.map (·.1), ?_, fun i q hq hi => M.fair ok T hw hL hj hq hi⟩
        have hr := gaps (d := d) (j := j) hg hS
        have hsub : ∀ s ∈ recent S d j, s.2.length ≤ p := fun s hs => hp s (List.mem_filter.mp hs).1
        have hlen : ((recent S d j).flatMap fun s => s.2.map (·.1)).length ≤ (recent S d j).length * p := by
          generalize recent S d j = F at hsub
          induction F with
          | nil => simp
          | cons x F ih =>
            rw [List.flatMap_cons, List.length_append, List.length_map, List.length_cons, Nat.succ_mul]
            have := ih fun s hs => hsub s (List.mem_cons_of_mem _ hs)
            have := hsub x List.mem_cons_self
            omega
        have : (recent S d j).length * p ≤ up d g * p := Nat.mul_le_mul_right p hr
        have e : 2 * p * up d g = 2 * (up d g * p) := by rw [Nat.mul_assoc, Nat.mul_comm p]
        omega
  obtain ⟨B, h1, h2⟩ := hb
  refine voteOf_of ?_
  have h3 := count_bad (l := M.giv c w S j) (a := M.out (M.rgt w j) (w.getD j 0)) (B := B) fun i x hx hi => by
    unfold Mach.giv at hx
    rw [List.getElem?_map] at hx
    cases e : (M.hit c w S j)[i]? with
    | none => rw [e] at hx; cases hx
    | some q =>
      rw [e] at hx
      rw [← Option.some.inj hx]
      exact h2 i q e hi
  rw [M.giv_len] at h3 ⊢
  omega
end
end M1
namespace Kx
open PySem PySem.Spec PyProof.Rows L2

def top (i : Nat) : Stmt := PySem.Challenge.pw_pushedclerks_k01_whole_machines.main.body.getD i (.Pass ⟨0, 0, 0, 0⟩)
abbrev s_is_integer : Stmt := top 10
abbrev N_is_integer : List Str := ["value", "low", "high"]
theorem sc_is_integer : FnScope N_is_integer ["value", "low", "high"] (defScope s_is_integer) := ⟨rfl, rfl, rfl, by decide +kernel, rfl, by decide +kernel, by decide +kernel⟩
abbrev s_is_tuple : Stmt := top 11
abbrev N_is_tuple : List Str := ["value", "low", "high"]
theorem sc_is_tuple : FnScope N_is_tuple ["value", "low", "high"] (defScope s_is_tuple) := ⟨rfl, rfl, rfl, by decide +kernel, rfl, by decide +kernel, by decide +kernel⟩
abbrev s_is_row : Stmt := top 12
abbrev N_is_row : List Str := ["value", "greatest", "item"]
theorem sc_is_row : FnScope N_is_row ["value", "greatest"] (defScope s_is_row) := ⟨rfl, rfl, rfl, by decide +kernel, rfl, by decide +kernel, by decide +kernel⟩
abbrev s_is_table : Stmt := top 13
abbrev N_is_table : List Str := ["value", "height", "width", "greatest", "row"]
theorem sc_is_table : FnScope N_is_table ["value", "height", "width", "greatest"] (defScope s_is_table) := ⟨rfl, rfl, rfl, by decide +kernel, rfl, by decide +kernel, by decide +kernel⟩
abbrev s_is_steps : Stmt := top 14
abbrev N_is_steps : List Str := ["value"]
theorem sc_is_steps : FnScope N_is_steps ["value"] (defScope s_is_steps) := ⟨rfl, rfl, rfl, by decide +kernel, rfl, by decide +kernel, by decide +kernel⟩
abbrev s_check_machine : Stmt := top 15
abbrev N_check_machine : List Str := ["machine", "steps", "told"]
theorem sc_check_machine : FnScope N_check_machine ["machine"] (defScope s_check_machine) := ⟨rfl, rfl, rfl, by decide +kernel, rfl, by decide +kernel, by decide +kernel⟩
abbrev s_is_state : Stmt := top 16
abbrev N_is_state : List Str := ["machine", "value"]
theorem sc_is_state : FnScope N_is_state ["machine", "value"] (defScope s_is_state) := ⟨rfl, rfl, rfl, by decide +kernel, rfl, by decide +kernel, by decide +kernel⟩
abbrev s_check_state : Stmt := top 17
abbrev N_check_state : List Str := ["machine", "state"]
theorem sc_check_state : FnScope N_check_state ["machine", "state"] (defScope s_check_state) := ⟨rfl, rfl, rfl, by decide +kernel, rfl, by decide +kernel, by decide +kernel⟩
abbrev s_is_word : Stmt := top 18
abbrev N_is_word : List Str := ["machine", "value"]
theorem sc_is_word : FnScope N_is_word ["machine", "value"] (defScope s_is_word) := ⟨rfl, rfl, rfl, by decide +kernel, rfl, by decide +kernel, by decide +kernel⟩
abbrev s_is_short_word : Stmt := top 19
abbrev N_is_short_word : List Str := ["machine", "value"]
theorem sc_is_short_word : FnScope N_is_short_word ["machine", "value"] (defScope s_is_short_word) := ⟨rfl, rfl, rfl, by decide +kernel, rfl, by decide +kernel, by decide +kernel⟩
abbrev s_check_word : Stmt := top 20
abbrev N_check_word : List Str := ["machine", "word"]
theorem sc_check_word : FnScope N_check_word ["machine", "word"] (defScope s_check_word) := ⟨rfl, rfl, rfl, by decide +kernel, rfl, by decide +kernel, by decide +kernel⟩
abbrev s_answers : Stmt := top 22
abbrev N_answers : List Str := ["machine", "state", "word", "steps", "told", "given", "letter"]
theorem sc_answers : FnScope N_answers ["machine", "state", "word"] (defScope s_answers) := ⟨rfl, rfl, rfl, by decide +kernel, rfl, by decide +kernel, by decide +kernel⟩
abbrev s_first_come_numbers : Stmt := top 23
abbrev N_first_come_numbers : List Str := ["keys", "numbers", "given", "key"]
theorem sc_first_come_numbers : FnScope N_first_come_numbers ["keys"] (defScope s_first_come_numbers) := ⟨rfl, rfl, rfl, by decide +kernel, rfl, by decide +kernel, by decide +kernel⟩
abbrev s_alike_classes : Stmt := top 24
abbrev N_alike_classes : List Str := ["machine", "steps", "told", "classes", "keys", "state", "row", "finer", "after"]
theorem sc_alike_classes : FnScope N_alike_classes ["machine"] (defScope s_alike_classes) := ⟨rfl, rfl, rfl, by decide +kernel, rfl, by decide +kernel, by decide +kernel⟩
abbrev s_least_machine : Stmt := top 25
abbrev N_least_machine : List Str := ["machine", "steps", "told", "classes", "numbers", "chosen", "least_steps", "state", "row", "after", "old"]
theorem sc_least_machine : FnScope N_least_machine ["machine"] (defScope s_least_machine) := ⟨rfl, rfl, rfl, by decide +kernel, rfl, by decide +kernel, by decide +kernel⟩
abbrev s_law_taken : Stmt := top 27
abbrev N_law_taken : List Str := ["row", "many", "found", "cell"]
theorem sc_law_taken : FnScope N_law_taken ["row", "many"] (defScope s_law_taken) := ⟨rfl, rfl, rfl, by decide +kernel, rfl, by decide +kernel, by decide +kernel⟩
abbrev s_law_machine : Stmt := top 28
abbrev N_law_machine : List Str := ["row", "states", "letters", "many", "some", "kind", "steps", "told", "table", "state", "line", "letter", "there"]
theorem sc_law_machine : FnScope N_law_machine ["row", "states", "letters"] (defScope s_law_machine) := ⟨rfl, rfl, rfl, by decide +kernel, rfl, by decide +kernel, by decide +kernel⟩
abbrev s_law_alike : Stmt := top 29
abbrev N_law_alike : List Str := ["found", "due", "k"]
theorem sc_law_alike : FnScope N_law_alike ["found", "due"] (defScope s_law_alike) := ⟨rfl, rfl, rfl, by decide +kernel, rfl, by decide +kernel, by decide +kernel⟩
abbrev s_law_led : Stmt := top 30
abbrev N_law_led : List Str := ["machine", "state", "word", "letter"]
theorem sc_law_led : FnScope N_law_led ["machine", "state", "word"] (defScope s_law_led) := ⟨rfl, rfl, rfl, by decide +kernel, rfl, by decide +kernel, by decide +kernel⟩
abbrev s_law_told : Stmt := top 31
abbrev N_law_told : List Str := ["machine", "state", "word", "at"]
theorem sc_law_told : FnScope N_law_told ["machine", "state", "word"] (defScope s_law_told) := ⟨rfl, rfl, rfl, by decide +kernel, rfl, by decide +kernel, by decide +kernel⟩
abbrev s_law_unlike : Stmt := top 32
abbrev N_law_unlike : List Str := ["machine", "many", "found", "turn", "one", "other", "some", "letter"]
theorem sc_law_unlike : FnScope N_law_unlike ["machine"] (defScope s_law_unlike) := ⟨rfl, rfl, rfl, by decide +kernel, rfl, by decide +kernel, by decide +kernel⟩
abbrev s_law : Stmt := top 33
abbrev N_law : List Str := ["script", "row", "machine", "letters", "turn", "state", "word", "apart", "firsts", "order", "at", "there", "line", "due", "one", "k"]
theorem sc_law : FnScope N_law ["script"] (defScope s_law) := ⟨rfl, rfl, rfl, by decide +kernel, rfl, by decide +kernel, by decide +kernel⟩
structure Txt (K : PySem.W.Frag) (mg : Str → Option Value) : Prop where
  b_all : mg "all" = none
  b_bool : mg "bool" = none
  b_enumerate : mg "enumerate" = none
  b_int : mg "int" = none
  b_isinstance : mg "isinstance" = none
  b_len : mg "len" = none
  b_list : mg "list" = none
  b_min : mg "min" = none
  b_range : mg "range" = none
  b_str : mg "str" = none
  b_tuple : mg "tuple" = none
  c_MOST_STATES : ∃ t, mg "MOST_STATES" = some (.int 6 t)
  c_MOST_LETTERS : ∃ t, mg "MOST_LETTERS" = some (.int 3 t)
  c_MOST_ANSWER : ∃ t, mg "MOST_ANSWER" = some (.int 9 t)
  c_LONGEST_WORD : ∃ t, mg "LONGEST_WORD" = some (.int 4000 t)
theorem bt_all : bootBuiltins "all" = some (.builtin "all") := by decide +kernel
theorem bt_bool : bootBuiltins "bool" = some (.type "bool") := by decide +kernel
theorem bt_enumerate : bootBuiltins "enumerate" = some (.type "enumerate") := by decide +kernel
theorem bt_int : bootBuiltins "int" = some (.type "int") := by decide +kernel
theorem bt_isinstance : bootBuiltins "isinstance" = some (.builtin "isinstance") := by decide +kernel
theorem bt_len : bootBuiltins "len" = some (.builtin "len") := by decide +kernel
theorem bt_list : bootBuiltins "list" = some (.type "list") := by decide +kernel
theorem bt_min : bootBuiltins "min" = some (.builtin "min") := by decide +kernel
theorem bt_range : bootBuiltins "range" = some (.type "range") := by decide +kernel
theorem bt_str : bootBuiltins "str" = some (.type "str") := by decide +kernel
theorem bt_tuple : bootBuiltins "tuple" = some (.type "tuple") := by decide +kernel
open Evl
section
variable {P : Program} {w : World} {K : PySem.W.Frag} {mg : Str → Option Value} {base : Heap}
/-! ### the promises of the checks -/
def sp_is_integer : Sp := fun vs H Q _ => ∃ v lo hi : Int, vs = [.int v, .int lo, .int hi] ∧ ∀ H2, Ex H H2 → Q (.bl (decide (lo ≤ v) && decide (v ≤ hi))) H2
def sp_is_tuple (K : PySem.W.Frag) : Sp := fun vs H Q _ => ∃ (a : Addr) (xs : List V) (lo hi : Int), vs = [.ref a, .int lo, .int hi] ∧ SqT K H a xs ∧ lo ≤ xs.length ∧ xs.length ≤ hi ∧ ∀ H2, Ex H H2 → Q (.bl true) H2
def sp_is_row (K : PySem.W.Frag) : Sp := fun vs H Q _ => ∃ (a : Addr) (r : List Nat) (g : Int), vs = [.ref a, .int g] ∧ SqT K H a (rowV r) ∧ r.length ≤ 40000 ∧ (∀ x ∈ r, (x : Int) ≤ g) ∧ ∀ H2, Ex H H2 → Q (.bl true) H2
def sp_is_table (K : PySem.W.Frag) : Sp := fun vs H Q _ => ∃ (v : V) (t : List (List Nat)) (hg wd : Nat) (g : Int), vs = [v, .int hg, .int wd, .int g] ∧ TabAt K H v t ∧ t.length = hg ∧ hg ≤ 1000 ∧ wd ≤ 1000 ∧ (∀ r ∈ t, r.length = wd ∧ ∀ x ∈ r, (x : Int) ≤ g) ∧ ∀ H2, Ex H H2 → Q (.bl true) H2
def sp_is_steps (K : PySem.W.Frag) : Sp := fun vs H Q _ => ∃ (v : V) (M : M1.Mach), vs = [v] ∧ TabAt K H v M.st ∧ M.Ok ∧ ∀ H2, Ex H H2 → Q (.bl true) H2
def sp_check_machine (K : PySem.W.Frag) : Sp := fun vs H Q _ => ∃ (v : V) (M : M1.Mach), vs = [v] ∧ MacAt K H v M.st M.an ∧ M.Ok ∧ ∀ H2, Ex H H2 → Q .non H2
def sp_is_state (K : PySem.W.Frag) : Sp := fun vs H Q _ => ∃ (v : V) (M : M1.Mach) (i : Nat), vs = [v, .int i] ∧ MacAt K H v M.st M.an ∧ i < M.st.length ∧ ∀ H2, Ex H H2 → Q (.bl true) H2
def sp_check_state (K : PySem.W.Frag) : Sp := fun vs H Q _ => ∃ (v : V) (M : M1.Mach) (i : Nat), vs = [v, .int i] ∧ MacAt K H v M.st M.an ∧ i < M.st.length ∧ ∀ H2, Ex H H2 → Q .non H2
def sp_is_word (K : PySem.W.Frag) : Sp := fun vs H Q _ => ∃ (v : V) (M : M1.Mach) (a : Addr) (r : List Nat), vs = [v, .ref a] ∧ MacAt K H v M.st M.an ∧ M.Ok ∧ SqT K H a (rowV r) ∧ r.length ≤ 4000 ∧ (∀ x ∈ r, x < M.k) ∧ ∀ H2, Ex H H2 → Q (.bl true) H2
def sp_check_word (K : PySem.W.Frag) : Sp := fun vs H Q _ => ∃ (v : V) (M : M1.Mach) (a : Addr) (r : List Nat), vs = [v, .ref a] ∧ MacAt K H v M.st M.an ∧ M.Ok ∧ SqT K H a (rowV r) ∧ r.length ≤ 4000 ∧ (∀ x ∈ r, x < M.k) ∧ ∀ H2, Ex H H2 → Q .non H2

theorem has_is_integer (T : Txt K mg) {f : Addr} {fd : FuncData} (F : Fun K "is_integer" "is_integer" s_is_integer f fd) (g : mg "is_integer" = some (.ref f)) (B : Binds K fd ["value", "low", "high"] []) : Has P w K mg base "is_integer" 1 ["value", "low", "high"] sp_is_integer := by
  refine Has.mk' g F.kp B (F.ok sc_is_integer (fun vs H Q E h => ?_) (fun cdv A outer s H vs Q E hr h => ?_))
  · obtain ⟨v, lo, hi, rfl, _⟩ := h
    rfl
  · obtain ⟨v, lo, hi, rfl, k⟩ := h
    refine ⟨_, (pss_one (ps_ret (pe_and (pe_callB (call_isi1 (K := K) rfl) (by rfl) T.b_isinstance bt_isinstance (pa_cons (pv 0) (pa_cons (pe_bltn (v := .ty "int") (by rfl) T.b_int bt_int rfl) pa_nil))) (pe_and (pe_not (pe_callB (call_isi1 (K := K) rfl) (by rfl) T.b_isinstance bt_isinstance (pa_cons (pv 0) (pa_cons (pe_bltn (v := .ty "bool") (by rfl) T.b_bool bt_bool rfl) pa_nil)))) (pe_one (pe_chain op_le op_le (pv 1) (pv 0) (pv 2))))))), ?_⟩
    refine s_ret (ev_andV (a := true) (ev_isi (T := "int") (ev_var rfl) (fun _ _ => .base (.int _)) (by decide +kernel)) fun _ => ev_andV (a := true) (ev_notV (a := false) (ev_isi (T := "int") (ev_var rfl) (fun _ _ => .base (.int _)) (by decide +kernel))) fun _ =>
      ev_chainLe (ev_var rfl) (ev_var rfl) (ev_var rfl)) fun H1 e => ?_
    rw [Bool.true_and, Bool.true_and]
    exact k H1 e
theorem has_is_tuple (T : Txt K mg) {f : Addr} {fd : FuncData} (F : Fun K "is_tuple" "is_tuple" s_is_tuple f fd) (g : mg "is_tuple" = some (.ref f)) (B : Binds K fd ["value", "low", "high"] []) : Has P w K mg base "is_tuple" 1 ["value", "low", "high"] (sp_is_tuple K) := by
  refine Has.mk' g F.kp B (F.ok sc_is_tuple (fun vs H Q E h => ?_) (fun cdv A outer s H vs Q E hr h => ?_))
  · obtain ⟨a, xs, lo, hi, rfl, _⟩ := h
    rfl
  · obtain ⟨a, xs, lo, hi, rfl, hS, h1, h2, k⟩ := h
    refine ⟨_, (pss_one (ps_ret (pe_and (pe_callB (call_isi1 (K := K) rfl) (by rfl) T.b_isinstance bt_isinstance (pa_cons (pv 0) (pa_cons (pe_bltn (v := .ty "tuple") (by rfl) T.b_tuple bt_tuple rfl) pa_nil))) (pe_one (pe_chain op_le op_le (pv 1) (pe_callB (call_lenK (K := K) rfl) (by rfl) T.b_len bt_len (pa_cons (pv 0) pa_nil)) (pv 2)))))), ?_⟩
    refine s_ret (ev_andV (a := true) (ev_isi (T := "tuple") (ev_var rfl) (fun _ e => sqT_ty (ex_t e hS)) (by decide +kernel)) fun _ => ev_chainLe (ev_var rfl) (ev_lenT (ev_var rfl) hS) (ev_var rfl)) fun H1 e => ?_
    rw [decide_eq_true h1, decide_eq_true h2]
    exact k H1 e
theorem has_is_row (T : Txt K mg) (h_is_integer : Has P w K mg base "is_integer" 1 ["value", "low", "high"] sp_is_integer) {f : Addr} {fd : FuncData} (F : Fun K "is_row" "is_row" s_is_row f fd) (g : mg "is_row" = some (.ref f)) (B : Binds K fd ["value", "greatest"] []) : Has P w K mg base "is_row" 2 ["value", "greatest"] (sp_is_row K) := by
  refine Has.mk' g F.kp B (F.ok sc_is_row (fun vs H Q E h => ?_) (fun cdv A outer s H vs Q E hr h => ?_))
  · obtain ⟨a, r, g, rfl, _⟩ := h
    rfl
  · obtain ⟨a, r, g, rfl, hS, hl, hg, k⟩ := h
    refine ⟨_, (pss_one (ps_ret (pe_and (pe_callB (call_isi1 (K := K) rfl) (by rfl) T.b_isinstance bt_isinstance (pa_cons (pv 0) (pa_cons (pe_bltn (v := .ty "tuple") (by rfl) T.b_tuple bt_tuple rfl) pa_nil))) (pe_one (pe_callB (cr_all rfl) (by rfl) T.b_all bt_all (pa_cons (pe_lc (own := [("item", 2)]) (g := gName 2) (tt := tYes) (by rfl) sc_is_row.nd (pi_tupK (K := K) rfl (pv 0)) (blkOk_by (N := N_is_row) (sc := defScope s_is_row) (by decide +kernel)) (fun _ _ _ _ _ => pg_name (i := 2) sc_is_row.nd rfl (Or.inl rfl)) (fun _ _ _ _ _ => pts_nil) (fun _ _ _ _ _ => (pe_has h_is_integer (hr.mono (by first | decide | exact Nat.le_refl _)) (by rfl) (pa_cons (pv 2) (pa_cons pe_int (pa_cons (pv 1) pa_nil)))))) pa_nil)))))), ?_⟩
    refine s_ret (ev_andV (a := true) (b := true) (ev_isi (T := "tuple") (ev_var rfl) (fun _ e => sqT_ty (ex_t e hS)) (by decide +kernel)) fun _ =>
      ev_allN (n := (rowV r).length) (el_lcT (fun _ => .bl true) (ev_var rfl) hS (by rw [rowV_len]; exact hl) (fun _ => rfl) fun i x H1 e1 hx => ev_callV (ea_cons (ev_var rfl) (ea_cons ev_c (ea_cons (ev_var rfl) ea_nil))) fun H2 e2 Q q => ?_)) fun H1 e => k H1 e
    obtain ⟨n, hn, rfl⟩ : ∃ n, r[i]? = some n ∧ x = nV n := by
      unfold rowV at hx
      rw [List.getElem?_map] at hx
      cases e : r[i]? with
      | none => rw [e] at hx; cases hx
      | some n => rw [e] at hx; exact ⟨n, rfl, (Option.some.inj hx).symm⟩
    refine ⟨n, 0, g, rfl, fun H3 e3 => ?_⟩
    have h1 : (0 : Int) ≤ n := Int.natCast_nonneg n
    have h2 := hg n (List.mem_of_getElem? hn)
    rw [decide_eq_true h1, decide_eq_true h2]
    exact q H3 e3
theorem row0 {M : M1.Mach} (ok : M.Ok) : M.st[0]? = some (M.row 0) ∧ (M.row 0).length = M.k := ⟨M.row_at ok.n1, M.row_len ok ok.n1⟩
theorem has_is_table (T : Txt K mg) (h_is_tuple : Has P w K mg base "is_tuple" 1 ["value", "low", "high"] (sp_is_tuple K)) (h_is_row : Has P w K mg base "is_row" 2 ["value", "greatest"] (sp_is_row K)) {f : Addr} {fd : FuncData} (F : Fun K "is_table" "is_table" s_is_table f fd) (g : mg "is_table" = some (.ref f)) (B : Binds K fd ["value", "height", "width", "greatest"] []) :
    Has P w K mg base "is_table" 3 ["value", "height", "width", "greatest"] (sp_is_table K) := by
  refine Has.mk' g F.kp B (F.ok sc_is_table (fun vs H Q E h => ?_) (fun cdv A outer s H vs Q E hr h => ?_))
  · obtain ⟨v, t, hg, wd, g, rfl, _⟩ := h
    rfl
  · obtain ⟨v, t, hg, wd, g, rfl, ⟨a, vs, rfl, hS, hP⟩, hl, h1, h2, hx, k⟩ := h
    have hvl : vs.length = t.length := Paired.length hP
    refine ⟨_, (pss_cons (ps_if (pt_not (pt_val (pe_has h_is_tuple (hr.mono (by first | decide | exact Nat.le_refl _)) (by rfl) (pa_cons (pv 0) (pa_cons (pv 1) (pa_cons (pv 1) pa_nil))))))
      (pss_one (ps_ret pe_bl))
      pss_nil)
      (pss_one (ps_ret (pe_callB (cr_all rfl) (by rfl) T.b_all bt_all (pa_cons (pe_lc (own := [("row", 4)]) (g := gName 4) (tt := tYes) (by rfl) sc_is_table.nd (pi_tupK (K := K) rfl (pv 0)) (blkOk_by (N := N_is_table) (sc := defScope s_is_table) (by decide +kernel)) (fun _ _ _ _ _ => pg_name (i := 4) sc_is_table.nd rfl (Or.inl rfl)) (fun _ _ _ _ _ => pts_nil) (fun _ _ _ _ _ => (pe_and (pe_has h_is_row (hr.mono (by first | decide | exact Nat.le_refl _)) (by rfl) (pa_cons (pv 4) (pa_cons (pv 3) pa_nil))) (pe_one (pe_cmpR op_eq (pe_callB (call_lenK (K := K) rfl) (by rfl) T.b_len bt_len (pa_cons (pv 4) pa_nil)) (pv 2) (nomark _)))))) pa_nil))))), ?_⟩
    refine q_when (b := false) (et_not (a := true) (et_B (ev_callV (ea_cons (ev_var rfl) (ea_cons (ev_var rfl) (ea_cons (ev_var rfl) ea_nil))) fun H1 e1 Q q => ⟨a, vs, _, _, rfl, ex_t e1 hS, by omega, by omega, q⟩))) (fun z => by cases z) fun _ H1 e1 => ?_
    refine s_ret (ev_allN (n := vs.length) (el_lcT (fun _ => .bl true) (ev_var rfl) (ex_t e1 hS) (by omega) (fun _ => rfl) fun i x H2 e2 hx' => ?_)) fun H2 e2 => k H2 (e1.trans e2)
    obtain ⟨r, hr', b, rfl, hb⟩ := Paired.get' hP hx'
    have hm := hx r (List.mem_of_getElem? hr')
    have hb2 := ex_t (e1.trans e2) hb
    refine ev_is (ev_andV (a := true) (ev_callV (ea_cons (ev_var rfl) (ea_cons (ev_var rfl) ea_nil)) fun H3 e3 Q q => ⟨b, r, g, rfl, ex_t e3 hb2, by omega, hm.2, q⟩) fun _ => ev_op (ev_lenT (ev_var rfl) hb2) (ev_var rfl) (rv_eq rfl)) ?_
    rw [rowV_len, hm.1, decide_eq_true rfl]
    rfl
theorem has_is_steps (T : Txt K mg) (h_is_tuple : Has P w K mg base "is_tuple" 1 ["value", "low", "high"] (sp_is_tuple K)) (h_is_table : Has P w K mg base "is_table" 3 ["value", "height", "width", "greatest"] (sp_is_table K)) {f : Addr} {fd : FuncData} (F : Fun K "is_steps" "is_steps" s_is_steps f fd) (g : mg "is_steps" = some (.ref f)) (B : Binds K fd ["value"] []) :
    Has P w K mg base "is_steps" 4 ["value"] (sp_is_steps K) := by
  refine Has.mk' g F.kp B (F.ok sc_is_steps (fun vs H Q E h => ?_) (fun cdv A outer s H vs Q E hr h => ?_))
  · obtain ⟨v, M, rfl, _⟩ := h
    rfl
  · obtain ⟨v, M, rfl, ⟨a, vs, rfl, hS, hP⟩, ok, k⟩ := h
    have hvl : vs.length = M.st.length := Paired.length hP
    have n1 := ok.n1
    have n6 := ok.n6
    have k1 := ok.k1
    have k3 := ok.k3
    obtain ⟨r0, hr0⟩ := row0 ok
    obtain ⟨x0, g0, a0, rfl, hS0⟩ := Paired.get hP r0
    refine ⟨_, (pss_cons (ps_if (PW.pt (pw_or (pt_not (pt_val (pe_has h_is_tuple (hr.mono (by first | decide | exact Nat.le_refl _)) (by rfl) (pa_cons (pv 0) (pa_cons pe_int (pa_cons (pe_globI (by rfl) T.c_MOST_STATES) pa_nil)))))) (pw_or1 (pt_not (pt_val (pe_has h_is_tuple (hr.mono (by first | decide | exact Nat.le_refl _)) (by rfl) (pa_cons (pe_ix (ix_tupK (K := K) rfl) (pv 0) pe_int (fun _ _ => rfl)) (pa_cons pe_int (pa_cons (pe_globI (by rfl) T.c_MOST_LETTERS) pa_nil)))))))))
      (pss_one (ps_ret pe_bl))
      pss_nil)
      (pss_one (ps_ret (pe_has h_is_table (hr.mono (by first | decide | exact Nat.le_refl _)) (by rfl) (pa_cons (pv 0) (pa_cons (pe_callB (call_lenK (K := K) rfl) (by rfl) T.b_len bt_len (pa_cons (pv 0) pa_nil)) (pa_cons (pe_callB (call_lenK (K := K) rfl) (by rfl) T.b_len bt_len (pa_cons (pe_ix (ix_tupK (K := K) rfl) (pv 0) pe_int (fun _ _ => rfl)) pa_nil)) (pa_cons (pe_op op_sub (pe_callB (call_lenK (K := K) rfl) (by rfl) T.b_len bt_len (pa_cons (pv 0) pa_nil)) pe_int) pa_nil)))))))), ?_⟩
    have v0 : ∀ H1, Ex H H1 → Ev (tOp (rIxT K) (tVar 0) (tC (.int 0))) (start N_is_steps [V.ref a]) H1 (.ref a0) := fun H1 e1 => ev_op (ev_var rfl) ev_c (rv_ixT (ex_t e1 hS) (atI_nat (j := 0) g0))
    refine q_when (b := false) (et_or (a := false) (et_not (a := true) (et_B (ev_callV (ea_cons (ev_var rfl) (ea_cons ev_c (ea_cons ev_c ea_nil))) fun H1 e1 Q q => ⟨a, vs, _, _, rfl, ex_t e1 hS, by omega, by omega, q⟩))) fun _ =>
      et_not (a := true) (et_B (ev_callV (ea_cons (v0 H (Ex.refl H)) (ea_cons ev_c (ea_cons ev_c ea_nil))) fun H1 e1 Q q => ⟨a0, rowV (M.row 0), _, _, rfl, ex_t e1 hS0, by rw [rowV_len]; omega, by rw [rowV_len]; omega, q⟩))) (fun z => by cases z) fun _ H1 e1 => ?_
    refine s_ret (ev_callV (ea_cons (ev_var rfl) (ea_cons (ev_lenT (ev_var rfl) (ex_t e1 hS)) (ea_cons (ev_lenT (v0 H1 e1) (ex_t e1 hS0)) (ea_cons (ev_op (ev_lenT (ev_var rfl) (ex_t e1 hS)) ev_c rv_I0) ea_nil)))) fun H2 e2 Q q => ?_) fun H2 e2 => k H2 (e1.trans e2)
    rw [rowV_len, hr0, hvl]
    refine ⟨.ref a, M.st, M.st.length, M.k, _, rfl, ⟨a, vs, rfl, ex_t (e1.trans e2) hS, Paired.mapP hP fun _ _ z => z.keep (TK.ex (e1.trans e2))⟩, rfl, by omega, by omega, fun r hr => ⟨(ok.rs r hr).1, fun x hx => ?_⟩, q⟩
    have := (ok.rs r hr).2 x hx
    omega
theorem has_check_machine (T : Txt K mg) (h_is_tuple : Has P w K mg base "is_tuple" 1 ["value", "low", "high"] (sp_is_tuple K)) (h_is_table : Has P w K mg base "is_table" 3 ["value", "height", "width", "greatest"] (sp_is_table K)) (h_is_steps : Has P w K mg base "is_steps" 4 ["value"] (sp_is_steps K))
    {f : Addr} {fd : FuncData} (F : Fun K "check_machine" "check_machine" s_check_machine f fd) (g : mg "check_machine" = some (.ref f)) (B : Binds K fd ["machine"] []) : Has P w K mg base "check_machine" 5 ["machine"] (sp_check_machine K) := by
  refine Has.mk' g F.kp B (F.ok sc_check_machine (fun vs H Q E h => ?_) (fun cdv A outer s H vs Q E hr h => ?_))
  · obtain ⟨v, M, rfl, _⟩ := h
    rfl
  · obtain ⟨v, M, rfl, ⟨a, x, y, rfl, hS, hx, hy⟩, ok, k⟩ := h
    have k3 := ok.k3
    have n6 := ok.n6
    obtain ⟨ax, vx, rfl, hSx, hPx⟩ := hx
    have hvl : vx.length = M.st.length := Paired.length hPx
    obtain ⟨r0, hr0⟩ := row0 ok
    obtain ⟨x0, g0, a0, rfl, hS0⟩ := Paired.get hPx r0
    refine ⟨_, (pss_cons (ps_if (pt_not (pt_val (pe_has h_is_tuple (hr.mono (by first | decide | exact Nat.le_refl _)) (by rfl) (pa_cons (pv 0) (pa_cons pe_int (pa_cons pe_int pa_nil))))))
      (pss_one (ps_never))
      pss_nil)
      (pss_cons (ps_asg (pv 0) (pg_tupK (K := K) (n := 2) rfl (by rfl) (pgs_cons (pg_name (i := 1) sc_check_machine.nd rfl (.inl rfl)) (pgs_cons (pg_name (i := 2) sc_check_machine.nd rfl (.inl rfl)) pgs_nil))))
      (pss_cons (ps_if (pt_not (pt_val (pe_has h_is_steps (hr.mono (by first | decide | exact Nat.le_refl _)) (by rfl) (pa_cons (pv 1) pa_nil))))
      (pss_one (ps_never))
      pss_nil)
      (pss_one (ps_if (pt_not (pt_val (pe_has h_is_table (hr.mono (by first | decide | exact Nat.le_refl _)) (by rfl) (pa_cons (pv 2) (pa_cons (pe_callB (call_lenK (K := K) rfl) (by rfl) T.b_len bt_len (pa_cons (pv 1) pa_nil)) (pa_cons (pe_callB (call_lenK (K := K) rfl) (by rfl) T.b_len bt_len (pa_cons (pe_ix (ix_tupK (K := K) rfl) (pv 1) pe_int (fun _ _ => rfl)) pa_nil)) (pa_cons (pe_globI (by rfl) T.c_MOST_ANSWER) pa_nil)))))))
      (pss_one (ps_never))
      pss_nil))))), ?_⟩
    refine q_when (b := false) (et_not (a := true) (et_B (ev_callV (ea_cons (ev_var rfl) (ea_cons ev_c (ea_cons ev_c ea_nil))) fun H1 e1 Q q => ⟨a, _, _, _, rfl, ex_t e1 hS, by show (2 : Int) ≤ 2; decide, by show (2 : Int) ≤ 2; decide, q⟩))) (fun z => by cases z) fun _ H1 e1 => ?_
    refine ⟨.ref a, rfl, a, _, rfl, ex_t e1 hS, rfl, _, _, rfl, _, _, rfl, rfl, ?_⟩
    refine q_when (b := false) (et_not (a := true) (et_B (ev_callV (ea_cons (ev_var rfl) ea_nil) fun H2 e2 Q q => ⟨.ref ax, M, rfl, ⟨ax, vx, rfl, ex_t (e1.trans e2) hSx, Paired.mapP hPx fun _ _ z => z.keep (TK.ex (e1.trans e2))⟩, ok, q⟩))) (fun z => by cases z) fun _ H2 e2 => ?_
    have e3 := e1.trans e2
    refine s_when (b := false) (et_not (a := true) (et_B (ev_callV (ea_cons (ev_var rfl) (ea_cons (ev_lenT (ev_var rfl) (ex_t e3 hSx)) (ea_cons (ev_lenT (ev_op (ev_var rfl) ev_c (rv_ixT (ex_t e3 hSx) (atI_nat (j := 0) g0))) (ex_t e3 hS0)) (ea_cons ev_c ea_nil)))) fun H4 e4 Q q => ?_))) (fun z => by cases z) fun _ H4 e4 => k H4 (e3.trans e4)
    rw [rowV_len, hr0, hvl]
    exact ⟨y, M.an, M.st.length, M.k, _, rfl, hy.keep (TK.ex (e3.trans e4)), ok.la, by omega, by omega, fun r hr => ⟨(ok.ra r hr).1, fun x hx => by have := (ok.ra r hr).2 x hx; omega⟩, q⟩
theorem has_is_state (T : Txt K mg) (h_is_integer : Has P w K mg base "is_integer" 1 ["value", "low", "high"] sp_is_integer) {f : Addr} {fd : FuncData} (F : Fun K "is_state" "is_state" s_is_state f fd) (g : mg "is_state" = some (.ref f)) (B : Binds K fd ["machine", "value"] []) :
    Has P w K mg base "is_state" 2 ["machine", "value"] (sp_is_state K) := by
  refine Has.mk' g F.kp B (F.ok sc_is_state (fun vs H Q E h => ?_) (fun cdv A outer s H vs Q E hr h => ?_))
  · obtain ⟨v, M, i, rfl, _⟩ := h
    rfl
  · obtain ⟨v, M, i, rfl, ⟨a, x, y, rfl, hS, ⟨ax, vx, rfl, hSx, hPx⟩, hy⟩, hi, k⟩ := h
    have hvl : vx.length = M.st.length := Paired.length hPx
    refine ⟨_, (pss_one (ps_ret (pe_has h_is_integer (hr.mono (by first | decide | exact Nat.le_refl _)) (by rfl) (pa_cons (pv 1) (pa_cons pe_int (pa_cons (pe_op op_sub (pe_callB (call_lenK (K := K) rfl) (by rfl) T.b_len bt_len (pa_cons (pe_ix (ix_tupK (K := K) rfl) (pv 0) pe_int (fun _ _ => rfl)) pa_nil)) pe_int) pa_nil)))))), ?_⟩
    refine s_ret (ev_callV (z := .bl true) (ea_cons (ev_var rfl) (ea_cons ev_c (ea_cons (ev_op (ev_lenT (ev_op (ev_var rfl) ev_c (rv_ixT hS (atI_nat (j := 0) rfl))) hSx) ev_c rv_I0) ea_nil))) fun H1 e1 Q q => ⟨_, _, _, rfl, fun H2 e2 => ?_⟩) fun H1 e1 => k H1 e1
    rw [decide_eq_true (by omega), decide_eq_true (by omega)]
    exact q H2 e2
theorem has_check_state (T : Txt K mg) (h_is_state : Has P w K mg base "is_state" 2 ["machine", "value"] (sp_is_state K)) {f : Addr} {fd : FuncData} (F : Fun K "check_state" "check_state" s_check_state f fd) (g : mg "check_state" = some (.ref f)) (B : Binds K fd ["machine", "state"] []) :
    Has P w K mg base "check_state" 3 ["machine", "state"] (sp_check_state K) := by
  refine Has.mk' g F.kp B (F.ok sc_check_state (fun vs H Q E h => ?_) (fun cdv A outer s H vs Q E hr h => ?_))
  · obtain ⟨v, M, i, rfl, _⟩ := h
    rfl
  · obtain ⟨v, M, i, rfl, hM, hi, k⟩ := h
    refine ⟨_, (pss_one (ps_if (pt_not (pt_val (pe_has h_is_state (hr.mono (by first | decide | exact Nat.le_refl _)) (by rfl) (pa_cons (pv 0) (pa_cons (pv 1) pa_nil)))))
      (pss_one (ps_never))
      pss_nil)), ?_⟩
    exact s_when (b := false) (et_not (a := true) (et_B (ev_callV (ea_cons (ev_var rfl) (ea_cons (ev_var rfl) ea_nil)) fun H1 e1 Q q => ⟨v, M, i, rfl, hM.keep (TK.ex e1), hi, q⟩))) (fun z => by cases z) fun _ H1 e1 => k H1 e1
theorem has_is_word (T : Txt K mg) (h_is_row : Has P w K mg base "is_row" 2 ["value", "greatest"] (sp_is_row K)) {f : Addr} {fd : FuncData} (F : Fun K "is_word" "is_word" s_is_word f fd) (g : mg "is_word" = some (.ref f)) (B : Binds K fd ["machine", "value"] []) :
    Has P w K mg base "is_word" 3 ["machine", "value"] (sp_is_word K) := by
  refine Has.mk' g F.kp B (F.ok sc_is_word (fun vs H Q E h => ?_) (fun cdv A outer s H vs Q E hr h => ?_))
  · obtain ⟨v, M, b, r, rfl, _⟩ := h
    rfl
  · obtain ⟨v, M, b, r, rfl, ⟨a, x, y, rfl, hS, ⟨ax, vx, rfl, hSx, hPx⟩, hy⟩, ok, hb, hl, hk, k⟩ := h
    obtain ⟨r0, hr0⟩ := row0 ok
    obtain ⟨x0, g0, a0, rfl, hS0⟩ := Paired.get hPx r0
    refine ⟨_, (pss_one (ps_ret (pe_has h_is_row (hr.mono (by first | decide | exact Nat.le_refl _)) (by rfl) (pa_cons (pv 1) (pa_cons (pe_op op_sub (pe_callB (call_lenK (K := K) rfl) (by rfl) T.b_len bt_len (pa_cons (pe_ix (ix_tupK (K := K) rfl) (pe_ix (ix_tupK (K := K) rfl) (pv 0) pe_int (fun _ _ => rfl)) pe_int (fun _ _ => rfl)) pa_nil)) pe_int) pa_nil))))), ?_⟩
    refine s_ret (ev_callV (ea_cons (ev_var rfl) (ea_cons (ev_op (ev_lenT (ev_op (ev_op (ev_var rfl) ev_c (rv_ixT hS (atI_nat (j := 0) rfl))) ev_c (rv_ixT hSx (atI_nat (j := 0) g0))) hS0) ev_c rv_I0) ea_nil)) fun H1 e1 Q q => ⟨b, r, _, rfl, ex_t e1 hb, by omega, fun x hx => ?_, q⟩) fun H1 e1 => k H1 e1
    have := hk x hx
    rw [rowV_len, hr0]
    omega
theorem has_is_short_word (T : Txt K mg) (h_is_tuple : Has P w K mg base "is_tuple" 1 ["value", "low", "high"] (sp_is_tuple K)) (h_is_word : Has P w K mg base "is_word" 3 ["machine", "value"] (sp_is_word K)) {f : Addr} {fd : FuncData} (F : Fun K "is_short_word" "is_short_word" s_is_short_word f fd) (g : mg "is_short_word" = some (.ref f)) (B : Binds K fd ["machine", "value"] []) :
    Has P w K mg base "is_short_word" 4 ["machine", "value"] (sp_is_word K) := by
  refine Has.mk' g F.kp B (F.ok sc_is_short_word (fun vs H Q E h => ?_) (fun cdv A outer s H vs Q E hr h => ?_))
  · obtain ⟨v, M, b, r, rfl, _⟩ := h
    rfl
  · obtain ⟨v, M, b, r, rfl, hM, ok, hb, hl, hk, k⟩ := h
    refine ⟨_, (pss_one (ps_ret (pe_and (pe_has h_is_tuple (hr.mono (by first | decide | exact Nat.le_refl _)) (by rfl) (pa_cons (pv 1) (pa_cons pe_int (pa_cons (pe_globI (by rfl) T.c_LONGEST_WORD) pa_nil)))) (pe_one (pe_has h_is_word (hr.mono (by first | decide | exact Nat.le_refl _)) (by rfl) (pa_cons (pv 0) (pa_cons (pv 1) pa_nil))))))), ?_⟩
    exact s_ret (ev_andV (a := true) (b := true) (ev_callV (ea_cons (ev_var rfl) (ea_cons ev_c (ea_cons ev_c ea_nil))) fun H1 e1 Q q => ⟨b, _, _, _, rfl, ex_t e1 hb, by omega, by rw [rowV_len]; omega, q⟩) fun _ =>
      ev_callV (ea_cons (ev_var rfl) (ea_cons (ev_var rfl) ea_nil)) fun H1 e1 Q q => ⟨v, M, b, r, rfl, hM.keep (TK.ex e1), ok, ex_t e1 hb, hl, hk, q⟩) fun H1 e1 => k H1 e1
theorem has_check_word (T : Txt K mg) (h_is_short_word : Has P w K mg base "is_short_word" 4 ["machine", "value"] (sp_is_word K)) {f : Addr} {fd : FuncData} (F : Fun K "check_word" "check_word" s_check_word f fd) (g : mg "check_word" = some (.ref f)) (B : Binds K fd ["machine", "word"] []) :
    Has P w K mg base "check_word" 5 ["machine", "word"] (sp_check_word K) := by
  refine Has.mk' g F.kp B (F.ok sc_check_word (fun vs H Q E h => ?_) (fun cdv A outer s H vs Q E hr h => ?_))
  · obtain ⟨v, M, b, r, rfl, _⟩ := h
    rfl
  · obtain ⟨v, M, b, r, rfl, hM, ok, hb, hl, hk, k⟩ := h
    refine ⟨_, (pss_one (ps_if (pt_not (pt_val (pe_has h_is_short_word (hr.mono (by first | decide | exact Nat.le_refl _)) (by rfl) (pa_cons (pv 0) (pa_cons (pv 1) pa_nil)))))
      (pss_one (ps_never))
      pss_nil)), ?_⟩
    exact s_when (b := false) (et_not (a := true) (et_B (ev_callV (ea_cons (ev_var rfl) (ea_cons (ev_var rfl) ea_nil)) fun H1 e1 Q q => ⟨v, M, b, r, rfl, hM.keep (TK.ex e1), ok, ex_t e1 hb, hl, hk, q⟩))) (fun z => by cases z) fun _ H1 e1 => k H1 e1
end

end Kx
namespace Kx
open PySem PySem.Spec PyProof.Rows L2

open Evl
section
variable {P : Program} {w : World} {K : PySem.W.Frag} {mg : Str → Option Value} {base : Heap}
def oV (o : Option Nat) : V := match o with | some n => nV n | none => .non
/-- the answers to a word -/
def tldV (M : M1.Mach) (i : Nat) (r : List Nat) : List V := gvn r.length fun j => nV (M.tld i r j)
/-- an item of a table -/
theorem tab_get {K : PySem.W.Frag} {H : Hp} {vx : List V} {t : List (List Nat)} (h : Paired (RowAt K H) vx t) {i : Nat} {r : List Nat} (e : t[i]? = some r) : ∃ a, vx[i]? = some (.ref a) ∧ SqT K H a (rowV r) := by
  obtain ⟨x, g, a, rfl, hS⟩ := Paired.get h e
  exact ⟨a, g, hS⟩
theorem paired_keep {K : PySem.W.Frag} {H H' : Hp} {vx : List V} {t : List (List Nat)} (h : Paired (RowAt K H) vx t) (e : TK K H H') : Paired (RowAt K H') vx t := Paired.mapP h fun _ _ z => z.keep e
def sp_led (K : PySem.W.Frag) : Sp := fun vs H Q _ => ∃ (v : V) (M : M1.Mach) (i : Nat) (b : Addr) (r : List Nat), vs = [v, .int (i : Int), .ref b] ∧ MacAt K H v M.st M.an ∧ M.Ok ∧ i < M.st.length ∧ SqT K H b (rowV r) ∧ (∀ x ∈ r, x < M.k) ∧ ∀ H2, Ex H H2 → Q (nV (M.led i r)) H2
def sp_told (K : PySem.W.Frag) : Sp := fun vs H Q _ => ∃ (v : V) (M : M1.Mach) (i : Nat) (b : Addr) (r : List Nat), vs = [v, .int (i : Int), .ref b] ∧ MacAt K H v M.st M.an ∧ M.Ok ∧ i < M.st.length ∧ SqT K H b (rowV r) ∧ r.length ≤ 4000 ∧ (∀ x ∈ r, x < M.k) ∧
  ∀ p H2, H p = none → Ex H H2 → H2 p = some (.tup (tldV M i r)) → Q (.ref p) H2
theorem rv_isN {H : Hp} {x : V} : RV (fun x y H Q => y = V.non ∧ Q (V.bl (decide (x = V.non))) H) x .non H (.bl (decide (x = .non))) := fun H1 _ Q q => ⟨rfl, q H1 (Ex.refl _)⟩
theorem rv_notN {H : Hp} {x : V} : RV (fun x y H Q => y = V.non ∧ Q (V.bl (!decide (x = V.non))) H) x .non H (.bl (!decide (x = .non))) := fun H1 _ Q q => ⟨rfl, q H1 (Ex.refl _)⟩
theorem et_isN {σ : L2.St} {H : Hp} {i : Nat} {v : V} (h : σ[i]? = some (some v)) : EvT (tTest (tOp (fun x y H Q => y = V.non ∧ Q (V.bl (decide (x = V.non))) H) (tVar i) (tC V.non))) σ H (decide (v = .non)) := fun H1 e1 Q q => ⟨v, h, rfl, _, rfl, q H1 (Ex.refl _)⟩
theorem et_notN {σ : L2.St} {H : Hp} {i : Nat} {v : V} (h : σ[i]? = some (some v)) : EvT (tTest (tOp (fun x y H Q => y = V.non ∧ Q (V.bl (!decide (x = V.non))) H) (tVar i) (tC V.non))) σ H (!decide (v = .non)) := fun H1 e1 Q q => ⟨v, h, rfl, _, rfl, q H1 (Ex.refl _)⟩
end

end Kx
namespace Kx
open PySem PySem.Spec PyProof.Rows L2

open Evl
section
variable {P : Program} {w : World} {K : PySem.W.Frag} {mg : Str → Option Value} {base : Heap}
def sp_answers (K : PySem.W.Frag) : Sp := fun vs H Q _ => ∃ (v : V) (M : M1.Mach) (i : Nat) (b : Addr) (r : List Nat), vs = [v, .int i, .ref b] ∧ MacAt K H v M.st M.an ∧ M.Ok ∧ i < M.st.length ∧ SqT K H b (rowV r) ∧ r.length ≤ 4000 ∧ (∀ x ∈ r, x < M.k) ∧
  ∀ p H2, H p = none → Ex H H2 → H2 p = some (.tup (tldV M i r)) → Q (.ref p) H2
theorem has_answers (T : Txt K mg) (h_check_machine : Has P w K mg base "check_machine" 5 ["machine"] (sp_check_machine K)) (h_check_state : Has P w K mg base "check_state" 3 ["machine", "state"] (sp_check_state K)) (h_check_word : Has P w K mg base "check_word" 5 ["machine", "word"] (sp_check_word K))
    {f : Addr} {fd : FuncData} (F : Fun K "answers" "answers" s_answers f fd) (g : mg "answers" = some (.ref f)) (B : Binds K fd ["machine", "state", "word"] []) : Has P w K mg base "answers" 6 ["machine", "state", "word"] (sp_answers K) := by
  refine Has.mk' g F.kp B (F.ok sc_answers (fun vs H Q E h => ?_) (fun cdv A outer s H vs Q E hr h => ?_))
  · obtain ⟨v, M, i, b, r, rfl, _⟩ := h
    rfl
  · obtain ⟨v, M, i, b, r, rfl, hM, ok, hi, hb, hl, hk, k⟩ := h
    refine ⟨_, (pss_cons (ps_expr (pe_has h_check_machine (hr.mono (by first | decide | exact Nat.le_refl _)) (by rfl) (pa_cons (pv 0) pa_nil)))
      (pss_cons (ps_expr (pe_has h_check_state (hr.mono (by first | decide | exact Nat.le_refl _)) (by rfl) (pa_cons (pv 0) (pa_cons (pv 1) pa_nil))))
      (pss_cons (ps_expr (pe_has h_check_word (hr.mono (by first | decide | exact Nat.le_refl _)) (by rfl) (pa_cons (pv 0) (pa_cons (pv 2) pa_nil))))
      (pss_cons (ps_asg (pv 0) (pg_tupK (K := K) (n := 2) rfl (by rfl) (pgs_cons (pg_name (i := 3) sc_answers.nd rfl (.inl rfl)) (pgs_cons (pg_name (i := 4) sc_answers.nd rfl (.inl rfl)) pgs_nil))))
      (pss_cons (ps_set (i := 5) sc_answers.nd rfl (.inl rfl) (pe_lst pa_nil))
      (pss_cons (ps_for PassesOwn.never rfl (pi_tupK (K := K) rfl (pv 2)) (pg_name (i := 6) sc_answers.nd rfl (.inl rfl))
      (pss_cons (ps_expr (pe_bm PySem.F.plainAttrs_list PySem.F.slot_list_append PySem.F.type_list_append mt_append (pv 5) (pa_cons (pe_ix (ix_tupK (K := K) rfl) (pe_ix (ix_tupK (K := K) rfl) (pv 4) (pv 1) (fun _ _ => rfl)) (pv 6) (fun _ _ => rfl)) pa_nil)))
      (pss_one (ps_set (i := 1) sc_answers.nd rfl (.inl rfl) (pe_ix (ix_tupK (K := K) rfl) (pe_ix (ix_tupK (K := K) rfl) (pv 3) (pv 1) (fun _ _ => rfl)) (pv 6) (fun _ _ => rfl))))))
      (pss_one (ps_ret (pe_callTy (call_tupleK (K := K) rfl) (by rfl) T.b_tuple bt_tuple (pa_cons (pv 5) pa_nil)))))))))), ?_⟩
    refine q_drop (ev_callV (z := .non) (ea_cons (ev_var rfl) ea_nil) fun H1 e1 Q q => ⟨v, M, rfl, hM.keep (TK.ex e1), ok, q⟩) fun H1 e1 => ?_
    refine q_drop (ev_callV (z := .non) (ea_cons (ev_var rfl) (ea_cons (ev_var rfl) ea_nil)) fun H2 e2 Q q => ⟨v, M, i, rfl, hM.keep (TK.ex (e1.trans e2)), hi, q⟩) fun H2 e2 => ?_
    refine q_drop (ev_callV (z := .non) (ea_cons (ev_var rfl) (ea_cons (ev_var rfl) ea_nil)) fun H3 e3 Q q => ⟨v, M, b, r, rfl, hM.keep (TK.ex ((e1.trans e2).trans e3)), ok, ex_t ((e1.trans e2).trans e3) hb, hl, hk, q⟩) fun H3 e3 => ?_
    have e4 := (e1.trans e2).trans e3
    obtain ⟨a, x, y, rfl, hS, ⟨ax, vx, rfl, hSx, hPx⟩, ⟨ay, vy, rfl, hSy, hPy⟩⟩ := hM
    refine ⟨_, rfl, a, _, rfl, ex_t e4 hS, rfl, _, _, rfl, _, _, rfl, rfl, ?_⟩
    refine q_asgL (el_lst ea_nil (by decide)) fun p H4 hp e5 h4 => ?_
    have e0 := e4.trans e5
    have np : H p = none := fresh_back e4 hp
    refine q_forT (ev_var rfl) (ex_t e0 hb) (fun j σ' H' => ∃ l, σ' = [some (.ref a), some (.int (M.led i (r.take j) : Nat)), some (.ref b), some (.ref ax), some (.ref ay), some (.ref p), l] ∧ Ex H H' ∧ H' p = some (.lst (gvn j fun j => nV (M.tld i r j))))
      (fun H5 e6 => ⟨none, rfl, e0.trans e6, e6 _ _ h4⟩) (fun j σ' H' _ ⟨_, _, e, _⟩ => ex_t e hb) ?_ ?_
    · rintro j z σ' H' hz ⟨l, rfl, e, hL⟩
      obtain ⟨c, hc, rfl⟩ := map_of hz
      have hlt : M.led i (r.take j) < M.st.length := M.led_lt ok hi fun x hx => hk x (List.mem_of_mem_take hx)
      have hcm := hk c (List.mem_of_getElem? hc)
      have hj : j < r.length := (List.getElem?_eq_some_iff.mp hc).1
      obtain ⟨ar, gr, hr1⟩ := tab_get hPx (M.row_at hlt)
      obtain ⟨aa, ga, ha1⟩ := tab_get hPy (M.ans_at ok hlt)
      have ho := M.out_at ok hlt hcm
      have hg := M.go_at ok hlt hcm
      have et : M.tld i r j = M.out (M.led i (r.take j)) c := by
        unfold M1.Mach.tld
        rw [M1.getD_of hc]
      refine q_app hL (ev_var rfl) (ev_op (ev_op (ev_var rfl) (ev_var rfl) (rv_ixT (ex_t e hSy) (atI_nat ga))) (ev_var rfl) (rv_ixT (ex_t e ha1) (atI_nat (rowV_at ho)))) (by rw [gvn_len]; omega) fun H5 e6 => ?_
      have e7 : Ex H (upd H5 p (.lst (gvn j (fun j => nV (M.tld i r j)) ++ [nV (M.out (M.led i (r.take j)) c)]))) := Ex.mut (e.trans e6) np
      refine s_asg (ev_op (ev_op (ev_var rfl) (ev_var rfl) (rv_ixT (ex_t e7 hSx) (atI_nat gr))) (ev_var rfl) (rv_ixT (ex_t e7 hr1) (atI_nat (rowV_at hg)))) fun H6 e8 => ?_
      refine ⟨some (nV c), ?_, e7.trans e8, e8 _ _ ?_⟩
      · rw [M.led_take hc]
        rfl
      · rw [gvn_succ, et]
        exact upd_same
    · rintro σ' H' ⟨l, rfl, e, hL⟩
      rw [rowV_len] at hL
      refine s_retU (eu_tupL (ev_var rfl) (sq_of hL)) fun q H5 hq e6 h5 => k q H5 (fresh_back e hq) (e.trans e6) h5

/-! ### numbers by first coming -/
def sp_first (K : PySem.W.Frag) : Sp := fun vs H Q _ => ∃ (a : Addr) (xs : List V) (ks : List NestedKey), vs = [.ref a] ∧ (SqT K H a xs ∨ SqL K H a xs) ∧ Paired (fun v k => (∃ b, v = V.ref b) ∧ NKey K H v k ∧ k.depth ≤ 8) xs ks ∧ ks.length ≤ 1000 ∧
  ∀ p H2, H p = none → Ex H H2 → H2 p = some (.lst (rowV (M1.fc ks))) → Q (.ref p) H2
/-- the dict behind the keys ks -/
structure FcD (K : PySem.W.Frag) (H : Hp) (kvs : List (NestedKey × Addr × V)) (ks : List NestedKey) : Prop where
  keys : kvs.map (·.1) = M1.nub ks
  vals : ∀ (j : Nat) e, kvs[j]? = some e → e.2.2 = nV j
  at_ : ∀ q ∈ kvs, NKey K H (.ref q.2.1) q.1 ∧ q.1.depth ≤ 8
theorem atN_at : ∀ (kvs : List (NestedKey × Addr × V)) (l : List NestedKey) (off : Nat), kvs.map (·.1) = l → (∀ (j : Nat) e, kvs[j]? = some e → e.2.2 = nV (j + off)) → ∀ k, atN kvs k = if k ∈ l then some (nV (l.idxOf k + off)) else none
  | [], _, off, h, _, k => by
    subst h
    rfl
  | e :: kvs, _, off, h, hv, k => by
    subst h
    have ih := atN_at kvs _ (off + 1) rfl (fun j e' he => by rw [hv (j + 1) e' (by simpa using he)]; congr 1; omega) k
    have h0 := hv 0 e rfl
    rw [List.map_cons]
    by_cases hk : e.1 = k
    · have : atN (e :: kvs) k = some e.2.2 := by simp [atN, List.find?_cons, hk]
      rw [this, if_pos (by rw [hk]; exact List.mem_cons_self), h0, hk, List.idxOf_cons_self]
    · have : atN (e :: kvs) k = atN kvs k := by simp [atN, List.find?_cons, hk]
      rw [this, ih]
      by_cases hm : k ∈ kvs.map (·.1)
      · rw [if_pos hm, if_pos (List.mem_cons_of_mem _ hm), List.idxOf_cons, beq_false_of_ne hk]
        show some (nV ((kvs.map (·.1)).idxOf k + (off + 1))) = some (nV ((kvs.map (·.1)).idxOf k + 1 + off))
        congr 2
        omega
      · rw [if_neg hm, if_neg (fun q => by rcases List.mem_cons.mp q with q | q; exact hk q.symm; exact hm q)]
theorem FcD.get {K : PySem.W.Frag} {H : Hp} {kvs : List (NestedKey × Addr × V)} {ks : List NestedKey} (h : FcD K H kvs ks) (k : NestedKey) : atN kvs k = if k ∈ M1.nub ks then some (nV ((M1.nub ks).idxOf k)) else none := atN_at kvs _ 0 h.keys (fun j e he => by rw [h.vals j e he]; rfl) k
theorem FcD.keep {K : PySem.W.Frag} {H H' : Hp} {kvs : List (NestedKey × Addr × V)} {ks : List NestedKey} (h : FcD K H kvs ks) (e : TK K H H') : FcD K H' kvs ks := ⟨h.keys, h.vals, fun q hq => ⟨(h.at_ q hq).1.keep e, (h.at_ q hq).2⟩⟩
theorem FcD.len {K : PySem.W.Frag} {H : Hp} {kvs : List (NestedKey × Addr × V)} {ks : List NestedKey} (h : FcD K H kvs ks) : kvs.length = (M1.nub ks).length := by rw [← h.keys, List.length_map]
theorem TK.ext {K : PySem.W.Frag} {H : Hp} {a : Addr} {P : Program} {w : World} {kvs : List (NestedKey × Addr × V)} {o' : HO} (h : H a = some (DictN P w a kvs)) : TK K H (L2.upd H a o') := TK.upd h (fun _ z => by unfold DictN at z; cases z) (fun _ _ z => by unfold DictN at z; cases z)
/-- one turn of the loop -/
theorem first_turn {H0 H' : Hp} {n p : Addr} {kvs : List (NestedKey × Addr × V)} {ks : List NestedKey} {j : Nat} {x : V} {k : NestedKey} {D : Ends} {σ : L2.St} (hp0 : H0 p = none) (hn0 : H0 n = none) (hpn : p ≠ n) (e : Ex H0 H') (hD : H' n = some (DictN P w n kvs)) (hL : H' p = some (.lst (rowV (M1.fc (ks.take j)))))
    (F : FcD K H' kvs (ks.take j)) (hk : ks[j]? = some k) (hx : ∃ b, x = V.ref b) (ky : NKey K H0 x k) (kd : k.depth ≤ 8) (hlen : ks.length ≤ 1000) (s1 : σ[1]? = some (some (.ref n))) (s2 : σ[2]? = some (some (.ref p))) (s3 : σ[3]? = some (some x))
    (hq : ∀ H2 kvs', Ex H0 H2 → H2 n = some (DictN P w n kvs') → H2 p = some (.lst (rowV (M1.fc (ks.take (j + 1))))) → FcD K H2 kvs' (ks.take (j + 1)) → D.nx σ H2) :
    tDrop (tBM K "list" rAppend (tVar 2) (tCons (tDSetdN K P w (tVar 1) (tVar 3) (tCB (rLenN K P w) (tCons (tVar 1) tNil))) tNil)) D σ H' := by
  obtain ⟨b, rfl⟩ := hx
  have kl : kvs.length ≤ 1000 := by
    rw [F.len]
    have h1 := M1.nub_len (ks.take j)
    have h2 : (ks.take j).length ≤ ks.length := List.length_take_le' j ks
    omega
  have ll : (rowV (M1.fc (ks.take j))).length < sizeLine := by
    rw [rowV_len, M1.fc_length]
    have h2 : (ks.take j).length ≤ ks.length := List.length_take_le' j ks
    exact small1000 (by omega)
  have ky' : NKey K H' (.ref b) k := NKey.keep (TK.ex e) _ _ ky
  refine ⟨.ref p, s2, Or.inl ⟨rfl, _, sq_of hL⟩, .ref n, s1, n, rfl, ⟨kvs, hD⟩, .ref b, s3, .ref n, s1, n, kvs, rfl, hD, F.at_, kvs, k, b, hD, rfl, F.at_, ky', kd, small1000 kl, fun v hv => ?_, fun hv => ?_⟩
  · refine ⟨p, _, _, rfl, rfl, hL, ll, ?_⟩
    rw [F.get k] at hv
    by_cases hm : k ∈ M1.nub (ks.take j)
    · rw [if_pos hm] at hv
      have ev := Option.some.inj hv
      refine hq _ kvs (Ex.mut e hp0) (by rw [upd_ne hpn.symm]; exact hD) ?_ ?_
      · rw [M1.idxOf_take hk, if_pos hm, rowV_snoc, ev]
        exact upd_same
      · have F' := F.keep (K := K) (TK.lst (K := K) (o' := .lst (rowV (M1.fc (ks.take j)) ++ [v])) hL)
        exact ⟨by rw [F'.keys, M1.nub_take hk, if_pos hm], F'.vals, F'.at_⟩
    · rw [if_neg hm] at hv
      cases hv
  · rw [F.get k] at hv
    by_cases hm : k ∈ M1.nub (ks.take j)
    · rw [if_pos hm] at hv
      cases hv
    · have hL' : (upd H' n (DictN P w n (kvs ++ [(k, b, .int ((kvs.length : Nat) : Int))]))) p = some (.lst (rowV (M1.fc (ks.take j)))) := by rw [upd_ne hpn]; exact hL
      refine ⟨p, _, _, rfl, rfl, hL', ll, ?_⟩
      have t1 : TK K H' (upd H' n (DictN P w n (kvs ++ [(k, b, .int ((kvs.length : Nat) : Int))]))) := TK.ext hD
      have F' := (F.keep t1).keep (TK.lst (K := K) (o' := .lst (rowV (M1.fc (ks.take j)) ++ [.int ((kvs.length : Nat) : Int)])) hL')
      refine hq _ (kvs ++ [(k, b, .int ((kvs.length : Nat) : Int))]) (Ex.mut (Ex.mut e hn0) hp0) (by rw [upd_ne hpn.symm]; exact upd_same) ?_ ⟨?_, fun i q hi => ?_, fun q hq => ?_⟩
      · rw [M1.idxOf_take hk, if_neg hm, rowV_snoc, ← F.len]
        exact upd_same
      · rw [List.map_append, F'.keys, M1.nub_take hk, if_neg hm]
        rfl
      · by_cases hil : i < kvs.length
        · rw [List.getElem?_append_left hil] at hi
          exact F'.vals i q hi
        · have hi2 : i = kvs.length := by
            have := (List.getElem?_eq_some_iff.mp hi).1
            rw [List.length_append, List.length_singleton] at this
            omega
          subst hi2
          rw [List.getElem?_append_right (Nat.le_refl _), Nat.sub_self] at hi
          have := Option.some.inj hi
          rw [← this]
          rfl
      · rcases List.mem_append.mp hq with hq | hq
        · exact F'.at_ q hq
        · rw [List.mem_singleton] at hq
          subst hq
          exact ⟨(ky'.keep t1).keep (TK.lst hL'), kd⟩
theorem has_first_come_numbers (T : Txt K mg) {f : Addr} {fd : FuncData} (F : Fun K "first_come_numbers" "first_come_numbers" s_first_come_numbers f fd) (g : mg "first_come_numbers" = some (.ref f)) (B : Binds K fd ["keys"] []) : Has P w K mg base "first_come_numbers" 1 ["keys"] (sp_first K) := by
  refine Has.mk' g F.kp B (F.ok sc_first_come_numbers (fun vs H Q E h => ?_) (fun cdv A outer s H vs Q E hr h => ?_))
  · obtain ⟨a, xs, ks, rfl, _⟩ := h
    rfl
  · obtain ⟨a, xs, ks, rfl, hS, hP, hl, k⟩ := h
    have hxl : xs.length = ks.length := Paired.length hP
    rcases hS with hS | hS
    · refine ⟨_, (pss_cons (ps_set (i := 1) sc_first_come_numbers.nd rfl (.inl rfl) pe_dnewN)
      (pss_cons (ps_set (i := 2) sc_first_come_numbers.nd rfl (.inl rfl) (pe_lst pa_nil))
      (pss_cons (ps_for PassesOwn.never rfl (pi_tupK (K := K) rfl (pv 0)) (pg_name (i := 3) sc_first_come_numbers.nd rfl (.inl rfl))
      (pss_one (ps_expr (pe_bm PySem.F.plainAttrs_list PySem.F.slot_list_append PySem.F.type_list_append mt_append (pv 2) (pa_cons (pe_dsetdN (hu9_of hr) (pv 1) (pv 3) (pe_callB call_len_DN (by rfl) T.b_len bt_len (pa_cons (pv 1) pa_nil)) ⟨rfl, rfl, rfl, rfl⟩) pa_nil)))))
      (pss_one (ps_ret (pv 2)))))), ?_⟩
      refine fun n hn => q_asgL (el_lst ea_nil (by decide)) fun p H2 hp e2 h2 => ?_
      have hpn : p ≠ n := fun z => by subst z; rw [upd_same] at hp; cases hp
      have np : H p = none := by rw [upd_ne hpn] at hp; exact hp
      have e0 : Ex H H2 := (Ex.new hn).trans e2
      refine q_forT (ev_var rfl) (ex_t e0 hS) (fun j σ' H' => ∃ l kvs, σ' = [some (.ref a), some (.ref n), some (.ref p), l] ∧ Ex H H' ∧ H' n = some (DictN P w n kvs) ∧ H' p = some (.lst (rowV (M1.fc (ks.take j)))) ∧ FcD K H' kvs (ks.take j))
        (fun H3 e3 => ⟨none, [], rfl, e0.trans e3, e3 _ _ (e2 _ _ upd_same), e3 _ _ h2, rfl, fun _ _ h => by simp at h, fun _ h => by simp at h⟩) (fun j σ' H' _ ⟨_, _, _, e, _⟩ => ex_t e hS) ?_ ?_
      · rintro j z σ' H' hz ⟨l, kvs, rfl, e, hD, hL, hF⟩
        obtain ⟨kk, hk, hb, ky, kd⟩ := Paired.get' hP hz
        exact first_turn (D := { nx := _, rt := _, bk := _, ct := _ }) np hn hpn e hD hL hF hk hb ky kd hl rfl rfl rfl fun H3 kvs' e3 h3 h4 h5 => ⟨_, kvs', rfl, e3, h3, h4, h5⟩
      · rintro σ' H' ⟨l, kvs, rfl, e, hD, hL, hF⟩
        refine s_ret (ev_var rfl) fun H3 e3 => k p H3 np (e.trans e3) (e3 _ _ ?_)
        rw [hL, hxl, List.take_length]
    · refine ⟨_, (pss_cons (ps_set (i := 1) sc_first_come_numbers.nd rfl (.inl rfl) pe_dnewN)
      (pss_cons (ps_set (i := 2) sc_first_come_numbers.nd rfl (.inl rfl) (pe_lst pa_nil))
      (pss_cons (ps_for PassesOwn.never rfl (pi_listK (K := K) rfl (pv 0)) (pg_name (i := 3) sc_first_come_numbers.nd rfl (.inl rfl))
      (pss_one (ps_expr (pe_bm PySem.F.plainAttrs_list PySem.F.slot_list_append PySem.F.type_list_append mt_append (pv 2) (pa_cons (pe_dsetdN (hu9_of hr) (pv 1) (pv 3) (pe_callB call_len_DN (by rfl) T.b_len bt_len (pa_cons (pv 1) pa_nil)) ⟨rfl, rfl, rfl, rfl⟩) pa_nil)))))
      (pss_one (ps_ret (pv 2)))))), ?_⟩
      refine fun n hn => q_asgL (el_lst ea_nil (by decide)) fun p H2 hp e2 h2 => ?_
      have hpn : p ≠ n := fun z => by subst z; rw [upd_same] at hp; cases hp
      have np : H p = none := by rw [upd_ne hpn] at hp; exact hp
      have e0 : Ex H H2 := (Ex.new hn).trans e2
      refine q_forL (ev_var rfl) (ex_l e0 hS) (fun j σ' H' => ∃ l kvs, σ' = [some (.ref a), some (.ref n), some (.ref p), l] ∧ Ex H H' ∧ H' n = some (DictN P w n kvs) ∧ H' p = some (.lst (rowV (M1.fc (ks.take j)))) ∧ FcD K H' kvs (ks.take j))
        (fun H3 e3 => ⟨none, [], rfl, e0.trans e3, e3 _ _ (e2 _ _ upd_same), e3 _ _ h2, rfl, fun _ _ h => by simp at h, fun _ h => by simp at h⟩) (fun j σ' H' _ ⟨_, _, _, e, _⟩ => ex_l e hS) ?_ ?_
      · rintro j z σ' H' hz ⟨l, kvs, rfl, e, hD, hL, hF⟩
        obtain ⟨kk, hk, hb, ky, kd⟩ := Paired.get' hP hz
        exact first_turn (D := { nx := _, rt := _, bk := _, ct := _ }) np hn hpn e hD hL hF hk hb ky kd hl rfl rfl rfl fun H3 kvs' e3 h3 h4 h5 => ⟨_, kvs', rfl, e3, h3, h4, h5⟩
      · rintro σ' H' ⟨l, kvs, rfl, e, hD, hL, hF⟩
        refine s_ret (ev_var rfl) fun H3 e3 => k p H3 np (e.trans e3) (e3 _ _ ?_)
        rw [hL, hxl, List.take_length]
end

end Kx
namespace Kx
open PySem PySem.Spec PyProof.Rows L2

open Evl
section
variable {P : Program} {w : World} {K : PySem.W.Frag} {mg : Str → Option Value} {base : Heap}
/-! ### keys -/
def rowK (r : List Nat) : NestedKey := .tup (r.map fun (n : Nat) => .num (n : Int))
def pairK (p : Nat × List Nat) : NestedKey := .tup [.num (p.1 : Int), rowK p.2]
theorem nkeys_row {H : Hp} : ∀ r : List Nat, NKeys K H (rowV r) (r.map fun (n : Nat) => NestedKey.num (n : Int))
  | [] => .nil
  | x :: r => .cons (.int _) (nkeys_row r)
theorem nums_inj : ∀ r q : List Nat, (r.map fun (n : Nat) => NestedKey.num (n : Int)) = (q.map fun (n : Nat) => NestedKey.num (n : Int)) → r = q
  | [], [], _ => rfl
  | [], _ :: _, h => by simp at h
  | _ :: _, [], h => by simp at h
  | x :: r, y :: q, h => by
    rw [List.map_cons, List.map_cons] at h
    injection h with h1 h2
    injection h1 with h1
    rw [Int.ofNat_inj.mp h1, nums_inj r q h2]
theorem rowK_inj (r q : List Nat) (h : rowK r = rowK q) : r = q := nums_inj r q (by injection h)
theorem pairK_inj (p q : Nat × List Nat) (h : pairK p = pairK q) : p = q := by
  unfold pairK at h
  injection h with h
  injection h with h1 h2
  injection h2 with h2 _
  injection h1 with h1
  exact Prod.ext (Int.ofNat_inj.mp h1) (rowK_inj _ _ h2)
theorem depth_nums : ∀ r : List Nat, NestedKey.depthAll (r.map fun (n : Nat) => NestedKey.num (n : Int)) = 0
  | [] => by simp [NestedKey.depthAll]
  | x :: r => by
    show max (NestedKey.depth (.num (x : Int))) (NestedKey.depthAll (r.map fun (n : Nat) => NestedKey.num (n : Int))) = 0
    rw [depth_nums r]
    simp [NestedKey.depth]
theorem depth_rowK (r : List Nat) : (rowK r).depth = 1 := by
  unfold rowK
  rw [NestedKey.depth, depth_nums]
theorem depth_pairK (p : Nat × List Nat) : (pairK p).depth ≤ 8 := by
  unfold pairK
  simp only [NestedKey.depth, NestedKey.depthAll, depth_rowK]
  decide
theorem row_keys {H : Hp} : ∀ {vx : List V} {t : List (List Nat)}, Paired (RowAt K H) vx t → Paired (fun v k => (∃ b, v = V.ref b) ∧ NKey K H v k ∧ k.depth ≤ 8) vx (t.map rowK)
  | _, _, .nil => .nil
  | _, _, .cons ⟨a, e, hS⟩ t => .cons ⟨⟨a, e⟩, by rw [e]; exact .tup hS (nkeys_row _), by rw [depth_rowK]; decide⟩ (row_keys t)
def sp_alike (K : PySem.W.Frag) : Sp := fun vs H Q _ => ∃ (v : V) (M : M1.Mach), vs = [v] ∧ MacAt K H v M.st M.an ∧ M.Ok ∧ ∀ p H2 c, H p = none → Ex H H2 → H2 p = some (.lst (rowV c)) → M.Cls c → M1.fc (M.keys c) = c → Q (.ref p) H2
theorem gvn_row (r : List Nat) (c : List Nat) : gvn (rowV r).length (fun j => nV (c.getD (r.getD j 0) 0)) = rowV (r.map fun x => c.getD x 0) := by
  unfold gvn
  rw [rowV_len]
  refine List.ext_getElem? fun i => ?_
  unfold rowV
  rw [List.getElem?_map, List.getElem?_map, List.getElem?_map]
  by_cases h : i < r.length
  · rw [List.getElem?_range h, List.getElem?_eq_getElem h, Option.map_some, Option.map_some, Option.map_some, M1.getD_of (List.getElem?_eq_getElem h)]
  · rw [List.getElem?_eq_none (by rw [List.length_range]; omega), List.getElem?_eq_none (by omega)]
    rfl
theorem has_alike_classes (T : Txt K mg) (h_first_come_numbers : Has P w K mg base "first_come_numbers" 1 ["keys"] (sp_first K)) {f : Addr} {fd : FuncData} (F : Fun K "alike_classes" "alike_classes" s_alike_classes f fd) (g : mg "alike_classes" = some (.ref f)) (B : Binds K fd ["machine"] []) :
    Has P w K mg base "alike_classes" 2 ["machine"] (sp_alike K) := by
  refine Has.mk' g F.kp B (F.ok sc_alike_classes (fun vs H Q E h => ?_) (fun cdv A outer s H vs Q E hr h => ?_))
  · obtain ⟨v, M, rfl, _⟩ := h
    rfl
  · obtain ⟨v, M, rfl, ⟨a, x, y, rfl, hS, ⟨ax, vx, rfl, hSx, hPx⟩, ⟨ay, vy, rfl, hSy, hPy⟩⟩, ok, k⟩ := h
    have n6 := ok.n6
    have hvx : vx.length = M.st.length := Paired.length hPx
    refine ⟨_, (pss_cons (ps_asg (pv 0) (pg_tupK (K := K) (n := 2) rfl (by rfl) (pgs_cons (pg_name (i := 1) sc_alike_classes.nd rfl (.inl rfl)) (pgs_cons (pg_name (i := 2) sc_alike_classes.nd rfl (.inl rfl)) pgs_nil))))
      (pss_cons (ps_set (i := 3) sc_alike_classes.nd rfl (.inr rfl) (pe_has h_first_come_numbers (hr.mono (by first | decide | exact Nat.le_refl _)) (by rfl) (pa_cons (pv 2) pa_nil)))
      (pss_one (ps_while PassesOwn.never (pt_val pe_bl)
      (pss_cons (ps_set (i := 4) sc_alike_classes.nd rfl (.inl rfl) (pe_lst pa_nil))
      (pss_cons (ps_for PassesOwn.never rfl (pi_enumT (by rfl) T.b_enumerate (pa_cons (pv 1) pa_nil)) (pg_tupK (K := K) (n := 2) rfl (by rfl) (pgs_cons (pg_name (i := 5) sc_alike_classes.nd rfl (.inl rfl)) (pgs_cons (pg_name (i := 6) sc_alike_classes.nd rfl (.inl rfl)) pgs_nil)))
      (pss_one (ps_expr (pe_bm PySem.F.plainAttrs_list PySem.F.slot_list_append PySem.F.type_list_append mt_append (pv 4) (pa_cons (pe_tup (pa_cons (pe_ix (ix_listK (K := K) rfl) (pv 3) (pv 5) (fun _ _ => rfl)) (pa_cons (pe_callTy (call_tupleK (K := K) rfl) (by rfl) T.b_tuple bt_tuple (pa_cons (pe_lc (own := [("after", 8)]) (g := gName 8) (tt := tYes) (by rfl) sc_alike_classes.nd (pi_tupK (K := K) rfl (pv 6)) (blkOk_by (N := N_alike_classes) (sc := defScope s_alike_classes) (by decide +kernel)) (fun _ _ _ _ _ => pg_name (i := 8) sc_alike_classes.nd rfl (Or.inl rfl)) (fun _ _ _ _ _ => pts_nil) (fun _ _ _ _ _ => (pe_ix (ix_listK (K := K) rfl) (pv 3) (pv 8) (fun _ _ => rfl)))) pa_nil)) pa_nil))) pa_nil)))))
      (pss_cons (ps_set (i := 7) sc_alike_classes.nd rfl (.inl rfl) (pe_has h_first_come_numbers (hr.mono (by first | decide | exact Nat.le_refl _)) (by rfl) (pa_cons (pv 4) pa_nil)))
      (pss_cons (ps_if (pt_cmpR (op_eqDK (K := K) rfl hr.units) (pv 7) (pv 3) (nomark _))
      (pss_one (ps_ret (pv 3)))
      pss_nil)
      (pss_one (ps_set (i := 3) sc_alike_classes.nd rfl (.inr rfl) (pv 7))))))))))), ?_⟩
    refine ⟨_, rfl, a, _, rfl, hS, rfl, _, _, rfl, _, _, rfl, rfl, ?_⟩
    refine q_asgL (el_callL (ea_cons (ev_var rfl) ea_nil) fun H1 e1 Q q => ⟨ay, vy, M.an.map rowK, rfl, .inl (ex_t e1 hSy), row_keys (paired_keep hPy (TK.ex e1)), by rw [List.length_map, ok.la]; omega, q⟩) fun p0 H1 hp0 e1 h1 => ?_
    rw [M1.fc_map rowK rowK_inj] at h1
    refine s_while (fun m σ' H' => ∃ c pc l4 l5 l6 l7 l8, σ' = [some (.ref a), some (.ref ax), some (.ref ay), some (.ref pc), l4, l5, l6, l7, l8] ∧ Ex H H' ∧ H pc = none ∧ H' pc = some (.lst (rowV c)) ∧ M.Cls c ∧ m = M1.meas M.st.length c) _ ⟨_, p0, none, none, none, none, none, rfl, e1, hp0, h1, M1.Mach.Cls.first ok, rfl⟩ ?_
    rintro m σ' H' ⟨c, pc, l4, l5, l6, l7, l8, rfl, e, np, hc, C, rfl⟩
    refine ⟨true, et_B ev_c, fun _ H2 e2 => ⟨fun σ2 H2 => ∃ m', m' < M1.meas M.st.length c ∧ ∃ c' pc l4 l5 l6 l7 l8, σ2 = [some (.ref a), some (.ref ax), some (.ref ay), some (.ref pc), l4, l5, l6, l7, l8] ∧ Ex H H2 ∧ H pc = none ∧ H2 pc = some (.lst (rowV c')) ∧ M.Cls c' ∧ m' = M1.meas M.st.length c', fun σ2 H2 h => h, ?_⟩, fun z => by cases z⟩
    have e3 := e.trans e2
    refine q_asgL (el_lst ea_nil (by decide)) fun pk H3 hpk e4 h3 => ?_
    have e5 := e3.trans e4
    have hck : pc ≠ pk := ne_of_none (e2 _ _ hc) hpk
    refine ⟨.ref ax, rfl, ax, vx, rfl, ex_t e5 hSx, for_enumT (fun i σ' H' => ∃ l5 l6 refs, σ' = [some (.ref a), some (.ref ax), some (.ref ay), some (.ref pc), some (.ref pk), l5, l6, l7, l8] ∧ Ex H2 H' ∧ H' pk = some (.lst refs) ∧
      Paired (fun v k => (∃ b, v = V.ref b) ∧ NKey K H' v k ∧ k.depth ≤ 8) refs (((List.range i).map (M.key c)).map pairK)) ⟨l5, l6, [], rfl, e4, h3, .nil⟩ (fun i σ' H' _ ⟨_, _, _, _, e6, _⟩ => ex_t (e3.trans e6) hSx) ?_ ?_⟩
    · rintro i z T σ' H' hz ⟨m5, m6, refs, rfl, e6, hk, hP⟩ nT
      obtain ⟨r, hr1, ar, rfl, hSr⟩ := Paired.get' hPx hz
      have hi : i < M.st.length := (List.getElem?_eq_some_iff.mp hr1).1
      have er : r = M.row i := by
        have := M.row_at hi
        rw [hr1] at this
        exact Option.some.inj this
      subst er
      have e7 : Ex H' (upd H' T (.tup [.int (i : Nat), .ref ar])) := Ex.new nT
      refine ⟨T, _, rfl, SqT.of upd_same, rfl, _, _, rfl, _, _, rfl, rfl, ?_⟩
      have hk7 := e7 _ _ hk
      have hc7 := e7 _ _ (e6 _ _ (e2 _ _ hc))
      have hci : c[i]? = some (c.getD i 0) := M1.getD_at (by rw [C.len]; exact hi)
      refine ⟨.ref pk, rfl, Or.inl ⟨rfl, _, sq_of hk7⟩, .ref pc, rfl, .int (i : Nat), rfl, pc, _, _, _, rfl, rfl, sq_of hc7, atI_nat (rowV_at hci), ?_⟩
      have hSr7 := ex_t ((e3.trans e6).trans e7) hSr
      refine eu_tupN (el_lcT (fun j => nV (c.getD ((M.row i).getD j 0) 0)) (ev_var rfl) hSr7 (by rw [rowV_len, M.row_len ok hi]; have := ok.k3; omega) (fun _ => rfl) fun j z H8 e8 hz8 => ?_) _ (Ex.refl _) _ fun q H8 hq e8 h8 => ⟨by show 2 ≤ sizeLine; decide, fun t ht => ?_⟩
      · obtain ⟨xx, hxx, rfl⟩ := map_of hz8
        have hxl := M.row_mem ok hi (List.mem_of_getElem? hxx)
        rw [M1.getD_of hxx]
        exact ev_op (ev_var rfl) (ev_var rfl) (rv_ixL (sq_of (e8 _ _ hc7)) (atI_nat (rowV_at (M1.getD_at (by rw [C.len]; exact hxl)))))
      · have hkq := e8 _ _ hk7
        have hkt : pk ≠ t := ne_of_none hkq ht
        have e9 : Ex H8 (upd H8 t (.tup [nV (c.getD i 0), .ref q])) := Ex.new ht
        refine ⟨pk, refs, _, rfl, rfl, e9 _ _ hkq, ?_, ?_⟩
        · rw [Paired.length hP, List.length_map, List.length_map, List.length_range]
          exact small1000 (by omega)
        · have e10 : Ex H2 (upd (upd H8 t (.tup [nV (c.getD i 0), .ref q])) pk (.lst (refs ++ [.ref t]))) := Ex.mut ((((e6.trans e7).trans e8).trans e9)) hpk
          have tk : TK K H' (upd (upd H8 t (.tup [nV (c.getD i 0), .ref q])) pk (.lst (refs ++ [.ref t]))) := (TK.ex ((e7.trans e8).trans e9)).trans (TK.lst (e9 _ _ hkq))
          refine ⟨_, _, _, rfl, e10, upd_same, ?_⟩
          rw [List.range_succ, List.map_append, List.map_append]
          refine Paired.snoc (Paired.mapP hP fun v k z => ⟨z.1, z.2.1.keep tk, z.2.2⟩) ⟨⟨t, rfl⟩, ?_, depth_pairK _⟩
          have ht9 : SqT K (upd (upd H8 t (.tup [nV (c.getD i 0), .ref q])) pk (.lst (refs ++ [.ref t]))) t [nV (c.getD i 0), .ref q] := SqT.of (by rw [upd_ne hkt.symm]; exact upd_same)
          have hq9 : SqT K (upd (upd H8 t (.tup [nV (c.getD i 0), .ref q])) pk (.lst (refs ++ [.ref t]))) q (rowV ((M.row i).map fun x => c.getD x 0)) := by
            refine (TK.lst (e9 _ _ hkq)) _ _ (SqT.of (e9 _ _ ?_))
            rw [← gvn_row]
            exact h8
          exact .tup ht9 (.cons (.int _) (.cons (.tup hq9 (nkeys_row _)) .nil))
    · rintro σ' H' ⟨m5, m6, refs, rfl, e6, hk, hP⟩
      have hP' : Paired (fun v k => (∃ b, v = V.ref b) ∧ NKey K H' v k ∧ k.depth ≤ 8) refs ((M.keys c).map pairK) := by
        rw [hvx] at hP
        exact hP
      refine q_asgL (el_callL (ea_cons (ev_var rfl) ea_nil) fun H7 e7 Q q => ⟨pk, refs, (M.keys c).map pairK, rfl, .inr (sq_of (e7 _ _ hk)), Paired.mapP hP' fun v k z => ⟨z.1, z.2.1.keep (TK.ex e7), z.2.2⟩, by rw [List.length_map, M.keys_len]; omega, q⟩) fun pf H7 hpf e7 h7 => ?_
      rw [M1.fc_map pairK pairK_inj] at h7
      have e8 := e6.trans e7
      have hc8 := e8 _ _ (e2 _ _ hc)
      have npf : H pf = none := fresh_back (e3.trans e6) hpf
      refine q_when (et_test (ev_op (ev_var rfl) (ev_var rfl) (rv_eqRows (sq_of h7) (sq_of hc8)))) (fun b H9 e9 => ?_) (fun b H9 e9 => ?_)
      · exact s_ret (ev_var rfl) fun H10 e10 => k pc H10 c np ((e3.trans e8).trans (e9.trans e10)) (e10 _ _ (e9 _ _ hc8)) C (of_decide_eq_true b)
      · exact s_asg (ev_var rfl) fun H10 e10 => ⟨_, C.fall (of_decide_eq_false b), _, pf, _, _, _, _, _, rfl, (e3.trans e8).trans (e9.trans e10), npf, e10 _ _ (e9 _ _ h7), C.next ok, rfl⟩
end

end Kx
namespace Kx
open PySem PySem.Spec PyProof.Rows L2

open Evl
section
variable {P : Program} {w : World} {K : PySem.W.Frag} {mg : Str → Option Value} {base : Heap}
/-- the dict numbers: the classes of the states o, numbered -/
def numK (c : List Nat) (o : List Nat) : List (Key × V) := (List.range o.length).map fun j => (Sum.inl ((c.getD (o.getD j 0) 0 : Nat) : Int), nV j)
theorem valV_map_at {c : List Nat} {x : Nat} : ∀ (o : List Nat) (off : Nat), valV ((List.range o.length).map fun j => ((Sum.inl ((c.getD (o.getD j 0) 0 : Nat) : Int) : Key), nV (j + off))) (Sum.inl (x : Int)) = if (o.any fun y => c.getD y 0 == x) = true then some (nV ((o.findIdx fun y => c.getD y 0 == x) + off)) else none
  | [], off => rfl
  | y :: o, off => by
    have ih := valV_map_at (c := c) (x := x) o (off + 1)
    have e1 : (List.range (y :: o).length).map (fun j => ((Sum.inl ((c.getD ((y :: o).getD j 0) 0 : Nat) : Int) : Key), nV (j + off))) = (Sum.inl ((c.getD y 0 : Nat) : Int), nV (0 + off)) :: (List.range o.length).map fun j => ((Sum.inl ((c.getD (o.getD j 0) 0 : Nat) : Int) : Key), nV (j + (off + 1))) := by
      rw [List.length_cons, List.range_succ_eq_map, List.map_cons, List.map_map]
      congr 1
      refine List.map_congr_left fun j _ => ?_
      show ((Sum.inl ((c.getD ((y :: o).getD (j + 1) 0) 0 : Nat) : Int) : Key), nV (j + 1 + off)) = _
      rw [show j + 1 + off = j + (off + 1) by omega]
      rfl
    rw [e1, List.any_cons, List.findIdx_cons]
    by_cases h : c.getD y 0 = x
    · rw [valV_pos (show ((Sum.inl ((c.getD y 0 : Nat) : Int) : Key), nV (0 + off)).1 = Sum.inl (x : Int) by show (Sum.inl ((c.getD y 0 : Nat) : Int) : Key) = Sum.inl (x : Int); rw [h]), beq_iff_eq.mpr h]
      rfl
    · rw [valV_neg (fun q => h (Int.ofNat_inj.mp (Sum.inl.inj q))), ih, beq_eq_false_iff_ne.mpr h]
      show (if (o.any fun y => c.getD y 0 == x) = true then _ else _) = if (o.any fun y => c.getD y 0 == x) = true then some (nV ((o.findIdx fun y => c.getD y 0 == x) + 1 + off)) else none
      rw [show (o.findIdx fun y => c.getD y 0 == x) + 1 + off = (o.findIdx fun y => c.getD y 0 == x) + (off + 1) by omega]
theorem any_congr' {α : Type} {p q : α → Bool} : ∀ {l : List α}, (∀ x ∈ l, p x = q x) → l.any p = l.any q ∧ l.findIdx p = l.findIdx q
  | [], _ => ⟨rfl, rfl⟩
  | a :: l, h => by
    have ih := any_congr' (l := l) fun x hx => h x (List.mem_cons_of_mem _ hx)
    rw [List.any_cons, List.any_cons, List.findIdx_cons, List.findIdx_cons, h a List.mem_cons_self, ih.1, ih.2]
    exact ⟨rfl, rfl⟩
/-- what the dict tells of a state's class -/
theorem numK_get {M : M1.Mach} {c o : List Nat} {x : Nat} (h : ∀ y ∈ o, c.getD y 0 = c.getD x 0 ↔ M.Eqv y x) : valV (numK c o) (Sum.inl ((c.getD x 0 : Nat) : Int)) = if (o.any fun y => M.eqv y x) = true then some (nV (M.num o x)) else none := by
  have q := valV_map_at (c := c) (x := c.getD x 0) o 0
  have e := any_congr' (p := fun y => c.getD y 0 == c.getD x 0) (q := fun y => M.eqv y x) (l := o) fun y hy => by
    rw [Bool.eq_iff_iff, beq_iff_eq, h y hy, M1.Mach.eqv_iff]
  unfold numK
  rw [show ((List.range o.length).map fun j => ((Sum.inl ((c.getD (o.getD j 0) 0 : Nat) : Int) : Key), nV j)) = (List.range o.length).map fun j => ((Sum.inl ((c.getD (o.getD j 0) 0 : Nat) : Int) : Key), nV (j + 0)) from rfl, q, e.1, e.2]
  rfl
theorem numK_snoc {c o : List Nat} {x : Nat} : numK c (o ++ [x]) = numK c o ++ [(Sum.inl ((c.getD x 0 : Nat) : Int), nV o.length)] := by
  unfold numK
  rw [List.length_append, List.length_singleton, List.range_succ, List.map_append, List.map_singleton]
  congr 1
  · refine List.map_congr_left fun j hj => ?_
    have hj' := List.mem_range.mp hj
    rw [show (o ++ [x]).getD j 0 = o.getD j 0 by rw [List.getD_eq_getElem?_getD, List.getD_eq_getElem?_getD, List.getElem?_append_left hj']]
  · rw [show (o ++ [x]).getD o.length 0 = x by rw [List.getD_eq_getElem?_getD]; simp]
theorem numK_len (c o : List Nat) : (numK c o).length = o.length := by unfold numK; rw [List.length_map, List.length_range]
def sp_least (K : PySem.W.Frag) : Sp := fun vs H Q _ => ∃ (v : V) (M : M1.Mach), vs = [v] ∧ MacAt K H v M.st M.an ∧ M.Ok ∧ ∀ p H2, Ex H H2 → MacAt K H2 p M.least.st M.least.an → Q p H2
/-- the rows of the least machine -/
noncomputable def lrow (M : M1.Mach) (s : Nat) : List Nat := (M.row s).map (M.num M.all)
theorem has_least_machine (T : Txt K mg) (h_check_machine : Has P w K mg base "check_machine" 5 ["machine"] (sp_check_machine K)) (h_alike_classes : Has P w K mg base "alike_classes" 2 ["machine"] (sp_alike K)) {f : Addr} {fd : FuncData} (F : Fun K "least_machine" "least_machine" s_least_machine f fd) (g : mg "least_machine" = some (.ref f)) (B : Binds K fd ["machine"] []) :
    Has P w K mg base "least_machine" 6 ["machine"] (sp_least K) := by
  refine Has.mk' g F.kp B (F.ok sc_least_machine (fun vs H Q E h => ?_) (fun cdv A outer s H vs Q E hr h => ?_))
  · obtain ⟨v, M, rfl, _⟩ := h
    rfl
  · obtain ⟨v, M, rfl, hM, ok, k⟩ := h
    have n6 := ok.n6
    have n1 := ok.n1
    refine ⟨_, (pss_cons (ps_expr (pe_has h_check_machine (hr.mono (by first | decide | exact Nat.le_refl _)) (by rfl) (pa_cons (pv 0) pa_nil)))
      (pss_cons (ps_asg (pv 0) (pg_tupK (K := K) (n := 2) rfl (by rfl) (pgs_cons (pg_name (i := 1) sc_least_machine.nd rfl (.inl rfl)) (pgs_cons (pg_name (i := 2) sc_least_machine.nd rfl (.inr rfl)) pgs_nil))))
      (pss_cons (ps_set (i := 3) sc_least_machine.nd rfl (.inl rfl) (pe_has h_alike_classes (hr.mono (by first | decide | exact Nat.le_refl _)) (by rfl) (pa_cons (pv 0) pa_nil)))
      (pss_cons (ps_set (i := 4) sc_least_machine.nd rfl (.inl rfl) (pe_disp (pps_cons (pe_ix (ix_listK (K := K) rfl) (pv 3) pe_int (fun _ _ => rfl)) pe_int pps_nil) (by rfl) (by rfl) (fun z => by cases z) (by decide)))
      (pss_cons (ps_set (i := 5) sc_least_machine.nd rfl (.inl rfl) (pe_lst (pa_cons pe_int pa_nil)))
      (pss_cons (ps_set (i := 6) sc_least_machine.nd rfl (.inl rfl) (pe_lst pa_nil))
      (pss_cons (ps_while PassesOwn.never (pt_cmpR op_lt (pe_callB (call_lenK (K := K) rfl) (by rfl) T.b_len bt_len (pa_cons (pv 6) pa_nil)) (pe_callB (call_lenK (K := K) rfl) (by rfl) T.b_len bt_len (pa_cons (pv 5) pa_nil)) (nomark _))
      (pss_cons (ps_set (i := 7) sc_least_machine.nd rfl (.inl rfl) (pe_ix (ix_listK (K := K) rfl) (pv 5) (pe_callB (call_lenK (K := K) rfl) (by rfl) T.b_len bt_len (pa_cons (pv 6) pa_nil)) (fun _ _ => rfl)))
      (pss_cons (ps_set (i := 8) sc_least_machine.nd rfl (.inl rfl) (pe_lst pa_nil))
      (pss_cons (ps_for PassesOwn.never rfl (pi_tupK (K := K) rfl (pe_ix (ix_tupK (K := K) rfl) (pv 1) (pv 7) (fun _ _ => rfl))) (pg_name (i := 9) sc_least_machine.nd rfl (.inl rfl))
      (pss_cons (ps_if (pt_cmp (pc_dnotin (hu_of hr) (pe_ix (ix_listK (K := K) rfl) (pv 3) (pv 9) (fun _ _ => rfl)) (pv 4)))
      (pss_cons (ps_dput (hu_of hr) (pv 4) (pe_ix (ix_listK (K := K) rfl) (pv 3) (pv 9) (fun _ _ => rfl)) (pe_callB (call_lenK (K := K) rfl) (by rfl) T.b_len bt_len (pa_cons (pv 5) pa_nil)) rfl)
      (pss_one (ps_expr (pe_bm PySem.F.plainAttrs_list PySem.F.slot_list_append PySem.F.type_list_append mt_append (pv 5) (pa_cons (pv 9) pa_nil)))))
      pss_nil)
      (pss_one (ps_expr (pe_bm PySem.F.plainAttrs_list PySem.F.slot_list_append PySem.F.type_list_append mt_append (pv 8) (pa_cons (pe_dget (hu_of hr) (pv 4) (pe_ix (ix_listK (K := K) rfl) (pv 3) (pv 9) (fun _ _ => rfl)) (fun _ _ => rfl)) pa_nil))))))
      (pss_one (ps_expr (pe_bm PySem.F.plainAttrs_list PySem.F.slot_list_append PySem.F.type_list_append mt_append (pv 6) (pa_cons (pe_callTy (call_tupleK (K := K) rfl) (by rfl) T.b_tuple bt_tuple (pa_cons (pv 8) pa_nil)) pa_nil))))))))
      (pss_one (ps_ret (pe_tup (pa_cons (pe_callTy (call_tupleK (K := K) rfl) (by rfl) T.b_tuple bt_tuple (pa_cons (pv 6) pa_nil)) (pa_cons (pe_callTy (call_tupleK (K := K) rfl) (by rfl) T.b_tuple bt_tuple (pa_cons (pe_lc (own := [("old", 10)]) (g := gName 10) (tt := tYes) (by rfl) sc_least_machine.nd (pi_listK (K := K) rfl (pv 5)) (blkOk_by (N := N_least_machine) (sc := defScope s_least_machine) (by decide +kernel)) (fun _ _ _ _ _ => pg_name (i := 10) sc_least_machine.nd rfl (Or.inl rfl)) (fun _ _ _ _ _ => pts_nil) (fun _ _ _ _ _ => (pe_ix (ix_tupK (K := K) rfl) (pv 2) (pv 10) (fun _ _ => rfl)))) pa_nil)) pa_nil)))))))))))), ?_⟩
    refine q_drop (ev_callV (z := .non) (ea_cons (ev_var rfl) ea_nil) fun H1 e1 Q q => ⟨v, M, rfl, hM.keep (TK.ex e1), ok, q⟩) fun H1 e1 => ?_
    have hM1 := hM.keep (TK.ex e1)
    obtain ⟨a, x, y, rfl, hS, ⟨ax, vx, rfl, hSx, hPx⟩, ⟨ay, vy, rfl, hSy, hPy⟩⟩ := id hM1
    have hvy : vy.length = M.an.length := Paired.length hPy
    refine ⟨_, rfl, a, _, rfl, hS, rfl, _, _, rfl, _, _, rfl, rfl, ?_⟩
    refine ⟨_, rfl, .ref a, M, rfl, hM1, ok, fun pc H2 c hpc e2 hc C hfc => ?_⟩
    have cl : ∀ i j, i < M.st.length → j < M.st.length → (c.getD i 0 = c.getD j 0 ↔ M.Eqv i j) := fun i j hi hj => C.done ok hfc hi hj
    have c0 : c[0]? = some (c.getD 0 0) := M1.getD_at (by rw [C.len]; exact n1)
    refine fun pn hpn => ⟨.ref pc, rfl, pc, _, _, _, rfl, rfl, sq_of (by rw [upd_ne (ne_of_none hc hpn)]; exact hc), atI_nat (j := 0) (rowV_at c0), upd_same, [(Sum.inl ((c.getD 0 0 : Nat) : Int), .int 0)], rfl, (by show 1 ≤ 15; decide), ?_⟩
    rw [upd_upd]
    have e3 : Ex H2 (upd H2 pn (.dK (mergeK [] [(Sum.inl ((c.getD 0 0 : Nat) : Int), .int 0)]))) := Ex.new hpn
    refine q_asgL (el_lst (ea_cons ev_c ea_nil) (by decide)) fun ph H4 hph e4 h4 => ?_
    refine q_asgL (el_lst ea_nil (by decide)) fun pl H5 hpl e5 h5 => ?_
    have hn5 : H5 pn = some (.dK (numK c (M.ord 0))) := e5 _ _ (e4 _ _ upd_same)
    have e25 : Ex H2 H5 := (e3.trans e4).trans e5
    have nph : H2 ph = none := fresh_back e3 hph
    have npl : H2 pl = none := fresh_back (e3.trans e4) hpl
    have n12 : ph ≠ pn := fun z => by subst z; rw [upd_same] at hph; cases hph
    have n13 : pl ≠ pn := fun z => by subst z; rw [e4 _ _ upd_same] at hpl; cases hpl
    have n23 : pl ≠ ph := fun z => by subst z; rw [h4] at hpl; cases hpl
    have S2 := ex_t e2 hS
    have Sx2 := ex_t e2 hSx
    have Sy2 := ex_t e2 hSy
    refine q_while (fun m σ' H' => ∃ i l7 l8 l9 l10 ls, σ' = [some (.ref a), some (.ref ax), some (.ref ay), some (.ref pc), some (.ref pn), some (.ref ph), some (.ref pl), l7, l8, l9, l10] ∧ Ex H2 H' ∧ H' pn = some (.dK (numK c (M.ord i))) ∧ H' ph = some (.lst (rowV (M.ord i))) ∧ H' pl = some (.lst ls) ∧
      Paired (RowAt K H') ls ((M.all.take i).map (lrow M)) ∧ ls.length = i ∧ i ≤ (M.ord i).length ∧ m = 6 - i) _ ⟨0, none, none, none, none, [], rfl, e25, hn5, e5 _ _ h4, h5, .nil, rfl, Nat.zero_le _, rfl⟩ ?_
    rintro m σ' H' ⟨i, l7, l8, l9, l10, ls, rfl, e, hn, hh, hl, hP, hli, hil, rfl⟩
    have A := M.ord_apart ok i
    have Ale := A.le ok
    refine ⟨decide ((i : Int) < ((M.ord i).length : Int)), et_test ?_, fun b H6 e6 => ?_, fun b H6 e6 => ?_⟩
    · refine ev_is (ev_op (ev_len (ev_var rfl) (sq_of hl)) (ev_len (ev_var rfl) (sq_of hh)) rv_I0) ?_
      rw [rowV_len, hli]
    · -- a row more
      have hlt : i < (M.ord i).length := Int.ofNat_lt.mp (of_decide_eq_true b)
      obtain ⟨st, hst⟩ : ∃ st, (M.ord i)[i]? = some st := ⟨_, List.getElem?_eq_getElem hlt⟩
      have hstl := M.ord_lt ok hst
      have e26 := e.trans e6
      have hn6 := e6 _ _ hn
      have hh6 := e6 _ _ hh
      have hl6 := e6 _ _ hl
      refine ⟨fun σ2 H2' => ∃ m', m' < 6 - i ∧ ∃ i' l7 l8 l9 l10 ls, σ2 = [some (.ref a), some (.ref ax), some (.ref ay), some (.ref pc), some (.ref pn), some (.ref ph), some (.ref pl), l7, l8, l9, l10] ∧ Ex H2 H2' ∧ H2' pn = some (.dK (numK c (M.ord i'))) ∧ H2' ph = some (.lst (rowV (M.ord i'))) ∧ H2' pl = some (.lst ls) ∧
        Paired (RowAt K H2') ls ((M.all.take i').map (lrow M)) ∧ ls.length = i' ∧ i' ≤ (M.ord i').length ∧ m' = 6 - i', fun σ2 H2' h => h, ?_⟩
      refine q_asg (ev_op (ev_var rfl) (ev_len (ev_var rfl) (sq_of hl6)) (rv_ixL (sq_of hh6) (by rw [hli]; exact atI_nat (rowV_at hst)))) fun H7 e7 => ?_
      refine q_asgL (el_lst ea_nil (by decide)) fun pr H8 hpr e8 h8 => ?_
      have e28 := (e26.trans e7).trans e8
      have e68 := e7.trans e8
      obtain ⟨ar, gr, hSr⟩ := tab_get hPx (M.row_at hstl)
      have Sr2 := ex_t e2 hSr
      have npr : H2 pr = none := fresh_back (e26.trans e7) hpr
      have nrn : pr ≠ pn := fun z => by subst z; rw [e7 _ _ hn6] at hpr; cases hpr
      have nrh : pr ≠ ph := fun z => by subst z; rw [e7 _ _ hh6] at hpr; cases hpr
      have nrl : pr ≠ pl := fun z => by subst z; rw [e7 _ _ hl6] at hpr; cases hpr
      have hP8 := paired_keep hP (TK.ex (e6.trans e68))
      refine q_forT (a := ar) (xs := rowV (M.row st)) (ev_op (ev_var rfl) (ev_var rfl) (rv_ixT (ex_t e28 Sx2) (atI_nat gr))) (ex_t e28 Sr2) (fun j σ' H' => ∃ l9, σ' = [some (.ref a), some (.ref ax), some (.ref ay), some (.ref pc), some (.ref pn), some (.ref ph), some (.ref pl), some (nV st), some (.ref pr), l9, l10] ∧ Ex H2 H' ∧
        H' pn = some (.dK (numK c (M.mid i st j))) ∧ H' ph = some (.lst (rowV (M.mid i st j))) ∧ H' pl = some (.lst ls) ∧ Paired (RowAt K H') ls ((M.all.take i).map (lrow M)) ∧ H' pr = some (.lst (rowV (((M.row st).take j).map (M.num (M.ord (i + 1)))))))
        (fun H9 e9 => ⟨l9, rfl, e28.trans e9, e9 _ _ (e68 _ _ hn6), e9 _ _ (e68 _ _ hh6), e9 _ _ (e68 _ _ hl6), paired_keep hP8 (TK.ex e9), e9 _ _ h8⟩) (fun j σ' H' _ ⟨_, _, e, _⟩ => ex_t e Sr2) ?_ ?_
      · rintro j z σ' H' hz ⟨m9, rfl, e9, hn9, hh9, hl9, hP9, hr9⟩
        obtain ⟨xx, hxx, rfl⟩ := map_of hz
        have hxl := M.row_mem ok hstl (List.mem_of_getElem? hxx)
        have hjl : j < (M.row st).length := (List.getElem?_eq_some_iff.mp hxx).1
        have hxc : c[xx]? = some (c.getD xx 0) := M1.getD_at (by rw [C.len]; exact hxl)
        have hcx : SqL K H' pc (rowV c) := sq_of (e9 _ _ hc)
        have Am := M.mid_apart ok (i := i) (s := st) (j := j) hstl
        have Aml := Am.le ok
        have hg := numK_get (M := M) (c := c) (o := M.mid i st j) (x := xx) fun y hy => cl y xx (Am.lt y hy) hxl
        -- if classes[after] not in numbers
        refine ⟨.ref pc, rfl, nV xx, rfl, pc, _, _, _, rfl, rfl, hcx, atI_nat (rowV_at hxc), .ref pn, rfl, pn, _, rfl, DGet.k (k := Sum.inl ((c.getD xx 0 : Nat) : Int)) hn9, _, rfl, ?_⟩
        rw [hg]
        have fin : ∀ (H10 : Hp), Ex H2 H10 → H10 pn = some (.dK (numK c (M.mid i st (j + 1)))) → H10 ph = some (.lst (rowV (M.mid i st (j + 1)))) → H10 pl = some (.lst ls) → Paired (RowAt K H10) ls ((M.all.take i).map (lrow M)) → H10 pr = some (.lst (rowV (((M.row st).take j).map (M.num (M.ord (i + 1)))))) →
            (tDrop (tBM K "list" rAppend (tVar 8) (tCons (tDGet (tVar 4) (tOp (rIxL K) (tVar 3) (tVar 9))) tNil))) { nx := (fun σ' H' => ∃ l9, σ' = [some (.ref a), some (.ref ax), some (.ref ay), some (.ref pc), some (.ref pn), some (.ref ph), some (.ref pl), some (nV st), some (.ref pr), l9, l10] ∧ Ex H2 H' ∧
              H' pn = some (.dK (numK c (M.mid i st (j + 1)))) ∧ H' ph = some (.lst (rowV (M.mid i st (j + 1)))) ∧ H' pl = some (.lst ls) ∧ Paired (RowAt K H') ls ((M.all.take i).map (lrow M)) ∧ H' pr = some (.lst (rowV (((M.row st).take (j + 1)).map (M.num (M.ord (i + 1))))))), rt := fun _ _ => True, bk := fun _ _ => True, ct := fun _ _ => True } [some (.ref a), some (.ref ax), some (.ref ay), some (.ref pc), some (.ref pn), some (.ref ph), some (.ref pl), some (nV st), some (.ref pr), some (nV xx), l10] H10 := by
          intro H10 e10 hn10 hh10 hl10 hP10 hr10
          have Am' := M.mid_apart ok (i := i) (s := st) (j := j + 1) hstl
          have hasx : ∃ y ∈ M.mid i st (j + 1), M.eqv y xx = true := by
            unfold M1.Mach.mid
            exact M.grow_has (fun z hz => M.row_mem ok hstl (List.mem_of_mem_take hz)) ok (by rw [M1.take_succ' hxx]; exact List.mem_append_right _ (List.mem_singleton.mpr rfl))
          have hg' := numK_get (M := M) (c := c) (o := M.mid i st (j + 1)) (x := xx) fun y hy => cl y xx (Am'.lt y hy) hxl
          rw [if_pos (List.any_eq_true.mpr hasx)] at hg'
          refine ⟨.ref pr, rfl, Or.inl ⟨rfl, _, sq_of hr10⟩, .ref pn, rfl, .ref pc, rfl, nV xx, rfl, pc, _, _, _, rfl, rfl, sq_of (e10 _ _ hc), atI_nat (rowV_at hxc), pn, nV (M.num (M.mid i st (j + 1)) xx), rfl, ?_, pr, _, _, rfl, rfl, hr10, ?_, ?_⟩
          · rw [← hg']
            exact DGet.k (k := Sum.inl ((c.getD xx 0 : Nat) : Int)) hn10
          · rw [rowV_len, List.length_map]
            have := List.length_take_le' j (M.row st)
            have := M.row_len ok hstl
            have := ok.k3
            exact small1000 (by omega)
          · refine ⟨_, rfl, Ex.mut e10 npr, by rw [upd_ne nrn.symm]; exact hn10, by rw [upd_ne nrh.symm]; exact hh10, by rw [upd_ne nrl.symm]; exact hl10, paired_keep hP10 (TK.lst hr10), ?_⟩
            rw [M1.take_succ' hxx, List.map_append, List.map_singleton, rowV_snoc, M.mid_num hasx hst hjl]
            exact upd_same
        by_cases hany : ((M.mid i st j).any fun y => M.eqv y xx) = true
        · rw [if_pos hany]
          have em : M.mid i st (j + 1) = M.mid i st j := by
            rw [M.mid_succ hxx]
            unfold M1.Mach.grow1
            rw [if_pos hany]
          exact fin H' e9 (by rw [em]; exact hn9) (by rw [em]; exact hh9) hl9 hP9 hr9
        · rw [if_neg hany]
          rw [if_neg hany] at hg
          have em : M.mid i st (j + 1) = M.mid i st j ++ [xx] := by
            rw [M.mid_succ hxx]
            unfold M1.Mach.grow1
            rw [if_neg hany]
          -- numbers[classes[after]] = len(chosen); chosen.append(after)
          refine ⟨.ref ph, rfl, ph, _, rfl, Or.inl (sq_of hh9), .ref pn, rfl, .ref pc, rfl, nV xx, rfl, pc, _, _, _, rfl, rfl, hcx, atI_nat (rowV_at hxc), pn, _, rfl, DPut.k (k := Sum.inl ((c.getD xx 0 : Nat) : Int)) hn9 (by rw [numK_len]; exact small1000 (by omega)), ?_⟩
          have hh10 : (upd H' pn (.dK (putK (numK c (M.mid i st j)) (Sum.inl ((c.getD xx 0 : Nat) : Int)) (.int ((rowV (M.mid i st j)).length : Int))))) ph = some (.lst (rowV (M.mid i st j))) := by rw [upd_ne n12]; exact hh9
          refine ⟨.ref ph, rfl, Or.inl ⟨rfl, _, sq_of hh10⟩, nV xx, rfl, ph, _, _, rfl, rfl, hh10, by rw [rowV_len]; exact small1000 (by omega), ?_⟩
          have t1 : TK K H' (upd H' pn (.dK (putK (numK c (M.mid i st j)) (Sum.inl ((c.getD xx 0 : Nat) : Int)) (.int ((rowV (M.mid i st j)).length : Int))))) := TK.upd hn9 (fun _ z => by cases z) (fun _ _ z => by cases z)
          refine fin _ (Ex.mut (Ex.mut e9 hpn) nph) ?_ ?_ ?_ (paired_keep hP9 (t1.trans (TK.lst hh10))) ?_
          · rw [upd_ne n12.symm, upd_same, putK_new _ hg, em, numK_snoc, rowV_len]
            rfl
          · rw [em, rowV_snoc]
            exact upd_same
          · rw [upd_ne n23, upd_ne n13]
            exact hl9
          · rw [upd_ne nrh, upd_ne nrn]
            exact hr9
      · rintro σ' H' ⟨m9, rfl, e9, hn9, hh9, hl9, hP9, hr9⟩
        rw [rowV_len, List.take_length] at hr9
        rw [rowV_len, M.mid_end hst] at hn9 hh9
        refine s_appU hl9 (ev_var rfl) (eu_tupL (ev_var rfl) (sq_of hr9)) (by omega) fun q H10 hq e10 h10 => ?_
        obtain ⟨mo, emo⟩ := M1.Mach.ord_pre (M := M) i
        have lo : (M.ord i).length ≤ (M.ord (i + 1)).length := by rw [emo, List.length_append]; omega
        have hall := M.all_at ok hst
        refine ⟨6 - (i + 1), by omega, i + 1, _, _, _, _, _, rfl, Ex.mut (e9.trans e10) npl, by rw [upd_ne n13.symm]; exact e10 _ _ hn9, by rw [upd_ne n23.symm]; exact e10 _ _ hh9, upd_same, ?_, by rw [List.length_append, List.length_singleton, hli], by omega, rfl⟩
        rw [M1.take_succ' hall, List.map_append]
        refine Paired.snoc (paired_keep hP9 ((TK.ex e10).trans (TK.lst (e10 _ _ hl9)))) ⟨q, rfl, ?_⟩
        refine TK.lst (e10 _ _ hl9) _ _ (SqT.of ?_)
        rw [h10, M.row_num ok hst]
        rfl
    · -- the end
      have hge : (M.ord i).length ≤ i := by
        have := of_decide_eq_false b
        omega
      have eall := M.all_of ok hge
      have hi : i = M.all.length := by rw [← eall]; omega
      have hl6 := e6 _ _ hl
      have hh6 := e6 _ _ hh
      rw [eall] at hh6
      have hP6 := paired_keep hP (TK.ex e6)
      rw [hi, List.take_length] at hP6
      have e26 := e.trans e6
      have Aall : M.Apart M.all := M.ord_apart ok 6
      have Aalle := Aall.le ok
      refine eu_tupL (ev_var rfl) (sq_of hl6) _ (Ex.refl _) _ fun q1 H7 hq1 e7 h7 => ?_
      refine eu_tupN (el_lcLv (fun j => vy.getD (M.all.getD j 0) .non) (ev_var rfl) (sq_of (e7 _ _ hh6)) (by rw [rowV_len]; omega) (fun _ => rfl) fun j z H8 e8 hz => ?_) _ (Ex.refl _) _ fun q2 H8 hq2 e8 h8 => ⟨by show 2 ≤ sizeLine; decide, fun q3 hq3 => ?_⟩
      · obtain ⟨s2, hs2, rfl⟩ := map_of hz
        have hlt := Aall.lt s2 (List.mem_of_getElem? hs2)
        rw [M1.getD_of hs2]
        exact ev_op (ev_var rfl) (ev_var rfl) (rv_ixT (ex_t ((e26.trans e7).trans e8) Sy2) (atI_nat (M1.getD_at (by rw [hvy, ok.la]; exact hlt))))
      · have e9 : Ex H8 (upd H8 q3 (.tup [.ref q1, .ref q2])) := Ex.new hq3
        have e79 := e8.trans e9
        refine k _ _ (((((e1.trans e2).trans e26).trans e7).trans e79)) ⟨q3, .ref q1, .ref q2, rfl, SqT.of upd_same, ⟨q1, ls, rfl, SqT.of (e79 _ _ h7), paired_keep hP6 (TK.ex (e7.trans e79))⟩, ⟨q2, _, rfl, SqT.of (e9 _ _ h8), ?_⟩⟩
        have hyk := paired_keep hPy (TK.ex ((((e2.trans e26).trans e7).trans e79)))
        show Paired (RowAt K _) (gvn (rowV M.all).length fun j => vy.getD (M.all.getD j 0) .non) (M.all.map M.ans)
        have gen : ∀ o : List Nat, (∀ x ∈ o, x < M.st.length) → Paired (RowAt K (upd H8 q3 (.tup [.ref q1, .ref q2]))) (o.map fun s => vy.getD s .non) (o.map M.ans) := by
          intro o
          induction o with
          | nil => exact fun _ => .nil
          | cons s o ih =>
            intro ho
            refine .cons ?_ (ih fun x hx => ho x (List.mem_cons_of_mem _ hx))
            obtain ⟨ar, gr, hSr⟩ := tab_get hyk (M.ans_at ok (ho s List.mem_cons_self))
            exact ⟨ar, M1.getD_of gr, hSr⟩
        have eg : (gvn (rowV M.all).length fun j => vy.getD (M.all.getD j 0) .non) = M.all.map fun s => vy.getD s .non := by
          unfold gvn
          rw [rowV_len]
          refine List.ext_getElem? fun i => ?_
          rw [List.getElem?_map, List.getElem?_map]
          by_cases h : i < M.all.length
          · rw [List.getElem?_range h, List.getElem?_eq_getElem h, Option.map_some, Option.map_some, M1.getD_of (List.getElem?_eq_getElem h)]
          · rw [List.getElem?_eq_none (by rw [List.length_range]; omega), List.getElem?_eq_none (by omega)]
            rfl
        rw [eg]
        exact gen M.all Aall.lt
end

end Kx
namespace Kx
open PySem PySem.Spec PyProof.Rows L2

open Evl
section
variable {P : Program} {w : World} {K : PySem.W.Frag} {mg : Str → Option Value} {base : Heap}
/-! ### the law's draws -/
def sp_taken (K : PySem.W.Frag) : Sp := fun vs H Q _ => ∃ (a scr : Addr) (ns : List Int) (m : Nat), vs = [.ref a, .int (m : Int)] ∧ 1 ≤ m ∧ m ≤ 1000 ∧ RowOk K H a scr ns ∧ ∀ (r : Nat) H2, r < m → ExB a H H2 → RowOk K H2 a scr ns → Q (nV r) H2
theorem int_mod {x : Int} {m : Nat} (h : 1 ≤ m) : ∃ r : Nat, r < m ∧ x % (m : Int) = (r : Int) := by
  have h0 : (0 : Int) ≤ x % (m : Int) := Int.emod_nonneg x (by omega)
  have h1 : x % (m : Int) < (m : Int) := Int.emod_lt_of_pos x (by omega)
  exact ⟨(x % (m : Int)).toNat, by omega, by omega⟩
theorem ix4 (j : Nat) (h : j < 4) {v0 v1 v2 v3 : V} : ixN ([v0, v1, v2, v3] : List V).length (j : Int) = some j := ixN_nat h
theorem lt4 {j : Nat} {a b c d : V} (h : j < 4) : j < [a, b, c, d].length := h
theorem rv_modN {H : Hp} {i : Int} {m : Nat} (h : 1 ≤ m) : RV (rI (fun _ j => 0 < j) fun i j => .int (i % j)) (.int i) (.int (m : Int)) H (.int (i % (m : Int))) := rv_I (C := fun _ j => 0 < j) (by omega)
theorem ev_int {ta : TE} {σ : L2.St} {H : Hp} {i : Int} (ha : Ev ta σ H (.int i)) : Ev (tCB (fun xs H Q => (∃ i, xs = [.int i] ∧ Q (.int i) H) ∨ ∃ k, xs = [.bl k] ∧ Q (.int (if k then 1 else 0)) H) (tCons ta tNil)) σ H (.int i) := fun H1 e Q q =>
  ha H1 e _ fun H2 e2 => .inl ⟨i, rfl, q H2 e2⟩
theorem has_law_taken (T : Txt K mg) {f : Addr} {fd : FuncData} (F : Fun K "_law_taken" "_law_taken" s_law_taken f fd) (g : mg "_law_taken" = some (.ref f)) (B : Binds K fd ["row", "many"] []) : Has P w K mg base "_law_taken" 1 ["row", "many"] (sp_taken K) := by
  refine Has.mk' g F.kp B (F.ok sc_law_taken (fun vs H Q E h => ?_) (fun cdv A outer s H vs Q E hr h => ?_))
  · obtain ⟨a, scr, ns, m, rfl, _⟩ := h
    rfl
  · obtain ⟨a, scr, ns, m, rfl, h1, hm, ⟨⟨i, z, q, hA, i0, z0, z1⟩, hS, hl⟩, k⟩ := h
    refine ⟨_, (pss_cons (ps_if (pt_cmpR op_gt (pe_ix (ix_listK (K := K) rfl) (pv 0) pe_int (fun _ _ => rfl)) pe_int (nomark _))
      (pss_cons (ps_set (i := 2) sc_law_taken.nd rfl (.inl rfl) (pe_op op_mod (pe_callTy call_int1 (by rfl) T.b_int bt_int (pa_cons (pe_ix (ix_listK (K := K) rfl) (pv 0) pe_int (fun _ _ => rfl)) pa_nil)) (pv 1)))
      (pss_cons (ps_asg (pe_op op_fdiv (pe_ix (ix_listK (K := K) rfl) (pv 0) pe_int (fun _ _ => rfl)) (pv 1)) (pg_sub (pv 0) pe_int set_list))
      (pss_one (ps_ret (pv 2)))))
      pss_nil)
      (pss_cons (ps_asg (pe_op op_add (pe_ix (ix_listK (K := K) rfl) (pv 0) pe_int (fun _ _ => rfl)) pe_int) (pg_sub (pv 0) pe_int set_list))
      (pss_cons (ps_if (pt_cmpR op_gt (pe_ix (ix_listK (K := K) rfl) (pv 0) pe_int (fun _ _ => rfl)) (pe_callB (call_lenK (K := K) rfl) (by rfl) T.b_len bt_len (pa_cons (pe_ix (ix_listK (K := K) rfl) (pv 0) pe_int (fun _ _ => rfl)) pa_nil)) (nomark _))
      (pss_cons (ps_asg (pe_op op_mod (pe_callTy call_int1 (by rfl) T.b_int bt_int (pa_cons (pe_op op_add (pe_op op_mul (pe_ix (ix_listK (K := K) rfl) (pv 0) pe_int (fun _ _ => rfl)) pe_int) pe_int) pa_nil)) pe_int) (pg_sub (pv 0) pe_int set_list))
      (pss_one (ps_ret (pe_op op_mod (pe_callTy call_int1 (by rfl) T.b_int bt_int (pa_cons (pe_op op_fdiv (pe_ix (ix_listK (K := K) rfl) (pv 0) pe_int (fun _ _ => rfl)) pe_int) pa_nil)) (pv 1)))))
      pss_nil)
      (pss_cons (ps_set (i := 3) sc_law_taken.nd rfl (.inl rfl) (pe_ix (ix_listK (K := K) rfl) (pe_ix (ix_listK (K := K) rfl) (pv 0) pe_int (fun _ _ => rfl)) (pe_op op_sub (pe_ix (ix_listK (K := K) rfl) (pv 0) pe_int (fun _ _ => rfl)) pe_int) (fun _ _ => rfl)))
      (pss_cons (ps_asg (pe_op op_mod (pe_callTy call_int1 (by rfl) T.b_int bt_int (pa_cons (pe_op op_add (pe_op op_add (pe_op op_mul (pe_ix (ix_listK (K := K) rfl) (pv 0) pe_int (fun _ _ => rfl)) pe_int) (pv 3)) pe_int) pa_nil)) pe_int) (pg_sub (pv 0) pe_int set_list))
      (pss_cons (ps_if (pt_cmpR op_ge (pv 3) (pe_op op_pow pe_int pe_int) (nomark _))
      (pss_one (ps_asg (pe_op op_fdiv (pv 3) (pv 1)) (pg_sub (pv 0) pe_int set_list)))
      pss_nil)
      (pss_one (ps_ret (pe_op op_mod (pe_callTy call_int1 (by rfl) T.b_int bt_int (pa_cons (pv 3) pa_nil)) (pv 1)))))))))), ?_⟩
    have fin : ∀ (x : Int) (H2 : Hp) (i z q : Int), H2 a = some (.lst [.ref scr, .int i, .int z, .int q]) → 0 ≤ i → 0 ≤ z → z < 2147483647 → ExB a H H2 → Q (.int (x % (m : Int))) H2 := fun x H2 i z q hA i0 z0 z1 e => by
      obtain ⟨r, hr, er⟩ := int_mod (x := x) h1
      rw [er]
      exact k r H2 hr e ⟨⟨i, z, q, hA, i0, z0, z1⟩, fun H' x => hS H' (e.trans x), hl⟩
    refine q_when (b := decide ((0 : Int) < q)) (et_test (ev_op (ev_op (ev_var rfl) ev_c (rv_ixL (sq_of hA) (atI_nat (j := 3) rfl))) ev_c rv_I0)) (fun _ H1 e1 => ?_) (fun _ H1 e1 => ?_)
    · have hA1 := e1 _ _ hA
      refine q_asg (ev_op (ev_int (ev_op (ev_var rfl) ev_c (rv_ixL (sq_of hA1) (atI_nat (j := 3) rfl)))) (ev_var rfl) (rv_modN h1)) fun H2 e2 => ?_
      have hA2 := e2 _ _ hA1
      refine q_setL (j := 3) hA2 (ev_op (ev_op (ev_var rfl) ev_c (rv_ixL (sq_of hA2) (atI_nat (j := 3) rfl))) (ev_var rfl) (rv_I (C := CDiv) ⟨by omega, by omega⟩)) (ev_var rfl) ev_c (lt4 (by decide)) fun H3 e3 => ?_
      refine s_ret (ev_var rfl) fun H4 e4 => ?_
      exact fin q H4 i z _ (e4 _ _ upd_same) i0 z0 z1 ((((ExB.of (e1.trans e2)).trans (ExB.of e3)).trans ExB.upd).trans (ExB.of e4))
    · have hA1 := e1 _ _ hA
      refine q_setL (j := 1) hA1 (ev_op (ev_op (ev_var rfl) ev_c (rv_ixL (sq_of hA1) (atI_nat (j := 1) rfl))) ev_c rv_I0) (ev_var rfl) ev_c (lt4 (by decide)) fun H2 e2 => ?_
      have hA2 : (upd H2 a (.lst [.ref scr, .int (i + 1), .int z, .int q])) a = some (.lst [.ref scr, .int (i + 1), .int z, .int q]) := upd_same
      have x2 : ExB a H (upd H2 a (.lst [.ref scr, .int (i + 1), .int z, .int q])) := (ExB.of (e1.trans e2)).trans ExB.upd
      have hS2 := hS _ x2
      refine q_when (b := decide (((ns.map V.int).length : Int) < i + 1)) (et_test (ev_op (ev_op (ev_var rfl) ev_c (rv_ixL (sq_of hA2) (atI_nat (j := 1) rfl))) (ev_len (ev_op (ev_var rfl) ev_c (rv_ixL (sq_of hA2) (atI_nat (j := 0) rfl))) hS2) rv_I0)) (fun _ H3 e3 => ?_) (fun b H3 e3 => ?_)
      · have hA3 := e3 _ _ hA2
        refine q_setL (j := 2) hA3 (ev_op (ev_int (ev_op (ev_op (ev_op (ev_var rfl) ev_c (rv_ixL (sq_of hA3) (atI_nat (j := 2) rfl))) ev_c (rv_I (C := CMul) (.inl ⟨by omega, by omega⟩))) ev_c rv_I0)) ev_c (rv_I (C := fun _ j => (0 : Int) < j) (by decide))) (ev_var rfl) ev_c (lt4 (by decide)) fun H4 e4 => ?_
        have hA4 : (upd H4 a (.lst [.ref scr, .int (i + 1), .int ((z * 48271 + 11) % 2147483647), .int q])) a = some (.lst [.ref scr, .int (i + 1), .int ((z * 48271 + 11) % 2147483647), .int q]) := upd_same
        refine s_ret (ev_op (ev_int (ev_op (ev_op (ev_var rfl) ev_c (rv_ixL (sq_of hA4) (atI_nat (j := 2) rfl))) ev_c (rv_I (C := CDiv) ⟨by decide, by decide⟩))) (ev_var rfl) (rv_modN h1)) fun H5 e5 => ?_
        exact fin _ H5 _ _ _ (e5 _ _ hA4) (by omega) (Int.emod_nonneg _ (by decide)) (Int.emod_lt_of_pos _ (by decide)) (((x2.trans (ExB.of (e3.trans e4))).trans ExB.upd).trans (ExB.of e5))
      · have hA3 := e3 _ _ hA2
        have x3 := x2.trans (ExB.of e3)
        have hS3 := hS _ x3
        have hle : i + 1 ≤ (ns.length : Int) := by
          have := of_decide_eq_false b
          rw [List.length_map] at this
          omega
        obtain ⟨j, hj⟩ : ∃ j : Nat, i = (j : Int) := ⟨i.toNat, by omega⟩
        subst hj
        have hjl : j < ns.length := by omega
        have hget : (ns.map V.int)[j]? = some (.int ns[j]) := by rw [List.getElem?_map, List.getElem?_eq_getElem hjl]; rfl
        refine q_asg (ev_op (ev_op (ev_var rfl) ev_c (rv_ixL (sq_of hA3) (atI_nat (j := 0) rfl))) (ev_op (ev_op (ev_var rfl) ev_c (rv_ixL (sq_of hA3) (atI_nat (j := 1) rfl))) ev_c rv_I0) (rv_ixL hS3 (by rw [show (j : Int) + 1 - 1 = (j : Int) by omega]; exact atI_nat hget))) fun H4 e4 => ?_
        have hA4 := e4 _ _ hA3
        refine q_setL (j := 2) hA4 (ev_op (ev_int (ev_op (ev_op (ev_op (ev_op (ev_var rfl) ev_c (rv_ixL (sq_of hA4) (atI_nat (j := 2) rfl))) ev_c (rv_I (C := CMul) (.inl ⟨by omega, by omega⟩))) (ev_var rfl) rv_I0) ev_c rv_I0)) ev_c (rv_I (C := fun _ j => (0 : Int) < j) (by decide))) (ev_var rfl) ev_c (lt4 (by decide)) fun H5 e5 => ?_
        have hA5 : (upd H5 a (.lst [.ref scr, .int ((j : Int) + 1), .int ((z * 48271 + ns[j] + 11) % 2147483647), .int q])) a = some (.lst [.ref scr, .int ((j : Int) + 1), .int ((z * 48271 + ns[j] + 11) % 2147483647), .int q]) := upd_same
        have x5 := (x3.trans (ExB.of (e4.trans e5))).trans (ExB.upd (a := a) (o := .lst [.ref scr, .int ((j : Int) + 1), .int ((z * 48271 + ns[j] + 11) % 2147483647), .int q]))
        have zz : 0 ≤ (z * 48271 + ns[j] + 11) % 2147483647 ∧ (z * 48271 + ns[j] + 11) % 2147483647 < 2147483647 := ⟨Int.emod_nonneg _ (by decide), Int.emod_lt_of_pos _ (by decide)⟩
        refine q_when (b := decide ((10 : Int) ^ (18 : Int).toNat ≤ ns[j])) (et_test (ev_op (ev_var rfl) (ev_op ev_c ev_c (rv_I (C := CPow) ⟨by decide, by decide, by decide⟩)) rv_I0)) (fun _ H6 e6 => ?_) (fun _ H6 e6 => ?_)
        · refine s_setL (D := { nx := _, rt := _, bk := _, ct := _ }) (j := 3) (e6 _ _ hA5) (ev_op (ev_var rfl) (ev_var rfl) (rv_I (C := CDiv) ⟨by omega, by omega⟩)) (ev_var rfl) ev_c (lt4 (by decide)) fun H7 e7 => ?_
          refine s_ret (ev_op (ev_int (ev_var rfl)) (ev_var rfl) (rv_modN h1)) fun H8 e8 => ?_
          exact fin _ H8 _ _ _ (e8 _ _ upd_same) (by omega) zz.1 zz.2 (((x5.trans (ExB.of (e6.trans e7))).trans ExB.upd).trans (ExB.of e8))
        · refine s_ret (ev_op (ev_int (ev_var rfl)) (ev_var rfl) (rv_modN h1)) fun H8 e8 => ?_
          exact fin _ H8 _ _ _ (e8 _ _ (e6 _ _ hA5)) (by omega) zz.1 zz.2 (x5.trans (ExB.of (e6.trans e8)))
end

end Kx
namespace Kx
open PySem PySem.Spec PyProof.Rows L2

open Evl
section
variable {P : Program} {w : World} {K : PySem.W.Frag} {mg : Str → Option Value} {base : Heap}
def sp_lawmac (K : PySem.W.Frag) : Sp := fun vs H Q _ => ∃ (a scr : Addr) (ns : List Int) (s l : Nat), vs = [.ref a, .int (s : Int), .int (l : Int)] ∧ 1 ≤ s ∧ s ≤ 6 ∧ 1 ≤ l ∧ l ≤ 3 ∧ RowOk K H a scr ns ∧
  ∀ v (M : M1.Mach) H2, M.Ok → M.st.length ≤ s → M.k ≤ l → MacAt K H2 v M.st M.an → ExB a H H2 → RowOk K H2 a scr ns → Q v H2
/-- what stands while the machine is drawn -/
structure Dw (K : PySem.W.Frag) (H0 H : Hp) (a scr : Addr) (ns : List Int) (ps pt pb : Addr) (tab : List Nat) (ls lt : List V) (rows anss : List (List Nat)) : Prop where
  x : ExB a H0 H
  r : RowOk K H a scr ns
  hs : H ps = some (.lst ls)
  ht : H pt = some (.lst lt)
  hb : H pb = some (.lst (rowV tab))
  ps_ : Paired (RowAt K H) ls rows
  pt_ : Paired (RowAt K H) lt anss
theorem Dw.keep {K : PySem.W.Frag} {H0 H H' : Hp} {a scr : Addr} {ns : List Int} {ps pt pb : Addr} {tab : List Nat} {ls lt : List V} {rows anss : List (List Nat)} (D : Dw K H0 H a scr ns ps pt pb tab ls lt rows anss) (n1 : ps ≠ a) (n2 : pt ≠ a) (n3 : pb ≠ a) (e : ExB a H H') (R : RowOk K H' a scr ns) :
    Dw K H0 H' a scr ns ps pt pb tab ls lt rows anss := by
  obtain ⟨xs, hx⟩ := D.r.lst
  exact ⟨D.x.trans e, R, e _ _ n1 D.hs, e _ _ n2 D.ht, e _ _ n3 D.hb, paired_keep D.ps_ (e.tk hx), paired_keep D.pt_ (e.tk hx)⟩
theorem Dw.ex {K : PySem.W.Frag} {H0 H H' : Hp} {a scr : Addr} {ns : List Int} {ps pt pb : Addr} {tab : List Nat} {ls lt : List V} {rows anss : List (List Nat)} (D : Dw K H0 H a scr ns ps pt pb tab ls lt rows anss) (n1 : ps ≠ a) (n2 : pt ≠ a) (n3 : pb ≠ a) (e : Ex H H') : Dw K H0 H' a scr ns ps pt pb tab ls lt rows anss :=
  D.keep n1 n2 n3 (ExB.of e) (D.r.ex e)
/-- a fresh list is written -/
theorem Dw.put {K : PySem.W.Frag} {H0 H : Hp} {a scr p : Addr} {ns : List Int} {ps pt pb : Addr} {tab : List Nat} {ls lt xs ys : List V} {rows anss : List (List Nat)} (D : Dw K H0 H a scr ns ps pt pb tab ls lt rows anss) (R0 : RowOk K H0 a scr ns) (h0 : H0 p = none) (hp : H p = some (.lst xs)) (na : p ≠ a) (n1 : p ≠ ps) (n2 : p ≠ pt) (n3 : p ≠ pb) :
    Dw K H0 (upd H p (.lst ys)) a scr ns ps pt pb tab ls lt rows anss :=
  ⟨D.x.mut h0, R0.join D.r (D.x.mut h0) (upd_ne na.symm), by rw [upd_ne n1.symm]; exact D.hs, by rw [upd_ne n2.symm]; exact D.ht, by rw [upd_ne n3.symm]; exact D.hb, paired_keep D.ps_ (TK.lst hp), paired_keep D.pt_ (TK.lst hp)⟩
theorem draw_ok {σ : L2.St} {H : Hp} {a scr : Addr} {ns : List Int} {m : Nat} {te : TE} {i : Nat} (h1 : 1 ≤ m) (h2 : m ≤ 1000) (s0 : σ[i]? = some (some (.ref a))) (hmx : ∀ H1, ExB a H H1 → Ev te σ H1 (.int (m : Int))) :
    EvR K (tCall (sp_taken K) [] E0 (tCons (tVar i) (tCons te tNil))) σ H a scr ns m := fun H1 x1 R1 Q q => by
  refine ⟨.ref a, s0, hmx H1 x1 H1 (Ex.refl H1) _ fun H2 e2 => ⟨a, scr, ns, m, rfl, h1, h2, R1.ex e2, fun r H3 hr x3 R3 => q r H3 hr ((ExB.of e2).trans x3) R3⟩⟩
/-- name = [draw for x in range(n)] -/
theorem q_draws {ta : TA} {te : TE} {tz : TS} {D : Ends} {σ : L2.St} {H : Hp} {a scr : Addr} {ns : List Int} {i j n m : Nat} {vs : List Nat} (h : EvA ta σ H [.int (n : Int)]) (hn : n ≤ 1000) (R : RowOk K H a scr ns) (hw : ∀ x, wipe ((wipe σ vs).set j (some x)) vs = wipe σ vs)
    (he : ∀ i : Nat, i < 1000 → EvR K te ((wipe σ vs).set j (some (.int (i : Int)))) H a scr ns m)
    (q : ∀ p l H2, H p = none → p ≠ a → ExB a H H2 → RowOk K H2 a scr ns → H2 p = some (.lst (rowV l)) → l.length = n → (∀ x ∈ l, x < m) → tz D (σ.set i (some (.ref p))) H2) : tSeq (tAsg (tLc (iRng1 ta) (gName j) tYes te vs) (gName i)) tz D σ H :=
  er_lcR h hn R hw he (fun x H1 => gName i x σ H1 (tz D)) q
/-- tuple([draw for x in range(n)]), the only argument -/
theorem a_draws {ta : TA} {te : TE} {σ : L2.St} {H : Hp} {a scr : Addr} {ns : List Int} {j n m : Nat} {vs : List Nat} {Q : List V → Hp → Prop} (h : EvA ta σ H [.int (n : Int)]) (hn : n ≤ 1000) (R : RowOk K H a scr ns) (hw : ∀ x, wipe ((wipe σ vs).set j (some x)) vs = wipe σ vs)
    (he : ∀ i : Nat, i < 1000 → EvR K te ((wipe σ vs).set j (some (.int (i : Int)))) H a scr ns m)
    (q : ∀ p l H2, H p = none → p ≠ a → ExB a H H2 → RowOk K H2 a scr ns → H2 p = some (.tup (rowV l)) → l.length = n → (∀ x ∈ l, x < m) → Q [.ref p] H2) : tCons (tCB (rTupOf K) (tCons (tLc (iRng1 ta) (gName j) tYes te vs) tNil)) tNil σ H Q :=
  er_lcR h hn R hw he (fun x H1 => rTupOf K [x] H1 fun y H2 => Q [y] H2) fun p l H2 hp na x2 R2 h2 hl hm => ⟨p, _, rfl, Or.inl ⟨sq_of h2, fun p2 hp2 => by
    have np2 : p2 ≠ a := fun z => by
      subst z
      obtain ⟨xs, hx⟩ := R2.lst
      rw [hx] at hp2
      cases hp2
    exact q p2 l _ (x2.fresh np2 hp2) np2 (x2.trans (ExB.of (Ex.new hp2))) (R2.ex (Ex.new hp2)) upd_same hl hm⟩⟩
theorem has_law_machine (T : Txt K mg) (h_law_taken : Has P w K mg base "_law_taken" 1 ["row", "many"] (sp_taken K)) {f : Addr} {fd : FuncData} (F : Fun K "_law_machine" "_law_machine" s_law_machine f fd) (g : mg "_law_machine" = some (.ref f)) (B : Binds K fd ["row", "states", "letters"] []) :
    Has P w K mg base "_law_machine" 2 ["row", "states", "letters"] (sp_lawmac K) := by
  refine Has.mk' g F.kp B (F.ok sc_law_machine (fun vs H Q E h => ?_) (fun cdv A outer s H vs Q E hr h => ?_))
  · obtain ⟨a, scr, ns, s, l, rfl, _⟩ := h
    rfl
  · obtain ⟨a, scr, ns, s, l, rfl, s1, s6, l1, l3, R, k⟩ := h
    refine ⟨_, (pss_cons (ps_asg (pe_tup (pa_cons (pe_op op_add pe_int (pe_has h_law_taken (hr.mono (by first | decide | exact Nat.le_refl _)) (by rfl) (pa_cons (pv 0) (pa_cons (pv 1) pa_nil)))) (pa_cons (pe_op op_add pe_int (pe_has h_law_taken (hr.mono (by first | decide | exact Nat.le_refl _)) (by rfl) (pa_cons (pv 0) (pa_cons (pv 2) pa_nil)))) (pa_cons (pe_has h_law_taken (hr.mono (by first | decide | exact Nat.le_refl _)) (by rfl) (pa_cons (pv 0) (pa_cons pe_int pa_nil))) pa_nil)))) (pg_tupK (K := K) (n := 3) rfl (by rfl) (pgs_cons (pg_name (i := 3) sc_law_machine.nd rfl (.inr rfl)) (pgs_cons (pg_name (i := 4) sc_law_machine.nd rfl (.inl rfl)) (pgs_cons (pg_name (i := 5) sc_law_machine.nd rfl (.inl rfl)) pgs_nil)))))
      (pss_cons (ps_par (i := 6) (j := 7) (by rfl) sc_law_machine.nd rfl rfl (by decide) rfl rfl (pa_cons (pe_lst pa_nil) (pa_cons (pe_lst pa_nil) pa_nil)) (by rfl))
      (pss_cons (ps_setLc (i := 8) (own := [("letter", 11)]) (g := gName 11) (tt := tYes) (by rfl) sc_law_machine.nd rfl rfl (sw_true rfl rfl rfl (by decide +kernel)) (pi_range1 (by rfl) T.b_range (pa_cons (pv 4) pa_nil)) (blkOk_by (N := N_law_machine) (sc := defScope s_law_machine) (by decide +kernel)) (fun _ _ _ _ _ => pg_name (i := 11) sc_law_machine.nd rfl (Or.inl rfl)) (fun _ _ _ _ _ => pts_nil) (fun _ _ _ _ _ => (pe_has h_law_taken (hr.mono (by first | decide | exact Nat.le_refl _)) (by rfl) (pa_cons (pv 0) (pa_cons (pv 3) pa_nil)))))
      (pss_cons (ps_for PassesOwn.never rfl (pi_range1 (by rfl) T.b_range (pa_cons (pv 3) pa_nil)) (pg_name (i := 9) sc_law_machine.nd rfl (.inl rfl))
      (pss_cons (ps_set (i := 10) sc_law_machine.nd rfl (.inl rfl) (pe_lst pa_nil))
      (pss_cons (ps_for PassesOwn.never rfl (pi_range1 (by rfl) T.b_range (pa_cons (pv 4) pa_nil)) (pg_name (i := 11) sc_law_machine.nd rfl (.inl rfl))
      (pss_cons (ps_set (i := 12) sc_law_machine.nd rfl (.inl rfl) (pe_ifExp (pt_cmpR op_eq (pv 5) pe_int (nomark _)) (pe_has h_law_taken (hr.mono (by first | decide | exact Nat.le_refl _)) (by rfl) (pa_cons (pv 0) (pa_cons (pv 3) pa_nil))) (pe_callB (call_min2 rfl) (by rfl) T.b_min bt_min (pa_cons (pe_op op_sub (pv 3) pe_int) (pa_cons (pe_op op_add (pv 9) (pe_has h_law_taken (hr.mono (by first | decide | exact Nat.le_refl _)) (by rfl) (pa_cons (pv 0) (pa_cons pe_int pa_nil)))) pa_nil)))))
      (pss_one (ps_expr (pe_bm PySem.F.plainAttrs_list PySem.F.slot_list_append PySem.F.type_list_append mt_append (pv 10) (pa_cons (pe_ifExp (PW.pt (pw_and (pt_cmpR op_gt (pv 5) pe_int (nomark _)) (pw_and1 (pt_cmpR op_gt (pe_has h_law_taken (hr.mono (by first | decide | exact Nat.le_refl _)) (by rfl) (pa_cons (pv 0) (pa_cons pe_int pa_nil))) pe_int (nomark _))))) (pe_ix (ix_listK (K := K) rfl) (pv 8) (pv 11) (fun _ _ => rfl)) (pv 12)) pa_nil))))))
      (pss_cons (ps_expr (pe_bm PySem.F.plainAttrs_list PySem.F.slot_list_append PySem.F.type_list_append mt_append (pv 6) (pa_cons (pe_callTy (call_tupleK (K := K) rfl) (by rfl) T.b_tuple bt_tuple (pa_cons (pv 10) pa_nil)) pa_nil)))
      (pss_one (ps_expr (pe_bm PySem.F.plainAttrs_list PySem.F.slot_list_append PySem.F.type_list_append mt_append (pv 7) (pa_cons (pe_callTy (call_tupleK (K := K) rfl) (by rfl) T.b_tuple bt_tuple (pa_cons (pe_lc (own := [("letter", 11)]) (g := gName 11) (tt := tYes) (by rfl) sc_law_machine.nd (pi_range1 (by rfl) T.b_range (pa_cons (pv 4) pa_nil)) (blkOk_by (N := N_law_machine) (sc := defScope s_law_machine) (by decide +kernel)) (fun _ _ _ _ _ => pg_name (i := 11) sc_law_machine.nd rfl (Or.inl rfl)) (fun _ _ _ _ _ => pts_nil) (fun _ _ _ _ _ => (pe_has h_law_taken (hr.mono (by first | decide | exact Nat.le_refl _)) (by rfl) (pa_cons (pv 0) (pa_cons pe_int pa_nil))))) pa_nil)) pa_nil))))))))
      (pss_one (ps_ret (pe_tup (pa_cons (pe_callTy (call_tupleK (K := K) rfl) (by rfl) T.b_tuple bt_tuple (pa_cons (pv 6) pa_nil)) (pa_cons (pe_callTy (call_tupleK (K := K) rfl) (by rfl) T.b_tuple bt_tuple (pa_cons (pv 7) pa_nil)) pa_nil))))))))), ?_⟩
    -- many, some, kind = ..
    refine ⟨.ref a, rfl, .int (s : Int), rfl, a, scr, ns, s, rfl, s1, by omega, R, fun r1 H1 hr1 x1 R1 => ⟨1, (r1 : Int), rfl, rfl, .ref a, rfl, .int (l : Int), rfl, a, scr, ns, l, rfl, l1, by omega, R1, fun r2 H2 hr2 x2 R2 => ⟨1, (r2 : Int), rfl, rfl, .ref a, rfl, a, scr, ns, 3, rfl, by decide, by decide, R2, fun kd H3 hkd x3 R3 => ⟨by show 3 ≤ sizeLine; decide, fun Tp hTp => ⟨Tp, _, rfl, SqT.of upd_same, rfl, _, _, rfl, _, _, rfl, _, _, rfl, rfl, ?_⟩⟩⟩⟩⟩
    obtain ⟨n, hn⟩ : ∃ n : Nat, n = 1 + r1 := ⟨_, rfl⟩
    obtain ⟨m, hm⟩ : ∃ m : Nat, m = 1 + r2 := ⟨_, rfl⟩
    have en : (1 : Int) + (r1 : Int) = (n : Int) := by omega
    have em : (1 : Int) + (r2 : Int) = (m : Int) := by omega
    dsimp only
    rw [en, em]
    have x4 : ExB a H (upd H3 Tp (.tup [.int (n : Int), .int (m : Int), nV kd])) := ((x1.trans x2).trans x3).trans (ExB.of (Ex.new hTp))
    have R4 : RowOk K (upd H3 Tp (.tup [.int (n : Int), .int (m : Int), nV kd])) a scr ns := R3.ex (Ex.new hTp)
    refine ⟨Nat.zero_le _, fun ps hps => ⟨Nat.zero_le _, fun pt hpt => ⟨_, _, rfl, ?_⟩⟩⟩
    obtain ⟨xa, hxa⟩ := R4.lst
    have nsa : ps ≠ a := fun z => by subst z; rw [hxa] at hps; cases hps
    have hpt' := hpt
    have nts : pt ≠ ps := fun z => by subst z; rw [upd_same] at hpt; cases hpt
    rw [upd_ne nts] at hpt'
    have nta : pt ≠ a := fun z => by subst z; rw [hxa] at hpt'; cases hpt'
    have e5 : Ex (upd H3 Tp (.tup [.int (n : Int), .int (m : Int), nV kd])) (upd (upd (upd H3 Tp (.tup [.int (n : Int), .int (m : Int), nV kd])) ps (.lst [])) pt (.lst [])) := (Ex.new hps).trans (Ex.new hpt)
    have R5 := R4.ex e5
    have x5 := x4.trans (ExB.of e5)
    have nps : H ps = none := x4.fresh nsa hps
    have npt : H pt = none := x4.fresh nta hpt'
    refine q_draws (n := m) (m := n) (ea_cons (ev_var rfl) ea_nil) (by omega) R5 (fun _ => rfl) (fun i hi => draw_ok (by omega) (by omega) (by exact rfl) fun _ _ => by exact ev_var rfl) fun pb tab H6 hpb nba x6 R6 h6 tl tlt => ?_
    have npb : H pb = none := x5.fresh nba hpb
    have nbs : pb ≠ ps := fun z => by subst z; rw [upd_ne nts.symm, upd_same] at hpb; cases hpb
    have nbt : pb ≠ pt := fun z => by subst z; rw [upd_same] at hpb; cases hpb
    have hs6 : H6 ps = some (.lst []) := x6 _ _ nsa (by rw [upd_ne nts.symm, upd_same])
    have ht6 : H6 pt = some (.lst []) := x6 _ _ nta upd_same
    have D6 : Dw K H H6 a scr ns ps pt pb tab [] [] [] [] := ⟨x5.trans x6, R6, hs6, ht6, h6, .nil, .nil⟩
    refine q_forR1 (n := (n : Int)) (ea_cons (ev_var rfl) ea_nil) ⟨by omega, by omega⟩ (fun i σ' H' => ∃ l9 l10 l11 l12 ls lt rows anss, σ' = [some (.ref a), some (.int (s : Int)), some (.int (l : Int)), some (.int (n : Int)), some (.int (m : Int)), some (nV kd), some (.ref ps), some (.ref pt), some (.ref pb), l9, l10, l11, l12] ∧
      Dw K H H' a scr ns ps pt pb tab ls lt rows anss ∧ rows.length = i ∧ anss.length = i ∧ (∀ r ∈ rows, r.length = m ∧ ∀ x ∈ r, x < n) ∧ ∀ r ∈ anss, r.length = m ∧ ∀ x ∈ r, x ≤ 9)
      (fun H7 e7 => ⟨none, none, none, none, [], [], [], [], rfl, D6.ex nsa nta nba e7, rfl, rfl, fun _ h => by simp at h, fun _ h => by simp at h⟩) ?_ ?_
    · rintro i σ' H' hi ⟨l9, l10, l11, l12, ls, lt, rows, anss, rfl, D, lr, la, ar, aa⟩
      have hls : ls.length = i := by rw [Paired.length D.ps_, lr]
      have hlt : lt.length = i := by rw [Paired.length D.pt_, la]
      refine q_asgL (el_lst ea_nil (by decide)) fun pl H7 hpl e7 h7 => ?_
      have D7 := D.ex nsa nta nba e7
      obtain ⟨xa', hxa'⟩ := D.r.lst
      have nla : pl ≠ a := fun z => by subst z; rw [hxa'] at hpl; cases hpl
      have npl : H pl = none := D.x.fresh nla hpl
      have nls : pl ≠ ps := fun z => by subst z; rw [D.hs] at hpl; cases hpl
      have nlt : pl ≠ pt := fun z => by subst z; rw [D.ht] at hpl; cases hpl
      have nlb : pl ≠ pb := fun z => by subst z; rw [D.hb] at hpl; cases hpl
      refine q_forR1 (n := (m : Int)) (ea_cons (ev_var rfl) ea_nil) ⟨by omega, by omega⟩ (fun j σ' H' => ∃ l11 l12 ln, σ' = [some (.ref a), some (.int (s : Int)), some (.int (l : Int)), some (.int (n : Int)), some (.int (m : Int)), some (nV kd), some (.ref ps), some (.ref pt), some (.ref pb), some (.int (i : Int)), some (.ref pl), l11, l12] ∧
        Dw K H H' a scr ns ps pt pb tab ls lt rows anss ∧ H' pl = some (.lst (rowV ln)) ∧ ln.length = j ∧ ∀ x ∈ ln, x < n)
        (fun H8 e8 => ⟨l11, l12, [], rfl, D7.ex nsa nta nba e8, e8 _ _ h7, rfl, fun _ h => by simp at h⟩) ?_ ?_
      · rintro j σ' H8 hj ⟨m11, m12, ln, rfl, D8, h8, l8, a8⟩
        have hjm : j < m := by omega
        -- line.append(..): what is left once the value is known
        have app : ∀ (x : Nat) H9, x < n → Dw K H H9 a scr ns ps pt pb tab ls lt rows anss → H9 pl = some (.lst (rowV ln)) → ∀ y12, rAppend (.ref pl) [nV x] H9 fun _ H10 => ∃ l11 l12 ln, [some (.ref a), some (.int (s : Int)), some (.int (l : Int)), some (.int (n : Int)), some (.int (m : Int)), some (nV kd), some (.ref ps), some (.ref pt), some (.ref pb), some (.int (i : Int)), some (.ref pl), some (.int (j : Int)), y12] = [some (.ref a), some (.int (s : Int)), some (.int (l : Int)), some (.int (n : Int)), some (.int (m : Int)), some (nV kd), some (.ref ps), some (.ref pt), some (.ref pb), some (.int (i : Int)), some (.ref pl), l11, l12] ∧
            Dw K H H10 a scr ns ps pt pb tab ls lt rows anss ∧ H10 pl = some (.lst (rowV ln)) ∧ ln.length = j + 1 ∧ ∀ x ∈ ln, x < n := by
          intro x H9 hx D9 h9 y12
          refine ⟨pl, _, _, rfl, rfl, h9, by rw [rowV_len]; exact small1000 (by omega), _, y12, ln ++ [x], rfl, D9.put R npl h9 nla nls nlt nlb, by rw [rowV_snoc]; exact upd_same, by rw [List.length_append, List.length_singleton, l8], fun y hy => ?_⟩
          rcases List.mem_append.mp hy with hy | hy
          · exact a8 y hy
          · rw [List.mem_singleton] at hy
            subst hy
            exact hx
        -- there = ..
        have rest : ∀ (x : Nat) H9, x < n → Dw K H H9 a scr ns ps pt pb tab ls lt rows anss → H9 pl = some (.lst (rowV ln)) → (tDrop (tBM K "list" rAppend (tVar 10) (tCons (tIf (tAnd (tTest (tOp (rI0 fun i j => .bl (decide (j < i))) (tVar 5) (tC (.int 0)))) (tTest (tOp (rI0 fun i j => .bl (decide (j < i))) (tCall (sp_taken K) [] E0 (tCons (tVar 0) (tCons (tC (.int 3)) tNil))) (tC (.int 0))))) (tOp (rIxL K) (tVar 8) (tVar 11)) (tVar 12)) tNil)))
            { nx := (fun σ' H' => ∃ l11 l12 ln, σ' = [some (.ref a), some (.int (s : Int)), some (.int (l : Int)), some (.int (n : Int)), some (.int (m : Int)), some (nV kd), some (.ref ps), some (.ref pt), some (.ref pb), some (.int (i : Int)), some (.ref pl), l11, l12] ∧ Dw K H H' a scr ns ps pt pb tab ls lt rows anss ∧ H' pl = some (.lst (rowV ln)) ∧ ln.length = j + 1 ∧ ∀ x ∈ ln, x < n), rt := fun _ _ => True, bk := fun _ _ => True, ct := fun _ _ => True }
            [some (.ref a), some (.int (s : Int)), some (.int (l : Int)), some (.int (n : Int)), some (.int (m : Int)), some (nV kd), some (.ref ps), some (.ref pt), some (.ref pb), some (.int (i : Int)), some (.ref pl), some (.int (j : Int)), some (nV x)] H9 := by
          intro x H9 hx D9 h9
          refine ⟨.ref pl, rfl, Or.inl ⟨rfl, _, sq_of h9⟩, nV kd, rfl, (kd : Int), 0, rfl, rfl, _, rfl, ?_⟩
          by_cases c : (0 : Int) < (kd : Int)
          · rw [decide_eq_true c]
            refine iteT ⟨.ref a, rfl, a, scr, ns, 3, rfl, by decide, by decide, D9.r, fun r9 H10 hr9 x10 R10 => ⟨(r9 : Int), 0, rfl, rfl, _, rfl, ?_⟩⟩
            have D10 := D9.keep nsa nta nba x10 R10
            have h10 := x10 _ _ nla h9
            by_cases c2 : (0 : Int) < (r9 : Int)
            · rw [decide_eq_true c2]
              have gt : tab[j]? = some (tab.getD j 0) := M1.getD_at (by omega)
              refine iteT ⟨.ref pb, rfl, .int (j : Int), rfl, pb, _, _, nV (tab.getD j 0), rfl, rfl, sq_of D10.hb, atI_nat (rowV_at gt), ?_⟩
              exact app _ H10 (tlt _ (List.mem_of_getElem? gt)) D10 h10 _
            · rw [decide_eq_false c2]
              exact iteF ⟨nV x, rfl, app x H10 hx D10 h10 _⟩
          · rw [decide_eq_false c]
            exact iteF ⟨nV x, rfl, app x H9 hx D9 h9 _⟩
        refine ⟨nV kd, rfl, rfl, _, rfl, ?_⟩
        by_cases c : V.int (kd : Int) = V.int 0
        · rw [show decide (nV kd = V.int 0) = true from decide_eq_true c]
          exact iteT ⟨.ref a, rfl, .int (n : Int), rfl, a, scr, ns, n, rfl, by omega, by omega, D8.r, fun r9 H9 hr9 x9 R9 => rest r9 H9 hr9 (D8.keep nsa nta nba x9 R9) (x9 _ _ nla h8)⟩
        · rw [show decide (nV kd = V.int 0) = false from decide_eq_false c]
          refine iteF ⟨.int (n : Int), rfl, (n : Int), 1, rfl, rfl, .int (i : Int), rfl, .ref a, rfl, a, scr, ns, 2, rfl, by decide, by decide, D8.r, fun r9 H9 hr9 x9 R9 => ⟨(i : Int), (r9 : Int), rfl, rfl, (n : Int) - 1, (i : Int) + (r9 : Int), rfl, ?_⟩⟩
          obtain ⟨z, hz, ez⟩ : ∃ z : Nat, z < n ∧ (if (i : Int) + (r9 : Int) < (n : Int) - 1 then (i : Int) + (r9 : Int) else (n : Int) - 1) = (z : Int) := by
            by_cases c3 : (i : Int) + (r9 : Int) < (n : Int) - 1
            · rw [if_pos c3]
              exact ⟨i + r9, by omega, by omega⟩
            · rw [if_neg c3]
              exact ⟨n - 1, by omega, by omega⟩
          rw [ez]
          exact rest z H9 hz (D8.keep nsa nta nba x9 R9) (x9 _ _ nla h8)
      · rintro σ' H8 ⟨m11, m12, ln, rfl, D8, h8, l8, a8⟩
        have l8' : ln.length = m := by omega
        refine q_appU D8.hs (ev_var rfl) (eu_tupL (ev_var rfl) (sq_of h8)) (by omega) fun q H9 hq e9 h9 => ?_
        have D9 := D8.ex nsa nta nba e9
        have tk9 : TK K H9 (upd H9 ps (.lst (ls ++ [.ref q]))) := TK.lst D9.hs
        have D10 : Dw K H (upd H9 ps (.lst (ls ++ [.ref q]))) a scr ns ps pt pb tab (ls ++ [.ref q]) lt (rows ++ [ln]) anss :=
          ⟨D9.x.mut nps, R.join D9.r (D9.x.mut nps) (upd_ne nsa.symm), upd_same, by rw [upd_ne nts]; exact D9.ht, by rw [upd_ne nbs]; exact D9.hb, Paired.snoc (paired_keep D9.ps_ tk9) ⟨q, rfl, tk9 _ _ (SqT.of h9)⟩, paired_keep D9.pt_ tk9⟩
        -- told.append(tuple([..]))
        refine ⟨.ref pt, rfl, Or.inl ⟨rfl, _, sq_of D10.ht⟩, ?_⟩
        refine a_draws (n := m) (m := 2) (ea_cons (ev_var rfl) ea_nil) (by omega) D10.r (fun _ => rfl) (fun i hi => draw_ok (by decide) (by decide) (by exact rfl) fun _ _ => by exact ev_c) fun q2 an H11 hq2 nda x11 R11 h11 dl da => ?_
        have D12 := D10.keep nsa nta nba x11 R11
        refine ⟨pt, _, _, rfl, rfl, D12.ht, small1000 (by omega), ?_⟩
        have tk12 : TK K H11 (upd H11 pt (.lst (lt ++ [.ref q2]))) := TK.lst D12.ht
        refine ⟨_, _, _, _, ls ++ [.ref q], lt ++ [.ref q2], rows ++ [ln], anss ++ [an], rfl, ⟨D12.x.mut npt, R.join D12.r (D12.x.mut npt) (upd_ne nta.symm), by rw [upd_ne nts.symm]; exact D12.hs, upd_same, by rw [upd_ne nbt]; exact D12.hb, paired_keep D12.ps_ tk12, Paired.snoc (paired_keep D12.pt_ tk12) ⟨q2, rfl, tk12 _ _ (SqT.of h11)⟩⟩,
          by rw [List.length_append, List.length_singleton, lr], by rw [List.length_append, List.length_singleton, la], fun r hr => ?_, fun r hr => ?_⟩
        · rcases List.mem_append.mp hr with hr | hr
          · exact ar r hr
          · rw [List.mem_singleton] at hr
            subst hr
            exact ⟨l8', a8⟩
        · rcases List.mem_append.mp hr with hr | hr
          · exact aa r hr
          · rw [List.mem_singleton] at hr
            subst hr
            exact ⟨dl, fun x hx => by have := da x hx; omega⟩
    · rintro σ' H' ⟨l9, l10, l11, l12, ls, lt, rows, anss, rfl, D, lr, la, ar, aa⟩
      have lr' : rows.length = n := by omega
      have la' : anss.length = n := by omega
      refine eu_tupL (ev_var rfl) (sq_of D.hs) _ (Ex.refl _) _ fun q1 H7 hq1 e7 h7 => ?_
      refine eu_tupL (ev_var rfl) (sq_of (e7 _ _ D.ht)) _ (Ex.refl _) _ fun q2 H8 hq2 e8 h8 => ⟨by show 2 ≤ sizeLine; decide, fun q3 hq3 => ?_⟩
      have e9 : Ex H8 (upd H8 q3 (.tup [.ref q1, .ref q2])) := Ex.new hq3
      have e79 := (e7.trans e8).trans e9
      have D9 := D.ex nsa nta nba e79
      have hk0 : (⟨rows, anss⟩ : M1.Mach).k = m := by
        show (rows.getD 0 []).length = m
        have g0 : rows[0]? = some (rows.getD 0 []) := M1.getD_at (by omega)
        exact (ar _ (List.mem_of_getElem? g0)).1
      refine k _ ⟨rows, anss⟩ _ ⟨by show 1 ≤ rows.length; omega, by show rows.length ≤ 6; omega, by rw [hk0]; omega, by rw [hk0]; omega, by show anss.length = rows.length; omega, fun r hr => ?_, fun r hr => ?_⟩ (by show rows.length ≤ s; omega) (by rw [hk0]; omega)
        ⟨q3, .ref q1, .ref q2, rfl, SqT.of upd_same, ⟨q1, ls, rfl, SqT.of ((e8.trans e9) _ _ h7), D9.ps_⟩, ⟨q2, lt, rfl, SqT.of (e9 _ _ h8), D9.pt_⟩⟩ D9.x D9.r
      · rw [hk0]
        refine ⟨(ar r hr).1, fun x hx => ?_⟩
        have := (ar r hr).2 x hx
        show x < rows.length
        omega
      · rw [hk0]
        exact aa r hr
end

end Kx
namespace Kx
open PySem PySem.Spec PyProof.Rows L2

open Evl
section
variable {P : Program} {w : World} {K : PySem.W.Frag} {mg : Str → Option Value} {base : Heap}
/-! ### data in the heap, kept -/
mutual
theorem dp_ex {H H' : Hp} (e : Ex H H') : ∀ (d : PyData) (v : V), Dp K H v d → Dp K H' v d
  | .none, _, h => by cases h; exact .non
  | .bool b, _, h => by cases h; exact .bl b
  | .int i, _, h => by cases h; exact .int i
  | .str x, _, h => by cases h; exact .str x
  | .list ds, _, h => by
    cases h with
    | lst h1 h2 => exact .lst (ex_l e h1) (dps_ex e ds _ h2)
  | .tuple ds, _, h => by
    cases h with
    | tup h1 h2 => exact .tup (ex_t e h1) (dps_ex e ds _ h2)
  | .dict _, _, h => by cases h
theorem dps_ex {H H' : Hp} (e : Ex H H') : ∀ (ds : List PyData) (vs : List V), DpAll K H vs ds → DpAll K H' vs ds
  | [], _, h => by cases h; exact .nil
  | d :: ds, _, h => by
    cases h with
    | cons h1 h2 => exact .cons (dp_ex e d _ h1) (dps_ex e ds _ h2)
end
theorem dps_len {H : Hp} : ∀ {ds : List PyData} {vs : List V}, DpAll K H vs ds → vs.length = ds.length
  | [], _, h => by cases h; rfl
  | _ :: ds, _, h => by
    cases h with
    | cons _ h2 => rw [List.length_cons, List.length_cons, dps_len h2]
theorem dps_get {H : Hp} : ∀ {ds : List PyData} {vs : List V} {i : Nat}, DpAll K H vs ds → i < ds.length → ∃ v d, vs[i]? = some v ∧ ds[i]? = some d ∧ Dp K H v d
  | [], _, _, _, hi => by simp at hi
  | d :: ds, _, i, h, hi => by
    cases h with
    | cons h1 h2 =>
      cases i with
      | zero => exact ⟨_, _, rfl, rfl, h1⟩
      | succ i =>
        obtain ⟨v, d', a, b, c⟩ := dps_get (i := i) h2 (by simpa using hi)
        exact ⟨v, d', by simpa using a, by simpa using b, c⟩
/-- data of a bounded depth -/
def Fine : Nat → PyData → Prop
  | _, .none | _, .bool _ | _, .int _ | _, .str _ => True
  | _, .dict _ => False
  | 0, .list _ | 0, .tuple _ => False
  | d + 1, .list xs | d + 1, .tuple xs => xs.length ≤ 40000 ∧ ∀ x ∈ xs, Fine d x
def sp_la (K : PySem.W.Frag) (n : Nat) : Sp := fun vs H Q _ => ∃ (x y : V) (d : PyData), vs = [x, y] ∧ Dp K H x d ∧ Dp K H y d ∧ Fine n d ∧ ∀ H2, Ex H H2 → Q (.bl true) H2
theorem kit_tl {T : String} {b1 b2 : Bool} (h1 : kitB T "tuple" = some b1) (h2 : kitB T "list" = some b2) : PySem.W.kitAny K (.type T) [.type "tuple", .type "list"] = some (b1 || b2) :=
  kitAny_cons (kit_ty h1) (fun e => by subst e; exact kitAny_cons (kit_ty h2) (fun e => by subst e; exact kitAny_nil) fun e => by subst e; rfl) fun e => by subst e; rfl
theorem ev_tl {ta : TE} {σ : L2.St} {H : Hp} {x : V} {T : String} {b1 b2 : Bool} (ha : Ev ta σ H x) (hy : ∀ H1, Ex H H1 → TyX K H1 x (.type T)) (h1 : kitB T "tuple" = some b1) (h2 : kitB T "list" = some b2) :
    Ev (tCB (rIsiT K) (tCons ta (tCons (tTup (tCons (tC (.ty "tuple")) (tCons (tC (.ty "list")) tNil))) tNil))) σ H (.bl (b1 || b2)) := fun H1 e Q q =>
  ha H1 e _ fun H2 e2 => ⟨by show 2 ≤ sizeLine; decide, fun p hp => ⟨x, p, _, _, _, _, rfl, upd_same, .cons (.ty _) (.cons (.ty _) .nil), hy _ ((e.trans e2).trans (Ex.new hp)), kit_tl h1 h2, q _ (e2.trans (Ex.new hp))⟩⟩
theorem ev_lenS {ta : TE} {σ : L2.St} {H : Hp} {p : Addr} {xs : List V} (ha : Ev ta σ H (.ref p)) (h : SqL K H p xs ∨ SqT K H p xs) : Ev (tCB (rLenS K) (tCons ta tNil)) σ H (.int (xs.length : Int)) := by
  rcases h with h | h
  · exact ev_len ha h
  · exact ev_lenT ha h
theorem rv_ixA {H : Hp} {p : Addr} {xs : List V} {i : Int} {v : V} (h : SqL K H p xs ∨ SqT K H p xs) (ha : atI xs i = some v) : RV (rIx K) (.ref p) (.int i) H v := fun H1 e Q q => by
  rcases h with h | h
  · exact .inl (rv_ixL h ha H1 e Q q)
  · exact .inr (.inl (rv_ixT h ha H1 e Q q))
theorem given_none {n : Nat} {v : Nat → V} : given n (fun _ => false) v = rowV [] := by
  unfold given
  rw [List.filter_eq_nil_iff.mpr (fun _ _ => by decide)]
  rfl
theorem alike_all (T : Txt K mg) {f : Addr} {fd : FuncData} (F : Fun K "_law_alike" "_law_alike" s_law_alike f fd) (g : mg "_law_alike" = some (.ref f)) (B : Binds K fd ["found", "due"] []) : ∀ n, Has P w K mg base "_law_alike" (n + 1) ["found", "due"] (sp_la K n) := by
  -- the scalars
  have tyI : ∀ (H : Hp) (i : Int), TyX K H (.int i) (.type "int") := fun _ _ => .base (.int _)
  have tyB : ∀ (H : Hp) (b : Bool), TyX K H (.bl b) (.type "bool") := fun _ _ => .base (.bl _)
  have tyN : ∀ (H : Hp), TyX K H .non (.type "NoneType") := fun _ => .base .non
  have tyS : ∀ (H : Hp) (z : Str), TyX K H (.str z) (.type "str") := fun _ _ => .base (.str _)
  have tail : ∀ (x : V) (d : PyData) (H : Hp) (Q : VK) (X : TS), (d = .none ∨ (∃ b, d = .bool b) ∨ (∃ i, d = .int i) ∨ ∃ z, d = .str z) → Dp K H x d → (∀ H2, Ex H H2 → Q (.bl true) H2) →
      tSeq (tIfS (tB (tCB (rIsiT K) (tCons (tVar 1) (tCons (tTup (tCons (tC (.ty "tuple")) (tCons (tC (.ty "list")) tNil))) tNil)))) X tNext)
        (tSeq (tIfS (tOr (tTest (tOp (fun x y H Q => y = .non ∧ Q (.bl (decide (x = .non))) H) (tVar 1) (tC .non))) (tB (tCB (rIsi K) (tCons (tVar 1) (tCons (tC (.ty "str")) tNil))))) (tRet (tAndV (tOp rEq (tVar 0) (tVar 1)) (tOp rEq (tCB (rIsi K) (tCons (tVar 0) (tCons (tC (.ty "str")) tNil))) (tCB (rIsi K) (tCons (tVar 1) (tCons (tC (.ty "str")) tNil)))))) tNext)
          (tRet (tAndV (tCB (rIsi K) (tCons (tVar 0) (tCons (tC (.ty "int")) tNil))) (tAndV (tOp rEq (tCB (rIsi K) (tCons (tVar 0) (tCons (tC (.ty "bool")) tNil))) (tCB (rIsi K) (tCons (tVar 1) (tCons (tC (.ty "bool")) tNil)))) (tOp rEq (tVar 0) (tVar 1))))))
        { nx := fun _ H' => Q .non H', rt := Q } [some x, some x, none] H := by
    intro x d H Q X hd hx q
    have isn : ∀ H1, Ev (tOp (fun x y H Q => y = .non ∧ Q (.bl (decide (x = .non))) H) (tVar 1) (tC .non)) [some x, some x, none] H1 (.bl (decide (x = .non))) := fun H1 => ev_op (ev_var rfl) ev_c fun H2 _ Q q => ⟨rfl, q H2 (Ex.refl H2)⟩
    rcases hd with rfl | ⟨b, rfl⟩ | ⟨i, rfl⟩ | ⟨z, rfl⟩
    · cases hx
      refine q_when (b := false) (et_B (ev_tl (T := "NoneType") (b1 := false) (b2 := false) (ev_var rfl) (fun _ _ => tyN _) (by decide +kernel) (by decide +kernel))) (fun z => by cases z) fun _ H1 e1 => ?_
      refine q_when (b := true) (et_is (et_or (b := true) (et_test (isn H1)) fun h => by cases h) rfl) (fun _ H2 e2 => ?_) (fun z => by cases z)
      exact s_ret (ev_is (ev_andV (a := true) (ev_is (ev_op (ev_var rfl) (ev_var rfl) (rv_eq rfl)) rfl) fun _ => ev_op (ev_isi (T := "NoneType") (b := false) (ev_var rfl) (fun _ _ => tyN _) (by decide +kernel)) (ev_isi (T := "NoneType") (b := false) (ev_var rfl) (fun _ _ => tyN _) (by decide +kernel)) (rv_eq rfl)) rfl) fun H3 e3 => q H3 ((e1.trans e2).trans e3)
    · cases hx
      refine q_when (b := false) (et_B (ev_tl (T := "bool") (b1 := false) (b2 := false) (ev_var rfl) (fun _ _ => tyB _ _) (by decide +kernel) (by decide +kernel))) (fun z => by cases z) fun _ H1 e1 => ?_
      refine q_when (b := false) (et_or (a := false) (b := false) (et_test (isn H1)) fun _ => et_B (ev_isi (T := "bool") (ev_var rfl) (fun _ _ => tyB _ _) (by decide +kernel))) (fun z => by cases z) fun _ H2 e2 => ?_
      exact s_ret (ev_is (ev_andV (a := true) (ev_isi (T := "bool") (ev_var rfl) (fun _ _ => tyB _ _) (by decide +kernel)) fun _ => ev_andV (ev_op (ev_isi (T := "bool") (b := true) (ev_var rfl) (fun _ _ => tyB _ _) (by decide +kernel)) (ev_isi (T := "bool") (b := true) (ev_var rfl) (fun _ _ => tyB _ _) (by decide +kernel)) (rv_eq rfl)) fun _ => ev_op (ev_var rfl) (ev_var rfl) (rv_eq rfl)) (by cases b <;> rfl)) fun H3 e3 => q H3 ((e1.trans e2).trans e3)
    · cases hx
      refine q_when (b := false) (et_B (ev_tl (T := "int") (b1 := false) (b2 := false) (ev_var rfl) (fun _ _ => tyI _ _) (by decide +kernel) (by decide +kernel))) (fun z => by cases z) fun _ H1 e1 => ?_
      refine q_when (b := false) (et_or (a := false) (b := false) (et_test (isn H1)) fun _ => et_B (ev_isi (T := "int") (ev_var rfl) (fun _ _ => tyI _ _) (by decide +kernel))) (fun z => by cases z) fun _ H2 e2 => ?_
      exact s_ret (ev_is (ev_andV (a := true) (ev_isi (T := "int") (ev_var rfl) (fun _ _ => tyI _ _) (by decide +kernel)) fun _ => ev_andV (ev_op (ev_isi (T := "int") (b := false) (ev_var rfl) (fun _ _ => tyI _ _) (by decide +kernel)) (ev_isi (T := "int") (b := false) (ev_var rfl) (fun _ _ => tyI _ _) (by decide +kernel)) (rv_eq rfl)) fun _ => ev_op (ev_var rfl) (ev_var rfl) (rv_eq rfl)) (by rw [decide_eq_true (rfl : V.int i = V.int i)]; rfl)) fun H3 e3 => q H3 ((e1.trans e2).trans e3)
    · cases hx
      refine q_when (b := false) (et_B (ev_tl (T := "str") (b1 := false) (b2 := false) (ev_var rfl) (fun _ _ => tyS _ _) (by decide +kernel) (by decide +kernel))) (fun z => by cases z) fun _ H1 e1 => ?_
      refine q_when (b := true) (et_is (et_or (a := false) (b := true) (et_test (isn H1)) fun _ => et_B (ev_isi (T := "str") (ev_var rfl) (fun _ _ => tyS _ _) (by decide +kernel))) rfl) (fun _ H2 e2 => ?_) (fun z => by cases z)
      exact s_ret (ev_is (ev_andV (ev_op (ev_var rfl) (ev_var rfl) (rv_eq rfl)) fun _ => ev_op (ev_isi (T := "str") (b := true) (ev_var rfl) (fun _ _ => tyS _ _) (by decide +kernel)) (ev_isi (T := "str") (b := true) (ev_var rfl) (fun _ _ => tyS _ _) (by decide +kernel)) (rv_eq rfl)) (by rw [decide_eq_true (rfl : V.str z = V.str z)]; rfl)) fun H3 e3 => q H3 ((e1.trans e2).trans e3)
  have same : ∀ (x y : V) (d : PyData) (H : Hp), (d = .none ∨ (∃ b, d = .bool b) ∨ (∃ i, d = .int i) ∨ ∃ z, d = .str z) → Dp K H x d → Dp K H y d → y = x := by
    intro x y d H hd hx hy
    rcases hd with rfl | ⟨b, rfl⟩ | ⟨i, rfl⟩ | ⟨z, rfl⟩ <;> (cases hx; cases hy; rfl)
  intro n
  induction n with
  | zero =>
    refine Has.mk' g F.kp B (F.ok sc_law_alike (fun vs H Q E h => ?_) (fun cdv A outer s H vs Q E hr h => ?_))
    · obtain ⟨x, y, d, rfl, _⟩ := h
      rfl
    · obtain ⟨x, y, d, rfl, hx, hy, hf, q⟩ := h
      have hd : d = .none ∨ (∃ b, d = .bool b) ∨ (∃ i, d = .int i) ∨ ∃ z, d = .str z := by
        cases d with
        | none => exact .inl rfl
        | bool b => exact .inr (.inl ⟨b, rfl⟩)
        | int i => exact .inr (.inr (.inl ⟨i, rfl⟩))
        | str z => exact .inr (.inr (.inr ⟨z, rfl⟩))
        | list xs => simp [Fine] at hf
        | tuple xs => simp [Fine] at hf
        | dict xs => simp [Fine] at hf
      have exy := same x y d H hd hx hy
      subst exy
      refine ⟨_, (pss_cons (ps_if (pt_val (pe_callB (call_isiTu (K := K) rfl) (by rfl) T.b_isinstance bt_isinstance (pa_cons (pv 1) (pa_cons (pe_tup (pa_cons (pe_bltn (v := .ty "tuple") (by rfl) T.b_tuple bt_tuple rfl) (pa_cons (pe_bltn (v := .ty "list") (by rfl) T.b_list bt_list rfl) pa_nil))) pa_nil))))
      pss_never
      pss_nil)
      (pss_cons (ps_if (PW.pt (pw_or (pt_cmpR op_isN (pv 1) pe_non (nomark _)) (pw_or1 (pt_val (pe_callB (call_isi1 (K := K) rfl) (by rfl) T.b_isinstance bt_isinstance (pa_cons (pv 1) (pa_cons (pe_bltn (v := .ty "str") (by rfl) T.b_str bt_str rfl) pa_nil)))))))
      (pss_one (ps_ret (pe_and (pe_cmpR op_eq (pv 0) (pv 1) (nomark _)) (pe_one (pe_cmpR op_eq (pe_callB (call_isi1 (K := K) rfl) (by rfl) T.b_isinstance bt_isinstance (pa_cons (pv 0) (pa_cons (pe_bltn (v := .ty "str") (by rfl) T.b_str bt_str rfl) pa_nil))) (pe_callB (call_isi1 (K := K) rfl) (by rfl) T.b_isinstance bt_isinstance (pa_cons (pv 1) (pa_cons (pe_bltn (v := .ty "str") (by rfl) T.b_str bt_str rfl) pa_nil))) (nomark _))))))
      pss_nil)
      (pss_one (ps_ret (pe_and (pe_callB (call_isi1 (K := K) rfl) (by rfl) T.b_isinstance bt_isinstance (pa_cons (pv 0) (pa_cons (pe_bltn (v := .ty "int") (by rfl) T.b_int bt_int rfl) pa_nil))) (pe_and (pe_cmpR op_eq (pe_callB (call_isi1 (K := K) rfl) (by rfl) T.b_isinstance bt_isinstance (pa_cons (pv 0) (pa_cons (pe_bltn (v := .ty "bool") (by rfl) T.b_bool bt_bool rfl) pa_nil))) (pe_callB (call_isi1 (K := K) rfl) (by rfl) T.b_isinstance bt_isinstance (pa_cons (pv 1) (pa_cons (pe_bltn (v := .ty "bool") (by rfl) T.b_bool bt_bool rfl) pa_nil))) (nomark _)) (pe_one (pe_cmpR op_eq (pv 0) (pv 1) (nomark _))))))))), ?_⟩
      exact tail y d H Q _ hd hx q
  | succ n ih =>
    have h_law_alike := ih
    refine Has.mk' g F.kp B (F.ok sc_law_alike (fun vs H Q E h => ?_) (fun cdv A outer s H vs Q E hr h => ?_))
    · obtain ⟨x, y, d, rfl, _⟩ := h
      rfl
    · obtain ⟨x, y, d, rfl, hx, hy, hf, q⟩ := h
      refine ⟨_, (pss_cons (ps_if (pt_val (pe_callB (call_isiTu (K := K) rfl) (by rfl) T.b_isinstance bt_isinstance (pa_cons (pv 1) (pa_cons (pe_tup (pa_cons (pe_bltn (v := .ty "tuple") (by rfl) T.b_tuple bt_tuple rfl) (pa_cons (pe_bltn (v := .ty "list") (by rfl) T.b_list bt_list rfl) pa_nil))) pa_nil))))
      (pss_cons (ps_if (PW.pt (pw_or (pt_not (pt_val (pe_callB (call_isiTu (K := K) rfl) (by rfl) T.b_isinstance bt_isinstance (pa_cons (pv 0) (pa_cons (pe_tup (pa_cons (pe_bltn (v := .ty "tuple") (by rfl) T.b_tuple bt_tuple rfl) (pa_cons (pe_bltn (v := .ty "list") (by rfl) T.b_list bt_list rfl) pa_nil))) pa_nil))))) (pw_or1 (pt_cmpR op_ne (pe_callB (call_isi1 (K := K) rfl) (by rfl) T.b_isinstance bt_isinstance (pa_cons (pv 0) (pa_cons (pe_bltn (v := .ty "list") (by rfl) T.b_list bt_list rfl) pa_nil))) (pe_callB (call_isi1 (K := K) rfl) (by rfl) T.b_isinstance bt_isinstance (pa_cons (pv 1) (pa_cons (pe_bltn (v := .ty "list") (by rfl) T.b_list bt_list rfl) pa_nil))) (nomark _)))))
      (pss_one (ps_ret pe_bl))
      pss_nil)
      (pss_cons (ps_if (pt_cmpR op_ne (pe_callB (call_lenK (K := K) rfl) (by rfl) T.b_len bt_len (pa_cons (pv 0) pa_nil)) (pe_callB (call_lenK (K := K) rfl) (by rfl) T.b_len bt_len (pa_cons (pv 1) pa_nil)) (nomark _))
      (pss_one (ps_ret pe_bl))
      pss_nil)
      (pss_one (ps_ret (pe_cmpR (op_eqDK (K := K) rfl hr.units) (pe_lc (own := [("k", 2)]) (g := gName 2) (by rfl) sc_law_alike.nd (pi_range1 (by rfl) T.b_range (pa_cons (pe_callB (call_lenK (K := K) rfl) (by rfl) T.b_len bt_len (pa_cons (pv 1) pa_nil)) pa_nil)) (blkOk_by (N := N_law_alike) (sc := defScope s_law_alike) (by decide +kernel)) (fun _ _ _ _ _ => pg_name (i := 2) sc_law_alike.nd rfl (Or.inl rfl)) (fun _ _ _ _ _ => pts_one (pt_not (pt_val (pe_has h_law_alike (hr.mono (by first | decide | exact Nat.le_refl _)) (by rfl) (pa_cons (pe_ix (ix_seqK (K := K) rfl) (pv 0) (pv 2) (fun _ _ => rfl)) (pa_cons (pe_ix (ix_seqK (K := K) rfl) (pv 1) (pv 2) (fun _ _ => rfl)) pa_nil)))))) (fun _ _ _ _ _ => (pv 2))) (pe_lst pa_nil) (nomark _))))))
      pss_nil)
      (pss_cons (ps_if (PW.pt (pw_or (pt_cmpR op_isN (pv 1) pe_non (nomark _)) (pw_or1 (pt_val (pe_callB (call_isi1 (K := K) rfl) (by rfl) T.b_isinstance bt_isinstance (pa_cons (pv 1) (pa_cons (pe_bltn (v := .ty "str") (by rfl) T.b_str bt_str rfl) pa_nil)))))))
      (pss_one (ps_ret (pe_and (pe_cmpR op_eq (pv 0) (pv 1) (nomark _)) (pe_one (pe_cmpR op_eq (pe_callB (call_isi1 (K := K) rfl) (by rfl) T.b_isinstance bt_isinstance (pa_cons (pv 0) (pa_cons (pe_bltn (v := .ty "str") (by rfl) T.b_str bt_str rfl) pa_nil))) (pe_callB (call_isi1 (K := K) rfl) (by rfl) T.b_isinstance bt_isinstance (pa_cons (pv 1) (pa_cons (pe_bltn (v := .ty "str") (by rfl) T.b_str bt_str rfl) pa_nil))) (nomark _))))))
      pss_nil)
      (pss_one (ps_ret (pe_and (pe_callB (call_isi1 (K := K) rfl) (by rfl) T.b_isinstance bt_isinstance (pa_cons (pv 0) (pa_cons (pe_bltn (v := .ty "int") (by rfl) T.b_int bt_int rfl) pa_nil))) (pe_and (pe_cmpR op_eq (pe_callB (call_isi1 (K := K) rfl) (by rfl) T.b_isinstance bt_isinstance (pa_cons (pv 0) (pa_cons (pe_bltn (v := .ty "bool") (by rfl) T.b_bool bt_bool rfl) pa_nil))) (pe_callB (call_isi1 (K := K) rfl) (by rfl) T.b_isinstance bt_isinstance (pa_cons (pv 1) (pa_cons (pe_bltn (v := .ty "bool") (by rfl) T.b_bool bt_bool rfl) pa_nil))) (nomark _)) (pe_one (pe_cmpR op_eq (pv 0) (pv 1) (nomark _))))))))), ?_⟩
      have seq : ∀ (H : Hp) (D : Ends) (p r : Addr) (xs ys : List V) (ds : List PyData) (T : String), x = .ref p → y = .ref r → (SqL K H p xs ∨ SqT K H p xs) → (SqL K H r ys ∨ SqT K H r ys) → DpAll K H xs ds → DpAll K H ys ds → (∀ H1, Ex H H1 → TyX K H1 (.ref p) (.type T)) → (∀ H1, Ex H H1 → TyX K H1 (.ref r) (.type T)) → (T = "list" ∨ T = "tuple") → ds.length ≤ 40000 → (∀ d ∈ ds, Fine n d) → (∀ H2, Ex H H2 → D.rt (.bl true) H2) →
          tSeq (tIfS (tOr (tNot (tB (tCB (rIsiT K) (tCons (tVar 0) (tCons (tTup (tCons (tC (.ty "tuple")) (tCons (tC (.ty "list")) tNil))) tNil))))) (tTest (tOp rNe (tCB (rIsi K) (tCons (tVar 0) (tCons (tC (.ty "list")) tNil))) (tCB (rIsi K) (tCons (tVar 1) (tCons (tC (.ty "list")) tNil)))))) (tRet (tC (.bl false))) tNext)
            (tSeq (tIfS (tTest (tOp rNe (tCB (rLenS K) (tCons (tVar 0) tNil)) (tCB (rLenS K) (tCons (tVar 1) tNil)))) (tRet (tC (.bl false))) tNext)
              (tRet (tOp (rEqD K) (tLc (iRng1 (tCons (tCB (rLenS K) (tCons (tVar 1) tNil)) tNil)) (gName 2) (tNot (tB (tCall (sp_la K n) [] E0 (tCons (tOp (rIx K) (tVar 0) (tVar 2)) (tCons (tOp (rIx K) (tVar 1) (tVar 2)) tNil))))) (tVar 2) [2]) (tLst tNil))))
            D [some x, some y, none] H := by
        intro H D p r xs ys ds T ex ey hp hr' dx dy tp tr hT hl hF q
        subst ex ey
        have lx := dps_len dx
        have ly := dps_len dy
        have tl : ∃ b1 b2 : Bool, kitB T "tuple" = some b1 ∧ kitB T "list" = some b2 ∧ (b1 || b2) = true := by
          rcases hT with rfl | rfl
          · exact ⟨false, true, by decide +kernel, by decide +kernel, rfl⟩
          · exact ⟨true, false, by decide +kernel, by decide +kernel, rfl⟩
        obtain ⟨b1, b2, k1, k2, kk⟩ := tl
        have keep : ∀ {a : Addr} {zs : List V} {H1 : Hp}, Ex H H1 → (SqL K H a zs ∨ SqT K H a zs) → (SqL K H1 a zs ∨ SqT K H1 a zs) := fun e h => by
          rcases h with h | h
          · exact .inl (ex_l e h)
          · exact .inr (ex_t e h)
        refine q_when (b := false) (et_is (et_or (a := false) (b := false) (et_is (et_not (et_B (ev_tl (ev_var rfl) tp k1 k2))) (by rw [kk]; rfl)) fun _ => et_test (ev_is (ev_op (ev_isi (ev_var rfl) tp k2) (ev_isi (ev_var rfl) tr k2) (rv_ne rfl)) (by cases b2 <;> rfl))) rfl) (fun z => by cases z) fun _ H1 e1 => ?_
        refine q_when (b := false) (et_test (ev_is (ev_op (ev_lenS (ev_var rfl) (keep e1 hp)) (ev_lenS (ev_var rfl) (keep e1 hr')) (rv_ne rfl)) (by rw [lx, ly, decide_eq_true (rfl : V.int (ds.length : Int) = V.int (ds.length : Int))]; rfl))) (fun z => by cases z) fun _ H2 e2 => ?_
        have e12 := e1.trans e2
        refine s_ret (ev_is (ev_opLL (xs := rowV []) (ys := rowV []) (fun H3 e3 Q q => ?_) (el_lst ea_nil (by decide)) fun p q H3 hp hq e3 => rv_eqRows (sq_of hp) (sq_of hq)) rfl) fun H3 e3 => q H3 (e12.trans e3)
        have big := el_lcR1 (σ := [some (V.ref p), some (V.ref r), none]) (H := H2) (ta := tCons (tCB (rLenS K) (tCons (tVar 1) tNil)) tNil) (t := tNot (tB (tCall (sp_la K n) [] E0 (tCons (tOp (rIx K) (tVar 0) (tVar 2)) (tCons (tOp (rIx K) (tVar 1) (tVar 2)) tNil))))) (te := tVar 2) (j := 2) (vs := [2]) (n := (ys.length : Int)) (fun _ => false) (fun _ => .non) (ea_cons (ev_lenS (ev_var rfl) (keep e12 hr')) ea_nil) ⟨by omega, by omega⟩ (fun _ => rfl)
          (fun i H4 e4 hi => ?_) (fun _ _ _ _ h => by cases h)
        · rw [given_none] at big
          exact big H3 e3 Q q
        · have hi' : i < ds.length := by omega
          obtain ⟨v1, d1, g1, gd1, hd1⟩ := dps_get dx hi'
          obtain ⟨v2, d2, g2, gd2, hd2⟩ := dps_get dy hi'
          have ed : d2 = d1 := by rw [gd1] at gd2; exact (Option.some.inj gd2).symm
          subst ed
          have e5 := e12.trans e4
          exact et_is (et_not (a := true) (et_B (ev_callV (ea_cons (ev_op (ev_var rfl) (ev_var rfl) (rv_ixA (keep e5 hp) (atI_nat g1))) (ea_cons (ev_op (ev_var rfl) (ev_var rfl) (rv_ixA (keep e5 hr') (atI_nat g2))) ea_nil)) fun H6 e6 Q q => ⟨v1, v2, d2, rfl, dp_ex (e5.trans e6) _ _ hd1, dp_ex (e5.trans e6) _ _ hd2, hF _ (List.mem_of_getElem? gd1), q⟩))) rfl
      cases d with
      | list ds =>
        cases hx with
        | lst hx1 hx2 =>
          cases hy with
          | lst hy1 hy2 =>
            exact q_when (b := true) (et_B (ev_tl (T := "list") (b1 := false) (b2 := true) (ev_var rfl) (fun _ e => sqL_ty (ex_l e hy1)) (by decide +kernel) (by decide +kernel))) (fun _ H1 e1 => seq H1 _ _ _ _ _ ds "list" rfl rfl (.inl (ex_l e1 hx1)) (.inl (ex_l e1 hy1)) (dps_ex e1 _ _ hx2) (dps_ex e1 _ _ hy2)
              (fun H2 e2 => sqL_ty (ex_l (e1.trans e2) hx1)) (fun H2 e2 => sqL_ty (ex_l (e1.trans e2) hy1)) (.inl rfl) hf.1 hf.2 fun H2 e2 => q H2 (e1.trans e2)) (fun z => by cases z)
      | tuple ds =>
        cases hx with
        | tup hx1 hx2 =>
          cases hy with
          | tup hy1 hy2 =>
            exact q_when (b := true) (et_B (ev_tl (T := "tuple") (b1 := true) (b2 := false) (ev_var rfl) (fun _ e => sqT_ty (ex_t e hy1)) (by decide +kernel) (by decide +kernel))) (fun _ H1 e1 => seq H1 _ _ _ _ _ ds "tuple" rfl rfl (.inr (ex_t e1 hx1)) (.inr (ex_t e1 hy1)) (dps_ex e1 _ _ hx2) (dps_ex e1 _ _ hy2)
              (fun H2 e2 => sqT_ty (ex_t (e1.trans e2) hx1)) (fun H2 e2 => sqT_ty (ex_t (e1.trans e2) hy1)) (.inr rfl) hf.1 hf.2 fun H2 e2 => q H2 (e1.trans e2)) (fun z => by cases z)
      | none =>
        have e := same x y _ H (.inl rfl) hx hy
        subst e
        exact tail _ _ H Q _ (.inl rfl) hx q
      | bool b =>
        have e := same x y _ H (.inr (.inl ⟨b, rfl⟩)) hx hy
        subst e
        exact tail _ _ H Q _ (.inr (.inl ⟨b, rfl⟩)) hx q
      | int i =>
        have e := same x y _ H (.inr (.inr (.inl ⟨i, rfl⟩))) hx hy
        subst e
        exact tail _ _ H Q _ (.inr (.inr (.inl ⟨i, rfl⟩))) hx q
      | str z =>
        have e := same x y _ H (.inr (.inr (.inr ⟨z, rfl⟩))) hx hy
        subst e
        exact tail _ _ H Q _ (.inr (.inr (.inr ⟨z, rfl⟩))) hx q
      | dict ds => simp [Fine] at hf
end

end Kx
namespace Kx
open PySem PySem.Spec PyProof.Rows L2

open Evl
section
variable {P : Program} {w : World} {K : PySem.W.Frag} {mg : Str → Option Value} {base : Heap}
theorem has_law_led (T : Txt K mg) {f : Addr} {fd : FuncData} (F : Fun K "_law_led" "_law_led" s_law_led f fd) (g : mg "_law_led" = some (.ref f)) (B : Binds K fd ["machine", "state", "word"] []) : Has P w K mg base "_law_led" 1 ["machine", "state", "word"] (sp_led K) := by
  refine Has.mk' g F.kp B (F.ok sc_law_led (fun vs H Q E h => ?_) (fun cdv A outer s H vs Q E hr h => ?_))
  · obtain ⟨v, M, i, b, r, rfl, _⟩ := h
    rfl
  · obtain ⟨v, M, i, b, r, rfl, ⟨a, x, y, rfl, hS, ⟨ax, vx, rfl, hSx, hPx⟩, hy⟩, ok, hi, hb, hk, k⟩ := h
    refine ⟨_, (pss_cons (ps_for PassesOwn.never rfl (pi_tupK (K := K) rfl (pv 2)) (pg_name (i := 3) sc_law_led.nd rfl (.inl rfl))
      (pss_one (ps_set (i := 1) sc_law_led.nd rfl (.inl rfl) (pe_ix (ix_tupK (K := K) rfl) (pe_ix (ix_tupK (K := K) rfl) (pe_ix (ix_tupK (K := K) rfl) (pv 0) pe_int (fun _ _ => rfl)) (pv 1) (fun _ _ => rfl)) (pv 3) (fun _ _ => rfl)))))
      (pss_one (ps_ret (pv 1)))), ?_⟩
    refine q_forT (ev_var rfl) hb (fun j σ' H' => ∃ l, σ' = [some (.ref a), some (.int (M.led i (r.take j) : Nat)), some (.ref b), l] ∧ Ex H H') (fun H1 e1 => ⟨none, rfl, e1⟩) (fun j σ' H' _ ⟨_, _, e⟩ => ex_t e hb) ?_ ?_
    · rintro j z σ' H' hz ⟨l, rfl, e⟩
      obtain ⟨c, hc, rfl⟩ := map_of hz
      have hlt : M.led i (r.take j) < M.st.length := M.led_lt ok hi fun x hx => hk x (List.mem_of_mem_take hx)
      have hcm := hk c (List.mem_of_getElem? hc)
      obtain ⟨ar, gr, hr1⟩ := tab_get hPx (M.row_at hlt)
      have hg := M.go_at ok hlt hcm
      refine s_asg (ev_op (ev_op (ev_op (ev_var rfl) ev_c (rv_ixT (ex_t e hS) (atI_nat (j := 0) rfl))) (ev_var rfl) (rv_ixT (ex_t e hSx) (atI_nat gr))) (ev_var rfl) (rv_ixT (ex_t e hr1) (atI_nat (rowV_at hg)))) fun H6 e8 => ?_
      refine ⟨some (nV c), ?_, e.trans e8⟩
      rw [M.led_take hc]
      rfl
    · rintro σ' H' ⟨l, rfl, e⟩
      rw [rowV_len, List.take_length]
      exact s_ret (ev_var rfl) fun H5 e6 => k H5 (e.trans e6)
theorem cut_row {r : List Nat} {j : Nat} (h : j ≤ r.length) : cutV (rowV r) none (some (j : Int)) = rowV (r.take j) := by
  unfold cutV
  rw [HT.sIx_none, HT.sIx_nat, rowV_len, Nat.min_eq_left h]
  unfold rowV
  rw [List.drop_zero, List.map_take]
  rfl
theorem has_law_told (T : Txt K mg) (h_law_led : Has P w K mg base "_law_led" 1 ["machine", "state", "word"] (sp_led K)) {f : Addr} {fd : FuncData} (F : Fun K "_law_told" "_law_told" s_law_told f fd) (g : mg "_law_told" = some (.ref f)) (B : Binds K fd ["machine", "state", "word"] []) :
    Has P w K mg base "_law_told" 2 ["machine", "state", "word"] (sp_told K) := by
  refine Has.mk' g F.kp B (F.ok sc_law_told (fun vs H Q E h => ?_) (fun cdv A outer s H vs Q E hr h => ?_))
  · obtain ⟨v, M, i, b, r, rfl, _⟩ := h
    rfl
  · obtain ⟨v, M, i, b, r, rfl, hM, ok, hi, hb, hl, hk, k⟩ := h
    obtain ⟨a, x, y, rfl, hS, hx, ⟨ay, vy, rfl, hSy, hPy⟩⟩ := id hM
    refine ⟨_, (pss_one (ps_ret (pe_callTy (call_tupleK (K := K) rfl) (by rfl) T.b_tuple bt_tuple (pa_cons (pe_lc (own := [("at", 3)]) (g := gName 3) (tt := tYes) (by rfl) sc_law_told.nd (pi_range1 (by rfl) T.b_range (pa_cons (pe_callB (call_lenK (K := K) rfl) (by rfl) T.b_len bt_len (pa_cons (pv 2) pa_nil)) pa_nil)) (blkOk_by (N := N_law_told) (sc := defScope s_law_told) (by decide +kernel)) (fun _ _ _ _ _ => pg_name (i := 3) sc_law_told.nd rfl (Or.inl rfl)) (fun _ _ _ _ _ => pts_nil) (fun _ _ _ _ _ => (pe_ix (ix_tupK (K := K) rfl) (pe_ix (ix_tupK (K := K) rfl) (pe_ix (ix_tupK (K := K) rfl) (pv 0) pe_int (fun _ _ => rfl)) (pe_has h_law_led (hr.mono (by first | decide | exact Nat.le_refl _)) (by rfl) (pa_cons (pv 0) (pa_cons (pv 1) (pa_cons (pe_slice (sl_tupK (K := K) rfl) (pv 2) po_none (po_some (pv 3))) pa_nil)))) (fun _ _ => rfl)) (pe_ix (ix_tupK (K := K) rfl) (pv 2) (pv 3) (fun _ _ => rfl)) (fun _ _ => rfl)))) pa_nil)))), ?_⟩
    have big := el_lcRv (σ := [some (V.ref a), some (V.int (i : Int)), some (V.ref b), none]) (H := H) (ta := tCons (tCB (rLenS K) (tCons (tVar 2) tNil)) tNil) (j := 3) (vs := [3]) (n := ((rowV r).length : Int)) (te := tOp (rIxT K) (tOp (rIxT K) (tOp (rIxT K) (tVar 0) (tC (.int 1))) (tCall (sp_led K) [] E0 (tCons (tVar 0) (tCons (tVar 1) (tCons (tSl (rSlT K) (tVar 2) tNoPart (tPart (tVar 3))) tNil))))) (tOp (rIxT K) (tVar 2) (tVar 3)))
      (fun j => nV (M.tld i r j)) (ea_cons (ev_lenT (ev_var rfl) hb) ea_nil) ⟨by omega, by rw [rowV_len]; omega⟩ (fun _ => rfl) (fun j H1 e1 hj => ?_)
    · refine s_retU (eu_tupN big) fun q H5 hq e5 h5 => k q H5 hq e5 ?_
      rw [h5, Int.toNat_natCast, rowV_len]
      rfl
    · have hj' : j < r.length := by rw [rowV_len] at hj; omega
      have hc : r[j]? = some (r.getD j 0) := M1.getD_at hj'
      have hlt : M.led i (r.take j) < M.st.length := M.led_lt ok hi fun x hx => hk x (List.mem_of_mem_take hx)
      obtain ⟨aa, ga, ha1⟩ := tab_get hPy (M.ans_at ok hlt)
      have ho := M.out_at ok hlt (hk _ (List.mem_of_getElem? hc))
      refine ev_op (x := .ref aa) (y := nV (r.getD j 0)) (ev_op (x := .ref ay) (y := nV (M.led i (r.take j))) (ev_op (ev_var rfl) ev_c (rv_ixT (ex_t e1 hS) (atI_nat (j := 1) rfl))) (fun H2 e2 Q q => ?_) (rv_ixT (ex_t e1 hSy) (atI_nat ga))) (ev_op (ev_var rfl) (ev_var rfl) (rv_ixT (ex_t e1 hb) (atI_nat (rowV_at hc)))) (rv_ixT (ex_t e1 ha1) (atI_nat (rowV_at ho)))
      have e12 := e1.trans e2
      refine ⟨.ref a, rfl, .int (i : Int), rfl, .ref b, rfl, .int (j : Int), rfl, _, rfl, b, rowV r, rfl, ex_t e12 hb, ?_, fun p hp => ?_⟩
      · rintro ⟨_, z⟩
        rw [HT.sIx_nat, rowV_len] at z
        omega
      · have e13 := e12.trans (Ex.new (o := .tup (cutV (rowV r) none (some (j : Int)))) hp)
        exact ⟨.ref a, M, i, p, r.take j, rfl, hM.keep (TK.ex e13), ok, hi, SqT.of (by rw [upd_same, cut_row (by omega)]), fun x hx => hk x (List.mem_of_mem_take hx), fun H3 e3 => q H3 ((Ex.new hp).trans e3)⟩
end

end Kx
namespace Kx
open PySem PySem.Spec PyProof.Rows L2

open Evl
section
variable {P : Program} {w : World} {K : PySem.W.Frag} {mg : Str → Option Value} {base : Heap}
/-! ### the table of pairs -/
def tabV (ps : List (Nat × Nat)) : List (List Key × V) := ps.map fun p => ([Sum.inl (p.1 : Int), Sum.inl (p.2 : Int)], V.bl true)
theorem key_eq {p q : Nat × Nat} : ([Sum.inl (p.1 : Int), Sum.inl (p.2 : Int)] : List Key) = [Sum.inl (q.1 : Int), Sum.inl (q.2 : Int)] ↔ p = q := by
  constructor
  · intro h
    injection h with h1 h2
    injection h2 with h2 _
    injection h1 with h1
    injection h2 with h2
    exact Prod.ext (Int.ofNat_inj.mp h1) (Int.ofNat_inj.mp h2)
  · intro h
    rw [h]
theorem tab_val : ∀ (ps : List (Nat × Nat)) (p : Nat × Nat), valV (tabV ps) [Sum.inl (p.1 : Int), Sum.inl (p.2 : Int)] = if p ∈ ps then some (.bl true) else none
  | [], p => rfl
  | q :: ps, p => by
    have ih := tab_val ps p
    show valV (([Sum.inl (q.1 : Int), Sum.inl (q.2 : Int)], V.bl true) :: tabV ps) _ = _
    by_cases h : q = p
    · subst h
      rw [valV_pos rfl, if_pos List.mem_cons_self]
    · rw [valV_neg (fun z => h (key_eq.mp z)), ih]
      by_cases hm : p ∈ ps
      · rw [if_pos hm, if_pos (List.mem_cons_of_mem _ hm)]
      · rw [if_neg hm, if_neg fun z => by
          rcases List.mem_cons.mp z with z | z
          · exact h z.symm
          · exact hm z]
theorem tab_put (ps : List (Nat × Nat)) (p : Nat × Nat) : putK (tabV ps) [Sum.inl (p.1 : Int), Sum.inl (p.2 : Int)] (.bl true) = tabV (M1.addP ps p) := by
  unfold M1.addP
  by_cases hm : p ∈ ps
  · rw [if_pos hm]
    unfold putK
    rw [valV_any, tab_val, if_pos hm]
    rw [if_pos (by rfl)]
    unfold tabV
    rw [List.map_map]
    refine List.map_congr_left fun q _ => ?_
    show (if ([Sum.inl (q.1 : Int), Sum.inl (q.2 : Int)] : List Key) = [Sum.inl (p.1 : Int), Sum.inl (p.2 : Int)] then _ else _) = _
    split <;> rfl
  · rw [if_neg hm, putK_new _ (by rw [tab_val, if_neg hm])]
    unfold tabV
    rw [List.map_append]
    rfl
theorem tabV_len (ps : List (Nat × Nat)) : (tabV ps).length = ps.length := by unfold tabV; rw [List.length_map]
/-- (i, j) is asked of the table at f -/
theorem dget_pair {H : Hp} {f t : Addr} {ps : List (Nat × Nat)} {i j : Nat} (hf : H f = some (.dT (tabV ps))) (ht : H t = some (.tup [.int (i : Int), .int (j : Int)])) : DGet H f (.ref t) (if (i, j) ∈ ps then some (.bl true) else none) := by
  rw [← tab_val ps (i, j)]
  exact DGet.t hf ht
theorem isSome_ite {c : Prop} [Decidable c] {v : V} : (if c then some v else none : Option V).isSome = decide c := by
  by_cases h : c
  · rw [if_pos h, decide_eq_true h]; rfl
  · rw [if_neg h, decide_eq_false h]; rfl
theorem ev_ne_rows {ta tb : TE} {σ : L2.St} {H : Hp} {p q : Addr} {r s : List Nat} (ha : Ev ta σ H (.ref p)) (hb : Ev tb σ H (.ref q)) (hp : SqT K H p (rowV r)) (hq : SqT K H q (rowV s)) : Ev (tOp (rNeD K) ta tb) σ H (.bl (!decide (r = s))) :=
  ev_op ha hb fun H1 e Q k => ⟨.tuple (rowD r), .tuple (rowD s), .tup (ex_t e hp) (dp_row r), .tup (ex_t e hq) (dp_row s), by
    unfold SeqAt.shaped
    simp only [PyData.canLay0, PyData.depth, canLay_row, depth_row]
    decide, by
    unfold SeqAt.shaped
    simp only [PyData.canLay0, PyData.depth, canLay_row, depth_row]
    decide, by
    rw [show PyData.eqv (.tuple (rowD r)) (.tuple (rowD s)) = decide (r = s) by rw [PyData.eqv]; exact eqv_rows r s]
    exact k H1 (Ex.refl H1)⟩
theorem rv_neRows {H : Hp} {p q : Addr} {r s : List Nat} (hp : SqL K H p (rowV r)) (hq : SqL K H q (rowV s)) : Evl.RV (rNeD K) (.ref p) (.ref q) H (.bl (!decide (r = s))) := fun H1 e Q k =>
  ⟨_, _, .lst (ex_l e hp) (dp_row r), .lst (ex_l e hq) (dp_row s), shaped_rowL r, shaped_rowL s, by
    rw [show PyData.eqv (.list (rowD r)) (.list (rowD s)) = decide (r = s) by rw [PyData.eqv]; exact eqv_rows r s]
    exact k H1 (Ex.refl H1)⟩
def sp_unlike (K : PySem.W.Frag) : Sp := fun vs H Q _ => ∃ (v : V) (M : M1.Mach), vs = [v] ∧ MacAt K H v M.st M.an ∧ M.Ok ∧ ∀ p H2 ps, H p = none → Ex H H2 → H2 p = some (.dT (tabV ps)) → M.Turns (M.st.length * M.st.length + 1) ps → Q (.ref p) H2
theorem tab_small {M : M1.Mach} (ok : M.Ok) {ps : List (Nat × Nat)} (h : M.Tab ps) : ps.length ≤ 36 := by
  have h1 := M1.nodup_le h.nd (m := M1.pairsN M.st.length) fun p hp => M1.mem_pairsN.mpr (h.lt p hp)
  rw [M1.pairsN_len] at h1
  have n6 := ok.n6
  have : M.st.length * M.st.length ≤ 6 * 6 := Nat.mul_le_mul n6 n6
  omega
theorem given_rows (n : Nat) (f : Nat → Bool) : given n f (fun i => nV i) = rowV ((List.range n).filter f) := rfl
theorem has_law_unlike (T : Txt K mg) {f : Addr} {fd : FuncData} (F : Fun K "_law_unlike" "_law_unlike" s_law_unlike f fd) (g : mg "_law_unlike" = some (.ref f)) (B : Binds K fd ["machine"] []) : Has P w K mg base "_law_unlike" 1 ["machine"] (sp_unlike K) := by
  refine Has.mk' g F.kp B (F.ok sc_law_unlike (fun vs H Q E h => ?_) (fun cdv A outer s H vs Q E hr h => ?_))
  · obtain ⟨v, M, rfl, _⟩ := h
    rfl
  · obtain ⟨v, M, rfl, ⟨a, x, y, rfl, hS, ⟨ax, vx, rfl, hSx, hPx⟩, ⟨ay, vy, rfl, hSy, hPy⟩⟩, ok, k⟩ := h
    have hvx : vx.length = M.st.length := Paired.length hPx
    have n6 := ok.n6
    have k3 := ok.k3
    obtain ⟨r0, hr0⟩ := row0 ok
    obtain ⟨a0, g0, hS0⟩ := tab_get hPx r0
    refine ⟨_, (pss_cons (ps_asg (pe_tup (pa_cons (pe_callB (call_lenK (K := K) rfl) (by rfl) T.b_len bt_len (pa_cons (pe_ix (ix_tupK (K := K) rfl) (pv 0) pe_int (fun _ _ => rfl)) pa_nil)) (pa_cons pe_dnewT pa_nil))) (pg_tupK (K := K) (n := 2) rfl (by rfl) (pgs_cons (pg_name (i := 1) sc_law_unlike.nd rfl (.inl rfl)) (pgs_cons (pg_name (i := 2) sc_law_unlike.nd rfl (.inr rfl)) pgs_nil))))
      (pss_cons (ps_for PassesOwn.never rfl (pi_range1 (by rfl) T.b_range (pa_cons (pe_op op_add (pe_op op_mul (pv 1) (pv 1)) pe_int) pa_nil)) (pg_name (i := 3) sc_law_unlike.nd rfl (.inl rfl))
      (pss_one (ps_for PassesOwn.never rfl (pi_range1 (by rfl) T.b_range (pa_cons (pv 1) pa_nil)) (pg_name (i := 4) sc_law_unlike.nd rfl (.inr rfl))
      (pss_one (ps_for PassesOwn.never rfl (pi_range1 (by rfl) T.b_range (pa_cons (pv 1) pa_nil)) (pg_name (i := 5) sc_law_unlike.nd rfl (.inr rfl))
      (pss_cons (ps_setLc (i := 6) (own := [("letter", 7)]) (g := gName 7) (by rfl) sc_law_unlike.nd rfl rfl (sw_true rfl rfl rfl (by decide +kernel)) (pi_range1 (by rfl) T.b_range (pa_cons (pe_callB (call_lenK (K := K) rfl) (by rfl) T.b_len bt_len (pa_cons (pe_ix (ix_tupK (K := K) rfl) (pe_ix (ix_tupK (K := K) rfl) (pv 0) pe_int (fun _ _ => rfl)) pe_int (fun _ _ => rfl)) pa_nil)) pa_nil)) (blkOk_by (N := N_law_unlike) (sc := defScope s_law_unlike) (by decide +kernel)) (fun _ _ _ _ _ => pg_name (i := 7) sc_law_unlike.nd rfl (Or.inl rfl)) (fun _ _ _ _ _ => pts_one (pt_cmp (pc_din (hu_of hr) (pe_tup (pa_cons (pe_ix (ix_tupK (K := K) rfl) (pe_ix (ix_tupK (K := K) rfl) (pe_ix (ix_tupK (K := K) rfl) (pv 0) pe_int (fun _ _ => rfl)) (pv 4) (fun _ _ => rfl)) (pv 7) (fun _ _ => rfl)) (pa_cons (pe_ix (ix_tupK (K := K) rfl) (pe_ix (ix_tupK (K := K) rfl) (pe_ix (ix_tupK (K := K) rfl) (pv 0) pe_int (fun _ _ => rfl)) (pv 5) (fun _ _ => rfl)) (pv 7) (fun _ _ => rfl)) pa_nil))) (pv 2)))) (fun _ _ _ _ _ => (pv 7)))
      (pss_one (ps_if (PW.pt (pw_or (pt_cmpR (op_neDK (K := K) rfl hr.units) (pe_ix (ix_tupK (K := K) rfl) (pe_ix (ix_tupK (K := K) rfl) (pv 0) pe_int (fun _ _ => rfl)) (pv 4) (fun _ _ => rfl)) (pe_ix (ix_tupK (K := K) rfl) (pe_ix (ix_tupK (K := K) rfl) (pv 0) pe_int (fun _ _ => rfl)) (pv 5) (fun _ _ => rfl)) (nomark _)) (pw_or1 (pt_cmpR (op_neDK (K := K) rfl hr.units) (pv 6) (pe_lst pa_nil) (nomark _)))))
      (pss_one (ps_dput (hu_of hr) (pv 2) (pe_tup (pa_cons (pv 4) (pa_cons (pv 5) pa_nil))) pe_bl rfl))
      pss_nil))))))))
      (pss_one (ps_ret (pv 2))))), ?_⟩
    refine ⟨.ref a, rfl, a, _, 0, .ref ax, rfl, rfl, hS, atI_nat (j := 0) rfl, ax, vx, rfl, .inr hSx, fun f hf => ⟨by show 2 ≤ sizeLine; decide, fun t0 ht0 => ⟨t0, _, rfl, SqT.of upd_same, rfl, _, _, rfl, _, _, rfl, rfl, ?_⟩⟩⟩
    rw [hvx]
    obtain ⟨n, hn⟩ : ∃ n, n = M.st.length := ⟨_, rfl⟩
    rw [← hn]
    have e0 : Ex H (upd (upd H f (.dT [])) t0 (.tup [.int (n : Int), .ref f])) := (Ex.new hf).trans (Ex.new ht0)
    have nft : f ≠ t0 := fun z => by subst z; rw [upd_same] at ht0; cases ht0
    have hf0 : (upd (upd H f (.dT [])) t0 (.tup [.int (n : Int), .ref f])) f = some (.dT (tabV [])) := by rw [upd_ne nft, upd_same]; rfl
    have hN : n * n ≤ 36 := by
      have : n * n ≤ 6 * 6 := Nat.mul_le_mul (by omega) (by omega)
      omega
    refine q_forR1 (n := ((n * n + 1 : Nat) : Int)) (ea_cons (ev_is (ev_op (ev_op (ev_var rfl) (ev_var rfl) (rv_I (C := CMul) (.inl ⟨by omega, by omega⟩))) ev_c rv_I0) (by rw [Int.natCast_add, Int.natCast_mul]; rfl)) ea_nil) ⟨by omega, by omega⟩
      (fun t σ' H' => ∃ l3 l4 l5 l6 ps, σ' = [some (.ref a), some (.int (n : Int)), some (.ref f), l3, l4, l5, l6, none] ∧ Ex H H' ∧ H' f = some (.dT (tabV ps)) ∧ M.Turns t ps) (fun H1 e1 => ⟨none, none, none, none, [], rfl, e0.trans e1, e1 _ _ hf0, M1.Mach.Tab.nil, .inr (Nat.le_refl _)⟩) ?_ ?_
    · rintro t σ' H1 ht ⟨l3, l4, l5, l6, ps, rfl, e1, hf1, Tn⟩
      refine s_forR1 (D := { nx := _, rt := _, bk := _, ct := _ }) (n := (n : Int)) (ea_cons (ev_var rfl) ea_nil) ⟨by omega, by omega⟩
        (fun i σ' H' => ∃ l4 l5 l6 qs, σ' = [some (.ref a), some (.int (n : Int)), some (.ref f), some (.int (t : Int)), l4, l5, l6, none] ∧ Ex H H' ∧ H' f = some (.dT (tabV qs)) ∧ M.In ps i 0 qs) (fun H2 e2 => ⟨l4, l5, l6, ps, rfl, e1.trans e2, e2 _ _ hf1, M1.Mach.In.first Tn⟩) ?_ ?_
      · rintro i σ' H2 hi ⟨m4, m5, m6, qs, rfl, e2, hf2, I2⟩
        have hil : i < M.st.length := by omega
        obtain ⟨ai, gi, hSi⟩ := tab_get hPx (M.row_at hil)
        obtain ⟨bi, gbi, hBi⟩ := tab_get hPy (M.ans_at ok hil)
        refine s_forR1 (D := { nx := _, rt := _, bk := _, ct := _ }) (n := (n : Int)) (ea_cons (ev_var rfl) ea_nil) ⟨by omega, by omega⟩
          (fun j σ' H' => ∃ l5 l6 qs, σ' = [some (.ref a), some (.int (n : Int)), some (.ref f), some (.int (t : Int)), some (.int (i : Int)), l5, l6, none] ∧ Ex H H' ∧ H' f = some (.dT (tabV qs)) ∧ M.In ps i j qs) (fun H3 e3 => ⟨m5, m6, qs, rfl, e2.trans e3, e3 _ _ hf2, I2⟩) ?_ ?_
        · rintro j σ' H3 hj ⟨o5, o6, rs, rfl, e3, hf3, I3⟩
          have hjl : j < M.st.length := by omega
          obtain ⟨aj, gj, hSj⟩ := tab_get hPx (M.row_at hjl)
          obtain ⟨bj, gbj, hBj⟩ := tab_get hPy (M.ans_at ok hjl)
          have small := tab_small ok I3.1
          have big := el_lcR1 (σ := [some (V.ref a), some (V.int (n : Int)), some (V.ref f), some (V.int (t : Int)), some (V.int (i : Int)), some (V.int (j : Int)), o6, none]) (H := H3) (ta := tCons (tCB (rLenS K) (tCons (tOp (rIxT K) (tOp (rIxT K) (tVar 0) (tC (.int 0))) (tC (.int 0))) tNil)) tNil) (j := 7) (vs := [7]) (n := ((rowV (M.row 0)).length : Int)) (te := tVar 7)
            (t := tB (tDIn (tTup (tCons (tOp (rIxT K) (tOp (rIxT K) (tOp (rIxT K) (tVar 0) (tC (.int 0))) (tVar 4)) (tVar 7)) (tCons (tOp (rIxT K) (tOp (rIxT K) (tOp (rIxT K) (tVar 0) (tC (.int 0))) (tVar 5)) (tVar 7)) tNil))) (tVar 2)))
            (fun l => decide ((M.go i l, M.go j l) ∈ rs)) (fun l => nV l) (ea_cons (ev_lenT (ev_op (ev_op (ev_var rfl) ev_c (rv_ixT (ex_t e3 hS) (atI_nat (j := 0) rfl))) ev_c (rv_ixT (ex_t e3 hSx) (atI_nat (j := 0) g0))) (ex_t e3 hS0)) ea_nil) ⟨by omega, by rw [rowV_len]; omega⟩ (fun _ => rfl) (fun l H4 e4 hl => ?_) (fun l H4 e4 hl _ => ev_var rfl)
          · refine q_asgL big fun p6 H5 hp6 e5 h6 => ?_
            rw [Int.toNat_natCast, rowV_len, hr0, given_rows] at h6
            have e35 := e3.trans e5
            have hf5 := e5 _ _ hf3
            refine s_when (et_or (et_test (ev_ne_rows (ev_op (ev_op (ev_var rfl) ev_c (rv_ixT (ex_t e35 hS) (atI_nat (j := 1) rfl))) (ev_var rfl) (rv_ixT (ex_t e35 hSy) (atI_nat gbi))) (ev_op (ev_op (ev_var rfl) ev_c (rv_ixT (ex_t e35 hS) (atI_nat (j := 1) rfl))) (ev_var rfl) (rv_ixT (ex_t e35 hSy) (atI_nat gbj))) (ex_t e35 hBi) (ex_t e35 hBj))) fun _ =>
              et_test (ev_opL (xs := rowV []) (ev_var rfl) (el_lst ea_nil (by decide)) fun p H6 hp e6 => rv_neRows (sq_of (e6 _ _ h6)) (sq_of hp))) (fun b H6 e6 => ?_) (fun b H6 e6 => ?_)
            · have u : M.unl rs (i, j) := by
                rcases Bool.or_eq_true_iff.mp b with b | b
                · exact .inl (by simpa using b)
                · refine .inr ?_
                  have hne : (List.range M.k).filter (fun l => decide ((M.go i l, M.go j l) ∈ rs)) ≠ [] := by simpa using b
                  obtain ⟨l, hl⟩ := List.exists_mem_of_ne_nil _ hne
                  obtain ⟨h1, h2⟩ := List.mem_filter.mp hl
                  exact ⟨l, List.mem_range.mp h1, of_decide_eq_true h2⟩
              have hf6 := e6 _ _ hf5
              refine ⟨.ref f, rfl, .int (i : Int), rfl, .int (j : Int), rfl, by show 2 ≤ sizeLine; decide, fun q hq => ⟨f, _, rfl, DPut.t (k := [Sum.inl (i : Int), Sum.inl (j : Int)]) ((Ex.new hq) _ _ hf6) upd_same (by rw [tabV_len]; exact small1000 (by omega)), ?_⟩⟩
              rw [tab_put rs (i, j)]
              exact ⟨_, _, M1.addP rs (i, j), rfl, Ex.mut ((e35.trans e6).trans (Ex.new hq)) hf, upd_same, I3.add hil hjl u⟩
            · have u : ¬ M.unl rs (i, j) := by
                obtain ⟨b1, b2⟩ := Bool.or_eq_false_iff.mp b
                have c1 : M.ans i = M.ans j := by simpa using b1
                have c2 : (List.range M.k).filter (fun l => decide ((M.go i l, M.go j l) ∈ rs)) = [] := by simpa using b2
                rintro (u | ⟨l, hl, u⟩)
                · exact u c1
                · have := List.filter_eq_nil_iff.mp c2 l (List.mem_range.mpr hl)
                  exact this (decide_eq_true u)
              exact ⟨_, _, rs, rfl, e35.trans e6, e6 _ _ hf5, I3.skip u⟩
          · have hlk : l < M.k := by rw [rowV_len, hr0] at hl; omega
            have e34 := e3.trans e4
            intro H5 e5 Q q
            have e35 := e34.trans e5
            refine ⟨.ref a, rfl, a, _, 0, .ref ax, rfl, rfl, ex_t e35 hS, atI_nat (j := 0) rfl, .int (i : Int), rfl, ax, vx, _, _, rfl, rfl, ex_t e35 hSx, atI_nat gi, .int (l : Int), rfl, ai, _, _, _, rfl, rfl, ex_t e35 hSi, atI_nat (rowV_at (M.go_at ok hil hlk)),
              .ref a, rfl, a, _, 0, .ref ax, rfl, rfl, ex_t e35 hS, atI_nat (j := 0) rfl, .int (j : Int), rfl, ax, vx, _, _, rfl, rfl, ex_t e35 hSx, atI_nat gj, .int (l : Int), rfl, aj, _, _, _, rfl, rfl, ex_t e35 hSj, atI_nat (rowV_at (M.go_at ok hjl hlk)), by show 2 ≤ sizeLine; decide, fun t1 ht1 => ⟨.ref f, rfl, f, _, rfl, dget_pair (i := M.go i l) (j := M.go j l) ((Ex.new ht1) _ _ ((e4.trans e5) _ _ hf3)) upd_same, _, rfl, ?_⟩⟩
            rw [isSome_ite]
            exact q _ (Ex.new ht1)
        · rintro σ' H3 ⟨o5, o6, rs, rfl, e3, hf3, I3⟩
          rw [Int.toNat_natCast, hn] at I3
          exact ⟨_, _, _, rs, rfl, e3, hf3, I3.row⟩
      · rintro σ' H2 ⟨m4, m5, m6, qs, rfl, e2, hf2, I2⟩
        rw [Int.toNat_natCast, hn] at I2
        exact ⟨_, _, _, _, qs, rfl, e2, hf2, M1.Mach.In.turn ok Tn I2⟩
    · rintro σ' H1 ⟨l3, l4, l5, l6, ps, rfl, e1, hf1, Tn⟩
      rw [Int.toNat_natCast, hn] at Tn
      exact s_ret (ev_var rfl) fun H2 e2 => k f H2 ps hf (e1.trans e2) (e2 _ _ hf1) Tn
end

end Kx
namespace Kx
open PySem PySem.Spec PyProof.Rows L2

open Evl
section
variable {P : Program} {w : World} {K : PySem.W.Frag} {mg : Str → Option Value} {base : Heap}
theorem has_law_alike (T : Txt K mg) {f : Addr} {fd : FuncData} (F : Fun K "_law_alike" "_law_alike" s_law_alike f fd) (g : mg "_law_alike" = some (.ref f)) (B : Binds K fd ["found", "due"] []) : Has P w K mg base "_law_alike" 4 ["found", "due"] (sp_la K 3) := alike_all T F g B 3
/-! ### data -/
def rowP (r : List Nat) : PyData := .tuple (rowD r)
def macP (M : M1.Mach) : PyData := .tuple [.tuple (M.st.map rowP), .tuple (M.an.map rowP)]
theorem dp_tab {H : Hp} : ∀ {vx : List V} {t : List (List Nat)}, Paired (RowAt K H) vx t → DpAll K H vx (t.map rowP)
  | _, _, .nil => .nil
  | _, _, .cons ⟨a, e, hS⟩ t => .cons (by rw [e]; exact .tup hS (dp_row _)) (dp_tab t)
theorem dp_mac {H : Hp} {v : V} {M : M1.Mach} (h : MacAt K H v M.st M.an) : Dp K H v (macP M) := by
  obtain ⟨a, x, y, rfl, hS, ⟨ax, vx, rfl, hSx, hPx⟩, ⟨ay, vy, rfl, hSy, hPy⟩⟩ := h
  exact .tup hS (.cons (.tup hSx (dp_tab hPx)) (.cons (.tup hSy (dp_tab hPy)) .nil))
theorem fine_int (n : Nat) (i : Int) : Fine n (.int i) := by cases n <;> trivial
theorem fine_row {n : Nat} {r : List Nat} (h : r.length ≤ 40000) : Fine (n + 1) (rowP r) := by
  refine ⟨by unfold rowD; rw [List.length_map]; exact h, fun x hx => ?_⟩
  obtain ⟨i, _, rfl⟩ := List.mem_map.mp hx
  exact fine_int n _
theorem fine_tab {n : Nat} {t : List (List Nat)} (h : t.length ≤ 40000) (hr : ∀ r ∈ t, r.length ≤ 40000) : Fine (n + 2) (.tuple (t.map rowP)) := by
  refine ⟨by rw [List.length_map]; exact h, fun x hx => ?_⟩
  obtain ⟨r, hm, rfl⟩ := List.mem_map.mp hx
  exact fine_row (hr r hm)
theorem fine_mac {M : M1.Mach} (h1 : M.st.length ≤ 40000) (h2 : M.an.length ≤ 40000) (h3 : ∀ r ∈ M.st, r.length ≤ 40000) (h4 : ∀ r ∈ M.an, r.length ≤ 40000) : Fine 3 (macP M) := by
  refine ⟨by show 2 ≤ 40000; decide, fun x hx => ?_⟩
  rcases List.mem_cons.mp hx with e | hx
  · subst e
    exact fine_tab (n := 0) h1 h3
  · rcases List.mem_cons.mp hx with e | hx
    · subst e
      exact fine_tab (n := 0) h2 h4
    · simp at hx
/-! ### lists that a comprehension gives -/
theorem given_map {o : List Nat} {f : Nat → Bool} : given o.length f (fun i => nV (o.getD i 0)) = rowV (((List.range o.length).filter f).map fun i => o.getD i 0) := by
  unfold given rowV
  rw [List.map_map]
  rfl
theorem none_iff {o : List Nat} {p : Nat → Bool} : (((List.range o.length).filter fun i => p (o.getD i 0)).map fun i => o.getD i 0) = [] ↔ o.any p = false := by
  rw [List.map_eq_nil_iff, List.filter_eq_nil_iff]
  constructor
  · intro h
    rw [List.any_eq_false]
    intro x hx
    obtain ⟨i, hi, e⟩ := List.getElem_of_mem hx
    have q := h i (List.mem_range.mpr hi)
    rw [M1.getD_of (List.getElem?_eq_getElem hi), e] at q
    exact q
  · intro h i hi
    have hi' := List.mem_range.mp hi
    rw [List.any_eq_false] at h
    rw [M1.getD_of (List.getElem?_eq_getElem hi')]
    exact h _ (List.getElem_mem hi')
theorem first_of {o : List Nat} {p : Nat → Bool} (h : ∃ x ∈ o, p x = true) : ((List.range o.length).filter fun i => p (o.getD i 0))[0]? = some (o.findIdx p) := by
  have hl := List.findIdx_lt_length_of_exists h
  rw [← List.head?_eq_getElem?, List.head?_filter, List.find?_range_eq_some]
  refine ⟨?_, List.mem_range.mpr hl, fun j hj => ?_⟩
  · rw [M1.getD_of (List.getElem?_eq_getElem hl)]
    exact List.findIdx_getElem (w := hl)
  · have hj' : j < o.length := by omega
    rw [M1.getD_of (List.getElem?_eq_getElem hj')]
    have := List.not_of_lt_findIdx hj
    simpa using this
theorem a_drawsX {ta : TA} {te : TE} {σ : L2.St} {H : Hp} {a scr : Addr} {ns : List Int} {j m : Nat} {vs : List Nat} {Q : List V → Hp → Prop} (Pn : Nat → Prop) (h : ∀ R : List V → Hp → Prop, (∀ n H1, n ≤ 1000 → Pn n → ExB a H H1 → RowOk K H1 a scr ns → R [.int (n : Int)] H1) → ta σ H R) (hw : ∀ x, wipe ((wipe σ vs).set j (some x)) vs = wipe σ vs)
    (he : ∀ i : Nat, i < 1000 → EvR K te ((wipe σ vs).set j (some (.int (i : Int)))) H a scr ns m)
    (q : ∀ p l H2, H p = none → p ≠ a → ExB a H H2 → RowOk K H2 a scr ns → H2 p = some (.tup (rowV l)) → Pn l.length → (∀ x ∈ l, x < m) → Q [.ref p] H2) : tCons (tCB (rTupOf K) (tCons (tLc (iRng1 ta) (gName j) tYes te vs) tNil)) tNil σ H Q :=
  er_lcX Pn h hw he (fun x H1 => rTupOf K [x] H1 fun y H2 => Q [y] H2) fun p l H2 hp na x2 R2 h2 _ hl hm => ⟨p, _, rfl, Or.inl ⟨sq_of h2, fun p2 hp2 => by
    have np2 : p2 ≠ a := fun z => by
      subst z
      obtain ⟨xs, hx⟩ := R2.lst
      rw [hx] at hp2
      cases hp2
    exact q p2 l _ (x2.fresh np2 hp2) np2 (x2.trans (ExB.of (Ex.new hp2))) (R2.ex (Ex.new hp2)) upd_same hl hm⟩⟩
theorem tldV_row (M : M1.Mach) (i : Nat) (r : List Nat) : tldV M i r = rowV ((List.range r.length).map (M.tld i r)) := by
  unfold tldV gvn rowV
  rw [List.map_map]
  rfl
theorem ev_alike {σ : L2.St} {H : Hp} {E : XK} {ta tb : TE} {x y : V} {d : PyData} (ha : Ev ta σ H x) (hb : Ev tb σ H y) (h : ∀ H1, Ex H H1 → Dp K H1 x d ∧ Dp K H1 y d) (hf : Fine 3 d) : Ev (tCall (sp_la K 3) [] E (tCons ta (tCons tb tNil))) σ H (.bl true) :=
  ev_callV (ea_cons ha (ea_cons hb ea_nil)) fun H1 e Q q => ⟨x, y, d, rfl, (h H1 e).1, (h H1 e).2, hf, q⟩
def oD (o : Option Nat) : PyData := match o with | some n => .int (n : Int) | none => .none
theorem dp_o {H : Hp} (o : Option Nat) : Dp K H (oV o) (oD o) := by
  cases o with
  | none => exact .non
  | some n => exact .int _
theorem fine_o {k : Nat} (o : Option Nat) : Fine k (oD o) := by
  cases o with
  | none => cases k <;> trivial
  | some n => cases k <;> trivial
theorem fine_b {k : Nat} (b : Bool) : Fine k (.bool b) := by cases k <;> trivial
theorem q_drawsT {ta : TA} {te : TE} {tz : TS} {D : Ends} {σ : L2.St} {H : Hp} {a scr : Addr} {ns : List Int} {i j m : Nat} {vs : List Nat} (Pn : Nat → Prop) (h : ∀ R : List V → Hp → Prop, (∀ n H1, n ≤ 1000 → Pn n → ExB a H H1 → RowOk K H1 a scr ns → R [.int (n : Int)] H1) → ta σ H R) (hw : ∀ x, wipe ((wipe σ vs).set j (some x)) vs = wipe σ vs)
    (he : ∀ i : Nat, i < 1000 → EvR K te ((wipe σ vs).set j (some (.int (i : Int)))) H a scr ns m)
    (q : ∀ p l H2, H p = none → p ≠ a → ExB a H H2 → RowOk K H2 a scr ns → H2 p = some (.tup (rowV l)) → Pn l.length → (∀ x ∈ l, x < m) → tz D (σ.set i (some (.ref p))) H2) : tSeq (tAsg (tCB (rTupOf K) (tCons (tLc (iRng1 ta) (gName j) tYes te vs) tNil)) (gName i)) tz D σ H :=
  er_lcX Pn h hw he (fun x H1 => rTupOf K [x] H1 fun y H2 => gName i y σ H2 (tz D)) fun p l H2 hp na x2 R2 h2 _ hl hm => ⟨p, _, rfl, Or.inl ⟨sq_of h2, fun p2 hp2 => by
    have np2 : p2 ≠ a := fun z => by
      subst z
      obtain ⟨xs, hx⟩ := R2.lst
      rw [hx] at hp2
      cases hp2
    exact q p2 l _ (x2.fresh np2 hp2) np2 (x2.trans (ExB.of (Ex.new hp2))) (R2.ex (Ex.new hp2)) upd_same hl hm⟩⟩
end

end Kx
namespace Kx
open PySem PySem.Spec PyProof.Rows L2

open Evl
section
variable {P : Program} {w : World} {K : PySem.W.Frag} {mg : Str → Option Value} {base : Heap}
/-- (x, y) not in the table of the pairs that are not alike: they are alike -/
theorem et_notin {M : M1.Mach} {σ : L2.St} {H : Hp} {ix iy : TE} {id : Nat} {f : Addr} {ps : List (Nat × Nat)} {x y : Nat} (Tn : M.Turns (M.st.length * M.st.length + 1) ps) (hx : x < M.st.length) (hy : y < M.st.length) (ex : Ev ix σ H (nV x)) (ey : Ev iy σ H (nV y)) (sd : σ[id]? = some (some (.ref f))) (hf : H f = some (.dT (tabV ps))) :
    EvT (tB (tDNotIn (tTup (tCons ix (tCons iy tNil))) (tVar id))) σ H (M.eqv x y) := fun H1 e1 Q q =>
  ex H1 e1 _ fun H2 e2 => ey H2 (e1.trans e2) _ fun H3 e3 => ⟨by show 2 ≤ sizeLine; decide, fun t ht => ⟨.ref f, sd, f, _, rfl, dget_pair (i := x) (j := y) ((Ex.new ht) _ _ (((e1.trans e2).trans e3) _ _ hf)) upd_same, _, rfl, by
    have e : (!(if (x, y) ∈ ps then some (V.bl true) else none : Option V).isSome) = M.eqv x y := by
      rw [isSome_ite]
      have q := Tn.iff hx hy
      cases h : M.eqv x y with
      | true =>
        have : (x, y) ∉ ps := fun z => by rw [q.mp z] at h; cases h
        rw [decide_eq_false this]
        rfl
      | false =>
        rw [decide_eq_true (q.mpr h)]
        rfl
    rw [e]
    exact q _ ((e2.trans e3).trans (Ex.new ht))⟩⟩
def spLaw (K : PySem.W.Frag) : Sp := fun vs H Q _ => ∃ (a : Addr) (ns : List Int), vs = [.ref a] ∧ SqL K H a (ns.map V.int) ∧ ns.length ≤ 63 ∧ ∀ H', Q (.bl true) H'
theorem ok_law (T : Txt K mg) (h_answers : Has P w K mg base "answers" 6 ["machine", "state", "word"] (sp_answers K)) (h_least_machine : Has P w K mg base "least_machine" 6 ["machine"] (sp_least K)) (h_law_taken : Has P w K mg base "_law_taken" 1 ["row", "many"] (sp_taken K)) (h_law_machine : Has P w K mg base "_law_machine" 2 ["row", "states", "letters"] (sp_lawmac K))
    (h_law_alike : Has P w K mg base "_law_alike" 4 ["found", "due"] (sp_la K 3)) (h_law_told : Has P w K mg base "_law_told" 2 ["machine", "state", "word"] (sp_told K)) (h_law_unlike : Has P w K mg base "_law_unlike" 1 ["machine"] (sp_unlike K)) {f : Addr} {fd : FuncData} (F : Fun K "law" "law" s_law f fd) :
    FnOk P w K mg base CX0 7 f fd ["script"] (spLaw K) := by
  refine F.ok sc_law (fun vs H Q E h => ?_) (fun cdv A outer s H vs Q E hr h => ?_)
  · obtain ⟨a, ns, rfl, _⟩ := h
    rfl
  · obtain ⟨scr, ns, rfl, hS, hl, q⟩ := h
    refine ⟨_, (pss_cons (ps_set (i := 1) sc_law.nd rfl (.inr rfl) (pe_lst (pa_cons (pv 0) (pa_cons pe_int (pa_cons pe_int (pa_cons pe_int pa_nil))))))
      (pss_cons (ps_set (i := 2) sc_law.nd rfl (.inr rfl) (pe_has h_law_machine (hr.mono (by first | decide | exact Nat.le_refl _)) (by rfl) (pa_cons (pv 1) (pa_cons pe_int (pa_cons pe_int pa_nil)))))
      (pss_cons (ps_set (i := 3) sc_law.nd rfl (.inr rfl) (pe_callB (call_lenK (K := K) rfl) (by rfl) T.b_len bt_len (pa_cons (pe_ix (ix_tupK (K := K) rfl) (pe_ix (ix_tupK (K := K) rfl) (pv 2) pe_int (fun _ _ => rfl)) pe_int (fun _ _ => rfl)) pa_nil)))
      (pss_cons (ps_for PassesOwn.never rfl (pi_range1 (by rfl) T.b_range (pa_cons pe_int pa_nil)) (pg_name (i := 4) sc_law.nd rfl (.inl rfl))
      (pss_cons (ps_par (i := 5) (j := 6) (by rfl) sc_law.nd rfl rfl (by decide) rfl rfl (pa_cons (pe_has h_law_taken (hr.mono (by first | decide | exact Nat.le_refl _)) (by rfl) (pa_cons (pv 1) (pa_cons (pe_callB (call_lenK (K := K) rfl) (by rfl) T.b_len bt_len (pa_cons (pe_ix (ix_tupK (K := K) rfl) (pv 2) pe_int (fun _ _ => rfl)) pa_nil)) pa_nil))) (pa_cons (pe_callTy (call_tupleK (K := K) rfl) (by rfl) T.b_tuple bt_tuple (pa_cons (pe_lc (own := [("at", 10)]) (g := gName 10) (tt := tYes) (by rfl) sc_law.nd (pi_range1 (by rfl) T.b_range (pa_cons (pe_has h_law_taken (hr.mono (by first | decide | exact Nat.le_refl _)) (by rfl) (pa_cons (pv 1) (pa_cons pe_int pa_nil))) pa_nil)) (blkOk_by (N := N_law) (sc := defScope s_law) (by decide +kernel)) (fun _ _ _ _ _ => pg_name (i := 10) sc_law.nd rfl (Or.inl rfl)) (fun _ _ _ _ _ => pts_nil) (fun _ _ _ _ _ => (pe_has h_law_taken (hr.mono (by first | decide | exact Nat.le_refl _)) (by rfl) (pa_cons (pv 1) (pa_cons (pv 3) pa_nil))))) pa_nil)) pa_nil)) (by rfl))
      (pss_one (ps_if (pt_not (pt_val (pe_has h_law_alike (hr.mono (by first | decide | exact Nat.le_refl _)) (by rfl) (pa_cons (pe_has h_answers (hr.mono (by first | decide | exact Nat.le_refl _)) (by rfl) (pa_cons (pv 2) (pa_cons (pv 5) (pa_cons (pv 6) pa_nil)))) (pa_cons (pe_has h_law_told (hr.mono (by first | decide | exact Nat.le_refl _)) (by rfl) (pa_cons (pv 2) (pa_cons (pv 5) (pa_cons (pv 6) pa_nil)))) pa_nil)))))
      (pss_one (ps_ret pe_bl))
      pss_nil))))
      (pss_cons (ps_asg (pe_tup (pa_cons (pe_has h_law_unlike (hr.mono (by first | decide | exact Nat.le_refl _)) (by rfl) (pa_cons (pv 2) pa_nil)) (pa_cons (pe_lst pa_nil) (pa_cons (pe_lst (pa_cons pe_int pa_nil)) (pa_cons pe_int pa_nil))))) (pg_tupK (K := K) (n := 4) rfl (by rfl) (pgs_cons (pg_name (i := 7) sc_law.nd rfl (.inr rfl)) (pgs_cons (pg_name (i := 8) sc_law.nd rfl (.inl rfl)) (pgs_cons (pg_name (i := 9) sc_law.nd rfl (.inr rfl)) (pgs_cons (pg_name (i := 10) sc_law.nd rfl (.inl rfl)) pgs_nil))))))
      (pss_cons (ps_while PassesOwn.never (pt_cmpR op_lt (pv 10) (pe_callB (call_lenK (K := K) rfl) (by rfl) T.b_len bt_len (pa_cons (pv 9) pa_nil)) (nomark _))
      (pss_cons (ps_for PassesOwn.never rfl (pi_tupK (K := K) rfl (pe_ix (ix_tupK (K := K) rfl) (pe_ix (ix_tupK (K := K) rfl) (pv 2) pe_int (fun _ _ => rfl)) (pe_ix (ix_listK (K := K) rfl) (pv 9) (pv 10) (fun _ _ => rfl)) (fun _ _ => rfl))) (pg_name (i := 11) sc_law.nd rfl (.inr rfl))
      (pss_one (ps_if (pt_cmpR (op_eqDK (K := K) rfl hr.units) (pe_lc (own := [("one", 14)]) (g := gName 14) (by rfl) sc_law.nd (pi_listK (K := K) rfl (pv 9)) (blkOk_by (N := N_law) (sc := defScope s_law) (by decide +kernel)) (fun _ _ _ _ _ => pg_name (i := 14) sc_law.nd rfl (Or.inl rfl)) (fun _ _ _ _ _ => pts_one (pt_cmp (pc_dnotin (hu_of hr) (pe_tup (pa_cons (pv 14) (pa_cons (pv 11) pa_nil))) (pv 7)))) (fun _ _ _ _ _ => (pv 14))) (pe_lst pa_nil) (nomark _))
      (pss_one (ps_expr (pe_bm PySem.F.plainAttrs_list PySem.F.slot_list_append PySem.F.type_list_append mt_append (pv 9) (pa_cons (pv 11) pa_nil))))
      pss_nil)))
      (pss_one (ps_set (i := 10) sc_law.nd rfl (.inl rfl) (pe_op op_add (pv 10) pe_int)))))
      (pss_cons (ps_for PassesOwn.never rfl (pi_listK (K := K) rfl (pv 9)) (pg_name (i := 5) sc_law.nd rfl (.inl rfl))
      (pss_cons (ps_set (i := 12) sc_law.nd rfl (.inl rfl) (pe_lst pa_nil))
      (pss_cons (ps_for PassesOwn.never rfl (pi_tupK (K := K) rfl (pe_ix (ix_tupK (K := K) rfl) (pe_ix (ix_tupK (K := K) rfl) (pv 2) pe_int (fun _ _ => rfl)) (pv 5) (fun _ _ => rfl))) (pg_name (i := 11) sc_law.nd rfl (.inr rfl))
      (pss_one (ps_expr (pe_bm PySem.F.plainAttrs_list PySem.F.slot_list_append PySem.F.type_list_append mt_append (pv 12) (pa_cons (pe_ix (ix_listK (K := K) rfl) (pe_lc (own := [("k", 15)]) (g := gName 15) (by rfl) sc_law.nd (pi_range1 (by rfl) T.b_range (pa_cons (pe_callB (call_lenK (K := K) rfl) (by rfl) T.b_len bt_len (pa_cons (pv 9) pa_nil)) pa_nil)) (blkOk_by (N := N_law) (sc := defScope s_law) (by decide +kernel)) (fun _ _ _ _ _ => pg_name (i := 15) sc_law.nd rfl (Or.inl rfl)) (fun _ _ _ _ _ => pts_one (pt_cmp (pc_dnotin (hu_of hr) (pe_tup (pa_cons (pe_ix (ix_listK (K := K) rfl) (pv 9) (pv 15) (fun _ _ => rfl)) (pa_cons (pv 11) pa_nil))) (pv 7)))) (fun _ _ _ _ _ => (pv 15))) pe_int (fun _ _ => rfl)) pa_nil)))))
      (pss_one (ps_expr (pe_bm PySem.F.plainAttrs_list PySem.F.slot_list_append PySem.F.type_list_append mt_append (pv 8) (pa_cons (pe_callTy (call_tupleK (K := K) rfl) (by rfl) T.b_tuple bt_tuple (pa_cons (pv 12) pa_nil)) pa_nil)))))))
      (pss_cons (ps_set (i := 13) sc_law.nd rfl (.inl rfl) (pe_tup (pa_cons (pe_callTy (call_tupleK (K := K) rfl) (by rfl) T.b_tuple bt_tuple (pa_cons (pv 8) pa_nil)) (pa_cons (pe_callTy (call_tupleK (K := K) rfl) (by rfl) T.b_tuple bt_tuple (pa_cons (pe_lc (own := [("state", 5)]) (g := gName 5) (tt := tYes) (by rfl) sc_law.nd (pi_listK (K := K) rfl (pv 9)) (blkOk_by (N := N_law) (sc := defScope s_law) (by decide +kernel)) (fun _ _ _ _ _ => pg_name (i := 5) sc_law.nd rfl (Or.inl rfl)) (fun _ _ _ _ _ => pts_nil) (fun _ _ _ _ _ => (pe_ix (ix_tupK (K := K) rfl) (pe_ix (ix_tupK (K := K) rfl) (pv 2) pe_int (fun _ _ => rfl)) (pv 5) (fun _ _ => rfl)))) pa_nil)) pa_nil))))
      (pss_one (ps_ret (pe_has h_law_alike (hr.mono (by first | decide | exact Nat.le_refl _)) (by rfl) (pa_cons (pe_has h_least_machine (hr.mono (by first | decide | exact Nat.le_refl _)) (by rfl) (pa_cons (pv 2) pa_nil)) (pa_cons (pv 13) pa_nil))))))))))))), ?_⟩
    -- row = [script, 0, 1801, 0]
    refine ⟨.ref scr, rfl, by show 4 ≤ sizeLine; decide, fun row hrow => ?_⟩
    have R0 : RowOk K (upd H row (.lst [.ref scr, .int 0, .int 1801, .int 0])) row scr ns := by
      refine ⟨⟨0, 1801, 0, upd_same, by decide, by decide, by decide⟩, fun H' x => ?_, hl⟩
      rcases hS with (hS | ⟨o, hS⟩) | hS
      · exact .inl (.inl (x _ _ (ne_of_none hS hrow) (by rw [upd_ne (ne_of_none hS hrow)]; exact hS)))
      · exact .inl (.inr ⟨o, x _ _ (ne_of_none hS hrow) (by rw [upd_ne (ne_of_none hS hrow)]; exact hS)⟩)
      · exact .inr hS
    -- machine = ..
    refine ⟨.ref row, rfl, row, scr, ns, 6, 3, rfl, by decide, by decide, by decide, by decide, R0, fun v M H1 ok hn6 hk3 hM x1 R1 => ?_⟩
    have n1 := ok.n1
    have k1 := ok.k1
    obtain ⟨a, x, y, rfl, hS, ⟨ax, vx, rfl, hSx, hPx⟩, ⟨ay, vy, rfl, hSy, hPy⟩⟩ := id hM
    have hvx : vx.length = M.st.length := Paired.length hPx
    have hvy : vy.length = M.an.length := Paired.length hPy
    obtain ⟨r0, hr0⟩ := row0 ok
    obtain ⟨a0, g0, hS0⟩ := tab_get hPx r0
    -- letters = ..
    refine q_asg (ev_lenT (ev_op (ev_op (ev_var rfl) ev_c (rv_ixT hS (atI_nat (j := 0) rfl))) ev_c (rv_ixT hSx (atI_nat (j := 0) g0))) hS0) fun H2 e2 => ?_
    rw [rowV_len, hr0]
    have R2 := R1.ex e2
    obtain ⟨xr, hxr⟩ := R2.lst
    have mac : ∀ {H' : Hp}, ExB row H2 H' → MacAt K H' (.ref a) M.st M.an := fun e => (hM.keep (TK.ex e2)).keep (e.tk hxr)
    -- for turn in range(3)
    refine q_forR1 (n := 3) (ea_cons ev_c ea_nil) ⟨by decide, by decide⟩ (fun t σ' H' => ∃ l4 l5 l6, σ' = [some (.ref scr), some (.ref row), some (.ref a), some (.int (M.k : Int)), l4, l5, l6, none, none, none, none, none, none, none, none, none] ∧ ExB row H2 H' ∧ RowOk K H' row scr ns)
      (fun H3 e3 => ⟨none, none, none, rfl, ExB.of e3, R2.ex e3⟩) ?_ ?_
    · rintro t σ' H3 ht ⟨l4, l5, l6, rfl, x3, R3⟩
      have hM3 := mac x3
      obtain ⟨a', x', y', e', hS3, ⟨ax', vx', e'', hSx3, hPx3⟩, _⟩ := id hM3
      cases e'
      subst e''
      have hvx3 : vx'.length = M.st.length := Paired.length hPx3
      -- state, word = ..
      refine ⟨.ref row, rfl, .ref a, rfl, a, _, 0, _, rfl, rfl, hS3, atI_nat (j := 0) rfl, ax', vx', rfl, .inr hSx3, ?_⟩
      rw [hvx3]
      refine ⟨row, scr, ns, M.st.length, rfl, n1, by omega, R3, fun i H4 hi x4 R4 => ?_⟩
      refine a_drawsX (a := row) (scr := scr) (ns := ns) (m := M.k) (fun k => k < 8) (fun R' r => ⟨.ref row, rfl, row, scr, ns, 8, rfl, by decide, by decide, R4, fun n H5 hn x5 R5 => r n H5 (by omega) hn x5 R5⟩) (fun _ => rfl)
        (fun i hi => draw_ok (by omega) (by omega) (by exact rfl) fun _ _ => by exact ev_var rfl) fun b l H5 hpw npw x5 R5 hw5 hl8 hlk => ⟨_, _, rfl, ?_⟩
      have x6 := (x3.trans x4).trans x5
      have R6 := R5
      have hM6 := mac x6
      have hw6 : SqT K H5 b (rowV l) := SqT.of hw5
      dsimp only
      refine s_when (b := false) (et_not (a := true) (et_B fun H7 e7 Q q => ?_)) (fun z => by cases z) fun _ H7 e7 => ?_
      · refine ⟨.ref a, rfl, .int (i : Int), rfl, .ref b, rfl, .ref a, M, i, b, l, rfl, hM6.keep (TK.ex e7), ok, hi, ex_t e7 hw6, by omega, hlk, fun p1 H8 hp1 e8 h8 => ?_⟩
        have e78 := e7.trans e8
        refine ⟨.ref a, rfl, .int (i : Int), rfl, .ref b, rfl, .ref a, M, i, b, l, rfl, hM6.keep (TK.ex e78), ok, hi, ex_t e78 hw6, by omega, hlk, fun p2 H9 hp2 e9 h9 => ?_⟩
        rw [tldV_row] at h8 h9
        exact ⟨.ref p1, .ref p2, rowP ((List.range l.length).map (M.tld i l)), rfl, .tup (SqT.of (e9 _ _ h8)) (dp_row _), .tup (SqT.of h9) (dp_row _), fine_row (n := 2) (by rw [List.length_map, List.length_range]; omega), fun H10 e10 => q H10 ((e8.trans e9).trans e10)⟩
      · exact ⟨_, _, _, rfl, x6.trans (ExB.of e7), R6.ex e7⟩
    · rintro σ' H3 ⟨l4, l5, l6, rfl, x3, R3⟩
      have hM3 := mac x3
      obtain ⟨a', x', y', e', hS3, ⟨ax', vx', e'', hSx3, hPx3⟩, ⟨ay', vy', e''', hSy3, hPy3⟩⟩ := id hM3
      cases e'
      subst e'' e'''
      have hvy3 : vy'.length = M.an.length := Paired.length hPy3
      -- apart, firsts, order, at = ..
      refine ⟨.ref a, rfl, .ref a, M, rfl, hM3, ok, fun pa H4 ps hpa e4 h4 Tn => ⟨Nat.zero_le _, fun pf hpf => ⟨by show 1 ≤ sizeLine; decide, fun po hpo => ⟨by show 4 ≤ sizeLine; decide, fun tt htt => ⟨tt, _, rfl, SqT.of upd_same, rfl, _, _, rfl, _, _, rfl, _, _, rfl, _, _, rfl, rfl, ?_⟩⟩⟩⟩⟩
      have np1 : po ≠ pf := fun z => by subst z; rw [upd_same] at hpo; cases hpo
      have npo : H4 po = none := by rw [upd_ne np1] at hpo; exact hpo
      have e5 : Ex H4 (upd (upd (upd H4 pf (.lst [])) po (.lst [.int 0])) tt (.tup [.ref pa, .ref pf, .ref po, .int 0])) := ((Ex.new hpf).trans (Ex.new hpo)).trans (Ex.new htt)
      have ho5 : (upd (upd (upd H4 pf (.lst [])) po (.lst [.int 0])) tt (.tup [.ref pa, .ref pf, .ref po, .int 0])) po = some (.lst (rowV (M.ord 0))) := (Ex.new htt) _ _ upd_same
      have hf5 : (upd (upd (upd H4 pf (.lst [])) po (.lst [.int 0])) tt (.tup [.ref pa, .ref pf, .ref po, .int 0])) pf = some (.lst []) := (Ex.new htt) _ _ ((Ex.new hpo) _ _ upd_same)
      have S4 := ex_t e4 hS3
      have Sx4 := ex_t e4 hSx3
      have Sy4 := ex_t e4 hSy3
      -- while at < len(order)
      refine q_while (fun m σ' H' => ∃ (i : Nat) (l11 : Option V), σ' = [some (.ref scr), some (.ref row), some (.ref a), some (.int (M.k : Int)), l4, l5, l6, some (.ref pa), some (.ref pf), some (.ref po), some (.int (i : Int)), l11, none, none, none, none] ∧ Ex H4 H' ∧ H' po = some (.lst (rowV (M.ord i))) ∧ H' pf = some (.lst []) ∧ i ≤ (M.ord i).length ∧ m = 6 - i) _
        ⟨0, none, rfl, e5, ho5, hf5, Nat.zero_le _, rfl⟩ ?_
      rintro m σ' H' ⟨i, l11, rfl, e, ho, hfi, hil, rfl⟩
      have A := M.ord_apart ok i
      have Ale := A.le ok
      refine ⟨decide ((i : Int) < ((M.ord i).length : Int)), et_test ?_, fun b H6 e6 => ?_, fun b H6 e6 => ?_⟩
      · refine ev_is (ev_op (ev_var rfl) (ev_len (ev_var rfl) (sq_of ho)) rv_I0) ?_
        rw [rowV_len]
      · have hlt : i < (M.ord i).length := Int.ofNat_lt.mp (of_decide_eq_true b)
        obtain ⟨st, hst⟩ : ∃ st, (M.ord i)[i]? = some st := ⟨_, List.getElem?_eq_getElem hlt⟩
        have hstl := M.ord_lt ok hst
        have e46 := e.trans e6
        have ho6 := e6 _ _ ho
        have hf6 := e6 _ _ hfi
        obtain ⟨ar, gr, hSr⟩ := tab_get hPx3 (M.row_at hstl)
        have Sr4 := ex_t e4 hSr
        refine ⟨fun σ2 H2' => ∃ m', m' < 6 - i ∧ ∃ (i' : Nat) (l11 : Option V), σ2 = [some (.ref scr), some (.ref row), some (.ref a), some (.int (M.k : Int)), l4, l5, l6, some (.ref pa), some (.ref pf), some (.ref po), some (.int (i' : Int)), l11, none, none, none, none] ∧ Ex H4 H2' ∧ H2' po = some (.lst (rowV (M.ord i'))) ∧ H2' pf = some (.lst []) ∧ i' ≤ (M.ord i').length ∧ m' = 6 - i', fun σ2 H2' h => h, ?_⟩
        refine q_forT (a := ar) (xs := rowV (M.row st)) (ev_op (ev_op (ev_var rfl) ev_c (rv_ixT (ex_t e46 S4) (atI_nat (j := 0) rfl))) (ev_op (ev_var rfl) (ev_var rfl) (rv_ixL (sq_of ho6) (atI_nat (rowV_at hst)))) (rv_ixT (ex_t e46 Sx4) (atI_nat gr))) (ex_t e46 Sr4)
          (fun j σ' H' => ∃ l11, σ' = [some (.ref scr), some (.ref row), some (.ref a), some (.int (M.k : Int)), l4, l5, l6, some (.ref pa), some (.ref pf), some (.ref po), some (.int (i : Int)), l11, none, none, none, none] ∧ Ex H4 H' ∧ H' po = some (.lst (rowV (M.mid i st j))) ∧ H' pf = some (.lst []))
          (fun H7 e7 => ⟨l11, rfl, e46.trans e7, e7 _ _ ho6, e7 _ _ hf6⟩) (fun j σ' H' _ ⟨_, _, e, _⟩ => ex_t e Sr4) ?_ ?_
        · rintro j z σ' H7 hz ⟨m11, rfl, e7, ho7, hf7⟩
          obtain ⟨xx, hxx, rfl⟩ := map_of hz
          have hxl := M.row_mem ok hstl (List.mem_of_getElem? hxx)
          have Am := M.mid_apart ok (i := i) (s := st) (j := j) hstl
          have Aml := Am.le ok
          obtain ⟨o, eo⟩ : ∃ o, o = M.mid i st j := ⟨_, rfl⟩
          rw [← eo] at ho7 Am Aml
          have big := el_lcL (σ := [some (V.ref scr), some (V.ref row), some (V.ref a), some (V.int (M.k : Int)), l4, l5, l6, some (V.ref pa), some (V.ref pf), some (V.ref po), some (V.int (i : Int)), some (nV xx), none, none, none, none]) (H := H7) (K := K) (tl := tVar 9) (a := po) (xs := rowV o) (j := 14) (vs := [14]) (te := tVar 14) (t := tB (tDNotIn (tTup (tCons (tVar 14) (tCons (tVar 11) tNil))) (tVar 7)))
            (fun l => M.eqv (o.getD l 0) xx) (fun l => nV (o.getD l 0)) (ev_var rfl) (sq_of ho7) (by rw [rowV_len]; omega) (fun _ => rfl) (fun l x H8 e8 hl => ?_) (fun l x H8 e8 hl _ => ?_)
          · rw [rowV_len, given_map] at big
            refine s_when (et_test (ev_opLL big (el_lst ea_nil (by decide)) fun p q H8 hp hq e8 => rv_eqRows (s := []) (sq_of hp) (sq_of hq))) (fun b H8 e8 => ?_) (fun b H8 e8 => ?_)
            · have hno := (none_iff (o := o) (p := fun y => M.eqv y xx)).mp (of_decide_eq_true b)
              refine s_app (D := { nx := _, rt := _, bk := _, ct := _ }) (e8 _ _ ho7) (ev_var rfl) (ev_var rfl) (by rw [rowV_len]; omega) fun H9 e9 => ?_
              refine ⟨_, rfl, Ex.mut ((e7.trans e8).trans e9) npo, ?_, by rw [upd_ne np1.symm]; exact e9 _ _ (e8 _ _ hf7)⟩
              rw [M.mid_succ hxx, ← eo]
              unfold M1.Mach.grow1
              rw [if_neg (by rw [hno]; decide), rowV_snoc]
              exact upd_same
            · have hyes : (o.any fun y => M.eqv y xx) = true := by
                cases h : o.any fun y => M.eqv y xx with
                | true => rfl
                | false => exact absurd ((none_iff (o := o) (p := fun y => M.eqv y xx)).mpr h) (of_decide_eq_false b)
              refine ⟨_, rfl, e7.trans e8, ?_, e8 _ _ hf7⟩
              rw [M.mid_succ hxx, ← eo]
              unfold M1.Mach.grow1
              rw [if_pos hyes]
              exact e8 _ _ ho7
          · obtain ⟨y, hy, rfl⟩ := map_of hl
            rw [M1.getD_of hy]
            exact et_notin Tn (Am.lt y (List.mem_of_getElem? hy)) hxl (ev_var rfl) (ev_var rfl) rfl ((e7.trans e8) _ _ h4)
          · obtain ⟨y, hy, rfl⟩ := map_of hl
            rw [M1.getD_of hy]
            exact ev_var rfl
        · rintro σ' H7 ⟨m11, rfl, e7, ho7, hf7⟩
          rw [rowV_len, M.mid_end hst] at ho7
          obtain ⟨mo, emo⟩ := M1.Mach.ord_pre (M := M) i
          have lo : (M.ord i).length ≤ (M.ord (i + 1)).length := by rw [emo, List.length_append]; omega
          exact s_asg (ev_op (ev_var rfl) ev_c rv_I0) fun H8 e8 => ⟨6 - (i + 1), by omega, i + 1, _, rfl, e7.trans e8, e8 _ _ ho7, e8 _ _ hf7, by omega, rfl⟩
      · have hge : (M.ord i).length ≤ i := by
          have := of_decide_eq_false b
          omega
        have eall := M.all_of ok hge
        have e46 := e.trans e6
        have ho6 := e6 _ _ ho
        have hf6 := e6 _ _ hfi
        rw [eall] at ho6
        have Aall : M.Apart M.all := M.ord_apart ok 6
        have Aalle := Aall.le ok
        obtain ⟨o, eo⟩ : ∃ o, o = M.all := ⟨_, rfl⟩
        rw [← eo] at ho6 Aall Aalle
        -- for state in order
        refine q_forL (ev_var rfl) (sq_of ho6) (fun i2 σ' H' => ∃ l5 l11 l12 ls, σ' = [some (.ref scr), some (.ref row), some (.ref a), some (.int (M.k : Int)), l4, l5, l6, some (.ref pa), some (.ref pf), some (.ref po), some (.int (i : Int)), l11, l12, none, none, none] ∧ Ex H4 H' ∧ H' po = some (.lst (rowV o)) ∧ H' pf = some (.lst ls) ∧ Paired (RowAt K H') ls ((o.take i2).map (lrow M)))
          (fun H7 e7 => ⟨l5, l11, none, [], rfl, e46.trans e7, e7 _ _ ho6, e7 _ _ hf6, .nil⟩) (fun i2 σ' H' _ ⟨_, _, _, _, _, _, h, _⟩ => sq_of h) ?_ ?_
        · rintro i2 z σ' H7 hz ⟨m5, m11, m12, ls, rfl, e7, ho7, hf7, hP7⟩
          obtain ⟨s2, hs2, rfl⟩ := map_of hz
          have hs2l := Aall.lt s2 (List.mem_of_getElem? hs2)
          have hi2 : i2 < o.length := (List.getElem?_eq_some_iff.mp hs2).1
          obtain ⟨ar, gr, hSr⟩ := tab_get hPx3 (M.row_at hs2l)
          have Sr4 := ex_t e4 hSr
          refine q_asgL (el_lst ea_nil (by decide)) fun pl H8 hpl e8 h8 => ?_
          have npl : H4 pl = none := fresh_back e7 hpl
          have nlo : pl ≠ po := fun z => by subst z; rw [ho7] at hpl; cases hpl
          have nlf : pl ≠ pf := fun z => by subst z; rw [hf7] at hpl; cases hpl
          have e48 := e7.trans e8
          refine q_forT (a := ar) (xs := rowV (M.row s2)) (ev_op (ev_op (ev_var rfl) ev_c (rv_ixT (ex_t e48 S4) (atI_nat (j := 0) rfl))) (ev_var rfl) (rv_ixT (ex_t e48 Sx4) (atI_nat gr))) (ex_t e48 Sr4)
            (fun j σ' H' => ∃ l11, σ' = [some (.ref scr), some (.ref row), some (.ref a), some (.int (M.k : Int)), l4, some (nV s2), l6, some (.ref pa), some (.ref pf), some (.ref po), some (.int (i : Int)), l11, some (.ref pl), none, none, none] ∧ Ex H4 H' ∧ H' po = some (.lst (rowV o)) ∧ H' pf = some (.lst ls) ∧ Paired (RowAt K H') ls ((o.take i2).map (lrow M)) ∧ H' pl = some (.lst (rowV (((M.row s2).take j).map (M.num o)))))
            (fun H9 e9 => ⟨m11, rfl, e48.trans e9, e9 _ _ (e8 _ _ ho7), e9 _ _ (e8 _ _ hf7), paired_keep hP7 (TK.ex (e8.trans e9)), e9 _ _ h8⟩) (fun j σ' H' _ ⟨_, _, e, _⟩ => ex_t e Sr4) ?_ ?_
          · rintro j z σ' H9 hz ⟨n11, rfl, e9, ho9, hf9, hP9, hl9⟩
            obtain ⟨xx, hxx, rfl⟩ := map_of hz
            have hxl := M.row_mem ok hs2l (List.mem_of_getElem? hxx)
            have hjl : j < (M.row s2).length := (List.getElem?_eq_some_iff.mp hxx).1
            have hrl := M.row_len ok hs2l
            have big := el_lcR1 (σ := [some (V.ref scr), some (V.ref row), some (V.ref a), some (V.int (M.k : Int)), l4, some (nV s2), l6, some (V.ref pa), some (V.ref pf), some (V.ref po), some (V.int (i : Int)), some (nV xx), some (V.ref pl), none, none, none]) (H := H9) (ta := tCons (tCB (rLenS K) (tCons (tVar 9) tNil)) tNil) (j := 15) (vs := [15]) (n := ((rowV o).length : Int)) (te := tVar 15)
              (t := tB (tDNotIn (tTup (tCons (tOp (rIxL K) (tVar 9) (tVar 15)) (tCons (tVar 11) tNil))) (tVar 7))) (fun l => M.eqv (o.getD l 0) xx) (fun l => nV l) (ea_cons (ev_len (ev_var rfl) (sq_of ho9)) ea_nil) ⟨by omega, by rw [rowV_len]; omega⟩ (fun _ => rfl) (fun l H10 e10 hl => ?_) (fun l H10 e10 hl _ => ev_var rfl)
            · rw [Int.toNat_natCast, rowV_len, given_rows] at big
              have hex : ∃ y ∈ o, M.eqv y xx = true := by
                obtain ⟨mm, emm⟩ := M.all_pre ok (i2 + 1)
                have hst : (M.ord i2)[i2]? = some s2 := by
                  by_cases hc : i2 < (M.ord i2).length
                  · obtain ⟨mm, emm⟩ := M.all_pre ok i2
                    rw [eo, emm, List.getElem?_append_left hc] at hs2
                    exact hs2
                  · have := M.all_of ok (i := i2) (by omega)
                    rw [eo, ← this] at hi2
                    omega
                obtain ⟨y, hy, ey⟩ := M.grow_has (o := M.ord i2) (r := M.row s2) (fun z hz => M.row_mem ok hs2l hz) ok (List.mem_of_getElem? hxx)
                rw [← M.ord_step hst] at hy
                refine ⟨y, ?_, ey⟩
                rw [eo, emm]
                exact List.mem_append_left _ hy
              have hfirst := first_of (p := fun y => M.eqv y xx) hex
              refine s_app (D := { nx := _, rt := _, bk := _, ct := _ }) hl9 (ev_var rfl) (ev_opL1 big (fun _ _ => ev_c) fun p H10 hp _ => rv_ixL (sq_of hp) (atI_nat (j := 0) (rowV_at hfirst))) (by rw [rowV_len, List.length_map]; have := List.length_take_le' j (M.row s2); omega) fun H10 e10 => ?_
              refine ⟨_, rfl, Ex.mut (e9.trans e10) npl, by rw [upd_ne nlo.symm]; exact e10 _ _ ho9, by rw [upd_ne nlf.symm]; exact e10 _ _ hf9, paired_keep hP9 ((TK.ex e10).trans (TK.lst (e10 _ _ hl9))), ?_⟩
              rw [M1.take_succ' hxx, List.map_append, List.map_singleton, rowV_snoc]
              exact upd_same
            · have hlo : l < o.length := by rw [rowV_len] at hl; omega
              have gl : o[l]? = some (o.getD l 0) := M1.getD_at hlo
              exact et_notin Tn (Aall.lt _ (List.mem_of_getElem? gl)) hxl (ev_op (ev_var rfl) (ev_var rfl) (rv_ixL (sq_of (e10 _ _ ho9)) (atI_nat (rowV_at gl)))) (ev_var rfl) rfl ((e9.trans e10) _ _ h4)
          · rintro σ' H9 ⟨n11, rfl, e9, ho9, hf9, hP9, hl9⟩
            rw [rowV_len, List.take_length] at hl9
            have hls : ls.length ≤ 6 := by
              rw [Paired.length hP9, List.length_map]
              have := List.length_take_le' i2 o
              omega
            refine s_appU (D := { nx := _, rt := _, bk := _, ct := _ }) hf9 (ev_var rfl) (eu_tupL (ev_var rfl) (sq_of hl9)) (by omega) fun q2 H10 hq2 e10 h10 => ?_
            refine ⟨_, _, _, ls ++ [.ref q2], rfl, Ex.mut (e9.trans e10) hpf, by rw [upd_ne np1]; exact e10 _ _ ho9, upd_same, ?_⟩
            rw [M1.take_succ' hs2, List.map_append]
            refine Paired.snoc (paired_keep hP9 ((TK.ex e10).trans (TK.lst (e10 _ _ hf9)))) ⟨q2, rfl, TK.lst (e10 _ _ hf9) _ _ (SqT.of ?_)⟩
            rw [h10, eo]
            rfl
        · rintro σ' H7 ⟨m5, m11, m12, ls, rfl, e7, ho7, hf7, hP7⟩
          rw [rowV_len, List.take_length] at hP7
          refine eu_tupL (ev_var rfl) (sq_of hf7) _ (Ex.refl _) _ fun q1 H8 hq1 e8 h8 => ?_
          refine eu_tupN (el_lcLv (fun j => vy'.getD (o.getD j 0) .non) (ev_var rfl) (sq_of (e8 _ _ ho7)) (by rw [rowV_len]; omega) (fun _ => rfl) fun j z H9 e9 hz => ?_) _ (Ex.refl _) _ fun q2 H9 hq2 e9 h9 => ⟨by show 2 ≤ sizeLine; decide, fun q3 hq3 => ?_⟩
          · obtain ⟨s2, hs2, rfl⟩ := map_of hz
            have hlt := Aall.lt s2 (List.mem_of_getElem? hs2)
            rw [M1.getD_of hs2]
            have e49 := (e7.trans e8).trans e9
            exact ev_op (ev_op (ev_var rfl) ev_c (rv_ixT (ex_t e49 S4) (atI_nat (j := 1) rfl))) (ev_var rfl) (rv_ixT (ex_t e49 Sy4) (atI_nat (M1.getD_at (by rw [hvy3, ok.la]; exact hlt))))
          · have e10 : Ex H9 (upd H9 q3 (.tup [.ref q1, .ref q2])) := Ex.new hq3
            have e810 := e9.trans e10
            have e410 := (e7.trans e8).trans e810
            have hyk := paired_keep hPy3 (TK.ex (e4.trans e410))
            have gen : ∀ o : List Nat, (∀ x ∈ o, x < M.st.length) → Paired (RowAt K (upd H9 q3 (.tup [.ref q1, .ref q2]))) (o.map fun s => vy'.getD s .non) (o.map M.ans) := by
              intro o
              induction o with
              | nil => exact fun _ => .nil
              | cons s o ih =>
                intro ho
                refine .cons ?_ (ih fun x hx => ho x (List.mem_cons_of_mem _ hx))
                obtain ⟨ar, gr, hSr⟩ := tab_get hyk (M.ans_at ok (ho s List.mem_cons_self))
                exact ⟨ar, M1.getD_of gr, hSr⟩
            have eg : (gvn (rowV o).length fun j => vy'.getD (o.getD j 0) .non) = o.map fun s => vy'.getD s .non := by
              unfold gvn
              rw [rowV_len]
              refine List.ext_getElem? fun i => ?_
              rw [List.getElem?_map, List.getElem?_map]
              by_cases h : i < o.length
              · rw [List.getElem?_range h, List.getElem?_eq_getElem h, Option.map_some, Option.map_some, M1.getD_of (List.getElem?_eq_getElem h)]
              · rw [List.getElem?_eq_none (by rw [List.length_range]; omega), List.getElem?_eq_none (by omega)]
                rfl
            rw [eg] at h9
            have due : MacAt K (upd H9 q3 (.tup [.ref q1, .ref q2])) (.ref q3) M.least.st M.least.an := by
              unfold M1.Mach.least
              rw [← eo]
              refine ⟨q3, .ref q1, .ref q2, rfl, SqT.of upd_same, ⟨q1, ls, rfl, SqT.of (e810 _ _ h8), ?_⟩, ⟨q2, _, rfl, SqT.of (e10 _ _ h9), gen o Aall.lt⟩⟩
              have := paired_keep hP7 (TK.ex (e8.trans e810))
              show Paired (RowAt K _) ls (o.map fun s => (M.row s).map (M.num o))
              rw [eo] at this ⊢
              exact this
            have hMl : MacAt K (upd H9 q3 (.tup [.ref q1, .ref q2])) (.ref a) M.st M.an := hM3.keep (TK.ex (e4.trans e410))
            refine ⟨.ref a, rfl, .ref a, M, rfl, hMl, ok, fun v H11 e11 hv => ⟨.ref q3, rfl, v, .ref q3, macP M.least, rfl, dp_mac hv, dp_mac (due.keep (TK.ex e11)), ?_, fun H12 _ => q H12⟩⟩
            have sl : M.least.st.length ≤ 6 := by
              show (M.all.map _).length ≤ 6
              rw [List.length_map, ← eo]
              omega
            have al : M.least.an.length ≤ 6 := by
              show (M.all.map _).length ≤ 6
              rw [List.length_map, ← eo]
              omega
            refine fine_mac (by omega) (by omega) (fun r hr => ?_) (fun r hr => ?_)
            · obtain ⟨s, hs, rfl⟩ := List.mem_map.mp hr
              rw [List.length_map, M.row_len ok (Aall.lt s (by rw [eo]; exact hs))]
              omega
            · obtain ⟨s, hs, rfl⟩ := List.mem_map.mp hr
              rw [M.ans_len ok (Aall.lt s (by rw [eo]; exact hs))]
              omega
end

end Kx

namespace Kx
open PySem PySem.Spec PyProof.Rows L2
theorem all_mk {l : PySem.W.OpenLaw} {w : World} {K : PySem.W.Frag} {h : Heap} {mg : Str → Option Value} {fa : Addr} (X : K.In h) (G : h.Ns mainGlobals mg) (hfa : mg "law" = some (.ref fa))
    {f_is_integer : Addr} {od_is_integer an_is_integer : Option Addr} {sl_is_integer : Array (Option Value)} {oc_is_integer kV_is_integer dc_is_integer pm_is_integer cd_is_integer ct_is_integer : Value}
    {f_is_tuple : Addr} {od_is_tuple an_is_tuple : Option Addr} {sl_is_tuple : Array (Option Value)} {oc_is_tuple kV_is_tuple dc_is_tuple pm_is_tuple cd_is_tuple ct_is_tuple : Value}
    {f_is_row : Addr} {od_is_row an_is_row : Option Addr} {sl_is_row : Array (Option Value)} {oc_is_row kV_is_row dc_is_row pm_is_row cd_is_row ct_is_row : Value}
    {f_is_table : Addr} {od_is_table an_is_table : Option Addr} {sl_is_table : Array (Option Value)} {oc_is_table kV_is_table dc_is_table pm_is_table cd_is_table ct_is_table : Value}
    {f_is_steps : Addr} {od_is_steps an_is_steps : Option Addr} {sl_is_steps : Array (Option Value)} {oc_is_steps kV_is_steps dc_is_steps pm_is_steps cd_is_steps ct_is_steps : Value}
    {f_check_machine : Addr} {od_check_machine an_check_machine : Option Addr} {sl_check_machine : Array (Option Value)} {oc_check_machine kV_check_machine dc_check_machine pm_check_machine cd_check_machine ct_check_machine : Value}
    {f_is_state : Addr} {od_is_state an_is_state : Option Addr} {sl_is_state : Array (Option Value)} {oc_is_state kV_is_state dc_is_state pm_is_state cd_is_state ct_is_state : Value}
    {f_check_state : Addr} {od_check_state an_check_state : Option Addr} {sl_check_state : Array (Option Value)} {oc_check_state kV_check_state dc_check_state pm_check_state cd_check_state ct_check_state : Value}
    {f_is_word : Addr} {od_is_word an_is_word : Option Addr} {sl_is_word : Array (Option Value)} {oc_is_word kV_is_word dc_is_word pm_is_word cd_is_word ct_is_word : Value}
    {f_is_short_word : Addr} {od_is_short_word an_is_short_word : Option Addr} {sl_is_short_word : Array (Option Value)} {oc_is_short_word kV_is_short_word dc_is_short_word pm_is_short_word cd_is_short_word ct_is_short_word : Value}
    {f_check_word : Addr} {od_check_word an_check_word : Option Addr} {sl_check_word : Array (Option Value)} {oc_check_word kV_check_word dc_check_word pm_check_word cd_check_word ct_check_word : Value}
    {f_answers : Addr} {od_answers an_answers : Option Addr} {sl_answers : Array (Option Value)} {oc_answers kV_answers dc_answers pm_answers cd_answers ct_answers : Value}
    {f_first_come_numbers : Addr} {od_first_come_numbers an_first_come_numbers : Option Addr} {sl_first_come_numbers : Array (Option Value)} {oc_first_come_numbers kV_first_come_numbers dc_first_come_numbers pm_first_come_numbers cd_first_come_numbers ct_first_come_numbers : Value}
    {f_alike_classes : Addr} {od_alike_classes an_alike_classes : Option Addr} {sl_alike_classes : Array (Option Value)} {oc_alike_classes kV_alike_classes dc_alike_classes pm_alike_classes cd_alike_classes ct_alike_classes : Value}
    {f_least_machine : Addr} {od_least_machine an_least_machine : Option Addr} {sl_least_machine : Array (Option Value)} {oc_least_machine kV_least_machine dc_least_machine pm_least_machine cd_least_machine ct_least_machine : Value}
    {f_law_taken : Addr} {od_law_taken an_law_taken : Option Addr} {sl_law_taken : Array (Option Value)} {oc_law_taken kV_law_taken dc_law_taken pm_law_taken cd_law_taken ct_law_taken : Value}
    {f_law_machine : Addr} {od_law_machine an_law_machine : Option Addr} {sl_law_machine : Array (Option Value)} {oc_law_machine kV_law_machine dc_law_machine pm_law_machine cd_law_machine ct_law_machine : Value}
    {f_law_alike : Addr} {od_law_alike an_law_alike : Option Addr} {sl_law_alike : Array (Option Value)} {oc_law_alike kV_law_alike dc_law_alike pm_law_alike cd_law_alike ct_law_alike : Value}
    {f_law_led : Addr} {od_law_led an_law_led : Option Addr} {sl_law_led : Array (Option Value)} {oc_law_led kV_law_led dc_law_led pm_law_led cd_law_led ct_law_led : Value}
    {f_law_told : Addr} {od_law_told an_law_told : Option Addr} {sl_law_told : Array (Option Value)} {oc_law_told kV_law_told dc_law_told pm_law_told cd_law_told ct_law_told : Value}
    {f_law_unlike : Addr} {od_law_unlike an_law_unlike : Option Addr} {sl_law_unlike : Array (Option Value)} {oc_law_unlike kV_law_unlike dc_law_unlike pm_law_unlike cd_law_unlike ct_law_unlike : Value}
    {f_law : Addr} {od_law an_law : Option Addr} {sl_law : Array (Option Value)} {oc_law kV_law dc_law pm_law cd_law ct_law : Value}
    (a_is_integer : PySem.W.nsIn K mainGlobals "is_integer" = some (some (.ref f_is_integer))) (l_is_integer : K.lookup f_is_integer = some ⟨oc_is_integer, od_is_integer, .func (PySem.W.fnOf "is_integer" "is_integer" (defArgs s_is_integer) (defBody s_is_integer) (defScope s_is_integer) .none kV_is_integer dc_is_integer pm_is_integer an_is_integer cd_is_integer ct_is_integer), sl_is_integer⟩) (c_is_integer : PySem.W.codeIn K cd_is_integer "is_integer" = true) (k_is_integer : PySem.W.keepIn K (.ref f_is_integer) = true)
    (a_is_tuple : PySem.W.nsIn K mainGlobals "is_tuple" = some (some (.ref f_is_tuple))) (l_is_tuple : K.lookup f_is_tuple = some ⟨oc_is_tuple, od_is_tuple, .func (PySem.W.fnOf "is_tuple" "is_tuple" (defArgs s_is_tuple) (defBody s_is_tuple) (defScope s_is_tuple) .none kV_is_tuple dc_is_tuple pm_is_tuple an_is_tuple cd_is_tuple ct_is_tuple), sl_is_tuple⟩) (c_is_tuple : PySem.W.codeIn K cd_is_tuple "is_tuple" = true) (k_is_tuple : PySem.W.keepIn K (.ref f_is_tuple) = true)
    (a_is_row : PySem.W.nsIn K mainGlobals "is_row" = some (some (.ref f_is_row))) (l_is_row : K.lookup f_is_row = some ⟨oc_is_row, od_is_row, .func (PySem.W.fnOf "is_row" "is_row" (defArgs s_is_row) (defBody s_is_row) (defScope s_is_row) .none kV_is_row dc_is_row pm_is_row an_is_row cd_is_row ct_is_row), sl_is_row⟩) (c_is_row : PySem.W.codeIn K cd_is_row "is_row" = true) (k_is_row : PySem.W.keepIn K (.ref f_is_row) = true)
    (a_is_table : PySem.W.nsIn K mainGlobals "is_table" = some (some (.ref f_is_table))) (l_is_table : K.lookup f_is_table = some ⟨oc_is_table, od_is_table, .func (PySem.W.fnOf "is_table" "is_table" (defArgs s_is_table) (defBody s_is_table) (defScope s_is_table) .none kV_is_table dc_is_table pm_is_table an_is_table cd_is_table ct_is_table), sl_is_table⟩) (c_is_table : PySem.W.codeIn K cd_is_table "is_table" = true) (k_is_table : PySem.W.keepIn K (.ref f_is_table) = true)
    (a_is_steps : PySem.W.nsIn K mainGlobals "is_steps" = some (some (.ref f_is_steps))) (l_is_steps : K.lookup f_is_steps = some ⟨oc_is_steps, od_is_steps, .func (PySem.W.fnOf "is_steps" "is_steps" (defArgs s_is_steps) (defBody s_is_steps) (defScope s_is_steps) .none kV_is_steps dc_is_steps pm_is_steps an_is_steps cd_is_steps ct_is_steps), sl_is_steps⟩) (c_is_steps : PySem.W.codeIn K cd_is_steps "is_steps" = true) (k_is_steps : PySem.W.keepIn K (.ref f_is_steps) = true)
    (a_check_machine : PySem.W.nsIn K mainGlobals "check_machine" = some (some (.ref f_check_machine))) (l_check_machine : K.lookup f_check_machine = some ⟨oc_check_machine, od_check_machine, .func (PySem.W.fnOf "check_machine" "check_machine" (defArgs s_check_machine) (defBody s_check_machine) (defScope s_check_machine) .none kV_check_machine dc_check_machine pm_check_machine an_check_machine cd_check_machine ct_check_machine), sl_check_machine⟩) (c_check_machine : PySem.W.codeIn K cd_check_machine "check_machine" = true) (k_check_machine : PySem.W.keepIn K (.ref f_check_machine) = true)
    (a_is_state : PySem.W.nsIn K mainGlobals "is_state" = some (some (.ref f_is_state))) (l_is_state : K.lookup f_is_state = some ⟨oc_is_state, od_is_state, .func (PySem.W.fnOf "is_state" "is_state" (defArgs s_is_state) (defBody s_is_state) (defScope s_is_state) .none kV_is_state dc_is_state pm_is_state an_is_state cd_is_state ct_is_state), sl_is_state⟩) (c_is_state : PySem.W.codeIn K cd_is_state "is_state" = true) (k_is_state : PySem.W.keepIn K (.ref f_is_state) = true)
    (a_check_state : PySem.W.nsIn K mainGlobals "check_state" = some (some (.ref f_check_state))) (l_check_state : K.lookup f_check_state = some ⟨oc_check_state, od_check_state, .func (PySem.W.fnOf "check_state" "check_state" (defArgs s_check_state) (defBody s_check_state) (defScope s_check_state) .none kV_check_state dc_check_state pm_check_state an_check_state cd_check_state ct_check_state), sl_check_state⟩) (c_check_state : PySem.W.codeIn K cd_check_state "check_state" = true) (k_check_state : PySem.W.keepIn K (.ref f_check_state) = true)
    (a_is_word : PySem.W.nsIn K mainGlobals "is_word" = some (some (.ref f_is_word))) (l_is_word : K.lookup f_is_word = some ⟨oc_is_word, od_is_word, .func (PySem.W.fnOf "is_word" "is_word" (defArgs s_is_word) (defBody s_is_word) (defScope s_is_word) .none kV_is_word dc_is_word pm_is_word an_is_word cd_is_word ct_is_word), sl_is_word⟩) (c_is_word : PySem.W.codeIn K cd_is_word "is_word" = true) (k_is_word : PySem.W.keepIn K (.ref f_is_word) = true)
    (a_is_short_word : PySem.W.nsIn K mainGlobals "is_short_word" = some (some (.ref f_is_short_word))) (l_is_short_word : K.lookup f_is_short_word = some ⟨oc_is_short_word, od_is_short_word, .func (PySem.W.fnOf "is_short_word" "is_short_word" (defArgs s_is_short_word) (defBody s_is_short_word) (defScope s_is_short_word) .none kV_is_short_word dc_is_short_word pm_is_short_word an_is_short_word cd_is_short_word ct_is_short_word), sl_is_short_word⟩) (c_is_short_word : PySem.W.codeIn K cd_is_short_word "is_short_word" = true) (k_is_short_word : PySem.W.keepIn K (.ref f_is_short_word) = true)
    (a_check_word : PySem.W.nsIn K mainGlobals "check_word" = some (some (.ref f_check_word))) (l_check_word : K.lookup f_check_word = some ⟨oc_check_word, od_check_word, .func (PySem.W.fnOf "check_word" "check_word" (defArgs s_check_word) (defBody s_check_word) (defScope s_check_word) .none kV_check_word dc_check_word pm_check_word an_check_word cd_check_word ct_check_word), sl_check_word⟩) (c_check_word : PySem.W.codeIn K cd_check_word "check_word" = true) (k_check_word : PySem.W.keepIn K (.ref f_check_word) = true)
    (a_answers : PySem.W.nsIn K mainGlobals "answers" = some (some (.ref f_answers))) (l_answers : K.lookup f_answers = some ⟨oc_answers, od_answers, .func (PySem.W.fnOf "answers" "answers" (defArgs s_answers) (defBody s_answers) (defScope s_answers) .none kV_answers dc_answers pm_answers an_answers cd_answers ct_answers), sl_answers⟩) (c_answers : PySem.W.codeIn K cd_answers "answers" = true) (k_answers : PySem.W.keepIn K (.ref f_answers) = true)
    (a_first_come_numbers : PySem.W.nsIn K mainGlobals "first_come_numbers" = some (some (.ref f_first_come_numbers))) (l_first_come_numbers : K.lookup f_first_come_numbers = some ⟨oc_first_come_numbers, od_first_come_numbers, .func (PySem.W.fnOf "first_come_numbers" "first_come_numbers" (defArgs s_first_come_numbers) (defBody s_first_come_numbers) (defScope s_first_come_numbers) .none kV_first_come_numbers dc_first_come_numbers pm_first_come_numbers an_first_come_numbers cd_first_come_numbers ct_first_come_numbers), sl_first_come_numbers⟩) (c_first_come_numbers : PySem.W.codeIn K cd_first_come_numbers "first_come_numbers" = true) (k_first_come_numbers : PySem.W.keepIn K (.ref f_first_come_numbers) = true)
    (a_alike_classes : PySem.W.nsIn K mainGlobals "alike_classes" = some (some (.ref f_alike_classes))) (l_alike_classes : K.lookup f_alike_classes = some ⟨oc_alike_classes, od_alike_classes, .func (PySem.W.fnOf "alike_classes" "alike_classes" (defArgs s_alike_classes) (defBody s_alike_classes) (defScope s_alike_classes) .none kV_alike_classes dc_alike_classes pm_alike_classes an_alike_classes cd_alike_classes ct_alike_classes), sl_alike_classes⟩) (c_alike_classes : PySem.W.codeIn K cd_alike_classes "alike_classes" = true) (k_alike_classes : PySem.W.keepIn K (.ref f_alike_classes) = true)
    (a_least_machine : PySem.W.nsIn K mainGlobals "least_machine" = some (some (.ref f_least_machine))) (l_least_machine : K.lookup f_least_machine = some ⟨oc_least_machine, od_least_machine, .func (PySem.W.fnOf "least_machine" "least_machine" (defArgs s_least_machine) (defBody s_least_machine) (defScope s_least_machine) .none kV_least_machine dc_least_machine pm_least_machine an_least_machine cd_least_machine ct_least_machine), sl_least_machine⟩) (c_least_machine : PySem.W.codeIn K cd_least_machine "least_machine" = true) (k_least_machine : PySem.W.keepIn K (.ref f_least_machine) = true)
    (a_law_taken : PySem.W.nsIn K mainGlobals "_law_taken" = some (some (.ref f_law_taken))) (l_law_taken : K.lookup f_law_taken = some ⟨oc_law_taken, od_law_taken, .func (PySem.W.fnOf "_law_taken" "_law_taken" (defArgs s_law_taken) (defBody s_law_taken) (defScope s_law_taken) .none kV_law_taken dc_law_taken pm_law_taken an_law_taken cd_law_taken ct_law_taken), sl_law_taken⟩) (c_law_taken : PySem.W.codeIn K cd_law_taken "_law_taken" = true) (k_law_taken : PySem.W.keepIn K (.ref f_law_taken) = true)
    (a_law_machine : PySem.W.nsIn K mainGlobals "_law_machine" = some (some (.ref f_law_machine))) (l_law_machine : K.lookup f_law_machine = some ⟨oc_law_machine, od_law_machine, .func (PySem.W.fnOf "_law_machine" "_law_machine" (defArgs s_law_machine) (defBody s_law_machine) (defScope s_law_machine) .none kV_law_machine dc_law_machine pm_law_machine an_law_machine cd_law_machine ct_law_machine), sl_law_machine⟩) (c_law_machine : PySem.W.codeIn K cd_law_machine "_law_machine" = true) (k_law_machine : PySem.W.keepIn K (.ref f_law_machine) = true)
    (a_law_alike : PySem.W.nsIn K mainGlobals "_law_alike" = some (some (.ref f_law_alike))) (l_law_alike : K.lookup f_law_alike = some ⟨oc_law_alike, od_law_alike, .func (PySem.W.fnOf "_law_alike" "_law_alike" (defArgs s_law_alike) (defBody s_law_alike) (defScope s_law_alike) .none kV_law_alike dc_law_alike pm_law_alike an_law_alike cd_law_alike ct_law_alike), sl_law_alike⟩) (c_law_alike : PySem.W.codeIn K cd_law_alike "_law_alike" = true) (k_law_alike : PySem.W.keepIn K (.ref f_law_alike) = true)
    (a_law_led : PySem.W.nsIn K mainGlobals "_law_led" = some (some (.ref f_law_led))) (l_law_led : K.lookup f_law_led = some ⟨oc_law_led, od_law_led, .func (PySem.W.fnOf "_law_led" "_law_led" (defArgs s_law_led) (defBody s_law_led) (defScope s_law_led) .none kV_law_led dc_law_led pm_law_led an_law_led cd_law_led ct_law_led), sl_law_led⟩) (c_law_led : PySem.W.codeIn K cd_law_led "_law_led" = true) (k_law_led : PySem.W.keepIn K (.ref f_law_led) = true)
    (a_law_told : PySem.W.nsIn K mainGlobals "_law_told" = some (some (.ref f_law_told))) (l_law_told : K.lookup f_law_told = some ⟨oc_law_told, od_law_told, .func (PySem.W.fnOf "_law_told" "_law_told" (defArgs s_law_told) (defBody s_law_told) (defScope s_law_told) .none kV_law_told dc_law_told pm_law_told an_law_told cd_law_told ct_law_told), sl_law_told⟩) (c_law_told : PySem.W.codeIn K cd_law_told "_law_told" = true) (k_law_told : PySem.W.keepIn K (.ref f_law_told) = true)
    (a_law_unlike : PySem.W.nsIn K mainGlobals "_law_unlike" = some (some (.ref f_law_unlike))) (l_law_unlike : K.lookup f_law_unlike = some ⟨oc_law_unlike, od_law_unlike, .func (PySem.W.fnOf "_law_unlike" "_law_unlike" (defArgs s_law_unlike) (defBody s_law_unlike) (defScope s_law_unlike) .none kV_law_unlike dc_law_unlike pm_law_unlike an_law_unlike cd_law_unlike ct_law_unlike), sl_law_unlike⟩) (c_law_unlike : PySem.W.codeIn K cd_law_unlike "_law_unlike" = true) (k_law_unlike : PySem.W.keepIn K (.ref f_law_unlike) = true)
    (a_law : PySem.W.nsIn K mainGlobals "law" = some (some (.ref f_law))) (l_law : K.lookup f_law = some ⟨oc_law, od_law, .func (PySem.W.fnOf "law" "law" (defArgs s_law) (defBody s_law) (defScope s_law) .none kV_law dc_law pm_law an_law cd_law ct_law), sl_law⟩) (c_law : PySem.W.codeIn K cd_law "law" = true) (k_law : PySem.W.keepIn K (.ref f_law) = true)
    (z_all : PySem.W.nsIn K mainGlobals "all" = some none)
    (z_bool : PySem.W.nsIn K mainGlobals "bool" = some none)
    (z_enumerate : PySem.W.nsIn K mainGlobals "enumerate" = some none)
    (z_int : PySem.W.nsIn K mainGlobals "int" = some none)
    (z_isinstance : PySem.W.nsIn K mainGlobals "isinstance" = some none)
    (z_len : PySem.W.nsIn K mainGlobals "len" = some none)
    (z_list : PySem.W.nsIn K mainGlobals "list" = some none)
    (z_min : PySem.W.nsIn K mainGlobals "min" = some none)
    (z_range : PySem.W.nsIn K mainGlobals "range" = some none)
    (z_str : PySem.W.nsIn K mainGlobals "str" = some none)
    (z_tuple : PySem.W.nsIn K mainGlobals "tuple" = some none)
    {t_MOST_STATES : Tok} (n_MOST_STATES : PySem.W.nsIn K mainGlobals "MOST_STATES" = some (some (.int 6 t_MOST_STATES)))
    {t_MOST_LETTERS : Tok} (n_MOST_LETTERS : PySem.W.nsIn K mainGlobals "MOST_LETTERS" = some (some (.int 3 t_MOST_LETTERS)))
    {t_MOST_ANSWER : Tok} (n_MOST_ANSWER : PySem.W.nsIn K mainGlobals "MOST_ANSWER" = some (some (.int 9 t_MOST_ANSWER)))
    {t_LONGEST_WORD : Tok} (n_LONGEST_WORD : PySem.W.nsIn K mainGlobals "LONGEST_WORD" = some (some (.int 4000 t_LONGEST_WORD))) :
    ∃ fd : FuncData, (∀ (s : Shared) (v : Value), BindsTo s fd ⟨[v], []⟩ [("script", v)]) ∧ ∀ base : Heap, K.In base → base.Ns mainGlobals mg → FnOk l.prog w K mg base CX0 7 fa fd ["script"] (spLaw K) := by
  have e := hfa.symm.trans (PySem.W.mg_of X G a_law)
  cases e
  have T : Txt K mg := ⟨PySem.W.mg_none_of X G z_all, PySem.W.mg_none_of X G z_bool, PySem.W.mg_none_of X G z_enumerate, PySem.W.mg_none_of X G z_int, PySem.W.mg_none_of X G z_isinstance, PySem.W.mg_none_of X G z_len, PySem.W.mg_none_of X G z_list, PySem.W.mg_none_of X G z_min, PySem.W.mg_none_of X G z_range, PySem.W.mg_none_of X G z_str, PySem.W.mg_none_of X G z_tuple, ⟨_, PySem.W.mg_of X G n_MOST_STATES⟩, ⟨_, PySem.W.mg_of X G n_MOST_LETTERS⟩, ⟨_, PySem.W.mg_of X G n_MOST_ANSWER⟩, ⟨_, PySem.W.mg_of X G n_LONGEST_WORD⟩⟩
  have F_is_integer := fun_mk (st := s_is_integer) l_is_integer c_is_integer k_is_integer
  have B_is_integer := F_is_integer.binds (ps := ["value", "low", "high"]) fun _ _ _ _ _ _ us hl => match us, hl with | [_, _, _], _ => rfl
  have F_is_tuple := fun_mk (st := s_is_tuple) l_is_tuple c_is_tuple k_is_tuple
  have B_is_tuple := F_is_tuple.binds (ps := ["value", "low", "high"]) fun _ _ _ _ _ _ us hl => match us, hl with | [_, _, _], _ => rfl
  have F_is_row := fun_mk (st := s_is_row) l_is_row c_is_row k_is_row
  have B_is_row := F_is_row.binds (ps := ["value", "greatest"]) fun _ _ _ _ _ _ us hl => match us, hl with | [_, _], _ => rfl
  have F_is_table := fun_mk (st := s_is_table) l_is_table c_is_table k_is_table
  have B_is_table := F_is_table.binds (ps := ["value", "height", "width", "greatest"]) fun _ _ _ _ _ _ us hl => match us, hl with | [_, _, _, _], _ => rfl
  have F_is_steps := fun_mk (st := s_is_steps) l_is_steps c_is_steps k_is_steps
  have B_is_steps := F_is_steps.binds (ps := ["value"]) fun _ _ _ _ _ _ us hl => match us, hl with | [_], _ => rfl
  have F_check_machine := fun_mk (st := s_check_machine) l_check_machine c_check_machine k_check_machine
  have B_check_machine := F_check_machine.binds (ps := ["machine"]) fun _ _ _ _ _ _ us hl => match us, hl with | [_], _ => rfl
  have F_is_state := fun_mk (st := s_is_state) l_is_state c_is_state k_is_state
  have B_is_state := F_is_state.binds (ps := ["machine", "value"]) fun _ _ _ _ _ _ us hl => match us, hl with | [_, _], _ => rfl
  have F_check_state := fun_mk (st := s_check_state) l_check_state c_check_state k_check_state
  have B_check_state := F_check_state.binds (ps := ["machine", "state"]) fun _ _ _ _ _ _ us hl => match us, hl with | [_, _], _ => rfl
  have F_is_word := fun_mk (st := s_is_word) l_is_word c_is_word k_is_word
  have B_is_word := F_is_word.binds (ps := ["machine", "value"]) fun _ _ _ _ _ _ us hl => match us, hl with | [_, _], _ => rfl
  have F_is_short_word := fun_mk (st := s_is_short_word) l_is_short_word c_is_short_word k_is_short_word
  have B_is_short_word := F_is_short_word.binds (ps := ["machine", "value"]) fun _ _ _ _ _ _ us hl => match us, hl with | [_, _], _ => rfl
  have F_check_word := fun_mk (st := s_check_word) l_check_word c_check_word k_check_word
  have B_check_word := F_check_word.binds (ps := ["machine", "word"]) fun _ _ _ _ _ _ us hl => match us, hl with | [_, _], _ => rfl
  have F_answers := fun_mk (st := s_answers) l_answers c_answers k_answers
  have B_answers := F_answers.binds (ps := ["machine", "state", "word"]) fun _ _ _ _ _ _ us hl => match us, hl with | [_, _, _], _ => rfl
  have F_first_come_numbers := fun_mk (st := s_first_come_numbers) l_first_come_numbers c_first_come_numbers k_first_come_numbers
  have B_first_come_numbers := F_first_come_numbers.binds (ps := ["keys"]) fun _ _ _ _ _ _ us hl => match us, hl with | [_], _ => rfl
  have F_alike_classes := fun_mk (st := s_alike_classes) l_alike_classes c_alike_classes k_alike_classes
  have B_alike_classes := F_alike_classes.binds (ps := ["machine"]) fun _ _ _ _ _ _ us hl => match us, hl with | [_], _ => rfl
  have F_least_machine := fun_mk (st := s_least_machine) l_least_machine c_least_machine k_least_machine
  have B_least_machine := F_least_machine.binds (ps := ["machine"]) fun _ _ _ _ _ _ us hl => match us, hl with | [_], _ => rfl
  have F_law_taken := fun_mk (st := s_law_taken) l_law_taken c_law_taken k_law_taken
  have B_law_taken := F_law_taken.binds (ps := ["row", "many"]) fun _ _ _ _ _ _ us hl => match us, hl with | [_, _], _ => rfl
  have F_law_machine := fun_mk (st := s_law_machine) l_law_machine c_law_machine k_law_machine
  have B_law_machine := F_law_machine.binds (ps := ["row", "states", "letters"]) fun _ _ _ _ _ _ us hl => match us, hl with | [_, _, _], _ => rfl
  have F_law_alike := fun_mk (st := s_law_alike) l_law_alike c_law_alike k_law_alike
  have B_law_alike := F_law_alike.binds (ps := ["found", "due"]) fun _ _ _ _ _ _ us hl => match us, hl with | [_, _], _ => rfl
  have F_law_led := fun_mk (st := s_law_led) l_law_led c_law_led k_law_led
  have B_law_led := F_law_led.binds (ps := ["machine", "state", "word"]) fun _ _ _ _ _ _ us hl => match us, hl with | [_, _, _], _ => rfl
  have F_law_told := fun_mk (st := s_law_told) l_law_told c_law_told k_law_told
  have B_law_told := F_law_told.binds (ps := ["machine", "state", "word"]) fun _ _ _ _ _ _ us hl => match us, hl with | [_, _, _], _ => rfl
  have F_law_unlike := fun_mk (st := s_law_unlike) l_law_unlike c_law_unlike k_law_unlike
  have B_law_unlike := F_law_unlike.binds (ps := ["machine"]) fun _ _ _ _ _ _ us hl => match us, hl with | [_], _ => rfl
  refine ⟨PySem.W.fnOf "law" "law" (defArgs s_law) (defBody s_law) (defScope s_law) .none kV_law dc_law pm_law an_law cd_law ct_law, fun s v => .of_eq rfl, fun base _ _ => ?_⟩
  have h_is_integer := has_is_integer (P := l.prog) (w := w) (base := base) T  F_is_integer (PySem.W.mg_of X G a_is_integer) B_is_integer
  have h_is_tuple := has_is_tuple (P := l.prog) (w := w) (base := base) T  F_is_tuple (PySem.W.mg_of X G a_is_tuple) B_is_tuple
  have h_is_row := has_is_row (P := l.prog) (w := w) (base := base) T h_is_integer F_is_row (PySem.W.mg_of X G a_is_row) B_is_row
  have h_is_table := has_is_table (P := l.prog) (w := w) (base := base) T h_is_tuple h_is_row F_is_table (PySem.W.mg_of X G a_is_table) B_is_table
  have h_is_steps := has_is_steps (P := l.prog) (w := w) (base := base) T h_is_tuple h_is_table F_is_steps (PySem.W.mg_of X G a_is_steps) B_is_steps
  have h_check_machine := has_check_machine (P := l.prog) (w := w) (base := base) T h_is_tuple h_is_table h_is_steps F_check_machine (PySem.W.mg_of X G a_check_machine) B_check_machine
  have h_is_state := has_is_state (P := l.prog) (w := w) (base := base) T h_is_integer F_is_state (PySem.W.mg_of X G a_is_state) B_is_state
  have h_check_state := has_check_state (P := l.prog) (w := w) (base := base) T h_is_state F_check_state (PySem.W.mg_of X G a_check_state) B_check_state
  have h_is_word := has_is_word (P := l.prog) (w := w) (base := base) T h_is_row F_is_word (PySem.W.mg_of X G a_is_word) B_is_word
  have h_is_short_word := has_is_short_word (P := l.prog) (w := w) (base := base) T h_is_tuple h_is_word F_is_short_word (PySem.W.mg_of X G a_is_short_word) B_is_short_word
  have h_check_word := has_check_word (P := l.prog) (w := w) (base := base) T h_is_short_word F_check_word (PySem.W.mg_of X G a_check_word) B_check_word
  have h_answers := has_answers (P := l.prog) (w := w) (base := base) T h_check_machine h_check_state h_check_word F_answers (PySem.W.mg_of X G a_answers) B_answers
  have h_first_come_numbers := has_first_come_numbers (P := l.prog) (w := w) (base := base) T  F_first_come_numbers (PySem.W.mg_of X G a_first_come_numbers) B_first_come_numbers
  have h_alike_classes := has_alike_classes (P := l.prog) (w := w) (base := base) T h_first_come_numbers F_alike_classes (PySem.W.mg_of X G a_alike_classes) B_alike_classes
  have h_least_machine := has_least_machine (P := l.prog) (w := w) (base := base) T h_check_machine h_alike_classes F_least_machine (PySem.W.mg_of X G a_least_machine) B_least_machine
  have h_law_taken := has_law_taken (P := l.prog) (w := w) (base := base) T  F_law_taken (PySem.W.mg_of X G a_law_taken) B_law_taken
  have h_law_machine := has_law_machine (P := l.prog) (w := w) (base := base) T h_law_taken F_law_machine (PySem.W.mg_of X G a_law_machine) B_law_machine
  have h_law_led := has_law_led (P := l.prog) (w := w) (base := base) T  F_law_led (PySem.W.mg_of X G a_law_led) B_law_led
  have h_law_told := has_law_told (P := l.prog) (w := w) (base := base) T h_law_led F_law_told (PySem.W.mg_of X G a_law_told) B_law_told
  have h_law_unlike := has_law_unlike (P := l.prog) (w := w) (base := base) T  F_law_unlike (PySem.W.mg_of X G a_law_unlike) B_law_unlike
  have h_law_alike := has_law_alike (P := l.prog) (w := w) (base := base) T  F_law_alike (PySem.W.mg_of X G a_law_alike) B_law_alike
  exact ok_law T h_answers h_least_machine h_law_taken h_law_machine h_law_alike h_law_told h_law_unlike (fun_mk (st := s_law) l_law c_law k_law)
end Kx
open PySem PySem.W PyProof.Rows
set_option maxHeartbeats 0 in
theorem PySem.Challenge.cw_pushedclerks_k01_whole_machines_holds : PySem.Challenge.rw_pushedclerks_k01_whole_machines.Holds := by
  w_on; o_law; k_head; (case hw => w_witness2)
  k_fill
  refine L2.walk_of (l := PySem.Challenge.rw_pushedclerks_k01_whole_machines) (n := 63) (k := 7) (x := "script") (CX := fun _ => L2.CX0) (sp := fun w => Kx.spLaw _) rfl (by decide) rfl ⟨rfl, by decide, by decide⟩ (fun w h Y => PySem.W.kIn_of Y) ?F (fun _ _ a ns hl _ hS => ⟨a, ns, rfl, hS, hl, fun _ => rfl⟩) (fun _ _ _ _ _ h => h)
  case F =>
    intro w mg fa h KX G hmg
    refine' Kx.all_mk KX G hmg ?a_is_integer ?l_is_integer ?c_is_integer ?k_is_integer ?a_is_tuple ?l_is_tuple ?c_is_tuple ?k_is_tuple ?a_is_row ?l_is_row ?c_is_row ?k_is_row ?a_is_table ?l_is_table ?c_is_table ?k_is_table ?a_is_steps ?l_is_steps ?c_is_steps ?k_is_steps ?a_check_machine ?l_check_machine ?c_check_machine ?k_check_machine ?a_is_state ?l_is_state ?c_is_state ?k_is_state ?a_check_state ?l_check_state ?c_check_state ?k_check_state ?a_is_word ?l_is_word ?c_is_word ?k_is_word ?a_is_short_word ?l_is_short_word ?c_is_short_word ?k_is_short_word ?a_check_word ?l_check_word ?c_check_word ?k_check_word ?a_answers ?l_answers ?c_answers ?k_answers ?a_first_come_numbers ?l_first_come_numbers ?c_first_come_numbers ?k_first_come_numbers ?a_alike_classes ?l_alike_classes ?c_alike_classes ?k_alike_classes ?a_least_machine ?l_least_machine ?c_least_machine ?k_least_machine ?a_law_taken ?l_law_taken ?c_law_taken ?k_law_taken ?a_law_machine ?l_law_machine ?c_law_machine ?k_law_machine ?a_law_alike ?l_law_alike ?c_law_alike ?k_law_alike ?a_law_led ?l_law_led ?c_law_led ?k_law_led ?a_law_told ?l_law_told ?c_law_told ?k_law_told ?a_law_unlike ?l_law_unlike ?c_law_unlike ?k_law_unlike ?a_law ?l_law ?c_law ?k_law ?z_all ?z_bool ?z_enumerate ?z_int ?z_isinstance ?z_len ?z_list ?z_min ?z_range ?z_str ?z_tuple ?n_MOST_STATES ?n_MOST_LETTERS ?n_MOST_ANSWER ?n_LONGEST_WORD
    (case a_is_integer => k_is)
    (case l_is_integer => k_is)
    (case c_is_integer => k_is)
    (case k_is_integer => k_is)
    (case a_is_tuple => k_is)
    (case l_is_tuple => k_is)
    (case c_is_tuple => k_is)
    (case k_is_tuple => k_is)
    (case a_is_row => k_is)
    (case l_is_row => k_is)
    (case c_is_row => k_is)
    (case k_is_row => k_is)
    (case a_is_table => k_is)
    (case l_is_table => k_is)
    (case c_is_table => k_is)
    (case k_is_table => k_is)
    (case a_is_steps => k_is)
    (case l_is_steps => k_is)
    (case c_is_steps => k_is)
    (case k_is_steps => k_is)
    (case a_check_machine => k_is)
    (case l_check_machine => k_is)
    (case c_check_machine => k_is)
    (case k_check_machine => k_is)
    (case a_is_state => k_is)
    (case l_is_state => k_is)
    (case c_is_state => k_is)
    (case k_is_state => k_is)
    (case a_check_state => k_is)
    (case l_check_state => k_is)
    (case c_check_state => k_is)
    (case k_check_state => k_is)
    (case a_is_word => k_is)
    (case l_is_word => k_is)
    (case c_is_word => k_is)
    (case k_is_word => k_is)
    (case a_is_short_word => k_is)
    (case l_is_short_word => k_is)
    (case c_is_short_word => k_is)
    (case k_is_short_word => k_is)
    (case a_check_word => k_is)
    (case l_check_word => k_is)
    (case c_check_word => k_is)
    (case k_check_word => k_is)
    (case a_answers => k_is)
    (case l_answers => k_is)
    (case c_answers => k_is)
    (case k_answers => k_is)
    (case a_first_come_numbers => k_is)
    (case l_first_come_numbers => k_is)
    (case c_first_come_numbers => k_is)
    (case k_first_come_numbers => k_is)
    (case a_alike_classes => k_is)
    (case l_alike_classes => k_is)
    (case c_alike_classes => k_is)
    (case k_alike_classes => k_is)
    (case a_least_machine => k_is)
    (case l_least_machine => k_is)
    (case c_least_machine => k_is)
    (case k_least_machine => k_is)
    (case a_law_taken => k_is)
    (case l_law_taken => k_is)
    (case c_law_taken => k_is)
    (case k_law_taken => k_is)
    (case a_law_machine => k_is)
    (case l_law_machine => k_is)
    (case c_law_machine => k_is)
    (case k_law_machine => k_is)
    (case a_law_alike => k_is)
    (case l_law_alike => k_is)
    (case c_law_alike => k_is)
    (case k_law_alike => k_is)
    (case a_law_led => k_is)
    (case l_law_led => k_is)
    (case c_law_led => k_is)
    (case k_law_led => k_is)
    (case a_law_told => k_is)
    (case l_law_told => k_is)
    (case c_law_told => k_is)
    (case k_law_told => k_is)
    (case a_law_unlike => k_is)
    (case l_law_unlike => k_is)
    (case c_law_unlike => k_is)
    (case k_law_unlike => k_is)
    (case a_law => k_is)
    (case l_law => k_is)
    (case c_law => k_is)
    (case k_law => k_is)
    (case z_all => k_is)
    (case z_bool => k_is)
    (case z_enumerate => k_is)
    (case z_int => k_is)
    (case z_isinstance => k_is)
    (case z_len => k_is)
    (case z_list => k_is)
    (case z_min => k_is)
    (case z_range => k_is)
    (case z_str => k_is)
    (case z_tuple => k_is)
    (case n_MOST_STATES => k_is)
    (case n_MOST_LETTERS => k_is)
    (case n_MOST_ANSWER => k_is)
    (case n_LONGEST_WORD => k_is)
