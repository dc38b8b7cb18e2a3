import PyProof.Rows.All
import Wide.All
import OpenK.AllK
import Wide.FinOn
import KE.KeyNested
import KE.GoesMore
import KE.GoesEnum
import HandS.ForMost
import HandS.Evl
import HandS.IsInst
import HandS.Style
import HandS.SetKeys
import HandS.TupLen
import HandS.TupAny
import HandS.Conv
import HandS.Rev
import HandS.ForExc
import HandS.WordsExc
import HandS.TryOnly
import HandS.SetFor
import HandS.Sort
import HandS.Strs
import HandS.Lambda
import HandS.ExcIs
import HandS.EndOwn
import HandS.TryMany
import HandS.SortInts
import HandS.Walk
import HandS.Zip
import HandS.DictComp
import HandS.Flow
import HandS.TupMul
import PySem.Challenge.RW_pushedclerks_k02_whole_late_words
set_option Elab.async false
set_option linter.all false
set_option maxRecDepth 100000
set_option maxHeartbeats 4000000
namespace L2
open PySem PySem.Spec PyProof.Rows

/-! ### dicts whose keys are nested tuples -/
/-- at a: a dict with the keys, where they stand, and the values kvs -/
def DictN (P : Program) (w : World) (a : Addr) (kvs : List (NestedKey × Addr × V)) : HO := .ext fun h => (a == sysModules) = false ∧ kvs.length ≤ sizeLine ∧
  ∃ xs : List (NestedKey × Addr × Value), Paired (fun (p : NestedKey × Addr × V) (q : NestedKey × Addr × Value) => p.1 = q.1 ∧ p.2.1 = q.2.1 ∧ RelV p.2.2 q.2.2) kvs xs ∧
    ∃ o es ep, h.get? a = some o ∧ o.ExactDict ∧ o.data = .dict es ep ∧ es.toList = xs.map (entryOfKey (nestedKind P w)) ∧ (xs.map (·.1)).Nodup
mutual
/-- a value of the abstract heap is a key -/
inductive NKey (K : PySem.W.Frag) (H : Hp) : V → NestedKey → Prop
  | int (i : Int) : NKey K H (.int i) (.num i)
  | tup {a : Addr} {xs : List V} {ks : List NestedKey} : SqT K H a xs → NKeys K H xs ks → NKey K H (.ref a) (.tup ks)
inductive NKeys (K : PySem.W.Frag) (H : Hp) : List V → List NestedKey → Prop
  | nil : NKeys K H [] []
  | cons {v : V} {vs : List V} {k : NestedKey} {ks : List NestedKey} : NKey K H v k → NKeys K H vs ks → NKeys K H (v :: vs) (k :: ks)
end
def TK (K : PySem.W.Frag) (H H' : Hp) : Prop := ∀ a xs, SqT K H a xs → SqT K H' a xs
mutual
theorem NKey.keep {K : PySem.W.Frag} {H H' : Hp} (e : TK K H H') : ∀ (k : NestedKey) (v : V), NKey K H v k → NKey K H' v k
  | .num i, _, h => by cases h; exact .int i
  | .tup ks, _, h => by
    cases h with
    | tup h1 h2 => exact .tup (e _ _ h1) (NKeys.keep e ks _ h2)
  | .none, _, h => by cases h
  | .text _, _, h => by cases h
theorem NKeys.keep {K : PySem.W.Frag} {H H' : Hp} (e : TK K H H') : ∀ (ks : List NestedKey) (vs : List V), NKeys K H vs ks → NKeys K H' vs ks
  | [], _, h => by cases h; exact .nil
  | k :: ks, _, h => by
    cases h with
    | cons h1 h2 => exact .cons (NKey.keep e k _ h1) (NKeys.keep e ks _ h2)
end
section
variable {X : Cx} {pinz : List (Addr × Obj)} {σ : St} {H : Hp} {s : Shared}
mutual
theorem NKey.is (I : Inv X pinz σ H s) : ∀ (k : NestedKey) (v : V) (u : Value), NKey X.K H v k → RelV v u → NestedIs s.heap k u
  | .num i, _, _, h, r => by
    cases h
    obtain ⟨t, rfl⟩ := r
    exact .int i t
  | .tup ks, _, _, h, r => by
    cases h with
    | tup h1 h2 =>
      cases r
      obtain ⟨its, rV, ⟨o, ho, hc, n, hd⟩, _⟩ := I.tuple h1
      exact .tup ho hc hd (NKeys.is I ks _ _ h2 rV)
  | .none, _, _, h, _ => by cases h
  | .text _, _, _, h, _ => by cases h
theorem NKeys.is (I : Inv X pinz σ H s) : ∀ (ks : List NestedKey) (vs : List V) (us : List Value), NKeys X.K H vs ks → Vals vs us → NestedAll s.heap ks us
  | [], _, _, h, r => by
    cases h
    cases r
    exact .nil
  | k :: ks, _, _, h, r => by
    cases h with
    | cons h1 h2 =>
      cases r with
      | cons r1 r2 => exact .cons (NKey.is I k _ _ h1 r1) (NKeys.is I ks _ _ h2 r2)
end
end
/-- what stands at a key -/
def atN (kvs : List (NestedKey × Addr × V)) (k : NestedKey) : Option V := (kvs.find? fun e => decide (e.1 = k)).map (·.2.2)
theorem atN_rel {kvs : List (NestedKey × Addr × V)} {xs : List (NestedKey × Addr × Value)} (r : Paired (fun (p : NestedKey × Addr × V) (q : NestedKey × Addr × Value) => p.1 = q.1 ∧ p.2.1 = q.2.1 ∧ RelV p.2.2 q.2.2) kvs xs) (k : NestedKey) :
    RelO (atN kvs k) ((atKey xs k).map (·.2)) := by
  induction r with
  | nil => exact True.intro
  | @cons p q ps qs h t ih =>
    obtain ⟨h1, _, h2⟩ := h
    by_cases e : p.1 = k
    · have y' : q.1 = k := h1.symm.trans e
      have b : atKey (q :: qs) k = some q.2 := by simp [atKey, List.find?_cons, y']
      have c : atN (p :: ps) k = some p.2.2 := by simp [atN, List.find?_cons, e]
      rw [b, c]; exact h2
    · have y' : ¬ q.1 = k := fun z => e (h1.trans z)
      have b : atKey (q :: qs) k = atKey qs k := by simp [atKey, List.find?_cons, y']
      have c : atN (p :: ps) k = atN ps k := by simp [atN, List.find?_cons, e]
      rw [b, c]; exact ih
theorem dictN_stay {P : Program} {w : World} {a : Addr} {kvs : List (NestedKey × Addr × V)} : ∀ h1 h2 : Heap, ((a == sysModules) = false ∧ kvs.length ≤ sizeLine ∧
  ∃ xs : List (NestedKey × Addr × Value), Paired (fun (p : NestedKey × Addr × V) (q : NestedKey × Addr × Value) => p.1 = q.1 ∧ p.2.1 = q.2.1 ∧ RelV p.2.2 q.2.2) kvs xs ∧
    ∃ o es ep, h1.get? a = some o ∧ o.ExactDict ∧ o.data = .dict es ep ∧ es.toList = xs.map (entryOfKey (nestedKind P w)) ∧ (xs.map (·.1)).Nodup) → (∀ o, h1.get? a = some o → h2.get? a = some o) → ((a == sysModules) = false ∧ kvs.length ≤ sizeLine ∧
  ∃ xs : List (NestedKey × Addr × Value), Paired (fun (p : NestedKey × Addr × V) (q : NestedKey × Addr × Value) => p.1 = q.1 ∧ p.2.1 = q.2.1 ∧ RelV p.2.2 q.2.2) kvs xs ∧
    ∃ o es ep, h2.get? a = some o ∧ o.ExactDict ∧ o.data = .dict es ep ∧ es.toList = xs.map (entryOfKey (nestedKind P w)) ∧ (xs.map (·.1)).Nodup) := by
  rintro h1 h2 ⟨z, y, xs, r, o, es, ep, e, c⟩ k
  exact ⟨z, y, xs, r, o, es, ep, k o e, c⟩
theorem dictN_ok {P : Program} {w : World} {H : Hp} {h : Heap} {a : Addr} {kvs : List (NestedKey × Addr × V)} {xs : List (NestedKey × Addr × Value)} (hd : (a == sysModules) = false) (hl : kvs.length ≤ sizeLine)
    (r : Paired (fun (p : NestedKey × Addr × V) (q : NestedKey × Addr × Value) => p.1 = q.1 ∧ p.2.1 = q.2.1 ∧ RelV p.2.2 q.2.2) kvs xs) (dd : h.DictOfH (nestedKind P w) a xs) : ObjOk P w H h a (DictN P w a kvs) := by
  obtain ⟨o, es, ep, h1, h2, h3, h4, _, h5⟩ := dd
  exact ⟨⟨hd, hl, xs, r, o, es, ep, h1, h2, h3, h4, h5⟩, ⟨o, h1⟩, dictN_stay⟩
/-- {} whose keys will be nested tuples -/
def tDNewN (P : Program) (w : World) : TE := fun _ H Q => ∀ p, H p = none → Q (.ref p) (upd H p (DictN P w p []))
theorem pe_dnewN {X : Cx} {pos : Pos} : PE X (.Dict [] [] pos) (tDNewN X.prog X.w) := ⟨fun pinz s σ H Q I h =>
  wpAny_Dict_empty ⟨.ref s.heap.objs.size, _, I.laid (a := s.heap.objs.size) (o := DictN X.prog X.w s.heap.objs.size []) (t' := s.toks) (fun _ _ q => Heap.get?_push_of_some _ q) (Nat.le_refl _)
    (dictN_ok (by have := I.big; exact beq_eq_false_iff_ne.mpr (Nat.ne_of_gt this)) (Nat.zero_le _) .nil (Heap.DictOfH.new s.heap)), rfl, h _ (I.hok.fresh (Nat.le_refl _))⟩⟩
section
variable {X : Cx} {pinz : List (Addr × Obj)} {σ : St} {H : Hp} {s : Shared} {a b : Addr} {A : Around} {E : Value → Shared → Prop}
theorem dictN_get {kvs : List (NestedKey × Addr × V)} (I : Inv X pinz σ H s) (e : H a = some (DictN X.prog X.w a kvs)) (hk : ∀ q ∈ kvs, NKey X.K H (.ref q.2.1) q.1 ∧ q.1.depth ≤ 8) :
    (a == sysModules) = false ∧ kvs.length ≤ sizeLine ∧ ∃ xs : List (NestedKey × Addr × Value), Paired (fun (p : NestedKey × Addr × V) (q : NestedKey × Addr × Value) => p.1 = q.1 ∧ p.2.1 = q.2.1 ∧ RelV p.2.2 q.2.2) kvs xs ∧ s.heap.DictOfH (nestedKind X.prog X.w) a xs := by
  obtain ⟨⟨z, y, xs, r, o, es, ep, h1, h2, h3, h4, h5⟩, _⟩ := I.hok a _ e
  refine ⟨z, y, xs, r, o, es, ep, h1, h2, h3, h4, fun x hx => ?_, h5⟩
  have all : ∀ {l : List (NestedKey × Addr × V)} {m : List (NestedKey × Addr × Value)}, Paired (fun (p : NestedKey × Addr × V) (q : NestedKey × Addr × Value) => p.1 = q.1 ∧ p.2.1 = q.2.1 ∧ RelV p.2.2 q.2.2) l m → (∀ q ∈ l, NKey X.K H (.ref q.2.1) q.1 ∧ q.1.depth ≤ 8) → ∀ x ∈ m, (nestedKind X.prog X.w).is s.heap x.1 x.2.1 := by
    intro l m q
    induction q with
    | nil => intro _ x hx; exact nomatch hx
    | @cons p q ps qs wq t ih =>
      intro hl x hx
      rcases List.mem_cons.mp hx with e | hx
      · subst e
        have := hl p List.mem_cons_self
        rw [← wq.1, ← wq.2.1]
        exact ⟨NKey.is I _ _ _ this.1 rfl, this.2⟩
      · exact ih (fun q wq => hl q (List.mem_cons_of_mem _ wq)) x hx
  exact all r hk x hx
theorem dn_setd {kvs : List (NestedKey × Addr × V)} {k : NestedKey} {d : V} {r : Value} {Q : Value → Shared → Prop} (hu : A.units + 9 < cLine) (I : Inv X pinz σ H s) (e : H a = some (DictN X.prog X.w a kvs)) (hk : ∀ q ∈ kvs, NKey X.K H (.ref q.2.1) q.1 ∧ q.1.depth ≤ 8)
    (ky : NKey X.K H (.ref b) k) (kd : k.depth ≤ 8) (rd : RelV d r) (hl : kvs.length < sizeLine)
    (h1 : ∀ v, atN kvs k = some v → ∀ (w' : Value) (s' : Shared), Inv X pinz σ H s' → RelV v w' → Q w' s') (h2 : atN kvs k = none → ∀ (w' : Value) (s' : Shared), Inv X pinz σ (upd H a (DictN X.prog X.w a (kvs ++ [(k, b, d)]))) s' → RelV d w' → Q w' s') :
    wpAny (model X.prog X.w) A (call (.builtin "dict.setdefault") [.ref a, .ref b, r]) Q E s := by
  obtain ⟨hd, z, xs, rel, dd⟩ := dictN_get I e hk
  have wz : xs.length ≤ sizeLine := by rw [← Paired.length rel]; exact z
  have rl := atN_rel rel k
  refine call_setdefault_heap (hsz := wz) (knd := nestedKind X.prog X.w) (show A.in1.units + 8 < cLine from by show A.units + 1 + 8 < cLine; omega) ⟨NKey.is I _ _ _ ky rfl, kd⟩ hd dd (fun p hp => ?_) fun hn h' dd' hs => ?_
  · rw [hp] at rl
    cases q0 : atN kvs k with
    | none => rw [q0] at rl; exact (show False from rl).elim
    | some v0 => rw [q0] at rl; exact h1 v0 q0 _ _ (I.tok _) rl
  · rw [hn] at rl
    cases q0 : atN kvs k with
    | some v0 => rw [q0] at rl; exact (show False from rl).elim
    | none =>
      rw [storedH_new hn] at dd'
      have he : ∃ q, h'.get? a = some q := let ⟨q, _, _, wq, _⟩ := dd'; ⟨q, wq⟩
      refine h2 q0 _ _ (d_write (t' := s.toks + (nestedKind X.prog X.w).draws k) I (by rw [e]; exact True.intro) hs he (dictN_ok hd ?_ (Paired.snoc rel ⟨rfl, rfl, rd⟩) dd')) rd
      rw [List.length_append]
      exact hl
end
/-- d.setdefault(y, z), y a tuple -/
def tDSetdN (K : PySem.W.Frag) (P : Program) (w : World) (td ty tx : TE) : TE := fun σ H Q => td σ H fun x H1 => ∃ a, x = .ref a ∧ (∃ kvs, H1 a = some (DictN P w a kvs)) ∧ ty σ H1 fun y H2 => tx σ H2 fun z H3 => ∃ (kvs : List (NestedKey × Addr × V)) (k : NestedKey) (b : Addr),
  H3 a = some (DictN P w a kvs) ∧ y = .ref b ∧ (∀ q ∈ kvs, NKey K H3 (.ref q.2.1) q.1 ∧ q.1.depth ≤ 8) ∧ NKey K H3 (.ref b) k ∧ k.depth ≤ 8 ∧ kvs.length < sizeLine ∧
  (∀ v, atN kvs k = some v → Q v H3) ∧ (atN kvs k = none → Q z (upd H3 a (DictN P w a (kvs ++ [(k, b, z)]))))
section
variable {X : Cx} {o e f : Expr} {td ty tx : TE} {apos cpos : Pos}
theorem pe_dsetdN (hu : X.A.units + 9 < cLine) (ho : PE X o td) (he : PE X e ty) (hf : PE X f tx) (m : M2 X o "setdefault" apos e f cpos) : PE X (.Call (.Attribute o "setdefault" apos) [e, f] [] cpos) (tDSetdN X.K X.prog X.w td ty tx) := by
  refine ⟨fun pinz s σ H Q I h => ?_⟩
  refine wpAny_Call_method m.base m.few m.line PySem.F.plainAttrs_dict PySem.F.slot_dict_setdefault PySem.F.type_dict_setdefault (thn (ho.run pinz s σ H _ I h) fun u z1 ⟨x, H1, J1, rx, a, ex, ⟨kvs0, d0⟩, k1⟩ => ?_)
  subst ex
  obtain rfl : u = Value.ref a := rx
  have tt : z1.TypeIs (.ref a) "dict" ∧ (∀ b, Value.ref a = .ref b → ∃ ob, z1.heap.get? b = some ob ∧ ob.dict = none) := by
    obtain ⟨⟨_, _, xs, _, ob, es, ep, h1, h2, h3, _⟩, _⟩ := J1.hok a _ d0
    exact ⟨⟨ob, h1, h2.1⟩, fun b q => by cases q; exact ⟨ob, h1, h2.2.1⟩⟩
  refine ⟨tt.1, tt.2, ?_⟩
  rw [m.trees]
  refine Calls.callWith_builtin rfl (Calls.evalArgs_plain (Calls.spliced_cons (thn (he.run pinz z1 σ H1 _ J1 k1) fun iv z2 ⟨y, H2, J2, ry, k2⟩ =>
    Calls.spliced_cons (thn (hf.run pinz z2 σ H2 _ J2 k2) fun fv z3 ⟨z, H3, J3, rz, kvs, k, b, ea, ey, hk, ky, kd, hl, k3, k4⟩ => Calls.spliced_nil ?_))))
  subst ey
  obtain rfl : iv = Value.ref b := ry
  exact dn_setd hu J3 ea hk ky kd rz hl (fun v hv w' z4 I4 rw' => ⟨v, _, I4, rw', k3 v hv⟩) fun hn w' z4 I4 rw' => ⟨z, _, I4, rw', k4 hn⟩
end

/-! ### enumerate(t), t a tuple -/
theorem meets_enumerate_new1 {v : Value} {o : Obj} {H : Heap → Prop} (B : Begins v o H) :
    Meets (Builtin.«enumerate.__new__» ⟨[.type "enumerate", v], []⟩) (fun _ R s => H s.heap ∧
      R (.ok (.ret (.ref (s.heap.push o).objs.size))) { s with heap := (s.heap.push o).push { cls := .type "enumerate", data := .fields #[.none, .bool false, .ref s.heap.objs.size, rawInt 0, .none, .none] } }) :=
  .of_wp fun prog w A R s h => by
    obtain ⟨hp0, g, d, tk0, os0⟩ := s; obtain ⟨h1, h⟩ := h
    have wsub := sub_enumerate
    have k1 : ∀ {A' : Around} {E : Value → Shared → Prop} {Q : Value → Shared → Prop}, Q (.ref hp0.objs.size) ⟨hp0.push o, g, d, tk0, os0⟩ → wpAny (model prog w) A' (pyIter v) Q E ⟨hp0, g, d, tk0, os0⟩ :=
      fun q => B.iter prog w _ _ ⟨hp0, g, d, tk0, os0⟩ _ h1 q
    wp_walk using k1
    refine wpAny_stack_any fun st0 => wpAny_pure ?_
    split
    · rename_i c _ _ _ _ _
      cases (c == Value.type "enumerate")
      · wp_walk using k1
        exact ⟨_, rfl, h⟩
      · wp_walk using k1
        exact ⟨_, rfl, h⟩
    · wp_walk using k1
      exact ⟨_, rfl, h⟩
section
variable {prog : Program} {w : World} {A : Around} {E : Value → Shared → Prop} {s : Shared}
theorem enum_begins1 {v : Value} {o : Obj} {H : Heap → Prop} {Q : Value → Shared → Prop} (B : Begins v o H) (h1 : H s.heap)
    (h : ∀ h', IsEnum h' (s.heap.objs.size + 1) s.heap.objs.size 0 .none → h'.get? s.heap.objs.size = some o → h'.objs.size = s.heap.objs.size + 2 →
      (∀ b o, s.heap.get? b = some o → h'.get? b = some o) →
      Q (.ref (s.heap.objs.size + 1)) { s with heap := h' }) :
    wpAny (model prog w) A (call (.type "enumerate") [v]) Q E s := by
  refine callType_new F.called_enumerate (by decide)
    (F.typeCall_enumerate_1 _) (F.newCall_enumerate_1 _) (fun obj => F.args_object_init_2 obj _) F.entry_enumerate_new
    (meets_enumerate_new1 B) ⟨h1, ?_⟩
  have wz : (s.heap.push o).objs.size = s.heap.objs.size + 1 := Heap.size_push ..
  show _ ∧ _
  rw [wz]
  have he0 : IsEnum ((s.heap.push o).push { cls := .type "enumerate", data := .fields #[.none, .bool false, .ref s.heap.objs.size, rawInt 0, .none, .none] }) (s.heap.objs.size + 1) s.heap.objs.size 0 .none := by
    have := Heap.get?_push_size (s.heap.push o) (o := { cls := .type "enumerate", data := .fields #[.none, .bool false, .ref s.heap.objs.size, rawInt 0, .none, .none] }) rfl
    rw [wz] at this; exact this
  refine ⟨⟨_, he0, rfl⟩, h _ he0 (Heap.get?_push_of_some _ (Heap.get?_push_size _ B.free)) (by rw [Heap.size_push, wz]) fun b o x => Heap.get?_push_of_some _ (Heap.get?_push_of_some _ x)⟩
end
/-- the tuple at a as it stands at each turn, each item in a new pair -/
def IteT (K : PySem.W.Frag) (a : Addr) : It :=
  ⟨fun i H => ∃ (ws : List V) (x : V), SqT K H a ws ∧ ws[i]? = some x, fun i H v H' => ∃ T x, v = .ref T ∧ H T = none ∧ H' = upd H T (.tup [.int (i : Nat), x]) ∧ ∀ ws, SqT K H a ws → ws[i]? = some x, fun i H => ∃ ws : List V, SqT K H a ws ∧ ws.length = i⟩
theorem turn_enumT {P : Program} {w : World} {K : PySem.W.Frag} {elts : List Expr} {kk : Nat} {tpos : Pos} (a e it : Addr) (hai : a ≠ it) (hae : a ≠ e) (hei : e ≠ it) :
    Turn P w K (.Tuple elts kk tpos) (IteT K a) [e, it] e (fun i h => (∃ old, IsEnum h e it ((i : Nat) : Int) old) ∧ h.IsTupleIter it a i) where
  mem := by simp
  obj := fun i h st0 b hb0 => by
    obtain ⟨⟨old, he0⟩, ⟨o, ho0, hc0, hd⟩⟩ := st0
    have yy : b = e ∨ b = it := by simpa using hb0
    rcases yy with z | z
    · rw [z]; exact ⟨_, he0, fun v q => nomatch q⟩
    · rw [z]; exact ⟨o, ho0, fun v q => by rw [hd] at q; cases q⟩
  keep := fun i h h' st0 k => let ⟨⟨old, he0⟩, hi⟩ := st0; ⟨⟨old, k e (by simp) _ he0⟩, hi.at fun o q => k it (by simp) o q⟩
  item := by
    intro X hP hw hK hc0 i pinz s σ H E I hf st0 hg
    subst hP hw hK
    obtain ⟨⟨old, he0⟩, wit⟩ := st0
    obtain ⟨ws, x, wq, hx⟩ := hg
    obtain ⟨its, rV, p, wz⟩ := I.tuple wq
    obtain ⟨u, hu, ru⟩ := rV.get hx
    have wel : e < s.heap.objs.size := Heap.lt_size he0
    have wil : it < s.heap.objs.size := by obtain ⟨_, q, _⟩ := wit; exact Heap.lt_size q
    have D := Draws.tuple (prog := X.prog) (w := X.w) (A := X.A.in1) (I.ok.hd hc0) it a hai its.toArray
    refine wpAny_pyNext_enum_itemD D he0 ⟨wit, p⟩ (by
      have := (List.getElem?_eq_some_iff.mp hu).1
      simpa using this) hei (by simp [hei, hae.symm]) fun x' h' tk0 hP ho0 stt hT hsz hk0 => ?_
    have ex' : x' = u := by
      have hPp : its[i]? = some x' := by simpa using hP
      rw [hu] at hPp
      exact (Option.some.inj hPp).symm
    subst ex'
    refine ⟨_, rfl, wpAny_letOwnedTupleGo_enum (s := { s with heap := h', toks := tk0 + 1 }) ho0 fun hh2 he' sb => ?_⟩
    have wT2 : hh2.get? s.heap.objs.size = some { cls := .type "tuple", data := .seq #[.int i tk0, x'] } := (sb.2 _ (Nat.ne_of_gt wel)).trans hT
    have new : ObjOk X.prog X.w (upd H s.heap.objs.size (.tup [.int (i : Nat), x])) hh2 s.heap.objs.size (.tup [.int (i : Nat), x]) :=
      ⟨by show 2 ≤ sizeLine; decide, [.int i tk0, x'], .cons ⟨_, rfl⟩ (.cons ru .nil), ⟨_, wT2, rfl, _, rfl⟩⟩
    have J1 : Inv X pinz σ (upd H s.heap.objs.size (.tup [.int (i : Nat), x])) { s with heap := hh2, toks := tk0 + 1 } :=
      I.turnedNew (ch := [e, it]) (fun b ob0 hb0 q => (sb.2 b (fun z => hb0 (by simp [z]))).trans (hk0 b ob0 (fun z => hb0 (by simp [z])) (fun z => hb0 (by simp [z])) q)) hf (Nat.le_refl _) new
    refine ⟨.ref s.heap.objs.size, _, J1, rfl, ⟨_, x, rfl, I.hok.fresh (Nat.le_refl _), rfl, fun ys hy => by rw [I.tuple_inj hy wq]; exact hx⟩, ⟨⟨x', ?_⟩, stt.1.at fun o q => (sb.2 it (Ne.symm hei)).trans q⟩, fun b hb0 => ?_⟩
    · have ee1 : ((i + 1 : Nat) : Int) = (i : Int) + 1 := by omega
      rw [ee1]; exact he'
    · have wb' : b < s.heap.objs.size := by
        have yy : b = e ∨ b = it := by simpa using hb0
        rcases yy with z | z
        · rw [z]; exact wel
        · rw [z]; exact wil
      rw [upd_ne (Nat.ne_of_lt wb')]
      exact (hf b hb0).1
  done := by
    intro X hP hw hK hc0 i pinz s σ H E I hf st0 hg
    subst hP hw hK
    obtain ⟨⟨old, he0⟩, wit⟩ := st0
    obtain ⟨ws, wq, hx⟩ := hg
    obtain ⟨its, rV, p, wz⟩ := I.tuple wq
    obtain ⟨u0, u1, u2, u3, u4, u5⟩ := hf it (by simp)
    have hl := rV.length
    have D := Draws.tuple (prog := X.prog) (w := X.w) (A := X.A.in1) (I.ok.hd hc0) it a hai its.toArray
    have hn : its.toArray.size = i := by rw [List.size_toArray]; omega
    have stt : s.heap.IsTupleIter it a its.toArray.size ∧ s.heap.IsTuple a its.toArray := ⟨by rw [hn]; exact wit, p⟩
    exact wpAny_pyNext_enum_endD D he0 stt fun h' eb => ⟨rfl, I.turned (t' := s.toks) (fun b o hb0 q => eb b o hb0 q) u0 u1 u3 u4 u5⟩
  self := fun A i s Q E st0 h => let ⟨⟨_, he0⟩, _⟩ := st0; wpAny_pyIter_enum he0 h

def iEnumT (K : PySem.W.Frag) (ta : TA) : TI := fun σ H R => ta σ H fun vs H1 => ∃ a ws, vs = [.ref a] ∧ SqT K H1 a ws ∧ R (IteT K a) H1
theorem pi_enumT {X : Cx} {e : Expr} {ta : TA} {p pos tpos : Pos} {elts : List Expr} {kk : Nat} (hg : Gl X "enumerate") (hm : X.mg "enumerate" = none) (ha : PA X [e] ta) (hs : starEach [e] X.env = [(false, eval e X.env)] := by rfl) :
    PI X (.Tuple elts kk tpos) (.Call (.Name "enumerate" p) [e] [] pos) (iEnumT X.K ta) := by
  refine ⟨fun pinz s σ H R I h => ?_⟩
  refine Call_ (ld_blt I hg hm boot_enumerate (PyProof.Rows.callWith_type1 (thn (ha.run pos pinz s σ H _ I h) fun us z1 ⟨vs, H1, J1, r1, k1⟩ => ?_) hs rfl))
  obtain ⟨a, ws, ex, wq, q⟩ := k1
  subst ex
  cases r1 with
  | cons r rr =>
    cases rr
    cases r
    obtain ⟨its, rV, p', wz⟩ := J1.tuple wq
    have wal : a < z1.heap.objs.size := by obtain ⟨o, ho0, _⟩ := p'; exact Heap.lt_size ho0
    refine enum_begins1 (begins_tuple a its.toArray) p' fun h' he0 wit hsz hk0 => wpAny_pyIter_enum he0 ?_
    have J2 : Inv X pinz σ H1 { z1 with heap := h' } := J1.kept (t' := z1.toks) hk0
    refine ⟨z1.heap.objs.size + 1, [z1.heap.objs.size + 1, z1.heap.objs.size], _, _, H1, rfl, J2, turn_enumT a (z1.heap.objs.size + 1) z1.heap.objs.size (Nat.ne_of_lt wal) (Nat.ne_of_lt (Nat.lt_succ_of_lt wal)) (Nat.succ_ne_self _), ⟨⟨.none, he0⟩, ⟨_, wit, rfl, rfl⟩⟩, fun b hb0 => ?_, q⟩
    have yy : b = z1.heap.objs.size + 1 ∨ b = z1.heap.objs.size := by simpa using hb0
    have wle : z1.heap.objs.size ≤ b := by
      rcases yy with z | z
      · rw [z]; exact Nat.le_add_right _ _
      · rw [z]; exact Nat.le_refl _
    exact J1.fpOk wle (J1.hok.fresh wle)
/-- a loop over enumerate of a tuple that stands still -/
theorem for_enumT {K : PySem.W.Frag} {a : Addr} {ws : List V} {g : TG} {tb : TS} {D : Ends} {σ : St} {H : Hp} (Pw : Nat → St → Hp → Prop) (h0 : Pw 0 σ H) (hl : ∀ i σ H, i ≤ ws.length → Pw i σ H → SqT K H a ws)
    (hs : ∀ i x T σ H, ws[i]? = some x → Pw i σ H → H T = none → g (.ref T) σ (upd H T (.tup [.int (i : Nat), x])) fun σ2 H2 => tb { D with nx := Pw (i + 1), ct := Pw (i + 1), bk := D.nx } σ2 H2) (hd : ∀ σ H, Pw ws.length σ H → D.nx σ H) :
    ∃ W : Nat → Nat → St → Hp → Prop, (∃ m, W 0 m σ H) ∧
      ∀ i m σ H, W i m σ H →
      ((IteT K a).stop i H ∧ D.nx σ H) ∨ ((IteT K a).go i H ∧ ∃ N : St → Hp → Prop, (∀ σ' H', N σ' H' → ∃ m', m' < m ∧ W (i + 1) m' σ' H') ∧ ∀ x H', (IteT K a).yld i H x H' → g x σ H' fun σ2 H2 => tb { D with nx := N, ct := N, bk := D.nx } σ2 H2) := by
  refine ⟨fun i m σ H => m = ws.length - i ∧ i ≤ ws.length ∧ Pw i σ H, ⟨ws.length, by simp, Nat.zero_le _, h0⟩, ?_⟩
  rintro i m σ H ⟨rfl, hi, p⟩
  have q := hl i σ H hi p
  by_cases hlt0 : i < ws.length
  · refine .inr ⟨⟨ws, ws[i], q, by simp [hlt0]⟩, Pw (i + 1), fun σ' H' p' => ⟨ws.length - (i + 1), by omega, rfl, hlt0, p'⟩, fun x H' y => ?_⟩
    obtain ⟨T, x', ee1, nT, e2, y⟩ := y
    subst ee1 e2
    exact hs i x' T σ H (y ws q) p nT
  · have e : i = ws.length := by omega
    subst e
    exact .inl ⟨⟨ws, q, rfl⟩, hd σ H p⟩

/-! ### a def of the text, by its name -/
structure Has (P : Program) (w : World) (K : PySem.W.Frag) (mg : Str → Option Value) (base : Heap) (x : Str) (k : Nat) (ps : List Str) (sp : Sp) : Prop where
  ex : ∃ (f : Addr) (fd : FuncData), mg x = some (.ref f) ∧ PySem.W.keepIn K (.ref f) = true ∧ Binds K fd ps [] ∧ FnOk P w K mg base CX0 k f fd ps sp
theorem Has.mk' {P : Program} {w : World} {K : PySem.W.Frag} {mg : Str → Option Value} {base : Heap} {x : Str} {k : Nat} {ps : List Str} {sp : Sp} {f : Addr} {fd : FuncData} (h1 : mg x = some (.ref f)) (h2 : PySem.W.keepIn K (.ref f) = true) (h3 : Binds K fd ps []) (h4 : FnOk P w K mg base CX0 k f fd ps sp) : Has P w K mg base x k ps sp := ⟨⟨f, fd, h1, h2, h3, h4⟩⟩
theorem pe_has {X : Cx} {x : Str} {k : Nat} {ps : List Str} {sp : Sp} {e : Expr} {es : List Expr} {t : TA} {p pos : Pos} (h : Has X.prog X.w X.K X.mg X.base x k ps sp) (hr : Room k X.A) (hg : Gl X x)
    (ha : PA X (e :: es) t)
    (hdb : (x == ("__debug__" : Str)) = false := by decide) (he : starEach (e :: es) X.env = (false, eval e X.env) :: starEach es X.env := by rfl) (hpl : (backTo pos (starEach es X.env)).any (·.1) = false := by rfl) :
    PE X (.Call (.Name x p) (e :: es) [] pos) (tCall sp [] E0 t) := by
  obtain ⟨f, fd, h1, h2, h3, h4⟩ := h.ex
  exact pe_call h4 hr hg h1 h2 h3 .nil pass0 ha hdb he hpl
theorem pe_globI {X : Cx} {x : Str} {n : Int} {pos : Pos} (hg : Gl X x) (h : ∃ t, X.mg x = some (.int n t)) (hd : (x == ("__debug__" : Str)) = false := by decide) (hcd : True := trivial) : PE X (.Name x pos) (tC (.int n)) := by
  obtain ⟨t, e⟩ := h
  exact pe_glob hg e ⟨_, rfl⟩ hd
/-! ### tuples of whole numbers, tables, machines -/
def nV (n : Nat) : V := .int (n : Int)
def rowV (r : List Nat) : List V := r.map nV
def RowAt (K : PySem.W.Frag) (H : Hp) (v : V) (r : List Nat) : Prop := ∃ a, v = .ref a ∧ SqT K H a (rowV r)
def TabAt (K : PySem.W.Frag) (H : Hp) (v : V) (t : List (List Nat)) : Prop := ∃ a vs, v = .ref a ∧ SqT K H a vs ∧ Paired (RowAt K H) vs t
def MacAt (K : PySem.W.Frag) (H : Hp) (v : V) (s t : List (List Nat)) : Prop := ∃ a x y, v = .ref a ∧ SqT K H a [x, y] ∧ TabAt K H x s ∧ TabAt K H y t
theorem TK.refl {K : PySem.W.Frag} {H : Hp} : TK K H H := fun _ _ h => h
theorem TK.trans {K : PySem.W.Frag} {H H1 H2 : Hp} (a : TK K H H1) (b : TK K H1 H2) : TK K H H2 := fun x xs h => b x xs (a x xs h)
theorem TK.ex {K : PySem.W.Frag} {H H' : Hp} (e : Evl.Ex H H') : TK K H H' := fun _ _ h => Evl.ex_t e h
theorem TK.upd {K : PySem.W.Frag} {H : Hp} {a : Addr} {o o' : HO} (h : H a = some o) (hn : ∀ xs, o ≠ .tup xs) (hf : ∀ ob xs, o ≠ .frz ob (.tup xs)) : TK K H (upd H a o') := fun b xs q => by
  rcases q with (q | ⟨ob, q⟩) | q
  · exact .inl (.inl (by rw [upd_ne (fun e => by subst e; rw [h] at q; exact hn _ (Option.some.inj q))]; exact q))
  · exact .inl (.inr ⟨ob, by rw [upd_ne (fun e => by subst e; rw [h] at q; exact hf _ _ (Option.some.inj q))]; exact q⟩)
  · exact .inr q
theorem TK.lst {K : PySem.W.Frag} {H : Hp} {a : Addr} {xs : List V} {o' : HO} (h : H a = some (.lst xs)) : TK K H (L2.upd H a o') := TK.upd h (fun _ z => by cases z) (fun _ _ z => by cases z)
theorem RowAt.keep {K : PySem.W.Frag} {H H' : Hp} (e : TK K H H') {v : V} {r : List Nat} (h : RowAt K H v r) : RowAt K H' v r := let ⟨a, h1, h2⟩ := h; ⟨a, h1, e _ _ h2⟩
theorem TabAt.keep {K : PySem.W.Frag} {H H' : Hp} (e : TK K H H') {v : V} {t : List (List Nat)} (h : TabAt K H v t) : TabAt K H' v t := let ⟨a, vs, h1, h2, h3⟩ := h; ⟨a, vs, h1, e _ _ h2, Paired.mapP h3 fun _ _ q => q.keep e⟩
theorem MacAt.keep {K : PySem.W.Frag} {H H' : Hp} (e : TK K H H') {v : V} {s t : List (List Nat)} (h : MacAt K H v s t) : MacAt K H' v s t := let ⟨a, x, y, h1, h2, h3, h4⟩ := h; ⟨a, x, y, h1, e _ _ h2, h3.keep e, h4.keep e⟩
theorem Paired.get {α β : Type} {F : α → β → Prop} : ∀ {l : List α} {m : List β} {i : Nat} {y : β}, Paired F l m → m[i]? = some y → ∃ x, l[i]? = some x ∧ F x y
  | _, _, _, _, .nil, e => by simp at e
  | _, _, 0, _, .cons r _, e => by simp at e; subst e; exact ⟨_, rfl, r⟩
  | _, _, i + 1, y, .cons _ t, e => by
    obtain ⟨u, h1, h2⟩ := Paired.get (i := i) (y := y) t (by simpa using e)
    exact ⟨u, by simpa using h1, h2⟩
theorem Paired.get' {α β : Type} {F : α → β → Prop} : ∀ {l : List α} {m : List β} {i : Nat} {x : α}, Paired F l m → l[i]? = some x → ∃ y, m[i]? = some y ∧ F x y
  | _, _, _, _, .nil, e => by simp at e
  | _, _, 0, _, .cons r _, e => by simp at e; subst e; exact ⟨_, rfl, r⟩
  | _, _, i + 1, y, .cons _ t, e => by
    obtain ⟨u, h1, h2⟩ := Paired.get' (i := i) (x := y) t (by simpa using e)
    exact ⟨u, by simpa using h1, h2⟩
theorem rowV_at {r : List Nat} {i n : Nat} (h : r[i]? = some n) : (rowV r)[i]? = some (nV n) := by unfold rowV; rw [List.getElem?_map, h]; rfl
theorem rowV_len (r : List Nat) : (rowV r).length = r.length := by unfold rowV; rw [List.length_map]
/-- an all of a comprehension's answers: each item true -/
theorem small {n : Nat} (h : n ≤ 100000) : n < sizeLine := Nat.lt_of_le_of_lt h (by decide)
theorem sqT_ty {K : PySem.W.Frag} {H : Hp} {a : Addr} {xs : List V} (h : SqT K H a xs) : TyX K H (.ref a) (.type "tuple") := by
  rcases h with (h | ⟨o, h⟩) | ⟨o, its, n, e, c, _⟩
  · exact .base (.tup h)
  · exact .fTuple h
  · exact .kTuple e c
theorem sqL_ty {K : PySem.W.Frag} {H : Hp} {a : Addr} {xs : List V} (h : SqL K H a xs) : TyX K H (.ref a) (.type "list") := by
  rcases h with (h | ⟨o, h⟩) | ⟨o, its, n, e, c, _⟩
  · exact .base (.lst h)
  · exact .base (.frz h)
  · exact .kList e c
/-! ### what evaluates to what: tuples -/
open Evl
section
variable {K : PySem.W.Frag} {σ : L2.St} {H H' : Hp} {ta tb te tx : TE} {t u : TT} {x y z v : V} {D : Ends} {tu tw tz : TS} {g : TG}
theorem ev_isi {T U : String} {b : Bool} (ha : Ev ta σ H x) (hy : ∀ H1, Ex H H1 → TyX K H1 x (.type T)) (hk : kitB T U = some b) : Ev (tCB (rIsi K) (tCons ta (tCons (tC (.ty U)) tNil))) σ H (.bl b) := fun H1 e Q q =>
  ha H1 e _ fun H2 e2 => ⟨x, .ty U, _, _, b, rfl, .ty _, hy H2 (e.trans e2), kit_ty hk, q H2 e2⟩
theorem ev_lenT {p : Addr} {xs : List V} (ha : Ev ta σ H (.ref p)) (h : SqT K H p xs) : Ev (tCB (rLenS K) (tCons ta tNil)) σ H (.int (xs.length : Int)) := fun H1 e Q q =>
  ha H1 e _ fun H2 e2 => ⟨p, xs, rfl, Or.inr (ex_t (e.trans e2) h), q H2 e2⟩
theorem ev_allN {n : Nat} (ha : EvL ta σ H ((List.range n).map fun _ => V.bl true)) : Ev (tCB (rAll K) (tCons ta tNil)) σ H (.bl true) := fun H1 e Q q =>
  ha H1 e _ fun p H2 _ e2 h2 => ⟨p, (List.range n).map fun _ => true, rfl, sq_of (by rw [h2, List.map_map]; rfl), by
    have : ((List.range n).map fun _ => true).all id = true := by rw [List.all_eq_true]; intro b hb; obtain ⟨_, _, e⟩ := List.mem_map.mp hb; rw [← e]; rfl
    rw [this]
    exact q H2 e2⟩
theorem ev_chainLe {a b c : Int} (ha : Ev ta σ H (.int a)) (hb : Ev tb σ H (.int b)) (hc : Ev te σ H (.int c)) : Ev (tChain (rI0 fun i j => .bl (decide (i ≤ j))) (rI0 fun i j => .bl (decide (i ≤ j))) ta tb te) σ H (.bl (decide (a ≤ b) && decide (b ≤ c))) := fun H1 e Q q =>
  ha H1 e _ fun H2 e2 => hb H2 (e.trans e2) _ fun H3 e3 => ⟨a, b, rfl, rfl, decide (a ≤ b), rfl, by
    by_cases h : a ≤ b
    · rw [decide_eq_true h]
      refine iteT (hc H3 ((e.trans e2).trans e3) _ fun H4 e4 => ⟨b, c, rfl, rfl, ?_⟩)
      have := q H4 ((e2.trans e3).trans e4)
      rw [decide_eq_true h, Bool.true_and] at this
      exact this
    · rw [decide_eq_false h]
      refine iteF ?_
      have := q H3 (e2.trans e3)
      rw [decide_eq_false h, Bool.false_and] at this
      exact this⟩
def gvn (n : Nat) (v : Nat → V) : List V := (List.range n).map v
theorem gvn_succ (n : Nat) (v : Nat → V) : gvn (n + 1) v = gvn n v ++ [v n] := by unfold gvn; rw [List.range_succ, List.map_append]; rfl
theorem gvn_len (n : Nat) (v : Nat → V) : (gvn n v).length = n := by unfold gvn; rw [List.length_map, List.length_range]
def Cv (H : Hp) (v : Nat → V) (Dl : Addr) (i : Nat) (H' : Hp) : Prop := H Dl = none ∧ Ex H H' ∧ H' Dl = some (.lst (gvn i v))
theorem cv_turn {H H' : Hp} {v : Nat → V} {Dl : Addr} {i : Nat} {σ2 : L2.St} (p : Cv H v Dl i H') (hi : i < 50000) (he : Ev te σ2 H (v i)) :
    tYes σ2 H' fun b H3 => if b = true then te σ2 H3 fun y H4 => ∃ acc, H4 Dl = some (.lst acc) ∧ acc.length < sizeLine ∧ Cv H v Dl (i + 1) (upd H4 Dl (.lst (acc ++ [y]))) else Cv H v Dl (i + 1) H3 := by
  obtain ⟨p1, p2, p3⟩ := p
  show te σ2 H' fun y H4 => ∃ acc, H4 Dl = some (.lst acc) ∧ acc.length < sizeLine ∧ Cv H v Dl (i + 1) (upd H4 Dl (.lst (acc ++ [y])))
  refine he H' p2 _ fun H4 e4 => ⟨gvn i v, e4 Dl _ p3, sz_lt (by rw [gvn_len]; omega), p1, Ex.mut (p2.trans e4) p1, ?_⟩
  rw [gvn_succ]
  exact upd_same
/-- [e for x in t], t a tuple -/
theorem el_lcT {a : Addr} {xs : List V} {tl : TE} {j : Nat} {vs : List Nat} (v : Nat → V) (h : Ev tl σ H (.ref a)) (hx : SqT K H a xs) (wz : xs.length ≤ 40000) (hw : ∀ x, wipe ((wipe σ vs).set j (some x)) vs = wipe σ vs)
    (he : ∀ (i : Nat) (x : V) H1, Ex H H1 → xs[i]? = some x → Ev te ((wipe σ vs).set j (some x)) H1 (v i)) :
    EvL (tLc (iTup K tl) (gName j) tYes te vs) σ H (gvn xs.length v) := fun H0 e Q q => h H0 e _ fun H1 e1 => ⟨a, rfl, ⟨xs, ex_t (e.trans e1) hx⟩, fun Dl hD =>
  lc_tup (xs := xs) (Cv H1 v Dl) ⟨hD, Ex.new hD, upd_same⟩ (fun i H' _ p => ex_t ((e.trans e1).trans p.2.1) hx) (fun i x H' hi p => ⟨hw x, cv_turn p (by have := (List.getElem?_eq_some_iff.mp hi).1; omega) (he i x H1 (e.trans e1) hi)⟩)
    (fun H' p => q Dl H' (fresh_back e1 p.1) (e1.trans p.2.1) p.2.2)⟩
theorem el_lcLv {a : Addr} {xs : List V} {tl : TE} {j : Nat} {vs : List Nat} (v : Nat → V) (h : Ev tl σ H (.ref a)) (hx : SqL K H a xs) (wz : xs.length ≤ 40000) (hw : ∀ x, wipe ((wipe σ vs).set j (some x)) vs = wipe σ vs)
    (he : ∀ (i : Nat) (x : V) H1, Ex H H1 → xs[i]? = some x → Ev te ((wipe σ vs).set j (some x)) H1 (v i)) :
    EvL (tLc (iList K tl) (gName j) tYes te vs) σ H (gvn xs.length v) := fun H0 e Q q => h H0 e _ fun H1 e1 => ⟨a, rfl, ⟨xs, ex_l (e.trans e1) hx⟩, fun Dl hD =>
  lc_list (xs := xs) (Cv H1 v Dl) ⟨hD, Ex.new hD, upd_same⟩ (fun i H' _ p => ex_l ((e.trans e1).trans p.2.1) hx) (fun i x H' hi p => ⟨hw x, cv_turn p (by have := (List.getElem?_eq_some_iff.mp hi).1; omega) (he i x H1 (e.trans e1) hi)⟩)
    (fun H' p => q Dl H' (fresh_back e1 p.1) (e1.trans p.2.1) p.2.2)⟩
theorem el_lcRv {ta : TA} {j : Nat} {vs : List Nat} {n : Int} (v : Nat → V) (h : EvA ta σ H [.int n]) (hn : 0 ≤ n ∧ n ≤ 40000) (hw : ∀ x, wipe ((wipe σ vs).set j (some x)) vs = wipe σ vs)
    (he : ∀ (i : Nat) H1, Ex H H1 → (i : Int) < n → Ev te ((wipe σ vs).set j (some (.int (i : Int)))) H1 (v i)) :
    EvL (tLc (iRng1 ta) (gName j) tYes te vs) σ H (gvn n.toNat v) := fun H0 e Q q => h H0 e _ fun H1 e1 => ⟨n, rfl, by omega, by omega, fun Dl hD =>
  lc_range (lo := 0) (n := n.toNat) (Cv H1 v Dl) ⟨hD, Ex.new hD, upd_same⟩ (fun i H' hi p => by
    have z0 : (0 : Int) + (i : Int) = (i : Int) := Int.zero_add _
    show wipe ((wipe σ vs).set j (some (.int ((0 : Int) + (i : Int))))) vs = wipe σ vs ∧ tYes ((wipe σ vs).set j (some (.int ((0 : Int) + (i : Int))))) H' fun b H3 => if b = true then te ((wipe σ vs).set j (some (.int ((0 : Int) + (i : Int))))) H3 fun y H4 => ∃ acc, H4 Dl = some (.lst acc) ∧ acc.length < sizeLine ∧ Cv H1 v Dl (i + 1) (upd H4 Dl (.lst (acc ++ [y]))) else Cv H1 v Dl (i + 1) H3
    rw [z0]
    exact ⟨hw _, cv_turn p (by omega) (he i H1 (e.trans e1) (by omega))⟩) (fun H' p => q Dl H' (fresh_back e1 p.1) (e1.trans p.2.1) p.2.2)⟩
/-- tuple([..]) -/
def rTupOf (K : PySem.W.Frag) : List V → Hp → VK → Prop := fun xs H Q => ∃ p ys, xs = [.ref p] ∧ ((SqL K H p ys ∧ ∀ l, H l = none → Q (.ref l) (upd H l (.tup ys))) ∨ (SqT K H p ys ∧ Q (.ref p) H))
theorem eu_tupN {xs : List V} (h : EvL ta σ H xs) : EvU (tCB (rTupOf K) (tCons ta tNil)) σ H xs := fun H1 e Q q =>
  h H1 e _ fun p H2 hp e2 h2 => ⟨p, xs, rfl, Or.inl ⟨sq_of h2, fun l hl => q l _ (fresh_back e2 hl) (e2.trans (Ex.new hl)) upd_same⟩⟩
theorem eu_tupL {p : Addr} {xs : List V} (h : Ev ta σ H (.ref p)) (hs : SqL K H p xs) : EvU (tCB (rTupOf K) (tCons ta tNil)) σ H xs := fun H1 e Q q =>
  h H1 e _ fun H2 e2 => ⟨p, xs, rfl, Or.inl ⟨ex_l (e.trans e2) hs, fun l hl => q l _ (fresh_back e2 hl) (e2.trans (Ex.new hl)) upd_same⟩⟩
theorem ev_callV {sp : Sp} {vs : List V} {E : XK} {ta : TA} (h : EvA ta σ H vs) (hs : ∀ H1, Ex H H1 → ∀ Q : VK, (∀ H2, Ex H1 H2 → Q z H2) → sp vs H1 Q E) : Ev (tCall sp [] E ta) σ H z := fun H1 e Q q =>
  h H1 e _ fun H2 e2 => by
    rw [List.append_nil]
    exact hs H2 (e.trans e2) Q fun H3 e3 => q H3 (e2.trans e3)
end
section
variable {X : Cx} {K : PySem.W.Frag}
theorem ix_tupK (h : X.K = K) : IxR X (rIxT K) := by subst h; exact ix_tup
theorem ix_listK (h : X.K = K) : IxR X (rIxL K) := by subst h; exact ix_list
theorem call_lenK (h : X.K = K) : CallR X (.builtin "len") (Evl.rLenS K) := by subst h; exact call_len_seq
theorem call_isi1 (h : X.K = K) : CallR X (.builtin "isinstance") (rIsi K) := by subst h; exact call_isi
theorem call_isiTu (h : X.K = K) : CallR X (.builtin "isinstance") (rIsiT K) := by subst h; exact call_isiT
theorem call_tupleK (h : X.K = K) : CallR X (.type "tuple") (rTupOf K) := by subst h; exact call_tuple_of
theorem call_listK (h : X.K = K) : CallR X (.type "list") (Evl.rListS K) := by subst h; exact call_list_of
theorem sl_tupK (h : X.K = K) : SlR X (rSlT K) := by subst h; exact sl_tup
theorem op_eqDK (h : X.K = K) (hu : X.A.units + 64 < cLine) : OpR X (compareOp .Eq) (rEqD K) := by subst h; exact op_eqD hu
theorem op_neDK (h : X.K = K) (hu : X.A.units + 64 < cLine) : OpR X (compareOp .NotEq) (rNeD K) := by subst h; exact op_neD hu
end
theorem hu9_of {A : Around} {k : Nat} (hr : Room k A) : A.units + 9 < cLine := by have := hr.units; omega
/-- len of a dict with nested keys -/
def rLenN (K : PySem.W.Frag) (P : Program) (w : World) : List V → Hp → VK → Prop := fun xs H Q => ∃ (p : Addr) (kvs : List (NestedKey × Addr × V)), xs = [.ref p] ∧ H p = some (DictN P w p kvs) ∧ (∀ q ∈ kvs, NKey K H (.ref q.2.1) q.1 ∧ q.1.depth ≤ 8) ∧ Q (.int ((kvs.length : Nat) : Int)) H
theorem call_len_DN {X : Cx} : CallR X (.builtin "len") (rLenN X.K X.prog X.w) := by
  intro pinz s σ H xs us Q I r h
  obtain ⟨p, kvs, rfl, hp, hk, q⟩ := h
  obtain ⟨u, rfl, rx⟩ := vals1 r
  obtain rfl : u = .ref p := rx
  obtain ⟨hd, z, ys, rel, dd⟩ := dictN_get I hp hk
  have hl : kvs.length = ys.length := Paired.length rel
  refine call_len_dictH hd dd
    (by rw [← hl]; rw [sizeLine_eq] at z; omega) ?_
  rw [← hl]
  exact ⟨.int ((kvs.length : Nat) : Int), H, I.tok _, ⟨_, rfl⟩, q⟩
/-! ### lists of whole numbers compared -/
def rowD (r : List Nat) : List PyData := r.map fun (n : Nat) => .int (n : Int)
theorem eqv_rows : ∀ r q : List Nat, PyData.eqvAll (rowD r) (rowD q) = decide (r = q)
  | [], [] => by simp [rowD, PyData.eqvAll]
  | [], _ :: _ => by simp [rowD, PyData.eqvAll]
  | _ :: _, [] => by simp [rowD, PyData.eqvAll]
  | x :: r, y :: q => by
    have ih := eqv_rows r q
    show (PyData.eqv (.int (x : Int)) (.int (y : Int)) && PyData.eqvAll (rowD r) (rowD q)) = decide (x :: r = y :: q)
    rw [ih]
    simp only [PyData.eqv, List.cons.injEq, Bool.decide_and]
    congr 1
    rw [Bool.beq_eq_decide_eq]
    exact decide_eq_decide.mpr Int.ofNat_inj
theorem canLay_row : ∀ r : List Nat, PyData.canLayAll0 (rowD r) = true
  | [] => by simp [rowD, PyData.canLayAll0]
  | x :: r => by
    show (PyData.canLay0 (.int (x : Int)) && PyData.canLayAll0 (rowD r)) = true
    rw [canLay_row r]
    simp [PyData.canLay0]
theorem depth_row : ∀ r : List Nat, PyData.depthAll (rowD r) = 0
  | [] => by simp [rowD, PyData.depthAll]
  | x :: r => by
    show max (PyData.depth (.int (x : Int))) (PyData.depthAll (rowD r)) = 0
    rw [depth_row r]
    simp [PyData.depth]
theorem shaped_rowL (r : List Nat) : SeqAt.shaped (.list (rowD r)) = true := by
  unfold SeqAt.shaped
  simp only [PyData.canLay0, PyData.depth, canLay_row, depth_row]
  decide
theorem dp_row {K : PySem.W.Frag} {H : Hp} : ∀ r : List Nat, DpAll K H (rowV r) (rowD r)
  | [] => .nil
  | x :: r => .cons (.int _) (dp_row r)
theorem rv_eqRows {K : PySem.W.Frag} {H : Hp} {p q : Addr} {r s : List Nat} (hp : SqL K H p (rowV r)) (wq : SqL K H q (rowV s)) : Evl.RV (rEqD K) (.ref p) (.ref q) H (.bl (decide (r = s))) := fun H1 e Q k =>
  ⟨_, _, .lst (Evl.ex_l e hp) (dp_row r), .lst (Evl.ex_l e wq) (dp_row s), shaped_rowL r, shaped_rowL s, by
    rw [show PyData.eqv (.list (rowD r)) (.list (rowD s)) = decide (r = s) by rw [PyData.eqv]; exact eqv_rows r s]
    exact k H1 (Evl.Ex.refl H1)⟩
open Evl in
theorem eu_callU {sp : Sp} {vs xs : List V} {E : XK} {ta : TA} {σ : L2.St} {H : Hp} (h : EvA ta σ H vs) (hs : ∀ H1, Ex H H1 → ∀ Q : VK, (∀ p H2, H1 p = none → Ex H1 H2 → H2 p = some (.tup xs) → Q (.ref p) H2) → sp vs H1 Q E) : EvU (tCall sp [] E ta) σ H xs := fun H1 e Q q =>
  h H1 e _ fun H2 e2 => by
    rw [List.append_nil]
    exact hs H2 (e.trans e2) Q fun p H3 hp e3 h3 => q p H3 (fresh_back e2 hp) (e2.trans e3) h3
open Evl in
theorem el_callL {sp : Sp} {vs xs : List V} {E : XK} {ta : TA} {σ : L2.St} {H : Hp} (h : EvA ta σ H vs) (hs : ∀ H1, Ex H H1 → ∀ Q : VK, (∀ p H2, H1 p = none → Ex H1 H2 → H2 p = some (.lst xs) → Q (.ref p) H2) → sp vs H1 Q E) : EvL (tCall sp [] E ta) σ H xs := fun H1 e Q q =>
  h H1 e _ fun H2 e2 => by
    rw [List.append_nil]
    exact hs H2 (e.trans e2) Q fun p H3 hp e3 h3 => q p H3 (fresh_back e2 hp) (e2.trans e3) h3
theorem rowV_snoc (r : List Nat) (n : Nat) : rowV (r ++ [n]) = rowV r ++ [nV n] := by unfold rowV; rw [List.map_append]; rfl
theorem map_of {α β : Type} {f : α → β} {l : List α} {i : Nat} {y : β} (h : (l.map f)[i]? = some y) : ∃ x, l[i]? = some x ∧ y = f x := by
  rw [List.getElem?_map] at h
  cases e : l[i]? with
  | none => rw [e] at h; cases h
  | some x => rw [e] at h; exact ⟨x, rfl, (Option.some.inj h).symm⟩
theorem ix_seqK {X : Cx} {K : PySem.W.Frag} (h : X.K = K) : IxR X (rIx K) := by subst h; exact ix_seq
/-! ### a row of draws, written at each draw: what stands but it -/
def ExB (a : Addr) (H H' : Hp) : Prop := ∀ b o, b ≠ a → H b = some o → H' b = some o
theorem ExB.refl (a : Addr) (H : Hp) : ExB a H H := fun _ _ _ h => h
theorem ExB.trans {a : Addr} {H H1 H2 : Hp} (x : ExB a H H1) (y : ExB a H1 H2) : ExB a H H2 := fun b o n h => y b o n (x b o n h)
theorem ExB.of {a : Addr} {H H' : Hp} (e : Evl.Ex H H') : ExB a H H' := fun b o _ h => e b o h
theorem ExB.upd {a : Addr} {H : Hp} {o : HO} : ExB a H (L2.upd H a o) := fun b u n h => by rw [upd_ne n]; exact h
theorem ExB.mut {a p : Addr} {H H' : Hp} {o : HO} (e : ExB a H H') (h : H p = none) : ExB a H (L2.upd H' p o) := fun b u n hb => by
  rw [upd_ne (ne_of_none hb h)]
  exact e b u n hb
theorem ExB.fresh {a p : Addr} {H H' : Hp} (e : ExB a H H') (n : p ≠ a) (h : H' p = none) : H p = none := by
  cases q : H p with
  | none => rfl
  | some o => rw [e p o n q] at h; cases h
theorem ExB.tk {K : PySem.W.Frag} {a : Addr} {H H' : Hp} {xs : List V} (e : ExB a H H') (h : H a = some (.lst xs)) : TK K H H' := fun b ys q => by
  rcases q with (q | ⟨ob, q⟩) | q
  · exact .inl (.inl (e b _ (fun z => by subst z; rw [h] at q; cases q) q))
  · exact .inl (.inr ⟨ob, e b _ (fun z => by subst z; rw [h] at q; cases q) q⟩)
  · exact .inr q
theorem ExB.seq {K : PySem.W.Frag} {a b : Addr} {H H' : Hp} {xs : List V} (e : ExB a H H') (n : b ≠ a) (h : SqL K H b xs) : SqL K H' b xs := by
  rcases h with (h | ⟨o, h⟩) | h
  · exact .inl (.inl (e _ _ n h))
  · exact .inl (.inr ⟨o, e _ _ n h⟩)
  · exact .inr h
/-- the row that the draws are taken from: the script, a place, a number, a rest -/
def RowOk (K : PySem.W.Frag) (H : Hp) (a scr : Addr) (ns : List Int) : Prop := (∃ i z q : Int, H a = some (.lst [.ref scr, .int i, .int z, .int q]) ∧ 0 ≤ i ∧ 0 ≤ z ∧ z < 2147483647) ∧ (∀ H', ExB a H H' → SqL K H' scr (ns.map V.int)) ∧ ns.length ≤ 63
theorem RowOk.lst {K : PySem.W.Frag} {H : Hp} {a scr : Addr} {ns : List Int} (h : RowOk K H a scr ns) : ∃ xs, H a = some (.lst xs) := let ⟨⟨_, _, _, h, _⟩, _⟩ := h; ⟨_, h⟩
theorem RowOk.ex {K : PySem.W.Frag} {H H' : Hp} {a scr : Addr} {ns : List Int} (h : RowOk K H a scr ns) (e : Evl.Ex H H') : RowOk K H' a scr ns := by
  obtain ⟨⟨i, z, q, h1, h2⟩, h3, h4⟩ := h
  exact ⟨⟨i, z, q, e _ _ h1, h2⟩, fun H'' x => h3 H'' ((ExB.of e).trans x), h4⟩
/-- the row as it stands at H', the script as it stood at H -/
theorem RowOk.join {K : PySem.W.Frag} {H H' : Hp} {a scr : Addr} {ns : List Int} {H'' : Hp} (h : RowOk K H a scr ns) (h' : RowOk K H' a scr ns) (e : ExB a H H'') (ea : H'' a = H' a) : RowOk K H'' a scr ns := by
  obtain ⟨_, h3, h4⟩ := h
  obtain ⟨⟨i, z, q, h1, h2⟩, _⟩ := h'
  exact ⟨⟨i, z, q, by rw [ea]; exact h1, h2⟩, fun H3 x => h3 H3 (e.trans x), h4⟩
/-- an expression that takes a draw below m -/
def EvR (K : PySem.W.Frag) (te : TE) (σ : L2.St) (H : Hp) (a scr : Addr) (ns : List Int) (m : Nat) : Prop := ∀ H1, ExB a H H1 → RowOk K H1 a scr ns → ∀ Q : VK, (∀ (r : Nat) H2, r < m → ExB a H1 H2 → RowOk K H2 a scr ns → Q (nV r) H2) → te σ H1 Q
theorem EvR.mono {K : PySem.W.Frag} {te : TE} {σ : L2.St} {H H' : Hp} {a scr : Addr} {ns : List Int} {m : Nat} (e : ExB a H H') (h : EvR K te σ H a scr ns m) : EvR K te σ H' a scr ns m := fun H1 e1 R Q q => h H1 (e.trans e1) R Q q
open Evl in
/-- [draw for x in range(..)], the number of turns itself may be drawn -/
theorem er_lcX {K : PySem.W.Frag} {ta : TA} {te : TE} {σ : L2.St} {H : Hp} {a scr : Addr} {ns : List Int} {j m : Nat} {vs : List Nat} (Pn : Nat → Prop) (h : ∀ R : List V → Hp → Prop, (∀ n H1, n ≤ 1000 → Pn n → ExB a H H1 → RowOk K H1 a scr ns → R [.int (n : Int)] H1) → ta σ H R) (hw : ∀ x, wipe ((wipe σ vs).set j (some x)) vs = wipe σ vs)
    (he : ∀ i : Nat, i < 1000 → EvR K te ((wipe σ vs).set j (some (.int (i : Int)))) H a scr ns m) (Q : VK)
    (q : ∀ p l H2, H p = none → p ≠ a → ExB a H H2 → RowOk K H2 a scr ns → H2 p = some (.lst (rowV l)) → l.length ≤ 1000 → Pn l.length → (∀ x ∈ l, x < m) → Q (.ref p) H2) : tLc (iRng1 ta) (gName j) tYes te vs σ H Q := by
  refine h _ fun n H1 hn pn e1 R => ⟨_, rfl, by omega, by omega, fun D hD => ?_⟩
  have hna : D ≠ a := fun z => by
    subst z
    obtain ⟨xs, hx⟩ := R.lst
    rw [hx] at hD
    cases hD
  have nD : H D = none := e1.fresh hna hD
  have e2 : ExB a H1 (L2.upd H1 D (.lst [])) := ExB.of (Ex.new (o := .lst []) hD)
  have R2 := R.ex (Ex.new (o := .lst []) hD)
  refine lc_range (lo := 0) (n := ((n : Int)).toNat) (fun i H' => ∃ l, ExB a H1 H' ∧ RowOk K H' a scr ns ∧ H' D = some (.lst (rowV l)) ∧ l.length = i ∧ ∀ x ∈ l, x < m) ⟨[], e2, R2, upd_same, rfl, fun _ h => by simp at h⟩ (fun i H' hi p => ?_) fun H' p => ?_
  · obtain ⟨l, p1, p2, p3, p4, p5⟩ := p
    have z0 : (0 : Int) + (i : Int) = (i : Int) := Int.zero_add _
    rw [z0]
    refine ⟨hw _, ?_⟩
    show te _ H' fun y H4 => ∃ acc, H4 D = some (.lst acc) ∧ acc.length < sizeLine ∧ ∃ l, ExB a H1 (L2.upd H4 D (.lst (acc ++ [y]))) ∧ RowOk K (L2.upd H4 D (.lst (acc ++ [y]))) a scr ns ∧ (L2.upd H4 D (.lst (acc ++ [y]))) D = some (.lst (rowV l)) ∧ l.length = i + 1 ∧ ∀ x ∈ l, x < m
    refine he i (by omega) H' (e1.trans p1) p2 _ fun r H4 hr e4 R4 => ?_
    refine ⟨rowV l, e4 _ _ hna p3, by rw [rowV_len]; exact small1000 (by omega), l ++ [r], (p1.trans e4).mut hD, ?_, by rw [rowV_snoc]; exact upd_same, by rw [List.length_append, List.length_singleton, p4], fun x hx => ?_⟩
    · exact R.join R4 ((p1.trans e4).mut hD) (upd_ne hna.symm)
    · rcases List.mem_append.mp hx with hx | hx
      · exact p5 x hx
      · rw [List.mem_singleton] at hx; subst hx; exact hr
  · obtain ⟨l, p1, p2, p3, p4, p5⟩ := p
    have p4' : l.length = n := by rw [p4]; exact Int.toNat_natCast n
    exact q D l H' nD hna (e1.trans p1) p2 p3 (by omega) (by rw [p4']; exact pn) p5
open Evl in
/-- [draw for x in range(n)] -/
theorem er_lcR {K : PySem.W.Frag} {ta : TA} {te : TE} {σ : L2.St} {H : Hp} {a scr : Addr} {ns : List Int} {j n m : Nat} {vs : List Nat} (h : EvA ta σ H [.int (n : Int)]) (hn : n ≤ 1000) (R : RowOk K H a scr ns) (hw : ∀ x, wipe ((wipe σ vs).set j (some x)) vs = wipe σ vs)
    (he : ∀ i : Nat, i < 1000 → EvR K te ((wipe σ vs).set j (some (.int (i : Int)))) H a scr ns m) (Q : VK)
    (q : ∀ p l H2, H p = none → p ≠ a → ExB a H H2 → RowOk K H2 a scr ns → H2 p = some (.lst (rowV l)) → l.length = n → (∀ x ∈ l, x < m) → Q (.ref p) H2) : tLc (iRng1 ta) (gName j) tYes te vs σ H Q :=
  er_lcX (fun k => k = n) (fun R' r => h H (Ex.refl H) _ fun H1 e1 => r n H1 hn rfl (ExB.of e1) (R.ex e1)) hw he Q fun p l H2 h1 h2 h3 h4 h5 _ h6 h7 => q p l H2 h1 h2 h3 h4 h5 h6 h7
end L2
namespace L2
open PySem PySem.Spec PyProof.Rows
/-! ### setdefault of a dict with tuple keys -/
section
variable {X : Cx} {pins : List (Addr × Obj)} {σ : St} {H : Hp} {s : Shared} {a b : Addr} {A : Around} {E : Value → Shared → Prop}
theorem dt_setd {kvs : List (List Key × V)} {k : List Key} {d : V} {r : Value} {Q : Value → Shared → Prop} (hu : A.units + 1 < cLine) (I : Inv X pins σ H s) (e : H a = some (.dT kvs)) (ky : H b = some (.tup (k.map kV))) (rd : RelV d r) (hl : kvs.length < sizeLine)
    (h1 : ∀ v, valV kvs k = some v → ∀ (w' : Value) (s' : Shared), Inv X pins σ H s' → RelV v w' → Q w' s') (h2 : valV kvs k = none → ∀ (w' : Value) (s' : Shared), Inv X pins σ (upd H a (.dT (putK kvs k d))) s' → RelV d w' → Q w' s') :
    wpAny (model X.prog X.w) A (call (.builtin "dict.setdefault") [.ref a, .ref b, r]) Q E s := by
  obtain ⟨z, hd, xs, rel, dd⟩ := dt_of I.hok e
  have hz : xs.length ≤ sizeLine := by
    have hlen := Paired.length rel
    omega
  have rl := rel.val k
  refine call_setdefault_heap (hsz := hz) (knd := tupleKind (mixKind X.prog X.w)) (tupleKind_room_in1 hu) (key_of I.hok ky) hd dd (fun p hp => ?_) fun hn h' dd' hs => ?_
  · rw [hp] at rl
    cases q0 : valV kvs k with
    | none => rw [q0] at rl; exact (show False from rl).elim
    | some v0 => rw [q0] at rl; exact h1 v0 q0 _ _ (I.tok _) rl
  · rw [hn] at rl
    cases q0 : valV kvs k with
    | some v0 => rw [q0] at rl; exact (show False from rl).elim
    | none =>
      have hl2 : (putK kvs k d).length ≤ sizeLine := by
        have hp := length_putK kvs k d
        omega
      obtain ⟨o, es, ep, ho, c2, c3, c4, _, c5⟩ := dd'
      refine h2 q0 _ _ (d_write (t' := s.toks + (tupleKind (mixKind X.prog X.w)).draws k) I (by rw [e]; exact True.intro) hs ⟨o, ho⟩ ⟨hl2, hd, _, (rel.put k ky rd).keeps fun c ys ec => ?_, o, es, ep, ho, c2, c3, c4, c5⟩) rd
      rw [upd_ne (ne_of ec e (fun z => nomatch z))]
      exact ec
end
def tDSetdT (td ty tx : TE) : TE := fun σ H Q => td σ H fun x H1 => ∃ a, x = .ref a ∧ IsD H1 a ∧ ty σ H1 fun y H2 => tx σ H2 fun z H3 => ∃ (kvs : List (List Key × V)) (k : List Key) (b : Addr),
  H3 a = some (.dT kvs) ∧ y = .ref b ∧ H3 b = some (.tup (k.map kV)) ∧ kvs.length < sizeLine ∧ (∀ v, valV kvs k = some v → Q v H3) ∧ (valV kvs k = none → Q z (upd H3 a (.dT (putK kvs k z))))
section
variable {X : Cx} {o e f : Expr} {td ty tx : TE} {apos cpos : Pos}
theorem pe_dsetdT (hu : X.A.units + 1 < cLine) (ho : PE X o td) (he : PE X e ty) (hf : PE X f tx) (m : M2 X o "setdefault" apos e f cpos) : PE X (.Call (.Attribute o "setdefault" apos) [e, f] [] cpos) (tDSetdT td ty tx) := by
  refine ⟨fun pz s0 σ H Q I h => ?_⟩
  refine wpAny_Call_method m.base m.few m.line PySem.F.plainAttrs_dict PySem.F.slot_dict_setdefault PySem.F.type_dict_setdefault
    (thn (ho.run pz s0 σ H _ I h) fun u s1 ⟨x, H1, I1, rx, a, ex, d, q1⟩ => ?_)
  subst ex
  cases (show u = Value.ref a from rx)
  obtain ⟨t1, t2, _⟩ := isD_at I1 d
  refine ⟨t1, t2, ?_⟩
  rw [m.trees]
  refine Calls.callWith_builtin rfl (Calls.evalArgs_plain (Calls.spliced_cons
    (thn (he.run pz s1 σ H1 _ I1 q1) fun iv s2 ⟨y, H2, I2, ry, q2⟩ =>
      Calls.spliced_cons (thn (hf.run pz s2 σ H2 _ I2 q2) fun fv s3 ⟨z, H3, I3, rz, kvs, k, b, ea, ey, eb, hl, q3, q4⟩ => Calls.spliced_nil ?_))))
  subst ey
  cases (show iv = Value.ref b from ry)
  exact dt_setd hu I3 ea eb rz hl (fun v hv w' s4 I4 rw' => ⟨v, _, I4, rw', q3 v hv⟩) fun hn w' s4 I4 rw' => ⟨z, _, I4, rw', q4 hn⟩
end
/-! ### an object that is known from now on, and not written any more -/
def tFrz (t : TE) : TE := fun σ H Q => t σ H fun v H1 => ∃ d u, v = .ref d ∧ H1 d = some u ∧ Mut (some u) ∧ ∀ od, Q v (upd H1 d (.frz od u))
theorem pe_frz {X : Cx} {e : Expr} {t : TE} (h : PE X e t) : PE X e (tFrz t) := by
  refine ⟨fun pz s0 σ H Q I hw => ?_⟩
  refine thn (h.run pz s0 σ H _ I hw) fun v s1 ⟨x, H1, I1, r, d, u, ex, hd, mu, q⟩ => ?_
  obtain ⟨od, I2⟩ := I1.lock hd mu
  exact ⟨x, _, I2, r, q od⟩
/-! ### truth of a dict with tuple keys -/
theorem truthy_dictH {prog : Program} {w : World} {κ : Type} [DecidableEq κ] {knd : HeapKind prog w κ} {A : Around} {E : Value → Shared → Prop} {s : Shared} {d : Addr} {xs : List (κ × Addr × Value)} {Q : Bool → Shared → Prop} (hd : (d == sysModules) = false) (hm : s.heap.DictOfH knd d xs) (hfit : (xs.length : Int) < 2 ^ 63)
    (h : Q (!xs.isEmpty) { s with toks := s.toks + 1 + 1 }) : wpAny (model prog w) A (truthy (.ref d)) Q E s := by
  have hne : ((xs.length : Int) != 0) = !xs.isEmpty := by cases xs <;> simp <;> omega
  have key : wpAny (model prog w) A (runValue (.builtin "len" ⟨[.ref d], []⟩)) (fun r s' => r = .int xs.length (s.toks + 1) ∧ Q (!xs.isEmpty) s') E s := by
    refine wpAny_runValue (codeAny_builtin entry_len ?_)
    rw [Around.under_plainId plain_len _]
    exact wpAny_mono (wpAny_len_body_dictH (Q := fun r s' => r = .int xs.length (s.toks + 1) ∧ Q (!xs.isEmpty) s') hd hm hfit ⟨rfl, h⟩)
      (fun fin s' h' => by obtain ⟨r, rfl, hq⟩ := h'; exact hq) fun _ _ e => e
  unfold truthy
  refine wpAny_bind (wpAny_callSpecial?_none (name := Str.ofString "__bool__") hm.typeIs noBool_dict ?_)
  refine wpAny_bind (wpAny_specialOf (name := Str.ofString "__len__") hm.typeIs F.slot_dict_len.lookup ?_)
  refine wpAny_bind (wpAny_mono key (fun r s' h' => ?_) fun _ _ e => e)
  obtain ⟨rfl, hq⟩ := h'
  exact wpAny_pure (hne ▸ hq)
def tTruT (t : TE) : TT := fun σ H Q => t σ H fun x H1 => ∃ p kvs, x = .ref p ∧ H1 p = some (.dT kvs) ∧ Q (!kvs.isEmpty) H1
theorem pt_truthT {X : Cx} {e : Expr} {t : TE} (h : PE X e t) (he : ∀ whole, isTrue e X.env whole = (do let v ← whole; standAt e.pos; holding [v] (truthy v)) := by intro _; rfl) : PT X e (tTruT t) := by
  refine ⟨fun pz s0 σ H Q I hw => ?_⟩
  refine isTrue_plain (thn (h.run pz s0 σ H _ I hw) fun v s1 ⟨x, H1, I1, r, p, kvs, ex, hp, q⟩ => ?_) (he _)
  subst ex
  cases (show v = Value.ref p from r)
  obtain ⟨z, hd, ys, rel, dd⟩ := dt_of I1.hok hp
  have hl : kvs.length = ys.length := Paired.length rel
  have hb : kvs.isEmpty = ys.isEmpty := by cases rel <;> rfl
  refine truthy_dictH hd dd (by rw [← hl]; rw [sizeLine_eq] at z; omega) ?_
  rw [← hb]
  exact ⟨H1, I1.tok _, q⟩
theorem tru_list {K : PySem.W.Frag} {H : Hp} {p : Addr} {xs : List V} (h : SqL K H p xs) : TruV K (.ref p) H (!xs.isEmpty) := .inl ⟨xs, h, rfl⟩
theorem tru_tup {K : PySem.W.Frag} {H : Hp} {p : Addr} {xs : List V} (h : SqT K H p xs) : TruV K (.ref p) H (!xs.isEmpty) := .inr (.inl ⟨xs, h, rfl⟩)
theorem pt_tru {X : Cx} {K : PySem.W.Frag} (hK : X.K = K) {e : Expr} {t : TE} (h : PE X e t) (he : ∀ whole, isTrue e X.env whole = (do let v ← whole; standAt e.pos; holding [v] (truthy v)) := by intro _; rfl) : PT X e (fun σ H Q => t σ H fun x H' => ∃ k, TruV K x H' k ∧ Q k H') := by
  subst hK
  exact pt_truth h he
theorem op_catK {X : Cx} {K : PySem.W.Frag} (hK : X.K = K) : OpR X (binaryOp .Add) (rCatA K) := by
  subst hK
  exact op_catA
theorem sl_tupAK {X : Cx} {K : PySem.W.Frag} (hK : X.K = K) : SlR X (rSlA K) := by
  subst hK
  exact sl_tupA
open Evl in
theorem et_tru {K : PySem.W.Frag} {ta : TE} {σ : L2.St} {H : Hp} {x : V} {b : Bool} (ha : Ev ta σ H x) (hb : ∀ H1, Ex H H1 → TruV K x H1 b) : EvT (fun σ H Q => ta σ H fun x H' => ∃ k, TruV K x H' k ∧ Q k H') σ H b := fun H1 e Q q =>
  ha H1 e _ fun H2 e2 => ⟨b, hb H2 (e.trans e2), q H2 e2⟩
theorem pg_tupK {X : Cx} {K : PySem.W.Frag} {es : List Expr} {k n : Nat} {t : TGs} {pos : Pos} (hK : X.K = K) (hc : X.calm = true) (h : PGs X es t)
    (hn : (assignEach es X.env).length = n := by rfl) (hst : (assignEach es X.env).findIdx? (·.1) = none := by rfl) : PG X (.Tuple es k pos) (gTup K n t) := by
  subst hK
  exact pg_tup hc h hn hst
theorem pi_tupK {X : Cx} {K : PySem.W.Frag} {tg l : Expr} {tl : TE} (hK : X.K = K) (hl : PE X l tl) : PI X tg l (iTup K tl) := by
  subst hK
  exact pi_tup hl
theorem pi_listK {X : Cx} {K : PySem.W.Frag} {tg l : Expr} {tl : TE} (hK : X.K = K) (hl : PE X l tl) : PI X tg l (iList K tl) := by
  subst hK
  exact pi_list hl
/-- a loop over enumerate of a list that stands still -/
theorem for_enumL {K : PySem.W.Frag} {a : Addr} {ws : List V} {g : TG} {tb : TS} {D : Ends} {σ : St} {H : Hp} (Pw : Nat → St → Hp → Prop) (h0 : Pw 0 σ H) (hl : ∀ i σ H, i ≤ ws.length → Pw i σ H → SqL K H a ws)
    (hs : ∀ i x T σ H, ws[i]? = some x → Pw i σ H → H T = none → g (.ref T) σ (upd H T (.tup [.int (i : Nat), x])) fun σ2 H2 => tb { D with nx := Pw (i + 1), ct := Pw (i + 1), bk := D.nx } σ2 H2) (hd : ∀ σ H, Pw ws.length σ H → D.nx σ H) :
    ∃ W : Nat → Nat → St → Hp → Prop, (∃ m, W 0 m σ H) ∧ ∀ i m σ H, W i m σ H →
      ((Ite K a).stop i H ∧ D.nx σ H) ∨ ((Ite K a).go i H ∧ ∃ N : St → Hp → Prop, (∀ σ' H', N σ' H' → ∃ m', m' < m ∧ W (i + 1) m' σ' H') ∧ ∀ x H', (Ite K a).yld i H x H' → g x σ H' fun σ2 H2 => tb { D with nx := N, ct := N, bk := D.nx } σ2 H2) := by
  refine ⟨fun i m σ H => m = ws.length - i ∧ i ≤ ws.length ∧ Pw i σ H, ⟨ws.length, by simp, Nat.zero_le _, h0⟩, ?_⟩
  rintro i m σ H ⟨rfl, hi, p⟩
  have q := hl i σ H hi p
  by_cases hlt0 : i < ws.length
  · refine .inr ⟨⟨ws, ws[i], q, by simp [hlt0]⟩, Pw (i + 1), fun σ' H' p' => ⟨ws.length - (i + 1), by omega, rfl, hlt0, p'⟩, fun x H' y => ?_⟩
    obtain ⟨T, x', ee1, nT, e2, y⟩ := y
    subst ee1 e2
    exact hs i x' T σ H (y ws q) p nT
  · have e : i = ws.length := by omega
    subst e
    exact .inl ⟨⟨ws, q, Nat.le_refl _⟩, hd σ H p⟩
section
open Evl
variable {K : PySem.W.Frag} {σ : St} {H : Hp} {te : TE}
/-- [e for x in t], t a new tuple -/
theorem el_lcNT {xs : List V} {tl : TE} {j : Nat} {vs : List Nat} (v : Nat → V) (h : EvU tl σ H xs) (wz : xs.length ≤ 40000) (hw : ∀ x, wipe ((wipe σ vs).set j (some x)) vs = wipe σ vs)
    (he : ∀ (i : Nat) (x : V) H1, Ex H H1 → xs[i]? = some x → Ev te ((wipe σ vs).set j (some x)) H1 (v i)) :
    EvL (tLc (iTup K tl) (gName j) tYes te vs) σ H (gvn xs.length v) := fun H0 e Q q => h H0 e _ fun a H1 ha e1 hx => ⟨a, rfl, ⟨xs, SqT.of hx⟩, fun Dl hD =>
  lc_tup (xs := xs) (Cv H1 v Dl) ⟨hD, Ex.new hD, upd_same⟩ (fun i H' _ p => SqT.of (p.2.1 _ _ hx)) (fun i x H' hi p => ⟨hw x, cv_turn p (by have := (List.getElem?_eq_some_iff.mp hi).1; omega) (he i x H1 (e.trans e1) hi)⟩)
    (fun H' p => q Dl H' (fresh_back e1 p.1) (e1.trans p.2.1) p.2.2)⟩
end
end L2
namespace L2
open PySem PySem.Spec PyProof.Rows
/-! ### errors without arguments -/
/-- an own error class, over ValueError by own classes without an own making -/
structure ErrC (K : PySem.W.Frag) (mg : Str → Option Value) (x : Str) (C : Addr) : Prop where
  g : mg x = some (.ref C)
  x : PySem.W.excIn K C [.type "ValueError", .type "Exception", .type "BaseException", .type "object"] "ValueError.__new__" = true
  k : PySem.W.keepIn K (.ref C) = true
  b : PySem.W.subIn K (.ref C) (.type "BaseException") = some true
  t : PySem.W.typeIn K (.ref C) = some (.type "type")
theorem ErrC.one {K : PySem.W.Frag} {mg : Str → Option Value} {x : Str} {C C' : Addr} (h : ErrC K mg x C) (e : mg x = some (.ref C')) : C' = C := by
  rw [h.g] at e
  cases e
  rfl
/-- X() -/
theorem pmk_own0 {X : Cx} {C : Addr} {x : Str} {p pos : Pos} (E : ErrC X.K X.mg x C) (hg : Gl X x) (hdb : (x == ("__debug__" : Str)) = false := by decide) : PMk X (.Call (.Name x p) [] [] pos) (fun _ H Q => Q (.ref C) none H) := by
  intro pins s σ H Q I h
  refine wpAny_Call_Name_kw (ld_glob I hg E.g ?_ hdb)
  refine PySem.W.callWith_K0 I.kIn E.k ?_
  obtain ⟨bm, N, nm, qn, bs, hdct, sn, sub, ab, col, dd, k0, k1, k2, k3, k5, mN, hC, hN, hni, T⟩ := exc_obj I.kIn E.x
  refine wpAny_call_exc_subT PySem.F.excBase_ValueError T hC hN hni (fun h' e hm => ?_) (Nat.zero_le _)
  exact mk_of I hm (raises_own E.b E.t) h (I.hok.gone hm.new)
/-! ### defs that may raise -/
structure HasX (P : Program) (w : World) (K : PySem.W.Frag) (mg : Str → Option Value) (base : Heap) (x : Str) (k : Nat) (ps : List Str) (sp : Sp) : Prop where
  ex : ∃ (f : Addr) (fd : FuncData), mg x = some (.ref f) ∧ PySem.W.keepIn K (.ref f) = true ∧ Binds K fd ps [] ∧ FnOk P w K mg base (L2.CX P w) k f fd ps sp
theorem HasX.mk' {P : Program} {w : World} {K : PySem.W.Frag} {mg : Str → Option Value} {base : Heap} {x : Str} {k : Nat} {ps : List Str} {sp : Sp} {f : Addr} {fd : FuncData} (h1 : mg x = some (.ref f)) (h2 : PySem.W.keepIn K (.ref f) = true) (h3 : Binds K fd ps []) (h4 : FnOk P w K mg base (L2.CX P w) k f fd ps sp) : HasX P w K mg base x k ps sp := ⟨⟨f, fd, h1, h2, h3, h4⟩⟩
section
variable {X : Cx} {x : Str} {k : Nat} {ps : List Str} {sp : Sp} {e : Expr} {es : List Expr} {t : TA} {p pos : Pos}
/-- it is called, and what it raises is wished for -/
theorem pe_hasT {W : WX} (h : HasX X.prog X.w X.K X.mg X.base x k ps sp) (hr : Room k X.A) (tk : Takes X W) (hg : Gl X x) (ha : PA X (e :: es) t)
    (hdb : (x == ("__debug__" : Str)) = false := by decide) (he : starEach (e :: es) X.env = (false, eval e X.env) :: starEach es X.env := by rfl) (hpl : (backTo pos (starEach es X.env)).any (·.1) = false := by rfl) :
    PE X (.Call (.Name x p) (e :: es) [] pos) (tCallS sp (WE W) t) := by
  obtain ⟨f, fd, h1, h2, h3, h4⟩ := h.ex
  exact pe_callS h4 hr hg h1 h2 h3 (fun σ => passAt tk σ) ha hdb he hpl
end
end L2
namespace L2
open PySem PySem.Spec PyProof.Rows
/-! ### set(xs) of a list of whole numbers -/
abbrev newS (w : World) : Obj := { cls := .type "set", dict := none, data := .set #[] 0 (.fresh 0 0 (!w.params.followText "set-order")) }
section
variable {P : Program} {w : World} {A : Around} {E : Value → Shared → Prop} {s : Shared}
theorem call_set_lstI {l : Addr} {its : Array Value} (zs : List Int) {Q : Value → Shared → Prop} (h0 : A.handled = none) (il : s.heap.IsList l its) (ia : IntsAre its.toList zs) (ub : zs.length + 1 < scanBound)
    (h : ∀ (h' : Heap) (tk c : Nat), SetR w h' s.heap.objs.size (fun j => decide (j ∈ zs)) c → c ≤ zs.length → (∀ b o, s.heap.get? b = some o → h'.get? b = some o) → Q (.ref s.heap.objs.size) { s with heap := h', toks := tk }) :
    wpAny (model P w) A (call (.type "set") [.ref l]) Q E s := by
  have zl : its.size = zs.length := by
    have q := IntsAre.length ia
    rw [Array.length_toList] at q
    exact q
  obtain ⟨c, tl, mr⟩ := F.called_set.mro
  have md := F.called_set.made
  have sb := F.called_set.sub
  refine wpAny_call (codeAny_of_tree ?_)
  show wpAny _ _ (callAny (.type "set") _) _ _ _
  refine wpAny_pure ⟨Code.quiet_builtin _ (by decide +kernel), codeAny_builtin F.entry_type_call ?_⟩
  rw [Around.under_plain (weight_type_call_type "set" [.ref l] []) rfl]
  have n1 := F.called_set.notType
  have n2 := F.called_set.canCreate
  have ct := F.typeCall_set_1 (.ref l)
  repeat (any_goals (first | assumption | wp_step))

  refine codeAny_mono (code_set_led1 (.ref l) (E := E) (Q₁ := fun ob s₁ => ob = .ref s.heap.objs.size ∧ s₁ = { s with heap := s.heap.push (newS w) }) ⟨rfl, rfl⟩) fun r s₁ rr => ?_
  cases r with
  | error e => exact rr
  | ok fl =>
    cases fl with
    | ret ob =>
      obtain ⟨rfl, rfl⟩ := rr
      have gs : (s.heap.push (newS w)).get? s.heap.objs.size = some (newS w) := Heap.get?_push_size _ rfl
      have ts : Shared.TypeIs { s with heap := s.heap.push (newS w) } (.ref s.heap.objs.size) "set" := ⟨_, gs, rfl⟩
      have li := F.called_set.init.lookup
      have bi := F.called_set.init.bind (.ref s.heap.objs.size)
      repeat (any_goals (first | assumption | wp_step))

      refine codeAny_mono (codeAny_call_builtin (R := wants (fun r s₂ => r = .none ∧ ∃ h' tk c, s₂ = { s with heap := h', toks := tk } ∧ SetR w h' s.heap.objs.size (fun j => decide (j ∈ zs)) c ∧ c ≤ zs.length ∧
          (∀ b o, s.heap.get? b = some o → h'.get? b = some o)) E) F.called_set.init.plain F.entry_set_init (check_set_init_1 ts ?_)) fun r₂ s₂ rr2 => ?_
      · obtain ⟨ol, ol0, oc, nl, od⟩ := il
        obtain ⟨ocls, odict, odata, oslots⟩ := ol
        simp only at oc od
        subst oc; subst od
        have ol1 : (s.heap.push (newS w)).get? l = some { cls := .type "list", dict := odict, data := .seq its nl, slots := oslots } := Heap.get?_push_of_some _ ol0
        have sl1 := F.sub_list_set
        have sl2 := F.sub_list_frozenset
        have ne1 : (Value.type "list" == Value.type "dict") = false := by decide
        have il1 : (s.heap.push (newS w)).IsList l its := ⟨_, ol1, rfl, nl, rfl⟩
        unfold Builtin.«set.__init__» noKeywords Builtin.Frozenset.updateFrom
        generalize eP : pyIter = pI
        wp_walk
        subst eP

        refine wpAny_pyIter_list il1 ?_
        refine wpAny_bind (wpAny_runValue ?_)
        have ls1 : l < s.heap.objs.size := Heap.lt_size ol0
        have h03 : A.in1.in1.in1.handled = none := by simp [h0]
        have z1 : (s.heap.push (newS w)).objs.size = s.heap.objs.size + 1 := Heap.size_push ..
        have neI : l ≠ (s.heap.push (newS w)).objs.size := by
          rw [Heap.size_push]; exact Nat.ne_of_lt (Nat.lt_succ_of_lt ls1)
        have nf : s.heap.objs.size ∉ [(s.heap.push (newS w)).objs.size, l] := by
          rw [Heap.size_push]; simp only [List.mem_cons, List.mem_singleton, List.not_mem_nil, or_false, not_or]
          exact ⟨Nat.ne_of_lt (Nat.lt_succ_self _), Nat.ne_of_gt ls1⟩
        have vl : ∀ (i : Nat) (v : Value), its[i]? = some v → ∃ k t, zs[i]? = some k ∧ v = .int k t := fun i v qv => by
          have qi : i < zs.length := by rw [← zl]; exact (Array.getElem?_eq_some_iff.mp qv).1
          obtain ⟨t, e⟩ := PyProof.Rows.IntsAre.int_at ia i v (by rw [Array.getElem?_toList]; exact qv)
          refine ⟨zs[i], t, List.getElem?_eq_getElem qi, ?_⟩
          rw [e, List.getD_eq_getElem?_getD, List.getElem?_eq_getElem qi] <;> rfl
        refine set_update_ints ((Walks.list h03 _ l neI its).toS) s.heap.objs.size
          nf zs zl ub vl (its.size - 0) 0 _ (by omega) (Nat.zero_le _)
          ⟨⟨_, Heap.get?_push_size _ rfl, rfl, rfl⟩, (il1.push _)⟩ ?gs0 ?gR
        case gs0 =>
          have gt1 : ((s.heap.push (newS w)).push { cls := .type "list_iterator", data := .fields #[.ref l, .int 0 0] }).get? s.heap.objs.size
              = some (newS w) := Heap.get?_push_of_some _ gs
          exact ⟨0, Nat.le_refl 0, setR_new_at gt1⟩
        case gR =>
          intro s' c' mv cc' gs'
          obtain ⟨h', g2, d', tk', os'⟩ := s'
          have q1 : g2 = s.gens := mv.gens
          have q2 : d' = s.drawn := mv.drawn
          have q3 : os' = s.os := mv.os
          subst q1; subst q2; subst q3
          show wpAny _ _ _ _ _ _
          refine wpAny_pure ?_
          show wpAny _ _ (ret Value.none) _ _ _
          rw [zl] at cc'
          refine wpAny_pure ⟨rfl, h', tk', c', rfl, gs', cc', fun b o e => ?_⟩
          have u0 : b < s.heap.objs.size := Heap.lt_size e
          have u1 : b ≠ s.heap.objs.size := Nat.ne_of_lt u0
          have u2 : b ≠ (s.heap.push (newS w)).objs.size := by
            rw [Heap.size_push]; exact Nat.ne_of_lt (Nat.lt_succ_of_lt u0)
          exact mv.heap b o (by simp only [List.mem_cons, List.mem_singleton, List.not_mem_nil, or_false, not_or]; exact ⟨u1, u2⟩) (Heap.get?_push_of_some _ (Heap.get?_push_of_some _ e))

      · cases r₂ with
        | error e => exact rr2
        | ok fl₂ =>
          cases fl₂ with
          | ret r =>
            obtain ⟨rfl, h', tk, c', rfl, gs', cc', kk'⟩ := rr2
            repeat (any_goals (first | assumption | wp_step))
            exact h _ _ _ gs' cc' kk'
          | _ => exact rr2.elim
    | _ => exact rr.elim

end
def rSetL1 (K : PySem.W.Frag) (w : World) : List V → Hp → VK → Prop := fun vs H Q => ∃ (l : Addr) (ns : List Int), vs = [V.ref l] ∧ SqL K H l (ns.map V.int) ∧ ns.length + 1 < scanBound ∧ ∀ c p, c ≤ ns.length → H p = none → Q (.ref p) (upd H p (SetO w p (fun j => decide (j ∈ ns)) c))
theorem cr_setL1 {X : Cx} {K : PySem.W.Frag} (hK : X.K = K) (hc : X.calm = true) : CallR X (.type "set") (rSetL1 K X.w) := by
  subst hK
  intro pins s σ H vs us Q I r h
  obtain ⟨l, ns, rfl, hS, hb, q⟩ := h
  rw [Vals.ref1 r]
  obtain ⟨its, rv, ⟨⟨cls, dd, data, sl⟩, n, ho, hcl, hdn, hd⟩, hlen⟩ := I.list hS
  simp only at hcl hd
  subst hcl hd
  have hi := ints_of_vals rv
  refine call_set_lstI ns (I.ok.hd hc) (its := its.toArray) ⟨_, ho, rfl, n, rfl⟩ hi hb fun h' tk c R hcn k => ?_
  have hn : H s.heap.objs.size = none := I.hok.fresh (Nat.le_refl _)
  exact ⟨.ref s.heap.objs.size, _, I.laid (t' := tk) k (Nat.le_refl _) (setO_new R), rfl, q c _ hcn hn⟩
theorem cr_sortedPK {X : Cx} {K : PySem.W.Frag} (hK : X.K = K) : CallR X (.builtin "sorted") (rSortedP K) := by
  subst hK
  exact cr_sortedP
theorem cr_maxK {X : Cx} {K : PySem.W.Frag} (hK : X.K = K) (hc : X.calm = true) : CallR X (.builtin "max") (rMax K) := by
  subst hK
  exact cr_max hc
end L2
namespace L2
open PySem PySem.Spec PyProof.Rows
/-! ### count of flat things in a list, in a tuple -/
theorem countP_eqU {x : V} : ∀ {xs : List V} {us : List Value}, Vals xs us → xs.all flatV = true → us.countP (eqU x) = xs.countP fun y => eqV y x
  | _, _, .nil, _ => rfl
  | y :: xs, u :: us, .cons r t, f => by
    rw [List.all_cons, Bool.and_eq_true] at f
    rw [List.countP_cons, List.countP_cons, countP_eqU t f.2, eqU_of r f.1]
def rCntF (K : PySem.W.Frag) : V → List V → Hp → VK → Prop := fun x xs H Q => ∃ (p : Addr) (ys : List V) (y : V), x = .ref p ∧ xs = [y] ∧ SqL K H p ys ∧ flatV y = true ∧ ys.all flatV = true ∧ Q (.int ((ys.countP fun z => eqV z y : Nat) : Int)) H
def rCntT (K : PySem.W.Frag) : V → List V → Hp → VK → Prop := fun x xs H Q => ∃ (p : Addr) (ys : List V) (y : V), x = .ref p ∧ xs = [y] ∧ SqT K H p ys ∧ flatV y = true ∧ ys.all flatV = true ∧ Q (.int ((ys.countP fun z => eqV z y : Nat) : Int)) H
section
variable {X : Cx}
theorem mt_countF {K : PySem.W.Frag} (hK : X.K = K) : MtR X "list.count" (rCntF K) := by
  subst hK
  intro pins s σ H x xs v us Q I rx rxs h
  obtain ⟨p, ys, y, rfl, rfl, hs, fy, fys, q⟩ := h
  cases rx
  cases rxs with
  | cons ry rt =>
    rename_i uy ut
    cases rt
    obtain ⟨its, rv, ⟨⟨cls, dd, data, sl⟩, n, ho, hc, hdn, hd⟩, hlen⟩ := I.list hs
    simp only at hc hd
    subst hc hd
    refine call_meets PySem.F.slot_list_count ⟨_, ho, rfl⟩ PySem.F.entry_list_count (PySem.F.args_list_count_2 _ _)
      (SeqAt.list_countAt p its.toArray n dd sl uy (eqU y)) ⟨ho, fun u' hu' => mem_eqAt ry fy rv fys u' (by simpa using hu'), ?_⟩
    refine ⟨.int ((ys.countP fun z => eqV z y : Nat) : Int), H, I.tok _, ⟨s.toks, ?_⟩, q⟩
    show Value.int ((its.toArray.toList.countP (eqU y) : Nat) : Int) s.toks = _
    rw [show its.toArray.toList = its from rfl, countP_eqU rv fys]
theorem mt_countT {K : PySem.W.Frag} (hK : X.K = K) : MtR X "tuple.count" (rCntT K) := by
  subst hK
  intro pins s σ H x xs v us Q I rx rxs h
  obtain ⟨p, ys, y, rfl, rfl, hs, fy, fys, q⟩ := h
  cases rx
  cases rxs with
  | cons ry rt =>
    rename_i uy ut
    cases rt
    obtain ⟨its, rv, ⟨⟨cls, dd, data, sl⟩, ho, hc, n, hd⟩, hlen⟩ := I.tuple hs
    simp only at hc hd
    subst hc hd
    refine call_meets PySem.F.slot_tuple_count ⟨_, ho, rfl⟩ PySem.F.entry_tuple_count (PySem.F.args_tuple_count_2 _ _)
      (SeqAt.tuple_countAt p its.toArray n dd sl uy (eqU y)) ⟨ho, fun u' hu' => mem_eqAt ry fy rv fys u' (by simpa using hu'), ?_⟩
    refine ⟨.int ((ys.countP fun z => eqV z y : Nat) : Int), H, I.tok _, ⟨s.toks, ?_⟩, q⟩
    show Value.int ((its.toArray.toList.countP (eqU y) : Nat) : Int) s.toks = _
    rw [show its.toArray.toList = its from rfl, countP_eqU rv fys]
end
end L2
namespace L2
open PySem PySem.Spec PyProof.Rows
section
variable {P : Program} {w : World} {K : PySem.W.Frag} {mg : Str → Option Value} {base : Heap}
/-- a def by its body, its code object told -/
theorem ok_cd {x qual : Str} {st : Stmt} {f : Addr} {N ps : List Str} {k : Nat} {sp : Sp} {oc kV doc pm cdv ct : Value} {od an : Option Addr} {osl : Array (Option Value)}
    (lk : K.lookup f = some ⟨oc, od, .func (PySem.W.fnOf x qual (defArgs st) (defBody st) (defScope st) .none kV doc pm an cdv ct), osl⟩) (hcd : PySem.W.codeIn K cdv qual = true) (S : FnScope N ps (defScope st)) (len : ∀ vs H Q E, sp vs H Q E → vs.length = ps.length)
    (hbody : ∀ (A : Around) (outer : List Env) (s : Shared) (H : Hp) (vs : List V) (Q : VK) (E : XK), Room k (A.deeper (envOfC qual (defScope st) s.heap.objs.size f cdv)) → sp vs H Q E →
      ∃ t, PSs (cxOf CX0 P w K mg base N qual (defScope st) f cdv A outer s H E).nox (defBody st) t ∧ t { nx := fun _ H' => Q .non H', rt := Q } (start N vs) H) : FnOk P w K mg base CX0 (k + 1) f (PySem.W.fnOf x qual (defArgs st) (defBody st) (defScope st) .none kV doc pm an cdv ct) ps sp := by
  refine fn_of lk hcd S len fun A outer s H vs Q E hr hsp => ?_
  obtain ⟨t, h, q⟩ := hbody A outer s H vs Q E hr hsp
  exact ⟨t, h.nox, q⟩
/-- own error classes under one -/
structure ErrU (K : PySem.W.Frag) (mg : Str → Option Value) (bs : Str) (names : List Str) : Prop where
  u : ∃ B, mg bs = some (.ref B) ∧ ∀ x ∈ names, ∃ C, mg x = some (.ref C) ∧ PySem.W.exmOne K (.ref C) (.ref B) = some true ∧ ExcC K C
  r : ∀ x ∈ names, ∀ y ∈ names, ∃ C D, mg x = some (.ref C) ∧ mg y = some (.ref D) ∧ PySem.W.kitOne K (.ref C) (.ref D) = some (decide (x = y))
end
end L2
namespace L2
open PySem PySem.Spec PyProof.Rows
theorem kit_self {K : PySem.W.Frag} {C : Addr} : PySem.W.kitOne K (.ref C) (.ref C) = some true := by
  unfold PySem.W.kitOne
  rw [if_pos (by simp)]
theorem kit_no {K : PySem.W.Frag} {C D : Addr} (hd : PySem.W.hasDictIn K D = true) (ht : PySem.W.typeIn K (.ref D) = some (.type "type")) (hs : PySem.W.subIn K (.ref C) (.ref D) = some false) (hn : (Value.ref C == Value.ref D) = false) : PySem.W.kitOne K (.ref C) (.ref D) = some false := by
  obtain ⟨cd, hc, _⟩ := PySem.W.any_some hd
  unfold PySem.W.kitOne
  rw [if_neg (by rw [hn]; decide)]
  have e2 : ((PySem.W.clsIn K D).isSome && PySem.W.typeIn K (.ref D) == some (.type "type")) = true := by rw [hc, ht] <;> rfl
  show (if ((PySem.W.clsIn K D).isSome && PySem.W.typeIn K (.ref D) == some (.type "type")) = true then PySem.W.subIn K (.ref C) (.ref D) else none) = some false
  rw [if_pos e2]
  exact hs
end L2
namespace PyProof.Rows
open PySem PySem.Spec PySem.W
section
variable {prog : Program} {w : World} {A : Around} {E : Value → Shared → Prop} {s : Shared}
/-- what a tuple holds, gathered in a new list -/
theorem own_gatherT {l : Addr} {vs : List Value} {Q : List Value → Shared → Prop} (hl : s.heap.IsTuple l vs.toArray)
    (h : Q vs { s with heap := (s.heap.push (seqObj "list" #[] 0)).update s.heap.objs.size (Obj.mapSeq (· ++ vs.toArray)) }) (hsz : vs.length ≤ sizeLine) : wpAny (model prog w) A (collect (.ref l)) Q E s := by
  obtain ⟨o, ho, hc, n, hd⟩ := id hl
  have ho2 : (s.heap.push (seqObj "list" #[] 0)).get? l = some o := Heap.get?_push_of_some _ ho
  have hcond : (Value.type "tuple" == Value.type "tuple") = true := by rfl
  have hcond2 : (Value.type "tuple" == Value.type "list") = false := by decide
  unfold collect
  refine wpAny_bind (wpAny_runValue (codeAny_builtin entry_proto_collect' ?_)); show wpAny _ _ (do again (.builtin "list.__iadd__" ⟨[← newList [], .ref l], []⟩)) _ _ s
  refine wpAny_bind (wpAny_newList (wpAny_pure ⟨Code.quiet_builtin _ (by decide +kernel), codeAny_builtin entry_list_iadd' ?_⟩)); show wpAny _ _ (Builtin.List.listExtendWith (.ref s.heap.objs.size) (.ref l) (.ref s.heap.objs.size)) _ _ { s with heap := s.heap.push (seqObj "list" #[] 0) }
  unfold Builtin.List.listExtendWith
  refine wpAny_bind (wpAny_typeOf (T := "tuple") ⟨o, ho2, hc⟩ ?_)
  rw [if_pos (by rw [hcond]; simp)]
  refine wpAny_bind (listItems_at ho2 hd ?_)
  refine wpAny_bind (listItems_at (xs := #[]) (n := 0) (Heap.get?_push_size _ rfl) rfl ?_)
  rw [if_neg (by simp)]
  refine wpAny_bind (listUpdate_at (xs := #[]) (n := 0) (Heap.get?_push_size _ rfl) rfl ?_ (Nat.zero_le _) (by show (#[] ++ vs.toArray).size ≤ sizeLine + 1; simp only [Array.size_append, List.size_toArray, List.length_nil]; omega)); refine wpAny_pure ?_
  refine wpAny_bind (wpAny_load (get?_update_seq (Heap.get?_push_size _ rfl) _) ?_)
  show wpAny _ _ (pure ((#[] : Array Value) ++ vs.toArray).toList) Q E _
  have e0 : ((#[] : Array Value) ++ vs.toArray).toList = vs := by simp
  rw [e0]; exact wpAny_pure h
end
end PyProof.Rows
namespace SrtO
open PySem PyProof.Rows Srt
section
variable {prog : Program} {w : World} {A : Around} {E : Value → Shared → Prop} {s : Shared}
theorem own_sortT {l : Addr} {vs : List Value} {ltv : Value → Value → Bool} {Q : Value → Shared → Prop} (O : Swo ltv) (hl : s.heap.IsTuple l vs.toArray) (hz : vs.length ≤ sizeLine)
    (hS : 2 ≤ vs.length → ∀ (h₁ : Heap) (a : Addr), h₁.get? a = some (seqObj "list" vs.toArray 0) → (∀ b o, s.heap.get? b = some o → b ≠ a ∧ h₁.get? b = some o) → SortableO prog w A.in1.in1 { s with heap := h₁ } a vs ltv)
    (h : ∀ out : List Value, Srtd ltv out → Stb ltv out vs → Q (.ref (s.heap.objs.size + 1)) { s with heap := sortedAll s.heap vs out.toArray }) : wpAny (model prog w) A (call (.builtin "sorted") [.ref l]) Q E s := by
  refine Calls.call_function_entry kind_sorted plain_sorted entry_sorted (args_sorted1 _) ?_; unfold Builtin.«sorted»
  refine wpAny_bind (m := checkCount "sorted" 1 1 _) (wpAny_pure ?_); refine wpAny_bind (own_gatherT hl ?_ hz)
  refine wpAny_bind (wpAny_newList ?_ hz)
  have n1 : ((s.heap.push (seqObj "list" #[] 0)).update s.heap.objs.size (Obj.mapSeq (· ++ vs.toArray))).objs.size = s.heap.objs.size + 1 := by rw [Heap.size_update, size_push']
  have g1 : (((s.heap.push (seqObj "list" #[] 0)).update s.heap.objs.size (Obj.mapSeq (· ++ vs.toArray))).push (seqObj "list" vs.toArray 0)).get? (s.heap.objs.size + 1) = some (seqObj "list" vs.toArray 0) := by rw [← n1]; exact Heap.get?_push_size _ rfl
  have k1 : ∀ b o, s.heap.get? b = some o → b ≠ s.heap.objs.size + 1 ∧ (((s.heap.push (seqObj "list" #[] 0)).update s.heap.objs.size (Obj.mapSeq (· ++ vs.toArray))).push (seqObj "list" vs.toArray 0)).get? b = some o := fun b o q => by
    have lt := Heap.lt_size q
    exact ⟨Nat.ne_of_lt (Nat.lt_succ_of_lt lt), Heap.get?_push_of_some _ (by rw [Heap.get?_update_ne _ _ _ _ (Nat.ne_of_lt lt)]; exact Heap.get?_push_of_some _ q)⟩
  show wpAny _ _ _ _ _ { s with heap := ((s.heap.push (seqObj "list" #[] 0)).update s.heap.objs.size (Obj.mapSeq (· ++ vs.toArray))).push (seqObj "list" vs.toArray 0) }; rw [n1]
  exact wpAny_bind (wpAny_holding (wpAny_call_entry slot_list_sort ⟨_, g1, rfl⟩ entry_list_sort (list_sort_ord O g1 hz (fun h2 => hS h2 _ _ g1 k1) fun out hs hb => ⟨_, rfl, wpAny_pure ⟨_, rfl, h out hs hb⟩⟩) (args_list_sort _)))
end
end SrtO
namespace L2
open PySem PySem.Spec PyProof.Rows RZ
/-- sorted(t), whole numbers in a tuple -/
def rSortedTI (K : PySem.W.Frag) : List V → Hp → VK → Prop := fun vs H Q => ∃ (a : Addr) (ns : List Int), vs = [V.ref a] ∧ SqT K H a (ns.map V.int) ∧
  ∀ (ns' : List Int) (p : Addr), ns'.Perm ns → ns'.Pairwise (· ≤ ·) → H p = none → Q (.ref p) (upd H p (.lst (ns'.map V.int)))
theorem cr_sortedTI {X : Cx} {K : PySem.W.Frag} (hK : X.K = K) : CallR X (.builtin "sorted") (rSortedTI K) := by
  subst hK
  intro pins s σ H vs us Q I r h
  obtain ⟨a, ns, rfl, hs, q⟩ := h
  obtain ⟨its, rv, hl, hz⟩ := I.tuple hs
  rw [Vals.ref1 r]
  have hi := rv.ints
  refine SrtO.own_sortT SrtO.swo_int hl (by rw [← rv.length]; exact hz) (fun h2 h₁ a' _ _ => SrtO.ints_sortable hi h2) fun out h1 h2 => ?_
  obtain ⟨k1, k2, k3⟩ := SrtO.ints_out hi h1 h2
  obtain ⟨ep, he'⟩ := PyProof.Rows.sortedAll_at s.heap its out.toArray
  have ll : ((out.map SrtO.iv).map V.int).length ≤ sizeLine := by
    rw [List.length_map] at hz ⊢; rw [k2.length_eq]; exact hz
  exact ⟨.ref _, _, I.laid (o := .lst ((out.map SrtO.iv).map V.int)) (t' := s.toks) (fun _ _ => PyProof.Rows.sortedAll_old) (Nat.le_succ _) ⟨ll, out, ep, vals_of_ints k1, he'⟩, rfl, q _ _ k2 k3 (I.hok.fresh (Nat.le_succ _))⟩
theorem cr_sortedIK {X : Cx} {K : PySem.W.Frag} (hK : X.K = K) : CallR X (.builtin "sorted") (rSortedI K) := by
  subst hK
  exact cr_sortedI
theorem pi_zipAK {X : Cx} {K : PySem.W.Frag} (hK : X.K = K) {e e2 : Expr} {ta : TA} {p pos tpos : Pos} {elts : List Expr} {kk : Nat} (hg : Gl X "zip") (hm : X.mg "zip" = none) (ha : PA X [e, e2] ta)
    (hs : starEach [e, e2] X.env = (false, eval e X.env) :: starEach [e2] X.env := by rfl) (hpl : (backTo pos (starEach [e2] X.env)).any (·.1) = false := by rfl) : PI X (.Tuple elts kk tpos) (.Call (.Name "zip" p) [e, e2] [] pos) (iZipA K ta) := by
  subst hK
  exact pi_zipA hg hm ha hs hpl
theorem walk_zipT {K : PySem.W.Frag} {a b : Addr} {xs ys : List V} {n : Nat} (hn : n = min xs.length ys.length) : Walk (ItzT K a b) n (fun H => SqT K H a xs ∧ SqT K H b ys) (YPair (fun i => xs[i]?) (fun i => ys[i]?)) := by
  subst hn
  refine ⟨fun i _ hi q => ⟨xs, ys, xs[i]'(by omega), ys[i]'(by omega), q.1, q.2, List.getElem?_eq_getElem (by omega), List.getElem?_eq_getElem (by omega)⟩, fun _ q => ⟨xs, ys, q.1, q.2, by omega⟩, fun i H v H' _ q y => ?_⟩
  obtain ⟨T, x, z, h1, h2, h3, h4, h5⟩ := y
  exact ⟨T, x, z, h1, h2, h3, h4 xs q.1, h5 ys q.2⟩
end L2
namespace L2
open PySem PySem.Spec PyProof.Rows
/-! ### a new tuple whose object is known; methods of such a tuple -/
def SqF (H : Hp) (a : Addr) (xs : List V) : Prop := ∃ o : Obj, H a = some (.frz o (.tup xs)) ∧ o.dict = none
theorem SqF.sq {K : PySem.W.Frag} {H : Hp} {a : Addr} {xs : List V} (h : SqF H a xs) : SqT K H a xs := let ⟨o, h, _⟩ := h; .inl (.inr ⟨o, h⟩)
theorem SqF.ex {H H' : Hp} {a : Addr} {xs : List V} (h : SqF H a xs) (e : Evl.Ex H H') : SqF H' a xs := let ⟨o, h, d⟩ := h; ⟨o, e _ _ h, d⟩
def rTupF (K : PySem.W.Frag) : List V → Hp → VK → Prop := fun xs H Q => ∃ p ys, xs = [.ref p] ∧ SqL K H p ys ∧ ∀ l o, H l = none → o.dict = none → Q (.ref l) (upd H l (.frz o (.tup ys)))
def tBMT (T : String) (r : V → List V → Hp → VK → Prop) (to : TE) (t : TA) : TE := fun σ H Q => to σ H fun x H1 => (T = "tuple" ∧ ∃ p xs, x = .ref p ∧ SqF H1 p xs) ∧ t σ H1 fun xs H2 => r x xs H2 Q
section
variable {X : Cx}
theorem cr_tupF {K : PySem.W.Frag} (hK : X.K = K) : CallR X (.type "tuple") (rTupF K) := by
  subst hK
  intro pins s σ H xs us Q I r h
  obtain ⟨p, ys, rfl, hq, q⟩ := h
  rw [Vals.ref1 r]
  obtain ⟨its, rv, pl, hz⟩ := I.list hq
  have hlen := rv.length
  refine call_tuple_list pl.isList (fun h' kp => ?_) (by simp only [List.size_toArray] <;> omega)
  have J : Inv X pins σ H { s with heap := h' } := I.kept (t' := s.toks) kp
  exact ⟨.ref h'.objs.size, _, J.laid (o := .frz { cls := .type "tuple", data := .seq its.toArray } (.tup ys)) (t' := s.toks) (fun b o e => Heap.get?_push_of_some _ e) (Nat.le_refl _) ⟨Heap.get?_push_size _ rfl, hz, its, rv, IsTup.new _ _⟩, rfl, q _ _ (J.hok.fresh (Nat.le_refl _)) rfl⟩
theorem pe_bmT {o e : Expr} {es : List Expr} {to : TE} {t : TA} {name : Str} {apos cpos : Pos} {T id : String} {r : V → List V → Hp → VK → Prop} (pa : PlainAttrs T) (slot : Slot T name id) (hty : typeOf (.builtin id) = pure (.type "method_descriptor")) (hm : MtR X id r) (ho : PE X o to) (ha : PA X (e :: es) t)
    (hbase : attributeBase o name X.env (eval o X.env) = eval o X.env := by rfl)
    (hfew : ((backTo cpos (starEach (e :: es) X.env)).all (fun x => !x.1) && (backToKw cpos (keywordEach [] X.env)).all (fun x => x.1.isSome) && decide ((e :: es).length + ([] : List Keyword).length + (if ([] : List Keyword).isEmpty then 0 else 1) < 30)) = true := by rfl)
    (hline : (apos.endLine == cpos.line) = true := by rfl) (hs : starEach (e :: es) X.env = (false, eval e X.env) :: starEach es X.env := by rfl) (hplain : (backTo cpos (starEach es X.env)).any (·.1) = false := by rfl) : PE X (.Call (.Attribute o name apos) (e :: es) [] cpos) (tBMT T r to t) := by
  refine ⟨fun pins s σ H Q I h => wpAny_Call_method_late hbase hfew hline rfl (thn (ho.run pins s σ H _ I h) fun v s1 ⟨x, H1, I1, r1, ty, q1⟩ => ?_)⟩
  obtain ⟨rfl, p, xs, rfl, o1, hp, hd⟩ := ty
  cases r1
  obtain ⟨hg, _, its, _, ot, hot, hc, n, _⟩ := I1.hok p _ hp
  refine ⟨"tuple", id, pa, slot, hty, ⟨ot, hot, hc⟩, fun a e => ?_, ?_⟩
  · cases e
    exact ⟨o1, hg, hd⟩
  · have hA := ha.run cpos pins s1 σ H1 _ I1 q1
    rw [hs] at hA ⊢
    exact Calls.callWith_builtin (by show (false || (backTo cpos (starEach es X.env)).any (·.1)) = false; rw [hplain] <;> rfl) (Calls.evalArgs_plain (thn hA fun us s2 ⟨vs, H2, I2, r2, q2⟩ => hm pins s2 σ H2 (.ref p) vs _ us Q I2 rfl r2 q2))
end
theorem walk_enumT {K : PySem.W.Frag} {a : Addr} {xs : List V} : Walk (IteT K a) xs.length (fun H => SqT K H a xs) (YPair (fun i => some (.int (i : Nat))) (fun i => xs[i]?)) := by
  refine ⟨fun i _ hi q => ⟨xs, xs[i], q, List.getElem?_eq_getElem hi⟩, fun _ q => ⟨xs, q, rfl⟩, fun i H v H' _ q y => ?_⟩
  obtain ⟨T, x, h1, h2, h3, h4⟩ := y
  exact ⟨T, .int (i : Nat), x, h1, h2, h3, rfl, h4 xs q⟩
end L2
/-! The mathematics of machines: numbering by first coming, partition refinement, the table of pairs, the states by first coming. No Python. -/
namespace M1
/-! ### lists -/
theorem nodup_le {α : Type} [DecidableEq α] : ∀ {l m : List α}, l.Nodup → (∀ x ∈ l, x ∈ m) → l.length ≤ m.length
  | [], _, _, _ => Nat.zero_le _
  | a :: l, m, hn, hs => by
    have hn2 := List.nodup_cons.mp hn
    have ha : a ∈ m := hs a List.mem_cons_self
    have ih := nodup_le (l := l) (m := m.erase a) hn2.2 fun x hx => by
      have hne : x ≠ a := fun e => hn2.1 (e ▸ hx)
      exact (List.mem_erase_of_ne hne).mpr (hs x (List.mem_cons_of_mem _ hx))
    have hl := List.length_erase_of_mem ha
    have hp : 0 < m.length := List.length_pos_of_mem ha
    rw [List.length_cons]
    omega
theorem snoc_ind {α : Type} {P : List α → Prop} (h0 : P []) (h1 : ∀ l a, P l → P (l ++ [a])) (l : List α) : P l := by
  have h : ∀ n (l : List α), l.length = n → P l := by
    intro n
    induction n with
    | zero => intro l hl; have : l = [] := List.length_eq_zero_iff.mp hl; subst this; exact h0
    | succ n ih =>
      intro l hl
      have hne : l ≠ [] := fun e => by subst e; simp at hl
      have e := List.dropLast_concat_getLast hne
      rw [← e]
      refine h1 _ _ (ih _ ?_)
      rw [List.length_dropLast, hl]
      rfl
  exact h _ l rfl
theorem take_succ' {α : Type} {l : List α} {i : Nat} {x : α} (h : l[i]? = some x) : l.take (i + 1) = l.take i ++ [x] := by
  rw [List.take_add_one, h]; rfl

/-! ### numbering by first coming -/
section
variable {α : Type} [DecidableEq α] {β : Type} [DecidableEq β]
def nub (ks : List α) : List α := ks.foldl (fun a k => if k ∈ a then a else a ++ [k]) []
theorem nub_snoc (ks : List α) (k : α) : nub (ks ++ [k]) = if k ∈ nub ks then nub ks else nub ks ++ [k] := by
  unfold nub
  rw [List.foldl_append]
  rfl
theorem mem_nub (ks : List α) : ∀ x, x ∈ nub ks ↔ x ∈ ks := by
  refine snoc_ind (P := fun ks => ∀ x, x ∈ nub ks ↔ x ∈ ks) (fun x => Iff.rfl) (fun l a ih x => ?_) ks
  rw [nub_snoc]
  by_cases h : a ∈ nub l
  · rw [if_pos h, ih x, List.mem_append, List.mem_singleton]
    refine ⟨.inl, fun q => ?_⟩
    rcases q with q | q
    · exact q
    · subst q; exact (ih x).mp h
  · rw [if_neg h, List.mem_append, List.mem_append, ih x]
theorem nub_nodup (ks : List α) : (nub ks).Nodup := by
  refine snoc_ind (P := fun ks => (nub ks).Nodup) List.nodup_nil (fun l a ih => ?_) ks
  rw [nub_snoc]
  by_cases h : a ∈ nub l
  · rw [if_pos h]; exact ih
  · rw [if_neg h, List.nodup_append]
    refine ⟨ih, by simp, fun x hx y hy => ?_⟩
    rw [List.mem_singleton] at hy
    subst hy
    exact fun e => h (e ▸ hx)
/-- the numbers that first_come_numbers gives -/
def fc (ks : List α) : List Nat := ks.map fun k => (nub ks).idxOf k
theorem fc_length (ks : List α) : (fc ks).length = ks.length := by unfold fc; rw [List.length_map]
theorem idxOf_nub_snoc {ks : List α} {a x : α} (h : x ∈ ks) : (nub (ks ++ [a])).idxOf x = (nub ks).idxOf x := by
  rw [nub_snoc]
  split
  · rfl
  · rw [List.idxOf_append, if_pos ((mem_nub ks x).mpr h)]
theorem fc_snoc (ks : List α) (k : α) : fc (ks ++ [k]) = fc ks ++ [if k ∈ ks then (nub ks).idxOf k else (nub ks).length] := by
  unfold fc
  rw [List.map_append]
  have e1 : ks.map (fun x => (nub (ks ++ [k])).idxOf x) = ks.map fun x => (nub ks).idxOf x := List.map_congr_left fun x hx => idxOf_nub_snoc hx
  rw [e1]
  congr 1
  rw [List.map_singleton]
  congr 1
  by_cases h : k ∈ ks
  · rw [if_pos h, idxOf_nub_snoc h]
  · have h' : k ∉ nub ks := fun q => h ((mem_nub ks k).mp q)
    rw [if_neg h, nub_snoc, if_neg h', List.idxOf_append, if_neg h']
    simp
theorem fc_eq_iff {ks : List α} {i j : Nat} {a b : α} (hi : ks[i]? = some a) (hj : ks[j]? = some b) : (fc ks)[i]? = (fc ks)[j]? ↔ a = b := by
  unfold fc
  rw [List.getElem?_map, List.getElem?_map, hi, hj, Option.map_some, Option.map_some]
  refine ⟨fun e => ?_, fun e => by rw [e]⟩
  have e := Option.some.inj e
  have ma := (mem_nub ks a).mpr (List.mem_of_getElem? hi)
  have mb := (mem_nub ks b).mpr (List.mem_of_getElem? hj)
  have ha := List.idxOf_lt_length_of_mem ma
  have g1 := List.getElem_idxOf ha
  have hb := List.idxOf_lt_length_of_mem mb
  have g2 := List.getElem_idxOf hb
  rw [← g1, ← g2]
  congr 1
/-- the numbering goes by the kernel alone -/
theorem fc_kernel (ks : List α) : ∀ ls : List β, ls.length = ks.length → (∀ (i j : Nat) a b c d, ks[i]? = some a → ks[j]? = some b → ls[i]? = some c → ls[j]? = some d → (a = b ↔ c = d)) → fc ks = fc ls ∧ (nub ks).length = (nub ls).length := by
  refine snoc_ind (P := fun ks : List α => ∀ ls : List β, ls.length = ks.length → (∀ (i j : Nat) a b c d, ks[i]? = some a → ks[j]? = some b → ls[i]? = some c → ls[j]? = some d → (a = b ↔ c = d)) → fc ks = fc ls ∧ (nub ks).length = (nub ls).length) ?_ ?_ ks
  · intro ls hl _
    have : ls = [] := List.length_eq_zero_iff.mp hl
    subst this
    exact ⟨rfl, rfl⟩
  · intro ks k ih ls hl hk
    have hne : ls ≠ [] := fun e => by subst e; simp at hl
    obtain ⟨ms, m, rfl⟩ : ∃ ms m, ls = ms ++ [m] := ⟨_, _, (List.dropLast_concat_getLast hne).symm⟩
    have hl2 : ms.length = ks.length := by simpa using hl
    have lift : ∀ {γ : Type} (l : List γ) (x : γ) (i : Nat) (y : γ), l[i]? = some y → (l ++ [x])[i]? = some y := fun l x i y h => by
      rw [List.getElem?_append_left (List.getElem?_eq_some_iff.mp h).1]; exact h
    have lastg : ∀ {γ : Type} (l : List γ) (x : γ), (l ++ [x])[l.length]? = some x := fun l x => by simp
    obtain ⟨e1, e2⟩ := ih ms hl2 fun i j a b c d h1 h2 h3 h4 => hk i j a b c d (lift _ _ _ _ h1) (lift _ _ _ _ h2) (lift _ _ _ _ h3) (lift _ _ _ _ h4)
    have hmem : k ∈ ks ↔ m ∈ ms := by
      constructor
      · intro h
        obtain ⟨i, hi, e⟩ := List.getElem_of_mem h
        have g : ks[i]? = some k := by rw [List.getElem?_eq_getElem hi, e]
        have hi' : i < ms.length := by omega
        have q := (hk i ks.length k k ms[i] m (lift _ _ _ _ g) (lastg _ _) (lift _ _ _ _ (List.getElem?_eq_getElem hi')) (by rw [← hl2]; exact lastg _ _)).mp rfl
        rw [← q]
        exact List.getElem_mem hi'
      · intro h
        obtain ⟨i, hi, e⟩ := List.getElem_of_mem h
        have g : ms[i]? = some m := by rw [List.getElem?_eq_getElem hi, e]
        have hi' : i < ks.length := by omega
        have q := (hk i ks.length ks[i] k m m (lift _ _ _ _ (List.getElem?_eq_getElem hi')) (lastg _ _) (lift _ _ _ _ g) (by rw [← hl2]; exact lastg _ _)).mpr rfl
        rw [← q]
        exact List.getElem_mem hi'
    rw [fc_snoc, fc_snoc, nub_snoc, nub_snoc, e1]
    by_cases h : k ∈ ks
    · have h' := hmem.mp h
      rw [if_pos h, if_pos h', if_pos ((mem_nub ks k).mpr h), if_pos ((mem_nub ms m).mpr h')]
      refine ⟨?_, e2⟩
      congr 2
      obtain ⟨i, hi, e⟩ := List.getElem_of_mem h
      have hi' : i < ms.length := by omega
      have g : ks[i]? = some k := by rw [List.getElem?_eq_getElem hi, e]
      have q := (hk i ks.length k k ms[i] m (lift _ _ _ _ g) (lastg _ _) (lift _ _ _ _ (List.getElem?_eq_getElem hi')) (by rw [← hl2]; exact lastg _ _)).mp rfl
      have f1 : (fc ks)[i]? = some ((nub ks).idxOf k) := by unfold fc; rw [List.getElem?_map, g]; rfl
      have f2 : (fc ms)[i]? = some ((nub ms).idxOf m) := by unfold fc; rw [List.getElem?_map, List.getElem?_eq_getElem hi', q]; rfl
      rw [e1, f2] at f1
      exact (Option.some.inj f1).symm
    · have h' : m ∉ ms := fun q => h (hmem.mpr q)
      rw [if_neg h, if_neg h', if_neg (fun q => h ((mem_nub ks k).mp q)), if_neg (fun q => h' ((mem_nub ms m).mp q)), e2]
      refine ⟨rfl, ?_⟩
      rw [List.length_append, List.length_append, e2]
      rfl
end
end M1
namespace M1
/-! ### machines -/
/-- steps and answers: for each state a row, for each letter an item -/
structure Mach where
  st : List (List Nat)
  an : List (List Nat)
def Mach.n (M : Mach) : Nat := M.st.length
def Mach.k (M : Mach) : Nat := (M.st.getD 0 []).length
structure Mach.Ok (M : Mach) : Prop where
  n1 : 1 ≤ M.st.length
  n6 : M.st.length ≤ 6
  k1 : 1 ≤ M.k
  k3 : M.k ≤ 3
  la : M.an.length = M.st.length
  rs : ∀ r ∈ M.st, r.length = M.k ∧ ∀ x ∈ r, x < M.st.length
  ra : ∀ r ∈ M.an, r.length = M.k ∧ ∀ x ∈ r, x ≤ 9
def Mach.row (M : Mach) (i : Nat) : List Nat := M.st.getD i []
def Mach.ans (M : Mach) (i : Nat) : List Nat := M.an.getD i []
def Mach.go (M : Mach) (i a : Nat) : Nat := (M.row i).getD a 0
def Mach.out (M : Mach) (i a : Nat) : Nat := (M.ans i).getD a 0
section
variable {M : Mach}
theorem Mach.row_at {i : Nat} (h : i < M.st.length) : M.st[i]? = some (M.row i) := by
  unfold Mach.row
  rw [List.getD_eq_getElem?_getD, List.getElem?_eq_getElem h]
  rfl
theorem Mach.ans_at (ok : M.Ok) {i : Nat} (h : i < M.st.length) : M.an[i]? = some (M.ans i) := by
  have h' : i < M.an.length := by rw [ok.la]; exact h
  unfold Mach.ans
  rw [List.getD_eq_getElem?_getD, List.getElem?_eq_getElem h']
  rfl
theorem Mach.row_len (ok : M.Ok) {i : Nat} (h : i < M.st.length) : (M.row i).length = M.k := (ok.rs _ (List.mem_of_getElem? (M.row_at h))).1
theorem Mach.ans_len (ok : M.Ok) {i : Nat} (h : i < M.st.length) : (M.ans i).length = M.k := (ok.ra _ (List.mem_of_getElem? (M.ans_at ok h))).1
theorem Mach.go_at (ok : M.Ok) {i a : Nat} (h : i < M.st.length) (ha : a < M.k) : (M.row i)[a]? = some (M.go i a) := by
  have h' : a < (M.row i).length := by rw [M.row_len ok h]; exact ha
  unfold Mach.go
  rw [List.getD_eq_getElem?_getD, List.getElem?_eq_getElem h']
  rfl
theorem Mach.out_at (ok : M.Ok) {i a : Nat} (h : i < M.st.length) (ha : a < M.k) : (M.ans i)[a]? = some (M.out i a) := by
  have h' : a < (M.ans i).length := by rw [M.ans_len ok h]; exact ha
  unfold Mach.out
  rw [List.getD_eq_getElem?_getD, List.getElem?_eq_getElem h']
  rfl
theorem Mach.go_lt (ok : M.Ok) {i a : Nat} (h : i < M.st.length) (ha : a < M.k) : M.go i a < M.st.length :=
  (ok.rs _ (List.mem_of_getElem? (M.row_at h))).2 _ (List.mem_of_getElem? (M.go_at ok h ha))
theorem Mach.row_mem (ok : M.Ok) {i x : Nat} (h : i < M.st.length) (hx : x ∈ M.row i) : x < M.st.length := (ok.rs _ (List.mem_of_getElem? (M.row_at h))).2 x hx

/-- what a bisimulation asks -/
def Mach.Bis (M : Mach) (R : Nat → Nat → Prop) : Prop := ∀ x y, R x y → x < M.st.length ∧ y < M.st.length ∧ M.ans x = M.ans y ∧ ∀ a, a < M.k → R (M.go x a) (M.go y a)
/-- from both states every word is answered alike -/
def Mach.Eqv (M : Mach) (i j : Nat) : Prop := ∃ R : Nat → Nat → Prop, R i j ∧ M.Bis R
theorem Mach.Eqv.bis : M.Bis M.Eqv := fun x y ⟨R, h, b⟩ => ⟨(b x y h).1, (b x y h).2.1, (b x y h).2.2.1, fun a ha => ⟨R, (b x y h).2.2.2 a ha, b⟩⟩
theorem Mach.Eqv.refl (ok : M.Ok) {i : Nat} (h : i < M.st.length) : M.Eqv i i :=
  ⟨fun x y => x = y ∧ x < M.st.length, ⟨rfl, h⟩, fun x y ⟨e, hx⟩ => by subst e; exact ⟨hx, hx, rfl, fun a ha => ⟨rfl, M.go_lt ok hx ha⟩⟩⟩
theorem Mach.Eqv.symm {i j : Nat} (h : M.Eqv i j) : M.Eqv j i := by
  obtain ⟨R, h, b⟩ := h
  exact ⟨fun x y => R y x, h, fun x y q => ⟨(b y x q).2.1, (b y x q).1, (b y x q).2.2.1.symm, fun a ha => (b y x q).2.2.2 a ha⟩⟩
theorem Mach.Eqv.trans {i j k : Nat} (h : M.Eqv i j) (h' : M.Eqv j k) : M.Eqv i k :=
  ⟨fun x y => ∃ z, M.Eqv x z ∧ M.Eqv z y, ⟨j, h, h'⟩, fun x y ⟨z, p, q⟩ => by
    obtain ⟨a1, _, a3, a4⟩ := Mach.Eqv.bis x z p
    obtain ⟨_, b2, b3, b4⟩ := Mach.Eqv.bis z y q
    exact ⟨a1, b2, a3.trans b3, fun a ha => ⟨_, a4 a ha, b4 a ha⟩⟩⟩
end
open Classical in
/-- the same, told -/
noncomputable def Mach.eqv (M : Mach) (i j : Nat) : Bool := decide (M.Eqv i j)
theorem Mach.eqv_iff {M : Mach} {i j : Nat} : M.eqv i j = true ↔ M.Eqv i j := by
  unfold Mach.eqv
  simp

/-! ### partition refinement: alike_classes -/
/-- a state's key at a turn: its class and its row's classes -/
def Mach.key (M : Mach) (c : List Nat) (i : Nat) : Nat × List Nat := (c.getD i 0, (M.row i).map fun x => c.getD x 0)
def Mach.keys (M : Mach) (c : List Nat) : List (Nat × List Nat) := (List.range M.st.length).map (M.key c)
/-- the classes are coarser than being alike, and part what is answered unlike; they are numbered as they come -/
structure Mach.Cls (M : Mach) (c : List Nat) : Prop where
  len : c.length = M.st.length
  lt : ∀ x ∈ c, x < M.st.length
  coarse : ∀ i j, M.Eqv i j → c.getD i 0 = c.getD j 0
  part : ∀ i j, i < M.st.length → j < M.st.length → c.getD i 0 = c.getD j 0 → M.ans i = M.ans j
  num : fc c = c
theorem fc_fc {α : Type} [DecidableEq α] (ks : List α) : fc (fc ks) = fc ks := by
  refine (fc_kernel ks (fc ks) (fc_length ks) fun i j a b c d h1 h2 h3 h4 => ?_).1.symm
  rw [← fc_eq_iff h1 h2, h3, h4]
  exact ⟨fun e => Option.some.inj e, fun e => by rw [e]⟩
theorem fc_lt {α : Type} [DecidableEq α] (ks : List α) : ∀ x ∈ fc ks, x < ks.length := fun x hx => by
  unfold fc at hx
  obtain ⟨k, hk, e⟩ := List.mem_map.mp hx
  have h1 := List.idxOf_lt_length_of_mem ((mem_nub ks k).mpr hk)
  have h2 : (nub ks).length ≤ ks.length := nodup_le (nub_nodup ks) fun y hy => (mem_nub ks y).mp hy
  omega
theorem getD_of {α : Type} {l : List α} {i : Nat} {x d : α} (h : l[i]? = some x) : l.getD i d = x := by rw [List.getD_eq_getElem?_getD, h]; rfl
theorem getD_at {α : Type} {l : List α} {i : Nat} {d : α} (h : i < l.length) : l[i]? = some (l.getD i d) := by
  rw [List.getD_eq_getElem?_getD, List.getElem?_eq_getElem h]
  rfl
section
variable {M : Mach}
theorem fc_getD {α : Type} [DecidableEq α] {ks : List α} {i j : Nat} {a b : α} (hi : ks[i]? = some a) (hj : ks[j]? = some b) : (fc ks).getD i 0 = (fc ks).getD j 0 ↔ a = b := by
  have h1 : i < (fc ks).length := by rw [fc_length]; exact (List.getElem?_eq_some_iff.mp hi).1
  have h2 : j < (fc ks).length := by rw [fc_length]; exact (List.getElem?_eq_some_iff.mp hj).1
  rw [← fc_eq_iff hi hj, getD_at (d := 0) h1, getD_at (d := 0) h2]
  exact ⟨fun e => by rw [e], fun e => Option.some.inj e⟩
theorem Mach.Cls.first (ok : M.Ok) : M.Cls (fc M.an) where
  len := by rw [fc_length, ok.la]
  lt := fun x hx => by rw [← ok.la]; exact fc_lt _ x hx
  coarse := fun i j h => by
    obtain ⟨hi, hj, e, _⟩ := Mach.Eqv.bis i j h
    exact (fc_getD (M.ans_at ok hi) (M.ans_at ok hj)).mpr e
  part := fun i j hi hj e => (fc_getD (M.ans_at ok hi) (M.ans_at ok hj)).mp e
  num := fc_fc _
theorem Mach.keys_at {c : List Nat} {i : Nat} (h : i < M.st.length) : (M.keys c)[i]? = some (M.key c i) := by
  unfold Mach.keys
  rw [List.getElem?_map, List.getElem?_range h]
  rfl
theorem Mach.keys_len {c : List Nat} : (M.keys c).length = M.st.length := by unfold Mach.keys; rw [List.length_map, List.length_range]
theorem map_ext_at {α β : Type} {f : α → β} {l m : List α} (hl : l.length = m.length) (h : ∀ (i : Nat) a b, l[i]? = some a → m[i]? = some b → f a = f b) : l.map f = m.map f := by
  refine List.ext_getElem? fun i => ?_
  rw [List.getElem?_map, List.getElem?_map]
  by_cases hi : i < l.length
  · have hi' : i < m.length := by omega
    rw [List.getElem?_eq_getElem hi, List.getElem?_eq_getElem hi', Option.map_some, Option.map_some, h i _ _ (List.getElem?_eq_getElem hi) (List.getElem?_eq_getElem hi')]
  · rw [List.getElem?_eq_none (by omega), List.getElem?_eq_none (by omega)]
theorem Mach.Cls.next (ok : M.Ok) {c : List Nat} (C : M.Cls c) : M.Cls (fc (M.keys c)) where
  len := by rw [fc_length, M.keys_len]
  lt := fun x hx => by have := fc_lt _ x hx; rwa [M.keys_len] at this
  coarse := fun i j h => by
    obtain ⟨hi, hj, e, g⟩ := Mach.Eqv.bis i j h
    refine (fc_getD (M.keys_at hi) (M.keys_at hj)).mpr ?_
    unfold Mach.key
    rw [C.coarse i j h]
    congr 1
    refine List.ext_getElem? fun a => ?_
    rw [List.getElem?_map, List.getElem?_map]
    by_cases ha : a < M.k
    · rw [M.go_at ok hi ha, M.go_at ok hj ha, Option.map_some, Option.map_some, C.coarse _ _ (g a ha)]
    · rw [List.getElem?_eq_none (by rw [M.row_len ok hi]; omega), List.getElem?_eq_none (by rw [M.row_len ok hj]; omega)]
  part := fun i j hi hj e => by
    have q := (fc_getD (M.keys_at hi) (M.keys_at hj)).mp e
    exact C.part i j hi hj (Prod.mk.inj q).1
  num := fc_fc _
/-- at the end -/
theorem Mach.Cls.done (ok : M.Ok) {c : List Nat} (C : M.Cls c) (e : fc (M.keys c) = c) {i j : Nat} (hi : i < M.st.length) (hj : j < M.st.length) : c.getD i 0 = c.getD j 0 ↔ M.Eqv i j := by
  refine ⟨fun h => ⟨fun x y => x < M.st.length ∧ y < M.st.length ∧ c.getD x 0 = c.getD y 0, ⟨hi, hj, h⟩, fun x y ⟨hx, hy, q⟩ => ⟨hx, hy, C.part x y hx hy q, fun a ha => ⟨M.go_lt ok hx ha, M.go_lt ok hy ha, ?_⟩⟩⟩, C.coarse i j⟩
  have q2 : (fc (M.keys c)).getD x 0 = (fc (M.keys c)).getD y 0 := by rw [e]; exact q
  have q3 := (Prod.mk.inj ((fc_getD (M.keys_at hx) (M.keys_at hy)).mp q2)).2
  have q4 := congrArg (fun l => l[a]?) q3
  simp only [List.getElem?_map] at q4
  rw [M.go_at ok hx ha, M.go_at ok hy ha, Option.map_some, Option.map_some] at q4
  exact Option.some.inj q4
/-- what falls: the pairs of one class -/
def pairsN (n : Nat) : List (Nat × Nat) := (List.range n).flatMap fun i => (List.range n).map fun j => (i, j)
theorem mem_pairsN {n : Nat} {p : Nat × Nat} : p ∈ pairsN n ↔ p.1 < n ∧ p.2 < n := by
  unfold pairsN
  rw [List.mem_flatMap]
  constructor
  · rintro ⟨i, hi, h⟩
    obtain ⟨j, hj, rfl⟩ := List.mem_map.mp h
    exact ⟨List.mem_range.mp hi, List.mem_range.mp hj⟩
  · rintro ⟨h1, h2⟩
    exact ⟨p.1, List.mem_range.mpr h1, List.mem_map.mpr ⟨p.2, List.mem_range.mpr h2, rfl⟩⟩
theorem pairsN_len (n : Nat) : (pairsN n).length = n * n := by
  unfold pairsN
  have h : ∀ l : List Nat, (l.flatMap fun i => (List.range n).map fun j => (i, j)).length = l.length * n := by
    intro l
    induction l with
    | nil => simp
    | cons a l ih => rw [List.flatMap_cons, List.length_append, ih, List.length_map, List.length_range, List.length_cons, Nat.add_mul, Nat.one_mul]; omega
  rw [h, List.length_range]
def meas (n : Nat) (c : List Nat) : Nat := ((pairsN n).filter fun p => decide (c.getD p.1 0 = c.getD p.2 0)).length
theorem filter_lt {α : Type} {p q : α → Bool} : ∀ {l : List α}, (∀ x ∈ l, p x = true → q x = true) → (∃ x ∈ l, q x = true ∧ p x = false) → (l.filter p).length < (l.filter q).length
  | [], _, ⟨x, hx, _⟩ => by simp at hx
  | a :: l, h, ⟨x, hx, h1, h2⟩ => by
    have hle : (l.filter p).length ≤ (l.filter q).length := by
      have : ∀ l : List α, (∀ x ∈ l, p x = true → q x = true) → (l.filter p).length ≤ (l.filter q).length := by
        intro l
        induction l with
        | nil => intro _; simp
        | cons b l ih =>
          intro hb
          have ih := ih fun x hx => hb x (List.mem_cons_of_mem _ hx)
          rw [List.filter_cons, List.filter_cons]
          by_cases e : p b = true
          · rw [if_pos e, if_pos (hb b List.mem_cons_self e), List.length_cons, List.length_cons]; omega
          · rw [if_neg e]
            split
            · rw [List.length_cons]; omega
            · exact ih
      exact this l fun x hx => h x (List.mem_cons_of_mem _ hx)
    rw [List.filter_cons, List.filter_cons]
    rcases List.mem_cons.mp hx with e | hx
    · subst e
      rw [if_pos h1, if_neg (by rw [h2]; decide), List.length_cons]
      omega
    · have ih := filter_lt (l := l) (fun x hx => h x (List.mem_cons_of_mem _ hx)) ⟨x, hx, h1, h2⟩
      by_cases e : p a = true
      · rw [if_pos e, if_pos (h a List.mem_cons_self e), List.length_cons, List.length_cons]; omega
      · rw [if_neg e]
        split
        · rw [List.length_cons]; omega
        · exact ih
theorem Mach.Cls.fall {c : List Nat} (C : M.Cls c) (e : fc (M.keys c) ≠ c) : meas M.st.length (fc (M.keys c)) < meas M.st.length c := by
  have fine : ∀ i j, i < M.st.length → j < M.st.length → (fc (M.keys c)).getD i 0 = (fc (M.keys c)).getD j 0 → c.getD i 0 = c.getD j 0 := fun i j hi hj q =>
    (Prod.mk.inj ((fc_getD (M.keys_at hi) (M.keys_at hj)).mp q)).1
  refine filter_lt (fun p hp q => ?_) ?_
  · obtain ⟨h1, h2⟩ := mem_pairsN.mp hp
    exact decide_eq_true (fine _ _ h1 h2 (of_decide_eq_true q))
  · refine Classical.byContradiction fun hno => e ?_
    have all : ∀ i j, i < M.st.length → j < M.st.length → c.getD i 0 = c.getD j 0 → (fc (M.keys c)).getD i 0 = (fc (M.keys c)).getD j 0 := fun i j hi hj q => by
      refine Classical.byContradiction fun hn => hno ⟨(i, j), mem_pairsN.mpr ⟨hi, hj⟩, decide_eq_true q, decide_eq_false hn⟩
    have h := (fc_kernel c (M.keys c) (by rw [M.keys_len, C.len]) fun i j a b x y h1 h2 h3 h4 => ?_).1
    · rw [← h]; exact C.num
    · have hi : i < M.st.length := by have := (List.getElem?_eq_some_iff.mp h1).1; rwa [C.len] at this
      have hj : j < M.st.length := by have := (List.getElem?_eq_some_iff.mp h2).1; rwa [C.len] at this
      have f := fc_getD h3 h4
      rw [← f]
      have ga := getD_of (d := 0) h1
      have gb := getD_of (d := 0) h2
      constructor
      · intro q
        exact all i j hi hj (by rw [ga, gb, q])
      · intro q
        have := fine i j hi hj q
        rw [ga, gb] at this
        exact this
end
end M1
namespace M1
/-! ### the table of pairs: _law_unlike -/
/-- what a turn asks of a pair, the table being ps -/
def Mach.unl (M : Mach) (ps : List (Nat × Nat)) (p : Nat × Nat) : Prop := M.ans p.1 ≠ M.ans p.2 ∨ ∃ a, a < M.k ∧ (M.go p.1 a, M.go p.2 a) ∈ ps
noncomputable instance {M : Mach} {ps : List (Nat × Nat)} {p : Nat × Nat} : Decidable (M.unl ps p) := Classical.propDecidable _
def addP (ps : List (Nat × Nat)) (p : Nat × Nat) : List (Nat × Nat) := if p ∈ ps then ps else ps ++ [p]
section
variable {M : Mach}
/-- the table's pairs are states that are not alike; each once -/
structure Mach.Tab (M : Mach) (ps : List (Nat × Nat)) : Prop where
  nd : ps.Nodup
  lt : ∀ p ∈ ps, p.1 < M.st.length ∧ p.2 < M.st.length
  sound : ∀ p ∈ ps, ¬ M.Eqv p.1 p.2
theorem Mach.Tab.nil : M.Tab [] := ⟨List.nodup_nil, fun _ h => by simp at h, fun _ h => by simp at h⟩
theorem Mach.Tab.add {ps : List (Nat × Nat)} {p : Nat × Nat} (T : M.Tab ps) (h1 : p.1 < M.st.length) (h2 : p.2 < M.st.length) (h : M.unl ps p) : M.Tab (addP ps p) := by
  unfold addP
  by_cases hm : p ∈ ps
  · rw [if_pos hm]; exact T
  · rw [if_neg hm]
    refine ⟨?_, fun q hq => ?_, fun q hq => ?_⟩
    · rw [List.nodup_append]
      refine ⟨T.nd, by simp, fun x hx y hy e => ?_⟩
      rw [List.mem_singleton] at hy
      subst hy e
      exact hm hx
    · rcases List.mem_append.mp hq with hq | hq
      · exact T.lt q hq
      · rw [List.mem_singleton] at hq; subst hq; exact ⟨h1, h2⟩
    · rcases List.mem_append.mp hq with hq | hq
      · exact T.sound q hq
      · rw [List.mem_singleton] at hq
        subst hq
        intro e
        obtain ⟨_, _, e1, e2⟩ := Mach.Eqv.bis _ _ e
        rcases h with h | ⟨a, ha, h⟩
        · exact h e1
        · exact T.sound _ h (e2 a ha)
theorem addP_len (ps : List (Nat × Nat)) (p : Nat × Nat) : ps.length ≤ (addP ps p).length := by
  unfold addP
  split
  · exact Nat.le_refl _
  · rw [List.length_append]; omega
theorem addP_sub {ps : List (Nat × Nat)} {p : Nat × Nat} : ∀ q ∈ ps, q ∈ addP ps p := fun q hq => by
  unfold addP
  split
  · exact hq
  · exact List.mem_append_left _ hq
theorem addP_mem {ps : List (Nat × Nat)} {p : Nat × Nat} : p ∈ addP ps p := by
  unfold addP
  split
  · assumption
  · exact List.mem_append_right _ (List.mem_singleton.mpr rfl)
theorem Mach.unl.mono {ps qs : List (Nat × Nat)} {p : Nat × Nat} (s : ∀ q ∈ ps, q ∈ qs) (h : M.unl ps p) : M.unl qs p := by
  rcases h with h | ⟨a, ha, h⟩
  · exact .inl h
  · exact .inr ⟨a, ha, s _ h⟩
/-- all that are not alike are in -/
def Mach.Full (M : Mach) (ps : List (Nat × Nat)) : Prop := ∀ i j, i < M.st.length → j < M.st.length → ¬ M.Eqv i j → (i, j) ∈ ps
theorem Mach.full_of (ok : M.Ok) {ps : List (Nat × Nat)} (h : ∀ p, p.1 < M.st.length → p.2 < M.st.length → M.unl ps p → p ∈ ps) : M.Full ps := fun i j hi hj hn => by
  refine Classical.byContradiction fun hm => hn ⟨fun x y => x < M.st.length ∧ y < M.st.length ∧ (x, y) ∉ ps, ⟨hi, hj, hm⟩, fun x y ⟨hx, hy, q⟩ => ⟨hx, hy, ?_, fun a ha => ⟨M.go_lt ok hx ha, M.go_lt ok hy ha, fun r => q (h _ hx hy (.inr ⟨a, ha, r⟩))⟩⟩⟩
  exact Classical.byContradiction fun r => q (h _ hx hy (.inl r))
/-- the table as the turns go: t of them done -/
def Mach.Turns (M : Mach) (t : Nat) (ps : List (Nat × Nat)) : Prop := M.Tab ps ∧ (M.Full ps ∨ t ≤ ps.length)
/-- within a turn: begun with ps, the pairs ahead of those of one's row i and other j done -/
def Mach.In (M : Mach) (ps : List (Nat × Nat)) (i j : Nat) (qs : List (Nat × Nat)) : Prop :=
  M.Tab qs ∧ (∃ more, qs = ps ++ more) ∧ ∀ p : Nat × Nat, p.1 < M.st.length → p.2 < M.st.length → (p.1 < i ∨ p.1 = i ∧ p.2 < j) → M.unl ps p → p ∈ qs
theorem Mach.In.first {t : Nat} {ps : List (Nat × Nat)} (h : M.Turns t ps) : M.In ps 0 0 ps := ⟨h.1, ⟨[], by simp⟩, fun p _ _ h => by omega⟩
theorem Mach.In.more {ps qs : List (Nat × Nat)} {i j : Nat} (h : M.In ps i j qs) : ∀ q ∈ ps, q ∈ qs := fun q hq => by
  obtain ⟨m, e⟩ := h.2.1
  rw [e]
  exact List.mem_append_left _ hq
theorem Mach.In.add {ps qs : List (Nat × Nat)} {i j : Nat} (h : M.In ps i j qs) (hi : i < M.st.length) (hj : j < M.st.length) (u : M.unl qs (i, j)) : M.In ps i (j + 1) (addP qs (i, j)) := by
  obtain ⟨T, ⟨more, e⟩, k⟩ := h
  refine ⟨T.add hi hj u, ?_, fun p h1 h2 h3 h4 => ?_⟩
  · unfold addP
    split
    · exact ⟨more, e⟩
    · exact ⟨more ++ [(i, j)], by rw [e, List.append_assoc]⟩
  · by_cases ep : p = (i, j)
    · rw [ep]; exact addP_mem
    · refine addP_sub _ (k p h1 h2 ?_ h4)
      rcases h3 with h3 | ⟨h3, h5⟩
      · exact .inl h3
      · refine .inr ⟨h3, ?_⟩
        have : p.2 ≠ j := fun e => ep (by rw [← h3, ← e])
        omega
theorem Mach.In.skip {ps qs : List (Nat × Nat)} {i j : Nat} (h : M.In ps i j qs) (u : ¬ M.unl qs (i, j)) : M.In ps i (j + 1) qs := by
  have hs := h.more
  obtain ⟨T, me, k⟩ := h
  refine ⟨T, me, fun p h1 h2 h3 h4 => k p h1 h2 ?_ h4⟩
  rcases h3 with h3 | ⟨h3, h5⟩
  · exact .inl h3
  · refine .inr ⟨h3, ?_⟩
    have : p.2 ≠ j := fun e => u (by
      have ep : p = (i, j) := by rw [← h3, ← e]
      rw [← ep]
      exact h4.mono hs)
    omega
theorem Mach.In.row {ps qs : List (Nat × Nat)} {i : Nat} (h : M.In ps i M.st.length qs) : M.In ps (i + 1) 0 qs := by
  obtain ⟨T, me, k⟩ := h
  refine ⟨T, me, fun p h1 h2 h3 h4 => k p h1 h2 ?_ h4⟩
  rcases h3 with h3 | ⟨h3, h5⟩
  · by_cases e : p.1 = i
    · exact .inr ⟨e, h2⟩
    · exact .inl (by omega)
  · omega
theorem Mach.In.turn (ok : M.Ok) {t : Nat} {ps qs : List (Nat × Nat)} (h0 : M.Turns t ps) (h : M.In ps M.st.length 0 qs) : M.Turns (t + 1) qs := by
  have hs := h.more
  obtain ⟨T, ⟨more, e⟩, k⟩ := h
  refine ⟨T, ?_⟩
  rcases h0.2 with f | f
  · exact .inl fun i j hi hj hn => hs _ (f i j hi hj hn)
  · by_cases hm : more = []
    · subst hm
      rw [List.append_nil] at e
      subst e
      exact .inl (M.full_of ok fun p h1 h2 h4 => k p h1 h2 (.inl h1) h4)
    · refine .inr ?_
      rw [e, List.length_append]
      have := List.length_pos_iff.mpr hm
      omega
theorem Mach.Turns.done {ps : List (Nat × Nat)} (h : M.Turns (M.st.length * M.st.length + 1) ps) : M.Full ps := by
  rcases h.2 with f | f
  · exact f
  · have h1 := nodup_le h.1.nd (m := pairsN M.st.length) fun p hp => mem_pairsN.mpr (h.1.lt p hp)
    rw [pairsN_len] at h1
    omega
/-- in the table at the end: not alike -/
theorem Mach.Turns.iff {ps : List (Nat × Nat)} (h : M.Turns (M.st.length * M.st.length + 1) ps) {i j : Nat} (hi : i < M.st.length) (hj : j < M.st.length) : (i, j) ∈ ps ↔ M.eqv i j = false := by
  have e : M.eqv i j = false ↔ ¬ M.Eqv i j := by rw [← Mach.eqv_iff]; simp
  rw [e]
  exact ⟨h.1.sound (i, j), h.done i j hi hj⟩

/-! ### the states by first coming -/
/-- a row's states taken in: those that are alike to none -/
noncomputable def Mach.grow1 (M : Mach) (o : List Nat) (x : Nat) : List Nat := if (o.any fun y => M.eqv y x) = true then o else o ++ [x]
noncomputable def Mach.grow (M : Mach) (o : List Nat) (r : List Nat) : List Nat := r.foldl M.grow1 o
noncomputable def Mach.ord (M : Mach) : Nat → List Nat
  | 0 => [0]
  | i + 1 => match (M.ord i)[i]? with
    | some s => M.grow (M.ord i) (M.row s)
    | none => M.ord i
/-- states, no two of them alike -/
structure Mach.Apart (M : Mach) (o : List Nat) : Prop where
  lt : ∀ x ∈ o, x < M.st.length
  ap : o.Pairwise fun x y => ¬ M.Eqv x y
theorem Mach.grow1_pre (o : List Nat) (x : Nat) : ∃ m, M.grow1 o x = o ++ m := by
  unfold Mach.grow1
  split
  · exact ⟨[], by simp⟩
  · exact ⟨[x], rfl⟩
theorem Mach.grow_pre (r : List Nat) : ∀ o : List Nat, ∃ m, M.grow o r = o ++ m := by
  induction r with
  | nil => exact fun o => ⟨[], by simp [Mach.grow]⟩
  | cons x r ih =>
    intro o
    obtain ⟨m, e⟩ := M.grow1_pre o x
    obtain ⟨m', e'⟩ := ih (M.grow1 o x)
    exact ⟨m ++ m', by show M.grow (M.grow1 o x) r = _; rw [e', e, List.append_assoc]⟩
theorem Mach.grow1_apart {o : List Nat} (A : M.Apart o) {x : Nat} (hx : x < M.st.length) : M.Apart (M.grow1 o x) := by
  unfold Mach.grow1
  by_cases h : (o.any fun y => M.eqv y x) = true
  · rw [if_pos h]; exact A
  · rw [if_neg h]
    refine ⟨fun y hy => ?_, ?_⟩
    · rcases List.mem_append.mp hy with hy | hy
      · exact A.lt y hy
      · rw [List.mem_singleton] at hy; subst hy; exact hx
    · rw [List.pairwise_append]
      refine ⟨A.ap, by simp, fun y hy z hz e => ?_⟩
      rw [List.mem_singleton] at hz
      subst hz
      exact h (List.any_eq_true.mpr ⟨y, hy, Mach.eqv_iff.mpr e⟩)
theorem Mach.grow_apart : ∀ {r o : List Nat}, M.Apart o → (∀ x ∈ r, x < M.st.length) → M.Apart (M.grow o r)
  | [], _, A, _ => A
  | x :: r, _, A, h => Mach.grow_apart (r := r) (M.grow1_apart A (h x List.mem_cons_self)) fun y hy => h y (List.mem_cons_of_mem _ hy)
theorem Mach.ord_apart (ok : M.Ok) : ∀ i, M.Apart (M.ord i)
  | 0 => ⟨fun x hx => by
      have : x = 0 := by simpa [Mach.ord] using hx
      subst this
      exact ok.n1, by simp [Mach.ord]⟩
  | i + 1 => by
    have A := Mach.ord_apart ok i
    unfold Mach.ord
    cases e : (M.ord i)[i]? with
    | none => exact A
    | some s => exact M.grow_apart A fun x hx => M.row_mem ok (A.lt s (List.mem_of_getElem? e)) hx
theorem Mach.Apart.le (ok : M.Ok) {o : List Nat} (A : M.Apart o) : o.length ≤ M.st.length := by
  have hn : o.Nodup := by
    refine A.ap.imp_of_mem fun {x y} hx _ h e => ?_
    subst e
    exact h (Mach.Eqv.refl ok (A.lt x hx))
  have h := nodup_le hn (m := List.range M.st.length) fun x hx => List.mem_range.mpr (A.lt x hx)
  rwa [List.length_range] at h
theorem Mach.ord_pre (i : Nat) : ∃ m, M.ord (i + 1) = M.ord i ++ m := by
  show ∃ m, (match (M.ord i)[i]? with | some s => M.grow (M.ord i) (M.row s) | none => M.ord i) = M.ord i ++ m
  cases (M.ord i)[i]? with
  | none => exact ⟨[], by simp⟩
  | some s => exact M.grow_pre _ _
theorem Mach.ord_pres (i : Nat) : ∀ d, ∃ m, M.ord (i + d) = M.ord i ++ m
  | 0 => ⟨[], by simp⟩
  | d + 1 => by
    obtain ⟨m, e⟩ := Mach.ord_pres i d
    obtain ⟨m', e'⟩ := Mach.ord_pre (M := M) (i + d)
    exact ⟨m ++ m', by rw [← Nat.add_assoc, e', e, List.append_assoc]⟩
theorem Mach.ord_step {i s : Nat} (h : (M.ord i)[i]? = some s) : M.ord (i + 1) = M.grow (M.ord i) (M.row s) := by
  show (match (M.ord i)[i]? with | some s => M.grow (M.ord i) (M.row s) | none => M.ord i) = _
  rw [h]
theorem Mach.ord_stop {i : Nat} (h : (M.ord i).length ≤ i) : ∀ d, M.ord (i + d) = M.ord i
  | 0 => rfl
  | d + 1 => by
    have ih := Mach.ord_stop h d
    have g : (M.ord (i + d))[i + d]? = none := by rw [ih]; exact List.getElem?_eq_none (by omega)
    rw [← Nat.add_assoc]
    show (match (M.ord (i + d))[i + d]? with | some s => M.grow (M.ord (i + d)) (M.row s) | none => M.ord (i + d)) = _
    rw [g]
    exact ih
/-- all of them, in the end -/
noncomputable def Mach.all (M : Mach) : List Nat := M.ord 6
theorem Mach.all_of (ok : M.Ok) {i : Nat} (h : (M.ord i).length ≤ i) : M.ord i = M.all := by
  unfold Mach.all
  have l6 := (Mach.ord_apart ok 6).le ok
  have n6 := ok.n6
  by_cases hi : i ≤ 6
  · have := Mach.ord_stop h (6 - i)
    rw [show i + (6 - i) = 6 by omega] at this
    exact this.symm
  · have := Mach.ord_stop (M := M) (i := 6) (by omega) (i - 6)
    rw [show 6 + (i - 6) = i by omega] at this
    exact this
/-- the number that a state has among o: its class's -/
noncomputable def Mach.num (M : Mach) (o : List Nat) (x : Nat) : Nat := o.findIdx fun y => M.eqv y x
/-- the least machine -/
noncomputable def Mach.least (M : Mach) : Mach := ⟨M.all.map fun s => (M.row s).map (M.num M.all), M.all.map M.ans⟩
theorem Mach.grow_has : ∀ {r o : List Nat} {x : Nat}, (∀ z ∈ r, z < M.st.length) → M.Ok → x ∈ r → ∃ y ∈ M.grow o r, M.eqv y x = true
  | z :: r, o, x, hz, ok, h => by
    rcases List.mem_cons.mp h with e | h
    · subst e
      obtain ⟨m, e2⟩ := M.grow_pre r (M.grow1 o x)
      have h1 : ∃ y ∈ M.grow1 o x, M.eqv y x = true := by
        unfold Mach.grow1
        by_cases h : (o.any fun y => M.eqv y x) = true
        · rw [if_pos h]
          obtain ⟨y, hy, q⟩ := List.any_eq_true.mp h
          exact ⟨y, hy, q⟩
        · rw [if_neg h]
          exact ⟨x, List.mem_append_right _ (List.mem_singleton.mpr rfl), Mach.eqv_iff.mpr (Mach.Eqv.refl ok (hz x List.mem_cons_self))⟩
      obtain ⟨y, hy, q⟩ := h1
      exact ⟨y, by show y ∈ M.grow (M.grow1 o x) r; rw [e2]; exact List.mem_append_left _ hy, q⟩
    · exact Mach.grow_has (r := r) (o := M.grow1 o z) (fun w hw => hz w (List.mem_cons_of_mem _ hw)) ok h
/-- a number, once there, stays -/
theorem Mach.num_pre {o m : List Nat} {x : Nat} (h : ∃ y ∈ o, M.eqv y x = true) : M.num (o ++ m) x = M.num o x := by
  unfold Mach.num
  rw [List.findIdx_append, if_pos]
  exact List.findIdx_lt_length_of_exists h
theorem Mach.num_lt {o : List Nat} {x : Nat} (h : ∃ y ∈ o, M.eqv y x = true) : M.num o x < o.length := List.findIdx_lt_length_of_exists h
theorem Mach.num_at {o : List Nat} {x : Nat} (h : ∃ y ∈ o, M.eqv y x = true) : ∃ y, o[M.num o x]? = some y ∧ M.eqv y x = true := by
  have hl := M.num_lt h
  exact ⟨_, List.getElem?_eq_getElem hl, List.findIdx_getElem (w := hl)⟩
/-- the number by which an apart list names a state is the only one -/
theorem Mach.Apart.only {o : List Nat} (A : M.Apart o) {i j : Nat} {x y z : Nat} (hi : o[i]? = some x) (hj : o[j]? = some y) (hx : M.Eqv x z) (hy : M.Eqv y z) : i = j := by
  obtain ⟨h1, e1⟩ := List.getElem?_eq_some_iff.mp hi
  obtain ⟨h2, e2⟩ := List.getElem?_eq_some_iff.mp hj
  have q := List.pairwise_iff_getElem.mp A.ap
  rcases Nat.lt_trichotomy i j with h | h | h
  · exact absurd (hx.trans hy.symm) (by have := q i j h1 h2 h; rw [e1, e2] at this; exact this)
  · exact h
  · exact absurd (hy.trans hx.symm) (by have := q j i h2 h1 h; rw [e1, e2] at this; exact this)
end
end M1
namespace M1
section
variable {M : Mach}
/-- the state to which a word leads -/
def Mach.led (M : Mach) (i : Nat) (r : List Nat) : Nat := r.foldl M.go i
/-- the answer to the letter at j -/
def Mach.tld (M : Mach) (i : Nat) (r : List Nat) (j : Nat) : Nat := M.out (M.led i (r.take j)) (r.getD j 0)
theorem Mach.led_lt (ok : M.Ok) : ∀ {r : List Nat} {i : Nat}, i < M.st.length → (∀ x ∈ r, x < M.k) → M.led i r < M.st.length
  | [], _, h, _ => h
  | a :: r, i, h, hr => Mach.led_lt ok (r := r) (i := M.go i a) (M.go_lt ok h (hr a List.mem_cons_self)) fun x hx => hr x (List.mem_cons_of_mem _ hx)
theorem Mach.led_take {i : Nat} {r : List Nat} {j a : Nat} (h : r[j]? = some a) : M.led i (r.take (j + 1)) = M.go (M.led i (r.take j)) a := by
  unfold Mach.led
  rw [take_succ' h, List.foldl_append]
  rfl
theorem fc_map {α β : Type} [DecidableEq α] [DecidableEq β] (f : α → β) (hf : ∀ a b, f a = f b → a = b) (ks : List α) : fc (ks.map f) = fc ks := by
  refine (fc_kernel (ks.map f) ks (by rw [List.length_map]) fun i j a b c d h1 h2 h3 h4 => ?_).1
  rw [List.getElem?_map, h3] at h1
  rw [List.getElem?_map, h4] at h2
  have e1 := Option.some.inj h1
  have e2 := Option.some.inj h2
  rw [← e1, ← e2]
  exact ⟨fun e => hf _ _ e, fun e => by rw [e]⟩
theorem idxOf_take {α : Type} [DecidableEq α] {ks : List α} {i : Nat} {k : α} (h : ks[i]? = some k) :
    fc (ks.take (i + 1)) = fc (ks.take i) ++ [if k ∈ nub (ks.take i) then (nub (ks.take i)).idxOf k else (nub (ks.take i)).length] := by
  rw [take_succ' h, fc_snoc]
  congr 2
  by_cases hm : k ∈ ks.take i
  · rw [if_pos hm, if_pos ((mem_nub _ k).mpr hm)]
  · rw [if_neg hm, if_neg fun q => hm ((mem_nub _ k).mp q)]
theorem nub_take {α : Type} [DecidableEq α] {ks : List α} {i : Nat} {k : α} (h : ks[i]? = some k) :
    nub (ks.take (i + 1)) = if k ∈ nub (ks.take i) then nub (ks.take i) else nub (ks.take i) ++ [k] := by
  rw [take_succ' h, nub_snoc]
theorem nub_len {α : Type} [DecidableEq α] (ks : List α) : (nub ks).length ≤ ks.length := nodup_le (nub_nodup ks) fun y hy => (mem_nub ks y).mp hy
theorem Mach.keys_take {c : List Nat} {i : Nat} (h : i < M.st.length) : (List.range (i + 1)).map (M.key c) = (List.range i).map (M.key c) ++ [M.key c i] := by rw [List.range_succ, List.map_append]; rfl
/-! ### the least machine's rows as they are made -/
theorem Mach.ord_lt (ok : M.Ok) {i s : Nat} (h : (M.ord i)[i]? = some s) : s < M.st.length := (M.ord_apart ok i).lt s (List.mem_of_getElem? h)
theorem Mach.all_pre (ok : M.Ok) (i : Nat) : ∃ m, M.all = M.ord i ++ m := by
  by_cases h : i ≤ 6
  · obtain ⟨m, e⟩ := Mach.ord_pres (M := M) i (6 - i)
    refine ⟨m, ?_⟩
    unfold Mach.all
    rw [← e, show i + (6 - i) = 6 by omega]
  · have l6 := (M.ord_apart ok 6).le ok
    have n6 := ok.n6
    have := Mach.ord_stop (M := M) (i := 6) (by omega) (i - 6)
    rw [show 6 + (i - 6) = i by omega] at this
    exact ⟨[], by rw [this, List.append_nil]; rfl⟩
/-- a row's numbers are the same at the end -/
theorem Mach.row_num (ok : M.Ok) {i s : Nat} (h : (M.ord i)[i]? = some s) : (M.row s).map (M.num (M.ord (i + 1))) = (M.row s).map (M.num M.all) := by
  obtain ⟨m, e⟩ := M.all_pre ok (i + 1)
  refine List.map_congr_left fun x hx => ?_
  rw [e, M.num_pre]
  rw [M.ord_step h]
  exact M.grow_has (fun z hz => M.row_mem ok (M.ord_lt ok h) hz) ok hx
theorem Mach.all_at (ok : M.Ok) {i s : Nat} (h : (M.ord i)[i]? = some s) : M.all[i]? = some s := by
  obtain ⟨m, e⟩ := M.all_pre ok i
  rw [e, List.getElem?_append_left (List.getElem?_eq_some_iff.mp h).1]
  exact h
/-- within a row: taken in so far -/
noncomputable def Mach.mid (M : Mach) (i s j : Nat) : List Nat := M.grow (M.ord i) ((M.row s).take j)
theorem Mach.mid_zero {i s : Nat} : M.mid i s 0 = M.ord i := rfl
theorem Mach.mid_succ {i s j x : Nat} (h : (M.row s)[j]? = some x) : M.mid i s (j + 1) = M.grow1 (M.mid i s j) x := by
  unfold Mach.mid Mach.grow
  rw [take_succ' h, List.foldl_append]
  rfl
theorem Mach.mid_end {i s : Nat} (h : (M.ord i)[i]? = some s) : M.mid i s (M.row s).length = M.ord (i + 1) := by
  rw [M.ord_step h]
  unfold Mach.mid
  rw [List.take_length]
theorem Mach.mid_apart (ok : M.Ok) {i s j : Nat} (hs : s < M.st.length) : M.Apart (M.mid i s j) := M.grow_apart (M.ord_apart ok i) fun x hx => M.row_mem ok hs (List.mem_of_mem_take hx)
theorem Mach.grow_num : ∀ {r o : List Nat} {x : Nat}, (∃ y ∈ o, M.eqv y x = true) → M.num (M.grow o r) x = M.num o x := fun {r o x} h => by
  obtain ⟨m, e⟩ := M.grow_pre r o
  rw [e, M.num_pre h]
theorem Mach.mid_num {i s j x : Nat} (hx : ∃ y ∈ M.mid i s (j + 1), M.eqv y x = true) (hs : (M.ord i)[i]? = some s) (hj : j < (M.row s).length) : M.num (M.mid i s (j + 1)) x = M.num (M.ord (i + 1)) x := by
  rw [← M.mid_end hs]
  have e : M.mid i s (M.row s).length = M.grow (M.mid i s (j + 1)) ((M.row s).drop (j + 1)) := by
    unfold Mach.mid Mach.grow
    rw [← List.foldl_append, List.take_append_drop, List.take_length]
  rw [e, M.grow_num hx]
end
end M1
/-! The mathematics of late words: layers of pairs, walks, rounds. No Python. -/
namespace M1
section
variable {M : Mach}
def Mach.Letters (M : Mach) (w : List Nat) : Prop := ∀ x ∈ w, x < M.k
/-- a state to which a word leads from state 0 -/
def Mach.Rch (M : Mach) (i : Nat) : Prop := ∃ w, M.Letters w ∧ M.led 0 w = i
theorem Mach.Rch.zero : M.Rch 0 := ⟨[], fun _ h => by simp at h, rfl⟩
theorem Mach.led_append (i : Nat) (u w : List Nat) : M.led i (u ++ w) = M.led (M.led i u) w := by unfold Mach.led; rw [List.foldl_append]
theorem Mach.Rch.go {i a : Nat} (h : M.Rch i) (ha : a < M.k) : M.Rch (M.go i a) := by
  obtain ⟨w, hw, e⟩ := h
  refine ⟨w ++ [a], fun x hx => ?_, by rw [M.led_append, e]; rfl⟩
  rcases List.mem_append.mp hx with hx | hx
  · exact hw x hx
  · rw [List.mem_singleton] at hx; subst hx; exact ha
theorem Mach.Rch.lt (ok : M.Ok) {i : Nat} (h : M.Rch i) : i < M.st.length := by
  obtain ⟨w, hw, e⟩ := h
  rw [← e]
  exact M.led_lt ok ok.n1 hw
theorem Mach.Rch.led {i : Nat} (h : M.Rch i) {w : List Nat} (hw : M.Letters w) : M.Rch (M.led i w) := by
  obtain ⟨u, hu, e⟩ := h
  refine ⟨u ++ w, fun x hx => ?_, by rw [M.led_append, e]⟩
  rcases List.mem_append.mp hx with hx | hx
  · exact hu x hx
  · exact hw x hx
/-- the last letter of the word is answered unlike from i and from j -/
def Mach.Unl (M : Mach) (i j : Nat) (w : List Nat) : Prop := ∃ u a, w = u ++ [a] ∧ M.out (M.led i u) a ≠ M.out (M.led j u) a
theorem Mach.unl_cons {i j a : Nat} {w : List Nat} (hw : w ≠ []) : M.Unl i j (a :: w) ↔ M.Unl (M.go i a) (M.go j a) w := by
  constructor
  · rintro ⟨u, b, e, h⟩
    cases u with
    | nil => simp at e; exact absurd e.2 hw
    | cons c u =>
      simp at e
      obtain ⟨rfl, rfl⟩ := e
      exact ⟨u, b, rfl, h⟩
  · rintro ⟨u, b, rfl, h⟩
    exact ⟨a :: u, b, rfl, h⟩
theorem Mach.unl_one {i j a : Nat} : M.Unl i j [a] ↔ M.out i a ≠ M.out j a := by
  constructor
  · rintro ⟨u, b, e, h⟩
    cases u with
    | nil => simp at e; subst e; exact h
    | cons c u => simp at e
  · intro h; exact ⟨[], a, rfl, h⟩
/-- a pair whose first state comes -/
def Mach.Pr (M : Mach) (p : Nat × Nat) : Prop := M.Rch p.1 ∧ p.2 < M.st.length
theorem Mach.Pr.go (ok : M.Ok) {p : Nat × Nat} (h : M.Pr p) {a : Nat} (ha : a < M.k) : M.Pr (M.go p.1 a, M.go p.2 a) := ⟨h.1.go ha, M.go_lt ok h.2 ha⟩
/-- there is a late word of this length -/
def Mach.Late (M : Mach) (n : Nat) : Prop := ∃ p w, M.Pr p ∧ M.Letters w ∧ w.length = n ∧ M.Unl p.1 p.2 w
/-- p has a late word of this length -/
def Mach.LateAt (M : Mach) (p : Nat × Nat) (n : Nat) : Prop := ∃ w, M.Letters w ∧ w.length = n ∧ M.Unl p.1 p.2 w
theorem Mach.lateAt_zero {p : Nat × Nat} : ¬ M.LateAt p 0 := by
  rintro ⟨w, _, h, u, a, e, _⟩
  rw [e] at h
  simp at h
theorem Mach.lateAt_one {p : Nat × Nat} : M.LateAt p 1 ↔ ∃ a, a < M.k ∧ M.out p.1 a ≠ M.out p.2 a := by
  constructor
  · rintro ⟨w, hw, h, hu⟩
    obtain ⟨a, rfl⟩ : ∃ a, w = [a] := by
      cases w with
      | nil => simp at h
      | cons a w => cases w with
        | nil => exact ⟨a, rfl⟩
        | cons _ _ => simp at h
    exact ⟨a, hw a List.mem_cons_self, M.unl_one.mp hu⟩
  · rintro ⟨a, ha, h⟩
    exact ⟨[a], fun x hx => by rw [List.mem_singleton] at hx; subst hx; exact ha, rfl, M.unl_one.mpr h⟩
theorem Mach.lateAt_succ {p : Nat × Nat} {n : Nat} : M.LateAt p (n + 2) ↔ ∃ a, a < M.k ∧ M.LateAt (M.go p.1 a, M.go p.2 a) (n + 1) := by
  constructor
  · rintro ⟨w, hw, h, hu⟩
    cases w with
    | nil => simp at h
    | cons a w =>
      have hne : w ≠ [] := fun e => by subst e; simp at h
      exact ⟨a, hw a List.mem_cons_self, w, fun x hx => hw x (List.mem_cons_of_mem _ hx), by simpa using h, (M.unl_cons hne).mp hu⟩
  · rintro ⟨a, ha, w, hw, h, hu⟩
    have hne : w ≠ [] := fun e => by subst e; simp at h
    refine ⟨a :: w, fun x hx => ?_, by simp [h], (M.unl_cons hne).mpr hu⟩
    rcases List.mem_cons.mp hx with e | hx
    · subst e; exact ha
    · exact hw x hx
theorem Mach.late_iff {n : Nat} : M.Late n ↔ ∃ p, M.Pr p ∧ M.LateAt p n := by
  constructor
  · rintro ⟨p, w, hp, a, b, c⟩; exact ⟨p, hp, w, a, b, c⟩
  · rintro ⟨p, hp, w, a, b, c⟩; exact ⟨p, w, hp, a, b, c⟩
theorem Mach.late_down (ok : M.Ok) {n : Nat} (h : M.Late (n + 2)) : M.Late (n + 1) := by
  obtain ⟨p, hp, h⟩ := M.late_iff.mp h
  obtain ⟨a, ha, h⟩ := M.lateAt_succ.mp h
  exact M.late_iff.mpr ⟨_, hp.go ok ha, h⟩
theorem Mach.late_le (ok : M.Ok) {n : Nat} : ∀ d, M.Late (n + 1 + d) → M.Late (n + 1)
  | 0, h => h
  | d + 1, h => Mach.late_le ok d (M.late_down ok (n := n + d) (by rw [show n + d + 2 = n + 1 + (d + 1) by omega]; exact h) |> fun q => by rw [show n + 1 + d = n + d + 1 by omega]; exact q)
theorem Mach.late_mono (ok : M.Ok) {m n : Nat} (hm : 1 ≤ m) (h : m ≤ n) (hn : M.Late n) : M.Late m := by
  have := M.late_le ok (n := m - 1) (n - m) (by rw [show m - 1 + 1 + (n - m) = n by omega]; exact hn)
  rwa [show m - 1 + 1 = m by omega] at this
/-! ### walks -/
/-- the pairs along a word, each with the letter read there -/
def Mach.Walk (M : Mach) : List ((Nat × Nat) × Nat) → Prop
  | [] => True
  | [(p, a)] => a < M.k ∧ M.out p.1 a ≠ M.out p.2 a
  | (p, a) :: (q, b) :: r => a < M.k ∧ q = (M.go p.1 a, M.go p.2 a) ∧ Mach.Walk M ((q, b) :: r)
def wordOf (w : List ((Nat × Nat) × Nat)) : List Nat := w.map (·.2)
theorem Mach.Walk.word : ∀ {w : List ((Nat × Nat) × Nat)} {p : Nat × Nat} {a : Nat}, M.Walk ((p, a) :: w) → M.Letters (wordOf ((p, a) :: w)) ∧ M.Unl p.1 p.2 (wordOf ((p, a) :: w))
  | [], p, a, h => ⟨fun x hx => by simp [wordOf] at hx; subst hx; exact h.1, M.unl_one.mpr h.2⟩
  | (q, b) :: r, p, a, h => by
    obtain ⟨h1, h2, h3⟩ := h
    obtain ⟨i1, i2⟩ := Mach.Walk.word h3
    refine ⟨fun x hx => ?_, ?_⟩
    · rcases List.mem_cons.mp hx with e | hx
      · subst e; exact h1
      · exact i1 x hx
    · subst h2
      exact (M.unl_cons (by simp [wordOf])).mpr i2
theorem Mach.Walk.tail : ∀ {w : List ((Nat × Nat) × Nat)} {x : (Nat × Nat) × Nat}, M.Walk (x :: w) → M.Walk w
  | [], _, _ => trivial
  | (_, _) :: _, (_, _), h => h.2.2
theorem Mach.Walk.drop : ∀ {w : List ((Nat × Nat) × Nat)} (i : Nat), M.Walk w → M.Walk (w.drop i)
  | _, 0, h => h
  | [], _ + 1, h => h
  | _ :: _, i + 1, h => Mach.Walk.drop i h.tail
/-- a walk's next pair -/
theorem Mach.Walk.step : ∀ {w : List ((Nat × Nat) × Nat)} {i : Nat} {p q : Nat × Nat} {a b : Nat}, M.Walk w → w[i]? = some (p, a) → w[i + 1]? = some (q, b) → a < M.k ∧ q = (M.go p.1 a, M.go p.2 a)
  | (_, _) :: (_, _) :: _, 0, p, q, a, b, h, h1, h2 => by
    simp at h1 h2
    obtain ⟨⟨rfl, rfl⟩, rfl⟩ := h1
    obtain ⟨⟨rfl, rfl⟩, rfl⟩ := h2
    exact ⟨h.1, h.2.1⟩
  | x :: r, i + 1, p, q, a, b, h, h1, h2 => Mach.Walk.step (w := r) (i := i) h.tail (by simpa using h1) (by simpa using h2)
  | [(_, _)], 0, _, _, _, _, _, _, h2 => by simp at h2
theorem Mach.Walk.letter : ∀ {w : List ((Nat × Nat) × Nat)} {i : Nat} {p : Nat × Nat} {a : Nat}, M.Walk w → w[i]? = some (p, a) → a < M.k
  | (_, _) :: [], 0, _, _, h, h1 => by simp at h1; obtain ⟨_, rfl⟩ := h1; exact h.1
  | (_, _) :: (_, _) :: _, 0, _, _, h, h1 => by simp at h1; obtain ⟨_, rfl⟩ := h1; exact h.1
  | _ :: r, i + 1, _, _, h, h1 => Mach.Walk.letter (w := r) (i := i) h.tail (by simpa using h1)
/-- from the i-th to the j-th pair -/
theorem Mach.Walk.led {w : List ((Nat × Nat) × Nat)} (h : M.Walk w) {i : Nat} {p : Nat × Nat} {a : Nat} (hi : w[i]? = some (p, a)) : ∀ (d : Nat) {q : Nat × Nat} {b : Nat}, w[i + d]? = some (q, b) → q = (M.led p.1 (wordOf ((w.drop i).take d)), M.led p.2 (wordOf ((w.drop i).take d)))
  | 0, q, b, hj => by
    rw [Nat.add_zero, hi] at hj
    have := Option.some.inj hj
    have : q = p := (Prod.mk.inj this).1.symm
    subst this
    rfl
  | d + 1, q, b, hj => by
    have hlt : i + d < w.length := by
      have := (List.getElem?_eq_some_iff.mp hj).1
      omega
    obtain ⟨r, c, hr⟩ : ∃ r c, w[i + d]? = some (r, c) := ⟨(w[i + d]).1, (w[i + d]).2, List.getElem?_eq_getElem hlt⟩
    have ih := h.led hi d hr
    obtain ⟨_, hs⟩ := h.step hr (by rw [show i + d + 1 = i + (d + 1) by omega]; exact hj)
    have e : wordOf ((w.drop i).take (d + 1)) = wordOf ((w.drop i).take d) ++ [c] := by
      have g : (w.drop i)[d]? = some (r, c) := by rw [List.getElem?_drop]; exact hr
      unfold wordOf
      rw [take_succ' g, List.map_append]
      rfl
    rw [hs, e, M.led_append, M.led_append, ih]
    rfl
/-- round and round: words of any length -/
theorem Mach.pump (ok : M.Ok) {p : Nat × Nat} (hp : M.Pr p) {u w : List Nat} (hu : u ≠ []) (lu : M.Letters u) (h1 : M.led p.1 u = p.1) (h2 : M.led p.2 u = p.2) (lw : M.Letters w) (hw : M.Unl p.1 p.2 w) : ∀ n, 1 ≤ n → M.Late n := by
  have hpos : 1 ≤ w.length := by
    obtain ⟨_, _, e, _⟩ := hw
    rw [e]; simp
  have big : ∀ k, ∃ v, M.Letters v ∧ k + w.length ≤ v.length ∧ M.Unl p.1 p.2 v := by
    intro k
    induction k with
    | zero => exact ⟨w, lw, by omega, hw⟩
    | succ k ih =>
      obtain ⟨v, lv, hv, x, a, e, hx⟩ := ih
      refine ⟨u ++ v, fun y hy => ?_, ?_, u ++ x, a, by rw [e, List.append_assoc], ?_⟩
      · rcases List.mem_append.mp hy with hy | hy
        · exact lu y hy
        · exact lv y hy
      · have : 1 ≤ u.length := List.length_pos_iff.mpr hu
        rw [List.length_append]
        omega
      · rw [M.led_append, M.led_append, h1, h2]
        exact hx
  intro n hn
  obtain ⟨v, lv, hv, hu⟩ := big n
  exact M.late_mono ok hn (by omega : n ≤ v.length) ⟨p, v, hp, lv, rfl, hu⟩
/-- two places with the same pair -/
theorem Mach.Walk.round (ok : M.Ok) {w : List ((Nat × Nat) × Nat)} (h : M.Walk w) {i j : Nat} {p : Nat × Nat} {a b : Nat} (hp : M.Pr p) (hij : i < j) (hi : w[i]? = some (p, a)) (hj : w[j]? = some (p, b)) :
    M.Letters (wordOf ((w.drop i).take (j - i))) ∧ wordOf ((w.drop i).take (j - i)) ≠ [] ∧ M.led p.1 (wordOf ((w.drop i).take (j - i))) = p.1 ∧ M.led p.2 (wordOf ((w.drop i).take (j - i))) = p.2 ∧ M.Letters (wordOf (w.drop j)) ∧ M.Unl p.1 p.2 (wordOf (w.drop j)) := by
  have hjl := (List.getElem?_eq_some_iff.mp hj).1
  have e := h.led hi (j - i) (by rw [show i + (j - i) = j by omega]; exact hj)
  have hd : w.drop j = (p, b) :: w.drop (j + 1) := by
    have g := (List.getElem?_eq_some_iff.mp hj).2
    rw [List.drop_eq_getElem_cons hjl, g]
  have hw := h.drop j
  rw [hd] at hw
  have hl := hw.word
  rw [← hd] at hl
  refine ⟨fun x hx => ?_, ?_, (Prod.mk.inj e).1.symm, (Prod.mk.inj e).2.symm, hl.1, hl.2⟩
  · unfold wordOf at hx
    obtain ⟨y, hy, rfl⟩ := List.mem_map.mp hx
    obtain ⟨k, hk⟩ := List.mem_iff_getElem?.mp (List.mem_of_mem_take hy)
    rw [List.getElem?_drop] at hk
    exact h.letter (p := y.1) (a := y.2) hk
  · intro z
    have : (wordOf ((w.drop i).take (j - i))).length = j - i := by
      unfold wordOf
      rw [List.length_map, List.length_take, List.length_drop]
      omega
    rw [z] at this
    simp at this
    omega
theorem Mach.Walk.endless (ok : M.Ok) {w : List ((Nat × Nat) × Nat)} (h : M.Walk w) {i j : Nat} {p : Nat × Nat} {a b : Nat} (hp : M.Pr p) (hij : i < j) (hi : w[i]? = some (p, a)) (hj : w[j]? = some (p, b)) : ∀ n, 1 ≤ n → M.Late n := by
  obtain ⟨h1, h2, h3, h4, h5, h6⟩ := h.round ok hp hij hi hj
  exact M.pump ok hp h2 h1 h3 h4 h5 h6
theorem Mach.Walk.pr (ok : M.Ok) : ∀ {w : List ((Nat × Nat) × Nat)}, M.Walk w → (∀ x, w.head? = some x → M.Pr x.1) → ∀ x ∈ w, M.Pr x.1
  | [], _, _, x, hx => by simp at hx
  | [(p, a)], _, h0, x, hx => by
    rw [List.mem_singleton] at hx
    subst hx
    exact h0 _ rfl
  | (p, a) :: (q, b) :: r, h, h0, x, hx => by
    rcases List.mem_cons.mp hx with e | hx
    · subst e; exact h0 _ rfl
    · refine Mach.Walk.pr ok (w := (q, b) :: r) h.2.2 (fun y hy => ?_) x hx
      simp at hy
      subst hy
      show M.Pr q
      rw [h.2.1]
      exact (h0 _ rfl).go ok h.1
/-- more pairs than there are: one comes twice -/
theorem twice {α : Type} [DecidableEq α] : ∀ {l m : List α}, (∀ x ∈ l, x ∈ m) → m.length < l.length → ∃ (i j : Nat) (x : α), i < j ∧ l[i]? = some x ∧ l[j]? = some x := by
  intro l m hs hl
  refine Classical.byContradiction fun hn => ?_
  have nd : l.Nodup := by
    refine List.pairwise_iff_getElem.mpr fun i j hi hj hij e => hn ⟨i, j, l[j], hij, ?_, List.getElem?_eq_getElem hj⟩
    rw [List.getElem?_eq_getElem hi, e]
  have := nodup_le nd hs
  omega
/-- what late tells: the greatest length, or none -/
def Mach.LateIs (M : Mach) (o : Option Nat) : Prop := match o with
  | some n => (∀ m, 1 ≤ m → (M.Late m ↔ m ≤ n))
  | none => ∀ m, 1 ≤ m → M.Late m
theorem Mach.LateIs.only {o u : Option Nat} (h : M.LateIs o) (h' : M.LateIs u) : o = u := by
  cases o with
  | none => cases u with
    | none => rfl
    | some n => exact absurd ((h' (n + 1) (by omega)).mp (h (n + 1) (by omega))) (by omega)
  | some n => cases u with
    | none => exact absurd ((h (n + 1) (by omega)).mp (h' (n + 1) (by omega))) (by omega)
    | some m =>
      congr 1
      rcases Nat.lt_trichotomy n m with q | q | q
      · exact absurd ((h m (by omega)).mp ((h' m (by omega)).mpr (Nat.le_refl _))) (by omega)
      · exact q
      · exact absurd ((h' n (by omega)).mp ((h n (by omega)).mpr (Nat.le_refl _))) (by omega)
end
end M1
namespace M1
/-! ### pairs with a letter: the dicts of a layer -/
abbrev PL := List ((Nat × Nat) × Nat)
def addF (f : PL) (p : Nat × Nat) (a : Nat) : PL := if p ∈ f.map (·.1) then f else f ++ [(p, a)]
structure Lay (G : Nat × Nat → Nat → Prop) (k : Nat) (ps : List (Nat × Nat)) (f : PL) : Prop where
  nd : (f.map (·.1)).Nodup
  sound : ∀ x ∈ f, x.1 ∈ ps ∧ x.2 < k ∧ G x.1 x.2
  full : ∀ p ∈ ps, ∀ a, a < k → G p a → p ∈ f.map (·.1)
structure LayIn (G : Nat × Nat → Nat → Prop) (k : Nat) (ps : List (Nat × Nat)) (i j : Nat) (f : PL) : Prop where
  nd : (f.map (·.1)).Nodup
  sound : ∀ x ∈ f, x.1 ∈ ps ∧ x.2 < k ∧ G x.1 x.2
  full : ∀ (n : Nat) p, ps[n]? = some p → ∀ a, a < k → (n < i ∨ n = i ∧ a < j) → G p a → p ∈ f.map (·.1)
section
variable {G : Nat × Nat → Nat → Prop} {k i j : Nat} {ps : List (Nat × Nat)} {f : PL} {p : Nat × Nat} {a : Nat}
theorem LayIn.nil : LayIn G k ps 0 0 [] := ⟨by simp, fun _ h => by simp at h, fun _ _ _ _ _ h => by omega⟩
theorem addF_mem : ∀ q, q ∈ (addF f p a).map (·.1) ↔ q ∈ f.map (·.1) ∨ q = p := fun q => by
  unfold addF
  by_cases h : p ∈ f.map (·.1)
  · rw [if_pos h]
    refine ⟨.inl, fun z => ?_⟩
    rcases z with z | z
    · exact z
    · rw [z]; exact h
  · rw [if_neg h, List.map_append, List.mem_append]
    simp
theorem LayIn.add (L : LayIn G k ps i j f) (hp : ps[i]? = some p) (hj : j < k) (g : G p j) : LayIn G k ps i (j + 1) (addF f p j) := by
  refine ⟨?_, fun x hx => ?_, fun n q hn b hb hc hg => ?_⟩
  · unfold addF
    by_cases h : p ∈ f.map (·.1)
    · rw [if_pos h]; exact L.nd
    · rw [if_neg h, List.map_append, List.nodup_append]
      refine ⟨L.nd, by simp, fun y hy z hz e => ?_⟩
      have hz' : z = p := by simpa using hz
      subst e
      exact h (hz' ▸ hy)
  · unfold addF at hx
    by_cases h : p ∈ f.map (·.1)
    · rw [if_pos h] at hx; exact L.sound x hx
    · rw [if_neg h] at hx
      rcases List.mem_append.mp hx with hx | hx
      · exact L.sound x hx
      · rw [List.mem_singleton] at hx
        subst hx
        exact ⟨List.mem_of_getElem? hp, hj, g⟩
  · rw [addF_mem]
    by_cases e : n = i ∧ b = j
    · obtain ⟨rfl, rfl⟩ := e
      rw [hp] at hn
      exact .inr (Option.some.inj hn).symm
    · exact .inl (L.full n q hn b hb (by omega) hg)
theorem LayIn.skip (L : LayIn G k ps i j f) (hp : ps[i]? = some p) (g : ¬ G p j) : LayIn G k ps i (j + 1) f := by
  refine ⟨L.nd, L.sound, fun n q hn b hb hc hg => ?_⟩
  by_cases e : n = i ∧ b = j
  · obtain ⟨rfl, rfl⟩ := e
    rw [hp] at hn
    exact absurd ((Option.some.inj hn) ▸ hg) g
  · exact L.full n q hn b hb (by omega) hg
theorem LayIn.row (L : LayIn G k ps i k f) : LayIn G k ps (i + 1) 0 f := ⟨L.nd, L.sound, fun n q hn b hb hc hg => L.full n q hn b hb (by omega) hg⟩
theorem LayIn.done (L : LayIn G k ps ps.length 0 f) : Lay G k ps f := ⟨L.nd, L.sound, fun p hp a ha hg => by
  obtain ⟨n, hn⟩ := List.mem_iff_getElem?.mp hp
  exact L.full n p hn a ha (.inl (List.getElem?_eq_some_iff.mp hn).1) hg⟩
theorem LayIn.len (L : LayIn G k ps i j f) : f.length ≤ ps.length := by
  have h := nodup_le L.nd (m := ps) fun q hq => by
    obtain ⟨x, hx, rfl⟩ := List.mem_map.mp hq
    exact (L.sound x hx).1
  rwa [List.length_map] at h
end
section
variable {M : Mach}
/-- all pairs whose first state comes -/
def Mach.AllP (M : Mach) (ps : List (Nat × Nat)) : Prop := ∀ p, p ∈ ps ↔ M.Pr p
/-- a layer: the pairs that have a late word of n letters, each with a first letter of one -/
structure Mach.LayAt (M : Mach) (n : Nat) (f : PL) : Prop where
  keys : ∀ p, p ∈ f.map (·.1) ↔ M.Pr p ∧ M.LateAt p n
  lt : ∀ x ∈ f, x.2 < M.k
theorem Mach.layAt_one {ps : List (Nat × Nat)} (hp : M.AllP ps) {f : PL} (L : Lay (fun p a => M.out p.1 a ≠ M.out p.2 a) M.k ps f) : M.LayAt 1 f ∧ ∀ x ∈ f, M.out x.1.1 x.2 ≠ M.out x.1.2 x.2 := by
  refine ⟨⟨fun p => ⟨fun h => ?_, fun ⟨h1, h2⟩ => ?_⟩, fun x hx => (L.sound x hx).2.1⟩, fun x hx => (L.sound x hx).2.2⟩
  · obtain ⟨x, hx, rfl⟩ := List.mem_map.mp h
    obtain ⟨a, b, c⟩ := L.sound x hx
    exact ⟨(hp _).mp a, M.lateAt_one.mpr ⟨_, b, c⟩⟩
  · obtain ⟨a, ha, h⟩ := M.lateAt_one.mp h2
    exact L.full p ((hp p).mpr h1) a ha h
theorem Mach.layAt_succ (ok : M.Ok) {ps : List (Nat × Nat)} (hp : M.AllP ps) {n : Nat} {e f : PL} (Le : M.LayAt (n + 1) e) (L : Lay (fun p a => (M.go p.1 a, M.go p.2 a) ∈ e.map (·.1)) M.k ps f) : M.LayAt (n + 2) f ∧ ∀ x ∈ f, (M.go x.1.1 x.2, M.go x.1.2 x.2) ∈ e.map (·.1) := by
  refine ⟨⟨fun p => ⟨fun h => ?_, fun ⟨h1, h2⟩ => ?_⟩, fun x hx => (L.sound x hx).2.1⟩, fun x hx => (L.sound x hx).2.2⟩
  · obtain ⟨x, hx, rfl⟩ := List.mem_map.mp h
    obtain ⟨a, b, c⟩ := L.sound x hx
    exact ⟨(hp _).mp a, M.lateAt_succ.mpr ⟨_, b, ((Le.keys _).mp c).2⟩⟩
  · obtain ⟨a, ha, h⟩ := M.lateAt_succ.mp h2
    exact L.full p ((hp p).mpr h1) a ha ((Le.keys _).mpr ⟨h1.go ok ha, h⟩)
/-- the layers from one letter on -/
structure Mach.Layers (M : Mach) (fs : List PL) : Prop where
  at_ : ∀ (n : Nat) f, fs[n]? = some f → M.LayAt (n + 1) f ∧ f ≠ []
  first : ∀ f, fs[0]? = some f → ∀ x ∈ f, M.out x.1.1 x.2 ≠ M.out x.1.2 x.2
  step : ∀ (n : Nat) e f, fs[n]? = some e → fs[n + 1]? = some f → ∀ x ∈ f, (M.go x.1.1 x.2, M.go x.1.2 x.2) ∈ e.map (·.1)
theorem Mach.LayAt.none {n : Nat} {f : PL} (h : M.LayAt n f) (e : f = []) : ¬ M.Late n := fun q => by
  obtain ⟨p, hp, hl⟩ := M.late_iff.mp q
  have := (h.keys p).mpr ⟨hp, hl⟩
  rw [e] at this
  simp at this
theorem Mach.LayAt.some {n : Nat} {f : PL} (h : M.LayAt n f) (e : f ≠ []) : M.Late n := by
  cases f with
  | nil => exact absurd rfl e
  | cons x f => exact M.late_iff.mpr ⟨x.1, (h.keys x.1).mp (by simp)⟩
/-- how the layers end: no late word of one letter more, or more layers than pairs -/
def Mach.Ends (M : Mach) (ps : List (Nat × Nat)) (fs : List PL) : Prop := ¬ M.Late (fs.length + 1) ∨ ps.length < fs.length
/-- what a walk is worth -/
structure Mach.Wk (M : Mach) (w : PL) : Prop where
  walk : M.Walk w
  pr : ∀ x ∈ w, M.Pr x.1
  late : (w.map (·.1)).Nodup → M.LateIs (some w.length)
theorem Mach.Wk.endless (ok : M.Ok) {w : PL} (W : M.Wk w) {i j : Nat} {p : Nat × Nat} {a b : Nat} (hij : i < j) (hi : w[i]? = some (p, a)) (hj : w[j]? = some (p, b)) : M.LateIs none :=
  W.walk.endless ok (W.pr _ (List.mem_of_getElem? hi)) hij hi hj
theorem Mach.lateIs_of (ok : M.Ok) {n : Nat} (h1 : n = 0 ∨ M.Late n) (h2 : ¬ M.Late (n + 1)) : M.LateIs (some n) := fun m hm => by
  constructor
  · intro h
    refine Classical.byContradiction fun q => h2 (M.late_mono ok (by omega) (by omega) h)
  · intro h
    rcases h1 with z | z
    · omega
    · exact M.late_mono ok hm h z
end
end M1
namespace M1
section
variable {M : Mach}
theorem Mach.Layers.nil : M.Layers [] := ⟨fun _ _ h => by simp at h, fun _ h => by simp at h, fun _ _ _ h => by simp at h⟩
theorem Mach.Layers.one {f : PL} (h : M.LayAt 1 f) (hf : ∀ x ∈ f, M.out x.1.1 x.2 ≠ M.out x.1.2 x.2) (hn : f ≠ []) : M.Layers [f] := by
  refine ⟨fun n g hg => ?_, fun g hg => ?_, fun n e g he hg => ?_⟩
  · cases n with
    | zero => simp at hg; subst hg; exact ⟨h, hn⟩
    | succ n => simp at hg
  · simp at hg; subst hg; exact hf
  · simp at hg
theorem Mach.Layers.snoc {fs : List PL} {f g : PL} (L : M.Layers (fs ++ [f])) (h : M.LayAt (fs.length + 2) g) (hs : ∀ x ∈ g, (M.go x.1.1 x.2, M.go x.1.2 x.2) ∈ f.map (·.1)) (hn : g ≠ []) : M.Layers ((fs ++ [f]) ++ [g]) := by
  have hl : (fs ++ [f]).length = fs.length + 1 := by rw [List.length_append]; rfl
  have at_ : ∀ {n : Nat} {u : PL}, ((fs ++ [f]) ++ [g])[n]? = some u → n < fs.length + 1 ∧ (fs ++ [f])[n]? = some u ∨ n = fs.length + 1 ∧ u = g := by
    intro n u hu
    by_cases h1 : n < (fs ++ [f]).length
    · rw [List.getElem?_append_left h1] at hu
      exact .inl ⟨by omega, hu⟩
    · rw [List.getElem?_append_right (by omega)] at hu
      have h2 := (List.getElem?_eq_some_iff.mp hu).1
      simp at h2
      have h3 : n = fs.length + 1 := by omega
      subst h3
      simp at hu
      exact .inr ⟨rfl, hu.symm⟩
  refine ⟨fun n u hu => ?_, fun u hu => ?_, fun n e u he hu => ?_⟩
  · rcases at_ hu with ⟨_, q⟩ | ⟨rfl, rfl⟩
    · exact L.at_ n u q
    · exact ⟨h, hn⟩
  · rcases at_ hu with ⟨_, q⟩ | ⟨z, _⟩
    · exact L.first u q
    · omega
  · rcases at_ hu with ⟨z, q⟩ | ⟨z, rfl⟩
    · rcases at_ he with ⟨_, q2⟩ | ⟨y, _⟩
      · exact L.step n e u q2 q
      · omega
    · have hn' : n = fs.length := by omega
      subst hn'
      rcases at_ he with ⟨_, q2⟩ | ⟨y, _⟩
      · rw [List.getElem?_append_right (Nat.le_refl _)] at q2
        simp at q2
        subst q2
        exact hs
      · omega
theorem Mach.walk_of : ∀ {w : PL}, w ≠ [] → (∀ (i : Nat) p a, w[i]? = some (p, a) → a < M.k) → (∀ (i : Nat) p q a b, w[i]? = some (p, a) → w[i + 1]? = some (q, b) → q = (M.go p.1 a, M.go p.2 a)) → (∀ p a, w.getLast? = some (p, a) → M.out p.1 a ≠ M.out p.2 a) → M.Walk w
  | [], h, _, _, _ => absurd rfl h
  | [(p, a)], _, h1, _, h3 => ⟨h1 0 p a rfl, h3 p a rfl⟩
  | (p, a) :: (q, b) :: r, _, h1, h2, h3 => ⟨h1 0 p a rfl, h2 0 p q a b rfl rfl, Mach.walk_of (w := (q, b) :: r) (by simp) (fun i u c h => h1 (i + 1) u c (by simpa using h)) (fun i u v c d h h' => h2 (i + 1) u v c d (by simpa using h) (by simpa using h')) fun u c h => h3 u c (by rw [List.getLast?_cons_cons]; exact h)⟩
/-- the walk through the layers, its first i steps; p: where it goes on -/
structure Mach.WkIn (M : Mach) (fs : List PL) (i : Nat) (w : PL) (p : Nat × Nat) : Prop where
  len : w.length = i
  lt : ∀ (j : Nat) q a, w[j]? = some (q, a) → a < M.k ∧ M.Pr q
  next : ∀ (j : Nat) q u a b, w[j]? = some (q, a) → w[j + 1]? = some (u, b) → u = (M.go q.1 a, M.go q.2 a)
  last : ∀ q a, w.getLast? = some (q, a) → p = (M.go q.1 a, M.go q.2 a) ∧ (i = fs.length → M.out q.1 a ≠ M.out q.2 a)
  key : i < fs.length → ∃ f, fs[fs.length - 1 - i]? = some f ∧ p ∈ f.map (·.1)
theorem Mach.WkIn.start {fs : List PL} {p : Nat × Nat} {f : PL} (h : fs.getLast? = some f) (hp : p ∈ f.map (·.1)) : M.WkIn fs 0 [] p :=
  ⟨rfl, fun _ _ _ h => by simp at h, fun _ _ _ _ _ h => by simp at h, fun _ _ h => by simp at h, fun _ => ⟨f, by rw [List.getLast?_eq_getElem?] at h; exact h, hp⟩⟩
theorem Mach.WkIn.go {fs : List PL} (L : M.Layers fs) {i : Nat} {w : PL} {p : Nat × Nat} (W : M.WkIn fs i w p) {f : PL} (hf : fs[fs.length - 1 - i]? = some f) (hi : i < fs.length) {a : Nat} (ha : (p, a) ∈ f) : M.WkIn fs (i + 1) (w ++ [(p, a)]) (M.go p.1 a, M.go p.2 a) := by
  have hL := (L.at_ _ f hf).1
  have hk := hL.lt _ ha
  have hpr := ((hL.keys p).mp (List.mem_map_of_mem (f := (·.1)) ha)).1
  have at_ : ∀ {n : Nat} {u : (Nat × Nat) × Nat}, (w ++ [(p, a)])[n]? = some u → n < i ∧ w[n]? = some u ∨ n = i ∧ u = (p, a) := by
    intro n u hu
    by_cases h1 : n < w.length
    · rw [List.getElem?_append_left h1] at hu
      exact .inl ⟨by have := W.len; omega, hu⟩
    · rw [List.getElem?_append_right (by omega)] at hu
      have h2 := (List.getElem?_eq_some_iff.mp hu).1
      simp at h2
      have h3 : n = w.length := by have := W.len; omega
      subst h3
      simp at hu
      exact .inr ⟨W.len, hu.symm⟩
  refine ⟨by rw [List.length_append, W.len]; rfl, fun j q b h => ?_, fun j q u b c h h' => ?_, fun q b h => ?_, fun h => ?_⟩
  · rcases at_ h with ⟨_, h⟩ | ⟨_, h⟩
    · exact W.lt j q b h
    · injection h with h1 h2
      subst h1 h2
      exact ⟨hk, hpr⟩
  · rcases at_ h' with ⟨z', h'⟩ | ⟨z', h'⟩
    · rcases at_ h with ⟨_, h⟩ | ⟨z, _⟩
      · exact W.next j q u b c h h'
      · omega
    · injection h' with h1 h2
      subst h1 h2
      rcases at_ h with ⟨z, h⟩ | ⟨z, _⟩
      · refine (W.last q b ?_).1
        rw [List.getLast?_eq_getElem?, W.len, show i - 1 = j by omega]
        exact h
      · omega
  · rw [List.getLast?_append] at h
    simp at h
    obtain ⟨rfl, rfl⟩ := h
    refine ⟨rfl, fun e => ?_⟩
    rw [show fs.length - 1 - i = 0 by omega] at hf
    exact L.first f hf _ ha
  · refine ⟨_, List.getElem?_eq_getElem (by omega : fs.length - 1 - (i + 1) < fs.length), ?_⟩
    exact L.step (fs.length - 1 - (i + 1)) _ f (List.getElem?_eq_getElem _) (by rw [show fs.length - 1 - (i + 1) + 1 = fs.length - 1 - i by omega]; exact hf) _ ha
theorem Mach.Layers.wk (ok : M.Ok) {ps : List (Nat × Nat)} (hp : M.AllP ps) {fs : List PL} (L : M.Layers fs) (hE : M.Ends ps fs) {w : PL} {p : Nat × Nat} (W : fs = [] ∧ w = [] ∨ fs ≠ [] ∧ M.WkIn fs fs.length w p) : M.Wk w := by
  have hpr : ∀ x ∈ w, M.Pr x.1 := fun x hx => by
    rcases W with ⟨_, e⟩ | ⟨_, W⟩
    · rw [e] at hx; simp at hx
    · obtain ⟨j, hj⟩ := List.mem_iff_getElem?.mp hx
      exact (W.lt j x.1 x.2 hj).2
  have hlen : w.length = fs.length := by
    rcases W with ⟨e, e'⟩ | ⟨_, W⟩
    · rw [e, e']; rfl
    · exact W.len
  refine ⟨?_, hpr, fun nd => ?_⟩
  · rcases W with ⟨_, e⟩ | ⟨hn, W⟩
    · rw [e]; exact True.intro
    · refine M.walk_of (fun e => ?_) (fun i p a h => (W.lt i p a h).1) (fun i p q a b => W.next i p q a b) fun q a h => (W.last q a h).2 rfl
      rw [e] at hlen
      exact hn (List.length_eq_zero_iff.mp hlen.symm)
  · rw [hlen]
    have hle : fs.length ≤ ps.length := by
      have := nodup_le nd (m := ps) fun q hq => by
        obtain ⟨x, hx, rfl⟩ := List.mem_map.mp hq
        exact (hp _).mpr (hpr x hx)
      rw [List.length_map] at this
      omega
    refine M.lateIs_of ok ?_ (hE.resolve_right (by omega))
    cases h : fs.length with
    | zero => exact .inl rfl
    | succ n =>
      refine .inr ?_
      have hlt : n < fs.length := by omega
      obtain ⟨h1, h2⟩ := L.at_ n _ (List.getElem?_eq_getElem hlt)
      exact h1.some h2
end
end M1
namespace M1
section
variable {M : Mach}
/-! ### the states that come, by turns -/
structure Mach.ComeIn (M : Mach) (t : Nat) (r : List Nat) : Prop where
  nd : r.Nodup
  zero : 0 ∈ r
  sound : ∀ i ∈ r, M.Rch i
  grow : (∀ i ∈ r, ∀ a, a < M.k → M.go i a ∈ r) ∨ t + 1 ≤ r.length
theorem Mach.ComeIn.start : M.ComeIn 0 [0] := ⟨by simp, by simp, fun i h => by
  rw [List.mem_singleton] at h
  subst h
  exact Mach.Rch.zero, .inr (Nat.le_refl _)⟩
theorem Mach.row_iff (ok : M.Ok) {i : Nat} (hi : i < M.st.length) {x : Nat} : x ∈ M.row i ↔ ∃ a, a < M.k ∧ M.go i a = x := by
  constructor
  · intro h
    obtain ⟨a, ha⟩ := List.mem_iff_getElem?.mp h
    have hl := (List.getElem?_eq_some_iff.mp ha).1
    rw [M.row_len ok hi] at hl
    refine ⟨a, hl, ?_⟩
    have := M.go_at ok hi hl
    rw [ha] at this
    exact (Option.some.inj this).symm
  · rintro ⟨a, ha, rfl⟩
    exact List.mem_of_getElem? (M.go_at ok hi ha)
theorem Mach.ComeIn.go (ok : M.Ok) {t : Nat} {r s : List Nat} (C : M.ComeIn t r) (nd : s.Nodup) (hs : ∀ x, x ∈ s ↔ x ∈ r ∨ ∃ i ∈ r, x ∈ M.row i) : M.ComeIn (t + 1) s := by
  have lt : ∀ i ∈ r, i < M.st.length := fun i hi => (C.sound i hi).lt ok
  refine ⟨nd, (hs 0).mpr (.inl C.zero), fun x hx => ?_, ?_⟩
  · rcases (hs x).mp hx with h | ⟨i, hi, h⟩
    · exact C.sound x h
    · obtain ⟨a, ha, rfl⟩ := (M.row_iff ok (lt i hi)).mp h
      exact (C.sound i hi).go ha
  · by_cases hc : ∀ i ∈ r, ∀ a, a < M.k → M.go i a ∈ r
    · refine .inl fun i hi a ha => (hs _).mpr (.inl ?_)
      rcases (hs i).mp hi with h | ⟨j, hj, h⟩
      · exact hc i h a ha
      · obtain ⟨b, hb, rfl⟩ := (M.row_iff ok (lt j hj)).mp h
        exact hc _ (hc j hj b hb) a ha
    · refine .inr ?_
      have hr := C.grow.resolve_left hc
      obtain ⟨i, hi, a, ha, hn⟩ : ∃ i, i ∈ r ∧ ∃ a, a < M.k ∧ M.go i a ∉ r := Classical.byContradiction fun z => hc fun i hi a ha => Classical.byContradiction fun q => z ⟨i, hi, a, ha, q⟩
      have h1 : (M.go i a :: r).Nodup := List.nodup_cons.mpr ⟨hn, C.nd⟩
      have := nodup_le h1 (m := s) fun x hx => by
        rcases List.mem_cons.mp hx with e | hx
        · subst e
          exact (hs _).mpr (.inr ⟨i, hi, (M.row_iff ok (lt i hi)).mpr ⟨a, ha, rfl⟩⟩)
        · exact (hs _).mpr (.inl hx)
      rw [List.length_cons] at this
      omega
theorem Mach.ComeIn.len (ok : M.Ok) {t : Nat} {r : List Nat} (C : M.ComeIn t r) : r.length ≤ M.st.length := by
  have := nodup_le C.nd (m := List.range M.st.length) fun x hx => List.mem_range.mpr ((C.sound x hx).lt ok)
  rwa [List.length_range] at this
theorem Mach.ComeIn.done (ok : M.Ok) {r : List Nat} (C : M.ComeIn M.st.length r) : ∀ i, i ∈ r ↔ M.Rch i := fun i => by
  refine ⟨C.sound i, ?_⟩
  have hc := C.grow.resolve_right (by have := C.len ok; omega)
  rintro ⟨u, hu, rfl⟩
  have gen : ∀ (u : List Nat) (i : Nat), i ∈ r → M.Letters u → M.led i u ∈ r := by
    intro u
    induction u with
    | nil => exact fun i hi _ => hi
    | cons a u ih => exact fun i hi hu => ih (M.go i a) (hc i hi a (hu a List.mem_cons_self)) fun x hx => hu x (List.mem_cons_of_mem _ hx)
  exact gen u 0 C.zero hu
/-! ### the lots of pairs -/
/-- words of n letters lead to p from a pair whose first state comes -/
def Mach.At (M : Mach) (n : Nat) (p : Nat × Nat) : Prop := ∃ q u, M.Pr q ∧ M.Letters u ∧ u.length = n ∧ p = (M.led q.1 u, M.led q.2 u)
theorem Mach.at_zero {p : Nat × Nat} : M.At 0 p ↔ M.Pr p := by
  constructor
  · rintro ⟨q, u, hq, _, hl, rfl⟩
    obtain rfl := List.length_eq_zero_iff.mp hl
    exact hq
  · exact fun h => ⟨p, [], h, fun _ h => by simp at h, rfl, rfl⟩
theorem Mach.at_succ {n : Nat} {p : Nat × Nat} : M.At (n + 1) p ↔ ∃ q a, M.At n q ∧ a < M.k ∧ p = (M.go q.1 a, M.go q.2 a) := by
  constructor
  · rintro ⟨q, u, hq, hu, hl, rfl⟩
    rcases List.eq_nil_or_concat u with z | ⟨v, a, z⟩
    · subst z; simp at hl
    · rw [List.concat_eq_append] at z
      subst z
      rw [List.length_append, List.length_singleton] at hl
      refine ⟨(M.led q.1 v, M.led q.2 v), a, ⟨q, v, hq, fun x hx => hu x (List.mem_append_left _ hx), by omega, rfl⟩, hu a (List.mem_append_right _ (List.mem_singleton.mpr rfl)), ?_⟩
      rw [M.led_append, M.led_append]
      rfl
  · rintro ⟨_, a, ⟨q, u, hq, hu, hl, rfl⟩, ha, rfl⟩
    refine ⟨q, u ++ [a], hq, fun x hx => ?_, by rw [List.length_append, hl]; rfl, by rw [M.led_append, M.led_append]; rfl⟩
    rcases List.mem_append.mp hx with h | h
    · exact hu x h
    · rw [List.mem_singleton] at h; subst h; exact ha
theorem Mach.At.pr (ok : M.Ok) {n : Nat} {p : Nat × Nat} (h : M.At n p) : M.Pr p := by
  obtain ⟨q, u, hq, hu, _, rfl⟩ := h
  exact ⟨hq.1.led hu, M.led_lt ok hq.2 hu⟩
/-- unlike answers somewhere -/
theorem Mach.late_at (ok : M.Ok) {n : Nat} : M.Late (n + 1) ↔ ∃ p, M.At n p ∧ M.ans p.1 ≠ M.ans p.2 := by
  constructor
  · rintro ⟨p, w, hp, hw, hl, u, a, rfl, h⟩
    rw [List.length_append, List.length_singleton] at hl
    have hu : M.Letters u := fun x hx => hw x (List.mem_append_left _ hx)
    refine ⟨(M.led p.1 u, M.led p.2 u), ⟨p, u, hp, hu, by omega, rfl⟩, fun z => h ?_⟩
    have ha := hw a (List.mem_append_right _ (List.mem_singleton.mpr rfl))
    have h1 := M.out_at ok (M.led_lt ok (hp.1.lt ok) hu) ha
    have h2 := M.out_at ok (M.led_lt ok hp.2 hu) ha
    have z' : M.ans (M.led p.1 u) = M.ans (M.led p.2 u) := z
    rw [z', h2] at h1
    exact (Option.some.inj h1).symm
  · rintro ⟨_, ⟨p, u, hp, hu, hl, rfl⟩, h⟩
    have l1 := M.led_lt ok (hp.1.lt ok) hu
    have l2 := M.led_lt ok hp.2 hu
    obtain ⟨a, ha, hne⟩ : ∃ a, a < M.k ∧ M.out (M.led p.1 u) a ≠ M.out (M.led p.2 u) a := Classical.byContradiction fun z => h (List.ext_getElem? fun a => by
      show (M.ans (M.led p.1 u))[a]? = (M.ans (M.led p.2 u))[a]?
      by_cases ha : a < M.k
      · rw [M.out_at ok l1 ha, M.out_at ok l2 ha]
        congr 1
        exact Classical.byContradiction fun q => z ⟨a, ha, q⟩
      · rw [List.getElem?_eq_none (by rw [M.ans_len ok l1]; omega), List.getElem?_eq_none (by rw [M.ans_len ok l2]; omega)])
    refine ⟨p, u ++ [a], hp, fun x hx => ?_, by rw [List.length_append, hl]; rfl, u, a, rfl, hne⟩
    rcases List.mem_append.mp hx with q | q
    · exact hu x q
    · rw [List.mem_singleton] at q; subst q; exact ha
/-! ### more letters than pairs: any length -/
def Mach.walkOf (M : Mach) : Nat × Nat → List Nat → PL
  | _, [] => []
  | p, a :: u => (p, a) :: Mach.walkOf M (M.go p.1 a, M.go p.2 a) u
theorem Mach.walkOf_len : ∀ (u : List Nat) (p : Nat × Nat), (M.walkOf p u).length = u.length
  | [], _ => rfl
  | a :: u, p => by
    show (M.walkOf _ u).length + 1 = u.length + 1
    rw [Mach.walkOf_len u]
theorem Mach.walkOf_walk : ∀ (u : List Nat) (p : Nat × Nat), M.Letters u → M.Unl p.1 p.2 u → M.Walk (M.walkOf p u)
  | [], _, _, h => by obtain ⟨_, _, e, _⟩ := h; simp at e
  | [a], p, hu, h => ⟨hu a (by simp), M.unl_one.mp h⟩
  | a :: b :: u, p, hu, h => ⟨hu a (by simp), rfl, Mach.walkOf_walk (b :: u) _ (fun x hx => hu x (List.mem_cons_of_mem _ hx)) ((M.unl_cons (by simp)).mp h)⟩
theorem Mach.late_big (ok : M.Ok) {n : Nat} (hn : 36 < n) (h : M.Late n) : M.LateIs none := by
  obtain ⟨p, u, hp, hu, hl, hU⟩ := h
  have hW := M.walkOf_walk u p hu hU
  have hpr : ∀ x ∈ M.walkOf p u, M.Pr x.1 := hW.pr ok fun x hx => by
    cases u with
    | nil => simp [Mach.walkOf] at hx
    | cons a u =>
      have : x = (p, a) := by simpa [Mach.walkOf] using hx.symm
      rw [this]
      exact hp
  have n6 := ok.n6
  have hm : (pairsN M.st.length).length ≤ 36 := by
    rw [pairsN_len]
    exact Nat.mul_le_mul n6 n6
  obtain ⟨i, j, q, hij, hi, hj⟩ := twice (l := (M.walkOf p u).map (·.1)) (m := pairsN M.st.length) (fun q hq => by
    obtain ⟨x, hx, rfl⟩ := List.mem_map.mp hq
    exact mem_pairsN.mpr ⟨(hpr x hx).1.lt ok, (hpr x hx).2⟩) (by rw [List.length_map, M.walkOf_len]; omega)
  rw [List.getElem?_map] at hi hj
  cases ei : (M.walkOf p u)[i]? with
  | none => rw [ei] at hi; cases hi
  | some x => cases ej : (M.walkOf p u)[j]? with
    | none => rw [ej] at hj; cases hj
    | some y =>
      rw [ei] at hi
      rw [ej] at hj
      have e1 : x.1 = q := Option.some.inj hi
      have e2 : y.1 = q := Option.some.inj hj
      obtain ⟨x1, x2⟩ := x
      obtain ⟨y1, y2⟩ := y
      dsimp only at e1 e2
      subst e1
      subst e2
      exact hW.endless ok (hpr _ (List.mem_of_getElem? ei)) hij ei ej
end
end M1
namespace M1
section
variable {M : Mach}
/-! ### a greatest length is less than the number of states -/
/-- alike behind m letters or more -/
def Mach.Rm (M : Mach) (m i j : Nat) : Prop := ∀ n, m < n → ¬ M.LateAt (i, j) n
theorem Mach.rm_refl (m i : Nat) : M.Rm m i i := fun _ _ ⟨_, _, _, _, _, _, h⟩ => h rfl
theorem Mach.lateAt_symm {i j n : Nat} (h : M.LateAt (i, j) n) : M.LateAt (j, i) n := by
  obtain ⟨w, h1, h2, u, a, e, h⟩ := h
  exact ⟨w, h1, h2, u, a, e, fun z => h z.symm⟩
theorem Mach.rm_symm {m i j : Nat} (h : M.Rm m i j) : M.Rm m j i := fun n hn q => h n hn (M.lateAt_symm q)
theorem Mach.lateAt_trans {i j l n : Nat} (h : M.LateAt (i, l) n) : M.LateAt (i, j) n ∨ M.LateAt (j, l) n := by
  obtain ⟨w, h1, h2, u, a, e, h⟩ := h
  by_cases z : M.out (M.led i u) a = M.out (M.led j u) a
  · exact .inr ⟨w, h1, h2, u, a, e, fun q => h (z.trans q)⟩
  · exact .inl ⟨w, h1, h2, u, a, e, z⟩
theorem Mach.rm_trans {m i j l : Nat} (h : M.Rm m i j) (h' : M.Rm m j l) : M.Rm m i l := fun n hn q => (M.lateAt_trans q).elim (h n hn) (h' n hn)
theorem Mach.rm_mono {m n i j : Nat} (h : m ≤ n) (q : M.Rm m i j) : M.Rm n i j := fun l hl => q l (by omega)
theorem Mach.rm_succ {m i j : Nat} : M.Rm (m + 1) i j ↔ ∀ a, a < M.k → M.Rm m (M.go i a) (M.go j a) := by
  constructor
  · intro h a ha n hn q
    obtain ⟨n, rfl⟩ : ∃ l, n = l + 1 := ⟨n - 1, by omega⟩
    exact h (n + 2) (by omega) (M.lateAt_succ.mpr ⟨a, ha, q⟩)
  · intro h n hn q
    obtain ⟨n, rfl⟩ : ∃ l, n = l + 2 := ⟨n - 2, by omega⟩
    obtain ⟨a, ha, q⟩ := M.lateAt_succ.mp q
    exact h a ha (n + 1) (by omega) q
/-- no finer at one turn: never finer again -/
theorem Mach.rm_stop (ok : M.Ok) {m : Nat} (h : ∀ i j, i < M.st.length → j < M.st.length → M.Rm (m + 1) i j → M.Rm m i j) : ∀ d i j, i < M.st.length → j < M.st.length → M.Rm (m + d) i j → M.Rm m i j
  | 0, _, _, _, _, q => q
  | d + 1, i, j, hi, hj, q => h i j hi hj (M.rm_succ.mpr fun a ha => Mach.rm_stop ok h d _ _ (M.go_lt ok hi ha) (M.go_lt ok hj ha) (M.rm_succ.mp q a ha))
open Classical in
noncomputable def Mach.reps (M : Mach) (m : Nat) : List Nat := (List.range M.st.length).filter fun i => decide (∀ j, j < i → ¬ M.Rm m i j)
open Classical in
theorem Mach.mem_reps {m i : Nat} : i ∈ M.reps m ↔ i < M.st.length ∧ ∀ j, j < i → ¬ M.Rm m i j := by
  unfold Mach.reps
  rw [List.mem_filter, List.mem_range, decide_eq_true_iff]
open Classical in
theorem Mach.reps_nodup (m : Nat) : (M.reps m).Nodup := by
  unfold Mach.reps
  exact List.nodup_range.filter _
theorem Mach.rep_of (m : Nat) : ∀ i, i < M.st.length → ∃ r, r ∈ M.reps m ∧ M.Rm m i r ∧ r ≤ i := fun i => by
  induction i using Nat.strongRecOn with
  | _ i ih =>
    intro hi
    by_cases h : ∀ j, j < i → ¬ M.Rm m i j
    · exact ⟨i, M.mem_reps.mpr ⟨hi, h⟩, M.rm_refl m i, Nat.le_refl _⟩
    · obtain ⟨j, hj⟩ := Classical.not_forall.mp h
      obtain ⟨hj, hR⟩ := Classical.not_imp.mp hj
      obtain ⟨r, h1, h2, h3⟩ := ih j hj (by omega)
      exact ⟨r, h1, M.rm_trans (Classical.not_not.mp hR) h2, by omega⟩
theorem Mach.reps_sub {m n : Nat} (h : m ≤ n) : ∀ i ∈ M.reps n, i ∈ M.reps m := fun i hi => by
  obtain ⟨h1, h2⟩ := M.mem_reps.mp hi
  exact M.mem_reps.mpr ⟨h1, fun j hj q => h2 j hj (M.rm_mono h q)⟩
theorem Mach.reps_less {m i j : Nat} (hi : i < M.st.length) (hj : j < M.st.length) (h1 : M.Rm (m + 1) i j) (h2 : ¬ M.Rm m i j) : (M.reps (m + 1)).length < (M.reps m).length := by
  obtain ⟨r, a1, a2, _⟩ := M.rep_of m i hi
  obtain ⟨s, b1, b2, _⟩ := M.rep_of m j hj
  have hne : r ≠ s := fun e => by
    subst e
    exact h2 (M.rm_trans a2 (M.rm_symm b2))
  have hrs : M.Rm (m + 1) r s := M.rm_trans (M.rm_symm (M.rm_mono (by omega) a2)) (M.rm_trans h1 (M.rm_mono (by omega) b2))
  obtain ⟨x, hx, hx'⟩ : ∃ x, x ∈ M.reps m ∧ x ∉ M.reps (m + 1) := by
    rcases Nat.lt_trichotomy r s with q | q | q
    · exact ⟨s, b1, fun z => (M.mem_reps.mp z).2 r q (M.rm_symm hrs)⟩
    · exact absurd q hne
    · exact ⟨r, a1, fun z => (M.mem_reps.mp z).2 s q hrs⟩
  have hnd : (x :: M.reps (m + 1)).Nodup := List.nodup_cons.mpr ⟨hx', M.reps_nodup _⟩
  have := nodup_le hnd (m := M.reps m) fun y hy => by
    rcases List.mem_cons.mp hy with e | h
    · exact e ▸ hx
    · exact M.reps_sub (by omega) y h
  rw [List.length_cons] at this
  omega
theorem Mach.late_lt (ok : M.Ok) {n : Nat} (h : M.LateIs (some n)) : n < M.st.length := by
  by_cases h0 : n = 0
  · rw [h0]; exact ok.n1
  have all : ∀ i j, i < M.st.length → j < M.st.length → M.Rm n i j := by
    have z : ∀ i, i < M.st.length → M.Rm n 0 i := fun i hi l hl q => by
      have := (h l (by omega)).mp (M.late_iff.mpr ⟨(0, i), ⟨.zero, hi⟩, q⟩)
      omega
    exact fun i j hi hj => M.rm_trans (M.rm_symm (z i hi)) (z j hj)
  obtain ⟨p, hp, hL⟩ := M.late_iff.mp ((h n (by omega)).mpr (Nat.le_refl _))
  have less : ∀ m, m < n → (M.reps (m + 1)).length < (M.reps m).length := fun m hm => by
    apply Classical.byContradiction
    intro hne
    have hst : ∀ i j, i < M.st.length → j < M.st.length → M.Rm (m + 1) i j → M.Rm m i j := fun i j hi hj q => Classical.byContradiction fun z => hne (M.reps_less hi hj q z)
    have := M.rm_stop ok hst (n - m) p.1 p.2 (hp.1.lt ok) hp.2 (by rw [show m + (n - m) = n by omega]; exact all _ _ (hp.1.lt ok) hp.2)
    exact this n hm hL
  have down : ∀ d, d ≤ n → (M.reps d).length + d ≤ (M.reps 0).length := fun d => by
    induction d with
    | zero => intro _; omega
    | succ d ih =>
      intro hd
      have := ih (by omega)
      have := less d (by omega)
      omega
  have h1 := down n (Nat.le_refl _)
  have h2 : 0 < (M.reps n).length := List.length_pos_of_mem (M.mem_reps.mpr ⟨ok.n1, fun j hj => by omega⟩)
  have h3 : (M.reps 0).length ≤ M.st.length := by
    have := nodup_le (M.reps_nodup 0) (m := List.range M.st.length) fun y hy => List.mem_range.mpr (M.mem_reps.mp hy).1
    rwa [List.length_range] at this
  omega
/-- behind more letters than the greatest late word has, all states answer as the first one does -/
theorem Mach.LateIs.alike {n : Nat} (h : M.LateIs (some n)) {i j : Nat} (hi : i < M.st.length) (hj : j < M.st.length) {u : List Nat} {a : Nat} (hu : M.Letters (u ++ [a])) (hl : n ≤ u.length) : M.out (M.led i u) a = M.out (M.led j u) a := by
  have z : ∀ i, i < M.st.length → M.out (M.led 0 u) a = M.out (M.led i u) a := fun i hi => Classical.byContradiction fun q => by
    have := (h (u.length + 1) (by omega)).mp ⟨(0, i), u ++ [a], ⟨.zero, hi⟩, hu, by simp, u, a, rfl, q⟩
    omega
  exact (z i hi).symm.trans (z j hj)
end
end M1
namespace M1
section
variable {M : Mach}
/-! ### late words of the least machine -/
theorem Mach.all_ord (ok : M.Ok) {i s : Nat} (h : M.all[i]? = some s) : (M.ord i)[i]? = some s := by
  obtain ⟨m, e⟩ := M.all_pre ok i
  have hl : i < (M.ord i).length := by
    apply Classical.byContradiction
    intro z
    have := M.all_of ok (i := i) (by omega)
    rw [← this] at h
    have := (List.getElem?_eq_some_iff.mp h).1
    omega
  rw [e, List.getElem?_append_left hl] at h
  exact h
theorem Mach.all_apart (ok : M.Ok) : M.Apart M.all := M.ord_apart ok 6
theorem Mach.all_has (ok : M.Ok) {i s x : Nat} (h : M.all[i]? = some s) (hx : x ∈ M.row s) : ∃ y ∈ M.all, M.eqv y x = true := by
  have ho := M.all_ord ok h
  obtain ⟨m, e⟩ := M.all_pre ok (i + 1)
  obtain ⟨y, hy, q⟩ := M.grow_has (o := M.ord i) (fun z hz => M.row_mem ok (M.ord_lt ok ho) hz) ok hx
  rw [← M.ord_step ho] at hy
  exact ⟨y, by rw [e]; exact List.mem_append_left _ hy, q⟩
theorem Mach.all_zero (ok : M.Ok) : M.all[0]? = some 0 := by
  obtain ⟨m, e⟩ := M.all_pre ok 0
  rw [e]
  rfl
theorem Mach.least_row {i s : Nat} (h : M.all[i]? = some s) : M.least.row i = (M.row s).map (M.num M.all) := by
  unfold Mach.row
  rw [List.getD_eq_getElem?_getD]
  show ((M.all.map fun s => (M.row s).map (M.num M.all))[i]?).getD [] = _
  rw [List.getElem?_map, h]
  rfl
theorem Mach.least_ans {i s : Nat} (h : M.all[i]? = some s) : M.least.ans i = M.ans s := by
  show ((M.all.map M.ans).getD i []) = _
  rw [List.getD_eq_getElem?_getD, List.getElem?_map, h]
  rfl
theorem Mach.least_k (ok : M.Ok) : M.least.k = M.k := by
  show (M.least.row 0).length = _
  rw [M.least_row (M.all_zero ok), List.length_map, M.row_len ok ok.n1]
theorem Mach.least_n (ok : M.Ok) : M.least.st.length = M.all.length := by
  show (M.all.map _).length = _
  rw [List.length_map]
theorem Mach.least_go (ok : M.Ok) {i s a : Nat} (h : M.all[i]? = some s) (ha : a < M.k) : M.least.go i a = M.num M.all (M.go s a) := by
  have hs := M.ord_lt ok (M.all_ord ok h)
  unfold Mach.go
  rw [M.least_row h, List.getD_eq_getElem?_getD, List.getElem?_map, M.go_at ok hs ha]
  rfl
theorem Mach.least_ok (ok : M.Ok) : M.least.Ok where
  n1 := by
    rw [M.least_n ok]
    exact Nat.lt_of_le_of_lt (Nat.zero_le _) (List.getElem?_eq_some_iff.mp (M.all_zero ok)).1
  n6 := by
    rw [M.least_n ok]
    exact Nat.le_trans ((M.all_apart ok).le ok) ok.n6
  k1 := by rw [M.least_k ok]; exact ok.k1
  k3 := by rw [M.least_k ok]; exact ok.k3
  la := by rw [M.least_n ok]; show (M.all.map M.ans).length = _; rw [List.length_map]
  rs := fun r hr => by
    rw [M.least_k ok, M.least_n ok]
    obtain ⟨s, hs, rfl⟩ := List.mem_map.mp (show r ∈ M.all.map fun s => (M.row s).map (M.num M.all) from hr)
    obtain ⟨i, hi, e⟩ := List.getElem_of_mem hs
    have hg : M.all[i]? = some s := by rw [List.getElem?_eq_getElem hi, e]
    refine ⟨by rw [List.length_map, M.row_len ok ((M.all_apart ok).lt s hs)], fun x hx => ?_⟩
    obtain ⟨y, hy, rfl⟩ := List.mem_map.mp hx
    exact M.num_lt (M.all_has ok hg hy)
  ra := fun r hr => by
    rw [M.least_k ok]
    obtain ⟨s, hs, rfl⟩ := List.mem_map.mp (show r ∈ M.all.map M.ans from hr)
    exact ok.ra _ (List.mem_of_getElem? (M.ans_at ok ((M.all_apart ok).lt s hs)))
/-- a state of the least machine stands for one of the machine's -/
def Mach.Stands (M : Mach) (i s : Nat) : Prop := ∃ s', M.all[i]? = some s' ∧ M.Eqv s' s
theorem Mach.Stands.go (ok : M.Ok) {i s a : Nat} (h : M.Stands i s) (ha : a < M.k) : M.Stands (M.least.go i a) (M.go s a) := by
  obtain ⟨s', h1, h2⟩ := h
  have hs' := M.ord_lt ok (M.all_ord ok h1)
  rw [M.least_go ok h1 ha]
  obtain ⟨y, hy, q⟩ := M.num_at (M.all_has ok h1 (List.mem_of_getElem? (M.go_at ok hs' ha)))
  exact ⟨y, hy, (Mach.eqv_iff.mp q).trans ((Mach.Eqv.bis s' s h2).2.2.2 a ha)⟩
theorem Mach.Stands.led (ok : M.Ok) : ∀ {w : List Nat} {i s : Nat}, M.Stands i s → M.Letters w → M.Stands (M.least.led i w) (M.led s w)
  | [], _, _, h, _ => h
  | a :: w, _, _, h, hw => Mach.Stands.led ok (w := w) (h.go ok (hw a List.mem_cons_self)) fun x hx => hw x (List.mem_cons_of_mem _ hx)
theorem Mach.Stands.out {i s a : Nat} (h : M.Stands i s) : M.least.out i a = M.out s a := by
  obtain ⟨s', h1, h2⟩ := h
  unfold Mach.out
  rw [M.least_ans h1, (Mach.Eqv.bis s' s h2).2.2.1]
theorem Mach.Stands.zero (ok : M.Ok) : M.Stands 0 0 := ⟨0, M.all_zero ok, Mach.Eqv.refl ok ok.n1⟩
theorem Mach.least_late (ok : M.Ok) {n : Nat} (h : M.least.Late n) : M.Late n := by
  obtain ⟨p, w, ⟨⟨u, hu, e⟩, hp2⟩, hw, hl, x, a, rfl, hne⟩ := h
  have kk := M.least_k ok
  have hu' : M.Letters u := fun y hy => by rw [← kk]; exact hu y hy
  have hw' : M.Letters (x ++ [a]) := fun y hy => by rw [← kk]; exact hw y hy
  have hx : M.Letters x := fun y hy => hw' y (List.mem_append_left _ hy)
  rw [M.least_n ok] at hp2
  obtain ⟨s, hs⟩ : ∃ s, M.all[p.2]? = some s := ⟨_, List.getElem?_eq_getElem hp2⟩
  have hsl := M.ord_lt ok (M.all_ord ok hs)
  have s1 : M.Stands p.1 (M.led 0 u) := by
    rw [← e]
    exact Mach.Stands.led ok (Mach.Stands.zero ok) hu'
  have s2 : M.Stands p.2 s := ⟨s, hs, Mach.Eqv.refl ok hsl⟩
  refine ⟨(M.led 0 u, s), x ++ [a], ⟨⟨u, hu', rfl⟩, hsl⟩, hw', hl, x, a, rfl, fun z => hne ?_⟩
  rw [(s1.led ok hx).out, (s2.led ok hx).out]
  exact z
theorem Mach.late_some (ok : M.Ok) : ∃ o, M.LateIs o := by
  by_cases h : M.Late 37
  · exact ⟨none, M.late_big ok (n := 37) (by omega) h⟩
  · have fall : ∀ d, ¬ M.Late (d + 1) → ∃ o, M.LateIs o := fun d => by
      induction d with
      | zero => exact fun h => ⟨some 0, M.lateIs_of ok (.inl rfl) h⟩
      | succ d ih =>
        intro h
        by_cases h1 : M.Late (d + 1)
        · exact ⟨some (d + 1), M.lateIs_of ok (.inr h1) h⟩
        · exact ih h1
    exact fall 36 h
/-! ### how many copies -/
/-- rounded up -/
def up (a b : Nat) : Nat := (a + b - 1) / b
theorem up_le {a b m : Nat} (hb : 1 ≤ b) : up a b ≤ m ↔ a ≤ m * b := by
  unfold up
  rw [← Nat.lt_succ_iff, Nat.div_lt_iff_lt_mul (by omega), Nat.succ_mul]
  omega
theorem up_zero {b : Nat} (hb : 1 ≤ b) : up 0 b = 0 := by
  have := (up_le (a := 0) (b := b) (m := 0) hb).mpr (by omega)
  omega
theorem up_pos {a b : Nat} (ha : 1 ≤ a) (hb : 1 ≤ b) : 1 ≤ up a b := by
  apply Classical.byContradiction
  intro z
  have := (up_le (a := a) (b := b) (m := 0) hb).mp (by omega)
  omega
theorem up_mono {a c b : Nat} (h : a ≤ c) (hb : 1 ≤ b) : up a b ≤ up c b := (up_le hb).mpr (Nat.le_trans h ((up_le hb).mp (Nat.le_refl _)))
theorem up_self {a b : Nat} (hb : 1 ≤ b) : a ≤ up a b * b := (up_le hb).mp (Nat.le_refl _)
theorem up_bound {a b : Nat} (hb : 1 ≤ b) : up a b ≤ a := (up_le hb).mpr (by
  have : a * 1 ≤ a * b := Nat.mul_le_mul_left a hb
  omega)
/-- the least number that is enough -/
def needed (o : Option Nat) (p g : Nat) : Option Nat := if p = 0 then some 1 else o.map fun d => 2 * p * up d g + 1
end
end M1
namespace M1
/-! ### courses: copies that strikes push -/
abbrev Strk := Nat × List (Nat × Nat)
def setAll (st : List Nat) (ps : List (Nat × Nat)) : List Nat := ps.foldl (fun s p => s.set p.1 p.2) st
theorem setAll_len (ps : List (Nat × Nat)) : ∀ st : List Nat, (setAll st ps).length = st.length := by
  induction ps with
  | nil => exact fun _ => rfl
  | cons p ps ih =>
    intro st
    show (setAll (st.set p.1 p.2) ps).length = _
    rw [ih, List.length_set]
theorem setAll_snoc (st : List Nat) (ps : List (Nat × Nat)) (p : Nat × Nat) : setAll st (ps ++ [p]) = (setAll st ps).set p.1 p.2 := by
  unfold setAll
  rw [List.foldl_append]
  rfl
theorem setAll_get (ps : List (Nat × Nat)) : ∀ (st : List Nat) (i : Nat) (q : Nat), (setAll st ps)[i]? = some q → st[i]? = some q ∨ ∃ p ∈ ps, p.1 = i ∧ p.2 = q := by
  induction ps with
  | nil => exact fun st i q h => .inl h
  | cons p ps ih =>
    intro st i q h
    rcases ih (st.set p.1 p.2) i q h with h | ⟨r, hr, h⟩
    · by_cases e : p.1 = i
      · subst e
        by_cases hl : p.1 < st.length
        · rw [List.getElem?_set_self hl] at h
          exact .inr ⟨p, List.mem_cons_self, rfl, Option.some.inj h⟩
        · rw [List.getElem?_eq_none (by rw [List.length_set]; omega)] at h
          cases h
      · rw [List.getElem?_set_ne e] at h
        exact .inl h
    · exact .inr ⟨r, List.mem_cons_of_mem _ hr, h⟩
theorem setAll_same (ps : List (Nat × Nat)) : ∀ (st : List Nat) (i : Nat), (∀ p ∈ ps, p.1 ≠ i) → (setAll st ps)[i]? = st[i]? := by
  induction ps with
  | nil => exact fun st i h => rfl
  | cons p ps ih =>
    intro st i h
    show (setAll (st.set p.1 p.2) ps)[i]? = _
    rw [ih _ _ fun q hq => h q (List.mem_cons_of_mem _ hq), List.getElem?_set_ne (h p List.mem_cons_self)]
def atPl (S : List Strk) (j : Nat) : List (Nat × Nat) := match S.find? (fun s => decide (s.1 = j)) with
  | some s => s.2
  | none => []
theorem atPl_mem {S : List Strk} {j : Nat} {p : Nat × Nat} (h : p ∈ atPl S j) : ∃ s ∈ S, s.1 = j ∧ p ∈ s.2 := by
  unfold atPl at h
  cases e : S.find? (fun s => decide (s.1 = j)) with
  | none => rw [e] at h; simp at h
  | some s =>
    rw [e] at h
    exact ⟨s, List.mem_of_find?_eq_some e, by simpa using List.find?_some e, h⟩
/-- one strike behind the other -/
theorem atPl_fold {S : List Strk} (j : Nat) (hS : S.Pairwise fun a b => a.1 < b.1) : ∀ st : List Nat, S.foldl (fun s x => if x.1 = j then setAll s x.2 else s) st = setAll st (atPl S j) := by
  induction S with
  | nil => exact fun _ => rfl
  | cons x S ih =>
    intro st
    have hx := List.pairwise_cons.mp hS
    rw [List.foldl_cons]
    by_cases e : x.1 = j
    · rw [if_pos e]
      have none_ : ∀ (l : List Strk) (st : List Nat), (∀ y ∈ l, y.1 ≠ j) → l.foldl (fun s x => if x.1 = j then setAll s x.2 else s) st = st := by
        intro l
        induction l with
        | nil => exact fun _ _ => rfl
        | cons y l ih =>
          intro st h
          rw [List.foldl_cons, if_neg (h y List.mem_cons_self)]
          exact ih st fun z hz => h z (List.mem_cons_of_mem _ hz)
      rw [none_ S _ fun y hy => by
        have := hx.1 y hy
        omega]
      unfold atPl
      rw [List.find?_cons_of_pos (by simpa using e)]
    · rw [if_neg e, ih hx.2]
      unfold atPl
      rw [List.find?_cons_of_neg (by simpa using e)]
/-- the answer of more than half -/
def voteOf (l : List Nat) : Option Nat := l.find? fun a => decide (l.length < 2 * l.count a)
theorem voteOf_of {l : List Nat} {a : Nat} (h : l.length < 2 * l.count a) : voteOf l = some a := by
  unfold voteOf
  have hm : a ∈ l := List.count_pos_iff.mp (by omega)
  cases e : l.find? (fun a => decide (l.length < 2 * l.count a)) with
  | none =>
    have := List.find?_eq_none.mp e a hm
    exact absurd (decide_eq_true h) this
  | some b =>
    have hb : l.length < 2 * l.count b := by simpa using List.find?_some e
    by_cases hab : a = b
    · rw [hab]
    · have h2 : l.count a + l.count b ≤ l.length := by
        clear e h hb hm
        induction l with
        | nil => simp
        | cons x l ih =>
          rw [List.count_cons, List.count_cons, List.length_cons]
          have : (if x == a then 1 else 0) + (if x == b then 1 else 0) ≤ 1 := by
            by_cases h1 : x = a
            · subst h1
              simp [hab]
            · by_cases h2 : x = b
              · subst h2
                simp [Ne.symm hab]
              · simp [h1, h2]
          omega
      omega
theorem voteOf_some {l : List Nat} {a : Nat} (h : voteOf l = some a) : l.length < 2 * l.count a := by
  unfold voteOf at h
  simpa using List.find?_some h
theorem voteOf_none {l : List Nat} (h : ∀ a, ¬ l.length < 2 * l.count a) : voteOf l = none := by
  unfold voteOf
  rw [List.find?_eq_none]
  exact fun a _ z => h a (of_decide_eq_true z)
/-- what more than half are stands in the middle -/
theorem middle {l : List Nat} {s : List Nat} (hp : s.Perm l) (hs : s.Pairwise (· ≤ ·)) {a : Nat} (h : l.length < 2 * l.count a) {m : Nat} (hm : s[l.length / 2]? = some m) : m = a := by
  have hl := hp.length_eq
  rw [← hp.count_eq] at h
  have cut : s.count a = (s.take (l.length / 2)).count a + (s.drop (l.length / 2)).count a := by rw [← List.count_append, List.take_append_drop]
  have cut2 : s.count a = (s.take (l.length / 2 + 1)).count a + (s.drop (l.length / 2 + 1)).count a := by rw [← List.count_append, List.take_append_drop]
  have ge : ∀ x ∈ s.drop (l.length / 2), m ≤ x := fun x hx => by
    obtain ⟨i, hi⟩ := List.mem_iff_getElem?.mp hx
    rw [List.getElem?_drop] at hi
    by_cases h0 : i = 0
    · subst h0
      rw [Nat.add_zero, hm] at hi
      exact Nat.le_of_eq (Option.some.inj hi)
    · have h1 := List.getElem?_eq_some_iff.mp hm
      have h2 := List.getElem?_eq_some_iff.mp hi
      have := List.pairwise_iff_getElem.mp hs _ _ h1.1 h2.1 (by omega)
      rw [h1.2, h2.2] at this
      exact this
  have le : ∀ x ∈ s.take (l.length / 2 + 1), x ≤ m := fun x hx => by
    obtain ⟨i, hi⟩ := List.mem_iff_getElem?.mp hx
    have hil : i < l.length / 2 + 1 := by
      have := (List.getElem?_eq_some_iff.mp hi).1
      rw [List.length_take] at this
      omega
    rw [List.getElem?_take_of_lt hil] at hi
    by_cases h0 : i = l.length / 2
    · subst h0
      rw [hm] at hi
      exact Nat.le_of_eq (Option.some.inj hi).symm
    · have h1 := List.getElem?_eq_some_iff.mp hm
      have h2 := List.getElem?_eq_some_iff.mp hi
      have := List.pairwise_iff_getElem.mp hs _ _ h2.1 h1.1 (by omega)
      rw [h1.2, h2.2] at this
      exact this
  rcases Nat.lt_trichotomy m a with q | q | q
  · have : (s.take (l.length / 2 + 1)).count a = 0 := List.count_eq_zero.mpr fun z => by
      have := le a z
      omega
    have h3 := List.count_le_length (a := a) (l := s.drop (l.length / 2 + 1))
    rw [List.length_drop] at h3
    omega
  · exact q
  · have : (s.drop (l.length / 2)).count a = 0 := List.count_eq_zero.mpr fun z => by
      have := ge a z
      omega
    have h3 := List.count_le_length (a := a) (l := s.take (l.length / 2))
    rw [List.length_take] at h3
    omega
section
variable {M : Mach}
/-- the copies' states behind j letters -/
def Mach.sts (M : Mach) (c : Nat) (w : List Nat) (S : List Strk) : Nat → List Nat
  | 0 => List.replicate c 0
  | j + 1 => (setAll (M.sts c w S j) (atPl S j)).map fun s => M.go s (w.getD j 0)
def Mach.hit (M : Mach) (c : Nat) (w : List Nat) (S : List Strk) (j : Nat) : List Nat := setAll (M.sts c w S j) (atPl S j)
def Mach.rgt (M : Mach) (w : List Nat) (j : Nat) : Nat := M.led 0 (w.take j)
def Mach.giv (M : Mach) (c : Nat) (w : List Nat) (S : List Strk) (j : Nat) : List Nat := (M.hit c w S j).map fun s => M.out s (w.getD j 0)
theorem Mach.sts_len (c : Nat) (w : List Nat) (S : List Strk) : ∀ j, (M.sts c w S j).length = c
  | 0 => by unfold Mach.sts; rw [List.length_replicate]
  | j + 1 => by
    unfold Mach.sts
    rw [List.length_map, setAll_len, Mach.sts_len]
theorem Mach.hit_len (c : Nat) (w : List Nat) (S : List Strk) (j : Nat) : (M.hit c w S j).length = c := by
  unfold Mach.hit
  rw [setAll_len, M.sts_len]
theorem Mach.giv_len (c : Nat) (w : List Nat) (S : List Strk) (j : Nat) : (M.giv c w S j).length = c := by
  unfold Mach.giv
  rw [List.length_map, M.hit_len]
theorem Mach.rgt_succ {w : List Nat} {j a : Nat} (h : w[j]? = some a) : M.rgt w (j + 1) = M.go (M.rgt w j) a := by
  unfold Mach.rgt
  rw [take_succ' h, M.led_append]
  rfl
structure Mach.Strs (M : Mach) (c : Nat) (S : List Strk) : Prop where
  asc : S.Pairwise fun a b => a.1 < b.1
  pl : ∀ s ∈ S, s.1 ≤ 4000
  ne : ∀ s ∈ S, s.2 ≠ []
  pu : ∀ s ∈ S, s.2.Pairwise fun a b => a.1 < b.1
  ok : ∀ s ∈ S, ∀ p ∈ s.2, p.1 < c ∧ p.2 < M.st.length
theorem Mach.Strs.at_ok {c : Nat} {S : List Strk} (T : M.Strs c S) {j : Nat} : ∀ p ∈ atPl S j, p.1 < c ∧ p.2 < M.st.length := fun p hp => by
  obtain ⟨s, hs, _, h⟩ := atPl_mem hp
  exact T.ok s hs p h
theorem Mach.sts_lt (ok : M.Ok) {c : Nat} {w : List Nat} {S : List Strk} (T : M.Strs c S) : ∀ j, (∀ i a, i < j → w[i]? = some a → a < M.k) → j ≤ w.length → (∀ x ∈ M.sts c w S j, x < M.st.length) ∧ ∀ x ∈ M.hit c w S j, x < M.st.length := fun j => by
  have hitl : ∀ st : List Nat, (∀ x ∈ st, x < M.st.length) → ∀ x ∈ setAll st (atPl S j), x < M.st.length := fun st h x hx => by
    obtain ⟨i, hi⟩ := List.mem_iff_getElem?.mp hx
    rcases setAll_get _ _ _ _ hi with h1 | ⟨p, hp, _, rfl⟩
    · exact h x (List.mem_of_getElem? h1)
    · exact (T.at_ok p hp).2
  induction j with
  | zero =>
    intro _ _
    have h0 : ∀ x ∈ M.sts c w S 0, x < M.st.length := fun x hx => by
      have : x = 0 := List.eq_of_mem_replicate hx
      have := ok.n1
      omega
    exact ⟨h0, hitl _ h0⟩
  | succ j ih =>
    intro hw hl
    have hj : j < w.length := by omega
    have wj : w[j]? = some w[j] := List.getElem?_eq_getElem hj
    have ha := hw j _ (by omega) wj
    have hitl' : ∀ x ∈ M.hit c w S j, x < M.st.length := by
      have h1 := (ih (fun st h x hx => by
        obtain ⟨i, hi⟩ := List.mem_iff_getElem?.mp hx
        rcases setAll_get _ _ _ _ hi with h1 | ⟨p, hp, _, rfl⟩
        · exact h x (List.mem_of_getElem? h1)
        · exact (T.at_ok p hp).2) (fun i a hi => hw i a (by omega)) (by omega))
      exact h1.2
    have h0 : ∀ x ∈ M.sts c w S (j + 1), x < M.st.length := fun x hx => by
      unfold Mach.sts at hx
      obtain ⟨s, hs, rfl⟩ := List.mem_map.mp hx
      rw [getD_of wj]
      exact M.go_lt ok (hitl' s hs) ha
    exact ⟨h0, hitl _ h0⟩
/-- whence a copy's state comes -/
def Mach.Whence (M : Mach) (w : List Nat) (S : List Strk) (j i q : Nat) : Prop := ∃ t z, t ≤ j ∧ z < M.st.length ∧ q = M.led z ((w.drop t).take (j - t)) ∧ (z = M.rgt w t ∨ ∃ s ∈ S, s.1 = t ∧ ∃ p ∈ s.2, p.1 = i)
theorem Mach.rgt_lt (ok : M.Ok) {w : List Nat} (hw : M.Letters w) (j : Nat) : M.rgt w j < M.st.length := M.led_lt ok ok.n1 fun x hx => hw x (List.mem_of_mem_take hx)
theorem Mach.whence (ok : M.Ok) {c : Nat} {w : List Nat} {S : List Strk} (T : M.Strs c S) (hw : M.Letters w) : ∀ j, j ≤ w.length → (∀ i q, (M.sts c w S j)[i]? = some q → M.Whence w S j i q) ∧ ∀ i q, (M.hit c w S j)[i]? = some q → M.Whence w S j i q := fun j => by
  have up_ : ∀ j, (∀ i q, (M.sts c w S j)[i]? = some q → M.Whence w S j i q) → ∀ i q, (M.hit c w S j)[i]? = some q → M.Whence w S j i q := fun j h i q hq => by
    rcases setAll_get _ _ _ _ hq with h1 | ⟨p, hp, rfl, rfl⟩
    · exact h i q h1
    · obtain ⟨s, hs, e, hp'⟩ := atPl_mem hp
      exact ⟨j, p.2, Nat.le_refl _, (T.at_ok p hp).2, by rw [Nat.sub_self]; rfl, .inr ⟨s, hs, e, p, hp', rfl⟩⟩
  induction j with
  | zero =>
    intro _
    have h0 : ∀ i q, (M.sts c w S 0)[i]? = some q → M.Whence w S 0 i q := fun i q hq => by
      have : q = 0 := List.eq_of_mem_replicate (List.mem_of_getElem? hq)
      subst this
      exact ⟨0, 0, Nat.le_refl _, ok.n1, rfl, .inl rfl⟩
    exact ⟨h0, up_ 0 h0⟩
  | succ j ih =>
    intro hl
    have hj : j < w.length := by omega
    have wj : w[j]? = some w[j] := List.getElem?_eq_getElem hj
    have h0 : ∀ i q, (M.sts c w S (j + 1))[i]? = some q → M.Whence w S (j + 1) i q := fun i q hq => by
      unfold Mach.sts at hq
      rw [List.getElem?_map] at hq
      cases e : (setAll (M.sts c w S j) (atPl S j))[i]? with
      | none => rw [e] at hq; cases hq
      | some q0 =>
        rw [e] at hq
        have hq' : M.go q0 (w.getD j 0) = q := Option.some.inj hq
        rw [getD_of wj] at hq'
        obtain ⟨t, z, ht, hz, e1, hh⟩ := (ih (by omega)).2 i q0 e
        refine ⟨t, z, by omega, hz, ?_, hh⟩
        rw [← hq', e1, show j + 1 - t = (j - t) + 1 by omega, take_succ' (x := w[j]) (by rw [List.getElem?_drop, show t + (j - t) = j by omega]; exact wj), M.led_append]
        rfl
    exact ⟨h0, up_ _ h0⟩
theorem Mach.led_rgt {w : List Nat} {t j : Nat} (h : t ≤ j) (hj : j ≤ w.length) : M.led (M.rgt w t) ((w.drop t).take (j - t)) = M.rgt w j := by
  unfold Mach.rgt
  rw [← M.led_append]
  congr 1
  rw [List.take_drop, show t + (j - t) = j by omega]
  have : w.take t = (w.take j).take t := by rw [List.take_take, Nat.min_eq_left h]
  rw [this, List.take_append_drop]
/-- the copies pushed of late -/
def recent (S : List Strk) (d j : Nat) : List Strk := S.filter fun s => decide (s.1 ≤ j) && decide (j < s.1 + d)
theorem Mach.fair (ok : M.Ok) {c d : Nat} {w : List Nat} {S : List Strk} (T : M.Strs c S) (hw : M.Letters w) (hL : M.LateIs (some d)) {j i q : Nat} (hj : j < w.length) (hq : (M.hit c w S j)[i]? = some q) (hi : i ∉ (recent S d j).flatMap fun s => s.2.map (·.1)) : M.out q (w.getD j 0) = M.out (M.rgt w j) (w.getD j 0) := by
  have wj : w[j]? = some w[j] := List.getElem?_eq_getElem hj
  rw [getD_of wj]
  obtain ⟨t, z, ht, hz, rfl, hh⟩ := (M.whence ok T hw j (by omega)).2 i q hq
  rcases hh with rfl | ⟨s, hs, e, p, hp, rfl⟩
  · rw [M.led_rgt ht (by omega)]
  · rw [← M.led_rgt ht (by omega)]
    have hd : ¬ j < t + d := fun z => hi (List.mem_flatMap.mpr ⟨s, List.mem_filter.mpr ⟨hs, by rw [e, decide_eq_true ht, decide_eq_true z]; rfl⟩, List.mem_map.mpr ⟨p, hp, rfl⟩⟩)
    refine hL.alike hz (M.rgt_lt ok hw t) (u := (w.drop t).take (j - t)) (a := w[j]) (fun x hx => ?_) ?_
    · rcases List.mem_append.mp hx with h | h
      · exact hw x (List.mem_of_mem_drop (List.mem_of_mem_take h))
      · rw [List.mem_singleton] at h
        rw [h]
        exact hw _ (List.getElem_mem hj)
    · rw [List.length_take, List.length_drop]
      omega
theorem count_bad {l : List Nat} {a : Nat} {B : List Nat} (h : ∀ i x, l[i]? = some x → i ∉ B → x = a) : l.length ≤ l.count a + B.length := by
  have key : ∀ (l : List Nat) (f : Nat → Bool), (∀ i x, l[i]? = some x → f i = false → x = a) → l.length ≤ l.count a + ((List.range l.length).filter f).length := fun l => by
    refine snoc_ind (P := fun l => ∀ f : Nat → Bool, (∀ i x, l[i]? = some x → f i = false → x = a) → l.length ≤ l.count a + ((List.range l.length).filter f).length) (fun f _ => by simp) (fun l x ih f h => ?_) l
    have h1 := ih f fun i y hy => h i y (by rw [List.getElem?_append_left (List.getElem?_eq_some_iff.mp hy).1]; exact hy)
    have h2 := h l.length x (by rw [List.getElem?_append_right (Nat.le_refl _)]; simp)
    rw [List.length_append, List.length_singleton, List.range_succ, List.filter_append, List.length_append, List.count_append]
    cases hf : f l.length with
    | true =>
      rw [List.filter_cons, if_pos hf]
      simp only [List.filter_nil, List.length_singleton]
      omega
    | false =>
      rw [h2 hf]
      simp
      omega
  have h1 := key l (fun i => decide (i ∈ B)) fun i x hx hf => h i x hx (of_decide_eq_false hf)
  have h2 : ((List.range l.length).filter fun i => decide (i ∈ B)).length ≤ B.length := nodup_le (List.nodup_range.filter _) fun i hi => of_decide_eq_true (List.mem_filter.mp hi).2
  omega
theorem gaps {S : List Strk} {g d j : Nat} (hg : 1 ≤ g) (hS : S.Pairwise fun a b => a.1 + g ≤ b.1) : (recent S d j).length ≤ up d g := by
  have hF : (recent S d j).Pairwise fun a b => a.1 + g ≤ b.1 := hS.filter _
  have hm : ∀ s ∈ recent S d j, s.1 ≤ j ∧ j < s.1 + d := fun s hs => by
    have := (List.mem_filter.mp hs).2
    rw [Bool.and_eq_true] at this
    exact ⟨of_decide_eq_true this.1, of_decide_eq_true this.2⟩
  generalize recent S d j = F at hF hm
  cases F with
  | nil => exact Nat.zero_le _
  | cons x F =>
    have far : ∀ (F : List Strk) (x : Strk), (x :: F).Pairwise (fun a b => a.1 + g ≤ b.1) → ∃ y ∈ x :: F, x.1 + F.length * g ≤ y.1 := fun F => by
      induction F with
      | nil => exact fun x _ => ⟨x, List.mem_cons_self, by simp⟩
      | cons z F ih =>
        intro x h
        have hx := List.pairwise_cons.mp h
        obtain ⟨y, hy, h2⟩ := ih z hx.2
        have := hx.1 z List.mem_cons_self
        refine ⟨y, List.mem_cons_of_mem _ hy, ?_⟩
        rw [List.length_cons, Nat.succ_mul]
        omega
    obtain ⟨y, hy, h2⟩ := far F x hF
    have h3 := hm x List.mem_cons_self
    have h4 := hm y hy
    rw [List.length_cons]
    apply Classical.byContradiction
    intro z
    have := (up_le (a := d) (b := g) (m := F.length) hg).mp (by omega)
    omega
/-- where the copies are enough, the vote is right -/
theorem Mach.vote_right (ok : M.Ok) {c p g : Nat} {o : Option Nat} {w : List Nat} {S : List Strk} (T : M.Strs c S) (hw : M.Letters w) (hL : M.LateIs o) (hg : 1 ≤ g) (hp : ∀ s ∈ S, s.2.length ≤ p) (hS : S.Pairwise fun a b => a.1 + g ≤ b.1) {m : Nat} (hm : needed o p g = some m) (hc : m ≤ c) {j : Nat} (hj : j < w.length) :
    voteOf (M.giv c w S j) = some (M.out (M.rgt w j) (w.getD j 0)) := by
  have hb : ∃ B : List Nat, 2 * B.length < c ∧ ∀ i q, (M.hit c w S j)[i]? = some q → i ∉ B → M.out q (w.getD j 0) = M.out (M.rgt w j) (w.getD j 0) := by
    unfold needed at hm
    by_cases h0 : p = 0
    · rw [if_pos h0] at hm
      have := Option.some.inj hm
      refine ⟨[], by show 2 * 0 < c; omega, fun i q hq _ => ?_⟩
      obtain ⟨t, z, ht, hz, rfl, hh⟩ := (M.whence ok T hw j (by omega)).2 i q hq
      rcases hh with rfl | ⟨s, hs, e, x, hx, rfl⟩
      · rw [M.led_rgt ht (by omega)]
      · have := hp s hs
        have : s.2 = [] := List.length_eq_zero_iff.mp (by omega)
        rw [this] at hx
        simp at hx
    · rw [if_neg h0] at hm
      cases o with
      | none => cases hm
      | some d =>
        have hm' : 2 * p * up d g + 1 = m := Option.some.inj hm
        refine ⟨(recent S d j).flatMap fun s => s.2.map (·.1), ?_, fun i q hq hi => M.fair ok T hw hL hj hq hi⟩
        have hr := gaps (d := d) (j := j) hg hS
        have hsub : ∀ s ∈ recent S d j, s.2.length ≤ p := fun s hs => hp s (List.mem_filter.mp hs).1
        have hlen : ((recent S d j).flatMap fun s => s.2.map (·.1)).length ≤ (recent S d j).length * p := by
          generalize recent S d j = F at hsub
          induction F with
          | nil => simp
          | cons x F ih =>
            rw [List.flatMap_cons, List.length_append, List.length_map, List.length_cons, Nat.succ_mul]
            have := ih fun s hs => hsub s (List.mem_cons_of_mem _ hs)
            have := hsub x List.mem_cons_self
            omega
        have : (recent S d j).length * p ≤ up d g * p := Nat.mul_le_mul_right p hr
        have e : 2 * p * up d g = 2 * (up d g * p) := by rw [Nat.mul_assoc, Nat.mul_comm p]
        omega
  obtain ⟨B, h1, h2⟩ := hb
  refine voteOf_of ?_
  have h3 := count_bad (l := M.giv c w S j) (a := M.out (M.rgt w j) (w.getD j 0)) (B := B) fun i x hx hi => by
    unfold Mach.giv at hx
    rw [List.getElem?_map] at hx
    cases e : (M.hit c w S j)[i]? with
    | none => rw [e] at hx; cases hx
    | some q =>
      rw [e] at hx
      rw [← Option.some.inj hx]
      exact h2 i q e hi
  rw [M.giv_len] at h3 ⊢
  omega
end
end M1
namespace Kx
open PySem PySem.Spec PyProof.Rows L2

def top (i : Nat) : Stmt := PySem.Challenge.pw_pushedclerks_k02_whole_late_words.main.body.getD i (.Pass ⟨0, 0, 0, 0⟩)
abbrev s_is_integer : Stmt := top 11
abbrev N_is_integer : List Str := ["value", "low", "high"]
theorem sc_is_integer : FnScope N_is_integer ["value", "low", "high"] (defScope s_is_integer) := ⟨rfl, rfl, rfl, by decide +kernel, rfl, by decide +kernel, by decide +kernel⟩
abbrev s_is_tuple : Stmt := top 12
abbrev N_is_tuple : List Str := ["value", "low", "high"]
theorem sc_is_tuple : FnScope N_is_tuple ["value", "low", "high"] (defScope s_is_tuple) := ⟨rfl, rfl, rfl, by decide +kernel, rfl, by decide +kernel, by decide +kernel⟩
abbrev s_is_row : Stmt := top 13
abbrev N_is_row : List Str := ["value", "greatest", "item"]
theorem sc_is_row : FnScope N_is_row ["value", "greatest"] (defScope s_is_row) := ⟨rfl, rfl, rfl, by decide +kernel, rfl, by decide +kernel, by decide +kernel⟩
abbrev s_is_table : Stmt := top 14
abbrev N_is_table : List Str := ["value", "height", "width", "greatest", "row"]
theorem sc_is_table : FnScope N_is_table ["value", "height", "width", "greatest"] (defScope s_is_table) := ⟨rfl, rfl, rfl, by decide +kernel, rfl, by decide +kernel, by decide +kernel⟩
abbrev s_is_steps : Stmt := top 15
abbrev N_is_steps : List Str := ["value"]
theorem sc_is_steps : FnScope N_is_steps ["value"] (defScope s_is_steps) := ⟨rfl, rfl, rfl, by decide +kernel, rfl, by decide +kernel, by decide +kernel⟩
abbrev s_check_machine : Stmt := top 16
abbrev N_check_machine : List Str := ["machine", "steps", "told"]
theorem sc_check_machine : FnScope N_check_machine ["machine"] (defScope s_check_machine) := ⟨rfl, rfl, rfl, by decide +kernel, rfl, by decide +kernel, by decide +kernel⟩
abbrev s_is_state : Stmt := top 17
abbrev N_is_state : List Str := ["machine", "value"]
theorem sc_is_state : FnScope N_is_state ["machine", "value"] (defScope s_is_state) := ⟨rfl, rfl, rfl, by decide +kernel, rfl, by decide +kernel, by decide +kernel⟩
abbrev s_is_word : Stmt := top 18
abbrev N_is_word : List Str := ["machine", "value"]
theorem sc_is_word : FnScope N_is_word ["machine", "value"] (defScope s_is_word) := ⟨rfl, rfl, rfl, by decide +kernel, rfl, by decide +kernel, by decide +kernel⟩
abbrev s_is_short_word : Stmt := top 19
abbrev N_is_short_word : List Str := ["machine", "value"]
theorem sc_is_short_word : FnScope N_is_short_word ["machine", "value"] (defScope s_is_short_word) := ⟨rfl, rfl, rfl, by decide +kernel, rfl, by decide +kernel, by decide +kernel⟩
abbrev s_check_word : Stmt := top 20
abbrev N_check_word : List Str := ["machine", "word"]
theorem sc_check_word : FnScope N_check_word ["machine", "word"] (defScope s_check_word) := ⟨rfl, rfl, rfl, by decide +kernel, rfl, by decide +kernel, by decide +kernel⟩
abbrev s_state_behind : Stmt := top 22
abbrev N_state_behind : List Str := ["machine", "state", "word", "letter"]
theorem sc_state_behind : FnScope N_state_behind ["machine", "state", "word"] (defScope s_state_behind) := ⟨rfl, rfl, rfl, by decide +kernel, rfl, by decide +kernel, by decide +kernel⟩
abbrev s_last_answer : Stmt := top 23
abbrev N_last_answer : List Str := ["machine", "state", "word"]
theorem sc_last_answer : FnScope N_last_answer ["machine", "state", "word"] (defScope s_last_answer) := ⟨rfl, rfl, rfl, by decide +kernel, rfl, by decide +kernel, by decide +kernel⟩
abbrev s_ways_to_states : Stmt := top 25
abbrev N_ways_to_states : List Str := ["machine", "ways", "waiting", "state", "letter", "after"]
theorem sc_ways_to_states : FnScope N_ways_to_states ["machine"] (defScope s_ways_to_states) := ⟨rfl, rfl, rfl, by decide +kernel, rfl, by decide +kernel, by decide +kernel⟩
abbrev s_unlike_letters : Stmt := top 26
abbrev N_unlike_letters : List Str := ["machine", "pairs", "told", "found", "one", "other", "letter", "answer"]
theorem sc_unlike_letters : FnScope N_unlike_letters ["machine", "pairs"] (defScope s_unlike_letters) := ⟨rfl, rfl, rfl, by decide +kernel, rfl, by decide +kernel, by decide +kernel⟩
abbrev s_pair_behind : Stmt := top 27
abbrev N_pair_behind : List Str := ["machine", "pair", "letter", "steps"]
theorem sc_pair_behind : FnScope N_pair_behind ["machine", "pair", "letter"] (defScope s_pair_behind) := ⟨rfl, rfl, rfl, by decide +kernel, rfl, by decide +kernel, by decide +kernel⟩
abbrev s_letters_into : Stmt := top 28
abbrev N_letters_into : List Str := ["machine", "pairs", "ends", "found", "pair", "letter"]
theorem sc_letters_into : FnScope N_letters_into ["machine", "pairs", "ends"] (defScope s_letters_into) := ⟨rfl, rfl, rfl, by decide +kernel, rfl, by decide +kernel, by decide +kernel⟩
abbrev s_late_layers : Stmt := top 29
abbrev N_late_layers : List Str := ["machine", "pairs", "layers", "layer", "one", "other"]
theorem sc_late_layers : FnScope N_late_layers ["machine"] (defScope s_late_layers) := ⟨rfl, rfl, rfl, by decide +kernel, rfl, by decide +kernel, by decide +kernel⟩
abbrev s_late_walk : Stmt := top 30
abbrev N_late_walk : List Str := ["machine", "layers", "walk", "pair", "layer"]
theorem sc_late_walk : FnScope N_late_walk ["machine"] (defScope s_late_walk) := ⟨rfl, rfl, rfl, by decide +kernel, rfl, by decide +kernel, by decide +kernel⟩
abbrev s_round_on : Stmt := top 31
abbrev N_round_on : List Str := ["walk", "places", "place", "pair", "_"]
theorem sc_round_on : FnScope N_round_on ["walk"] (defScope s_round_on) := ⟨rfl, rfl, rfl, by decide +kernel, rfl, by decide +kernel, by decide +kernel⟩
abbrev s_letters_on : Stmt := top 32
abbrev N_letters_on : List Str := ["walk", "_", "letter"]
theorem sc_letters_on : FnScope N_letters_on ["walk"] (defScope s_letters_on) := ⟨rfl, rfl, rfl, by decide +kernel, rfl, by decide +kernel, by decide +kernel⟩
abbrev s_late : Stmt := top 33
abbrev N_late : List Str := ["machine", "walk"]
theorem sc_late : FnScope N_late ["machine"] (defScope s_late) := ⟨rfl, rfl, rfl, by decide +kernel, rfl, by decide +kernel, by decide +kernel⟩
abbrev s_late_word : Stmt := top 34
abbrev N_late_word : List Str := ["machine", "walk", "one", "other"]
theorem sc_late_word : FnScope N_late_word ["machine"] (defScope s_late_word) := ⟨rfl, rfl, rfl, by decide +kernel, rfl, by decide +kernel, by decide +kernel⟩
abbrev s_answer_unlike : Stmt := top 35
abbrev N_answer_unlike : List Str := ["machine", "one", "other", "word"]
theorem sc_answer_unlike : FnScope N_answer_unlike ["machine", "one", "other", "word"] (defScope s_answer_unlike) := ⟨rfl, rfl, rfl, by decide +kernel, rfl, by decide +kernel, by decide +kernel⟩
abbrev s_shows_late_word : Stmt := top 36
abbrev N_shows_late_word : List Str := ["machine", "value", "greatest", "way", "state", "word"]
theorem sc_shows_late_word : FnScope N_shows_late_word ["machine", "value"] (defScope s_shows_late_word) := ⟨rfl, rfl, rfl, by decide +kernel, rfl, by decide +kernel, by decide +kernel⟩
abbrev s_never_forgets : Stmt := top 37
abbrev N_never_forgets : List Str := ["machine", "walk", "places", "start", "stop", "one", "other"]
theorem sc_never_forgets : FnScope N_never_forgets ["machine"] (defScope s_never_forgets) := ⟨rfl, rfl, rfl, by decide +kernel, rfl, by decide +kernel, by decide +kernel⟩
abbrev s_shows_never_forgets : Stmt := top 38
abbrev N_shows_never_forgets : List Str := ["machine", "value", "way", "state", "again", "last", "one", "word"]
theorem sc_shows_never_forgets : FnScope N_shows_never_forgets ["machine", "value"] (defScope s_shows_never_forgets) := ⟨rfl, rfl, rfl, by decide +kernel, rfl, by decide +kernel, by decide +kernel⟩
abbrev s_window : Stmt := top 40
abbrev N_window : List Str := ["machine", "length"]
theorem sc_window : FnScope N_window ["machine"] (defScope s_window) := ⟨rfl, rfl, rfl, by decide +kernel, rfl, by decide +kernel, by decide +kernel⟩
abbrev s_window_answer : Stmt := top 41
abbrev N_window_answer : List Str := ["machine", "word", "size"]
theorem sc_window_answer : FnScope N_window_answer ["machine", "word"] (defScope s_window_answer) := ⟨rfl, rfl, rfl, by decide +kernel, rfl, by decide +kernel, by decide +kernel⟩
abbrev s_words_of : Stmt := top 42
abbrev N_words_of : List Str := ["machine", "length", "found", "_", "word", "letter"]
theorem sc_words_of : FnScope N_words_of ["machine", "length"] (defScope s_words_of) := ⟨rfl, rfl, rfl, by decide +kernel, rfl, by decide +kernel, by decide +kernel⟩
abbrev s_window_table : Stmt := top 43
abbrev N_window_table : List Str := ["machine", "size", "word"]
theorem sc_window_table : FnScope N_window_table ["machine"] (defScope s_window_table) := ⟨rfl, rfl, rfl, by decide +kernel, rfl, by decide +kernel, by decide +kernel⟩
abbrev s_law_taken : Stmt := top 45
abbrev N_law_taken : List Str := ["row", "many", "found", "cell"]
theorem sc_law_taken : FnScope N_law_taken ["row", "many"] (defScope s_law_taken) := ⟨rfl, rfl, rfl, by decide +kernel, rfl, by decide +kernel, by decide +kernel⟩
abbrev s_law_machine : Stmt := top 46
abbrev N_law_machine : List Str := ["row", "states", "letters", "many", "some", "kind", "steps", "told", "table", "state", "line", "letter", "there"]
theorem sc_law_machine : FnScope N_law_machine ["row", "states", "letters"] (defScope s_law_machine) := ⟨rfl, rfl, rfl, by decide +kernel, rfl, by decide +kernel, by decide +kernel⟩
abbrev s_law_comes : Stmt := top 47
abbrev N_law_comes : List Str := ["machine", "found", "turn", "more", "state"]
theorem sc_law_comes : FnScope N_law_comes ["machine"] (defScope s_law_comes) := ⟨rfl, rfl, rfl, by decide +kernel, rfl, by decide +kernel, by decide +kernel⟩
abbrev s_law_sets : Stmt := top 48
abbrev N_law_sets : List Str := ["machine", "here", "found", "right", "length", "later", "one", "other", "letter"]
theorem sc_law_sets : FnScope N_law_sets ["machine"] (defScope s_law_sets) := ⟨rfl, rfl, rfl, by decide +kernel, rfl, by decide +kernel, by decide +kernel⟩
abbrev s_law_late : Stmt := top 49
abbrev N_law_late : List Str := ["machine", "lengths", "at", "here", "one", "other"]
theorem sc_law_late : FnScope N_law_late ["machine"] (defScope s_law_late) := ⟨rfl, rfl, rfl, by decide +kernel, rfl, by decide +kernel, by decide +kernel⟩
abbrev s_law_alike : Stmt := top 50
abbrev N_law_alike : List Str := ["found", "due", "k"]
theorem sc_law_alike : FnScope N_law_alike ["found", "due"] (defScope s_law_alike) := ⟨rfl, rfl, rfl, by decide +kernel, rfl, by decide +kernel, by decide +kernel⟩
abbrev s_law_led : Stmt := top 51
abbrev N_law_led : List Str := ["machine", "state", "word", "letter"]
theorem sc_law_led : FnScope N_law_led ["machine", "state", "word"] (defScope s_law_led) := ⟨rfl, rfl, rfl, by decide +kernel, rfl, by decide +kernel, by decide +kernel⟩
abbrev s_law_told : Stmt := top 52
abbrev N_law_told : List Str := ["machine", "state", "word", "at"]
theorem sc_law_told : FnScope N_law_told ["machine", "state", "word"] (defScope s_law_told) := ⟨rfl, rfl, rfl, by decide +kernel, rfl, by decide +kernel, by decide +kernel⟩
abbrev s_law_is_late : Stmt := top 53
abbrev N_law_is_late : List Str := ["machine", "value", "way", "state", "word", "right"]
theorem sc_law_is_late : FnScope N_law_is_late ["machine", "value"] (defScope s_law_is_late) := ⟨rfl, rfl, rfl, by decide +kernel, rfl, by decide +kernel, by decide +kernel⟩
abbrev s_law_refused : Stmt := top 54
abbrev N_law_refused : List Str := ["work", "e", "some"]
theorem sc_law_refused : FnScope N_law_refused ["work"] (defScope s_law_refused) := ⟨rfl, rfl, rfl, by decide +kernel, rfl, by decide +kernel, by decide +kernel⟩
abbrev s_law_words : Stmt := top 55
abbrev N_law_words : List Str := ["letters", "length", "found", "turn", "longer", "word", "letter"]
theorem sc_law_words : FnScope N_law_words ["letters", "length"] (defScope s_law_words) := ⟨rfl, rfl, rfl, by decide +kernel, rfl, by decide +kernel, by decide +kernel⟩
abbrev s_law : Stmt := top 56
abbrev N_law : List Str := ["script", "row", "machine", "letters", "due", "value", "turn", "way", "word", "some", "fine", "told", "right", "bad", "comes", "at", "state", "one"]
theorem sc_law : FnScope N_law ["script"] (defScope s_law) := ⟨rfl, rfl, rfl, by decide +kernel, rfl, by decide +kernel, by decide +kernel⟩
structure Txt (K : PySem.W.Frag) (mg : Str → Option Value) : Prop where
  b_all : mg "all" = none
  b_bool : mg "bool" = none
  b_enumerate : mg "enumerate" = none
  b_int : mg "int" = none
  b_isinstance : mg "isinstance" = none
  b_len : mg "len" = none
  b_list : mg "list" = none
  b_max : mg "max" = none
  b_min : mg "min" = none
  b_range : mg "range" = none
  b_reversed : mg "reversed" = none
  b_set : mg "set" = none
  b_sorted : mg "sorted" = none
  b_str : mg "str" = none
  b_tuple : mg "tuple" = none
  e_BadLetters : ∃ C, ErrC K mg "BadLetters" C
  e_Forgets : ∃ C, ErrC K mg "Forgets" C
  e_Remembers : ∃ C, ErrC K mg "Remembers" C
  c_MOST_STATES : ∃ t, mg "MOST_STATES" = some (.int 6 t)
  c_MOST_LETTERS : ∃ t, mg "MOST_LETTERS" = some (.int 3 t)
  c_MOST_ANSWER : ∃ t, mg "MOST_ANSWER" = some (.int 9 t)
  c_LONGEST_WORD : ∃ t, mg "LONGEST_WORD" = some (.int 4000 t)
theorem bt_all : bootBuiltins "all" = some (.builtin "all") := by decide +kernel
theorem bt_bool : bootBuiltins "bool" = some (.type "bool") := by decide +kernel
theorem bt_enumerate : bootBuiltins "enumerate" = some (.type "enumerate") := by decide +kernel
theorem bt_int : bootBuiltins "int" = some (.type "int") := by decide +kernel
theorem bt_isinstance : bootBuiltins "isinstance" = some (.builtin "isinstance") := by decide +kernel
theorem bt_len : bootBuiltins "len" = some (.builtin "len") := by decide +kernel
theorem bt_list : bootBuiltins "list" = some (.type "list") := by decide +kernel
theorem bt_max : bootBuiltins "max" = some (.builtin "max") := by decide +kernel
theorem bt_min : bootBuiltins "min" = some (.builtin "min") := by decide +kernel
theorem bt_range : bootBuiltins "range" = some (.type "range") := by decide +kernel
theorem bt_reversed : bootBuiltins "reversed" = some (.type "reversed") := by decide +kernel
theorem bt_set : bootBuiltins "set" = some (.type "set") := by decide +kernel
theorem bt_sorted : bootBuiltins "sorted" = some (.builtin "sorted") := by decide +kernel
theorem bt_str : bootBuiltins "str" = some (.type "str") := by decide +kernel
theorem bt_tuple : bootBuiltins "tuple" = some (.type "tuple") := by decide +kernel
open Evl
section
variable {P : Program} {w : World} {K : PySem.W.Frag} {mg : Str → Option Value} {base : Heap}
/-! ### the promises of the checks -/
def sp_is_integer : Sp := fun vs H Q _ => ∃ v lo hi : Int, vs = [.int v, .int lo, .int hi] ∧ ∀ H2, Ex H H2 → Q (.bl (decide (lo ≤ v) && decide (v ≤ hi))) H2
def sp_is_tuple (K : PySem.W.Frag) : Sp := fun vs H Q _ => ∃ (a : Addr) (xs : List V) (lo hi : Int), vs = [.ref a, .int lo, .int hi] ∧ SqT K H a xs ∧ lo ≤ xs.length ∧ xs.length ≤ hi ∧ ∀ H2, Ex H H2 → Q (.bl true) H2
def sp_is_row (K : PySem.W.Frag) : Sp := fun vs H Q _ => ∃ (a : Addr) (r : List Nat) (g : Int), vs = [.ref a, .int g] ∧ SqT K H a (rowV r) ∧ r.length ≤ 40000 ∧ (∀ x ∈ r, (x : Int) ≤ g) ∧ ∀ H2, Ex H H2 → Q (.bl true) H2
def sp_is_table (K : PySem.W.Frag) : Sp := fun vs H Q _ => ∃ (v : V) (t : List (List Nat)) (hg wd : Nat) (g : Int), vs = [v, .int hg, .int wd, .int g] ∧ TabAt K H v t ∧ t.length = hg ∧ hg ≤ 1000 ∧ wd ≤ 1000 ∧ (∀ r ∈ t, r.length = wd ∧ ∀ x ∈ r, (x : Int) ≤ g) ∧ ∀ H2, Ex H H2 → Q (.bl true) H2
def sp_is_steps (K : PySem.W.Frag) : Sp := fun vs H Q _ => ∃ (v : V) (M : M1.Mach), vs = [v] ∧ TabAt K H v M.st ∧ M.Ok ∧ ∀ H2, Ex H H2 → Q (.bl true) H2
def sp_check_machine (K : PySem.W.Frag) : Sp := fun vs H Q _ => ∃ (v : V) (M : M1.Mach), vs = [v] ∧ MacAt K H v M.st M.an ∧ M.Ok ∧ ∀ H2, Ex H H2 → Q .non H2
def sp_is_state (K : PySem.W.Frag) : Sp := fun vs H Q _ => ∃ (v : V) (M : M1.Mach) (i : Nat), vs = [v, .int i] ∧ MacAt K H v M.st M.an ∧ i < M.st.length ∧ ∀ H2, Ex H H2 → Q (.bl true) H2
def sp_check_state (K : PySem.W.Frag) : Sp := fun vs H Q _ => ∃ (v : V) (M : M1.Mach) (i : Nat), vs = [v, .int i] ∧ MacAt K H v M.st M.an ∧ i < M.st.length ∧ ∀ H2, Ex H H2 → Q .non H2
def sp_is_word (K : PySem.W.Frag) : Sp := fun vs H Q _ => ∃ (v : V) (M : M1.Mach) (a : Addr) (r : List Nat), vs = [v, .ref a] ∧ MacAt K H v M.st M.an ∧ M.Ok ∧ SqT K H a (rowV r) ∧ r.length ≤ 4000 ∧ (∀ x ∈ r, x < M.k) ∧ ∀ H2, Ex H H2 → Q (.bl true) H2
def sp_check_word (K : PySem.W.Frag) : Sp := fun vs H Q _ => ∃ (v : V) (M : M1.Mach) (a : Addr) (r : List Nat), vs = [v, .ref a] ∧ MacAt K H v M.st M.an ∧ M.Ok ∧ SqT K H a (rowV r) ∧ r.length ≤ 4000 ∧ (∀ x ∈ r, x < M.k) ∧ ∀ H2, Ex H H2 → Q .non H2

theorem has_is_integer (T : Txt K mg) {f : Addr} {fd : FuncData} (F : Fun K "is_integer" "is_integer" s_is_integer f fd) (g : mg "is_integer" = some (.ref f)) (B : Binds K fd ["value", "low", "high"] []) : Has P w K mg base "is_integer" 1 ["value", "low", "high"] sp_is_integer := by
  refine Has.mk' g F.kp B (F.ok sc_is_integer (fun vs H Q E h => ?_) (fun cdv A outer s H vs Q E hr h => ?_))
  · obtain ⟨v, lo, hi, rfl, _⟩ := h
    rfl
  · obtain ⟨v, lo, hi, rfl, k⟩ := h
    refine ⟨_, (pss_one (ps_ret (pe_and (pe_callB (call_isi1 (K := K) rfl) (by rfl) T.b_isinstance bt_isinstance (pa_cons (pv 0) (pa_cons (pe_bltn (v := .ty "int") (by rfl) T.b_int bt_int rfl) pa_nil))) (pe_and (pe_not (pe_callB (call_isi1 (K := K) rfl) (by rfl) T.b_isinstance bt_isinstance (pa_cons (pv 0) (pa_cons (pe_bltn (v := .ty "bool") (by rfl) T.b_bool bt_bool rfl) pa_nil)))) (pe_one (pe_chain op_le op_le (pv 1) (pv 0) (pv 2))))))), ?_⟩
    refine s_ret (ev_andV (a := true) (ev_isi (T := "int") (ev_var rfl) (fun _ _ => .base (.int _)) (by decide +kernel)) fun _ => ev_andV (a := true) (ev_notV (a := false) (ev_isi (T := "int") (ev_var rfl) (fun _ _ => .base (.int _)) (by decide +kernel))) fun _ =>
      ev_chainLe (ev_var rfl) (ev_var rfl) (ev_var rfl)) fun H1 e => ?_
    rw [Bool.true_and, Bool.true_and]
    exact k H1 e
theorem has_is_tuple (T : Txt K mg) {f : Addr} {fd : FuncData} (F : Fun K "is_tuple" "is_tuple" s_is_tuple f fd) (g : mg "is_tuple" = some (.ref f)) (B : Binds K fd ["value", "low", "high"] []) : Has P w K mg base "is_tuple" 1 ["value", "low", "high"] (sp_is_tuple K) := by
  refine Has.mk' g F.kp B (F.ok sc_is_tuple (fun vs H Q E h => ?_) (fun cdv A outer s H vs Q E hr h => ?_))
  · obtain ⟨a, xs, lo, hi, rfl, _⟩ := h
    rfl
  · obtain ⟨a, xs, lo, hi, rfl, hS, h1, h2, k⟩ := h
    refine ⟨_, (pss_one (ps_ret (pe_and (pe_callB (call_isi1 (K := K) rfl) (by rfl) T.b_isinstance bt_isinstance (pa_cons (pv 0) (pa_cons (pe_bltn (v := .ty "tuple") (by rfl) T.b_tuple bt_tuple rfl) pa_nil))) (pe_one (pe_chain op_le op_le (pv 1) (pe_callB (call_lenK (K := K) rfl) (by rfl) T.b_len bt_len (pa_cons (pv 0) pa_nil)) (pv 2)))))), ?_⟩
    refine s_ret (ev_andV (a := true) (ev_isi (T := "tuple") (ev_var rfl) (fun _ e => sqT_ty (ex_t e hS)) (by decide +kernel)) fun _ => ev_chainLe (ev_var rfl) (ev_lenT (ev_var rfl) hS) (ev_var rfl)) fun H1 e => ?_
    rw [decide_eq_true h1, decide_eq_true h2]
    exact k H1 e
theorem has_is_row (T : Txt K mg) (h_is_integer : Has P w K mg base "is_integer" 1 ["value", "low", "high"] sp_is_integer) {f : Addr} {fd : FuncData} (F : Fun K "is_row" "is_row" s_is_row f fd) (g : mg "is_row" = some (.ref f)) (B : Binds K fd ["value", "greatest"] []) : Has P w K mg base "is_row" 2 ["value", "greatest"] (sp_is_row K) := by
  refine Has.mk' g F.kp B (F.ok sc_is_row (fun vs H Q E h => ?_) (fun cdv A outer s H vs Q E hr h => ?_))
  · obtain ⟨a, r, g, rfl, _⟩ := h
    rfl
  · obtain ⟨a, r, g, rfl, hS, hl, hg, k⟩ := h
    refine ⟨_, (pss_one (ps_ret (pe_and (pe_callB (call_isi1 (K := K) rfl) (by rfl) T.b_isinstance bt_isinstance (pa_cons (pv 0) (pa_cons (pe_bltn (v := .ty "tuple") (by rfl) T.b_tuple bt_tuple rfl) pa_nil))) (pe_one (pe_callB (cr_all rfl) (by rfl) T.b_all bt_all (pa_cons (pe_lc (own := [("item", 2)]) (g := gName 2) (tt := tYes) (by rfl) sc_is_row.nd (pi_tupK (K := K) rfl (pv 0)) (blkOk_by (N := N_is_row) (sc := defScope s_is_row) (by decide +kernel)) (fun _ _ _ _ _ => pg_name (i := 2) sc_is_row.nd rfl (Or.inl rfl)) (fun _ _ _ _ _ => pts_nil) (fun _ _ _ _ _ => (pe_has h_is_integer (hr.mono (by first | decide | exact Nat.le_refl _)) (by rfl) (pa_cons (pv 2) (pa_cons pe_int (pa_cons (pv 1) pa_nil)))))) pa_nil)))))), ?_⟩
    refine s_ret (ev_andV (a := true) (b := true) (ev_isi (T := "tuple") (ev_var rfl) (fun _ e => sqT_ty (ex_t e hS)) (by decide +kernel)) fun _ =>
      ev_allN (n := (rowV r).length) (el_lcT (fun _ => .bl true) (ev_var rfl) hS (by rw [rowV_len]; exact hl) (fun _ => rfl) fun i x H1 e1 hx => ev_callV (ea_cons (ev_var rfl) (ea_cons ev_c (ea_cons (ev_var rfl) ea_nil))) fun H2 e2 Q q => ?_)) fun H1 e => k H1 e
    obtain ⟨n, hn, rfl⟩ : ∃ n, r[i]? = some n ∧ x = nV n := by
      unfold rowV at hx
      rw [List.getElem?_map] at hx
      cases e : r[i]? with
      | none => rw [e] at hx; cases hx
      | some n => rw [e] at hx; exact ⟨n, rfl, (Option.some.inj hx).symm⟩
    refine ⟨n, 0, g, rfl, fun H3 e3 => ?_⟩
    have h1 : (0 : Int) ≤ n := Int.natCast_nonneg n
    have h2 := hg n (List.mem_of_getElem? hn)
    rw [decide_eq_true h1, decide_eq_true h2]
    exact q H3 e3
theorem row0 {M : M1.Mach} (ok : M.Ok) : M.st[0]? = some (M.row 0) ∧ (M.row 0).length = M.k := ⟨M.row_at ok.n1, M.row_len ok ok.n1⟩
theorem has_is_table (T : Txt K mg) (h_is_tuple : Has P w K mg base "is_tuple" 1 ["value", "low", "high"] (sp_is_tuple K)) (h_is_row : Has P w K mg base "is_row" 2 ["value", "greatest"] (sp_is_row K)) {f : Addr} {fd : FuncData} (F : Fun K "is_table" "is_table" s_is_table f fd) (g : mg "is_table" = some (.ref f)) (B : Binds K fd ["value", "height", "width", "greatest"] []) :
    Has P w K mg base "is_table" 3 ["value", "height", "width", "greatest"] (sp_is_table K) := by
  refine Has.mk' g F.kp B (F.ok sc_is_table (fun vs H Q E h => ?_) (fun cdv A outer s H vs Q E hr h => ?_))
  · obtain ⟨v, t, hg, wd, g, rfl, _⟩ := h
    rfl
  · obtain ⟨v, t, hg, wd, g, rfl, ⟨a, vs, rfl, hS, hP⟩, hl, h1, h2, hx, k⟩ := h
    have hvl : vs.length = t.length := Paired.length hP
    refine ⟨_, (pss_cons (ps_if (pt_not (pt_val (pe_has h_is_tuple (hr.mono (by first | decide | exact Nat.le_refl _)) (by rfl) (pa_cons (pv 0) (pa_cons (pv 1) (pa_cons (pv 1) pa_nil))))))
      (pss_one (ps_ret pe_bl))
      pss_nil)
      (pss_one (ps_ret (pe_callB (cr_all rfl) (by rfl) T.b_all bt_all (pa_cons (pe_lc (own := [("row", 4)]) (g := gName 4) (tt := tYes) (by rfl) sc_is_table.nd (pi_tupK (K := K) rfl (pv 0)) (blkOk_by (N := N_is_table) (sc := defScope s_is_table) (by decide +kernel)) (fun _ _ _ _ _ => pg_name (i := 4) sc_is_table.nd rfl (Or.inl rfl)) (fun _ _ _ _ _ => pts_nil) (fun _ _ _ _ _ => (pe_and (pe_has h_is_row (hr.mono (by first | decide | exact Nat.le_refl _)) (by rfl) (pa_cons (pv 4) (pa_cons (pv 3) pa_nil))) (pe_one (pe_cmpR op_eq (pe_callB (call_lenK (K := K) rfl) (by rfl) T.b_len bt_len (pa_cons (pv 4) pa_nil)) (pv 2) (nomark _)))))) pa_nil))))), ?_⟩
    refine q_when (b := false) (et_not (a := true) (et_B (ev_callV (ea_cons (ev_var rfl) (ea_cons (ev_var rfl) (ea_cons (ev_var rfl) ea_nil))) fun H1 e1 Q q => ⟨a, vs, _, _, rfl, ex_t e1 hS, by omega, by omega, q⟩))) (fun z => by cases z) fun _ H1 e1 => ?_
    refine s_ret (ev_allN (n := vs.length) (el_lcT (fun _ => .bl true) (ev_var rfl) (ex_t e1 hS) (by omega) (fun _ => rfl) fun i x H2 e2 hx' => ?_)) fun H2 e2 => k H2 (e1.trans e2)
    obtain ⟨r, hr', b, rfl, hb⟩ := Paired.get' hP hx'
    have hm := hx r (List.mem_of_getElem? hr')
    have hb2 := ex_t (e1.trans e2) hb
    refine ev_is (ev_andV (a := true) (ev_callV (ea_cons (ev_var rfl) (ea_cons (ev_var rfl) ea_nil)) fun H3 e3 Q q => ⟨b, r, g, rfl, ex_t e3 hb2, by omega, hm.2, q⟩) fun _ => ev_op (ev_lenT (ev_var rfl) hb2) (ev_var rfl) (rv_eq rfl)) ?_
    rw [rowV_len, hm.1, decide_eq_true rfl]
    rfl
theorem has_is_steps (T : Txt K mg) (h_is_tuple : Has P w K mg base "is_tuple" 1 ["value", "low", "high"] (sp_is_tuple K)) (h_is_table : Has P w K mg base "is_table" 3 ["value", "height", "width", "greatest"] (sp_is_table K)) {f : Addr} {fd : FuncData} (F : Fun K "is_steps" "is_steps" s_is_steps f fd) (g : mg "is_steps" = some (.ref f)) (B : Binds K fd ["value"] []) :
    Has P w K mg base "is_steps" 4 ["value"] (sp_is_steps K) := by
  refine Has.mk' g F.kp B (F.ok sc_is_steps (fun vs H Q E h => ?_) (fun cdv A outer s H vs Q E hr h => ?_))
  · obtain ⟨v, M, rfl, _⟩ := h
    rfl
  · obtain ⟨v, M, rfl, ⟨a, vs, rfl, hS, hP⟩, ok, k⟩ := h
    have hvl : vs.length = M.st.length := Paired.length hP
    have n1 := ok.n1
    have n6 := ok.n6
    have k1 := ok.k1
    have k3 := ok.k3
    obtain ⟨r0, hr0⟩ := row0 ok
    obtain ⟨x0, g0, a0, rfl, hS0⟩ := Paired.get hP r0
    refine ⟨_, (pss_cons (ps_if (PW.pt (pw_or (pt_not (pt_val (pe_has h_is_tuple (hr.mono (by first | decide | exact Nat.le_refl _)) (by rfl) (pa_cons (pv 0) (pa_cons pe_int (pa_cons (pe_globI (by rfl) T.c_MOST_STATES) pa_nil)))))) (pw_or1 (pt_not (pt_val (pe_has h_is_tuple (hr.mono (by first | decide | exact Nat.le_refl _)) (by rfl) (pa_cons (pe_ix (ix_tupK (K := K) rfl) (pv 0) pe_int (fun _ _ => rfl)) (pa_cons pe_int (pa_cons (pe_globI (by rfl) T.c_MOST_LETTERS) pa_nil)))))))))
      (pss_one (ps_ret pe_bl))
      pss_nil)
      (pss_one (ps_ret (pe_has h_is_table (hr.mono (by first | decide | exact Nat.le_refl _)) (by rfl) (pa_cons (pv 0) (pa_cons (pe_callB (call_lenK (K := K) rfl) (by rfl) T.b_len bt_len (pa_cons (pv 0) pa_nil)) (pa_cons (pe_callB (call_lenK (K := K) rfl) (by rfl) T.b_len bt_len (pa_cons (pe_ix (ix_tupK (K := K) rfl) (pv 0) pe_int (fun _ _ => rfl)) pa_nil)) (pa_cons (pe_op op_sub (pe_callB (call_lenK (K := K) rfl) (by rfl) T.b_len bt_len (pa_cons (pv 0) pa_nil)) pe_int) pa_nil)))))))), ?_⟩
    have v0 : ∀ H1, Ex H H1 → Ev (tOp (rIxT K) (tVar 0) (tC (.int 0))) (start N_is_steps [V.ref a]) H1 (.ref a0) := fun H1 e1 => ev_op (ev_var rfl) ev_c (rv_ixT (ex_t e1 hS) (atI_nat (j := 0) g0))
    refine q_when (b := false) (et_or (a := false) (et_not (a := true) (et_B (ev_callV (ea_cons (ev_var rfl) (ea_cons ev_c (ea_cons ev_c ea_nil))) fun H1 e1 Q q => ⟨a, vs, _, _, rfl, ex_t e1 hS, by omega, by omega, q⟩))) fun _ =>
      et_not (a := true) (et_B (ev_callV (ea_cons (v0 H (Ex.refl H)) (ea_cons ev_c (ea_cons ev_c ea_nil))) fun H1 e1 Q q => ⟨a0, rowV (M.row 0), _, _, rfl, ex_t e1 hS0, by rw [rowV_len]; omega, by rw [rowV_len]; omega, q⟩))) (fun z => by cases z) fun _ H1 e1 => ?_
    refine s_ret (ev_callV (ea_cons (ev_var rfl) (ea_cons (ev_lenT (ev_var rfl) (ex_t e1 hS)) (ea_cons (ev_lenT (v0 H1 e1) (ex_t e1 hS0)) (ea_cons (ev_op (ev_lenT (ev_var rfl) (ex_t e1 hS)) ev_c rv_I0) ea_nil)))) fun H2 e2 Q q => ?_) fun H2 e2 => k H2 (e1.trans e2)
    rw [rowV_len, hr0, hvl]
    refine ⟨.ref a, M.st, M.st.length, M.k, _, rfl, ⟨a, vs, rfl, ex_t (e1.trans e2) hS, Paired.mapP hP fun _ _ z => z.keep (TK.ex (e1.trans e2))⟩, rfl, by omega, by omega, fun r hr => ⟨(ok.rs r hr).1, fun x hx => ?_⟩, q⟩
    have := (ok.rs r hr).2 x hx
    omega
theorem has_check_machine (T : Txt K mg) (h_is_tuple : Has P w K mg base "is_tuple" 1 ["value", "low", "high"] (sp_is_tuple K)) (h_is_table : Has P w K mg base "is_table" 3 ["value", "height", "width", "greatest"] (sp_is_table K)) (h_is_steps : Has P w K mg base "is_steps" 4 ["value"] (sp_is_steps K))
    {f : Addr} {fd : FuncData} (F : Fun K "check_machine" "check_machine" s_check_machine f fd) (g : mg "check_machine" = some (.ref f)) (B : Binds K fd ["machine"] []) : Has P w K mg base "check_machine" 5 ["machine"] (sp_check_machine K) := by
  refine Has.mk' g F.kp B (F.ok sc_check_machine (fun vs H Q E h => ?_) (fun cdv A outer s H vs Q E hr h => ?_))
  · obtain ⟨v, M, rfl, _⟩ := h
    rfl
  · obtain ⟨v, M, rfl, ⟨a, x, y, rfl, hS, hx, hy⟩, ok, k⟩ := h
    have k3 := ok.k3
    have n6 := ok.n6
    obtain ⟨ax, vx, rfl, hSx, hPx⟩ := hx
    have hvl : vx.length = M.st.length := Paired.length hPx
    obtain ⟨r0, hr0⟩ := row0 ok
    obtain ⟨x0, g0, a0, rfl, hS0⟩ := Paired.get hPx r0
    refine ⟨_, (pss_cons (ps_if (pt_not (pt_val (pe_has h_is_tuple (hr.mono (by first | decide | exact Nat.le_refl _)) (by rfl) (pa_cons (pv 0) (pa_cons pe_int (pa_cons pe_int pa_nil))))))
      (pss_one (ps_never))
      pss_nil)
      (pss_cons (ps_asg (pv 0) (pg_tupK (K := K) (n := 2) rfl (by rfl) (pgs_cons (pg_name (i := 1) sc_check_machine.nd rfl (.inl rfl)) (pgs_cons (pg_name (i := 2) sc_check_machine.nd rfl (.inl rfl)) pgs_nil))))
      (pss_cons (ps_if (pt_not (pt_val (pe_has h_is_steps (hr.mono (by first | decide | exact Nat.le_refl _)) (by rfl) (pa_cons (pv 1) pa_nil))))
      (pss_one (ps_never))
      pss_nil)
      (pss_one (ps_if (pt_not (pt_val (pe_has h_is_table (hr.mono (by first | decide | exact Nat.le_refl _)) (by rfl) (pa_cons (pv 2) (pa_cons (pe_callB (call_lenK (K := K) rfl) (by rfl) T.b_len bt_len (pa_cons (pv 1) pa_nil)) (pa_cons (pe_callB (call_lenK (K := K) rfl) (by rfl) T.b_len bt_len (pa_cons (pe_ix (ix_tupK (K := K) rfl) (pv 1) pe_int (fun _ _ => rfl)) pa_nil)) (pa_cons (pe_globI (by rfl) T.c_MOST_ANSWER) pa_nil)))))))
      (pss_one (ps_never))
      pss_nil))))), ?_⟩
    refine q_when (b := false) (et_not (a := true) (et_B (ev_callV (ea_cons (ev_var rfl) (ea_cons ev_c (ea_cons ev_c ea_nil))) fun H1 e1 Q q => ⟨a, _, _, _, rfl, ex_t e1 hS, by show (2 : Int) ≤ 2; decide, by show (2 : Int) ≤ 2; decide, q⟩))) (fun z => by cases z) fun _ H1 e1 => ?_
    refine ⟨.ref a, rfl, a, _, rfl, ex_t e1 hS, rfl, _, _, rfl, _, _, rfl, rfl, ?_⟩
    refine q_when (b := false) (et_not (a := true) (et_B (ev_callV (ea_cons (ev_var rfl) ea_nil) fun H2 e2 Q q => ⟨.ref ax, M, rfl, ⟨ax, vx, rfl, ex_t (e1.trans e2) hSx, Paired.mapP hPx fun _ _ z => z.keep (TK.ex (e1.trans e2))⟩, ok, q⟩))) (fun z => by cases z) fun _ H2 e2 => ?_
    have e3 := e1.trans e2
    refine s_when (b := false) (et_not (a := true) (et_B (ev_callV (ea_cons (ev_var rfl) (ea_cons (ev_lenT (ev_var rfl) (ex_t e3 hSx)) (ea_cons (ev_lenT (ev_op (ev_var rfl) ev_c (rv_ixT (ex_t e3 hSx) (atI_nat (j := 0) g0))) (ex_t e3 hS0)) (ea_cons ev_c ea_nil)))) fun H4 e4 Q q => ?_))) (fun z => by cases z) fun _ H4 e4 => k H4 (e3.trans e4)
    rw [rowV_len, hr0, hvl]
    exact ⟨y, M.an, M.st.length, M.k, _, rfl, hy.keep (TK.ex (e3.trans e4)), ok.la, by omega, by omega, fun r hr => ⟨(ok.ra r hr).1, fun x hx => by have := (ok.ra r hr).2 x hx; omega⟩, q⟩
theorem has_is_state (T : Txt K mg) (h_is_integer : Has P w K mg base "is_integer" 1 ["value", "low", "high"] sp_is_integer) {f : Addr} {fd : FuncData} (F : Fun K "is_state" "is_state" s_is_state f fd) (g : mg "is_state" = some (.ref f)) (B : Binds K fd ["machine", "value"] []) :
    Has P w K mg base "is_state" 2 ["machine", "value"] (sp_is_state K) := by
  refine Has.mk' g F.kp B (F.ok sc_is_state (fun vs H Q E h => ?_) (fun cdv A outer s H vs Q E hr h => ?_))
  · obtain ⟨v, M, i, rfl, _⟩ := h
    rfl
  · obtain ⟨v, M, i, rfl, ⟨a, x, y, rfl, hS, ⟨ax, vx, rfl, hSx, hPx⟩, hy⟩, hi, k⟩ := h
    have hvl : vx.length = M.st.length := Paired.length hPx
    refine ⟨_, (pss_one (ps_ret (pe_has h_is_integer (hr.mono (by first | decide | exact Nat.le_refl _)) (by rfl) (pa_cons (pv 1) (pa_cons pe_int (pa_cons (pe_op op_sub (pe_callB (call_lenK (K := K) rfl) (by rfl) T.b_len bt_len (pa_cons (pe_ix (ix_tupK (K := K) rfl) (pv 0) pe_int (fun _ _ => rfl)) pa_nil)) pe_int) pa_nil)))))), ?_⟩
    refine s_ret (ev_callV (z := .bl true) (ea_cons (ev_var rfl) (ea_cons ev_c (ea_cons (ev_op (ev_lenT (ev_op (ev_var rfl) ev_c (rv_ixT hS (atI_nat (j := 0) rfl))) hSx) ev_c rv_I0) ea_nil))) fun H1 e1 Q q => ⟨_, _, _, rfl, fun H2 e2 => ?_⟩) fun H1 e1 => k H1 e1
    rw [decide_eq_true (by omega), decide_eq_true (by omega)]
    exact q H2 e2
theorem has_is_word (T : Txt K mg) (h_is_row : Has P w K mg base "is_row" 2 ["value", "greatest"] (sp_is_row K)) {f : Addr} {fd : FuncData} (F : Fun K "is_word" "is_word" s_is_word f fd) (g : mg "is_word" = some (.ref f)) (B : Binds K fd ["machine", "value"] []) :
    Has P w K mg base "is_word" 3 ["machine", "value"] (sp_is_word K) := by
  refine Has.mk' g F.kp B (F.ok sc_is_word (fun vs H Q E h => ?_) (fun cdv A outer s H vs Q E hr h => ?_))
  · obtain ⟨v, M, b, r, rfl, _⟩ := h
    rfl
  · obtain ⟨v, M, b, r, rfl, ⟨a, x, y, rfl, hS, ⟨ax, vx, rfl, hSx, hPx⟩, hy⟩, ok, hb, hl, hk, k⟩ := h
    obtain ⟨r0, hr0⟩ := row0 ok
    obtain ⟨x0, g0, a0, rfl, hS0⟩ := Paired.get hPx r0
    refine ⟨_, (pss_one (ps_ret (pe_has h_is_row (hr.mono (by first | decide | exact Nat.le_refl _)) (by rfl) (pa_cons (pv 1) (pa_cons (pe_op op_sub (pe_callB (call_lenK (K := K) rfl) (by rfl) T.b_len bt_len (pa_cons (pe_ix (ix_tupK (K := K) rfl) (pe_ix (ix_tupK (K := K) rfl) (pv 0) pe_int (fun _ _ => rfl)) pe_int (fun _ _ => rfl)) pa_nil)) pe_int) pa_nil))))), ?_⟩
    refine s_ret (ev_callV (ea_cons (ev_var rfl) (ea_cons (ev_op (ev_lenT (ev_op (ev_op (ev_var rfl) ev_c (rv_ixT hS (atI_nat (j := 0) rfl))) ev_c (rv_ixT hSx (atI_nat (j := 0) g0))) hS0) ev_c rv_I0) ea_nil)) fun H1 e1 Q q => ⟨b, r, _, rfl, ex_t e1 hb, by omega, fun x hx => ?_, q⟩) fun H1 e1 => k H1 e1
    have := hk x hx
    rw [rowV_len, hr0]
    omega
theorem has_is_short_word (T : Txt K mg) (h_is_tuple : Has P w K mg base "is_tuple" 1 ["value", "low", "high"] (sp_is_tuple K)) (h_is_word : Has P w K mg base "is_word" 3 ["machine", "value"] (sp_is_word K)) {f : Addr} {fd : FuncData} (F : Fun K "is_short_word" "is_short_word" s_is_short_word f fd) (g : mg "is_short_word" = some (.ref f)) (B : Binds K fd ["machine", "value"] []) :
    Has P w K mg base "is_short_word" 4 ["machine", "value"] (sp_is_word K) := by
  refine Has.mk' g F.kp B (F.ok sc_is_short_word (fun vs H Q E h => ?_) (fun cdv A outer s H vs Q E hr h => ?_))
  · obtain ⟨v, M, b, r, rfl, _⟩ := h
    rfl
  · obtain ⟨v, M, b, r, rfl, hM, ok, hb, hl, hk, k⟩ := h
    refine ⟨_, (pss_one (ps_ret (pe_and (pe_has h_is_tuple (hr.mono (by first | decide | exact Nat.le_refl _)) (by rfl) (pa_cons (pv 1) (pa_cons pe_int (pa_cons (pe_globI (by rfl) T.c_LONGEST_WORD) pa_nil)))) (pe_one (pe_has h_is_word (hr.mono (by first | decide | exact Nat.le_refl _)) (by rfl) (pa_cons (pv 0) (pa_cons (pv 1) pa_nil))))))), ?_⟩
    exact s_ret (ev_andV (a := true) (b := true) (ev_callV (ea_cons (ev_var rfl) (ea_cons ev_c (ea_cons ev_c ea_nil))) fun H1 e1 Q q => ⟨b, _, _, _, rfl, ex_t e1 hb, by omega, by rw [rowV_len]; omega, q⟩) fun _ =>
      ev_callV (ea_cons (ev_var rfl) (ea_cons (ev_var rfl) ea_nil)) fun H1 e1 Q q => ⟨v, M, b, r, rfl, hM.keep (TK.ex e1), ok, ex_t e1 hb, hl, hk, q⟩) fun H1 e1 => k H1 e1
theorem has_check_word (T : Txt K mg) (h_is_short_word : Has P w K mg base "is_short_word" 4 ["machine", "value"] (sp_is_word K)) {f : Addr} {fd : FuncData} (F : Fun K "check_word" "check_word" s_check_word f fd) (g : mg "check_word" = some (.ref f)) (B : Binds K fd ["machine", "word"] []) :
    Has P w K mg base "check_word" 5 ["machine", "word"] (sp_check_word K) := by
  refine Has.mk' g F.kp B (F.ok sc_check_word (fun vs H Q E h => ?_) (fun cdv A outer s H vs Q E hr h => ?_))
  · obtain ⟨v, M, b, r, rfl, _⟩ := h
    rfl
  · obtain ⟨v, M, b, r, rfl, hM, ok, hb, hl, hk, k⟩ := h
    refine ⟨_, (pss_one (ps_if (pt_not (pt_val (pe_has h_is_short_word (hr.mono (by first | decide | exact Nat.le_refl _)) (by rfl) (pa_cons (pv 0) (pa_cons (pv 1) pa_nil)))))
      (pss_one (ps_never))
      pss_nil)), ?_⟩
    exact s_when (b := false) (et_not (a := true) (et_B (ev_callV (ea_cons (ev_var rfl) (ea_cons (ev_var rfl) ea_nil)) fun H1 e1 Q q => ⟨v, M, b, r, rfl, hM.keep (TK.ex e1), ok, ex_t e1 hb, hl, hk, q⟩))) (fun z => by cases z) fun _ H1 e1 => k H1 e1
end

end Kx
namespace Kx
open PySem PySem.Spec PyProof.Rows L2

open Evl
/-! ### values of any kind -/
inductive Jv where
  | num (i : Int)
  | non
  | oth
  | tup (xs : List Jv)
mutual
inductive JvAt (K : PySem.W.Frag) (H : Hp) : V → Jv → Prop
  | num (i : Int) : JvAt K H (.int i) (.num i)
  | non : JvAt K H .non .non
  | oth {v : V} {T : String} : (∀ H', Ex H H' → TyX K H' v (.type T)) → T ∈ ["bool", "str", "list", "dict"] → v ≠ .non → JvAt K H v .oth
  | tup {a : Addr} {vs : List V} {xs : List Jv} : SqT K H a vs → JvsAt K H vs xs → JvAt K H (.ref a) (.tup xs)
inductive JvsAt (K : PySem.W.Frag) (H : Hp) : List V → List Jv → Prop
  | nil : JvsAt K H [] []
  | cons {v : V} {x : Jv} {vs : List V} {xs : List Jv} : JvAt K H v x → JvsAt K H vs xs → JvsAt K H (v :: vs) (x :: xs)
end
mutual
theorem JvAt.ex {K : PySem.W.Frag} {H H' : Hp} (e : Ex H H') {v : V} : ∀ {x : Jv}, JvAt K H v x → JvAt K H' v x
  | .num _, h => by cases h; exact .num _
  | .non, h => by cases h; exact .non
  | .oth, h => by
    cases h with
    | oth h1 h2 h3 => exact .oth (fun H2 e2 => h1 H2 (e.trans e2)) h2 h3
  | .tup xs, h => by
    cases h with
    | tup h1 h2 => exact .tup (ex_t e h1) (JvsAt.ex e h2)
theorem JvsAt.ex {K : PySem.W.Frag} {H H' : Hp} (e : Ex H H') {vs : List V} : ∀ {xs : List Jv}, JvsAt K H vs xs → JvsAt K H' vs xs
  | [], h => by cases h; exact .nil
  | _ :: _, h => by
    cases h with
    | cons h1 h2 => exact .cons (JvAt.ex e h1) (JvsAt.ex e h2)
end
theorem JvsAt.pair {K : PySem.W.Frag} {H : Hp} : ∀ {vs : List V} {xs : List Jv}, JvsAt K H vs xs → Paired (JvAt K H) vs xs
  | _, [], h => by cases h; exact .nil
  | _, _ :: _, h => by
    cases h with
    | cons h1 h2 => exact .cons h1 (JvsAt.pair h2)
theorem JvsAt.of {K : PySem.W.Frag} {H : Hp} {vs : List V} {xs : List Jv} (h : Paired (JvAt K H) vs xs) : JvsAt K H vs xs := by
  induction h with
  | nil => exact .nil
  | cons h _ ih => exact .cons h ih
def Jv.isInt (lo hi : Int) : Jv → Bool
  | .num i => decide (lo ≤ i) && decide (i ≤ hi)
  | _ => false
def Jv.isTup (lo hi : Int) : Jv → Bool
  | .tup xs => decide (lo ≤ (xs.length : Int)) && decide ((xs.length : Int) ≤ hi)
  | _ => false
def Jv.isRow (g : Int) : Jv → Bool
  | .tup xs => xs.all (Jv.isInt 0 g)
  | _ => false
/-- a tuple of so many things that they fit -/
def Jv.fits : Jv → Prop
  | .tup xs => xs.length ≤ 40000
  | _ => True
section
variable {P : Program} {w : World} {K : PySem.W.Frag} {mg : Str → Option Value} {base : Heap}
theorem oth_kit {T : String} (h : T ∈ ["bool", "str", "list", "dict"]) : kitB T "tuple" = some false ∧ (kitB T "int" = some false ∨ kitB T "int" = some true ∧ kitB T "bool" = some true) := by
  have : T = "bool" ∨ T = "str" ∨ T = "list" ∨ T = "dict" := by simpa using h
  rcases this with rfl | rfl | rfl | rfl <;> decide +kernel
def sj_is_integer (K : PySem.W.Frag) : Sp := fun vs H Q _ => ∃ (v : V) (x : Jv) (lo hi : Int), vs = [v, .int lo, .int hi] ∧ JvAt K H v x ∧ ∀ H2, Ex H H2 → Q (.bl (x.isInt lo hi)) H2
theorem hasj_is_integer (T : Txt K mg) {f : Addr} {fd : FuncData} (F : Fun K "is_integer" "is_integer" s_is_integer f fd) (g : mg "is_integer" = some (.ref f)) (B : Binds K fd ["value", "low", "high"] []) : Has P w K mg base "is_integer" 1 ["value", "low", "high"] (sj_is_integer K) := by
  refine Has.mk' g F.kp B (F.ok sc_is_integer (fun vs H Q E h => ?_) (fun cdv A outer s H vs Q E hr h => ?_))
  · obtain ⟨v, x, lo, hi, rfl, _⟩ := h
    rfl
  · obtain ⟨v, x, lo, hi, rfl, hx, k⟩ := h
    refine ⟨_, (pss_one (ps_ret (pe_and (pe_callB (call_isi1 (K := K) rfl) (by rfl) T.b_isinstance bt_isinstance (pa_cons (pv 0) (pa_cons (pe_bltn (v := .ty "int") (by rfl) T.b_int bt_int rfl) pa_nil))) (pe_and (pe_not (pe_callB (call_isi1 (K := K) rfl) (by rfl) T.b_isinstance bt_isinstance (pa_cons (pv 0) (pa_cons (pe_bltn (v := .ty "bool") (by rfl) T.b_bool bt_bool rfl) pa_nil)))) (pe_one (pe_chain op_le op_le (pv 1) (pv 0) (pv 2))))))), ?_⟩
    cases hx with
    | num i =>
      refine s_ret (ev_andV (a := true) (ev_isi (T := "int") (ev_var rfl) (fun _ _ => .base (.int _)) (by decide +kernel)) fun _ => ev_andV (a := true) (ev_notV (a := false) (ev_isi (T := "int") (ev_var rfl) (fun _ _ => .base (.int _)) (by decide +kernel))) fun _ =>
        ev_chainLe (ev_var rfl) (ev_var rfl) (ev_var rfl)) fun H1 e => ?_
      rw [Bool.true_and, Bool.true_and]
      exact k H1 e
    | non => exact s_ret (ev_andV (a := false) (b := true) (ev_isi (T := "NoneType") (ev_var rfl) (fun _ _ => .base .non) (by decide +kernel)) (fun z => by cases z)) fun H1 e => k H1 e
    | oth hT hm hn =>
      rcases (oth_kit hm).2 with h1 | ⟨h1, h2⟩
      · exact s_ret (ev_andV (a := false) (b := true) (ev_isi (ev_var rfl) hT h1) (fun z => by cases z)) fun H1 e => k H1 e
      · exact s_ret (ev_andV (a := true) (b := false) (ev_isi (ev_var rfl) hT h1) fun _ => ev_andV (a := false) (b := true) (ev_notV (a := true) (ev_isi (ev_var rfl) hT h2)) (fun z => by cases z)) fun H1 e => k H1 e
    | tup hS hV => exact s_ret (ev_andV (a := false) (b := true) (ev_isi (T := "tuple") (ev_var rfl) (fun _ e => sqT_ty (ex_t e hS)) (by decide +kernel)) (fun z => by cases z)) fun H1 e => k H1 e
theorem jv_tup {H : Hp} {v : V} {x : Jv} (hx : JvAt K H v x) : (∃ a vs xs, v = .ref a ∧ x = .tup xs ∧ SqT K H a vs ∧ JvsAt K H vs xs) ∨ (∀ {xs}, x ≠ .tup xs) ∧ ∃ T, (∀ H', Ex H H' → TyX K H' v (.type T)) ∧ kitB T "tuple" = some false := by
  cases hx with
  | num i => exact .inr ⟨fun z => (by cases z), "int", fun _ _ => .base (.int _), by decide +kernel⟩
  | non => exact .inr ⟨fun z => (by cases z), "NoneType", fun _ _ => .base .non, by decide +kernel⟩
  | oth hT hm hn => exact .inr ⟨fun z => (by cases z), _, hT, (oth_kit hm).1⟩
  | tup hS hV => exact .inl ⟨_, _, _, rfl, rfl, hS, hV⟩
theorem jvs_len {H : Hp} : ∀ {vs : List V} {xs : List Jv}, JvsAt K H vs xs → vs.length = xs.length := fun h => Paired.length h.pair
def sj_is_tuple (K : PySem.W.Frag) : Sp := fun vs H Q _ => ∃ (v : V) (x : Jv) (lo hi : Int), vs = [v, .int lo, .int hi] ∧ JvAt K H v x ∧ ∀ H2, Ex H H2 → Q (.bl (x.isTup lo hi)) H2
theorem hasj_is_tuple (T : Txt K mg) {f : Addr} {fd : FuncData} (F : Fun K "is_tuple" "is_tuple" s_is_tuple f fd) (g : mg "is_tuple" = some (.ref f)) (B : Binds K fd ["value", "low", "high"] []) : Has P w K mg base "is_tuple" 1 ["value", "low", "high"] (sj_is_tuple K) := by
  refine Has.mk' g F.kp B (F.ok sc_is_tuple (fun vs H Q E h => ?_) (fun cdv A outer s H vs Q E hr h => ?_))
  · obtain ⟨v, x, lo, hi, rfl, _⟩ := h
    rfl
  · obtain ⟨v, x, lo, hi, rfl, hx, k⟩ := h
    refine ⟨_, (pss_one (ps_ret (pe_and (pe_callB (call_isi1 (K := K) rfl) (by rfl) T.b_isinstance bt_isinstance (pa_cons (pv 0) (pa_cons (pe_bltn (v := .ty "tuple") (by rfl) T.b_tuple bt_tuple rfl) pa_nil))) (pe_one (pe_chain op_le op_le (pv 1) (pe_callB (call_lenK (K := K) rfl) (by rfl) T.b_len bt_len (pa_cons (pv 0) pa_nil)) (pv 2)))))), ?_⟩
    rcases jv_tup hx with ⟨a, vs, xs, rfl, rfl, hS, hV⟩ | ⟨hn, T, hT, hk⟩
    · refine s_ret (ev_andV (a := true) (ev_isi (T := "tuple") (ev_var rfl) (fun _ e => sqT_ty (ex_t e hS)) (by decide +kernel)) fun _ => ev_chainLe (ev_var rfl) (ev_lenT (ev_var rfl) hS) (ev_var rfl)) fun H1 e => ?_
      rw [Bool.true_and, jvs_len hV]
      exact k H1 e
    · have e0 : x.isTup lo hi = false := by
        cases x with
        | tup xs => exact absurd rfl hn
        | _ => rfl
      rw [e0] at k
      exact s_ret (ev_andV (a := false) (b := true) (ev_isi (ev_var rfl) hT hk) (fun z => by cases z)) fun H1 e => k H1 e
/-- all([..]) -/
theorem ev_allB {σ : L2.St} {H : Hp} {ta : TE} {bs : List Bool} (ha : EvL ta σ H (bs.map V.bl)) : Ev (tCB (rAll K) (tCons ta tNil)) σ H (.bl (bs.all id)) := fun H1 e Q q =>
  ha H1 e _ fun p H2 _ e2 h2 => ⟨p, bs, rfl, sq_of h2, q H2 e2⟩
def sj_is_row (K : PySem.W.Frag) : Sp := fun vs H Q _ => ∃ (v : V) (x : Jv) (g : Int), vs = [v, .int g] ∧ JvAt K H v x ∧ x.fits ∧ ∀ H2, Ex H H2 → Q (.bl (x.isRow g)) H2
theorem hasj_is_row (T : Txt K mg) (hj_is_integer : Has P w K mg base "is_integer" 1 ["value", "low", "high"] (sj_is_integer K)) {f : Addr} {fd : FuncData} (F : Fun K "is_row" "is_row" s_is_row f fd) (g : mg "is_row" = some (.ref f)) (B : Binds K fd ["value", "greatest"] []) : Has P w K mg base "is_row" 2 ["value", "greatest"] (sj_is_row K) := by
  refine Has.mk' g F.kp B (F.ok sc_is_row (fun vs H Q E h => ?_) (fun cdv A outer s H vs Q E hr h => ?_))
  · obtain ⟨v, x, g, rfl, _⟩ := h
    rfl
  · obtain ⟨v, x, g, rfl, hx, hf, k⟩ := h
    refine ⟨_, (pss_one (ps_ret (pe_and (pe_callB (call_isi1 (K := K) rfl) (by rfl) T.b_isinstance bt_isinstance (pa_cons (pv 0) (pa_cons (pe_bltn (v := .ty "tuple") (by rfl) T.b_tuple bt_tuple rfl) pa_nil))) (pe_one (pe_callB (cr_all rfl) (by rfl) T.b_all bt_all (pa_cons (pe_lc (own := [("item", 2)]) (g := gName 2) (tt := tYes) (by rfl) sc_is_row.nd (pi_tupK (K := K) rfl (pv 0)) (blkOk_by (N := N_is_row) (sc := defScope s_is_row) (by decide +kernel)) (fun _ _ _ _ _ => pg_name (i := 2) sc_is_row.nd rfl (Or.inl rfl)) (fun _ _ _ _ _ => pts_nil) (fun _ _ _ _ _ => (pe_has hj_is_integer (hr.mono (by first | decide | exact Nat.le_refl _)) (by rfl) (pa_cons (pv 2) (pa_cons pe_int (pa_cons (pv 1) pa_nil)))))) pa_nil)))))), ?_⟩
    rcases jv_tup hx with ⟨a, vs, xs, rfl, rfl, hS, hV⟩ | ⟨hn, T, hT, hk⟩
    · have hl := jvs_len hV
      have hl4 : xs.length ≤ 40000 := hf
      have big := el_lcT (σ := start N_is_row [V.ref a, V.int g]) (H := H) (K := K) (a := a) (xs := vs) (j := 2) (vs := [2]) (tl := tVar 0) (te := tCall (sj_is_integer K) [] E0 (tCons (tVar 2) (tCons (tC (.int 0)) (tCons (tVar 1) tNil)))) (fun i => .bl ((xs.getD i .non).isInt 0 g)) (ev_var rfl) hS (by omega) (fun _ => rfl) (fun i v H1 e1 hv => ?_)
      · have hg : gvn vs.length (fun i => .bl ((xs.getD i .non).isInt 0 g)) = ((xs.map (Jv.isInt 0 g)).map V.bl) := by
          unfold gvn
          refine List.ext_getElem? fun i => ?_
          rw [List.getElem?_map, List.getElem?_map, List.getElem?_map]
          by_cases hi : i < vs.length
          · rw [List.getElem?_range hi, List.getElem?_eq_getElem (by omega)]
            show some (V.bl ((xs.getD i .non).isInt 0 g)) = _
            rw [List.getD_eq_getElem?_getD, List.getElem?_eq_getElem (by omega)]
            rfl
          · rw [List.getElem?_eq_none (by rw [List.length_range]; omega), List.getElem?_eq_none (by omega)]
            rfl
        rw [hg] at big
        refine s_ret (ev_andV (a := true) (ev_isi (T := "tuple") (ev_var rfl) (fun _ e => sqT_ty (ex_t e hS)) (by decide +kernel)) fun _ => ev_allB big) fun H1 e => ?_
        rw [Bool.true_and, List.all_map]
        exact k H1 e
      · obtain ⟨x, hx, hxv⟩ := Paired.get' hV.pair hv
        refine ev_callV (ea_cons (ev_var rfl) (ea_cons ev_c (ea_cons (ev_var rfl) ea_nil))) fun H2 e2 Q q => ⟨v, x, 0, g, rfl, hxv.ex (e1.trans e2), ?_⟩
        rw [List.getD_eq_getElem?_getD, hx] at q
        exact q
    · have e0 : x.isRow g = false := by
        cases x with
        | tup xs => exact absurd rfl hn
        | _ => rfl
      rw [e0] at k
      exact s_ret (ev_andV (a := false) (b := true) (ev_isi (ev_var rfl) hT hk) (fun z => by cases z)) fun H1 e => k H1 e
def sj_is_state (K : PySem.W.Frag) : Sp := fun vs H Q _ => ∃ (v : V) (M : M1.Mach) (u : V) (x : Jv), vs = [v, u] ∧ MacAt K H v M.st M.an ∧ JvAt K H u x ∧ ∀ H2, Ex H H2 → Q (.bl (x.isInt 0 ((M.st.length : Int) - 1))) H2
theorem hasj_is_state (T : Txt K mg) (hj_is_integer : Has P w K mg base "is_integer" 1 ["value", "low", "high"] (sj_is_integer K)) {f : Addr} {fd : FuncData} (F : Fun K "is_state" "is_state" s_is_state f fd) (g : mg "is_state" = some (.ref f)) (B : Binds K fd ["machine", "value"] []) :
    Has P w K mg base "is_state" 2 ["machine", "value"] (sj_is_state K) := by
  refine Has.mk' g F.kp B (F.ok sc_is_state (fun vs H Q E h => ?_) (fun cdv A outer s H vs Q E hr h => ?_))
  · obtain ⟨v, M, u, x, rfl, _⟩ := h
    rfl
  · obtain ⟨v, M, u, xx, rfl, ⟨a, x, y, rfl, hS, ⟨ax, vx, rfl, hSx, hPx⟩, hy⟩, hu, k⟩ := h
    have hvl : vx.length = M.st.length := Paired.length hPx
    refine ⟨_, (pss_one (ps_ret (pe_has hj_is_integer (hr.mono (by first | decide | exact Nat.le_refl _)) (by rfl) (pa_cons (pv 1) (pa_cons pe_int (pa_cons (pe_op op_sub (pe_callB (call_lenK (K := K) rfl) (by rfl) T.b_len bt_len (pa_cons (pe_ix (ix_tupK (K := K) rfl) (pv 0) pe_int (fun _ _ => rfl)) pa_nil)) pe_int) pa_nil)))))), ?_⟩
    refine s_ret (ev_callV (z := .bl (xx.isInt 0 ((vx.length : Int) - 1))) (ea_cons (ev_var rfl) (ea_cons ev_c (ea_cons (ev_op (ev_lenT (ev_op (ev_var rfl) ev_c (rv_ixT hS (atI_nat (j := 0) rfl))) hSx) ev_c rv_I0) ea_nil))) fun H1 e1 Q q => ⟨u, xx, _, _, rfl, hu.ex e1, fun H2 e2 => q H2 e2⟩) fun H1 e1 => ?_
    rw [hvl]
    exact k H1 e1
def sj_is_word (K : PySem.W.Frag) : Sp := fun vs H Q _ => ∃ (v : V) (M : M1.Mach) (u : V) (x : Jv), vs = [v, u] ∧ MacAt K H v M.st M.an ∧ M.Ok ∧ JvAt K H u x ∧ x.fits ∧ ∀ H2, Ex H H2 → Q (.bl (x.isRow ((M.k : Int) - 1))) H2
theorem hasj_is_word (T : Txt K mg) (hj_is_row : Has P w K mg base "is_row" 2 ["value", "greatest"] (sj_is_row K)) {f : Addr} {fd : FuncData} (F : Fun K "is_word" "is_word" s_is_word f fd) (g : mg "is_word" = some (.ref f)) (B : Binds K fd ["machine", "value"] []) :
    Has P w K mg base "is_word" 3 ["machine", "value"] (sj_is_word K) := by
  refine Has.mk' g F.kp B (F.ok sc_is_word (fun vs H Q E h => ?_) (fun cdv A outer s H vs Q E hr h => ?_))
  · obtain ⟨v, M, u, x, rfl, _⟩ := h
    rfl
  · obtain ⟨v, M, u, xx, rfl, ⟨a, x, y, rfl, hS, ⟨ax, vx, rfl, hSx, hPx⟩, hy⟩, ok, hu, hf, k⟩ := h
    obtain ⟨r0, hr0⟩ := row0 ok
    obtain ⟨x0, g0, a0, rfl, hS0⟩ := Paired.get hPx r0
    refine ⟨_, (pss_one (ps_ret (pe_has hj_is_row (hr.mono (by first | decide | exact Nat.le_refl _)) (by rfl) (pa_cons (pv 1) (pa_cons (pe_op op_sub (pe_callB (call_lenK (K := K) rfl) (by rfl) T.b_len bt_len (pa_cons (pe_ix (ix_tupK (K := K) rfl) (pe_ix (ix_tupK (K := K) rfl) (pv 0) pe_int (fun _ _ => rfl)) pe_int (fun _ _ => rfl)) pa_nil)) pe_int) pa_nil))))), ?_⟩
    refine s_ret (ev_callV (z := .bl (xx.isRow (((rowV (M.row 0)).length : Int) - 1))) (ea_cons (ev_var rfl) (ea_cons (ev_op (ev_lenT (ev_op (ev_op (ev_var rfl) ev_c (rv_ixT hS (atI_nat (j := 0) rfl))) ev_c (rv_ixT hSx (atI_nat (j := 0) g0))) hS0) ev_c rv_I0) ea_nil)) fun H1 e1 Q q => ⟨u, xx, _, rfl, hu.ex e1, hf, q⟩) fun H1 e1 => ?_
    rw [rowV_len, hr0]
    exact k H1 e1
def sj_is_short_word (K : PySem.W.Frag) : Sp := fun vs H Q _ => ∃ (v : V) (M : M1.Mach) (u : V) (x : Jv), vs = [v, u] ∧ MacAt K H v M.st M.an ∧ M.Ok ∧ JvAt K H u x ∧ ∀ H2, Ex H H2 → Q (.bl (x.isTup 0 4000 && x.isRow ((M.k : Int) - 1))) H2
theorem hasj_is_short_word (T : Txt K mg) (hj_is_tuple : Has P w K mg base "is_tuple" 1 ["value", "low", "high"] (sj_is_tuple K)) (hj_is_word : Has P w K mg base "is_word" 3 ["machine", "value"] (sj_is_word K)) {f : Addr} {fd : FuncData} (F : Fun K "is_short_word" "is_short_word" s_is_short_word f fd) (g : mg "is_short_word" = some (.ref f)) (B : Binds K fd ["machine", "value"] []) :
    Has P w K mg base "is_short_word" 4 ["machine", "value"] (sj_is_short_word K) := by
  refine Has.mk' g F.kp B (F.ok sc_is_short_word (fun vs H Q E h => ?_) (fun cdv A outer s H vs Q E hr h => ?_))
  · obtain ⟨v, M, u, x, rfl, _⟩ := h
    rfl
  · obtain ⟨v, M, u, x, rfl, hM, ok, hu, k⟩ := h
    refine ⟨_, (pss_one (ps_ret (pe_and (pe_has hj_is_tuple (hr.mono (by first | decide | exact Nat.le_refl _)) (by rfl) (pa_cons (pv 1) (pa_cons pe_int (pa_cons (pe_globI (by rfl) T.c_LONGEST_WORD) pa_nil)))) (pe_one (pe_has hj_is_word (hr.mono (by first | decide | exact Nat.le_refl _)) (by rfl) (pa_cons (pv 0) (pa_cons (pv 1) pa_nil))))))), ?_⟩
    refine s_ret (ev_andV (ev_callV (ea_cons (ev_var rfl) (ea_cons ev_c (ea_cons ev_c ea_nil))) fun H1 e1 Q q => ⟨u, x, 0, 4000, rfl, hu.ex e1, q⟩) fun ht =>
      ev_callV (ea_cons (ev_var rfl) (ea_cons (ev_var rfl) ea_nil)) fun H1 e1 Q q => ⟨v, M, u, x, rfl, hM.keep (TK.ex e1), ok, hu.ex e1, ?_, q⟩) fun H1 e1 => k H1 e1
    cases x with
    | tup xs =>
      have : (decide ((0 : Int) ≤ xs.length) && decide ((xs.length : Int) ≤ 4000)) = true := ht
      rw [Bool.and_eq_true] at this
      have := of_decide_eq_true this.2
      show xs.length ≤ 40000
      omega
    | _ => trivial
end

end Kx
namespace Kx
open PySem PySem.Spec PyProof.Rows L2

open Evl
section
variable {P : Program} {w : World} {K : PySem.W.Frag} {mg : Str → Option Value} {base : Heap}
def oV (o : Option Nat) : V := match o with | some n => nV n | none => .non
/-- the answers to a word -/
def tldV (M : M1.Mach) (i : Nat) (r : List Nat) : List V := gvn r.length fun j => nV (M.tld i r j)
/-- an item of a table -/
theorem tab_get {K : PySem.W.Frag} {H : Hp} {vx : List V} {t : List (List Nat)} (h : Paired (RowAt K H) vx t) {i : Nat} {r : List Nat} (e : t[i]? = some r) : ∃ a, vx[i]? = some (.ref a) ∧ SqT K H a (rowV r) := by
  obtain ⟨x, g, a, rfl, hS⟩ := Paired.get h e
  exact ⟨a, g, hS⟩
theorem paired_keep {K : PySem.W.Frag} {H H' : Hp} {vx : List V} {t : List (List Nat)} (h : Paired (RowAt K H) vx t) (e : TK K H H') : Paired (RowAt K H') vx t := Paired.mapP h fun _ _ z => z.keep e
def sp_led (K : PySem.W.Frag) : Sp := fun vs H Q _ => ∃ (v : V) (M : M1.Mach) (i : Nat) (b : Addr) (r : List Nat), vs = [v, .int (i : Int), .ref b] ∧ MacAt K H v M.st M.an ∧ M.Ok ∧ i < M.st.length ∧ SqT K H b (rowV r) ∧ (∀ x ∈ r, x < M.k) ∧ ∀ H2, Ex H H2 → Q (nV (M.led i r)) H2
def sp_told (K : PySem.W.Frag) : Sp := fun vs H Q _ => ∃ (v : V) (M : M1.Mach) (i : Nat) (b : Addr) (r : List Nat), vs = [v, .int (i : Int), .ref b] ∧ MacAt K H v M.st M.an ∧ M.Ok ∧ i < M.st.length ∧ SqT K H b (rowV r) ∧ r.length ≤ 4000 ∧ (∀ x ∈ r, x < M.k) ∧
  ∀ p H2, H p = none → Ex H H2 → H2 p = some (.tup (tldV M i r)) → Q (.ref p) H2
theorem rv_isN {H : Hp} {x : V} : RV (fun x y H Q => y = V.non ∧ Q (V.bl (decide (x = V.non))) H) x .non H (.bl (decide (x = .non))) := fun H1 _ Q q => ⟨rfl, q H1 (Ex.refl _)⟩
theorem rv_notN {H : Hp} {x : V} : RV (fun x y H Q => y = V.non ∧ Q (V.bl (!decide (x = V.non))) H) x .non H (.bl (!decide (x = .non))) := fun H1 _ Q q => ⟨rfl, q H1 (Ex.refl _)⟩
theorem et_isN {σ : L2.St} {H : Hp} {i : Nat} {v : V} (h : σ[i]? = some (some v)) : EvT (tTest (tOp (fun x y H Q => y = V.non ∧ Q (V.bl (decide (x = V.non))) H) (tVar i) (tC V.non))) σ H (decide (v = .non)) := fun H1 e1 Q q => ⟨v, h, rfl, _, rfl, q H1 (Ex.refl _)⟩
theorem et_notN {σ : L2.St} {H : Hp} {i : Nat} {v : V} (h : σ[i]? = some (some v)) : EvT (tTest (tOp (fun x y H Q => y = V.non ∧ Q (V.bl (!decide (x = V.non))) H) (tVar i) (tC V.non))) σ H (!decide (v = .non)) := fun H1 e1 Q q => ⟨v, h, rfl, _, rfl, q H1 (Ex.refl _)⟩
end

end Kx
namespace Kx
open PySem PySem.Spec PyProof.Rows L2

open Evl
section
variable {P : Program} {w : World} {K : PySem.W.Frag} {mg : Str → Option Value} {base : Heap}
theorem has_law_led (T : Txt K mg) {f : Addr} {fd : FuncData} (F : Fun K "_law_led" "_law_led" s_law_led f fd) (g : mg "_law_led" = some (.ref f)) (B : Binds K fd ["machine", "state", "word"] []) : Has P w K mg base "_law_led" 1 ["machine", "state", "word"] (sp_led K) := by
  refine Has.mk' g F.kp B (F.ok sc_law_led (fun vs H Q E h => ?_) (fun cdv A outer s H vs Q E hr h => ?_))
  · obtain ⟨v, M, i, b, r, rfl, _⟩ := h
    rfl
  · obtain ⟨v, M, i, b, r, rfl, ⟨a, x, y, rfl, hS, ⟨ax, vx, rfl, hSx, hPx⟩, hy⟩, ok, hi, hb, hk, k⟩ := h
    refine ⟨_, (pss_cons (ps_for PassesOwn.never rfl (pi_tupK (K := K) rfl (pv 2)) (pg_name (i := 3) sc_law_led.nd rfl (.inl rfl))
      (pss_one (ps_set (i := 1) sc_law_led.nd rfl (.inl rfl) (pe_ix (ix_tupK (K := K) rfl) (pe_ix (ix_tupK (K := K) rfl) (pe_ix (ix_tupK (K := K) rfl) (pv 0) pe_int (fun _ _ => rfl)) (pv 1) (fun _ _ => rfl)) (pv 3) (fun _ _ => rfl)))))
      (pss_one (ps_ret (pv 1)))), ?_⟩
    refine q_forT (ev_var rfl) hb (fun j σ' H' => ∃ l, σ' = [some (.ref a), some (.int (M.led i (r.take j) : Nat)), some (.ref b), l] ∧ Ex H H') (fun H1 e1 => ⟨none, rfl, e1⟩) (fun j σ' H' _ ⟨_, _, e⟩ => ex_t e hb) ?_ ?_
    · rintro j z σ' H' hz ⟨l, rfl, e⟩
      obtain ⟨c, hc, rfl⟩ := map_of hz
      have hlt : M.led i (r.take j) < M.st.length := M.led_lt ok hi fun x hx => hk x (List.mem_of_mem_take hx)
      have hcm := hk c (List.mem_of_getElem? hc)
      obtain ⟨ar, gr, hr1⟩ := tab_get hPx (M.row_at hlt)
      have hg := M.go_at ok hlt hcm
      refine s_asg (ev_op (ev_op (ev_op (ev_var rfl) ev_c (rv_ixT (ex_t e hS) (atI_nat (j := 0) rfl))) (ev_var rfl) (rv_ixT (ex_t e hSx) (atI_nat gr))) (ev_var rfl) (rv_ixT (ex_t e hr1) (atI_nat (rowV_at hg)))) fun H6 e8 => ?_
      refine ⟨some (nV c), ?_, e.trans e8⟩
      rw [M.led_take hc]
      rfl
    · rintro σ' H' ⟨l, rfl, e⟩
      rw [rowV_len, List.take_length]
      exact s_ret (ev_var rfl) fun H5 e6 => k H5 (e.trans e6)
theorem cut_row {r : List Nat} {j : Nat} (h : j ≤ r.length) : cutV (rowV r) none (some (j : Int)) = rowV (r.take j) := by
  unfold cutV
  rw [HT.sIx_none, HT.sIx_nat, rowV_len, Nat.min_eq_left h]
  unfold rowV
  rw [List.drop_zero, List.map_take]
  rfl
theorem has_law_told (T : Txt K mg) (h_law_led : Has P w K mg base "_law_led" 1 ["machine", "state", "word"] (sp_led K)) {f : Addr} {fd : FuncData} (F : Fun K "_law_told" "_law_told" s_law_told f fd) (g : mg "_law_told" = some (.ref f)) (B : Binds K fd ["machine", "state", "word"] []) :
    Has P w K mg base "_law_told" 2 ["machine", "state", "word"] (sp_told K) := by
  refine Has.mk' g F.kp B (F.ok sc_law_told (fun vs H Q E h => ?_) (fun cdv A outer s H vs Q E hr h => ?_))
  · obtain ⟨v, M, i, b, r, rfl, _⟩ := h
    rfl
  · obtain ⟨v, M, i, b, r, rfl, hM, ok, hi, hb, hl, hk, k⟩ := h
    obtain ⟨a, x, y, rfl, hS, hx, ⟨ay, vy, rfl, hSy, hPy⟩⟩ := id hM
    refine ⟨_, (pss_one (ps_ret (pe_callTy (call_tupleK (K := K) rfl) (by rfl) T.b_tuple bt_tuple (pa_cons (pe_lc (own := [("at", 3)]) (g := gName 3) (tt := tYes) (by rfl) sc_law_told.nd (pi_range1 (by rfl) T.b_range (pa_cons (pe_callB (call_lenK (K := K) rfl) (by rfl) T.b_len bt_len (pa_cons (pv 2) pa_nil)) pa_nil)) (blkOk_by (N := N_law_told) (sc := defScope s_law_told) (by decide +kernel)) (fun _ _ _ _ _ => pg_name (i := 3) sc_law_told.nd rfl (Or.inl rfl)) (fun _ _ _ _ _ => pts_nil) (fun _ _ _ _ _ => (pe_ix (ix_tupK (K := K) rfl) (pe_ix (ix_tupK (K := K) rfl) (pe_ix (ix_tupK (K := K) rfl) (pv 0) pe_int (fun _ _ => rfl)) (pe_has h_law_led (hr.mono (by first | decide | exact Nat.le_refl _)) (by rfl) (pa_cons (pv 0) (pa_cons (pv 1) (pa_cons (pe_slice (sl_tupK (K := K) rfl) (pv 2) po_none (po_some (pv 3))) pa_nil)))) (fun _ _ => rfl)) (pe_ix (ix_tupK (K := K) rfl) (pv 2) (pv 3) (fun _ _ => rfl)) (fun _ _ => rfl)))) pa_nil)))), ?_⟩
    have big := el_lcRv (σ := [some (V.ref a), some (V.int (i : Int)), some (V.ref b), none]) (H := H) (ta := tCons (tCB (rLenS K) (tCons (tVar 2) tNil)) tNil) (j := 3) (vs := [3]) (n := ((rowV r).length : Int)) (te := tOp (rIxT K) (tOp (rIxT K) (tOp (rIxT K) (tVar 0) (tC (.int 1))) (tCall (sp_led K) [] E0 (tCons (tVar 0) (tCons (tVar 1) (tCons (tSl (rSlT K) (tVar 2) tNoPart (tPart (tVar 3))) tNil))))) (tOp (rIxT K) (tVar 2) (tVar 3)))
      (fun j => nV (M.tld i r j)) (ea_cons (ev_lenT (ev_var rfl) hb) ea_nil) ⟨by omega, by rw [rowV_len]; omega⟩ (fun _ => rfl) (fun j H1 e1 hj => ?_)
    · refine s_retU (eu_tupN big) fun q H5 hq e5 h5 => k q H5 hq e5 ?_
      rw [h5, Int.toNat_natCast, rowV_len]
      rfl
    · have hj' : j < r.length := by rw [rowV_len] at hj; omega
      have hc : r[j]? = some (r.getD j 0) := M1.getD_at hj'
      have hlt : M.led i (r.take j) < M.st.length := M.led_lt ok hi fun x hx => hk x (List.mem_of_mem_take hx)
      obtain ⟨aa, ga, ha1⟩ := tab_get hPy (M.ans_at ok hlt)
      have ho := M.out_at ok hlt (hk _ (List.mem_of_getElem? hc))
      refine ev_op (x := .ref aa) (y := nV (r.getD j 0)) (ev_op (x := .ref ay) (y := nV (M.led i (r.take j))) (ev_op (ev_var rfl) ev_c (rv_ixT (ex_t e1 hS) (atI_nat (j := 1) rfl))) (fun H2 e2 Q q => ?_) (rv_ixT (ex_t e1 hSy) (atI_nat ga))) (ev_op (ev_var rfl) (ev_var rfl) (rv_ixT (ex_t e1 hb) (atI_nat (rowV_at hc)))) (rv_ixT (ex_t e1 ha1) (atI_nat (rowV_at ho)))
      have e12 := e1.trans e2
      refine ⟨.ref a, rfl, .int (i : Int), rfl, .ref b, rfl, .int (j : Int), rfl, _, rfl, b, rowV r, rfl, ex_t e12 hb, ?_, fun p hp => ?_⟩
      · rintro ⟨_, z⟩
        rw [HT.sIx_nat, rowV_len] at z
        omega
      · have e13 := e12.trans (Ex.new (o := .tup (cutV (rowV r) none (some (j : Int)))) hp)
        exact ⟨.ref a, M, i, p, r.take j, rfl, hM.keep (TK.ex e13), ok, hi, SqT.of (by rw [upd_same, cut_row (by omega)]), fun x hx => hk x (List.mem_of_mem_take hx), fun H3 e3 => q H3 ((Ex.new hp).trans e3)⟩
end

end Kx
namespace Kx
open PySem PySem.Spec PyProof.Rows L2

open Evl
section
variable {P : Program} {w : World} {K : PySem.W.Frag} {mg : Str → Option Value} {base : Heap}
theorem has_state_behind (T : Txt K mg) {f : Addr} {fd : FuncData} (F : Fun K "state_behind" "state_behind" s_state_behind f fd) (g : mg "state_behind" = some (.ref f)) (B : Binds K fd ["machine", "state", "word"] []) : Has P w K mg base "state_behind" 1 ["machine", "state", "word"] (sp_led K) := by
  refine Has.mk' g F.kp B (F.ok sc_state_behind (fun vs H Q E h => ?_) (fun cdv A outer s H vs Q E hr h => ?_))
  · obtain ⟨v, M, i, b, r, rfl, _⟩ := h
    rfl
  · obtain ⟨v, M, i, b, r, rfl, ⟨a, x, y, rfl, hS, ⟨ax, vx, rfl, hSx, hPx⟩, hy⟩, ok, hi, hb, hk, k⟩ := h
    refine ⟨_, (pss_cons (ps_for PassesOwn.never rfl (pi_tupK (K := K) rfl (pv 2)) (pg_name (i := 3) sc_state_behind.nd rfl (.inl rfl))
      (pss_one (ps_set (i := 1) sc_state_behind.nd rfl (.inl rfl) (pe_ix (ix_tupK (K := K) rfl) (pe_ix (ix_tupK (K := K) rfl) (pe_ix (ix_tupK (K := K) rfl) (pv 0) pe_int (fun _ _ => rfl)) (pv 1) (fun _ _ => rfl)) (pv 3) (fun _ _ => rfl)))))
      (pss_one (ps_ret (pv 1)))), ?_⟩
    refine q_forT (ev_var rfl) hb (fun j σ' H' => ∃ l, σ' = [some (.ref a), some (.int (M.led i (r.take j) : Nat)), some (.ref b), l] ∧ Ex H H') (fun H1 e1 => ⟨none, rfl, e1⟩) (fun j σ' H' _ ⟨_, _, e⟩ => ex_t e hb) ?_ ?_
    · rintro j z σ' H' hz ⟨l, rfl, e⟩
      obtain ⟨c, hc, rfl⟩ := map_of hz
      have hlt : M.led i (r.take j) < M.st.length := M.led_lt ok hi fun x hx => hk x (List.mem_of_mem_take hx)
      have hcm := hk c (List.mem_of_getElem? hc)
      obtain ⟨ar, gr, hr1⟩ := tab_get hPx (M.row_at hlt)
      have hg := M.go_at ok hlt hcm
      refine s_asg (ev_op (ev_op (ev_op (ev_var rfl) ev_c (rv_ixT (ex_t e hS) (atI_nat (j := 0) rfl))) (ev_var rfl) (rv_ixT (ex_t e hSx) (atI_nat gr))) (ev_var rfl) (rv_ixT (ex_t e hr1) (atI_nat (rowV_at hg)))) fun H6 e8 => ?_
      refine ⟨some (nV c), ?_, e.trans e8⟩
      rw [M.led_take hc]
      rfl
    · rintro σ' H' ⟨l, rfl, e⟩
      rw [rowV_len, List.take_length]
      exact s_ret (ev_var rfl) fun H5 e6 => k H5 (e.trans e6)
/-! ### the states that come, each with a way -/
/-- the dict kvs tells the ways ws -/
structure Ways (K : PySem.W.Frag) (H : Hp) (M : M1.Mach) (kvs : List (Key × V)) (ws : List (Nat × List Nat)) : Prop where
  at_ : Paired (fun (kv : Key × V) (iw : Nat × List Nat) => kv.1 = Sum.inl (iw.1 : Int) ∧ RowAt K H kv.2 iw.2) kvs ws
  way : ∀ iw ∈ ws, M.Letters iw.2 ∧ M.led 0 iw.2 = iw.1
  nd : (ws.map (·.1)).Nodup
  ln : ∀ iw ∈ ws, iw.2.length ≤ ws.length
theorem Ways.keep {H H' : Hp} {M : M1.Mach} {kvs : List (Key × V)} {ws : List (Nat × List Nat)} (W : Ways K H M kvs ws) (e : TK K H H') : Ways K H' M kvs ws := ⟨Paired.mapP W.at_ fun _ _ z => ⟨z.1, z.2.keep e⟩, W.way, W.nd, W.ln⟩
theorem ways_val {H : Hp} : ∀ {kvs : List (Key × V)} {ws : List (Nat × List Nat)}, Paired (fun (kv : Key × V) (iw : Nat × List Nat) => kv.1 = Sum.inl (iw.1 : Int) ∧ RowAt K H kv.2 iw.2) kvs ws → ∀ i : Nat, (i ∈ ws.map (·.1) → ∃ v u, valV kvs (Sum.inl (i : Int)) = some v ∧ (i, u) ∈ ws ∧ RowAt K H v u) ∧ (i ∉ ws.map (·.1) → valV kvs (Sum.inl (i : Int)) = none)
  | _, _, .nil, i => ⟨fun h => by simp at h, fun _ => rfl⟩
  | _, _, .cons (a := kv) (b := iw) ⟨e, hr⟩ t, i => by
    have ih := ways_val t i
    by_cases h : iw.1 = i
    · subst h
      refine ⟨fun _ => ⟨kv.2, iw.2, valV_pos e, List.mem_cons_self, hr⟩, fun hn => absurd List.mem_cons_self hn⟩
    · have hne : ¬ kv.1 = Sum.inl (i : Int) := fun z => by
        rw [e] at z
        exact h (Int.ofNat_inj.mp (Sum.inl.inj z))
      rw [valV_neg hne]
      refine ⟨fun hm => ?_, fun hn => ih.2 fun z => hn (List.mem_cons_of_mem _ z)⟩
      rcases List.mem_cons.mp hm with z | z
      · exact absurd z.symm h
      · obtain ⟨v, u, a, b, c⟩ := ih.1 z
        exact ⟨v, u, a, List.mem_cons_of_mem _ b, c⟩
theorem Ways.lt {H : Hp} {M : M1.Mach} (ok : M.Ok) {kvs : List (Key × V)} {ws : List (Nat × List Nat)} (W : Ways K H M kvs ws) : ∀ i ∈ ws.map (·.1), i < M.st.length := fun i hi => by
  obtain ⟨iw, hm, rfl⟩ := List.mem_map.mp hi
  have h := W.way iw hm
  rw [← h.2]
  exact M.led_lt ok ok.n1 h.1
theorem Ways.len {H : Hp} {M : M1.Mach} (ok : M.Ok) {kvs : List (Key × V)} {ws : List (Nat × List Nat)} (W : Ways K H M kvs ws) : ws.length ≤ M.st.length := by
  have h := M1.nodup_le W.nd (m := List.range M.st.length) fun i hi => List.mem_range.mpr (W.lt ok i hi)
  rw [List.length_map, List.length_range] at h
  exact h
/-- all states that come are among them -/
def AllCome (M : M1.Mach) (ws : List (Nat × List Nat)) : Prop := ∀ i, M.Rch i → i ∈ ws.map (·.1)
theorem allCome_of {M : M1.Mach} {ws : List (Nat × List Nat)} (h0 : 0 ∈ ws.map (·.1)) (hc : ∀ i ∈ ws.map (·.1), ∀ a, a < M.k → M.go i a ∈ ws.map (·.1)) : AllCome M ws := by
  rintro i ⟨u, hu, rfl⟩
  have gen : ∀ (u : List Nat) (i : Nat), i ∈ ws.map (·.1) → M.Letters u → M.led i u ∈ ws.map (·.1) := by
    intro u
    induction u with
    | nil => exact fun i hi _ => hi
    | cons a u ih => exact fun i hi hu => ih (M.go i a) (hc i hi a (hu a List.mem_cons_self)) fun x hx => hu x (List.mem_cons_of_mem _ hx)
  exact gen u 0 h0 hu
theorem seq0 {n : Nat} (h : 0 < n) : seqIndex? 0 n = some 0 := by
  unfold seqIndex?
  have h' : (0 : Int) < (n : Int) := by omega
  simp
  omega
def sp_ways (K : PySem.W.Frag) : Sp := fun vs H Q _ => ∃ (v : V) (M : M1.Mach), vs = [v] ∧ MacAt K H v M.st M.an ∧ M.Ok ∧ ∀ p H2 kvs ws, H p = none → Ex H H2 → H2 p = some (.dK kvs) → Ways K H2 M kvs ws → AllCome M ws → Q (.ref p) H2
theorem has_ways_to_states (T : Txt K mg) {f : Addr} {fd : FuncData} (F : Fun K "ways_to_states" "ways_to_states" s_ways_to_states f fd) (g : mg "ways_to_states" = some (.ref f)) (B : Binds K fd ["machine"] []) : Has P w K mg base "ways_to_states" 1 ["machine"] (sp_ways K) := by
  refine Has.mk' g F.kp B (F.ok sc_ways_to_states (fun vs H Q E h => ?_) (fun cdv A outer s H vs Q E hr h => ?_))
  · obtain ⟨v, M, rfl, _⟩ := h
    rfl
  · obtain ⟨v, M, rfl, ⟨a, x, y, rfl, hS, ⟨ax, vx, rfl, hSx, hPx⟩, hy⟩, ok, k⟩ := h
    have n6 := ok.n6
    have n1 := ok.n1
    refine ⟨_, (pss_cons (ps_set (i := 1) sc_ways_to_states.nd rfl (.inl rfl) (pe_disp (pps_cons pe_int (pe_tup pa_nil) pps_nil) (by rfl) (by rfl) (fun z => by cases z) (by decide)))
      (pss_cons (ps_set (i := 2) sc_ways_to_states.nd rfl (.inl rfl) (pe_lst (pa_cons pe_int pa_nil)))
      (pss_cons (ps_while PassesOwn.never (pt_tru (K := K) rfl (pv 2))
      (pss_cons (ps_set (i := 3) sc_ways_to_states.nd rfl (.inl rfl) (pe_bm PySem.F.plainAttrs_list PySem.F.slot_list_pop PySem.F.type_list_pop mt_popAt (pv 2) (pa_cons pe_int pa_nil)))
      (pss_one (ps_for PassesOwn.never rfl (pi_enumT (by rfl) T.b_enumerate (pa_cons (pe_ix (ix_tupK (K := K) rfl) (pe_ix (ix_tupK (K := K) rfl) (pv 0) pe_int (fun _ _ => rfl)) (pv 3) (fun _ _ => rfl)) pa_nil)) (pg_tupK (K := K) (n := 2) rfl (by rfl) (pgs_cons (pg_name (i := 4) sc_ways_to_states.nd rfl (.inl rfl)) (pgs_cons (pg_name (i := 5) sc_ways_to_states.nd rfl (.inl rfl)) pgs_nil)))
      (pss_one (ps_if (pt_cmp (pc_dnotin (hu_of hr) (pv 5) (pv 1)))
      (pss_cons (ps_dput (hu_of hr) (pv 1) (pv 5) (pe_op (op_catK (K := K) rfl) (pe_dget (hu_of hr) (pv 1) (pv 3) (fun _ _ => rfl)) (pe_tup (pa_cons (pv 4) pa_nil))) rfl)
      (pss_one (ps_expr (pe_bm PySem.F.plainAttrs_list PySem.F.slot_list_append PySem.F.type_list_append mt_append (pv 2) (pa_cons (pv 5) pa_nil)))))
      pss_nil))))))
      (pss_one (ps_ret (pv 1)))))), ?_⟩
    refine fun pw hpw => ⟨Nat.zero_le _, fun t0 ht0 => ?_⟩
    have nwt : pw ≠ t0 := fun z => by subst z; rw [upd_same] at ht0; cases ht0
    refine ⟨by rw [upd_ne nwt, upd_same], [(Sum.inl 0, .ref t0)], rfl, (by show 1 ≤ 15; decide), ?_⟩
    have nt0 : H t0 = none := by rw [upd_ne nwt.symm] at ht0; exact ht0
    have e0 : Ex H (upd (upd (upd H pw (.dK [])) t0 (.tup [])) pw (.dK (mergeK [] [(Sum.inl 0, .ref t0)]))) := Ex.mut ((Ex.new hpw).trans (Ex.new ht0)) hpw
    refine q_asgL (el_lst (ea_cons ev_c ea_nil) (by decide)) fun pq H1 hpq e1 h1 => ?_
    have hw1 : H1 pw = some (.dK [(Sum.inl 0, .ref t0)]) := e1 _ _ upd_same
    have ht1 : H1 t0 = some (.tup (rowV [])) := e1 _ _ (by rw [upd_ne nwt.symm, upd_same]; rfl)
    have nq : H pq = none := fresh_back e0 hpq
    have nqw : pq ≠ pw := fun z => by subst z; rw [upd_same] at hpq; cases hpq
    have W1 : Ways K H1 M [(Sum.inl 0, .ref t0)] [(0, [])] := ⟨.cons ⟨rfl, t0, rfl, SqT.of ht1⟩ .nil, fun iw h => by rw [List.mem_singleton] at h; subst h; exact ⟨fun _ h => by simp at h, rfl⟩, by simp, fun iw h => by rw [List.mem_singleton] at h; subst h; decide⟩
    refine q_while (fun m σ' H' => ∃ (q : List Nat) (kvs : List (Key × V)) (ws : List (Nat × List Nat)) (l3 l4 l5 : Option V), σ' = [some (.ref a), some (.ref pw), some (.ref pq), l3, l4, l5] ∧ Ex H H' ∧ H' pw = some (.dK kvs) ∧ H' pq = some (.lst (rowV q)) ∧ Ways K H' M kvs ws ∧ (∀ i ∈ q, i ∈ ws.map (·.1)) ∧ 0 ∈ ws.map (·.1) ∧
      (∀ i ∈ ws.map (·.1), i ∉ q → ∀ a, a < M.k → M.go i a ∈ ws.map (·.1)) ∧ 2 * (M.st.length - ws.length) + q.length ≤ 12 ∧ m = 2 * (M.st.length - ws.length) + q.length) _
      ⟨[0], _, [(0, [])], none, none, none, rfl, e0.trans e1, hw1, h1, W1, fun i h => by simpa using h, by simp, fun i h hn => absurd (by simpa using h) (by simpa using hn), by show 2 * (M.st.length - 1) + 1 ≤ 12; omega, rfl⟩ ?_
    rintro m σ' H2 ⟨q, kvs, ws, l3, l4, l5, rfl, e2, hw2, hq2, W2, hqs, h02, hc2, h12, rfl⟩
    refine ⟨!(rowV q).isEmpty, et_tru (ev_var rfl) (fun H3 e3 => tru_list (sq_of (e3 _ _ hq2))), fun b H3 e3 => ?_, fun b H3 e3 => ?_⟩
    · obtain ⟨s0, q', rfl⟩ : ∃ s0 q', q = s0 :: q' := by
        cases q with
        | nil => simp [rowV] at b
        | cons s0 q' => exact ⟨s0, q', rfl⟩
      have e23 := e2.trans e3
      have hw3 := e3 _ _ hw2
      have hq3 := e3 _ _ hq2
      have W3 := W2.keep (TK.ex e3)
      have hs0 := hqs s0 List.mem_cons_self
      rw [List.length_cons] at h12
      have hs0l := W2.lt ok s0 hs0
      have wl := W2.len ok
      obtain ⟨ar, gr, hSr⟩ := tab_get hPx (M.row_at hs0l)
      refine ⟨fun σ2 H' => ∃ m', m' < 2 * (M.st.length - ws.length) + (s0 :: q').length ∧ ∃ (q : List Nat) (kvs : List (Key × V)) (ws : List (Nat × List Nat)) (l3 l4 l5 : Option V), σ2 = [some (.ref a), some (.ref pw), some (.ref pq), l3, l4, l5] ∧ Ex H H' ∧ H' pw = some (.dK kvs) ∧ H' pq = some (.lst (rowV q)) ∧ Ways K H' M kvs ws ∧ (∀ i ∈ q, i ∈ ws.map (·.1)) ∧ 0 ∈ ws.map (·.1) ∧
        (∀ i ∈ ws.map (·.1), i ∉ q → ∀ a, a < M.k → M.go i a ∈ ws.map (·.1)) ∧ 2 * (M.st.length - ws.length) + q.length ≤ 12 ∧ m' = 2 * (M.st.length - ws.length) + q.length, fun σ2 H' h => h, ?_⟩
      refine ⟨.ref pq, rfl, Or.inl ⟨rfl, _, sq_of hq3⟩, pq, _, 0, 0, nV s0, rfl, rfl, hq3, by decide, by decide, seq0 (by simp [rowV]), rfl, ?_⟩
      have e4 : Ex H (upd H3 pq (.lst (rowV q'))) := Ex.mut e23 nq
      have tk4 : TK K H3 (upd H3 pq (.lst (rowV q'))) := TK.lst hq3
      refine ⟨.ref a, rfl, a, _, 0, .ref ax, rfl, rfl, ex_t e4 hS, atI_nat (j := 0) rfl, nV s0, rfl, ax, vx, _, .ref ar, rfl, rfl, ex_t e4 hSx, atI_nat gr, ar, rowV (M.row s0), rfl, ex_t e4 hSr, for_enumT (fun j σ' H' => ∃ (q : List Nat) (kvs : List (Key × V)) (ws' : List (Nat × List Nat)) (l4 l5 : Option V), σ' = [some (.ref a), some (.ref pw), some (.ref pq), some (nV s0), l4, l5] ∧ Ex H H' ∧ H' pw = some (.dK kvs) ∧ H' pq = some (.lst (rowV q)) ∧ Ways K H' M kvs ws' ∧ (∀ i ∈ q, i ∈ ws'.map (·.1)) ∧ 0 ∈ ws'.map (·.1) ∧ s0 ∈ ws'.map (·.1) ∧
        (∀ i ∈ ws'.map (·.1), i ∉ q → i ≠ s0 → ∀ a, a < M.k → M.go i a ∈ ws'.map (·.1)) ∧ (∀ b, b < j → M.go s0 b ∈ ws'.map (·.1)) ∧ 2 * (M.st.length - ws'.length) + q.length ≤ 2 * (M.st.length - ws.length) + q'.length) ?_ (fun j σ' H' _ ⟨_, _, _, _, _, _, e, _⟩ => ex_t e hSr) ?_ ?_⟩
      · refine ⟨q', kvs, ws, l4, l5, rfl, e4, by rw [upd_ne nqw.symm]; exact hw3, upd_same, W3.keep tk4, fun i hi => hqs i (List.mem_cons_of_mem _ hi), h02, hs0, fun i hi hn hne b hb => hc2 i hi (fun z => ?_) b hb, fun b hb => by omega, Nat.le_refl _⟩
        rcases List.mem_cons.mp z with z | z
        · exact hne z
        · exact hn z
      · rintro j z t σ' H5 hz ⟨q5, kvs5, ws5, m4, m5, rfl, e5, hw5, hq5, W5, a1, a2, a3, a4, a5, a6⟩ nt
        obtain ⟨xx, hxx, rfl⟩ := map_of hz
        have hjl : j < (M.row s0).length := (List.getElem?_eq_some_iff.mp hxx).1
        have hjk : j < M.k := by rw [M.row_len ok hs0l] at hjl; exact hjl
        have exx : M.go s0 j = xx := by
          have := M.go_at ok hs0l hjk
          rw [hxx] at this
          exact (Option.some.inj this).symm
        have e6 : Ex H5 (upd H5 t (.tup [.int (j : Nat), nV xx])) := Ex.new nt
        have hw6 := e6 _ _ hw5
        have hq6 := e6 _ _ hq5
        have W6 := W5.keep (TK.ex e6)
        have e56 := e5.trans e6
        refine ⟨t, _, rfl, SqT.of upd_same, rfl, _, _, rfl, _, _, rfl, rfl, ?_⟩
        refine ⟨nV xx, rfl, .ref pw, rfl, pw, _, rfl, DGet.k (k := Sum.inl (xx : Int)) hw6, _, rfl, ?_⟩
        by_cases hx : xx ∈ ws5.map (·.1)
        · obtain ⟨v, u, hv, _⟩ := (ways_val W6.at_ xx).1 hx
          rw [hv]
          refine iteF ⟨q5, kvs5, ws5, _, _, rfl, e56, hw6, hq6, W6, a1, a2, a3, a4, fun b hb => ?_, a6⟩
          by_cases z : b = j
          · rw [z, exx]; exact hx
          · exact a5 b (by omega)
        · have hv := (ways_val W6.at_ xx).2 hx
          rw [hv]
          refine iteT ?_
          obtain ⟨v, u, hu, hm, av, rfl, hru⟩ := (ways_val W6.at_ s0).1 a3
          have lw := W6.ln _ hm
          have wl5 := W6.len ok
          have ul : u.length ≤ 6 := by
            have : u.length ≤ ws5.length := lw
            omega
          obtain ⟨hul, hue⟩ := W6.way _ hm
          -- ways[after] = ways[state] + (letter,)
          have put : ∀ (v2 : Addr) H7, Ex (upd H5 t (.tup [.int (j : Nat), nV xx])) H7 → SqT K H7 v2 (rowV (u ++ [j])) → ∃ a_1 H4, V.ref pw = .ref a_1 ∧ DPut H7 a_1 (nV xx) (.ref v2) H4 ∧ (tDrop (tBM K "list" rAppend (tVar 2) (tCons (tVar 5) tNil)))
            { nx := (fun σ' H' => ∃ (q : List Nat) (kvs : List (Key × V)) (ws' : List (Nat × List Nat)) (l4 l5 : Option V), σ' = [some (.ref a), some (.ref pw), some (.ref pq), some (nV s0), l4, l5] ∧ Ex H H' ∧ H' pw = some (.dK kvs) ∧ H' pq = some (.lst (rowV q)) ∧ Ways K H' M kvs ws' ∧ (∀ i ∈ q, i ∈ ws'.map (·.1)) ∧ 0 ∈ ws'.map (·.1) ∧ s0 ∈ ws'.map (·.1) ∧
              (∀ i ∈ ws'.map (·.1), i ∉ q → i ≠ s0 → ∀ a, a < M.k → M.go i a ∈ ws'.map (·.1)) ∧ (∀ b, b < j + 1 → M.go s0 b ∈ ws'.map (·.1)) ∧ 2 * (M.st.length - ws'.length) + q.length ≤ 2 * (M.st.length - ws.length) + q'.length), rt := fun _ _ => True, bk := fun _ _ => True, ct := fun _ _ => True } [some (.ref a), some (.ref pw), some (.ref pq), some (nV s0), some (.int (j : Int)), some (nV xx)] H4 := by
            intro v2 H7 e7 hv2
            have hw7 := e7 _ _ hw6
            have hq7 := e7 _ _ hq6
            have W7 := W6.keep (TK.ex e7)
            have kl : kvs5.length = ws5.length := Paired.length W7.at_
            have hv7 : valV kvs5 (Sum.inl (xx : Int)) = none := hv
            refine ⟨pw, _, rfl, DPut.k (k := Sum.inl (xx : Int)) hw7 (by rw [kl]; exact small1000 (by omega)), ?_⟩
            rw [putK_new _ hv7]
            have t8 : TK K H7 (upd H7 pw (.dK (kvs5 ++ [(Sum.inl (xx : Int), .ref v2)]))) := TK.upd hw7 (fun _ z => by cases z) (fun _ _ z => by cases z)
            have hq8 : (upd H7 pw (.dK (kvs5 ++ [(Sum.inl (xx : Int), .ref v2)]))) pq = some (.lst (rowV q5)) := by rw [upd_ne nqw]; exact hq7
            have t9 : TK K (upd H7 pw (.dK (kvs5 ++ [(Sum.inl (xx : Int), .ref v2)]))) (upd (upd H7 pw (.dK (kvs5 ++ [(Sum.inl (xx : Int), .ref v2)]))) pq (.lst (rowV q5 ++ [nV xx]))) := TK.lst hq8
            have t79 := t8.trans t9
            refine ⟨.ref pq, rfl, Or.inl ⟨rfl, _, sq_of hq8⟩, nV xx, rfl, pq, _, _, rfl, rfl, hq8, by rw [rowV_len]; exact small1000 (by omega), ?_⟩
            have wlen : (ws5 ++ [(xx, u ++ [j])]).length = ws5.length + 1 := by rw [List.length_append]; rfl
            have mems : ∀ i, i ∈ (ws5 ++ [(xx, u ++ [j])]).map (·.1) ↔ i ∈ ws5.map (·.1) ∨ i = xx := fun i => by rw [List.map_append, List.mem_append]; simp
            have W9 : Ways K (upd (upd H7 pw (.dK (kvs5 ++ [(Sum.inl (xx : Int), .ref v2)]))) pq (.lst (rowV q5 ++ [nV xx]))) M (kvs5 ++ [(Sum.inl (xx : Int), .ref v2)]) (ws5 ++ [(xx, u ++ [j])]) := by
              refine ⟨Paired.snoc (W7.keep t79).at_ ⟨rfl, v2, rfl, t79 _ _ hv2⟩, fun iw hi => ?_, ?_, fun iw hi => ?_⟩
              · rcases List.mem_append.mp hi with hi | hi
                · exact W7.way iw hi
                · rw [List.mem_singleton] at hi
                  subst hi
                  refine ⟨fun y hy => ?_, ?_⟩
                  · rcases List.mem_append.mp hy with hy | hy
                    · exact hul y hy
                    · rw [List.mem_singleton] at hy; subst hy; exact hjk
                  · show M.led 0 (u ++ [j]) = xx
                    rw [M.led_append, hue]
                    exact exx
              · rw [List.map_append, List.nodup_append]
                refine ⟨W7.nd, by simp, fun y hy z hzz e => ?_⟩
                have hz' : z = xx := by simpa using hzz
                subst e
                exact hx (hz' ▸ hy)
              · rcases List.mem_append.mp hi with hi | hi
                · have := W7.ln iw hi
                  rw [wlen]
                  omega
                · rw [List.mem_singleton] at hi
                  subst hi
                  rw [wlen, List.length_append]
                  have : u.length ≤ ws5.length := lw
                  show u.length + 1 ≤ ws5.length + 1
                  omega
            have wl9 := W9.len ok
            rw [wlen] at wl9
            refine ⟨q5 ++ [xx], _, ws5 ++ [(xx, u ++ [j])], _, _, rfl, Ex.mut (Ex.mut (e56.trans e7) hpw) nq, by rw [upd_ne nqw.symm]; exact upd_same, by rw [rowV_snoc]; exact upd_same, W9, fun i hi => ?_, (mems 0).mpr (.inl a2), (mems s0).mpr (.inl a3), fun i hi hn hne b hb => ?_, fun b hb => ?_, ?_⟩
            · rcases List.mem_append.mp hi with hi | hi
              · exact (mems i).mpr (.inl (a1 i hi))
              · rw [List.mem_singleton] at hi
                exact (mems i).mpr (.inr hi)
            · rcases (mems i).mp hi with hi | hi
              · exact (mems _).mpr (.inl (a4 i hi (fun z => hn (List.mem_append_left _ z)) hne b hb))
              · exact absurd (List.mem_append_right _ (List.mem_singleton.mpr hi)) hn
            · by_cases z : b = j
              · rw [z, exx]; exact (mems xx).mpr (.inr rfl)
              · exact (mems _).mpr (.inl (a5 b (by omega)))
            · rw [wlen, List.length_append, List.length_singleton]
              omega
          refine ⟨.ref pw, rfl, nV s0, rfl, pw, .ref av, rfl, ?_, .int (j : Nat), rfl, by show 1 ≤ sizeLine; decide, fun t2 ht2 => ⟨av, t2, rowV u, [nV j], rfl, rfl, ?_, SqT.of upd_same, ?_, fun hu0 => ?_, fun _ h => (by cases h), fun hu0 _ p hp => ?_⟩⟩
          · rw [← hu]
            exact DGet.k (k := Sum.inl (s0 : Int)) hw6
          · exact ex_t (Ex.new ht2) hru
          · rw [rowV_len]
            exact Nat.le_of_lt (small1000 (by show u.length + 1 ≤ 1000; omega))
          · have hu1 : u = [] := by
              cases u with
              | nil => rfl
              | cons _ _ => simp [rowV] at hu0
            subst hu1
            exact ⟨.ref pw, rfl, nV xx, rfl, put t2 _ (Ex.new ht2) (SqT.of upd_same)⟩
          · refine ⟨.ref pw, rfl, nV xx, rfl, put p _ ((Ex.new ht2).trans (Ex.new hp)) (SqT.of ?_)⟩
            rw [upd_same, rowV_snoc]
      · rintro σ' H5 ⟨q5, kvs5, ws5, m4, m5, rfl, e5, hw5, hq5, W5, a1, a2, a3, a4, a5, a6⟩
        refine ⟨2 * (M.st.length - ws5.length) + q5.length, by rw [List.length_cons]; omega, q5, kvs5, ws5, _, _, _, rfl, e5, hw5, hq5, W5, a1, a2, fun i hi hn c hcc => ?_, by omega, rfl⟩
        by_cases z : i = s0
        · subst z
          exact a5 c (by rw [rowV_len, M.row_len ok hs0l]; exact hcc)
        · exact a4 i hi hn z c hcc
    · have hq0 : q = [] := by
        cases q with
        | nil => rfl
        | cons s0 q' => simp [rowV] at b
      subst hq0
      exact s_ret (ev_var rfl) fun H4 e4 => k pw H4 kvs ws hpw (e2.trans (e3.trans e4)) (e4 _ _ (e3 _ _ hw2)) (W2.keep (TK.ex (e3.trans e4))) (allCome_of h02 fun i hi b hb => hc2 i hi (by simp) b hb)
end

end Kx
namespace Kx
open PySem PySem.Spec PyProof.Rows L2

open Evl
section
variable {P : Program} {w : World} {K : PySem.W.Frag} {mg : Str → Option Value} {base : Heap}
/-! ### pairs -/
def PairAt (H : Hp) (v : V) (p : Nat × Nat) : Prop := ∃ t, v = .ref t ∧ H t = some (.tup [nV p.1, nV p.2])
def TT (H H' : Hp) : Prop := ∀ b xs, H b = some (.tup xs) → H' b = some (.tup xs)
theorem TT.ex {H H' : Hp} (e : Ex H H') : TT H H' := fun b xs h => e b _ h
theorem TT.upd {H : Hp} {a : Addr} {o o' : HO} (h : H a = some o) (hn : ∀ xs, o ≠ .tup xs) : TT H (L2.upd H a o') := fun b xs q => by
  rw [upd_ne fun e => by subst e; rw [h] at q; exact hn _ (Option.some.inj q)]
  exact q
theorem PairAt.keep {H H' : Hp} (e : TT H H') {v : V} {p : Nat × Nat} (h : PairAt H v p) : PairAt H' v p := let ⟨t, a, b⟩ := h; ⟨t, a, e _ _ b⟩
theorem pairs_keep {H H' : Hp} (e : TT H H') {vs : List V} {ps : List (Nat × Nat)} (h : Paired (PairAt H) vs ps) : Paired (PairAt H') vs ps := Paired.mapP h fun _ _ z => z.keep e
def keyOf (p : Nat × Nat) : List Key := [Sum.inl (p.1 : Int), Sum.inl (p.2 : Int)]
theorem keyOf_inj {p q : Nat × Nat} : keyOf p = keyOf q ↔ p = q := by
  constructor
  · intro h
    unfold keyOf at h
    injection h with h1 h2
    injection h2 with h2 _
    injection h1 with h1
    injection h2 with h2
    exact Prod.ext (Int.ofNat_inj.mp h1) (Int.ofNat_inj.mp h2)
  · intro h
    rw [h]
/-- the dict of a layer -/
def layV (f : M1.PL) : List (List Key × V) := f.map fun x => (keyOf x.1, nV x.2)
theorem layV_len (f : M1.PL) : (layV f).length = f.length := by unfold layV; rw [List.length_map]
theorem lay_none : ∀ (f : M1.PL) (p : Nat × Nat), p ∉ f.map (·.1) → valV (layV f) (keyOf p) = none
  | [], _, _ => rfl
  | x :: f, p, h => by
    show valV ((keyOf x.1, nV x.2) :: layV f) (keyOf p) = none
    rw [valV_neg fun z => h (by rw [List.map_cons, ← keyOf_inj.mp z]; exact List.mem_cons_self)]
    exact lay_none f p fun z => h (List.mem_cons_of_mem _ z)
theorem lay_some : ∀ (f : M1.PL) (p : Nat × Nat), p ∈ f.map (·.1) → ∃ a, valV (layV f) (keyOf p) = some (nV a) ∧ (p, a) ∈ f
  | x :: f, p, h => by
    show ∃ a, valV ((keyOf x.1, nV x.2) :: layV f) (keyOf p) = some (nV a) ∧ (p, a) ∈ x :: f
    by_cases e : x.1 = p
    · subst e
      exact ⟨x.2, valV_pos rfl, List.mem_cons_self⟩
    · rcases List.mem_cons.mp h with z | z
      · exact absurd z.symm e
      · obtain ⟨a, h1, h2⟩ := lay_some f p z
        exact ⟨a, by rw [valV_neg fun z => e (keyOf_inj.mp z)]; exact h1, List.mem_cons_of_mem _ h2⟩
/-- found.setdefault(p, a) -/
theorem lay_add (f : M1.PL) (p : Nat × Nat) (a : Nat) (h : valV (layV f) (keyOf p) = none) : putK (layV f) (keyOf p) (nV a) = layV (M1.addF f p a) := by
  have hn : p ∉ f.map (·.1) := fun z => by
    obtain ⟨b, hb, _⟩ := lay_some f p z
    rw [h] at hb
    cases hb
  rw [putK_new _ h]
  unfold M1.addF layV
  rw [if_neg hn, List.map_append]
  rfl
theorem lay_old (f : M1.PL) (p : Nat × Nat) (a : Nat) {v : V} (h : valV (layV f) (keyOf p) = some v) : f = M1.addF f p a := by
  have hm : p ∈ f.map (·.1) := Classical.byContradiction fun z => by rw [lay_none f p z] at h; cases h
  unfold M1.addF
  rw [if_pos hm]
/-- d.setdefault(pair, letter) as a statement -/
theorem s_layset {σ : L2.St} {H : Hp} {D : Ends} {i : Nat} {ty tx : TE} {d t : Addr} {f : M1.PL} {p : Nat × Nat} {a : Nat} (sd : σ[i]? = some (some (.ref d))) (hd : H d = some (.dT (layV f))) (hl : f.length ≤ 1000)
    (hy : ∀ Q : VK, (∀ t H2, Ex H H2 → H2 t = some (.tup [nV p.1, nV p.2]) → Q (.ref t) H2) → ty σ H Q) (hx : ∀ H2, Ex H H2 → Ev tx σ H2 (nV a)) (k : ∀ H2, Ex H H2 → D.nx σ (upd H2 d (.dT (layV (M1.addF f p a))))) (k2 : ∀ H2, Ex H H2 → H2 d = some (.dT (layV (M1.addF f p a))) → D.nx σ H2) :
    tDrop (tDSetdT (tVar i) ty tx) D σ H :=
  ⟨.ref d, sd, d, rfl, Or.inr ⟨_, Or.inl hd⟩, hy _ fun t H2 e2 ht => hx H2 e2 H2 (Ex.refl H2) _ fun H3 e3 => ⟨layV f, keyOf p, t, (e2.trans e3) _ _ hd, rfl, e3 _ _ ht, by rw [layV_len]; exact small1000 hl,
    fun v hv => k2 H3 (e2.trans e3) (by rw [← lay_old f p a hv]; exact (e2.trans e3) _ _ hd), fun hv => by rw [lay_add f p a hv]; exact k H3 (e2.trans e3)⟩⟩
def sp_unl (K : PySem.W.Frag) : Sp := fun vs H Q _ => ∃ (v : V) (M : M1.Mach) (b : Addr) (refs : List V) (ps : List (Nat × Nat)), vs = [v, .ref b] ∧ MacAt K H v M.st M.an ∧ M.Ok ∧ SqL K H b refs ∧ Paired (PairAt H) refs ps ∧ ps.length ≤ 100 ∧ (∀ p ∈ ps, p.1 < M.st.length ∧ p.2 < M.st.length) ∧
  ∀ p H2 f, H p = none → Ex H H2 → H2 p = some (.dT (layV f)) → M1.Lay (fun p a => M.out p.1 a ≠ M.out p.2 a) M.k ps f → Q (.ref p) H2
theorem has_unlike_letters (T : Txt K mg) {f : Addr} {fd : FuncData} (F : Fun K "unlike_letters" "unlike_letters" s_unlike_letters f fd) (g : mg "unlike_letters" = some (.ref f)) (B : Binds K fd ["machine", "pairs"] []) : Has P w K mg base "unlike_letters" 1 ["machine", "pairs"] (sp_unl K) := by
  refine Has.mk' g F.kp B (F.ok sc_unlike_letters (fun vs H Q E h => ?_) (fun cdv A outer s H vs Q E hr h => ?_))
  · obtain ⟨v, M, b, refs, ps, rfl, _⟩ := h
    rfl
  · obtain ⟨v, M, b, refs, ps, rfl, ⟨a, x, y, rfl, hS, hx, ⟨ay, vy, rfl, hSy, hPy⟩⟩, ok, hb, hP, hl, hlt, k⟩ := h
    have k3 := ok.k3
    have hrl : refs.length = ps.length := Paired.length hP
    refine ⟨_, (pss_cons (ps_set (i := 2) sc_unlike_letters.nd rfl (.inl rfl) (pe_ix (ix_tupK (K := K) rfl) (pv 0) pe_int (fun _ _ => rfl)))
      (pss_cons (ps_set (i := 3) sc_unlike_letters.nd rfl (.inl rfl) pe_dnewT)
      (pss_cons (ps_for PassesOwn.never rfl (pi_listK (K := K) rfl (pv 1)) (pg_tupK (K := K) (n := 2) rfl (by rfl) (pgs_cons (pg_name (i := 4) sc_unlike_letters.nd rfl (.inl rfl)) (pgs_cons (pg_name (i := 5) sc_unlike_letters.nd rfl (.inl rfl)) pgs_nil)))
      (pss_one (ps_for PassesOwn.never rfl (pi_enumT (by rfl) T.b_enumerate (pa_cons (pe_ix (ix_tupK (K := K) rfl) (pv 2) (pv 4) (fun _ _ => rfl)) pa_nil)) (pg_tupK (K := K) (n := 2) rfl (by rfl) (pgs_cons (pg_name (i := 6) sc_unlike_letters.nd rfl (.inl rfl)) (pgs_cons (pg_name (i := 7) sc_unlike_letters.nd rfl (.inl rfl)) pgs_nil)))
      (pss_one (ps_if (pt_cmpR op_ne (pv 7) (pe_ix (ix_tupK (K := K) rfl) (pe_ix (ix_tupK (K := K) rfl) (pv 2) (pv 5) (fun _ _ => rfl)) (pv 6) (fun _ _ => rfl)) (nomark _))
      (pss_one (ps_expr (pe_dsetdT (hu_of hr) (pv 3) (pe_tup (pa_cons (pv 4) (pa_cons (pv 5) pa_nil))) (pv 6) ⟨rfl, rfl, rfl, rfl⟩)))
      pss_nil)))))
      (pss_one (ps_ret (pv 3)))))), ?_⟩
    refine q_asg (ev_op (ev_var rfl) ev_c (rv_ixT hS (atI_nat (j := 1) rfl))) fun H1 e1 => ?_
    refine fun pf hpf => ?_
    have e2 : Ex H (upd H1 pf (.dT [])) := e1.trans (Ex.new hpf)
    have npf : H pf = none := fresh_back e1 hpf
    refine q_forL (ev_var rfl) (ex_l e2 hb) (fun i σ' H' => ∃ (f : M1.PL) (l4 l5 l6 l7 : Option V), σ' = [some (.ref a), some (.ref b), some (.ref ay), some (.ref pf), l4, l5, l6, l7] ∧ Ex H H' ∧ H' pf = some (.dT (layV f)) ∧ M1.LayIn (fun p a => M.out p.1 a ≠ M.out p.2 a) M.k ps i 0 f)
      (fun H3 e3 => ⟨[], none, none, none, none, rfl, e2.trans e3, e3 _ _ upd_same, M1.LayIn.nil⟩) (fun i σ' H' _ ⟨_, _, _, _, _, _, e, _⟩ => ex_l e hb) ?_ ?_
    · rintro i z σ' H3 hz ⟨f, l4, l5, l6, l7, rfl, e3, hf3, L3⟩
      obtain ⟨p, hp, t, rfl, ht⟩ := Paired.get' hP hz
      obtain ⟨h1, h2⟩ := hlt p (List.mem_of_getElem? hp)
      obtain ⟨b1, g1, hB1⟩ := tab_get hPy (M.ans_at ok h1)
      obtain ⟨b2, g2, hB2⟩ := tab_get hPy (M.ans_at ok h2)
      refine ⟨t, _, rfl, SqT.of (e3 _ _ ht), rfl, _, _, rfl, _, _, rfl, rfl, ?_⟩
      refine ⟨.ref ay, rfl, nV p.1, rfl, ay, vy, _, .ref b1, rfl, rfl, ex_t e3 hSy, atI_nat g1, b1, rowV (M.ans p.1), rfl, ex_t e3 hB1, for_enumT (fun j σ' H' => ∃ (f : M1.PL) (l6 l7 : Option V), σ' = [some (.ref a), some (.ref b), some (.ref ay), some (.ref pf), some (nV p.1), some (nV p.2), l6, l7] ∧ Ex H H' ∧ H' pf = some (.dT (layV f)) ∧ M1.LayIn (fun p a => M.out p.1 a ≠ M.out p.2 a) M.k ps i j f)
        ⟨f, l6, l7, rfl, e3, hf3, L3⟩ (fun j σ' H' _ ⟨_, _, _, _, e, _⟩ => ex_t e hB1) ?_ ?_⟩
      · rintro j z t2 σ' H4 hz2 ⟨f4, m6, m7, rfl, e4, hf4, L4⟩ nt
        obtain ⟨c, hc, rfl⟩ := map_of hz2
        have hjk : j < M.k := by
          have := (List.getElem?_eq_some_iff.mp hc).1
          rwa [M.ans_len ok h1] at this
        have ec : c = M.out p.1 j := by
          have := M.out_at ok h1 hjk
          rw [hc] at this
          exact Option.some.inj this
        have e5 : Ex H4 (upd H4 t2 (.tup [.int (j : Nat), nV c])) := Ex.new nt
        have e45 := e4.trans e5
        have hf5 := e5 _ _ hf4
        refine ⟨t2, _, rfl, SqT.of upd_same, rfl, _, _, rfl, _, _, rfl, rfl, ?_⟩
        refine s_when (b := !decide (nV c = nV (M.out p.2 j))) (et_test (ev_op (ev_var rfl) (ev_op (ev_op (ev_var rfl) (ev_var rfl) (rv_ixT (ex_t e45 hSy) (atI_nat g2))) (ev_var rfl) (rv_ixT (ex_t e45 hB2) (atI_nat (rowV_at (M.out_at ok h2 hjk))))) (rv_ne rfl))) (fun bb H6 e6 => ?_) (fun bb H6 e6 => ?_)
        · have gd : M.out p.1 j ≠ M.out p.2 j := fun z => by
            rw [ec, z, decide_eq_true rfl] at bb
            cases bb
          have fl := L4.len
          refine s_layset (t := t) (p := p) (a := j) rfl (e6 _ _ hf5) (by omega) (fun Q q => ⟨nV p.1, rfl, nV p.2, rfl, by show 2 ≤ sizeLine; decide, fun t3 ht3 => q t3 _ (Ex.new ht3) upd_same⟩) (fun _ _ => ev_var rfl) (fun H7 e7 => ?_) (fun H7 e7 h7 => ?_)
          · exact ⟨_, _, _, rfl, Ex.mut ((e45.trans e6).trans e7) npf, upd_same, L4.add hp hjk gd⟩
          · exact ⟨_, _, _, rfl, (e45.trans e6).trans e7, h7, L4.add hp hjk gd⟩
        · have gd : ¬ M.out p.1 j ≠ M.out p.2 j := fun z => by
            have : nV c ≠ nV (M.out p.2 j) := fun q => z (by rw [← ec]; exact Int.ofNat_inj.mp (V.int.inj q))
            rw [decide_eq_false this] at bb
            cases bb
          exact ⟨f4, _, _, rfl, e45.trans e6, e6 _ _ hf5, L4.skip hp gd⟩
      · rintro σ' H4 ⟨f4, m6, m7, rfl, e4, hf4, L4⟩
        rw [rowV_len, M.ans_len ok h1] at L4
        exact ⟨f4, _, _, _, _, rfl, e4, hf4, L4.row⟩
    · rintro σ' H3 ⟨f, l4, l5, l6, l7, rfl, e3, hf3, L3⟩
      rw [hrl] at L3
      exact s_ret (ev_var rfl) fun H4 e4 => k pf H4 f npf (e3.trans e4) (e4 _ _ hf3) L3.done
/-! ### one letter on -/
def sp_behind (K : PySem.W.Frag) : Sp := fun vs H Q _ => ∃ (v : V) (M : M1.Mach) (t : Addr) (p : Nat × Nat) (a : Nat), vs = [v, .ref t, .int (a : Int)] ∧ MacAt K H v M.st M.an ∧ M.Ok ∧ H t = some (.tup [nV p.1, nV p.2]) ∧ p.1 < M.st.length ∧ p.2 < M.st.length ∧ a < M.k ∧
  ∀ q H2, H q = none → Ex H H2 → H2 q = some (.tup [nV (M.go p.1 a), nV (M.go p.2 a)]) → Q (.ref q) H2
theorem has_pair_behind (T : Txt K mg) {f : Addr} {fd : FuncData} (F : Fun K "pair_behind" "pair_behind" s_pair_behind f fd) (g : mg "pair_behind" = some (.ref f)) (B : Binds K fd ["machine", "pair", "letter"] []) : Has P w K mg base "pair_behind" 1 ["machine", "pair", "letter"] (sp_behind K) := by
  refine Has.mk' g F.kp B (F.ok sc_pair_behind (fun vs H Q E h => ?_) (fun cdv A outer s H vs Q E hr h => ?_))
  · obtain ⟨v, M, t, p, c, rfl, _⟩ := h
    rfl
  · obtain ⟨v, M, t, p, c, rfl, ⟨a, x, y, rfl, hS, ⟨ax, vx, rfl, hSx, hPx⟩, hy⟩, ok, ht, h1, h2, hc, k⟩ := h
    obtain ⟨b1, g1, hB1⟩ := tab_get hPx (M.row_at h1)
    obtain ⟨b2, g2, hB2⟩ := tab_get hPx (M.row_at h2)
    refine ⟨_, (pss_cons (ps_set (i := 3) sc_pair_behind.nd rfl (.inl rfl) (pe_ix (ix_tupK (K := K) rfl) (pv 0) pe_int (fun _ _ => rfl)))
      (pss_one (ps_ret (pe_tup (pa_cons (pe_ix (ix_tupK (K := K) rfl) (pe_ix (ix_tupK (K := K) rfl) (pv 3) (pe_ix (ix_tupK (K := K) rfl) (pv 1) pe_int (fun _ _ => rfl)) (fun _ _ => rfl)) (pv 2) (fun _ _ => rfl)) (pa_cons (pe_ix (ix_tupK (K := K) rfl) (pe_ix (ix_tupK (K := K) rfl) (pv 3) (pe_ix (ix_tupK (K := K) rfl) (pv 1) pe_int (fun _ _ => rfl)) (fun _ _ => rfl)) (pv 2) (fun _ _ => rfl)) pa_nil)))))), ?_⟩
    refine q_asg (ev_op (ev_var rfl) ev_c (rv_ixT hS (atI_nat (j := 0) rfl))) fun H1 e1 => ?_
    have ht1 : SqT K H1 t [nV p.1, nV p.2] := SqT.of (e1 _ _ ht)
    exact s_retU (eu_tup (ea_cons (ev_op (ev_op (ev_var rfl) (ev_op (ev_var rfl) ev_c (rv_ixT ht1 (atI_nat (j := 0) rfl))) (rv_ixT (ex_t e1 hSx) (atI_nat g1))) (ev_var rfl) (rv_ixT (ex_t e1 hB1) (atI_nat (rowV_at (M.go_at ok h1 hc)))))
      (ea_cons (ev_op (ev_op (ev_var rfl) (ev_op (ev_var rfl) ev_c (rv_ixT ht1 (atI_nat (j := 1) rfl))) (rv_ixT (ex_t e1 hSx) (atI_nat g2))) (ev_var rfl) (rv_ixT (ex_t e1 hB2) (atI_nat (rowV_at (M.go_at ok h2 hc))))) ea_nil)) (by show 2 ≤ 100000; decide)) fun q H2 hq e2 h2' => k q H2 (fresh_back e1 hq) (e1.trans e2) h2'
def sp_into (K : PySem.W.Frag) : Sp := fun vs H Q _ => ∃ (v : V) (M : M1.Mach) (b d : Addr) (refs : List V) (ps : List (Nat × Nat)) (e : M1.PL), vs = [v, .ref b, .ref d] ∧ MacAt K H v M.st M.an ∧ M.Ok ∧ SqL K H b refs ∧ Paired (PairAt H) refs ps ∧ ps.length ≤ 100 ∧ (∀ p ∈ ps, p.1 < M.st.length ∧ p.2 < M.st.length) ∧ H d = some (.dT (layV e)) ∧
  ∀ p H2 f, H p = none → Ex H H2 → H2 p = some (.dT (layV f)) → M1.Lay (fun p a => (M.go p.1 a, M.go p.2 a) ∈ e.map (·.1)) M.k ps f → Q (.ref p) H2
theorem lay_get {H : Hp} {d t : Addr} {f : M1.PL} {p : Nat × Nat} (hd : H d = some (.dT (layV f))) (ht : H t = some (.tup [nV p.1, nV p.2])) : DGet H d (.ref t) (valV (layV f) (keyOf p)) := DGet.t hd ht
theorem lay_isSome (f : M1.PL) (p : Nat × Nat) : (valV (layV f) (keyOf p)).isSome = decide (p ∈ f.map (·.1)) := by
  by_cases h : p ∈ f.map (·.1)
  · obtain ⟨a, e, _⟩ := lay_some f p h
    rw [e, decide_eq_true h]
    rfl
  · rw [lay_none f p h, decide_eq_false h]
    rfl
theorem has_letters_into (T : Txt K mg) (h_pair_behind : Has P w K mg base "pair_behind" 1 ["machine", "pair", "letter"] (sp_behind K)) {f : Addr} {fd : FuncData} (F : Fun K "letters_into" "letters_into" s_letters_into f fd) (g : mg "letters_into" = some (.ref f)) (B : Binds K fd ["machine", "pairs", "ends"] []) :
    Has P w K mg base "letters_into" 2 ["machine", "pairs", "ends"] (sp_into K) := by
  refine Has.mk' g F.kp B (F.ok sc_letters_into (fun vs H Q E h => ?_) (fun cdv A outer s H vs Q E hr h => ?_))
  · obtain ⟨v, M, b, d, refs, ps, e, rfl, _⟩ := h
    rfl
  · obtain ⟨v, M, b, d, refs, ps, eL, rfl, hM, ok, hb, hP, hl, hlt, hd, k⟩ := h
    obtain ⟨a, x, y, rfl, hS, ⟨ax, vx, rfl, hSx, hPx⟩, hy⟩ := id hM
    have k3 := ok.k3
    have hrl : refs.length = ps.length := Paired.length hP
    obtain ⟨r0, hr0⟩ := row0 ok
    obtain ⟨a0, g0, hS0⟩ := tab_get hPx r0
    refine ⟨_, (pss_cons (ps_set (i := 3) sc_letters_into.nd rfl (.inl rfl) pe_dnewT)
      (pss_cons (ps_for PassesOwn.never rfl (pi_listK (K := K) rfl (pv 1)) (pg_name (i := 4) sc_letters_into.nd rfl (.inl rfl))
      (pss_one (ps_for PassesOwn.never rfl (pi_range1 (by rfl) T.b_range (pa_cons (pe_callB (call_lenK (K := K) rfl) (by rfl) T.b_len bt_len (pa_cons (pe_ix (ix_tupK (K := K) rfl) (pe_ix (ix_tupK (K := K) rfl) (pv 0) pe_int (fun _ _ => rfl)) pe_int (fun _ _ => rfl)) pa_nil)) pa_nil)) (pg_name (i := 5) sc_letters_into.nd rfl (.inl rfl))
      (pss_one (ps_if (pt_cmp (pc_din (hu_of hr) (pe_has h_pair_behind (hr.mono (by first | decide | exact Nat.le_refl _)) (by rfl) (pa_cons (pv 0) (pa_cons (pv 4) (pa_cons (pv 5) pa_nil)))) (pv 2)))
      (pss_one (ps_expr (pe_dsetdT (hu_of hr) (pv 3) (pv 4) (pv 5) ⟨rfl, rfl, rfl, rfl⟩)))
      pss_nil)))))
      (pss_one (ps_ret (pv 3))))), ?_⟩
    refine fun pf hpf => ?_
    have e2 : Ex H (upd H pf (.dT [])) := Ex.new hpf
    refine q_forL (ev_var rfl) (ex_l e2 hb) (fun i σ' H' => ∃ (f : M1.PL) (l4 l5 : Option V), σ' = [some (.ref a), some (.ref b), some (.ref d), some (.ref pf), l4, l5] ∧ Ex H H' ∧ H' pf = some (.dT (layV f)) ∧ M1.LayIn (fun p a => (M.go p.1 a, M.go p.2 a) ∈ eL.map (·.1)) M.k ps i 0 f)
      (fun H3 e3 => ⟨[], none, none, rfl, e2.trans e3, e3 _ _ upd_same, M1.LayIn.nil⟩) (fun i σ' H' _ ⟨_, _, _, _, e, _⟩ => ex_l e hb) ?_ ?_
    · rintro i z σ' H3 hz ⟨f, l4, l5, rfl, e3, hf3, L3⟩
      obtain ⟨p, hp, t, rfl, ht⟩ := Paired.get' hP hz
      obtain ⟨h1, h2⟩ := hlt p (List.mem_of_getElem? hp)
      refine s_forR1 (D := { nx := _, rt := _, bk := _, ct := _ }) (n := ((rowV (M.row 0)).length : Int)) (ea_cons (ev_lenT (ev_op (ev_op (ev_var rfl) ev_c (rv_ixT (ex_t e3 hS) (atI_nat (j := 0) rfl))) ev_c (rv_ixT (ex_t e3 hSx) (atI_nat (j := 0) g0))) (ex_t e3 hS0)) ea_nil) ⟨by omega, by rw [rowV_len]; omega⟩
        (fun j σ' H' => ∃ (f : M1.PL) (l5 : Option V), σ' = [some (.ref a), some (.ref b), some (.ref d), some (.ref pf), some (.ref t), l5] ∧ Ex H H' ∧ H' pf = some (.dT (layV f)) ∧ M1.LayIn (fun p a => (M.go p.1 a, M.go p.2 a) ∈ eL.map (·.1)) M.k ps i j f)
        (fun H4 e4 => ⟨f, l5, rfl, e3.trans e4, e4 _ _ hf3, L3⟩) ?_ ?_
      · rintro j σ' H4 hj ⟨f4, m5, rfl, e4, hf4, L4⟩
        have hjk : j < M.k := by rw [rowV_len, hr0] at hj; omega
        refine s_when (b := decide ((M.go p.1 j, M.go p.2 j) ∈ eL.map (·.1))) (fun H5 e5 Q q => ?_) (fun bb H6 e6 => ?_) (fun bb H6 e6 => ?_)
        · have e45 := e4.trans e5
          refine ⟨.ref a, rfl, .ref t, rfl, .int (j : Int), rfl, .ref a, M, t, p, j, rfl, hM.keep (TK.ex e45), ok, e45 _ _ ht, h1, h2, hjk, fun q2 H6 hq2 e6 h6 => ⟨.ref d, rfl, d, _, rfl, lay_get (p := (M.go p.1 j, M.go p.2 j)) ((e45.trans e6) _ _ hd) h6, _, rfl, ?_⟩⟩
          rw [lay_isSome]
          exact q H6 e6
        · have fl := L4.len
          have gd := of_decide_eq_true bb
          refine s_layset (t := t) (p := p) (a := j) rfl (e6 _ _ hf4) (by omega) (fun Q q => ⟨.ref t, rfl, q t _ (Ex.refl _) ((e4.trans e6) _ _ ht)⟩) (fun _ _ => ev_var rfl) (fun H7 e7 => ?_) (fun H7 e7 h7 => ?_)
          · exact ⟨_, _, rfl, Ex.mut ((e4.trans e6).trans e7) hpf, upd_same, L4.add hp hjk gd⟩
          · exact ⟨_, _, rfl, (e4.trans e6).trans e7, h7, L4.add hp hjk gd⟩
        · exact ⟨f4, _, rfl, e4.trans e6, e6 _ _ hf4, L4.skip hp (of_decide_eq_false bb)⟩
      · rintro σ' H4 ⟨f4, m5, rfl, e4, hf4, L4⟩
        rw [Int.toNat_natCast, rowV_len, hr0] at L4
        exact ⟨f4, _, _, rfl, e4, hf4, L4.row⟩
    · rintro σ' H3 ⟨f, l4, l5, rfl, e3, hf3, L3⟩
      rw [hrl] at L3
      exact s_ret (ev_var rfl) fun H4 e4 => k pf H4 f hpf (e3.trans e4) (e4 _ _ hf3) L3.done
end

end Kx
namespace Kx
open PySem PySem.Spec PyProof.Rows L2

open Evl
section
variable {P : Program} {w : World} {K : PySem.W.Frag} {mg : Str → Option Value} {base : Heap}
/-! ### the layers -/
theorem yesT {σ : L2.St} {H : Hp} {A B : Hp → Prop} (h : A H) : tYes σ H fun b H3 => if b = true then A H3 else B H3 := by
  show if true = true then A H else B H
  rw [if_pos rfl]
  exact h
def DicAt (H : Hp) (v : V) (f : M1.PL) : Prop := ∃ d, v = .ref d ∧ H d = some (.dT (layV f))
theorem dics_keep {H H' : Hp} (e : Ex H H') {vs : List V} {fs : List M1.PL} (h : Paired (DicAt H) vs fs) : Paired (DicAt H') vs fs := Paired.mapP h fun _ _ ⟨d, a, b⟩ => ⟨d, a, e _ _ b⟩
/-- all pairs, the first states is -/
def pairsOf (is : List Nat) (n : Nat) : List (Nat × Nat) := is.flatMap fun i => (List.range n).map fun j => (i, j)
theorem pairsOf_snoc (is : List Nat) (i n : Nat) : pairsOf (is ++ [i]) n = pairsOf is n ++ (List.range n).map fun j => (i, j) := by unfold pairsOf; rw [List.flatMap_append]; simp
theorem pairsOf_mem {is : List Nat} {n : Nat} {p : Nat × Nat} : p ∈ pairsOf is n ↔ p.1 ∈ is ∧ p.2 < n := by
  unfold pairsOf
  rw [List.mem_flatMap]
  constructor
  · rintro ⟨i, hi, h⟩
    obtain ⟨j, hj, rfl⟩ := List.mem_map.mp h
    exact ⟨hi, List.mem_range.mp hj⟩
  · rintro ⟨h1, h2⟩
    exact ⟨p.1, h1, List.mem_map.mpr ⟨p.2, List.mem_range.mpr h2, rfl⟩⟩
theorem pairsOf_len (is : List Nat) (n : Nat) : (pairsOf is n).length = is.length * n := by
  induction is with
  | nil => simp [pairsOf]
  | cons i is ih =>
    show ((i :: is).flatMap _).length = _
    rw [List.flatMap_cons, List.length_append, List.length_map, List.length_range, List.length_cons, Nat.succ_mul]
    unfold pairsOf at ih
    omega
def sp_layers (K : PySem.W.Frag) : Sp := fun vs H Q _ => ∃ (v : V) (M : M1.Mach), vs = [v] ∧ MacAt K H v M.st M.an ∧ M.Ok ∧
  ∀ p H2 refs fs ps, H p = none → Ex H H2 → H2 p = some (.lst refs) → Paired (DicAt H2) refs fs → M.Layers fs → M.Ends ps fs → M.AllP ps → fs.length ≤ 37 → Q (.ref p) H2
theorem has_late_layers (T : Txt K mg) (h_ways_to_states : Has P w K mg base "ways_to_states" 1 ["machine"] (sp_ways K)) (h_unlike_letters : Has P w K mg base "unlike_letters" 1 ["machine", "pairs"] (sp_unl K)) (h_letters_into : Has P w K mg base "letters_into" 2 ["machine", "pairs", "ends"] (sp_into K)) {f : Addr} {fd : FuncData} (F : Fun K "late_layers" "late_layers" s_late_layers f fd) (g : mg "late_layers" = some (.ref f)) (B : Binds K fd ["machine"] []) : Has P w K mg base "late_layers" 3 ["machine"] (sp_layers K) := by
  refine Has.mk' g F.kp B (F.ok sc_late_layers (fun vs H Q E h => ?_) (fun cdv A outer s H vs Q E hr h => ?_))
  · obtain ⟨v, M, rfl, _⟩ := h
    rfl
  · obtain ⟨v, M, rfl, hM, ok, k⟩ := h
    obtain ⟨a, x, y, rfl, hS, ⟨ax, vx, rfl, hSx, hPx⟩, hy⟩ := id hM
    have n6 := ok.n6
    have n1 := ok.n1
    have hvl : vx.length = M.st.length := Paired.length hPx
    refine ⟨_, (pss_cons (ps_setLc2 (i := 1) (own := [("one", 4), ("other", 5)]) (vs1 := [5]) (by rfl) sc_late_layers.nd rfl rfl (sw_true rfl rfl rfl (by decide +kernel)) (pi_keys (pe_frz (pe_has h_ways_to_states (hr.mono (by first | decide | exact Nat.le_refl _)) (by rfl) (pa_cons (pv 0) pa_nil)))) (blkOk_by (N := N_late_layers) (sc := defScope s_late_layers) (by decide +kernel)) (by decide) (fun _ _ _ _ _ => (pg_name (i := 4) sc_late_layers.nd rfl (.inl rfl))) (fun _ _ _ _ _ => pts_nil) (fun _ _ _ _ _ => (pi_range1 (by rfl) T.b_range (pa_cons (pe_callB (call_lenK (K := K) rfl) (by rfl) T.b_len bt_len (pa_cons (pe_ix (ix_tupK (K := K) rfl) (pv 0) pe_int (fun _ _ => rfl)) pa_nil)) pa_nil))) (fun _ _ _ _ _ => (pg_name (i := 5) sc_late_layers.nd rfl (.inl rfl))) (fun _ _ _ _ _ => pts_nil) (fun _ _ _ _ _ => (pe_tup (pa_cons (pv 4) (pa_cons (pv 5) pa_nil)))))
      (pss_cons (ps_set (i := 2) sc_late_layers.nd rfl (.inl rfl) (pe_lst pa_nil))
      (pss_cons (ps_set (i := 3) sc_late_layers.nd rfl (.inl rfl) (pe_has h_unlike_letters (hr.mono (by first | decide | exact Nat.le_refl _)) (by rfl) (pa_cons (pv 0) (pa_cons (pv 1) pa_nil))))
      (pss_cons (ps_while PassesOwn.never (PW.pt (pw_and (pt_truthT (pv 3)) (pw_and1 (pt_cmpR op_le (pe_callB (call_lenK (K := K) rfl) (by rfl) T.b_len bt_len (pa_cons (pv 2) pa_nil)) (pe_callB (call_lenK (K := K) rfl) (by rfl) T.b_len bt_len (pa_cons (pv 1) pa_nil)) (nomark _)))))
      (pss_cons (ps_expr (pe_bm PySem.F.plainAttrs_list PySem.F.slot_list_append PySem.F.type_list_append mt_append (pv 2) (pa_cons (pv 3) pa_nil)))
      (pss_one (ps_set (i := 3) sc_late_layers.nd rfl (.inl rfl) (pe_has h_letters_into (hr.mono (by first | decide | exact Nat.le_refl _)) (by rfl) (pa_cons (pv 0) (pa_cons (pv 1) (pa_cons (pv 3) pa_nil))))))))
      (pss_one (ps_ret (pv 2))))))), ?_⟩
    refine ⟨.ref a, rfl, .ref a, M, rfl, hM, ok, fun d H1 kvs ws hd e1 h1 W1 A1 => ⟨d, _, rfl, h1, trivial, fun od => ⟨d, od, rfl, .inl ⟨kvs, upd_same, fun D hD => ?_⟩⟩⟩⟩
    have wl := W1.len ok
    have kl : kvs.length = ws.length := Paired.length W1.at_
    have e2 : Ex H (upd H1 d (.frz od (.dK kvs))) := Ex.mut e1 hd
    refine ⟨fun i m H' => i ≤ kvs.length ∧ m = kvs.length - i ∧ Ex (upd H1 d (.frz od (.dK kvs))) H' ∧ ∃ refs, H' D = some (.lst refs) ∧ Paired (PairAt H') refs (pairsOf ((ws.map (·.1)).take i) M.st.length), ⟨_, Nat.zero_le _, rfl, Ex.new hD, [], upd_same, .nil⟩, ?_⟩
    rintro i m H2 ⟨hi, rfl, e3, refs, hD2, hR⟩
    have e23 := e2.trans e3
    by_cases hi2 : i < kvs.length
    · refine .inr ⟨⟨e3 _ _ upd_same, hi2⟩, fun H' => ∃ m', m' < kvs.length - i ∧ i + 1 ≤ kvs.length ∧ m' = kvs.length - (i + 1) ∧ Ex (upd H1 d (.frz od (.dK kvs))) H' ∧ ∃ refs, H' D = some (.lst refs) ∧ Paired (PairAt H') refs (pairsOf ((ws.map (·.1)).take (i + 1)) M.st.length), fun H' h => h, ?_⟩
      rintro x H3 ⟨rfl, kx, vv, hkv, rfl⟩
      obtain ⟨iw, hiw, hkey, _⟩ := Paired.get' W1.at_ hkv
      obtain ⟨i0, u0⟩ := iw
      have hkey' : kx = Sum.inl (i0 : Int) := hkey
      subst hkey'
      refine ⟨rfl, yesT ?_⟩
      refine (ea_cons (ev_lenT (K := K) (ev_op (ev_var rfl) ev_c (rv_ixT (K := K) (ex_t e23 hS) (atI_nat (j := 0) rfl))) (ex_t e23 hSx)) ea_nil) _ (Ex.refl _) _ fun H4 e4 => ⟨_, rfl, by omega, by omega, ?_⟩
      have e34 := e3.trans e4
      have hR4 := pairs_keep (TT.ex e4) hR
      have tk : ((ws.map (·.1)).take (i + 1)) = (ws.map (·.1)).take i ++ [i0] := M1.take_succ' (by rw [List.getElem?_map, hiw]; rfl)
      refine ⟨fun j k H' => j ≤ M.st.length ∧ k = M.st.length - j ∧ Ex (upd H1 d (.frz od (.dK kvs))) H' ∧ ∃ refs, H' D = some (.lst refs) ∧ Paired (PairAt H') refs (pairsOf ((ws.map (·.1)).take i) M.st.length ++ (List.range j).map fun j => (i0, j)), ⟨_, Nat.zero_le _, rfl, e34, refs, e4 _ _ hD2, by simpa using hR4⟩, ?_⟩
      rintro j k H5 ⟨hj, rfl, e5, refs5, hD5, hR5⟩
      by_cases hj2 : j < M.st.length
      · refine .inr ⟨by show j < _; omega, fun H' => ∃ k', k' < M.st.length - j ∧ j + 1 ≤ M.st.length ∧ k' = M.st.length - (j + 1) ∧ Ex (upd H1 d (.frz od (.dK kvs))) H' ∧ ∃ refs, H' D = some (.lst refs) ∧ Paired (PairAt H') refs (pairsOf ((ws.map (·.1)).take i) M.st.length ++ (List.range (j + 1)).map fun j => (i0, j)), fun H' h => h, ?_⟩
        rintro x H6 ⟨rfl, rfl⟩
        refine ⟨rfl, yesT ?_⟩
        refine eu_tup (ea_cons (x := .int (i0 : Int)) (ev_var rfl) (ea_cons (x := .int (0 + (j : Int))) (ev_var rfl) ea_nil)) (by show 2 ≤ 100000; decide) _ (Ex.refl _) _ fun t H7 ht e7 h7 => ⟨refs5, e7 _ _ hD5, ?_, _, by omega, by omega, rfl, Ex.mut (e5.trans e7) hD, _, upd_same, ?_⟩
        · have hl := Paired.length hR5
          rw [List.length_append, pairsOf_len, List.length_map, List.length_range, List.length_take, List.length_map] at hl
          have hm : min i ws.length * M.st.length ≤ 6 * 6 := Nat.mul_le_mul (by omega) n6
          exact small1000 (by omega)
        · have h7' : H7 t = some (.tup [nV i0, nV j]) := by rw [h7, Int.zero_add]; rfl
          have t8 : TT H7 (upd H7 D (.lst (refs5 ++ [.ref t]))) := TT.upd (e7 _ _ hD5) (fun _ z => by cases z)
          rw [List.range_succ, List.map_append, ← List.append_assoc]
          exact Paired.snoc (pairs_keep t8 (pairs_keep (TT.ex e7) hR5)) ⟨t, rfl, t8 _ _ h7'⟩
      · refine .inl ⟨by show _ ≤ j; omega, _, by omega, by omega, rfl, e5, refs5, hD5, ?_⟩
        rw [tk, pairsOf_snoc]
        rw [show j = M.st.length by omega] at hR5
        exact hR5
    · refine .inl ⟨⟨e3 _ _ upd_same, by omega⟩, ?_⟩
      rw [List.take_of_length_le (by rw [List.length_map]; omega)] at hR
      -- the pairs
      have hA : M.AllP (pairsOf (ws.map (·.1)) M.st.length) := fun p => by
        rw [pairsOf_mem]
        refine ⟨fun ⟨h1, h2⟩ => ⟨?_, h2⟩, fun ⟨h1, h2⟩ => ⟨A1 _ h1, h2⟩⟩
        obtain ⟨iw, hm, he⟩ := List.mem_map.mp h1
        obtain ⟨h3, h4⟩ := W1.way iw hm
        exact ⟨iw.2, h3, h4.trans he⟩
      have hPl : (pairsOf (ws.map (·.1)) M.st.length).length ≤ 36 := by
        rw [pairsOf_len, List.length_map]
        exact Nat.mul_le_mul (show ws.length ≤ 6 by omega) n6
      have hlt : ∀ p ∈ pairsOf (ws.map (·.1)) M.st.length, p.1 < M.st.length ∧ p.2 < M.st.length := fun p hp => by
        obtain ⟨h1, h2⟩ := (hA p).mp hp
        exact ⟨h1.lt ok, h2⟩
      generalize pairsOf (ws.map (·.1)) M.st.length = ps at hR hA hPl hlt
      have hrl : refs.length = ps.length := Paired.length hR
      have nD : H D = none := fresh_back e2 hD
      refine q_asgL (el_lst ea_nil (by show 0 ≤ 100000; decide)) fun L H4 hL e4 h4 => ?_
      have e24 := e23.trans e4
      have nL : H L = none := fresh_back e23 hL
      refine ⟨.ref a, rfl, .ref D, rfl, .ref a, M, D, refs, ps, rfl, hM.keep (TK.ex e24), ok, sq_of (e4 _ _ hD2), pairs_keep (TT.ex e4) hR, by omega, hlt, fun q H5 f hq e5 h5 L5 => ?_⟩
      have e25 := e24.trans e5
      obtain ⟨L1, F1⟩ := M.layAt_one hA L5
      refine q_while (fun m σ' H' => ∃ (fs : List M1.PL) (f : M1.PL) (lrefs : List V) (q : Addr), σ' = [some (.ref a), some (.ref D), some (.ref L), some (.ref q), none, none] ∧ Ex H H' ∧ H' D = some (.lst refs) ∧ Paired (PairAt H') refs ps ∧ H' L = some (.lst lrefs) ∧ Paired (DicAt H') lrefs fs ∧ H' q = some (.dT (layV f)) ∧ M.LayAt (fs.length + 1) f ∧ M.Layers fs ∧ (f ≠ [] → M.Layers (fs ++ [f])) ∧ fs.length ≤ ps.length + 1 ∧ m = ps.length + 1 - fs.length) _
        ⟨[], f, [], q, rfl, e25, e5 _ _ (e4 _ _ hD2), pairs_keep (TT.ex (e4.trans e5)) hR, e5 _ _ h4, .nil, h5, L1, M1.Mach.Layers.nil, fun hn => M1.Mach.Layers.one L1 F1 hn, Nat.zero_le _, rfl⟩ ?_
      rintro m σ' H6 ⟨fs, f, lrefs, q, rfl, e6, hD6, hR6, hL6, hF6, hq6, LA, LS, LN, hfl, rfl⟩
      have hll : lrefs.length = fs.length := Paired.length hF6
      refine ⟨!(layV f).isEmpty && decide ((lrefs.length : Int) ≤ (refs.length : Int)), et_and (fun H7 e7 Q q' => ⟨.ref q, rfl, q, _, rfl, e7 _ _ hq6, q' H7 (Ex.refl _)⟩) (fun _ => et_test (ev_op (ev_len (K := K) (ev_var rfl) (sq_of hL6)) (ev_len (K := K) (ev_var rfl) (sq_of hD6)) rv_I0)), fun bb H7 e7 => ?_, fun bb H7 e7 => ?_⟩
      · rw [Bool.and_eq_true] at bb
        have hlen : fs.length ≤ ps.length := by
          have := of_decide_eq_true bb.2
          omega
        have hfn : f ≠ [] := fun z => by subst z; exact absurd bb.1 (by decide)
        have e67 := e6.trans e7
        refine ⟨fun σ2 H' => ∃ m', m' < ps.length + 1 - fs.length ∧ ∃ (fs : List M1.PL) (f : M1.PL) (lrefs : List V) (q : Addr), σ2 = [some (.ref a), some (.ref D), some (.ref L), some (.ref q), none, none] ∧ Ex H H' ∧ H' D = some (.lst refs) ∧ Paired (PairAt H') refs ps ∧ H' L = some (.lst lrefs) ∧ Paired (DicAt H') lrefs fs ∧ H' q = some (.dT (layV f)) ∧ M.LayAt (fs.length + 1) f ∧ M.Layers fs ∧ (f ≠ [] → M.Layers (fs ++ [f])) ∧ fs.length ≤ ps.length + 1 ∧ m' = ps.length + 1 - fs.length, fun σ2 H' h => h, ?_⟩
        have hL7 := e7 _ _ hL6
        have hq7 := e7 _ _ hq6
        have hD7 := e7 _ _ hD6
        refine ⟨.ref L, rfl, Or.inl ⟨rfl, _, sq_of hL7⟩, .ref q, rfl, L, _, _, rfl, rfl, hL7, small1000 (by omega), ?_⟩
        have nqL : q ≠ L := fun z => by subst z; rw [hL7] at hq7; cases hq7
        have nDL : D ≠ L := fun z => by subst z; exact absurd hL (by rw [hD2]; exact fun w => by cases w)
        have e8 : Ex H (upd H7 L (.lst (lrefs ++ [.ref q]))) := Ex.mut e67 nL
        have t8 : TT H7 (upd H7 L (.lst (lrefs ++ [.ref q]))) := TT.upd hL7 (fun _ z => by cases z)
        have hq8 : (upd H7 L (.lst (lrefs ++ [.ref q]))) q = some (.dT (layV f)) := by rw [upd_ne nqL]; exact hq7
        have hD8 : (upd H7 L (.lst (lrefs ++ [.ref q]))) D = some (.lst refs) := by rw [upd_ne nDL]; exact hD7
        have hF8 : Paired (DicAt (upd H7 L (.lst (lrefs ++ [.ref q])))) lrefs fs := Paired.mapP (dics_keep e7 hF6) fun v f ⟨d, hd, h⟩ => ⟨d, hd, by rw [upd_ne (fun z => by subst z; rw [hL7] at h; cases h)]; exact h⟩
        have hR8 := pairs_keep t8 (pairs_keep (TT.ex e7) hR6)
        refine ⟨.ref a, rfl, .ref D, rfl, .ref q, rfl, .ref a, M, D, q, refs, ps, f, rfl, hM.keep (TK.ex e8), ok, sq_of hD8, hR8, by omega, hlt, hq8, fun q9 H9 f9 hq9 e9 h9 L9 => ?_⟩
        obtain ⟨L10, S10⟩ := M.layAt_succ ok hA LA L9
        refine ⟨_, ?_, fs ++ [f], f9, lrefs ++ [.ref q], q9, rfl, e8.trans e9, e9 _ _ hD8, pairs_keep (TT.ex e9) hR8, e9 _ _ upd_same, Paired.snoc (dics_keep e9 hF8) ⟨q, rfl, e9 _ _ hq8⟩, h9, ?_, LN hfn, fun hn => (LN hfn).snoc L10 S10 hn, ?_, rfl⟩
        · rw [List.length_append, List.length_singleton]; omega
        · rw [List.length_append, List.length_singleton]; exact L10
        · rw [List.length_append, List.length_singleton]; omega
      · have hE : M.Ends ps fs := by
          by_cases hf : f = []
          · exact .inl (LA.none hf)
          · refine .inr ?_
            have h1 : (layV f).isEmpty = false := by
              cases f with
              | nil => exact absurd rfl hf
              | cons _ _ => rfl
            rw [h1, Bool.not_false, Bool.true_and] at bb
            have := of_decide_eq_false bb
            omega
        exact s_ret (ev_var rfl) fun H8 e8 => k L H8 lrefs fs ps nL (e6.trans (e7.trans e8)) (e8 _ _ (e7 _ _ hL6)) (dics_keep (e7.trans e8) hF6) LS hE hA (by omega)
end

end Kx
namespace Kx
open PySem PySem.Spec PyProof.Rows L2

open Evl
section
variable {P : Program} {w : World} {K : PySem.W.Frag} {mg : Str → Option Value} {base : Heap}
/-! ### the walk -/
def StepAt (H : Hp) (v : V) (x : (Nat × Nat) × Nat) : Prop := ∃ t u, v = .ref t ∧ H t = some (.tup [.ref u, nV x.2]) ∧ H u = some (.tup [nV x.1.1, nV x.1.2])
theorem steps_keep {H H' : Hp} (e : TT H H') {vs : List V} {ps : M1.PL} (h : Paired (StepAt H) vs ps) : Paired (StepAt H') vs ps := Paired.mapP h fun _ _ ⟨t, u, a, b, c⟩ => ⟨t, u, a, e _ _ b, e _ _ c⟩
def sp_walk (K : PySem.W.Frag) : Sp := fun vs H Q _ => ∃ (v : V) (M : M1.Mach), vs = [v] ∧ MacAt K H v M.st M.an ∧ M.Ok ∧
  ∀ p H2 refs w, H p = none → Ex H H2 → H2 p = some (.lst refs) → Paired (StepAt H2) refs w → M.Wk w → w.length ≤ 37 → Q (.ref p) H2
theorem has_late_walk (T : Txt K mg) (h_pair_behind : Has P w K mg base "pair_behind" 1 ["machine", "pair", "letter"] (sp_behind K)) (h_late_layers : Has P w K mg base "late_layers" 3 ["machine"] (sp_layers K)) {f : Addr} {fd : FuncData} (F : Fun K "late_walk" "late_walk" s_late_walk f fd) (g : mg "late_walk" = some (.ref f)) (B : Binds K fd ["machine"] []) : Has P w K mg base "late_walk" 4 ["machine"] (sp_walk K) := by
  refine Has.mk' g F.kp B (F.ok sc_late_walk (fun vs H Q E h => ?_) (fun cdv A outer s H vs Q E hr h => ?_))
  · obtain ⟨v, M, rfl, _⟩ := h
    rfl
  · obtain ⟨v, M, rfl, hM, ok, k⟩ := h
    obtain ⟨a, x, y, rfl, hS, ⟨ax, vx, rfl, hSx, hPx⟩, hy⟩ := id hM
    refine ⟨_, (pss_cons (ps_set (i := 1) sc_late_walk.nd rfl (.inl rfl) (pe_has h_late_layers (hr.mono (by first | decide | exact Nat.le_refl _)) (by rfl) (pa_cons (pv 0) pa_nil)))
      (pss_cons (ps_set (i := 2) sc_late_walk.nd rfl (.inl rfl) (pe_lst pa_nil))
      (pss_cons (ps_if (pt_tru (K := K) rfl (pv 1))
      (pss_cons (ps_set (i := 3) sc_late_walk.nd rfl (.inl rfl) (pe_ix (ix_listK (K := K) rfl) (pe_callTy (call_list_dT rfl) (by rfl) T.b_list bt_list (pa_cons (pe_ix (ix_listK (K := K) rfl) (pv 1) (pe_un un_neg pe_int) (fun _ _ => rfl)) pa_nil)) pe_int (fun _ _ => rfl)))
      (pss_one (ps_for PassesOwn.never rfl (pi_reversed (by rfl) T.b_reversed (pa_cons (pv 1) pa_nil)) (pg_name (i := 4) sc_late_walk.nd rfl (.inl rfl))
      (pss_cons (ps_expr (pe_bm PySem.F.plainAttrs_list PySem.F.slot_list_append PySem.F.type_list_append mt_append (pv 2) (pa_cons (pe_tup (pa_cons (pv 3) (pa_cons (pe_dget (hu_of hr) (pv 4) (pv 3) (fun _ _ => rfl)) pa_nil))) pa_nil)))
      (pss_one (ps_set (i := 3) sc_late_walk.nd rfl (.inl rfl) (pe_has h_pair_behind (hr.mono (by first | decide | exact Nat.le_refl _)) (by rfl) (pa_cons (pv 0) (pa_cons (pv 3) (pa_cons (pe_dget (hu_of hr) (pv 4) (pv 3) (fun _ _ => rfl)) pa_nil))))))))))
      pss_nil)
      (pss_one (ps_ret (pv 2)))))), ?_⟩
    refine ⟨.ref a, rfl, .ref a, M, rfl, hM, ok, fun L H1 lrefs fs ps hL e1 hL1 hF1 LS hE hA hl => ?_⟩
    refine q_asgL (el_lst ea_nil (by show 0 ≤ 100000; decide)) fun W H2 hW e2 hW2 => ?_
    have hL2 := e2 _ _ hL1
    have hF2 := dics_keep e2 hF1
    refine q_when (b := !lrefs.isEmpty) (et_tru (ev_var rfl) (fun H3 e3 => tru_list (sq_of (e3 _ _ hL2)))) (fun bb H3 e3 => ?_) (fun bb H3 e3 => ?_)
    · have hfn : fs ≠ [] := fun z => by
        subst z
        cases hF1
        exact absurd bb (by decide)
      have hll : lrefs.length = fs.length := Paired.length hF2
      have hpos : 0 < fs.length := List.length_pos_iff.mpr hfn
      have hlt : fs.length - 1 < fs.length := by omega
      have hlast : fs[fs.length - 1]? = some (fs[fs.length - 1]) := List.getElem?_eq_getElem hlt
      obtain ⟨x0, g0, d0, rfl, hd0⟩ := Paired.get hF2 hlast
      have e23 := (e1.trans e2).trans e3
      obtain ⟨hA0, hN0⟩ := LS.at_ _ _ hlast
      have hlast' : fs.getLast? = some (fs[fs.length - 1]) := by rw [List.getLast?_eq_getElem?]; exact hlast
      generalize fs[fs.length - 1] = f0 at hlast hlast' hd0 hA0 hN0
      have nW : H W = none := fresh_back e1 hW
      have hlast2 : atI lrefs (-1) = some (.ref d0) := by
        have e : lrefs = lrefs.take (lrefs.length - 1) ++ [.ref d0] := by
          rw [← M1.take_succ' (i := lrefs.length - 1) (x := V.ref d0) (by rw [hll]; exact g0), show lrefs.length - 1 + 1 = lrefs.length by omega, List.take_length]
        rw [e]
        exact atI_last _ _
      obtain ⟨x1, f1, rfl⟩ : ∃ x1 f1, f0 = x1 :: f1 := by
        cases f0 with
        | nil => exact absurd rfl hN0
        | cons x1 f1 => exact ⟨x1, f1, rfl⟩
      refine ⟨.ref L, rfl, 1, rfl, L, lrefs, -1, .ref d0, rfl, rfl, sq_of (e3 _ _ hL2), hlast2, d0, layV (x1 :: f1), rfl, .inl (e3 _ _ hd0), fun c bs hc hbs => ?_⟩
      obtain ⟨u, bs, rfl, hu⟩ : ∃ u bs', bs = u :: bs' ∧ H3 u = some (.tup [nV x1.1.1, nV x1.1.2]) := by
        cases hbs with
        | cons h _ => exact ⟨_, _, rfl, h⟩
      refine ⟨c, _, 0, .ref u, rfl, rfl, sq_of upd_same, atI_nat (j := 0) rfl, ?_⟩
      have ec : Ex H3 (upd H3 c (.lst ((u :: bs).map V.ref))) := Ex.new hc
      refine ⟨.ref L, rfl, L, lrefs, rfl, sq_of (ec _ _ (e3 _ _ hL2)), RT.for_Itv (fun i σ' H' => ∃ (wk : M1.PL) (wr : List V) (u : Addr) (p : Nat × Nat) (l4 : Option V), σ' = [some (.ref a), some (.ref L), some (.ref W), some (.ref u), l4] ∧ Ex H H' ∧ H' L = some (.lst lrefs) ∧ Paired (DicAt H') lrefs fs ∧ H' W = some (.lst wr) ∧ Paired (StepAt H') wr wk ∧ H' u = some (.tup [nV p.1, nV p.2]) ∧ M.WkIn fs i wk p)
        ⟨[], [], u, x1.1, none, rfl, e23.trans ec, ec _ _ (e3 _ _ hL2), dics_keep (e3.trans ec) hF2, ec _ _ (e3 _ _ hW2), .nil, ec _ _ hu, M1.Mach.WkIn.start hlast' (by simp)⟩ (fun i σ' H' ⟨_, _, _, _, _, _, _, h, _⟩ => sq_of h) ?_ ?_⟩
      · rintro i z σ' H' hi hz ⟨wk, wr, u, p, l4, rfl, e4, hL4, hF4, hW4, hR4, hu4, WI⟩
        obtain ⟨f, hf, d, rfl, hd⟩ := Paired.get' hF4 hz
        rw [hll] at hf hi
        obtain ⟨f', hf', hp⟩ := WI.key hi
        rw [hf] at hf'
        cases hf'
        obtain ⟨b, hb, hm⟩ := lay_some f p hp
        obtain ⟨hAf, _⟩ := LS.at_ _ _ hf
        have hpr := ((hAf.keys p).mp hp).1
        have hbk := hAf.lt _ hm
        have hwl : wr.length ≤ 36 := by
          have := Paired.length hR4
          have := WI.len
          omega
        have dg : ∀ {H7 : Hp}, TT H' H7 → H7 d = some (.dT (layV f)) → DGet H7 d (.ref u) (some (nV b)) := fun t h => by
          rw [← hb]
          exact lay_get h (t _ _ hu4)
        refine ⟨.ref W, rfl, Or.inl ⟨rfl, _, sq_of hW4⟩, .ref u, rfl, .ref d, rfl, .ref u, rfl, d, nV b, rfl, dg (TT.ex (Ex.refl _)) hd, by show 2 ≤ sizeLine; decide, fun t ht => ⟨W, wr, .ref t, rfl, rfl, Ex.new ht _ _ hW4, small1000 (by omega), ?_⟩⟩
        have e5 : Ex H' (upd H' t (.tup [.ref u, nV b])) := Ex.new ht
        have e6 : Ex H (upd (upd H' t (.tup [.ref u, nV b])) W (.lst (wr ++ [.ref t]))) := Ex.mut (e4.trans e5) nW
        have t6 : TT H' (upd (upd H' t (.tup [.ref u, nV b])) W (.lst (wr ++ [.ref t]))) := fun b xs q => TT.upd (e5 _ _ hW4) (fun _ z => by cases z) _ _ (e5 _ _ q)
        have nLW : L ≠ W := fun z => by subst z; rw [hL1] at hW; cases hW
        have hL6 : (upd (upd H' t (.tup [.ref u, nV b])) W (.lst (wr ++ [.ref t]))) L = some (.lst lrefs) := by rw [upd_ne nLW]; exact e5 _ _ hL4
        have keepD : ∀ {v : V} {f : M1.PL}, DicAt H' v f → DicAt (upd (upd H' t (.tup [.ref u, nV b])) W (.lst (wr ++ [.ref t]))) v f := fun ⟨d, hd, h⟩ => ⟨d, hd, by rw [upd_ne (fun z => by subst z; rw [hW4] at h; cases h)]; exact e5 _ _ h⟩
        obtain ⟨d', hd', hd6⟩ := keepD ⟨d, rfl, hd⟩
        cases hd'
        have ht6 : (upd (upd H' t (.tup [.ref u, nV b])) W (.lst (wr ++ [.ref t]))) t = some (.tup [.ref u, nV b]) := by
          rw [upd_ne (fun z => by subst z; rw [hW4] at ht; cases ht)]
          exact upd_same
        refine ⟨.ref a, rfl, .ref u, rfl, .ref d, rfl, .ref u, rfl, d, nV b, rfl, dg t6 hd6, .ref a, M, u, p, b, rfl, hM.keep (TK.ex e6), ok, t6 _ _ hu4, hpr.1.lt ok, hpr.2, hbk, fun q H9 hq e9 h9 => ?_⟩
        exact ⟨wk ++ [(p, b)], wr ++ [.ref t], q, (M.go p.1 b, M.go p.2 b), _, rfl, e6.trans e9, e9 _ _ hL6, dics_keep e9 (Paired.mapP hF4 fun _ _ h => keepD h), e9 _ _ upd_same, steps_keep (TT.ex e9) (Paired.snoc (steps_keep t6 hR4) ⟨t, u, rfl, ht6, t6 _ _ hu4⟩), h9, WI.go LS hf hi hm⟩
      · rintro σ' H' ⟨wk, wr, u, p, l4, rfl, e4, hL4, hF4, hW4, hR4, hu4, WI⟩
        rw [hll] at WI
        exact s_ret (ev_var rfl) fun H5 e5 => k W H5 wr wk nW (e4.trans e5) (e5 _ _ hW4) (steps_keep (TT.ex e5) hR4) (LS.wk ok hA hE (.inr ⟨hfn, WI⟩)) (by rw [WI.len]; exact hl)
    · have hfs : fs = [] := by
        cases hF2 with
        | nil => rfl
        | cons _ _ => cases bb
      exact s_ret (ev_var rfl) fun H4 e4 => k W H4 [] [] (fresh_back e1 hW) ((e1.trans e2).trans (e3.trans e4)) (e4 _ _ (e3 _ _ hW2)) .nil (LS.wk (p := (0, 0)) ok hA hE (.inl ⟨hfs, rfl⟩)) (Nat.zero_le _)
end

end Kx
namespace Kx
open PySem PySem.Spec PyProof.Rows L2

open Evl
section
variable {P : Program} {w : World} {K : PySem.W.Frag} {mg : Str → Option Value} {base : Heap}
/-! ### the round -/
/-- the pairs so far, each with its place -/
def placesOf (w : M1.PL) : M1.PL := (w.map (·.1)).zipIdx
theorem placesOf_keys (w : M1.PL) : (placesOf w).map (·.1) = w.map (·.1) := by unfold placesOf; rw [List.zipIdx_map_fst]
theorem placesOf_mem {w : M1.PL} {p : Nat × Nat} {a : Nat} (h : (p, a) ∈ placesOf w) : ∃ c, w[a]? = some (p, c) := by
  unfold placesOf at h
  rw [List.mem_zipIdx_iff_getElem?] at h
  rw [List.getElem?_map] at h
  cases e : w[a]? with
  | none => rw [e] at h; cases h
  | some x => rw [e] at h; cases h; exact ⟨x.2, rfl⟩
theorem placesOf_snoc {w : M1.PL} {i : Nat} {x : (Nat × Nat) × Nat} (h : w[i]? = some x) : placesOf (w.take (i + 1)) = placesOf (w.take i) ++ [(x.1, i)] := by
  have hl : (w.take i).length = i := by rw [List.length_take]; have := (List.getElem?_eq_some_iff.mp h).1; omega
  unfold placesOf
  rw [M1.take_succ' h, List.map_append, List.zipIdx_append]
  congr 1
  show [(x.1, 0 + ((w.take i).map (·.1)).length)] = _
  rw [List.length_map, hl, Nat.zero_add]
def sp_round (K : PySem.W.Frag) : Sp := fun vs H Q _ => ∃ (b : Addr) (refs : List V) (w : M1.PL), vs = [.ref b] ∧ SqL K H b refs ∧ Paired (StepAt H) refs w ∧ w.length ≤ 37 ∧ ((w.map (·.1)).Nodup → ∀ H2, Ex H H2 → Q .non H2) ∧
  ∀ (i j : Nat) p a c t H2, i < j → w[i]? = some (p, a) → w[j]? = some (p, c) → H t = none → Ex H H2 → H2 t = some (.tup [nV i, nV j]) → Q (.ref t) H2
theorem has_round_on (T : Txt K mg) {f : Addr} {fd : FuncData} (F : Fun K "round_on" "round_on" s_round_on f fd) (g : mg "round_on" = some (.ref f)) (B : Binds K fd ["walk"] []) : Has P w K mg base "round_on" 1 ["walk"] (sp_round K) := by
  refine Has.mk' g F.kp B (F.ok sc_round_on (fun vs H Q E h => ?_) (fun cdv A outer s H vs Q E hr h => ?_))
  · obtain ⟨b, refs, w, rfl, _⟩ := h
    rfl
  · obtain ⟨b, refs, w, rfl, hb, hR, hl, kN, kS⟩ := h
    have hrl : refs.length = w.length := Paired.length hR
    refine ⟨_, (pss_cons (ps_set (i := 1) sc_round_on.nd rfl (.inl rfl) pe_dnewT)
      (pss_cons (ps_for PassesOwn.never rfl (pi_enum (by rfl) T.b_enumerate (pa_cons (pv 0) pa_nil)) (pg_tupK (K := K) (n := 2) rfl (by rfl) (pgs_cons (pg_name (i := 2) sc_round_on.nd rfl (.inl rfl)) (pgs_cons (pg_tupK (K := K) (n := 2) rfl (by rfl) (pgs_cons (pg_name (i := 3) sc_round_on.nd rfl (.inl rfl)) (pgs_cons (pg_name (i := 4) sc_round_on.nd rfl (.inl rfl)) pgs_nil))) pgs_nil)))
      (pss_cons (ps_if (pt_cmp (pc_din (hu_of hr) (pv 3) (pv 1)))
      (pss_one (ps_ret (pe_tup (pa_cons (pe_dget (hu_of hr) (pv 1) (pv 3) (fun _ _ => rfl)) (pa_cons (pv 2) pa_nil)))))
      pss_nil)
      (pss_one (ps_dput (hu_of hr) (pv 1) (pv 3) (pv 2) rfl))))
      (pss_one (ps_ret pe_non)))), ?_⟩
    refine fun d hd => ?_
    have e1 : Ex H (upd H d (.dT [])) := Ex.new hd
    refine ⟨.ref b, rfl, b, refs, rfl, ex_l e1 hb, for_enumL (fun i σ' H' => ∃ (l2 l3 l4 : Option V), σ' = [some (.ref b), some (.ref d), l2, l3, l4] ∧ Ex H H' ∧ H' d = some (.dT (layV (placesOf (w.take i)))) ∧ ((w.take i).map (·.1)).Nodup)
      ⟨none, none, none, rfl, e1, upd_same, by simp⟩ (fun i σ' H' _ ⟨_, _, _, _, e, _⟩ => ex_l e hb) ?_ ?_⟩
    · rintro i z t σ' H2 hz ⟨l2, l3, l4, rfl, e2, hd2, nd⟩ ht
      obtain ⟨x, hx, t1, u, rfl, ht1, hu⟩ := Paired.get' hR hz
      have e3 : Ex H2 (upd H2 t (.tup [.int (i : Nat), .ref t1])) := Ex.new ht
      have e23 := e2.trans e3
      have hd3 := e3 _ _ hd2
      have hu3 := e23 _ _ hu
      have hi : i < w.length := (List.getElem?_eq_some_iff.mp hx).1
      refine ⟨t, _, rfl, SqT.of upd_same, rfl, _, _, rfl, _, _, rfl, ⟨t1, _, rfl, SqT.of (e23 _ _ ht1), rfl, _, _, rfl, _, _, rfl, rfl, rfl, ?_⟩⟩
      refine q_when (b := decide (x.1 ∈ (placesOf (w.take i)).map (·.1))) (fun H4 e4 Q q => ⟨.ref u, rfl, .ref d, rfl, d, _, rfl, lay_get (e4 _ _ hd3) (e4 _ _ hu3), _, rfl, ?_⟩) (fun bb H4 e4 => ?_) (fun bb H4 e4 => ?_)
      · rw [lay_isSome]
        exact q H4 (Ex.refl _)
      · obtain ⟨a, ha, hm⟩ := lay_some _ _ (of_decide_eq_true bb)
        obtain ⟨c, hc⟩ := placesOf_mem hm
        have hai : a < i := by
          have := (List.getElem?_eq_some_iff.mp hc).1
          rw [List.length_take] at this
          omega
        rw [List.getElem?_take, if_pos hai] at hc
        refine ⟨.ref d, rfl, .ref u, rfl, d, nV a, rfl, ?_, .int (i : Nat), rfl, by show 2 ≤ sizeLine; decide, fun t5 ht5 => ?_⟩
        · rw [← ha]; exact lay_get (e4 _ _ hd3) (e4 _ _ hu3)
        · exact kS a i x.1 c x.2 t5 _ hai hc hx (fresh_back (e23.trans e4) ht5) ((e23.trans e4).trans (Ex.new ht5)) upd_same
      · have hn := of_decide_eq_false bb
        have hv := lay_none _ _ hn
        have hll : (layV (placesOf (w.take i))).length ≤ 37 := by
          rw [layV_len, ← List.length_map (f := fun x : (Nat × Nat) × Nat => x.1), placesOf_keys, List.length_map, List.length_take]
          omega
        refine ⟨.int (i : Nat), rfl, .ref d, rfl, .ref u, rfl, d, _, rfl, .inr ⟨_, keyOf x.1, u, e4 _ _ hd3, rfl, e4 _ _ hu3, small1000 (by omega), rfl⟩, ?_⟩
        have hput : putK (layV (placesOf (w.take i))) (keyOf x.1) (.int (i : Nat)) = layV (placesOf (w.take (i + 1))) := by
          show putK _ _ (nV i) = _
          rw [lay_add _ _ _ hv, placesOf_snoc hx]
          unfold M1.addF
          rw [if_neg hn]
        rw [hput]
        refine ⟨_, _, _, rfl, Ex.mut (e23.trans e4) hd, upd_same, ?_⟩
        rw [← placesOf_keys, placesOf_snoc hx, List.map_append, placesOf_keys, List.nodup_append]
        refine ⟨nd, by simp, fun y hy z hzz e => ?_⟩
        have hz' : z = x.1 := by simpa using hzz
        subst e
        rw [placesOf_keys] at hn
        exact hn (hz' ▸ hy)
    · rintro σ' H2 ⟨l2, l3, l4, rfl, e2, hd2, nd⟩
      rw [hrl, List.take_length] at nd
      exact kN nd H2 e2
def sp_on (K : PySem.W.Frag) : Sp := fun vs H Q _ => ∃ (b : Addr) (refs : List V) (w : M1.PL), vs = [.ref b] ∧ SqL K H b refs ∧ Paired (StepAt H) refs w ∧ w.length ≤ 37 ∧
  ∀ t H2, H t = none → Ex H H2 → H2 t = some (.tup (rowV (M1.wordOf w))) → Q (.ref t) H2
theorem has_letters_on (T : Txt K mg) {f : Addr} {fd : FuncData} (F : Fun K "letters_on" "letters_on" s_letters_on f fd) (g : mg "letters_on" = some (.ref f)) (B : Binds K fd ["walk"] []) : Has P w K mg base "letters_on" 1 ["walk"] (sp_on K) := by
  refine Has.mk' g F.kp B (F.ok sc_letters_on (fun vs H Q E h => ?_) (fun cdv A outer s H vs Q E hr h => ?_))
  · obtain ⟨b, refs, w, rfl, _⟩ := h
    rfl
  · obtain ⟨b, refs, w, rfl, hb, hR, hl, k⟩ := h
    have hrl : refs.length = w.length := Paired.length hR
    refine ⟨_, (pss_one (ps_ret (pe_callTy (call_tupleK (K := K) rfl) (by rfl) T.b_tuple bt_tuple (pa_cons (pe_lc (own := [("_", 1), ("letter", 2)]) (tt := tYes) (by rfl) sc_letters_on.nd (pi_listK (K := K) rfl (pv 0)) (blkOk_by (N := N_letters_on) (sc := defScope s_letters_on) (by decide +kernel)) (fun _ _ _ _ _ => (pg_tupK (K := K) (n := 2) rfl (by rfl) (pgs_cons (pg_name (i := 1) sc_letters_on.nd rfl (.inl rfl)) (pgs_cons (pg_name (i := 2) sc_letters_on.nd rfl (.inl rfl)) pgs_nil)))) (fun _ _ _ _ _ => pts_nil) (fun _ _ _ _ _ => (pv 2))) pa_nil)))), ?_⟩
    have key : EvL (tLc (iList K (tVar 0)) (gTup K 2 (gCons (gName 1) (gCons (gName 2) gNil))) tYes (tVar 2) [1, 2]) (start N_letters_on [V.ref b]) H (rowV (M1.wordOf w)) := by
      refine fun H0 e0 Q q => ⟨.ref b, rfl, b, rfl, ⟨refs, ex_l e0 hb⟩, fun Dl hD => ?_⟩
      refine lc_list (xs := refs) (fun i H' => Ex H0 H' ∧ H' Dl = some (.lst (rowV (M1.wordOf (w.take i))))) ⟨Ex.new hD, upd_same⟩ (fun i H' _ p => ex_l (e0.trans p.1) hb) (fun i z H' hz p => ?_) (fun H' p => ?_)
      · obtain ⟨x, hx, t1, u, rfl, ht1, hu⟩ := Paired.get' hR hz
        refine ⟨t1, _, rfl, SqT.of ((e0.trans p.1) _ _ ht1), rfl, _, _, rfl, _, _, rfl, rfl, rfl, ?_⟩
        refine yesT ⟨nV x.2, rfl, _, p.2, ?_, Ex.mut p.1 hD, ?_⟩
        · rw [rowV_len]
          unfold M1.wordOf
          rw [List.length_map, List.length_take]
          exact small1000 (by omega)
        · have e : M1.wordOf (w.take (i + 1)) = M1.wordOf (w.take i) ++ [x.2] := by
            unfold M1.wordOf
            rw [M1.take_succ' hx, List.map_append]
            rfl
          rw [e, rowV_snoc]
          exact upd_same
      · obtain ⟨p1, p2⟩ := p
        rw [hrl, List.take_length] at p2
        exact q Dl H' hD p1 p2
    exact s_retU (eu_tupN key) fun t H2 ht e2 h2 => k t H2 ht e2 h2
end

end Kx
namespace Kx
open PySem PySem.Spec PyProof.Rows L2

open Evl
section
variable {P : Program} {w : World} {K : PySem.W.Frag} {mg : Str → Option Value} {base : Heap}
/-! ### late, late_word -/
def sp_late (K : PySem.W.Frag) : Sp := fun vs H Q _ => ∃ (v : V) (M : M1.Mach), vs = [v] ∧ MacAt K H v M.st M.an ∧ M.Ok ∧ ∀ o H2, M.LateIs o → (∀ n, o = some n → n ≤ 37) → Ex H H2 → Q (oV o) H2
theorem nodup_or (w : M1.PL) : (w.map (·.1)).Nodup ∨ ∃ (i j : Nat) (p : Nat × Nat) (a c : Nat), i < j ∧ w[i]? = some (p, a) ∧ w[j]? = some (p, c) := by
  by_cases h : (w.map (·.1)).Nodup
  · exact .inl h
  · refine .inr (Classical.byContradiction fun hn => h ?_)
    refine List.pairwise_iff_getElem.mpr fun i j hi hj hij e => hn ?_
    rw [List.length_map] at hi hj
    refine ⟨i, j, (w[i]).1, (w[i]).2, (w[j]).2, hij, List.getElem?_eq_getElem hi, ?_⟩
    rw [List.getElem_map, List.getElem_map] at e
    rw [List.getElem?_eq_getElem hj, e]
theorem nodup_not {w : M1.PL} (h : (w.map (·.1)).Nodup) {i j : Nat} {p : Nat × Nat} {a c : Nat} (hij : i < j) (hi : w[i]? = some (p, a)) (hj : w[j]? = some (p, c)) : False := by
  have h1 := (List.getElem?_eq_some_iff.mp hi).1
  have h2 := (List.getElem?_eq_some_iff.mp hj).1
  have := List.pairwise_iff_getElem.mp h i j (by rw [List.length_map]; exact h1) (by rw [List.length_map]; exact h2) hij
  rw [List.getElem_map, List.getElem_map, (List.getElem?_eq_some_iff.mp hi).2, (List.getElem?_eq_some_iff.mp hj).2] at this
  exact this rfl
/-- round_on(walk) is not None -/
theorem et_round {σ : L2.St} {H : Hp} {i : Nat} {b : Addr} {refs : List V} {wk : M1.PL} (hs : σ[i]? = some (some (.ref b))) (hb : SqL K H b refs) (hR : Paired (StepAt H) refs wk) (hl : wk.length ≤ 37) :
    EvT (tTest (tOp (fun x y H Q => y = V.non ∧ Q (V.bl !decide (x = V.non)) H) (tCall (sp_round K) [] E0 (tCons (tVar i) tNil)) (tC V.non))) σ H (!decide (wk.map (·.1)).Nodup) := fun H1 e1 Q q =>
  ⟨.ref b, hs, b, refs, wk, rfl, ex_l e1 hb, steps_keep (TT.ex e1) hR, hl, fun nd H2 e2 => ⟨rfl, false, rfl, by rw [decide_eq_true nd] at q; exact q H2 e2⟩, fun i j p a c t H2 hij hi hj _ e2 _ => ⟨rfl, true, rfl, by
    rw [decide_eq_false (fun nd => nodup_not nd hij hi hj)] at q; exact q H2 e2⟩⟩
theorem has_late (T : Txt K mg) (h_check_machine : Has P w K mg base "check_machine" 5 ["machine"] (sp_check_machine K)) (h_late_walk : Has P w K mg base "late_walk" 4 ["machine"] (sp_walk K)) (h_round_on : Has P w K mg base "round_on" 1 ["walk"] (sp_round K)) {f : Addr} {fd : FuncData} (F : Fun K "late" "late" s_late f fd) (g : mg "late" = some (.ref f)) (B : Binds K fd ["machine"] []) : Has P w K mg base "late" 6 ["machine"] (sp_late K) := by
  refine Has.mk' g F.kp B (F.ok sc_late (fun vs H Q E h => ?_) (fun cdv A outer s H vs Q E hr h => ?_))
  · obtain ⟨v, M, rfl, _⟩ := h
    rfl
  · obtain ⟨v, M, rfl, hM, ok, k⟩ := h
    refine ⟨_, (pss_cons (ps_expr (pe_has h_check_machine (hr.mono (by first | decide | exact Nat.le_refl _)) (by rfl) (pa_cons (pv 0) pa_nil)))
      (pss_cons (ps_set (i := 1) sc_late.nd rfl (.inl rfl) (pe_has h_late_walk (hr.mono (by first | decide | exact Nat.le_refl _)) (by rfl) (pa_cons (pv 0) pa_nil)))
      (pss_cons (ps_if (pt_cmpR op_notN (pe_has h_round_on (hr.mono (by first | decide | exact Nat.le_refl _)) (by rfl) (pa_cons (pv 1) pa_nil)) pe_non (nomark _))
      (pss_one (ps_ret pe_non))
      pss_nil)
      (pss_one (ps_ret (pe_callB (call_lenK (K := K) rfl) (by rfl) T.b_len bt_len (pa_cons (pv 1) pa_nil))))))), ?_⟩
    refine ⟨v, rfl, v, M, rfl, hM, ok, fun H1 e1 => ?_⟩
    refine ⟨v, rfl, v, M, rfl, hM.keep (TK.ex e1), ok, fun p H2 refs wk hp e2 hp2 hR W hl => ?_⟩
    have e12 := e1.trans e2
    refine q_when (et_round (i := 1) rfl (sq_of hp2) hR hl) (fun bb H3 e3 => ?_) (fun bb H3 e3 => ?_)
    · have nd : ¬ (wk.map (·.1)).Nodup := fun z => by rw [decide_eq_true z] at bb; cases bb
      obtain ⟨i, j, p, a, c, hij, hi, hj⟩ := (nodup_or wk).resolve_left nd
      exact s_ret ev_c fun H4 e4 => k none H4 (W.endless ok hij hi hj) (fun _ z => by cases z) (e12.trans (e3.trans e4))
    · have nd : (wk.map (·.1)).Nodup := Classical.byContradiction fun z => by rw [decide_eq_false z] at bb; cases bb
      refine s_ret (ev_len (K := K) (ev_var rfl) (sq_of (e3 _ _ hp2))) fun H4 e4 => ?_
      rw [Paired.length hR]
      exact k (some wk.length) H4 (W.late nd) (fun n z => by cases z; exact hl) (e12.trans (e3.trans e4))
/-- what late_word gives -/
structure LWord (K : PySem.W.Frag) (H : Hp) (M : M1.Mach) (v : V) (n : Nat) (u : List Nat) (s : Nat) (wd : List Nat) : Prop where
  at_ : ∃ t a1 a2, v = .ref t ∧ H t = some (.tup [.ref a1, nV s, .ref a2]) ∧ SqT K H a1 (rowV u) ∧ SqT K H a2 (rowV wd)
  lu : M.Letters u
  ul : u.length ≤ 6
  lw : M.Letters wd
  wl : wd.length = n
  n37 : n ≤ 37
  st : s < M.st.length
  unl : M.Unl (M.led 0 u) s wd
def sp_lword (K : PySem.W.Frag) : Sp := fun vs H Q _ => ∃ (v : V) (M : M1.Mach), vs = [v] ∧ MacAt K H v M.st M.an ∧ M.Ok ∧ (∀ H2, M.LateIs none ∨ M.LateIs (some 0) → Ex H H2 → Q .non H2) ∧ ∀ n r u s wd H2, M.LateIs (some n) → 1 ≤ n → Ex H H2 → LWord K H2 M r n u s wd → Q r H2
theorem has_late_word (T : Txt K mg) (h_check_machine : Has P w K mg base "check_machine" 5 ["machine"] (sp_check_machine K)) (h_late_walk : Has P w K mg base "late_walk" 4 ["machine"] (sp_walk K)) (h_round_on : Has P w K mg base "round_on" 1 ["walk"] (sp_round K)) (h_letters_on : Has P w K mg base "letters_on" 1 ["walk"] (sp_on K)) (h_ways_to_states : Has P w K mg base "ways_to_states" 1 ["machine"] (sp_ways K)) {f : Addr} {fd : FuncData} (F : Fun K "late_word" "late_word" s_late_word f fd) (g : mg "late_word" = some (.ref f)) (B : Binds K fd ["machine"] []) : Has P w K mg base "late_word" 6 ["machine"] (sp_lword K) := by
  refine Has.mk' g F.kp B (F.ok sc_late_word (fun vs H Q E h => ?_) (fun cdv A outer s H vs Q E hr h => ?_))
  · obtain ⟨v, M, rfl, _⟩ := h
    rfl
  · obtain ⟨v, M, rfl, hM, ok, kN, kS⟩ := h
    refine ⟨_, (pss_cons (ps_expr (pe_has h_check_machine (hr.mono (by first | decide | exact Nat.le_refl _)) (by rfl) (pa_cons (pv 0) pa_nil)))
      (pss_cons (ps_set (i := 1) sc_late_word.nd rfl (.inl rfl) (pe_has h_late_walk (hr.mono (by first | decide | exact Nat.le_refl _)) (by rfl) (pa_cons (pv 0) pa_nil)))
      (pss_cons (ps_if (PW.pt (pw_or (pt_not (pt_tru (K := K) rfl (pv 1))) (pw_or1 (pt_cmpR op_notN (pe_has h_round_on (hr.mono (by first | decide | exact Nat.le_refl _)) (by rfl) (pa_cons (pv 1) pa_nil)) pe_non (nomark _)))))
      (pss_one (ps_ret pe_non))
      pss_nil)
      (pss_cons (ps_asg (pe_ix (ix_tupK (K := K) rfl) (pe_ix (ix_listK (K := K) rfl) (pv 1) pe_int (fun _ _ => rfl)) pe_int (fun _ _ => rfl)) (pg_tupK (K := K) (n := 2) rfl (by rfl) (pgs_cons (pg_name (i := 2) sc_late_word.nd rfl (.inl rfl)) (pgs_cons (pg_name (i := 3) sc_late_word.nd rfl (.inl rfl)) pgs_nil))))
      (pss_one (ps_ret (pe_tup (pa_cons (pe_dget (hu_of hr) (pe_has h_ways_to_states (hr.mono (by first | decide | exact Nat.le_refl _)) (by rfl) (pa_cons (pv 0) pa_nil)) (pv 2) (fun _ _ => rfl)) (pa_cons (pv 3) (pa_cons (pe_has h_letters_on (hr.mono (by first | decide | exact Nat.le_refl _)) (by rfl) (pa_cons (pv 1) pa_nil)) pa_nil)))))))))), ?_⟩
    refine ⟨v, rfl, v, M, rfl, hM, ok, fun H1 e1 => ?_⟩
    refine ⟨v, rfl, v, M, rfl, hM.keep (TK.ex e1), ok, fun p H2 refs wk hp e2 hp2 hR W hl => ?_⟩
    have e12 := e1.trans e2
    have hrl : refs.length = wk.length := Paired.length hR
    refine q_when (et_or (et_not (et_tru (ev_var rfl) (fun H3 e3 => tru_list (sq_of (e3 _ _ hp2))))) (fun _ => et_round (i := 1) rfl (sq_of hp2) hR hl)) (fun bb H3 e3 => ?_) (fun bb H3 e3 => ?_)
    · refine s_ret ev_c fun H4 e4 => kN H4 ?_ (e12.trans (e3.trans e4))
      by_cases nd : (wk.map (·.1)).Nodup
      · rw [decide_eq_true nd, Bool.not_true, Bool.or_false, Bool.not_not] at bb
        have h0 : wk = [] := by
          cases refs with
          | nil => cases hR; rfl
          | cons _ _ => cases bb
        subst h0
        exact .inr (W.late nd)
      · obtain ⟨i, j, p, a, c, hij, hi, hj⟩ := (nodup_or wk).resolve_left nd
        exact .inl (W.endless ok hij hi hj)
    · rw [Bool.or_eq_false_iff] at bb
      have nd : (wk.map (·.1)).Nodup := Classical.byContradiction fun z => by rw [decide_eq_false z] at bb; cases bb.2
      have hne : wk ≠ [] := fun z => by
        subst z
        cases hR
        cases bb.1
      obtain ⟨⟨⟨o1, o2⟩, b⟩, wk', rfl⟩ : ∃ x wk', wk = x :: wk' := by
        cases wk with
        | nil => exact absurd rfl hne
        | cons x wk' => exact ⟨x, wk', rfl⟩
      obtain ⟨x0, g0, t0, u0, rfl, ht0, hu0⟩ := Paired.get hR (i := 0) rfl
      have hp3 := e3 _ _ hp2
      have e13 := e12.trans e3
      have hpr := W.pr _ List.mem_cons_self
      refine ⟨.ref p, rfl, p, refs, 0, .ref t0, rfl, rfl, sq_of hp3, atI_nat (j := 0) g0, t0, _, 0, .ref u0, rfl, rfl, SqT.of (e3 _ _ ht0), atI_nat (j := 0) rfl, u0, _, rfl, SqT.of (e3 _ _ hu0), rfl, _, _, rfl, _, _, rfl, rfl, ?_⟩
      refine ⟨v, rfl, v, M, rfl, hM.keep (TK.ex e13), ok, fun d H4 kvs ws hd e4 hd4 W4 A4 => ?_⟩
      obtain ⟨v1, u, hv1, hm, av, rfl, hru⟩ := (ways_val W4.at_ o1).1 (A4 o1 hpr.1)
      refine ⟨nV o1, rfl, d, .ref av, rfl, by rw [← hv1]; exact DGet.k (k := Sum.inl (o1 : Int)) hd4, nV o2, rfl, ?_⟩
      refine ⟨.ref p, rfl, p, refs, _, rfl, sq_of (e4 _ _ hp3), steps_keep (TT.ex (e3.trans e4)) hR, hl, fun t H5 ht e5 ht5 => ⟨by show 3 ≤ sizeLine; decide, fun t6 ht6 => ?_⟩⟩
      obtain ⟨hw1, hw2⟩ := W.walk.word
      obtain ⟨hu1, hu2⟩ := W4.way _ hm
      have wl4 := W4.len ok
      have ul := W4.ln _ hm
      have n6 := ok.n6
      refine kS ((((o1, o2), b) :: wk').length) _ u o2 (M1.wordOf (((o1, o2), b) :: wk')) _ (W.late nd) (by rw [List.length_cons]; omega) (((e13.trans e4).trans e5).trans (Ex.new ht6)) ?_
      refine ⟨⟨t6, av, t, rfl, upd_same, ex_t (e5.trans (Ex.new ht6)) hru, SqT.of (Ex.new ht6 _ _ ht5)⟩, hu1, ?_, hw1, by unfold M1.wordOf; rw [List.length_map], hl, hpr.2, ?_⟩
      · have : u.length ≤ ws.length := ul
        omega
      · have e : M.led 0 u = o1 := hu2
        rw [e]
        exact hw2
end

end Kx
namespace Kx
open PySem PySem.Spec PyProof.Rows L2

open Evl
section
variable {P : Program} {w : World} {K : PySem.W.Frag} {mg : Str → Option Value} {base : Heap}
/-! ### never_forgets -/
def sp_nforgX (K : PySem.W.Frag) (mg : Str → Option Value) : Sp := fun vs H _ E => ∃ (v : V) (M : M1.Mach) (n : Nat), vs = [v] ∧ MacAt K H v M.st M.an ∧ M.Ok ∧ M.LateIs (some n) ∧ ∀ C H2, mg "Forgets" = some (.ref C) → Ex H H2 → E (.ref C) none H2
theorem hasx_never_forgets (T : Txt K mg) (h_check_machine : Has P w K mg base "check_machine" 5 ["machine"] (sp_check_machine K)) (h_late_walk : Has P w K mg base "late_walk" 4 ["machine"] (sp_walk K)) (h_round_on : Has P w K mg base "round_on" 1 ["walk"] (sp_round K)) (h_letters_on : Has P w K mg base "letters_on" 1 ["walk"] (sp_on K)) (h_ways_to_states : Has P w K mg base "ways_to_states" 1 ["machine"] (sp_ways K)) {f : Addr} {fd : FuncData} (F : Fun K "never_forgets" "never_forgets" s_never_forgets f fd) (g : mg "never_forgets" = some (.ref f)) (B : Binds K fd ["machine"] []) : HasX P w K mg base "never_forgets" 6 ["machine"] (sp_nforgX K mg) := by
  obtain ⟨C_Forgets, e_Forgets⟩ := T.e_Forgets
  refine HasX.mk' g F.kp B (F.okX sc_never_forgets (fun vs H Q E h => ?_) (fun cdv A outer s H vs Q E hr h => ?_))
  · obtain ⟨v, M, n, rfl, _⟩ := h
    rfl
  · obtain ⟨v, M, n, rfl, hM, ok, hn, k⟩ := h
    refine ⟨_, (pss_cons (ps_expr (pe_has h_check_machine (hr.mono (by first | decide | exact Nat.le_refl _)) (by rfl) (pa_cons (pv 0) pa_nil)))
      (pss_cons (ps_set (i := 1) sc_never_forgets.nd rfl (.inl rfl) (pe_has h_late_walk (hr.mono (by first | decide | exact Nat.le_refl _)) (by rfl) (pa_cons (pv 0) pa_nil)))
      (pss_cons (ps_set (i := 2) sc_never_forgets.nd rfl (.inl rfl) (pe_has h_round_on (hr.mono (by first | decide | exact Nat.le_refl _)) (by rfl) (pa_cons (pv 1) pa_nil)))
      (pss_cons (ps_if (pt_cmpR op_isN (pv 2) pe_non (nomark _))
      (pss_one (ps_raise rfl (takes_of rfl rfl rfl rfl) (pmk_own0 e_Forgets (by rfl))))
      pss_nil)
      (pss_cons (ps_asg (pv 2) (pg_tupK (K := K) (n := 2) rfl (by rfl) (pgs_cons (pg_name (i := 3) sc_never_forgets.nd rfl (.inl rfl)) (pgs_cons (pg_name (i := 4) sc_never_forgets.nd rfl (.inl rfl)) pgs_nil))))
      (pss_cons (ps_asg (pe_ix (ix_tupK (K := K) rfl) (pe_ix (ix_listK (K := K) rfl) (pv 1) (pv 3) (fun _ _ => rfl)) pe_int (fun _ _ => rfl)) (pg_tupK (K := K) (n := 2) rfl (by rfl) (pgs_cons (pg_name (i := 5) sc_never_forgets.nd rfl (.inl rfl)) (pgs_cons (pg_name (i := 6) sc_never_forgets.nd rfl (.inl rfl)) pgs_nil))))
      (pss_one (ps_ret (pe_tup (pa_cons (pe_dget (hu_of hr) (pe_has h_ways_to_states (hr.mono (by first | decide | exact Nat.le_refl _)) (by rfl) (pa_cons (pv 0) pa_nil)) (pv 5) (fun _ _ => rfl)) (pa_cons (pv 6) (pa_cons (pe_has h_letters_on (hr.mono (by first | decide | exact Nat.le_refl _)) (by rfl) (pa_cons (pe_slice sl_list (pv 1) (po_some (pv 3)) (po_some (pv 4))) pa_nil)) (pa_cons (pe_has h_letters_on (hr.mono (by first | decide | exact Nat.le_refl _)) (by rfl) (pa_cons (pe_slice sl_list (pv 1) (po_some (pv 4)) po_none) pa_nil)) pa_nil))))))))))))), ?_⟩
    refine ⟨v, rfl, v, M, rfl, hM, ok, fun H1 e1 => ?_⟩
    refine ⟨v, rfl, v, M, rfl, hM.keep (TK.ex e1), ok, fun p H2 refs wk hp e2 hp2 hR W hl => ?_⟩
    have e12 := e1.trans e2
    have nd : (wk.map (·.1)).Nodup := by
      refine (nodup_or wk).resolve_right fun ⟨i, j, p, a, c, hij, hi, hj⟩ => ?_
      cases hn.only (W.endless ok hij hi hj)
    refine ⟨.ref p, rfl, p, refs, wk, rfl, sq_of hp2, hR, hl, fun _ H3 e3 => ?_, fun i j p a c t H3 hij hi hj _ _ _ => (nodup_not nd hij hi hj).elim⟩
    refine (et_isN (i := 2) (v := .non) rfl) _ (Ex.refl _) _ fun H4 e4 => ?_
    rw [decide_eq_true rfl]
    exact iteT (k _ _ e_Forgets.g (e12.trans (e3.trans e4)))
/-- what never_forgets gives -/
structure NForg (K : PySem.W.Frag) (H : Hp) (M : M1.Mach) (v : V) (u : List Nat) (s : Nat) (ag ls : List Nat) : Prop where
  at_ : ∃ t a1 a2 a3, v = .ref t ∧ H t = some (.tup [.ref a1, nV s, .ref a2, .ref a3]) ∧ SqT K H a1 (rowV u) ∧ SqT K H a2 (rowV ag) ∧ SqT K H a3 (rowV ls)
  lu : M.Letters u
  ul : u.length ≤ 6
  la : M.Letters ag
  al : ag.length ≤ 37
  ne : ag ≠ []
  ll : M.Letters ls
  lsl : ls.length ≤ 37
  st : s < M.st.length
  r1 : M.led (M.led 0 u) ag = M.led 0 u
  r2 : M.led s ag = s
  unl : M.Unl (M.led 0 u) s ls
def sp_nforg (K : PySem.W.Frag) : Sp := fun vs H Q _ => ∃ (v : V) (M : M1.Mach), vs = [v] ∧ MacAt K H v M.st M.an ∧ M.Ok ∧ M.LateIs none ∧ ∀ r u s ag ls H2, Ex H H2 → NForg K H2 M r u s ag ls → Q r H2
theorem cut_steps {xs : List V} {i j : Nat} (h : i ≤ j) (hj : j ≤ xs.length) : cutV xs (some (i : Int)) (some (j : Int)) = (xs.drop i).take (j - i) := by
  have f : ∀ (z d : Nat), z ≤ xs.length → HT.sIx xs.length d (some (z : Int)) = z := fun z d hz => by
    rw [HT.sIx_nat, Nat.min_eq_left hz]
  unfold cutV
  rw [f i _ (by omega), f j _ hj]
theorem cut_from {xs : List V} {j : Nat} (hj : j ≤ xs.length) : cutV xs (some (j : Int)) none = xs.drop j := by
  have f : ∀ (z d : Nat), z ≤ xs.length → HT.sIx xs.length d (some (z : Int)) = z := fun z d hz => by
    rw [HT.sIx_nat, Nat.min_eq_left hz]
  unfold cutV
  rw [f j _ hj]
  have g : HT.sIx xs.length xs.length none = xs.length := rfl
  rw [g, List.take_of_length_le (by rw [List.length_drop]; omega)]
theorem paired_drop {α β : Type} {F : α → β → Prop} : ∀ {l : List α} {m : List β} (i : Nat), Paired F l m → Paired F (l.drop i) (m.drop i)
  | _, _, 0, h => h
  | _, _, _ + 1, .nil => .nil
  | _, _, i + 1, .cons _ t => paired_drop i t
theorem paired_take {α β : Type} {F : α → β → Prop} : ∀ {l : List α} {m : List β} (i : Nat), Paired F l m → Paired F (l.take i) (m.take i)
  | _, _, 0, _ => .nil
  | _, _, _ + 1, .nil => .nil
  | _, _, i + 1, .cons h t => .cons h (paired_take i t)
theorem has_never_forgets (T : Txt K mg) (h_check_machine : Has P w K mg base "check_machine" 5 ["machine"] (sp_check_machine K)) (h_late_walk : Has P w K mg base "late_walk" 4 ["machine"] (sp_walk K)) (h_round_on : Has P w K mg base "round_on" 1 ["walk"] (sp_round K)) (h_letters_on : Has P w K mg base "letters_on" 1 ["walk"] (sp_on K)) (h_ways_to_states : Has P w K mg base "ways_to_states" 1 ["machine"] (sp_ways K)) {f : Addr} {fd : FuncData} (F : Fun K "never_forgets" "never_forgets" s_never_forgets f fd) (g : mg "never_forgets" = some (.ref f)) (B : Binds K fd ["machine"] []) : Has P w K mg base "never_forgets" 6 ["machine"] (sp_nforg K) := by
  refine Has.mk' g F.kp B (F.ok sc_never_forgets (fun vs H Q E h => ?_) (fun cdv A outer s H vs Q E hr h => ?_))
  · obtain ⟨v, M, rfl, _⟩ := h
    rfl
  · obtain ⟨v, M, rfl, hM, ok, hn, k⟩ := h
    refine ⟨_, (pss_cons (ps_expr (pe_has h_check_machine (hr.mono (by first | decide | exact Nat.le_refl _)) (by rfl) (pa_cons (pv 0) pa_nil)))
      (pss_cons (ps_set (i := 1) sc_never_forgets.nd rfl (.inl rfl) (pe_has h_late_walk (hr.mono (by first | decide | exact Nat.le_refl _)) (by rfl) (pa_cons (pv 0) pa_nil)))
      (pss_cons (ps_set (i := 2) sc_never_forgets.nd rfl (.inl rfl) (pe_has h_round_on (hr.mono (by first | decide | exact Nat.le_refl _)) (by rfl) (pa_cons (pv 1) pa_nil)))
      (pss_cons (ps_if (pt_cmpR op_isN (pv 2) pe_non (nomark _))
      (pss_one (ps_never))
      pss_nil)
      (pss_cons (ps_asg (pv 2) (pg_tupK (K := K) (n := 2) rfl (by rfl) (pgs_cons (pg_name (i := 3) sc_never_forgets.nd rfl (.inl rfl)) (pgs_cons (pg_name (i := 4) sc_never_forgets.nd rfl (.inl rfl)) pgs_nil))))
      (pss_cons (ps_asg (pe_ix (ix_tupK (K := K) rfl) (pe_ix (ix_listK (K := K) rfl) (pv 1) (pv 3) (fun _ _ => rfl)) pe_int (fun _ _ => rfl)) (pg_tupK (K := K) (n := 2) rfl (by rfl) (pgs_cons (pg_name (i := 5) sc_never_forgets.nd rfl (.inl rfl)) (pgs_cons (pg_name (i := 6) sc_never_forgets.nd rfl (.inl rfl)) pgs_nil))))
      (pss_one (ps_ret (pe_tup (pa_cons (pe_dget (hu_of hr) (pe_has h_ways_to_states (hr.mono (by first | decide | exact Nat.le_refl _)) (by rfl) (pa_cons (pv 0) pa_nil)) (pv 5) (fun _ _ => rfl)) (pa_cons (pv 6) (pa_cons (pe_has h_letters_on (hr.mono (by first | decide | exact Nat.le_refl _)) (by rfl) (pa_cons (pe_slice sl_list (pv 1) (po_some (pv 3)) (po_some (pv 4))) pa_nil)) (pa_cons (pe_has h_letters_on (hr.mono (by first | decide | exact Nat.le_refl _)) (by rfl) (pa_cons (pe_slice sl_list (pv 1) (po_some (pv 4)) po_none) pa_nil)) pa_nil))))))))))))), ?_⟩
    refine ⟨v, rfl, v, M, rfl, hM, ok, fun H1 e1 => ?_⟩
    refine ⟨v, rfl, v, M, rfl, hM.keep (TK.ex e1), ok, fun p H2 refs wk hp e2 hp2 hR W hl => ?_⟩
    have e12 := e1.trans e2
    have hrl : refs.length = wk.length := Paired.length hR
    refine ⟨.ref p, rfl, p, refs, wk, rfl, sq_of hp2, hR, hl, fun nd H3 e3 => (by cases hn.only (W.late nd)), fun i j q a c t H3 hij hi hj ht e3 ht3 => ?_⟩
    refine q_when (et_isN (v := .ref t) rfl) (fun bb => by rw [decide_eq_false (fun z => by cases z)] at bb; cases bb) (fun _ H4 e4 => ?_)
    have e13 := e12.trans (e3.trans e4)
    have e24 := e3.trans e4
    have ht4 := e4 _ _ ht3
    have hp4 := e24 _ _ hp2
    have hjl := (List.getElem?_eq_some_iff.mp hj).1
    have hR4 := steps_keep (TT.ex e24) hR
    obtain ⟨x0, g0, t0, u0, rfl, ht0, hu0⟩ := Paired.get hR4 hi
    have hpr := W.pr _ (List.mem_of_getElem? hi)
    refine ⟨.ref t, rfl, t, _, rfl, SqT.of ht4, rfl, _, _, rfl, _, _, rfl, rfl, ?_⟩
    refine ⟨.ref p, rfl, .int (i : Int), rfl, p, refs, (i : Int), .ref t0, rfl, rfl, sq_of hp4, atI_nat g0, t0, _, 0, .ref u0, rfl, rfl, SqT.of ht0, atI_nat (j := 0) rfl, u0, _, rfl, SqT.of hu0, rfl, _, _, rfl, _, _, rfl, rfl, ?_⟩
    refine ⟨v, rfl, v, M, rfl, hM.keep (TK.ex e13), ok, fun d H5 kvs ws hd e5 hd5 W5 A5 => ?_⟩
    obtain ⟨v1, u, hv1, hm, av, rfl, hru⟩ := (ways_val W5.at_ q.1).1 (A5 q.1 hpr.1)
    refine ⟨nV q.1, rfl, d, .ref av, rfl, by rw [← hv1]; exact DGet.k (k := Sum.inl (q.1 : Int)) hd5, nV q.2, rfl, ?_⟩
    have hp5 := e5 _ _ hp4
    have hR5 := steps_keep (TT.ex e5) hR4
    refine ⟨.ref p, rfl, nV i, rfl, (i : Int), rfl, nV j, rfl, (j : Int), rfl, p, refs, rfl, sq_of hp5, fun p1 hp1 => ⟨p1, _, (wk.drop i).take (j - i), rfl, sq_of upd_same, ?_, by rw [List.length_take]; omega, fun t1 H6 ht1 e6 h6 => ?_⟩⟩
    · rw [cut_steps (Nat.le_of_lt hij) (by omega)]
      exact steps_keep (TT.ex (Ex.new hp1)) (paired_take _ (paired_drop _ hR5))
    have e56 := (Ex.new (o := .lst (cutV refs (some (i : Int)) (some (j : Int)))) hp1).trans e6
    refine ⟨.ref p, rfl, nV j, rfl, (j : Int), rfl, p, refs, rfl, sq_of (e56 _ _ hp5), fun p2 hp2' => ⟨p2, _, wk.drop j, rfl, sq_of upd_same, ?_, by rw [List.length_drop]; omega, fun t2 H7 ht2 e7 h7 => ⟨by show 4 ≤ sizeLine; decide, fun t6 ht6 => ?_⟩⟩⟩
    · rw [cut_from (by omega)]
      exact steps_keep (TT.ex (e56.trans (Ex.new hp2'))) (paired_drop _ hR5)
    have e67 := (Ex.new (o := .lst (cutV refs (some (j : Int)) none)) hp2').trans e7
    have e57 := e56.trans e67
    have e78 := Ex.new (o := .tup [.ref av, nV q.2, .ref t1, .ref t2]) ht6
    obtain ⟨r1, r2, r3, r4, r5, r6⟩ := W.walk.round ok hpr hij hi hj
    obtain ⟨hu1, hu2⟩ := W5.way _ hm
    have wl5 := W5.len ok
    have ul := W5.ln _ hm
    have n6 := ok.n6
    have e : M.led 0 u = q.1 := hu2
    refine k _ u q.2 (M1.wordOf ((wk.drop i).take (j - i))) (M1.wordOf (wk.drop j)) _ ((e13.trans e5).trans (e57.trans e78)) ?_
    refine ⟨⟨t6, av, t1, t2, rfl, upd_same, ex_t (e57.trans e78) hru, SqT.of ((e67.trans e78) _ _ h6), SqT.of (e78 _ _ h7)⟩, hu1, ?_, r1, ?_, r2, r5, ?_, hpr.2, by rw [e]; exact r3, r4, by rw [e]; exact r6⟩
    · have : u.length ≤ ws.length := ul
      omega
    · unfold M1.wordOf
      rw [List.length_map, List.length_take]
      omega
    · unfold M1.wordOf
      rw [List.length_map, List.length_drop]
      omega
end

end Kx
namespace Kx
open PySem PySem.Spec PyProof.Rows L2

open Evl
section
variable {P : Program} {w : World} {K : PySem.W.Frag} {mg : Str → Option Value} {base : Heap}
/-! ### answer_unlike -/
theorem nV_dec (a b : Nat) : decide (nV a = nV b) = decide (a = b) := by
  by_cases h : a = b
  · rw [h, decide_eq_true rfl, decide_eq_true rfl]
  · rw [decide_eq_false h]
    exact decide_eq_false fun z => h (Int.ofNat_inj.mp (V.int.inj z))
/-! ### last_answer, answer_unlike -/
def sp_last (K : PySem.W.Frag) : Sp := fun vs H Q _ => ∃ (v : V) (M : M1.Mach) (i : Nat) (b : Addr) (u : List Nat) (a : Nat), vs = [v, .int (i : Int), .ref b] ∧ MacAt K H v M.st M.an ∧ M.Ok ∧ i < M.st.length ∧ SqT K H b (rowV (u ++ [a])) ∧ u.length ≤ 40000 ∧ (∀ x ∈ u ++ [a], x < M.k) ∧ ∀ H2, Ex H H2 → Q (nV (M.out (M.led i u) a)) H2
theorem cut_last (u : List Nat) (a : Nat) : cutV (rowV (u ++ [a])) none (some (-1)) = rowV u := by
  unfold cutV
  have h1 : HT.sIx (rowV (u ++ [a])).length 0 none = 0 := rfl
  have h2 : HT.sIx (rowV (u ++ [a])).length (rowV (u ++ [a])).length (some (-1)) = u.length := by
    rw [rowV_len, List.length_append, List.length_singleton]
    unfold HT.sIx
    simp
    omega
  rw [h1, h2, List.drop_zero, rowV_snoc, Nat.sub_zero, ← rowV_len u, List.take_left]
theorem has_last_answer (T : Txt K mg) (h_state_behind : Has P w K mg base "state_behind" 1 ["machine", "state", "word"] (sp_led K)) {f : Addr} {fd : FuncData} (F : Fun K "last_answer" "last_answer" s_last_answer f fd) (g : mg "last_answer" = some (.ref f)) (B : Binds K fd ["machine", "state", "word"] []) : Has P w K mg base "last_answer" 2 ["machine", "state", "word"] (sp_last K) := by
  refine Has.mk' g F.kp B (F.ok sc_last_answer (fun vs H Q E h => ?_) (fun cdv A outer s H vs Q E hr h => ?_))
  · obtain ⟨v, M, i, b, u, a, rfl, _⟩ := h
    rfl
  · obtain ⟨v, M, i, b, u, a, rfl, hM, ok, hi, hb, hl, hk, k⟩ := h
    refine ⟨_, (pss_one (ps_ret (pe_ix (ix_tupK (K := K) rfl) (pe_ix (ix_tupK (K := K) rfl) (pe_ix (ix_tupK (K := K) rfl) (pv 0) pe_int (fun _ _ => rfl)) (pe_has h_state_behind (hr.mono (by first | decide | exact Nat.le_refl _)) (by rfl) (pa_cons (pv 0) (pa_cons (pv 1) (pa_cons (pe_slice (sl_tupK (K := K) rfl) (pv 2) po_none (po_some (pe_un un_neg pe_int))) pa_nil)))) (fun _ _ => rfl)) (pe_ix (ix_tupK (K := K) rfl) (pv 2) (pe_un un_neg pe_int) (fun _ _ => rfl)) (fun _ _ => rfl)))), ?_⟩
    obtain ⟨am, x, y, rfl, hS, hx, ⟨ay, vy, rfl, hSy, hPy⟩⟩ := id hM
    have hu : ∀ x ∈ u, x < M.k := fun x hx => hk x (List.mem_append_left _ hx)
    have ha : a < M.k := hk a (List.mem_append_right _ (List.mem_singleton.mpr rfl))
    have hlast : atI (rowV (u ++ [a])) (-1) = some (nV a) := by
      rw [rowV_snoc]
      exact atI_last _ _
    have il := M.led_lt ok hi hu
    obtain ⟨b1, g1, hB1⟩ := tab_get hPy (M.ans_at ok il)
    refine ⟨.ref am, rfl, am, _, 1, _, rfl, rfl, hS, atI_nat (j := 1) rfl, ?_⟩
    refine ⟨.ref am, rfl, .int (i : Int), rfl, .ref b, rfl, 1, rfl, -1, rfl, b, _, rfl, hb, ?_, fun p1 hp1 => ?_⟩
    · rintro ⟨_, h⟩
      rw [rowV_len, List.length_append, List.length_singleton] at h
      unfold HT.sIx at h
      simp at h
      omega
    have e1 : Ex H (upd H p1 (.tup (cutV (rowV (u ++ [a])) none (some (-1))))) := Ex.new hp1
    have hp : SqT K (upd H p1 (.tup (cutV (rowV (u ++ [a])) none (some (-1))))) p1 (rowV u) := SqT.of (by rw [cut_last]; exact upd_same)
    refine ⟨.ref am, M, i, p1, u, rfl, hM.keep (TK.ex e1), ok, hi, hp, hu, fun H2 e2 => ?_⟩
    refine ⟨ay, vy, _, .ref b1, rfl, rfl, ex_t (e1.trans e2) hSy, atI_nat g1, ?_⟩
    exact ⟨.ref b, rfl, 1, rfl, b, _, -1, nV a, rfl, rfl, ex_t (e1.trans e2) hb, hlast, b1, _, _, _, rfl, rfl, ex_t (e1.trans e2) hB1, atI_nat (rowV_at (M.out_at ok il ha)), k H2 (e1.trans e2)⟩
def sp_unlike (K : PySem.W.Frag) : Sp := fun vs H Q _ => ∃ (v : V) (M : M1.Mach) (i j : Nat) (b : Addr) (u : List Nat) (a : Nat), vs = [v, .int (i : Int), .int (j : Int), .ref b] ∧ MacAt K H v M.st M.an ∧ M.Ok ∧ i < M.st.length ∧ j < M.st.length ∧ SqT K H b (rowV (u ++ [a])) ∧ u.length ≤ 40000 ∧ (∀ x ∈ u ++ [a], x < M.k) ∧ ∀ H2, Ex H H2 → Q (.bl (!decide (M.out (M.led i u) a = M.out (M.led j u) a))) H2
theorem has_answer_unlike (T : Txt K mg) (h_last_answer : Has P w K mg base "last_answer" 2 ["machine", "state", "word"] (sp_last K)) {f : Addr} {fd : FuncData} (F : Fun K "answer_unlike" "answer_unlike" s_answer_unlike f fd) (g : mg "answer_unlike" = some (.ref f)) (B : Binds K fd ["machine", "one", "other", "word"] []) : Has P w K mg base "answer_unlike" 3 ["machine", "one", "other", "word"] (sp_unlike K) := by
  refine Has.mk' g F.kp B (F.ok sc_answer_unlike (fun vs H Q E h => ?_) (fun cdv A outer s H vs Q E hr h => ?_))
  · obtain ⟨v, M, i, j, b, u, a, rfl, _⟩ := h
    rfl
  · obtain ⟨v, M, i, j, b, u, a, rfl, hM, ok, hi, hj, hb, hl, hk, k⟩ := h
    refine ⟨_, (pss_one (ps_ret (pe_cmpR op_ne (pe_has h_last_answer (hr.mono (by first | decide | exact Nat.le_refl _)) (by rfl) (pa_cons (pv 0) (pa_cons (pv 1) (pa_cons (pv 3) pa_nil)))) (pe_has h_last_answer (hr.mono (by first | decide | exact Nat.le_refl _)) (by rfl) (pa_cons (pv 0) (pa_cons (pv 2) (pa_cons (pv 3) pa_nil)))) (nomark _)))), ?_⟩
    refine s_ret (ev_op (x := nV (M.out (M.led i u) a)) (y := nV (M.out (M.led j u) a)) (ev_callV (ea_cons (ev_var rfl) (ea_cons (ev_var rfl) (ea_cons (ev_var rfl) ea_nil))) fun H3 e3 Q q => ⟨v, M, i, b, u, a, rfl, hM.keep (TK.ex e3), ok, hi, ex_t e3 hb, hl, hk, q⟩)
        (ev_callV (ea_cons (ev_var rfl) (ea_cons (ev_var rfl) (ea_cons (ev_var rfl) ea_nil))) fun H3 e3 Q q => ⟨v, M, j, b, u, a, rfl, hM.keep (TK.ex e3), ok, hj, ex_t e3 hb, hl, hk, q⟩) (rv_ne rfl)) fun H3 e3 => ?_
    rw [nV_dec]
    exact k H3 e3
end

end Kx
namespace Kx
open PySem PySem.Spec PyProof.Rows L2

open Evl
section
variable {P : Program} {w : World} {K : PySem.W.Frag} {mg : Str → Option Value} {base : Heap}
/-! ### shows_late_word, shows_never_forgets -/
def rowJ (r : List Nat) : Jv := .tup (r.map fun (n : Nat) => .num (n : Int))
theorem isRow_iff {g : Int} : ∀ {x : Jv}, x.isRow g = true ↔ ∃ r, x = rowJ r ∧ ∀ y ∈ r, (y : Int) ≤ g := by
  intro x
  constructor
  · intro h
    cases x with
    | tup xs =>
      have h' : xs.all (Jv.isInt 0 g) = true := h
      have : ∃ r : List Nat, xs = r.map (fun (n : Nat) => Jv.num (n : Int)) ∧ ∀ y ∈ r, (y : Int) ≤ g := by
        clear h
        induction xs with
        | nil => exact ⟨[], rfl, fun _ h => by simp at h⟩
        | cons x xs ih =>
          rw [List.all_cons, Bool.and_eq_true] at h'
          obtain ⟨r, hr, hg⟩ := ih h'.2
          cases x with
          | num i =>
            have h1 : (decide (0 ≤ i) && decide (i ≤ g)) = true := h'.1
            rw [Bool.and_eq_true] at h1
            have h2 := of_decide_eq_true h1.1
            have h3 := of_decide_eq_true h1.2
            refine ⟨i.toNat :: r, ?_, fun y hy => ?_⟩
            · rw [List.map_cons, hr, Int.toNat_of_nonneg h2]
            · rcases List.mem_cons.mp hy with e | hy
              · rw [e, Int.toNat_of_nonneg h2]; exact h3
              · exact hg y hy
          | non => exact absurd h'.1 (by simp [Jv.isInt])
          | oth => exact absurd h'.1 (by simp [Jv.isInt])
          | tup _ => exact absurd h'.1 (by simp [Jv.isInt])
      obtain ⟨r, hr, hg⟩ := this
      exact ⟨r, by rw [hr]; rfl, hg⟩
    | num _ => cases h
    | non => cases h
    | oth => cases h
  · rintro ⟨r, rfl, hg⟩
    show (r.map fun (n : Nat) => Jv.num (n : Int)).all (Jv.isInt 0 g) = true
    rw [List.all_map, List.all_eq_true]
    intro y hy
    show (decide ((0 : Int) ≤ y) && decide ((y : Int) ≤ g)) = true
    rw [Bool.and_eq_true]
    exact ⟨decide_eq_true (Int.natCast_nonneg y), decide_eq_true (hg y hy)⟩
theorem rowJ_at {H : Hp} {v : V} {r : List Nat} (h : JvAt K H v (rowJ r)) : ∃ a, v = .ref a ∧ SqT K H a (rowV r) := by
  unfold rowJ at h
  cases h with
  | tup hS hV =>
    rename_i a vs
    have : vs = rowV r := by
      clear hS
      induction r generalizing vs with
      | nil => cases hV; rfl
      | cons n r ih =>
        cases hV with
        | cons h1 h2 =>
          cases h1
          rw [ih h2]
          rfl
    subst this
    exact ⟨a, rfl, hS⟩
/-- what late_word may return -/
def Shows (M : M1.Mach) (x : Jv) : Prop := (M.LateIs none ∨ M.LateIs (some 0)) ∧ x = .non ∨ ∃ n, 1 ≤ n ∧ M.LateIs (some n) ∧ ∃ (u : List Nat) (s : Nat) (wd : List Nat), x = .tup [rowJ u, .num (s : Int), rowJ wd] ∧ M.Letters u ∧ s < M.st.length ∧ M.Letters wd ∧ wd.length = n ∧ M.Unl (M.led 0 u) s wd
theorem jv_non {H : Hp} {v : V} {x : Jv} (h : JvAt K H v x) : v = .non ↔ x = .non := by
  cases h with
  | num i => exact ⟨fun z => (by cases z), fun z => (by cases z)⟩
  | non => exact ⟨fun _ => rfl, fun _ => rfl⟩
  | oth _ _ hn => exact ⟨fun z => absurd z hn, fun z => by cases z⟩
  | tup _ _ => exact ⟨fun z => (by cases z), fun z => (by cases z)⟩
theorem shows_small {M : M1.Mach} {x : Jv} (h : M.LateIs none ∨ M.LateIs (some 0)) : Shows M x ↔ x = .non := by
  refine ⟨fun z => ?_, fun z => .inl ⟨h, z⟩⟩
  rcases z with ⟨_, z⟩ | ⟨n, hn, hl, _⟩
  · exact z
  · rcases h with h | h
    · cases hl.only h
    · cases hl.only h
      omega
theorem shows_big {M : M1.Mach} {x : Jv} {n : Nat} (h : M.LateIs (some (n + 1))) : Shows M x ↔ ∃ (u : List Nat) (s : Nat) (wd : List Nat), x = .tup [rowJ u, .num (s : Int), rowJ wd] ∧ M.Letters u ∧ s < M.st.length ∧ M.Letters wd ∧ wd.length = n + 1 ∧ M.Unl (M.led 0 u) s wd := by
  constructor
  · rintro (⟨z, _⟩ | ⟨m, _, hl, z⟩)
    · rcases z with z | z <;> cases z.only h
    · cases hl.only h
      exact z
  · exact fun z => .inr ⟨n + 1, by omega, h, z⟩
theorem unl_snoc {M : M1.Mach} {i j a : Nat} {u : List Nat} : M.Unl i j (u ++ [a]) ↔ M.out (M.led i u) a ≠ M.out (M.led j u) a := by
  constructor
  · rintro ⟨u', a', e, h⟩
    obtain ⟨rfl, e2⟩ := List.append_inj' e rfl
    injection e2 with e2 _
    subst e2
    exact h
  · exact fun h => ⟨u, a, rfl, h⟩
theorem rowJ_inj {r s : List Nat} (h : rowJ r = rowJ s) : r = s := by
  unfold rowJ at h
  injection h with h
  induction r generalizing s with
  | nil => cases s with
    | nil => rfl
    | cons _ _ => cases h
  | cons n r ih => cases s with
    | nil => cases h
    | cons m s =>
      rw [List.map_cons, List.map_cons] at h
      injection h with h1 h2
      injection h1 with h1
      rw [ih h2, Int.ofNat_inj.mp h1]
theorem isInt_iff {lo hi : Int} {x : Jv} : x.isInt lo hi = true ↔ ∃ i, x = .num i ∧ lo ≤ i ∧ i ≤ hi := by
  cases x with
  | num i =>
    show (decide (lo ≤ i) && decide (i ≤ hi)) = true ↔ _
    rw [Bool.and_eq_true, decide_eq_true_eq, decide_eq_true_eq]
    exact ⟨fun h => ⟨i, rfl, h⟩, fun ⟨j, e, h⟩ => by cases e; exact h⟩
  | non => exact ⟨fun z => (by cases z), fun ⟨_, e, _⟩ => (by cases e)⟩
  | oth => exact ⟨fun z => (by cases z), fun ⟨_, e, _⟩ => (by cases e)⟩
  | tup _ => exact ⟨fun z => (by cases z), fun ⟨_, e, _⟩ => (by cases e)⟩
theorem isTup_len {lo hi : Int} {x : Jv} (h : x.isTup lo hi = true) : ∃ xs, x = .tup xs ∧ lo ≤ (xs.length : Int) ∧ (xs.length : Int) ≤ hi := by
  cases x with
  | tup xs =>
    have h' : (decide (lo ≤ (xs.length : Int)) && decide ((xs.length : Int) ≤ hi)) = true := h
    rw [Bool.and_eq_true, decide_eq_true_eq, decide_eq_true_eq] at h'
    exact ⟨xs, rfl, h'⟩
  | num _ => cases h
  | non => cases h
  | oth => cases h
/-- letters, as is_word tells them -/
theorem row_word {M : M1.Mach} (ok : M.Ok) {x : Jv} : x.isRow ((M.k : Int) - 1) = true ↔ ∃ r, x = rowJ r ∧ M.Letters r := by
  have k1 := ok.k1
  rw [isRow_iff]
  constructor
  · rintro ⟨r, e, h⟩
    exact ⟨r, e, fun y hy => by have := h y hy; omega⟩
  · rintro ⟨r, e, h⟩
    exact ⟨r, e, fun y hy => by have := h y hy; omega⟩
theorem int_state {M : M1.Mach} {x : Jv} : x.isInt 0 ((M.st.length : Int) - 1) = true ↔ ∃ i : Nat, x = .num (i : Int) ∧ i < M.st.length := by
  rw [isInt_iff]
  constructor
  · rintro ⟨i, e, h1, h2⟩
    refine ⟨i.toNat, by rw [Int.toNat_of_nonneg h1]; exact e, by omega⟩
  · rintro ⟨i, e, h⟩
    exact ⟨i, e, by omega, by omega⟩
def Jv.fits2 : Jv → Prop
  | .tup xs => ∀ y ∈ xs, y.fits
  | _ => True
def sp_slw (K : PySem.W.Frag) : Sp := fun vs H Q _ => ∃ (v : V) (M : M1.Mach) (u : V) (x : Jv), vs = [v, u] ∧ MacAt K H v M.st M.an ∧ M.Ok ∧ JvAt K H u x ∧ x.fits2 ∧ ∀ (b : Bool) H2, (b = true ↔ Shows M x) → Ex H H2 → Q (.bl b) H2
theorem has_shows_late_word (T : Txt K mg) (hj_is_tuple : Has P w K mg base "is_tuple" 1 ["value", "low", "high"] (sj_is_tuple K)) (hj_is_state : Has P w K mg base "is_state" 2 ["machine", "value"] (sj_is_state K)) (hj_is_word : Has P w K mg base "is_word" 3 ["machine", "value"] (sj_is_word K)) (h_state_behind : Has P w K mg base "state_behind" 1 ["machine", "state", "word"] (sp_led K)) (h_late : Has P w K mg base "late" 6 ["machine"] (sp_late K)) (h_answer_unlike : Has P w K mg base "answer_unlike" 3 ["machine", "one", "other", "word"] (sp_unlike K)) {f : Addr} {fd : FuncData} (F : Fun K "shows_late_word" "shows_late_word" s_shows_late_word f fd) (g : mg "shows_late_word" = some (.ref f)) (B : Binds K fd ["machine", "value"] []) : Has P w K mg base "shows_late_word" 7 ["machine", "value"] (sp_slw K) := by
  refine Has.mk' g F.kp B (F.ok sc_shows_late_word (fun vs H Q E h => ?_) (fun cdv A outer s H vs Q E hr h => ?_))
  · obtain ⟨v, M, u, x, rfl, _⟩ := h
    rfl
  · obtain ⟨v, M, u, x, rfl, hM, ok, hu, hf, k⟩ := h
    refine ⟨_, (pss_cons (ps_set (i := 2) sc_shows_late_word.nd rfl (.inl rfl) (pe_has h_late (hr.mono (by first | decide | exact Nat.le_refl _)) (by rfl) (pa_cons (pv 0) pa_nil)))
      (pss_cons (ps_if (PW.pt (pw_or (pt_cmpR op_isN (pv 2) pe_non (nomark _)) (pw_or1 (pt_cmpR op_eq (pv 2) pe_int (nomark _)))))
      (pss_one (ps_ret (pe_cmpR op_isN (pv 1) pe_non (nomark _))))
      pss_nil)
      (pss_cons (ps_if (pt_not (pt_val (pe_has hj_is_tuple (hr.mono (by first | decide | exact Nat.le_refl _)) (by rfl) (pa_cons (pv 1) (pa_cons pe_int (pa_cons pe_int pa_nil))))))
      (pss_one (ps_ret pe_bl))
      pss_nil)
      (pss_cons (ps_asg (pv 1) (pg_tupK (K := K) (n := 3) rfl (by rfl) (pgs_cons (pg_name (i := 3) sc_shows_late_word.nd rfl (.inl rfl)) (pgs_cons (pg_name (i := 4) sc_shows_late_word.nd rfl (.inl rfl)) (pgs_cons (pg_name (i := 5) sc_shows_late_word.nd rfl (.inl rfl)) pgs_nil)))))
      (pss_cons (ps_if (PW.pt (pw_or (pt_not (pt_val (pe_has hj_is_word (hr.mono (by first | decide | exact Nat.le_refl _)) (by rfl) (pa_cons (pv 0) (pa_cons (pv 3) pa_nil))))) (pw_or (pt_not (pt_val (pe_has hj_is_state (hr.mono (by first | decide | exact Nat.le_refl _)) (by rfl) (pa_cons (pv 0) (pa_cons (pv 4) pa_nil))))) (pw_or1 (pt_not (pt_val (pe_has hj_is_word (hr.mono (by first | decide | exact Nat.le_refl _)) (by rfl) (pa_cons (pv 0) (pa_cons (pv 5) pa_nil)))))))))
      (pss_one (ps_ret pe_bl))
      pss_nil)
      (pss_one (ps_ret (pe_and (pe_cmpR op_eq (pe_callB (call_lenK (K := K) rfl) (by rfl) T.b_len bt_len (pa_cons (pv 5) pa_nil)) (pv 2) (nomark _)) (pe_one (pe_has h_answer_unlike (hr.mono (by first | decide | exact Nat.le_refl _)) (by rfl) (pa_cons (pv 0) (pa_cons (pe_has h_state_behind (hr.mono (by first | decide | exact Nat.le_refl _)) (by rfl) (pa_cons (pv 0) (pa_cons pe_int (pa_cons (pv 3) pa_nil)))) (pa_cons (pv 4) (pa_cons (pv 5) pa_nil)))))))))))))), ?_⟩
    refine ⟨v, rfl, v, M, rfl, hM, ok, fun o H1 hL hn e1 => ?_⟩
    have hu1 := hu.ex e1
    by_cases h0 : M.LateIs none ∨ M.LateIs (some 0)
    · refine q_when (b := true) (et_is (a := decide (oV o = .non) || decide (oV o = .int 0)) (et_or (et_isN (i := 2) rfl) fun hz => et_test (ev_op (ev_var rfl) ev_c (rv_eq (by cases o with
        | none => exact absurd hz (by simp [oV])
        | some n => rfl)))) ?_) (fun _ H2 e2 => ?_) (fun z => by cases z)
      · rcases h0 with h | h
        · cases hL.only h
          rw [show oV none = V.non from rfl, decide_eq_true (p := V.non = V.non) rfl]
          rfl
        · cases hL.only h
          rw [show oV (some 0) = V.int 0 from rfl, decide_eq_true (p := V.int 0 = V.int 0) rfl, Bool.or_true]
      · refine ⟨u, rfl, rfl, k _ H2 ?_ (e1.trans e2)⟩
        rw [decide_eq_true_eq, jv_non hu, shows_small h0]
    · obtain ⟨n, rfl⟩ : ∃ n, o = some (n + 1) := by
        cases o with
        | none => exact absurd (.inl hL) h0
        | some n => cases n with
          | zero => exact absurd (.inr hL) h0
          | succ n => exact ⟨n, rfl⟩
      have hn37 := hn _ rfl
      have hB := shows_big (x := x) hL
      refine q_when (b := false) (et_is (a := decide (oV (some (n + 1)) = .non) || decide (oV (some (n + 1)) = .int 0)) (et_or (et_isN (i := 2) rfl) fun _ => et_test (ev_op (ev_var rfl) ev_c (rv_eq rfl))) ?_) (fun z => by cases z) (fun _ H2 e2 => ?_)
      · rw [decide_eq_false (show oV (some (n + 1)) ≠ .non from fun z => by cases z), decide_eq_false (show oV (some (n + 1)) ≠ .int 0 from fun z => by
          have := V.int.inj z
          omega)]
        rfl
      have e12 := e1.trans e2
      refine q_when (et_not (et_B (ev_callV (z := .bl (x.isTup 3 3)) (ea_cons (ev_var rfl) (ea_cons ev_c (ea_cons ev_c ea_nil))) fun H3 e3 Q q => ⟨u, x, 3, 3, rfl, hu.ex (e12.trans e3), q⟩))) (fun bb H3 e3 => ?_) (fun bb H3 e3 => ?_)
      · refine s_ret ev_c fun H4 e4 => k false H4 ⟨fun z => (by cases z), fun z => ?_⟩ (e12.trans (e3.trans e4))
        obtain ⟨u, s, wd, rfl, _⟩ := hB.mp z
        exact absurd bb (by simp [Jv.isTup])
      have e13 := e12.trans e3
      obtain ⟨xs, rfl, hl1, hl2⟩ := isTup_len (lo := 3) (hi := 3) (x := x) (by cases hb : x.isTup 3 3 <;> rw [hb] at bb <;> first | rfl | cases bb)
      obtain ⟨x1, x2, x3, rfl⟩ : ∃ x1 x2 x3, xs = [x1, x2, x3] := by
        match xs, hl1, hl2 with
        | [x1, x2, x3], _, _ => exact ⟨x1, x2, x3, rfl⟩
        | [], h, _ => simp at h
        | [_], h, _ => simp at h
        | [_, _], h, _ => simp at h
        | _ :: _ :: _ :: _ :: _, _, h => simp at h; omega
      cases hu with
      | tup hS hV =>
      rename_i ta vs
      obtain ⟨v1, v2, v3, rfl, j1, j2, j3⟩ : ∃ v1 v2 v3, vs = [v1, v2, v3] ∧ JvAt K H v1 x1 ∧ JvAt K H v2 x2 ∧ JvAt K H v3 x3 := by
        cases hV with
        | cons h1 t => cases t with
          | cons h2 t => cases t with
            | cons h3 t => cases t; exact ⟨_, _, _, rfl, h1, h2, h3⟩
      have f1 : x1.fits := hf x1 (by simp)
      have f3 : x3.fits := hf x3 (by simp)
      refine ⟨.ref ta, rfl, ta, _, rfl, ex_t e13 hS, rfl, _, _, rfl, _, _, rfl, _, _, rfl, rfl, ?_⟩
      refine q_when (et_or (et_not (et_B (ev_callV (z := .bl (x1.isRow ((M.k : Int) - 1))) (ea_cons (ev_var rfl) (ea_cons (ev_var rfl) ea_nil)) fun H4 e4 Q q => ⟨v, M, v1, x1, rfl, hM.keep (TK.ex (e13.trans e4)), ok, j1.ex (e13.trans e4), f1, q⟩))) fun _ =>
        et_or (et_not (et_B (ev_callV (z := .bl (x2.isInt 0 ((M.st.length : Int) - 1))) (ea_cons (ev_var rfl) (ea_cons (ev_var rfl) ea_nil)) fun H4 e4 Q q => ⟨v, M, v2, x2, rfl, hM.keep (TK.ex (e13.trans e4)), j2.ex (e13.trans e4), q⟩))) fun _ =>
          et_not (et_B (ev_callV (z := .bl (x3.isRow ((M.k : Int) - 1))) (ea_cons (ev_var rfl) (ea_cons (ev_var rfl) ea_nil)) fun H4 e4 Q q => ⟨v, M, v3, x3, rfl, hM.keep (TK.ex (e13.trans e4)), ok, j3.ex (e13.trans e4), f3, q⟩))) (fun bb2 H4 e4 => ?_) (fun bb2 H4 e4 => ?_)
      · refine s_ret ev_c fun H5 e5 => k false H5 ⟨fun z => (by cases z), fun z => ?_⟩ (e13.trans (e4.trans e5))
        obtain ⟨u, s, wd, ex, hu, hs, hw, _⟩ := hB.mp z
        injection ex with ex
        injection ex with y1 ex
        injection ex with y2 ex
        injection ex with y3 ex
        rw [(row_word ok).mpr ⟨u, y1, hu⟩, int_state.mpr ⟨s, y2, hs⟩, (row_word ok).mpr ⟨wd, y3, hw⟩] at bb2
        cases bb2
      · rw [Bool.or_eq_false_iff, Bool.or_eq_false_iff, Bool.not_eq_false', Bool.not_eq_false', Bool.not_eq_false'] at bb2
        obtain ⟨r1, rfl, hr1⟩ := (row_word ok).mp bb2.1
        obtain ⟨s, rfl, hs⟩ := int_state.mp bb2.2.1
        obtain ⟨r3, rfl, hr3⟩ := (row_word ok).mp bb2.2.2
        obtain ⟨a1, rfl, hS1⟩ := rowJ_at j1
        obtain ⟨a3, rfl, hS3⟩ := rowJ_at j3
        cases j2
        have e14 := e13.trans e4
        by_cases hlen : r3.length = n + 1
        · obtain ⟨w3, b3, rfl⟩ : ∃ w3 b3, r3 = w3 ++ [b3] := by
            rcases List.eq_nil_or_concat r3 with z | ⟨w3, b3, z⟩
            · rw [z] at hlen; simp at hlen
            · exact ⟨w3, b3, by rw [z, List.concat_eq_append]⟩
          rw [List.length_append, List.length_singleton] at hlen
          refine s_ret (ev_andV (a := true) (ev_is (ev_op (ev_lenT (ev_var rfl) (ex_t e14 hS3)) (ev_var rfl) (rv_eq rfl)) ?_) fun _ => ev_callV (vs := [v, .int (M.led 0 r1 : Nat), .int (s : Int), .ref a3]) (ea_cons (ev_var rfl) (ea_cons (ev_callV (ea_cons (ev_var rfl) (ea_cons ev_c (ea_cons (ev_var rfl) ea_nil))) fun H5 e5 Q q => ⟨v, M, 0, a1, r1, rfl, hM.keep (TK.ex (e14.trans e5)), ok, ok.n1, ex_t (e14.trans e5) hS1, hr1, q⟩) (ea_cons (ev_var rfl) (ea_cons (ev_var rfl) ea_nil)))) fun H5 e5 Q q =>
            ⟨v, M, M.led 0 r1, s, a3, w3, b3, rfl, hM.keep (TK.ex (e14.trans e5)), ok, M.led_lt ok ok.n1 hr1, hs, ex_t (e14.trans e5) hS3, by omega, hr3, q⟩) fun H5 e5 => k _ H5 ?_ (e14.trans e5)
          · rw [rowV_len, List.length_append, List.length_singleton, hlen]
            exact congrArg V.bl (decide_eq_true rfl)
          · rw [Bool.true_and, hB, Bool.not_eq_true', decide_eq_false_iff_not]
            constructor
            · exact fun h => ⟨r1, s, w3 ++ [b3], rfl, hr1, hs, hr3, by rw [List.length_append, List.length_singleton, hlen], unl_snoc.mpr h⟩
            · rintro ⟨u', s', wd', ex, _, _, _, _, h⟩
              injection ex with ex
              injection ex with y1 ex
              injection ex with y2 ex
              injection ex with y3 ex
              injection y2 with y2
              rw [rowJ_inj y1, Int.ofNat_inj.mp y2]
              rw [← rowJ_inj y3] at h
              have := unl_snoc.mp h
              exact this
        · refine s_ret (ev_andV (a := false) (b := true) (ev_is (ev_op (ev_lenT (ev_var rfl) (ex_t e14 hS3)) (ev_var rfl) (rv_eq rfl)) ?_) fun z => by cases z) fun H5 e5 => k _ H5 ?_ (e14.trans e5)
          · rw [rowV_len]
            refine congrArg V.bl (decide_eq_false fun z => hlen ?_)
            have := V.int.inj z
            omega
          · rw [Bool.false_and, hB]
            refine ⟨fun z => (by cases z), ?_⟩
            rintro ⟨u', s', wd', ex, _, _, _, h, _⟩
            injection ex with ex
            injection ex with y1 ex
            injection ex with y2 ex
            injection ex with y3 ex
            rw [rowJ_inj y3] at hlen
            exact absurd h hlen
/-- what never_forgets may return -/
def ShowsN (M : M1.Mach) (x : Jv) : Prop := ∃ (u : List Nat) (s : Nat) (ag ls : List Nat), x = .tup [rowJ u, .num (s : Int), rowJ ag, rowJ ls] ∧ M.Letters u ∧ u.length ≤ 4000 ∧ s < M.st.length ∧ M.Letters ag ∧ ag.length ≤ 4000 ∧ ag ≠ [] ∧ M.Letters ls ∧ ls.length ≤ 4000 ∧
  M.led (M.led 0 u) ag = M.led 0 u ∧ M.led s ag = s ∧ M.Unl (M.led 0 u) s ls
def sp_snf (K : PySem.W.Frag) : Sp := fun vs H Q _ => ∃ (v : V) (M : M1.Mach) (u : V) (x : Jv), vs = [v, u] ∧ MacAt K H v M.st M.an ∧ M.Ok ∧ JvAt K H u x ∧ ∀ (b : Bool) H2, (b = true ↔ ShowsN M x) → Ex H H2 → Q (.bl b) H2
theorem short_iff {M : M1.Mach} (ok : M.Ok) {x : Jv} : (x.isTup 0 4000 && x.isRow ((M.k : Int) - 1)) = true ↔ ∃ r, x = rowJ r ∧ M.Letters r ∧ r.length ≤ 4000 := by
  rw [Bool.and_eq_true, row_word ok]
  constructor
  · rintro ⟨h1, r, rfl, hr⟩
    obtain ⟨xs, e, _, h⟩ := isTup_len h1
    unfold rowJ at e
    injection e with e
    rw [← e, List.length_map] at h
    exact ⟨r, rfl, hr, by omega⟩
  · rintro ⟨r, rfl, hr, hl⟩
    refine ⟨?_, r, rfl, hr⟩
    show (decide ((0 : Int) ≤ ((r.map fun (n : Nat) => Jv.num (n : Int)).length : Int)) && decide (((r.map fun (n : Nat) => Jv.num (n : Int)).length : Int) ≤ 4000)) = true
    rw [List.length_map, Bool.and_eq_true]
    exact ⟨decide_eq_true (by omega), decide_eq_true (by omega)⟩
theorem has_shows_never_forgets (T : Txt K mg) (h_check_machine : Has P w K mg base "check_machine" 5 ["machine"] (sp_check_machine K)) (hj_is_tuple : Has P w K mg base "is_tuple" 1 ["value", "low", "high"] (sj_is_tuple K)) (hj_is_state : Has P w K mg base "is_state" 2 ["machine", "value"] (sj_is_state K)) (hj_is_short_word : Has P w K mg base "is_short_word" 4 ["machine", "value"] (sj_is_short_word K)) (h_state_behind : Has P w K mg base "state_behind" 1 ["machine", "state", "word"] (sp_led K)) (h_answer_unlike : Has P w K mg base "answer_unlike" 3 ["machine", "one", "other", "word"] (sp_unlike K)) {f : Addr} {fd : FuncData} (F : Fun K "shows_never_forgets" "shows_never_forgets" s_shows_never_forgets f fd) (g : mg "shows_never_forgets" = some (.ref f)) (B : Binds K fd ["machine", "value"] []) : Has P w K mg base "shows_never_forgets" 6 ["machine", "value"] (sp_snf K) := by
  refine Has.mk' g F.kp B (F.ok sc_shows_never_forgets (fun vs H Q E h => ?_) (fun cdv A outer s H vs Q E hr h => ?_))
  · obtain ⟨v, M, u, x, rfl, _⟩ := h
    rfl
  · obtain ⟨v, M, u, x, rfl, hM, ok, hu, k⟩ := h
    refine ⟨_, (pss_cons (ps_expr (pe_has h_check_machine (hr.mono (by first | decide | exact Nat.le_refl _)) (by rfl) (pa_cons (pv 0) pa_nil)))
      (pss_cons (ps_if (pt_not (pt_val (pe_has hj_is_tuple (hr.mono (by first | decide | exact Nat.le_refl _)) (by rfl) (pa_cons (pv 1) (pa_cons pe_int (pa_cons pe_int pa_nil))))))
      (pss_one (ps_ret pe_bl))
      pss_nil)
      (pss_cons (ps_asg (pv 1) (pg_tupK (K := K) (n := 4) rfl (by rfl) (pgs_cons (pg_name (i := 2) sc_shows_never_forgets.nd rfl (.inl rfl)) (pgs_cons (pg_name (i := 3) sc_shows_never_forgets.nd rfl (.inl rfl)) (pgs_cons (pg_name (i := 4) sc_shows_never_forgets.nd rfl (.inl rfl)) (pgs_cons (pg_name (i := 5) sc_shows_never_forgets.nd rfl (.inl rfl)) pgs_nil))))))
      (pss_cons (ps_if (pt_not (pt_val (pe_callB (cr_all rfl) (by rfl) T.b_all bt_all (pa_cons (pe_lc (own := [("word", 7)]) (g := gName 7) (tt := tYes) (by rfl) sc_shows_never_forgets.nd (pi_tupK (K := K) rfl (pe_tup (pa_cons (pv 2) (pa_cons (pv 4) (pa_cons (pv 5) pa_nil))))) (blkOk_by (N := N_shows_never_forgets) (sc := defScope s_shows_never_forgets) (by decide +kernel)) (fun _ _ _ _ _ => pg_name (i := 7) sc_shows_never_forgets.nd rfl (Or.inl rfl)) (fun _ _ _ _ _ => pts_nil) (fun _ _ _ _ _ => (pe_has hj_is_short_word (hr.mono (by first | decide | exact Nat.le_refl _)) (by rfl) (pa_cons (pv 0) (pa_cons (pv 7) pa_nil))))) pa_nil))))
      (pss_one (ps_ret pe_bl))
      pss_nil)
      (pss_cons (ps_if (PW.pt (pw_or (pt_not (pt_val (pe_has hj_is_state (hr.mono (by first | decide | exact Nat.le_refl _)) (by rfl) (pa_cons (pv 0) (pa_cons (pv 3) pa_nil))))) (pw_or (pt_not (pt_tru (K := K) rfl (pv 4))) (pw_or1 (pt_not (pt_tru (K := K) rfl (pv 5)))))))
      (pss_one (ps_ret pe_bl))
      pss_nil)
      (pss_cons (ps_set (i := 6) sc_shows_never_forgets.nd rfl (.inl rfl) (pe_has h_state_behind (hr.mono (by first | decide | exact Nat.le_refl _)) (by rfl) (pa_cons (pv 0) (pa_cons pe_int (pa_cons (pv 2) pa_nil)))))
      (pss_cons (ps_if (PW.pt (pw_or (pt_cmpR op_ne (pe_has h_state_behind (hr.mono (by first | decide | exact Nat.le_refl _)) (by rfl) (pa_cons (pv 0) (pa_cons (pv 6) (pa_cons (pv 4) pa_nil)))) (pv 6) (nomark _)) (pw_or1 (pt_cmpR op_ne (pe_has h_state_behind (hr.mono (by first | decide | exact Nat.le_refl _)) (by rfl) (pa_cons (pv 0) (pa_cons (pv 3) (pa_cons (pv 4) pa_nil)))) (pv 3) (nomark _)))))
      (pss_one (ps_ret pe_bl))
      pss_nil)
      (pss_one (ps_ret (pe_has h_answer_unlike (hr.mono (by first | decide | exact Nat.le_refl _)) (by rfl) (pa_cons (pv 0) (pa_cons (pv 6) (pa_cons (pv 3) (pa_cons (pv 5) pa_nil)))))))))))))), ?_⟩
    refine ⟨v, rfl, v, M, rfl, hM, ok, fun H1 e1 => ?_⟩
    refine q_when (et_not (et_B (ev_callV (z := .bl (x.isTup 4 4)) (ea_cons (ev_var rfl) (ea_cons ev_c (ea_cons ev_c ea_nil))) fun H3 e3 Q q => ⟨u, x, 4, 4, rfl, hu.ex (e1.trans e3), q⟩))) (fun bb H3 e3 => ?_) (fun bb H3 e3 => ?_)
    · refine s_ret ev_c fun H4 e4 => k false H4 ⟨fun z => (by cases z), fun z => ?_⟩ (e1.trans (e3.trans e4))
      obtain ⟨u, s, ag, ls, rfl, _⟩ := z
      exact absurd bb (by simp [Jv.isTup])
    have e13 := e1.trans e3
    obtain ⟨xs, rfl, hl1, hl2⟩ := isTup_len (lo := 4) (hi := 4) (x := x) (by cases hb : x.isTup 4 4 <;> rw [hb] at bb <;> first | rfl | cases bb)
    obtain ⟨x1, x2, x3, x4, rfl⟩ : ∃ x1 x2 x3 x4, xs = [x1, x2, x3, x4] := by
      match xs, hl1, hl2 with
      | [x1, x2, x3, x4], _, _ => exact ⟨x1, x2, x3, x4, rfl⟩
      | [], h, _ => simp at h
      | [_], h, _ => simp at h
      | [_, _], h, _ => simp at h
      | [_, _, _], h, _ => simp at h
      | _ :: _ :: _ :: _ :: _ :: _, _, h => simp at h; omega
    cases hu with
    | tup hS hV =>
    rename_i ta vs
    obtain ⟨v1, v2, v3, v4, rfl, j1, j2, j3, j4⟩ : ∃ v1 v2 v3 v4, vs = [v1, v2, v3, v4] ∧ JvAt K H v1 x1 ∧ JvAt K H v2 x2 ∧ JvAt K H v3 x3 ∧ JvAt K H v4 x4 := by
      cases hV with
      | cons h1 t => cases t with
        | cons h2 t => cases t with
          | cons h3 t => cases t with
            | cons h4 t => cases t; exact ⟨_, _, _, _, rfl, h1, h2, h3, h4⟩
    refine ⟨.ref ta, rfl, ta, _, rfl, ex_t e13 hS, rfl, _, _, rfl, _, _, rfl, _, _, rfl, _, _, rfl, rfl, ?_⟩
    have big := el_lcNT (K := K) (σ := [some v, some (.ref ta), some v1, some v2, some v3, some v4, none, none]) (H := H3) (te := tCall (sj_is_short_word K) [] E0 (tCons (tVar 0) (tCons (tVar 7) tNil))) (xs := [v1, v3, v4]) (tl := tTup (tCons (tVar 2) (tCons (tVar 4) (tCons (tVar 5) tNil)))) (j := 7) (vs := [7])
      (fun i => .bl ((([x1, x3, x4] : List Jv).getD i .non).isTup 0 4000 && (([x1, x3, x4] : List Jv).getD i .non).isRow ((M.k : Int) - 1))) (eu_tup (ea_cons (ev_var rfl) (ea_cons (ev_var rfl) (ea_cons (ev_var rfl) ea_nil))) (by show 3 ≤ 100000; decide)) (by show 3 ≤ 40000; decide) (fun _ => rfl) (fun i z H5 e5 hz => ?_)
    · have toB : ∀ {b : Bool}, (!b) = false → b = true := fun {b} h => by cases b <;> first | rfl | cases h
      refine q_when (et_not (et_B (ev_allB (bs := [x1.isTup 0 4000 && x1.isRow ((M.k : Int) - 1), x3.isTup 0 4000 && x3.isRow ((M.k : Int) - 1), x4.isTup 0 4000 && x4.isRow ((M.k : Int) - 1)]) big))) (fun bb2 H4 e4 => ?_) (fun bb2 H4 e4 => ?_)
      · refine s_ret ev_c fun H5 e5 => k false H5 ⟨fun z => (by cases z), fun z => ?_⟩ (e13.trans (e4.trans e5))
        obtain ⟨u, s, ag, ls, ex, p1, p2, p3, p4, p5, p6, p7, p8, _⟩ := z
        injection ex with ex
        injection ex with y1 ex
        injection ex with y2 ex
        injection ex with y3 ex
        injection ex with y4 ex
        rw [(short_iff ok).mpr ⟨u, y1, p1, p2⟩, (short_iff ok).mpr ⟨ag, y3, p4, p5⟩, (short_iff ok).mpr ⟨ls, y4, p7, p8⟩] at bb2
        cases bb2
      · have hall := toB bb2
        rw [List.all_cons, List.all_cons, List.all_cons, List.all_nil, Bool.and_true, Bool.and_eq_true, Bool.and_eq_true] at hall
        obtain ⟨r1, rfl, hr1, hl1'⟩ := (short_iff ok).mp hall.1
        obtain ⟨r3, rfl, hr3, hl3⟩ := (short_iff ok).mp hall.2.1
        obtain ⟨r4, rfl, hr4, hl4⟩ := (short_iff ok).mp hall.2.2
        obtain ⟨a1, rfl, hS1⟩ := rowJ_at j1
        obtain ⟨a3, rfl, hS3⟩ := rowJ_at j3
        obtain ⟨a4, rfl, hS4⟩ := rowJ_at j4
        have e14 := e13.trans e4
        refine q_when (et_or (et_not (et_B (ev_callV (z := .bl (x2.isInt 0 ((M.st.length : Int) - 1))) (ea_cons (ev_var rfl) (ea_cons (ev_var rfl) ea_nil)) fun H5 e5 Q q => ⟨v, M, v2, x2, rfl, hM.keep (TK.ex (e14.trans e5)), j2.ex (e14.trans e5), q⟩))) fun _ =>
          et_or (et_not (et_tru (ev_var rfl) fun H5 e5 => tru_tup (ex_t (e14.trans e5) hS3))) fun _ => et_not (et_tru (ev_var rfl) fun H5 e5 => tru_tup (ex_t (e14.trans e5) hS4))) (fun bb3 H5 e5 => ?_) (fun bb3 H5 e5 => ?_)
        · refine s_ret ev_c fun H6 e6 => k false H6 ⟨fun z => (by cases z), fun z => ?_⟩ (e14.trans (e5.trans e6))
          obtain ⟨u, s, ag, ls, ex, p1, p2, p3, p4, p5, p6, p7, p8, p9, p10, p11⟩ := z
          injection ex with ex
          injection ex with y1 ex
          injection ex with y2 ex
          injection ex with y3 ex
          injection ex with y4 ex
          rw [int_state.mpr ⟨s, y2, p3⟩, Bool.not_true, Bool.false_or, rowJ_inj y3, rowJ_inj y4] at bb3
          obtain ⟨w4, b4, e, _⟩ := p11
          subst e
          cases ag with
          | nil => exact (p6 rfl).elim
          | cons g ag =>
            rw [rowV_snoc] at bb3
            simp [rowV] at bb3
        · rw [Bool.or_eq_false_iff, Bool.or_eq_false_iff] at bb3
          obtain ⟨s, rfl, hs⟩ := int_state.mp (toB bb3.1)
          have hne3 : r3 ≠ [] := fun z => by subst z; exact absurd bb3.2.1 (by decide)
          have hne4 : r4 ≠ [] := fun z => by subst z; exact absurd bb3.2.2 (by decide)
          cases j2
          have e15 := e14.trans e5
          refine ⟨v, rfl, .ref a1, rfl, v, M, 0, a1, r1, rfl, hM.keep (TK.ex e15), ok, ok.n1, ex_t e15 hS1, hr1, fun H6 e6 => ?_⟩
          have e16 := e15.trans e6
          have il := M.led_lt ok ok.n1 hr1
          refine q_when (et_or (et_test (ev_op (x := nV (M.led (M.led 0 r1) r3)) (y := nV (M.led 0 r1)) (ev_callV (ea_cons (ev_var rfl) (ea_cons (ev_var rfl) (ea_cons (ev_var rfl) ea_nil))) fun H7 e7 Q q => ⟨v, M, M.led 0 r1, a3, r3, rfl, hM.keep (TK.ex (e16.trans e7)), ok, il, ex_t (e16.trans e7) hS3, hr3, q⟩) (ev_var rfl) (rv_ne rfl))) fun _ =>
            et_test (ev_op (x := nV (M.led s r3)) (y := nV s) (ev_callV (ea_cons (ev_var rfl) (ea_cons (ev_var rfl) (ea_cons (ev_var rfl) ea_nil))) fun H7 e7 Q q => ⟨v, M, s, a3, r3, rfl, hM.keep (TK.ex (e16.trans e7)), ok, hs, ex_t (e16.trans e7) hS3, hr3, q⟩) (ev_var rfl) (rv_ne rfl))) (fun bb4 H7 e7 => ?_) (fun bb4 H7 e7 => ?_)
          · refine s_ret ev_c fun H8 e8 => k false H8 ⟨fun z => (by cases z), fun z => ?_⟩ (e16.trans (e7.trans e8))
            obtain ⟨u, s', ag, ls, ex, p1, p2, p3, p4, p5, p6, p7, p8, p9, p10, p11⟩ := z
            injection ex with ex
            injection ex with y1 ex
            injection ex with y2 ex
            injection ex with y3 ex
            injection y2 with y2
            rw [nV_dec, nV_dec, rowJ_inj y1, rowJ_inj y3, Int.ofNat_inj.mp y2, decide_eq_true p9, decide_eq_true p10] at bb4
            cases bb4
          · rw [nV_dec, nV_dec, Bool.or_eq_false_iff] at bb4
            have q1 := of_decide_eq_true (toB bb4.1)
            have q2 := of_decide_eq_true (toB bb4.2)
            obtain ⟨w4, b4, rfl⟩ : ∃ w4 b4, r4 = w4 ++ [b4] := by
              rcases List.eq_nil_or_concat r4 with z | ⟨w4, b4, z⟩
              · exact absurd z hne4
              · exact ⟨w4, b4, by rw [z, List.concat_eq_append]⟩
            rw [List.length_append, List.length_singleton] at hl4
            have e17 := e16.trans e7
            refine s_ret (ev_callV (ea_cons (ev_var rfl) (ea_cons (ev_var rfl) (ea_cons (ev_var rfl) (ea_cons (ev_var rfl) ea_nil)))) fun H8 e8 Q q => ⟨v, M, M.led 0 r1, s, a4, w4, b4, rfl, hM.keep (TK.ex (e17.trans e8)), ok, il, hs, ex_t (e17.trans e8) hS4, by omega, hr4, q⟩) fun H8 e8 => k _ H8 ?_ (e17.trans e8)
            rw [Bool.not_eq_true', decide_eq_false_iff_not]
            constructor
            · exact fun h => ⟨r1, s, r3, w4 ++ [b4], rfl, hr1, hl1', hs, hr3, hl3, hne3, hr4, by rw [List.length_append, List.length_singleton]; exact hl4, q1, q2, unl_snoc.mpr h⟩
            · rintro ⟨u, s', ag, ls, ex, _, _, _, _, _, _, _, _, _, _, h⟩
              injection ex with ex
              injection ex with y1 ex
              injection ex with y2 ex
              injection ex with y3 ex
              injection ex with y4 ex
              injection y2 with y2
              rw [rowJ_inj y1, Int.ofNat_inj.mp y2]
              rw [← rowJ_inj y4] at h
              exact unl_snoc.mp h
    · have e15 := e13.trans e5
      refine ev_callV (vs := [v, z]) (ea_cons (ev_var rfl) (ea_cons (ev_var rfl) ea_nil)) fun H6 e6 Q q => ?_
      have e16 := e15.trans e6
      match i, hz with
      | 0, hz => cases hz; exact ⟨v, M, v1, x1, rfl, hM.keep (TK.ex e16), ok, j1.ex e16, q⟩
      | 1, hz => cases hz; exact ⟨v, M, v3, x3, rfl, hM.keep (TK.ex e16), ok, j3.ex e16, q⟩
      | 2, hz => cases hz; exact ⟨v, M, v4, x4, rfl, hM.keep (TK.ex e16), ok, j4.ex e16, q⟩
      | _ + 3, hz => cases hz
end

end Kx
namespace Kx
open PySem PySem.Spec PyProof.Rows L2

open Evl
section
variable {P : Program} {w : World} {K : PySem.W.Frag} {mg : Str → Option Value} {base : Heap}
/-! ### the table of pairs -/
def tabV (ps : List (Nat × Nat)) : List (List Key × V) := ps.map fun p => ([Sum.inl (p.1 : Int), Sum.inl (p.2 : Int)], V.bl true)
theorem key_eq {p q : Nat × Nat} : ([Sum.inl (p.1 : Int), Sum.inl (p.2 : Int)] : List Key) = [Sum.inl (q.1 : Int), Sum.inl (q.2 : Int)] ↔ p = q := by
  constructor
  · intro h
    injection h with h1 h2
    injection h2 with h2 _
    injection h1 with h1
    injection h2 with h2
    exact Prod.ext (Int.ofNat_inj.mp h1) (Int.ofNat_inj.mp h2)
  · intro h
    rw [h]
theorem tab_val : ∀ (ps : List (Nat × Nat)) (p : Nat × Nat), valV (tabV ps) [Sum.inl (p.1 : Int), Sum.inl (p.2 : Int)] = if p ∈ ps then some (.bl true) else none
  | [], p => rfl
  | q :: ps, p => by
    have ih := tab_val ps p
    show valV (([Sum.inl (q.1 : Int), Sum.inl (q.2 : Int)], V.bl true) :: tabV ps) _ = _
    by_cases h : q = p
    · subst h
      rw [valV_pos rfl, if_pos List.mem_cons_self]
    · rw [valV_neg (fun z => h (key_eq.mp z)), ih]
      by_cases hm : p ∈ ps
      · rw [if_pos hm, if_pos (List.mem_cons_of_mem _ hm)]
      · rw [if_neg hm, if_neg fun z => by
          rcases List.mem_cons.mp z with z | z
          · exact h z.symm
          · exact hm z]
theorem tab_put (ps : List (Nat × Nat)) (p : Nat × Nat) : putK (tabV ps) [Sum.inl (p.1 : Int), Sum.inl (p.2 : Int)] (.bl true) = tabV (M1.addP ps p) := by
  unfold M1.addP
  by_cases hm : p ∈ ps
  · rw [if_pos hm]
    unfold putK
    rw [valV_any, tab_val, if_pos hm]
    rw [if_pos (by rfl)]
    unfold tabV
    rw [List.map_map]
    refine List.map_congr_left fun q _ => ?_
    show (if ([Sum.inl (q.1 : Int), Sum.inl (q.2 : Int)] : List Key) = [Sum.inl (p.1 : Int), Sum.inl (p.2 : Int)] then _ else _) = _
    split <;> rfl
  · rw [if_neg hm, putK_new _ (by rw [tab_val, if_neg hm])]
    unfold tabV
    rw [List.map_append]
    rfl
theorem tabV_len (ps : List (Nat × Nat)) : (tabV ps).length = ps.length := by unfold tabV; rw [List.length_map]
end

end Kx
namespace Kx
open PySem PySem.Spec PyProof.Rows L2

open Evl
section
variable {P : Program} {w : World} {K : PySem.W.Frag} {mg : Str → Option Value} {base : Heap}
theorem ev_ne_rows {ta tb : TE} {σ : L2.St} {H : Hp} {p q : Addr} {r s : List Nat} (ha : Ev ta σ H (.ref p)) (hb : Ev tb σ H (.ref q)) (hp : SqT K H p (rowV r)) (hq : SqT K H q (rowV s)) : Ev (tOp (rNeD K) ta tb) σ H (.bl (!decide (r = s))) :=
  ev_op ha hb fun H1 e Q k => ⟨.tuple (rowD r), .tuple (rowD s), .tup (ex_t e hp) (dp_row r), .tup (ex_t e hq) (dp_row s), by
    unfold SeqAt.shaped
    simp only [PyData.canLay0, PyData.depth, canLay_row, depth_row]
    decide, by
    unfold SeqAt.shaped
    simp only [PyData.canLay0, PyData.depth, canLay_row, depth_row]
    decide, by
    rw [show PyData.eqv (.tuple (rowD r)) (.tuple (rowD s)) = decide (r = s) by rw [PyData.eqv]; exact eqv_rows r s]
    exact k H1 (Ex.refl H1)⟩
theorem rv_neRows {H : Hp} {p q : Addr} {r s : List Nat} (hp : SqL K H p (rowV r)) (hq : SqL K H q (rowV s)) : Evl.RV (rNeD K) (.ref p) (.ref q) H (.bl (!decide (r = s))) := fun H1 e Q k =>
  ⟨_, _, .lst (ex_l e hp) (dp_row r), .lst (ex_l e hq) (dp_row s), shaped_rowL r, shaped_rowL s, by
    rw [show PyData.eqv (.list (rowD r)) (.list (rowD s)) = decide (r = s) by rw [PyData.eqv]; exact eqv_rows r s]
    exact k H1 (Ex.refl H1)⟩
end

end Kx
namespace Kx
open PySem PySem.Spec PyProof.Rows L2

open Evl
section
variable {P : Program} {w : World} {K : PySem.W.Frag} {mg : Str → Option Value} {base : Heap}
/-! ### the law's own: the states that come -/
def sp_comes (K : PySem.W.Frag) : Sp := fun vs H Q _ => ∃ (v : V) (M : M1.Mach), vs = [v] ∧ MacAt K H v M.st M.an ∧ M.Ok ∧ ∀ p H2 r, H p = none → Ex H H2 → H2 p = some (.lst (rowV r)) → r.Nodup → (∀ i, i ∈ r ↔ M.Rch i) → Q (.ref p) H2
theorem has_law_comes (T : Txt K mg) {f : Addr} {fd : FuncData} (F : Fun K "_law_comes" "_law_comes" s_law_comes f fd) (g : mg "_law_comes" = some (.ref f)) (B : Binds K fd ["machine"] []) : Has P w K mg base "_law_comes" 1 ["machine"] (sp_comes K) := by
  refine Has.mk' g F.kp B (F.ok sc_law_comes (fun vs H Q E h => ?_) (fun cdv A outer s H vs Q E hr h => ?_))
  · obtain ⟨v, M, rfl, _⟩ := h
    rfl
  · obtain ⟨v, M, rfl, hM, ok, k⟩ := h
    refine ⟨_, (pss_cons (ps_set (i := 1) sc_law_comes.nd rfl (.inl rfl) (pe_lst (pa_cons pe_int pa_nil)))
      (pss_cons (ps_for PassesOwn.never rfl (pi_range1 (by rfl) T.b_range (pa_cons (pe_callB (call_lenK (K := K) rfl) (by rfl) T.b_len bt_len (pa_cons (pe_ix (ix_tupK (K := K) rfl) (pv 0) pe_int (fun _ _ => rfl)) pa_nil)) pa_nil)) (pg_name (i := 2) sc_law_comes.nd rfl (.inl rfl))
      (pss_cons (ps_set (i := 3) sc_law_comes.nd rfl (.inl rfl) (pe_lst pa_nil))
      (pss_cons (ps_for PassesOwn.never rfl (pi_listK (K := K) rfl (pv 1)) (pg_name (i := 4) sc_law_comes.nd rfl (.inl rfl))
      (pss_one (ps_set (i := 3) sc_law_comes.nd rfl (.inl rfl) (pe_op op_cat (pv 3) (pe_callTy (call_listK (K := K) rfl) (by rfl) T.b_list bt_list (pa_cons (pe_ix (ix_tupK (K := K) rfl) (pe_ix (ix_tupK (K := K) rfl) (pv 0) pe_int (fun _ _ => rfl)) (pv 4) (fun _ _ => rfl)) pa_nil))))))
      (pss_one (ps_set (i := 1) sc_law_comes.nd rfl (.inl rfl) (pe_callB (cr_sortedSet rfl) (by rfl) T.b_sorted bt_sorted (pa_cons (pe_callTy (cr_setL1 (K := K) rfl rfl) (by rfl) T.b_set bt_set (pa_cons (pe_op op_cat (pv 1) (pv 3)) pa_nil)) pa_nil)))))))
      (pss_one (ps_ret (pv 1))))), ?_⟩
    obtain ⟨a, x, y, rfl, hS, ⟨ax, vx, rfl, hSx, hPx⟩, hy⟩ := id hM
    have hvl : vx.length = M.st.length := Paired.length hPx
    have n6 := ok.n6
    have k3 := ok.k3
    refine q_asgL (el_lst (ea_cons ev_c ea_nil) (by show 1 ≤ 100000; decide)) fun p1 H1 hp1 e1 h1 => ?_
    refine q_forR1 (n := (vx.length : Int)) (ea_cons (ev_lenT (ev_op (ev_var rfl) ev_c (rv_ixT (ex_t e1 hS) (atI_nat (j := 0) rfl))) (ex_t e1 hSx)) ea_nil) ⟨by omega, by omega⟩ (fun t σ' H' => ∃ (r : List Nat) (p : Addr) (l2 l3 l4 : Option V), σ' = [some (.ref a), some (.ref p), l2, l3, l4] ∧ Ex H H' ∧ H p = none ∧ H' p = some (.lst (rowV r)) ∧ M.ComeIn t r)
      (fun H2 e2 => ⟨[0], p1, none, none, none, rfl, e1.trans e2, hp1, e2 _ _ h1, M1.Mach.ComeIn.start⟩) ?_ ?_
    · rintro t σ' H2 ht ⟨r, p, l2, l3, l4, rfl, e2, hp, hp2, C⟩
      have rl := C.len ok
      refine q_asgL (el_lst ea_nil (by show 0 ≤ 100000; decide)) fun m0 H3 hm0 e3 h3 => ?_
      refine q_forL (ev_var rfl) (sq_of (e3 _ _ hp2)) (fun j σ' H' => ∃ (q : Addr) (l4 : Option V), σ' = [some (.ref a), some (.ref p), some (.int (t : Int)), some (.ref q), l4] ∧ Ex H3 H' ∧ H' q = some (.lst (rowV ((r.take j).flatMap M.row))) ∧ H2 q = none)
        (fun H4 e4 => ⟨m0, l4, rfl, e4, e4 _ _ h3, hm0⟩) (fun j σ' H' _ ⟨_, _, _, e, _⟩ => sq_of (e _ _ (e3 _ _ hp2))) ?_ ?_
      · rintro j z σ' H4 hz ⟨q, m4, rfl, e4, hq4, hq2⟩
        obtain ⟨i, hi, rfl⟩ := map_of hz
        have hil : i < M.st.length := (C.sound i (List.mem_of_getElem? hi)).lt ok
        obtain ⟨b, g, hb⟩ := tab_get hPx (M.row_at hil)
        have e24 := (e2.trans e3).trans e4
        have hj : j < r.length := (List.getElem?_eq_some_iff.mp hi).1
        have hfl : ∀ (l : List Nat), (∀ i ∈ l, i < M.st.length) → (l.flatMap M.row).length ≤ l.length * 3 := by
          intro l
          induction l with
          | nil => intro _; exact Nat.le_refl _
          | cons i l ih =>
            intro h
            have := ih fun x hx => h x (List.mem_cons_of_mem _ hx)
            have h2 := M.row_len ok (h i List.mem_cons_self)
            rw [List.flatMap_cons, List.length_append, List.length_cons]
            omega
        have hf := hfl (r.take j) fun i hi => (C.sound i (List.mem_of_mem_take hi)).lt ok
        rw [List.length_take] at hf
        have hrow := M.row_len ok hil
        refine ⟨.ref q, rfl, .ref a, rfl, a, _, 0, .ref ax, rfl, rfl, ex_t e24 hS, atI_nat (j := 0) rfl, nV i, rfl, ax, vx, _, .ref b, rfl, rfl, ex_t e24 hSx, atI_nat g, b, rowV (M.row i), rfl, .inr (ex_t e24 hb), fun l5 h5 => ?_⟩
        refine ⟨q, l5, rowV ((r.take j).flatMap M.row), rowV (M.row i), rfl, rfl, Ex.new h5 _ _ hq4, upd_same, Nat.le_of_lt (small1000 (by rw [rowV_len, rowV_len]; omega)), fun p6 hp6 => ?_⟩
        refine ⟨p6, _, rfl, (e4.trans (Ex.new h5)).trans (Ex.new hp6), ?_, fresh_back ((e3.trans e4).trans (Ex.new h5)) hp6⟩
        rw [upd_same, M1.take_succ' hi, List.flatMap_append]
        unfold rowV
        rw [List.map_append]
        simp
      · rintro σ' H4 ⟨q, m4, rfl, e4, hq4, hq2⟩
        rw [rowV_len, List.take_length] at hq4
        have hfl : (r.flatMap M.row).length ≤ r.length * 3 := by
          have : ∀ (l : List Nat), (∀ i ∈ l, i < M.st.length) → (l.flatMap M.row).length ≤ l.length * 3 := by
            intro l
            induction l with
            | nil => intro _; exact Nat.le_refl _
            | cons i l ih =>
              intro h
              have := ih fun x hx => h x (List.mem_cons_of_mem _ hx)
              have h2 := M.row_len ok (h i List.mem_cons_self)
              rw [List.flatMap_cons, List.length_append, List.length_cons]
              omega
          exact this r fun i hi => (C.sound i hi).lt ok
        have hp4 := (e3.trans e4) _ _ hp2
        refine ⟨.ref p, rfl, .ref q, rfl, p, q, _, _, rfl, rfl, hp4, hq4, Nat.le_of_lt (small1000 (by rw [rowV_len, rowV_len]; omega)), fun p5 hp5 => ?_⟩
        refine ⟨p5, ((r ++ r.flatMap M.row).map fun (n : Nat) => (n : Int)), rfl, sq_of (by rw [upd_same]; unfold rowV; rw [← List.map_append, List.map_map]; rfl), ?_, fun c p6 hc hp6 => ?_⟩
        · rw [List.length_map, List.length_append]
          unfold scanBound
          omega
        rw [List.length_map, List.length_append] at hc
        refine ⟨p6, _, c, rfl, upd_same, by omega, fun ns p7 hpw hmem hlen hp7 => ?_⟩
        have hall : ∀ x ∈ ns, ∃ n : Nat, x = (n : Int) ∧ n ∈ r ++ r.flatMap M.row := fun x hx => by
          have := of_decide_eq_true ((hmem x).mp hx)
          obtain ⟨n, hn, e⟩ := List.mem_map.mp this
          exact ⟨n, e.symm, hn⟩
        have hns : ns = (ns.map Int.toNat).map fun (n : Nat) => (n : Int) := by
          rw [List.map_map]
          conv => lhs; rw [← List.map_id ns]
          refine List.map_congr_left fun x hx => ?_
          obtain ⟨n, rfl, _⟩ := hall x hx
          rfl
        have hnd : (ns.map Int.toNat).Nodup := by
          have h1 : ns.Nodup := hpw.imp fun h => Int.ne_of_lt h
          rw [hns] at h1
          exact List.Pairwise.of_map _ (fun a b h e => h (congrArg _ e)) h1
        have e56 := ((Ex.new hp5).trans (Ex.new hp6)).trans (Ex.new (o := .lst (ns.map V.int)) hp7)
        refine ⟨ns.map Int.toNat, p7, _, _, _, rfl, ((e2.trans e3).trans e4).trans e56, fresh_back (((e2.trans e3).trans e4).trans ((Ex.new hp5).trans (Ex.new hp6))) hp7, ?_, C.go ok hnd fun x => ?_⟩
        · rw [upd_same]
          conv => lhs; rw [hns]
          unfold rowV
          rw [List.map_map]
          rfl
        · constructor
          · intro hx
            obtain ⟨z, hz, rfl⟩ := List.mem_map.mp hx
            obtain ⟨n, rfl, hn⟩ := hall z hz
            rw [Int.toNat_natCast]
            rcases List.mem_append.mp hn with h | h
            · exact .inl h
            · exact .inr (List.mem_flatMap.mp h)
          · intro hx
            refine List.mem_map.mpr ⟨(x : Int), (hmem _).mpr (decide_eq_true (List.mem_map.mpr ⟨x, ?_, rfl⟩)), Int.toNat_natCast x⟩
            rcases hx with h | h
            · exact List.mem_append_left _ h
            · exact List.mem_append_right _ (List.mem_flatMap.mpr h)
    · rintro σ' H2 ⟨r, p, l2, l3, l4, rfl, e2, hp, hp2, C⟩
      rw [Int.toNat_natCast, hvl] at C
      exact s_ret (ev_var rfl) fun H3 e3 => k p H3 r hp (e2.trans e3) (e3 _ _ hp2) C.nd (C.done ok)
end

end Kx
namespace Kx
open PySem PySem.Spec PyProof.Rows L2

open Evl
section
variable {P : Program} {w : World} {K : PySem.W.Frag} {mg : Str → Option Value} {base : Heap}
/-! ### the law's own: the lots of pairs -/
theorem paired_app {α β : Type} {F : α → β → Prop} {l l2 : List α} {m m2 : List β} (h : Paired F l m) (h2 : Paired F l2 m2) : Paired F (l ++ l2) (m ++ m2) := by
  induction h with
  | nil => exact h2
  | cons h _ ih => exact .cons h ih
theorem paired_perm {α β : Type} {F : α → β → Prop} {l l' : List α} (h : l'.Perm l) : ∀ {m : List β}, Paired F l m → ∃ m', m'.Perm m ∧ Paired F l' m' := by
  induction h with
  | nil => exact fun h => ⟨_, .refl _, h⟩
  | cons x _ ih =>
    intro m h
    cases h with
    | cons hx t =>
      obtain ⟨m', p, q⟩ := ih t
      exact ⟨_ :: m', p.cons _, .cons hx q⟩
  | swap x y l =>
    intro m h
    cases h with
    | cons hx t => cases t with
      | cons hy t => exact ⟨_, .swap _ _ _, .cons hy (.cons hx t)⟩
  | trans _ _ ih1 ih2 =>
    intro m h
    obtain ⟨m1, p1, q1⟩ := ih2 h
    obtain ⟨m2, p2, q2⟩ := ih1 q1
    exact ⟨m2, p2.trans p1, q2⟩
def LotAt (H : Hp) (v : V) (l : List (Nat × Nat)) : Prop := ∃ p refs, v = .ref p ∧ H p = some (.lst refs) ∧ Paired (PairAt H) refs l
theorem LotAt.keep {H H' : Hp} (e : Ex H H') {v : V} {l : List (Nat × Nat)} (h : LotAt H v l) : LotAt H' v l := let ⟨p, refs, a, b, c⟩ := h; ⟨p, refs, a, e _ _ b, pairs_keep (TT.ex e) c⟩
/-- a lot of the pairs that words of n letters lead to -/
def IsLot (M : M1.Mach) (n : Nat) (l : List (Nat × Nat)) : Prop := (∀ x, x ∈ l ↔ M.At n x) ∧ l.length ≤ 36
structure LotIn (M : M1.Mach) (t : Nat) (ps : List (Nat × Nat)) (i j : Nat) (qs : List (Nat × Nat)) : Prop where
  nd : qs.Nodup
  sound : ∀ x ∈ qs, M.At (t + 1) x
  full : ∀ (n : Nat) p, ps[n]? = some p → ∀ a, a < M.k → (n < i ∨ n = i ∧ a < j) → (M.go p.1 a, M.go p.2 a) ∈ qs
theorem LotIn.len {M : M1.Mach} (ok : M.Ok) {t : Nat} {ps : List (Nat × Nat)} {i j : Nat} {qs : List (Nat × Nat)} (L : LotIn M t ps i j qs) : qs.length ≤ 36 := by
  have n6 := ok.n6
  have h := M1.nodup_le L.nd (m := M1.pairsN M.st.length) fun q hq => by
    have := (L.sound q hq).pr ok
    exact M1.mem_pairsN.mpr ⟨this.1.lt ok, this.2⟩
  rw [M1.pairsN_len] at h
  have : M.st.length * M.st.length ≤ 6 * 6 := Nat.mul_le_mul n6 n6
  omega
theorem LotIn.add {M : M1.Mach} {t : Nat} {ps : List (Nat × Nat)} {i j : Nat} {qs : List (Nat × Nat)} (L : LotIn M t ps i j qs) {p : Nat × Nat} (hp : ps[i]? = some p) (hA : M.At t p) (hj : j < M.k) : LotIn M t ps i (j + 1) (M1.addP qs (M.go p.1 j, M.go p.2 j)) := by
  have hm : ∀ x, x ∈ M1.addP qs (M.go p.1 j, M.go p.2 j) ↔ x ∈ qs ∨ x = (M.go p.1 j, M.go p.2 j) := fun x => by
    unfold M1.addP
    by_cases h : (M.go p.1 j, M.go p.2 j) ∈ qs
    · rw [if_pos h]
      exact ⟨.inl, fun z => z.elim id fun e => e ▸ h⟩
    · rw [if_neg h, List.mem_append, List.mem_singleton]
  refine ⟨?_, fun x hx => ?_, fun n q hn b hb hc => (hm _).mpr ?_⟩
  · unfold M1.addP
    by_cases h : (M.go p.1 j, M.go p.2 j) ∈ qs
    · rw [if_pos h]; exact L.nd
    · rw [if_neg h, List.nodup_append]
      refine ⟨L.nd, by simp, fun y hy z hz e => ?_⟩
      rw [List.mem_singleton] at hz
      exact h (by rw [← hz, ← e]; exact hy)
  · rcases (hm x).mp hx with h | rfl
    · exact L.sound x h
    · exact M1.Mach.at_succ.mpr ⟨p, j, hA, hj, rfl⟩
  · by_cases e : n = i ∧ b = j
    · obtain ⟨rfl, rfl⟩ := e
      rw [hp] at hn
      cases hn
      exact .inr rfl
    · exact .inl (L.full n q hn b hb (by omega))
theorem LotIn.row {M : M1.Mach} {t : Nat} {ps : List (Nat × Nat)} {i : Nat} {qs : List (Nat × Nat)} (L : LotIn M t ps i M.k qs) : LotIn M t ps (i + 1) 0 qs := ⟨L.nd, L.sound, fun n p hn a ha hc => L.full n p hn a ha (by omega)⟩
theorem LotIn.done {M : M1.Mach} (ok : M.Ok) {t : Nat} {ps qs qs' : List (Nat × Nat)} (L : LotIn M t ps ps.length 0 qs) (hp : IsLot M t ps) (h : qs'.Perm qs) : IsLot M (t + 1) qs' := by
  refine ⟨fun x => ?_, by rw [h.length_eq]; exact L.len ok⟩
  rw [h.mem_iff]
  refine ⟨L.sound x, fun hx => ?_⟩
  obtain ⟨q, a, hq, ha, rfl⟩ := M1.Mach.at_succ.mp hx
  obtain ⟨n, hn⟩ := List.mem_iff_getElem?.mp ((hp.1 q).mpr hq)
  exact L.full n q hn a ha (.inl (List.getElem?_eq_some_iff.mp hn).1)
theorem keys_pairs {H : Hp} : ∀ {qs : List (Nat × Nat)} {bs : List Addr}, IsKeys H (tabV qs) bs → Paired (PairAt H) (bs.map V.ref) qs
  | [], _, h => by cases h; exact .nil
  | q :: qs, _, h => by
    cases h with
    | cons h1 h2 => exact .cons ⟨_, rfl, h1⟩ (keys_pairs h2)
def sp_sets (K : PySem.W.Frag) : Sp := fun vs H Q _ => ∃ (v : V) (M : M1.Mach), vs = [v] ∧ MacAt K H v M.st M.an ∧ M.Ok ∧ ∀ p H2 refs lots, H p = none → Ex H H2 → H2 p = some (.lst refs) → Paired (LotAt H2) refs lots → lots.length = 40 → (∀ (i : Nat) l, lots[i]? = some l → IsLot M i l) → Q (.ref p) H2
theorem has_law_sets (T : Txt K mg) (h_law_comes : Has P w K mg base "_law_comes" 1 ["machine"] (sp_comes K)) {f : Addr} {fd : FuncData} (F : Fun K "_law_sets" "_law_sets" s_law_sets f fd) (g : mg "_law_sets" = some (.ref f)) (B : Binds K fd ["machine"] []) : Has P w K mg base "_law_sets" 2 ["machine"] (sp_sets K) := by
  refine Has.mk' g F.kp B (F.ok sc_law_sets (fun vs H Q E h => ?_) (fun cdv A outer s H vs Q E hr h => ?_))
  · obtain ⟨v, M, rfl, _⟩ := h
    rfl
  · obtain ⟨v, M, rfl, hM, ok, k⟩ := h
    obtain ⟨a, x, y, rfl, hS, ⟨ax, vx, rfl, hSx, hPx⟩, hy⟩ := id hM
    have hvl : vx.length = M.st.length := Paired.length hPx
    have n6 := ok.n6
    have k3 := ok.k3
    obtain ⟨r0, hr0⟩ := row0 ok
    obtain ⟨a0, g0, hS0⟩ := tab_get hPx r0
    refine ⟨_, (pss_cons (ps_par (i := 1) (j := 2) (by rfl) sc_law_sets.nd rfl rfl (by decide) rfl rfl (pa_cons (pe_lst pa_nil) (pa_cons (pe_lst pa_nil) pa_nil)) (by rfl))
      (pss_cons (ps_for PassesOwn.never rfl (pi_listK (K := K) rfl (pe_has h_law_comes (hr.mono (by first | decide | exact Nat.le_refl _)) (by rfl) (pa_cons (pv 0) pa_nil))) (pg_name (i := 3) sc_law_sets.nd rfl (.inr rfl))
      (pss_one (ps_set (i := 1) sc_law_sets.nd rfl (.inl rfl) (pe_op op_cat (pv 1) (pe_lc (own := [("other", 7)]) (g := gName 7) (tt := tYes) (by rfl) sc_law_sets.nd (pi_range1 (by rfl) T.b_range (pa_cons (pe_callB (call_lenK (K := K) rfl) (by rfl) T.b_len bt_len (pa_cons (pe_ix (ix_tupK (K := K) rfl) (pv 0) pe_int (fun _ _ => rfl)) pa_nil)) pa_nil)) (blkOk_by (N := N_law_sets) (sc := defScope s_law_sets) (by decide +kernel)) (fun _ _ _ _ _ => pg_name (i := 7) sc_law_sets.nd rfl (Or.inl rfl)) (fun _ _ _ _ _ => pts_nil) (fun _ _ _ _ _ => (pe_tup (pa_cons (pv 3) (pa_cons (pv 7) pa_nil)))))))))
      (pss_cons (ps_for PassesOwn.never rfl (pi_range1 (by rfl) T.b_range (pa_cons pe_int pa_nil)) (pg_name (i := 4) sc_law_sets.nd rfl (.inl rfl))
      (pss_cons (ps_expr (pe_bm PySem.F.plainAttrs_list PySem.F.slot_list_append PySem.F.type_list_append mt_append (pv 2) (pa_cons (pv 1) pa_nil)))
      (pss_cons (ps_set (i := 5) sc_law_sets.nd rfl (.inl rfl) pe_dnewT)
      (pss_cons (ps_for PassesOwn.never rfl (pi_listK (K := K) rfl (pv 1)) (pg_tupK (K := K) (n := 2) rfl (by rfl) (pgs_cons (pg_name (i := 6) sc_law_sets.nd rfl (.inl rfl)) (pgs_cons (pg_name (i := 7) sc_law_sets.nd rfl (.inl rfl)) pgs_nil)))
      (pss_one (ps_for PassesOwn.never rfl (pi_range1 (by rfl) T.b_range (pa_cons (pe_callB (call_lenK (K := K) rfl) (by rfl) T.b_len bt_len (pa_cons (pe_ix (ix_tupK (K := K) rfl) (pe_ix (ix_tupK (K := K) rfl) (pv 0) pe_int (fun _ _ => rfl)) pe_int (fun _ _ => rfl)) pa_nil)) pa_nil)) (pg_name (i := 8) sc_law_sets.nd rfl (.inl rfl))
      (pss_one (ps_dput (hu_of hr) (pv 5) (pe_tup (pa_cons (pe_ix (ix_tupK (K := K) rfl) (pe_ix (ix_tupK (K := K) rfl) (pe_ix (ix_tupK (K := K) rfl) (pv 0) pe_int (fun _ _ => rfl)) (pv 6) (fun _ _ => rfl)) (pv 8) (fun _ _ => rfl)) (pa_cons (pe_ix (ix_tupK (K := K) rfl) (pe_ix (ix_tupK (K := K) rfl) (pe_ix (ix_tupK (K := K) rfl) (pv 0) pe_int (fun _ _ => rfl)) (pv 7) (fun _ _ => rfl)) (pv 8) (fun _ _ => rfl)) pa_nil))) pe_bl rfl)))))
      (pss_one (ps_set (i := 1) sc_law_sets.nd rfl (.inl rfl) (pe_callB (cr_sortedPK (K := K) rfl) (by rfl) T.b_sorted bt_sorted (pa_cons (pe_callTy (call_list_dT rfl) (by rfl) T.b_list bt_list (pa_cons (pv 5) pa_nil)) pa_nil))))))))
      (pss_one (ps_ret (pv 2)))))), ?_⟩
    refine ⟨by show 0 ≤ sizeLine; decide, fun p0 hp0 => ⟨by show 0 ≤ sizeLine; decide, fun q0 hq0 => ⟨_, _, rfl, ?_⟩⟩⟩
    have e0 : Ex H (upd (upd H p0 (.lst [])) q0 (.lst [])) := (Ex.new hp0).trans (Ex.new hq0)
    have npq : p0 ≠ q0 := fun z => by subst z; rw [upd_same] at hq0; cases hq0
    have hp0' : (upd (upd H p0 (.lst [])) q0 (.lst [])) p0 = some (.lst []) := by rw [upd_ne npq]; exact upd_same
    have nq : H q0 = none := by rw [upd_ne npq.symm] at hq0; exact hq0
    refine ⟨.ref a, rfl, .ref a, M, rfl, hM.keep (TK.ex e0), ok, fun pc H1 r hpc e1 h1 nd hmem => ⟨pc, rfl, ⟨_, sq_of h1⟩, ?_⟩⟩
    have rl : r.length ≤ 6 := by
      have := M1.nodup_le nd (m := List.range M.st.length) fun i hi => List.mem_range.mpr (((hmem i).mp hi).lt ok)
      rw [List.length_range] at this
      omega
    have e01 := e0.trans e1
    refine for_list (xs := rowV r) (fun j σ' H' => ∃ (p : Addr) (refs : List V) (l3 : Option V), σ' = [some (.ref a), some (.ref p), some (.ref q0), l3, none, none, none, none, none] ∧ Ex H1 H' ∧ H' p = some (.lst refs) ∧ Paired (PairAt H') refs (pairsOf (r.take j) M.st.length) ∧ p ≠ q0 ∧ H p = none)
      ⟨p0, [], none, rfl, Ex.refl _, e1 _ _ hp0', .nil, npq, hp0⟩ (fun j σ' H' _ ⟨_, _, _, _, e, _⟩ => sq_of (e _ _ h1)) ?_ ?_
    · rintro j z σ' H2 hz ⟨p, refs, l3, rfl, e2, hp2, hR, hpq, hpn⟩
      obtain ⟨i, hi, rfl⟩ := map_of hz
      have hj : j < r.length := (List.getElem?_eq_some_iff.mp hi).1
      have e02 := e01.trans e2
      have key : ∀ Q : VK, (∀ l H3, H2 l = none → Ex H2 H3 → (∃ rs, H3 l = some (.lst rs) ∧ Paired (PairAt H3) rs ((List.range M.st.length).map fun o => (i, o))) → Q (.ref l) H3) →
          tLc (iRng1 (tCons (tCB (rLenS K) (tCons (tOp (rIxT K) (tVar 0) (tC (V.int 0))) tNil)) tNil)) (gName 7) tYes (tTup (tCons (tVar 3) (tCons (tVar 7) tNil))) [7] [some (.ref a), some (.ref p), some (.ref q0), some (nV i), none, none, none, none, none] H2 Q := by
        intro Q q
        unfold tLc iRng1
        refine (ea_cons (ev_lenT (K := K) (ev_op (ev_var rfl) ev_c (rv_ixT (K := K) (ex_t e02 hS) (atI_nat (j := 0) rfl))) (ex_t e02 hSx)) ea_nil) _ (Ex.refl _) _ fun H4 e4 => ⟨_, rfl, by omega, by omega, fun D hD => ?_⟩
        refine lc_range (lo := 0) (n := ((vx.length : Int)).toNat) (fun o H' => Ex H4 H' ∧ ∃ rs, H' D = some (.lst rs) ∧ Paired (PairAt H') rs ((List.range o).map fun o => (i, o))) ⟨Ex.new hD, [], upd_same, .nil⟩ (fun o H' ho p => ?_) (fun H' p => ?_)
        · obtain ⟨p1, rs, p2, p3⟩ := p
          refine ⟨rfl, yesT ?_⟩
          refine eu_tup (ea_cons (x := nV i) (ev_var rfl) (ea_cons (x := .int (0 + (o : Int))) (ev_var rfl) ea_nil)) (by show 2 ≤ 100000; decide) _ (Ex.refl _) _ fun t H7 ht e7 h7 => ⟨rs, e7 _ _ p2, ?_, Ex.mut (p1.trans e7) hD, _, upd_same, ?_⟩
          · have hl := Paired.length p3
            rw [List.length_map, List.length_range] at hl
            exact small1000 (by omega)
          · have h7' : H7 t = some (.tup [nV i, nV o]) := by rw [h7, Int.zero_add]; rfl
            have t8 : TT H7 (upd H7 D (.lst (rs ++ [.ref t]))) := TT.upd (e7 _ _ p2) (fun _ z => by cases z)
            rw [List.range_succ, List.map_append]
            exact Paired.snoc (pairs_keep t8 (pairs_keep (TT.ex e7) p3)) ⟨t, rfl, t8 _ _ h7'⟩
        · obtain ⟨p1, rs, p2, p3⟩ := p
          rw [Int.toNat_natCast, hvl] at p3
          exact q D H' (fresh_back e4 hD) (e4.trans p1) ⟨rs, p2, p3⟩
      refine ⟨.ref p, rfl, key _ fun l H3 hl e3 ⟨rs, hrs, hPr⟩ => ⟨p, l, refs, rs, rfl, rfl, e3 _ _ hp2, hrs, ?_, fun p6 hp6 => ?_⟩⟩
      · have h1 := Paired.length hR
        have h2 := Paired.length hPr
        rw [pairsOf_len, List.length_take] at h1
        rw [List.length_map, List.length_range] at h2
        have : min j r.length * M.st.length ≤ 6 * 6 := Nat.mul_le_mul (by omega) n6
        exact Nat.le_of_lt (small1000 (by omega))
      · refine ⟨p6, _, _, rfl, (e2.trans e3).trans (Ex.new hp6), upd_same, ?_⟩
        rw [M1.take_succ' hi, pairsOf_snoc]
        have t6 := TT.ex (Ex.new (o := .lst (refs ++ rs)) hp6)
        refine ⟨paired_app (pairs_keep t6 (pairs_keep (TT.ex e3) hR)) (pairs_keep t6 hPr), fun z => ?_, fresh_back (e02.trans e3) hp6⟩
        subst z
        rw [(e2.trans e3) _ _ (e1 _ _ upd_same)] at hp6
        cases hp6
    · rintro σ' H2 ⟨p, refs, l3, rfl, e2, hp2, hR, hpq, hpn⟩
      rw [rowV_len, List.take_length] at hR
      have L0 : IsLot M 0 (pairsOf r M.st.length) := by
        refine ⟨fun x => by rw [pairsOf_mem, M1.Mach.at_zero, hmem]; rfl, ?_⟩
        rw [pairsOf_len]
        exact Nat.mul_le_mul rl n6
      generalize pairsOf r M.st.length = ps at hR L0
      refine q_forR1 (D := { nx := fun x H' => Q V.non H', rt := Q }) (n := 40) (ea_cons ev_c ea_nil) ⟨by omega, by omega⟩ (fun t σ' H' => ∃ (p : Addr) (refs : List V) (ps : List (Nat × Nat)) (fr : List V) (lots : List (List (Nat × Nat))) (l3 l4 l5 l6 l7 l8 : Option V), σ' = [some (.ref a), some (.ref p), some (.ref q0), l3, l4, l5, l6, l7, l8] ∧ Ex H H' ∧ p ≠ q0 ∧ H p = none ∧ H' p = some (.lst refs) ∧ Paired (PairAt H') refs ps ∧ IsLot M t ps ∧ H' q0 = some (.lst fr) ∧ Paired (fun v l => LotAt H' v l ∧ v ≠ .ref q0) fr lots ∧ lots.length = t ∧ ∀ (i : Nat) l, lots[i]? = some l → IsLot M i l)
        (fun H3 e3 => ⟨p, refs, ps, [], [], l3, none, none, none, none, none, rfl, e01.trans (e2.trans e3), hpq, hpn, e3 _ _ hp2, pairs_keep (TT.ex e3) hR, L0, (e2.trans e3) _ _ (e1 _ _ upd_same), .nil, rfl, fun _ _ h => by simp at h⟩) ?_ ?_
      · rintro t σ' H3 ht ⟨p, refs, ps, fr, lots, l3, l4, l5, l6, l7, l8, rfl, e3, hpq, hpn, hp3, hR3, hL3, hq3, hF3, hlen, hlots⟩
        have hfl : fr.length = lots.length := Paired.length hF3
        refine ⟨.ref q0, rfl, Or.inl ⟨rfl, _, sq_of hq3⟩, .ref p, rfl, q0, _, _, rfl, rfl, hq3, small1000 (by omega), fun d hd => ?_⟩
        have t4 : TT H3 (upd H3 q0 (.lst (fr ++ [.ref p]))) := TT.upd hq3 (fun _ z => by cases z)
        have e4 : Ex H (upd H3 q0 (.lst (fr ++ [.ref p]))) := Ex.mut e3 nq
        have hp4 : (upd H3 q0 (.lst (fr ++ [.ref p]))) p = some (.lst refs) := by rw [upd_ne hpq]; exact hp3
        have hF4 : Paired (fun v l => LotAt (upd H3 q0 (.lst (fr ++ [.ref p]))) v l ∧ v ≠ .ref q0) (fr ++ [.ref p]) (lots ++ [ps]) := by
          refine Paired.snoc (Paired.mapP hF3 fun v l ⟨⟨p, refs, h1, h2, h3⟩, h4⟩ => ⟨⟨p, refs, h1, ?_, pairs_keep t4 h3⟩, h4⟩) ⟨⟨p, refs, rfl, hp4, pairs_keep t4 hR3⟩, fun z => hpq (V.ref.inj z)⟩
          rw [upd_ne fun z => h4 (by rw [h1, z])]
          exact h2
        have hq4 : (upd H3 q0 (.lst (fr ++ [.ref p]))) q0 = some (.lst (fr ++ [.ref p])) := upd_same
        have hlots4 : ∀ (i : Nat) l, (lots ++ [ps])[i]? = some l → IsLot M i l := fun i l h => by
          by_cases hi : i < lots.length
          · rw [List.getElem?_append_left hi] at h
            exact hlots i l h
          · rw [List.getElem?_append_right (by omega)] at h
            have h2 := (List.getElem?_eq_some_iff.mp h).1
            rw [List.length_singleton] at h2
            have h3 : i = t := by omega
            subst h3
            rw [hlen, Nat.sub_self] at h
            cases h
            exact hL3
        have hR4 := pairs_keep t4 hR3
        generalize upd H3 q0 (.lst (fr ++ [.ref p])) = H4 at *
        have e5 : Ex H4 (upd H4 d (.dT (tabV []))) := Ex.new hd
        have hrl : refs.length = ps.length := Paired.length hR4
        refine q_forL (ev_var rfl) (sq_of (e5 _ _ hp4)) (fun i σ' H' => ∃ (qs : List (Nat × Nat)) (l6 l7 l8 : Option V), σ' = [some (.ref a), some (.ref p), some (.ref q0), l3, some (.int (t : Int)), some (.ref d), l6, l7, l8] ∧ Ex H4 H' ∧ H' d = some (.dT (tabV qs)) ∧ LotIn M t ps i 0 qs)
          (fun H6 e6 => ⟨[], l6, l7, l8, rfl, e5.trans e6, e6 _ _ upd_same, ⟨by simp, fun _ h => by simp at h, fun _ _ _ _ _ h => by omega⟩⟩) (fun i σ' H' _ ⟨_, _, _, _, _, e, _⟩ => sq_of (e _ _ hp4)) ?_ ?_
        · rintro i z σ' H6 hz ⟨qs, m6, m7, m8, rfl, e6, hd6, LI⟩
          obtain ⟨pp, hpp, tt, rfl, htt⟩ := Paired.get' hR4 hz
          have hA := (hL3.1 pp).mp (List.mem_of_getElem? hpp)
          have hpr := hA.pr ok
          have h1l := hpr.1.lt ok
          have h2l := hpr.2
          obtain ⟨b1, g1, hB1⟩ := tab_get hPx (M.row_at h1l)
          obtain ⟨b2, g2, hB2⟩ := tab_get hPx (M.row_at h2l)
          refine ⟨tt, _, rfl, SqT.of (e6 _ _ htt), rfl, _, _, rfl, _, _, rfl, rfl, ?_⟩
          have e46 := e4.trans e6
          refine s_forR1 (D := { nx := _, rt := _, bk := _, ct := _ }) (n := ((rowV (M.row 0)).length : Int)) (ea_cons (ev_lenT (ev_op (ev_op (ev_var rfl) ev_c (rv_ixT (ex_t e46 hS) (atI_nat (j := 0) rfl))) ev_c (rv_ixT (ex_t e46 hSx) (atI_nat (j := 0) g0))) (ex_t e46 hS0)) ea_nil) ⟨by omega, by rw [rowV_len]; omega⟩
            (fun j σ' H' => ∃ (qs : List (Nat × Nat)) (l8 : Option V), σ' = [some (.ref a), some (.ref p), some (.ref q0), l3, some (.int (t : Int)), some (.ref d), some (nV pp.1), some (nV pp.2), l8] ∧ Ex H4 H' ∧ H' d = some (.dT (tabV qs)) ∧ LotIn M t ps i j qs)
            (fun H7 e7 => ⟨qs, m8, rfl, e6.trans e7, e7 _ _ hd6, LI⟩) ?_ ?_
          · rintro j σ' H7 hj ⟨q7, n8, rfl, e7, hd7, L7⟩
            have hjk : j < M.k := by rw [rowV_len, hr0] at hj; omega
            have e47 := e4.trans e7
            have hl7 := L7.len ok
            refine ⟨.ref d, rfl, ?_⟩
            refine eu_tup (ea_cons (ev_op (ev_op (ev_op (ev_var rfl) ev_c (rv_ixT (ex_t e47 hS) (atI_nat (j := 0) rfl))) (ev_var rfl) (rv_ixT (ex_t e47 hSx) (atI_nat g1))) (ev_var rfl) (rv_ixT (ex_t e47 hB1) (atI_nat (rowV_at (M.go_at ok h1l hjk)))))
              (ea_cons (ev_op (ev_op (ev_op (ev_var rfl) ev_c (rv_ixT (ex_t e47 hS) (atI_nat (j := 0) rfl))) (ev_var rfl) (rv_ixT (ex_t e47 hSx) (atI_nat g2))) (ev_var rfl) (rv_ixT (ex_t e47 hB2) (atI_nat (rowV_at (M.go_at ok h2l hjk))))) ea_nil)) (by show 2 ≤ 100000; decide) _ (Ex.refl _) _ fun t8 H8 ht8 e8 h8 => ?_
            refine ⟨d, _, rfl, .inr ⟨tabV q7, [Sum.inl (M.go pp.1 j : Int), Sum.inl (M.go pp.2 j : Int)], t8, e8 _ _ hd7, rfl, h8, by rw [tabV_len]; exact small1000 (by omega), rfl⟩, ?_⟩
            have := tab_put q7 (M.go pp.1 j, M.go pp.2 j)
            refine ⟨M1.addP q7 (M.go pp.1 j, M.go pp.2 j), _, rfl, Ex.mut (e7.trans e8) hd, ?_, L7.add hpp hA hjk⟩
            rw [upd_same, ← this]
          · rintro σ' H7 ⟨q7, n8, rfl, e7, hd7, L7⟩
            rw [Int.toNat_natCast, rowV_len, hr0] at L7
            exact ⟨q7, _, _, _, rfl, e7, hd7, L7.row⟩
        · rintro σ' H6 ⟨qs, m6, m7, m8, rfl, e6, hd6, LI⟩
          rw [hrl] at LI
          refine ⟨.ref d, rfl, d, tabV qs, rfl, .inl hd6, fun c bs hc hbs => ⟨c, bs.map V.ref, rfl, sq_of upd_same, fun x hx => ?_, fun ys p7 perm hp7 => ?_⟩⟩
          · obtain ⟨n, hn⟩ := List.mem_iff_getElem?.mp hx
            obtain ⟨q, _, tq, rfl, htq⟩ := Paired.get' (keys_pairs hbs) hn
            exact ⟨tq, _, _, rfl, Ex.new hc _ _ htq⟩
          · obtain ⟨qs', hperm, hPq⟩ := paired_perm perm (pairs_keep (TT.ex (Ex.new (o := .lst (bs.map V.ref)) hc)) (keys_pairs hbs))
            have e7 := (Ex.new (o := .lst (bs.map V.ref)) hc).trans (Ex.new (o := .lst ys) hp7)
            have e67 := e6.trans e7
            refine ⟨p7, ys, qs', fr ++ [.ref p], lots ++ [ps], _, _, _, _, _, _, rfl, e4.trans e67, fun z => ?_, fresh_back (e4.trans (e6.trans (Ex.new hc))) hp7, upd_same, pairs_keep (TT.ex (Ex.new hp7)) hPq, LI.done ok hL3 hperm, e67 _ _ hq4, Paired.mapP hF4 fun v l h => ⟨h.1.keep e67, h.2⟩, by rw [List.length_append, hlen]; rfl, hlots4⟩
            subst z
            rw [(e6.trans (Ex.new hc)) _ _ hq4] at hp7
            cases hp7
      · rintro σ' H3 ⟨p, refs, ps, fr, lots, l3, l4, l5, l6, l7, l8, rfl, e3, hpq, hpn, hp3, hR3, hL3, hq3, hF3, hlen, hlots⟩
        exact s_ret (ev_var rfl) fun H4 e4 => k q0 H4 fr lots nq (e3.trans e4) (e4 _ _ hq3) (Paired.mapP hF3 fun v l h => h.1.keep e4) hlen hlots
end

end Kx
namespace Kx
open PySem PySem.Spec PyProof.Rows L2

open Evl
section
variable {P : Program} {w : World} {K : PySem.W.Frag} {mg : Str → Option Value} {base : Heap}
/-! ### the law's own: the greatest length of a late word -/
def sp_llate (K : PySem.W.Frag) : Sp := fun vs H Q _ => ∃ (v : V) (M : M1.Mach), vs = [v] ∧ MacAt K H v M.st M.an ∧ M.Ok ∧ ∀ o H2, M.LateIs o → (∀ n, o = some n → n ≤ 36) → Ex H H2 → Q (oV o) H2
def Lens (M : M1.Mach) (i : Nat) (ls : List Nat) : Prop := ls.length ≤ i ∧ ∀ m, m ∈ ls ↔ 1 ≤ m ∧ m ≤ i ∧ M.Late m
theorem Lens.yes {M : M1.Mach} {i : Nat} {ls : List Nat} (h : Lens M i ls) (hl : M.Late (i + 1)) : Lens M (i + 1) (ls ++ [i + 1]) := by
  refine ⟨by rw [List.length_append]; exact Nat.succ_le_succ h.1, fun m => ?_⟩
  rw [List.mem_append, List.mem_singleton, h.2]
  constructor
  · rintro (⟨a, b, c⟩ | rfl)
    · exact ⟨a, by omega, c⟩
    · exact ⟨by omega, Nat.le_refl _, hl⟩
  · rintro ⟨a, b, c⟩
    by_cases e : m = i + 1
    · exact .inr e
    · exact .inl ⟨a, by omega, c⟩
theorem Lens.no {M : M1.Mach} {i : Nat} {ls : List Nat} (h : Lens M i ls) (hl : ¬ M.Late (i + 1)) : Lens M (i + 1) ls := by
  refine ⟨Nat.le_succ_of_le h.1, fun m => ?_⟩
  rw [h.2]
  constructor
  · rintro ⟨a, b, c⟩
    exact ⟨a, by omega, c⟩
  · rintro ⟨a, b, c⟩
    refine ⟨a, ?_, c⟩
    by_cases e : m = i + 1
    · subst e; exact absurd c hl
    · omega
theorem has_law_late (T : Txt K mg) (h_law_sets : Has P w K mg base "_law_sets" 2 ["machine"] (sp_sets K)) {f : Addr} {fd : FuncData} (F : Fun K "_law_late" "_law_late" s_law_late f fd) (g : mg "_law_late" = some (.ref f)) (B : Binds K fd ["machine"] []) : Has P w K mg base "_law_late" 3 ["machine"] (sp_llate K) := by
  refine Has.mk' g F.kp B (F.ok sc_law_late (fun vs H Q E h => ?_) (fun cdv A outer s H vs Q E hr h => ?_))
  · obtain ⟨v, M, rfl, _⟩ := h
    rfl
  · obtain ⟨v, M, rfl, hM, ok, k⟩ := h
    obtain ⟨a, x, y, rfl, hS, hx, ⟨ay, vy, rfl, hSy, hPy⟩⟩ := id hM
    refine ⟨_, (pss_cons (ps_set (i := 1) sc_law_late.nd rfl (.inl rfl) (pe_lst pa_nil))
      (pss_cons (ps_for PassesOwn.never rfl (pi_enum (by rfl) T.b_enumerate (pa_cons (pe_has h_law_sets (hr.mono (by first | decide | exact Nat.le_refl _)) (by rfl) (pa_cons (pv 0) pa_nil)) pa_nil)) (pg_tupK (K := K) (n := 2) rfl (by rfl) (pgs_cons (pg_name (i := 2) sc_law_late.nd rfl (.inl rfl)) (pgs_cons (pg_name (i := 3) sc_law_late.nd rfl (.inl rfl)) pgs_nil)))
      (pss_one (ps_if (pt_cmpR (op_neDK (K := K) rfl hr.units) (pe_lc (own := [("one", 4), ("other", 5)]) (by rfl) sc_law_late.nd (pi_listK (K := K) rfl (pv 3)) (blkOk_by (N := N_law_late) (sc := defScope s_law_late) (by decide +kernel)) (fun _ _ _ _ _ => (pg_tupK (K := K) (n := 2) rfl (by rfl) (pgs_cons (pg_name (i := 4) sc_law_late.nd rfl (.inl rfl)) (pgs_cons (pg_name (i := 5) sc_law_late.nd rfl (.inl rfl)) pgs_nil)))) (fun _ _ _ _ _ => pts_one (pt_cmpR (op_neDK (K := K) rfl hr.units) (pe_ix (ix_tupK (K := K) rfl) (pe_ix (ix_tupK (K := K) rfl) (pv 0) pe_int (fun _ _ => rfl)) (pv 4) (fun _ _ => rfl)) (pe_ix (ix_tupK (K := K) rfl) (pe_ix (ix_tupK (K := K) rfl) (pv 0) pe_int (fun _ _ => rfl)) (pv 5) (fun _ _ => rfl)) (nomark _))) (fun _ _ _ _ _ => pe_int)) (pe_lst pa_nil) (nomark _))
      (pss_one (ps_expr (pe_bm PySem.F.plainAttrs_list PySem.F.slot_list_append PySem.F.type_list_append mt_append (pv 1) (pa_cons (pe_op op_add (pv 2) pe_int) pa_nil))))
      pss_nil)))
      (pss_cons (ps_if (PW.pt (pw_and (pt_cmpR (op_neDK (K := K) rfl hr.units) (pv 1) (pe_lst pa_nil) (nomark _)) (pw_and1 (pt_cmpR op_gt (pe_callB (cr_maxK (K := K) rfl rfl) (by rfl) T.b_max bt_max (pa_cons (pv 1) pa_nil)) pe_int (nomark _)))))
      (pss_one (ps_ret pe_non))
      pss_nil)
      (pss_one (ps_ret (pe_callB (cr_maxK (K := K) rfl rfl) (by rfl) T.b_max bt_max (pa_cons (pe_op op_cat (pe_lst (pa_cons pe_int pa_nil)) (pv 1)) pa_nil))))))), ?_⟩
    refine q_asgL (el_lst ea_nil (by show 0 ≤ 100000; decide)) fun pl H1 hpl e1 h1 => ?_
    refine ⟨.ref a, rfl, .ref a, M, rfl, hM.keep (TK.ex e1), ok, fun q H2 fr lots hq e2 hq2 hF hlen hlots => ⟨q, fr, rfl, sq_of hq2, ?_⟩⟩
    have e12 := e1.trans e2
    have hfl : fr.length = lots.length := Paired.length hF
    have some1 : ∀ n, ∃ x, M.At n x := fun n => by
      induction n with
      | zero => exact ⟨(0, 0), M1.Mach.at_zero.mpr ⟨M1.Mach.Rch.zero, ok.n1⟩⟩
      | succ n ih =>
        obtain ⟨x, hx⟩ := ih
        exact ⟨_, M1.Mach.at_succ.mpr ⟨x, 0, hx, ok.k1, rfl⟩⟩
    refine for_enumL (fun i σ' H' => ∃ (ls : List Nat) (l2 l3 : Option V), σ' = [some (.ref a), some (.ref pl), l2, l3, none, none] ∧ ExB pl H2 H' ∧ Ex H H' ∧ H' pl = some (.lst (rowV ls)) ∧ Lens M i ls)
      ⟨[], none, none, rfl, ExB.refl _ _, e12, e2 _ _ h1, Nat.le_refl _, fun m => ⟨fun h => by simp at h, fun h => by omega⟩⟩ (fun i σ' H' _ ⟨_, _, _, _, e, _⟩ => sq_of (e _ _ (fun z => by subst z; rw [h1] at hq; cases hq) hq2)) ?_ ?_
    · rintro i z t σ' H3 hz ⟨ls, l2, l3, rfl, eb, e3, hl3, hL⟩ ht
      obtain ⟨l, hl, p, refs, rfl, hp, hR⟩ := Paired.get' hF hz
      have hlot := hlots i l hl
      have hi : i < 40 := by
        have := (List.getElem?_eq_some_iff.mp hl).1
        omega
      refine ⟨t, _, rfl, SqT.of upd_same, rfl, _, _, rfl, _, _, rfl, rfl, ?_⟩
      have et : Ex H3 (upd H3 t (.tup [.int (i : Nat), .ref p])) := Ex.new ht
      have e3t := e3.trans et
      have npl : p ≠ pl := fun z => by
        subst z
        rw [e2 _ _ h1] at hp
        cases hp
        cases hR
        obtain ⟨x, hx⟩ := some1 i
        have := (hlot.1 x).mpr hx
        simp at this
      have hp3 : (upd H3 t (.tup [.int (i : Nat), .ref p])) p = some (.lst refs) := et _ _ (eb _ _ npl hp)
      have hR3 : Paired (PairAt (upd H3 t (.tup [.int (i : Nat), .ref p]))) refs l := pairs_keep (fun b xs q => et _ _ (eb b _ (fun z => by subst z; rw [e2 _ _ h1] at q; cases q) q)) hR
      have hl3' := et _ _ hl3
      generalize upd H3 t (.tup [.int (i : Nat), .ref p]) = H4 at *
      have hrl : refs.length = l.length := Paired.length hR3
      obtain ⟨b, hb⟩ : ∃ b : Bool, (b = true ↔ M.Late (i + 1)) := by
        by_cases h : M.Late (i + 1)
        · exact ⟨true, fun _ => h, fun _ => rfl⟩
        · exact ⟨false, fun z => (by cases z), fun z => absurd z h⟩
      refine s_when (b := b) (fun H0 e0 Q q => ?_) (fun bb H6 e6 => ?_) (fun bb H6 e6 => ?_)
      · refine ⟨.ref p, rfl, p, rfl, ⟨refs, sq_of (e0 _ _ hp3)⟩, fun D hD => ?_⟩
        refine lc_list (xs := refs) (fun m H' => ∃ c : Nat, Ex H0 H' ∧ H' D = some (.lst (rowV (List.replicate c 1))) ∧ c ≤ m ∧ (0 < c ↔ ∃ (n : Nat) (x : Nat × Nat), n < m ∧ l[n]? = some x ∧ M.ans x.1 ≠ M.ans x.2)) ⟨0, Ex.new hD, upd_same, Nat.le_refl _, ⟨fun z => by omega, fun ⟨_, _, z, _⟩ => by omega⟩⟩ (fun m H' _ ⟨c, p, _⟩ => sq_of ((e0.trans p) _ _ hp3)) (fun m z H' hz2 ⟨c, p1, p2, p3, p4⟩ => ?_) (fun H' ⟨c, p1, p2, p3, p4⟩ => ?_)
        · obtain ⟨xx, hxx, tt, rfl, htt⟩ := Paired.get' hR3 hz2
          have hpr := ((hlot.1 xx).mp (List.mem_of_getElem? hxx)).pr ok
          have h1l := hpr.1.lt ok
          have h2l := hpr.2
          obtain ⟨b1, g1, hB1⟩ := tab_get hPy (M.ans_at ok h1l)
          obtain ⟨b2, g2, hB2⟩ := tab_get hPy (M.ans_at ok h2l)
          have e04 := e0.trans p1
          have eH := e3t.trans e04
          have hm : m < l.length := (List.getElem?_eq_some_iff.mp hxx).1
          refine ⟨tt, _, rfl, SqT.of (e04 _ _ htt), rfl, _, _, rfl, _, _, rfl, rfl, rfl, ?_⟩
          refine (et_test (ev_ne_rows (K := K) (ev_op (ev_op (ev_var rfl) ev_c (rv_ixT (K := K) (ex_t eH hS) (atI_nat (j := 1) rfl))) (ev_var rfl) (rv_ixT (K := K) (ex_t eH hSy) (atI_nat g1))) (ev_op (ev_op (ev_var rfl) ev_c (rv_ixT (K := K) (ex_t eH hS) (atI_nat (j := 1) rfl))) (ev_var rfl) (rv_ixT (K := K) (ex_t eH hSy) (atI_nat g2))) (ex_t eH hB1) (ex_t eH hB2))) _ (Ex.refl _) _ fun H7 e7 => ?_
          by_cases hne : M.ans xx.1 = M.ans xx.2
          · rw [decide_eq_true hne]
            refine (if_neg (by decide)).mpr ⟨c, p1.trans e7, e7 _ _ p2, by omega, p4.trans ⟨fun ⟨n, x, a1, a2, a3⟩ => ⟨n, x, by omega, a2, a3⟩, fun ⟨n, x, a1, a2, a3⟩ => ?_⟩⟩
            by_cases hn : n = m
            · subst hn
              rw [hxx] at a2
              cases a2
              exact absurd hne a3
            · exact ⟨n, x, by omega, a2, a3⟩
          · rw [decide_eq_false hne]
            refine (if_pos rfl).mpr ⟨rowV (List.replicate c 1), e7 _ _ p2, ?_, c + 1, Ex.mut (p1.trans e7) hD, ?_, by omega, fun _ => ⟨m, xx, by omega, hxx, hne⟩, fun _ => by omega⟩
            · rw [rowV_len, List.length_replicate]
              exact small1000 (by have := hlot.2; omega)
            · rw [upd_same, List.replicate_succ', rowV_snoc]
              rfl
        · have hev : (!decide (List.replicate c 1 = ([] : List Nat))) = b := by
            have key : 0 < c ↔ M.Late (i + 1) := by
              rw [p4, M1.Mach.late_at ok]
              constructor
              · rintro ⟨n, x, _, hx, hne⟩
                exact ⟨x, (hlot.1 x).mp (List.mem_of_getElem? hx), hne⟩
              · rintro ⟨x, hx, hne⟩
                obtain ⟨n, hn⟩ := List.mem_iff_getElem?.mp ((hlot.1 x).mpr hx)
                exact ⟨n, x, by rw [hrl]; exact (List.getElem?_eq_some_iff.mp hn).1, hn, hne⟩
            cases c with
            | zero =>
              have : ¬ b = true := fun z => by have := key.mpr (hb.mp z); omega
              cases b with
              | true => exact absurd rfl this
              | false => rfl
            | succ c =>
              have : b = true := hb.mpr (key.mp (by omega))
              rw [this]
              rfl
          have first := (el_lst (σ := [some (V.ref a), some (.ref pl), some (.int (i : Int)), some (.ref p), none, none]) (H := H') (ea_nil) (by show 0 ≤ 100000; decide)) H' (Ex.refl _)
          refine first _ fun p5 H5 hp5 e5 h5 => ?_
          refine rv_neRows (K := K) (r := List.replicate c 1) (s := []) (sq_of (e5 _ _ p2)) (sq_of h5) H5 (Ex.refl _) _ fun H6 e6 => ⟨b, ?_, q H6 (p1.trans (e5.trans e6))⟩
          exact congrArg V.bl hev
      · have hlen1 := hL.1
        refine ⟨.ref pl, rfl, Or.inl ⟨rfl, _, sq_of (e6 _ _ hl3')⟩, .int (i : Int), rfl, (i : Int), 1, rfl, rfl, pl, _, _, rfl, rfl, e6 _ _ hl3', by rw [rowV_len]; exact small1000 (by omega), ?_⟩
        refine ⟨ls ++ [i + 1], _, _, rfl, ((eb.trans (ExB.of et)).trans (ExB.of e6)).trans ExB.upd, Ex.mut (e3t.trans e6) hpl, ?_, hL.yes (hb.mp bb)⟩
        rw [upd_same, rowV_snoc]
        rfl
      · exact ⟨ls, _, _, rfl, (eb.trans (ExB.of et)).trans (ExB.of e6), e3t.trans e6, e6 _ _ hl3', hL.no fun z => by rw [hb.mpr z] at bb; cases bb⟩
    · rintro σ' H3 ⟨ls, l2, l3, rfl, eb, e3, hl3, hL⟩
      rw [hfl, hlen] at hL
      have hll := hL.1
      have hne : ∀ H4, Ex H3 H4 → EvT (tTest (tOp (rNeD K) (tVar 1) (tLst tNil))) [some (.ref a), some (.ref pl), l2, l3, none, none] H4 (!decide (ls = [])) := fun H4 e4 => et_test (ev_opL (xs := []) (ev_var rfl) (el_lst ea_nil (by show 0 ≤ 100000; decide)) fun p H5 h5 e5 => rv_neRows (s := []) (sq_of (e5 _ _ (e4 _ _ hl3))) (sq_of h5))
      have rowI : rowV ls = (ls.map fun (n : Nat) => (n : Int)).map V.int := by unfold rowV; rw [List.map_map]; rfl
      have tail : ∀ H4, Ex H3 H4 → (∀ m ∈ ls, m ≤ 36) → tRet (tCB (rMax K) (tCons (tOp rCat (tLst (tCons (tC (V.int 0)) tNil)) (tVar 1)) tNil)) { nx := fun x H' => Q V.non H', rt := Q } [some (.ref a), some (.ref pl), l2, l3, none, none] H4 := by
        intro H4 e4 hle
        have first := (el_lst (σ := [some (.ref a), some (.ref pl), l2, l3, none, none]) (H := H4) (ea_cons (ev_c (v := V.int 0)) ea_nil) (by show 1 ≤ 100000; decide)) H4 (Ex.refl _)
        unfold tRet tCB tCons tOp
        refine first _ fun p5 H5 hp5 e5 h5 => ?_
        refine ⟨.ref pl, rfl, p5, pl, _, _, rfl, rfl, h5, e5 _ _ (e4 _ _ hl3), Nat.le_of_lt (small1000 (by rw [rowV_len]; show 1 + ls.length ≤ 1000; omega)), fun p6 hp6 => ⟨p6, 0 :: ls.map fun (n : Nat) => (n : Int), rfl, sq_of (by rw [upd_same, rowI]; rfl), by simp, fun m hm hmax => ?_⟩⟩
        have e36 := (e4.trans e5).trans (Ex.new (o := .lst ([V.int 0] ++ rowV ls)) hp6)
        obtain ⟨n, rfl, hn⟩ : ∃ n : Nat, m = (n : Int) ∧ (n = 0 ∨ n ∈ ls) := by
          rcases List.mem_cons.mp hm with e | e
          · exact ⟨0, e, .inl rfl⟩
          · obtain ⟨n, hn, e⟩ := List.mem_map.mp e
            exact ⟨n, e.symm, .inr hn⟩
        have hn36 : n ≤ 36 := by
          rcases hn with e | h
          · omega
          · exact hle n h
        refine k (some n) _ (M.lateIs_of ok ?_ fun hL1 => ?_) (fun m hm => by cases hm; exact hn36) (e3.trans e36)
        · rcases hn with e | h
          · exact .inl e
          · exact .inr ((hL.2 n).mp h).2.2
        · have : n + 1 ∈ ls := (hL.2 _).mpr ⟨by omega, by omega, hL1⟩
          have := hmax ((n + 1 : Nat) : Int) (List.mem_cons_of_mem _ (List.mem_map.mpr ⟨n + 1, this, rfl⟩))
          omega
      by_cases h0 : ls = []
      · refine q_when (b := false) (et_is (et_and (hne H3 (Ex.refl _)) (b := true) fun z => ?_) (by rw [decide_eq_true h0]; rfl)) (fun z => by cases z) (fun _ H4 e4 => tail H4 e4 fun m hm => by rw [h0] at hm; simp at hm)
        rw [decide_eq_true h0] at z
        cases z
      · have hmx : ∃ m, m ∈ ls ∧ ∀ y ∈ ls, y ≤ m := by
          clear hne rowI tail hll hL hl3
          induction ls with
          | nil => exact absurd rfl h0
          | cons x ls ih =>
            by_cases hz : ls = []
            · subst hz
              exact ⟨x, by simp, fun y hy => by rw [List.mem_singleton] at hy; omega⟩
            · obtain ⟨m, hm, hy⟩ := ih hz
              by_cases hxm : x ≤ m
              · refine ⟨m, List.mem_cons_of_mem _ hm, fun y hy' => ?_⟩
                rcases List.mem_cons.mp hy' with e | h
                · omega
                · exact hy y h
              · refine ⟨x, List.mem_cons_self, fun y hy' => ?_⟩
                rcases List.mem_cons.mp hy' with e | h
                · omega
                · have := hy y h
                  omega
        obtain ⟨m, hm, hmax⟩ := hmx
        have gt : ∀ H4, Ex H3 H4 → EvT (tTest (tOp (rI0 fun i j => V.bl (decide (j < i))) (tCB (rMax K) (tCons (tVar 1) tNil)) (tC (V.int 36)))) [some (.ref a), some (.ref pl), l2, l3, none, none] H4 (decide ((36 : Int) < (m : Int))) := fun H4 e4 => et_test (ev_op (x := .int (m : Int)) (fun H5 e5 Q q => ⟨.ref pl, rfl, pl, ls.map fun (n : Nat) => (n : Int), rfl, sq_of (by rw [← rowI]; exact e5 _ _ (e4 _ _ hl3)), by rw [List.length_map]; exact List.length_pos_iff.mpr h0, fun m' hm' hmax' => by
          obtain ⟨n, hn, rfl⟩ := List.mem_map.mp hm'
          have h1 := hmax n hn
          have h2 := hmax' (m : Int) (List.mem_map.mpr ⟨m, hm, rfl⟩)
          have : n = m := by omega
          subst this
          exact q H5 (Ex.refl _)⟩) ev_c rv_I0)
        refine q_when (et_and (hne H3 (Ex.refl _)) fun _ => gt H3 (Ex.refl _)) (fun bb H4 e4 => ?_) (fun bb H4 e4 => tail H4 e4 fun y hy => ?_)
        · rw [decide_eq_false h0, Bool.not_false, Bool.true_and] at bb
          have := of_decide_eq_true bb
          exact s_ret ev_c fun H5 e5 => k none H5 (M1.Mach.late_big ok (n := m) (by omega) ((hL.2 m).mp hm).2.2) (fun _ z => by cases z) (e3.trans (e4.trans e5))
        · rw [decide_eq_false h0, Bool.not_false, Bool.true_and] at bb
          have := of_decide_eq_false bb
          have := hmax y hy
          omega
end

end Kx
namespace Kx
open PySem PySem.Spec PyProof.Rows L2

open Evl
section
variable {P : Program} {w : World} {K : PySem.W.Frag} {mg : Str → Option Value} {base : Heap}
/-! ### the law's own: is it a late word -/
theorem rv_eqT {H : Hp} {p q : Addr} {r s : List Nat} (hp : SqT K H p (rowV r)) (hq : SqT K H q (rowV s)) : Evl.RV (rEqD K) (.ref p) (.ref q) H (.bl (decide (r = s))) := fun H1 e Q k =>
  ⟨.tuple (rowD r), .tuple (rowD s), .tup (ex_t e hp) (dp_row r), .tup (ex_t e hq) (dp_row s), by
    unfold SeqAt.shaped
    simp only [PyData.canLay0, PyData.depth, canLay_row, depth_row]
    decide, by
    unfold SeqAt.shaped
    simp only [PyData.canLay0, PyData.depth, canLay_row, depth_row]
    decide, by
    rw [show PyData.eqv (.tuple (rowD r)) (.tuple (rowD s)) = decide (r = s) by rw [PyData.eqv]; exact eqv_rows r s]
    exact k H1 (Ex.refl H1)⟩
theorem tldV_last {M : M1.Mach} {i a : Nat} {u : List Nat} : tldV M i (u ++ [a]) = gvn u.length (fun j => nV (M.tld i (u ++ [a]) j)) ++ [nV (M.out (M.led i u) a)] := by
  unfold tldV
  rw [List.length_append, List.length_singleton, gvn_succ]
  congr 3
  unfold M1.Mach.tld
  rw [List.take_left]
  simp
def sp_isl (K : PySem.W.Frag) : Sp := fun vs H Q _ => ∃ (v : V) (M : M1.Mach) (t a1 a2 : Addr) (u : List Nat) (s : Nat) (wd : List Nat), vs = [v, .ref t] ∧ MacAt K H v M.st M.an ∧ M.Ok ∧ SqT K H t [.ref a1, nV s, .ref a2] ∧ SqT K H a1 (rowV u) ∧ SqT K H a2 (rowV wd) ∧ M.Letters u ∧ s < M.st.length ∧ M.Letters wd ∧ wd.length ≤ 4000 ∧
  ∀ (b : Bool) H2, (b = true ↔ M.Unl (M.led 0 u) s wd) → Ex H H2 → Q (.bl b) H2
theorem has_law_is_late (T : Txt K mg) (h_law_led : Has P w K mg base "_law_led" 1 ["machine", "state", "word"] (sp_led K)) (h_law_told : Has P w K mg base "_law_told" 2 ["machine", "state", "word"] (sp_told K)) {f : Addr} {fd : FuncData} (F : Fun K "_law_is_late" "_law_is_late" s_law_is_late f fd) (g : mg "_law_is_late" = some (.ref f)) (B : Binds K fd ["machine", "value"] []) : Has P w K mg base "_law_is_late" 3 ["machine", "value"] (sp_isl K) := by
  refine Has.mk' g F.kp B (F.ok sc_law_is_late (fun vs H Q E h => ?_) (fun cdv A outer s H vs Q E hr h => ?_))
  · obtain ⟨v, M, t, a1, a2, u, s, wd, rfl, _⟩ := h
    rfl
  · obtain ⟨v, M, t, a1, a2, u, s, wd, rfl, hM, ok, ht, h1, h2, hu, hs, hw, hl, k⟩ := h
    refine ⟨_, (pss_cons (ps_asg (pv 1) (pg_tupK (K := K) (n := 3) rfl (by rfl) (pgs_cons (pg_name (i := 2) sc_law_is_late.nd rfl (.inl rfl)) (pgs_cons (pg_name (i := 3) sc_law_is_late.nd rfl (.inl rfl)) (pgs_cons (pg_name (i := 4) sc_law_is_late.nd rfl (.inl rfl)) pgs_nil)))))
      (pss_cons (ps_if (pt_cmpR (op_eqDK (K := K) rfl hr.units) (pv 4) (pe_tup pa_nil) (nomark _))
      (pss_one (ps_ret pe_bl))
      pss_nil)
      (pss_cons (ps_set (i := 5) sc_law_is_late.nd rfl (.inl rfl) (pe_has h_law_led (hr.mono (by first | decide | exact Nat.le_refl _)) (by rfl) (pa_cons (pv 0) (pa_cons pe_int (pa_cons (pv 2) pa_nil)))))
      (pss_one (ps_ret (pe_cmpR op_ne (pe_ix (ix_tupK (K := K) rfl) (pe_has h_law_told (hr.mono (by first | decide | exact Nat.le_refl _)) (by rfl) (pa_cons (pv 0) (pa_cons (pv 5) (pa_cons (pv 4) pa_nil)))) (pe_un un_neg pe_int) (fun _ _ => rfl)) (pe_ix (ix_tupK (K := K) rfl) (pe_has h_law_told (hr.mono (by first | decide | exact Nat.le_refl _)) (by rfl) (pa_cons (pv 0) (pa_cons (pv 3) (pa_cons (pv 4) pa_nil)))) (pe_un un_neg pe_int) (fun _ _ => rfl)) (nomark _))))))), ?_⟩
    refine ⟨.ref t, rfl, t, _, rfl, ht, rfl, _, _, rfl, _, _, rfl, _, _, rfl, rfl, ?_⟩
    refine q_when (b := decide (wd = [])) (et_test (ev_opU (xs := []) (ev_var rfl) (eu_tup ea_nil (by show 0 ≤ 100000; decide)) fun p H1 hp e1 => rv_eqT (s := []) (ex_t e1 h2) (SqT.of hp))) (fun bb H1 e1 => ?_) (fun bb H1 e1 => ?_)
    · have := of_decide_eq_true bb
      subst this
      exact s_ret ev_c fun H2 e2 => k false H2 ⟨fun z => (by cases z), fun ⟨_, _, e, _⟩ => (by simp at e)⟩ (e1.trans e2)
    · obtain ⟨x, a, rfl⟩ : ∃ x a, wd = x ++ [a] := by
        rcases List.eq_nil_or_concat wd with z | ⟨x, a, z⟩
        · exact absurd z (of_decide_eq_false bb)
        · exact ⟨x, a, by rw [z, List.concat_eq_append]⟩
      refine ⟨v, rfl, .ref a1, rfl, v, M, 0, a1, u, rfl, hM.keep (TK.ex e1), ok, ok.n1, ex_t e1 h1, hu, fun H2 e2 => ?_⟩
      have e12 := e1.trans e2
      have il := M.led_lt ok ok.n1 hu
      have lst : ∀ i, atI (tldV M i (x ++ [a])) (-1) = some (nV (M.out (M.led i x) a)) := fun i => by
        rw [tldV_last]
        exact atI_last _ _
      refine ⟨v, rfl, nV (M.led 0 u), rfl, .ref a2, rfl, v, M, M.led 0 u, a2, x ++ [a], rfl, hM.keep (TK.ex e12), ok, il, ex_t e12 h2, hl, hw, fun p5 H5 hp5 e5 h5 => ⟨1, rfl, p5, _, -1, _, rfl, rfl, SqT.of h5, lst _, ?_⟩⟩
      have e15 := e12.trans e5
      refine ⟨v, rfl, nV s, rfl, .ref a2, rfl, v, M, s, a2, x ++ [a], rfl, hM.keep (TK.ex e15), ok, hs, ex_t e15 h2, hl, hw, fun p6 H6 hp6 e6 h6 => ⟨1, rfl, p6, _, -1, _, rfl, rfl, SqT.of h6, lst _, ?_⟩⟩
      refine rv_ne rfl H6 (Ex.refl _) _ fun H7 e7 => k _ H7 ?_ (e15.trans (e6.trans e7))
      rw [nV_dec, Bool.not_eq_true', decide_eq_false_iff_not]
      exact unl_snoc.symm
end

end Kx
namespace Kx
open PySem PySem.Spec PyProof.Rows L2

open Evl
section
variable {P : Program} {w : World} {K : PySem.W.Frag} {mg : Str → Option Value} {base : Heap}
/-! ### the law's own: all words of a length -/
def wordsOf (k : Nat) : Nat → List (List Nat)
  | 0 => [[]]
  | n + 1 => (wordsOf k n).flatMap fun w => (List.range k).map fun a => w ++ [a]
theorem extL_len {k : Nat} (l : List (List Nat)) : (l.flatMap fun w => (List.range k).map fun a => w ++ [a]).length = l.length * k := by
  induction l with
  | nil => simp
  | cons x l ih => rw [List.flatMap_cons, List.length_append, ih, List.length_map, List.length_range, List.length_cons, Nat.succ_mul]; omega
theorem wordsOf_len (k : Nat) : ∀ n, (wordsOf k n).length = k ^ n
  | 0 => rfl
  | n + 1 => by
    show ((wordsOf k n).flatMap _).length = _
    rw [extL_len, wordsOf_len k n, Nat.pow_succ]
theorem wordsOf_each {k : Nat} : ∀ {n : Nat}, ∀ w ∈ wordsOf k n, w.length = n ∧ ∀ x ∈ w, x < k
  | 0, w, h => by
    rw [show wordsOf k 0 = [[]] from rfl, List.mem_singleton] at h
    subst h
    exact ⟨rfl, fun x hx => by simp at hx⟩
  | n + 1, w, h => by
    obtain ⟨u, hu, h⟩ := List.mem_flatMap.mp h
    obtain ⟨a, ha, rfl⟩ := List.mem_map.mp h
    obtain ⟨h1, h2⟩ := wordsOf_each u hu
    refine ⟨by rw [List.length_append, h1]; rfl, fun x hx => ?_⟩
    rcases List.mem_append.mp hx with q | q
    · exact h2 x q
    · rw [List.mem_singleton] at q
      rw [q]
      exact List.mem_range.mp ha
def sp_words (K : PySem.W.Frag) : Sp := fun vs H Q _ => ∃ k n : Nat, vs = [.int (k : Int), .int (n : Int)] ∧ 1 ≤ k ∧ n ≤ 100 ∧ k ^ n ≤ 1000 ∧ ∀ p H2 refs, H p = none → Ex H H2 → H2 p = some (.lst refs) → Paired (RowAt K H2) refs (wordsOf k n) → Q (.ref p) H2
theorem has_law_words (T : Txt K mg) {f : Addr} {fd : FuncData} (F : Fun K "_law_words" "_law_words" s_law_words f fd) (g : mg "_law_words" = some (.ref f)) (B : Binds K fd ["letters", "length"] []) : Has P w K mg base "_law_words" 1 ["letters", "length"] (sp_words K) := by
  refine Has.mk' g F.kp B (F.ok sc_law_words (fun vs H Q E h => ?_) (fun cdv A outer s H vs Q E hr h => ?_))
  · obtain ⟨k, n, rfl, _⟩ := h
    rfl
  · obtain ⟨kk, n, rfl, hk, hn, hl, k⟩ := h
    refine ⟨_, (pss_cons (ps_set (i := 2) sc_law_words.nd rfl (.inl rfl) (pe_lst (pa_cons (pe_tup pa_nil) pa_nil)))
      (pss_cons (ps_for PassesOwn.never rfl (pi_range1 (by rfl) T.b_range (pa_cons (pv 1) pa_nil)) (pg_name (i := 3) sc_law_words.nd rfl (.inl rfl))
      (pss_cons (ps_set (i := 4) sc_law_words.nd rfl (.inl rfl) (pe_lst pa_nil))
      (pss_cons (ps_for PassesOwn.never rfl (pi_listK (K := K) rfl (pv 2)) (pg_name (i := 5) sc_law_words.nd rfl (.inr rfl))
      (pss_one (ps_set (i := 4) sc_law_words.nd rfl (.inl rfl) (pe_op op_cat (pv 4) (pe_lc (own := [("letter", 6)]) (g := gName 6) (tt := tYes) (by rfl) sc_law_words.nd (pi_range1 (by rfl) T.b_range (pa_cons (pv 0) pa_nil)) (blkOk_by (N := N_law_words) (sc := defScope s_law_words) (by decide +kernel)) (fun _ _ _ _ _ => pg_name (i := 6) sc_law_words.nd rfl (Or.inl rfl)) (fun _ _ _ _ _ => pts_nil) (fun _ _ _ _ _ => (pe_op (op_catK (K := K) rfl) (pv 5) (pe_tup (pa_cons (pv 6) pa_nil)))))))))
      (pss_one (ps_set (i := 2) sc_law_words.nd rfl (.inl rfl) (pv 4))))))
      (pss_one (ps_ret (pv 2))))), ?_⟩
    have pw : ∀ t, t ≤ n → kk ^ t ≤ 1000 := fun t ht => Nat.le_trans (Nat.pow_le_pow_right hk ht) hl
    have k1000 : n = 0 ∨ kk ≤ 1000 := by
      by_cases h : n = 0
      · exact .inl h
      · have := pw 1 (by omega)
        rw [Nat.pow_one] at this
        exact .inr this
    refine ⟨by show 0 ≤ sizeLine; decide, fun t0 ht0 => ⟨by show 1 ≤ sizeLine; decide, fun p1 hp1 => ?_⟩⟩
    have e0 : Ex H (upd (upd H t0 (.tup [])) p1 (.lst [.ref t0])) := (Ex.new ht0).trans (Ex.new hp1)
    have nt0 : (upd (upd H t0 (.tup [])) p1 (.lst [.ref t0])) t0 = some (.tup (rowV [])) := Ex.new hp1 _ _ upd_same
    refine q_forR1 (n := (n : Int)) (ea_cons (ev_var rfl) ea_nil) ⟨by omega, by omega⟩ (fun t σ' H' => ∃ (p : Addr) (refs : List V) (l3 l4 l5 : Option V), σ' = [some (.int (kk : Int)), some (.int (n : Int)), some (.ref p), l3, l4, l5, none] ∧ Ex H H' ∧ H p = none ∧ H' p = some (.lst refs) ∧ Paired (RowAt K H') refs (wordsOf kk t))
      (fun H2 e2 => ⟨p1, [.ref t0], none, none, none, rfl, e0.trans e2, fresh_back (Ex.new ht0) hp1, e2 _ _ upd_same, .cons ⟨t0, rfl, SqT.of (e2 _ _ nt0)⟩ .nil⟩) ?_ ?_
    · rintro t σ' H2 ht ⟨p, refs, l3, l4, l5, rfl, e2, hp, hp2, hR⟩
      have ht' : t < n := by omega
      have hk1000 : kk ≤ 1000 := k1000.resolve_left (by omega)
      have hrl : refs.length = kk ^ t := (Paired.length hR).trans (wordsOf_len kk t)
      have hp1' := pw (t + 1) (by omega)
      rw [Nat.pow_succ] at hp1'
      refine q_asgL (el_lst ea_nil (by show 0 ≤ 100000; decide)) fun m0 H3 hm0 e3 h3 => ?_
      have e23 := e2.trans e3
      refine q_forL (ev_var rfl) (sq_of (e3 _ _ hp2)) (fun j σ' H' => ∃ (q : Addr) (rs : List V) (l5 : Option V), σ' = [some (.int (kk : Int)), some (.int (n : Int)), some (.ref p), some (.int (t : Int)), some (.ref q), l5, none] ∧ Ex H3 H' ∧ H' q = some (.lst rs) ∧ Paired (RowAt K H') rs (((wordsOf kk t).take j).flatMap fun w => (List.range kk).map fun a => w ++ [a]) ∧ H q = none)
        (fun H4 e4 => ⟨m0, [], l5, rfl, e4, e4 _ _ h3, .nil, fresh_back e2 hm0⟩) (fun j σ' H' _ ⟨_, _, _, _, e, _⟩ => sq_of (e _ _ (e3 _ _ hp2))) ?_ ?_
      · rintro j z σ' H4 hz ⟨q, rs, m5, rfl, e4, hq4, hR4, hqn⟩
        obtain ⟨u, hu, hzr⟩ := Paired.get' hR hz
        obtain ⟨av, rfl, hru⟩ := hzr.keep (TK.ex (e3.trans e4))
        have hul := (wordsOf_each u (List.mem_of_getElem? hu)).1
        have hj : j < (wordsOf kk t).length := (List.getElem?_eq_some_iff.mp hu).1
        rw [wordsOf_len] at hj
        have key : ∀ Q : VK, (∀ l H5, H4 l = none → Ex H4 H5 → (∃ xs, H5 l = some (.lst xs) ∧ Paired (RowAt K H5) xs ((List.range kk).map fun a => u ++ [a])) → Q (.ref l) H5) →
            tLc (iRng1 (tCons (tVar 0) tNil)) (gName 6) tYes (tOp (rCatA K) (tVar 5) (tTup (tCons (tVar 6) tNil))) [6] [some (.int (kk : Int)), some (.int (n : Int)), some (.ref p), some (.int (t : Int)), some (.ref q), some (.ref av), none] H4 Q := by
          intro Q qk
          unfold tLc iRng1
          refine ⟨.int (kk : Int), rfl, _, rfl, by omega, by omega, fun D hD => ?_⟩
          refine lc_range (lo := 0) (n := ((kk : Int)).toNat) (fun o H' => Ex H4 H' ∧ ∃ xs, H' D = some (.lst xs) ∧ Paired (RowAt K H') xs ((List.range o).map fun a => u ++ [a])) ⟨Ex.new hD, [], upd_same, .nil⟩ (fun o H' ho p => ?_) (fun H' p => ?_)
          · obtain ⟨p1, xs, p2, p3⟩ := p
            have hxl := Paired.length p3
            rw [List.length_map, List.length_range] at hxl
            rw [Int.toNat_natCast] at ho
            refine ⟨rfl, yesT ?_⟩
            have put : ∀ (v2 : Addr) H7, Ex H' H7 → SqT K H7 v2 (rowV (u ++ [o])) → ∃ acc, H7 D = some (.lst acc) ∧ acc.length < sizeLine ∧ (Ex H4 (upd H7 D (.lst (acc ++ [.ref v2]))) ∧ ∃ xs, (upd H7 D (.lst (acc ++ [.ref v2]))) D = some (.lst xs) ∧ Paired (RowAt K (upd H7 D (.lst (acc ++ [.ref v2])))) xs ((List.range (o + 1)).map fun a => u ++ [a])) := fun v2 H7 e7 h7 => by
              have t8 : TK K H7 (upd H7 D (.lst (xs ++ [.ref v2]))) := TK.lst (e7 _ _ p2)
              refine ⟨xs, e7 _ _ p2, small1000 (by omega), Ex.mut (p1.trans e7) hD, _, upd_same, ?_⟩
              rw [List.range_succ, List.map_append]
              exact Paired.snoc (Paired.mapP p3 fun _ _ z => (z.keep (TK.ex e7)).keep t8) ⟨v2, rfl, t8 _ _ h7⟩
            refine ⟨.ref av, rfl, .int (0 + (o : Int)), rfl, by show 1 ≤ sizeLine; decide, fun t2 ht2 => ⟨av, t2, rowV u, [nV o], rfl, rfl, ex_t (p1.trans (Ex.new ht2)) hru, SqT.of (by rw [upd_same, Int.zero_add]; rfl), ?_, fun hu0 => ?_, fun _ h => (by cases h), fun hu0 _ p hp => ?_⟩⟩
            · rw [rowV_len]
              exact Nat.le_of_lt (small1000 (by show u.length + 1 ≤ 1000; omega))
            · have hu1 : u = [] := by
                cases u with
                | nil => rfl
                | cons _ _ => simp [rowV] at hu0
              subst hu1
              exact put t2 _ (Ex.new ht2) (SqT.of (by rw [upd_same, Int.zero_add]; rfl))
            · refine put p _ ((Ex.new ht2).trans (Ex.new hp)) (SqT.of ?_)
              rw [upd_same, rowV_snoc]
          · obtain ⟨p1, xs, p2, p3⟩ := p
            rw [Int.toNat_natCast] at p3
            exact qk D H' hD p1 ⟨xs, p2, p3⟩
        refine ⟨.ref q, rfl, key _ fun l H5 hl5 e5 ⟨xs, hxs, hPx⟩ => ⟨q, l, rs, xs, rfl, rfl, e5 _ _ hq4, hxs, ?_, fun p6 hp6 => ?_⟩⟩
        · have h1 := Paired.length hR4
          have h2 := Paired.length hPx
          rw [extL_len, List.length_take, wordsOf_len] at h1
          rw [List.length_map, List.length_range] at h2
          have h3 : min j (kk ^ t) * kk ≤ kk ^ t * kk := Nat.mul_le_mul_right kk (by omega)
          refine Nat.le_of_lt (small ?_)
          omega
        · refine ⟨p6, _, _, rfl, (e4.trans e5).trans (Ex.new hp6), upd_same, ?_, fresh_back ((e23.trans e4).trans e5) hp6⟩
          rw [M1.take_succ' hu, List.flatMap_append]
          have t6 := TK.ex (K := K) (Ex.new (o := .lst (rs ++ xs)) hp6)
          refine paired_app (Paired.mapP hR4 fun _ _ z => (z.keep (TK.ex e5)).keep t6) ?_
          rw [List.flatMap_cons, List.flatMap_nil, List.append_nil]
          exact Paired.mapP hPx fun _ _ z => z.keep t6
      · rintro σ' H4 ⟨q, rs, m5, rfl, e4, hq4, hR4, hqn⟩
        rw [hrl, ← wordsOf_len, List.take_length] at hR4
        exact ⟨.ref q, rfl, q, rs, _, _, _, rfl, e23.trans e4, hqn, hq4, hR4⟩
    · rintro σ' H2 ⟨p, refs, l3, l4, l5, rfl, e2, hp, hp2, hR⟩
      rw [Int.toNat_natCast] at hR
      exact s_ret (ev_var rfl) fun H3 e3 => k p H3 refs hp (e2.trans e3) (e3 _ _ hp2) (Paired.mapP hR fun _ _ z => z.keep (TK.ex e3))
end

end Kx
namespace Kx
open PySem PySem.Spec PyProof.Rows L2

open Evl
section
variable {P : Program} {w : World} {K : PySem.W.Frag} {mg : Str → Option Value} {base : Heap}
/-! ### windows -/
def sp_window (K : PySem.W.Frag) : Sp := fun vs H Q _ => ∃ (v : V) (M : M1.Mach), vs = [v] ∧ MacAt K H v M.st M.an ∧ M.Ok ∧ ∀ o H2, M.LateIs o → (∀ n, o = some n → n ≤ 5) → Ex H H2 → Q (oV (o.map (· + 1))) H2
theorem has_window (T : Txt K mg) (h_late : Has P w K mg base "late" 6 ["machine"] (sp_late K)) {f : Addr} {fd : FuncData} (F : Fun K "window" "window" s_window f fd) (g : mg "window" = some (.ref f)) (B : Binds K fd ["machine"] []) : Has P w K mg base "window" 7 ["machine"] (sp_window K) := by
  refine Has.mk' g F.kp B (F.ok sc_window (fun vs H Q E h => ?_) (fun cdv A outer s H vs Q E hr h => ?_))
  · obtain ⟨v, M, rfl, _⟩ := h
    rfl
  · obtain ⟨v, M, rfl, hM, ok, k⟩ := h
    refine ⟨_, (pss_cons (ps_set (i := 1) sc_window.nd rfl (.inl rfl) (pe_has h_late (hr.mono (by first | decide | exact Nat.le_refl _)) (by rfl) (pa_cons (pv 0) pa_nil)))
      (pss_cons (ps_if (pt_cmpR op_isN (pv 1) pe_non (nomark _))
      (pss_one (ps_ret pe_non))
      pss_nil)
      (pss_one (ps_ret (pe_op op_add (pv 1) pe_int))))), ?_⟩
    refine ⟨v, rfl, v, M, rfl, hM, ok, fun o H1 hL _ e1 => ?_⟩
    cases o with
    | none => exact q_when (b := true) (et_isN (v := oV none) rfl) (fun _ H2 e2 => s_ret ev_c fun H3 e3 => k none H3 hL (fun _ z => by cases z) (e1.trans (e2.trans e3))) fun z => by cases z
    | some n =>
      refine q_when (b := false) (et_isN (v := oV (some n)) rfl) (fun z => by cases z) fun _ H2 e2 => ?_
      refine s_ret (ev_op (ev_var rfl) ev_c rv_I0) fun H3 e3 => ?_
      have := M.late_lt ok hL
      have := ok.n6
      exact k (some n) H3 hL (fun m z => by cases z; omega) (e1.trans (e2.trans e3))
def sp_wans (K : PySem.W.Frag) : Sp := fun vs H Q _ => ∃ (v : V) (M : M1.Mach) (b : Addr) (u : List Nat) (a n : Nat), vs = [v, .ref b] ∧ MacAt K H v M.st M.an ∧ M.Ok ∧ SqT K H b (rowV (u ++ [a])) ∧ u.length < 4000 ∧ M.Letters (u ++ [a]) ∧ M.LateIs (some n) ∧ n ≤ u.length ∧ ∀ H2, Ex H H2 → Q (nV (M.out (M.led 0 u) a)) H2
theorem has_window_answer (T : Txt K mg) (h_window : Has P w K mg base "window" 7 ["machine"] (sp_window K)) (h_check_word : Has P w K mg base "check_word" 5 ["machine", "word"] (sp_check_word K)) (h_last_answer : Has P w K mg base "last_answer" 2 ["machine", "state", "word"] (sp_last K)) {f : Addr} {fd : FuncData} (F : Fun K "window_answer" "window_answer" s_window_answer f fd) (g : mg "window_answer" = some (.ref f)) (B : Binds K fd ["machine", "word"] []) : Has P w K mg base "window_answer" 8 ["machine", "word"] (sp_wans K) := by
  refine Has.mk' g F.kp B (F.ok sc_window_answer (fun vs H Q E h => ?_) (fun cdv A outer s H vs Q E hr h => ?_))
  · obtain ⟨v, M, b, u, a, n, rfl, _⟩ := h
    rfl
  · obtain ⟨v, M, b, u, a, n, rfl, hM, ok, hb, hl, hk, hL, hn, k⟩ := h
    refine ⟨_, (pss_cons (ps_set (i := 2) sc_window_answer.nd rfl (.inl rfl) (pe_has h_window (hr.mono (by first | decide | exact Nat.le_refl _)) (by rfl) (pa_cons (pv 0) pa_nil)))
      (pss_cons (ps_expr (pe_has h_check_word (hr.mono (by first | decide | exact Nat.le_refl _)) (by rfl) (pa_cons (pv 0) (pa_cons (pv 1) pa_nil))))
      (pss_cons (ps_if (PW.pt (pw_or (pt_not (pt_tru (K := K) rfl (pv 1))) (pw_or1 (PW.pt (pw_and (pt_cmpR op_notN (pv 2) pe_non (nomark _)) (pw_and1 (pt_cmpR op_lt (pe_callB (call_lenK (K := K) rfl) (by rfl) T.b_len bt_len (pa_cons (pv 1) pa_nil)) (pv 2) (nomark _))))))))
      (pss_one (ps_never))
      pss_nil)
      (pss_cons (ps_if (pt_cmpR op_isN (pv 2) pe_non (nomark _))
      (pss_one (ps_never))
      pss_nil)
      (pss_one (ps_ret (pe_has h_last_answer (hr.mono (by first | decide | exact Nat.le_refl _)) (by rfl) (pa_cons (pv 0) (pa_cons pe_int (pa_cons (pv 1) pa_nil)))))))))), ?_⟩
    refine ⟨v, rfl, v, M, rfl, hM, ok, fun o H1 hL' _ e1 => ?_⟩
    have := hL'.only hL
    subst this
    refine ⟨v, rfl, .ref b, rfl, v, M, b, u ++ [a], rfl, hM.keep (TK.ex e1), ok, ex_t e1 hb, by rw [List.length_append, List.length_singleton]; omega, hk, fun H2 e2 => ?_⟩
    have e12 := e1.trans e2
    refine q_when (b := false) (et_or (a := false) (et_is (et_not (et_tru (ev_var rfl) fun H3 e3 => tru_tup (ex_t (e12.trans e3) hb))) (by rw [rowV_snoc]; simp)) fun _ => et_is (et_and (a := true) (et_is (et_notN (i := 2) (v := nV (n + 1)) rfl) rfl) fun _ => et_test (ev_op (ev_lenT (ev_var rfl) (ex_t e12 hb)) (ev_var rfl) rv_I0)) ?_) (fun z => by cases z) fun _ H3 e3 => ?_
    · rw [Bool.true_and, rowV_len, List.length_append, List.length_singleton]
      exact decide_eq_false (by show ¬ ((u.length + 1 : Nat) : Int) < ((n + 1 : Nat) : Int); omega)
    refine q_when (b := false) (et_isN (i := 2) (v := nV (n + 1)) rfl) (fun z => by cases z) fun _ H4 e4 => ?_
    have e14 := e12.trans (e3.trans e4)
    exact s_ret (ev_callV (ea_cons (ev_var rfl) (ea_cons ev_c (ea_cons (ev_var rfl) ea_nil))) fun H5 e5 Q q => ⟨v, M, 0, b, u, a, rfl, hM.keep (TK.ex (e14.trans e5)), ok, ok.n1, ex_t (e14.trans e5) hb, by omega, hk, q⟩) fun H5 e5 => k H5 (e14.trans e5)
def sp_wansX (K : PySem.W.Frag) (mg : Str → Option Value) : Sp := fun vs H _ E => ∃ (v : V) (M : M1.Mach) (b : Addr) (r : List Nat), vs = [v, .ref b] ∧ MacAt K H v M.st M.an ∧ M.Ok ∧ SqT K H b (rowV r) ∧ r.length ≤ 4000 ∧ M.Letters r ∧
  ((∃ n, M.LateIs (some n) ∧ r.length ≤ n ∧ ∀ C H2, mg "BadLetters" = some (.ref C) → Ex H H2 → E (.ref C) none H2) ∨ (M.LateIs none ∧ r ≠ [] ∧ ∀ C H2, mg "Remembers" = some (.ref C) → Ex H H2 → E (.ref C) none H2))
theorem hasx_window_answer (T : Txt K mg) (h_window : Has P w K mg base "window" 7 ["machine"] (sp_window K)) (h_check_word : Has P w K mg base "check_word" 5 ["machine", "word"] (sp_check_word K)) (h_last_answer : Has P w K mg base "last_answer" 2 ["machine", "state", "word"] (sp_last K)) {f : Addr} {fd : FuncData} (F : Fun K "window_answer" "window_answer" s_window_answer f fd) (g : mg "window_answer" = some (.ref f)) (B : Binds K fd ["machine", "word"] []) : HasX P w K mg base "window_answer" 8 ["machine", "word"] (sp_wansX K mg) := by
  obtain ⟨C_BadLetters, e_BadLetters⟩ := T.e_BadLetters
  obtain ⟨C_Remembers, e_Remembers⟩ := T.e_Remembers
  refine HasX.mk' g F.kp B (F.okX sc_window_answer (fun vs H Q E h => ?_) (fun cdv A outer s H vs Q E hr h => ?_))
  · obtain ⟨v, M, b, r, rfl, _⟩ := h
    rfl
  · obtain ⟨v, M, b, r, rfl, hM, ok, hb, hl, hk, h⟩ := h
    refine ⟨_, (pss_cons (ps_set (i := 2) sc_window_answer.nd rfl (.inl rfl) (pe_has h_window (hr.mono (by first | decide | exact Nat.le_refl _)) (by rfl) (pa_cons (pv 0) pa_nil)))
      (pss_cons (ps_expr (pe_has h_check_word (hr.mono (by first | decide | exact Nat.le_refl _)) (by rfl) (pa_cons (pv 0) (pa_cons (pv 1) pa_nil))))
      (pss_cons (ps_if (PW.pt (pw_or (pt_not (pt_tru (K := K) rfl (pv 1))) (pw_or1 (PW.pt (pw_and (pt_cmpR op_notN (pv 2) pe_non (nomark _)) (pw_and1 (pt_cmpR op_lt (pe_callB (call_lenK (K := K) rfl) (by rfl) T.b_len bt_len (pa_cons (pv 1) pa_nil)) (pv 2) (nomark _))))))))
      (pss_one (ps_raise rfl (takes_of rfl rfl rfl rfl) (pmk_own0 e_BadLetters (by rfl))))
      pss_nil)
      (pss_cons (ps_if (pt_cmpR op_isN (pv 2) pe_non (nomark _))
      (pss_one (ps_raise rfl (takes_of rfl rfl rfl rfl) (pmk_own0 e_Remembers (by rfl))))
      pss_nil)
      (pss_one (ps_ret (pe_has h_last_answer (hr.mono (by first | decide | exact Nat.le_refl _)) (by rfl) (pa_cons (pv 0) (pa_cons pe_int (pa_cons (pv 1) pa_nil)))))))))), ?_⟩
    refine ⟨v, rfl, v, M, rfl, hM, ok, fun o H1 hL' _ e1 => ?_⟩
    refine ⟨v, rfl, .ref b, rfl, v, M, b, r, rfl, hM.keep (TK.ex e1), ok, ex_t e1 hb, hl, hk, fun H2 e2 => ?_⟩
    have e12 := e1.trans e2
    rcases h with ⟨n, hL, hn, k⟩ | ⟨hL, hr0, k⟩
    · have := hL'.only hL
      subst this
      dsimp only
      refine q_when (b := !(!(rowV r).isEmpty) || (true && decide ((r.length : Int) < ((n + 1 : Nat) : Int)))) ?_ (fun _ H3 e3 => ?_) (fun bb H3 e3 => ?_)
      · refine et_or (et_not (et_tru (ev_var rfl) fun H3 e3 => tru_tup (ex_t (e12.trans e3) hb))) fun _ => et_and (a := true) (et_is (et_notN (i := 2) (v := nV (n + 1)) rfl) rfl) fun _ => et_is (et_test (ev_op (ev_lenT (ev_var rfl) (ex_t e12 hb)) (ev_var rfl) rv_I0)) ?_
        rw [rowV_len]
      · exact k _ _ e_BadLetters.g (e12.trans e3)
      · rw [Bool.true_and, Bool.or_eq_false_iff] at bb
        have := of_decide_eq_false bb.2
        omega
    · have := hL'.only hL
      subst this
      dsimp only
      refine q_when (b := false) ?_ (fun z => by cases z) (fun bb H3 e3 => ?_)
      · refine et_or (a := false) (et_is (et_not (et_tru (ev_var rfl) fun H3 e3 => tru_tup (ex_t (e12.trans e3) hb))) ?_) fun _ => et_is (et_and (a := false) (b := true) (et_is (et_notN (i := 2) (v := V.non) rfl) rfl) fun z => by cases z) rfl
        cases r with
        | nil => exact absurd rfl hr0
        | cons _ _ => rfl
      · refine q_when (b := true) (et_isN (i := 2) (v := V.non) rfl) (fun _ H4 e4 => ?_) (fun z => by cases z)
        exact k _ _ e_Remembers.g (e12.trans (e3.trans e4))
end

end Kx
namespace Kx
open PySem PySem.Spec PyProof.Rows L2

open Evl
section
variable {P : Program} {w : World} {K : PySem.W.Frag} {mg : Str → Option Value} {base : Heap}
/-! ### words_of, window_table -/
/-- the answer to a word's last letter -/
def loOf (M : M1.Mach) (i : Nat) (w : List Nat) : Nat := M.out (M.led i w.dropLast) (w.getLastD 0)
theorem loOf_snoc {M : M1.Mach} {i a : Nat} {u : List Nat} : loOf M i (u ++ [a]) = M.out (M.led i u) a := by
  unfold loOf
  rw [List.dropLast_concat, List.getLastD_concat]
def sp_wordsof (K : PySem.W.Frag) : Sp := fun vs H Q _ => ∃ (v : V) (M : M1.Mach) (n : Nat), vs = [v, .int (n : Int)] ∧ MacAt K H v M.st M.an ∧ M.Ok ∧ n ≤ 6 ∧ ∀ p H2 refs, H p = none → Ex H H2 → H2 p = some (.lst refs) → Paired (RowAt K H2) refs (wordsOf M.k n) → Q (.ref p) H2
theorem pow_small {k n : Nat} (hk : k ≤ 3) (hn : n ≤ 6) : k ^ n ≤ 1000 := Nat.le_trans (Nat.pow_le_pow_left hk n) (Nat.le_trans (Nat.pow_le_pow_right (n := 3) (by decide) hn) (by decide))
theorem has_words_of (T : Txt K mg) {f : Addr} {fd : FuncData} (F : Fun K "words_of" "words_of" s_words_of f fd) (g : mg "words_of" = some (.ref f)) (B : Binds K fd ["machine", "length"] []) : Has P w K mg base "words_of" 1 ["machine", "length"] (sp_wordsof K) := by
  refine Has.mk' g F.kp B (F.ok sc_words_of (fun vs H Q E h => ?_) (fun cdv A outer s H vs Q E hr h => ?_))
  · obtain ⟨v, M, n, rfl, _⟩ := h
    rfl
  · obtain ⟨v, M, n, rfl, hM, ok, hn, k⟩ := h
    obtain ⟨am, x, y, rfl, hS, ⟨ax, vx, rfl, hSx, hPx⟩, hy⟩ := id hM
    obtain ⟨r0, hr0⟩ := row0 ok
    obtain ⟨a0, g0, hS0⟩ := tab_get hPx r0
    have k3 := ok.k3
    have k1 := ok.k1
    refine ⟨_, (pss_cons (ps_set (i := 2) sc_words_of.nd rfl (.inl rfl) (pe_lst (pa_cons (pe_tup pa_nil) pa_nil)))
      (pss_cons (ps_for PassesOwn.never rfl (pi_range1 (by rfl) T.b_range (pa_cons (pv 1) pa_nil)) (pg_name (i := 3) sc_words_of.nd rfl (.inl rfl))
      (pss_one (ps_setLc2 (i := 2) (own := [("word", 4), ("letter", 5)]) (vs1 := [5]) (by rfl) sc_words_of.nd rfl rfl (sw_true rfl rfl rfl (by decide +kernel)) (pi_listK (K := K) rfl (pv 2)) (blkOk_by (N := N_words_of) (sc := defScope s_words_of) (by decide +kernel)) (by decide) (fun _ _ _ _ _ => (pg_name (i := 4) sc_words_of.nd rfl (.inl rfl))) (fun _ _ _ _ _ => pts_nil) (fun _ _ _ _ _ => (pi_range1 (by rfl) T.b_range (pa_cons (pe_callB (call_lenK (K := K) rfl) (by rfl) T.b_len bt_len (pa_cons (pe_ix (ix_tupK (K := K) rfl) (pe_ix (ix_tupK (K := K) rfl) (pv 0) pe_int (fun _ _ => rfl)) pe_int (fun _ _ => rfl)) pa_nil)) pa_nil))) (fun _ _ _ _ _ => (pg_name (i := 5) sc_words_of.nd rfl (.inl rfl))) (fun _ _ _ _ _ => pts_nil) (fun _ _ _ _ _ => (pe_op (op_catK (K := K) rfl) (pv 4) (pe_tup (pa_cons (pv 5) pa_nil)))))))
      (pss_one (ps_ret (pv 2))))), ?_⟩
    refine ⟨by show 0 ≤ sizeLine; decide, fun t0 ht0 => ⟨by show 1 ≤ sizeLine; decide, fun p1 hp1 => ?_⟩⟩
    have e0 : Ex H (upd (upd H t0 (.tup [])) p1 (.lst [.ref t0])) := (Ex.new ht0).trans (Ex.new hp1)
    have nt0 : (upd (upd H t0 (.tup [])) p1 (.lst [.ref t0])) t0 = some (.tup (rowV [])) := Ex.new hp1 _ _ upd_same
    refine q_forR1 (n := (n : Int)) (ea_cons (ev_var rfl) ea_nil) ⟨by omega, by omega⟩ (fun t σ' H' => ∃ (p : Addr) (refs : List V) (l3 : Option V), σ' = [some (.ref am), some (.int (n : Int)), some (.ref p), l3, none, none] ∧ Ex H H' ∧ H p = none ∧ H' p = some (.lst refs) ∧ Paired (RowAt K H') refs (wordsOf M.k t))
      (fun H2 e2 => ⟨p1, [.ref t0], none, rfl, e0.trans e2, fresh_back (Ex.new ht0) hp1, e2 _ _ upd_same, .cons ⟨t0, rfl, SqT.of (e2 _ _ nt0)⟩ .nil⟩) ?_ ?_
    · rintro t σ' H2 ht ⟨p, refs, l3, rfl, e2, hp, hp2, hR⟩
      have ht' : t < n := by omega
      have hrl : refs.length = (wordsOf M.k t).length := Paired.length hR
      have hrl' := hrl
      rw [wordsOf_len] at hrl'
      have hb1 := pow_small (k := M.k) k3 (n := t) (by omega)
      have hb2 := pow_small (k := M.k) k3 (n := t + 1) (by omega)
      rw [Nat.pow_succ] at hb2
      refine ⟨.ref p, rfl, p, rfl, ⟨refs, sq_of hp2⟩, fun D hD => ?_⟩
      refine ⟨fun i m H' => i ≤ refs.length ∧ m = refs.length - i ∧ Ex H2 H' ∧ ∃ rs, H' D = some (.lst rs) ∧ Paired (RowAt K H') rs (((wordsOf M.k t).take i).flatMap fun w => (List.range M.k).map fun a => w ++ [a]), ⟨_, Nat.zero_le _, rfl, Ex.new hD, [], upd_same, .nil⟩, ?_⟩
      rintro i m H3 ⟨hi, rfl, e3, rs, hD3, hR3⟩
      by_cases hi2 : i < refs.length
      · obtain ⟨z, hz⟩ : ∃ z, refs[i]? = some z := ⟨_, List.getElem?_eq_getElem hi2⟩
        refine .inr ⟨⟨refs, z, sq_of (e3 _ _ hp2), hz⟩, fun H' => ∃ m', m' < refs.length - i ∧ i + 1 ≤ refs.length ∧ m' = refs.length - (i + 1) ∧ Ex H2 H' ∧ ∃ rs, H' D = some (.lst rs) ∧ Paired (RowAt K H') rs (((wordsOf M.k t).take (i + 1)).flatMap fun w => (List.range M.k).map fun a => w ++ [a]), fun H' h => h, ?_⟩
        rintro x H4 ⟨rfl, hx⟩
        have hx2 := hx refs (sq_of (e3 _ _ hp2))
        rw [hz] at hx2
        cases hx2
        obtain ⟨u, hu, hzr⟩ := Paired.get' hR hz
        have hul := (wordsOf_each u (List.mem_of_getElem? hu)).1
        obtain ⟨av, rfl, hru⟩ := hzr.keep (TK.ex e3)
        refine ⟨rfl, yesT ?_⟩
        have e03 := e2.trans e3
        refine (ea_cons (ev_lenT (K := K) (ev_op (ev_op (ev_var rfl) ev_c (rv_ixT (K := K) (ex_t e03 hS) (atI_nat (j := 0) rfl))) ev_c (rv_ixT (K := K) (ex_t e03 hSx) (atI_nat (j := 0) g0))) (ex_t e03 hS0)) ea_nil) _ (Ex.refl _) _ fun H4 e4 => ⟨_, rfl, by rw [rowV_len]; omega, by rw [rowV_len]; omega, ?_⟩
        rw [rowV_len, hr0]
        have e34 := e3.trans e4
        have tk : ((wordsOf M.k t).take (i + 1)) = (wordsOf M.k t).take i ++ [u] := M1.take_succ' hu
        refine ⟨fun j k H' => j ≤ M.k ∧ k = M.k - j ∧ Ex H2 H' ∧ ∃ rs, H' D = some (.lst rs) ∧ Paired (RowAt K H') rs ((((wordsOf M.k t).take i).flatMap fun w => (List.range M.k).map fun a => w ++ [a]) ++ (List.range j).map fun a => u ++ [a]), ⟨_, Nat.zero_le _, rfl, e34, rs, e4 _ _ hD3, by simpa using Paired.mapP hR3 fun _ _ z => z.keep (TK.ex e4)⟩, ?_⟩
        rintro j k H5 ⟨hj, rfl, e5, rs5, hD5, hR5⟩
        by_cases hj2 : j < M.k
        · refine .inr ⟨by show j < _; omega, fun H' => ∃ k', k' < M.k - j ∧ j + 1 ≤ M.k ∧ k' = M.k - (j + 1) ∧ Ex H2 H' ∧ ∃ rs, H' D = some (.lst rs) ∧ Paired (RowAt K H') rs ((((wordsOf M.k t).take i).flatMap fun w => (List.range M.k).map fun a => w ++ [a]) ++ (List.range (j + 1)).map fun a => u ++ [a]), fun H' h => h, ?_⟩
          rintro x H6 ⟨rfl, rfl⟩
          refine ⟨rfl, yesT ?_⟩
          have hru5 : SqT K H6 av (rowV u) := by
            obtain ⟨av', e, h⟩ := hzr.keep (TK.ex e5)
            cases e
            exact h
          have hlen : rs5.length < sizeLine := by
            have hl := Paired.length hR5
            rw [List.length_append, extL_len, List.length_take, wordsOf_len, List.length_map, List.length_range] at hl
            have hm : min i (M.k ^ t) * M.k ≤ M.k ^ t * M.k := Nat.mul_le_mul_right _ (by omega)
            refine small (by omega)
          have put : ∀ (v2 : Addr) H7, Ex H6 H7 → SqT K H7 v2 (rowV (u ++ [j])) → ∃ acc, H7 D = some (.lst acc) ∧ acc.length < sizeLine ∧ ∃ k', k' < M.k - j ∧ j + 1 ≤ M.k ∧ k' = M.k - (j + 1) ∧ Ex H2 (upd H7 D (.lst (acc ++ [.ref v2]))) ∧ ∃ rs, (upd H7 D (.lst (acc ++ [.ref v2]))) D = some (.lst rs) ∧ Paired (RowAt K (upd H7 D (.lst (acc ++ [.ref v2])))) rs ((((wordsOf M.k t).take i).flatMap fun w => (List.range M.k).map fun a => w ++ [a]) ++ (List.range (j + 1)).map fun a => u ++ [a]) := fun v2 H7 e7 h7 => by
            have t8 : TK K H7 (upd H7 D (.lst (rs5 ++ [.ref v2]))) := TK.lst (e7 _ _ hD5)
            refine ⟨rs5, e7 _ _ hD5, hlen, _, by omega, by omega, rfl, Ex.mut (e5.trans e7) hD, _, upd_same, ?_⟩
            rw [List.range_succ, List.map_append, ← List.append_assoc]
            exact Paired.snoc (Paired.mapP hR5 fun _ _ z => (z.keep (TK.ex e7)).keep t8) ⟨v2, rfl, t8 _ _ h7⟩
          refine ⟨.ref av, rfl, .int (0 + (j : Int)), rfl, by show 1 ≤ sizeLine; decide, fun t2 ht2 => ⟨av, t2, rowV u, [nV j], rfl, rfl, ex_t (Ex.new ht2) hru5, SqT.of (by rw [upd_same, Int.zero_add]; rfl), ?_, fun hu0 => ?_, fun _ h => (by cases h), fun hu0 _ q hq => ?_⟩⟩
          · rw [rowV_len]
            exact Nat.le_of_lt (small (by show u.length + 1 ≤ 100000; omega))
          · have hu1 : u = [] := by
              cases u with
              | nil => rfl
              | cons _ _ => simp [rowV] at hu0
            subst hu1
            exact put t2 _ (Ex.new ht2) (SqT.of (by rw [upd_same, Int.zero_add]; rfl))
          · refine put q _ ((Ex.new ht2).trans (Ex.new hq)) (SqT.of ?_)
            rw [upd_same, rowV_snoc]
        · refine .inl ⟨by show _ ≤ j; omega, _, by omega, by omega, rfl, e5, rs5, hD5, ?_⟩
          rw [tk, List.flatMap_append, List.flatMap_cons, List.flatMap_nil, List.append_nil]
          rw [show j = M.k by omega] at hR5
          exact hR5
      · refine .inl ⟨⟨refs, sq_of (e3 _ _ hp2), by omega⟩, D, rs, _, rfl, e2.trans e3, fresh_back e2 hD, hD3, ?_⟩
        rw [show i = (wordsOf M.k t).length by omega, List.take_length] at hR3
        exact hR3
    · rintro σ' H2 ⟨p, refs, l3, rfl, e2, hp, hp2, hR⟩
      rw [Int.toNat_natCast] at hR
      exact s_ret (ev_var rfl) fun H3 e3 => k p H3 refs hp (e2.trans e3) (e3 _ _ hp2) (Paired.mapP hR fun _ _ z => z.keep (TK.ex e3))
def tabRow (M : M1.Mach) (n : Nat) : List Nat := (wordsOf M.k (n + 1)).map (loOf M 0)
def sp_wtab (K : PySem.W.Frag) : Sp := fun vs H Q _ => ∃ (v : V) (M : M1.Mach) (n : Nat), vs = [v] ∧ MacAt K H v M.st M.an ∧ M.Ok ∧ M.LateIs (some n) ∧ ∀ p H2, H p = none → Ex H H2 → H2 p = some (.tup (rowV (tabRow M n))) → Q (.ref p) H2
theorem gvn_tab {M : M1.Mach} {ws : List (List Nat)} : gvn ws.length (fun i => nV (loOf M 0 (ws.getD i []))) = rowV (ws.map (loOf M 0)) := by
  unfold gvn rowV
  rw [List.map_map]
  refine List.ext_getElem? fun i => ?_
  rw [List.getElem?_map, List.getElem?_map]
  by_cases hi : i < ws.length
  · rw [List.getElem?_range hi, List.getElem?_eq_getElem hi]
    show some (nV (loOf M 0 (ws.getD i []))) = _
    rw [List.getD_eq_getElem?_getD, List.getElem?_eq_getElem hi]
    rfl
  · rw [List.getElem?_eq_none (by rw [List.length_range]; omega), List.getElem?_eq_none (by omega)]
    rfl
theorem has_window_table (T : Txt K mg) (h_window : Has P w K mg base "window" 7 ["machine"] (sp_window K)) (h_last_answer : Has P w K mg base "last_answer" 2 ["machine", "state", "word"] (sp_last K)) (h_words_of : Has P w K mg base "words_of" 1 ["machine", "length"] (sp_wordsof K)) {f : Addr} {fd : FuncData} (F : Fun K "window_table" "window_table" s_window_table f fd) (g : mg "window_table" = some (.ref f)) (B : Binds K fd ["machine"] []) : Has P w K mg base "window_table" 8 ["machine"] (sp_wtab K) := by
  refine Has.mk' g F.kp B (F.ok sc_window_table (fun vs H Q E h => ?_) (fun cdv A outer s H vs Q E hr h => ?_))
  · obtain ⟨v, M, n, rfl, _⟩ := h
    rfl
  · obtain ⟨v, M, n, rfl, hM, ok, hL, k⟩ := h
    refine ⟨_, (pss_cons (ps_set (i := 1) sc_window_table.nd rfl (.inl rfl) (pe_has h_window (hr.mono (by first | decide | exact Nat.le_refl _)) (by rfl) (pa_cons (pv 0) pa_nil)))
      (pss_cons (ps_if (pt_cmpR op_isN (pv 1) pe_non (nomark _))
      (pss_one (ps_never))
      pss_nil)
      (pss_one (ps_ret (pe_callTy (call_tupleK (K := K) rfl) (by rfl) T.b_tuple bt_tuple (pa_cons (pe_lc (own := [("word", 2)]) (g := gName 2) (tt := tYes) (by rfl) sc_window_table.nd (pi_listK (K := K) rfl (pe_has h_words_of (hr.mono (by first | decide | exact Nat.le_refl _)) (by rfl) (pa_cons (pv 0) (pa_cons (pv 1) pa_nil)))) (blkOk_by (N := N_window_table) (sc := defScope s_window_table) (by decide +kernel)) (fun _ _ _ _ _ => pg_name (i := 2) sc_window_table.nd rfl (Or.inl rfl)) (fun _ _ _ _ _ => pts_nil) (fun _ _ _ _ _ => (pe_has h_last_answer (hr.mono (by first | decide | exact Nat.le_refl _)) (by rfl) (pa_cons (pv 0) (pa_cons pe_int (pa_cons (pv 2) pa_nil)))))) pa_nil)))))), ?_⟩
    refine ⟨v, rfl, v, M, rfl, hM, ok, fun o H1 hL' _ e1 => ?_⟩
    have := hL'.only hL
    subst this
    have n5 := M.late_lt ok hL
    have n6 := ok.n6
    refine q_when (b := false) (et_isN (i := 1) (v := nV (n + 1)) rfl) (fun z => by cases z) fun _ H2 e2 => ?_
    have e12 := e1.trans e2
    refine ⟨v, rfl, nV (n + 1), rfl, v, M, n + 1, rfl, hM.keep (TK.ex e12), ok, by omega, fun p H3 refs hp e3 h3 hR => ?_⟩
    have e13 := e12.trans e3
    have hrl : refs.length = (wordsOf M.k (n + 1)).length := Paired.length hR
    have hb := pow_small (k := M.k) ok.k3 (n := n + 1) (by omega)
    have hrl' := hrl
    rw [wordsOf_len] at hrl'
    have big := el_lcLv (K := K) (σ := [some v, some (nV (n + 1)), none]) (H := H3) (a := p) (xs := refs) (tl := tC (.ref p)) (j := 2) (vs := [2]) (te := tCall (sp_last K) [] E0 (tCons (tVar 0) (tCons (tC (.int 0)) (tCons (tVar 2) tNil)))) (fun i => nV (loOf M 0 ((wordsOf M.k (n + 1)).getD i []))) ev_c (sq_of h3) (by omega) (fun _ => rfl) (fun i z H4 e4 hz => ?_)
    · rw [hrl, gvn_tab] at big
      exact big H3 (Ex.refl _) (fun x H4 => rTupOf K [x] H4 Q) fun q H4 hq e4 h4 => ⟨q, _, rfl, Or.inl ⟨sq_of h4, fun l hl => k l _ (fresh_back e13 (fresh_back e4 hl)) ((e13.trans e4).trans (Ex.new hl)) upd_same⟩⟩
    · obtain ⟨u, hu, hzr⟩ := Paired.get' hR hz
      obtain ⟨av, rfl, hru⟩ := hzr.keep (TK.ex e4)
      obtain ⟨hul, huk⟩ := wordsOf_each u (List.mem_of_getElem? hu)
      obtain ⟨x, a, rfl⟩ : ∃ x a, u = x ++ [a] := by
        rcases List.eq_nil_or_concat u with z | ⟨x, a, z⟩
        · subst z; simp at hul
        · exact ⟨x, a, by rw [z, List.concat_eq_append]⟩
      rw [List.length_append, List.length_singleton] at hul
      refine ev_callV (ea_cons (ev_var rfl) (ea_cons ev_c (ea_cons (ev_var rfl) ea_nil))) fun H5 e5 Q q => ⟨v, M, 0, av, x, a, rfl, hM.keep (TK.ex ((e13.trans e4).trans e5)), ok, ok.n1, ex_t e5 hru, by omega, huk, ?_⟩
      rw [List.getD_eq_getElem?_getD, hu] at q
      have q' : ∀ H2, Ex H5 H2 → Q (nV (loOf M 0 (x ++ [a]))) H2 := q
      rw [loOf_snoc] at q'
      exact q'
def sp_wtabX (K : PySem.W.Frag) (mg : Str → Option Value) : Sp := fun vs H _ E => ∃ (v : V) (M : M1.Mach), vs = [v] ∧ MacAt K H v M.st M.an ∧ M.Ok ∧ M.LateIs none ∧ ∀ C H2, mg "Remembers" = some (.ref C) → Ex H H2 → E (.ref C) none H2
theorem hasx_window_table (T : Txt K mg) (h_window : Has P w K mg base "window" 7 ["machine"] (sp_window K)) (h_last_answer : Has P w K mg base "last_answer" 2 ["machine", "state", "word"] (sp_last K)) (h_words_of : Has P w K mg base "words_of" 1 ["machine", "length"] (sp_wordsof K)) {f : Addr} {fd : FuncData} (F : Fun K "window_table" "window_table" s_window_table f fd) (g : mg "window_table" = some (.ref f)) (B : Binds K fd ["machine"] []) : HasX P w K mg base "window_table" 8 ["machine"] (sp_wtabX K mg) := by
  obtain ⟨C_Remembers, e_Remembers⟩ := T.e_Remembers
  refine HasX.mk' g F.kp B (F.okX sc_window_table (fun vs H Q E h => ?_) (fun cdv A outer s H vs Q E hr h => ?_))
  · obtain ⟨v, M, rfl, _⟩ := h
    rfl
  · obtain ⟨v, M, rfl, hM, ok, hL, k⟩ := h
    refine ⟨_, (pss_cons (ps_set (i := 1) sc_window_table.nd rfl (.inl rfl) (pe_has h_window (hr.mono (by first | decide | exact Nat.le_refl _)) (by rfl) (pa_cons (pv 0) pa_nil)))
      (pss_cons (ps_if (pt_cmpR op_isN (pv 1) pe_non (nomark _))
      (pss_one (ps_raise rfl (takes_of rfl rfl rfl rfl) (pmk_own0 e_Remembers (by rfl))))
      pss_nil)
      (pss_one (ps_ret (pe_callTy (call_tupleK (K := K) rfl) (by rfl) T.b_tuple bt_tuple (pa_cons (pe_lc (own := [("word", 2)]) (g := gName 2) (tt := tYes) (by rfl) sc_window_table.nd (pi_listK (K := K) rfl (pe_has h_words_of (hr.mono (by first | decide | exact Nat.le_refl _)) (by rfl) (pa_cons (pv 0) (pa_cons (pv 1) pa_nil)))) (blkOk_by (N := N_window_table) (sc := defScope s_window_table) (by decide +kernel)) (fun _ _ _ _ _ => pg_name (i := 2) sc_window_table.nd rfl (Or.inl rfl)) (fun _ _ _ _ _ => pts_nil) (fun _ _ _ _ _ => (pe_has h_last_answer (hr.mono (by first | decide | exact Nat.le_refl _)) (by rfl) (pa_cons (pv 0) (pa_cons pe_int (pa_cons (pv 2) pa_nil)))))) pa_nil)))))), ?_⟩
    refine ⟨v, rfl, v, M, rfl, hM, ok, fun o H1 hL' _ e1 => ?_⟩
    have := hL'.only hL
    subst this
    dsimp only
    refine q_when (b := true) (et_isN (i := 1) (v := V.non) rfl) (fun _ H4 e4 => ?_) (fun z => by cases z)
    exact k _ _ e_Remembers.g (e1.trans e4)
end

end Kx
namespace Kx
open PySem PySem.Spec PyProof.Rows L2

open Evl LamX
/-! ### the law's own: the word of the error that a call raises -/
def refW : List (Str × Str) := [("BadLetters", "letters"), ("Forgets", "forgets"), ("Remembers", "remembers")]
def TRef (mg : Str → Option Value) : (XK → Hp → VK → Prop) → Hp → VK → Prop := fun tl H Q => tl (fun cls d H' => d = none ∧ ∃ x s C, (x, s) ∈ refW ∧ mg x = some (.ref C) ∧ cls = .ref C ∧ ∀ H2, Ex H' H2 → Q (.str s) H2) H fun _ H' => Q .non H'
theorem gives_refused {X : Cx} (T : Txt X.K X.mg) (U : ErrU X.K X.mg "ClerkError" (refW.map (·.1))) {g : Addr} {cdg : Value} {q : Str} : GivesTo X N_law_refused "_law_refused" (defScope s_law_refused) g cdg (defBody s_law_refused) "work" q (TRef X.mg) := by
  obtain ⟨⟨B, hB, hU⟩, hR⟩ := U
  intro f c' s H Q tl act hc h
  obtain ⟨C1, g1, _, _⟩ := hU "BadLetters" (by decide)
  obtain ⟨C2, g2, _, _⟩ := hU "Forgets" (by decide)
  obtain ⟨C3, g3, _, _⟩ := hU "Remembers" (by decide)
  refine ⟨_, pss_cons (ps_try_as (X := (cxOf C8.CX0 X.prog X.w X.K X.mg X.base N_law_refused "_law_refused" (defScope s_law_refused) g cdg X.A X.stack s H C8.E0).nox) (c := .ref B) (i := 1) (n := "e")
     (tb := fun W D σ H => ∃ Ech : XK, (∀ cls d σ' H', Ech cls d H' → W cls d σ' H') ∧ σ[0]? = some (some (.ref f)) ∧ H c' = some (CodeO c' q) ∧ tl Ech H fun _ H' => D.nx σ H')
     (ts := fun a cls d D σ H => d = none ∧ ∃ (x s : Str) (C : Addr) (σ' : L2.St), (x, s) ∈ refW ∧ X.mg x = some (.ref C) ∧ cls = .ref C ∧ σ = σ'.set 1 (some (.ref a)) ∧ ∀ H2, Ex H H2 → D.rt (.str s) H2)
     rfl rfl sc_law_refused.nd rfl rfl ⟨(by rfl), by decide, .inl hB⟩ LamX.takes0 (fun W pn xe tk _ => ?_) (fun a oe cls d pn hz hv => ?_)) (pss_one (ps_ret pe_non)), ?_⟩
  · refine ⟨fun pins s' σ H' D I h' => ?_⟩
    obtain ⟨Ech, hW, h1, h2, h3⟩ := h'
    exact (pss_one (ps_expr (act W pn xe Ech _ _ tk hW))).run pins s' σ H' D I ⟨h1, h2, h3⟩
  · refine ⟨fun pins s1 σ1 H1 D I h => ?_⟩
    obtain ⟨rfl, x, sw, C, σ', hm, gx, rfl, rfl, k⟩ := h
    have hlen : (σ'.set 1 (some (V.ref a))).length = 3 := I.len
    rw [List.length_set] at hlen
    have v1 : (σ'.set 1 (some (V.ref a)))[1]? = some (some (.ref a)) := List.getElem?_set_self (by omega)
    have mem : x ∈ refW.map (·.1) := List.mem_map.mpr ⟨_, hm, rfl⟩
    obtain ⟨C', gC, _, EC⟩ := hU x mem
    rw [gx] at gC
    cases gC
    have kit : ∀ y ∈ refW.map (·.1), ∀ D', X.mg y = some (.ref D') → PySem.W.kitOne X.K (.ref C) (.ref D') = some (decide (x = y)) := fun y hy D' gy => by
      obtain ⟨E1, E2, e1, e2, e3⟩ := hR x mem y hy
      rw [gx] at e1
      rw [gy] at e2
      cases e1
      cases e2
      exact e3
    have k1 := kit "BadLetters" (by decide) C1 g1
    have k2 := kit "Forgets" (by decide) C2 g2
    have k3 := kit "Remembers" (by decide) C3 g3
    refine PSs.run (X := (cxOf C8.CX0 X.prog X.w X.K X.mg X.base N_law_refused "_law_refused" (defScope s_law_refused) g cdg X.A X.stack s H C8.E0).nox.suite a ((a, oe) :: pn)) (pss_cons (ps_set (i := 2) sc_law_refused.nd rfl (.inl rfl) (pe_lst (pa_cons (pe_callB (call_isE (X := (cxOf C8.CX0 X.prog X.w X.K X.mg X.base N_law_refused "_law_refused" (defScope s_law_refused) g cdg X.A X.stack s H C8.E0).nox) (D := C) EC hz hv) (by rfl) T.b_isinstance bt_isinstance (pa_cons (pv 1) (pa_cons (pe_glob (v := .ref C1) (by rfl) g1 rfl) pa_nil)))
        (pa_cons (pe_callB (call_isE (X := (cxOf C8.CX0 X.prog X.w X.K X.mg X.base N_law_refused "_law_refused" (defScope s_law_refused) g cdg X.A X.stack s H C8.E0).nox) (D := C) EC hz hv) (by rfl) T.b_isinstance bt_isinstance (pa_cons (pv 1) (pa_cons (pe_glob (v := .ref C2) (by rfl) g2 rfl) pa_nil)))
        (pa_cons (pe_callB (call_isE (X := (cxOf C8.CX0 X.prog X.w X.K X.mg X.base N_law_refused "_law_refused" (defScope s_law_refused) g cdg X.A X.stack s H C8.E0).nox) (D := C) EC hz hv) (by rfl) T.b_isinstance bt_isinstance (pa_cons (pv 1) (pa_cons (pe_glob (v := .ref C3) (by rfl) g3 rfl) pa_nil))) pa_nil)))))
      (pss_one (ps_ret (pe_ifExp (pt_cmpR op_eq (pe_bm PySem.F.plainAttrs_list PySem.F.slot_list_count PySem.F.type_list_count (mt_countF (K := X.K) rfl) (pv 2) (pa_cons pe_bl pa_nil)) pe_int (nomark _))
        (pe_ix (ix_listK (K := X.K) rfl) (pe_lst (pa_cons pe_str (pa_cons pe_str (pa_cons pe_str pa_nil)))) (pe_bm PySem.F.plainAttrs_list PySem.F.slot_list_index PySem.F.type_list_index mt_index (pv 2) (pa_cons pe_bl pa_nil)) (fun _ _ => rfl)) pe_str)))) pins s1 _ H1 D I ?_
    refine ⟨.ref a, v1, .ref C1, .ref C1, _, rfl, fun u r => r, k1, ?_⟩
    refine ⟨.ref a, v1, .ref C2, .ref C2, _, rfl, fun u r => r, k2, ?_⟩
    refine ⟨.ref a, v1, .ref C3, .ref C3, _, rfl, fun u r => r, k3, by show 3 ≤ sizeLine; decide, fun p hp => ?_⟩
    have v2 : ((σ'.set 1 (some (V.ref a))).set 2 (some (V.ref p)))[2]? = some (some (.ref p)) := List.getElem?_set_self (by rw [List.length_set]; omega)
    have hL : ∀ H3, Ex (upd H1 p (.lst [V.bl (decide (x = "BadLetters")), V.bl (decide (x = "Forgets")), V.bl (decide (x = "Remembers"))])) H3 → SqL X.K H3 p [V.bl (decide (x = "BadLetters")), V.bl (decide (x = "Forgets")), V.bl (decide (x = "Remembers"))] := fun H3 e => sq_of (e _ _ upd_same)
    have e1 : Ex H1 (upd H1 p (.lst [V.bl (decide (x = "BadLetters")), V.bl (decide (x = "Forgets")), V.bl (decide (x = "Remembers"))])) := Ex.new hp
    generalize upd H1 p (.lst [V.bl (decide (x = "BadLetters")), V.bl (decide (x = "Forgets")), V.bl (decide (x = "Remembers"))]) = H2 at hL e1
    have fin : ∀ (bs : List V) (j : Nat), bs.all flatV = true → (bs.countP fun z => eqV z (.bl true)) = 1 → bs[j]? = some (.bl true) → (∀ (m : Nat) (z' : V), m < j → bs[m]? = some z' → eqV z' (.bl true) = false) → ([V.str "letters", V.str "forgets", V.str "remembers"])[j]? = some (V.str sw) → (∀ H3, Ex H2 H3 → SqL X.K H3 p bs) →
        tRet (tIf (tTest (tOp rEq (tBM X.K "list" (rCntF X.K) (tVar 2) (tCons (tC (.bl true)) tNil)) (tC (.int 1)))) (tOp (rIxL X.K) (tLst (tCons (tC (.str "letters")) (tCons (tC (.str "forgets")) (tCons (tC (.str "remembers")) tNil)))) (tBM X.K "list" (rIndex X.K) (tVar 2) (tCons (tC (.bl true)) tNil))) (tC (.str "other"))) D ((σ'.set 1 (some (V.ref a))).set 2 (some (V.ref p))) H2 := by
      intro bs j f1 f2 f3 f4 f5 hb
      refine s_ret (v := .str sw) (ev_if (b := true) (et_test (ev_is (ev_op (x := .int 1) (fun H3 e3 Q' q' => ⟨.ref p, v2, Or.inl ⟨rfl, _, hb H3 e3⟩, p, bs, .bl true, rfl, rfl, hb H3 e3, rfl, f1, by rw [f2]; exact q' H3 (Ex.refl _)⟩) ev_c (rv_eq rfl)) rfl)) (fun _ => ?_) (fun z => by cases z)) fun H3 e3 => k H3 (e1.trans e3)
      refine ev_opL1 (xs := [V.str "letters", V.str "forgets", V.str "remembers"]) (y := .int (j : Int)) (el_lst (ea_cons ev_c (ea_cons ev_c (ea_cons ev_c ea_nil))) (by show 3 ≤ 100000; decide)) (fun H3 e3 H4 e4 Q' q' => ?_) fun p' H3 h3 e3 => rv_ixL (sq_of h3) (atI_nat f5)
      exact ⟨.ref p, v2, Or.inl ⟨rfl, _, hb H4 (e3.trans e4)⟩, p, bs, .bl true, j, .bl true, rfl, rfl, hb H4 (e3.trans e4), rfl, f1, f3, rfl, f4, q' H4 (Ex.refl _)⟩
    have cases3 : (x = "BadLetters" ∧ sw = "letters") ∨ (x = "Forgets" ∧ sw = "forgets") ∨ (x = "Remembers" ∧ sw = "remembers") := by
      simpa [refW] using hm
    rcases cases3 with ⟨rfl, rfl⟩ | ⟨rfl, rfl⟩ | ⟨rfl, rfl⟩
    · exact fin _ 0 rfl (by decide) (by decide) (fun m z' hm => by omega) rfl hL
    · exact fin _ 1 rfl (by decide) (by decide) (fun m z' hm e => by
        have : m = 0 := by omega
        subst this
        cases e
        decide) rfl hL
    · exact fin _ 2 rfl (by decide) (by decide) (fun m z' hm e => by
        have : m = 0 ∨ m = 1 := by omega
        rcases this with rfl | rfl <;> (cases e; decide)) rfl hL
  · refine ⟨fun cls d H' => d = none ∧ ∃ x s C, (x, s) ∈ refW ∧ X.mg x = some (.ref C) ∧ cls = .ref C ∧ ∀ H2, Ex H' H2 → Q (.str s) H2, fun cls d σ' H' hE => ?_, rfl, hc, h⟩
    obtain ⟨rfl, x, s, C, hm, gx, rfl, k⟩ := hE
    obtain ⟨C', gC, he, _⟩ := hU x (List.mem_map.mpr ⟨_, hm, rfl⟩)
    rw [gx] at gC
    cases gC
    exact ⟨true, he, fun _ a _ => ⟨rfl, x, s, C, σ', hm, gx, rfl, rfl, k⟩, fun z => by cases z⟩
/-- the def as the rule for lambdas asks it -/
structure RefD (K : PySem.W.Frag) (mg : Str → Option Value) : Prop where
  ex : ∃ (g : Addr) (oc dV kV doc pm cdv ct : Value) (od an : Option Addr) (osl : Array (Option Value)), mg "_law_refused" = some (.ref g) ∧ PySem.W.keepIn K (.ref g) = true ∧ K.lookup g = some ⟨oc, od, .func (PySem.W.fnOf "_law_refused" "_law_refused" (defArgs s_law_refused) (defBody s_law_refused) (defScope s_law_refused) dV kV doc pm an cdv ct), osl⟩ ∧
    PySem.W.codeIn K cdv "_law_refused" = true ∧ L2.Binds K (PySem.W.fnOf "_law_refused" "_law_refused" (defArgs s_law_refused) (defBody s_law_refused) (defScope s_law_refused) dV kV doc pm an cdv ct) ["work"] []
theorem has_law_refused {P : Program} {w : World} {base : Heap} {K : PySem.W.Frag} {mg : Str → Option Value} (T : Txt K mg) {f : Addr} {fd : FuncData} (F : Fun K "_law_refused" "_law_refused" s_law_refused f fd) (g : mg "_law_refused" = some (.ref f)) (B : Binds K fd ["work"] []) : RefD K mg := by
  obtain ⟨⟨oc, od, kV, doc, pm, an, cdv, ct, osl, rfl, lk, hcd⟩, kp⟩ := F
  exact ⟨f, oc, _, kV, doc, pm, cdv, ct, od, an, osl, g, kp, lk, hcd, B⟩
theorem pe_refused {X : Cx} {c Pc : Addr} {q : Str} {k : Nat} {params : Arguments} {body : Expr} {scope : Scope} {t : XK → TE} {p lpos pos : Pos} (T : Txt X.K X.mg) (U : ErrU X.K X.mg "ClerkError" (refW.map (·.1))) (D : RefD X.K X.mg) (TB : TabB X.base X.mg c Pc) (hcode : X.env.code = .ref c) (hq : X.env.qual ++ "<lambda>" = q) (hr : Room (k + 2) X.A) (hg : Gl X "_law_refused")
    (L : LamS X.env.scope scope) (hdef : defaultsOf params X.env = ([], [])) (hbind : ∀ (q : Str) (cl : List (Str × Addr)) (pm cv ctv : Value), bindArgs (PySem.W.kla_fn "<lambda>" q params body scope cl pm cv ctv) ⟨[], []⟩ = pure [])
    (hbody : ∀ (A : Around) (outer : List Env) (s : Shared) (H : Hp) (E : XK) (f c' : Addr), Room k (A.deeper (lamEnv X scope s.heap.objs.size f c')) → PE (lamCx X A outer s H E scope f c') body (t E)) :
    PE X (.Call (.Name "_law_refused" p) [.Lambda params body scope lpos] [] pos) (tLam [(Pc, q)] (TRef X.mg) t) := by
  subst hq
  obtain ⟨g, oc, dV, kV, doc, pm, cdv, ct, od, an, osl, hm, hk, lk, hcg, hb⟩ := D.ex
  exact pe_lamcall (a := "work") hg hm hk lk hcg hb sc_law_refused rfl (.inl rfl) (gives_refused T U) TB hcode (List.mem_singleton.mpr rfl) (fun p hp _ => by rw [List.mem_singleton.mp hp]) hr L hdef hbind hbody

end Kx
namespace Kx
open PySem PySem.Spec PyProof.Rows L2

open Evl
section
variable {P : Program} {w : World} {K : PySem.W.Frag} {mg : Str → Option Value} {base : Heap}
/-! ### the law's draws -/
def sp_taken (K : PySem.W.Frag) : Sp := fun vs H Q _ => ∃ (a scr : Addr) (ns : List Int) (m : Nat), vs = [.ref a, .int (m : Int)] ∧ 1 ≤ m ∧ m ≤ 1000 ∧ RowOk K H a scr ns ∧ ∀ (r : Nat) H2, r < m → ExB a H H2 → RowOk K H2 a scr ns → Q (nV r) H2
theorem int_mod {x : Int} {m : Nat} (h : 1 ≤ m) : ∃ r : Nat, r < m ∧ x % (m : Int) = (r : Int) := by
  have h0 : (0 : Int) ≤ x % (m : Int) := Int.emod_nonneg x (by omega)
  have h1 : x % (m : Int) < (m : Int) := Int.emod_lt_of_pos x (by omega)
  exact ⟨(x % (m : Int)).toNat, by omega, by omega⟩
theorem ix4 (j : Nat) (h : j < 4) {v0 v1 v2 v3 : V} : ixN ([v0, v1, v2, v3] : List V).length (j : Int) = some j := ixN_nat h
theorem lt4 {j : Nat} {a b c d : V} (h : j < 4) : j < [a, b, c, d].length := h
theorem rv_modN {H : Hp} {i : Int} {m : Nat} (h : 1 ≤ m) : RV (rI (fun _ j => 0 < j) fun i j => .int (i % j)) (.int i) (.int (m : Int)) H (.int (i % (m : Int))) := rv_I (C := fun _ j => 0 < j) (by omega)
theorem ev_int {ta : TE} {σ : L2.St} {H : Hp} {i : Int} (ha : Ev ta σ H (.int i)) : Ev (tCB (fun xs H Q => (∃ i, xs = [.int i] ∧ Q (.int i) H) ∨ ∃ k, xs = [.bl k] ∧ Q (.int (if k then 1 else 0)) H) (tCons ta tNil)) σ H (.int i) := fun H1 e Q q =>
  ha H1 e _ fun H2 e2 => .inl ⟨i, rfl, q H2 e2⟩
theorem has_law_taken (T : Txt K mg) {f : Addr} {fd : FuncData} (F : Fun K "_law_taken" "_law_taken" s_law_taken f fd) (g : mg "_law_taken" = some (.ref f)) (B : Binds K fd ["row", "many"] []) : Has P w K mg base "_law_taken" 1 ["row", "many"] (sp_taken K) := by
  refine Has.mk' g F.kp B (F.ok sc_law_taken (fun vs H Q E h => ?_) (fun cdv A outer s H vs Q E hr h => ?_))
  · obtain ⟨a, scr, ns, m, rfl, _⟩ := h
    rfl
  · obtain ⟨a, scr, ns, m, rfl, h1, hm, ⟨⟨i, z, q, hA, i0, z0, z1⟩, hS, hl⟩, k⟩ := h
    refine ⟨_, (pss_cons (ps_if (pt_cmpR op_gt (pe_ix (ix_listK (K := K) rfl) (pv 0) pe_int (fun _ _ => rfl)) pe_int (nomark _))
      (pss_cons (ps_set (i := 2) sc_law_taken.nd rfl (.inl rfl) (pe_op op_mod (pe_callTy call_int1 (by rfl) T.b_int bt_int (pa_cons (pe_ix (ix_listK (K := K) rfl) (pv 0) pe_int (fun _ _ => rfl)) pa_nil)) (pv 1)))
      (pss_cons (ps_asg (pe_op op_fdiv (pe_ix (ix_listK (K := K) rfl) (pv 0) pe_int (fun _ _ => rfl)) (pv 1)) (pg_sub (pv 0) pe_int set_list))
      (pss_one (ps_ret (pv 2)))))
      pss_nil)
      (pss_cons (ps_asg (pe_op op_add (pe_ix (ix_listK (K := K) rfl) (pv 0) pe_int (fun _ _ => rfl)) pe_int) (pg_sub (pv 0) pe_int set_list))
      (pss_cons (ps_if (pt_cmpR op_gt (pe_ix (ix_listK (K := K) rfl) (pv 0) pe_int (fun _ _ => rfl)) (pe_callB (call_lenK (K := K) rfl) (by rfl) T.b_len bt_len (pa_cons (pe_ix (ix_listK (K := K) rfl) (pv 0) pe_int (fun _ _ => rfl)) pa_nil)) (nomark _))
      (pss_cons (ps_asg (pe_op op_mod (pe_callTy call_int1 (by rfl) T.b_int bt_int (pa_cons (pe_op op_add (pe_op op_mul (pe_ix (ix_listK (K := K) rfl) (pv 0) pe_int (fun _ _ => rfl)) pe_int) pe_int) pa_nil)) pe_int) (pg_sub (pv 0) pe_int set_list))
      (pss_one (ps_ret (pe_op op_mod (pe_callTy call_int1 (by rfl) T.b_int bt_int (pa_cons (pe_op op_fdiv (pe_ix (ix_listK (K := K) rfl) (pv 0) pe_int (fun _ _ => rfl)) pe_int) pa_nil)) (pv 1)))))
      pss_nil)
      (pss_cons (ps_set (i := 3) sc_law_taken.nd rfl (.inl rfl) (pe_ix (ix_listK (K := K) rfl) (pe_ix (ix_listK (K := K) rfl) (pv 0) pe_int (fun _ _ => rfl)) (pe_op op_sub (pe_ix (ix_listK (K := K) rfl) (pv 0) pe_int (fun _ _ => rfl)) pe_int) (fun _ _ => rfl)))
      (pss_cons (ps_asg (pe_op op_mod (pe_callTy call_int1 (by rfl) T.b_int bt_int (pa_cons (pe_op op_add (pe_op op_add (pe_op op_mul (pe_ix (ix_listK (K := K) rfl) (pv 0) pe_int (fun _ _ => rfl)) pe_int) (pv 3)) pe_int) pa_nil)) pe_int) (pg_sub (pv 0) pe_int set_list))
      (pss_cons (ps_if (pt_cmpR op_ge (pv 3) (pe_op op_pow pe_int pe_int) (nomark _))
      (pss_one (ps_asg (pe_op op_fdiv (pv 3) (pv 1)) (pg_sub (pv 0) pe_int set_list)))
      pss_nil)
      (pss_one (ps_ret (pe_op op_mod (pe_callTy call_int1 (by rfl) T.b_int bt_int (pa_cons (pv 3) pa_nil)) (pv 1)))))))))), ?_⟩
    have fin : ∀ (x : Int) (H2 : Hp) (i z q : Int), H2 a = some (.lst [.ref scr, .int i, .int z, .int q]) → 0 ≤ i → 0 ≤ z → z < 2147483647 → ExB a H H2 → Q (.int (x % (m : Int))) H2 := fun x H2 i z q hA i0 z0 z1 e => by
      obtain ⟨r, hr, er⟩ := int_mod (x := x) h1
      rw [er]
      exact k r H2 hr e ⟨⟨i, z, q, hA, i0, z0, z1⟩, fun H' x => hS H' (e.trans x), hl⟩
    refine q_when (b := decide ((0 : Int) < q)) (et_test (ev_op (ev_op (ev_var rfl) ev_c (rv_ixL (sq_of hA) (atI_nat (j := 3) rfl))) ev_c rv_I0)) (fun _ H1 e1 => ?_) (fun _ H1 e1 => ?_)
    · have hA1 := e1 _ _ hA
      refine q_asg (ev_op (ev_int (ev_op (ev_var rfl) ev_c (rv_ixL (sq_of hA1) (atI_nat (j := 3) rfl)))) (ev_var rfl) (rv_modN h1)) fun H2 e2 => ?_
      have hA2 := e2 _ _ hA1
      refine q_setL (j := 3) hA2 (ev_op (ev_op (ev_var rfl) ev_c (rv_ixL (sq_of hA2) (atI_nat (j := 3) rfl))) (ev_var rfl) (rv_I (C := CDiv) ⟨by omega, by omega⟩)) (ev_var rfl) ev_c (lt4 (by decide)) fun H3 e3 => ?_
      refine s_ret (ev_var rfl) fun H4 e4 => ?_
      exact fin q H4 i z _ (e4 _ _ upd_same) i0 z0 z1 ((((ExB.of (e1.trans e2)).trans (ExB.of e3)).trans ExB.upd).trans (ExB.of e4))
    · have hA1 := e1 _ _ hA
      refine q_setL (j := 1) hA1 (ev_op (ev_op (ev_var rfl) ev_c (rv_ixL (sq_of hA1) (atI_nat (j := 1) rfl))) ev_c rv_I0) (ev_var rfl) ev_c (lt4 (by decide)) fun H2 e2 => ?_
      have hA2 : (upd H2 a (.lst [.ref scr, .int (i + 1), .int z, .int q])) a = some (.lst [.ref scr, .int (i + 1), .int z, .int q]) := upd_same
      have x2 : ExB a H (upd H2 a (.lst [.ref scr, .int (i + 1), .int z, .int q])) := (ExB.of (e1.trans e2)).trans ExB.upd
      have hS2 := hS _ x2
      refine q_when (b := decide (((ns.map V.int).length : Int) < i + 1)) (et_test (ev_op (ev_op (ev_var rfl) ev_c (rv_ixL (sq_of hA2) (atI_nat (j := 1) rfl))) (ev_len (ev_op (ev_var rfl) ev_c (rv_ixL (sq_of hA2) (atI_nat (j := 0) rfl))) hS2) rv_I0)) (fun _ H3 e3 => ?_) (fun b H3 e3 => ?_)
      · have hA3 := e3 _ _ hA2
        refine q_setL (j := 2) hA3 (ev_op (ev_int (ev_op (ev_op (ev_op (ev_var rfl) ev_c (rv_ixL (sq_of hA3) (atI_nat (j := 2) rfl))) ev_c (rv_I (C := CMul) (.inl ⟨by omega, by omega⟩))) ev_c rv_I0)) ev_c (rv_I (C := fun _ j => (0 : Int) < j) (by decide))) (ev_var rfl) ev_c (lt4 (by decide)) fun H4 e4 => ?_
        have hA4 : (upd H4 a (.lst [.ref scr, .int (i + 1), .int ((z * 48271 + 11) % 2147483647), .int q])) a = some (.lst [.ref scr, .int (i + 1), .int ((z * 48271 + 11) % 2147483647), .int q]) := upd_same
        refine s_ret (ev_op (ev_int (ev_op (ev_op (ev_var rfl) ev_c (rv_ixL (sq_of hA4) (atI_nat (j := 2) rfl))) ev_c (rv_I (C := CDiv) ⟨by decide, by decide⟩))) (ev_var rfl) (rv_modN h1)) fun H5 e5 => ?_
        exact fin _ H5 _ _ _ (e5 _ _ hA4) (by omega) (Int.emod_nonneg _ (by decide)) (Int.emod_lt_of_pos _ (by decide)) (((x2.trans (ExB.of (e3.trans e4))).trans ExB.upd).trans (ExB.of e5))
      · have hA3 := e3 _ _ hA2
        have x3 := x2.trans (ExB.of e3)
        have hS3 := hS _ x3
        have hle : i + 1 ≤ (ns.length : Int) := by
          have := of_decide_eq_false b
          rw [List.length_map] at this
          omega
        obtain ⟨j, hj⟩ : ∃ j : Nat, i = (j : Int) := ⟨i.toNat, by omega⟩
        subst hj
        have hjl : j < ns.length := by omega
        have hget : (ns.map V.int)[j]? = some (.int ns[j]) := by rw [List.getElem?_map, List.getElem?_eq_getElem hjl]; rfl
        refine q_asg (ev_op (ev_op (ev_var rfl) ev_c (rv_ixL (sq_of hA3) (atI_nat (j := 0) rfl))) (ev_op (ev_op (ev_var rfl) ev_c (rv_ixL (sq_of hA3) (atI_nat (j := 1) rfl))) ev_c rv_I0) (rv_ixL hS3 (by rw [show (j : Int) + 1 - 1 = (j : Int) by omega]; exact atI_nat hget))) fun H4 e4 => ?_
        have hA4 := e4 _ _ hA3
        refine q_setL (j := 2) hA4 (ev_op (ev_int (ev_op (ev_op (ev_op (ev_op (ev_var rfl) ev_c (rv_ixL (sq_of hA4) (atI_nat (j := 2) rfl))) ev_c (rv_I (C := CMul) (.inl ⟨by omega, by omega⟩))) (ev_var rfl) rv_I0) ev_c rv_I0)) ev_c (rv_I (C := fun _ j => (0 : Int) < j) (by decide))) (ev_var rfl) ev_c (lt4 (by decide)) fun H5 e5 => ?_
        have hA5 : (upd H5 a (.lst [.ref scr, .int ((j : Int) + 1), .int ((z * 48271 + ns[j] + 11) % 2147483647), .int q])) a = some (.lst [.ref scr, .int ((j : Int) + 1), .int ((z * 48271 + ns[j] + 11) % 2147483647), .int q]) := upd_same
        have x5 := (x3.trans (ExB.of (e4.trans e5))).trans (ExB.upd (a := a) (o := .lst [.ref scr, .int ((j : Int) + 1), .int ((z * 48271 + ns[j] + 11) % 2147483647), .int q]))
        have zz : 0 ≤ (z * 48271 + ns[j] + 11) % 2147483647 ∧ (z * 48271 + ns[j] + 11) % 2147483647 < 2147483647 := ⟨Int.emod_nonneg _ (by decide), Int.emod_lt_of_pos _ (by decide)⟩
        refine q_when (b := decide ((10 : Int) ^ (18 : Int).toNat ≤ ns[j])) (et_test (ev_op (ev_var rfl) (ev_op ev_c ev_c (rv_I (C := CPow) ⟨by decide, by decide, by decide⟩)) rv_I0)) (fun _ H6 e6 => ?_) (fun _ H6 e6 => ?_)
        · refine s_setL (D := { nx := _, rt := _, bk := _, ct := _ }) (j := 3) (e6 _ _ hA5) (ev_op (ev_var rfl) (ev_var rfl) (rv_I (C := CDiv) ⟨by omega, by omega⟩)) (ev_var rfl) ev_c (lt4 (by decide)) fun H7 e7 => ?_
          refine s_ret (ev_op (ev_int (ev_var rfl)) (ev_var rfl) (rv_modN h1)) fun H8 e8 => ?_
          exact fin _ H8 _ _ _ (e8 _ _ upd_same) (by omega) zz.1 zz.2 (((x5.trans (ExB.of (e6.trans e7))).trans ExB.upd).trans (ExB.of e8))
        · refine s_ret (ev_op (ev_int (ev_var rfl)) (ev_var rfl) (rv_modN h1)) fun H8 e8 => ?_
          exact fin _ H8 _ _ _ (e8 _ _ (e6 _ _ hA5)) (by omega) zz.1 zz.2 (x5.trans (ExB.of (e6.trans e8)))
end

end Kx
namespace Kx
open PySem PySem.Spec PyProof.Rows L2

open Evl
section
variable {P : Program} {w : World} {K : PySem.W.Frag} {mg : Str → Option Value} {base : Heap}
def sp_lawmac (K : PySem.W.Frag) : Sp := fun vs H Q _ => ∃ (a scr : Addr) (ns : List Int) (s l : Nat), vs = [.ref a, .int (s : Int), .int (l : Int)] ∧ 1 ≤ s ∧ s ≤ 6 ∧ 1 ≤ l ∧ l ≤ 3 ∧ RowOk K H a scr ns ∧
  ∀ v (M : M1.Mach) H2, M.Ok → M.st.length ≤ s → M.k ≤ l → MacAt K H2 v M.st M.an → ExB a H H2 → RowOk K H2 a scr ns → Q v H2
/-- what stands while the machine is drawn -/
structure Dw (K : PySem.W.Frag) (H0 H : Hp) (a scr : Addr) (ns : List Int) (ps pt pb : Addr) (tab : List Nat) (ls lt : List V) (rows anss : List (List Nat)) : Prop where
  x : ExB a H0 H
  r : RowOk K H a scr ns
  hs : H ps = some (.lst ls)
  ht : H pt = some (.lst lt)
  hb : H pb = some (.lst (rowV tab))
  ps_ : Paired (RowAt K H) ls rows
  pt_ : Paired (RowAt K H) lt anss
theorem Dw.keep {K : PySem.W.Frag} {H0 H H' : Hp} {a scr : Addr} {ns : List Int} {ps pt pb : Addr} {tab : List Nat} {ls lt : List V} {rows anss : List (List Nat)} (D : Dw K H0 H a scr ns ps pt pb tab ls lt rows anss) (n1 : ps ≠ a) (n2 : pt ≠ a) (n3 : pb ≠ a) (e : ExB a H H') (R : RowOk K H' a scr ns) :
    Dw K H0 H' a scr ns ps pt pb tab ls lt rows anss := by
  obtain ⟨xs, hx⟩ := D.r.lst
  exact ⟨D.x.trans e, R, e _ _ n1 D.hs, e _ _ n2 D.ht, e _ _ n3 D.hb, paired_keep D.ps_ (e.tk hx), paired_keep D.pt_ (e.tk hx)⟩
theorem Dw.ex {K : PySem.W.Frag} {H0 H H' : Hp} {a scr : Addr} {ns : List Int} {ps pt pb : Addr} {tab : List Nat} {ls lt : List V} {rows anss : List (List Nat)} (D : Dw K H0 H a scr ns ps pt pb tab ls lt rows anss) (n1 : ps ≠ a) (n2 : pt ≠ a) (n3 : pb ≠ a) (e : Ex H H') : Dw K H0 H' a scr ns ps pt pb tab ls lt rows anss :=
  D.keep n1 n2 n3 (ExB.of e) (D.r.ex e)
/-- a fresh list is written -/
theorem Dw.put {K : PySem.W.Frag} {H0 H : Hp} {a scr p : Addr} {ns : List Int} {ps pt pb : Addr} {tab : List Nat} {ls lt xs ys : List V} {rows anss : List (List Nat)} (D : Dw K H0 H a scr ns ps pt pb tab ls lt rows anss) (R0 : RowOk K H0 a scr ns) (h0 : H0 p = none) (hp : H p = some (.lst xs)) (na : p ≠ a) (n1 : p ≠ ps) (n2 : p ≠ pt) (n3 : p ≠ pb) :
    Dw K H0 (upd H p (.lst ys)) a scr ns ps pt pb tab ls lt rows anss :=
  ⟨D.x.mut h0, R0.join D.r (D.x.mut h0) (upd_ne na.symm), by rw [upd_ne n1.symm]; exact D.hs, by rw [upd_ne n2.symm]; exact D.ht, by rw [upd_ne n3.symm]; exact D.hb, paired_keep D.ps_ (TK.lst hp), paired_keep D.pt_ (TK.lst hp)⟩
theorem draw_ok {σ : L2.St} {H : Hp} {a scr : Addr} {ns : List Int} {m : Nat} {te : TE} {i : Nat} (h1 : 1 ≤ m) (h2 : m ≤ 1000) (s0 : σ[i]? = some (some (.ref a))) (hmx : ∀ H1, ExB a H H1 → Ev te σ H1 (.int (m : Int))) :
    EvR K (tCall (sp_taken K) [] E0 (tCons (tVar i) (tCons te tNil))) σ H a scr ns m := fun H1 x1 R1 Q q => by
  refine ⟨.ref a, s0, hmx H1 x1 H1 (Ex.refl H1) _ fun H2 e2 => ⟨a, scr, ns, m, rfl, h1, h2, R1.ex e2, fun r H3 hr x3 R3 => q r H3 hr ((ExB.of e2).trans x3) R3⟩⟩
/-- name = [draw for x in range(n)] -/
theorem q_draws {ta : TA} {te : TE} {tz : TS} {D : Ends} {σ : L2.St} {H : Hp} {a scr : Addr} {ns : List Int} {i j n m : Nat} {vs : List Nat} (h : EvA ta σ H [.int (n : Int)]) (hn : n ≤ 1000) (R : RowOk K H a scr ns) (hw : ∀ x, wipe ((wipe σ vs).set j (some x)) vs = wipe σ vs)
    (he : ∀ i : Nat, i < 1000 → EvR K te ((wipe σ vs).set j (some (.int (i : Int)))) H a scr ns m)
    (q : ∀ p l H2, H p = none → p ≠ a → ExB a H H2 → RowOk K H2 a scr ns → H2 p = some (.lst (rowV l)) → l.length = n → (∀ x ∈ l, x < m) → tz D (σ.set i (some (.ref p))) H2) : tSeq (tAsg (tLc (iRng1 ta) (gName j) tYes te vs) (gName i)) tz D σ H :=
  er_lcR h hn R hw he (fun x H1 => gName i x σ H1 (tz D)) q
/-- tuple([draw for x in range(n)]), the only argument -/
theorem a_draws {ta : TA} {te : TE} {σ : L2.St} {H : Hp} {a scr : Addr} {ns : List Int} {j n m : Nat} {vs : List Nat} {Q : List V → Hp → Prop} (h : EvA ta σ H [.int (n : Int)]) (hn : n ≤ 1000) (R : RowOk K H a scr ns) (hw : ∀ x, wipe ((wipe σ vs).set j (some x)) vs = wipe σ vs)
    (he : ∀ i : Nat, i < 1000 → EvR K te ((wipe σ vs).set j (some (.int (i : Int)))) H a scr ns m)
    (q : ∀ p l H2, H p = none → p ≠ a → ExB a H H2 → RowOk K H2 a scr ns → H2 p = some (.tup (rowV l)) → l.length = n → (∀ x ∈ l, x < m) → Q [.ref p] H2) : tCons (tCB (rTupOf K) (tCons (tLc (iRng1 ta) (gName j) tYes te vs) tNil)) tNil σ H Q :=
  er_lcR h hn R hw he (fun x H1 => rTupOf K [x] H1 fun y H2 => Q [y] H2) fun p l H2 hp na x2 R2 h2 hl hm => ⟨p, _, rfl, Or.inl ⟨sq_of h2, fun p2 hp2 => by
    have np2 : p2 ≠ a := fun z => by
      subst z
      obtain ⟨xs, hx⟩ := R2.lst
      rw [hx] at hp2
      cases hp2
    exact q p2 l _ (x2.fresh np2 hp2) np2 (x2.trans (ExB.of (Ex.new hp2))) (R2.ex (Ex.new hp2)) upd_same hl hm⟩⟩
theorem has_law_machine (T : Txt K mg) (h_law_taken : Has P w K mg base "_law_taken" 1 ["row", "many"] (sp_taken K)) {f : Addr} {fd : FuncData} (F : Fun K "_law_machine" "_law_machine" s_law_machine f fd) (g : mg "_law_machine" = some (.ref f)) (B : Binds K fd ["row", "states", "letters"] []) :
    Has P w K mg base "_law_machine" 2 ["row", "states", "letters"] (sp_lawmac K) := by
  refine Has.mk' g F.kp B (F.ok sc_law_machine (fun vs H Q E h => ?_) (fun cdv A outer s H vs Q E hr h => ?_))
  · obtain ⟨a, scr, ns, s, l, rfl, _⟩ := h
    rfl
  · obtain ⟨a, scr, ns, s, l, rfl, s1, s6, l1, l3, R, k⟩ := h
    refine ⟨_, (pss_cons (ps_asg (pe_tup (pa_cons (pe_op op_add pe_int (pe_has h_law_taken (hr.mono (by first | decide | exact Nat.le_refl _)) (by rfl) (pa_cons (pv 0) (pa_cons (pv 1) pa_nil)))) (pa_cons (pe_op op_add pe_int (pe_has h_law_taken (hr.mono (by first | decide | exact Nat.le_refl _)) (by rfl) (pa_cons (pv 0) (pa_cons (pv 2) pa_nil)))) (pa_cons (pe_has h_law_taken (hr.mono (by first | decide | exact Nat.le_refl _)) (by rfl) (pa_cons (pv 0) (pa_cons pe_int pa_nil))) pa_nil)))) (pg_tupK (K := K) (n := 3) rfl (by rfl) (pgs_cons (pg_name (i := 3) sc_law_machine.nd rfl (.inr rfl)) (pgs_cons (pg_name (i := 4) sc_law_machine.nd rfl (.inl rfl)) (pgs_cons (pg_name (i := 5) sc_law_machine.nd rfl (.inl rfl)) pgs_nil)))))
      (pss_cons (ps_par (i := 6) (j := 7) (by rfl) sc_law_machine.nd rfl rfl (by decide) rfl rfl (pa_cons (pe_lst pa_nil) (pa_cons (pe_lst pa_nil) pa_nil)) (by rfl))
      (pss_cons (ps_setLc (i := 8) (own := [("letter", 11)]) (g := gName 11) (tt := tYes) (by rfl) sc_law_machine.nd rfl rfl (sw_true rfl rfl rfl (by decide +kernel)) (pi_range1 (by rfl) T.b_range (pa_cons (pv 4) pa_nil)) (blkOk_by (N := N_law_machine) (sc := defScope s_law_machine) (by decide +kernel)) (fun _ _ _ _ _ => pg_name (i := 11) sc_law_machine.nd rfl (Or.inl rfl)) (fun _ _ _ _ _ => pts_nil) (fun _ _ _ _ _ => (pe_has h_law_taken (hr.mono (by first | decide | exact Nat.le_refl _)) (by rfl) (pa_cons (pv 0) (pa_cons (pv 3) pa_nil)))))
      (pss_cons (ps_for PassesOwn.never rfl (pi_range1 (by rfl) T.b_range (pa_cons (pv 3) pa_nil)) (pg_name (i := 9) sc_law_machine.nd rfl (.inl rfl))
      (pss_cons (ps_set (i := 10) sc_law_machine.nd rfl (.inl rfl) (pe_lst pa_nil))
      (pss_cons (ps_for PassesOwn.never rfl (pi_range1 (by rfl) T.b_range (pa_cons (pv 4) pa_nil)) (pg_name (i := 11) sc_law_machine.nd rfl (.inl rfl))
      (pss_cons (ps_set (i := 12) sc_law_machine.nd rfl (.inl rfl) (pe_ifExp (pt_cmpR op_eq (pv 5) pe_int (nomark _)) (pe_has h_law_taken (hr.mono (by first | decide | exact Nat.le_refl _)) (by rfl) (pa_cons (pv 0) (pa_cons (pv 3) pa_nil))) (pe_callB (call_min2 rfl) (by rfl) T.b_min bt_min (pa_cons (pe_op op_sub (pv 3) pe_int) (pa_cons (pe_op op_add (pv 9) (pe_has h_law_taken (hr.mono (by first | decide | exact Nat.le_refl _)) (by rfl) (pa_cons (pv 0) (pa_cons pe_int pa_nil)))) pa_nil)))))
      (pss_one (ps_expr (pe_bm PySem.F.plainAttrs_list PySem.F.slot_list_append PySem.F.type_list_append mt_append (pv 10) (pa_cons (pe_ifExp (PW.pt (pw_and (pt_cmpR op_gt (pv 5) pe_int (nomark _)) (pw_and1 (pt_cmpR op_gt (pe_has h_law_taken (hr.mono (by first | decide | exact Nat.le_refl _)) (by rfl) (pa_cons (pv 0) (pa_cons pe_int pa_nil))) pe_int (nomark _))))) (pe_ix (ix_listK (K := K) rfl) (pv 8) (pv 11) (fun _ _ => rfl)) (pv 12)) pa_nil))))))
      (pss_cons (ps_expr (pe_bm PySem.F.plainAttrs_list PySem.F.slot_list_append PySem.F.type_list_append mt_append (pv 6) (pa_cons (pe_callTy (call_tupleK (K := K) rfl) (by rfl) T.b_tuple bt_tuple (pa_cons (pv 10) pa_nil)) pa_nil)))
      (pss_one (ps_expr (pe_bm PySem.F.plainAttrs_list PySem.F.slot_list_append PySem.F.type_list_append mt_append (pv 7) (pa_cons (pe_callTy (call_tupleK (K := K) rfl) (by rfl) T.b_tuple bt_tuple (pa_cons (pe_lc (own := [("letter", 11)]) (g := gName 11) (tt := tYes) (by rfl) sc_law_machine.nd (pi_range1 (by rfl) T.b_range (pa_cons (pv 4) pa_nil)) (blkOk_by (N := N_law_machine) (sc := defScope s_law_machine) (by decide +kernel)) (fun _ _ _ _ _ => pg_name (i := 11) sc_law_machine.nd rfl (Or.inl rfl)) (fun _ _ _ _ _ => pts_nil) (fun _ _ _ _ _ => (pe_has h_law_taken (hr.mono (by first | decide | exact Nat.le_refl _)) (by rfl) (pa_cons (pv 0) (pa_cons pe_int pa_nil))))) pa_nil)) pa_nil))))))))
      (pss_one (ps_ret (pe_tup (pa_cons (pe_callTy (call_tupleK (K := K) rfl) (by rfl) T.b_tuple bt_tuple (pa_cons (pv 6) pa_nil)) (pa_cons (pe_callTy (call_tupleK (K := K) rfl) (by rfl) T.b_tuple bt_tuple (pa_cons (pv 7) pa_nil)) pa_nil))))))))), ?_⟩
    -- many, some, kind = ..
    refine ⟨.ref a, rfl, .int (s : Int), rfl, a, scr, ns, s, rfl, s1, by omega, R, fun r1 H1 hr1 x1 R1 => ⟨1, (r1 : Int), rfl, rfl, .ref a, rfl, .int (l : Int), rfl, a, scr, ns, l, rfl, l1, by omega, R1, fun r2 H2 hr2 x2 R2 => ⟨1, (r2 : Int), rfl, rfl, .ref a, rfl, a, scr, ns, 3, rfl, by decide, by decide, R2, fun kd H3 hkd x3 R3 => ⟨by show 3 ≤ sizeLine; decide, fun Tp hTp => ⟨Tp, _, rfl, SqT.of upd_same, rfl, _, _, rfl, _, _, rfl, _, _, rfl, rfl, ?_⟩⟩⟩⟩⟩
    obtain ⟨n, hn⟩ : ∃ n : Nat, n = 1 + r1 := ⟨_, rfl⟩
    obtain ⟨m, hm⟩ : ∃ m : Nat, m = 1 + r2 := ⟨_, rfl⟩
    have en : (1 : Int) + (r1 : Int) = (n : Int) := by omega
    have em : (1 : Int) + (r2 : Int) = (m : Int) := by omega
    dsimp only
    rw [en, em]
    have x4 : ExB a H (upd H3 Tp (.tup [.int (n : Int), .int (m : Int), nV kd])) := ((x1.trans x2).trans x3).trans (ExB.of (Ex.new hTp))
    have R4 : RowOk K (upd H3 Tp (.tup [.int (n : Int), .int (m : Int), nV kd])) a scr ns := R3.ex (Ex.new hTp)
    refine ⟨Nat.zero_le _, fun ps hps => ⟨Nat.zero_le _, fun pt hpt => ⟨_, _, rfl, ?_⟩⟩⟩
    obtain ⟨xa, hxa⟩ := R4.lst
    have nsa : ps ≠ a := fun z => by subst z; rw [hxa] at hps; cases hps
    have hpt' := hpt
    have nts : pt ≠ ps := fun z => by subst z; rw [upd_same] at hpt; cases hpt
    rw [upd_ne nts] at hpt'
    have nta : pt ≠ a := fun z => by subst z; rw [hxa] at hpt'; cases hpt'
    have e5 : Ex (upd H3 Tp (.tup [.int (n : Int), .int (m : Int), nV kd])) (upd (upd (upd H3 Tp (.tup [.int (n : Int), .int (m : Int), nV kd])) ps (.lst [])) pt (.lst [])) := (Ex.new hps).trans (Ex.new hpt)
    have R5 := R4.ex e5
    have x5 := x4.trans (ExB.of e5)
    have nps : H ps = none := x4.fresh nsa hps
    have npt : H pt = none := x4.fresh nta hpt'
    refine q_draws (n := m) (m := n) (ea_cons (ev_var rfl) ea_nil) (by omega) R5 (fun _ => rfl) (fun i hi => draw_ok (by omega) (by omega) (by exact rfl) fun _ _ => by exact ev_var rfl) fun pb tab H6 hpb nba x6 R6 h6 tl tlt => ?_
    have npb : H pb = none := x5.fresh nba hpb
    have nbs : pb ≠ ps := fun z => by subst z; rw [upd_ne nts.symm, upd_same] at hpb; cases hpb
    have nbt : pb ≠ pt := fun z => by subst z; rw [upd_same] at hpb; cases hpb
    have hs6 : H6 ps = some (.lst []) := x6 _ _ nsa (by rw [upd_ne nts.symm, upd_same])
    have ht6 : H6 pt = some (.lst []) := x6 _ _ nta upd_same
    have D6 : Dw K H H6 a scr ns ps pt pb tab [] [] [] [] := ⟨x5.trans x6, R6, hs6, ht6, h6, .nil, .nil⟩
    refine q_forR1 (n := (n : Int)) (ea_cons (ev_var rfl) ea_nil) ⟨by omega, by omega⟩ (fun i σ' H' => ∃ l9 l10 l11 l12 ls lt rows anss, σ' = [some (.ref a), some (.int (s : Int)), some (.int (l : Int)), some (.int (n : Int)), some (.int (m : Int)), some (nV kd), some (.ref ps), some (.ref pt), some (.ref pb), l9, l10, l11, l12] ∧
      Dw K H H' a scr ns ps pt pb tab ls lt rows anss ∧ rows.length = i ∧ anss.length = i ∧ (∀ r ∈ rows, r.length = m ∧ ∀ x ∈ r, x < n) ∧ ∀ r ∈ anss, r.length = m ∧ ∀ x ∈ r, x ≤ 9)
      (fun H7 e7 => ⟨none, none, none, none, [], [], [], [], rfl, D6.ex nsa nta nba e7, rfl, rfl, fun _ h => by simp at h, fun _ h => by simp at h⟩) ?_ ?_
    · rintro i σ' H' hi ⟨l9, l10, l11, l12, ls, lt, rows, anss, rfl, D, lr, la, ar, aa⟩
      have hls : ls.length = i := by rw [Paired.length D.ps_, lr]
      have hlt : lt.length = i := by rw [Paired.length D.pt_, la]
      refine q_asgL (el_lst ea_nil (by decide)) fun pl H7 hpl e7 h7 => ?_
      have D7 := D.ex nsa nta nba e7
      obtain ⟨xa', hxa'⟩ := D.r.lst
      have nla : pl ≠ a := fun z => by subst z; rw [hxa'] at hpl; cases hpl
      have npl : H pl = none := D.x.fresh nla hpl
      have nls : pl ≠ ps := fun z => by subst z; rw [D.hs] at hpl; cases hpl
      have nlt : pl ≠ pt := fun z => by subst z; rw [D.ht] at hpl; cases hpl
      have nlb : pl ≠ pb := fun z => by subst z; rw [D.hb] at hpl; cases hpl
      refine q_forR1 (n := (m : Int)) (ea_cons (ev_var rfl) ea_nil) ⟨by omega, by omega⟩ (fun j σ' H' => ∃ l11 l12 ln, σ' = [some (.ref a), some (.int (s : Int)), some (.int (l : Int)), some (.int (n : Int)), some (.int (m : Int)), some (nV kd), some (.ref ps), some (.ref pt), some (.ref pb), some (.int (i : Int)), some (.ref pl), l11, l12] ∧
        Dw K H H' a scr ns ps pt pb tab ls lt rows anss ∧ H' pl = some (.lst (rowV ln)) ∧ ln.length = j ∧ ∀ x ∈ ln, x < n)
        (fun H8 e8 => ⟨l11, l12, [], rfl, D7.ex nsa nta nba e8, e8 _ _ h7, rfl, fun _ h => by simp at h⟩) ?_ ?_
      · rintro j σ' H8 hj ⟨m11, m12, ln, rfl, D8, h8, l8, a8⟩
        have hjm : j < m := by omega
        -- line.append(..): what is left once the value is known
        have app : ∀ (x : Nat) H9, x < n → Dw K H H9 a scr ns ps pt pb tab ls lt rows anss → H9 pl = some (.lst (rowV ln)) → ∀ y12, rAppend (.ref pl) [nV x] H9 fun _ H10 => ∃ l11 l12 ln, [some (.ref a), some (.int (s : Int)), some (.int (l : Int)), some (.int (n : Int)), some (.int (m : Int)), some (nV kd), some (.ref ps), some (.ref pt), some (.ref pb), some (.int (i : Int)), some (.ref pl), some (.int (j : Int)), y12] = [some (.ref a), some (.int (s : Int)), some (.int (l : Int)), some (.int (n : Int)), some (.int (m : Int)), some (nV kd), some (.ref ps), some (.ref pt), some (.ref pb), some (.int (i : Int)), some (.ref pl), l11, l12] ∧
            Dw K H H10 a scr ns ps pt pb tab ls lt rows anss ∧ H10 pl = some (.lst (rowV ln)) ∧ ln.length = j + 1 ∧ ∀ x ∈ ln, x < n := by
          intro x H9 hx D9 h9 y12
          refine ⟨pl, _, _, rfl, rfl, h9, by rw [rowV_len]; exact small1000 (by omega), _, y12, ln ++ [x], rfl, D9.put R npl h9 nla nls nlt nlb, by rw [rowV_snoc]; exact upd_same, by rw [List.length_append, List.length_singleton, l8], fun y hy => ?_⟩
          rcases List.mem_append.mp hy with hy | hy
          · exact a8 y hy
          · rw [List.mem_singleton] at hy
            subst hy
            exact hx
        -- there = ..
        have rest : ∀ (x : Nat) H9, x < n → Dw K H H9 a scr ns ps pt pb tab ls lt rows anss → H9 pl = some (.lst (rowV ln)) → (tDrop (tBM K "list" rAppend (tVar 10) (tCons (tIf (tAnd (tTest (tOp (rI0 fun i j => .bl (decide (j < i))) (tVar 5) (tC (.int 0)))) (tTest (tOp (rI0 fun i j => .bl (decide (j < i))) (tCall (sp_taken K) [] E0 (tCons (tVar 0) (tCons (tC (.int 3)) tNil))) (tC (.int 0))))) (tOp (rIxL K) (tVar 8) (tVar 11)) (tVar 12)) tNil)))
            { nx := (fun σ' H' => ∃ l11 l12 ln, σ' = [some (.ref a), some (.int (s : Int)), some (.int (l : Int)), some (.int (n : Int)), some (.int (m : Int)), some (nV kd), some (.ref ps), some (.ref pt), some (.ref pb), some (.int (i : Int)), some (.ref pl), l11, l12] ∧ Dw K H H' a scr ns ps pt pb tab ls lt rows anss ∧ H' pl = some (.lst (rowV ln)) ∧ ln.length = j + 1 ∧ ∀ x ∈ ln, x < n), rt := fun _ _ => True, bk := fun _ _ => True, ct := fun _ _ => True }
            [some (.ref a), some (.int (s : Int)), some (.int (l : Int)), some (.int (n : Int)), some (.int (m : Int)), some (nV kd), some (.ref ps), some (.ref pt), some (.ref pb), some (.int (i : Int)), some (.ref pl), some (.int (j : Int)), some (nV x)] H9 := by
          intro x H9 hx D9 h9
          refine ⟨.ref pl, rfl, Or.inl ⟨rfl, _, sq_of h9⟩, nV kd, rfl, (kd : Int), 0, rfl, rfl, _, rfl, ?_⟩
          by_cases c : (0 : Int) < (kd : Int)
          · rw [decide_eq_true c]
            refine iteT ⟨.ref a, rfl, a, scr, ns, 3, rfl, by decide, by decide, D9.r, fun r9 H10 hr9 x10 R10 => ⟨(r9 : Int), 0, rfl, rfl, _, rfl, ?_⟩⟩
            have D10 := D9.keep nsa nta nba x10 R10
            have h10 := x10 _ _ nla h9
            by_cases c2 : (0 : Int) < (r9 : Int)
            · rw [decide_eq_true c2]
              have gt : tab[j]? = some (tab.getD j 0) := M1.getD_at (by omega)
              refine iteT ⟨.ref pb, rfl, .int (j : Int), rfl, pb, _, _, nV (tab.getD j 0), rfl, rfl, sq_of D10.hb, atI_nat (rowV_at gt), ?_⟩
              exact app _ H10 (tlt _ (List.mem_of_getElem? gt)) D10 h10 _
            · rw [decide_eq_false c2]
              exact iteF ⟨nV x, rfl, app x H10 hx D10 h10 _⟩
          · rw [decide_eq_false c]
            exact iteF ⟨nV x, rfl, app x H9 hx D9 h9 _⟩
        refine ⟨nV kd, rfl, rfl, _, rfl, ?_⟩
        by_cases c : V.int (kd : Int) = V.int 0
        · rw [show decide (nV kd = V.int 0) = true from decide_eq_true c]
          exact iteT ⟨.ref a, rfl, .int (n : Int), rfl, a, scr, ns, n, rfl, by omega, by omega, D8.r, fun r9 H9 hr9 x9 R9 => rest r9 H9 hr9 (D8.keep nsa nta nba x9 R9) (x9 _ _ nla h8)⟩
        · rw [show decide (nV kd = V.int 0) = false from decide_eq_false c]
          refine iteF ⟨.int (n : Int), rfl, (n : Int), 1, rfl, rfl, .int (i : Int), rfl, .ref a, rfl, a, scr, ns, 2, rfl, by decide, by decide, D8.r, fun r9 H9 hr9 x9 R9 => ⟨(i : Int), (r9 : Int), rfl, rfl, (n : Int) - 1, (i : Int) + (r9 : Int), rfl, ?_⟩⟩
          obtain ⟨z, hz, ez⟩ : ∃ z : Nat, z < n ∧ (if (i : Int) + (r9 : Int) < (n : Int) - 1 then (i : Int) + (r9 : Int) else (n : Int) - 1) = (z : Int) := by
            by_cases c3 : (i : Int) + (r9 : Int) < (n : Int) - 1
            · rw [if_pos c3]
              exact ⟨i + r9, by omega, by omega⟩
            · rw [if_neg c3]
              exact ⟨n - 1, by omega, by omega⟩
          rw [ez]
          exact rest z H9 hz (D8.keep nsa nta nba x9 R9) (x9 _ _ nla h8)
      · rintro σ' H8 ⟨m11, m12, ln, rfl, D8, h8, l8, a8⟩
        have l8' : ln.length = m := by omega
        refine q_appU D8.hs (ev_var rfl) (eu_tupL (ev_var rfl) (sq_of h8)) (by omega) fun q H9 hq e9 h9 => ?_
        have D9 := D8.ex nsa nta nba e9
        have tk9 : TK K H9 (upd H9 ps (.lst (ls ++ [.ref q]))) := TK.lst D9.hs
        have D10 : Dw K H (upd H9 ps (.lst (ls ++ [.ref q]))) a scr ns ps pt pb tab (ls ++ [.ref q]) lt (rows ++ [ln]) anss :=
          ⟨D9.x.mut nps, R.join D9.r (D9.x.mut nps) (upd_ne nsa.symm), upd_same, by rw [upd_ne nts]; exact D9.ht, by rw [upd_ne nbs]; exact D9.hb, Paired.snoc (paired_keep D9.ps_ tk9) ⟨q, rfl, tk9 _ _ (SqT.of h9)⟩, paired_keep D9.pt_ tk9⟩
        -- told.append(tuple([..]))
        refine ⟨.ref pt, rfl, Or.inl ⟨rfl, _, sq_of D10.ht⟩, ?_⟩
        refine a_draws (n := m) (m := 2) (ea_cons (ev_var rfl) ea_nil) (by omega) D10.r (fun _ => rfl) (fun i hi => draw_ok (by decide) (by decide) (by exact rfl) fun _ _ => by exact ev_c) fun q2 an H11 hq2 nda x11 R11 h11 dl da => ?_
        have D12 := D10.keep nsa nta nba x11 R11
        refine ⟨pt, _, _, rfl, rfl, D12.ht, small1000 (by omega), ?_⟩
        have tk12 : TK K H11 (upd H11 pt (.lst (lt ++ [.ref q2]))) := TK.lst D12.ht
        refine ⟨_, _, _, _, ls ++ [.ref q], lt ++ [.ref q2], rows ++ [ln], anss ++ [an], rfl, ⟨D12.x.mut npt, R.join D12.r (D12.x.mut npt) (upd_ne nta.symm), by rw [upd_ne nts.symm]; exact D12.hs, upd_same, by rw [upd_ne nbt]; exact D12.hb, paired_keep D12.ps_ tk12, Paired.snoc (paired_keep D12.pt_ tk12) ⟨q2, rfl, tk12 _ _ (SqT.of h11)⟩⟩,
          by rw [List.length_append, List.length_singleton, lr], by rw [List.length_append, List.length_singleton, la], fun r hr => ?_, fun r hr => ?_⟩
        · rcases List.mem_append.mp hr with hr | hr
          · exact ar r hr
          · rw [List.mem_singleton] at hr
            subst hr
            exact ⟨l8', a8⟩
        · rcases List.mem_append.mp hr with hr | hr
          · exact aa r hr
          · rw [List.mem_singleton] at hr
            subst hr
            exact ⟨dl, fun x hx => by have := da x hx; omega⟩
    · rintro σ' H' ⟨l9, l10, l11, l12, ls, lt, rows, anss, rfl, D, lr, la, ar, aa⟩
      have lr' : rows.length = n := by omega
      have la' : anss.length = n := by omega
      refine eu_tupL (ev_var rfl) (sq_of D.hs) _ (Ex.refl _) _ fun q1 H7 hq1 e7 h7 => ?_
      refine eu_tupL (ev_var rfl) (sq_of (e7 _ _ D.ht)) _ (Ex.refl _) _ fun q2 H8 hq2 e8 h8 => ⟨by show 2 ≤ sizeLine; decide, fun q3 hq3 => ?_⟩
      have e9 : Ex H8 (upd H8 q3 (.tup [.ref q1, .ref q2])) := Ex.new hq3
      have e79 := (e7.trans e8).trans e9
      have D9 := D.ex nsa nta nba e79
      have hk0 : (⟨rows, anss⟩ : M1.Mach).k = m := by
        show (rows.getD 0 []).length = m
        have g0 : rows[0]? = some (rows.getD 0 []) := M1.getD_at (by omega)
        exact (ar _ (List.mem_of_getElem? g0)).1
      refine k _ ⟨rows, anss⟩ _ ⟨by show 1 ≤ rows.length; omega, by show rows.length ≤ 6; omega, by rw [hk0]; omega, by rw [hk0]; omega, by show anss.length = rows.length; omega, fun r hr => ?_, fun r hr => ?_⟩ (by show rows.length ≤ s; omega) (by rw [hk0]; omega)
        ⟨q3, .ref q1, .ref q2, rfl, SqT.of upd_same, ⟨q1, ls, rfl, SqT.of ((e8.trans e9) _ _ h7), D9.ps_⟩, ⟨q2, lt, rfl, SqT.of (e9 _ _ h8), D9.pt_⟩⟩ D9.x D9.r
      · rw [hk0]
        refine ⟨(ar r hr).1, fun x hx => ?_⟩
        have := (ar r hr).2 x hx
        show x < rows.length
        omega
      · rw [hk0]
        exact aa r hr
end

end Kx
namespace Kx
open PySem PySem.Spec PyProof.Rows L2

open Evl
section
variable {P : Program} {w : World} {K : PySem.W.Frag} {mg : Str → Option Value} {base : Heap}
/-! ### data in the heap, kept -/
mutual
theorem dp_ex {H H' : Hp} (e : Ex H H') : ∀ (d : PyData) (v : V), Dp K H v d → Dp K H' v d
  | .none, _, h => by cases h; exact .non
  | .bool b, _, h => by cases h; exact .bl b
  | .int i, _, h => by cases h; exact .int i
  | .str x, _, h => by cases h; exact .str x
  | .list ds, _, h => by
    cases h with
    | lst h1 h2 => exact .lst (ex_l e h1) (dps_ex e ds _ h2)
  | .tuple ds, _, h => by
    cases h with
    | tup h1 h2 => exact .tup (ex_t e h1) (dps_ex e ds _ h2)
  | .dict _, _, h => by cases h
theorem dps_ex {H H' : Hp} (e : Ex H H') : ∀ (ds : List PyData) (vs : List V), DpAll K H vs ds → DpAll K H' vs ds
  | [], _, h => by cases h; exact .nil
  | d :: ds, _, h => by
    cases h with
    | cons h1 h2 => exact .cons (dp_ex e d _ h1) (dps_ex e ds _ h2)
end
theorem dps_len {H : Hp} : ∀ {ds : List PyData} {vs : List V}, DpAll K H vs ds → vs.length = ds.length
  | [], _, h => by cases h; rfl
  | _ :: ds, _, h => by
    cases h with
    | cons _ h2 => rw [List.length_cons, List.length_cons, dps_len h2]
theorem dps_get {H : Hp} : ∀ {ds : List PyData} {vs : List V} {i : Nat}, DpAll K H vs ds → i < ds.length → ∃ v d, vs[i]? = some v ∧ ds[i]? = some d ∧ Dp K H v d
  | [], _, _, _, hi => by simp at hi
  | d :: ds, _, i, h, hi => by
    cases h with
    | cons h1 h2 =>
      cases i with
      | zero => exact ⟨_, _, rfl, rfl, h1⟩
      | succ i =>
        obtain ⟨v, d', a, b, c⟩ := dps_get (i := i) h2 (by simpa using hi)
        exact ⟨v, d', by simpa using a, by simpa using b, c⟩
/-- data of a bounded depth -/
def Fine : Nat → PyData → Prop
  | _, .none | _, .bool _ | _, .int _ | _, .str _ => True
  | _, .dict _ => False
  | 0, .list _ | 0, .tuple _ => False
  | d + 1, .list xs | d + 1, .tuple xs => xs.length ≤ 40000 ∧ ∀ x ∈ xs, Fine d x
def sp_la (K : PySem.W.Frag) (n : Nat) : Sp := fun vs H Q _ => ∃ (x y : V) (d : PyData), vs = [x, y] ∧ Dp K H x d ∧ Dp K H y d ∧ Fine n d ∧ ∀ H2, Ex H H2 → Q (.bl true) H2
theorem kit_tl {T : String} {b1 b2 : Bool} (h1 : kitB T "tuple" = some b1) (h2 : kitB T "list" = some b2) : PySem.W.kitAny K (.type T) [.type "tuple", .type "list"] = some (b1 || b2) :=
  kitAny_cons (kit_ty h1) (fun e => by subst e; exact kitAny_cons (kit_ty h2) (fun e => by subst e; exact kitAny_nil) fun e => by subst e; rfl) fun e => by subst e; rfl
theorem ev_tl {ta : TE} {σ : L2.St} {H : Hp} {x : V} {T : String} {b1 b2 : Bool} (ha : Ev ta σ H x) (hy : ∀ H1, Ex H H1 → TyX K H1 x (.type T)) (h1 : kitB T "tuple" = some b1) (h2 : kitB T "list" = some b2) :
    Ev (tCB (rIsiT K) (tCons ta (tCons (tTup (tCons (tC (.ty "tuple")) (tCons (tC (.ty "list")) tNil))) tNil))) σ H (.bl (b1 || b2)) := fun H1 e Q q =>
  ha H1 e _ fun H2 e2 => ⟨by show 2 ≤ sizeLine; decide, fun p hp => ⟨x, p, _, _, _, _, rfl, upd_same, .cons (.ty _) (.cons (.ty _) .nil), hy _ ((e.trans e2).trans (Ex.new hp)), kit_tl h1 h2, q _ (e2.trans (Ex.new hp))⟩⟩
theorem ev_lenS {ta : TE} {σ : L2.St} {H : Hp} {p : Addr} {xs : List V} (ha : Ev ta σ H (.ref p)) (h : SqL K H p xs ∨ SqT K H p xs) : Ev (tCB (rLenS K) (tCons ta tNil)) σ H (.int (xs.length : Int)) := by
  rcases h with h | h
  · exact ev_len ha h
  · exact ev_lenT ha h
theorem rv_ixA {H : Hp} {p : Addr} {xs : List V} {i : Int} {v : V} (h : SqL K H p xs ∨ SqT K H p xs) (ha : atI xs i = some v) : RV (rIx K) (.ref p) (.int i) H v := fun H1 e Q q => by
  rcases h with h | h
  · exact .inl (rv_ixL h ha H1 e Q q)
  · exact .inr (.inl (rv_ixT h ha H1 e Q q))
theorem given_none {n : Nat} {v : Nat → V} : given n (fun _ => false) v = rowV [] := by
  unfold given
  rw [List.filter_eq_nil_iff.mpr (fun _ _ => by decide)]
  rfl
theorem alike_all (T : Txt K mg) {f : Addr} {fd : FuncData} (F : Fun K "_law_alike" "_law_alike" s_law_alike f fd) (g : mg "_law_alike" = some (.ref f)) (B : Binds K fd ["found", "due"] []) : ∀ n, Has P w K mg base "_law_alike" (n + 1) ["found", "due"] (sp_la K n) := by
  -- the scalars
  have tyI : ∀ (H : Hp) (i : Int), TyX K H (.int i) (.type "int") := fun _ _ => .base (.int _)
  have tyB : ∀ (H : Hp) (b : Bool), TyX K H (.bl b) (.type "bool") := fun _ _ => .base (.bl _)
  have tyN : ∀ (H : Hp), TyX K H .non (.type "NoneType") := fun _ => .base .non
  have tyS : ∀ (H : Hp) (z : Str), TyX K H (.str z) (.type "str") := fun _ _ => .base (.str _)
  have tail : ∀ (x : V) (d : PyData) (H : Hp) (Q : VK) (X : TS), (d = .none ∨ (∃ b, d = .bool b) ∨ (∃ i, d = .int i) ∨ ∃ z, d = .str z) → Dp K H x d → (∀ H2, Ex H H2 → Q (.bl true) H2) →
      tSeq (tIfS (tB (tCB (rIsiT K) (tCons (tVar 1) (tCons (tTup (tCons (tC (.ty "tuple")) (tCons (tC (.ty "list")) tNil))) tNil)))) X tNext)
        (tSeq (tIfS (tOr (tTest (tOp (fun x y H Q => y = .non ∧ Q (.bl (decide (x = .non))) H) (tVar 1) (tC .non))) (tB (tCB (rIsi K) (tCons (tVar 1) (tCons (tC (.ty "str")) tNil))))) (tRet (tAndV (tOp rEq (tVar 0) (tVar 1)) (tOp rEq (tCB (rIsi K) (tCons (tVar 0) (tCons (tC (.ty "str")) tNil))) (tCB (rIsi K) (tCons (tVar 1) (tCons (tC (.ty "str")) tNil)))))) tNext)
          (tRet (tAndV (tCB (rIsi K) (tCons (tVar 0) (tCons (tC (.ty "int")) tNil))) (tAndV (tOp rEq (tCB (rIsi K) (tCons (tVar 0) (tCons (tC (.ty "bool")) tNil))) (tCB (rIsi K) (tCons (tVar 1) (tCons (tC (.ty "bool")) tNil)))) (tOp rEq (tVar 0) (tVar 1))))))
        { nx := fun _ H' => Q .non H', rt := Q } [some x, some x, none] H := by
    intro x d H Q X hd hx q
    have isn : ∀ H1, Ev (tOp (fun x y H Q => y = .non ∧ Q (.bl (decide (x = .non))) H) (tVar 1) (tC .non)) [some x, some x, none] H1 (.bl (decide (x = .non))) := fun H1 => ev_op (ev_var rfl) ev_c fun H2 _ Q q => ⟨rfl, q H2 (Ex.refl H2)⟩
    rcases hd with rfl | ⟨b, rfl⟩ | ⟨i, rfl⟩ | ⟨z, rfl⟩
    · cases hx
      refine q_when (b := false) (et_B (ev_tl (T := "NoneType") (b1 := false) (b2 := false) (ev_var rfl) (fun _ _ => tyN _) (by decide +kernel) (by decide +kernel))) (fun z => by cases z) fun _ H1 e1 => ?_
      refine q_when (b := true) (et_is (et_or (b := true) (et_test (isn H1)) fun h => by cases h) rfl) (fun _ H2 e2 => ?_) (fun z => by cases z)
      exact s_ret (ev_is (ev_andV (a := true) (ev_is (ev_op (ev_var rfl) (ev_var rfl) (rv_eq rfl)) rfl) fun _ => ev_op (ev_isi (T := "NoneType") (b := false) (ev_var rfl) (fun _ _ => tyN _) (by decide +kernel)) (ev_isi (T := "NoneType") (b := false) (ev_var rfl) (fun _ _ => tyN _) (by decide +kernel)) (rv_eq rfl)) rfl) fun H3 e3 => q H3 ((e1.trans e2).trans e3)
    · cases hx
      refine q_when (b := false) (et_B (ev_tl (T := "bool") (b1 := false) (b2 := false) (ev_var rfl) (fun _ _ => tyB _ _) (by decide +kernel) (by decide +kernel))) (fun z => by cases z) fun _ H1 e1 => ?_
      refine q_when (b := false) (et_or (a := false) (b := false) (et_test (isn H1)) fun _ => et_B (ev_isi (T := "bool") (ev_var rfl) (fun _ _ => tyB _ _) (by decide +kernel))) (fun z => by cases z) fun _ H2 e2 => ?_
      exact s_ret (ev_is (ev_andV (a := true) (ev_isi (T := "bool") (ev_var rfl) (fun _ _ => tyB _ _) (by decide +kernel)) fun _ => ev_andV (ev_op (ev_isi (T := "bool") (b := true) (ev_var rfl) (fun _ _ => tyB _ _) (by decide +kernel)) (ev_isi (T := "bool") (b := true) (ev_var rfl) (fun _ _ => tyB _ _) (by decide +kernel)) (rv_eq rfl)) fun _ => ev_op (ev_var rfl) (ev_var rfl) (rv_eq rfl)) (by cases b <;> rfl)) fun H3 e3 => q H3 ((e1.trans e2).trans e3)
    · cases hx
      refine q_when (b := false) (et_B (ev_tl (T := "int") (b1 := false) (b2 := false) (ev_var rfl) (fun _ _ => tyI _ _) (by decide +kernel) (by decide +kernel))) (fun z => by cases z) fun _ H1 e1 => ?_
      refine q_when (b := false) (et_or (a := false) (b := false) (et_test (isn H1)) fun _ => et_B (ev_isi (T := "int") (ev_var rfl) (fun _ _ => tyI _ _) (by decide +kernel))) (fun z => by cases z) fun _ H2 e2 => ?_
      exact s_ret (ev_is (ev_andV (a := true) (ev_isi (T := "int") (ev_var rfl) (fun _ _ => tyI _ _) (by decide +kernel)) fun _ => ev_andV (ev_op (ev_isi (T := "int") (b := false) (ev_var rfl) (fun _ _ => tyI _ _) (by decide +kernel)) (ev_isi (T := "int") (b := false) (ev_var rfl) (fun _ _ => tyI _ _) (by decide +kernel)) (rv_eq rfl)) fun _ => ev_op (ev_var rfl) (ev_var rfl) (rv_eq rfl)) (by rw [decide_eq_true (rfl : V.int i = V.int i)]; rfl)) fun H3 e3 => q H3 ((e1.trans e2).trans e3)
    · cases hx
      refine q_when (b := false) (et_B (ev_tl (T := "str") (b1 := false) (b2 := false) (ev_var rfl) (fun _ _ => tyS _ _) (by decide +kernel) (by decide +kernel))) (fun z => by cases z) fun _ H1 e1 => ?_
      refine q_when (b := true) (et_is (et_or (a := false) (b := true) (et_test (isn H1)) fun _ => et_B (ev_isi (T := "str") (ev_var rfl) (fun _ _ => tyS _ _) (by decide +kernel))) rfl) (fun _ H2 e2 => ?_) (fun z => by cases z)
      exact s_ret (ev_is (ev_andV (ev_op (ev_var rfl) (ev_var rfl) (rv_eq rfl)) fun _ => ev_op (ev_isi (T := "str") (b := true) (ev_var rfl) (fun _ _ => tyS _ _) (by decide +kernel)) (ev_isi (T := "str") (b := true) (ev_var rfl) (fun _ _ => tyS _ _) (by decide +kernel)) (rv_eq rfl)) (by rw [decide_eq_true (rfl : V.str z = V.str z)]; rfl)) fun H3 e3 => q H3 ((e1.trans e2).trans e3)
  have same : ∀ (x y : V) (d : PyData) (H : Hp), (d = .none ∨ (∃ b, d = .bool b) ∨ (∃ i, d = .int i) ∨ ∃ z, d = .str z) → Dp K H x d → Dp K H y d → y = x := by
    intro x y d H hd hx hy
    rcases hd with rfl | ⟨b, rfl⟩ | ⟨i, rfl⟩ | ⟨z, rfl⟩ <;> (cases hx; cases hy; rfl)
  intro n
  induction n with
  | zero =>
    refine Has.mk' g F.kp B (F.ok sc_law_alike (fun vs H Q E h => ?_) (fun cdv A outer s H vs Q E hr h => ?_))
    · obtain ⟨x, y, d, rfl, _⟩ := h
      rfl
    · obtain ⟨x, y, d, rfl, hx, hy, hf, q⟩ := h
      have hd : d = .none ∨ (∃ b, d = .bool b) ∨ (∃ i, d = .int i) ∨ ∃ z, d = .str z := by
        cases d with
        | none => exact .inl rfl
        | bool b => exact .inr (.inl ⟨b, rfl⟩)
        | int i => exact .inr (.inr (.inl ⟨i, rfl⟩))
        | str z => exact .inr (.inr (.inr ⟨z, rfl⟩))
        | list xs => simp [Fine] at hf
        | tuple xs => simp [Fine] at hf
        | dict xs => simp [Fine] at hf
      have exy := same x y d H hd hx hy
      subst exy
      refine ⟨_, (pss_cons (ps_if (pt_val (pe_callB (call_isiTu (K := K) rfl) (by rfl) T.b_isinstance bt_isinstance (pa_cons (pv 1) (pa_cons (pe_tup (pa_cons (pe_bltn (v := .ty "tuple") (by rfl) T.b_tuple bt_tuple rfl) (pa_cons (pe_bltn (v := .ty "list") (by rfl) T.b_list bt_list rfl) pa_nil))) pa_nil))))
      pss_never
      pss_nil)
      (pss_cons (ps_if (PW.pt (pw_or (pt_cmpR op_isN (pv 1) pe_non (nomark _)) (pw_or1 (pt_val (pe_callB (call_isi1 (K := K) rfl) (by rfl) T.b_isinstance bt_isinstance (pa_cons (pv 1) (pa_cons (pe_bltn (v := .ty "str") (by rfl) T.b_str bt_str rfl) pa_nil)))))))
      (pss_one (ps_ret (pe_and (pe_cmpR op_eq (pv 0) (pv 1) (nomark _)) (pe_one (pe_cmpR op_eq (pe_callB (call_isi1 (K := K) rfl) (by rfl) T.b_isinstance bt_isinstance (pa_cons (pv 0) (pa_cons (pe_bltn (v := .ty "str") (by rfl) T.b_str bt_str rfl) pa_nil))) (pe_callB (call_isi1 (K := K) rfl) (by rfl) T.b_isinstance bt_isinstance (pa_cons (pv 1) (pa_cons (pe_bltn (v := .ty "str") (by rfl) T.b_str bt_str rfl) pa_nil))) (nomark _))))))
      pss_nil)
      (pss_one (ps_ret (pe_and (pe_callB (call_isi1 (K := K) rfl) (by rfl) T.b_isinstance bt_isinstance (pa_cons (pv 0) (pa_cons (pe_bltn (v := .ty "int") (by rfl) T.b_int bt_int rfl) pa_nil))) (pe_and (pe_cmpR op_eq (pe_callB (call_isi1 (K := K) rfl) (by rfl) T.b_isinstance bt_isinstance (pa_cons (pv 0) (pa_cons (pe_bltn (v := .ty "bool") (by rfl) T.b_bool bt_bool rfl) pa_nil))) (pe_callB (call_isi1 (K := K) rfl) (by rfl) T.b_isinstance bt_isinstance (pa_cons (pv 1) (pa_cons (pe_bltn (v := .ty "bool") (by rfl) T.b_bool bt_bool rfl) pa_nil))) (nomark _)) (pe_one (pe_cmpR op_eq (pv 0) (pv 1) (nomark _))))))))), ?_⟩
      exact tail y d H Q _ hd hx q
  | succ n ih =>
    have h_law_alike := ih
    refine Has.mk' g F.kp B (F.ok sc_law_alike (fun vs H Q E h => ?_) (fun cdv A outer s H vs Q E hr h => ?_))
    · obtain ⟨x, y, d, rfl, _⟩ := h
      rfl
    · obtain ⟨x, y, d, rfl, hx, hy, hf, q⟩ := h
      refine ⟨_, (pss_cons (ps_if (pt_val (pe_callB (call_isiTu (K := K) rfl) (by rfl) T.b_isinstance bt_isinstance (pa_cons (pv 1) (pa_cons (pe_tup (pa_cons (pe_bltn (v := .ty "tuple") (by rfl) T.b_tuple bt_tuple rfl) (pa_cons (pe_bltn (v := .ty "list") (by rfl) T.b_list bt_list rfl) pa_nil))) pa_nil))))
      (pss_cons (ps_if (PW.pt (pw_or (pt_not (pt_val (pe_callB (call_isiTu (K := K) rfl) (by rfl) T.b_isinstance bt_isinstance (pa_cons (pv 0) (pa_cons (pe_tup (pa_cons (pe_bltn (v := .ty "tuple") (by rfl) T.b_tuple bt_tuple rfl) (pa_cons (pe_bltn (v := .ty "list") (by rfl) T.b_list bt_list rfl) pa_nil))) pa_nil))))) (pw_or1 (pt_cmpR op_ne (pe_callB (call_isi1 (K := K) rfl) (by rfl) T.b_isinstance bt_isinstance (pa_cons (pv 0) (pa_cons (pe_bltn (v := .ty "list") (by rfl) T.b_list bt_list rfl) pa_nil))) (pe_callB (call_isi1 (K := K) rfl) (by rfl) T.b_isinstance bt_isinstance (pa_cons (pv 1) (pa_cons (pe_bltn (v := .ty "list") (by rfl) T.b_list bt_list rfl) pa_nil))) (nomark _)))))
      (pss_one (ps_ret pe_bl))
      pss_nil)
      (pss_cons (ps_if (pt_cmpR op_ne (pe_callB (call_lenK (K := K) rfl) (by rfl) T.b_len bt_len (pa_cons (pv 0) pa_nil)) (pe_callB (call_lenK (K := K) rfl) (by rfl) T.b_len bt_len (pa_cons (pv 1) pa_nil)) (nomark _))
      (pss_one (ps_ret pe_bl))
      pss_nil)
      (pss_one (ps_ret (pe_cmpR (op_eqDK (K := K) rfl hr.units) (pe_lc (own := [("k", 2)]) (g := gName 2) (by rfl) sc_law_alike.nd (pi_range1 (by rfl) T.b_range (pa_cons (pe_callB (call_lenK (K := K) rfl) (by rfl) T.b_len bt_len (pa_cons (pv 1) pa_nil)) pa_nil)) (blkOk_by (N := N_law_alike) (sc := defScope s_law_alike) (by decide +kernel)) (fun _ _ _ _ _ => pg_name (i := 2) sc_law_alike.nd rfl (Or.inl rfl)) (fun _ _ _ _ _ => pts_one (pt_not (pt_val (pe_has h_law_alike (hr.mono (by first | decide | exact Nat.le_refl _)) (by rfl) (pa_cons (pe_ix (ix_seqK (K := K) rfl) (pv 0) (pv 2) (fun _ _ => rfl)) (pa_cons (pe_ix (ix_seqK (K := K) rfl) (pv 1) (pv 2) (fun _ _ => rfl)) pa_nil)))))) (fun _ _ _ _ _ => (pv 2))) (pe_lst pa_nil) (nomark _))))))
      pss_nil)
      (pss_cons (ps_if (PW.pt (pw_or (pt_cmpR op_isN (pv 1) pe_non (nomark _)) (pw_or1 (pt_val (pe_callB (call_isi1 (K := K) rfl) (by rfl) T.b_isinstance bt_isinstance (pa_cons (pv 1) (pa_cons (pe_bltn (v := .ty "str") (by rfl) T.b_str bt_str rfl) pa_nil)))))))
      (pss_one (ps_ret (pe_and (pe_cmpR op_eq (pv 0) (pv 1) (nomark _)) (pe_one (pe_cmpR op_eq (pe_callB (call_isi1 (K := K) rfl) (by rfl) T.b_isinstance bt_isinstance (pa_cons (pv 0) (pa_cons (pe_bltn (v := .ty "str") (by rfl) T.b_str bt_str rfl) pa_nil))) (pe_callB (call_isi1 (K := K) rfl) (by rfl) T.b_isinstance bt_isinstance (pa_cons (pv 1) (pa_cons (pe_bltn (v := .ty "str") (by rfl) T.b_str bt_str rfl) pa_nil))) (nomark _))))))
      pss_nil)
      (pss_one (ps_ret (pe_and (pe_callB (call_isi1 (K := K) rfl) (by rfl) T.b_isinstance bt_isinstance (pa_cons (pv 0) (pa_cons (pe_bltn (v := .ty "int") (by rfl) T.b_int bt_int rfl) pa_nil))) (pe_and (pe_cmpR op_eq (pe_callB (call_isi1 (K := K) rfl) (by rfl) T.b_isinstance bt_isinstance (pa_cons (pv 0) (pa_cons (pe_bltn (v := .ty "bool") (by rfl) T.b_bool bt_bool rfl) pa_nil))) (pe_callB (call_isi1 (K := K) rfl) (by rfl) T.b_isinstance bt_isinstance (pa_cons (pv 1) (pa_cons (pe_bltn (v := .ty "bool") (by rfl) T.b_bool bt_bool rfl) pa_nil))) (nomark _)) (pe_one (pe_cmpR op_eq (pv 0) (pv 1) (nomark _))))))))), ?_⟩
      have seq : ∀ (H : Hp) (D : Ends) (p r : Addr) (xs ys : List V) (ds : List PyData) (T : String), x = .ref p → y = .ref r → (SqL K H p xs ∨ SqT K H p xs) → (SqL K H r ys ∨ SqT K H r ys) → DpAll K H xs ds → DpAll K H ys ds → (∀ H1, Ex H H1 → TyX K H1 (.ref p) (.type T)) → (∀ H1, Ex H H1 → TyX K H1 (.ref r) (.type T)) → (T = "list" ∨ T = "tuple") → ds.length ≤ 40000 → (∀ d ∈ ds, Fine n d) → (∀ H2, Ex H H2 → D.rt (.bl true) H2) →
          tSeq (tIfS (tOr (tNot (tB (tCB (rIsiT K) (tCons (tVar 0) (tCons (tTup (tCons (tC (.ty "tuple")) (tCons (tC (.ty "list")) tNil))) tNil))))) (tTest (tOp rNe (tCB (rIsi K) (tCons (tVar 0) (tCons (tC (.ty "list")) tNil))) (tCB (rIsi K) (tCons (tVar 1) (tCons (tC (.ty "list")) tNil)))))) (tRet (tC (.bl false))) tNext)
            (tSeq (tIfS (tTest (tOp rNe (tCB (rLenS K) (tCons (tVar 0) tNil)) (tCB (rLenS K) (tCons (tVar 1) tNil)))) (tRet (tC (.bl false))) tNext)
              (tRet (tOp (rEqD K) (tLc (iRng1 (tCons (tCB (rLenS K) (tCons (tVar 1) tNil)) tNil)) (gName 2) (tNot (tB (tCall (sp_la K n) [] E0 (tCons (tOp (rIx K) (tVar 0) (tVar 2)) (tCons (tOp (rIx K) (tVar 1) (tVar 2)) tNil))))) (tVar 2) [2]) (tLst tNil))))
            D [some x, some y, none] H := by
        intro H D p r xs ys ds T ex ey hp hr' dx dy tp tr hT hl hF q
        subst ex ey
        have lx := dps_len dx
        have ly := dps_len dy
        have tl : ∃ b1 b2 : Bool, kitB T "tuple" = some b1 ∧ kitB T "list" = some b2 ∧ (b1 || b2) = true := by
          rcases hT with rfl | rfl
          · exact ⟨false, true, by decide +kernel, by decide +kernel, rfl⟩
          · exact ⟨true, false, by decide +kernel, by decide +kernel, rfl⟩
        obtain ⟨b1, b2, k1, k2, kk⟩ := tl
        have keep : ∀ {a : Addr} {zs : List V} {H1 : Hp}, Ex H H1 → (SqL K H a zs ∨ SqT K H a zs) → (SqL K H1 a zs ∨ SqT K H1 a zs) := fun e h => by
          rcases h with h | h
          · exact .inl (ex_l e h)
          · exact .inr (ex_t e h)
        refine q_when (b := false) (et_is (et_or (a := false) (b := false) (et_is (et_not (et_B (ev_tl (ev_var rfl) tp k1 k2))) (by rw [kk]; rfl)) fun _ => et_test (ev_is (ev_op (ev_isi (ev_var rfl) tp k2) (ev_isi (ev_var rfl) tr k2) (rv_ne rfl)) (by cases b2 <;> rfl))) rfl) (fun z => by cases z) fun _ H1 e1 => ?_
        refine q_when (b := false) (et_test (ev_is (ev_op (ev_lenS (ev_var rfl) (keep e1 hp)) (ev_lenS (ev_var rfl) (keep e1 hr')) (rv_ne rfl)) (by rw [lx, ly, decide_eq_true (rfl : V.int (ds.length : Int) = V.int (ds.length : Int))]; rfl))) (fun z => by cases z) fun _ H2 e2 => ?_
        have e12 := e1.trans e2
        refine s_ret (ev_is (ev_opLL (xs := rowV []) (ys := rowV []) (fun H3 e3 Q q => ?_) (el_lst ea_nil (by decide)) fun p q H3 hp hq e3 => rv_eqRows (sq_of hp) (sq_of hq)) rfl) fun H3 e3 => q H3 (e12.trans e3)
        have big := el_lcR1 (σ := [some (V.ref p), some (V.ref r), none]) (H := H2) (ta := tCons (tCB (rLenS K) (tCons (tVar 1) tNil)) tNil) (t := tNot (tB (tCall (sp_la K n) [] E0 (tCons (tOp (rIx K) (tVar 0) (tVar 2)) (tCons (tOp (rIx K) (tVar 1) (tVar 2)) tNil))))) (te := tVar 2) (j := 2) (vs := [2]) (n := (ys.length : Int)) (fun _ => false) (fun _ => .non) (ea_cons (ev_lenS (ev_var rfl) (keep e12 hr')) ea_nil) ⟨by omega, by omega⟩ (fun _ => rfl)
          (fun i H4 e4 hi => ?_) (fun _ _ _ _ h => by cases h)
        · rw [given_none] at big
          exact big H3 e3 Q q
        · have hi' : i < ds.length := by omega
          obtain ⟨v1, d1, g1, gd1, hd1⟩ := dps_get dx hi'
          obtain ⟨v2, d2, g2, gd2, hd2⟩ := dps_get dy hi'
          have ed : d2 = d1 := by rw [gd1] at gd2; exact (Option.some.inj gd2).symm
          subst ed
          have e5 := e12.trans e4
          exact et_is (et_not (a := true) (et_B (ev_callV (ea_cons (ev_op (ev_var rfl) (ev_var rfl) (rv_ixA (keep e5 hp) (atI_nat g1))) (ea_cons (ev_op (ev_var rfl) (ev_var rfl) (rv_ixA (keep e5 hr') (atI_nat g2))) ea_nil)) fun H6 e6 Q q => ⟨v1, v2, d2, rfl, dp_ex (e5.trans e6) _ _ hd1, dp_ex (e5.trans e6) _ _ hd2, hF _ (List.mem_of_getElem? gd1), q⟩))) rfl
      cases d with
      | list ds =>
        cases hx with
        | lst hx1 hx2 =>
          cases hy with
          | lst hy1 hy2 =>
            exact q_when (b := true) (et_B (ev_tl (T := "list") (b1 := false) (b2 := true) (ev_var rfl) (fun _ e => sqL_ty (ex_l e hy1)) (by decide +kernel) (by decide +kernel))) (fun _ H1 e1 => seq H1 _ _ _ _ _ ds "list" rfl rfl (.inl (ex_l e1 hx1)) (.inl (ex_l e1 hy1)) (dps_ex e1 _ _ hx2) (dps_ex e1 _ _ hy2)
              (fun H2 e2 => sqL_ty (ex_l (e1.trans e2) hx1)) (fun H2 e2 => sqL_ty (ex_l (e1.trans e2) hy1)) (.inl rfl) hf.1 hf.2 fun H2 e2 => q H2 (e1.trans e2)) (fun z => by cases z)
      | tuple ds =>
        cases hx with
        | tup hx1 hx2 =>
          cases hy with
          | tup hy1 hy2 =>
            exact q_when (b := true) (et_B (ev_tl (T := "tuple") (b1 := true) (b2 := false) (ev_var rfl) (fun _ e => sqT_ty (ex_t e hy1)) (by decide +kernel) (by decide +kernel))) (fun _ H1 e1 => seq H1 _ _ _ _ _ ds "tuple" rfl rfl (.inr (ex_t e1 hx1)) (.inr (ex_t e1 hy1)) (dps_ex e1 _ _ hx2) (dps_ex e1 _ _ hy2)
              (fun H2 e2 => sqT_ty (ex_t (e1.trans e2) hx1)) (fun H2 e2 => sqT_ty (ex_t (e1.trans e2) hy1)) (.inr rfl) hf.1 hf.2 fun H2 e2 => q H2 (e1.trans e2)) (fun z => by cases z)
      | none =>
        have e := same x y _ H (.inl rfl) hx hy
        subst e
        exact tail _ _ H Q _ (.inl rfl) hx q
      | bool b =>
        have e := same x y _ H (.inr (.inl ⟨b, rfl⟩)) hx hy
        subst e
        exact tail _ _ H Q _ (.inr (.inl ⟨b, rfl⟩)) hx q
      | int i =>
        have e := same x y _ H (.inr (.inr (.inl ⟨i, rfl⟩))) hx hy
        subst e
        exact tail _ _ H Q _ (.inr (.inr (.inl ⟨i, rfl⟩))) hx q
      | str z =>
        have e := same x y _ H (.inr (.inr (.inr ⟨z, rfl⟩))) hx hy
        subst e
        exact tail _ _ H Q _ (.inr (.inr (.inr ⟨z, rfl⟩))) hx q
      | dict ds => simp [Fine] at hf
end

end Kx
namespace Kx
open PySem PySem.Spec PyProof.Rows L2

open Evl
section
variable {P : Program} {w : World} {K : PySem.W.Frag} {mg : Str → Option Value} {base : Heap}
theorem has_law_alike (T : Txt K mg) {f : Addr} {fd : FuncData} (F : Fun K "_law_alike" "_law_alike" s_law_alike f fd) (g : mg "_law_alike" = some (.ref f)) (B : Binds K fd ["found", "due"] []) : Has P w K mg base "_law_alike" 4 ["found", "due"] (sp_la K 3) := alike_all T F g B 3
/-! ### data -/
def rowP (r : List Nat) : PyData := .tuple (rowD r)
def macP (M : M1.Mach) : PyData := .tuple [.tuple (M.st.map rowP), .tuple (M.an.map rowP)]
theorem dp_tab {H : Hp} : ∀ {vx : List V} {t : List (List Nat)}, Paired (RowAt K H) vx t → DpAll K H vx (t.map rowP)
  | _, _, .nil => .nil
  | _, _, .cons ⟨a, e, hS⟩ t => .cons (by rw [e]; exact .tup hS (dp_row _)) (dp_tab t)
theorem dp_mac {H : Hp} {v : V} {M : M1.Mach} (h : MacAt K H v M.st M.an) : Dp K H v (macP M) := by
  obtain ⟨a, x, y, rfl, hS, ⟨ax, vx, rfl, hSx, hPx⟩, ⟨ay, vy, rfl, hSy, hPy⟩⟩ := h
  exact .tup hS (.cons (.tup hSx (dp_tab hPx)) (.cons (.tup hSy (dp_tab hPy)) .nil))
theorem fine_int (n : Nat) (i : Int) : Fine n (.int i) := by cases n <;> trivial
theorem fine_row {n : Nat} {r : List Nat} (h : r.length ≤ 40000) : Fine (n + 1) (rowP r) := by
  refine ⟨by unfold rowD; rw [List.length_map]; exact h, fun x hx => ?_⟩
  obtain ⟨i, _, rfl⟩ := List.mem_map.mp hx
  exact fine_int n _
theorem fine_tab {n : Nat} {t : List (List Nat)} (h : t.length ≤ 40000) (hr : ∀ r ∈ t, r.length ≤ 40000) : Fine (n + 2) (.tuple (t.map rowP)) := by
  refine ⟨by rw [List.length_map]; exact h, fun x hx => ?_⟩
  obtain ⟨r, hm, rfl⟩ := List.mem_map.mp hx
  exact fine_row (hr r hm)
theorem fine_mac {M : M1.Mach} (h1 : M.st.length ≤ 40000) (h2 : M.an.length ≤ 40000) (h3 : ∀ r ∈ M.st, r.length ≤ 40000) (h4 : ∀ r ∈ M.an, r.length ≤ 40000) : Fine 3 (macP M) := by
  refine ⟨by show 2 ≤ 40000; decide, fun x hx => ?_⟩
  rcases List.mem_cons.mp hx with e | hx
  · subst e
    exact fine_tab (n := 0) h1 h3
  · rcases List.mem_cons.mp hx with e | hx
    · subst e
      exact fine_tab (n := 0) h2 h4
    · simp at hx
/-! ### lists that a comprehension gives -/
theorem given_map {o : List Nat} {f : Nat → Bool} : given o.length f (fun i => nV (o.getD i 0)) = rowV (((List.range o.length).filter f).map fun i => o.getD i 0) := by
  unfold given rowV
  rw [List.map_map]
  rfl
theorem none_iff {o : List Nat} {p : Nat → Bool} : (((List.range o.length).filter fun i => p (o.getD i 0)).map fun i => o.getD i 0) = [] ↔ o.any p = false := by
  rw [List.map_eq_nil_iff, List.filter_eq_nil_iff]
  constructor
  · intro h
    rw [List.any_eq_false]
    intro x hx
    obtain ⟨i, hi, e⟩ := List.getElem_of_mem hx
    have q := h i (List.mem_range.mpr hi)
    rw [M1.getD_of (List.getElem?_eq_getElem hi), e] at q
    exact q
  · intro h i hi
    have hi' := List.mem_range.mp hi
    rw [List.any_eq_false] at h
    rw [M1.getD_of (List.getElem?_eq_getElem hi')]
    exact h _ (List.getElem_mem hi')
theorem first_of {o : List Nat} {p : Nat → Bool} (h : ∃ x ∈ o, p x = true) : ((List.range o.length).filter fun i => p (o.getD i 0))[0]? = some (o.findIdx p) := by
  have hl := List.findIdx_lt_length_of_exists h
  rw [← List.head?_eq_getElem?, List.head?_filter, List.find?_range_eq_some]
  refine ⟨?_, List.mem_range.mpr hl, fun j hj => ?_⟩
  · rw [M1.getD_of (List.getElem?_eq_getElem hl)]
    exact List.findIdx_getElem (w := hl)
  · have hj' : j < o.length := by omega
    rw [M1.getD_of (List.getElem?_eq_getElem hj')]
    have := List.not_of_lt_findIdx hj
    simpa using this
theorem a_drawsX {ta : TA} {te : TE} {σ : L2.St} {H : Hp} {a scr : Addr} {ns : List Int} {j m : Nat} {vs : List Nat} {Q : List V → Hp → Prop} (Pn : Nat → Prop) (h : ∀ R : List V → Hp → Prop, (∀ n H1, n ≤ 1000 → Pn n → ExB a H H1 → RowOk K H1 a scr ns → R [.int (n : Int)] H1) → ta σ H R) (hw : ∀ x, wipe ((wipe σ vs).set j (some x)) vs = wipe σ vs)
    (he : ∀ i : Nat, i < 1000 → EvR K te ((wipe σ vs).set j (some (.int (i : Int)))) H a scr ns m)
    (q : ∀ p l H2, H p = none → p ≠ a → ExB a H H2 → RowOk K H2 a scr ns → H2 p = some (.tup (rowV l)) → Pn l.length → (∀ x ∈ l, x < m) → Q [.ref p] H2) : tCons (tCB (rTupOf K) (tCons (tLc (iRng1 ta) (gName j) tYes te vs) tNil)) tNil σ H Q :=
  er_lcX Pn h hw he (fun x H1 => rTupOf K [x] H1 fun y H2 => Q [y] H2) fun p l H2 hp na x2 R2 h2 _ hl hm => ⟨p, _, rfl, Or.inl ⟨sq_of h2, fun p2 hp2 => by
    have np2 : p2 ≠ a := fun z => by
      subst z
      obtain ⟨xs, hx⟩ := R2.lst
      rw [hx] at hp2
      cases hp2
    exact q p2 l _ (x2.fresh np2 hp2) np2 (x2.trans (ExB.of (Ex.new hp2))) (R2.ex (Ex.new hp2)) upd_same hl hm⟩⟩
theorem tldV_row (M : M1.Mach) (i : Nat) (r : List Nat) : tldV M i r = rowV ((List.range r.length).map (M.tld i r)) := by
  unfold tldV gvn rowV
  rw [List.map_map]
  rfl
theorem ev_alike {σ : L2.St} {H : Hp} {E : XK} {ta tb : TE} {x y : V} {d : PyData} (ha : Ev ta σ H x) (hb : Ev tb σ H y) (h : ∀ H1, Ex H H1 → Dp K H1 x d ∧ Dp K H1 y d) (hf : Fine 3 d) : Ev (tCall (sp_la K 3) [] E (tCons ta (tCons tb tNil))) σ H (.bl true) :=
  ev_callV (ea_cons ha (ea_cons hb ea_nil)) fun H1 e Q q => ⟨x, y, d, rfl, (h H1 e).1, (h H1 e).2, hf, q⟩
def oD (o : Option Nat) : PyData := match o with | some n => .int (n : Int) | none => .none
theorem dp_o {H : Hp} (o : Option Nat) : Dp K H (oV o) (oD o) := by
  cases o with
  | none => exact .non
  | some n => exact .int _
theorem fine_o {k : Nat} (o : Option Nat) : Fine k (oD o) := by
  cases o with
  | none => cases k <;> trivial
  | some n => cases k <;> trivial
theorem fine_b {k : Nat} (b : Bool) : Fine k (.bool b) := by cases k <;> trivial
theorem q_drawsT {ta : TA} {te : TE} {tz : TS} {D : Ends} {σ : L2.St} {H : Hp} {a scr : Addr} {ns : List Int} {i j m : Nat} {vs : List Nat} (Pn : Nat → Prop) (h : ∀ R : List V → Hp → Prop, (∀ n H1, n ≤ 1000 → Pn n → ExB a H H1 → RowOk K H1 a scr ns → R [.int (n : Int)] H1) → ta σ H R) (hw : ∀ x, wipe ((wipe σ vs).set j (some x)) vs = wipe σ vs)
    (he : ∀ i : Nat, i < 1000 → EvR K te ((wipe σ vs).set j (some (.int (i : Int)))) H a scr ns m)
    (q : ∀ p l H2, H p = none → p ≠ a → ExB a H H2 → RowOk K H2 a scr ns → H2 p = some (.tup (rowV l)) → Pn l.length → (∀ x ∈ l, x < m) → tz D (σ.set i (some (.ref p))) H2) : tSeq (tAsg (tCB (rTupOf K) (tCons (tLc (iRng1 ta) (gName j) tYes te vs) tNil)) (gName i)) tz D σ H :=
  er_lcX Pn h hw he (fun x H1 => rTupOf K [x] H1 fun y H2 => gName i y σ H2 (tz D)) fun p l H2 hp na x2 R2 h2 _ hl hm => ⟨p, _, rfl, Or.inl ⟨sq_of h2, fun p2 hp2 => by
    have np2 : p2 ≠ a := fun z => by
      subst z
      obtain ⟨xs, hx⟩ := R2.lst
      rw [hx] at hp2
      cases hp2
    exact q p2 l _ (x2.fresh np2 hp2) np2 (x2.trans (ExB.of (Ex.new hp2))) (R2.ex (Ex.new hp2)) upd_same hl hm⟩⟩
end

end Kx
namespace Kx
open PySem PySem.Spec PyProof.Rows L2

open Evl
section
variable {P : Program} {w : World} {K : PySem.W.Frag} {mg : Str → Option Value} {base : Heap}
theorem ev_late {σ : L2.St} {H : Hp} {E : XK} {ta : TE} {v : V} {M : M1.Mach} {o : Option Nat} (ha : Ev ta σ H v) (hM : MacAt K H v M.st M.an) (ok : M.Ok) (hL : M.LateIs o) : Ev (tCall (sp_late K) [] E (tCons ta tNil)) σ H (oV o) :=
  ev_callV (ea_cons ha ea_nil) fun H1 e Q q => ⟨v, M, rfl, hM.keep (TK.ex e), ok, fun o' H2 h _ e2 => by
    have := h.only hL
    subst this
    exact q H2 e2⟩
theorem ev_llate {σ : L2.St} {H : Hp} {E : XK} {ta : TE} {v : V} {M : M1.Mach} {o : Option Nat} (ha : Ev ta σ H v) (hM : MacAt K H v M.st M.an) (ok : M.Ok) (hL : M.LateIs o) : Ev (tCall (sp_llate K) [] E (tCons ta tNil)) σ H (oV o) :=
  ev_callV (ea_cons ha ea_nil) fun H1 e Q q => ⟨v, M, rfl, hM.keep (TK.ex e), ok, fun o' H2 h _ e2 => by
    have := h.only hL
    subst this
    exact q H2 e2⟩
theorem iteNe {x : V} {A B : Prop} (h : B) : if (!decide (x = x)) = true then A else B := by
  rw [decide_eq_true rfl]
  exact h
theorem iteFF {A B : Prop} (h : B) : if false = true then A else B := by
  rw [if_neg Bool.false_ne_true]
  exact h
end

end Kx
namespace Kx
open PySem PySem.Spec PyProof.Rows L2

open Evl LamX
section
variable {P : Program} {w : World} {K : PySem.W.Frag} {mg : Str → Option Value} {base : Heap}
/-! ### what stands through the law -/
def qL : Str := "law.<locals>.<lambda>"
theorem TK.extN {K : PySem.W.Frag} {H H' : Hp} (e : ExtN H H') : TK K H H' := fun a xs h => by
  rcases h with (h | ⟨o, h⟩) | h
  · exact .inl (.inl (e _ _ h fun ps z => by cases z))
  · exact .inl (.inr ⟨o, e _ _ h fun ps z => by cases z⟩)
  · exact .inr h
theorem RowOk.extN {K : PySem.W.Frag} {H H1 : Hp} {a scr : Addr} {ns : List Int} (R : RowOk K H a scr ns) (e : ExtN H H1) : RowOk K H1 a scr ns := by
  obtain ⟨⟨i, z, q, h, h1, h2, h3⟩, hs, hl⟩ := R
  refine ⟨⟨i, z, q, e _ _ h fun ps z => (by cases z), h1, h2, h3⟩, fun H' x => ?_, hl⟩
  have := hs (fun b => if b = a then H' a else H b) fun b o hb ho => by
    show (if b = a then H' a else H b) = some o
    rw [if_neg hb]
    exact ho
  by_cases hsa : scr = a
  · subst hsa
    rcases this with (h | ⟨o, h⟩) | h
    · exact .inl (.inl (by simpa using h))
    · exact .inl (.inr ⟨o, by simpa using h⟩)
    · exact .inr h
  · rcases this with (h | ⟨o, h⟩) | h
    · have h' : H scr = some (.lst (ns.map V.int)) := by simpa [hsa] using h
      exact .inl (.inl (x _ _ hsa (e _ _ h' fun ps z => by cases z)))
    · have h' : H scr = some (.frz o (.lst (ns.map V.int))) := by simpa [hsa] using h
      exact .inl (.inr ⟨o, x _ _ hsa (e _ _ h' fun ps z => by cases z)⟩)
    · exact .inr h
theorem tabs_exb {Pc row : Addr} {q : Str} {H H' : Hp} {xs : List V} (t : Tabs [(Pc, q)] H) (hr : H row = some (.lst xs)) (e : ExB row H H') : Tabs [(Pc, q)] H' := fun p hp => by
  obtain ⟨ps, h1, h2, h3⟩ := t p hp
  refine ⟨ps, e _ _ (fun z => by rw [z, hr] at h1; cases h1) h1, h2, fun pos cv hc => ?_⟩
  obtain ⟨c, e1, e2⟩ := h3 pos cv hc
  exact ⟨c, e1, e _ _ (fun z => by rw [z, hr] at e2; unfold CodeO at e2; cases e2) e2⟩
structure LwOk (K : PySem.W.Frag) (H : Hp) (row scr : Addr) (ns : List Int) (Pc : Addr) (v : V) (M : M1.Mach) : Prop where
  r : RowOk K H row scr ns
  t : Tabs [(Pc, qL)] H
  m : MacAt K H v M.st M.an
theorem LwOk.ex {H H' : Hp} {row scr Pc : Addr} {ns : List Int} {v : V} {M : M1.Mach} (h : LwOk K H row scr ns Pc v M) (e : Ex H H') : LwOk K H' row scr ns Pc v M := ⟨h.r.ex e, h.t.ext e, h.m.keep (TK.ex e)⟩
theorem LwOk.exb {H H' : Hp} {row scr Pc : Addr} {ns : List Int} {v : V} {M : M1.Mach} (h : LwOk K H row scr ns Pc v M) (e : ExB row H H') (R : RowOk K H' row scr ns) : LwOk K H' row scr ns Pc v M := by
  obtain ⟨xs, hx⟩ := h.r.lst
  exact ⟨R, tabs_exb h.t hx e, h.m.keep (e.tk hx)⟩
theorem LwOk.extN {H H' : Hp} {row scr Pc : Addr} {ns : List Int} {v : V} {M : M1.Mach} (h : LwOk K H row scr ns Pc v M) (e : ExtN H H') (T : Tabs [(Pc, qL)] H') : LwOk K H' row scr ns Pc v M := ⟨RowOk.extN h.r e, T, h.m.keep (TK.extN e)⟩
theorem LwOk.tk {H H' : Hp} {row scr Pc : Addr} {ns : List Int} {v : V} {M : M1.Mach} (h : LwOk K H row scr ns Pc v M) (e : ExB row H H') : TK K H H' := by
  obtain ⟨xs, hx⟩ := h.r.lst
  exact e.tk hx
/-- the value of late_word -/
def VP (K : PySem.W.Frag) (H : Hp) (M : M1.Mach) (vv : V) : Prop := (vv = .non ∧ (M.LateIs none ∨ M.LateIs (some 0))) ∨ ∃ n u s wd, M.LateIs (some n) ∧ 1 ≤ n ∧ LWord K H M vv n u s wd
theorem lword_one {v : V} {M : M1.Mach} {H : Hp} {Q : VK} {E : XK} (hM : MacAt K H v M.st M.an) (ok : M.Ok) (k : ∀ vv H2, Ex H H2 → VP K H2 M vv → Q vv H2) : sp_lword K [v] H Q E :=
  ⟨v, M, rfl, hM, ok, fun H2 h e => k _ _ e (.inl ⟨rfl, h⟩), fun n r u s wd H2 h1 h2 e L => k _ _ e (.inr ⟨n, u, s, wd, h1, h2, L⟩)⟩
theorem jv_row {H : Hp} {a : Addr} {r : List Nat} (h : SqT K H a (rowV r)) : JvAt K H (.ref a) (rowJ r) := by
  refine .tup h ?_
  clear h
  induction r with
  | nil => exact .nil
  | cons n r ih => exact .cons (.num _) ih
theorem jv_three {H : Hp} {t a1 a2 : Addr} {u wd : List Nat} {s : Nat} (h : SqT K H t [.ref a1, nV s, .ref a2]) (h1 : SqT K H a1 (rowV u)) (h2 : SqT K H a2 (rowV wd)) : JvAt K H (.ref t) (.tup [rowJ u, .num (s : Int), rowJ wd]) :=
  .tup h (.cons (jv_row h1) (.cons (.num _) (.cons (jv_row h2) .nil)))
theorem jv_four {H : Hp} {t a1 a2 a3 : Addr} {u wd ls : List Nat} {s : Nat} (h : SqT K H t [.ref a1, nV s, .ref a2, .ref a3]) (h1 : SqT K H a1 (rowV u)) (h2 : SqT K H a2 (rowV wd)) (h3 : SqT K H a3 (rowV ls)) : JvAt K H (.ref t) (.tup [rowJ u, .num (s : Int), rowJ wd, rowJ ls]) :=
  .tup h (.cons (jv_row h1) (.cons (.num _) (.cons (jv_row h2) (.cons (jv_row h3) .nil))))
theorem fits_row {r : List Nat} (h : r.length ≤ 40000) : (rowJ r).fits := by
  show (r.map _).length ≤ 40000
  rw [List.length_map]
  exact h
theorem fits_three {u wd : List Nat} {s : Int} (h1 : u.length ≤ 40000) (h2 : wd.length ≤ 40000) : (Jv.tup [rowJ u, .num s, rowJ wd]).fits2 := fun y hy => by
  rcases List.mem_cons.mp hy with rfl | hy
  · exact fits_row h1
  · rcases List.mem_cons.mp hy with rfl | hy
    · trivial
    · rcases List.mem_cons.mp hy with rfl | hy
      · exact fits_row h2
      · simp at hy
open Classical in
theorem ev_isl {σ : L2.St} {H : Hp} {E : XK} {ta tb : TE} {v : V} {M : M1.Mach} {t a1 a2 : Addr} {u wd : List Nat} {s : Nat} (ha : Ev ta σ H v) (hb : Ev tb σ H (.ref t)) (hM : MacAt K H v M.st M.an) (ok : M.Ok) (ht : SqT K H t [.ref a1, nV s, .ref a2]) (h1 : SqT K H a1 (rowV u)) (h2 : SqT K H a2 (rowV wd)) (hu : M.Letters u) (hs : s < M.st.length) (hw : M.Letters wd) (hl : wd.length ≤ 4000) :
    Ev (tCall (sp_isl K) [] E (tCons ta (tCons tb tNil))) σ H (.bl (decide (M.Unl (M.led 0 u) s wd))) :=
  ev_callV (ea_cons ha (ea_cons hb ea_nil)) fun H1 e Q q => ⟨v, M, t, a1, a2, u, s, wd, rfl, hM.keep (TK.ex e), ok, ex_t e ht, ex_t e h1, ex_t e h2, hu, hs, hw, hl, fun b H2 hb e2 => by
    have : b = decide (M.Unl (M.led 0 u) s wd) := by
      cases b with
      | true => exact (decide_eq_true (hb.mp rfl)).symm
      | false => exact (decide_eq_false fun z => by have := hb.mpr z; cases this).symm
    rw [this]
    exact q H2 e2⟩
open Classical in
theorem ev_slw {σ : L2.St} {H : Hp} {E : XK} {ta tb : TE} {v z : V} {x : Jv} {M : M1.Mach} (ha : Ev ta σ H v) (hb : Ev tb σ H z) (hM : MacAt K H v M.st M.an) (ok : M.Ok) (hx : JvAt K H z x) (hf : x.fits2) : Ev (tCall (sp_slw K) [] E (tCons ta (tCons tb tNil))) σ H (.bl (decide (Shows M x))) :=
  ev_callV (ea_cons ha (ea_cons hb ea_nil)) fun H1 e Q q => ⟨v, M, z, x, rfl, hM.keep (TK.ex e), ok, hx.ex e, hf, fun b H2 hb e2 => by
    have : b = decide (Shows M x) := by
      cases b with
      | true => exact (decide_eq_true (hb.mp rfl)).symm
      | false => exact (decide_eq_false fun z => by have := hb.mpr z; cases this).symm
    rw [this]
    exact q H2 e2⟩
open Classical in
theorem ev_snf {σ : L2.St} {H : Hp} {E : XK} {ta tb : TE} {v z : V} {x : Jv} {M : M1.Mach} (ha : Ev ta σ H v) (hb : Ev tb σ H z) (hM : MacAt K H v M.st M.an) (ok : M.Ok) (hx : JvAt K H z x) : Ev (tCall (sp_snf K) [] E (tCons ta (tCons tb tNil))) σ H (.bl (decide (ShowsN M x))) :=
  ev_callV (ea_cons ha (ea_cons hb ea_nil)) fun H1 e Q q => ⟨v, M, z, x, rfl, hM.keep (TK.ex e), ok, hx.ex e, fun b H2 hb e2 => by
    have : b = decide (ShowsN M x) := by
      cases b with
      | true => exact (decide_eq_true (hb.mp rfl)).symm
      | false => exact (decide_eq_false fun z => by have := hb.mpr z; cases this).symm
    rw [this]
    exact q H2 e2⟩
theorem ev_window {σ : L2.St} {H : Hp} {E : XK} {ta : TE} {v : V} {M : M1.Mach} {o : Option Nat} (ha : Ev ta σ H v) (hM : MacAt K H v M.st M.an) (ok : M.Ok) (hL : M.LateIs o) : Ev (tCall (sp_window K) [] E (tCons ta tNil)) σ H (oV (o.map (· + 1))) :=
  ev_callV (ea_cons ha ea_nil) fun H1 e Q q => ⟨v, M, rfl, hM.keep (TK.ex e), ok, fun o' H2 h _ e2 => by
    have := h.only hL
    subst this
    exact q H2 e2⟩
theorem ev_led {σ : L2.St} {H : Hp} {E : XK} {ta tb tc : TE} {v : V} {M : M1.Mach} {i : Nat} {b : Addr} {r : List Nat} (ha : Ev ta σ H v) (hb : Ev tb σ H (.int (i : Int))) (hc : Ev tc σ H (.ref b)) (hM : MacAt K H v M.st M.an) (ok : M.Ok) (hi : i < M.st.length) (h1 : SqT K H b (rowV r)) (hr : M.Letters r) : Ev (tCall (sp_led K) [] E (tCons ta (tCons tb (tCons tc tNil)))) σ H (nV (M.led i r)) :=
  ev_callV (ea_cons ha (ea_cons hb (ea_cons hc ea_nil))) fun H1 e Q q => ⟨v, M, i, b, r, rfl, hM.keep (TK.ex e), ok, hi, ex_t e h1, hr, q⟩
/-- told(machine, i, word)[-1] -/
theorem ev_toldL {σ : L2.St} {H : Hp} {E : XK} {ta tb tc : TE} {v : V} {M : M1.Mach} {i a : Nat} {b : Addr} {u : List Nat} (ha : Ev ta σ H v) (hb : Ev tb σ H (.int (i : Int))) (hc : Ev tc σ H (.ref b)) (hM : MacAt K H v M.st M.an) (ok : M.Ok) (hi : i < M.st.length) (h1 : SqT K H b (rowV (u ++ [a]))) (hr : M.Letters (u ++ [a])) (hl : u.length < 4000) :
    Ev (tOp (rIxT K) (tCall (sp_told K) [] E (tCons ta (tCons tb (tCons tc tNil)))) (tUn (rU fun i => .int (-i)) (tC (.int 1)))) σ H (nV (M.out (M.led i u) a)) := fun H1 e Q q =>
  ha H1 e _ fun H2 e2 => hb H2 (e.trans e2) _ fun H3 e3 => hc H3 ((e.trans e2).trans e3) _ fun H4 e4 => ⟨v, M, i, b, u ++ [a], rfl, hM.keep (TK.ex (((e.trans e2).trans e3).trans e4)), ok, hi, ex_t (((e.trans e2).trans e3).trans e4) h1, by rw [List.length_append]; exact hl, hr, fun p H5 hp e5 h5 =>
    ⟨1, rfl, p, _, -1, _, rfl, rfl, SqT.of h5, by rw [tldV_last]; exact atI_last _ _, q H5 (((e2.trans e3).trans e4).trans e5)⟩⟩
theorem rv_neT {H : Hp} {p q : Addr} {r s : List Nat} (hp : SqT K H p (rowV r)) (hq : SqT K H q (rowV s)) : Evl.RV (rNeD K) (.ref p) (.ref q) H (.bl (!decide (r = s))) := fun H1 e Q k =>
  ⟨.tuple (rowD r), .tuple (rowD s), .tup (ex_t e hp) (dp_row r), .tup (ex_t e hq) (dp_row s), by
    unfold SeqAt.shaped
    simp only [PyData.canLay0, PyData.depth, canLay_row, depth_row]
    decide, by
    unfold SeqAt.shaped
    simp only [PyData.canLay0, PyData.depth, canLay_row, depth_row]
    decide, by
    rw [show PyData.eqv (.tuple (rowD r)) (.tuple (rowD s)) = decide (r = s) by rw [PyData.eqv]; exact eqv_rows r s]
    exact k H1 (Ex.refl H1)⟩
/-! ### the judged values -/
theorem shows_three {M : M1.Mach} {o : Option Nat} (hL : M.LateIs o) {u wd : List Nat} {s : Nat} (hu : M.Letters u) (hs : s < M.st.length) (hw : M.Letters wd) : Shows M (.tup [rowJ u, .num (s : Int), rowJ wd]) ↔ ∃ n, o = some n ∧ wd.length = n ∧ M.Unl (M.led 0 u) s wd := by
  constructor
  · rintro (⟨_, z⟩ | ⟨n, hn, hLn, u', s', wd', e, _, _, _, hl, hU⟩)
    · cases z
    · injection e with e
      injection e with y1 e
      injection e with y2 e
      injection e with y3 e
      injection y2 with y2
      refine ⟨n, hL.only hLn, by rw [rowJ_inj y3]; exact hl, ?_⟩
      rw [rowJ_inj y1, Int.ofNat_inj.mp y2, rowJ_inj y3]
      exact hU
  · rintro ⟨n, rfl, hl, hU⟩
    have hU' := hU
    obtain ⟨x, a, e, _⟩ := hU'
    exact .inr ⟨n, by rw [← hl, e]; simp, hL, u, s, wd, rfl, hu, hs, hw, hl, hU⟩
theorem showsN_four {M : M1.Mach} (ok : M.Ok) {o : Option Nat} (hL : M.LateIs o) {u wd ls : List Nat} {s : Nat} (hu : M.Letters u) (hul : u.length ≤ 4000) (hs : s < M.st.length) (hw : M.Letters wd) (hwl : wd.length ≤ 4000) (hls : M.Letters ls) (hll : ls.length ≤ 4000) :
    ShowsN M (.tup [rowJ u, .num (s : Int), rowJ wd, rowJ ls]) ↔ (o = none ∧ wd ≠ [] ∧ M.led (M.led 0 u) wd = M.led 0 u ∧ M.led s wd = s) ∧ M.Unl (M.led 0 u) s ls := by
  constructor
  · rintro ⟨u', s', ag, ls', e, p1, p2, p3, p4, p5, p6, p7, p8, p9, p10, p11⟩
    injection e with e
    injection e with y1 e
    injection e with y2 e
    injection e with y3 e
    injection e with y4 e
    injection y2 with y2
    have y1 := rowJ_inj y1
    have y3 := rowJ_inj y3
    have y4 := rowJ_inj y4
    have y2 := Int.ofNat_inj.mp y2
    subst y1 y2 y3 y4
    refine ⟨⟨hL.only (u := none) ?_, p6, p9, p10⟩, p11⟩
    exact M.pump ok (p := (M.led 0 u, s)) ⟨⟨u, hu, rfl⟩, hs⟩ p6 hw p9 p10 hls p11
  · rintro ⟨⟨_, h1, h2, h3⟩, h4⟩
    exact ⟨u, s, wd, ls, rfl, hu, hul, hs, hw, hwl, h1, hls, hll, h2, h3, h4⟩
end

end Kx
namespace Kx
open PySem PySem.Spec PyProof.Rows L2

open Evl LamX
section
variable {P : Program} {w : World} {K : PySem.W.Frag} {mg : Str → Option Value} {base : Heap}
/-! ### readings that make values of any kind -/
def EvJ (K : PySem.W.Frag) (te : TE) (σ : L2.St) (H : Hp) (x : Jv) : Prop := ∀ H1, Ex H H1 → ∀ Q : VK, (∀ v H2, Ex H1 H2 → JvAt K H2 v x → Q v H2) → te σ H1 Q
def EvJs (K : PySem.W.Frag) (ta : TA) (σ : L2.St) (H : Hp) (xs : List Jv) : Prop := ∀ H1, Ex H H1 → ∀ Q : List V → Hp → Prop, (∀ vs H2, Ex H1 H2 → JvsAt K H2 vs xs → Q vs H2) → ta σ H1 Q
theorem ejs_nil {σ : L2.St} {H : Hp} : EvJs K tNil σ H [] := fun H1 _ Q q => q [] H1 (Ex.refl _) .nil
theorem ejs_cons {te : TE} {ta : TA} {σ : L2.St} {H : Hp} {x : Jv} {xs : List Jv} (h : EvJ K te σ H x) (hs : EvJs K ta σ H xs) : EvJs K (tCons te ta) σ H (x :: xs) := fun H1 e Q q =>
  h H1 e _ fun v H2 e2 hv => hs H2 (e.trans e2) _ fun vs H3 e3 hvs => q (v :: vs) H3 (e2.trans e3) (.cons (hv.ex e3) hvs)
theorem ej_num {σ : L2.St} {H : Hp} {i : Int} : EvJ K (tC (.int i)) σ H (.num i) := fun H1 _ Q q => q _ H1 (Ex.refl _) (.num i)
theorem ej_non {σ : L2.St} {H : Hp} : EvJ K (tC .non) σ H .non := fun H1 _ Q q => q _ H1 (Ex.refl _) .non
theorem ej_bl {σ : L2.St} {H : Hp} {b : Bool} : EvJ K (tC (.bl b)) σ H .oth := fun H1 _ Q q => q _ H1 (Ex.refl _) (.oth (T := "bool") (fun _ _ => .base (.bl b)) (by decide) (fun z => by cases z))
theorem ej_str {σ : L2.St} {H : Hp} {s : Str} : EvJ K (tC (.str s)) σ H .oth := fun H1 _ Q q => q _ H1 (Ex.refl _) (.oth (T := "str") (fun _ _ => .base (.str s)) (by decide) (fun z => by cases z))
theorem ej_tup {ta : TA} {σ : L2.St} {H : Hp} {xs : List Jv} (h : EvJs K ta σ H xs) (hl : xs.length ≤ 100000) : EvJ K (tTup ta) σ H (.tup xs) := fun H1 e Q q =>
  h H1 e _ fun vs H2 e2 hvs => ⟨by rw [jvs_len hvs]; exact sz_of hl, fun p hp => q _ _ (e2.trans (Ex.new hp)) (.tup (SqT.of upd_same) (hvs.ex (Ex.new hp)))⟩
theorem ej_lst0 {σ : L2.St} {H : Hp} : EvJ K (tLst tNil) σ H .oth := fun H1 e Q q => ⟨by show 0 ≤ sizeLine; decide, fun p hp => q _ _ (Ex.new hp) (.oth (T := "list") (fun H2 e2 => sqL_ty (K := K) (sq_of (e2 _ _ upd_same))) (by decide) (fun z => by cases z))⟩
theorem ej_dic0 {σ : L2.St} {H : Hp} : EvJ K tDNewK σ H .oth := fun H1 e Q q => fun p hp => q _ _ (Ex.new hp) (.oth (T := "dict") (fun H2 e2 => .base (.dK (e2 _ _ upd_same))) (by decide) (fun z => by cases z))
theorem q_forJ {ta : TA} {tu tz : TS} {D : Ends} {σ : L2.St} {H : Hp} {xs : List Jv} {j : Nat} (h : EvJs K ta σ H xs) (hl : xs.length ≤ 100000) (Pv : Nat → L2.St → Hp → Prop) (h0 : ∀ H1, Ex H H1 → Pv 0 σ H1)
    (hs : ∀ (Hl : Hp) (i : Nat) (x : Jv) (v : V) (σ' : L2.St) (H' : Hp), Ex Hl H' → xs[i]? = some x → JvAt K H' v x → Pv i σ' H' → tu { D with nx := fun σ2 H2 => Ex Hl H2 ∧ Pv (i + 1) σ2 H2, ct := fun σ2 H2 => Ex Hl H2 ∧ Pv (i + 1) σ2 H2, bk := tz D } (σ'.set j (some v)) H')
    (hd : ∀ σ' H', Pv xs.length σ' H' → tz D σ' H') : tSeq (tFor (iList K (tLst ta)) (gName j) tu) tz D σ H :=
  h H (Ex.refl H) _ fun vs H1 e1 hJ => ⟨by rw [jvs_len hJ]; exact sz_of hl, fun p hp => ⟨p, rfl, ⟨vs, sq_of upd_same⟩, for_list (xs := vs) (fun i σ' H' => Ex (upd H1 p (.lst vs)) H' ∧ Pv i σ' H') ⟨Ex.refl _, h0 _ (e1.trans (Ex.new hp))⟩ (fun i σ' H' _ q => sq_of (q.1 _ _ upd_same)) (fun i v σ' H' hv q => by
    obtain ⟨x, hx, hxv⟩ := Paired.get' hJ.pair hv
    exact hs _ i x v σ' H' q.1 hx ((hxv.ex (Ex.new hp)).ex q.1) q.2) fun σ' H' q => hd σ' H' (by rw [← jvs_len hJ]; exact q.2)⟩⟩
theorem rv_notB {H : Hp} {a b : Bool} : RV rNotB (.bl a) (.bl b) H (.bl (!decide (a = b))) := fun H1 _ Q q => ⟨a, b, rfl, rfl, q H1 (Ex.refl _)⟩
theorem rv_isB {H : Hp} {a b : Bool} : RV rIsB (.bl a) (.bl b) H (.bl (decide (a = b))) := fun H1 _ Q q => ⟨a, b, rfl, rfl, q H1 (Ex.refl _)⟩
def bads : List Jv := [.oth, .tup [], .tup [.tup [], .num 0], .tup [.tup [], .num 99, .tup [.num 0]], .tup [.tup [], .oth, .tup [.num 0]], .tup [.oth, .num 0, .tup [.num 0]], .tup [.tup [], .num 0, .tup []], .oth, .oth,
  .tup [.tup [.num 9], .num 0, .tup [.num 0], .tup [.num 0]], .tup [.tup [], .num 0, .tup [], .tup [.num 0]]]
theorem rowJ_nil {r : List Nat} (h : rowJ r = .tup []) : r = [] := by
  cases r with
  | nil => rfl
  | cons _ _ => simp [rowJ] at h
theorem not_shows {M : M1.Mach} {x : Jv} (h : Shows M x) : x = .non ∨ ∃ (u : List Nat) (s : Nat) (wd : List Nat), x = .tup [rowJ u, .num (s : Int), rowJ wd] ∧ s < M.st.length ∧ wd ≠ [] := by
  rcases h with ⟨_, h⟩ | ⟨n, hn, _, u, s, wd, e, _, hs, _, hl, _⟩
  · exact .inl h
  · exact .inr ⟨u, s, wd, e, hs, fun z => by subst z; simp at hl; omega⟩
theorem not_bads {M : M1.Mach} (hn : M.st.length ≤ 5) (hk : M.k ≤ 2) : ∀ x ∈ bads, x.fits2 ∧ ¬ Shows M x ∧ ¬ ShowsN M x := by
  have fr : ∀ xs : List Jv, xs.length ≤ 40000 → (Jv.tup xs).fits := fun xs h => h
  have h1 : ∀ x ∈ bads, x.fits2 := by
    intro x hx
    simp only [bads, List.mem_cons, List.not_mem_nil, or_false] at hx
    rcases hx with rfl | rfl | rfl | rfl | rfl | rfl | rfl | rfl | rfl | rfl | rfl
    all_goals first
      | trivial
      | (intro y hy
         simp only [List.mem_cons, List.not_mem_nil, or_false] at hy
         rcases hy with rfl | rfl | rfl | rfl <;> first | trivial | exact fr _ (by decide))
      | (intro y hy
         simp only [List.mem_cons, List.not_mem_nil, or_false] at hy
         rcases hy with rfl | rfl | rfl <;> first | trivial | exact fr _ (by decide))
      | (intro y hy
         simp only [List.mem_cons, List.not_mem_nil, or_false] at hy
         rcases hy with rfl | rfl <;> first | trivial | exact fr _ (by decide))
      | (intro y hy
         simp at hy)
  have h2 : ∀ x ∈ bads, ¬ Shows M x := by
    intro x hx h
    rcases not_shows h with e | ⟨u, s, wd, e, hs, hw⟩
    · subst e
      simp [bads] at hx
    · subst e
      simp only [bads, List.mem_cons, List.not_mem_nil, or_false, Jv.tup.injEq, List.cons.injEq, Jv.num.injEq, and_false, false_and, or_false, false_or, reduceCtorEq] at hx
      rcases hx with ⟨_, e, _⟩ | ⟨e, _⟩ | ⟨_, _, e, _⟩
      · omega
      · simp [rowJ] at e
      · exact hw (rowJ_nil e)
  have h3 : ∀ x ∈ bads, ¬ ShowsN M x := by
    rintro x hx ⟨u, s, ag, ls, e, p1, p2, p3, p4, p5, p6, _⟩
    subst e
    simp only [bads, List.mem_cons, List.not_mem_nil, or_false, Jv.tup.injEq, List.cons.injEq, Jv.num.injEq, and_false, false_and, or_false, false_or, reduceCtorEq] at hx
    rcases hx with ⟨e, _⟩ | ⟨_, _, e, _⟩
    · cases u with
      | nil => simp [rowJ] at e
      | cons z u =>
        have : z = 9 := by
          simp [rowJ] at e
          omega
        have := p1 z List.mem_cons_self
        omega
    · exact p6 (rowJ_nil e)
  exact fun x hx => ⟨h1 x hx, h2 x hx, h3 x hx⟩
theorem cut_to (r : List Nat) {n : Nat} (h : n ≤ r.length) : cutV (rowV r) none (some (n : Int)) = rowV (r.take n) := by
  unfold cutV
  have h1 : HT.sIx (rowV r).length 0 none = 0 := rfl
  rw [h1, HT.sIx_nat, List.drop_zero, Nat.sub_zero, rowV_len, Nat.min_eq_left h]
  unfold rowV
  rw [List.map_take]
/-- how many states come -/
noncomputable def nR (M : M1.Mach) : Nat := by
  classical
  exact ((List.range M.st.length).filter fun i => decide (M.Rch i)).length
theorem nR_of {M : M1.Mach} (ok : M.Ok) {r : List Nat} (nd : r.Nodup) (hm : ∀ i, i ∈ r ↔ M.Rch i) : r.length = nR M := by
  classical
  unfold nR
  apply Nat.le_antisymm
  · exact M1.nodup_le nd fun i hi => List.mem_filter.mpr ⟨List.mem_range.mpr (((hm i).mp hi).lt ok), decide_eq_true ((hm i).mp hi)⟩
  · exact M1.nodup_le (List.nodup_range.filter _) fun i hi => (hm i).mpr (of_decide_eq_true (List.mem_filter.mp hi).2)
theorem nR_pos {M : M1.Mach} (ok : M.Ok) : 0 < nR M ∧ nR M ≤ M.st.length := by
  classical
  unfold nR
  exact ⟨List.length_pos_of_mem (List.mem_filter.mpr ⟨List.mem_range.mpr ok.n1, decide_eq_true M1.Mach.Rch.zero⟩), Nat.le_trans (List.length_filter_le _ _) (by rw [List.length_range]; exact Nat.le_refl _)⟩
theorem el_comes {σ : L2.St} {H : Hp} {E : XK} {ta te : TE} {j : Nat} {vs : List Nat} {v : V} {M : M1.Mach} {c : V} (ha : Ev ta σ H v) (hM : MacAt K H v M.st M.an) (ok : M.Ok) (hw : ∀ x, wipe ((wipe σ vs).set j (some x)) vs = wipe σ vs)
    (he : ∀ (i : Nat) H1, Ex H H1 → M.Rch i → Ev te ((wipe σ vs).set j (some (nV i))) H1 c) : EvL (tLc (iList K (tCall (sp_comes K) [] E (tCons ta tNil))) (gName j) tYes te vs) σ H (gvn (nR M) fun _ => c) := fun H1 e Q q =>
  ha H1 e _ fun H2 e2 => ⟨v, M, rfl, hM.keep (TK.ex (e.trans e2)), ok, fun p H3 r hp e3 h3 nd hm => by
    have n6 := ok.n6
    have hr := nR_of ok nd hm
    have hrl := (nR_pos ok).2
    have big := el_lcLv (K := K) (σ := σ) (H := H3) (a := p) (xs := rowV r) (tl := tC (.ref p)) (j := j) (vs := vs) (te := te) (fun _ => c) ev_c (sq_of h3) (by rw [rowV_len]; omega) hw (fun i z H4 e4 hz => by
      obtain ⟨n, hn, rfl⟩ := map_of hz
      exact he n H4 (((e.trans e2).trans e3).trans e4) ((hm n).mp (List.mem_of_getElem? hn)))
    rw [rowV_len, hr] at big
    exact big H3 (Ex.refl _) Q fun q' H4 hq e4 h4 => q q' H4 (fresh_back (e2.trans e3) hq) ((e2.trans e3).trans e4) h4⟩
end

end Kx
namespace Kx
open PySem PySem.Spec PyProof.Rows L2

open Evl LamX
section
variable {P : Program} {w : World} {K : PySem.W.Frag} {mg : Str → Option Value} {base : Heap}
def spLaw (K : PySem.W.Frag) (Pc : Addr) : Sp := fun vs H Q _ => ∃ (a : Addr) (ns : List Int), vs = [.ref a] ∧ SqL K H a (ns.map V.int) ∧ ns.length ≤ 63 ∧ H Pc = some (.tbl #[]) ∧ ∀ H', Q (.bl true) H'
theorem ok_law (T : Txt K mg) (h_late : Has P w K mg base "late" 6 ["machine"] (sp_late K)) (h_late_word : Has P w K mg base "late_word" 6 ["machine"] (sp_lword K)) (h_shows_late_word : Has P w K mg base "shows_late_word" 7 ["machine", "value"] (sp_slw K)) (h_shows_never_forgets : Has P w K mg base "shows_never_forgets" 6 ["machine", "value"] (sp_snf K))
    (h_never_forgets : Has P w K mg base "never_forgets" 6 ["machine"] (sp_nforg K)) (hx_never_forgets : HasX P w K mg base "never_forgets" 6 ["machine"] (sp_nforgX K mg)) (h_window : Has P w K mg base "window" 7 ["machine"] (sp_window K)) (h_window_answer : Has P w K mg base "window_answer" 8 ["machine", "word"] (sp_wans K)) (hx_window_answer : HasX P w K mg base "window_answer" 8 ["machine", "word"] (sp_wansX K mg))
    (h_window_table : Has P w K mg base "window_table" 8 ["machine"] (sp_wtab K)) (hx_window_table : HasX P w K mg base "window_table" 8 ["machine"] (sp_wtabX K mg)) (h_law_taken : Has P w K mg base "_law_taken" 1 ["row", "many"] (sp_taken K)) (h_law_machine : Has P w K mg base "_law_machine" 2 ["row", "states", "letters"] (sp_lawmac K))
    (h_law_comes : Has P w K mg base "_law_comes" 1 ["machine"] (sp_comes K)) (h_law_late : Has P w K mg base "_law_late" 3 ["machine"] (sp_llate K)) (h_law_alike : Has P w K mg base "_law_alike" 4 ["found", "due"] (sp_la K 3)) (h_law_led : Has P w K mg base "_law_led" 1 ["machine", "state", "word"] (sp_led K)) (h_law_told : Has P w K mg base "_law_told" 2 ["machine", "state", "word"] (sp_told K))
    (h_law_is_late : Has P w K mg base "_law_is_late" 3 ["machine", "value"] (sp_isl K)) (h_law_refused : RefD K mg) (h_law_words : Has P w K mg base "_law_words" 1 ["letters", "length"] (sp_words K)) (U : ErrU K mg "ClerkError" (refW.map (·.1)))
    {f cc Pc : Addr} {oc kV doc pm ct : Value} {od an : Option Addr} {osl : Array (Option Value)} (lk : K.lookup f = some ⟨oc, od, .func (PySem.W.fnOf "law" "law" (defArgs s_law) (defBody s_law) (defScope s_law) .none kV doc pm an (.ref cc) ct), osl⟩) (hcd : PySem.W.codeIn K (.ref cc) "law" = true) (TB : TabB base mg cc Pc) :
    FnOk P w K mg base CX0 11 f (PySem.W.fnOf "law" "law" (defArgs s_law) (defBody s_law) (defScope s_law) .none kV doc pm an (.ref cc) ct) ["script"] (spLaw K Pc) := by
  classical
  refine ok_cd lk hcd sc_law (fun vs H Q E h => ?_) (fun A outer s H vs Q E hr h => ?_)
  · obtain ⟨a, ns, rfl, _⟩ := h
    rfl
  · obtain ⟨scr, ns, rfl, hS, hl, hPc, q⟩ := h
    refine ⟨_, (pss_cons (ps_set (i := 1) sc_law.nd rfl (.inr rfl) (pe_lst (pa_cons (pv 0) (pa_cons pe_int (pa_cons pe_int (pa_cons pe_int pa_nil))))))
      (pss_cons (ps_set (i := 2) sc_law.nd rfl (.inr rfl) (pe_has h_law_machine (hr.mono (by first | decide | exact Nat.le_refl _)) (by rfl) (pa_cons (pv 1) (pa_cons pe_int (pa_cons pe_int pa_nil)))))
      (pss_cons (ps_asg (pe_tup (pa_cons (pe_callB (call_lenK (K := K) rfl) (by rfl) T.b_len bt_len (pa_cons (pe_ix (ix_tupK (K := K) rfl) (pe_ix (ix_tupK (K := K) rfl) (pv 2) pe_int (fun _ _ => rfl)) pe_int (fun _ _ => rfl)) pa_nil)) (pa_cons (pe_has h_law_late (hr.mono (by first | decide | exact Nat.le_refl _)) (by rfl) (pa_cons (pv 2) pa_nil)) pa_nil))) (pg_tupK (K := K) (n := 2) rfl (by rfl) (pgs_cons (pg_name (i := 3) sc_law.nd rfl (.inr rfl)) (pgs_cons (pg_name (i := 4) sc_law.nd rfl (.inr rfl)) pgs_nil))))
      (pss_cons (ps_set (i := 5) sc_law.nd rfl (.inl rfl) (pe_has h_late_word (hr.mono (by first | decide | exact Nat.le_refl _)) (by rfl) (pa_cons (pv 2) pa_nil)))
      (pss_cons (ps_if (PW.pt (pw_or (pt_not (pt_val (pe_has h_law_alike (hr.mono (by first | decide | exact Nat.le_refl _)) (by rfl) (pa_cons (pe_has h_late (hr.mono (by first | decide | exact Nat.le_refl _)) (by rfl) (pa_cons (pv 2) pa_nil)) (pa_cons (pv 4) pa_nil))))) (pw_or1 (pt_cmpR op_ne (pe_cmpR op_isN (pv 5) pe_non (nomark _)) (pe_or (pe_cmpR op_isN (pv 4) pe_non (nomark _)) (pe_one (pe_cmpR op_eq (pv 4) pe_int (nomark _)))) (nomark _)))))
      (pss_one (ps_ret pe_bl))
      pss_nil)
      (pss_cons (ps_if (PW.pt (pw_or (PW.pt (pw_and (pt_cmpR op_notN (pv 5) pe_non (nomark _)) (pw_and1 (PW.pt (pw_or (pt_cmpR op_ne (pe_callB (call_lenK (K := K) rfl) (by rfl) T.b_len bt_len (pa_cons (pe_ix (ix_tupK (K := K) rfl) (pv 5) pe_int (fun _ _ => rfl)) pa_nil)) (pv 4) (nomark _)) (pw_or1 (pt_not (pt_val (pe_has h_law_is_late (hr.mono (by first | decide | exact Nat.le_refl _)) (by rfl) (pa_cons (pv 2) (pa_cons (pv 5) pa_nil))))))))))) (pw_or1 (pt_not (pt_val (pe_has h_shows_late_word (hr.mono (by first | decide | exact Nat.le_refl _)) (by rfl) (pa_cons (pv 2) (pa_cons (pv 5) pa_nil))))))))
      (pss_one (ps_ret pe_bl))
      pss_nil)
      (pss_cons (ps_for PassesOwn.never rfl (pi_range1 (by rfl) T.b_range (pa_cons pe_int pa_nil)) (pg_name (i := 6) sc_law.nd rfl (.inl rfl))
      (pss_cons (ps_set (i := 7) sc_law.nd rfl (.inl rfl) (pe_callTy (call_tupleK (K := K) rfl) (by rfl) T.b_tuple bt_tuple (pa_cons (pe_lc (own := [("at", 15)]) (g := gName 15) (tt := tYes) (by rfl) sc_law.nd (pi_range1 (by rfl) T.b_range (pa_cons (pe_has h_law_taken (hr.mono (by first | decide | exact Nat.le_refl _)) (by rfl) (pa_cons (pv 1) (pa_cons pe_int pa_nil))) pa_nil)) (blkOk_by (N := N_law) (sc := defScope s_law) (by decide +kernel)) (fun _ _ _ _ _ => pg_name (i := 15) sc_law.nd rfl (Or.inl rfl)) (fun _ _ _ _ _ => pts_nil) (fun _ _ _ _ _ => (pe_has h_law_taken (hr.mono (by first | decide | exact Nat.le_refl _)) (by rfl) (pa_cons (pv 1) (pa_cons (pv 3) pa_nil))))) pa_nil)))
      (pss_cons (ps_set (i := 8) sc_law.nd rfl (.inr rfl) (pe_callTy (call_tupleK (K := K) rfl) (by rfl) T.b_tuple bt_tuple (pa_cons (pe_lc (own := [("at", 15)]) (g := gName 15) (tt := tYes) (by rfl) sc_law.nd (pi_range1 (by rfl) T.b_range (pa_cons (pe_ifExp (PW.pt (pw_and (pt_cmpR op_notN (pv 4) pe_non (nomark _)) (pw_and1 (pt_cmpR op_gt (pv 6) pe_int (nomark _))))) (pv 4) (pe_has h_law_taken (hr.mono (by first | decide | exact Nat.le_refl _)) (by rfl) (pa_cons (pv 1) (pa_cons pe_int pa_nil)))) pa_nil)) (blkOk_by (N := N_law) (sc := defScope s_law) (by decide +kernel)) (fun _ _ _ _ _ => pg_name (i := 15) sc_law.nd rfl (Or.inl rfl)) (fun _ _ _ _ _ => pts_nil) (fun _ _ _ _ _ => (pe_has h_law_taken (hr.mono (by first | decide | exact Nat.le_refl _)) (by rfl) (pa_cons (pv 1) (pa_cons (pv 3) pa_nil))))) pa_nil)))
      (pss_cons (ps_set (i := 9) sc_law.nd rfl (.inr rfl) (pe_tup (pa_cons (pv 7) (pa_cons (pe_has h_law_taken (hr.mono (by first | decide | exact Nat.le_refl _)) (by rfl) (pa_cons (pv 1) (pa_cons (pe_callB (call_lenK (K := K) rfl) (by rfl) T.b_len bt_len (pa_cons (pe_ix (ix_tupK (K := K) rfl) (pv 2) pe_int (fun _ _ => rfl)) pa_nil)) pa_nil))) (pa_cons (pv 8) pa_nil)))))
      (pss_cons (ps_set (i := 10) sc_law.nd rfl (.inl rfl) (pe_and (pe_cmpR op_notN (pv 4) pe_non (nomark _)) (pe_and (pe_cmpR op_eq (pe_callB (call_lenK (K := K) rfl) (by rfl) T.b_len bt_len (pa_cons (pv 8) pa_nil)) (pv 4) (nomark _)) (pe_one (pe_has h_law_is_late (hr.mono (by first | decide | exact Nat.le_refl _)) (by rfl) (pa_cons (pv 2) (pa_cons (pv 9) pa_nil)))))))
      (pss_cons (ps_if (pt_not (pt_val (pe_has h_law_alike (hr.mono (by first | decide | exact Nat.le_refl _)) (by rfl) (pa_cons (pe_has h_shows_late_word (hr.mono (by first | decide | exact Nat.le_refl _)) (by rfl) (pa_cons (pv 2) (pa_cons (pv 9) pa_nil))) (pa_cons (pv 10) pa_nil)))))
      (pss_one (ps_ret pe_bl))
      pss_nil)
      (pss_cons (ps_set (i := 11) sc_law.nd rfl (.inl rfl) (pe_tup (pa_cons (pv 7) (pa_cons (pe_ix (ix_tupK (K := K) rfl) (pv 9) pe_int (fun _ _ => rfl)) (pa_cons (pv 8) (pa_cons (pe_callTy (call_tupleK (K := K) rfl) (by rfl) T.b_tuple bt_tuple (pa_cons (pe_lc (own := [("at", 15)]) (g := gName 15) (tt := tYes) (by rfl) sc_law.nd (pi_range1 (by rfl) T.b_range (pa_cons (pe_op op_add pe_int (pe_has h_law_taken (hr.mono (by first | decide | exact Nat.le_refl _)) (by rfl) (pa_cons (pv 1) (pa_cons pe_int pa_nil)))) pa_nil)) (blkOk_by (N := N_law) (sc := defScope s_law) (by decide +kernel)) (fun _ _ _ _ _ => pg_name (i := 15) sc_law.nd rfl (Or.inl rfl)) (fun _ _ _ _ _ => pts_nil) (fun _ _ _ _ _ => (pe_has h_law_taken (hr.mono (by first | decide | exact Nat.le_refl _)) (by rfl) (pa_cons (pv 1) (pa_cons (pv 3) pa_nil))))) pa_nil)) pa_nil))))))
      (pss_cons (ps_set (i := 12) sc_law.nd rfl (.inl rfl) (pe_has h_law_led (hr.mono (by first | decide | exact Nat.le_refl _)) (by rfl) (pa_cons (pv 2) (pa_cons pe_int (pa_cons (pv 7) pa_nil)))))
      (pss_cons (ps_set (i := 10) sc_law.nd rfl (.inl rfl) (pe_and (pe_cmpR op_isN (pv 4) pe_non (nomark _)) (pe_and (pe_cmpR (op_neDK (K := K) rfl hr.units) (pv 8) (pe_tup pa_nil) (nomark _)) (pe_and (pe_cmpR op_eq (pe_has h_law_led (hr.mono (by first | decide | exact Nat.le_refl _)) (by rfl) (pa_cons (pv 2) (pa_cons (pv 12) (pa_cons (pv 8) pa_nil)))) (pv 12) (nomark _)) (pe_one (pe_cmpR op_eq (pe_has h_law_led (hr.mono (by first | decide | exact Nat.le_refl _)) (by rfl) (pa_cons (pv 2) (pa_cons (pe_ix (ix_tupK (K := K) rfl) (pv 11) pe_int (fun _ _ => rfl)) (pa_cons (pv 8) pa_nil)))) (pe_ix (ix_tupK (K := K) rfl) (pv 11) pe_int (fun _ _ => rfl)) (nomark _)))))))
      (pss_cons (ps_set (i := 10) sc_law.nd rfl (.inl rfl) (pe_and (pv 10) (pe_one (pe_cmpR op_ne (pe_ix (ix_tupK (K := K) rfl) (pe_has h_law_told (hr.mono (by first | decide | exact Nat.le_refl _)) (by rfl) (pa_cons (pv 2) (pa_cons (pv 12) (pa_cons (pe_ix (ix_tupK (K := K) rfl) (pv 11) pe_int (fun _ _ => rfl)) pa_nil)))) (pe_un un_neg pe_int) (fun _ _ => rfl)) (pe_ix (ix_tupK (K := K) rfl) (pe_has h_law_told (hr.mono (by first | decide | exact Nat.le_refl _)) (by rfl) (pa_cons (pv 2) (pa_cons (pe_ix (ix_tupK (K := K) rfl) (pv 11) pe_int (fun _ _ => rfl)) (pa_cons (pe_ix (ix_tupK (K := K) rfl) (pv 11) pe_int (fun _ _ => rfl)) pa_nil)))) (pe_un un_neg pe_int) (fun _ _ => rfl)) (nomark _)))))
      (pss_one (ps_if (pt_not (pt_val (pe_has h_law_alike (hr.mono (by first | decide | exact Nat.le_refl _)) (by rfl) (pa_cons (pe_has h_shows_never_forgets (hr.mono (by first | decide | exact Nat.le_refl _)) (by rfl) (pa_cons (pv 2) (pa_cons (pv 11) pa_nil))) (pa_cons (pv 10) pa_nil)))))
      (pss_one (ps_ret pe_bl))
      pss_nil))))))))))))
      (pss_cons (ps_for PassesOwn.never rfl (pi_listK (K := K) rfl (pe_lst (pa_cons (pe_lst pa_nil) (pa_cons (pe_tup pa_nil) (pa_cons (pe_tup (pa_cons (pe_tup pa_nil) (pa_cons pe_int pa_nil))) (pa_cons (pe_tup (pa_cons (pe_tup pa_nil) (pa_cons pe_int (pa_cons (pe_tup (pa_cons pe_int pa_nil)) pa_nil)))) (pa_cons (pe_tup (pa_cons (pe_tup pa_nil) (pa_cons pe_bl (pa_cons (pe_tup (pa_cons pe_int pa_nil)) pa_nil)))) (pa_cons (pe_tup (pa_cons (pe_lst pa_nil) (pa_cons pe_int (pa_cons (pe_tup (pa_cons pe_int pa_nil)) pa_nil)))) (pa_cons (pe_tup (pa_cons (pe_tup pa_nil) (pa_cons pe_int (pa_cons (pe_tup pa_nil) pa_nil)))) (pa_cons pe_dnewK (pa_cons pe_str (pa_cons (pe_tup (pa_cons (pe_tup (pa_cons pe_int pa_nil)) (pa_cons pe_int (pa_cons (pe_tup (pa_cons pe_int pa_nil)) (pa_cons (pe_tup (pa_cons pe_int pa_nil)) pa_nil))))) (pa_cons (pe_tup (pa_cons (pe_tup pa_nil) (pa_cons pe_int (pa_cons (pe_tup pa_nil) (pa_cons (pe_tup (pa_cons pe_int pa_nil)) pa_nil))))) pa_nil))))))))))))) (pg_name (i := 13) sc_law.nd rfl (.inl rfl))
      (pss_one (ps_if (PW.pt (pw_or (pt_cmpR op_notBl (pe_has h_shows_late_word (hr.mono (by first | decide | exact Nat.le_refl _)) (by rfl) (pa_cons (pv 2) (pa_cons (pv 13) pa_nil))) pe_bl (nomark _)) (pw_or1 (pt_cmpR op_notBl (pe_has h_shows_never_forgets (hr.mono (by first | decide | exact Nat.le_refl _)) (by rfl) (pa_cons (pv 2) (pa_cons (pv 13) pa_nil))) pe_bl (nomark _)))))
      (pss_one (ps_ret pe_bl))
      pss_nil)))
      (pss_cons (ps_if (pt_cmpR op_isN (pv 4) pe_non (nomark _))
      (pss_cons (ps_set (i := 11) sc_law.nd rfl (.inl rfl) (pe_has h_never_forgets (hr.mono (by first | decide | exact Nat.le_refl _)) (by rfl) (pa_cons (pv 2) pa_nil)))
      (pss_cons (ps_if (PW.pt (pw_or (pt_cmpR op_notBl (pe_has h_shows_never_forgets (hr.mono (by first | decide | exact Nat.le_refl _)) (by rfl) (pa_cons (pv 2) (pa_cons (pv 11) pa_nil))) pe_bl (nomark _)) (pw_or1 (pt_cmpR op_notN (pe_has h_window (hr.mono (by first | decide | exact Nat.le_refl _)) (by rfl) (pa_cons (pv 2) pa_nil)) pe_non (nomark _)))))
      (pss_one (ps_ret pe_bl))
      pss_nil)
      (pss_cons (ps_if (pt_cmpR op_ne (pe_refused (k := 8) T U h_law_refused TB rfl rfl (hr.mono (by first | decide | exact Nat.le_refl _)) (by rfl) (lamS_by (sc := defScope s_law) (by decide +kernel)) rfl (fun _ _ _ _ _ => rfl) (fun A outer s H E f c hr => (pe_hasT hx_window_table (hr.mono (by first | decide | exact Nat.le_refl _)) (takes_of rfl rfl rfl rfl) (by rfl) (pa_cons (pv 2) pa_nil)))) pe_str (nomark _))
      (pss_one (ps_ret pe_bl))
      pss_nil)
      (pss_one (ps_ret (pe_and (pe_cmpR op_eq (pe_refused (k := 8) T U h_law_refused TB rfl rfl (hr.mono (by first | decide | exact Nat.le_refl _)) (by rfl) (lamS_by (sc := defScope s_law) (by decide +kernel)) rfl (fun _ _ _ _ _ => rfl) (fun A outer s H E f c hr => (pe_hasT hx_window_answer (hr.mono (by first | decide | exact Nat.le_refl _)) (takes_of rfl rfl rfl rfl) (by rfl) (pa_cons (pv 2) (pa_cons (pe_tup (pa_cons pe_int pa_nil)) pa_nil))))) pe_str (nomark _)) (pe_one (pe_cmpR op_isBl (pe_has h_shows_late_word (hr.mono (by first | decide | exact Nat.le_refl _)) (by rfl) (pa_cons (pv 2) (pa_cons pe_non pa_nil))) pe_bl (nomark _)))))))))
      pss_nil)
      (pss_cons (ps_if (PW.pt (pw_or (pt_cmpR op_ne (pe_refused (k := 8) T U h_law_refused TB rfl rfl (hr.mono (by first | decide | exact Nat.le_refl _)) (by rfl) (lamS_by (sc := defScope s_law) (by decide +kernel)) rfl (fun _ _ _ _ _ => rfl) (fun A outer s H E f c hr => (pe_hasT hx_never_forgets (hr.mono (by first | decide | exact Nat.le_refl _)) (takes_of rfl rfl rfl rfl) (by rfl) (pa_cons (pv 2) pa_nil)))) pe_str (nomark _)) (pw_or1 (pt_cmpR op_ne (pe_has h_window (hr.mono (by first | decide | exact Nat.le_refl _)) (by rfl) (pa_cons (pv 2) pa_nil)) (pe_op op_add (pv 4) pe_int) (nomark _)))))
      (pss_one (ps_ret pe_bl))
      pss_nil)
      (pss_cons (ps_set (i := 8) sc_law.nd rfl (.inr rfl) (pe_callTy (call_tupleK (K := K) rfl) (by rfl) T.b_tuple bt_tuple (pa_cons (pe_lc (own := [("at", 15)]) (g := gName 15) (tt := tYes) (by rfl) sc_law.nd (pi_range1 (by rfl) T.b_range (pa_cons (pe_op op_add (pe_op op_add (pv 4) pe_int) (pe_has h_law_taken (hr.mono (by first | decide | exact Nat.le_refl _)) (by rfl) (pa_cons (pv 1) (pa_cons pe_int pa_nil)))) pa_nil)) (blkOk_by (N := N_law) (sc := defScope s_law) (by decide +kernel)) (fun _ _ _ _ _ => pg_name (i := 15) sc_law.nd rfl (Or.inl rfl)) (fun _ _ _ _ _ => pts_nil) (fun _ _ _ _ _ => (pe_has h_law_taken (hr.mono (by first | decide | exact Nat.le_refl _)) (by rfl) (pa_cons (pv 1) (pa_cons (pv 3) pa_nil))))) pa_nil)))
      (pss_cons (ps_set (i := 9) sc_law.nd rfl (.inr rfl) (pe_lc (own := [("state", 16)]) (g := gName 16) (tt := tYes) (by rfl) sc_law.nd (pi_range1 (by rfl) T.b_range (pa_cons (pe_callB (call_lenK (K := K) rfl) (by rfl) T.b_len bt_len (pa_cons (pe_ix (ix_tupK (K := K) rfl) (pv 2) pe_int (fun _ _ => rfl)) pa_nil)) pa_nil)) (blkOk_by (N := N_law) (sc := defScope s_law) (by decide +kernel)) (fun _ _ _ _ _ => pg_name (i := 16) sc_law.nd rfl (Or.inl rfl)) (fun _ _ _ _ _ => pts_nil) (fun _ _ _ _ _ => (pe_ix (ix_tupK (K := K) rfl) (pe_has h_law_told (hr.mono (by first | decide | exact Nat.le_refl _)) (by rfl) (pa_cons (pv 2) (pa_cons (pv 16) (pa_cons (pv 8) pa_nil)))) (pe_un un_neg pe_int) (fun _ _ => rfl)))))
      (pss_cons (ps_set (i := 14) sc_law.nd rfl (.inr rfl) (pe_lc (own := [("state", 16)]) (g := gName 16) (tt := tYes) (by rfl) sc_law.nd (pi_listK (K := K) rfl (pe_has h_law_comes (hr.mono (by first | decide | exact Nat.le_refl _)) (by rfl) (pa_cons (pv 2) pa_nil))) (blkOk_by (N := N_law) (sc := defScope s_law) (by decide +kernel)) (fun _ _ _ _ _ => pg_name (i := 16) sc_law.nd rfl (Or.inl rfl)) (fun _ _ _ _ _ => pts_nil) (fun _ _ _ _ _ => (pe_ix (ix_listK (K := K) rfl) (pv 9) (pv 16) (fun _ _ => rfl)))))
      (pss_cons (ps_if (PW.pt (pw_or (pt_cmpR (op_neDK (K := K) rfl hr.units) (pe_lc (own := [("one", 17)]) (g := gName 17) (by rfl) sc_law.nd (pi_listK (K := K) rfl (pv 9)) (blkOk_by (N := N_law) (sc := defScope s_law) (by decide +kernel)) (fun _ _ _ _ _ => pg_name (i := 17) sc_law.nd rfl (Or.inl rfl)) (fun _ _ _ _ _ => pts_one (pt_cmpR op_ne (pv 17) (pe_ix (ix_listK (K := K) rfl) (pv 14) pe_int (fun _ _ => rfl)) (nomark _))) (fun _ _ _ _ _ => (pv 17))) (pe_lst pa_nil) (nomark _)) (pw_or1 (pt_cmpR op_ne (pe_has h_window_answer (hr.mono (by first | decide | exact Nat.le_refl _)) (by rfl) (pa_cons (pv 2) (pa_cons (pv 8) pa_nil))) (pe_ix (ix_listK (K := K) rfl) (pv 14) pe_int (fun _ _ => rfl)) (nomark _)))))
      (pss_one (ps_ret pe_bl))
      pss_nil)
      (pss_cons (ps_if (pt_cmpR op_ne (pe_refused (k := 8) T U h_law_refused TB rfl rfl (hr.mono (by first | decide | exact Nat.le_refl _)) (by rfl) (lamS_by (sc := defScope s_law) (by decide +kernel)) rfl (fun _ _ _ _ _ => rfl) (fun A outer s H E f c hr => (pe_hasT hx_window_answer (hr.mono (by first | decide | exact Nat.le_refl _)) (takes_of rfl rfl rfl rfl) (by rfl) (pa_cons (pv 2) (pa_cons (pe_slice (sl_tupK (K := K) rfl) (pv 8) po_none (po_some (pv 4))) pa_nil))))) pe_str (nomark _))
      (pss_one (ps_ret pe_bl))
      pss_nil)
      (pss_cons (ps_if (pt_cmpR op_ge (pv 4) (pe_callB (call_lenK (K := K) rfl) (by rfl) T.b_len bt_len (pa_cons (pe_ix (ix_tupK (K := K) rfl) (pv 2) pe_int (fun _ _ => rfl)) pa_nil)) (nomark _))
      (pss_one (ps_ret pe_bl))
      pss_nil)
      (pss_one (ps_ret (pe_has h_law_alike (hr.mono (by first | decide | exact Nat.le_refl _)) (by rfl) (pa_cons (pe_has h_window_table (hr.mono (by first | decide | exact Nat.le_refl _)) (by rfl) (pa_cons (pv 2) pa_nil)) (pa_cons (pe_callTy (call_tupleK (K := K) rfl) (by rfl) T.b_tuple bt_tuple (pa_cons (pe_lc (own := [("word", 8)]) (g := gName 8) (tt := tYes) (by rfl) sc_law.nd (pi_listK (K := K) rfl (pe_has h_law_words (hr.mono (by first | decide | exact Nat.le_refl _)) (by rfl) (pa_cons (pv 3) (pa_cons (pe_op op_add (pv 4) pe_int) pa_nil)))) (blkOk_by (N := N_law) (sc := defScope s_law) (by decide +kernel)) (fun _ _ _ _ _ => pg_name (i := 8) sc_law.nd rfl (Or.inl rfl)) (fun _ _ _ _ _ => pts_nil) (fun _ _ _ _ _ => (pe_ix (ix_tupK (K := K) rfl) (pe_has h_law_told (hr.mono (by first | decide | exact Nat.le_refl _)) (by rfl) (pa_cons (pv 2) (pa_cons pe_int (pa_cons (pv 8) pa_nil)))) (pe_un un_neg pe_int) (fun _ _ => rfl)))) pa_nil)) pa_nil))))))))))))))))))))), ?_⟩
    -- row = [..]
    refine ⟨.ref scr, rfl, by show 4 ≤ sizeLine; decide, fun row hrow => ?_⟩
    have R0 : RowOk K (upd H row (.lst [.ref scr, .int 0, .int 1802, .int 0])) row scr ns := by
      refine ⟨⟨0, 1802, 0, upd_same, by decide, by decide, by decide⟩, fun H' x => ?_, hl⟩
      rcases hS with (hS | ⟨o, hS⟩) | hS
      · exact .inl (.inl (x _ _ (ne_of_none hS hrow) (by rw [upd_ne (ne_of_none hS hrow)]; exact hS)))
      · exact .inl (.inr ⟨o, x _ _ (ne_of_none hS hrow) (by rw [upd_ne (ne_of_none hS hrow)]; exact hS)⟩)
      · exact .inr hS
    have T0 : Tabs [(Pc, qL)] (upd H row (.lst [.ref scr, .int 0, .int 1802, .int 0])) := fun p hp => by
      rw [List.mem_singleton.mp hp]
      exact TabS.nil (Ex.new hrow _ _ hPc)
    -- machine = ..
    refine ⟨.ref row, rfl, row, scr, ns, 5, 2, rfl, by decide, by decide, by decide, by decide, R0, fun v M H1 ok hn5 hk2 hM x1 R1 => ?_⟩
    obtain ⟨xr, hxr⟩ := R0.lst
    have W1 : LwOk K H1 row scr ns Pc v M := ⟨R1, tabs_exb T0 hxr x1, hM⟩
    clear R0 T0 hxr x1 R1 hM hPc hS hrow
    have n1 := ok.n1
    have k1 := ok.k1
    obtain ⟨am, x, y, rfl, hSm, ⟨ax, vx, rfl, hSx, hPx⟩, ⟨ay, vy, rfl, hSy, hPy⟩⟩ := id W1.m
    have hvx : vx.length = M.st.length := Paired.length hPx
    obtain ⟨r0, hr0⟩ := row0 ok
    obtain ⟨a0, g0, hS0⟩ := tab_get hPx r0
    -- letters, due = ..
    refine ⟨.ref am, rfl, am, _, 0, _, rfl, rfl, hSm, atI_nat (j := 0) rfl, ax, vx, 0, .ref a0, rfl, rfl, hSx, atI_nat (j := 0) g0, a0, _, rfl, Or.inr hS0, ?_⟩
    rw [rowV_len, hr0]
    refine ⟨.ref am, rfl, .ref am, M, rfl, W1.m, ok, fun o H2 hL ho36 e2 => ⟨by show 2 ≤ sizeLine; decide, fun tt htt => ⟨tt, _, rfl, SqT.of upd_same, rfl, _, _, rfl, _, _, rfl, rfl, ?_⟩⟩⟩
    have W2 := (W1.ex e2).ex (Ex.new (o := .tup [.int (M.k : Int), oV o]) htt)
    have hle5 : ∀ n, o = some n → n < M.st.length := fun n h => M.late_lt ok (h ▸ hL)
    clear hSm hSx hPx hSy hPy hS0 g0
    -- value = ..
    refine ⟨.ref am, rfl, ?_⟩
    unfold tNil
    dsimp only [List.append_nil]
    refine lword_one W2.m ok fun vv H3 e3 hV => ?_
    have W3 := W2.ex e3
    have hvn : vv = .non ↔ (o = none ∨ o = some 0) := by
      rcases hV with ⟨rfl, h | h⟩ | ⟨n, u, s, wd, h1, h2, ⟨t, _, _, rfl, _⟩, _⟩
      · exact ⟨fun _ => .inl (hL.only h), fun _ => rfl⟩
      · exact ⟨fun _ => .inr (hL.only h), fun _ => rfl⟩
      · refine ⟨fun z => (by cases z), fun z => ?_⟩
        have := hL.only h1
        subst this
        rcases z with z | z
        · cases z
        · have := Option.some.inj z
          omega
    -- if not alike ..
    refine q_when (b := false) (et_or (a := false) (et_not (a := true) (et_B (ev_alike (ev_late (ev_var rfl) W3.m ok hL) (ev_var rfl) (fun H' e => ⟨dp_o o, dp_o o⟩) (fine_o o)))) fun _ => ?_) (fun z => by cases z) fun _ H4 e4 => ?_
    · cases o with
      | none =>
        refine et_is (et_test (ev_op (x := .bl (decide (vv = .non))) (y := .bl (true || true)) (ev_op (ev_var rfl) ev_c rv_isN) (ev_orV (a := true) (ev_op (x := .non) (ev_var rfl) ev_c rv_isN) fun z => by cases z) (rv_ne rfl))) ?_
        rw [decide_eq_true (hvn.mpr (.inl rfl))]
        rfl
      | some n =>
        refine et_is (et_test (ev_op (x := .bl (decide (vv = .non))) (y := .bl (false || decide (nV n = .int 0))) (ev_op (ev_var rfl) ev_c rv_isN) (ev_orV (a := false) (ev_op (x := nV n) (ev_var rfl) ev_c rv_isN) fun _ => ev_op (ev_var rfl) ev_c (rv_eq rfl)) (rv_ne rfl))) ?_
        by_cases hn : n = 0
        · subst hn
          rw [decide_eq_true (hvn.mpr (.inr rfl))]
          rfl
        · rw [decide_eq_false (p := vv = .non) (fun z => (hvn.mp z).elim (fun h => (by cases h)) fun h => hn (Option.some.inj h)), decide_eq_false (p := nV n = V.int 0) (fun z => hn (by have := V.int.inj z; omega))]
          rfl
    have W4 := W3.ex e4
    -- if value is not None ..
    refine q_when (b := false) (et_or (a := false) ?_ fun _ => et_is (et_not (a := true) (et_B ?_)) rfl) (fun z => by cases z) fun _ H5 e5 => ?_
    · rcases hV with ⟨rfl, h⟩ | ⟨n, u, s, wd, h1, h2, ⟨t, a1, a2, rfl, ht, hS1, hS2⟩, lu, ul, lw, wl, n37, st, unl⟩
      · exact et_and (a := false) (b := true) (et_notN (i := 5) (v := .non) rfl) fun z => by cases z
      · have := hL.only h1
        subst this
        have ht4 := e4 _ _ ht
        have hS2' := ex_t e4 hS2
        refine et_and (a := true) (b := false) (et_notN (i := 5) (v := .ref t) rfl) fun _ => et_or (a := false) (et_is (et_test (ev_op (x := .int ((rowV wd).length : Int)) (ev_lenT (ev_op (ev_var rfl) ev_c (rv_ixT (SqT.of ht4) (atI_nat (j := 2) rfl))) hS2') (ev_var rfl) (rv_ne rfl))) ?_) fun _ => et_is (et_not (a := decide (M.Unl (M.led 0 u) s wd)) (et_B (ev_isl (ev_var rfl) (ev_var rfl) W4.m ok (SqT.of ht4) (ex_t e4 hS1) hS2' lu st lw (by omega)))) ?_
        · rw [rowV_len, wl]
          show (!decide (nV n = nV n)) = false
          rw [decide_eq_true rfl]
          rfl
        · rw [decide_eq_true unl]
          rfl
    · rcases hV with ⟨rfl, h⟩ | ⟨n, u, s, wd, h1, h2, ⟨t, a1, a2, rfl, ht, hS1, hS2⟩, lu, ul, lw, wl, n37, st, unl⟩
      · exact ev_is (ev_slw (x := .non) (ev_var rfl) (ev_var rfl) W4.m ok .non trivial) (by rw [decide_eq_true (show Shows M .non from .inl ⟨h, rfl⟩)])
      · refine ev_is (ev_slw (x := .tup [rowJ u, .num (s : Int), rowJ wd]) (ev_var rfl) (ev_var rfl) W4.m ok (jv_three (SqT.of (e4 _ _ ht)) (ex_t e4 hS1) (ex_t e4 hS2)) (fits_three (by omega) (by omega))) ?_
        rw [decide_eq_true ((shows_three h1 lu st lw).mpr ⟨n, rfl, wl, unl⟩)]
    have W5 := W4.ex e5
    clear hV hvn W4 W3 W2 W1
    -- for turn in range(4)
    have n6 := ok.n6
    refine q_forR1 (n := 4) (ea_cons ev_c ea_nil) ⟨by decide, by decide⟩ (fun t σ' H' => ∃ l6 l7 l8 l9 l10 l11 l12, σ' = [some (.ref scr), some (.ref row), some (.ref am), some (.int (M.k : Int)), some (oV o), some vv, l6, l7, l8, l9, l10, l11, l12, none, none, none, none, none] ∧ LwOk K H' row scr ns Pc (.ref am) M)
      (fun H6 e6 => ⟨none, none, none, none, none, none, none, rfl, W5.ex e6⟩) ?_ ?_
    · rintro t σ' H6 ht ⟨l6, l7, l8, l9, l10, l11, l12, rfl, W6⟩
      -- way
      refine q_drawsT (a := row) (scr := scr) (ns := ns) (m := M.k) (fun k => k < 3) (fun R' r => ⟨.ref row, rfl, row, scr, ns, 3, rfl, by decide, by decide, W6.r, fun n H7 hn x7 R7 => r n H7 (by omega) hn x7 R7⟩) (fun _ => rfl)
        (fun i hi => draw_ok (by omega) (by omega) (by exact rfl) fun _ _ => by exact ev_var rfl) fun pw u H7 hpw npw x7 R7 hw7 hu3 hu => ?_
      have W7 := W6.exb x7 R7
      -- word
      refine q_drawsT (a := row) (scr := scr) (ns := ns) (m := M.k) (fun k => k ≤ 5 ∧ ∀ n, o = some n → 0 < t → k = n) (fun R' r => ?_) (fun _ => rfl)
        (fun i hi => draw_ok (by omega) (by omega) (by exact rfl) fun _ _ => by exact ev_var rfl) fun pd wd H8 hpd npd x8 R8 hd8 hwd5 hwd => ?_
      · cases o with
        | none =>
          refine (et_and (a := false) (b := true) (et_notN (i := 4) (v := .non) rfl) fun z => by cases z) _ (Ex.refl _) _ fun H8 e8 => ?_
          exact ⟨.ref row, rfl, row, scr, ns, 4, rfl, by decide, by decide, (W7.ex e8).r, fun n H9 hn x9 R9 => r n H9 (by omega) ⟨by omega, fun n z => by cases z⟩ ((ExB.of e8).trans x9) R9⟩
        | some n =>
          have hn5' := hle5 n rfl
          refine (et_and (a := true) (b := decide ((0 : Int) < (t : Int))) (et_notN (i := 4) (v := nV n) rfl) fun _ => et_test (ev_op (ev_var rfl) ev_c rv_I0)) _ (Ex.refl _) _ fun H8 e8 => ?_
          by_cases h0 : (0 : Int) < (t : Int)
          · rw [decide_eq_true h0]
            exact ⟨_, rfl, r n H8 (by omega) ⟨by omega, fun m z _ => by cases z; rfl⟩ (ExB.of e8) (W7.ex e8).r⟩
          · rw [decide_eq_false h0]
            exact ⟨.ref row, rfl, row, scr, ns, 4, rfl, by decide, by decide, (W7.ex e8).r, fun n H9 hn x9 R9 => r n H9 (by omega) ⟨by omega, fun m z h => by omega⟩ ((ExB.of e8).trans x9) R9⟩
      have W8 := W7.exb x8 R8
      have hw8 : SqT K H8 pw (rowV u) := W7.tk x8 _ _ (SqT.of hw7)
      obtain ⟨am', x', y', e', hSm, ⟨ax', vx', rfl, hSx, hPx⟩, _⟩ := id W8.m
      cases e'
      have hvx' : vx'.length = M.st.length := Paired.length hPx
      -- some
      refine ⟨.ref pw, rfl, .ref row, rfl, .ref am, rfl, am, _, 0, _, rfl, rfl, hSm, atI_nat (j := 0) rfl, ax', vx', rfl, .inr hSx, ?_⟩
      rw [hvx']
      refine ⟨row, scr, ns, M.st.length, rfl, n1, by omega, R8, fun s H9 hs x9 R9 => ⟨.ref pd, rfl, by show 3 ≤ sizeLine; decide, fun ps hps => ?_⟩⟩
      have W9 := (W8.exb x9 R9).ex (Ex.new (o := .tup [.ref pw, nV s, .ref pd]) hps)
      have hw9 : SqT K (upd H9 ps (.tup [.ref pw, nV s, .ref pd])) pw (rowV u) := ex_t (Ex.new hps) (W8.tk x9 _ _ hw8)
      have hd9 : SqT K (upd H9 ps (.tup [.ref pw, nV s, .ref pd])) pd (rowV wd) := ex_t (Ex.new hps) (W8.tk x9 _ _ (SqT.of hd8))
      have hs9 : SqT K (upd H9 ps (.tup [.ref pw, nV s, .ref pd])) ps [.ref pw, nV s, .ref pd] := SqT.of upd_same
      generalize upd H9 ps (.tup [.ref pw, nV s, .ref pd]) = H9' at W9 hw9 hd9 hs9
      clear hSm hSx hPx
      dsimp only
      -- fine
      have hF := shows_three hL hu hs hwd
      refine q_asg (v := .bl (decide (∃ n, o = some n ∧ wd.length = n ∧ M.Unl (M.led 0 u) s wd))) ?_ fun H10 e10 => ?_
      · cases o with
        | none => exact ev_is (ev_andV (a := false) (b := true) (ev_op (x := .non) (ev_var rfl) ev_c rv_notN) fun z => by cases z) (congrArg V.bl (decide_eq_false fun ⟨_, z, _⟩ => by cases z).symm)
        | some n =>
          refine ev_is (ev_andV (a := true) (ev_op (x := nV n) (ev_var rfl) ev_c rv_notN) fun _ => ev_andV (a := decide (wd.length = n)) (ev_is (ev_op (ev_lenT (ev_var rfl) hd9) (ev_var rfl) (rv_eq rfl)) ?_) fun _ => ev_isl (ev_var rfl) (ev_var rfl) W9.m ok hs9 hw9 hd9 hu hs hwd (by omega)) ?_
          · rw [rowV_len]
            exact congrArg V.bl (nV_dec _ _)
          · rw [Bool.true_and, ← Bool.decide_and]
            exact congrArg V.bl (decide_eq_decide.mpr ⟨fun h => ⟨n, rfl, h.1, h.2⟩, fun ⟨m, h1, h2, h3⟩ => by cases h1; exact ⟨h2, h3⟩⟩)
      have W10 := W9.ex e10
      refine q_when (b := false) (et_not (a := true) (et_B (ev_alike (x := .bl (decide (∃ n, o = some n ∧ wd.length = n ∧ M.Unl (M.led 0 u) s wd))) (ev_is (ev_slw (ev_var rfl) (ev_var rfl) W10.m ok (jv_three (ex_t e10 hs9) (ex_t e10 hw9) (ex_t e10 hd9)) (fits_three (by omega) (by omega))) (congrArg V.bl (decide_eq_decide.mpr hF))) (ev_var rfl) (fun H' e => ⟨.bl _, .bl _⟩) (fine_b _)))) (fun z => by cases z) fun _ H11 e11 => ?_
      have W11 := W10.ex e11
      have e911 := e10.trans e11
      -- told
      refine ⟨.ref pw, rfl, .ref ps, rfl, ps, _, 1, nV s, rfl, rfl, ex_t e911 hs9, atI_nat (j := 1) rfl, .ref pd, rfl, ?_⟩
      refine a_drawsX (a := row) (scr := scr) (ns := ns) (m := M.k) (fun k => 1 ≤ k ∧ k ≤ 2) (fun R' r => ⟨.ref row, rfl, row, scr, ns, 2, rfl, by decide, by decide, W11.r, fun n H12 hn x12 R12 => ⟨1, (n : Int), rfl, rfl, ?_⟩⟩) (fun _ => rfl)
        (fun i hi => draw_ok (by omega) (by omega) (by exact rfl) fun _ _ => by exact ev_var rfl) fun pl ls H12 hpl npl x12 R12 hl12 hlen hls => ⟨by show 4 ≤ sizeLine; decide, fun pt hpt => ?_⟩
      · have z := r (n + 1) H12 (by omega) ⟨by omega, by omega⟩ x12 R12
        rw [show ((n + 1 : Nat) : Int) = (1 : Int) + (n : Int) by omega] at z
        exact z
      have W12 := (W11.exb x12 R12).ex (Ex.new (o := .tup [.ref pw, nV s, .ref pd, .ref pl]) hpt)
      have tk12 : ∀ b xs, SqT K H9' b xs → SqT K (upd H12 pt (.tup [.ref pw, nV s, .ref pd, .ref pl])) b xs := fun b xs h => ex_t (Ex.new hpt) (W11.tk x12 _ _ (ex_t e911 h))
      have hw12 := tk12 _ _ hw9
      have hd12 := tk12 _ _ hd9
      have hl12' : SqT K (upd H12 pt (.tup [.ref pw, nV s, .ref pd, .ref pl])) pl (rowV ls) := ex_t (Ex.new hpt) (SqT.of hl12)
      have ht12 : SqT K (upd H12 pt (.tup [.ref pw, nV s, .ref pd, .ref pl])) pt [.ref pw, nV s, .ref pd, .ref pl] := SqT.of upd_same
      generalize upd H12 pt (.tup [.ref pw, nV s, .ref pd, .ref pl]) = H12' at W12 hw12 hd12 hl12' ht12
      obtain ⟨lx, la, rfl⟩ : ∃ x a, ls = x ++ [a] := by
        rcases List.eq_nil_or_concat ls with z | ⟨x, a, z⟩
        · subst z; simp at hlen
        · exact ⟨x, a, by rw [z, List.concat_eq_append]⟩
      rw [List.length_append, List.length_singleton] at hlen
      dsimp only
      have il := M.led_lt ok n1 hu
      -- right
      refine q_asg (v := nV (M.led 0 u)) (ev_led (ev_var rfl) ev_c (ev_var rfl) W12.m ok n1 hw12 hu) fun H13 e13 => ?_
      have W13 := W12.ex e13
      have hw13 := ex_t e13 hw12
      have hd13 := ex_t e13 hd12
      have hl13 := ex_t e13 hl12'
      have ht13 := ex_t e13 ht12
      -- fine
      refine q_asg (v := .bl (decide (o = none ∧ wd ≠ [] ∧ M.led (M.led 0 u) wd = M.led 0 u ∧ M.led s wd = s))) ?_ fun H14 e14 => ?_
      · refine ev_is (ev_andV (a := decide (o = none)) (ev_is (ev_op (x := oV o) (ev_var rfl) ev_c rv_isN) ?_) fun _ => ev_andV (a := decide (wd ≠ [])) ?_ fun _ => ev_andV (a := decide (M.led (M.led 0 u) wd = M.led 0 u)) (ev_is (ev_op (ev_led (ev_var rfl) (ev_var rfl) (ev_var rfl) W13.m ok il hd13 hwd) (ev_var rfl) (rv_eq rfl)) ?_) fun _ => ev_is (v := .bl (decide (nV (M.led s wd) = nV s))) (ev_op (ev_led (ev_var rfl) (ev_op (ev_var rfl) ev_c (rv_ixT ht13 (atI_nat (j := 1) rfl))) (ev_var rfl) W13.m ok hs hd13 hwd) (ev_op (ev_var rfl) ev_c (rv_ixT ht13 (atI_nat (j := 1) rfl))) (rv_eq rfl)) (w := .bl (decide (M.led s wd = s))) (congrArg V.bl (nV_dec _ _))) ?_
        · cases o <;> exact congrArg V.bl (by first | rfl | (rw [decide_eq_false (fun z => by cases z), decide_eq_false (fun z => by cases z)]))
        · refine ev_is (ev_opU (xs := rowV []) (ev_var rfl) (eu_tup ea_nil (by show 0 ≤ 100000; decide)) fun q H15 h15 e15 => ?_) rfl
          have := rv_neT (K := K) (s := []) (ex_t e15 hd13) (SqT.of h15)
          rw [← decide_not] at this
          exact this
        · exact congrArg V.bl (nV_dec _ _)
        · rw [← Bool.decide_and, ← Bool.decide_and, ← Bool.decide_and]
      have W14 := W13.ex e14
      have hG := showsN_four ok hL hu (by omega) hs hwd (by omega) hls (by rw [List.length_append, List.length_singleton]; omega)
      refine q_asg (v := .bl (decide ((o = none ∧ wd ≠ [] ∧ M.led (M.led 0 u) wd = M.led 0 u ∧ M.led s wd = s) ∧ M.Unl (M.led 0 u) s (lx ++ [la])))) ?_ fun H15 e15 => ?_
      · refine ev_is (ev_andV (ev_var rfl) fun _ => ev_op (x := nV (M.out (M.led (M.led 0 u) lx) la)) (y := nV (M.out (M.led s lx) la)) (ev_toldL (ev_var rfl) (ev_var rfl) (ev_op (ev_var rfl) ev_c (rv_ixT (ex_t e14 ht13) (atI_nat (j := 3) rfl))) W14.m ok il (ex_t e14 hl13) hls (by omega)) (ev_toldL (ev_var rfl) (ev_op (ev_var rfl) ev_c (rv_ixT (ex_t e14 ht13) (atI_nat (j := 1) rfl))) (ev_op (ev_var rfl) ev_c (rv_ixT (ex_t e14 ht13) (atI_nat (j := 3) rfl))) W14.m ok hs (ex_t e14 hl13) hls (by omega)) (rv_ne rfl)) ?_
        rw [nV_dec, ← decide_not, ← Bool.decide_and]
        exact congrArg V.bl (decide_eq_decide.mpr (and_congr Iff.rfl unl_snoc.symm))
      have W15 := W14.ex e15
      have e1315 := e14.trans e15
      refine s_when (b := false) (et_not (a := true) (et_B (ev_alike (x := .bl (decide ((o = none ∧ wd ≠ [] ∧ M.led (M.led 0 u) wd = M.led 0 u ∧ M.led s wd = s) ∧ M.Unl (M.led 0 u) s (lx ++ [la])))) (ev_is (ev_snf (ev_var rfl) (ev_var rfl) W15.m ok (jv_four (ex_t e1315 ht13) (ex_t e1315 hw13) (ex_t e1315 hd13) (ex_t e1315 hl13))) (congrArg V.bl (decide_eq_decide.mpr hG))) (ev_var rfl) (fun H' e => ⟨.bl _, .bl _⟩) (fine_b _)))) (fun z => by cases z) fun _ H16 e16 => ?_
      exact ⟨_, _, _, _, _, _, _, rfl, W15.ex e16⟩
    · rintro σ' H6 ⟨l6, l7, l8, l9, l10, l11, l12, rfl, W6⟩
      clear W5
      -- for bad in ..
      refine q_forJ (K := K) (xs := bads) (ejs_cons ej_lst0 (ejs_cons (ej_tup ejs_nil (by decide)) (ejs_cons (ej_tup (ejs_cons (ej_tup ejs_nil (by decide)) (ejs_cons ej_num ejs_nil)) (by decide))
        (ejs_cons (ej_tup (ejs_cons (ej_tup ejs_nil (by decide)) (ejs_cons ej_num (ejs_cons (ej_tup (ejs_cons ej_num ejs_nil) (by decide)) ejs_nil))) (by decide))
        (ejs_cons (ej_tup (ejs_cons (ej_tup ejs_nil (by decide)) (ejs_cons ej_bl (ejs_cons (ej_tup (ejs_cons ej_num ejs_nil) (by decide)) ejs_nil))) (by decide))
        (ejs_cons (ej_tup (ejs_cons ej_lst0 (ejs_cons ej_num (ejs_cons (ej_tup (ejs_cons ej_num ejs_nil) (by decide)) ejs_nil))) (by decide))
        (ejs_cons (ej_tup (ejs_cons (ej_tup ejs_nil (by decide)) (ejs_cons ej_num (ejs_cons (ej_tup ejs_nil (by decide)) ejs_nil))) (by decide))
        (ejs_cons ej_dic0 (ejs_cons ej_str
        (ejs_cons (ej_tup (ejs_cons (ej_tup (ejs_cons ej_num ejs_nil) (by decide)) (ejs_cons ej_num (ejs_cons (ej_tup (ejs_cons ej_num ejs_nil) (by decide)) (ejs_cons (ej_tup (ejs_cons ej_num ejs_nil) (by decide)) ejs_nil)))) (by decide))
        (ejs_cons (ej_tup (ejs_cons (ej_tup ejs_nil (by decide)) (ejs_cons ej_num (ejs_cons (ej_tup ejs_nil (by decide)) (ejs_cons (ej_tup (ejs_cons ej_num ejs_nil) (by decide)) ejs_nil)))) (by decide)) ejs_nil))))))))))) (by decide)
        (fun i σ' H' => ∃ l13, σ' = [some (.ref scr), some (.ref row), some (.ref am), some (.int (M.k : Int)), some (oV o), some vv, l6, l7, l8, l9, l10, l11, l12, l13, none, none, none, none] ∧ LwOk K H' row scr ns Pc (.ref am) M) (fun H7 e7 => ⟨none, rfl, W6.ex e7⟩) ?_ ?_
      · rintro Hl i x z σ' H7 e7 hx hz ⟨l13, rfl, W7⟩
        obtain ⟨b1, b2, b3⟩ := not_bads hn5 hk2 x (List.mem_of_getElem? hx)
        refine s_when (b := false) (et_or (a := false) (et_is (et_test (ev_op (ev_is (ev_slw (x := x) (ev_var rfl) (ev_var rfl) W7.m ok hz b1) (congrArg V.bl (decide_eq_false b2))) ev_c rv_notB)) rfl) fun _ => et_is (et_test (ev_op (ev_is (ev_snf (x := x) (ev_var rfl) (ev_var rfl) W7.m ok hz) (congrArg V.bl (decide_eq_false b3))) ev_c rv_notB)) rfl) (fun z => by cases z) fun _ H8 e8 => ?_
        exact ⟨e7.trans e8, _, rfl, W7.ex e8⟩
      rintro σ' H7 ⟨l13, rfl, W7⟩
      clear W6
      cases o with
      | none =>
        -- due is None
        refine q_when (b := true) (et_isN (i := 4) (v := .non) rfl) (fun _ H8 e8 => ?_) (fun z => by cases z)
        have W8 := W7.ex e8
        refine ⟨.ref am, rfl, .ref am, M, rfl, W8.m, ok, hL, fun r u s ag ls H9 e9 N => ?_⟩
        have W9 := W8.ex e9
        obtain ⟨⟨t, a1, a2, a3, rfl, ht, hS1, hS2, hS3⟩, lu, ul, la, al, ne, ll, lsl, st, r1, r2, unl⟩ := N
        refine q_when (b := false) (et_or (a := false) (et_is (et_test (ev_op (ev_is (ev_snf (x := .tup [rowJ u, .num (s : Int), rowJ ag, rowJ ls]) (ev_var rfl) (ev_var rfl) W9.m ok (jv_four (SqT.of ht) hS1 hS2 hS3)) (congrArg V.bl (decide_eq_true ((showsN_four ok hL lu (by omega) st la (by omega) ll (by omega)).mpr ⟨⟨rfl, ne, r1, r2⟩, unl⟩)))) ev_c rv_notB)) rfl) fun _ => et_is (et_test (ev_op (x := oV (Option.map (· + 1) none)) (ev_window (ev_var rfl) W9.m ok hL) ev_c rv_notN)) rfl) (fun z => by cases z) fun _ H10 e10 => ?_
        have W10 := W9.ex e10
        -- refused(lambda: window_table(machine))
        refine ⟨W10.t, fun H11 eN T11 => ?_⟩
        have W11 := W10.extN eN T11
        refine ⟨.ref am, rfl, .ref am, M, rfl, W11.m, ok, hL, fun C H12 gC e12 => ⟨rfl, "Remembers", "remembers", C, by decide, gC, rfl, fun H13 e13 => ⟨rfl, _, rfl, iteNe ?_⟩⟩⟩
        have W13 := (W11.ex e12).ex e13
        -- return ..
        refine ⟨W13.t, fun H14 eN T14 => ?_⟩
        have W14 := W13.extN eN T14
        refine ⟨.ref am, rfl, by show 1 ≤ sizeLine; decide, fun pz hpz => ?_⟩
        have W15 := W14.ex (Ex.new (o := .tup [.int 0]) hpz)
        refine ⟨.ref am, M, pz, [0], rfl, W15.m, ok, SqT.of upd_same, by decide, fun x hx => ?_, .inr ⟨hL, by decide, fun C H16 gC e16 => ⟨rfl, "Remembers", "remembers", C, by decide, gC, rfl, fun H17 e17 => ⟨rfl, true, rfl, ?_⟩⟩⟩⟩
        · rw [List.mem_singleton] at hx
          omega
        have W17 := (W15.ex e16).ex e17
        refine (ev_is (ev_op (ev_is (ev_slw (x := .non) (ev_var rfl) ev_c W17.m ok .non trivial) (congrArg V.bl (decide_eq_true (show Shows M .non from .inl ⟨.inl hL, rfl⟩)))) ev_c rv_isB) (w := .bl true) rfl) _ (Ex.refl _) _ fun H18 e18 => q H18
      | some n =>
        have hnN := hle5 n rfl
        refine q_when (b := false) (et_isN (i := 4) (v := nV n) rfl) (fun z => by cases z) (fun _ H8 e8 => ?_)
        have W8 := W7.ex e8
        -- refused(lambda: never_forgets(machine))
        refine ⟨W8.t, fun H9 eN T9 => ?_⟩
        have W9 := W8.extN eN T9
        refine ⟨.ref am, rfl, .ref am, M, n, rfl, W9.m, ok, hL, fun C H10 gC e10 => ⟨rfl, "Forgets", "forgets", C, by decide, gC, rfl, fun H11 e11 => ⟨rfl, _, rfl, iteNe ?_⟩⟩⟩
        have W11 := (W9.ex e10).ex e11
        refine (et_is (et_test (ev_op (x := nV (n + 1)) (y := .int ((n : Int) + 1)) (ev_window (o := some n) (ev_var rfl) W11.m ok hL) (ev_op (x := nV n) (ev_var rfl) ev_c rv_I0) (rv_ne rfl))) (show (!decide (nV (n + 1) = .int ((n : Int) + 1))) = false by rw [decide_eq_true (show nV (n + 1) = .int ((n : Int) + 1) from rfl)]; rfl)) _ (Ex.refl _) _ fun H12 e12 => ?_
        have W12 := W11.ex e12
        refine iteFF ?_
        unfold tNext
        dsimp only
        -- word
        refine q_drawsT (a := row) (scr := scr) (ns := ns) (m := M.k) (fun k => n + 1 ≤ k ∧ k ≤ n + 4) (fun R' r => ⟨nV n, rfl, _, _, rfl, rfl, .ref row, rfl, row, scr, ns, 4, rfl, by decide, by decide, W12.r, fun m H13 hm x13 R13 => ⟨_, (m : Int), rfl, rfl, ?_⟩⟩) (fun _ => rfl)
          (fun i hi => draw_ok (by omega) (by omega) (by exact rfl) fun _ _ => by exact ev_var rfl) fun pd wd H13 hpd npd x13 R13 hd13 hwl hwd => ?_
        · have z := r (n + 1 + m) H13 (by omega) ⟨by omega, by omega⟩ x13 R13
          rw [show ((n + 1 + m : Nat) : Int) = ((n : Int) + 1) + (m : Int) by omega] at z
          exact z
        have W13 := W12.exb x13 R13
        obtain ⟨u, a, rfl⟩ : ∃ x a, wd = x ++ [a] := by
          rcases List.eq_nil_or_concat wd with z | ⟨x, a, z⟩
          · subst z; simp at hwl
          · exact ⟨x, a, by rw [z, List.concat_eq_append]⟩
        rw [List.length_append, List.length_singleton] at hwl
        have same : ∀ i, i < M.st.length → M.out (M.led i u) a = M.out (M.led 0 u) a := fun i hi => hL.alike hi n1 hwd (by omega)
        obtain ⟨am', x', y', e', hSm, ⟨ax', vx', rfl, hSx, hPx⟩, _⟩ := id W13.m
        cases e'
        have hvx' : vx'.length = M.st.length := Paired.length hPx
        -- some
        refine q_asgL (xs := gvn M.st.length fun _ => nV (M.out (M.led 0 u) a)) ?_ fun psm H14 hpsm e14 hs14 => ?_
        · have big := el_lcRv (σ := [some (.ref scr), some (.ref row), some (.ref am), some (.int (M.k : Int)), some (nV n), some vv, l6, l7, some (.ref pd), l9, l10, l11, l12, l13, none, none, none, none]) (H := H13) (ta := tCons (tCB (rLenS K) (tCons (tOp (rIxT K) (tVar 2) (tC (.int 0))) tNil)) tNil) (j := 16) (vs := [16]) (n := (M.st.length : Int)) (te := tOp (rIxT K) (tCall (sp_told K) [] E0 (tCons (tVar 2) (tCons (tVar 16) (tCons (tVar 8) tNil)))) (tUn (rU fun i => .int (-i)) (tC (.int 1)))) (fun _ => nV (M.out (M.led 0 u) a)) (ea_cons (ev_is (ev_lenT (ev_op (ev_var rfl) ev_c (rv_ixT hSm (atI_nat (j := 0) rfl))) hSx) (by rw [hvx'])) ea_nil) ⟨by omega, by omega⟩ (fun _ => rfl) (fun i H' e' hi => ?_)
          · rw [Int.toNat_natCast] at big
            exact big
          · rw [← same i (by omega)]
            exact ev_toldL (ev_var rfl) (ev_var rfl) (ev_var rfl) (W13.ex e').m ok (by omega) (ex_t e' (SqT.of hd13)) hwd (by omega)
        have W14 := W13.ex e14
        have hd14 := e14 _ _ hd13
        -- comes
        refine q_asgL (el_comes (M := M) (c := nV (M.out (M.led 0 u) a)) (ev_var rfl) W14.m ok (fun _ => rfl) fun i H' e' hi => ?_) fun pc H15 hpc e15 hc15 => ?_
        · refine ev_op (ev_var rfl) (ev_var rfl) (rv_ixL (sq_of (e' _ _ hs14)) (atI_nat (j := i) ?_))
          unfold gvn
          rw [List.getElem?_map, List.getElem?_range (hi.lt ok)]
          rfl
        have W15 := W14.ex e15
        have hs15 := e15 _ _ hs14
        have hd15 := e15 _ _ hd14
        have hc0 : (gvn (nR M) fun _ => nV (M.out (M.led 0 u) a))[0]? = some (nV (M.out (M.led 0 u) a)) := by
          unfold gvn
          rw [List.getElem?_map, List.getElem?_range (nR_pos ok).1]
          rfl
        -- if [..] != [] or ..
        refine q_when (b := false) (et_or (a := false) (et_is (et_test (ev_opLL (xs := rowV []) (ys := rowV []) ?_ (el_lst ea_nil (by show 0 ≤ 100000; decide)) fun p1 q1 H' h1 h2 e' => rv_neRows (sq_of h1) (sq_of h2))) rfl) fun _ => et_is (et_test (ev_op (x := nV (M.out (M.led 0 u) a)) (y := nV (M.out (M.led 0 u) a)) (ev_callV (ea_cons (ev_var rfl) (ea_cons (ev_var rfl) ea_nil)) fun H' e' Q' q' => ⟨.ref am, M, pd, u, a, n, rfl, (W15.ex e').m, ok, SqT.of (e' _ _ hd15), by omega, hwd, hL, by omega, q'⟩) (ev_op (ev_var rfl) ev_c (rv_ixL (sq_of hc15) (atI_nat (j := 0) hc0))) (rv_ne rfl))) ?_) (fun z => by cases z) fun _ H16 e16 => ?_
        · have big := el_lcL (K := K) (σ := [some (.ref scr), some (.ref row), some (.ref am), some (.int (M.k : Int)), some (nV n), some vv, l6, l7, some (.ref pd), some (.ref psm), l10, l11, l12, l13, some (.ref pc), none, none, none]) (H := H15) (tl := tVar 9) (a := psm) (xs := gvn M.st.length fun _ => nV (M.out (M.led 0 u) a)) (j := 17) (vs := [17]) (te := tVar 17) (t := tTest (tOp rNe (tVar 17) (tOp (rIxL K) (tVar 14) (tC (.int 0))))) (fun _ => false) (fun _ => V.non) (ev_var rfl) (sq_of hs15) (by rw [gvn_len]; omega) (fun _ => rfl) (fun i z H' e' hz => ?_) (fun i z H' e' hz hf => by cases hf)
          · rw [given_none] at big
            exact big
          · have hz' : z = nV (M.out (M.led 0 u) a) := by
              unfold gvn at hz
              rw [List.getElem?_map] at hz
              cases er : (List.range M.st.length)[i]? with
              | none => rw [er] at hz; cases hz
              | some k => rw [er] at hz; exact (Option.some.inj hz).symm
            subst hz'
            refine et_is (et_test (ev_op (ev_var rfl) (ev_op (ev_var rfl) ev_c (rv_ixL (sq_of (e' _ _ hc15)) (atI_nat (j := 0) hc0))) (rv_ne rfl))) ?_
            rw [decide_eq_true rfl]
            rfl
        · rw [decide_eq_true rfl]
          rfl
        have W16 := W15.ex e16
        have hd16 := e16 _ _ hd15
        -- refused(lambda: window_answer(machine, word[:due]))
        refine ⟨W16.t, fun H17 eN T17 => ?_⟩
        have W17 := W16.extN eN T17
        have hd17 : SqT K H17 pd (rowV (u ++ [a])) := TK.extN eN _ _ (SqT.of hd16)
        refine ⟨.ref am, rfl, .ref pd, rfl, nV n, rfl, (n : Int), rfl, pd, _, rfl, hd17, ?_, fun pk hpk => ?_⟩
        · rintro ⟨_, h⟩
          rw [HT.sIx_nat, rowV_len, List.length_append, List.length_singleton] at h
          omega
        have W18 := W17.ex (Ex.new (o := .tup (cutV (rowV (u ++ [a])) none (some (n : Int)))) hpk)
        have hk18 : SqT K (upd H17 pk (.tup (cutV (rowV (u ++ [a])) none (some (n : Int))))) pk (rowV ((u ++ [a]).take n)) := SqT.of (by rw [cut_to _ (by rw [List.length_append, List.length_singleton]; omega)]; exact upd_same)
        generalize upd H17 pk (.tup (cutV (rowV (u ++ [a])) none (some (n : Int)))) = H18 at W18 hk18
        refine ⟨.ref am, M, pk, (u ++ [a]).take n, rfl, W18.m, ok, hk18, by rw [List.length_take, List.length_append]; omega, fun x hx => hwd x (List.mem_of_mem_take hx), .inl ⟨n, hL, by rw [List.length_take]; omega, fun C H19 gC e19 => ⟨rfl, "BadLetters", "letters", C, by decide, gC, rfl, fun H20 e20 => ⟨rfl, _, rfl, iteNe ?_⟩⟩⟩⟩
        have W20 := (W18.ex e19).ex e20
        obtain ⟨am', x', y', e', hSm2, ⟨ax', vx2, rfl, hSx2, hPx2⟩, _⟩ := id W20.m
        cases e'
        have hvx2 : vx2.length = M.st.length := Paired.length hPx2
        -- if due >= len(machine[0])
        refine q_when (b := false) (et_is (et_test (ev_op (x := nV n) (ev_var rfl) (ev_lenT (ev_op (ev_var rfl) ev_c (rv_ixT hSm2 (atI_nat (j := 0) rfl))) hSx2) rv_I0)) (decide_eq_false (by omega))) (fun z => by cases z) fun _ H21 e21 => ?_
        have W21 := W20.ex e21
        -- return alike(window_table(machine), ..)
        refine ⟨.ref am, rfl, .ref am, M, n, rfl, W21.m, ok, hL, fun p1 H22 hp1 e22 hp22 => ?_⟩
        have W22 := W21.ex e22
        have k3 := ok.k3
        have hb := pow_small (k := M.k) k3 (n := n + 1) (by omega)
        refine ⟨_, rfl, nV n, rfl, _, _, rfl, rfl, M.k, n + 1, rfl, k1, by omega, hb, fun p2 H23 refs hp2 e23 h23 hR => ?_⟩
        have W23 := W22.ex e23
        have hrl : refs.length = (wordsOf M.k (n + 1)).length := Paired.length hR
        have hrl' := hrl
        rw [wordsOf_len] at hrl'
        have big := el_lcLv (K := K) (σ := [some (.ref scr), some (.ref row), some (.ref am), some (.int (M.k : Int)), some (nV n), some vv, l6, l7, some (.ref pd), some (.ref psm), l10, l11, l12, l13, some (.ref pc), none, none, none]) (H := H23) (a := p2) (xs := refs) (tl := tC (.ref p2)) (j := 8) (vs := [8]) (te := tOp (rIxT K) (tCall (sp_told K) [] E0 (tCons (tVar 2) (tCons (tC (.int 0)) (tCons (tVar 8) tNil)))) (tUn (rU fun i => .int (-i)) (tC (.int 1)))) (fun i => nV (loOf M 0 ((wordsOf M.k (n + 1)).getD i []))) ev_c (sq_of h23) (by omega) (fun _ => rfl) (fun i z H4 e4 hz => ?_)
        · rw [hrl, gvn_tab] at big
          refine big H23 (Ex.refl _) (fun x H4 => rTupOf K [x] H4 fun y H5 => sp_la K 3 [.ref p1, y] H5 Q E0) fun q3 H24 hq3 e24 h24 => ⟨q3, _, rfl, Or.inl ⟨sq_of h24, fun p3 hp3 => ?_⟩⟩
          have e25 : Ex H24 (upd H24 p3 (.tup (rowV ((wordsOf M.k (n + 1)).map (loOf M 0))))) := Ex.new hp3
          exact ⟨.ref p1, .ref p3, rowP (tabRow M n), rfl, .tup (SqT.of (e25 _ _ (e24 _ _ (e23 _ _ hp22)))) (dp_row _), .tup (SqT.of upd_same) (dp_row _), fine_row (n := 2) (by unfold tabRow; rw [List.length_map, wordsOf_len]; omega), fun H26 e26 => q H26⟩
        · obtain ⟨x, hx, hzr⟩ := Paired.get' hR hz
          obtain ⟨av, rfl, hru⟩ := hzr.keep (TK.ex e4)
          obtain ⟨hul, huk⟩ := wordsOf_each x (List.mem_of_getElem? hx)
          obtain ⟨y, b, rfl⟩ : ∃ y b, x = y ++ [b] := by
            rcases List.eq_nil_or_concat x with z | ⟨y, b, z⟩
            · subst z; simp at hul
            · exact ⟨y, b, by rw [z, List.concat_eq_append]⟩
          rw [List.length_append, List.length_singleton] at hul
          refine ev_is (ev_toldL (i := 0) (u := y) (a := b) (ev_var rfl) ev_c (ev_var rfl) (W23.ex e4).m ok n1 hru huk (by omega)) ?_
          rw [List.getD_eq_getElem?_getD, hx]
          show _ = nV (loOf M 0 (y ++ [b]))
          rw [loOf_snoc]
end

end Kx

namespace Kx
open PySem PySem.Spec PyProof.Rows L2
theorem all_mk {l : PySem.W.OpenLaw} {w : World} {K : PySem.W.Frag} {h : Heap} {mg : Str → Option Value} {fa : Addr} (X : K.In h) (G : h.Ns mainGlobals mg) (hfa : mg "law" = some (.ref fa)) (own : LamX.OwnTab K fa h)
    {f_is_integer : Addr} {od_is_integer an_is_integer : Option Addr} {sl_is_integer : Array (Option Value)} {oc_is_integer kV_is_integer dc_is_integer pm_is_integer cd_is_integer ct_is_integer : Value}
    {f_is_tuple : Addr} {od_is_tuple an_is_tuple : Option Addr} {sl_is_tuple : Array (Option Value)} {oc_is_tuple kV_is_tuple dc_is_tuple pm_is_tuple cd_is_tuple ct_is_tuple : Value}
    {f_is_row : Addr} {od_is_row an_is_row : Option Addr} {sl_is_row : Array (Option Value)} {oc_is_row kV_is_row dc_is_row pm_is_row cd_is_row ct_is_row : Value}
    {f_is_table : Addr} {od_is_table an_is_table : Option Addr} {sl_is_table : Array (Option Value)} {oc_is_table kV_is_table dc_is_table pm_is_table cd_is_table ct_is_table : Value}
    {f_is_steps : Addr} {od_is_steps an_is_steps : Option Addr} {sl_is_steps : Array (Option Value)} {oc_is_steps kV_is_steps dc_is_steps pm_is_steps cd_is_steps ct_is_steps : Value}
    {f_check_machine : Addr} {od_check_machine an_check_machine : Option Addr} {sl_check_machine : Array (Option Value)} {oc_check_machine kV_check_machine dc_check_machine pm_check_machine cd_check_machine ct_check_machine : Value}
    {f_is_state : Addr} {od_is_state an_is_state : Option Addr} {sl_is_state : Array (Option Value)} {oc_is_state kV_is_state dc_is_state pm_is_state cd_is_state ct_is_state : Value}
    {f_is_word : Addr} {od_is_word an_is_word : Option Addr} {sl_is_word : Array (Option Value)} {oc_is_word kV_is_word dc_is_word pm_is_word cd_is_word ct_is_word : Value}
    {f_is_short_word : Addr} {od_is_short_word an_is_short_word : Option Addr} {sl_is_short_word : Array (Option Value)} {oc_is_short_word kV_is_short_word dc_is_short_word pm_is_short_word cd_is_short_word ct_is_short_word : Value}
    {f_check_word : Addr} {od_check_word an_check_word : Option Addr} {sl_check_word : Array (Option Value)} {oc_check_word kV_check_word dc_check_word pm_check_word cd_check_word ct_check_word : Value}
    {f_state_behind : Addr} {od_state_behind an_state_behind : Option Addr} {sl_state_behind : Array (Option Value)} {oc_state_behind kV_state_behind dc_state_behind pm_state_behind cd_state_behind ct_state_behind : Value}
    {f_last_answer : Addr} {od_last_answer an_last_answer : Option Addr} {sl_last_answer : Array (Option Value)} {oc_last_answer kV_last_answer dc_last_answer pm_last_answer cd_last_answer ct_last_answer : Value}
    {f_ways_to_states : Addr} {od_ways_to_states an_ways_to_states : Option Addr} {sl_ways_to_states : Array (Option Value)} {oc_ways_to_states kV_ways_to_states dc_ways_to_states pm_ways_to_states cd_ways_to_states ct_ways_to_states : Value}
    {f_unlike_letters : Addr} {od_unlike_letters an_unlike_letters : Option Addr} {sl_unlike_letters : Array (Option Value)} {oc_unlike_letters kV_unlike_letters dc_unlike_letters pm_unlike_letters cd_unlike_letters ct_unlike_letters : Value}
    {f_pair_behind : Addr} {od_pair_behind an_pair_behind : Option Addr} {sl_pair_behind : Array (Option Value)} {oc_pair_behind kV_pair_behind dc_pair_behind pm_pair_behind cd_pair_behind ct_pair_behind : Value}
    {f_letters_into : Addr} {od_letters_into an_letters_into : Option Addr} {sl_letters_into : Array (Option Value)} {oc_letters_into kV_letters_into dc_letters_into pm_letters_into cd_letters_into ct_letters_into : Value}
    {f_late_layers : Addr} {od_late_layers an_late_layers : Option Addr} {sl_late_layers : Array (Option Value)} {oc_late_layers kV_late_layers dc_late_layers pm_late_layers cd_late_layers ct_late_layers : Value}
    {f_late_walk : Addr} {od_late_walk an_late_walk : Option Addr} {sl_late_walk : Array (Option Value)} {oc_late_walk kV_late_walk dc_late_walk pm_late_walk cd_late_walk ct_late_walk : Value}
    {f_round_on : Addr} {od_round_on an_round_on : Option Addr} {sl_round_on : Array (Option Value)} {oc_round_on kV_round_on dc_round_on pm_round_on cd_round_on ct_round_on : Value}
    {f_letters_on : Addr} {od_letters_on an_letters_on : Option Addr} {sl_letters_on : Array (Option Value)} {oc_letters_on kV_letters_on dc_letters_on pm_letters_on cd_letters_on ct_letters_on : Value}
    {f_late : Addr} {od_late an_late : Option Addr} {sl_late : Array (Option Value)} {oc_late kV_late dc_late pm_late cd_late ct_late : Value}
    {f_late_word : Addr} {od_late_word an_late_word : Option Addr} {sl_late_word : Array (Option Value)} {oc_late_word kV_late_word dc_late_word pm_late_word cd_late_word ct_late_word : Value}
    {f_answer_unlike : Addr} {od_answer_unlike an_answer_unlike : Option Addr} {sl_answer_unlike : Array (Option Value)} {oc_answer_unlike kV_answer_unlike dc_answer_unlike pm_answer_unlike cd_answer_unlike ct_answer_unlike : Value}
    {f_shows_late_word : Addr} {od_shows_late_word an_shows_late_word : Option Addr} {sl_shows_late_word : Array (Option Value)} {oc_shows_late_word kV_shows_late_word dc_shows_late_word pm_shows_late_word cd_shows_late_word ct_shows_late_word : Value}
    {f_never_forgets : Addr} {od_never_forgets an_never_forgets : Option Addr} {sl_never_forgets : Array (Option Value)} {oc_never_forgets kV_never_forgets dc_never_forgets pm_never_forgets cd_never_forgets ct_never_forgets : Value}
    {f_shows_never_forgets : Addr} {od_shows_never_forgets an_shows_never_forgets : Option Addr} {sl_shows_never_forgets : Array (Option Value)} {oc_shows_never_forgets kV_shows_never_forgets dc_shows_never_forgets pm_shows_never_forgets cd_shows_never_forgets ct_shows_never_forgets : Value}
    {f_window : Addr} {od_window an_window : Option Addr} {sl_window : Array (Option Value)} {oc_window kV_window dc_window pm_window cd_window ct_window : Value}
    {f_window_answer : Addr} {od_window_answer an_window_answer : Option Addr} {sl_window_answer : Array (Option Value)} {oc_window_answer kV_window_answer dc_window_answer pm_window_answer cd_window_answer ct_window_answer : Value}
    {f_words_of : Addr} {od_words_of an_words_of : Option Addr} {sl_words_of : Array (Option Value)} {oc_words_of kV_words_of dc_words_of pm_words_of cd_words_of ct_words_of : Value}
    {f_window_table : Addr} {od_window_table an_window_table : Option Addr} {sl_window_table : Array (Option Value)} {oc_window_table kV_window_table dc_window_table pm_window_table cd_window_table ct_window_table : Value}
    {f_law_taken : Addr} {od_law_taken an_law_taken : Option Addr} {sl_law_taken : Array (Option Value)} {oc_law_taken kV_law_taken dc_law_taken pm_law_taken cd_law_taken ct_law_taken : Value}
    {f_law_machine : Addr} {od_law_machine an_law_machine : Option Addr} {sl_law_machine : Array (Option Value)} {oc_law_machine kV_law_machine dc_law_machine pm_law_machine cd_law_machine ct_law_machine : Value}
    {f_law_comes : Addr} {od_law_comes an_law_comes : Option Addr} {sl_law_comes : Array (Option Value)} {oc_law_comes kV_law_comes dc_law_comes pm_law_comes cd_law_comes ct_law_comes : Value}
    {f_law_sets : Addr} {od_law_sets an_law_sets : Option Addr} {sl_law_sets : Array (Option Value)} {oc_law_sets kV_law_sets dc_law_sets pm_law_sets cd_law_sets ct_law_sets : Value}
    {f_law_late : Addr} {od_law_late an_law_late : Option Addr} {sl_law_late : Array (Option Value)} {oc_law_late kV_law_late dc_law_late pm_law_late cd_law_late ct_law_late : Value}
    {f_law_alike : Addr} {od_law_alike an_law_alike : Option Addr} {sl_law_alike : Array (Option Value)} {oc_law_alike kV_law_alike dc_law_alike pm_law_alike cd_law_alike ct_law_alike : Value}
    {f_law_led : Addr} {od_law_led an_law_led : Option Addr} {sl_law_led : Array (Option Value)} {oc_law_led kV_law_led dc_law_led pm_law_led cd_law_led ct_law_led : Value}
    {f_law_told : Addr} {od_law_told an_law_told : Option Addr} {sl_law_told : Array (Option Value)} {oc_law_told kV_law_told dc_law_told pm_law_told cd_law_told ct_law_told : Value}
    {f_law_is_late : Addr} {od_law_is_late an_law_is_late : Option Addr} {sl_law_is_late : Array (Option Value)} {oc_law_is_late kV_law_is_late dc_law_is_late pm_law_is_late cd_law_is_late ct_law_is_late : Value}
    {f_law_refused : Addr} {od_law_refused an_law_refused : Option Addr} {sl_law_refused : Array (Option Value)} {oc_law_refused kV_law_refused dc_law_refused pm_law_refused cd_law_refused ct_law_refused : Value}
    {f_law_words : Addr} {od_law_words an_law_words : Option Addr} {sl_law_words : Array (Option Value)} {oc_law_words kV_law_words dc_law_words pm_law_words cd_law_words ct_law_words : Value}
    {f_law : Addr} {od_law an_law : Option Addr} {sl_law : Array (Option Value)} {oc_law kV_law dc_law pm_law ct_law : Value}
    {cc_law Pc_law : Addr} {xe_law : Value} {xd_law : Option Addr} {xv_law : Array Value} {xs_law : Array (Option Value)}
    (a_is_integer : PySem.W.nsIn K mainGlobals "is_integer" = some (some (.ref f_is_integer))) (l_is_integer : K.lookup f_is_integer = some ⟨oc_is_integer, od_is_integer, .func (PySem.W.fnOf "is_integer" "is_integer" (defArgs s_is_integer) (defBody s_is_integer) (defScope s_is_integer) .none kV_is_integer dc_is_integer pm_is_integer an_is_integer cd_is_integer ct_is_integer), sl_is_integer⟩) (c_is_integer : PySem.W.codeIn K cd_is_integer "is_integer" = true) (k_is_integer : PySem.W.keepIn K (.ref f_is_integer) = true)
    (a_is_tuple : PySem.W.nsIn K mainGlobals "is_tuple" = some (some (.ref f_is_tuple))) (l_is_tuple : K.lookup f_is_tuple = some ⟨oc_is_tuple, od_is_tuple, .func (PySem.W.fnOf "is_tuple" "is_tuple" (defArgs s_is_tuple) (defBody s_is_tuple) (defScope s_is_tuple) .none kV_is_tuple dc_is_tuple pm_is_tuple an_is_tuple cd_is_tuple ct_is_tuple), sl_is_tuple⟩) (c_is_tuple : PySem.W.codeIn K cd_is_tuple "is_tuple" = true) (k_is_tuple : PySem.W.keepIn K (.ref f_is_tuple) = true)
    (a_is_row : PySem.W.nsIn K mainGlobals "is_row" = some (some (.ref f_is_row))) (l_is_row : K.lookup f_is_row = some ⟨oc_is_row, od_is_row, .func (PySem.W.fnOf "is_row" "is_row" (defArgs s_is_row) (defBody s_is_row) (defScope s_is_row) .none kV_is_row dc_is_row pm_is_row an_is_row cd_is_row ct_is_row), sl_is_row⟩) (c_is_row : PySem.W.codeIn K cd_is_row "is_row" = true) (k_is_row : PySem.W.keepIn K (.ref f_is_row) = true)
    (a_is_table : PySem.W.nsIn K mainGlobals "is_table" = some (some (.ref f_is_table))) (l_is_table : K.lookup f_is_table = some ⟨oc_is_table, od_is_table, .func (PySem.W.fnOf "is_table" "is_table" (defArgs s_is_table) (defBody s_is_table) (defScope s_is_table) .none kV_is_table dc_is_table pm_is_table an_is_table cd_is_table ct_is_table), sl_is_table⟩) (c_is_table : PySem.W.codeIn K cd_is_table "is_table" = true) (k_is_table : PySem.W.keepIn K (.ref f_is_table) = true)
    (a_is_steps : PySem.W.nsIn K mainGlobals "is_steps" = some (some (.ref f_is_steps))) (l_is_steps : K.lookup f_is_steps = some ⟨oc_is_steps, od_is_steps, .func (PySem.W.fnOf "is_steps" "is_steps" (defArgs s_is_steps) (defBody s_is_steps) (defScope s_is_steps) .none kV_is_steps dc_is_steps pm_is_steps an_is_steps cd_is_steps ct_is_steps), sl_is_steps⟩) (c_is_steps : PySem.W.codeIn K cd_is_steps "is_steps" = true) (k_is_steps : PySem.W.keepIn K (.ref f_is_steps) = true)
    (a_check_machine : PySem.W.nsIn K mainGlobals "check_machine" = some (some (.ref f_check_machine))) (l_check_machine : K.lookup f_check_machine = some ⟨oc_check_machine, od_check_machine, .func (PySem.W.fnOf "check_machine" "check_machine" (defArgs s_check_machine) (defBody s_check_machine) (defScope s_check_machine) .none kV_check_machine dc_check_machine pm_check_machine an_check_machine cd_check_machine ct_check_machine), sl_check_machine⟩) (c_check_machine : PySem.W.codeIn K cd_check_machine "check_machine" = true) (k_check_machine : PySem.W.keepIn K (.ref f_check_machine) = true)
    (a_is_state : PySem.W.nsIn K mainGlobals "is_state" = some (some (.ref f_is_state))) (l_is_state : K.lookup f_is_state = some ⟨oc_is_state, od_is_state, .func (PySem.W.fnOf "is_state" "is_state" (defArgs s_is_state) (defBody s_is_state) (defScope s_is_state) .none kV_is_state dc_is_state pm_is_state an_is_state cd_is_state ct_is_state), sl_is_state⟩) (c_is_state : PySem.W.codeIn K cd_is_state "is_state" = true) (k_is_state : PySem.W.keepIn K (.ref f_is_state) = true)
    (a_is_word : PySem.W.nsIn K mainGlobals "is_word" = some (some (.ref f_is_word))) (l_is_word : K.lookup f_is_word = some ⟨oc_is_word, od_is_word, .func (PySem.W.fnOf "is_word" "is_word" (defArgs s_is_word) (defBody s_is_word) (defScope s_is_word) .none kV_is_word dc_is_word pm_is_word an_is_word cd_is_word ct_is_word), sl_is_word⟩) (c_is_word : PySem.W.codeIn K cd_is_word "is_word" = true) (k_is_word : PySem.W.keepIn K (.ref f_is_word) = true)
    (a_is_short_word : PySem.W.nsIn K mainGlobals "is_short_word" = some (some (.ref f_is_short_word))) (l_is_short_word : K.lookup f_is_short_word = some ⟨oc_is_short_word, od_is_short_word, .func (PySem.W.fnOf "is_short_word" "is_short_word" (defArgs s_is_short_word) (defBody s_is_short_word) (defScope s_is_short_word) .none kV_is_short_word dc_is_short_word pm_is_short_word an_is_short_word cd_is_short_word ct_is_short_word), sl_is_short_word⟩) (c_is_short_word : PySem.W.codeIn K cd_is_short_word "is_short_word" = true) (k_is_short_word : PySem.W.keepIn K (.ref f_is_short_word) = true)
    (a_check_word : PySem.W.nsIn K mainGlobals "check_word" = some (some (.ref f_check_word))) (l_check_word : K.lookup f_check_word = some ⟨oc_check_word, od_check_word, .func (PySem.W.fnOf "check_word" "check_word" (defArgs s_check_word) (defBody s_check_word) (defScope s_check_word) .none kV_check_word dc_check_word pm_check_word an_check_word cd_check_word ct_check_word), sl_check_word⟩) (c_check_word : PySem.W.codeIn K cd_check_word "check_word" = true) (k_check_word : PySem.W.keepIn K (.ref f_check_word) = true)
    (a_state_behind : PySem.W.nsIn K mainGlobals "state_behind" = some (some (.ref f_state_behind))) (l_state_behind : K.lookup f_state_behind = some ⟨oc_state_behind, od_state_behind, .func (PySem.W.fnOf "state_behind" "state_behind" (defArgs s_state_behind) (defBody s_state_behind) (defScope s_state_behind) .none kV_state_behind dc_state_behind pm_state_behind an_state_behind cd_state_behind ct_state_behind), sl_state_behind⟩) (c_state_behind : PySem.W.codeIn K cd_state_behind "state_behind" = true) (k_state_behind : PySem.W.keepIn K (.ref f_state_behind) = true)
    (a_last_answer : PySem.W.nsIn K mainGlobals "last_answer" = some (some (.ref f_last_answer))) (l_last_answer : K.lookup f_last_answer = some ⟨oc_last_answer, od_last_answer, .func (PySem.W.fnOf "last_answer" "last_answer" (defArgs s_last_answer) (defBody s_last_answer) (defScope s_last_answer) .none kV_last_answer dc_last_answer pm_last_answer an_last_answer cd_last_answer ct_last_answer), sl_last_answer⟩) (c_last_answer : PySem.W.codeIn K cd_last_answer "last_answer" = true) (k_last_answer : PySem.W.keepIn K (.ref f_last_answer) = true)
    (a_ways_to_states : PySem.W.nsIn K mainGlobals "ways_to_states" = some (some (.ref f_ways_to_states))) (l_ways_to_states : K.lookup f_ways_to_states = some ⟨oc_ways_to_states, od_ways_to_states, .func (PySem.W.fnOf "ways_to_states" "ways_to_states" (defArgs s_ways_to_states) (defBody s_ways_to_states) (defScope s_ways_to_states) .none kV_ways_to_states dc_ways_to_states pm_ways_to_states an_ways_to_states cd_ways_to_states ct_ways_to_states), sl_ways_to_states⟩) (c_ways_to_states : PySem.W.codeIn K cd_ways_to_states "ways_to_states" = true) (k_ways_to_states : PySem.W.keepIn K (.ref f_ways_to_states) = true)
    (a_unlike_letters : PySem.W.nsIn K mainGlobals "unlike_letters" = some (some (.ref f_unlike_letters))) (l_unlike_letters : K.lookup f_unlike_letters = some ⟨oc_unlike_letters, od_unlike_letters, .func (PySem.W.fnOf "unlike_letters" "unlike_letters" (defArgs s_unlike_letters) (defBody s_unlike_letters) (defScope s_unlike_letters) .none kV_unlike_letters dc_unlike_letters pm_unlike_letters an_unlike_letters cd_unlike_letters ct_unlike_letters), sl_unlike_letters⟩) (c_unlike_letters : PySem.W.codeIn K cd_unlike_letters "unlike_letters" = true) (k_unlike_letters : PySem.W.keepIn K (.ref f_unlike_letters) = true)
    (a_pair_behind : PySem.W.nsIn K mainGlobals "pair_behind" = some (some (.ref f_pair_behind))) (l_pair_behind : K.lookup f_pair_behind = some ⟨oc_pair_behind, od_pair_behind, .func (PySem.W.fnOf "pair_behind" "pair_behind" (defArgs s_pair_behind) (defBody s_pair_behind) (defScope s_pair_behind) .none kV_pair_behind dc_pair_behind pm_pair_behind an_pair_behind cd_pair_behind ct_pair_behind), sl_pair_behind⟩) (c_pair_behind : PySem.W.codeIn K cd_pair_behind "pair_behind" = true) (k_pair_behind : PySem.W.keepIn K (.ref f_pair_behind) = true)
    (a_letters_into : PySem.W.nsIn K mainGlobals "letters_into" = some (some (.ref f_letters_into))) (l_letters_into : K.lookup f_letters_into = some ⟨oc_letters_into, od_letters_into, .func (PySem.W.fnOf "letters_into" "letters_into" (defArgs s_letters_into) (defBody s_letters_into) (defScope s_letters_into) .none kV_letters_into dc_letters_into pm_letters_into an_letters_into cd_letters_into ct_letters_into), sl_letters_into⟩) (c_letters_into : PySem.W.codeIn K cd_letters_into "letters_into" = true) (k_letters_into : PySem.W.keepIn K (.ref f_letters_into) = true)
    (a_late_layers : PySem.W.nsIn K mainGlobals "late_layers" = some (some (.ref f_late_layers))) (l_late_layers : K.lookup f_late_layers = some ⟨oc_late_layers, od_late_layers, .func (PySem.W.fnOf "late_layers" "late_layers" (defArgs s_late_layers) (defBody s_late_layers) (defScope s_late_layers) .none kV_late_layers dc_late_layers pm_late_layers an_late_layers cd_late_layers ct_late_layers), sl_late_layers⟩) (c_late_layers : PySem.W.codeIn K cd_late_layers "late_layers" = true) (k_late_layers : PySem.W.keepIn K (.ref f_late_layers) = true)
    (a_late_walk : PySem.W.nsIn K mainGlobals "late_walk" = some (some (.ref f_late_walk))) (l_late_walk : K.lookup f_late_walk = some ⟨oc_late_walk, od_late_walk, .func (PySem.W.fnOf "late_walk" "late_walk" (defArgs s_late_walk) (defBody s_late_walk) (defScope s_late_walk) .none kV_late_walk dc_late_walk pm_late_walk an_late_walk cd_late_walk ct_late_walk), sl_late_walk⟩) (c_late_walk : PySem.W.codeIn K cd_late_walk "late_walk" = true) (k_late_walk : PySem.W.keepIn K (.ref f_late_walk) = true)
    (a_round_on : PySem.W.nsIn K mainGlobals "round_on" = some (some (.ref f_round_on))) (l_round_on : K.lookup f_round_on = some ⟨oc_round_on, od_round_on, .func (PySem.W.fnOf "round_on" "round_on" (defArgs s_round_on) (defBody s_round_on) (defScope s_round_on) .none kV_round_on dc_round_on pm_round_on an_round_on cd_round_on ct_round_on), sl_round_on⟩) (c_round_on : PySem.W.codeIn K cd_round_on "round_on" = true) (k_round_on : PySem.W.keepIn K (.ref f_round_on) = true)
    (a_letters_on : PySem.W.nsIn K mainGlobals "letters_on" = some (some (.ref f_letters_on))) (l_letters_on : K.lookup f_letters_on = some ⟨oc_letters_on, od_letters_on, .func (PySem.W.fnOf "letters_on" "letters_on" (defArgs s_letters_on) (defBody s_letters_on) (defScope s_letters_on) .none kV_letters_on dc_letters_on pm_letters_on an_letters_on cd_letters_on ct_letters_on), sl_letters_on⟩) (c_letters_on : PySem.W.codeIn K cd_letters_on "letters_on" = true) (k_letters_on : PySem.W.keepIn K (.ref f_letters_on) = true)
    (a_late : PySem.W.nsIn K mainGlobals "late" = some (some (.ref f_late))) (l_late : K.lookup f_late = some ⟨oc_late, od_late, .func (PySem.W.fnOf "late" "late" (defArgs s_late) (defBody s_late) (defScope s_late) .none kV_late dc_late pm_late an_late cd_late ct_late), sl_late⟩) (c_late : PySem.W.codeIn K cd_late "late" = true) (k_late : PySem.W.keepIn K (.ref f_late) = true)
    (a_late_word : PySem.W.nsIn K mainGlobals "late_word" = some (some (.ref f_late_word))) (l_late_word : K.lookup f_late_word = some ⟨oc_late_word, od_late_word, .func (PySem.W.fnOf "late_word" "late_word" (defArgs s_late_word) (defBody s_late_word) (defScope s_late_word) .none kV_late_word dc_late_word pm_late_word an_late_word cd_late_word ct_late_word), sl_late_word⟩) (c_late_word : PySem.W.codeIn K cd_late_word "late_word" = true) (k_late_word : PySem.W.keepIn K (.ref f_late_word) = true)
    (a_answer_unlike : PySem.W.nsIn K mainGlobals "answer_unlike" = some (some (.ref f_answer_unlike))) (l_answer_unlike : K.lookup f_answer_unlike = some ⟨oc_answer_unlike, od_answer_unlike, .func (PySem.W.fnOf "answer_unlike" "answer_unlike" (defArgs s_answer_unlike) (defBody s_answer_unlike) (defScope s_answer_unlike) .none kV_answer_unlike dc_answer_unlike pm_answer_unlike an_answer_unlike cd_answer_unlike ct_answer_unlike), sl_answer_unlike⟩) (c_answer_unlike : PySem.W.codeIn K cd_answer_unlike "answer_unlike" = true) (k_answer_unlike : PySem.W.keepIn K (.ref f_answer_unlike) = true)
    (a_shows_late_word : PySem.W.nsIn K mainGlobals "shows_late_word" = some (some (.ref f_shows_late_word))) (l_shows_late_word : K.lookup f_shows_late_word = some ⟨oc_shows_late_word, od_shows_late_word, .func (PySem.W.fnOf "shows_late_word" "shows_late_word" (defArgs s_shows_late_word) (defBody s_shows_late_word) (defScope s_shows_late_word) .none kV_shows_late_word dc_shows_late_word pm_shows_late_word an_shows_late_word cd_shows_late_word ct_shows_late_word), sl_shows_late_word⟩) (c_shows_late_word : PySem.W.codeIn K cd_shows_late_word "shows_late_word" = true) (k_shows_late_word : PySem.W.keepIn K (.ref f_shows_late_word) = true)
    (a_never_forgets : PySem.W.nsIn K mainGlobals "never_forgets" = some (some (.ref f_never_forgets))) (l_never_forgets : K.lookup f_never_forgets = some ⟨oc_never_forgets, od_never_forgets, .func (PySem.W.fnOf "never_forgets" "never_forgets" (defArgs s_never_forgets) (defBody s_never_forgets) (defScope s_never_forgets) .none kV_never_forgets dc_never_forgets pm_never_forgets an_never_forgets cd_never_forgets ct_never_forgets), sl_never_forgets⟩) (c_never_forgets : PySem.W.codeIn K cd_never_forgets "never_forgets" = true) (k_never_forgets : PySem.W.keepIn K (.ref f_never_forgets) = true)
    (a_shows_never_forgets : PySem.W.nsIn K mainGlobals "shows_never_forgets" = some (some (.ref f_shows_never_forgets))) (l_shows_never_forgets : K.lookup f_shows_never_forgets = some ⟨oc_shows_never_forgets, od_shows_never_forgets, .func (PySem.W.fnOf "shows_never_forgets" "shows_never_forgets" (defArgs s_shows_never_forgets) (defBody s_shows_never_forgets) (defScope s_shows_never_forgets) .none kV_shows_never_forgets dc_shows_never_forgets pm_shows_never_forgets an_shows_never_forgets cd_shows_never_forgets ct_shows_never_forgets), sl_shows_never_forgets⟩) (c_shows_never_forgets : PySem.W.codeIn K cd_shows_never_forgets "shows_never_forgets" = true) (k_shows_never_forgets : PySem.W.keepIn K (.ref f_shows_never_forgets) = true)
    (a_window : PySem.W.nsIn K mainGlobals "window" = some (some (.ref f_window))) (l_window : K.lookup f_window = some ⟨oc_window, od_window, .func (PySem.W.fnOf "window" "window" (defArgs s_window) (defBody s_window) (defScope s_window) .none kV_window dc_window pm_window an_window cd_window ct_window), sl_window⟩) (c_window : PySem.W.codeIn K cd_window "window" = true) (k_window : PySem.W.keepIn K (.ref f_window) = true)
    (a_window_answer : PySem.W.nsIn K mainGlobals "window_answer" = some (some (.ref f_window_answer))) (l_window_answer : K.lookup f_window_answer = some ⟨oc_window_answer, od_window_answer, .func (PySem.W.fnOf "window_answer" "window_answer" (defArgs s_window_answer) (defBody s_window_answer) (defScope s_window_answer) .none kV_window_answer dc_window_answer pm_window_answer an_window_answer cd_window_answer ct_window_answer), sl_window_answer⟩) (c_window_answer : PySem.W.codeIn K cd_window_answer "window_answer" = true) (k_window_answer : PySem.W.keepIn K (.ref f_window_answer) = true)
    (a_words_of : PySem.W.nsIn K mainGlobals "words_of" = some (some (.ref f_words_of))) (l_words_of : K.lookup f_words_of = some ⟨oc_words_of, od_words_of, .func (PySem.W.fnOf "words_of" "words_of" (defArgs s_words_of) (defBody s_words_of) (defScope s_words_of) .none kV_words_of dc_words_of pm_words_of an_words_of cd_words_of ct_words_of), sl_words_of⟩) (c_words_of : PySem.W.codeIn K cd_words_of "words_of" = true) (k_words_of : PySem.W.keepIn K (.ref f_words_of) = true)
    (a_window_table : PySem.W.nsIn K mainGlobals "window_table" = some (some (.ref f_window_table))) (l_window_table : K.lookup f_window_table = some ⟨oc_window_table, od_window_table, .func (PySem.W.fnOf "window_table" "window_table" (defArgs s_window_table) (defBody s_window_table) (defScope s_window_table) .none kV_window_table dc_window_table pm_window_table an_window_table cd_window_table ct_window_table), sl_window_table⟩) (c_window_table : PySem.W.codeIn K cd_window_table "window_table" = true) (k_window_table : PySem.W.keepIn K (.ref f_window_table) = true)
    (a_law_taken : PySem.W.nsIn K mainGlobals "_law_taken" = some (some (.ref f_law_taken))) (l_law_taken : K.lookup f_law_taken = some ⟨oc_law_taken, od_law_taken, .func (PySem.W.fnOf "_law_taken" "_law_taken" (defArgs s_law_taken) (defBody s_law_taken) (defScope s_law_taken) .none kV_law_taken dc_law_taken pm_law_taken an_law_taken cd_law_taken ct_law_taken), sl_law_taken⟩) (c_law_taken : PySem.W.codeIn K cd_law_taken "_law_taken" = true) (k_law_taken : PySem.W.keepIn K (.ref f_law_taken) = true)
    (a_law_machine : PySem.W.nsIn K mainGlobals "_law_machine" = some (some (.ref f_law_machine))) (l_law_machine : K.lookup f_law_machine = some ⟨oc_law_machine, od_law_machine, .func (PySem.W.fnOf "_law_machine" "_law_machine" (defArgs s_law_machine) (defBody s_law_machine) (defScope s_law_machine) .none kV_law_machine dc_law_machine pm_law_machine an_law_machine cd_law_machine ct_law_machine), sl_law_machine⟩) (c_law_machine : PySem.W.codeIn K cd_law_machine "_law_machine" = true) (k_law_machine : PySem.W.keepIn K (.ref f_law_machine) = true)
    (a_law_comes : PySem.W.nsIn K mainGlobals "_law_comes" = some (some (.ref f_law_comes))) (l_law_comes : K.lookup f_law_comes = some ⟨oc_law_comes, od_law_comes, .func (PySem.W.fnOf "_law_comes" "_law_comes" (defArgs s_law_comes) (defBody s_law_comes) (defScope s_law_comes) .none kV_law_comes dc_law_comes pm_law_comes an_law_comes cd_law_comes ct_law_comes), sl_law_comes⟩) (c_law_comes : PySem.W.codeIn K cd_law_comes "_law_comes" = true) (k_law_comes : PySem.W.keepIn K (.ref f_law_comes) = true)
    (a_law_sets : PySem.W.nsIn K mainGlobals "_law_sets" = some (some (.ref f_law_sets))) (l_law_sets : K.lookup f_law_sets = some ⟨oc_law_sets, od_law_sets, .func (PySem.W.fnOf "_law_sets" "_law_sets" (defArgs s_law_sets) (defBody s_law_sets) (defScope s_law_sets) .none kV_law_sets dc_law_sets pm_law_sets an_law_sets cd_law_sets ct_law_sets), sl_law_sets⟩) (c_law_sets : PySem.W.codeIn K cd_law_sets "_law_sets" = true) (k_law_sets : PySem.W.keepIn K (.ref f_law_sets) = true)
    (a_law_late : PySem.W.nsIn K mainGlobals "_law_late" = some (some (.ref f_law_late))) (l_law_late : K.lookup f_law_late = some ⟨oc_law_late, od_law_late, .func (PySem.W.fnOf "_law_late" "_law_late" (defArgs s_law_late) (defBody s_law_late) (defScope s_law_late) .none kV_law_late dc_law_late pm_law_late an_law_late cd_law_late ct_law_late), sl_law_late⟩) (c_law_late : PySem.W.codeIn K cd_law_late "_law_late" = true) (k_law_late : PySem.W.keepIn K (.ref f_law_late) = true)
    (a_law_alike : PySem.W.nsIn K mainGlobals "_law_alike" = some (some (.ref f_law_alike))) (l_law_alike : K.lookup f_law_alike = some ⟨oc_law_alike, od_law_alike, .func (PySem.W.fnOf "_law_alike" "_law_alike" (defArgs s_law_alike) (defBody s_law_alike) (defScope s_law_alike) .none kV_law_alike dc_law_alike pm_law_alike an_law_alike cd_law_alike ct_law_alike), sl_law_alike⟩) (c_law_alike : PySem.W.codeIn K cd_law_alike "_law_alike" = true) (k_law_alike : PySem.W.keepIn K (.ref f_law_alike) = true)
    (a_law_led : PySem.W.nsIn K mainGlobals "_law_led" = some (some (.ref f_law_led))) (l_law_led : K.lookup f_law_led = some ⟨oc_law_led, od_law_led, .func (PySem.W.fnOf "_law_led" "_law_led" (defArgs s_law_led) (defBody s_law_led) (defScope s_law_led) .none kV_law_led dc_law_led pm_law_led an_law_led cd_law_led ct_law_led), sl_law_led⟩) (c_law_led : PySem.W.codeIn K cd_law_led "_law_led" = true) (k_law_led : PySem.W.keepIn K (.ref f_law_led) = true)
    (a_law_told : PySem.W.nsIn K mainGlobals "_law_told" = some (some (.ref f_law_told))) (l_law_told : K.lookup f_law_told = some ⟨oc_law_told, od_law_told, .func (PySem.W.fnOf "_law_told" "_law_told" (defArgs s_law_told) (defBody s_law_told) (defScope s_law_told) .none kV_law_told dc_law_told pm_law_told an_law_told cd_law_told ct_law_told), sl_law_told⟩) (c_law_told : PySem.W.codeIn K cd_law_told "_law_told" = true) (k_law_told : PySem.W.keepIn K (.ref f_law_told) = true)
    (a_law_is_late : PySem.W.nsIn K mainGlobals "_law_is_late" = some (some (.ref f_law_is_late))) (l_law_is_late : K.lookup f_law_is_late = some ⟨oc_law_is_late, od_law_is_late, .func (PySem.W.fnOf "_law_is_late" "_law_is_late" (defArgs s_law_is_late) (defBody s_law_is_late) (defScope s_law_is_late) .none kV_law_is_late dc_law_is_late pm_law_is_late an_law_is_late cd_law_is_late ct_law_is_late), sl_law_is_late⟩) (c_law_is_late : PySem.W.codeIn K cd_law_is_late "_law_is_late" = true) (k_law_is_late : PySem.W.keepIn K (.ref f_law_is_late) = true)
    (a_law_refused : PySem.W.nsIn K mainGlobals "_law_refused" = some (some (.ref f_law_refused))) (l_law_refused : K.lookup f_law_refused = some ⟨oc_law_refused, od_law_refused, .func (PySem.W.fnOf "_law_refused" "_law_refused" (defArgs s_law_refused) (defBody s_law_refused) (defScope s_law_refused) .none kV_law_refused dc_law_refused pm_law_refused an_law_refused cd_law_refused ct_law_refused), sl_law_refused⟩) (c_law_refused : PySem.W.codeIn K cd_law_refused "_law_refused" = true) (k_law_refused : PySem.W.keepIn K (.ref f_law_refused) = true)
    (a_law_words : PySem.W.nsIn K mainGlobals "_law_words" = some (some (.ref f_law_words))) (l_law_words : K.lookup f_law_words = some ⟨oc_law_words, od_law_words, .func (PySem.W.fnOf "_law_words" "_law_words" (defArgs s_law_words) (defBody s_law_words) (defScope s_law_words) .none kV_law_words dc_law_words pm_law_words an_law_words cd_law_words ct_law_words), sl_law_words⟩) (c_law_words : PySem.W.codeIn K cd_law_words "_law_words" = true) (k_law_words : PySem.W.keepIn K (.ref f_law_words) = true)
    (a_law : PySem.W.nsIn K mainGlobals "law" = some (some (.ref f_law))) (l_law : K.lookup f_law = some ⟨oc_law, od_law, .func (PySem.W.fnOf "law" "law" (defArgs s_law) (defBody s_law) (defScope s_law) .none kV_law dc_law pm_law an_law (.ref cc_law) ct_law), sl_law⟩) (c_law : PySem.W.codeIn K (.ref cc_law) "law" = true) (k_law : PySem.W.keepIn K (.ref f_law) = true)
    (xk_law : K.lookup cc_law = some ⟨xe_law, xd_law, .fields xv_law, xs_law⟩) (xp_law : xv_law[11]? = some (.ref Pc_law)) (xn_law : K.lookup Pc_law = none) (xh_law : PySem.W.codeHdIn K cc_law Pc_law = true)
    (z_all : PySem.W.nsIn K mainGlobals "all" = some none)
    (z_bool : PySem.W.nsIn K mainGlobals "bool" = some none)
    (z_enumerate : PySem.W.nsIn K mainGlobals "enumerate" = some none)
    (z_int : PySem.W.nsIn K mainGlobals "int" = some none)
    (z_isinstance : PySem.W.nsIn K mainGlobals "isinstance" = some none)
    (z_len : PySem.W.nsIn K mainGlobals "len" = some none)
    (z_list : PySem.W.nsIn K mainGlobals "list" = some none)
    (z_max : PySem.W.nsIn K mainGlobals "max" = some none)
    (z_min : PySem.W.nsIn K mainGlobals "min" = some none)
    (z_range : PySem.W.nsIn K mainGlobals "range" = some none)
    (z_reversed : PySem.W.nsIn K mainGlobals "reversed" = some none)
    (z_set : PySem.W.nsIn K mainGlobals "set" = some none)
    (z_sorted : PySem.W.nsIn K mainGlobals "sorted" = some none)
    (z_str : PySem.W.nsIn K mainGlobals "str" = some none)
    (z_tuple : PySem.W.nsIn K mainGlobals "tuple" = some none)
    {t_MOST_STATES : Tok} (n_MOST_STATES : PySem.W.nsIn K mainGlobals "MOST_STATES" = some (some (.int 6 t_MOST_STATES)))
    {t_MOST_LETTERS : Tok} (n_MOST_LETTERS : PySem.W.nsIn K mainGlobals "MOST_LETTERS" = some (some (.int 3 t_MOST_LETTERS)))
    {t_MOST_ANSWER : Tok} (n_MOST_ANSWER : PySem.W.nsIn K mainGlobals "MOST_ANSWER" = some (some (.int 9 t_MOST_ANSWER)))
    {t_LONGEST_WORD : Tok} (n_LONGEST_WORD : PySem.W.nsIn K mainGlobals "LONGEST_WORD" = some (some (.int 4000 t_LONGEST_WORD)))
    {C_BadLetters : Addr} (ag_BadLetters : PySem.W.nsIn K mainGlobals "BadLetters" = some (some (.ref C_BadLetters))) (ax_BadLetters : PySem.W.excIn K C_BadLetters [.type "ValueError", .type "Exception", .type "BaseException", .type "object"] "ValueError.__new__" = true) (ak_BadLetters : PySem.W.keepIn K (.ref C_BadLetters) = true) (ab_BadLetters : PySem.W.subIn K (.ref C_BadLetters) (.type "BaseException") = some true) (at_BadLetters : PySem.W.typeIn K (.ref C_BadLetters) = some (.type "type"))
    {C_Forgets : Addr} (ag_Forgets : PySem.W.nsIn K mainGlobals "Forgets" = some (some (.ref C_Forgets))) (ax_Forgets : PySem.W.excIn K C_Forgets [.type "ValueError", .type "Exception", .type "BaseException", .type "object"] "ValueError.__new__" = true) (ak_Forgets : PySem.W.keepIn K (.ref C_Forgets) = true) (ab_Forgets : PySem.W.subIn K (.ref C_Forgets) (.type "BaseException") = some true) (at_Forgets : PySem.W.typeIn K (.ref C_Forgets) = some (.type "type"))
    {C_Remembers : Addr} (ag_Remembers : PySem.W.nsIn K mainGlobals "Remembers" = some (some (.ref C_Remembers))) (ax_Remembers : PySem.W.excIn K C_Remembers [.type "ValueError", .type "Exception", .type "BaseException", .type "object"] "ValueError.__new__" = true) (ak_Remembers : PySem.W.keepIn K (.ref C_Remembers) = true) (ab_Remembers : PySem.W.subIn K (.ref C_Remembers) (.type "BaseException") = some true) (at_Remembers : PySem.W.typeIn K (.ref C_Remembers) = some (.type "type"))
    {C_ClerkError : Addr} (ag_ClerkError : PySem.W.nsIn K mainGlobals "ClerkError" = some (some (.ref C_ClerkError))) (ab_ClerkError : PySem.W.subIn K (.ref C_ClerkError) (.type "BaseException") = some true) (ad_ClerkError : PySem.W.hasDictIn K C_ClerkError = true) (at_ClerkError : PySem.W.typeIn K (.ref C_ClerkError) = some (.type "type"))
    (am_BadLetters : PySem.W.subIn K (.ref C_BadLetters) (.ref C_ClerkError) = some true) (ae_BadLetters : ExcC K C_BadLetters)
    (am_Forgets : PySem.W.subIn K (.ref C_Forgets) (.ref C_ClerkError) = some true) (ae_Forgets : ExcC K C_Forgets)
    (am_Remembers : PySem.W.subIn K (.ref C_Remembers) (.ref C_ClerkError) = some true) (ae_Remembers : ExcC K C_Remembers)
    (ar_BadLetters_Forgets : PySem.W.subIn K (.ref C_BadLetters) (.ref C_Forgets) = some false) (an_BadLetters_Forgets : (Value.ref C_BadLetters == Value.ref C_Forgets) = false)
    (ar_BadLetters_Remembers : PySem.W.subIn K (.ref C_BadLetters) (.ref C_Remembers) = some false) (an_BadLetters_Remembers : (Value.ref C_BadLetters == Value.ref C_Remembers) = false)
    (ar_Forgets_BadLetters : PySem.W.subIn K (.ref C_Forgets) (.ref C_BadLetters) = some false) (an_Forgets_BadLetters : (Value.ref C_Forgets == Value.ref C_BadLetters) = false)
    (ar_Forgets_Remembers : PySem.W.subIn K (.ref C_Forgets) (.ref C_Remembers) = some false) (an_Forgets_Remembers : (Value.ref C_Forgets == Value.ref C_Remembers) = false)
    (ar_Remembers_BadLetters : PySem.W.subIn K (.ref C_Remembers) (.ref C_BadLetters) = some false) (an_Remembers_BadLetters : (Value.ref C_Remembers == Value.ref C_BadLetters) = false)
    (ar_Remembers_Forgets : PySem.W.subIn K (.ref C_Remembers) (.ref C_Forgets) = some false) (an_Remembers_Forgets : (Value.ref C_Remembers == Value.ref C_Forgets) = false) :
    LamX.LawAtS l w K CX0 11 63 "script" mg fa h := by
  have e := hfa.symm.trans (PySem.W.mg_of X G a_law)
  cases e
  have T : Txt K mg := ⟨PySem.W.mg_none_of X G z_all, PySem.W.mg_none_of X G z_bool, PySem.W.mg_none_of X G z_enumerate, PySem.W.mg_none_of X G z_int, PySem.W.mg_none_of X G z_isinstance, PySem.W.mg_none_of X G z_len, PySem.W.mg_none_of X G z_list, PySem.W.mg_none_of X G z_max, PySem.W.mg_none_of X G z_min, PySem.W.mg_none_of X G z_range, PySem.W.mg_none_of X G z_reversed, PySem.W.mg_none_of X G z_set, PySem.W.mg_none_of X G z_sorted, PySem.W.mg_none_of X G z_str, PySem.W.mg_none_of X G z_tuple, ⟨_, PySem.W.mg_of X G ag_BadLetters, ax_BadLetters, ak_BadLetters, ab_BadLetters, at_BadLetters⟩, ⟨_, PySem.W.mg_of X G ag_Forgets, ax_Forgets, ak_Forgets, ab_Forgets, at_Forgets⟩, ⟨_, PySem.W.mg_of X G ag_Remembers, ax_Remembers, ak_Remembers, ab_Remembers, at_Remembers⟩, ⟨_, PySem.W.mg_of X G n_MOST_STATES⟩, ⟨_, PySem.W.mg_of X G n_MOST_LETTERS⟩, ⟨_, PySem.W.mg_of X G n_MOST_ANSWER⟩, ⟨_, PySem.W.mg_of X G n_LONGEST_WORD⟩⟩
  have U : ErrU K mg "ClerkError" (refW.map (·.1)) := ⟨⟨_, PySem.W.mg_of X G ag_ClerkError, (List.forall_mem_cons.mpr ⟨⟨_, PySem.W.mg_of X G ag_BadLetters, PySem.W.exm_ref ab_ClerkError ad_ClerkError at_ClerkError am_BadLetters, ae_BadLetters⟩, (List.forall_mem_cons.mpr ⟨⟨_, PySem.W.mg_of X G ag_Forgets, PySem.W.exm_ref ab_ClerkError ad_ClerkError at_ClerkError am_Forgets, ae_Forgets⟩, (List.forall_mem_cons.mpr ⟨⟨_, PySem.W.mg_of X G ag_Remembers, PySem.W.exm_ref ab_ClerkError ad_ClerkError at_ClerkError am_Remembers, ae_Remembers⟩, (List.forall_mem_nil _)⟩)⟩)⟩)⟩, (List.forall_mem_cons.mpr ⟨(List.forall_mem_cons.mpr ⟨⟨_, _, PySem.W.mg_of X G ag_BadLetters, PySem.W.mg_of X G ag_BadLetters, kit_self⟩, (List.forall_mem_cons.mpr ⟨⟨_, _, PySem.W.mg_of X G ag_BadLetters, PySem.W.mg_of X G ag_Forgets, kit_no ae_Forgets.hd at_Forgets ar_BadLetters_Forgets an_BadLetters_Forgets⟩, (List.forall_mem_cons.mpr ⟨⟨_, _, PySem.W.mg_of X G ag_BadLetters, PySem.W.mg_of X G ag_Remembers, kit_no ae_Remembers.hd at_Remembers ar_BadLetters_Remembers an_BadLetters_Remembers⟩, (List.forall_mem_nil _)⟩)⟩)⟩), (List.forall_mem_cons.mpr ⟨(List.forall_mem_cons.mpr ⟨⟨_, _, PySem.W.mg_of X G ag_Forgets, PySem.W.mg_of X G ag_BadLetters, kit_no ae_BadLetters.hd at_BadLetters ar_Forgets_BadLetters an_Forgets_BadLetters⟩, (List.forall_mem_cons.mpr ⟨⟨_, _, PySem.W.mg_of X G ag_Forgets, PySem.W.mg_of X G ag_Forgets, kit_self⟩, (List.forall_mem_cons.mpr ⟨⟨_, _, PySem.W.mg_of X G ag_Forgets, PySem.W.mg_of X G ag_Remembers, kit_no ae_Remembers.hd at_Remembers ar_Forgets_Remembers an_Forgets_Remembers⟩, (List.forall_mem_nil _)⟩)⟩)⟩), (List.forall_mem_cons.mpr ⟨(List.forall_mem_cons.mpr ⟨⟨_, _, PySem.W.mg_of X G ag_Remembers, PySem.W.mg_of X G ag_BadLetters, kit_no ae_BadLetters.hd at_BadLetters ar_Remembers_BadLetters an_Remembers_BadLetters⟩, (List.forall_mem_cons.mpr ⟨⟨_, _, PySem.W.mg_of X G ag_Remembers, PySem.W.mg_of X G ag_Forgets, kit_no ae_Forgets.hd at_Forgets ar_Remembers_Forgets an_Remembers_Forgets⟩, (List.forall_mem_cons.mpr ⟨⟨_, _, PySem.W.mg_of X G ag_Remembers, PySem.W.mg_of X G ag_Remembers, kit_self⟩, (List.forall_mem_nil _)⟩)⟩)⟩), (List.forall_mem_nil _)⟩)⟩)⟩)⟩
  have F_is_integer := fun_mk (st := s_is_integer) l_is_integer c_is_integer k_is_integer
  have B_is_integer := F_is_integer.binds (ps := ["value", "low", "high"]) fun _ _ _ _ _ _ us hl => match us, hl with | [_, _, _], _ => rfl
  have F_is_tuple := fun_mk (st := s_is_tuple) l_is_tuple c_is_tuple k_is_tuple
  have B_is_tuple := F_is_tuple.binds (ps := ["value", "low", "high"]) fun _ _ _ _ _ _ us hl => match us, hl with | [_, _, _], _ => rfl
  have F_is_row := fun_mk (st := s_is_row) l_is_row c_is_row k_is_row
  have B_is_row := F_is_row.binds (ps := ["value", "greatest"]) fun _ _ _ _ _ _ us hl => match us, hl with | [_, _], _ => rfl
  have F_is_table := fun_mk (st := s_is_table) l_is_table c_is_table k_is_table
  have B_is_table := F_is_table.binds (ps := ["value", "height", "width", "greatest"]) fun _ _ _ _ _ _ us hl => match us, hl with | [_, _, _, _], _ => rfl
  have F_is_steps := fun_mk (st := s_is_steps) l_is_steps c_is_steps k_is_steps
  have B_is_steps := F_is_steps.binds (ps := ["value"]) fun _ _ _ _ _ _ us hl => match us, hl with | [_], _ => rfl
  have F_check_machine := fun_mk (st := s_check_machine) l_check_machine c_check_machine k_check_machine
  have B_check_machine := F_check_machine.binds (ps := ["machine"]) fun _ _ _ _ _ _ us hl => match us, hl with | [_], _ => rfl
  have F_is_state := fun_mk (st := s_is_state) l_is_state c_is_state k_is_state
  have B_is_state := F_is_state.binds (ps := ["machine", "value"]) fun _ _ _ _ _ _ us hl => match us, hl with | [_, _], _ => rfl
  have F_is_word := fun_mk (st := s_is_word) l_is_word c_is_word k_is_word
  have B_is_word := F_is_word.binds (ps := ["machine", "value"]) fun _ _ _ _ _ _ us hl => match us, hl with | [_, _], _ => rfl
  have F_is_short_word := fun_mk (st := s_is_short_word) l_is_short_word c_is_short_word k_is_short_word
  have B_is_short_word := F_is_short_word.binds (ps := ["machine", "value"]) fun _ _ _ _ _ _ us hl => match us, hl with | [_, _], _ => rfl
  have F_check_word := fun_mk (st := s_check_word) l_check_word c_check_word k_check_word
  have B_check_word := F_check_word.binds (ps := ["machine", "word"]) fun _ _ _ _ _ _ us hl => match us, hl with | [_, _], _ => rfl
  have F_state_behind := fun_mk (st := s_state_behind) l_state_behind c_state_behind k_state_behind
  have B_state_behind := F_state_behind.binds (ps := ["machine", "state", "word"]) fun _ _ _ _ _ _ us hl => match us, hl with | [_, _, _], _ => rfl
  have F_last_answer := fun_mk (st := s_last_answer) l_last_answer c_last_answer k_last_answer
  have B_last_answer := F_last_answer.binds (ps := ["machine", "state", "word"]) fun _ _ _ _ _ _ us hl => match us, hl with | [_, _, _], _ => rfl
  have F_ways_to_states := fun_mk (st := s_ways_to_states) l_ways_to_states c_ways_to_states k_ways_to_states
  have B_ways_to_states := F_ways_to_states.binds (ps := ["machine"]) fun _ _ _ _ _ _ us hl => match us, hl with | [_], _ => rfl
  have F_unlike_letters := fun_mk (st := s_unlike_letters) l_unlike_letters c_unlike_letters k_unlike_letters
  have B_unlike_letters := F_unlike_letters.binds (ps := ["machine", "pairs"]) fun _ _ _ _ _ _ us hl => match us, hl with | [_, _], _ => rfl
  have F_pair_behind := fun_mk (st := s_pair_behind) l_pair_behind c_pair_behind k_pair_behind
  have B_pair_behind := F_pair_behind.binds (ps := ["machine", "pair", "letter"]) fun _ _ _ _ _ _ us hl => match us, hl with | [_, _, _], _ => rfl
  have F_letters_into := fun_mk (st := s_letters_into) l_letters_into c_letters_into k_letters_into
  have B_letters_into := F_letters_into.binds (ps := ["machine", "pairs", "ends"]) fun _ _ _ _ _ _ us hl => match us, hl with | [_, _, _], _ => rfl
  have F_late_layers := fun_mk (st := s_late_layers) l_late_layers c_late_layers k_late_layers
  have B_late_layers := F_late_layers.binds (ps := ["machine"]) fun _ _ _ _ _ _ us hl => match us, hl with | [_], _ => rfl
  have F_late_walk := fun_mk (st := s_late_walk) l_late_walk c_late_walk k_late_walk
  have B_late_walk := F_late_walk.binds (ps := ["machine"]) fun _ _ _ _ _ _ us hl => match us, hl with | [_], _ => rfl
  have F_round_on := fun_mk (st := s_round_on) l_round_on c_round_on k_round_on
  have B_round_on := F_round_on.binds (ps := ["walk"]) fun _ _ _ _ _ _ us hl => match us, hl with | [_], _ => rfl
  have F_letters_on := fun_mk (st := s_letters_on) l_letters_on c_letters_on k_letters_on
  have B_letters_on := F_letters_on.binds (ps := ["walk"]) fun _ _ _ _ _ _ us hl => match us, hl with | [_], _ => rfl
  have F_late := fun_mk (st := s_late) l_late c_late k_late
  have B_late := F_late.binds (ps := ["machine"]) fun _ _ _ _ _ _ us hl => match us, hl with | [_], _ => rfl
  have F_late_word := fun_mk (st := s_late_word) l_late_word c_late_word k_late_word
  have B_late_word := F_late_word.binds (ps := ["machine"]) fun _ _ _ _ _ _ us hl => match us, hl with | [_], _ => rfl
  have F_answer_unlike := fun_mk (st := s_answer_unlike) l_answer_unlike c_answer_unlike k_answer_unlike
  have B_answer_unlike := F_answer_unlike.binds (ps := ["machine", "one", "other", "word"]) fun _ _ _ _ _ _ us hl => match us, hl with | [_, _, _, _], _ => rfl
  have F_shows_late_word := fun_mk (st := s_shows_late_word) l_shows_late_word c_shows_late_word k_shows_late_word
  have B_shows_late_word := F_shows_late_word.binds (ps := ["machine", "value"]) fun _ _ _ _ _ _ us hl => match us, hl with | [_, _], _ => rfl
  have F_never_forgets := fun_mk (st := s_never_forgets) l_never_forgets c_never_forgets k_never_forgets
  have B_never_forgets := F_never_forgets.binds (ps := ["machine"]) fun _ _ _ _ _ _ us hl => match us, hl with | [_], _ => rfl
  have F_shows_never_forgets := fun_mk (st := s_shows_never_forgets) l_shows_never_forgets c_shows_never_forgets k_shows_never_forgets
  have B_shows_never_forgets := F_shows_never_forgets.binds (ps := ["machine", "value"]) fun _ _ _ _ _ _ us hl => match us, hl with | [_, _], _ => rfl
  have F_window := fun_mk (st := s_window) l_window c_window k_window
  have B_window := F_window.binds (ps := ["machine"]) fun _ _ _ _ _ _ us hl => match us, hl with | [_], _ => rfl
  have F_window_answer := fun_mk (st := s_window_answer) l_window_answer c_window_answer k_window_answer
  have B_window_answer := F_window_answer.binds (ps := ["machine", "word"]) fun _ _ _ _ _ _ us hl => match us, hl with | [_, _], _ => rfl
  have F_words_of := fun_mk (st := s_words_of) l_words_of c_words_of k_words_of
  have B_words_of := F_words_of.binds (ps := ["machine", "length"]) fun _ _ _ _ _ _ us hl => match us, hl with | [_, _], _ => rfl
  have F_window_table := fun_mk (st := s_window_table) l_window_table c_window_table k_window_table
  have B_window_table := F_window_table.binds (ps := ["machine"]) fun _ _ _ _ _ _ us hl => match us, hl with | [_], _ => rfl
  have F_law_taken := fun_mk (st := s_law_taken) l_law_taken c_law_taken k_law_taken
  have B_law_taken := F_law_taken.binds (ps := ["row", "many"]) fun _ _ _ _ _ _ us hl => match us, hl with | [_, _], _ => rfl
  have F_law_machine := fun_mk (st := s_law_machine) l_law_machine c_law_machine k_law_machine
  have B_law_machine := F_law_machine.binds (ps := ["row", "states", "letters"]) fun _ _ _ _ _ _ us hl => match us, hl with | [_, _, _], _ => rfl
  have F_law_comes := fun_mk (st := s_law_comes) l_law_comes c_law_comes k_law_comes
  have B_law_comes := F_law_comes.binds (ps := ["machine"]) fun _ _ _ _ _ _ us hl => match us, hl with | [_], _ => rfl
  have F_law_sets := fun_mk (st := s_law_sets) l_law_sets c_law_sets k_law_sets
  have B_law_sets := F_law_sets.binds (ps := ["machine"]) fun _ _ _ _ _ _ us hl => match us, hl with | [_], _ => rfl
  have F_law_late := fun_mk (st := s_law_late) l_law_late c_law_late k_law_late
  have B_law_late := F_law_late.binds (ps := ["machine"]) fun _ _ _ _ _ _ us hl => match us, hl with | [_], _ => rfl
  have F_law_alike := fun_mk (st := s_law_alike) l_law_alike c_law_alike k_law_alike
  have B_law_alike := F_law_alike.binds (ps := ["found", "due"]) fun _ _ _ _ _ _ us hl => match us, hl with | [_, _], _ => rfl
  have F_law_led := fun_mk (st := s_law_led) l_law_led c_law_led k_law_led
  have B_law_led := F_law_led.binds (ps := ["machine", "state", "word"]) fun _ _ _ _ _ _ us hl => match us, hl with | [_, _, _], _ => rfl
  have F_law_told := fun_mk (st := s_law_told) l_law_told c_law_told k_law_told
  have B_law_told := F_law_told.binds (ps := ["machine", "state", "word"]) fun _ _ _ _ _ _ us hl => match us, hl with | [_, _, _], _ => rfl
  have F_law_is_late := fun_mk (st := s_law_is_late) l_law_is_late c_law_is_late k_law_is_late
  have B_law_is_late := F_law_is_late.binds (ps := ["machine", "value"]) fun _ _ _ _ _ _ us hl => match us, hl with | [_, _], _ => rfl
  have F_law_refused := fun_mk (st := s_law_refused) l_law_refused c_law_refused k_law_refused
  have B_law_refused := F_law_refused.binds (ps := ["work"]) fun _ _ _ _ _ _ us hl => match us, hl with | [_], _ => rfl
  have F_law_words := fun_mk (st := s_law_words) l_law_words c_law_words k_law_words
  have B_law_words := F_law_words.binds (ps := ["letters", "length"]) fun _ _ _ _ _ _ us hl => match us, hl with | [_, _], _ => rfl
  refine ⟨PySem.W.fnOf "law" "law" (defArgs s_law) (defBody s_law) (defScope s_law) .none kV_law dc_law pm_law an_law (.ref cc_law) ct_law, [(cc_law, Pc_law)], spLaw K Pc_law, fun p hp => ?_, fun p hp => ?_, fun p hp => ?_, fun s v => .of_eq rfl, fun H a ns hl hb hT hS => ⟨a, ns, rfl, hS, hl, hT _ (List.mem_singleton.mpr rfl), fun _ => rfl⟩, fun base _ _ TB => ?_⟩
  · rw [List.mem_singleton.mp hp]; exact own cc_law Pc_law _ _ _ _ _ _ l_law rfl rfl xk_law xp_law
  · rw [List.mem_singleton.mp hp]; exact xn_law
  · rw [List.mem_singleton.mp hp]; exact PySem.W.codeHd_of_K X xh_law
  have h_is_integer := has_is_integer (P := l.prog) (w := w) (base := base) T  F_is_integer (PySem.W.mg_of X G a_is_integer) B_is_integer
  have h_is_tuple := has_is_tuple (P := l.prog) (w := w) (base := base) T  F_is_tuple (PySem.W.mg_of X G a_is_tuple) B_is_tuple
  have h_is_row := has_is_row (P := l.prog) (w := w) (base := base) T h_is_integer F_is_row (PySem.W.mg_of X G a_is_row) B_is_row
  have h_is_table := has_is_table (P := l.prog) (w := w) (base := base) T h_is_tuple h_is_row F_is_table (PySem.W.mg_of X G a_is_table) B_is_table
  have h_is_steps := has_is_steps (P := l.prog) (w := w) (base := base) T h_is_tuple h_is_table F_is_steps (PySem.W.mg_of X G a_is_steps) B_is_steps
  have h_check_machine := has_check_machine (P := l.prog) (w := w) (base := base) T h_is_tuple h_is_table h_is_steps F_check_machine (PySem.W.mg_of X G a_check_machine) B_check_machine
  have h_is_word := has_is_word (P := l.prog) (w := w) (base := base) T h_is_row F_is_word (PySem.W.mg_of X G a_is_word) B_is_word
  have h_is_short_word := has_is_short_word (P := l.prog) (w := w) (base := base) T h_is_tuple h_is_word F_is_short_word (PySem.W.mg_of X G a_is_short_word) B_is_short_word
  have h_check_word := has_check_word (P := l.prog) (w := w) (base := base) T h_is_short_word F_check_word (PySem.W.mg_of X G a_check_word) B_check_word
  have hj_is_integer := hasj_is_integer (P := l.prog) (w := w) (base := base) T  F_is_integer (PySem.W.mg_of X G a_is_integer) B_is_integer
  have hj_is_tuple := hasj_is_tuple (P := l.prog) (w := w) (base := base) T  F_is_tuple (PySem.W.mg_of X G a_is_tuple) B_is_tuple
  have hj_is_row := hasj_is_row (P := l.prog) (w := w) (base := base) T hj_is_integer F_is_row (PySem.W.mg_of X G a_is_row) B_is_row
  have hj_is_state := hasj_is_state (P := l.prog) (w := w) (base := base) T hj_is_integer F_is_state (PySem.W.mg_of X G a_is_state) B_is_state
  have hj_is_word := hasj_is_word (P := l.prog) (w := w) (base := base) T hj_is_row F_is_word (PySem.W.mg_of X G a_is_word) B_is_word
  have hj_is_short_word := hasj_is_short_word (P := l.prog) (w := w) (base := base) T hj_is_tuple hj_is_word F_is_short_word (PySem.W.mg_of X G a_is_short_word) B_is_short_word
  have h_law_led := has_law_led (P := l.prog) (w := w) (base := base) T  F_law_led (PySem.W.mg_of X G a_law_led) B_law_led
  have h_law_told := has_law_told (P := l.prog) (w := w) (base := base) T h_law_led F_law_told (PySem.W.mg_of X G a_law_told) B_law_told
  have h_state_behind := has_state_behind (P := l.prog) (w := w) (base := base) T  F_state_behind (PySem.W.mg_of X G a_state_behind) B_state_behind
  have h_ways_to_states := has_ways_to_states (P := l.prog) (w := w) (base := base) T  F_ways_to_states (PySem.W.mg_of X G a_ways_to_states) B_ways_to_states
  have h_unlike_letters := has_unlike_letters (P := l.prog) (w := w) (base := base) T  F_unlike_letters (PySem.W.mg_of X G a_unlike_letters) B_unlike_letters
  have h_pair_behind := has_pair_behind (P := l.prog) (w := w) (base := base) T  F_pair_behind (PySem.W.mg_of X G a_pair_behind) B_pair_behind
  have h_letters_into := has_letters_into (P := l.prog) (w := w) (base := base) T h_pair_behind F_letters_into (PySem.W.mg_of X G a_letters_into) B_letters_into
  have h_late_layers := has_late_layers (P := l.prog) (w := w) (base := base) T h_ways_to_states h_unlike_letters h_letters_into F_late_layers (PySem.W.mg_of X G a_late_layers) B_late_layers
  have h_late_walk := has_late_walk (P := l.prog) (w := w) (base := base) T h_pair_behind h_late_layers F_late_walk (PySem.W.mg_of X G a_late_walk) B_late_walk
  have h_round_on := has_round_on (P := l.prog) (w := w) (base := base) T  F_round_on (PySem.W.mg_of X G a_round_on) B_round_on
  have h_letters_on := has_letters_on (P := l.prog) (w := w) (base := base) T  F_letters_on (PySem.W.mg_of X G a_letters_on) B_letters_on
  have h_late := has_late (P := l.prog) (w := w) (base := base) T h_check_machine h_late_walk h_round_on F_late (PySem.W.mg_of X G a_late) B_late
  have h_late_word := has_late_word (P := l.prog) (w := w) (base := base) T h_check_machine h_late_walk h_round_on h_letters_on h_ways_to_states F_late_word (PySem.W.mg_of X G a_late_word) B_late_word
  have hx_never_forgets := hasx_never_forgets (P := l.prog) (w := w) (base := base) T h_check_machine h_late_walk h_round_on h_letters_on h_ways_to_states F_never_forgets (PySem.W.mg_of X G a_never_forgets) B_never_forgets
  have h_never_forgets := has_never_forgets (P := l.prog) (w := w) (base := base) T h_check_machine h_late_walk h_round_on h_letters_on h_ways_to_states F_never_forgets (PySem.W.mg_of X G a_never_forgets) B_never_forgets
  have h_last_answer := has_last_answer (P := l.prog) (w := w) (base := base) T h_state_behind F_last_answer (PySem.W.mg_of X G a_last_answer) B_last_answer
  have h_answer_unlike := has_answer_unlike (P := l.prog) (w := w) (base := base) T h_last_answer F_answer_unlike (PySem.W.mg_of X G a_answer_unlike) B_answer_unlike
  have h_shows_late_word := has_shows_late_word (P := l.prog) (w := w) (base := base) T hj_is_tuple hj_is_state hj_is_word h_state_behind h_late h_answer_unlike F_shows_late_word (PySem.W.mg_of X G a_shows_late_word) B_shows_late_word
  have h_shows_never_forgets := has_shows_never_forgets (P := l.prog) (w := w) (base := base) T h_check_machine hj_is_tuple hj_is_state hj_is_short_word h_state_behind h_answer_unlike F_shows_never_forgets (PySem.W.mg_of X G a_shows_never_forgets) B_shows_never_forgets
  have h_law_comes := has_law_comes (P := l.prog) (w := w) (base := base) T  F_law_comes (PySem.W.mg_of X G a_law_comes) B_law_comes
  have h_law_sets := has_law_sets (P := l.prog) (w := w) (base := base) T h_law_comes F_law_sets (PySem.W.mg_of X G a_law_sets) B_law_sets
  have h_law_late := has_law_late (P := l.prog) (w := w) (base := base) T h_law_sets F_law_late (PySem.W.mg_of X G a_law_late) B_law_late
  have h_law_is_late := has_law_is_late (P := l.prog) (w := w) (base := base) T h_law_led h_law_told F_law_is_late (PySem.W.mg_of X G a_law_is_late) B_law_is_late
  have h_law_words := has_law_words (P := l.prog) (w := w) (base := base) T  F_law_words (PySem.W.mg_of X G a_law_words) B_law_words
  have h_window := has_window (P := l.prog) (w := w) (base := base) T h_late F_window (PySem.W.mg_of X G a_window) B_window
  have h_window_answer := has_window_answer (P := l.prog) (w := w) (base := base) T h_window h_check_word h_last_answer F_window_answer (PySem.W.mg_of X G a_window_answer) B_window_answer
  have hx_window_answer := hasx_window_answer (P := l.prog) (w := w) (base := base) T h_window h_check_word h_last_answer F_window_answer (PySem.W.mg_of X G a_window_answer) B_window_answer
  have h_words_of := has_words_of (P := l.prog) (w := w) (base := base) T  F_words_of (PySem.W.mg_of X G a_words_of) B_words_of
  have h_window_table := has_window_table (P := l.prog) (w := w) (base := base) T h_window h_last_answer h_words_of F_window_table (PySem.W.mg_of X G a_window_table) B_window_table
  have hx_window_table := hasx_window_table (P := l.prog) (w := w) (base := base) T h_window h_last_answer h_words_of F_window_table (PySem.W.mg_of X G a_window_table) B_window_table
  have h_law_refused := has_law_refused (P := l.prog) (w := w) (base := base) T  F_law_refused (PySem.W.mg_of X G a_law_refused) B_law_refused
  have h_law_taken := has_law_taken (P := l.prog) (w := w) (base := base) T  F_law_taken (PySem.W.mg_of X G a_law_taken) B_law_taken
  have h_law_machine := has_law_machine (P := l.prog) (w := w) (base := base) T h_law_taken F_law_machine (PySem.W.mg_of X G a_law_machine) B_law_machine
  have h_law_alike := has_law_alike (P := l.prog) (w := w) (base := base) T  F_law_alike (PySem.W.mg_of X G a_law_alike) B_law_alike
  exact ok_law T h_late h_late_word h_shows_late_word h_shows_never_forgets h_never_forgets hx_never_forgets h_window h_window_answer hx_window_answer h_window_table hx_window_table h_law_taken h_law_machine h_law_comes h_law_late h_law_alike h_law_led h_law_told h_law_is_late h_law_refused h_law_words U l_law c_law (TB _ (List.mem_singleton.mpr rfl))
end Kx
open PySem PySem.W PyProof.Rows
set_option maxHeartbeats 0 in
theorem PySem.Challenge.cw_pushedclerks_k02_whole_late_words_holds : PySem.Challenge.rw_pushedclerks_k02_whole_late_words.Holds := by
  w_on; o_law; k_head; (case hw => w_witness2)
  k_fill
  refine LamX.walk_ofOwn (l := PySem.Challenge.rw_pushedclerks_k02_whole_late_words) (n := 63) (k := 11) (x := "script") (CX := fun _ => L2.CX0) rfl (by decide) rfl ⟨rfl, by decide, by decide⟩ (by rfl) (fun w h Y => PySem.W.km_in_of Y) ?F (fun _ _ _ _ _ h => h)
  case F =>
    intro w mg fa h Y KX G hmg own
    refine' Kx.all_mk KX G hmg own ?a_is_integer ?l_is_integer ?c_is_integer ?k_is_integer ?a_is_tuple ?l_is_tuple ?c_is_tuple ?k_is_tuple ?a_is_row ?l_is_row ?c_is_row ?k_is_row ?a_is_table ?l_is_table ?c_is_table ?k_is_table ?a_is_steps ?l_is_steps ?c_is_steps ?k_is_steps ?a_check_machine ?l_check_machine ?c_check_machine ?k_check_machine ?a_is_state ?l_is_state ?c_is_state ?k_is_state ?a_is_word ?l_is_word ?c_is_word ?k_is_word ?a_is_short_word ?l_is_short_word ?c_is_short_word ?k_is_short_word ?a_check_word ?l_check_word ?c_check_word ?k_check_word ?a_state_behind ?l_state_behind ?c_state_behind ?k_state_behind ?a_last_answer ?l_last_answer ?c_last_answer ?k_last_answer ?a_ways_to_states ?l_ways_to_states ?c_ways_to_states ?k_ways_to_states ?a_unlike_letters ?l_unlike_letters ?c_unlike_letters ?k_unlike_letters ?a_pair_behind ?l_pair_behind ?c_pair_behind ?k_pair_behind ?a_letters_into ?l_letters_into ?c_letters_into ?k_letters_into ?a_late_layers ?l_late_layers ?c_late_layers ?k_late_layers ?a_late_walk ?l_late_walk ?c_late_walk ?k_late_walk ?a_round_on ?l_round_on ?c_round_on ?k_round_on ?a_letters_on ?l_letters_on ?c_letters_on ?k_letters_on ?a_late ?l_late ?c_late ?k_late ?a_late_word ?l_late_word ?c_late_word ?k_late_word ?a_answer_unlike ?l_answer_unlike ?c_answer_unlike ?k_answer_unlike ?a_shows_late_word ?l_shows_late_word ?c_shows_late_word ?k_shows_late_word ?a_never_forgets ?l_never_forgets ?c_never_forgets ?k_never_forgets ?a_shows_never_forgets ?l_shows_never_forgets ?c_shows_never_forgets ?k_shows_never_forgets ?a_window ?l_window ?c_window ?k_window ?a_window_answer ?l_window_answer ?c_window_answer ?k_window_answer ?a_words_of ?l_words_of ?c_words_of ?k_words_of ?a_window_table ?l_window_table ?c_window_table ?k_window_table ?a_law_taken ?l_law_taken ?c_law_taken ?k_law_taken ?a_law_machine ?l_law_machine ?c_law_machine ?k_law_machine ?a_law_comes ?l_law_comes ?c_law_comes ?k_law_comes ?a_law_sets ?l_law_sets ?c_law_sets ?k_law_sets ?a_law_late ?l_law_late ?c_law_late ?k_law_late ?a_law_alike ?l_law_alike ?c_law_alike ?k_law_alike ?a_law_led ?l_law_led ?c_law_led ?k_law_led ?a_law_told ?l_law_told ?c_law_told ?k_law_told ?a_law_is_late ?l_law_is_late ?c_law_is_late ?k_law_is_late ?a_law_refused ?l_law_refused ?c_law_refused ?k_law_refused ?a_law_words ?l_law_words ?c_law_words ?k_law_words ?a_law ?l_law ?c_law ?k_law ?xk_law ?xp_law ?xn_law ?xh_law ?z_all ?z_bool ?z_enumerate ?z_int ?z_isinstance ?z_len ?z_list ?z_max ?z_min ?z_range ?z_reversed ?z_set ?z_sorted ?z_str ?z_tuple ?n_MOST_STATES ?n_MOST_LETTERS ?n_MOST_ANSWER ?n_LONGEST_WORD ?ag_BadLetters ?ax_BadLetters ?ak_BadLetters ?ab_BadLetters ?at_BadLetters ?ag_Forgets ?ax_Forgets ?ak_Forgets ?ab_Forgets ?at_Forgets ?ag_Remembers ?ax_Remembers ?ak_Remembers ?ab_Remembers ?at_Remembers ?ag_ClerkError ?ab_ClerkError ?ad_ClerkError ?at_ClerkError ?am_BadLetters ?ae_BadLetters ?am_Forgets ?ae_Forgets ?am_Remembers ?ae_Remembers ?ar_BadLetters_Forgets ?an_BadLetters_Forgets ?ar_BadLetters_Remembers ?an_BadLetters_Remembers ?ar_Forgets_BadLetters ?an_Forgets_BadLetters ?ar_Forgets_Remembers ?an_Forgets_Remembers ?ar_Remembers_BadLetters ?an_Remembers_BadLetters ?ar_Remembers_Forgets ?an_Remembers_Forgets
    (case a_is_integer => k_is)
    (case l_is_integer => k_is)
    (case c_is_integer => k_is)
    (case k_is_integer => k_is)
    (case a_is_tuple => k_is)
    (case l_is_tuple => k_is)
    (case c_is_tuple => k_is)
    (case k_is_tuple => k_is)
    (case a_is_row => k_is)
    (case l_is_row => k_is)
    (case c_is_row => k_is)
    (case k_is_row => k_is)
    (case a_is_table => k_is)
    (case l_is_table => k_is)
    (case c_is_table => k_is)
    (case k_is_table => k_is)
    (case a_is_steps => k_is)
    (case l_is_steps => k_is)
    (case c_is_steps => k_is)
    (case k_is_steps => k_is)
    (case a_check_machine => k_is)
    (case l_check_machine => k_is)
    (case c_check_machine => k_is)
    (case k_check_machine => k_is)
    (case a_is_state => k_is)
    (case l_is_state => k_is)
    (case c_is_state => k_is)
    (case k_is_state => k_is)
    (case a_is_word => k_is)
    (case l_is_word => k_is)
    (case c_is_word => k_is)
    (case k_is_word => k_is)
    (case a_is_short_word => k_is)
    (case l_is_short_word => k_is)
    (case c_is_short_word => k_is)
    (case k_is_short_word => k_is)
    (case a_check_word => k_is)
    (case l_check_word => k_is)
    (case c_check_word => k_is)
    (case k_check_word => k_is)
    (case a_state_behind => k_is)
    (case l_state_behind => k_is)
    (case c_state_behind => k_is)
    (case k_state_behind => k_is)
    (case a_last_answer => k_is)
    (case l_last_answer => k_is)
    (case c_last_answer => k_is)
    (case k_last_answer => k_is)
    (case a_ways_to_states => k_is)
    (case l_ways_to_states => k_is)
    (case c_ways_to_states => k_is)
    (case k_ways_to_states => k_is)
    (case a_unlike_letters => k_is)
    (case l_unlike_letters => k_is)
    (case c_unlike_letters => k_is)
    (case k_unlike_letters => k_is)
    (case a_pair_behind => k_is)
    (case l_pair_behind => k_is)
    (case c_pair_behind => k_is)
    (case k_pair_behind => k_is)
    (case a_letters_into => k_is)
    (case l_letters_into => k_is)
    (case c_letters_into => k_is)
    (case k_letters_into => k_is)
    (case a_late_layers => k_is)
    (case l_late_layers => k_is)
    (case c_late_layers => k_is)
    (case k_late_layers => k_is)
    (case a_late_walk => k_is)
    (case l_late_walk => k_is)
    (case c_late_walk => k_is)
    (case k_late_walk => k_is)
    (case a_round_on => k_is)
    (case l_round_on => k_is)
    (case c_round_on => k_is)
    (case k_round_on => k_is)
    (case a_letters_on => k_is)
    (case l_letters_on => k_is)
    (case c_letters_on => k_is)
    (case k_letters_on => k_is)
    (case a_late => k_is)
    (case l_late => k_is)
    (case c_late => k_is)
    (case k_late => k_is)
    (case a_late_word => k_is)
    (case l_late_word => k_is)
    (case c_late_word => k_is)
    (case k_late_word => k_is)
    (case a_answer_unlike => k_is)
    (case l_answer_unlike => k_is)
    (case c_answer_unlike => k_is)
    (case k_answer_unlike => k_is)
    (case a_shows_late_word => k_is)
    (case l_shows_late_word => k_is)
    (case c_shows_late_word => k_is)
    (case k_shows_late_word => k_is)
    (case a_never_forgets => k_is)
    (case l_never_forgets => k_is)
    (case c_never_forgets => k_is)
    (case k_never_forgets => k_is)
    (case a_shows_never_forgets => k_is)
    (case l_shows_never_forgets => k_is)
    (case c_shows_never_forgets => k_is)
    (case k_shows_never_forgets => k_is)
    (case a_window => k_is)
    (case l_window => k_is)
    (case c_window => k_is)
    (case k_window => k_is)
    (case a_window_answer => k_is)
    (case l_window_answer => k_is)
    (case c_window_answer => k_is)
    (case k_window_answer => k_is)
    (case a_words_of => k_is)
    (case l_words_of => k_is)
    (case c_words_of => k_is)
    (case k_words_of => k_is)
    (case a_window_table => k_is)
    (case l_window_table => k_is)
    (case c_window_table => k_is)
    (case k_window_table => k_is)
    (case a_law_taken => k_is)
    (case l_law_taken => k_is)
    (case c_law_taken => k_is)
    (case k_law_taken => k_is)
    (case a_law_machine => k_is)
    (case l_law_machine => k_is)
    (case c_law_machine => k_is)
    (case k_law_machine => k_is)
    (case a_law_comes => k_is)
    (case l_law_comes => k_is)
    (case c_law_comes => k_is)
    (case k_law_comes => k_is)
    (case a_law_sets => k_is)
    (case l_law_sets => k_is)
    (case c_law_sets => k_is)
    (case k_law_sets => k_is)
    (case a_law_late => k_is)
    (case l_law_late => k_is)
    (case c_law_late => k_is)
    (case k_law_late => k_is)
    (case a_law_alike => k_is)
    (case l_law_alike => k_is)
    (case c_law_alike => k_is)
    (case k_law_alike => k_is)
    (case a_law_led => k_is)
    (case l_law_led => k_is)
    (case c_law_led => k_is)
    (case k_law_led => k_is)
    (case a_law_told => k_is)
    (case l_law_told => k_is)
    (case c_law_told => k_is)
    (case k_law_told => k_is)
    (case a_law_is_late => k_is)
    (case l_law_is_late => k_is)
    (case c_law_is_late => k_is)
    (case k_law_is_late => k_is)
    (case a_law_refused => k_is)
    (case l_law_refused => k_is)
    (case c_law_refused => k_is)
    (case k_law_refused => k_is)
    (case a_law_words => k_is)
    (case l_law_words => k_is)
    (case c_law_words => k_is)
    (case k_law_words => k_is)
    (case a_law => k_is)
    (case l_law => k_is)
    (case c_law => k_is)
    (case k_law => k_is)
    (case xk_law => first | k_is | rfl | decide +kernel)
    (case xp_law => first | k_is | rfl | decide +kernel)
    (case xn_law => first | k_is | rfl | decide +kernel)
    (case xh_law => first | k_is | rfl | decide +kernel)
    (case z_all => k_is)
    (case z_bool => k_is)
    (case z_enumerate => k_is)
    (case z_int => k_is)
    (case z_isinstance => k_is)
    (case z_len => k_is)
    (case z_list => k_is)
    (case z_max => k_is)
    (case z_min => k_is)
    (case z_range => k_is)
    (case z_reversed => k_is)
    (case z_set => k_is)
    (case z_sorted => k_is)
    (case z_str => k_is)
    (case z_tuple => k_is)
    (case n_MOST_STATES => k_is)
    (case n_MOST_LETTERS => k_is)
    (case n_MOST_ANSWER => k_is)
    (case n_LONGEST_WORD => k_is)
    (case ag_BadLetters => k_is)
    (case ax_BadLetters => k_exc)
    (case ak_BadLetters => k_is)
    (case ab_BadLetters => k_is)
    (case at_BadLetters => k_is)
    (case ag_Forgets => k_is)
    (case ax_Forgets => k_exc)
    (case ak_Forgets => k_is)
    (case ab_Forgets => k_is)
    (case at_Forgets => k_is)
    (case ag_Remembers => k_is)
    (case ax_Remembers => k_exc)
    (case ak_Remembers => k_is)
    (case ab_Remembers => k_is)
    (case at_Remembers => k_is)
    (case ag_ClerkError => k_is)
    (case ab_ClerkError => k_is)
    (case ad_ClerkError => k_is)
    (case at_ClerkError => k_is)
    (case am_BadLetters => k_is)
    (case ae_BadLetters => exact ⟨by k_is, by k_is, by k_is, by k_is, by k_is, by k_is, by k_is, by k_is⟩)
    (case am_Forgets => k_is)
    (case ae_Forgets => exact ⟨by k_is, by k_is, by k_is, by k_is, by k_is, by k_is, by k_is, by k_is⟩)
    (case am_Remembers => k_is)
    (case ae_Remembers => exact ⟨by k_is, by k_is, by k_is, by k_is, by k_is, by k_is, by k_is, by k_is⟩)
    (case ar_BadLetters_Forgets => k_is)
    (case an_BadLetters_Forgets => rfl)
    (case ar_BadLetters_Remembers => k_is)
    (case an_BadLetters_Remembers => rfl)
    (case ar_Forgets_BadLetters => k_is)
    (case an_Forgets_BadLetters => rfl)
    (case ar_Forgets_Remembers => k_is)
    (case an_Forgets_Remembers => rfl)
    (case ar_Remembers_BadLetters => k_is)
    (case an_Remembers_BadLetters => rfl)
    (case ar_Remembers_Forgets => k_is)
    (case an_Remembers_Forgets => rfl)
