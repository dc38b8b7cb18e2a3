import PyProof.Rows.All
import Wide.All
import OpenK.AllK
import Wide.FinOn
import KE.KeyNested
import KE.GoesMore
import KE.GoesEnum
import HandS.ForMost
import HandS.Evl
import HandS.IsInst
import HandS.Style
import HandS.SetKeys
import HandS.TupLen
import HandS.TupAny
import HandS.Conv
import HandS.Rev
import HandS.ForExc
import HandS.WordsExc
import HandS.TryOnly
import HandS.SetFor
import HandS.Sort
import HandS.Strs
import HandS.Lambda
import HandS.ExcIs
import HandS.EndOwn
import HandS.TryMany
import HandS.SortInts
import HandS.Walk
import HandS.Zip
import HandS.DictComp
import HandS.Flow
import HandS.TupMul
import HandS.Zip0
import HandS.FStr
import HandS.Text
import HandS.Steps
import HandS.Small
import HandS.StrMore
import HandS.Property
import HandS.Codes
import HandS.ExcOwn
import HandS.ExcInit
import HandS.ExcField
import HandS.Gcd
import HandS.Wide
import HandS.SortKw
import KE.KMathGC
import PySem.Challenge.RW_pushedclerks_k63_whole_chances
set_option Elab.async false
set_option linter.all false
set_option maxRecDepth 100000
set_option maxHeartbeats 4000000
namespace L2
open PySem PySem.Spec PyProof.Rows

/-! ### dicts whose keys are nested tuples -/
/-- at a: a dict with the keys, where they stand, and the values kvs -/
def DictN (P : Program) (w : World) (a : Addr) (kvs : List (NestedKey × Addr × V)) : HO := .ext fun h => (a == sysModules) = false ∧ kvs.length ≤ sizeLine ∧
  ∃ xs : List (NestedKey × Addr × Value), Paired (fun (p : NestedKey × Addr × V) (q : NestedKey × Addr × Value) => p.1 = q.1 ∧ p.2.1 = q.2.1 ∧ RelV p.2.2 q.2.2) kvs xs ∧
    ∃ o es ep, h.get? a = some o ∧ o.ExactDict ∧ o.data = .dict es ep ∧ es.toList = xs.map (entryOfKey (nestedKind P w)) ∧ (xs.map (·.1)).Nodup
mutual
/-- a value of the abstract heap is a key -/
inductive NKey (K : PySem.W.Frag) (H : Hp) : V → NestedKey → Prop
  | int (i : Int) : NKey K H (.int i) (.num i)
  | tup {a : Addr} {xs : List V} {ks : List NestedKey} : SqT K H a xs → NKeys K H xs ks → NKey K H (.ref a) (.tup ks)
inductive NKeys (K : PySem.W.Frag) (H : Hp) : List V → List NestedKey → Prop
  | nil : NKeys K H [] []
  | cons {v : V} {vs : List V} {k : NestedKey} {ks : List NestedKey} : NKey K H v k → NKeys K H vs ks → NKeys K H (v :: vs) (k :: ks)
end
def TK (K : PySem.W.Frag) (H H' : Hp) : Prop := ∀ a xs, SqT K H a xs → SqT K H' a xs
mutual
theorem NKey.keep {K : PySem.W.Frag} {H H' : Hp} (e : TK K H H') : ∀ (k : NestedKey) (v : V), NKey K H v k → NKey K H' v k
  | .num i, _, h => by cases h; exact .int i
  | .tup ks, _, h => by
    cases h with
    | tup h1 h2 => exact .tup (e _ _ h1) (NKeys.keep e ks _ h2)
  | .none, _, h => by cases h
  | .text _, _, h => by cases h
theorem NKeys.keep {K : PySem.W.Frag} {H H' : Hp} (e : TK K H H') : ∀ (ks : List NestedKey) (vs : List V), NKeys K H vs ks → NKeys K H' vs ks
  | [], _, h => by cases h; exact .nil
  | k :: ks, _, h => by
    cases h with
    | cons h1 h2 => exact .cons (NKey.keep e k _ h1) (NKeys.keep e ks _ h2)
end
section
variable {X : Cx} {pinz : List (Addr × Obj)} {σ : St} {H : Hp} {s : Shared}
mutual
theorem NKey.is (I : Inv X pinz σ H s) : ∀ (k : NestedKey) (v : V) (u : Value), NKey X.K H v k → RelV v u → NestedIs s.heap k u
  | .num i, _, _, h, r => by
    cases h
    obtain ⟨t, rfl⟩ := r
    exact .int i t
  | .tup ks, _, _, h, r => by
    cases h with
    | tup h1 h2 =>
      cases r
      obtain ⟨its, rV, ⟨o, ho, hc, n, hd⟩, _⟩ := I.tuple h1
      exact .tup ho hc hd (NKeys.is I ks _ _ h2 rV)
  | .none, _, _, h, _ => by cases h
  | .text _, _, _, h, _ => by cases h
theorem NKeys.is (I : Inv X pinz σ H s) : ∀ (ks : List NestedKey) (vs : List V) (us : List Value), NKeys X.K H vs ks → Vals vs us → NestedAll s.heap ks us
  | [], _, _, h, r => by
    cases h
    cases r
    exact .nil
  | k :: ks, _, _, h, r => by
    cases h with
    | cons h1 h2 =>
      cases r with
      | cons r1 r2 => exact .cons (NKey.is I k _ _ h1 r1) (NKeys.is I ks _ _ h2 r2)
end
end
/-- what stands at a key -/
def atN (kvs : List (NestedKey × Addr × V)) (k : NestedKey) : Option V := (kvs.find? fun e => decide (e.1 = k)).map (·.2.2)
theorem atN_rel {kvs : List (NestedKey × Addr × V)} {xs : List (NestedKey × Addr × Value)} (r : Paired (fun (p : NestedKey × Addr × V) (q : NestedKey × Addr × Value) => p.1 = q.1 ∧ p.2.1 = q.2.1 ∧ RelV p.2.2 q.2.2) kvs xs) (k : NestedKey) :
    RelO (atN kvs k) ((atKey xs k).map (·.2)) := by
  induction r with
  | nil => exact True.intro
  | @cons p q ps qs h t ih =>
    obtain ⟨h1, _, h2⟩ := h
    by_cases e : p.1 = k
    · have y' : q.1 = k := h1.symm.trans e
      have b : atKey (q :: qs) k = some q.2 := by simp [atKey, List.find?_cons, y']
      have c : atN (p :: ps) k = some p.2.2 := by simp [atN, List.find?_cons, e]
      rw [b, c]; exact h2
    · have y' : ¬ q.1 = k := fun z => e (h1.trans z)
      have b : atKey (q :: qs) k = atKey qs k := by simp [atKey, List.find?_cons, y']
      have c : atN (p :: ps) k = atN ps k := by simp [atN, List.find?_cons, e]
      rw [b, c]; exact ih
theorem dictN_stay {P : Program} {w : World} {a : Addr} {kvs : List (NestedKey × Addr × V)} : ∀ h1 h2 : Heap, ((a == sysModules) = false ∧ kvs.length ≤ sizeLine ∧
  ∃ xs : List (NestedKey × Addr × Value), Paired (fun (p : NestedKey × Addr × V) (q : NestedKey × Addr × Value) => p.1 = q.1 ∧ p.2.1 = q.2.1 ∧ RelV p.2.2 q.2.2) kvs xs ∧
    ∃ o es ep, h1.get? a = some o ∧ o.ExactDict ∧ o.data = .dict es ep ∧ es.toList = xs.map (entryOfKey (nestedKind P w)) ∧ (xs.map (·.1)).Nodup) → (∀ o, h1.get? a = some o → h2.get? a = some o) → ((a == sysModules) = false ∧ kvs.length ≤ sizeLine ∧
  ∃ xs : List (NestedKey × Addr × Value), Paired (fun (p : NestedKey × Addr × V) (q : NestedKey × Addr × Value) => p.1 = q.1 ∧ p.2.1 = q.2.1 ∧ RelV p.2.2 q.2.2) kvs xs ∧
    ∃ o es ep, h2.get? a = some o ∧ o.ExactDict ∧ o.data = .dict es ep ∧ es.toList = xs.map (entryOfKey (nestedKind P w)) ∧ (xs.map (·.1)).Nodup) := by
  rintro h1 h2 ⟨z, y, xs, r, o, es, ep, e, c⟩ k
  exact ⟨z, y, xs, r, o, es, ep, k o e, c⟩
theorem dictN_ok {P : Program} {w : World} {H : Hp} {h : Heap} {a : Addr} {kvs : List (NestedKey × Addr × V)} {xs : List (NestedKey × Addr × Value)} (hd : (a == sysModules) = false) (hl : kvs.length ≤ sizeLine)
    (r : Paired (fun (p : NestedKey × Addr × V) (q : NestedKey × Addr × Value) => p.1 = q.1 ∧ p.2.1 = q.2.1 ∧ RelV p.2.2 q.2.2) kvs xs) (dd : h.DictOfH (nestedKind P w) a xs) : ObjOk P w H h a (DictN P w a kvs) := by
  obtain ⟨o, es, ep, h1, h2, h3, h4, _, h5⟩ := dd
  exact ⟨⟨hd, hl, xs, r, o, es, ep, h1, h2, h3, h4, h5⟩, ⟨o, h1⟩, dictN_stay⟩
/-- {} whose keys will be nested tuples -/
def tDNewN (P : Program) (w : World) : TE := fun _ H Q => ∀ p, H p = none → Q (.ref p) (upd H p (DictN P w p []))
theorem pe_dnewN {X : Cx} {pos : Pos} : PE X (.Dict [] [] pos) (tDNewN X.prog X.w) := ⟨fun pinz s σ H Q I h =>
  wpAny_Dict_empty ⟨.ref s.heap.objs.size, _, I.laid (a := s.heap.objs.size) (o := DictN X.prog X.w s.heap.objs.size []) (t' := s.toks) (fun _ _ q => Heap.get?_push_of_some _ q) (Nat.le_refl _)
    (dictN_ok (by have := I.big; exact beq_eq_false_iff_ne.mpr (Nat.ne_of_gt this)) (Nat.zero_le _) .nil (Heap.DictOfH.new s.heap)), rfl, h _ (I.hok.fresh (Nat.le_refl _))⟩⟩
section
variable {X : Cx} {pinz : List (Addr × Obj)} {σ : St} {H : Hp} {s : Shared} {a b : Addr} {A : Around} {E : Value → Shared → Prop}
theorem dictN_get {kvs : List (NestedKey × Addr × V)} (I : Inv X pinz σ H s) (e : H a = some (DictN X.prog X.w a kvs)) (hk : ∀ q ∈ kvs, NKey X.K H (.ref q.2.1) q.1 ∧ q.1.depth ≤ 8) :
    (a == sysModules) = false ∧ kvs.length ≤ sizeLine ∧ ∃ xs : List (NestedKey × Addr × Value), Paired (fun (p : NestedKey × Addr × V) (q : NestedKey × Addr × Value) => p.1 = q.1 ∧ p.2.1 = q.2.1 ∧ RelV p.2.2 q.2.2) kvs xs ∧ s.heap.DictOfH (nestedKind X.prog X.w) a xs := by
  obtain ⟨⟨z, y, xs, r, o, es, ep, h1, h2, h3, h4, h5⟩, _⟩ := I.hok a _ e
  refine ⟨z, y, xs, r, o, es, ep, h1, h2, h3, h4, fun x hx => ?_, h5⟩
  have all : ∀ {l : List (NestedKey × Addr × V)} {m : List (NestedKey × Addr × Value)}, Paired (fun (p : NestedKey × Addr × V) (q : NestedKey × Addr × Value) => p.1 = q.1 ∧ p.2.1 = q.2.1 ∧ RelV p.2.2 q.2.2) l m → (∀ q ∈ l, NKey X.K H (.ref q.2.1) q.1 ∧ q.1.depth ≤ 8) → ∀ x ∈ m, (nestedKind X.prog X.w).is s.heap x.1 x.2.1 := by
    intro l m q
    induction q with
    | nil => intro _ x hx; exact nomatch hx
    | @cons p q ps qs wq t ih =>
      intro hl x hx
      rcases List.mem_cons.mp hx with e | hx
      · subst e
        have := hl p List.mem_cons_self
        rw [← wq.1, ← wq.2.1]
        exact ⟨NKey.is I _ _ _ this.1 rfl, this.2⟩
      · exact ih (fun q wq => hl q (List.mem_cons_of_mem _ wq)) x hx
  exact all r hk x hx
theorem dn_setd {kvs : List (NestedKey × Addr × V)} {k : NestedKey} {d : V} {r : Value} {Q : Value → Shared → Prop} (hu : A.units + 9 < cLine) (I : Inv X pinz σ H s) (e : H a = some (DictN X.prog X.w a kvs)) (hk : ∀ q ∈ kvs, NKey X.K H (.ref q.2.1) q.1 ∧ q.1.depth ≤ 8)
    (ky : NKey X.K H (.ref b) k) (kd : k.depth ≤ 8) (rd : RelV d r) (hl : kvs.length < sizeLine)
    (h1 : ∀ v, atN kvs k = some v → ∀ (w' : Value) (s' : Shared), Inv X pinz σ H s' → RelV v w' → Q w' s') (h2 : atN kvs k = none → ∀ (w' : Value) (s' : Shared), Inv X pinz σ (upd H a (DictN X.prog X.w a (kvs ++ [(k, b, d)]))) s' → RelV d w' → Q w' s') :
    wpAny (model X.prog X.w) A (call (.builtin "dict.setdefault") [.ref a, .ref b, r]) Q E s := by
  obtain ⟨hd, z, xs, rel, dd⟩ := dictN_get I e hk
  have wz : xs.length ≤ sizeLine := by rw [← Paired.length rel]; exact z
  have rl := atN_rel rel k
  refine call_setdefault_heap (hsz := wz) (knd := nestedKind X.prog X.w) (show A.in1.units + 8 < cLine from by show A.units + 1 + 8 < cLine; omega) ⟨NKey.is I _ _ _ ky rfl, kd⟩ hd dd (fun p hp => ?_) fun hn h' dd' hs => ?_
  · rw [hp] at rl
    cases q0 : atN kvs k with
    | none => rw [q0] at rl; exact (show False from rl).elim
    | some v0 => rw [q0] at rl; exact h1 v0 q0 _ _ (I.tok _) rl
  · rw [hn] at rl
    cases q0 : atN kvs k with
    | some v0 => rw [q0] at rl; exact (show False from rl).elim
    | none =>
      rw [storedH_new hn] at dd'
      have he : ∃ q, h'.get? a = some q := let ⟨q, _, _, wq, _⟩ := dd'; ⟨q, wq⟩
      refine h2 q0 _ _ (d_write (t' := s.toks + (nestedKind X.prog X.w).draws k) I (by rw [e]; exact True.intro) hs he (dictN_ok hd ?_ (Paired.snoc rel ⟨rfl, rfl, rd⟩) dd')) rd
      rw [List.length_append]
      exact hl
end
/-- d.setdefault(y, z), y a tuple -/
def tDSetdN (K : PySem.W.Frag) (P : Program) (w : World) (td ty tx : TE) : TE := fun σ H Q => td σ H fun x H1 => ∃ a, x = .ref a ∧ (∃ kvs, H1 a = some (DictN P w a kvs)) ∧ ty σ H1 fun y H2 => tx σ H2 fun z H3 => ∃ (kvs : List (NestedKey × Addr × V)) (k : NestedKey) (b : Addr),
  H3 a = some (DictN P w a kvs) ∧ y = .ref b ∧ (∀ q ∈ kvs, NKey K H3 (.ref q.2.1) q.1 ∧ q.1.depth ≤ 8) ∧ NKey K H3 (.ref b) k ∧ k.depth ≤ 8 ∧ kvs.length < sizeLine ∧
  (∀ v, atN kvs k = some v → Q v H3) ∧ (atN kvs k = none → Q z (upd H3 a (DictN P w a (kvs ++ [(k, b, z)]))))
section
variable {X : Cx} {o e f : Expr} {td ty tx : TE} {apos cpos : Pos}
theorem pe_dsetdN (hu : X.A.units + 9 < cLine) (ho : PE X o td) (he : PE X e ty) (hf : PE X f tx) (m : M2 X o "setdefault" apos e f cpos) : PE X (.Call (.Attribute o "setdefault" apos) [e, f] [] cpos) (tDSetdN X.K X.prog X.w td ty tx) := by
  refine ⟨fun pinz s σ H Q I h => ?_⟩
  refine wpAny_Call_method m.base m.few m.line PySem.F.plainAttrs_dict PySem.F.slot_dict_setdefault PySem.F.type_dict_setdefault (thn (ho.run pinz s σ H _ I h) fun u z1 ⟨x, H1, J1, rx, a, ex, ⟨kvs0, d0⟩, k1⟩ => ?_)
  subst ex
  obtain rfl : u = Value.ref a := rx
  have tt : z1.TypeIs (.ref a) "dict" ∧ (∀ b, Value.ref a = .ref b → ∃ ob, z1.heap.get? b = some ob ∧ ob.dict = none) := by
    obtain ⟨⟨_, _, xs, _, ob, es, ep, h1, h2, h3, _⟩, _⟩ := J1.hok a _ d0
    exact ⟨⟨ob, h1, h2.1⟩, fun b q => by cases q; exact ⟨ob, h1, h2.2.1⟩⟩
  refine ⟨tt.1, tt.2, ?_⟩
  rw [m.trees]
  refine Calls.callWith_builtin rfl (Calls.evalArgs_plain (Calls.spliced_cons (thn (he.run pinz z1 σ H1 _ J1 k1) fun iv z2 ⟨y, H2, J2, ry, k2⟩ =>
    Calls.spliced_cons (thn (hf.run pinz z2 σ H2 _ J2 k2) fun fv z3 ⟨z, H3, J3, rz, kvs, k, b, ea, ey, hk, ky, kd, hl, k3, k4⟩ => Calls.spliced_nil ?_))))
  subst ey
  obtain rfl : iv = Value.ref b := ry
  exact dn_setd hu J3 ea hk ky kd rz hl (fun v hv w' z4 I4 rw' => ⟨v, _, I4, rw', k3 v hv⟩) fun hn w' z4 I4 rw' => ⟨z, _, I4, rw', k4 hn⟩
end

/-! ### enumerate(t), t a tuple -/
theorem meets_enumerate_new1 {v : Value} {o : Obj} {H : Heap → Prop} (B : Begins v o H) :
    Meets (Builtin.«enumerate.__new__» ⟨[.type "enumerate", v], []⟩) (fun _ R s => H s.heap ∧
      R (.ok (.ret (.ref (s.heap.push o).objs.size))) { s with heap := (s.heap.push o).push { cls := .type "enumerate", data := .fields #[.none, .bool false, .ref s.heap.objs.size, rawInt 0, .none, .none] } }) :=
  .of_wp fun prog w A R s h => by
    obtain ⟨hp0, g, d, tk0, os0⟩ := s; obtain ⟨h1, h⟩ := h
    have wsub := sub_enumerate
    have k1 : ∀ {A' : Around} {E : Value → Shared → Prop} {Q : Value → Shared → Prop}, Q (.ref hp0.objs.size) ⟨hp0.push o, g, d, tk0, os0⟩ → wpAny (model prog w) A' (pyIter v) Q E ⟨hp0, g, d, tk0, os0⟩ :=
      fun q => B.iter prog w _ _ ⟨hp0, g, d, tk0, os0⟩ _ h1 q
    wp_walk using k1
    refine wpAny_stack_any fun st0 => wpAny_pure ?_
    split
    · rename_i c _ _ _ _ _
      cases (c == Value.type "enumerate")
      · wp_walk using k1
        exact ⟨_, rfl, h⟩
      · wp_walk using k1
        exact ⟨_, rfl, h⟩
    · wp_walk using k1
      exact ⟨_, rfl, h⟩
section
variable {prog : Program} {w : World} {A : Around} {E : Value → Shared → Prop} {s : Shared}
theorem enum_begins1 {v : Value} {o : Obj} {H : Heap → Prop} {Q : Value → Shared → Prop} (B : Begins v o H) (h1 : H s.heap)
    (h : ∀ h', IsEnum h' (s.heap.objs.size + 1) s.heap.objs.size 0 .none → h'.get? s.heap.objs.size = some o → h'.objs.size = s.heap.objs.size + 2 →
      (∀ b o, s.heap.get? b = some o → h'.get? b = some o) →
      Q (.ref (s.heap.objs.size + 1)) { s with heap := h' }) :
    wpAny (model prog w) A (call (.type "enumerate") [v]) Q E s := by
  refine callType_new F.called_enumerate (by decide)
    (F.typeCall_enumerate_1 _) (F.newCall_enumerate_1 _) (fun obj => F.args_object_init_2 obj _) F.entry_enumerate_new
    (meets_enumerate_new1 B) ⟨h1, ?_⟩
  have wz : (s.heap.push o).objs.size = s.heap.objs.size + 1 := Heap.size_push ..
  show _ ∧ _
  rw [wz]
  have he0 : IsEnum ((s.heap.push o).push { cls := .type "enumerate", data := .fields #[.none, .bool false, .ref s.heap.objs.size, rawInt 0, .none, .none] }) (s.heap.objs.size + 1) s.heap.objs.size 0 .none := by
    have := Heap.get?_push_size (s.heap.push o) (o := { cls := .type "enumerate", data := .fields #[.none, .bool false, .ref s.heap.objs.size, rawInt 0, .none, .none] }) rfl
    rw [wz] at this; exact this
  refine ⟨⟨_, he0, rfl⟩, h _ he0 (Heap.get?_push_of_some _ (Heap.get?_push_size _ B.free)) (by rw [Heap.size_push, wz]) fun b o x => Heap.get?_push_of_some _ (Heap.get?_push_of_some _ x)⟩
end
/-- the tuple at a as it stands at each turn, each item in a new pair -/
def IteT (K : PySem.W.Frag) (a : Addr) : It :=
  ⟨fun i H => ∃ (ws : List V) (x : V), SqT K H a ws ∧ ws[i]? = some x, fun i H v H' => ∃ T x, v = .ref T ∧ H T = none ∧ H' = upd H T (.tup [.int (i : Nat), x]) ∧ ∀ ws, SqT K H a ws → ws[i]? = some x, fun i H => ∃ ws : List V, SqT K H a ws ∧ ws.length = i⟩
theorem turn_enumT {P : Program} {w : World} {K : PySem.W.Frag} {elts : List Expr} {kk : Nat} {tpos : Pos} (a e it : Addr) (hai : a ≠ it) (hae : a ≠ e) (hei : e ≠ it) :
    Turn P w K (.Tuple elts kk tpos) (IteT K a) [e, it] e (fun i h => (∃ old, IsEnum h e it ((i : Nat) : Int) old) ∧ h.IsTupleIter it a i) where
  mem := by simp
  obj := fun i h st0 b hb0 => by
    obtain ⟨⟨old, he0⟩, ⟨o, ho0, hc0, hd⟩⟩ := st0
    have yy : b = e ∨ b = it := by simpa using hb0
    rcases yy with z | z
    · rw [z]; exact ⟨_, he0, fun v q => nomatch q⟩
    · rw [z]; exact ⟨o, ho0, fun v q => by rw [hd] at q; cases q⟩
  keep := fun i h h' st0 k => let ⟨⟨old, he0⟩, hi⟩ := st0; ⟨⟨old, k e (by simp) _ he0⟩, hi.at fun o q => k it (by simp) o q⟩
  item := by
    intro X hP hw hK hc0 i pinz s σ H E I hf st0 hg
    subst hP hw hK
    obtain ⟨⟨old, he0⟩, wit⟩ := st0
    obtain ⟨ws, x, wq, hx⟩ := hg
    obtain ⟨its, rV, p, wz⟩ := I.tuple wq
    obtain ⟨u, hu, ru⟩ := rV.get hx
    have wel : e < s.heap.objs.size := Heap.lt_size he0
    have wil : it < s.heap.objs.size := by obtain ⟨_, q, _⟩ := wit; exact Heap.lt_size q
    have D := Draws.tuple (prog := X.prog) (w := X.w) (A := X.A.in1) (I.ok.hd hc0) it a hai its.toArray
    refine wpAny_pyNext_enum_itemD D he0 ⟨wit, p⟩ (by
      have := (List.getElem?_eq_some_iff.mp hu).1
      simpa using this) hei (by simp [hei, hae.symm]) fun x' h' tk0 hP ho0 stt hT hsz hk0 => ?_
    have ex' : x' = u := by
      have hPp : its[i]? = some x' := by simpa using hP
      rw [hu] at hPp
      exact (Option.some.inj hPp).symm
    subst ex'
    refine ⟨_, rfl, wpAny_letOwnedTupleGo_enum (s := { s with heap := h', toks := tk0 + 1 }) ho0 fun hh2 he' sb => ?_⟩
    have wT2 : hh2.get? s.heap.objs.size = some { cls := .type "tuple", data := .seq #[.int i tk0, x'] } := (sb.2 _ (Nat.ne_of_gt wel)).trans hT
    have new : ObjOk X.prog X.w (upd H s.heap.objs.size (.tup [.int (i : Nat), x])) hh2 s.heap.objs.size (.tup [.int (i : Nat), x]) :=
      ⟨by show 2 ≤ sizeLine; decide, [.int i tk0, x'], .cons ⟨_, rfl⟩ (.cons ru .nil), ⟨_, wT2, rfl, _, rfl⟩⟩
    have J1 : Inv X pinz σ (upd H s.heap.objs.size (.tup [.int (i : Nat), x])) { s with heap := hh2, toks := tk0 + 1 } :=
      I.turnedNew (ch := [e, it]) (fun b ob0 hb0 q => (sb.2 b (fun z => hb0 (by simp [z]))).trans (hk0 b ob0 (fun z => hb0 (by simp [z])) (fun z => hb0 (by simp [z])) q)) hf (Nat.le_refl _) new
    refine ⟨.ref s.heap.objs.size, _, J1, rfl, ⟨_, x, rfl, I.hok.fresh (Nat.le_refl _), rfl, fun ys hy => by rw [I.tuple_inj hy wq]; exact hx⟩, ⟨⟨x', ?_⟩, stt.1.at fun o q => (sb.2 it (Ne.symm hei)).trans q⟩, fun b hb0 => ?_⟩
    · have ee1 : ((i + 1 : Nat) : Int) = (i : Int) + 1 := by omega
      rw [ee1]; exact he'
    · have wb' : b < s.heap.objs.size := by
        have yy : b = e ∨ b = it := by simpa using hb0
        rcases yy with z | z
        · rw [z]; exact wel
        · rw [z]; exact wil
      rw [upd_ne (Nat.ne_of_lt wb')]
      exact (hf b hb0).1
  done := by
    intro X hP hw hK hc0 i pinz s σ H E I hf st0 hg
    subst hP hw hK
    obtain ⟨⟨old, he0⟩, wit⟩ := st0
    obtain ⟨ws, wq, hx⟩ := hg
    obtain ⟨its, rV, p, wz⟩ := I.tuple wq
    obtain ⟨u0, u1, u2, u3, u4, u5⟩ := hf it (by simp)
    have hl := rV.length
    have D := Draws.tuple (prog := X.prog) (w := X.w) (A := X.A.in1) (I.ok.hd hc0) it a hai its.toArray
    have hn : its.toArray.size = i := by rw [List.size_toArray]; omega
    have stt : s.heap.IsTupleIter it a its.toArray.size ∧ s.heap.IsTuple a its.toArray := ⟨by rw [hn]; exact wit, p⟩
    exact wpAny_pyNext_enum_endD D he0 stt fun h' eb => ⟨rfl, I.turned (t' := s.toks) (fun b o hb0 q => eb b o hb0 q) u0 u1 u3 u4 u5⟩
  self := fun A i s Q E st0 h => let ⟨⟨_, he0⟩, _⟩ := st0; wpAny_pyIter_enum he0 h

def iEnumT (K : PySem.W.Frag) (ta : TA) : TI := fun σ H R => ta σ H fun vs H1 => ∃ a ws, vs = [.ref a] ∧ SqT K H1 a ws ∧ R (IteT K a) H1
theorem pi_enumT {X : Cx} {e : Expr} {ta : TA} {p pos tpos : Pos} {elts : List Expr} {kk : Nat} (hg : Gl X "enumerate") (hm : X.mg "enumerate" = none) (ha : PA X [e] ta) (hs : starEach [e] X.env = [(false, eval e X.env)] := by rfl) :
    PI X (.Tuple elts kk tpos) (.Call (.Name "enumerate" p) [e] [] pos) (iEnumT X.K ta) := by
  refine ⟨fun pinz s σ H R I h => ?_⟩
  refine Call_ (ld_blt I hg hm boot_enumerate (PyProof.Rows.callWith_type1 (thn (ha.run pos pinz s σ H _ I h) fun us z1 ⟨vs, H1, J1, r1, k1⟩ => ?_) hs rfl))
  obtain ⟨a, ws, ex, wq, q⟩ := k1
  subst ex
  cases r1 with
  | cons r rr =>
    cases rr
    cases r
    obtain ⟨its, rV, p', wz⟩ := J1.tuple wq
    have wal : a < z1.heap.objs.size := by obtain ⟨o, ho0, _⟩ := p'; exact Heap.lt_size ho0
    refine enum_begins1 (begins_tuple a its.toArray) p' fun h' he0 wit hsz hk0 => wpAny_pyIter_enum he0 ?_
    have J2 : Inv X pinz σ H1 { z1 with heap := h' } := J1.kept (t' := z1.toks) hk0
    refine ⟨z1.heap.objs.size + 1, [z1.heap.objs.size + 1, z1.heap.objs.size], _, _, H1, rfl, J2, turn_enumT a (z1.heap.objs.size + 1) z1.heap.objs.size (Nat.ne_of_lt wal) (Nat.ne_of_lt (Nat.lt_succ_of_lt wal)) (Nat.succ_ne_self _), ⟨⟨.none, he0⟩, ⟨_, wit, rfl, rfl⟩⟩, fun b hb0 => ?_, q⟩
    have yy : b = z1.heap.objs.size + 1 ∨ b = z1.heap.objs.size := by simpa using hb0
    have wle : z1.heap.objs.size ≤ b := by
      rcases yy with z | z
      · rw [z]; exact Nat.le_add_right _ _
      · rw [z]; exact Nat.le_refl _
    exact J1.fpOk wle (J1.hok.fresh wle)
/-- a loop over enumerate of a tuple that stands still -/
theorem for_enumT {K : PySem.W.Frag} {a : Addr} {ws : List V} {g : TG} {tb : TS} {D : Ends} {σ : St} {H : Hp} (Pw : Nat → St → Hp → Prop) (h0 : Pw 0 σ H) (hl : ∀ i σ H, i ≤ ws.length → Pw i σ H → SqT K H a ws)
    (hs : ∀ i x T σ H, ws[i]? = some x → Pw i σ H → H T = none → g (.ref T) σ (upd H T (.tup [.int (i : Nat), x])) fun σ2 H2 => tb { D with nx := Pw (i + 1), ct := Pw (i + 1), bk := D.nx } σ2 H2) (hd : ∀ σ H, Pw ws.length σ H → D.nx σ H) :
    ∃ W : Nat → Nat → St → Hp → Prop, (∃ m, W 0 m σ H) ∧
      ∀ i m σ H, W i m σ H →
      ((IteT K a).stop i H ∧ D.nx σ H) ∨ ((IteT K a).go i H ∧ ∃ N : St → Hp → Prop, (∀ σ' H', N σ' H' → ∃ m', m' < m ∧ W (i + 1) m' σ' H') ∧ ∀ x H', (IteT K a).yld i H x H' → g x σ H' fun σ2 H2 => tb { D with nx := N, ct := N, bk := D.nx } σ2 H2) := by
  refine ⟨fun i m σ H => m = ws.length - i ∧ i ≤ ws.length ∧ Pw i σ H, ⟨ws.length, by simp, Nat.zero_le _, h0⟩, ?_⟩
  rintro i m σ H ⟨rfl, hi, p⟩
  have q := hl i σ H hi p
  by_cases hlt0 : i < ws.length
  · refine .inr ⟨⟨ws, ws[i], q, by simp [hlt0]⟩, Pw (i + 1), fun σ' H' p' => ⟨ws.length - (i + 1), by omega, rfl, hlt0, p'⟩, fun x H' y => ?_⟩
    obtain ⟨T, x', ee1, nT, e2, y⟩ := y
    subst ee1 e2
    exact hs i x' T σ H (y ws q) p nT
  · have e : i = ws.length := by omega
    subst e
    exact .inl ⟨⟨ws, q, rfl⟩, hd σ H p⟩

/-! ### a def of the text, by its name -/
structure Has (P : Program) (w : World) (K : PySem.W.Frag) (mg : Str → Option Value) (base : Heap) (x : Str) (k : Nat) (ps : List Str) (sp : Sp) : Prop where
  ex : ∃ (f : Addr) (fd : FuncData), mg x = some (.ref f) ∧ PySem.W.keepIn K (.ref f) = true ∧ Binds K fd ps [] ∧ FnOk P w K mg base CX0 k f fd ps sp
theorem Has.mk' {P : Program} {w : World} {K : PySem.W.Frag} {mg : Str → Option Value} {base : Heap} {x : Str} {k : Nat} {ps : List Str} {sp : Sp} {f : Addr} {fd : FuncData} (h1 : mg x = some (.ref f)) (h2 : PySem.W.keepIn K (.ref f) = true) (h3 : Binds K fd ps []) (h4 : FnOk P w K mg base CX0 k f fd ps sp) : Has P w K mg base x k ps sp := ⟨⟨f, fd, h1, h2, h3, h4⟩⟩
theorem pe_has {X : Cx} {x : Str} {k : Nat} {ps : List Str} {sp : Sp} {e : Expr} {es : List Expr} {t : TA} {p pos : Pos} (h : Has X.prog X.w X.K X.mg X.base x k ps sp) (hr : Room k X.A) (hg : Gl X x)
    (ha : PA X (e :: es) t)
    (hdb : (x == ("__debug__" : Str)) = false := by decide) (he : starEach (e :: es) X.env = (false, eval e X.env) :: starEach es X.env := by rfl) (hpl : (backTo pos (starEach es X.env)).any (·.1) = false := by rfl) :
    PE X (.Call (.Name x p) (e :: es) [] pos) (tCall sp [] E0 t) := by
  obtain ⟨f, fd, h1, h2, h3, h4⟩ := h.ex
  exact pe_call h4 hr hg h1 h2 h3 .nil pass0 ha hdb he hpl
theorem pe_globI {X : Cx} {x : Str} {n : Int} {pos : Pos} (hg : Gl X x) (h : ∃ t, X.mg x = some (.int n t)) (hd : (x == ("__debug__" : Str)) = false := by decide) (hcd : True := trivial) : PE X (.Name x pos) (tC (.int n)) := by
  obtain ⟨t, e⟩ := h
  exact pe_glob hg e ⟨_, rfl⟩ hd
/-! ### tuples of whole numbers, tables, machines -/
def nV (n : Nat) : V := .int (n : Int)
def rowV (r : List Nat) : List V := r.map nV
def RowAt (K : PySem.W.Frag) (H : Hp) (v : V) (r : List Nat) : Prop := ∃ a, v = .ref a ∧ SqT K H a (rowV r)
def TabAt (K : PySem.W.Frag) (H : Hp) (v : V) (t : List (List Nat)) : Prop := ∃ a vs, v = .ref a ∧ SqT K H a vs ∧ Paired (RowAt K H) vs t
def MacAt (K : PySem.W.Frag) (H : Hp) (v : V) (s t : List (List Nat)) : Prop := ∃ a x y, v = .ref a ∧ SqT K H a [x, y] ∧ TabAt K H x s ∧ TabAt K H y t
theorem TK.refl {K : PySem.W.Frag} {H : Hp} : TK K H H := fun _ _ h => h
theorem TK.trans {K : PySem.W.Frag} {H H1 H2 : Hp} (a : TK K H H1) (b : TK K H1 H2) : TK K H H2 := fun x xs h => b x xs (a x xs h)
theorem TK.ex {K : PySem.W.Frag} {H H' : Hp} (e : Evl.Ex H H') : TK K H H' := fun _ _ h => Evl.ex_t e h
theorem TK.upd {K : PySem.W.Frag} {H : Hp} {a : Addr} {o o' : HO} (h : H a = some o) (hn : ∀ xs, o ≠ .tup xs) (hf : ∀ ob xs, o ≠ .frz ob (.tup xs)) : TK K H (upd H a o') := fun b xs q => by
  rcases q with (q | ⟨ob, q⟩) | q
  · exact .inl (.inl (by rw [upd_ne (fun e => by subst e; rw [h] at q; exact hn _ (Option.some.inj q))]; exact q))
  · exact .inl (.inr ⟨ob, by rw [upd_ne (fun e => by subst e; rw [h] at q; exact hf _ _ (Option.some.inj q))]; exact q⟩)
  · exact .inr q
theorem TK.lst {K : PySem.W.Frag} {H : Hp} {a : Addr} {xs : List V} {o' : HO} (h : H a = some (.lst xs)) : TK K H (L2.upd H a o') := TK.upd h (fun _ z => by cases z) (fun _ _ z => by cases z)
theorem RowAt.keep {K : PySem.W.Frag} {H H' : Hp} (e : TK K H H') {v : V} {r : List Nat} (h : RowAt K H v r) : RowAt K H' v r := let ⟨a, h1, h2⟩ := h; ⟨a, h1, e _ _ h2⟩
theorem TabAt.keep {K : PySem.W.Frag} {H H' : Hp} (e : TK K H H') {v : V} {t : List (List Nat)} (h : TabAt K H v t) : TabAt K H' v t := let ⟨a, vs, h1, h2, h3⟩ := h; ⟨a, vs, h1, e _ _ h2, Paired.mapP h3 fun _ _ q => q.keep e⟩
theorem MacAt.keep {K : PySem.W.Frag} {H H' : Hp} (e : TK K H H') {v : V} {s t : List (List Nat)} (h : MacAt K H v s t) : MacAt K H' v s t := let ⟨a, x, y, h1, h2, h3, h4⟩ := h; ⟨a, x, y, h1, e _ _ h2, h3.keep e, h4.keep e⟩
theorem Paired.get {α β : Type} {F : α → β → Prop} : ∀ {l : List α} {m : List β} {i : Nat} {y : β}, Paired F l m → m[i]? = some y → ∃ x, l[i]? = some x ∧ F x y
  | _, _, _, _, .nil, e => by simp at e
  | _, _, 0, _, .cons r _, e => by simp at e; subst e; exact ⟨_, rfl, r⟩
  | _, _, i + 1, y, .cons _ t, e => by
    obtain ⟨u, h1, h2⟩ := Paired.get (i := i) (y := y) t (by simpa using e)
    exact ⟨u, by simpa using h1, h2⟩
theorem Paired.get' {α β : Type} {F : α → β → Prop} : ∀ {l : List α} {m : List β} {i : Nat} {x : α}, Paired F l m → l[i]? = some x → ∃ y, m[i]? = some y ∧ F x y
  | _, _, _, _, .nil, e => by simp at e
  | _, _, 0, _, .cons r _, e => by simp at e; subst e; exact ⟨_, rfl, r⟩
  | _, _, i + 1, y, .cons _ t, e => by
    obtain ⟨u, h1, h2⟩ := Paired.get' (i := i) (x := y) t (by simpa using e)
    exact ⟨u, by simpa using h1, h2⟩
theorem rowV_at {r : List Nat} {i n : Nat} (h : r[i]? = some n) : (rowV r)[i]? = some (nV n) := by unfold rowV; rw [List.getElem?_map, h]; rfl
theorem rowV_len (r : List Nat) : (rowV r).length = r.length := by unfold rowV; rw [List.length_map]
/-- an all of a comprehension's answers: each item true -/
theorem small {n : Nat} (h : n ≤ 100000) : n < sizeLine := Nat.lt_of_le_of_lt h (by decide)
theorem sqT_ty {K : PySem.W.Frag} {H : Hp} {a : Addr} {xs : List V} (h : SqT K H a xs) : TyX K H (.ref a) (.type "tuple") := by
  rcases h with (h | ⟨o, h⟩) | ⟨o, its, n, e, c, _⟩
  · exact .base (.tup h)
  · exact .fTuple h
  · exact .kTuple e c
theorem sqL_ty {K : PySem.W.Frag} {H : Hp} {a : Addr} {xs : List V} (h : SqL K H a xs) : TyX K H (.ref a) (.type "list") := by
  rcases h with (h | ⟨o, h⟩) | ⟨o, its, n, e, c, _⟩
  · exact .base (.lst h)
  · exact .base (.frz h)
  · exact .kList e c
/-! ### what evaluates to what: tuples -/
open Evl
section
variable {K : PySem.W.Frag} {σ : L2.St} {H H' : Hp} {ta tb te tx : TE} {t u : TT} {x y z v : V} {D : Ends} {tu tw tz : TS} {g : TG}
theorem ev_isi {T U : String} {b : Bool} (ha : Ev ta σ H x) (hy : ∀ H1, Ex H H1 → TyX K H1 x (.type T)) (hk : kitB T U = some b) : Ev (tCB (rIsi K) (tCons ta (tCons (tC (.ty U)) tNil))) σ H (.bl b) := fun H1 e Q q =>
  ha H1 e _ fun H2 e2 => ⟨x, .ty U, _, _, b, rfl, .ty _, hy H2 (e.trans e2), kit_ty hk, q H2 e2⟩
theorem ev_lenT {p : Addr} {xs : List V} (ha : Ev ta σ H (.ref p)) (h : SqT K H p xs) : Ev (tCB (rLenS K) (tCons ta tNil)) σ H (.int (xs.length : Int)) := fun H1 e Q q =>
  ha H1 e _ fun H2 e2 => ⟨p, xs, rfl, Or.inr (ex_t (e.trans e2) h), q H2 e2⟩
theorem ev_allN {n : Nat} (ha : EvL ta σ H ((List.range n).map fun _ => V.bl true)) : Ev (tCB (rAll K) (tCons ta tNil)) σ H (.bl true) := fun H1 e Q q =>
  ha H1 e _ fun p H2 _ e2 h2 => ⟨p, (List.range n).map fun _ => true, rfl, sq_of (by rw [h2, List.map_map]; rfl), by
    have : ((List.range n).map fun _ => true).all id = true := by rw [List.all_eq_true]; intro b hb; obtain ⟨_, _, e⟩ := List.mem_map.mp hb; rw [← e]; rfl
    rw [this]
    exact q H2 e2⟩
theorem ev_chainLe {a b c : Int} (ha : Ev ta σ H (.int a)) (hb : Ev tb σ H (.int b)) (hc : Ev te σ H (.int c)) : Ev (tChain (rI0 fun i j => .bl (decide (i ≤ j))) (rI0 fun i j => .bl (decide (i ≤ j))) ta tb te) σ H (.bl (decide (a ≤ b) && decide (b ≤ c))) := fun H1 e Q q =>
  ha H1 e _ fun H2 e2 => hb H2 (e.trans e2) _ fun H3 e3 => ⟨a, b, rfl, rfl, decide (a ≤ b), rfl, by
    by_cases h : a ≤ b
    · rw [decide_eq_true h]
      refine iteT (hc H3 ((e.trans e2).trans e3) _ fun H4 e4 => ⟨b, c, rfl, rfl, ?_⟩)
      have := q H4 ((e2.trans e3).trans e4)
      rw [decide_eq_true h, Bool.true_and] at this
      exact this
    · rw [decide_eq_false h]
      refine iteF ?_
      have := q H3 (e2.trans e3)
      rw [decide_eq_false h, Bool.false_and] at this
      exact this⟩
def gvn (n : Nat) (v : Nat → V) : List V := (List.range n).map v
theorem gvn_succ (n : Nat) (v : Nat → V) : gvn (n + 1) v = gvn n v ++ [v n] := by unfold gvn; rw [List.range_succ, List.map_append]; rfl
theorem gvn_len (n : Nat) (v : Nat → V) : (gvn n v).length = n := by unfold gvn; rw [List.length_map, List.length_range]
def Cv (H : Hp) (v : Nat → V) (Dl : Addr) (i : Nat) (H' : Hp) : Prop := H Dl = none ∧ Ex H H' ∧ H' Dl = some (.lst (gvn i v))
theorem cv_turn {H H' : Hp} {v : Nat → V} {Dl : Addr} {i : Nat} {σ2 : L2.St} (p : Cv H v Dl i H') (hi : i < 50000) (he : Ev te σ2 H (v i)) :
    tYes σ2 H' fun b H3 => if b = true then te σ2 H3 fun y H4 => ∃ acc, H4 Dl = some (.lst acc) ∧ acc.length < sizeLine ∧ Cv H v Dl (i + 1) (upd H4 Dl (.lst (acc ++ [y]))) else Cv H v Dl (i + 1) H3 := by
  obtain ⟨p1, p2, p3⟩ := p
  show te σ2 H' fun y H4 => ∃ acc, H4 Dl = some (.lst acc) ∧ acc.length < sizeLine ∧ Cv H v Dl (i + 1) (upd H4 Dl (.lst (acc ++ [y])))
  refine he H' p2 _ fun H4 e4 => ⟨gvn i v, e4 Dl _ p3, sz_lt (by rw [gvn_len]; omega), p1, Ex.mut (p2.trans e4) p1, ?_⟩
  rw [gvn_succ]
  exact upd_same
/-- [e for x in t], t a tuple -/
theorem el_lcT {a : Addr} {xs : List V} {tl : TE} {j : Nat} {vs : List Nat} (v : Nat → V) (h : Ev tl σ H (.ref a)) (hx : SqT K H a xs) (wz : xs.length ≤ 40000) (hw : ∀ x, wipe ((wipe σ vs).set j (some x)) vs = wipe σ vs)
    (he : ∀ (i : Nat) (x : V) H1, Ex H H1 → xs[i]? = some x → Ev te ((wipe σ vs).set j (some x)) H1 (v i)) :
    EvL (tLc (iTup K tl) (gName j) tYes te vs) σ H (gvn xs.length v) := fun H0 e Q q => h H0 e _ fun H1 e1 => ⟨a, rfl, ⟨xs, ex_t (e.trans e1) hx⟩, fun Dl hD =>
  lc_tup (xs := xs) (Cv H1 v Dl) ⟨hD, Ex.new hD, upd_same⟩ (fun i H' _ p => ex_t ((e.trans e1).trans p.2.1) hx) (fun i x H' hi p => ⟨hw x, cv_turn p (by have := (List.getElem?_eq_some_iff.mp hi).1; omega) (he i x H1 (e.trans e1) hi)⟩)
    (fun H' p => q Dl H' (fresh_back e1 p.1) (e1.trans p.2.1) p.2.2)⟩
theorem el_lcLv {a : Addr} {xs : List V} {tl : TE} {j : Nat} {vs : List Nat} (v : Nat → V) (h : Ev tl σ H (.ref a)) (hx : SqL K H a xs) (wz : xs.length ≤ 40000) (hw : ∀ x, wipe ((wipe σ vs).set j (some x)) vs = wipe σ vs)
    (he : ∀ (i : Nat) (x : V) H1, Ex H H1 → xs[i]? = some x → Ev te ((wipe σ vs).set j (some x)) H1 (v i)) :
    EvL (tLc (iList K tl) (gName j) tYes te vs) σ H (gvn xs.length v) := fun H0 e Q q => h H0 e _ fun H1 e1 => ⟨a, rfl, ⟨xs, ex_l (e.trans e1) hx⟩, fun Dl hD =>
  lc_list (xs := xs) (Cv H1 v Dl) ⟨hD, Ex.new hD, upd_same⟩ (fun i H' _ p => ex_l ((e.trans e1).trans p.2.1) hx) (fun i x H' hi p => ⟨hw x, cv_turn p (by have := (List.getElem?_eq_some_iff.mp hi).1; omega) (he i x H1 (e.trans e1) hi)⟩)
    (fun H' p => q Dl H' (fresh_back e1 p.1) (e1.trans p.2.1) p.2.2)⟩
theorem el_lcRv {ta : TA} {j : Nat} {vs : List Nat} {n : Int} (v : Nat → V) (h : EvA ta σ H [.int n]) (hn : 0 ≤ n ∧ n ≤ 40000) (hw : ∀ x, wipe ((wipe σ vs).set j (some x)) vs = wipe σ vs)
    (he : ∀ (i : Nat) H1, Ex H H1 → (i : Int) < n → Ev te ((wipe σ vs).set j (some (.int (i : Int)))) H1 (v i)) :
    EvL (tLc (iRng1 ta) (gName j) tYes te vs) σ H (gvn n.toNat v) := fun H0 e Q q => h H0 e _ fun H1 e1 => ⟨n, rfl, by omega, by omega, fun Dl hD =>
  lc_range (lo := 0) (n := n.toNat) (Cv H1 v Dl) ⟨hD, Ex.new hD, upd_same⟩ (fun i H' hi p => by
    have z0 : (0 : Int) + (i : Int) = (i : Int) := Int.zero_add _
    show wipe ((wipe σ vs).set j (some (.int ((0 : Int) + (i : Int))))) vs = wipe σ vs ∧ tYes ((wipe σ vs).set j (some (.int ((0 : Int) + (i : Int))))) H' fun b H3 => if b = true then te ((wipe σ vs).set j (some (.int ((0 : Int) + (i : Int))))) H3 fun y H4 => ∃ acc, H4 Dl = some (.lst acc) ∧ acc.length < sizeLine ∧ Cv H1 v Dl (i + 1) (upd H4 Dl (.lst (acc ++ [y]))) else Cv H1 v Dl (i + 1) H3
    rw [z0]
    exact ⟨hw _, cv_turn p (by omega) (he i H1 (e.trans e1) (by omega))⟩) (fun H' p => q Dl H' (fresh_back e1 p.1) (e1.trans p.2.1) p.2.2)⟩
/-- tuple([..]) -/
def rTupOf (K : PySem.W.Frag) : List V → Hp → VK → Prop := fun xs H Q => ∃ p ys, xs = [.ref p] ∧ ((SqL K H p ys ∧ ∀ l, H l = none → Q (.ref l) (upd H l (.tup ys))) ∨ (SqT K H p ys ∧ Q (.ref p) H))
theorem eu_tupN {xs : List V} (h : EvL ta σ H xs) : EvU (tCB (rTupOf K) (tCons ta tNil)) σ H xs := fun H1 e Q q =>
  h H1 e _ fun p H2 hp e2 h2 => ⟨p, xs, rfl, Or.inl ⟨sq_of h2, fun l hl => q l _ (fresh_back e2 hl) (e2.trans (Ex.new hl)) upd_same⟩⟩
theorem eu_tupL {p : Addr} {xs : List V} (h : Ev ta σ H (.ref p)) (hs : SqL K H p xs) : EvU (tCB (rTupOf K) (tCons ta tNil)) σ H xs := fun H1 e Q q =>
  h H1 e _ fun H2 e2 => ⟨p, xs, rfl, Or.inl ⟨ex_l (e.trans e2) hs, fun l hl => q l _ (fresh_back e2 hl) (e2.trans (Ex.new hl)) upd_same⟩⟩
theorem ev_callV {sp : Sp} {vs : List V} {E : XK} {ta : TA} (h : EvA ta σ H vs) (hs : ∀ H1, Ex H H1 → ∀ Q : VK, (∀ H2, Ex H1 H2 → Q z H2) → sp vs H1 Q E) : Ev (tCall sp [] E ta) σ H z := fun H1 e Q q =>
  h H1 e _ fun H2 e2 => by
    rw [List.append_nil]
    exact hs H2 (e.trans e2) Q fun H3 e3 => q H3 (e2.trans e3)
end
section
variable {X : Cx} {K : PySem.W.Frag}
theorem ix_tupK (h : X.K = K) : IxR X (rIxT K) := by subst h; exact ix_tup
theorem ix_listK (h : X.K = K) : IxR X (rIxL K) := by subst h; exact ix_list
theorem call_lenK (h : X.K = K) : CallR X (.builtin "len") (Evl.rLenS K) := by subst h; exact call_len_seq
theorem call_isi1 (h : X.K = K) : CallR X (.builtin "isinstance") (rIsi K) := by subst h; exact call_isi
theorem call_isiTu (h : X.K = K) : CallR X (.builtin "isinstance") (rIsiT K) := by subst h; exact call_isiT
theorem call_tupleK (h : X.K = K) : CallR X (.type "tuple") (rTupOf K) := by subst h; exact call_tuple_of
theorem call_listK (h : X.K = K) : CallR X (.type "list") (Evl.rListS K) := by subst h; exact call_list_of
theorem sl_tupK (h : X.K = K) : SlR X (rSlT K) := by subst h; exact sl_tup
theorem op_eqDK (h : X.K = K) (hu : X.A.units + 64 < cLine) : OpR X (compareOp .Eq) (rEqD K) := by subst h; exact op_eqD hu
theorem op_neDK (h : X.K = K) (hu : X.A.units + 64 < cLine) : OpR X (compareOp .NotEq) (rNeD K) := by subst h; exact op_neD hu
end
theorem hu9_of {A : Around} {k : Nat} (hr : Room k A) : A.units + 9 < cLine := by have := hr.units; omega
/-- len of a dict with nested keys -/
def rLenN (K : PySem.W.Frag) (P : Program) (w : World) : List V → Hp → VK → Prop := fun xs H Q => ∃ (p : Addr) (kvs : List (NestedKey × Addr × V)), xs = [.ref p] ∧ H p = some (DictN P w p kvs) ∧ (∀ q ∈ kvs, NKey K H (.ref q.2.1) q.1 ∧ q.1.depth ≤ 8) ∧ Q (.int ((kvs.length : Nat) : Int)) H
theorem call_len_DN {X : Cx} : CallR X (.builtin "len") (rLenN X.K X.prog X.w) := by
  intro pinz s σ H xs us Q I r h
  obtain ⟨p, kvs, rfl, hp, hk, q⟩ := h
  obtain ⟨u, rfl, rx⟩ := vals1 r
  obtain rfl : u = .ref p := rx
  obtain ⟨hd, z, ys, rel, dd⟩ := dictN_get I hp hk
  have hl : kvs.length = ys.length := Paired.length rel
  refine call_len_dictH hd dd
    (by rw [← hl]; rw [sizeLine_eq] at z; omega) ?_
  rw [← hl]
  exact ⟨.int ((kvs.length : Nat) : Int), H, I.tok _, ⟨_, rfl⟩, q⟩
/-! ### lists of whole numbers compared -/
def rowD (r : List Nat) : List PyData := r.map fun (n : Nat) => .int (n : Int)
theorem eqv_rows : ∀ r q : List Nat, PyData.eqvAll (rowD r) (rowD q) = decide (r = q)
  | [], [] => by simp [rowD, PyData.eqvAll]
  | [], _ :: _ => by simp [rowD, PyData.eqvAll]
  | _ :: _, [] => by simp [rowD, PyData.eqvAll]
  | x :: r, y :: q => by
    have ih := eqv_rows r q
    show (PyData.eqv (.int (x : Int)) (.int (y : Int)) && PyData.eqvAll (rowD r) (rowD q)) = decide (x :: r = y :: q)
    rw [ih]
    simp only [PyData.eqv, List.cons.injEq, Bool.decide_and]
    congr 1
    rw [Bool.beq_eq_decide_eq]
    exact decide_eq_decide.mpr Int.ofNat_inj
theorem canLay_row : ∀ r : List Nat, PyData.canLayAll0 (rowD r) = true
  | [] => by simp [rowD, PyData.canLayAll0]
  | x :: r => by
    show (PyData.canLay0 (.int (x : Int)) && PyData.canLayAll0 (rowD r)) = true
    rw [canLay_row r]
    simp [PyData.canLay0]
theorem depth_row : ∀ r : List Nat, PyData.depthAll (rowD r) = 0
  | [] => by simp [rowD, PyData.depthAll]
  | x :: r => by
    show max (PyData.depth (.int (x : Int))) (PyData.depthAll (rowD r)) = 0
    rw [depth_row r]
    simp [PyData.depth]
theorem shaped_rowL (r : List Nat) : SeqAt.shaped (.list (rowD r)) = true := by
  unfold SeqAt.shaped
  simp only [PyData.canLay0, PyData.depth, canLay_row, depth_row]
  decide
theorem dp_row {K : PySem.W.Frag} {H : Hp} : ∀ r : List Nat, DpAll K H (rowV r) (rowD r)
  | [] => .nil
  | x :: r => .cons (.int _) (dp_row r)
theorem rv_eqRows {K : PySem.W.Frag} {H : Hp} {p q : Addr} {r s : List Nat} (hp : SqL K H p (rowV r)) (wq : SqL K H q (rowV s)) : Evl.RV (rEqD K) (.ref p) (.ref q) H (.bl (decide (r = s))) := fun H1 e Q k =>
  ⟨_, _, .lst (Evl.ex_l e hp) (dp_row r), .lst (Evl.ex_l e wq) (dp_row s), shaped_rowL r, shaped_rowL s, by
    rw [show PyData.eqv (.list (rowD r)) (.list (rowD s)) = decide (r = s) by rw [PyData.eqv]; exact eqv_rows r s]
    exact k H1 (Evl.Ex.refl H1)⟩
open Evl in
theorem eu_callU {sp : Sp} {vs xs : List V} {E : XK} {ta : TA} {σ : L2.St} {H : Hp} (h : EvA ta σ H vs) (hs : ∀ H1, Ex H H1 → ∀ Q : VK, (∀ p H2, H1 p = none → Ex H1 H2 → H2 p = some (.tup xs) → Q (.ref p) H2) → sp vs H1 Q E) : EvU (tCall sp [] E ta) σ H xs := fun H1 e Q q =>
  h H1 e _ fun H2 e2 => by
    rw [List.append_nil]
    exact hs H2 (e.trans e2) Q fun p H3 hp e3 h3 => q p H3 (fresh_back e2 hp) (e2.trans e3) h3
open Evl in
theorem el_callL {sp : Sp} {vs xs : List V} {E : XK} {ta : TA} {σ : L2.St} {H : Hp} (h : EvA ta σ H vs) (hs : ∀ H1, Ex H H1 → ∀ Q : VK, (∀ p H2, H1 p = none → Ex H1 H2 → H2 p = some (.lst xs) → Q (.ref p) H2) → sp vs H1 Q E) : EvL (tCall sp [] E ta) σ H xs := fun H1 e Q q =>
  h H1 e _ fun H2 e2 => by
    rw [List.append_nil]
    exact hs H2 (e.trans e2) Q fun p H3 hp e3 h3 => q p H3 (fresh_back e2 hp) (e2.trans e3) h3
theorem rowV_snoc (r : List Nat) (n : Nat) : rowV (r ++ [n]) = rowV r ++ [nV n] := by unfold rowV; rw [List.map_append]; rfl
theorem map_of {α β : Type} {f : α → β} {l : List α} {i : Nat} {y : β} (h : (l.map f)[i]? = some y) : ∃ x, l[i]? = some x ∧ y = f x := by
  rw [List.getElem?_map] at h
  cases e : l[i]? with
  | none => rw [e] at h; cases h
  | some x => rw [e] at h; exact ⟨x, rfl, (Option.some.inj h).symm⟩
theorem ix_seqK {X : Cx} {K : PySem.W.Frag} (h : X.K = K) : IxR X (rIx K) := by subst h; exact ix_seq
/-! ### a row of draws, written at each draw: what stands but it -/
def ExB (a : Addr) (H H' : Hp) : Prop := ∀ b o, b ≠ a → H b = some o → H' b = some o
theorem ExB.refl (a : Addr) (H : Hp) : ExB a H H := fun _ _ _ h => h
theorem ExB.trans {a : Addr} {H H1 H2 : Hp} (x : ExB a H H1) (y : ExB a H1 H2) : ExB a H H2 := fun b o n h => y b o n (x b o n h)
theorem ExB.of {a : Addr} {H H' : Hp} (e : Evl.Ex H H') : ExB a H H' := fun b o _ h => e b o h
theorem ExB.upd {a : Addr} {H : Hp} {o : HO} : ExB a H (L2.upd H a o) := fun b u n h => by rw [upd_ne n]; exact h
theorem ExB.mut {a p : Addr} {H H' : Hp} {o : HO} (e : ExB a H H') (h : H p = none) : ExB a H (L2.upd H' p o) := fun b u n hb => by
  rw [upd_ne (ne_of_none hb h)]
  exact e b u n hb
theorem ExB.fresh {a p : Addr} {H H' : Hp} (e : ExB a H H') (n : p ≠ a) (h : H' p = none) : H p = none := by
  cases q : H p with
  | none => rfl
  | some o => rw [e p o n q] at h; cases h
theorem ExB.tk {K : PySem.W.Frag} {a : Addr} {H H' : Hp} {xs : List V} (e : ExB a H H') (h : H a = some (.lst xs)) : TK K H H' := fun b ys q => by
  rcases q with (q | ⟨ob, q⟩) | q
  · exact .inl (.inl (e b _ (fun z => by subst z; rw [h] at q; cases q) q))
  · exact .inl (.inr ⟨ob, e b _ (fun z => by subst z; rw [h] at q; cases q) q⟩)
  · exact .inr q
theorem ExB.seq {K : PySem.W.Frag} {a b : Addr} {H H' : Hp} {xs : List V} (e : ExB a H H') (n : b ≠ a) (h : SqL K H b xs) : SqL K H' b xs := by
  rcases h with (h | ⟨o, h⟩) | h
  · exact .inl (.inl (e _ _ n h))
  · exact .inl (.inr ⟨o, e _ _ n h⟩)
  · exact .inr h
/-- the row that the draws are taken from: the script, a place, a number, a rest -/
def RowOk (K : PySem.W.Frag) (H : Hp) (a scr : Addr) (ns : List Int) : Prop := (∃ i z q : Int, H a = some (.lst [.ref scr, .int i, .int z, .int q]) ∧ 0 ≤ i ∧ 0 ≤ z ∧ z < 2147483647) ∧ (∀ H', ExB a H H' → SqL K H' scr (ns.map V.int)) ∧ ns.length ≤ 63
theorem RowOk.lst {K : PySem.W.Frag} {H : Hp} {a scr : Addr} {ns : List Int} (h : RowOk K H a scr ns) : ∃ xs, H a = some (.lst xs) := let ⟨⟨_, _, _, h, _⟩, _⟩ := h; ⟨_, h⟩
theorem RowOk.ex {K : PySem.W.Frag} {H H' : Hp} {a scr : Addr} {ns : List Int} (h : RowOk K H a scr ns) (e : Evl.Ex H H') : RowOk K H' a scr ns := by
  obtain ⟨⟨i, z, q, h1, h2⟩, h3, h4⟩ := h
  exact ⟨⟨i, z, q, e _ _ h1, h2⟩, fun H'' x => h3 H'' ((ExB.of e).trans x), h4⟩
/-- the row as it stands at H', the script as it stood at H -/
theorem RowOk.join {K : PySem.W.Frag} {H H' : Hp} {a scr : Addr} {ns : List Int} {H'' : Hp} (h : RowOk K H a scr ns) (h' : RowOk K H' a scr ns) (e : ExB a H H'') (ea : H'' a = H' a) : RowOk K H'' a scr ns := by
  obtain ⟨_, h3, h4⟩ := h
  obtain ⟨⟨i, z, q, h1, h2⟩, _⟩ := h'
  exact ⟨⟨i, z, q, by rw [ea]; exact h1, h2⟩, fun H3 x => h3 H3 (e.trans x), h4⟩
/-- an expression that takes a draw below m -/
def EvR (K : PySem.W.Frag) (te : TE) (σ : L2.St) (H : Hp) (a scr : Addr) (ns : List Int) (m : Nat) : Prop := ∀ H1, ExB a H H1 → RowOk K H1 a scr ns → ∀ Q : VK, (∀ (r : Nat) H2, r < m → ExB a H1 H2 → RowOk K H2 a scr ns → Q (nV r) H2) → te σ H1 Q
theorem EvR.mono {K : PySem.W.Frag} {te : TE} {σ : L2.St} {H H' : Hp} {a scr : Addr} {ns : List Int} {m : Nat} (e : ExB a H H') (h : EvR K te σ H a scr ns m) : EvR K te σ H' a scr ns m := fun H1 e1 R Q q => h H1 (e.trans e1) R Q q
open Evl in
/-- [draw for x in range(..)], the number of turns itself may be drawn -/
theorem er_lcX {K : PySem.W.Frag} {ta : TA} {te : TE} {σ : L2.St} {H : Hp} {a scr : Addr} {ns : List Int} {j m : Nat} {vs : List Nat} (Pn : Nat → Prop) (h : ∀ R : List V → Hp → Prop, (∀ n H1, n ≤ 1000 → Pn n → ExB a H H1 → RowOk K H1 a scr ns → R [.int (n : Int)] H1) → ta σ H R) (hw : ∀ x, wipe ((wipe σ vs).set j (some x)) vs = wipe σ vs)
    (he : ∀ i : Nat, i < 1000 → EvR K te ((wipe σ vs).set j (some (.int (i : Int)))) H a scr ns m) (Q : VK)
    (q : ∀ p l H2, H p = none → p ≠ a → ExB a H H2 → RowOk K H2 a scr ns → H2 p = some (.lst (rowV l)) → l.length ≤ 1000 → Pn l.length → (∀ x ∈ l, x < m) → Q (.ref p) H2) : tLc (iRng1 ta) (gName j) tYes te vs σ H Q := by
  refine h _ fun n H1 hn pn e1 R => ⟨_, rfl, by omega, by omega, fun D hD => ?_⟩
  have hna : D ≠ a := fun z => by
    subst z
    obtain ⟨xs, hx⟩ := R.lst
    rw [hx] at hD
    cases hD
  have nD : H D = none := e1.fresh hna hD
  have e2 : ExB a H1 (L2.upd H1 D (.lst [])) := ExB.of (Ex.new (o := .lst []) hD)
  have R2 := R.ex (Ex.new (o := .lst []) hD)
  refine lc_range (lo := 0) (n := ((n : Int)).toNat) (fun i H' => ∃ l, ExB a H1 H' ∧ RowOk K H' a scr ns ∧ H' D = some (.lst (rowV l)) ∧ l.length = i ∧ ∀ x ∈ l, x < m) ⟨[], e2, R2, upd_same, rfl, fun _ h => by simp at h⟩ (fun i H' hi p => ?_) fun H' p => ?_
  · obtain ⟨l, p1, p2, p3, p4, p5⟩ := p
    have z0 : (0 : Int) + (i : Int) = (i : Int) := Int.zero_add _
    rw [z0]
    refine ⟨hw _, ?_⟩
    show te _ H' fun y H4 => ∃ acc, H4 D = some (.lst acc) ∧ acc.length < sizeLine ∧ ∃ l, ExB a H1 (L2.upd H4 D (.lst (acc ++ [y]))) ∧ RowOk K (L2.upd H4 D (.lst (acc ++ [y]))) a scr ns ∧ (L2.upd H4 D (.lst (acc ++ [y]))) D = some (.lst (rowV l)) ∧ l.length = i + 1 ∧ ∀ x ∈ l, x < m
    refine he i (by omega) H' (e1.trans p1) p2 _ fun r H4 hr e4 R4 => ?_
    refine ⟨rowV l, e4 _ _ hna p3, by rw [rowV_len]; exact small1000 (by omega), l ++ [r], (p1.trans e4).mut hD, ?_, by rw [rowV_snoc]; exact upd_same, by rw [List.length_append, List.length_singleton, p4], fun x hx => ?_⟩
    · exact R.join R4 ((p1.trans e4).mut hD) (upd_ne hna.symm)
    · rcases List.mem_append.mp hx with hx | hx
      · exact p5 x hx
      · rw [List.mem_singleton] at hx; subst hx; exact hr
  · obtain ⟨l, p1, p2, p3, p4, p5⟩ := p
    have p4' : l.length = n := by rw [p4]; exact Int.toNat_natCast n
    exact q D l H' nD hna (e1.trans p1) p2 p3 (by omega) (by rw [p4']; exact pn) p5
open Evl in
/-- [draw for x in range(n)] -/
theorem er_lcR {K : PySem.W.Frag} {ta : TA} {te : TE} {σ : L2.St} {H : Hp} {a scr : Addr} {ns : List Int} {j n m : Nat} {vs : List Nat} (h : EvA ta σ H [.int (n : Int)]) (hn : n ≤ 1000) (R : RowOk K H a scr ns) (hw : ∀ x, wipe ((wipe σ vs).set j (some x)) vs = wipe σ vs)
    (he : ∀ i : Nat, i < 1000 → EvR K te ((wipe σ vs).set j (some (.int (i : Int)))) H a scr ns m) (Q : VK)
    (q : ∀ p l H2, H p = none → p ≠ a → ExB a H H2 → RowOk K H2 a scr ns → H2 p = some (.lst (rowV l)) → l.length = n → (∀ x ∈ l, x < m) → Q (.ref p) H2) : tLc (iRng1 ta) (gName j) tYes te vs σ H Q :=
  er_lcX (fun k => k = n) (fun R' r => h H (Ex.refl H) _ fun H1 e1 => r n H1 hn rfl (ExB.of e1) (R.ex e1)) hw he Q fun p l H2 h1 h2 h3 h4 h5 _ h6 h7 => q p l H2 h1 h2 h3 h4 h5 h6 h7
end L2
namespace L2
open PySem PySem.Spec PyProof.Rows
/-! ### setdefault of a dict with tuple keys -/
section
variable {X : Cx} {pins : List (Addr × Obj)} {σ : St} {H : Hp} {s : Shared} {a b : Addr} {A : Around} {E : Value → Shared → Prop}
theorem dt_setd {kvs : List (List Key × V)} {k : List Key} {d : V} {r : Value} {Q : Value → Shared → Prop} (hu : A.units + 1 < cLine) (I : Inv X pins σ H s) (e : H a = some (.dT kvs)) (ky : H b = some (.tup (k.map kV))) (rd : RelV d r) (hl : kvs.length < sizeLine)
    (h1 : ∀ v, valV kvs k = some v → ∀ (w' : Value) (s' : Shared), Inv X pins σ H s' → RelV v w' → Q w' s') (h2 : valV kvs k = none → ∀ (w' : Value) (s' : Shared), Inv X pins σ (upd H a (.dT (putK kvs k d))) s' → RelV d w' → Q w' s') :
    wpAny (model X.prog X.w) A (call (.builtin "dict.setdefault") [.ref a, .ref b, r]) Q E s := by
  obtain ⟨z, hd, xs, rel, dd⟩ := dt_of I.hok e
  have hz : xs.length ≤ sizeLine := by
    have hlen := Paired.length rel
    omega
  have rl := rel.val k
  refine call_setdefault_heap (hsz := hz) (knd := tupleKind (mixKind X.prog X.w)) (tupleKind_room_in1 hu) (key_of I.hok ky) hd dd (fun p hp => ?_) fun hn h' dd' hs => ?_
  · rw [hp] at rl
    cases q0 : valV kvs k with
    | none => rw [q0] at rl; exact (show False from rl).elim
    | some v0 => rw [q0] at rl; exact h1 v0 q0 _ _ (I.tok _) rl
  · rw [hn] at rl
    cases q0 : valV kvs k with
    | some v0 => rw [q0] at rl; exact (show False from rl).elim
    | none =>
      have hl2 : (putK kvs k d).length ≤ sizeLine := by
        have hp := length_putK kvs k d
        omega
      obtain ⟨o, es, ep, ho, c2, c3, c4, _, c5⟩ := dd'
      refine h2 q0 _ _ (d_write (t' := s.toks + (tupleKind (mixKind X.prog X.w)).draws k) I (by rw [e]; exact True.intro) hs ⟨o, ho⟩ ⟨hl2, hd, _, (rel.put k ky rd).keeps fun c ys ec => ?_, o, es, ep, ho, c2, c3, c4, c5⟩) rd
      rw [upd_ne (ne_of ec e (fun z => nomatch z))]
      exact ec
end
def tDSetdT (td ty tx : TE) : TE := fun σ H Q => td σ H fun x H1 => ∃ a, x = .ref a ∧ IsD H1 a ∧ ty σ H1 fun y H2 => tx σ H2 fun z H3 => ∃ (kvs : List (List Key × V)) (k : List Key) (b : Addr),
  H3 a = some (.dT kvs) ∧ y = .ref b ∧ H3 b = some (.tup (k.map kV)) ∧ kvs.length < sizeLine ∧ (∀ v, valV kvs k = some v → Q v H3) ∧ (valV kvs k = none → Q z (upd H3 a (.dT (putK kvs k z))))
section
variable {X : Cx} {o e f : Expr} {td ty tx : TE} {apos cpos : Pos}
theorem pe_dsetdT (hu : X.A.units + 1 < cLine) (ho : PE X o td) (he : PE X e ty) (hf : PE X f tx) (m : M2 X o "setdefault" apos e f cpos) : PE X (.Call (.Attribute o "setdefault" apos) [e, f] [] cpos) (tDSetdT td ty tx) := by
  refine ⟨fun pz s0 σ H Q I h => ?_⟩
  refine wpAny_Call_method m.base m.few m.line PySem.F.plainAttrs_dict PySem.F.slot_dict_setdefault PySem.F.type_dict_setdefault
    (thn (ho.run pz s0 σ H _ I h) fun u s1 ⟨x, H1, I1, rx, a, ex, d, q1⟩ => ?_)
  subst ex
  cases (show u = Value.ref a from rx)
  obtain ⟨t1, t2, _⟩ := isD_at I1 d
  refine ⟨t1, t2, ?_⟩
  rw [m.trees]
  refine Calls.callWith_builtin rfl (Calls.evalArgs_plain (Calls.spliced_cons
    (thn (he.run pz s1 σ H1 _ I1 q1) fun iv s2 ⟨y, H2, I2, ry, q2⟩ =>
      Calls.spliced_cons (thn (hf.run pz s2 σ H2 _ I2 q2) fun fv s3 ⟨z, H3, I3, rz, kvs, k, b, ea, ey, eb, hl, q3, q4⟩ => Calls.spliced_nil ?_))))
  subst ey
  cases (show iv = Value.ref b from ry)
  exact dt_setd hu I3 ea eb rz hl (fun v hv w' s4 I4 rw' => ⟨v, _, I4, rw', q3 v hv⟩) fun hn w' s4 I4 rw' => ⟨z, _, I4, rw', q4 hn⟩
end
/-! ### an object that is known from now on, and not written any more -/
def tFrz (t : TE) : TE := fun σ H Q => t σ H fun v H1 => ∃ d u, v = .ref d ∧ H1 d = some u ∧ Mut (some u) ∧ ∀ od, Q v (upd H1 d (.frz od u))
theorem pe_frz {X : Cx} {e : Expr} {t : TE} (h : PE X e t) : PE X e (tFrz t) := by
  refine ⟨fun pz s0 σ H Q I hw => ?_⟩
  refine thn (h.run pz s0 σ H _ I hw) fun v s1 ⟨x, H1, I1, r, d, u, ex, hd, mu, q⟩ => ?_
  obtain ⟨od, I2⟩ := I1.lock hd mu
  exact ⟨x, _, I2, r, q od⟩
/-! ### truth of a dict with tuple keys -/
theorem truthy_dictH {prog : Program} {w : World} {κ : Type} [DecidableEq κ] {knd : HeapKind prog w κ} {A : Around} {E : Value → Shared → Prop} {s : Shared} {d : Addr} {xs : List (κ × Addr × Value)} {Q : Bool → Shared → Prop} (hd : (d == sysModules) = false) (hm : s.heap.DictOfH knd d xs) (hfit : (xs.length : Int) < 2 ^ 63)
    (h : Q (!xs.isEmpty) { s with toks := s.toks + 1 + 1 }) : wpAny (model prog w) A (truthy (.ref d)) Q E s := by
  have hne : ((xs.length : Int) != 0) = !xs.isEmpty := by cases xs <;> simp <;> omega
  have key : wpAny (model prog w) A (runValue (.builtin "len" ⟨[.ref d], []⟩)) (fun r s' => r = .int xs.length (s.toks + 1) ∧ Q (!xs.isEmpty) s') E s := by
    refine wpAny_runValue (codeAny_builtin entry_len ?_)
    rw [Around.under_plainId plain_len _]
    exact wpAny_mono (wpAny_len_body_dictH (Q := fun r s' => r = .int xs.length (s.toks + 1) ∧ Q (!xs.isEmpty) s') hd hm hfit ⟨rfl, h⟩)
      (fun fin s' h' => by obtain ⟨r, rfl, hq⟩ := h'; exact hq) fun _ _ e => e
  unfold truthy
  refine wpAny_bind (wpAny_callSpecial?_none (name := Str.ofString "__bool__") hm.typeIs noBool_dict ?_)
  refine wpAny_bind (wpAny_specialOf (name := Str.ofString "__len__") hm.typeIs F.slot_dict_len.lookup ?_)
  refine wpAny_bind (wpAny_mono key (fun r s' h' => ?_) fun _ _ e => e)
  obtain ⟨rfl, hq⟩ := h'
  exact wpAny_pure (hne ▸ hq)
def tTruT (t : TE) : TT := fun σ H Q => t σ H fun x H1 => ∃ p kvs, x = .ref p ∧ H1 p = some (.dT kvs) ∧ Q (!kvs.isEmpty) H1
theorem pt_truthT {X : Cx} {e : Expr} {t : TE} (h : PE X e t) (he : ∀ whole, isTrue e X.env whole = (do let v ← whole; standAt e.pos; holding [v] (truthy v)) := by intro _; rfl) : PT X e (tTruT t) := by
  refine ⟨fun pz s0 σ H Q I hw => ?_⟩
  refine isTrue_plain (thn (h.run pz s0 σ H _ I hw) fun v s1 ⟨x, H1, I1, r, p, kvs, ex, hp, q⟩ => ?_) (he _)
  subst ex
  cases (show v = Value.ref p from r)
  obtain ⟨z, hd, ys, rel, dd⟩ := dt_of I1.hok hp
  have hl : kvs.length = ys.length := Paired.length rel
  have hb : kvs.isEmpty = ys.isEmpty := by cases rel <;> rfl
  refine truthy_dictH hd dd (by rw [← hl]; rw [sizeLine_eq] at z; omega) ?_
  rw [← hb]
  exact ⟨H1, I1.tok _, q⟩
theorem tru_list {K : PySem.W.Frag} {H : Hp} {p : Addr} {xs : List V} (h : SqL K H p xs) : TruV K (.ref p) H (!xs.isEmpty) := .inl ⟨xs, h, rfl⟩
theorem tru_tup {K : PySem.W.Frag} {H : Hp} {p : Addr} {xs : List V} (h : SqT K H p xs) : TruV K (.ref p) H (!xs.isEmpty) := .inr (.inl ⟨xs, h, rfl⟩)
theorem pt_tru {X : Cx} {K : PySem.W.Frag} (hK : X.K = K) {e : Expr} {t : TE} (h : PE X e t) (he : ∀ whole, isTrue e X.env whole = (do let v ← whole; standAt e.pos; holding [v] (truthy v)) := by intro _; rfl) : PT X e (fun σ H Q => t σ H fun x H' => ∃ k, TruV K x H' k ∧ Q k H') := by
  subst hK
  exact pt_truth h he
theorem op_catK {X : Cx} {K : PySem.W.Frag} (hK : X.K = K) : OpR X (binaryOp .Add) (rCatA K) := by
  subst hK
  exact op_catA
theorem sl_tupAK {X : Cx} {K : PySem.W.Frag} (hK : X.K = K) : SlR X (rSlA K) := by
  subst hK
  exact sl_tupA
open Evl in
theorem et_tru {K : PySem.W.Frag} {ta : TE} {σ : L2.St} {H : Hp} {x : V} {b : Bool} (ha : Ev ta σ H x) (hb : ∀ H1, Ex H H1 → TruV K x H1 b) : EvT (fun σ H Q => ta σ H fun x H' => ∃ k, TruV K x H' k ∧ Q k H') σ H b := fun H1 e Q q =>
  ha H1 e _ fun H2 e2 => ⟨b, hb H2 (e.trans e2), q H2 e2⟩
theorem pg_tupK {X : Cx} {K : PySem.W.Frag} {es : List Expr} {k n : Nat} {t : TGs} {pos : Pos} (hK : X.K = K) (hc : X.calm = true) (h : PGs X es t)
    (hn : (assignEach es X.env).length = n := by rfl) (hst : (assignEach es X.env).findIdx? (·.1) = none := by rfl) : PG X (.Tuple es k pos) (gTup K n t) := by
  subst hK
  exact pg_tup hc h hn hst
theorem pi_tupK {X : Cx} {K : PySem.W.Frag} {tg l : Expr} {tl : TE} (hK : X.K = K) (hl : PE X l tl) : PI X tg l (iTup K tl) := by
  subst hK
  exact pi_tup hl
theorem pi_listK {X : Cx} {K : PySem.W.Frag} {tg l : Expr} {tl : TE} (hK : X.K = K) (hl : PE X l tl) : PI X tg l (iList K tl) := by
  subst hK
  exact pi_list hl
/-- a loop over enumerate of a list that stands still -/
theorem for_enumL {K : PySem.W.Frag} {a : Addr} {ws : List V} {g : TG} {tb : TS} {D : Ends} {σ : St} {H : Hp} (Pw : Nat → St → Hp → Prop) (h0 : Pw 0 σ H) (hl : ∀ i σ H, i ≤ ws.length → Pw i σ H → SqL K H a ws)
    (hs : ∀ i x T σ H, ws[i]? = some x → Pw i σ H → H T = none → g (.ref T) σ (upd H T (.tup [.int (i : Nat), x])) fun σ2 H2 => tb { D with nx := Pw (i + 1), ct := Pw (i + 1), bk := D.nx } σ2 H2) (hd : ∀ σ H, Pw ws.length σ H → D.nx σ H) :
    ∃ W : Nat → Nat → St → Hp → Prop, (∃ m, W 0 m σ H) ∧ ∀ i m σ H, W i m σ H →
      ((Ite K a).stop i H ∧ D.nx σ H) ∨ ((Ite K a).go i H ∧ ∃ N : St → Hp → Prop, (∀ σ' H', N σ' H' → ∃ m', m' < m ∧ W (i + 1) m' σ' H') ∧ ∀ x H', (Ite K a).yld i H x H' → g x σ H' fun σ2 H2 => tb { D with nx := N, ct := N, bk := D.nx } σ2 H2) := by
  refine ⟨fun i m σ H => m = ws.length - i ∧ i ≤ ws.length ∧ Pw i σ H, ⟨ws.length, by simp, Nat.zero_le _, h0⟩, ?_⟩
  rintro i m σ H ⟨rfl, hi, p⟩
  have q := hl i σ H hi p
  by_cases hlt0 : i < ws.length
  · refine .inr ⟨⟨ws, ws[i], q, by simp [hlt0]⟩, Pw (i + 1), fun σ' H' p' => ⟨ws.length - (i + 1), by omega, rfl, hlt0, p'⟩, fun x H' y => ?_⟩
    obtain ⟨T, x', ee1, nT, e2, y⟩ := y
    subst ee1 e2
    exact hs i x' T σ H (y ws q) p nT
  · have e : i = ws.length := by omega
    subst e
    exact .inl ⟨⟨ws, q, Nat.le_refl _⟩, hd σ H p⟩
section
open Evl
variable {K : PySem.W.Frag} {σ : St} {H : Hp} {te : TE}
/-- [e for x in t], t a new tuple -/
theorem el_lcNT {xs : List V} {tl : TE} {j : Nat} {vs : List Nat} (v : Nat → V) (h : EvU tl σ H xs) (wz : xs.length ≤ 40000) (hw : ∀ x, wipe ((wipe σ vs).set j (some x)) vs = wipe σ vs)
    (he : ∀ (i : Nat) (x : V) H1, Ex H H1 → xs[i]? = some x → Ev te ((wipe σ vs).set j (some x)) H1 (v i)) :
    EvL (tLc (iTup K tl) (gName j) tYes te vs) σ H (gvn xs.length v) := fun H0 e Q q => h H0 e _ fun a H1 ha e1 hx => ⟨a, rfl, ⟨xs, SqT.of hx⟩, fun Dl hD =>
  lc_tup (xs := xs) (Cv H1 v Dl) ⟨hD, Ex.new hD, upd_same⟩ (fun i H' _ p => SqT.of (p.2.1 _ _ hx)) (fun i x H' hi p => ⟨hw x, cv_turn p (by have := (List.getElem?_eq_some_iff.mp hi).1; omega) (he i x H1 (e.trans e1) hi)⟩)
    (fun H' p => q Dl H' (fresh_back e1 p.1) (e1.trans p.2.1) p.2.2)⟩
end
end L2
namespace L2
open PySem PySem.Spec PyProof.Rows
/-! ### errors without arguments -/
/-- an own error class, over ValueError by own classes without an own making -/
structure ErrC (K : PySem.W.Frag) (mg : Str → Option Value) (x : Str) (C : Addr) : Prop where
  g : mg x = some (.ref C)
  x : PySem.W.excIn K C [.type "ValueError", .type "Exception", .type "BaseException", .type "object"] "ValueError.__new__" = true
  k : PySem.W.keepIn K (.ref C) = true
  b : PySem.W.subIn K (.ref C) (.type "BaseException") = some true
  t : PySem.W.typeIn K (.ref C) = some (.type "type")
theorem ErrC.one {K : PySem.W.Frag} {mg : Str → Option Value} {x : Str} {C C' : Addr} (h : ErrC K mg x C) (e : mg x = some (.ref C')) : C' = C := by
  rw [h.g] at e
  cases e
  rfl
/-- X() -/
theorem pmk_own0 {X : Cx} {C : Addr} {x : Str} {p pos : Pos} (E : ErrC X.K X.mg x C) (hg : Gl X x) (hdb : (x == ("__debug__" : Str)) = false := by decide) : PMk X (.Call (.Name x p) [] [] pos) (fun _ H Q => Q (.ref C) none H) := by
  intro pins s σ H Q I h
  refine wpAny_Call_Name_kw (ld_glob I hg E.g ?_ hdb)
  refine PySem.W.callWith_K0 I.kIn E.k ?_
  obtain ⟨bm, N, nm, qn, bs, hdct, sn, sub, ab, col, dd, k0, k1, k2, k3, k5, mN, hC, hN, hni, T⟩ := exc_obj I.kIn E.x
  refine wpAny_call_exc_subT PySem.F.excBase_ValueError T hC hN hni (fun h' e hm => ?_) (Nat.zero_le _)
  exact mk_of I hm (raises_own E.b E.t) h (I.hok.gone hm.new)
/-! ### defs that may raise -/
structure HasX (P : Program) (w : World) (K : PySem.W.Frag) (mg : Str → Option Value) (base : Heap) (x : Str) (k : Nat) (ps : List Str) (sp : Sp) : Prop where
  ex : ∃ (f : Addr) (fd : FuncData), mg x = some (.ref f) ∧ PySem.W.keepIn K (.ref f) = true ∧ Binds K fd ps [] ∧ FnOk P w K mg base (L2.CX P w) k f fd ps sp
theorem HasX.mk' {P : Program} {w : World} {K : PySem.W.Frag} {mg : Str → Option Value} {base : Heap} {x : Str} {k : Nat} {ps : List Str} {sp : Sp} {f : Addr} {fd : FuncData} (h1 : mg x = some (.ref f)) (h2 : PySem.W.keepIn K (.ref f) = true) (h3 : Binds K fd ps []) (h4 : FnOk P w K mg base (L2.CX P w) k f fd ps sp) : HasX P w K mg base x k ps sp := ⟨⟨f, fd, h1, h2, h3, h4⟩⟩
section
variable {X : Cx} {x : Str} {k : Nat} {ps : List Str} {sp : Sp} {e : Expr} {es : List Expr} {t : TA} {p pos : Pos}
/-- it is called, and what it raises is wished for -/
theorem pe_hasT {W : WX} (h : HasX X.prog X.w X.K X.mg X.base x k ps sp) (hr : Room k X.A) (tk : Takes X W) (hg : Gl X x) (ha : PA X (e :: es) t)
    (hdb : (x == ("__debug__" : Str)) = false := by decide) (he : starEach (e :: es) X.env = (false, eval e X.env) :: starEach es X.env := by rfl) (hpl : (backTo pos (starEach es X.env)).any (·.1) = false := by rfl) :
    PE X (.Call (.Name x p) (e :: es) [] pos) (tCallS sp (WE W) t) := by
  obtain ⟨f, fd, h1, h2, h3, h4⟩ := h.ex
  exact pe_callS h4 hr hg h1 h2 h3 (fun σ => passAt tk σ) ha hdb he hpl
end
end L2
namespace L2
open PySem PySem.Spec PyProof.Rows
/-! ### set(xs) of a list of whole numbers -/
abbrev newS (w : World) : Obj := { cls := .type "set", dict := none, data := .set #[] 0 (.fresh 0 0 (!w.params.followText "set-order")) }
section
variable {P : Program} {w : World} {A : Around} {E : Value → Shared → Prop} {s : Shared}
theorem call_set_lstI {l : Addr} {its : Array Value} (zs : List Int) {Q : Value → Shared → Prop} (h0 : A.handled = none) (il : s.heap.IsList l its) (ia : IntsAre its.toList zs) (ub : zs.length + 1 < scanBound)
    (h : ∀ (h' : Heap) (tk c : Nat), SetR w h' s.heap.objs.size (fun j => decide (j ∈ zs)) c → c ≤ zs.length → (∀ b o, s.heap.get? b = some o → h'.get? b = some o) → Q (.ref s.heap.objs.size) { s with heap := h', toks := tk }) :
    wpAny (model P w) A (call (.type "set") [.ref l]) Q E s := by
  have zl : its.size = zs.length := by
    have q := IntsAre.length ia
    rw [Array.length_toList] at q
    exact q
  obtain ⟨c, tl, mr⟩ := F.called_set.mro
  have md := F.called_set.made
  have sb := F.called_set.sub
  refine wpAny_call (codeAny_of_tree ?_)
  show wpAny _ _ (callAny (.type "set") _) _ _ _
  refine wpAny_pure ⟨Code.quiet_builtin _ (by decide +kernel), codeAny_builtin F.entry_type_call ?_⟩
  rw [Around.under_plain (weight_type_call_type "set" [.ref l] []) rfl]
  have n1 := F.called_set.notType
  have n2 := F.called_set.canCreate
  have ct := F.typeCall_set_1 (.ref l)
  repeat (any_goals (first | assumption | wp_step))

  refine codeAny_mono (code_set_led1 (.ref l) (E := E) (Q₁ := fun ob s₁ => ob = .ref s.heap.objs.size ∧ s₁ = { s with heap := s.heap.push (newS w) }) ⟨rfl, rfl⟩) fun r s₁ rr => ?_
  cases r with
  | error e => exact rr
  | ok fl =>
    cases fl with
    | ret ob =>
      obtain ⟨rfl, rfl⟩ := rr
      have gs : (s.heap.push (newS w)).get? s.heap.objs.size = some (newS w) := Heap.get?_push_size _ rfl
      have ts : Shared.TypeIs { s with heap := s.heap.push (newS w) } (.ref s.heap.objs.size) "set" := ⟨_, gs, rfl⟩
      have li := F.called_set.init.lookup
      have bi := F.called_set.init.bind (.ref s.heap.objs.size)
      repeat (any_goals (first | assumption | wp_step))

      refine codeAny_mono (codeAny_call_builtin (R := wants (fun r s₂ => r = .none ∧ ∃ h' tk c, s₂ = { s with heap := h', toks := tk } ∧ SetR w h' s.heap.objs.size (fun j => decide (j ∈ zs)) c ∧ c ≤ zs.length ∧
          (∀ b o, s.heap.get? b = some o → h'.get? b = some o)) E) F.called_set.init.plain F.entry_set_init (check_set_init_1 ts ?_)) fun r₂ s₂ rr2 => ?_
      · obtain ⟨ol, ol0, oc, nl, od⟩ := il
        obtain ⟨ocls, odict, odata, oslots⟩ := ol
        simp only at oc od
        subst oc; subst od
        have ol1 : (s.heap.push (newS w)).get? l = some { cls := .type "list", dict := odict, data := .seq its nl, slots := oslots } := Heap.get?_push_of_some _ ol0
        have sl1 := F.sub_list_set
        have sl2 := F.sub_list_frozenset
        have ne1 : (Value.type "list" == Value.type "dict") = false := by decide
        have il1 : (s.heap.push (newS w)).IsList l its := ⟨_, ol1, rfl, nl, rfl⟩
        unfold Builtin.«set.__init__» noKeywords Builtin.Frozenset.updateFrom
        generalize eP : pyIter = pI
        wp_walk
        subst eP

        refine wpAny_pyIter_list il1 ?_
        refine wpAny_bind (wpAny_runValue ?_)
        have ls1 : l < s.heap.objs.size := Heap.lt_size ol0
        have h03 : A.in1.in1.in1.handled = none := by simp [h0]
        have z1 : (s.heap.push (newS w)).objs.size = s.heap.objs.size + 1 := Heap.size_push ..
        have neI : l ≠ (s.heap.push (newS w)).objs.size := by
          rw [Heap.size_push]; exact Nat.ne_of_lt (Nat.lt_succ_of_lt ls1)
        have nf : s.heap.objs.size ∉ [(s.heap.push (newS w)).objs.size, l] := by
          rw [Heap.size_push]; simp only [List.mem_cons, List.mem_singleton, List.not_mem_nil, or_false, not_or]
          exact ⟨Nat.ne_of_lt (Nat.lt_succ_self _), Nat.ne_of_gt ls1⟩
        have vl : ∀ (i : Nat) (v : Value), its[i]? = some v → ∃ k t, zs[i]? = some k ∧ v = .int k t := fun i v qv => by
          have qi : i < zs.length := by rw [← zl]; exact (Array.getElem?_eq_some_iff.mp qv).1
          obtain ⟨t, e⟩ := PyProof.Rows.IntsAre.int_at ia i v (by rw [Array.getElem?_toList]; exact qv)
          refine ⟨zs[i], t, List.getElem?_eq_getElem qi, ?_⟩
          rw [e, List.getD_eq_getElem?_getD, List.getElem?_eq_getElem qi] <;> rfl
        refine set_update_ints ((Walks.list h03 _ l neI its).toS) s.heap.objs.size
          nf zs zl ub vl (its.size - 0) 0 _ (by omega) (Nat.zero_le _)
          ⟨⟨_, Heap.get?_push_size _ rfl, rfl, rfl⟩, (il1.push _)⟩ ?gs0 ?gR
        case gs0 =>
          have gt1 : ((s.heap.push (newS w)).push { cls := .type "list_iterator", data := .fields #[.ref l, .int 0 0] }).get? s.heap.objs.size
              = some (newS w) := Heap.get?_push_of_some _ gs
          exact ⟨0, Nat.le_refl 0, setR_new_at gt1⟩
        case gR =>
          intro s' c' mv cc' gs'
          obtain ⟨h', g2, d', tk', os'⟩ := s'
          have q1 : g2 = s.gens := mv.gens
          have q2 : d' = s.drawn := mv.drawn
          have q3 : os' = s.os := mv.os
          subst q1; subst q2; subst q3
          show wpAny _ _ _ _ _ _
          refine wpAny_pure ?_
          show wpAny _ _ (ret Value.none) _ _ _
          rw [zl] at cc'
          refine wpAny_pure ⟨rfl, h', tk', c', rfl, gs', cc', fun b o e => ?_⟩
          have u0 : b < s.heap.objs.size := Heap.lt_size e
          have u1 : b ≠ s.heap.objs.size := Nat.ne_of_lt u0
          have u2 : b ≠ (s.heap.push (newS w)).objs.size := by
            rw [Heap.size_push]; exact Nat.ne_of_lt (Nat.lt_succ_of_lt u0)
          exact mv.heap b o (by simp only [List.mem_cons, List.mem_singleton, List.not_mem_nil, or_false, not_or]; exact ⟨u1, u2⟩) (Heap.get?_push_of_some _ (Heap.get?_push_of_some _ e))

      · cases r₂ with
        | error e => exact rr2
        | ok fl₂ =>
          cases fl₂ with
          | ret r =>
            obtain ⟨rfl, h', tk, c', rfl, gs', cc', kk'⟩ := rr2
            repeat (any_goals (first | assumption | wp_step))
            exact h _ _ _ gs' cc' kk'
          | _ => exact rr2.elim
    | _ => exact rr.elim

end
def rSetL1 (K : PySem.W.Frag) (w : World) : List V → Hp → VK → Prop := fun vs H Q => ∃ (l : Addr) (ns : List Int), vs = [V.ref l] ∧ SqL K H l (ns.map V.int) ∧ ns.length + 1 < scanBound ∧ ∀ c p, c ≤ ns.length → H p = none → Q (.ref p) (upd H p (SetO w p (fun j => decide (j ∈ ns)) c))
theorem cr_setL1 {X : Cx} {K : PySem.W.Frag} (hK : X.K = K) (hc : X.calm = true) : CallR X (.type "set") (rSetL1 K X.w) := by
  subst hK
  intro pins s σ H vs us Q I r h
  obtain ⟨l, ns, rfl, hS, hb, q⟩ := h
  rw [Vals.ref1 r]
  obtain ⟨its, rv, ⟨⟨cls, dd, data, sl⟩, n, ho, hcl, hdn, hd⟩, hlen⟩ := I.list hS
  simp only at hcl hd
  subst hcl hd
  have hi := ints_of_vals rv
  refine call_set_lstI ns (I.ok.hd hc) (its := its.toArray) ⟨_, ho, rfl, n, rfl⟩ hi hb fun h' tk c R hcn k => ?_
  have hn : H s.heap.objs.size = none := I.hok.fresh (Nat.le_refl _)
  exact ⟨.ref s.heap.objs.size, _, I.laid (t' := tk) k (Nat.le_refl _) (setO_new R), rfl, q c _ hcn hn⟩
theorem cr_sortedPK {X : Cx} {K : PySem.W.Frag} (hK : X.K = K) : CallR X (.builtin "sorted") (rSortedP K) := by
  subst hK
  exact cr_sortedP
theorem cr_maxK {X : Cx} {K : PySem.W.Frag} (hK : X.K = K) (hc : X.calm = true) : CallR X (.builtin "max") (rMax K) := by
  subst hK
  exact cr_max hc
end L2
namespace L2
open PySem PySem.Spec PyProof.Rows
/-! ### count of flat things in a list, in a tuple -/
theorem countP_eqU {x : V} : ∀ {xs : List V} {us : List Value}, Vals xs us → xs.all flatV = true → us.countP (eqU x) = xs.countP fun y => eqV y x
  | _, _, .nil, _ => rfl
  | y :: xs, u :: us, .cons r t, f => by
    rw [List.all_cons, Bool.and_eq_true] at f
    rw [List.countP_cons, List.countP_cons, countP_eqU t f.2, eqU_of r f.1]
def rCntF (K : PySem.W.Frag) : V → List V → Hp → VK → Prop := fun x xs H Q => ∃ (p : Addr) (ys : List V) (y : V), x = .ref p ∧ xs = [y] ∧ SqL K H p ys ∧ flatV y = true ∧ ys.all flatV = true ∧ Q (.int ((ys.countP fun z => eqV z y : Nat) : Int)) H
def rCntT (K : PySem.W.Frag) : V → List V → Hp → VK → Prop := fun x xs H Q => ∃ (p : Addr) (ys : List V) (y : V), x = .ref p ∧ xs = [y] ∧ SqT K H p ys ∧ flatV y = true ∧ ys.all flatV = true ∧ Q (.int ((ys.countP fun z => eqV z y : Nat) : Int)) H
section
variable {X : Cx}
theorem mt_countF {K : PySem.W.Frag} (hK : X.K = K) : MtR X "list.count" (rCntF K) := by
  subst hK
  intro pins s σ H x xs v us Q I rx rxs h
  obtain ⟨p, ys, y, rfl, rfl, hs, fy, fys, q⟩ := h
  cases rx
  cases rxs with
  | cons ry rt =>
    rename_i uy ut
    cases rt
    obtain ⟨its, rv, ⟨⟨cls, dd, data, sl⟩, n, ho, hc, hdn, hd⟩, hlen⟩ := I.list hs
    simp only at hc hd
    subst hc hd
    refine call_meets PySem.F.slot_list_count ⟨_, ho, rfl⟩ PySem.F.entry_list_count (PySem.F.args_list_count_2 _ _)
      (SeqAt.list_countAt p its.toArray n dd sl uy (eqU y)) ⟨ho, fun u' hu' => mem_eqAt ry fy rv fys u' (by simpa using hu'), ?_⟩
    refine ⟨.int ((ys.countP fun z => eqV z y : Nat) : Int), H, I.tok _, ⟨s.toks, ?_⟩, q⟩
    show Value.int ((its.toArray.toList.countP (eqU y) : Nat) : Int) s.toks = _
    rw [show its.toArray.toList = its from rfl, countP_eqU rv fys]
theorem mt_countT {K : PySem.W.Frag} (hK : X.K = K) : MtR X "tuple.count" (rCntT K) := by
  subst hK
  intro pins s σ H x xs v us Q I rx rxs h
  obtain ⟨p, ys, y, rfl, rfl, hs, fy, fys, q⟩ := h
  cases rx
  cases rxs with
  | cons ry rt =>
    rename_i uy ut
    cases rt
    obtain ⟨its, rv, ⟨⟨cls, dd, data, sl⟩, ho, hc, n, hd⟩, hlen⟩ := I.tuple hs
    simp only at hc hd
    subst hc hd
    refine call_meets PySem.F.slot_tuple_count ⟨_, ho, rfl⟩ PySem.F.entry_tuple_count (PySem.F.args_tuple_count_2 _ _)
      (SeqAt.tuple_countAt p its.toArray n dd sl uy (eqU y)) ⟨ho, fun u' hu' => mem_eqAt ry fy rv fys u' (by simpa using hu'), ?_⟩
    refine ⟨.int ((ys.countP fun z => eqV z y : Nat) : Int), H, I.tok _, ⟨s.toks, ?_⟩, q⟩
    show Value.int ((its.toArray.toList.countP (eqU y) : Nat) : Int) s.toks = _
    rw [show its.toArray.toList = its from rfl, countP_eqU rv fys]
end
end L2
namespace L2
open PySem PySem.Spec PyProof.Rows
section
variable {P : Program} {w : World} {K : PySem.W.Frag} {mg : Str → Option Value} {base : Heap}
/-- a def by its body, its code object told -/
theorem ok_cd {x qual : Str} {st : Stmt} {f : Addr} {N ps : List Str} {k : Nat} {sp : Sp} {oc kV doc pm cdv ct : Value} {od an : Option Addr} {osl : Array (Option Value)}
    (lk : K.lookup f = some ⟨oc, od, .func (PySem.W.fnOf x qual (defArgs st) (defBody st) (defScope st) .none kV doc pm an cdv ct), osl⟩) (hcd : PySem.W.codeIn K cdv qual = true) (S : FnScope N ps (defScope st)) (len : ∀ vs H Q E, sp vs H Q E → vs.length = ps.length)
    (hbody : ∀ (A : Around) (outer : List Env) (s : Shared) (H : Hp) (vs : List V) (Q : VK) (E : XK), Room k (A.deeper (envOfC qual (defScope st) s.heap.objs.size f cdv)) → sp vs H Q E →
      ∃ t, PSs (cxOf CX0 P w K mg base N qual (defScope st) f cdv A outer s H E).nox (defBody st) t ∧ t { nx := fun _ H' => Q .non H', rt := Q } (start N vs) H) : FnOk P w K mg base CX0 (k + 1) f (PySem.W.fnOf x qual (defArgs st) (defBody st) (defScope st) .none kV doc pm an cdv ct) ps sp := by
  refine fn_of lk hcd S len fun A outer s H vs Q E hr hsp => ?_
  obtain ⟨t, h, q⟩ := hbody A outer s H vs Q E hr hsp
  exact ⟨t, h.nox, q⟩
/-- own error classes under one -/
structure ErrU (K : PySem.W.Frag) (mg : Str → Option Value) (bs : Str) (names : List Str) : Prop where
  u : ∃ B, mg bs = some (.ref B) ∧ ∀ x ∈ names, ∃ C, mg x = some (.ref C) ∧ PySem.W.exmOne K (.ref C) (.ref B) = some true ∧ ExcC K C
  r : ∀ x ∈ names, ∀ y ∈ names, ∃ C D, mg x = some (.ref C) ∧ mg y = some (.ref D) ∧ PySem.W.kitOne K (.ref C) (.ref D) = some (decide (x = y))
end
end L2
namespace L2
open PySem PySem.Spec PyProof.Rows
theorem kit_self {K : PySem.W.Frag} {C : Addr} : PySem.W.kitOne K (.ref C) (.ref C) = some true := by
  unfold PySem.W.kitOne
  rw [if_pos (by simp)]
theorem kit_no {K : PySem.W.Frag} {C D : Addr} (hd : PySem.W.hasDictIn K D = true) (ht : PySem.W.typeIn K (.ref D) = some (.type "type")) (hs : PySem.W.subIn K (.ref C) (.ref D) = some false) (hn : (Value.ref C == Value.ref D) = false) : PySem.W.kitOne K (.ref C) (.ref D) = some false := by
  obtain ⟨cd, hc, _⟩ := PySem.W.any_some hd
  unfold PySem.W.kitOne
  rw [if_neg (by rw [hn]; decide)]
  have e2 : ((PySem.W.clsIn K D).isSome && PySem.W.typeIn K (.ref D) == some (.type "type")) = true := by rw [hc, ht] <;> rfl
  show (if ((PySem.W.clsIn K D).isSome && PySem.W.typeIn K (.ref D) == some (.type "type")) = true then PySem.W.subIn K (.ref C) (.ref D) else none) = some false
  rw [if_pos e2]
  exact hs
end L2
namespace PyProof.Rows
open PySem PySem.Spec PySem.W
section
variable {prog : Program} {w : World} {A : Around} {E : Value → Shared → Prop} {s : Shared}
/-- what a tuple holds, gathered in a new list -/
theorem own_gatherT {l : Addr} {vs : List Value} {Q : List Value → Shared → Prop} (hl : s.heap.IsTuple l vs.toArray)
    (h : Q vs { s with heap := (s.heap.push (seqObj "list" #[] 0)).update s.heap.objs.size (Obj.mapSeq (· ++ vs.toArray)) }) (hsz : vs.length ≤ sizeLine) : wpAny (model prog w) A (collect (.ref l)) Q E s := by
  obtain ⟨o, ho, hc, n, hd⟩ := id hl
  have ho2 : (s.heap.push (seqObj "list" #[] 0)).get? l = some o := Heap.get?_push_of_some _ ho
  have hcond : (Value.type "tuple" == Value.type "tuple") = true := by rfl
  have hcond2 : (Value.type "tuple" == Value.type "list") = false := by decide
  unfold collect
  refine wpAny_bind (wpAny_runValue (codeAny_builtin entry_proto_collect' ?_)); show wpAny _ _ (do again (.builtin "list.__iadd__" ⟨[← newList [], .ref l], []⟩)) _ _ s
  refine wpAny_bind (wpAny_newList (wpAny_pure ⟨Code.quiet_builtin _ (by decide +kernel), codeAny_builtin entry_list_iadd' ?_⟩)); show wpAny _ _ (Builtin.List.listExtendWith (.ref s.heap.objs.size) (.ref l) (.ref s.heap.objs.size)) _ _ { s with heap := s.heap.push (seqObj "list" #[] 0) }
  unfold Builtin.List.listExtendWith
  refine wpAny_bind (wpAny_typeOf (T := "tuple") ⟨o, ho2, hc⟩ ?_)
  rw [if_pos (by rw [hcond]; simp)]
  refine wpAny_bind (listItems_at ho2 hd ?_)
  refine wpAny_bind (listItems_at (xs := #[]) (n := 0) (Heap.get?_push_size _ rfl) rfl ?_)
  rw [if_neg (by simp)]
  refine wpAny_bind (listUpdate_at (xs := #[]) (n := 0) (Heap.get?_push_size _ rfl) rfl ?_ (Nat.zero_le _) (by show (#[] ++ vs.toArray).size ≤ sizeLine + 1; simp only [Array.size_append, List.size_toArray, List.length_nil]; omega)); refine wpAny_pure ?_
  refine wpAny_bind (wpAny_load (get?_update_seq (Heap.get?_push_size _ rfl) _) ?_)
  show wpAny _ _ (pure ((#[] : Array Value) ++ vs.toArray).toList) Q E _
  have e0 : ((#[] : Array Value) ++ vs.toArray).toList = vs := by simp
  rw [e0]; exact wpAny_pure h
end
end PyProof.Rows
namespace SrtO
open PySem PyProof.Rows Srt
section
variable {prog : Program} {w : World} {A : Around} {E : Value → Shared → Prop} {s : Shared}
theorem own_sortT {l : Addr} {vs : List Value} {ltv : Value → Value → Bool} {Q : Value → Shared → Prop} (O : Swo ltv) (hl : s.heap.IsTuple l vs.toArray) (hz : vs.length ≤ sizeLine)
    (hS : 2 ≤ vs.length → ∀ (h₁ : Heap) (a : Addr), h₁.get? a = some (seqObj "list" vs.toArray 0) → (∀ b o, s.heap.get? b = some o → b ≠ a ∧ h₁.get? b = some o) → SortableO prog w A.in1.in1 { s with heap := h₁ } a vs ltv)
    (h : ∀ out : List Value, Srtd ltv out → Stb ltv out vs → Q (.ref (s.heap.objs.size + 1)) { s with heap := sortedAll s.heap vs out.toArray }) : wpAny (model prog w) A (call (.builtin "sorted") [.ref l]) Q E s := by
  refine Calls.call_function_entry kind_sorted plain_sorted entry_sorted (args_sorted1 _) ?_; unfold Builtin.«sorted»
  refine wpAny_bind (m := checkCount "sorted" 1 1 _) (wpAny_pure ?_); refine wpAny_bind (own_gatherT hl ?_ hz)
  refine wpAny_bind (wpAny_newList ?_ hz)
  have n1 : ((s.heap.push (seqObj "list" #[] 0)).update s.heap.objs.size (Obj.mapSeq (· ++ vs.toArray))).objs.size = s.heap.objs.size + 1 := by rw [Heap.size_update, size_push']
  have g1 : (((s.heap.push (seqObj "list" #[] 0)).update s.heap.objs.size (Obj.mapSeq (· ++ vs.toArray))).push (seqObj "list" vs.toArray 0)).get? (s.heap.objs.size + 1) = some (seqObj "list" vs.toArray 0) := by rw [← n1]; exact Heap.get?_push_size _ rfl
  have k1 : ∀ b o, s.heap.get? b = some o → b ≠ s.heap.objs.size + 1 ∧ (((s.heap.push (seqObj "list" #[] 0)).update s.heap.objs.size (Obj.mapSeq (· ++ vs.toArray))).push (seqObj "list" vs.toArray 0)).get? b = some o := fun b o q => by
    have lt := Heap.lt_size q
    exact ⟨Nat.ne_of_lt (Nat.lt_succ_of_lt lt), Heap.get?_push_of_some _ (by rw [Heap.get?_update_ne _ _ _ _ (Nat.ne_of_lt lt)]; exact Heap.get?_push_of_some _ q)⟩
  show wpAny _ _ _ _ _ { s with heap := ((s.heap.push (seqObj "list" #[] 0)).update s.heap.objs.size (Obj.mapSeq (· ++ vs.toArray))).push (seqObj "list" vs.toArray 0) }; rw [n1]
  exact wpAny_bind (wpAny_holding (wpAny_call_entry slot_list_sort ⟨_, g1, rfl⟩ entry_list_sort (list_sort_ord O g1 hz (fun h2 => hS h2 _ _ g1 k1) fun out hs hb => ⟨_, rfl, wpAny_pure ⟨_, rfl, h out hs hb⟩⟩) (args_list_sort _)))
end
end SrtO
namespace L2
open PySem PySem.Spec PyProof.Rows RZ
/-- sorted(t), whole numbers in a tuple -/
def rSortedTI (K : PySem.W.Frag) : List V → Hp → VK → Prop := fun vs H Q => ∃ (a : Addr) (ns : List Int), vs = [V.ref a] ∧ SqT K H a (ns.map V.int) ∧
  ∀ (ns' : List Int) (p : Addr), ns'.Perm ns → ns'.Pairwise (· ≤ ·) → H p = none → Q (.ref p) (upd H p (.lst (ns'.map V.int)))
theorem cr_sortedTI {X : Cx} {K : PySem.W.Frag} (hK : X.K = K) : CallR X (.builtin "sorted") (rSortedTI K) := by
  subst hK
  intro pins s σ H vs us Q I r h
  obtain ⟨a, ns, rfl, hs, q⟩ := h
  obtain ⟨its, rv, hl, hz⟩ := I.tuple hs
  rw [Vals.ref1 r]
  have hi := rv.ints
  refine SrtO.own_sortT SrtO.swo_int hl (by rw [← rv.length]; exact hz) (fun h2 h₁ a' _ _ => SrtO.ints_sortable hi h2) fun out h1 h2 => ?_
  obtain ⟨k1, k2, k3⟩ := SrtO.ints_out hi h1 h2
  obtain ⟨ep, he'⟩ := PyProof.Rows.sortedAll_at s.heap its out.toArray
  have ll : ((out.map SrtO.iv).map V.int).length ≤ sizeLine := by
    rw [List.length_map] at hz ⊢; rw [k2.length_eq]; exact hz
  exact ⟨.ref _, _, I.laid (o := .lst ((out.map SrtO.iv).map V.int)) (t' := s.toks) (fun _ _ => PyProof.Rows.sortedAll_old) (Nat.le_succ _) ⟨ll, out, ep, vals_of_ints k1, he'⟩, rfl, q _ _ k2 k3 (I.hok.fresh (Nat.le_succ _))⟩
theorem cr_sortedIK {X : Cx} {K : PySem.W.Frag} (hK : X.K = K) : CallR X (.builtin "sorted") (rSortedI K) := by
  subst hK
  exact cr_sortedI
theorem pi_zipAK {X : Cx} {K : PySem.W.Frag} (hK : X.K = K) {e e2 : Expr} {ta : TA} {p pos tpos : Pos} {elts : List Expr} {kk : Nat} (hg : Gl X "zip") (hm : X.mg "zip" = none) (ha : PA X [e, e2] ta)
    (hs : starEach [e, e2] X.env = (false, eval e X.env) :: starEach [e2] X.env := by rfl) (hpl : (backTo pos (starEach [e2] X.env)).any (·.1) = false := by rfl) : PI X (.Tuple elts kk tpos) (.Call (.Name "zip" p) [e, e2] [] pos) (iZipA K ta) := by
  subst hK
  exact pi_zipA hg hm ha hs hpl
theorem walk_zipT {K : PySem.W.Frag} {a b : Addr} {xs ys : List V} {n : Nat} (hn : n = min xs.length ys.length) : Walk (ItzT K a b) n (fun H => SqT K H a xs ∧ SqT K H b ys) (YPair (fun i => xs[i]?) (fun i => ys[i]?)) := by
  subst hn
  refine ⟨fun i _ hi q => ⟨xs, ys, xs[i]'(by omega), ys[i]'(by omega), q.1, q.2, List.getElem?_eq_getElem (by omega), List.getElem?_eq_getElem (by omega)⟩, fun _ q => ⟨xs, ys, q.1, q.2, by omega⟩, fun i H v H' _ q y => ?_⟩
  obtain ⟨T, x, z, h1, h2, h3, h4, h5⟩ := y
  exact ⟨T, x, z, h1, h2, h3, h4 xs q.1, h5 ys q.2⟩
end L2
namespace L2
open PySem PySem.Spec PyProof.Rows
/-! ### a new tuple whose object is known; methods of such a tuple -/
def SqF (H : Hp) (a : Addr) (xs : List V) : Prop := ∃ o : Obj, H a = some (.frz o (.tup xs)) ∧ o.dict = none
theorem SqF.sq {K : PySem.W.Frag} {H : Hp} {a : Addr} {xs : List V} (h : SqF H a xs) : SqT K H a xs := let ⟨o, h, _⟩ := h; .inl (.inr ⟨o, h⟩)
theorem SqF.ex {H H' : Hp} {a : Addr} {xs : List V} (h : SqF H a xs) (e : Evl.Ex H H') : SqF H' a xs := let ⟨o, h, d⟩ := h; ⟨o, e _ _ h, d⟩
def rTupF (K : PySem.W.Frag) : List V → Hp → VK → Prop := fun xs H Q => ∃ p ys, xs = [.ref p] ∧ SqL K H p ys ∧ ∀ l o, H l = none → o.dict = none → Q (.ref l) (upd H l (.frz o (.tup ys)))
def tBMT (T : String) (r : V → List V → Hp → VK → Prop) (to : TE) (t : TA) : TE := fun σ H Q => to σ H fun x H1 => (T = "tuple" ∧ ∃ p xs, x = .ref p ∧ SqF H1 p xs) ∧ t σ H1 fun xs H2 => r x xs H2 Q
section
variable {X : Cx}
theorem cr_tupF {K : PySem.W.Frag} (hK : X.K = K) : CallR X (.type "tuple") (rTupF K) := by
  subst hK
  intro pins s σ H xs us Q I r h
  obtain ⟨p, ys, rfl, hq, q⟩ := h
  rw [Vals.ref1 r]
  obtain ⟨its, rv, pl, hz⟩ := I.list hq
  have hlen := rv.length
  refine call_tuple_list pl.isList (fun h' kp => ?_) (by simp only [List.size_toArray] <;> omega)
  have J : Inv X pins σ H { s with heap := h' } := I.kept (t' := s.toks) kp
  exact ⟨.ref h'.objs.size, _, J.laid (o := .frz { cls := .type "tuple", data := .seq its.toArray } (.tup ys)) (t' := s.toks) (fun b o e => Heap.get?_push_of_some _ e) (Nat.le_refl _) ⟨Heap.get?_push_size _ rfl, hz, its, rv, IsTup.new _ _⟩, rfl, q _ _ (J.hok.fresh (Nat.le_refl _)) rfl⟩
theorem pe_bmT {o e : Expr} {es : List Expr} {to : TE} {t : TA} {name : Str} {apos cpos : Pos} {T id : String} {r : V → List V → Hp → VK → Prop} (pa : PlainAttrs T) (slot : Slot T name id) (hty : typeOf (.builtin id) = pure (.type "method_descriptor")) (hm : MtR X id r) (ho : PE X o to) (ha : PA X (e :: es) t)
    (hbase : attributeBase o name X.env (eval o X.env) = eval o X.env := by rfl)
    (hfew : ((backTo cpos (starEach (e :: es) X.env)).all (fun x => !x.1) && (backToKw cpos (keywordEach [] X.env)).all (fun x => x.1.isSome) && decide ((e :: es).length + ([] : List Keyword).length + (if ([] : List Keyword).isEmpty then 0 else 1) < 30)) = true := by rfl)
    (hline : (apos.endLine == cpos.line) = true := by rfl) (hs : starEach (e :: es) X.env = (false, eval e X.env) :: starEach es X.env := by rfl) (hplain : (backTo cpos (starEach es X.env)).any (·.1) = false := by rfl) : PE X (.Call (.Attribute o name apos) (e :: es) [] cpos) (tBMT T r to t) := by
  refine ⟨fun pins s σ H Q I h => wpAny_Call_method_late hbase hfew hline rfl (thn (ho.run pins s σ H _ I h) fun v s1 ⟨x, H1, I1, r1, ty, q1⟩ => ?_)⟩
  obtain ⟨rfl, p, xs, rfl, o1, hp, hd⟩ := ty
  cases r1
  obtain ⟨hg, _, its, _, ot, hot, hc, n, _⟩ := I1.hok p _ hp
  refine ⟨"tuple", id, pa, slot, hty, ⟨ot, hot, hc⟩, fun a e => ?_, ?_⟩
  · cases e
    exact ⟨o1, hg, hd⟩
  · have hA := ha.run cpos pins s1 σ H1 _ I1 q1
    rw [hs] at hA ⊢
    exact Calls.callWith_builtin (by show (false || (backTo cpos (starEach es X.env)).any (·.1)) = false; rw [hplain] <;> rfl) (Calls.evalArgs_plain (thn hA fun us s2 ⟨vs, H2, I2, r2, q2⟩ => hm pins s2 σ H2 (.ref p) vs _ us Q I2 rfl r2 q2))
end
theorem walk_enumT {K : PySem.W.Frag} {a : Addr} {xs : List V} : Walk (IteT K a) xs.length (fun H => SqT K H a xs) (YPair (fun i => some (.int (i : Nat))) (fun i => xs[i]?)) := by
  refine ⟨fun i _ hi q => ⟨xs, xs[i], q, List.getElem?_eq_getElem hi⟩, fun _ q => ⟨xs, q, rfl⟩, fun i H v H' _ q y => ?_⟩
  obtain ⟨T, x, h1, h2, h3, h4⟩ := y
  exact ⟨T, .int (i : Nat), x, h1, h2, h3, rfl, h4 xs q⟩
end L2
/-! zip of a tuple and a list: at the level of the library, over iterators of either kind. -/
namespace ZipM
open PySem RZ
/-- an iterator over a tuple or over a list, k things taken -/
def SeqIt (h : Heap) (it l : Addr) (k : Nat) (xs : Array Value) : Prop := (h.IsTupleIter it l k ∧ h.IsTuple l xs) ∨ (h.IsListIter it l k ∧ h.IsList l xs)
theorem SeqIt.ext {h h' : Heap} {it l c : Addr} {k : Nat} {xs : Array Value} (q : SeqIt h it l k xs) (e : Heap.ExtBut c h h') (h1 : it ≠ c) (h2 : l ≠ c) : SeqIt h' it l k xs := by
  rcases q with ⟨q1, q2⟩ | ⟨q1, q2⟩
  · exact .inl ⟨q1.extBut e h1, q2.extBut e h2⟩
  · exact .inr ⟨q1.extBut e h1, q2.extBut e h2⟩
section
variable {prog : Program} {w : World} {A : Around} {E : Value → Shared → Prop} {s : Shared}
theorem nextSome {it l : Addr} {k : Nat} {xs : Array Value} {x : Value} {Q : Value → Shared → Prop} (q : SeqIt s.heap it l k xs) (hne : l ≠ it) (hx : xs[k]? = some x)
    (hQ : ∀ h', SeqIt h' it l (k + 1) xs → Heap.SameBut it s.heap h' → Q x { s with heap := h' }) : wpAny (model prog w) A (Builtin.SmallTypes.nextOf (.ref it)) Q E s := by
  rcases q with ⟨q1, q2⟩ | ⟨q1, q2⟩
  · exact nextOf_tuple_item q1 q2 hx fun h' a b => hQ h' (.inl ⟨a, q2.extBut b.extBut hne⟩) b
  · exact wpAny_nextOf_list_item q1 q2 hx fun h' a b => hQ h' (.inr ⟨a, q2.extBut b.extBut hne⟩) b
theorem nextNone {it l : Addr} {k : Nat} {xs : Array Value} {Q : Value → Shared → Prop} (hh : A.handled = none) (q : SeqIt s.heap it l k xs) (hx : xs[k]? = none)
    (hE : ∀ h' e, Heap.ExtBut it s.heap h' → (∃ o, h'.get? e = some o ∧ o.cls = .type "StopIteration") → E (.ref e) { s with heap := h' }) : wpAny (model prog w) A (Builtin.SmallTypes.nextOf (.ref it)) Q E s := by
  rcases q with ⟨q1, q2⟩ | ⟨q1, q2⟩
  · exact nextOf_tuple_end hh q1 q2 hx hE
  · exact wpAny_nextOf_list_end hh q1 q2 hx hE
/-- all but the zip's own four objects stays -/
def Rest (z TO i1 i2 : Addr) (h h' : Heap) : Prop := ∀ c o, c ≠ z → c ≠ TO → c ≠ i1 → c ≠ i2 → h.get? c = some o → h'.get? c = some o
theorem zipm_head {z TI TO i1 i2 l1 l2 : Addr} {k1 k2 : Nat} {xs ys : Array Value} {a b : Value} {Q : Fin → Shared → Prop} (D : ZipApart z TI TO i1 i2 l1 l2)
    (hz : IsZip s.heap z TI TO .none) (hTI : IsPair s.heap TI (.ref i1) (.ref i2)) (h1 : SeqIt s.heap i1 l1 k1 xs) (h2 : SeqIt s.heap i2 l2 k2 ys) (hTO : IsPair s.heap TO a b)
    (hE : (xs[k1]? = none ∨ ys[k2]? = none) → ∀ h' e, A.handled = none → Rest z TO i1 i2 s.heap h' → (∃ o, h'.get? e = some o ∧ o.cls = .type "StopIteration") → E (.ref e) { s with heap := h' }) (hA : (xs[k1]? = none ∨ ys[k2]? = none) → A.handled = none)
    (hQ : ∀ x y h', xs[k1]? = some x → ys[k2]? = some y → IsZip h' z TI TO (rawInt s.heap.objs.size) → IsPair h' TO x y → SeqIt h' i1 l1 (k1 + 1) xs → SeqIt h' i2 l2 (k2 + 1) ys → IsPair h' s.heap.objs.size x y →
      h'.objs.size = s.heap.objs.size + 1 → Rest z TO i1 i2 s.heap h' → Q (.done (.ret (.ref s.heap.objs.size))) { s with heap := h' }) :
    wpAny (model prog w) A (Builtin.«zip.__next__» ⟨[.ref z], []⟩) Q E s := by
  show wpAny _ _ (do let _ ← field (.ref z) 2; _) _ _ _
  refine wpAny_bind (wpAny_field hz rfl (x := .bool false) rfl ?_); show wpAny _ _ (do let _ ← field (.ref z) 3; _) _ _ _
  refine wpAny_bind (wpAny_field hz rfl (x := .ref TI) rfl ?_); refine wpAny_bind (wpAny_seqItems hTI rfl ?_)
  show wpAny _ _ (do let _ ← Builtin.SmallTypes.ownedTupleIsFree (.ref z); _) _ _ _
  refine wpAny_bind ?_; unfold Builtin.SmallTypes.ownedTupleIsFree
  refine wpAny_bind (wpAny_field hz rfl (x := .none) rfl (wpAny_pure ?_)); simp only [if_true]
  refine wpAny_bind (wpAny_rule ?_); refine wpAny_bind (wpAny_field hz rfl (x := .ref TO) rfl ?_)
  refine wpAny_bind (wpAny_setField_rec hz (by simp) fun g1 hz1 e1 => ?_); replace hz1 : IsZip g1 z TI TO .ellipsis := hz1
  refine wpAny_bind ?_; simp only [List.zipIdx_cons, List.zipIdx_nil, List.forIn_cons, List.forIn_nil]
  refine wpAny_bind (wpAny_bind (wpAny_onRaise ?_)); show wpAny _ _ (do let _ ← Builtin.SmallTypes.nextOf (.ref i1); _) _ _ _
  have a1 : SeqIt g1 i1 l1 k1 xs := h1.ext e1.extBut D.i1z D.l1z
  have a2 : SeqIt g1 i2 l2 k2 ys := h2.ext e1.extBut D.i2z D.l2z
  cases hx : xs[k1]? with
  | none =>
    refine wpAny_bind (nextNone (hA (.inl hx)) a1 hx fun g2 e e2 he => ?_)
    obtain ⟨oe, hoe, hce⟩ := he
    have hz2 : IsZip g2 z TI TO .ellipsis := e2 _ _ D.i1z.symm hz1
    have hez : e ≠ z := fun x => by rw [x, hz2] at hoe; cases hoe; simp at hce
    refine wpAny_setField_rec hz2 (by simp) fun g3 _ e3 => hE (.inl hx) g3 e (hA (.inl hx)) (fun c o c1 _ c3 _ x => ?_) ⟨oe, e3.extBut _ _ hez hoe, hce⟩
    exact e3.extBut _ _ c1 (e2 _ _ c3 (e1.extBut _ _ c1 x))
  | some x =>
    refine wpAny_bind (nextSome a1 D.l1i1 hx fun g2 b1 e2 => wpAny_pure ?_)
    have t2 : IsPair g2 TO a b := e2.extBut _ _ D.TOi1 (e1.extBut _ _ D.TOz hTO)
    have b2 : SeqIt g2 i2 l2 k2 ys := a2.ext e2.extBut D.i12.symm D.l2i1
    refine wpAny_bind (wpAny_seqItems t2 rfl ?_); refine wpAny_bind (wpAny_updateSeq_pair t2 fun g3 t3 e3 => ?_); replace t3 : IsPair g3 TO x b := t3
    refine wpAny_bind (wpAny_letGo (wpAny_pure ?_)); refine wpAny_bind (wpAny_bind (wpAny_onRaise ?_))
    show wpAny _ _ (do let _ ← Builtin.SmallTypes.nextOf (.ref i2); _) _ _ _
    have c2 : SeqIt g3 i2 l2 k2 ys := b2.ext e3.extBut D.TOi2.symm D.l2TO
    have c1 : SeqIt g3 i1 l1 (k1 + 1) xs := b1.ext e3.extBut D.TOi1.symm D.l1TO
    have z3 : IsZip g3 z TI TO .ellipsis := e3.extBut _ _ D.TOz.symm (e2.extBut _ _ D.i1z.symm hz1)
    have r3 : ∀ c o, c ≠ z → c ≠ TO → c ≠ i1 → s.heap.get? c = some o → g3.get? c = some o := fun c o n1 n2 n3 q => e3.extBut _ _ n2 (e2.extBut _ _ n3 (e1.extBut _ _ n1 q))
    cases hy : ys[k2]? with
    | none =>
      refine wpAny_bind (nextNone (hA (.inr hy)) c2 hy fun g4 e e4 he => ?_)
      obtain ⟨oe, hoe, hce⟩ := he
      have z4 : IsZip g4 z TI TO .ellipsis := e4 _ _ D.i2z.symm z3
      have hez : e ≠ z := fun x => by rw [x, z4] at hoe; cases hoe; simp at hce
      refine wpAny_setField_rec z4 (by simp) fun g5 _ e5 => hE (.inr hy) g5 e (hA (.inr hy)) (fun c o n1 n2 n3 n4 x => ?_) ⟨oe, e5.extBut _ _ hez hoe, hce⟩
      exact e5.extBut _ _ n1 (e4 _ _ n4 (r3 c o n1 n2 n3 x))
    | some y =>
      refine wpAny_bind (nextSome c2 D.l2i2 hy fun g4 d2 e4 => wpAny_pure ?_)
      have t4 : IsPair g4 TO x b := e4.extBut _ _ D.TOi2 t3
      have d1 : SeqIt g4 i1 l1 (k1 + 1) xs := c1.ext e4.extBut D.i12 D.l1i2
      refine wpAny_bind (wpAny_seqItems t4 rfl ?_); refine wpAny_bind (wpAny_updateSeq_pair t4 fun g5 t5 e5 => ?_); replace t5 : IsPair g5 TO x y := t5
      refine wpAny_bind (wpAny_letGo (wpAny_pure (wpAny_pure ?_))); refine wpAny_bind (wpAny_seqItems t5 rfl ?_); refine wpAny_bind (wpAny_newTuple ?_)
      have hsz : g5.objs.size = s.heap.objs.size := by rw [e5.1, e4.1, e3.1, e2.1, e1.1]
      have z5 : IsZip g5 z TI TO .ellipsis := e5.extBut _ _ D.TOz.symm (e4.extBut _ _ D.i2z.symm z3)
      have r5 : ∀ c o, c ≠ z → c ≠ TO → c ≠ i1 → c ≠ i2 → s.heap.get? c = some o → g5.get? c = some o := fun c o n1 n2 n3 n4 q => e5.extBut _ _ n2 (e4.extBut _ _ n4 (r3 c o n1 n2 n3 q))
      have f1 : SeqIt g5 i1 l1 (k1 + 1) xs := d1.ext e5.extBut D.TOi1.symm D.l1TO
      have f2 : SeqIt g5 i2 l2 (k2 + 1) ys := d2.ext e5.extBut D.TOi2.symm D.l2TO
      have lz : z < g5.objs.size := Heap.lt_size z5
      show wpAny _ _ (do let _ ← Builtin.SmallTypes.ownedTupleHandOut (.ref z) (.ref g5.objs.size); _) _ _ _
      refine wpAny_bind ?_; unfold Builtin.SmallTypes.ownedTupleHandOut
      have z6 : IsZip (g5.push { cls := .type "tuple", data := .seq #[x, y] }) z TI TO .ellipsis := Heap.get?_push_of_some _ z5
      refine wpAny_bind (wpAny_setField_rec z6 (by simp) fun g7 z7 e7 => ?_); replace z7 : IsZip g7 z TI TO (rawInt g5.objs.size) := z7
      refine wpAny_setField_rec z7 (by simp) fun g8 z8 e8 => ?_; replace z8 : IsZip g8 z TI TO (rawInt g5.objs.size) := z8
      have up : ∀ c o, c ≠ z → g5.get? c = some o → g8.get? c = some o := fun c o n1 q => e8.extBut _ _ n1 (e7.extBut _ _ n1 (Heap.get?_push_of_some _ q))
      have p8 : IsPair g8 g5.objs.size x y := e8.extBut _ _ (Nat.ne_of_gt lz) (e7.extBut _ _ (Nat.ne_of_gt lz) (Heap.get?_push_size _ rfl))
      have s8 : g8.objs.size = g5.objs.size + 1 := by rw [e8.1, e7.1, Heap.size_push]
      have at8 : ∀ {it l : Addr} {k : Nat} {vs : Array Value}, it ≠ z → l ≠ z → SeqIt g5 it l k vs → SeqIt g8 it l k vs := fun n1 n2 q => by
        rcases q with ⟨⟨o, q1, q2⟩, ⟨o', q3, q4⟩⟩ | ⟨⟨o, q1, q2⟩, ⟨o', q3, q4⟩⟩
        · exact .inl ⟨⟨o, up _ _ n1 q1, q2⟩, ⟨o', up _ _ n2 q3, q4⟩⟩
        · exact .inr ⟨⟨o, up _ _ n1 q1, q2⟩, ⟨o', up _ _ n2 q3, q4⟩⟩
      rw [hsz] at z8 p8 s8
      refine wpAny_pure ?_
      rw [hsz]
      exact hQ x y g8 hx hy z8 (up _ _ D.TOz t5) (at8 D.i1z D.l1z f1) (at8 D.i2z D.l2z f2) p8 s8 fun c o n1 n2 n3 n4 q => up c o n1 (r5 c o n1 n2 n3 n4 q)
theorem pyNextM {z TI TO i1 i2 l1 l2 : Addr} {k1 k2 : Nat} {xs ys : Array Value} {a b : Value} {Q : Option Value → Shared → Prop} (D : ZipApart z TI TO i1 i2 l1 l2)
    (hz : IsZip s.heap z TI TO .none) (hTI : IsPair s.heap TI (.ref i1) (.ref i2)) (h1 : SeqIt s.heap i1 l1 k1 xs) (h2 : SeqIt s.heap i2 l2 k2 ys) (hTO : IsPair s.heap TO a b) (hA : (xs[k1]? = none ∨ ys[k2]? = none) → A.handled = none)
    (hE : (xs[k1]? = none ∨ ys[k2]? = none) → ∀ h', Rest z TO i1 i2 s.heap h' → Q none { s with heap := h' })
    (hQ : ∀ x y h', xs[k1]? = some x → ys[k2]? = some y → IsZip h' z TI TO (rawInt s.heap.objs.size) → IsPair h' TO x y → SeqIt h' i1 l1 (k1 + 1) xs → SeqIt h' i2 l2 (k2 + 1) ys → IsPair h' s.heap.objs.size x y →
      h'.objs.size = s.heap.objs.size + 1 → Rest z TO i1 i2 s.heap h' → Q (some (.ref s.heap.objs.size)) { s with heap := h' }) : wpAny (model prog w) A (pyNext (.ref z)) Q E s := by
  have hT : s.TypeIs (.ref z) "zip" := ⟨_, hz, rfl⟩
  unfold pyNext
  refine wpAny_bind (wpAny_attempt (wpAny_callSpecial?_slot (name := Str.ofString "__next__") hT F.slot_zip_next (wpAny_call_entry F.slot_zip_next hT F.entry_zip_next
    (zipm_head D hz hTI h1 h2 hTO (fun hn h' e _ hk he => ?_) (fun hn => hA hn) fun x y h' q1 q2 q3 q4 q5 q6 q7 q8 q9 => ⟨_, rfl, wpAny_pure (hQ x y h' q1 q2 q3 q4 q5 q6 q7 q8 q9)⟩) (F.args_zip_next_1 _))))
  obtain ⟨o, ho, hc⟩ := he
  exact wpAny_bind (wpAny_isInstance (T := "StopIteration") (b := true) ⟨o, ho, hc⟩ isSubtype_stop (wpAny_pure (hE hn _ hk)))
end
abbrev zmA (h : Heap) (l1 : Addr) : Heap := h.push { cls := .type "tuple_iterator", data := .fields #[.ref l1, .int 0 0] }
abbrev zmB (h : Heap) (l1 l2 : Addr) : Heap := (zmA h l1).push { cls := .type "list_iterator", data := .fields #[.ref l2, .int 0 0] }
abbrev zmC (h : Heap) (l1 l2 : Addr) : Heap := (zmB h l1 l2).push { cls := .type "tuple", data := .seq #[.ref h.objs.size, .ref (zmA h l1).objs.size] }
abbrev zmD (h : Heap) (l1 l2 : Addr) : Heap := (zmC h l1 l2).push { cls := .type "tuple", data := .seq #[.none, .none] }
abbrev zmE (h : Heap) (l1 l2 : Addr) : Heap := (zmD h l1 l2).push { cls := .type "zip", data := .fields #[.none, .bool false, .bool false, .ref (zmB h l1 l2).objs.size, .ref (zmC h l1 l2).objs.size] }
theorem meets_zm (l1 l2 : Addr) (xs ys : Array Value) : Meets (Builtin.«zip.__new__» ⟨[.type "zip", .ref l1, .ref l2], []⟩) (fun _ R s =>
      s.heap.IsTuple l1 xs ∧ s.heap.IsList l2 ys ∧ R (.ok (.ret (.ref (zmD s.heap l1 l2).objs.size))) { s with heap := zmE s.heap l1 l2 }) :=
  .of_wp fun prog w A R s h => by
    obtain ⟨hp, g, d, tk, os⟩ := s; obtain ⟨q1, q2, h⟩ := h
    have own_ := sub_zip
    have t1 : Heap.IsTuple (Shared.heap ⟨hp, g, d, tk, os⟩) l1 xs := q1
    have t2 : Heap.IsList (Shared.heap ⟨zmA hp l1, g, d, tk, os⟩) l2 ys := Heap.IsList.push q2 _
    wp_walk using wpAny_pyIter_tuple t1, wpAny_pyIter_list t2
    exact ⟨_, rfl, h⟩
section
variable {prog : Program} {w : World} {A : Around} {E : Value → Shared → Prop} {s : Shared}
theorem call_zm {l1 l2 : Addr} {xs ys : Array Value} {Q : Value → Shared → Prop} (q1 : s.heap.IsTuple l1 xs) (q2 : s.heap.IsList l2 ys)
    (h : ∀ h', IsZip h' (s.heap.objs.size + 4) (s.heap.objs.size + 2) (s.heap.objs.size + 3) .none → IsPair h' (s.heap.objs.size + 2) (.ref s.heap.objs.size) (.ref (s.heap.objs.size + 1)) → IsPair h' (s.heap.objs.size + 3) .none .none →
      SeqIt h' s.heap.objs.size l1 0 xs → SeqIt h' (s.heap.objs.size + 1) l2 0 ys → h'.objs.size = s.heap.objs.size + 5 → (∀ c o, s.heap.get? c = some o → h'.get? c = some o) → Q (.ref (s.heap.objs.size + 4)) { s with heap := h' }) :
    wpAny (model prog w) A (call (.type "zip") [.ref l1, .ref l2]) Q E s := by
  refine callType_new F.called_zip (by decide) (F.typeCall_zip_2 _ _) (F.newCall_zip_2 _ _) (fun obj => F.args_object_init_3 obj _ _) F.entry_zip_new (meets_zm l1 l2 xs ys) ⟨q1, q2, ?_⟩
  have n1 : (zmA s.heap l1).objs.size = s.heap.objs.size + 1 := Heap.size_push ..
  have n2 : (zmB s.heap l1 l2).objs.size = s.heap.objs.size + 2 := by rw [Heap.size_push, n1]
  have n3 : (zmC s.heap l1 l2).objs.size = s.heap.objs.size + 3 := by rw [Heap.size_push, n2]
  have n4 : (zmD s.heap l1 l2).objs.size = s.heap.objs.size + 4 := by rw [Heap.size_push, n3]
  have n5 : (zmE s.heap l1 l2).objs.size = s.heap.objs.size + 5 := by rw [Heap.size_push, n4]
  have old : ∀ c o, s.heap.get? c = some o → (zmE s.heap l1 l2).get? c = some o := fun c o x => Heap.get?_push_of_some _ (Heap.get?_push_of_some _ (Heap.get?_push_of_some _ (Heap.get?_push_of_some _ (Heap.get?_push_of_some _ x))))
  have a5 : (zmE s.heap l1 l2).get? (zmD s.heap l1 l2).objs.size = some _ := Heap.get?_push_size _ rfl
  have a4 : (zmE s.heap l1 l2).get? (zmC s.heap l1 l2).objs.size = some _ := Heap.get?_push_of_some _ (Heap.get?_push_size _ rfl)
  have a3 : (zmE s.heap l1 l2).get? (zmB s.heap l1 l2).objs.size = some _ := Heap.get?_push_of_some _ (Heap.get?_push_of_some _ (Heap.get?_push_size _ rfl))
  have a2 : (zmE s.heap l1 l2).get? (zmA s.heap l1).objs.size = some _ := Heap.get?_push_of_some _ (Heap.get?_push_of_some _ (Heap.get?_push_of_some _ (Heap.get?_push_size _ rfl)))
  have a1 : (zmE s.heap l1 l2).get? s.heap.objs.size = some _ := Heap.get?_push_of_some _ (Heap.get?_push_of_some _ (Heap.get?_push_of_some _ (Heap.get?_push_of_some _ (Heap.get?_push_size _ rfl))))
  show _ ∧ _
  rw [n2, n3, n4] at a5
  rw [n1, n2] at a3
  rw [n3] at a4
  rw [n1] at a2
  rw [n4]
  obtain ⟨o1, x1, y1⟩ := id q1
  obtain ⟨o2, x2, y2⟩ := id q2
  exact ⟨⟨_, a5, rfl⟩, h _ a5 a3 a4 (.inl ⟨⟨_, a1, rfl, rfl⟩, ⟨o1, old _ _ x1, y1⟩⟩) (.inr ⟨⟨_, a2, rfl, rfl⟩, ⟨o2, old _ _ x2, y2⟩⟩) n5 old⟩
end
end ZipM
namespace L2
open PySem PySem.Spec PyProof.Rows RZ ZipM
/-- a tuple and a list, the things in new pairs -/
def ItzM (K : PySem.W.Frag) (a b : Addr) : It where
  go i H := ∃ (xs ys : List V) (x y : V), SqT K H a xs ∧ SqL K H b ys ∧ xs[i]? = some x ∧ ys[i]? = some y
  yld i H v H' := ∃ T x y, v = .ref T ∧ H T = none ∧ H' = upd H T (.tup [x, y]) ∧ (∀ xs, SqT K H a xs → xs[i]? = some x) ∧ ∀ ys, SqL K H b ys → ys[i]? = some y
  stop i H := ∃ xs ys : List V, SqT K H a xs ∧ SqL K H b ys ∧ (xs.length ≤ i ∨ ys.length ≤ i)
theorem five {z TI TO i1 i2 c : Addr} {p : Addr → Prop} (h : c ∈ [z, TI, TO, i1, i2]) (a1 : p z) (a2 : p TI) (a3 : p TO) (a4 : p i1) (a5 : p i2) : p c := by
  have e : c = z ∨ c = TI ∨ c = TO ∨ c = i1 ∨ c = i2 := by simpa using h
  rcases e with rfl | rfl | rfl | rfl | rfl <;> assumption
end L2
namespace L2
open PySem PySem.Spec PyProof.Rows RZ ZipM
theorem turn_zipM {P : Program} {w : World} {K : PySem.W.Frag} {elts : List Expr} {kk : Nat} {tpos : Pos} {a b z TI TO i1 i2 : Addr} (D : ZipApart z TI TO i1 i2 a b) :
    Turn P w K (.Tuple elts kk tpos) (ItzM K a b) [z, TI, TO, i1, i2] z (fun i h => IsZip h z TI TO .none ∧ IsPair h TI (.ref i1) (.ref i2) ∧ (∃ x y, IsPair h TO x y) ∧ h.IsTupleIter i1 a i ∧ h.IsListIter i2 b i) where
  mem := by simp
  self := fun A i s Q E st h => wpAny_pyIter_zip st.1 h
  keep := fun i h h' st k => by
    obtain ⟨q1, q2, ⟨x, y, q3⟩, q4, q5⟩ := st
    refine ⟨k z (by simp) _ q1, k TI (by simp) _ q2, ⟨x, y, k TO (by simp) _ q3⟩, ?_, ?_⟩
    · exact q4.at fun o q => k i1 (by simp) o q
    · exact q5.at fun o q => k i2 (by simp) o q
  obj := fun i h st c hc => by
    obtain ⟨q1, q2, ⟨x, y, q3⟩, ⟨o4, e4, _, d4⟩, ⟨o5, e5, _, d5⟩⟩ := st
    refine five (p := fun c => ∃ o, h.get? c = some o ∧ ∀ v, o.data ≠ .cell v) hc ⟨_, q1, fun v q => nomatch q⟩ ⟨_, q2, fun v q => nomatch q⟩ ⟨_, q3, fun v q => nomatch q⟩ ⟨o4, e4, fun v q => ?_⟩ ⟨o5, e5, fun v q => ?_⟩
    · rw [d4] at q; cases q
    · rw [d5] at q; cases q
  item := by
    intro X hP hw hK hc i pins s σ H E I hf st hg
    subst hP hw hK
    obtain ⟨hz, hTI, ⟨x0, y0, hTO⟩, h1, h2⟩ := st
    obtain ⟨xs, ys, x, y, hqx, hqy, hx, hy⟩ := hg
    obtain ⟨its, rv, p, _⟩ := I.tuple hqx
    obtain ⟨jts, rw', p', _⟩ := I.list hqy
    obtain ⟨u, hu, ru⟩ := rv.get hx
    obtain ⟨v, hv, ru'⟩ := rw'.get hy
    have hu' : its.toArray[i]? = some u := by simpa using hu
    have hv' : jts.toArray[i]? = some v := by simpa using hv
    have lz : z < s.heap.objs.size := Heap.lt_size hz
    refine pyNextM D hz hTI (.inl ⟨h1, p⟩) (.inr ⟨h2, p'.isList⟩) hTO (fun hn => ?_) (fun hn => ?_) fun x' y' h' e1 e2 z' TO' s1 s2 hT hsz hk => ?_
    · rcases hn with hn | hn
      · rw [hu'] at hn; cases hn
      · rw [hv'] at hn; cases hn
    · rcases hn with hn | hn
      · rw [hu'] at hn; cases hn
      · rw [hv'] at hn; cases hn
    rw [hu'] at e1
    cases e1
    rw [hv'] at e2
    cases e2
    refine ⟨_, rfl, wpAny_letOwnedTupleGo_zip (s := { s with heap := h' }) z' fun h'' z'' sb => ?_⟩
    have hT2 : h''.get? s.heap.objs.size = some { cls := .type "tuple", data := .seq #[u, v] } := (sb.2 _ (Nat.ne_of_gt lz)).trans hT
    have new : ObjOk X.prog X.w (upd H s.heap.objs.size (.tup [x, y])) h'' s.heap.objs.size (.tup [x, y]) := ⟨by show 2 ≤ sizeLine; decide, [u, v], .cons ru (.cons ru' .nil), _, hT2, rfl, _, rfl⟩
    have I1 : Inv X pins σ (upd H s.heap.objs.size (.tup [x, y])) { s with heap := h'' } := I.turnedNew (t' := s.toks) (ch := [z, TI, TO, i1, i2]) (fun c o hb q => by
      have m : ∀ d ∈ [z, TI, TO, i1, i2], c ≠ d := fun d hd e => hb (e ▸ hd)
      exact (sb.2 c (m z (by simp))).trans (hk c o (m z (by simp)) (m TO (by simp)) (m i1 (by simp)) (m i2 (by simp)) q)) hf (Nat.le_refl _) new
    have it1 : h'.IsTupleIter i1 a (i + 1) := by
      rcases s1 with q | q
      · exact q.1
      · obtain ⟨_, o, g1, g2, _⟩ := q
        obtain ⟨o', k1, k2, _⟩ := id p
        have := hk a _ D.l1z D.l1TO D.l1i1 D.l1i2 k1
        rw [g1] at this
        cases this
        rw [g2] at k2
        injection k2 with k3
        exact absurd k3 (by decide)
    have it2 : h'.IsListIter i2 b (i + 1) := by
      rcases s2 with q | q
      · obtain ⟨_, o, g1, g2, _⟩ := q
        obtain ⟨o', k1, k2, _⟩ := id p'.isList
        have := hk b _ D.l2z D.l2TO D.l2i1 D.l2i2 k1
        rw [g1] at this
        cases this
        rw [g2] at k2
        injection k2 with k3
        exact absurd k3 (by decide)
      · exact q.1
    refine ⟨.ref s.heap.objs.size, _, I1, rfl, ⟨_, x, y, rfl, I.hok.fresh (Nat.le_refl _), rfl, fun l hl => by rw [I.tuple_inj hl hqx]; exact hx, fun l hl => by rw [I.list_inj hl hqy]; exact hy⟩, ⟨z'', (sb.2 _ D.TIz).trans (hk _ _ D.TIz D.TITO D.TIi1 D.TIi2 hTI), ⟨u, v, (sb.2 _ D.TOz).trans TO'⟩, it1.at fun o q => (sb.2 _ D.i1z).trans q, it2.at fun o q => (sb.2 _ D.i2z).trans q⟩, fun c hcm => ?_⟩
    have hlt : c < s.heap.objs.size := by
      obtain ⟨_, w4, _⟩ := h1
      obtain ⟨_, w5, _⟩ := h2
      exact five (p := fun c => c < s.heap.objs.size) hcm lz (Heap.lt_size hTI) (Heap.lt_size hTO) (Heap.lt_size w4) (Heap.lt_size w5)
    rw [upd_ne (Nat.ne_of_lt hlt)]
    exact (hf c hcm).1
  done := by
    intro X hP hw hK hc i pins s σ H E I hf st hg
    subst hP hw hK
    obtain ⟨hz, hTI, ⟨x0, y0, hTO⟩, h1, h2⟩ := st
    obtain ⟨xs, ys, hqx, hqy, hend⟩ := hg
    obtain ⟨its, rv, p, _⟩ := I.tuple hqx
    obtain ⟨jts, rw', p', _⟩ := I.list hqy
    have l1 := rv.length
    have l2 := rw'.length
    have he : its.toArray[i]? = none ∨ jts.toArray[i]? = none := hend.imp (fun q => by simp; omega) fun q => by simp; omega
    refine pyNextM D hz hTI (.inl ⟨h1, p⟩) (.inr ⟨h2, p'.isList⟩) hTO (fun _ => I.ok.hd hc) (fun _ h' hk => ⟨rfl, I.turnedL (t' := s.toks) (ch := [z, TI, TO, i1, i2]) (fun c o hb q => ?_) hf⟩) fun x' y' h' e1 e2 => ?_
    · have m : ∀ d ∈ [z, TI, TO, i1, i2], c ≠ d := fun d hd e => hb (e ▸ hd)
      exact hk c o (m z (by simp)) (m TO (by simp)) (m i1 (by simp)) (m i2 (by simp)) q
    · rcases he with q | q
      · rw [e1] at q; cases q
      · rw [e2] at q; cases q
def iZipM (K : PySem.W.Frag) (ta : TA) : TI := fun σ H R => ta σ H fun vs H1 => ∃ a b xs ys, vs = [.ref a, .ref b] ∧ SqT K H1 a xs ∧ SqL K H1 b ys ∧ R (ItzM K a b) H1
theorem pi_zipM {X : Cx} {K : PySem.W.Frag} (hK : X.K = K) {e e2 : Expr} {ta : TA} {p pos tpos : Pos} {elts : List Expr} {kk : Nat} (hg : Gl X "zip") (hm : X.mg "zip" = none) (ha : PA X [e, e2] ta)
    (hs : starEach [e, e2] X.env = (false, eval e X.env) :: starEach [e2] X.env := by rfl) (hpl : (backTo pos (starEach [e2] X.env)).any (·.1) = false := by rfl) : PI X (.Tuple elts kk tpos) (.Call (.Name "zip" p) [e, e2] [] pos) (iZipM K ta) := by
  subst hK
  refine ⟨fun pins s σ H R I h => ?_⟩
  refine Call_ (ld_blt I hg hm PyProof.Rows.boot_zip (PyProof.Rows.callWith_type1 (thn (ha.run pos pins s σ H _ I h) fun us s1 ⟨vs, H1, I1, r1, q1⟩ => ?_) hs hpl))
  obtain ⟨a, b, xs, ys, rfl, hqx, hqy, q⟩ := q1
  obtain ⟨ua, ub, rfl, ra, rb⟩ : ∃ ua ub, us = [ua, ub] ∧ RelV (.ref a) ua ∧ RelV (.ref b) ub := by
    cases r1 with
    | cons r rr => cases rr with
      | cons r' rr => cases rr; exact ⟨_, _, rfl, r, r'⟩
  cases ra
  cases rb
  obtain ⟨its, rv, p1, _⟩ := I1.tuple hqx
  obtain ⟨jts, rv', p2, _⟩ := I1.list hqy
  obtain ⟨o1, ho1, _⟩ := id p1
  refine call_zm (show s1.heap.IsTuple a its.toArray from p1) p2.isList fun h' hz hTI hTO h1 h2 hsz hk => wpAny_pyIter_zip hz ?_
  have I2 : Inv X pins σ H1 { s1 with heap := h' } := I1.kept (t' := s1.toks) hk
  have fr0 : FpOk X pins H1 s1.heap.objs.size := I1.fpOk (Nat.le_refl _) (I1.hok.fresh (Nat.le_refl _))
  have fr : ∀ n, FpOk X pins H1 (s1.heap.objs.size + n) := fun n => I1.fpOk (Nat.le_add_right _ _) (I1.hok.fresh (Nat.le_add_right _ _))
  have hfr : ∀ c ∈ [s1.heap.objs.size + 4, s1.heap.objs.size + 2, s1.heap.objs.size + 3, s1.heap.objs.size, s1.heap.objs.size + 1], FpOk X pins H1 c := fun c hc => five (p := FpOk X pins H1) hc (fr 4) (fr 2) (fr 3) fr0 (fr 1)
  have it1 : h'.IsTupleIter s1.heap.objs.size a 0 := by
    rcases h1 with q | q
    · exact q.1
    · obtain ⟨_, o, g1, g2, _⟩ := q
      obtain ⟨o', k1, k2, _⟩ := id p1
      have := hk a _ k1
      rw [g1] at this
      cases this
      rw [g2] at k2
      injection k2 with k3
      exact absurd k3 (by decide)
  have it2 : h'.IsListIter (s1.heap.objs.size + 1) b 0 := by
    rcases h2 with q | q
    · obtain ⟨_, o, g1, g2, _⟩ := q
      obtain ⟨o', k1, k2, _⟩ := id p2.isList
      have := hk b _ k1
      rw [g1] at this
      cases this
      rw [g2] at k2
      injection k2 with k3
      exact absurd k3 (by decide)
    · exact q.1
  exact ⟨s1.heap.objs.size + 4, [s1.heap.objs.size + 4, s1.heap.objs.size + 2, s1.heap.objs.size + 3, s1.heap.objs.size, s1.heap.objs.size + 1], _, _, H1, rfl, I2, turn_zipM (PySem.W.ktu_apart s1.heap.objs.size a b (Heap.lt_size ho1) p2.lt), ⟨hz, hTI, ⟨_, _, hTO⟩, it1, it2⟩, fun c hc => hfr c hc, q⟩
/-- a loop over zip of a tuple and a list that stay -/
theorem for_zipM {K : PySem.W.Frag} {a b : Addr} {xs ys : List V} {g : TG} {tb : TS} {D : Ends} {σ : L2.St} {H : Hp} (Pv : Nat → L2.St → Hp → Prop) (h0 : Pv 0 σ H) (hl : xs.length = ys.length) (hq : ∀ i σ H, Pv i σ H → SqT K H a xs ∧ SqL K H b ys)
    (hs : ∀ (i : Nat) (x y : V) (t : Addr) (σ : L2.St) (H : Hp), xs[i]? = some x → ys[i]? = some y → Pv i σ H → H t = none → g (.ref t) σ (upd H t (.tup [x, y])) fun σ' H' => tb { D with nx := Pv (i + 1), ct := Pv (i + 1), bk := D.nx } σ' H') (hd : ∀ σ H, Pv xs.length σ H → D.nx σ H) :
    ∃ W : Nat → Nat → L2.St → Hp → Prop, (∃ m, W 0 m σ H) ∧ ∀ i m σ H, W i m σ H → ((ItzM K a b).stop i H ∧ D.nx σ H) ∨
      ((ItzM K a b).go i H ∧ ∃ N : L2.St → Hp → Prop, (∀ σ' H', N σ' H' → ∃ m', m' < m ∧ W (i + 1) m' σ' H') ∧ ∀ v H', (ItzM K a b).yld i H v H' → g v σ H' fun σ' H'' => tb { D with nx := N, ct := N, bk := D.nx } σ' H'') := by
  refine ⟨fun i m σ H => i ≤ xs.length ∧ m = xs.length - i ∧ Pv i σ H, ⟨_, Nat.zero_le _, rfl, h0⟩, ?_⟩
  rintro i m σ H ⟨hi, rfl, p⟩
  obtain ⟨q1, q2⟩ := hq i σ H p
  by_cases hlt : i < xs.length
  · obtain ⟨x, hx⟩ : ∃ x, xs[i]? = some x := ⟨_, List.getElem?_eq_getElem hlt⟩
    obtain ⟨y, hy⟩ : ∃ y, ys[i]? = some y := ⟨_, List.getElem?_eq_getElem (hl ▸ hlt)⟩
    refine .inr ⟨⟨xs, ys, x, y, q1, q2, hx, hy⟩, Pv (i + 1), fun σ' H' p' => ⟨_, Nat.sub_lt_sub_left hlt (Nat.lt_succ_self i), hlt, rfl, p'⟩, ?_⟩
    rintro v H' ⟨t, x', y', rfl, ht, rfl, f1, f2⟩
    exact hs i x' y' t σ H (f1 xs q1) (f2 ys q2) p ht
  · have e : i = xs.length := by omega
    subst e
    exact .inl ⟨⟨xs, ys, q1, q2, .inl (Nat.le_refl _)⟩, hd σ H p⟩
end L2
/-! a tuple some times, once too; lists backwards; lists of ranges. -/
namespace L2
open PySem PySem.Spec PyProof.Rows
theorem tuple_once (l : Addr) (items : Array Value) (n : Nat) (dd : Option Addr) (sl : Array (Option Value)) (u : Tok) : Meets (Builtin.«tuple.__mul__» ⟨[.ref l, .int 1 u], []⟩) (fun _ R s =>
      s.heap.get? l = some { cls := .type "tuple", dict := dd, data := .seq items n, slots := sl } ∧ R (.ok (.ret (Value.ref l))) s) :=
  .of_wp fun prog w A R s h => by
    obtain ⟨hp, g, d, tk, os⟩ := s
    obtain ⟨hl, h⟩ := h
    have f1 := AutoSeq1.idx_int
    wp_walk using wpAny_loadPart' hl
    exact ⟨_, rfl, h⟩
open Evl in
/-- a tuple some times: once, it is itself -/
def rRepU (K : PySem.W.Frag) : R2 := fun x y H Q => ∃ l k xs, x = .ref l ∧ y = .int k ∧ SqT K H l xs ∧ xs ≠ [] ∧ 1 ≤ k ∧ k ≤ 4000 ∧ xs.length ≤ 100 ∧ ∀ p H2, Evl.Ex H H2 → SqT K H2 p (List.replicate k.toNat xs).flatten → Q (.ref p) H2
section
variable {X : Cx} {K : PySem.W.Frag}
theorem op_repU (hK : X.K = K) : OpR X (binaryOp .Mult) (rRepU K) := by
  subst hK
  intro pins s σ H x y v u Q I rx ry h
  obtain ⟨l, k, xs, rfl, rfl, hT, hne, h1, h2, hz, q⟩ := h
  cases rx
  obtain ⟨t, rfl⟩ := ry
  obtain ⟨its, r, ⟨⟨cls, dd, data, sl⟩, ho, hc, n, hd⟩, hs⟩ := I.tuple hT
  simp only at hc hd
  subst hc hd
  have hle : xs.length = its.length := r.length
  have hn : its.toArray.isEmpty = false := by
    cases its with
    | nil => exact absurd (List.eq_nil_of_length_eq_zero hle) hne
    | cons _ _ => rfl
  have big : k.toNat * its.length ≤ 4000 * 100 := Nat.mul_le_mul (by omega) (by omega)
  have flen : (List.replicate k.toNat its).flatten.length ≤ sizeLine := by rw [PyProof.Rows.lm_len_rep_flat, sizeLine_eq]; omega
  have prod : ((its.toArray.size : Nat) : Int) * k ≤ 400000 := by
    rw [List.size_toArray]
    have : ((k.toNat * its.length : Nat) : Int) ≤ 400000 := Int.ofNat_le.mpr big
    rw [Int.natCast_mul, Int.toNat_of_nonneg (by omega), Int.mul_comm] at this
    exact this
  by_cases e : k = 1
  · subst e
    refine wpAny_binaryOp_repeat_ref (T := "tuple") (U := "int") (by decide) ⟨_, ho, rfl⟩ (fun s' => typeIs_int s' 1 t) noFill_tuple_mul F.fills_int_mul F.slot_int_rmul repeat_tuple F.slot_int_index.lookup
      (call_meets F.slot_int_rmul (typeIs_int s _ t) F.entry_int_rmul (F.args_int_rmul_2 _ _) (int_rmul_tuple _ t l its.toArray n dd sl) ⟨ho, rfl, ⟨_, ho, rfl⟩, call_meets F.slot_tuple_mul ⟨_, ho, rfl⟩ F.entry_tuple_mul (F.args_tuple_mul_2 _ _) (tuple_once l its.toArray n dd sl t) ⟨ho, ?_⟩⟩)
    refine ⟨.ref l, H, I, rfl, q l H (fun _ _ q => q) ?_⟩
    rw [show (List.replicate (1 : Int).toNat xs).flatten = xs by simp]
    exact hT
  · have c0 : (decide (k < -(2 ^ 63)) || decide (k ≥ 2 ^ 63)) = false := by
      rw [Bool.or_eq_false_iff]
      exact ⟨decide_eq_false (by omega), decide_eq_false (by omega)⟩
    have c1 : (its.toArray.isEmpty || k == 1) = false := by rw [hn, Bool.false_or]; exact beq_eq_false_iff_ne.mpr e
    have c2 : (decide (k ≤ 0) || its.toArray.isEmpty) = false := by rw [hn, Bool.or_false]; exact decide_eq_false (by omega)
    have c4 : Builtin.Tuple.tupleTooMany (((its.toArray.size : Nat) : Int) * k) = false := by unfold Builtin.Tuple.tupleTooMany; rw [sizeLine_eq]; exact decide_eq_false (by omega)
    refine wpAny_binaryOp_repeat_ref (T := "tuple") (U := "int") (by decide) ⟨_, ho, rfl⟩ (fun s' => typeIs_int s' k t) noFill_tuple_mul F.fills_int_mul F.slot_int_rmul repeat_tuple F.slot_int_index.lookup
      (call_meets F.slot_int_rmul (typeIs_int s _ t) F.entry_int_rmul (F.args_int_rmul_2 _ _) (int_rmul_tuple _ t l its.toArray n dd sl) ⟨ho, rfl, ⟨_, ho, rfl⟩, call_meets F.slot_tuple_mul ⟨_, ho, rfl⟩ F.entry_tuple_mul (F.args_tuple_mul_2 _ _) (tuple_mulW l its.toArray n dd sl k t c0 c1 c2 (by omega) c4 (by rw [size_rep, List.size_toArray]; exact flen)) ⟨ho, ?_⟩⟩)
    rw [size_rep]
    have fn := I.hok.fresh (Nat.le_refl s.heap.objs.size)
    refine ⟨.ref s.heap.objs.size, _, I.laid (t' := s.toks) (o := .tup (List.replicate k.toNat xs).flatten) (fun b ob q => Heap.get?_push_of_some _ q) (Nat.le_refl _) ?_, rfl, q _ _ (Evl.Ex.new fn) (SqT.of upd_same)⟩
    exact ⟨by rw [PyProof.Rows.lm_len_rep_flat, sizeLine_eq, hle]; omega, _, r.rep k.toNat, IsTup.new _ _⟩
theorem pe_revLK (hK : X.K = K) {e : Expr} {te : TE} {k : Nat} {p1 p2 p3 pos : Pos} (he : PE X e te) : PE X (.Subscript e (.Slice none none (some (.UnaryOp .USub (.Constant (.int 1) k p1) p2)) p3) pos) (tRevL K te) := by
  subst hK
  exact pe_revL he
end
end L2
/-! lists made of pairs in a tuple, of two tuples at once. -/
namespace L2
open PySem PySem.Spec PyProof.Rows RZ Evl
section
variable {K : PySem.W.Frag} {σ : L2.St} {H : Hp} {te : TE}
theorem cv_turnH {H H' : Hp} {v : Nat → V} {Dl : Addr} {i : Nat} {σ2 : L2.St} (p : Cv H v Dl i H') (hi : i < 50000) {H9 : Hp} (e9 : Ex H' H9) (he : Ev te σ2 H9 (v i)) :
    tYes σ2 H9 fun b H3 => if b = true then te σ2 H3 fun y H4 => ∃ acc, H4 Dl = some (.lst acc) ∧ acc.length < sizeLine ∧ Cv H v Dl (i + 1) (upd H4 Dl (.lst (acc ++ [y]))) else Cv H v Dl (i + 1) H3 := by
  obtain ⟨p1, p2, p3⟩ := p
  show te σ2 H9 fun y H4 => ∃ acc, H4 Dl = some (.lst acc) ∧ acc.length < sizeLine ∧ Cv H v Dl (i + 1) (upd H4 Dl (.lst (acc ++ [y])))
  refine he H9 (Ex.refl _) _ fun H4 e4 => ⟨gvn i v, (e9.trans e4) Dl _ p3, ?_, p1, Ex.mut (p2.trans (e9.trans e4)) p1, by rw [gvn_succ]; exact upd_same⟩
  rw [gvn_len, sizeLine_eq]
  omega
theorem el_lcT2 {a : Addr} {xs : List V} {tl : TE} {j1 j2 : Nat} {vs : List Nat} (v : Nat → V) (h : Ev tl σ H (.ref a)) (hx : SqT K H a xs) (wz : xs.length ≤ 40000)
    (he : ∀ (i : Nat) (z : V) H1, Ex H H1 → xs[i]? = some z → ∃ (ta : Addr) (x y : V), z = .ref ta ∧ SqT K H1 ta [x, y] ∧ wipe (((wipe σ vs).set j1 (some x)).set j2 (some y)) vs = wipe σ vs ∧ Ev te (((wipe σ vs).set j1 (some x)).set j2 (some y)) H1 (v i)) :
    EvL (tLc (iTup K tl) (gTup K 2 (gCons (gName j1) (gCons (gName j2) gNil))) tYes te vs) σ H (gvn xs.length v) := fun H0 e Q q => h H0 e _ fun H1 e1 => ⟨a, rfl, ⟨xs, ex_t (e.trans e1) hx⟩, fun Dl hD =>
  lc_tup (xs := xs) (Cv H1 v Dl) ⟨hD, Ex.new hD, upd_same⟩ (fun i H' _ p => ex_t ((e.trans e1).trans p.2.1) hx) (fun i x H' hi p => by
    obtain ⟨ta, x1, y1, rfl, hs, hw, hev⟩ := he i x H' ((e.trans e1).trans p.2.1) hi
    exact ⟨ta, _, rfl, hs, rfl, _, _, rfl, _, _, rfl, rfl, hw, cv_turnH p (by have := (List.getElem?_eq_some_iff.mp hi).1; omega) (Ex.refl _) hev⟩)
    (fun H' p => q Dl H' (fresh_back e1 p.1) (e1.trans p.2.1) p.2.2)⟩
theorem el_lcZ {ta : TA} {xs ys : List V} {j1 j2 n : Nat} {vs : List Nat} (v : Nat → V) (hn : n = min xs.length ys.length) (wz : n ≤ 40000)
    (h : ∀ H1, Ex H H1 → ∀ Q : List V → Hp → Prop, (∀ a b H2, Ex H1 H2 → SqT K H2 a xs → SqT K H2 b ys → Q [.ref a, .ref b] H2) → ta σ H1 Q)
    (he : ∀ (i : Nat) (x y : V) H1, Ex H H1 → xs[i]? = some x → ys[i]? = some y → wipe (((wipe σ vs).set j1 (some x)).set j2 (some y)) vs = wipe σ vs ∧ Ev te (((wipe σ vs).set j1 (some x)).set j2 (some y)) H1 (v i)) :
    EvL (tLc (iZipA K ta) (gTup K 2 (gCons (gName j1) (gCons (gName j2) gNil))) tYes te vs) σ H (gvn n v) := fun H0 e Q q => h H0 e _ fun a b H1 e1 hx hy => ⟨a, b, xs, ys, rfl, .inr ⟨hx, hy, fun Dl hD => by
  refine lc_it (walk_zipT hn) (Cv H1 v Dl) ⟨hD, Ex.new hD, upd_same⟩ (fun i H' _ p => ⟨ex_t p.2.1 hx, ex_t p.2.1 hy⟩) ?_ (fun H' p => q Dl H' (fresh_back e1 p.1) (e1.trans p.2.1) p.2.2)
  rintro i z H3 H4 hi p ⟨t, y1, y2, rfl, hT, rfl, hy1, hy2⟩
  obtain ⟨hw, hev⟩ := he i y1 y2 _ (((e.trans e1).trans p.2.1).trans (Ex.new (o := .tup [y1, y2]) hT)) hy1 hy2
  exact ⟨t, _, rfl, SqT.of upd_same, rfl, _, _, rfl, _, _, rfl, rfl, hw, cv_turnH p (by omega) (Ex.new hT) hev⟩⟩⟩
end
end L2
/-! enumerate(s), s a text; texts put together. -/
namespace L2
open PySem PySem.Spec PyProof.Rows RZ Evl
def IteS (x : Str) : It where
  go i _ := i < x.cps.size
  yld i H v H' := ∃ t c, v = .ref t ∧ H t = none ∧ H' = upd H t (.tup [.int (i : Nat), .str ⟨#[c]⟩]) ∧ x.cps[i]? = some c
  stop i _ := x.cps.size = i
theorem turn_enumS {P : Program} {w : World} {K : PySem.W.Frag} {elts : List Expr} {kk : Nat} {tpos : Pos} (x : Str) (tk : Tok) (ty : String) (hty : ty = "str_ascii_iterator" ∨ ty = "str_iterator") (e it : Addr) (hei : e ≠ it) :
    Turn P w K (.Tuple elts kk tpos) (IteS x) [e, it] e (fun i h => (∃ old, IsEnum h e it ((i : Nat) : Int) old) ∧ h.IsStrIter it ty x tk i) where
  mem := by simp
  obj := fun i h st b hb => by
    obtain ⟨⟨old, q1⟩, ⟨o, q2, _, d2⟩⟩ := st
    have z : b = e ∨ b = it := by simpa using hb
    rcases z with rfl | rfl
    · exact ⟨_, q1, fun v q => nomatch q⟩
    · exact ⟨o, q2, fun v q => by rw [d2] at q; cases q⟩
  keep := fun i h h' st k => by
    obtain ⟨⟨old, q1⟩, ⟨o, q2, q3⟩⟩ := st
    exact ⟨⟨old, k e (by simp) _ q1⟩, ⟨o, k it (by simp) o q2, q3⟩⟩
  item := by
    intro X hP hw hK hc i pins s σ H E I hf st hg
    subst hP hw hK
    obtain ⟨⟨old, q1⟩, q2⟩ := st
    have le : e < s.heap.objs.size := Heap.lt_size q1
    have li : it < s.heap.objs.size := by obtain ⟨_, q, _⟩ := id q2; exact Heap.lt_size q
    have D : Draws X.prog X.w X.A.in1 it [it] x.cps.size (fun i v => ∃ c u, x.cps[i]? = some c ∧ v = Value.str { cps := #[c] } u) (fun i h => h.IsStrIter it ty x tk i) := by
      rcases hty with rfl | rfl
      · exact Draws.strAscii (A := X.A.in1) (I.ok.hd hc) it x tk
      · exact Draws.strWide (A := X.A.in1) (I.ok.hd hc) it x tk
    refine wpAny_pyNext_enum_itemD D q1 q2 hg hei (by simp [hei]) fun v h' tk0 hP ho st' hT hsz hk => ?_
    obtain ⟨c, u, hcx, rfl⟩ := hP
    refine ⟨_, rfl, wpAny_letOwnedTupleGo_enum (s := { s with heap := h', toks := tk0 + 1 }) ho fun h2 he' sb => ?_⟩
    have hT2 : h2.get? s.heap.objs.size = some { cls := .type "tuple", data := .seq #[.int i tk0, .str ⟨#[c]⟩ u] } := (sb.2 _ (Nat.ne_of_gt le)).trans hT
    have new : ObjOk X.prog X.w (upd H s.heap.objs.size (.tup [.int (i : Nat), .str ⟨#[c]⟩])) h2 s.heap.objs.size (.tup [.int (i : Nat), .str ⟨#[c]⟩]) := ⟨by show 2 ≤ sizeLine; decide, [.int i tk0, .str ⟨#[c]⟩ u], .cons ⟨_, rfl⟩ (.cons ⟨u, rfl⟩ .nil), _, hT2, rfl, _, rfl⟩
    have J : Inv X pins σ (upd H s.heap.objs.size (.tup [.int (i : Nat), .str ⟨#[c]⟩])) { s with heap := h2, toks := tk0 + 1 } := I.turnedNew (ch := [e, it]) (fun b o hb q => (sb.2 b (fun z => hb (by simp [z]))).trans (hk b o (fun z => hb (by simp [z])) (fun z => hb (by simp [z])) q)) hf (Nat.le_refl _) new
    refine ⟨.ref s.heap.objs.size, _, J, rfl, ⟨_, c, rfl, I.hok.fresh (Nat.le_refl _), rfl, hcx⟩, ⟨⟨.str ⟨#[c]⟩ u, ?_⟩, ?_⟩, fun b hb => ?_⟩
    · rw [show ((i + 1 : Nat) : Int) = (i : Int) + 1 by omega]
      exact he'
    · obtain ⟨o, z1, z2⟩ := st'
      exact ⟨o, (sb.2 it (Ne.symm hei)).trans z1, z2⟩
    · have lb : b < s.heap.objs.size := by
        have z : b = e ∨ b = it := by simpa using hb
        rcases z with rfl | rfl <;> assumption
      rw [upd_ne (Nat.ne_of_lt lb)]
      exact (hf b hb).1
  done := by
    intro X hP hw hK hc i pins s σ H E I hf st hg
    subst hP hw hK
    obtain ⟨⟨old, q1⟩, q2⟩ := st
    obtain ⟨u0, u1, u2, u3, u4, u5⟩ := hf it (by simp)
    have D : Draws X.prog X.w X.A.in1 it [it] x.cps.size (fun i v => ∃ c u, x.cps[i]? = some c ∧ v = Value.str { cps := #[c] } u) (fun i h => h.IsStrIter it ty x tk i) := by
      rcases hty with rfl | rfl
      · exact Draws.strAscii (A := X.A.in1) (I.ok.hd hc) it x tk
      · exact Draws.strWide (A := X.A.in1) (I.ok.hd hc) it x tk
    have hn : i = x.cps.size := Eq.symm hg
    rw [hn] at q1 q2
    exact wpAny_pyNext_enum_endD D q1 q2 fun h' eb => ⟨rfl, I.turned (t' := s.toks) (fun b o hb0 q => eb b o hb0 q) u0 u1 u3 u4 u5⟩
  self := fun A i s Q E st h => let ⟨⟨_, q⟩, _⟩ := st; wpAny_pyIter_enum q h
def iEnumS (ta : TA) : TI := fun σ H R => ta σ H fun vs H1 => ∃ x : Str, vs = [.str x] ∧ R (IteS x) H1
theorem pi_enumS {X : Cx} {e : Expr} {ta : TA} {p pos tpos : Pos} {elts : List Expr} {kk : Nat} (hg : Gl X "enumerate") (hm : X.mg "enumerate" = none) (ha : PA X [e] ta) (hs : starEach [e] X.env = [(false, eval e X.env)] := by rfl) : PI X (.Tuple elts kk tpos) (.Call (.Name "enumerate" p) [e] [] pos) (iEnumS ta) := by
  refine ⟨fun pins s σ H R I h => ?_⟩
  refine Call_ (ld_blt I hg hm boot_enumerate (PyProof.Rows.callWith_type1 (thn (ha.run pos pins s σ H _ I h) fun us z1 ⟨vs, H1, J1, r1, k1⟩ => ?_) hs rfl))
  obtain ⟨x, rfl, q⟩ := k1
  obtain ⟨t, rfl⟩ : ∃ t, us = [.str x t] := by
    cases r1 with
    | cons r rr => cases rr; obtain ⟨t, rfl⟩ := r; exact ⟨t, rfl⟩
  refine enum_begins1 (begins_text x t) trivial fun h' he0 wit hsz hk0 => wpAny_pyIter_enum he0 ?_
  have J2 : Inv X pins σ H1 { z1 with heap := h' } := J1.kept (t' := z1.toks) hk0
  have f0 : FpOk X pins H1 z1.heap.objs.size := J1.fpOk (Nat.le_refl _) (J1.hok.fresh (Nat.le_refl _))
  have f1 : FpOk X pins H1 (z1.heap.objs.size + 1) := J1.fpOk (Nat.le_succ _) (J1.hok.fresh (Nat.le_succ _))
  have hty : strIterType x = "str_ascii_iterator" ∨ strIterType x = "str_iterator" := by unfold strIterType; split <;> simp
  refine ⟨z1.heap.objs.size + 1, [z1.heap.objs.size + 1, z1.heap.objs.size], _, _, H1, rfl, J2, turn_enumS x t _ hty (z1.heap.objs.size + 1) z1.heap.objs.size (Nat.succ_ne_self _), ⟨⟨.none, he0⟩, ⟨_, wit, rfl, rfl⟩⟩, fun b hb => ?_, q⟩
  have z : b = z1.heap.objs.size + 1 ∨ b = z1.heap.objs.size := by simpa using hb
  rcases z with rfl | rfl <;> assumption
/-- a loop over enumerate of a text -/
theorem for_enumS {x : Str} {g : TG} {tb : TS} {D : Ends} {σ : L2.St} {H : Hp} (Pv : Nat → L2.St → Hp → Prop) (h0 : Pv 0 σ H)
    (hs : ∀ (i c : Nat) (t : Addr) (σ : L2.St) (H : Hp), x.cps[i]? = some c → Pv i σ H → H t = none → g (.ref t) σ (upd H t (.tup [.int (i : Nat), .str ⟨#[c]⟩])) fun σ' H' => tb { D with nx := Pv (i + 1), ct := Pv (i + 1), bk := D.nx } σ' H') (hd : ∀ σ H, Pv x.cps.size σ H → D.nx σ H) :
    ∃ W : Nat → Nat → L2.St → Hp → Prop, (∃ m, W 0 m σ H) ∧ ∀ i m σ H, W i m σ H → ((IteS x).stop i H ∧ D.nx σ H) ∨
      ((IteS x).go i H ∧ ∃ N : L2.St → Hp → Prop, (∀ σ' H', N σ' H' → ∃ m', m' < m ∧ W (i + 1) m' σ' H') ∧ ∀ v H', (IteS x).yld i H v H' → g v σ H' fun σ' H'' => tb { D with nx := N, ct := N, bk := D.nx } σ' H'') := by
  refine ⟨fun i m σ H => i ≤ x.cps.size ∧ m = x.cps.size - i ∧ Pv i σ H, ⟨_, Nat.zero_le _, rfl, h0⟩, ?_⟩
  rintro i m σ H ⟨hi, rfl, p⟩
  by_cases hlt : i < x.cps.size
  · refine .inr ⟨hlt, Pv (i + 1), fun σ' H' p' => ⟨_, Nat.sub_lt_sub_left hlt (Nat.lt_succ_self i), hlt, rfl, p'⟩, ?_⟩
    rintro v H' ⟨t, c, rfl, ht, rfl, hc⟩
    exact hs i c t σ H hc p ht
  · have e : i = x.cps.size := by omega
    subst e
    exact .inl ⟨rfl, hd σ H p⟩
theorem pe_globS {X : Cx} {x : Str} {y : Str} {pos : Pos} (hg : Gl X x) (h : ∃ t, X.mg x = some (.str y t)) (hd : (x == ("__debug__" : Str)) = false := by decide) : PE X (.Name x pos) (tC (.str y)) := by
  obtain ⟨t, e⟩ := h
  exact pe_glob hg e ⟨_, rfl⟩ hd
def rDictP (K : PySem.W.Frag) : List V → Hp → VK → Prop := fun xs H Q => ∃ (a : Addr) (ps : List Addr) (kvs : List (Key × V)), xs = [.ref a] ∧ SqL K H a (ps.map V.ref) ∧ Paired (fun p kv => SqT K H p [kV kv.1, kv.2]) ps kvs ∧ ∀ p, H p = none → Q (.ref p) (upd H p (.dK (mergeK [] kvs)))
theorem call_dictPK {X : Cx} {K : PySem.W.Frag} (hK : X.K = K) (hc : X.calm = true := by rfl) : CallR X (.type "dict") (rDictP K) := by
  subst hK
  exact call_dictP hc
end L2
namespace L2
open PySem PySem.Spec PyProof.Rows
/-! ### properties of own classes -/
structure HasP (P : Program) (w : World) (K : PySem.W.Frag) (mg : Str → Option Value) (base : Heap) (C : Addr) (x : Str) (k : Nat) (sp : Sp) : Prop where
  cl : Cls K C
  ex : ∃ (p f : Addr) (fd : FuncData), PropOf K C x p f ∧ Binds K fd ["self"] [] ∧ FnOk P w K mg base CX0 k f fd ["self"] sp
theorem pe_hasP {X : Cx} {C : Addr} {k : Nat} {sp : Sp} {e : Expr} {f : Str} {pos : Pos} {ta : TE} (h : HasP X.prog X.w X.K X.mg X.base C f k sp) (hr : Room (k + 1) X.A) (he : PE X e ta) (hab : attributeBase e f X.env (eval e X.env) = eval e X.env) : PE X (.Attribute e f pos) (tProp C sp [] E0 ta) := by
  obtain ⟨c, ⟨p, g, fd, h1, h2, h3⟩⟩ := h
  exact pe_prop he c h1 h3 hr h2 .nil pass0 hab
theorem pe_fldK {X : Cx} {K : PySem.W.Frag} (hK : X.K = K) {e : Expr} {f : Str} {pos : Pos} {ta : TE} (he : PE X e ta) (hb : attributeBase e f X.env (eval e X.env) = eval e X.env) : PE X (.Attribute e f pos) (tFld K ta f) := by
  subst hK
  exact pe_fld he hb
/-! ### methods that may raise -/
structure MetX (P : Program) (w : World) (K : PySem.W.Frag) (mg : Str → Option Value) (base : Heap) (k : Nat) (C : Addr) (m : Str) (ps : List Str) (sp : Sp) : Prop where
  cl : Cls K C
  ex : ∃ (f : Addr) (fd : FuncData), Meth K C m f ∧ Binds K fd ps [] ∧ FnOk P w K mg base (L2.CX P w) k f fd ps sp
def tMethX (C : Addr) (m : Str) (sp : Sp) (E : L2.St → XK) (ta : TE) (t : TA) : TE := fun σ H Q => ta σ H fun x H1 => ∃ a dx fs, x = .ref a ∧ H1 a = some (.ins C dx fs) ∧ fs.lookup m = none ∧
  t σ H1 fun vs H2 => sp (x :: vs) H2 Q (E σ)
theorem pe_metX {X : Cx} {W : WX} {k : Nat} {C : Addr} {m : Str} {ps : List Str} {sp : Sp} {o e : Expr} {es : List Expr} {ta : TE} {t : TA} {pos apos : Pos} {pl : Sem Bool} (M : MetX X.prog X.w X.K X.mg X.base k C m ps sp) (hr : Room k X.A) (tk : Takes X W) (he : PE X o ta) (ha : PA X (e :: es) t)
    (hst : starEach (e :: es) X.env = (false, eval e X.env) :: starEach es X.env := by rfl) (hpl : (backTo pos (starEach es X.env)).any (·.1) = false := by rfl)
    (ht : eval (.Call (.Attribute o m apos) (e :: es) [] pos) X.env = (do
      let ov ← eval o X.env
      standAt apos.atName
      let (f, first) ← holding [ov] (getMethod ov m pl)
      callWith pos f first (backTo pos (starEach (e :: es) X.env)) (backToKw pos (keywordEach [] X.env))) := by rfl) :
    PE X (.Call (.Attribute o m apos) (e :: es) [] pos) (tMethX C m sp (WE W) ta t) := by
  obtain ⟨c, f, fd, hm, hb, F⟩ := M
  refine ⟨fun pins s σ H Q I h => ?_⟩
  refine PySem.W.methodCall_KW (pl := pl) (thn (he.run pins s σ H _ I h) fun u s1 ⟨x, H1, I1, rx, a, dx, fs, ex, ea, l, q⟩ => ?_) ht
  subst ex
  obtain rfl : u = Value.ref a := rx
  refine getmeth_ok I1 ea c hm l ?_
  refine PySem.W.callWith_K (first := [.ref a]) (h₀ := X.base) I.ok.mod.kin hm.kp (thn (ha.run pos pins s1 σ H1 _ I1 q) fun us s2 ⟨vs, H2, I2, r, q2⟩ => ⟨I2.kIn, ?_⟩) hst hpl
  exact run_fnS (us := .ref a :: us) (vs := .ref a :: vs) F hr hb (passAt tk σ) I2 (.cons rfl r) q2
structure MakX (P : Program) (w : World) (K : PySem.W.Frag) (mg : Str → Option Value) (base : Heap) (k : Nat) (x : Str) (C : Addr) (ps : List Str) (sp : Sp) : Prop where
  ex : ∃ (f : Addr) (fd : FuncData), Mk K C f ∧ mg x = some (.ref C) ∧ Binds K fd ps [] ∧ FnOk P w K mg base (L2.CX P w) k f fd ps sp
def tMakeX (C : Addr) (sp : Sp) (E : L2.St → XK) (t : TA) : TE := fun σ H Q => t σ H fun vs H1 => ∀ x dx, H1 x = none → H1 dx = none → dx ≠ x →
  sp (.ref x :: vs) (upd (upd H1 dx (.own x)) x (.ins C dx [])) (fun v H2 => v = .non ∧ Q (.ref x) H2) (E σ)
theorem pe_makX {X : Cx} {W : WX} {k : Nat} {C : Addr} {x : Str} {ps : List Str} {sp : Sp} {e : Expr} {es : List Expr} {t : TA} {p pos : Pos} (M : MakX X.prog X.w X.K X.mg X.base k x C ps sp) (hr : Room (k + 1) X.A) (tk : Takes X W) (hg : Gl X x) (ha : PA X (e :: es) t)
    (hdb : (x == ("__debug__" : Str)) = false := by decide) (he : starEach (e :: es) X.env = (false, eval e X.env) :: starEach es X.env := by rfl) (hpl : (backTo pos (starEach es X.env)).any (·.1) = false := by rfl) :
    PE X (.Call (.Name x p) (e :: es) [] pos) (tMakeX C sp (WE W) t) := by
  obtain ⟨f, fd, M, hm, hb, F⟩ := M.ex
  refine ⟨fun pins s σ H Q I h => ?_⟩
  refine wpAny_Call_Name_kw (ld_glob I hg hm ?_ hdb)
  refine PySem.W.callWith_K (h₀ := X.base) I.ok.mod.kin M.kp (thn (ha.run pos pins s σ H _ I h) fun us s1 ⟨vs, H1, I1, r, q⟩ => ⟨I1.kIn, ?_⟩) he hpl
  have hq := q (s1.heap.objs.size + 1) s1.heap.objs.size (I1.hok.fresh (Nat.le_succ _)) (I1.hok.fresh (Nat.le_refl _)) (Nat.ne_of_lt (Nat.lt_succ_self _))
  have I2 := Inv.made (C := C) I1
  have r2 : Vals (V.ref (s1.heap.objs.size + 1) :: vs) (Value.ref (s1.heap.objs.size + 1) :: us) := .cons rfl r
  have hl : ((Value.ref (s1.heap.objs.size + 1) :: us) ++ []).length = ps.length := by
    have e := r2.length
    rw [F.len _ _ _ _ hq] at e
    rw [List.append_nil]
    exact e.symm
  have b := hb _ (Value.ref (s1.heap.objs.size + 1) :: us) I2.kIn hl
  rw [List.append_nil] at b
  refine wpAny_call (make_map (f := f) I1.kIn M.makes M.init (beq_iff_eq.mp M.fn) (codeAny_mono (F.run _ X.stack _ _ ⟨Value.ref (s1.heap.objs.size + 1) :: us, []⟩ (Value.ref (s1.heap.objs.size + 1) :: us) _ _ (WE W σ) (hr.make C us [])
    (I2.env0.make C us []) b r2 hq) fun rr s' hq' => ?_))
  cases rr with
  | error e => exact passAt tk σ pins _ _ e s' I2 hq'
  | ok fl =>
    cases fl with
    | ret u =>
      obtain ⟨v, H', I3, rv, ev, q3⟩ := I2.after hq'
      subst ev
      exact ⟨rv, ⟨V.ref (s1.heap.objs.size + 1), H', I3, rfl, q3⟩⟩
    | next => exact False.elim hq'
    | brk => exact False.elim hq'
    | cont => exact False.elim hq'
/-! ### the making of an own error that calls its base's making by the base's name -/
theorem pe_ceinit {X : Cx} {B : Str} {C0 : Addr} {mc : Value} {pl : Sem Bool} {p1 p2 pos : Pos} {e : Expr} {es : List Expr} {ta : TA} (hg : Gl X B) (hm : X.mg B = some (.ref C0)) (hga : PySem.W.specialIn X.K (.ref C0) "__getattribute__" = some (some (.builtin "type.__getattribute__"))) (ty : PySem.W.typeIn X.K (.ref C0) = some mc) (hr : PySem.W.readsIn X.K C0 mc = true)
    (fc : PySem.W.findCls X.K (.ref C0) mc "__init__" = some (.val (.builtin "ValueError.__init__"))) (ha : PA X (e :: es) ta) (hdb : (B == ("__debug__" : Str)) = false := by decide)
    (hc : eval (.Call (.Attribute (.Name B p1) "__init__" p2) (e :: es) [] pos) X.env = (do
      let ov ← eval (.Name B p1) X.env
      standAt p2.atName
      let (f, first) ← holding [ov] (getMethod ov "__init__" pl)
      callWith pos f first (backTo pos (starEach (e :: es) X.env)) (backToKw pos (keywordEach [] X.env))) := by rfl)
    (he : starEach (e :: es) X.env = (false, eval e X.env) :: starEach es X.env := by rfl) (hpl : (backTo pos (starEach es X.env)).any (·.1) = false := by rfl) :
    PE X (.Call (.Attribute (.Name B p1) "__init__" p2) (e :: es) [] pos) (tVeI X.K ta) := by
  refine ⟨fun pins s σ H Q I h => ?_⟩
  refine PySem.W.methodCall_KW (ld_glob I hg hm ?_ hdb) hc
  obtain ⟨m, fr⟩ := I.fr
  refine PySem.W.method_of_cls fr I.ok.mod.kin hga (PySem.W.cls_val fr I.ok.mod.kin ty hr fc (by decide +kernel) ?_)
  show wpAny _ _ (callWith pos (Value.builtin "ValueError.__init__") [] (backTo pos (starEach (e :: es) X.env)) []) _ _ _
  refine PyProof.Rows.callWith_method1 (thn (ha.run pos pins _ σ H _ (I.tok _) h) fun us s1 ⟨vs, H1, I1, r1, a, C, ws, ev, hl, T, ea, q⟩ => ?_) he hpl
  subst ev
  cases r1 with
  | @cons _ u0 _ ur ra rw' =>
    obtain rfl : u0 = Value.ref a := ra
    have hlen : ur.length ≤ sizeLine := by
      rw [← Paired.length rw', sizeLine_eq]
      omega
    exact oinit_ok T I1 ea hlen fun s' J => ⟨.non, H1, J, rfl, q⟩
structure BaseE (K : PySem.W.Frag) (mg : Str → Option Value) (x : Str) : Prop where
  ex : ∃ (C0 : Addr) (mc : Value), mg x = some (.ref C0) ∧ PySem.W.specialIn K (.ref C0) "__getattribute__" = some (some (.builtin "type.__getattribute__")) ∧ PySem.W.typeIn K (.ref C0) = some mc ∧ PySem.W.readsIn K C0 mc = true ∧ PySem.W.findCls K (.ref C0) mc "__init__" = some (.val (.builtin "ValueError.__init__"))
theorem pe_baseE {X : Cx} {B : Str} {pl : Sem Bool} {p1 p2 pos : Pos} {e : Expr} {es : List Expr} {ta : TA} (E : BaseE X.K X.mg B) (hg : Gl X B) (ha : PA X (e :: es) ta) (hdb : (B == ("__debug__" : Str)) = false := by decide)
    (hc : eval (.Call (.Attribute (.Name B p1) "__init__" p2) (e :: es) [] pos) X.env = (do
      let ov ← eval (.Name B p1) X.env
      standAt p2.atName
      let (f, first) ← holding [ov] (getMethod ov "__init__" pl)
      callWith pos f first (backTo pos (starEach (e :: es) X.env)) (backToKw pos (keywordEach [] X.env))) := by rfl)
    (he : starEach (e :: es) X.env = (false, eval e X.env) :: starEach es X.env := by rfl) (hpl : (backTo pos (starEach es X.env)).any (·.1) = false := by rfl) :
    PE X (.Call (.Attribute (.Name B p1) "__init__" p2) (e :: es) [] pos) (tVeI X.K ta) := by
  obtain ⟨C0, mc, h1, h2, h3, h4, h5⟩ := E.ex
  exact pe_ceinit hg h1 h2 h3 h4 h5 ha hdb hc he hpl
structure MakE (P : Program) (w : World) (K : PySem.W.Frag) (mg : Str → Option Value) (base : Heap) (k : Nat) (x : Str) (C : Addr) (sp : Sp) : Prop where
  oe : OexC K C
  ex : ∃ (fI : Addr) (fd : FuncData) (ps : List Str), PySem.W.findIn K (.ref C) "__init__" = some (some (.ref fI)) ∧ PySem.W.typeIn K (.ref fI) = some (.type "function") ∧ mg x = some (.ref C) ∧ Binds K fd ps [] ∧ FnOk P w K mg base CX0 k fI fd ps sp
theorem pmk_oexE {X : Cx} {k : Nat} {x : Str} {C : Addr} {sp : Sp} {e : Expr} {es : List Expr} {ta : TA} {p pos : Pos} (M : MakE X.prog X.w X.K X.mg X.base k x C sp) (hr : Room (k + 1) X.A) (hg : Gl X x) (ha : PA X (e :: es) ta)
    (hdb : (x == ("__debug__" : Str)) = false := by decide) (he : starEach (e :: es) X.env = (false, eval e X.env) :: starEach es X.env := by rfl) (hpl : (backTo pos (starEach es X.env)).any (·.1) = false := by rfl) :
    PMk X (.Call (.Name x p) (e :: es) [] pos) (tMkO C sp [] ta) := by
  obtain ⟨fI, fd, ps, h1, h2, h3, h4, h5⟩ := M.ex
  exact pmk_oex M.oe h1 h2 h5 hr h4 .nil pass0 hg h3 ha hdb he hpl
end L2
/-! isinstance of a caught error of an own class that may have a dict of its own -/
namespace PySem.W
open PySem PySem.Spec PySem.Calls PyProof.Rows
section
variable {prog : Program} {w : World} {A : Around} {E : Value → Shared → Prop} {s : Shared} {K : Frag} {x D : Addr} {ox : Obj} {od : Option Obj}
/-- e.__class__ of an error of the class D, whatever dict of its own it has -/
theorem own_class2 {Q : Option Value → Shared → Prop} (C : L2.ExcC K D) (X : K.In s.heap) (I : InstAt s.heap x ox D od) (h : Q (some (.ref D)) { s with toks := s.toks + 1 }) : wpAny (model prog w) A (getAttr? (.ref x) "__class__") Q E s := by
  have found : findObj K D od "__class__" = some (.bind (.builtin "getset_descriptor.__get__") (.builtin "object.__class__")) := by
    have some_ : (clsIn K D).isSome = true := (any_some C.hd).elim fun _ hc => by rw [hc.1]; rfl
    cases od <;> first | exact findObj_dataN some_ C.ha C.hn C.ht | exact findObj_data some_ C.ha C.hn C.ht
  rcases s with ⟨H0, gens, drawn, tok, osS⟩
  have ty := I.type (M := model prog w)
  have differs : (Value.builtin "BaseException.__getattribute__" == Value.builtin "object.__getattribute__") = false := by decide +kernel
  unfold getAttr? getAttrBy? getAttrBy
  refine wpAny_bind (wpAny_mkText (wpAny_bind (wpAny_attempt (wpAny_holding (wpAny_bind (ty.at (wpAny_bind ((looks_findIn (M := model prog w) X C.hg).at ?_))))))))
  dsimp only
  rw [if_neg (show ¬ (onTheHeap (Value.ref D) && Value.builtin "BaseException.__getattribute__" == Value.builtin "object.__getattribute__") = true by rw [differs, Bool.and_false]; exact Bool.false_ne_true)]
  unfold getAttrByItsOwn hookBefore
  refine wpAny_bind ?_
  rw [if_pos (show onTheHeap (Value.ref D) = true from rfl)]
  refine (looks_findIn (M := model prog w) X C.hk).at (wpAny_bind (wpAny_attempt (wpAny_holding ?_)))
  unfold callGetattribute
  rw [if_neg (show ¬ (false && onTheHeap (Value.builtin "BaseException.__getattribute__")) = true from Bool.false_ne_true)]
  unfold boundAndCalled
  rw [PySem.F.excAttr_ValueError.ga.bind (.ref x)]
  refine wpAny_bind (wpAny_pure ?_)
  exact (wpAny_call (codeAny_call_builtin PySem.F.excAttr_ValueError.ga.plain PySem.F.entry_bexc_ga (@check_slot (model prog w) _ _ ⟨H0, gens, drawn, tok + 1, osS⟩ "BaseException.__getattribute__" "BaseException" "__getattribute__" (.ref x) [.str "__class__" tok] [] _ (by decide +kernel) (by decide +kernel) (ty.andThen (looks_subIn X C.hs)) (PySem.F.args_bexc_ga (.ref x) (.str "__class__" tok)) (by
    unfold Builtin.«object.__getattribute__»
    refine wpAny_bind (wpAny_of_eq (a := ((Value.ref x : Value), [Value.str "__class__" tok])) (by first | rfl | (simp only [slotArgs]; rfl)) (wpAny_bind (wpAny_pure (wpAny_bind (ty.at (wpAny_bind ((looks_find (M := model prog w) X I found).at ?_)))))))
    refine wpAny_bind (wpAny_holding (wpAny_call (class_get (s := ⟨H0, gens, drawn, tok + 1, osS⟩) (ox := ox) (od := od) X I C.hm (wpAny_pure ?_))))
    show wpAny _ _ (handedOut (.ref D)) _ _ _
    rw [handedOut_of (v := .ref D) rfl]
    first
      | exact wpAny_pure (wpAny_pure h)
      | exact wpAny_pure h
      | exact wpAny_pure (wpAny_bind (wpAny_pure (wpAny_pure h))))))) 
theorem own_isType (C : L2.ExcC K D) (M : Model) (h : Heap) (X : K.In h) : Looks M h (isType (.ref D)) true := by
  obtain ⟨cd, hc, _⟩ := any_some C.hd
  unfold clsIn at hc
  split at hc
  · rename_i here
    intro _ _ _ _ keep q
    unfold isType loadHead
    exact wpAny_bind (wpAny_loadPart (keep _ _ (X _ _ here)) (wpAny_pure q))
  · cases hc
theorem own_kitx_exc2 (C : L2.ExcC K D) : KitX K (.ref x) (.ref D) (fun h => InstAt h x ox D od) :=
  have Z := handS_kitx_exc (K := K) (D := D) (x := x) (ox := { ox with dict := none, cls := .ref D }) C.hg C.hk C.hs C.hd C.ha C.hn C.ht C.hm
  { ty := fun _ _ _ I => I.type
    it := fun M h X _ => own_isType C M h X
    ne := Z.ne
    ca := fun X I k => own_class2 C X I k }
end
end PySem.W
namespace L2
open PySem PySem.Spec PyProof.Rows
/-- isinstance(e, c), e the exception that the suite holds, its dict known -/
def rIsE2 (K : PySem.W.Frag) (D a : Addr) (d : Option Addr) : List V → Hp → VK → Prop := fun xs H Q => ∃ (c : V) (cv : Value) (b : Bool), xs = [.ref a, c] ∧ (∀ u, RelV c u → u = cv) ∧ PySem.W.kitOne K (.ref D) cv = some b ∧ (d = none ∨ ∃ dd fs, d = some dd ∧ H dd = some (.xd fs)) ∧ Q (.bl b) H
theorem call_isE2 {X : Cx} {a D : Addr} {d : Option Addr} {oe : Obj} {pn : List (Addr × Obj)} (C : ExcC X.K D) (hz : Zc (.ref D) d oe) (hf : ∃ vs, oe.data = .fields vs) : CallR (X.suite a ((a, oe) :: pn)) (.builtin "isinstance") (rIsE2 X.K D a d) := by
  intro pins s σ H xs us Q I r h
  obtain ⟨c, cv, b, rfl, hcv, e, hd, q⟩ := h
  cases r with
  | cons rx rr =>
    cases rr with
    | cons rt rr =>
      cases rr
      cases rx
      have ec := hcv _ rt
      subst ec
      obtain ⟨hget, _⟩ := I.pin (a, oe) (List.mem_append.mpr (.inl List.mem_cons_self))
      obtain ⟨vs, hv⟩ := hf
      obtain ⟨od, J⟩ : ∃ od, PySem.W.InstAt s.heap a oe D od := by
        rcases hd with rfl | ⟨dd, fs, rfl, ea⟩
        · refine ⟨none, ?_⟩
          obtain ⟨oc, od, oda, osl⟩ := oe
          obtain ⟨h1, h2⟩ := hz
          dsimp only at h1 h2 hv
          subst h1 h2 hv
          exact ⟨hget, rfl, rfl, trivial⟩
        · have hx : ObjOk X.prog X.w H s.heap dd (.xd fs) := I.hok dd _ ea
          obtain ⟨mA, hns, hr⟩ := hx
          obtain ⟨od, ho, hl⟩ := lookIn_ns hns
          exact ⟨some od, hget, hz.1, by unfold PySem.W.notCls; rw [hv] <;> rfl, by rw [hz.2]; exact ho⟩
      exact PySem.W.kia_one (PySem.W.own_kitx_exc2 C) I.kIn J e (fun z => nomatch z) fun tk => ⟨.bl b, H, I.kept (t' := tk) fun _ _ z => z, rfl, q⟩
end L2
/-! The mathematics of machines: numbering by first coming, partition refinement, the table of pairs, the states by first coming. No Python. -/
namespace M1
/-! ### lists -/
theorem nodup_le {α : Type} [DecidableEq α] : ∀ {l m : List α}, l.Nodup → (∀ x ∈ l, x ∈ m) → l.length ≤ m.length
  | [], _, _, _ => Nat.zero_le _
  | a :: l, m, hn, hs => by
    have hn2 := List.nodup_cons.mp hn
    have ha : a ∈ m := hs a List.mem_cons_self
    have ih := nodup_le (l := l) (m := m.erase a) hn2.2 fun x hx => by
      have hne : x ≠ a := fun e => hn2.1 (e ▸ hx)
      exact (List.mem_erase_of_ne hne).mpr (hs x (List.mem_cons_of_mem _ hx))
    have hl := List.length_erase_of_mem ha
    have hp : 0 < m.length := List.length_pos_of_mem ha
    rw [List.length_cons]
    omega
theorem snoc_ind {α : Type} {P : List α → Prop} (h0 : P []) (h1 : ∀ l a, P l → P (l ++ [a])) (l : List α) : P l := by
  have h : ∀ n (l : List α), l.length = n → P l := by
    intro n
    induction n with
    | zero => intro l hl; have : l = [] := List.length_eq_zero_iff.mp hl; subst this; exact h0
    | succ n ih =>
      intro l hl
      have hne : l ≠ [] := fun e => by subst e; simp at hl
      have e := List.dropLast_concat_getLast hne
      rw [← e]
      refine h1 _ _ (ih _ ?_)
      rw [List.length_dropLast, hl]
      rfl
  exact h _ l rfl
theorem take_succ' {α : Type} {l : List α} {i : Nat} {x : α} (h : l[i]? = some x) : l.take (i + 1) = l.take i ++ [x] := by
  rw [List.take_add_one, h]; rfl

/-! ### numbering by first coming -/
section
variable {α : Type} [DecidableEq α] {β : Type} [DecidableEq β]
def nub (ks : List α) : List α := ks.foldl (fun a k => if k ∈ a then a else a ++ [k]) []
theorem nub_snoc (ks : List α) (k : α) : nub (ks ++ [k]) = if k ∈ nub ks then nub ks else nub ks ++ [k] := by
  unfold nub
  rw [List.foldl_append]
  rfl
theorem mem_nub (ks : List α) : ∀ x, x ∈ nub ks ↔ x ∈ ks := by
  refine snoc_ind (P := fun ks => ∀ x, x ∈ nub ks ↔ x ∈ ks) (fun x => Iff.rfl) (fun l a ih x => ?_) ks
  rw [nub_snoc]
  by_cases h : a ∈ nub l
  · rw [if_pos h, ih x, List.mem_append, List.mem_singleton]
    refine ⟨.inl, fun q => ?_⟩
    rcases q with q | q
    · exact q
    · subst q; exact (ih x).mp h
  · rw [if_neg h, List.mem_append, List.mem_append, ih x]
theorem nub_nodup (ks : List α) : (nub ks).Nodup := by
  refine snoc_ind (P := fun ks => (nub ks).Nodup) List.nodup_nil (fun l a ih => ?_) ks
  rw [nub_snoc]
  by_cases h : a ∈ nub l
  · rw [if_pos h]; exact ih
  · rw [if_neg h, List.nodup_append]
    refine ⟨ih, by simp, fun x hx y hy => ?_⟩
    rw [List.mem_singleton] at hy
    subst hy
    exact fun e => h (e ▸ hx)
/-- the numbers that first_come_numbers gives -/
def fc (ks : List α) : List Nat := ks.map fun k => (nub ks).idxOf k
theorem fc_length (ks : List α) : (fc ks).length = ks.length := by unfold fc; rw [List.length_map]
theorem idxOf_nub_snoc {ks : List α} {a x : α} (h : x ∈ ks) : (nub (ks ++ [a])).idxOf x = (nub ks).idxOf x := by
  rw [nub_snoc]
  split
  · rfl
  · rw [List.idxOf_append, if_pos ((mem_nub ks x).mpr h)]
theorem fc_snoc (ks : List α) (k : α) : fc (ks ++ [k]) = fc ks ++ [if k ∈ ks then (nub ks).idxOf k else (nub ks).length] := by
  unfold fc
  rw [List.map_append]
  have e1 : ks.map (fun x => (nub (ks ++ [k])).idxOf x) = ks.map fun x => (nub ks).idxOf x := List.map_congr_left fun x hx => idxOf_nub_snoc hx
  rw [e1]
  congr 1
  rw [List.map_singleton]
  congr 1
  by_cases h : k ∈ ks
  · rw [if_pos h, idxOf_nub_snoc h]
  · have h' : k ∉ nub ks := fun q => h ((mem_nub ks k).mp q)
    rw [if_neg h, nub_snoc, if_neg h', List.idxOf_append, if_neg h']
    simp
theorem fc_eq_iff {ks : List α} {i j : Nat} {a b : α} (hi : ks[i]? = some a) (hj : ks[j]? = some b) : (fc ks)[i]? = (fc ks)[j]? ↔ a = b := by
  unfold fc
  rw [List.getElem?_map, List.getElem?_map, hi, hj, Option.map_some, Option.map_some]
  refine ⟨fun e => ?_, fun e => by rw [e]⟩
  have e := Option.some.inj e
  have ma := (mem_nub ks a).mpr (List.mem_of_getElem? hi)
  have mb := (mem_nub ks b).mpr (List.mem_of_getElem? hj)
  have ha := List.idxOf_lt_length_of_mem ma
  have g1 := List.getElem_idxOf ha
  have hb := List.idxOf_lt_length_of_mem mb
  have g2 := List.getElem_idxOf hb
  rw [← g1, ← g2]
  congr 1
/-- the numbering goes by the kernel alone -/
theorem fc_kernel (ks : List α) : ∀ ls : List β, ls.length = ks.length → (∀ (i j : Nat) a b c d, ks[i]? = some a → ks[j]? = some b → ls[i]? = some c → ls[j]? = some d → (a = b ↔ c = d)) → fc ks = fc ls ∧ (nub ks).length = (nub ls).length := by
  refine snoc_ind (P := fun ks : List α => ∀ ls : List β, ls.length = ks.length → (∀ (i j : Nat) a b c d, ks[i]? = some a → ks[j]? = some b → ls[i]? = some c → ls[j]? = some d → (a = b ↔ c = d)) → fc ks = fc ls ∧ (nub ks).length = (nub ls).length) ?_ ?_ ks
  · intro ls hl _
    have : ls = [] := List.length_eq_zero_iff.mp hl
    subst this
    exact ⟨rfl, rfl⟩
  · intro ks k ih ls hl hk
    have hne : ls ≠ [] := fun e => by subst e; simp at hl
    obtain ⟨ms, m, rfl⟩ : ∃ ms m, ls = ms ++ [m] := ⟨_, _, (List.dropLast_concat_getLast hne).symm⟩
    have hl2 : ms.length = ks.length := by simpa using hl
    have lift : ∀ {γ : Type} (l : List γ) (x : γ) (i : Nat) (y : γ), l[i]? = some y → (l ++ [x])[i]? = some y := fun l x i y h => by
      rw [List.getElem?_append_left (List.getElem?_eq_some_iff.mp h).1]; exact h
    have lastg : ∀ {γ : Type} (l : List γ) (x : γ), (l ++ [x])[l.length]? = some x := fun l x => by simp
    obtain ⟨e1, e2⟩ := ih ms hl2 fun i j a b c d h1 h2 h3 h4 => hk i j a b c d (lift _ _ _ _ h1) (lift _ _ _ _ h2) (lift _ _ _ _ h3) (lift _ _ _ _ h4)
    have hmem : k ∈ ks ↔ m ∈ ms := by
      constructor
      · intro h
        obtain ⟨i, hi, e⟩ := List.getElem_of_mem h
        have g : ks[i]? = some k := by rw [List.getElem?_eq_getElem hi, e]
        have hi' : i < ms.length := by omega
        have q := (hk i ks.length k k ms[i] m (lift _ _ _ _ g) (lastg _ _) (lift _ _ _ _ (List.getElem?_eq_getElem hi')) (by rw [← hl2]; exact lastg _ _)).mp rfl
        rw [← q]
        exact List.getElem_mem hi'
      · intro h
        obtain ⟨i, hi, e⟩ := List.getElem_of_mem h
        have g : ms[i]? = some m := by rw [List.getElem?_eq_getElem hi, e]
        have hi' : i < ks.length := by omega
        have q := (hk i ks.length ks[i] k m m (lift _ _ _ _ (List.getElem?_eq_getElem hi')) (lastg _ _) (lift _ _ _ _ g) (by rw [← hl2]; exact lastg _ _)).mpr rfl
        rw [← q]
        exact List.getElem_mem hi'
    rw [fc_snoc, fc_snoc, nub_snoc, nub_snoc, e1]
    by_cases h : k ∈ ks
    · have h' := hmem.mp h
      rw [if_pos h, if_pos h', if_pos ((mem_nub ks k).mpr h), if_pos ((mem_nub ms m).mpr h')]
      refine ⟨?_, e2⟩
      congr 2
      obtain ⟨i, hi, e⟩ := List.getElem_of_mem h
      have hi' : i < ms.length := by omega
      have g : ks[i]? = some k := by rw [List.getElem?_eq_getElem hi, e]
      have q := (hk i ks.length k k ms[i] m (lift _ _ _ _ g) (lastg _ _) (lift _ _ _ _ (List.getElem?_eq_getElem hi')) (by rw [← hl2]; exact lastg _ _)).mp rfl
      have f1 : (fc ks)[i]? = some ((nub ks).idxOf k) := by unfold fc; rw [List.getElem?_map, g]; rfl
      have f2 : (fc ms)[i]? = some ((nub ms).idxOf m) := by unfold fc; rw [List.getElem?_map, List.getElem?_eq_getElem hi', q]; rfl
      rw [e1, f2] at f1
      exact (Option.some.inj f1).symm
    · have h' : m ∉ ms := fun q => h (hmem.mpr q)
      rw [if_neg h, if_neg h', if_neg (fun q => h ((mem_nub ks k).mp q)), if_neg (fun q => h' ((mem_nub ms m).mp q)), e2]
      refine ⟨rfl, ?_⟩
      rw [List.length_append, List.length_append, e2]
      rfl
end
end M1
namespace M1
/-! ### machines -/
/-- steps and answers: for each state a row, for each letter an item -/
structure Mach where
  st : List (List Nat)
  an : List (List Nat)
def Mach.n (M : Mach) : Nat := M.st.length
def Mach.k (M : Mach) : Nat := (M.st.getD 0 []).length
structure Mach.Ok (M : Mach) : Prop where
  n1 : 1 ≤ M.st.length
  n6 : M.st.length ≤ 6
  k1 : 1 ≤ M.k
  k3 : M.k ≤ 3
  la : M.an.length = M.st.length
  rs : ∀ r ∈ M.st, r.length = M.k ∧ ∀ x ∈ r, x < M.st.length
  ra : ∀ r ∈ M.an, r.length = M.k ∧ ∀ x ∈ r, x ≤ 9
def Mach.row (M : Mach) (i : Nat) : List Nat := M.st.getD i []
def Mach.ans (M : Mach) (i : Nat) : List Nat := M.an.getD i []
def Mach.go (M : Mach) (i a : Nat) : Nat := (M.row i).getD a 0
def Mach.out (M : Mach) (i a : Nat) : Nat := (M.ans i).getD a 0
section
variable {M : Mach}
theorem Mach.row_at {i : Nat} (h : i < M.st.length) : M.st[i]? = some (M.row i) := by
  unfold Mach.row
  rw [List.getD_eq_getElem?_getD, List.getElem?_eq_getElem h]
  rfl
theorem Mach.ans_at (ok : M.Ok) {i : Nat} (h : i < M.st.length) : M.an[i]? = some (M.ans i) := by
  have h' : i < M.an.length := by rw [ok.la]; exact h
  unfold Mach.ans
  rw [List.getD_eq_getElem?_getD, List.getElem?_eq_getElem h']
  rfl
theorem Mach.row_len (ok : M.Ok) {i : Nat} (h : i < M.st.length) : (M.row i).length = M.k := (ok.rs _ (List.mem_of_getElem? (M.row_at h))).1
theorem Mach.ans_len (ok : M.Ok) {i : Nat} (h : i < M.st.length) : (M.ans i).length = M.k := (ok.ra _ (List.mem_of_getElem? (M.ans_at ok h))).1
theorem Mach.go_at (ok : M.Ok) {i a : Nat} (h : i < M.st.length) (ha : a < M.k) : (M.row i)[a]? = some (M.go i a) := by
  have h' : a < (M.row i).length := by rw [M.row_len ok h]; exact ha
  unfold Mach.go
  rw [List.getD_eq_getElem?_getD, List.getElem?_eq_getElem h']
  rfl
theorem Mach.out_at (ok : M.Ok) {i a : Nat} (h : i < M.st.length) (ha : a < M.k) : (M.ans i)[a]? = some (M.out i a) := by
  have h' : a < (M.ans i).length := by rw [M.ans_len ok h]; exact ha
  unfold Mach.out
  rw [List.getD_eq_getElem?_getD, List.getElem?_eq_getElem h']
  rfl
theorem Mach.go_lt (ok : M.Ok) {i a : Nat} (h : i < M.st.length) (ha : a < M.k) : M.go i a < M.st.length :=
  (ok.rs _ (List.mem_of_getElem? (M.row_at h))).2 _ (List.mem_of_getElem? (M.go_at ok h ha))
theorem Mach.row_mem (ok : M.Ok) {i x : Nat} (h : i < M.st.length) (hx : x ∈ M.row i) : x < M.st.length := (ok.rs _ (List.mem_of_getElem? (M.row_at h))).2 x hx

/-- what a bisimulation asks -/
def Mach.Bis (M : Mach) (R : Nat → Nat → Prop) : Prop := ∀ x y, R x y → x < M.st.length ∧ y < M.st.length ∧ M.ans x = M.ans y ∧ ∀ a, a < M.k → R (M.go x a) (M.go y a)
/-- from both states every word is answered alike -/
def Mach.Eqv (M : Mach) (i j : Nat) : Prop := ∃ R : Nat → Nat → Prop, R i j ∧ M.Bis R
theorem Mach.Eqv.bis : M.Bis M.Eqv := fun x y ⟨R, h, b⟩ => ⟨(b x y h).1, (b x y h).2.1, (b x y h).2.2.1, fun a ha => ⟨R, (b x y h).2.2.2 a ha, b⟩⟩
theorem Mach.Eqv.refl (ok : M.Ok) {i : Nat} (h : i < M.st.length) : M.Eqv i i :=
  ⟨fun x y => x = y ∧ x < M.st.length, ⟨rfl, h⟩, fun x y ⟨e, hx⟩ => by subst e; exact ⟨hx, hx, rfl, fun a ha => ⟨rfl, M.go_lt ok hx ha⟩⟩⟩
theorem Mach.Eqv.symm {i j : Nat} (h : M.Eqv i j) : M.Eqv j i := by
  obtain ⟨R, h, b⟩ := h
  exact ⟨fun x y => R y x, h, fun x y q => ⟨(b y x q).2.1, (b y x q).1, (b y x q).2.2.1.symm, fun a ha => (b y x q).2.2.2 a ha⟩⟩
theorem Mach.Eqv.trans {i j k : Nat} (h : M.Eqv i j) (h' : M.Eqv j k) : M.Eqv i k :=
  ⟨fun x y => ∃ z, M.Eqv x z ∧ M.Eqv z y, ⟨j, h, h'⟩, fun x y ⟨z, p, q⟩ => by
    obtain ⟨a1, _, a3, a4⟩ := Mach.Eqv.bis x z p
    obtain ⟨_, b2, b3, b4⟩ := Mach.Eqv.bis z y q
    exact ⟨a1, b2, a3.trans b3, fun a ha => ⟨_, a4 a ha, b4 a ha⟩⟩⟩
end
open Classical in
/-- the same, told -/
noncomputable def Mach.eqv (M : Mach) (i j : Nat) : Bool := decide (M.Eqv i j)
theorem Mach.eqv_iff {M : Mach} {i j : Nat} : M.eqv i j = true ↔ M.Eqv i j := by
  unfold Mach.eqv
  simp

/-! ### partition refinement: alike_classes -/
/-- a state's key at a turn: its class and its row's classes -/
def Mach.key (M : Mach) (c : List Nat) (i : Nat) : Nat × List Nat := (c.getD i 0, (M.row i).map fun x => c.getD x 0)
def Mach.keys (M : Mach) (c : List Nat) : List (Nat × List Nat) := (List.range M.st.length).map (M.key c)
/-- the classes are coarser than being alike, and part what is answered unlike; they are numbered as they come -/
structure Mach.Cls (M : Mach) (c : List Nat) : Prop where
  len : c.length = M.st.length
  lt : ∀ x ∈ c, x < M.st.length
  coarse : ∀ i j, M.Eqv i j → c.getD i 0 = c.getD j 0
  part : ∀ i j, i < M.st.length → j < M.st.length → c.getD i 0 = c.getD j 0 → M.ans i = M.ans j
  num : fc c = c
theorem fc_fc {α : Type} [DecidableEq α] (ks : List α) : fc (fc ks) = fc ks := by
  refine (fc_kernel ks (fc ks) (fc_length ks) fun i j a b c d h1 h2 h3 h4 => ?_).1.symm
  rw [← fc_eq_iff h1 h2, h3, h4]
  exact ⟨fun e => Option.some.inj e, fun e => by rw [e]⟩
theorem fc_lt {α : Type} [DecidableEq α] (ks : List α) : ∀ x ∈ fc ks, x < ks.length := fun x hx => by
  unfold fc at hx
  obtain ⟨k, hk, e⟩ := List.mem_map.mp hx
  have h1 := List.idxOf_lt_length_of_mem ((mem_nub ks k).mpr hk)
  have h2 : (nub ks).length ≤ ks.length := nodup_le (nub_nodup ks) fun y hy => (mem_nub ks y).mp hy
  omega
theorem getD_of {α : Type} {l : List α} {i : Nat} {x d : α} (h : l[i]? = some x) : l.getD i d = x := by rw [List.getD_eq_getElem?_getD, h]; rfl
theorem getD_at {α : Type} {l : List α} {i : Nat} {d : α} (h : i < l.length) : l[i]? = some (l.getD i d) := by
  rw [List.getD_eq_getElem?_getD, List.getElem?_eq_getElem h]
  rfl
section
variable {M : Mach}
theorem fc_getD {α : Type} [DecidableEq α] {ks : List α} {i j : Nat} {a b : α} (hi : ks[i]? = some a) (hj : ks[j]? = some b) : (fc ks).getD i 0 = (fc ks).getD j 0 ↔ a = b := by
  have h1 : i < (fc ks).length := by rw [fc_length]; exact (List.getElem?_eq_some_iff.mp hi).1
  have h2 : j < (fc ks).length := by rw [fc_length]; exact (List.getElem?_eq_some_iff.mp hj).1
  rw [← fc_eq_iff hi hj, getD_at (d := 0) h1, getD_at (d := 0) h2]
  exact ⟨fun e => by rw [e], fun e => Option.some.inj e⟩
theorem Mach.Cls.first (ok : M.Ok) : M.Cls (fc M.an) where
  len := by rw [fc_length, ok.la]
  lt := fun x hx => by rw [← ok.la]; exact fc_lt _ x hx
  coarse := fun i j h => by
    obtain ⟨hi, hj, e, _⟩ := Mach.Eqv.bis i j h
    exact (fc_getD (M.ans_at ok hi) (M.ans_at ok hj)).mpr e
  part := fun i j hi hj e => (fc_getD (M.ans_at ok hi) (M.ans_at ok hj)).mp e
  num := fc_fc _
theorem Mach.keys_at {c : List Nat} {i : Nat} (h : i < M.st.length) : (M.keys c)[i]? = some (M.key c i) := by
  unfold Mach.keys
  rw [List.getElem?_map, List.getElem?_range h]
  rfl
theorem Mach.keys_len {c : List Nat} : (M.keys c).length = M.st.length := by unfold Mach.keys; rw [List.length_map, List.length_range]
theorem map_ext_at {α β : Type} {f : α → β} {l m : List α} (hl : l.length = m.length) (h : ∀ (i : Nat) a b, l[i]? = some a → m[i]? = some b → f a = f b) : l.map f = m.map f := by
  refine List.ext_getElem? fun i => ?_
  rw [List.getElem?_map, List.getElem?_map]
  by_cases hi : i < l.length
  · have hi' : i < m.length := by omega
    rw [List.getElem?_eq_getElem hi, List.getElem?_eq_getElem hi', Option.map_some, Option.map_some, h i _ _ (List.getElem?_eq_getElem hi) (List.getElem?_eq_getElem hi')]
  · rw [List.getElem?_eq_none (by omega), List.getElem?_eq_none (by omega)]
theorem Mach.Cls.next (ok : M.Ok) {c : List Nat} (C : M.Cls c) : M.Cls (fc (M.keys c)) where
  len := by rw [fc_length, M.keys_len]
  lt := fun x hx => by have := fc_lt _ x hx; rwa [M.keys_len] at this
  coarse := fun i j h => by
    obtain ⟨hi, hj, e, g⟩ := Mach.Eqv.bis i j h
    refine (fc_getD (M.keys_at hi) (M.keys_at hj)).mpr ?_
    unfold Mach.key
    rw [C.coarse i j h]
    congr 1
    refine List.ext_getElem? fun a => ?_
    rw [List.getElem?_map, List.getElem?_map]
    by_cases ha : a < M.k
    · rw [M.go_at ok hi ha, M.go_at ok hj ha, Option.map_some, Option.map_some, C.coarse _ _ (g a ha)]
    · rw [List.getElem?_eq_none (by rw [M.row_len ok hi]; omega), List.getElem?_eq_none (by rw [M.row_len ok hj]; omega)]
  part := fun i j hi hj e => by
    have q := (fc_getD (M.keys_at hi) (M.keys_at hj)).mp e
    exact C.part i j hi hj (Prod.mk.inj q).1
  num := fc_fc _
/-- at the end -/
theorem Mach.Cls.done (ok : M.Ok) {c : List Nat} (C : M.Cls c) (e : fc (M.keys c) = c) {i j : Nat} (hi : i < M.st.length) (hj : j < M.st.length) : c.getD i 0 = c.getD j 0 ↔ M.Eqv i j := by
  refine ⟨fun h => ⟨fun x y => x < M.st.length ∧ y < M.st.length ∧ c.getD x 0 = c.getD y 0, ⟨hi, hj, h⟩, fun x y ⟨hx, hy, q⟩ => ⟨hx, hy, C.part x y hx hy q, fun a ha => ⟨M.go_lt ok hx ha, M.go_lt ok hy ha, ?_⟩⟩⟩, C.coarse i j⟩
  have q2 : (fc (M.keys c)).getD x 0 = (fc (M.keys c)).getD y 0 := by rw [e]; exact q
  have q3 := (Prod.mk.inj ((fc_getD (M.keys_at hx) (M.keys_at hy)).mp q2)).2
  have q4 := congrArg (fun l => l[a]?) q3
  simp only [List.getElem?_map] at q4
  rw [M.go_at ok hx ha, M.go_at ok hy ha, Option.map_some, Option.map_some] at q4
  exact Option.some.inj q4
/-- what falls: the pairs of one class -/
def pairsN (n : Nat) : List (Nat × Nat) := (List.range n).flatMap fun i => (List.range n).map fun j => (i, j)
theorem mem_pairsN {n : Nat} {p : Nat × Nat} : p ∈ pairsN n ↔ p.1 < n ∧ p.2 < n := by
  unfold pairsN
  rw [List.mem_flatMap]
  constructor
  · rintro ⟨i, hi, h⟩
    obtain ⟨j, hj, rfl⟩ := List.mem_map.mp h
    exact ⟨List.mem_range.mp hi, List.mem_range.mp hj⟩
  · rintro ⟨h1, h2⟩
    exact ⟨p.1, List.mem_range.mpr h1, List.mem_map.mpr ⟨p.2, List.mem_range.mpr h2, rfl⟩⟩
theorem pairsN_len (n : Nat) : (pairsN n).length = n * n := by
  unfold pairsN
  have h : ∀ l : List Nat, (l.flatMap fun i => (List.range n).map fun j => (i, j)).length = l.length * n := by
    intro l
    induction l with
    | nil => simp
    | cons a l ih => rw [List.flatMap_cons, List.length_append, ih, List.length_map, List.length_range, List.length_cons, Nat.add_mul, Nat.one_mul]; omega
  rw [h, List.length_range]
def meas (n : Nat) (c : List Nat) : Nat := ((pairsN n).filter fun p => decide (c.getD p.1 0 = c.getD p.2 0)).length
theorem filter_lt {α : Type} {p q : α → Bool} : ∀ {l : List α}, (∀ x ∈ l, p x = true → q x = true) → (∃ x ∈ l, q x = true ∧ p x = false) → (l.filter p).length < (l.filter q).length
  | [], _, ⟨x, hx, _⟩ => by simp at hx
  | a :: l, h, ⟨x, hx, h1, h2⟩ => by
    have hle : (l.filter p).length ≤ (l.filter q).length := by
      have : ∀ l : List α, (∀ x ∈ l, p x = true → q x = true) → (l.filter p).length ≤ (l.filter q).length := by
        intro l
        induction l with
        | nil => intro _; simp
        | cons b l ih =>
          intro hb
          have ih := ih fun x hx => hb x (List.mem_cons_of_mem _ hx)
          rw [List.filter_cons, List.filter_cons]
          by_cases e : p b = true
          · rw [if_pos e, if_pos (hb b List.mem_cons_self e), List.length_cons, List.length_cons]; omega
          · rw [if_neg e]
            split
            · rw [List.length_cons]; omega
            · exact ih
      exact this l fun x hx => h x (List.mem_cons_of_mem _ hx)
    rw [List.filter_cons, List.filter_cons]
    rcases List.mem_cons.mp hx with e | hx
    · subst e
      rw [if_pos h1, if_neg (by rw [h2]; decide), List.length_cons]
      omega
    · have ih := filter_lt (l := l) (fun x hx => h x (List.mem_cons_of_mem _ hx)) ⟨x, hx, h1, h2⟩
      by_cases e : p a = true
      · rw [if_pos e, if_pos (h a List.mem_cons_self e), List.length_cons, List.length_cons]; omega
      · rw [if_neg e]
        split
        · rw [List.length_cons]; omega
        · exact ih
theorem Mach.Cls.fall {c : List Nat} (C : M.Cls c) (e : fc (M.keys c) ≠ c) : meas M.st.length (fc (M.keys c)) < meas M.st.length c := by
  have fine : ∀ i j, i < M.st.length → j < M.st.length → (fc (M.keys c)).getD i 0 = (fc (M.keys c)).getD j 0 → c.getD i 0 = c.getD j 0 := fun i j hi hj q =>
    (Prod.mk.inj ((fc_getD (M.keys_at hi) (M.keys_at hj)).mp q)).1
  refine filter_lt (fun p hp q => ?_) ?_
  · obtain ⟨h1, h2⟩ := mem_pairsN.mp hp
    exact decide_eq_true (fine _ _ h1 h2 (of_decide_eq_true q))
  · refine Classical.byContradiction fun hno => e ?_
    have all : ∀ i j, i < M.st.length → j < M.st.length → c.getD i 0 = c.getD j 0 → (fc (M.keys c)).getD i 0 = (fc (M.keys c)).getD j 0 := fun i j hi hj q => by
      refine Classical.byContradiction fun hn => hno ⟨(i, j), mem_pairsN.mpr ⟨hi, hj⟩, decide_eq_true q, decide_eq_false hn⟩
    have h := (fc_kernel c (M.keys c) (by rw [M.keys_len, C.len]) fun i j a b x y h1 h2 h3 h4 => ?_).1
    · rw [← h]; exact C.num
    · have hi : i < M.st.length := by have := (List.getElem?_eq_some_iff.mp h1).1; rwa [C.len] at this
      have hj : j < M.st.length := by have := (List.getElem?_eq_some_iff.mp h2).1; rwa [C.len] at this
      have f := fc_getD h3 h4
      rw [← f]
      have ga := getD_of (d := 0) h1
      have gb := getD_of (d := 0) h2
      constructor
      · intro q
        exact all i j hi hj (by rw [ga, gb, q])
      · intro q
        have := fine i j hi hj q
        rw [ga, gb] at this
        exact this
end
end M1
namespace M1
/-! ### the table of pairs: _law_unlike -/
/-- what a turn asks of a pair, the table being ps -/
def Mach.unl (M : Mach) (ps : List (Nat × Nat)) (p : Nat × Nat) : Prop := M.ans p.1 ≠ M.ans p.2 ∨ ∃ a, a < M.k ∧ (M.go p.1 a, M.go p.2 a) ∈ ps
noncomputable instance {M : Mach} {ps : List (Nat × Nat)} {p : Nat × Nat} : Decidable (M.unl ps p) := Classical.propDecidable _
def addP (ps : List (Nat × Nat)) (p : Nat × Nat) : List (Nat × Nat) := if p ∈ ps then ps else ps ++ [p]
section
variable {M : Mach}
/-- the table's pairs are states that are not alike; each once -/
structure Mach.Tab (M : Mach) (ps : List (Nat × Nat)) : Prop where
  nd : ps.Nodup
  lt : ∀ p ∈ ps, p.1 < M.st.length ∧ p.2 < M.st.length
  sound : ∀ p ∈ ps, ¬ M.Eqv p.1 p.2
theorem Mach.Tab.nil : M.Tab [] := ⟨List.nodup_nil, fun _ h => by simp at h, fun _ h => by simp at h⟩
theorem Mach.Tab.add {ps : List (Nat × Nat)} {p : Nat × Nat} (T : M.Tab ps) (h1 : p.1 < M.st.length) (h2 : p.2 < M.st.length) (h : M.unl ps p) : M.Tab (addP ps p) := by
  unfold addP
  by_cases hm : p ∈ ps
  · rw [if_pos hm]; exact T
  · rw [if_neg hm]
    refine ⟨?_, fun q hq => ?_, fun q hq => ?_⟩
    · rw [List.nodup_append]
      refine ⟨T.nd, by simp, fun x hx y hy e => ?_⟩
      rw [List.mem_singleton] at hy
      subst hy e
      exact hm hx
    · rcases List.mem_append.mp hq with hq | hq
      · exact T.lt q hq
      · rw [List.mem_singleton] at hq; subst hq; exact ⟨h1, h2⟩
    · rcases List.mem_append.mp hq with hq | hq
      · exact T.sound q hq
      · rw [List.mem_singleton] at hq
        subst hq
        intro e
        obtain ⟨_, _, e1, e2⟩ := Mach.Eqv.bis _ _ e
        rcases h with h | ⟨a, ha, h⟩
        · exact h e1
        · exact T.sound _ h (e2 a ha)
theorem addP_len (ps : List (Nat × Nat)) (p : Nat × Nat) : ps.length ≤ (addP ps p).length := by
  unfold addP
  split
  · exact Nat.le_refl _
  · rw [List.length_append]; omega
theorem addP_sub {ps : List (Nat × Nat)} {p : Nat × Nat} : ∀ q ∈ ps, q ∈ addP ps p := fun q hq => by
  unfold addP
  split
  · exact hq
  · exact List.mem_append_left _ hq
theorem addP_mem {ps : List (Nat × Nat)} {p : Nat × Nat} : p ∈ addP ps p := by
  unfold addP
  split
  · assumption
  · exact List.mem_append_right _ (List.mem_singleton.mpr rfl)
theorem Mach.unl.mono {ps qs : List (Nat × Nat)} {p : Nat × Nat} (s : ∀ q ∈ ps, q ∈ qs) (h : M.unl ps p) : M.unl qs p := by
  rcases h with h | ⟨a, ha, h⟩
  · exact .inl h
  · exact .inr ⟨a, ha, s _ h⟩
/-- all that are not alike are in -/
def Mach.Full (M : Mach) (ps : List (Nat × Nat)) : Prop := ∀ i j, i < M.st.length → j < M.st.length → ¬ M.Eqv i j → (i, j) ∈ ps
theorem Mach.full_of (ok : M.Ok) {ps : List (Nat × Nat)} (h : ∀ p, p.1 < M.st.length → p.2 < M.st.length → M.unl ps p → p ∈ ps) : M.Full ps := fun i j hi hj hn => by
  refine Classical.byContradiction fun hm => hn ⟨fun x y => x < M.st.length ∧ y < M.st.length ∧ (x, y) ∉ ps, ⟨hi, hj, hm⟩, fun x y ⟨hx, hy, q⟩ => ⟨hx, hy, ?_, fun a ha => ⟨M.go_lt ok hx ha, M.go_lt ok hy ha, fun r => q (h _ hx hy (.inr ⟨a, ha, r⟩))⟩⟩⟩
  exact Classical.byContradiction fun r => q (h _ hx hy (.inl r))
/-- the table as the turns go: t of them done -/
def Mach.Turns (M : Mach) (t : Nat) (ps : List (Nat × Nat)) : Prop := M.Tab ps ∧ (M.Full ps ∨ t ≤ ps.length)
/-- within a turn: begun with ps, the pairs ahead of those of one's row i and other j done -/
def Mach.In (M : Mach) (ps : List (Nat × Nat)) (i j : Nat) (qs : List (Nat × Nat)) : Prop :=
  M.Tab qs ∧ (∃ more, qs = ps ++ more) ∧ ∀ p : Nat × Nat, p.1 < M.st.length → p.2 < M.st.length → (p.1 < i ∨ p.1 = i ∧ p.2 < j) → M.unl ps p → p ∈ qs
theorem Mach.In.first {t : Nat} {ps : List (Nat × Nat)} (h : M.Turns t ps) : M.In ps 0 0 ps := ⟨h.1, ⟨[], by simp⟩, fun p _ _ h => by omega⟩
theorem Mach.In.more {ps qs : List (Nat × Nat)} {i j : Nat} (h : M.In ps i j qs) : ∀ q ∈ ps, q ∈ qs := fun q hq => by
  obtain ⟨m, e⟩ := h.2.1
  rw [e]
  exact List.mem_append_left _ hq
theorem Mach.In.add {ps qs : List (Nat × Nat)} {i j : Nat} (h : M.In ps i j qs) (hi : i < M.st.length) (hj : j < M.st.length) (u : M.unl qs (i, j)) : M.In ps i (j + 1) (addP qs (i, j)) := by
  obtain ⟨T, ⟨more, e⟩, k⟩ := h
  refine ⟨T.add hi hj u, ?_, fun p h1 h2 h3 h4 => ?_⟩
  · unfold addP
    split
    · exact ⟨more, e⟩
    · exact ⟨more ++ [(i, j)], by rw [e, List.append_assoc]⟩
  · by_cases ep : p = (i, j)
    · rw [ep]; exact addP_mem
    · refine addP_sub _ (k p h1 h2 ?_ h4)
      rcases h3 with h3 | ⟨h3, h5⟩
      · exact .inl h3
      · refine .inr ⟨h3, ?_⟩
        have : p.2 ≠ j := fun e => ep (by rw [← h3, ← e])
        omega
theorem Mach.In.skip {ps qs : List (Nat × Nat)} {i j : Nat} (h : M.In ps i j qs) (u : ¬ M.unl qs (i, j)) : M.In ps i (j + 1) qs := by
  have hs := h.more
  obtain ⟨T, me, k⟩ := h
  refine ⟨T, me, fun p h1 h2 h3 h4 => k p h1 h2 ?_ h4⟩
  rcases h3 with h3 | ⟨h3, h5⟩
  · exact .inl h3
  · refine .inr ⟨h3, ?_⟩
    have : p.2 ≠ j := fun e => u (by
      have ep : p = (i, j) := by rw [← h3, ← e]
      rw [← ep]
      exact h4.mono hs)
    omega
theorem Mach.In.row {ps qs : List (Nat × Nat)} {i : Nat} (h : M.In ps i M.st.length qs) : M.In ps (i + 1) 0 qs := by
  obtain ⟨T, me, k⟩ := h
  refine ⟨T, me, fun p h1 h2 h3 h4 => k p h1 h2 ?_ h4⟩
  rcases h3 with h3 | ⟨h3, h5⟩
  · by_cases e : p.1 = i
    · exact .inr ⟨e, h2⟩
    · exact .inl (by omega)
  · omega
theorem Mach.In.turn (ok : M.Ok) {t : Nat} {ps qs : List (Nat × Nat)} (h0 : M.Turns t ps) (h : M.In ps M.st.length 0 qs) : M.Turns (t + 1) qs := by
  have hs := h.more
  obtain ⟨T, ⟨more, e⟩, k⟩ := h
  refine ⟨T, ?_⟩
  rcases h0.2 with f | f
  · exact .inl fun i j hi hj hn => hs _ (f i j hi hj hn)
  · by_cases hm : more = []
    · subst hm
      rw [List.append_nil] at e
      subst e
      exact .inl (M.full_of ok fun p h1 h2 h4 => k p h1 h2 (.inl h1) h4)
    · refine .inr ?_
      rw [e, List.length_append]
      have := List.length_pos_iff.mpr hm
      omega
theorem Mach.Turns.done {ps : List (Nat × Nat)} (h : M.Turns (M.st.length * M.st.length + 1) ps) : M.Full ps := by
  rcases h.2 with f | f
  · exact f
  · have h1 := nodup_le h.1.nd (m := pairsN M.st.length) fun p hp => mem_pairsN.mpr (h.1.lt p hp)
    rw [pairsN_len] at h1
    omega
/-- in the table at the end: not alike -/
theorem Mach.Turns.iff {ps : List (Nat × Nat)} (h : M.Turns (M.st.length * M.st.length + 1) ps) {i j : Nat} (hi : i < M.st.length) (hj : j < M.st.length) : (i, j) ∈ ps ↔ M.eqv i j = false := by
  have e : M.eqv i j = false ↔ ¬ M.Eqv i j := by rw [← Mach.eqv_iff]; simp
  rw [e]
  exact ⟨h.1.sound (i, j), h.done i j hi hj⟩

/-! ### the states by first coming -/
/-- a row's states taken in: those that are alike to none -/
noncomputable def Mach.grow1 (M : Mach) (o : List Nat) (x : Nat) : List Nat := if (o.any fun y => M.eqv y x) = true then o else o ++ [x]
noncomputable def Mach.grow (M : Mach) (o : List Nat) (r : List Nat) : List Nat := r.foldl M.grow1 o
noncomputable def Mach.ord (M : Mach) : Nat → List Nat
  | 0 => [0]
  | i + 1 => match (M.ord i)[i]? with
    | some s => M.grow (M.ord i) (M.row s)
    | none => M.ord i
/-- states, no two of them alike -/
structure Mach.Apart (M : Mach) (o : List Nat) : Prop where
  lt : ∀ x ∈ o, x < M.st.length
  ap : o.Pairwise fun x y => ¬ M.Eqv x y
theorem Mach.grow1_pre (o : List Nat) (x : Nat) : ∃ m, M.grow1 o x = o ++ m := by
  unfold Mach.grow1
  split
  · exact ⟨[], by simp⟩
  · exact ⟨[x], rfl⟩
theorem Mach.grow_pre (r : List Nat) : ∀ o : List Nat, ∃ m, M.grow o r = o ++ m := by
  induction r with
  | nil => exact fun o => ⟨[], by simp [Mach.grow]⟩
  | cons x r ih =>
    intro o
    obtain ⟨m, e⟩ := M.grow1_pre o x
    obtain ⟨m', e'⟩ := ih (M.grow1 o x)
    exact ⟨m ++ m', by show M.grow (M.grow1 o x) r = _; rw [e', e, List.append_assoc]⟩
theorem Mach.grow1_apart {o : List Nat} (A : M.Apart o) {x : Nat} (hx : x < M.st.length) : M.Apart (M.grow1 o x) := by
  unfold Mach.grow1
  by_cases h : (o.any fun y => M.eqv y x) = true
  · rw [if_pos h]; exact A
  · rw [if_neg h]
    refine ⟨fun y hy => ?_, ?_⟩
    · rcases List.mem_append.mp hy with hy | hy
      · exact A.lt y hy
      · rw [List.mem_singleton] at hy; subst hy; exact hx
    · rw [List.pairwise_append]
      refine ⟨A.ap, by simp, fun y hy z hz e => ?_⟩
      rw [List.mem_singleton] at hz
      subst hz
      exact h (List.any_eq_true.mpr ⟨y, hy, Mach.eqv_iff.mpr e⟩)
theorem Mach.grow_apart : ∀ {r o : List Nat}, M.Apart o → (∀ x ∈ r, x < M.st.length) → M.Apart (M.grow o r)
  | [], _, A, _ => A
  | x :: r, _, A, h => Mach.grow_apart (r := r) (M.grow1_apart A (h x List.mem_cons_self)) fun y hy => h y (List.mem_cons_of_mem _ hy)
theorem Mach.ord_apart (ok : M.Ok) : ∀ i, M.Apart (M.ord i)
  | 0 => ⟨fun x hx => by
      have : x = 0 := by simpa [Mach.ord] using hx
      subst this
      exact ok.n1, by simp [Mach.ord]⟩
  | i + 1 => by
    have A := Mach.ord_apart ok i
    unfold Mach.ord
    cases e : (M.ord i)[i]? with
    | none => exact A
    | some s => exact M.grow_apart A fun x hx => M.row_mem ok (A.lt s (List.mem_of_getElem? e)) hx
theorem Mach.Apart.le (ok : M.Ok) {o : List Nat} (A : M.Apart o) : o.length ≤ M.st.length := by
  have hn : o.Nodup := by
    refine A.ap.imp_of_mem fun {x y} hx _ h e => ?_
    subst e
    exact h (Mach.Eqv.refl ok (A.lt x hx))
  have h := nodup_le hn (m := List.range M.st.length) fun x hx => List.mem_range.mpr (A.lt x hx)
  rwa [List.length_range] at h
theorem Mach.ord_pre (i : Nat) : ∃ m, M.ord (i + 1) = M.ord i ++ m := by
  show ∃ m, (match (M.ord i)[i]? with | some s => M.grow (M.ord i) (M.row s) | none => M.ord i) = M.ord i ++ m
  cases (M.ord i)[i]? with
  | none => exact ⟨[], by simp⟩
  | some s => exact M.grow_pre _ _
theorem Mach.ord_pres (i : Nat) : ∀ d, ∃ m, M.ord (i + d) = M.ord i ++ m
  | 0 => ⟨[], by simp⟩
  | d + 1 => by
    obtain ⟨m, e⟩ := Mach.ord_pres i d
    obtain ⟨m', e'⟩ := Mach.ord_pre (M := M) (i + d)
    exact ⟨m ++ m', by rw [← Nat.add_assoc, e', e, List.append_assoc]⟩
theorem Mach.ord_step {i s : Nat} (h : (M.ord i)[i]? = some s) : M.ord (i + 1) = M.grow (M.ord i) (M.row s) := by
  show (match (M.ord i)[i]? with | some s => M.grow (M.ord i) (M.row s) | none => M.ord i) = _
  rw [h]
theorem Mach.ord_stop {i : Nat} (h : (M.ord i).length ≤ i) : ∀ d, M.ord (i + d) = M.ord i
  | 0 => rfl
  | d + 1 => by
    have ih := Mach.ord_stop h d
    have g : (M.ord (i + d))[i + d]? = none := by rw [ih]; exact List.getElem?_eq_none (by omega)
    rw [← Nat.add_assoc]
    show (match (M.ord (i + d))[i + d]? with | some s => M.grow (M.ord (i + d)) (M.row s) | none => M.ord (i + d)) = _
    rw [g]
    exact ih
/-- all of them, in the end -/
noncomputable def Mach.all (M : Mach) : List Nat := M.ord 6
theorem Mach.all_of (ok : M.Ok) {i : Nat} (h : (M.ord i).length ≤ i) : M.ord i = M.all := by
  unfold Mach.all
  have l6 := (Mach.ord_apart ok 6).le ok
  have n6 := ok.n6
  by_cases hi : i ≤ 6
  · have := Mach.ord_stop h (6 - i)
    rw [show i + (6 - i) = 6 by omega] at this
    exact this.symm
  · have := Mach.ord_stop (M := M) (i := 6) (by omega) (i - 6)
    rw [show 6 + (i - 6) = i by omega] at this
    exact this
/-- the number that a state has among o: its class's -/
noncomputable def Mach.num (M : Mach) (o : List Nat) (x : Nat) : Nat := o.findIdx fun y => M.eqv y x
/-- the least machine -/
noncomputable def Mach.least (M : Mach) : Mach := ⟨M.all.map fun s => (M.row s).map (M.num M.all), M.all.map M.ans⟩
theorem Mach.grow_has : ∀ {r o : List Nat} {x : Nat}, (∀ z ∈ r, z < M.st.length) → M.Ok → x ∈ r → ∃ y ∈ M.grow o r, M.eqv y x = true
  | z :: r, o, x, hz, ok, h => by
    rcases List.mem_cons.mp h with e | h
    · subst e
      obtain ⟨m, e2⟩ := M.grow_pre r (M.grow1 o x)
      have h1 : ∃ y ∈ M.grow1 o x, M.eqv y x = true := by
        unfold Mach.grow1
        by_cases h : (o.any fun y => M.eqv y x) = true
        · rw [if_pos h]
          obtain ⟨y, hy, q⟩ := List.any_eq_true.mp h
          exact ⟨y, hy, q⟩
        · rw [if_neg h]
          exact ⟨x, List.mem_append_right _ (List.mem_singleton.mpr rfl), Mach.eqv_iff.mpr (Mach.Eqv.refl ok (hz x List.mem_cons_self))⟩
      obtain ⟨y, hy, q⟩ := h1
      exact ⟨y, by show y ∈ M.grow (M.grow1 o x) r; rw [e2]; exact List.mem_append_left _ hy, q⟩
    · exact Mach.grow_has (r := r) (o := M.grow1 o z) (fun w hw => hz w (List.mem_cons_of_mem _ hw)) ok h
/-- a number, once there, stays -/
theorem Mach.num_pre {o m : List Nat} {x : Nat} (h : ∃ y ∈ o, M.eqv y x = true) : M.num (o ++ m) x = M.num o x := by
  unfold Mach.num
  rw [List.findIdx_append, if_pos]
  exact List.findIdx_lt_length_of_exists h
theorem Mach.num_lt {o : List Nat} {x : Nat} (h : ∃ y ∈ o, M.eqv y x = true) : M.num o x < o.length := List.findIdx_lt_length_of_exists h
theorem Mach.num_at {o : List Nat} {x : Nat} (h : ∃ y ∈ o, M.eqv y x = true) : ∃ y, o[M.num o x]? = some y ∧ M.eqv y x = true := by
  have hl := M.num_lt h
  exact ⟨_, List.getElem?_eq_getElem hl, List.findIdx_getElem (w := hl)⟩
/-- the number by which an apart list names a state is the only one -/
theorem Mach.Apart.only {o : List Nat} (A : M.Apart o) {i j : Nat} {x y z : Nat} (hi : o[i]? = some x) (hj : o[j]? = some y) (hx : M.Eqv x z) (hy : M.Eqv y z) : i = j := by
  obtain ⟨h1, e1⟩ := List.getElem?_eq_some_iff.mp hi
  obtain ⟨h2, e2⟩ := List.getElem?_eq_some_iff.mp hj
  have q := List.pairwise_iff_getElem.mp A.ap
  rcases Nat.lt_trichotomy i j with h | h | h
  · exact absurd (hx.trans hy.symm) (by have := q i j h1 h2 h; rw [e1, e2] at this; exact this)
  · exact h
  · exact absurd (hy.trans hx.symm) (by have := q j i h2 h1 h; rw [e1, e2] at this; exact this)
end
end M1
namespace M1
section
variable {M : Mach}
/-- the state to which a word leads -/
def Mach.led (M : Mach) (i : Nat) (r : List Nat) : Nat := r.foldl M.go i
/-- the answer to the letter at j -/
def Mach.tld (M : Mach) (i : Nat) (r : List Nat) (j : Nat) : Nat := M.out (M.led i (r.take j)) (r.getD j 0)
theorem Mach.led_lt (ok : M.Ok) : ∀ {r : List Nat} {i : Nat}, i < M.st.length → (∀ x ∈ r, x < M.k) → M.led i r < M.st.length
  | [], _, h, _ => h
  | a :: r, i, h, hr => Mach.led_lt ok (r := r) (i := M.go i a) (M.go_lt ok h (hr a List.mem_cons_self)) fun x hx => hr x (List.mem_cons_of_mem _ hx)
theorem Mach.led_take {i : Nat} {r : List Nat} {j a : Nat} (h : r[j]? = some a) : M.led i (r.take (j + 1)) = M.go (M.led i (r.take j)) a := by
  unfold Mach.led
  rw [take_succ' h, List.foldl_append]
  rfl
theorem fc_map {α β : Type} [DecidableEq α] [DecidableEq β] (f : α → β) (hf : ∀ a b, f a = f b → a = b) (ks : List α) : fc (ks.map f) = fc ks := by
  refine (fc_kernel (ks.map f) ks (by rw [List.length_map]) fun i j a b c d h1 h2 h3 h4 => ?_).1
  rw [List.getElem?_map, h3] at h1
  rw [List.getElem?_map, h4] at h2
  have e1 := Option.some.inj h1
  have e2 := Option.some.inj h2
  rw [← e1, ← e2]
  exact ⟨fun e => hf _ _ e, fun e => by rw [e]⟩
theorem idxOf_take {α : Type} [DecidableEq α] {ks : List α} {i : Nat} {k : α} (h : ks[i]? = some k) :
    fc (ks.take (i + 1)) = fc (ks.take i) ++ [if k ∈ nub (ks.take i) then (nub (ks.take i)).idxOf k else (nub (ks.take i)).length] := by
  rw [take_succ' h, fc_snoc]
  congr 2
  by_cases hm : k ∈ ks.take i
  · rw [if_pos hm, if_pos ((mem_nub _ k).mpr hm)]
  · rw [if_neg hm, if_neg fun q => hm ((mem_nub _ k).mp q)]
theorem nub_take {α : Type} [DecidableEq α] {ks : List α} {i : Nat} {k : α} (h : ks[i]? = some k) :
    nub (ks.take (i + 1)) = if k ∈ nub (ks.take i) then nub (ks.take i) else nub (ks.take i) ++ [k] := by
  rw [take_succ' h, nub_snoc]
theorem nub_len {α : Type} [DecidableEq α] (ks : List α) : (nub ks).length ≤ ks.length := nodup_le (nub_nodup ks) fun y hy => (mem_nub ks y).mp hy
theorem Mach.keys_take {c : List Nat} {i : Nat} (h : i < M.st.length) : (List.range (i + 1)).map (M.key c) = (List.range i).map (M.key c) ++ [M.key c i] := by rw [List.range_succ, List.map_append]; rfl
/-! ### the least machine's rows as they are made -/
theorem Mach.ord_lt (ok : M.Ok) {i s : Nat} (h : (M.ord i)[i]? = some s) : s < M.st.length := (M.ord_apart ok i).lt s (List.mem_of_getElem? h)
theorem Mach.all_pre (ok : M.Ok) (i : Nat) : ∃ m, M.all = M.ord i ++ m := by
  by_cases h : i ≤ 6
  · obtain ⟨m, e⟩ := Mach.ord_pres (M := M) i (6 - i)
    refine ⟨m, ?_⟩
    unfold Mach.all
    rw [← e, show i + (6 - i) = 6 by omega]
  · have l6 := (M.ord_apart ok 6).le ok
    have n6 := ok.n6
    have := Mach.ord_stop (M := M) (i := 6) (by omega) (i - 6)
    rw [show 6 + (i - 6) = i by omega] at this
    exact ⟨[], by rw [this, List.append_nil]; rfl⟩
/-- a row's numbers are the same at the end -/
theorem Mach.row_num (ok : M.Ok) {i s : Nat} (h : (M.ord i)[i]? = some s) : (M.row s).map (M.num (M.ord (i + 1))) = (M.row s).map (M.num M.all) := by
  obtain ⟨m, e⟩ := M.all_pre ok (i + 1)
  refine List.map_congr_left fun x hx => ?_
  rw [e, M.num_pre]
  rw [M.ord_step h]
  exact M.grow_has (fun z hz => M.row_mem ok (M.ord_lt ok h) hz) ok hx
theorem Mach.all_at (ok : M.Ok) {i s : Nat} (h : (M.ord i)[i]? = some s) : M.all[i]? = some s := by
  obtain ⟨m, e⟩ := M.all_pre ok i
  rw [e, List.getElem?_append_left (List.getElem?_eq_some_iff.mp h).1]
  exact h
/-- within a row: taken in so far -/
noncomputable def Mach.mid (M : Mach) (i s j : Nat) : List Nat := M.grow (M.ord i) ((M.row s).take j)
theorem Mach.mid_zero {i s : Nat} : M.mid i s 0 = M.ord i := rfl
theorem Mach.mid_succ {i s j x : Nat} (h : (M.row s)[j]? = some x) : M.mid i s (j + 1) = M.grow1 (M.mid i s j) x := by
  unfold Mach.mid Mach.grow
  rw [take_succ' h, List.foldl_append]
  rfl
theorem Mach.mid_end {i s : Nat} (h : (M.ord i)[i]? = some s) : M.mid i s (M.row s).length = M.ord (i + 1) := by
  rw [M.ord_step h]
  unfold Mach.mid
  rw [List.take_length]
theorem Mach.mid_apart (ok : M.Ok) {i s j : Nat} (hs : s < M.st.length) : M.Apart (M.mid i s j) := M.grow_apart (M.ord_apart ok i) fun x hx => M.row_mem ok hs (List.mem_of_mem_take hx)
theorem Mach.grow_num : ∀ {r o : List Nat} {x : Nat}, (∃ y ∈ o, M.eqv y x = true) → M.num (M.grow o r) x = M.num o x := fun {r o x} h => by
  obtain ⟨m, e⟩ := M.grow_pre r o
  rw [e, M.num_pre h]
theorem Mach.mid_num {i s j x : Nat} (hx : ∃ y ∈ M.mid i s (j + 1), M.eqv y x = true) (hs : (M.ord i)[i]? = some s) (hj : j < (M.row s).length) : M.num (M.mid i s (j + 1)) x = M.num (M.ord (i + 1)) x := by
  rw [← M.mid_end hs]
  have e : M.mid i s (M.row s).length = M.grow (M.mid i s (j + 1)) ((M.row s).drop (j + 1)) := by
    unfold Mach.mid Mach.grow
    rw [← List.foldl_append, List.take_append_drop, List.take_length]
  rw [e, M.grow_num hx]
end
end M1
/-! The mathematics of late words: layers of pairs, walks, rounds. No Python. -/
namespace M1
section
variable {M : Mach}
def Mach.Letters (M : Mach) (w : List Nat) : Prop := ∀ x ∈ w, x < M.k
/-- a state to which a word leads from state 0 -/
def Mach.Rch (M : Mach) (i : Nat) : Prop := ∃ w, M.Letters w ∧ M.led 0 w = i
theorem Mach.Rch.zero : M.Rch 0 := ⟨[], fun _ h => by simp at h, rfl⟩
theorem Mach.led_append (i : Nat) (u w : List Nat) : M.led i (u ++ w) = M.led (M.led i u) w := by unfold Mach.led; rw [List.foldl_append]
theorem Mach.Rch.go {i a : Nat} (h : M.Rch i) (ha : a < M.k) : M.Rch (M.go i a) := by
  obtain ⟨w, hw, e⟩ := h
  refine ⟨w ++ [a], fun x hx => ?_, by rw [M.led_append, e]; rfl⟩
  rcases List.mem_append.mp hx with hx | hx
  · exact hw x hx
  · rw [List.mem_singleton] at hx; subst hx; exact ha
theorem Mach.Rch.lt (ok : M.Ok) {i : Nat} (h : M.Rch i) : i < M.st.length := by
  obtain ⟨w, hw, e⟩ := h
  rw [← e]
  exact M.led_lt ok ok.n1 hw
theorem Mach.Rch.led {i : Nat} (h : M.Rch i) {w : List Nat} (hw : M.Letters w) : M.Rch (M.led i w) := by
  obtain ⟨u, hu, e⟩ := h
  refine ⟨u ++ w, fun x hx => ?_, by rw [M.led_append, e]⟩
  rcases List.mem_append.mp hx with hx | hx
  · exact hu x hx
  · exact hw x hx
/-- the last letter of the word is answered unlike from i and from j -/
def Mach.Unl (M : Mach) (i j : Nat) (w : List Nat) : Prop := ∃ u a, w = u ++ [a] ∧ M.out (M.led i u) a ≠ M.out (M.led j u) a
theorem Mach.unl_cons {i j a : Nat} {w : List Nat} (hw : w ≠ []) : M.Unl i j (a :: w) ↔ M.Unl (M.go i a) (M.go j a) w := by
  constructor
  · rintro ⟨u, b, e, h⟩
    cases u with
    | nil => simp at e; exact absurd e.2 hw
    | cons c u =>
      simp at e
      obtain ⟨rfl, rfl⟩ := e
      exact ⟨u, b, rfl, h⟩
  · rintro ⟨u, b, rfl, h⟩
    exact ⟨a :: u, b, rfl, h⟩
theorem Mach.unl_one {i j a : Nat} : M.Unl i j [a] ↔ M.out i a ≠ M.out j a := by
  constructor
  · rintro ⟨u, b, e, h⟩
    cases u with
    | nil => simp at e; subst e; exact h
    | cons c u => simp at e
  · intro h; exact ⟨[], a, rfl, h⟩
/-- a pair whose first state comes -/
def Mach.Pr (M : Mach) (p : Nat × Nat) : Prop := M.Rch p.1 ∧ p.2 < M.st.length
theorem Mach.Pr.go (ok : M.Ok) {p : Nat × Nat} (h : M.Pr p) {a : Nat} (ha : a < M.k) : M.Pr (M.go p.1 a, M.go p.2 a) := ⟨h.1.go ha, M.go_lt ok h.2 ha⟩
/-- there is a late word of this length -/
def Mach.Late (M : Mach) (n : Nat) : Prop := ∃ p w, M.Pr p ∧ M.Letters w ∧ w.length = n ∧ M.Unl p.1 p.2 w
/-- p has a late word of this length -/
def Mach.LateAt (M : Mach) (p : Nat × Nat) (n : Nat) : Prop := ∃ w, M.Letters w ∧ w.length = n ∧ M.Unl p.1 p.2 w
theorem Mach.lateAt_zero {p : Nat × Nat} : ¬ M.LateAt p 0 := by
  rintro ⟨w, _, h, u, a, e, _⟩
  rw [e] at h
  simp at h
theorem Mach.lateAt_one {p : Nat × Nat} : M.LateAt p 1 ↔ ∃ a, a < M.k ∧ M.out p.1 a ≠ M.out p.2 a := by
  constructor
  · rintro ⟨w, hw, h, hu⟩
    obtain ⟨a, rfl⟩ : ∃ a, w = [a] := by
      cases w with
      | nil => simp at h
      | cons a w => cases w with
        | nil => exact ⟨a, rfl⟩
        | cons _ _ => simp at h
    exact ⟨a, hw a List.mem_cons_self, M.unl_one.mp hu⟩
  · rintro ⟨a, ha, h⟩
    exact ⟨[a], fun x hx => by rw [List.mem_singleton] at hx; subst hx; exact ha, rfl, M.unl_one.mpr h⟩
theorem Mach.lateAt_succ {p : Nat × Nat} {n : Nat} : M.LateAt p (n + 2) ↔ ∃ a, a < M.k ∧ M.LateAt (M.go p.1 a, M.go p.2 a) (n + 1) := by
  constructor
  · rintro ⟨w, hw, h, hu⟩
    cases w with
    | nil => simp at h
    | cons a w =>
      have hne : w ≠ [] := fun e => by subst e; simp at h
      exact ⟨a, hw a List.mem_cons_self, w, fun x hx => hw x (List.mem_cons_of_mem _ hx), by simpa using h, (M.unl_cons hne).mp hu⟩
  · rintro ⟨a, ha, w, hw, h, hu⟩
    have hne : w ≠ [] := fun e => by subst e; simp at h
    refine ⟨a :: w, fun x hx => ?_, by simp [h], (M.unl_cons hne).mpr hu⟩
    rcases List.mem_cons.mp hx with e | hx
    · subst e; exact ha
    · exact hw x hx
theorem Mach.late_iff {n : Nat} : M.Late n ↔ ∃ p, M.Pr p ∧ M.LateAt p n := by
  constructor
  · rintro ⟨p, w, hp, a, b, c⟩; exact ⟨p, hp, w, a, b, c⟩
  · rintro ⟨p, hp, w, a, b, c⟩; exact ⟨p, w, hp, a, b, c⟩
theorem Mach.late_down (ok : M.Ok) {n : Nat} (h : M.Late (n + 2)) : M.Late (n + 1) := by
  obtain ⟨p, hp, h⟩ := M.late_iff.mp h
  obtain ⟨a, ha, h⟩ := M.lateAt_succ.mp h
  exact M.late_iff.mpr ⟨_, hp.go ok ha, h⟩
theorem Mach.late_le (ok : M.Ok) {n : Nat} : ∀ d, M.Late (n + 1 + d) → M.Late (n + 1)
  | 0, h => h
  | d + 1, h => Mach.late_le ok d (M.late_down ok (n := n + d) (by rw [show n + d + 2 = n + 1 + (d + 1) by omega]; exact h) |> fun q => by rw [show n + 1 + d = n + d + 1 by omega]; exact q)
theorem Mach.late_mono (ok : M.Ok) {m n : Nat} (hm : 1 ≤ m) (h : m ≤ n) (hn : M.Late n) : M.Late m := by
  have := M.late_le ok (n := m - 1) (n - m) (by rw [show m - 1 + 1 + (n - m) = n by omega]; exact hn)
  rwa [show m - 1 + 1 = m by omega] at this
/-! ### walks -/
/-- the pairs along a word, each with the letter read there -/
def Mach.Walk (M : Mach) : List ((Nat × Nat) × Nat) → Prop
  | [] => True
  | [(p, a)] => a < M.k ∧ M.out p.1 a ≠ M.out p.2 a
  | (p, a) :: (q, b) :: r => a < M.k ∧ q = (M.go p.1 a, M.go p.2 a) ∧ Mach.Walk M ((q, b) :: r)
def wordOf (w : List ((Nat × Nat) × Nat)) : List Nat := w.map (·.2)
theorem Mach.Walk.word : ∀ {w : List ((Nat × Nat) × Nat)} {p : Nat × Nat} {a : Nat}, M.Walk ((p, a) :: w) → M.Letters (wordOf ((p, a) :: w)) ∧ M.Unl p.1 p.2 (wordOf ((p, a) :: w))
  | [], p, a, h => ⟨fun x hx => by simp [wordOf] at hx; subst hx; exact h.1, M.unl_one.mpr h.2⟩
  | (q, b) :: r, p, a, h => by
    obtain ⟨h1, h2, h3⟩ := h
    obtain ⟨i1, i2⟩ := Mach.Walk.word h3
    refine ⟨fun x hx => ?_, ?_⟩
    · rcases List.mem_cons.mp hx with e | hx
      · subst e; exact h1
      · exact i1 x hx
    · subst h2
      exact (M.unl_cons (by simp [wordOf])).mpr i2
theorem Mach.Walk.tail : ∀ {w : List ((Nat × Nat) × Nat)} {x : (Nat × Nat) × Nat}, M.Walk (x :: w) → M.Walk w
  | [], _, _ => trivial
  | (_, _) :: _, (_, _), h => h.2.2
theorem Mach.Walk.drop : ∀ {w : List ((Nat × Nat) × Nat)} (i : Nat), M.Walk w → M.Walk (w.drop i)
  | _, 0, h => h
  | [], _ + 1, h => h
  | _ :: _, i + 1, h => Mach.Walk.drop i h.tail
/-- a walk's next pair -/
theorem Mach.Walk.step : ∀ {w : List ((Nat × Nat) × Nat)} {i : Nat} {p q : Nat × Nat} {a b : Nat}, M.Walk w → w[i]? = some (p, a) → w[i + 1]? = some (q, b) → a < M.k ∧ q = (M.go p.1 a, M.go p.2 a)
  | (_, _) :: (_, _) :: _, 0, p, q, a, b, h, h1, h2 => by
    simp at h1 h2
    obtain ⟨⟨rfl, rfl⟩, rfl⟩ := h1
    obtain ⟨⟨rfl, rfl⟩, rfl⟩ := h2
    exact ⟨h.1, h.2.1⟩
  | x :: r, i + 1, p, q, a, b, h, h1, h2 => Mach.Walk.step (w := r) (i := i) h.tail (by simpa using h1) (by simpa using h2)
  | [(_, _)], 0, _, _, _, _, _, _, h2 => by simp at h2
theorem Mach.Walk.letter : ∀ {w : List ((Nat × Nat) × Nat)} {i : Nat} {p : Nat × Nat} {a : Nat}, M.Walk w → w[i]? = some (p, a) → a < M.k
  | (_, _) :: [], 0, _, _, h, h1 => by simp at h1; obtain ⟨_, rfl⟩ := h1; exact h.1
  | (_, _) :: (_, _) :: _, 0, _, _, h, h1 => by simp at h1; obtain ⟨_, rfl⟩ := h1; exact h.1
  | _ :: r, i + 1, _, _, h, h1 => Mach.Walk.letter (w := r) (i := i) h.tail (by simpa using h1)
/-- from the i-th to the j-th pair -/
theorem Mach.Walk.led {w : List ((Nat × Nat) × Nat)} (h : M.Walk w) {i : Nat} {p : Nat × Nat} {a : Nat} (hi : w[i]? = some (p, a)) : ∀ (d : Nat) {q : Nat × Nat} {b : Nat}, w[i + d]? = some (q, b) → q = (M.led p.1 (wordOf ((w.drop i).take d)), M.led p.2 (wordOf ((w.drop i).take d)))
  | 0, q, b, hj => by
    rw [Nat.add_zero, hi] at hj
    have := Option.some.inj hj
    have : q = p := (Prod.mk.inj this).1.symm
    subst this
    rfl
  | d + 1, q, b, hj => by
    have hlt : i + d < w.length := by
      have := (List.getElem?_eq_some_iff.mp hj).1
      omega
    obtain ⟨r, c, hr⟩ : ∃ r c, w[i + d]? = some (r, c) := ⟨(w[i + d]).1, (w[i + d]).2, List.getElem?_eq_getElem hlt⟩
    have ih := h.led hi d hr
    obtain ⟨_, hs⟩ := h.step hr (by rw [show i + d + 1 = i + (d + 1) by omega]; exact hj)
    have e : wordOf ((w.drop i).take (d + 1)) = wordOf ((w.drop i).take d) ++ [c] := by
      have g : (w.drop i)[d]? = some (r, c) := by rw [List.getElem?_drop]; exact hr
      unfold wordOf
      rw [take_succ' g, List.map_append]
      rfl
    rw [hs, e, M.led_append, M.led_append, ih]
    rfl
/-- round and round: words of any length -/
theorem Mach.pump (ok : M.Ok) {p : Nat × Nat} (hp : M.Pr p) {u w : List Nat} (hu : u ≠ []) (lu : M.Letters u) (h1 : M.led p.1 u = p.1) (h2 : M.led p.2 u = p.2) (lw : M.Letters w) (hw : M.Unl p.1 p.2 w) : ∀ n, 1 ≤ n → M.Late n := by
  have hpos : 1 ≤ w.length := by
    obtain ⟨_, _, e, _⟩ := hw
    rw [e]; simp
  have big : ∀ k, ∃ v, M.Letters v ∧ k + w.length ≤ v.length ∧ M.Unl p.1 p.2 v := by
    intro k
    induction k with
    | zero => exact ⟨w, lw, by omega, hw⟩
    | succ k ih =>
      obtain ⟨v, lv, hv, x, a, e, hx⟩ := ih
      refine ⟨u ++ v, fun y hy => ?_, ?_, u ++ x, a, by rw [e, List.append_assoc], ?_⟩
      · rcases List.mem_append.mp hy with hy | hy
        · exact lu y hy
        · exact lv y hy
      · have : 1 ≤ u.length := List.length_pos_iff.mpr hu
        rw [List.length_append]
        omega
      · rw [M.led_append, M.led_append, h1, h2]
        exact hx
  intro n hn
  obtain ⟨v, lv, hv, hu⟩ := big n
  exact M.late_mono ok hn (by omega : n ≤ v.length) ⟨p, v, hp, lv, rfl, hu⟩
/-- two places with the same pair -/
theorem Mach.Walk.round (ok : M.Ok) {w : List ((Nat × Nat) × Nat)} (h : M.Walk w) {i j : Nat} {p : Nat × Nat} {a b : Nat} (hp : M.Pr p) (hij : i < j) (hi : w[i]? = some (p, a)) (hj : w[j]? = some (p, b)) :
    M.Letters (wordOf ((w.drop i).take (j - i))) ∧ wordOf ((w.drop i).take (j - i)) ≠ [] ∧ M.led p.1 (wordOf ((w.drop i).take (j - i))) = p.1 ∧ M.led p.2 (wordOf ((w.drop i).take (j - i))) = p.2 ∧ M.Letters (wordOf (w.drop j)) ∧ M.Unl p.1 p.2 (wordOf (w.drop j)) := by
  have hjl := (List.getElem?_eq_some_iff.mp hj).1
  have e := h.led hi (j - i) (by rw [show i + (j - i) = j by omega]; exact hj)
  have hd : w.drop j = (p, b) :: w.drop (j + 1) := by
    have g := (List.getElem?_eq_some_iff.mp hj).2
    rw [List.drop_eq_getElem_cons hjl, g]
  have hw := h.drop j
  rw [hd] at hw
  have hl := hw.word
  rw [← hd] at hl
  refine ⟨fun x hx => ?_, ?_, (Prod.mk.inj e).1.symm, (Prod.mk.inj e).2.symm, hl.1, hl.2⟩
  · unfold wordOf at hx
    obtain ⟨y, hy, rfl⟩ := List.mem_map.mp hx
    obtain ⟨k, hk⟩ := List.mem_iff_getElem?.mp (List.mem_of_mem_take hy)
    rw [List.getElem?_drop] at hk
    exact h.letter (p := y.1) (a := y.2) hk
  · intro z
    have : (wordOf ((w.drop i).take (j - i))).length = j - i := by
      unfold wordOf
      rw [List.length_map, List.length_take, List.length_drop]
      omega
    rw [z] at this
    simp at this
    omega
theorem Mach.Walk.endless (ok : M.Ok) {w : List ((Nat × Nat) × Nat)} (h : M.Walk w) {i j : Nat} {p : Nat × Nat} {a b : Nat} (hp : M.Pr p) (hij : i < j) (hi : w[i]? = some (p, a)) (hj : w[j]? = some (p, b)) : ∀ n, 1 ≤ n → M.Late n := by
  obtain ⟨h1, h2, h3, h4, h5, h6⟩ := h.round ok hp hij hi hj
  exact M.pump ok hp h2 h1 h3 h4 h5 h6
theorem Mach.Walk.pr (ok : M.Ok) : ∀ {w : List ((Nat × Nat) × Nat)}, M.Walk w → (∀ x, w.head? = some x → M.Pr x.1) → ∀ x ∈ w, M.Pr x.1
  | [], _, _, x, hx => by simp at hx
  | [(p, a)], _, h0, x, hx => by
    rw [List.mem_singleton] at hx
    subst hx
    exact h0 _ rfl
  | (p, a) :: (q, b) :: r, h, h0, x, hx => by
    rcases List.mem_cons.mp hx with e | hx
    · subst e; exact h0 _ rfl
    · refine Mach.Walk.pr ok (w := (q, b) :: r) h.2.2 (fun y hy => ?_) x hx
      simp at hy
      subst hy
      show M.Pr q
      rw [h.2.1]
      exact (h0 _ rfl).go ok h.1
/-- more pairs than there are: one comes twice -/
theorem twice {α : Type} [DecidableEq α] : ∀ {l m : List α}, (∀ x ∈ l, x ∈ m) → m.length < l.length → ∃ (i j : Nat) (x : α), i < j ∧ l[i]? = some x ∧ l[j]? = some x := by
  intro l m hs hl
  refine Classical.byContradiction fun hn => ?_
  have nd : l.Nodup := by
    refine List.pairwise_iff_getElem.mpr fun i j hi hj hij e => hn ⟨i, j, l[j], hij, ?_, List.getElem?_eq_getElem hj⟩
    rw [List.getElem?_eq_getElem hi, e]
  have := nodup_le nd hs
  omega
/-- what late tells: the greatest length, or none -/
def Mach.LateIs (M : Mach) (o : Option Nat) : Prop := match o with
  | some n => (∀ m, 1 ≤ m → (M.Late m ↔ m ≤ n))
  | none => ∀ m, 1 ≤ m → M.Late m
theorem Mach.LateIs.only {o u : Option Nat} (h : M.LateIs o) (h' : M.LateIs u) : o = u := by
  cases o with
  | none => cases u with
    | none => rfl
    | some n => exact absurd ((h' (n + 1) (by omega)).mp (h (n + 1) (by omega))) (by omega)
  | some n => cases u with
    | none => exact absurd ((h (n + 1) (by omega)).mp (h' (n + 1) (by omega))) (by omega)
    | some m =>
      congr 1
      rcases Nat.lt_trichotomy n m with q | q | q
      · exact absurd ((h m (by omega)).mp ((h' m (by omega)).mpr (Nat.le_refl _))) (by omega)
      · exact q
      · exact absurd ((h' n (by omega)).mp ((h n (by omega)).mpr (Nat.le_refl _))) (by omega)
end
end M1
namespace M1
/-! ### pairs with a letter: the dicts of a layer -/
abbrev PL := List ((Nat × Nat) × Nat)
def addF (f : PL) (p : Nat × Nat) (a : Nat) : PL := if p ∈ f.map (·.1) then f else f ++ [(p, a)]
structure Lay (G : Nat × Nat → Nat → Prop) (k : Nat) (ps : List (Nat × Nat)) (f : PL) : Prop where
  nd : (f.map (·.1)).Nodup
  sound : ∀ x ∈ f, x.1 ∈ ps ∧ x.2 < k ∧ G x.1 x.2
  full : ∀ p ∈ ps, ∀ a, a < k → G p a → p ∈ f.map (·.1)
structure LayIn (G : Nat × Nat → Nat → Prop) (k : Nat) (ps : List (Nat × Nat)) (i j : Nat) (f : PL) : Prop where
  nd : (f.map (·.1)).Nodup
  sound : ∀ x ∈ f, x.1 ∈ ps ∧ x.2 < k ∧ G x.1 x.2
  full : ∀ (n : Nat) p, ps[n]? = some p → ∀ a, a < k → (n < i ∨ n = i ∧ a < j) → G p a → p ∈ f.map (·.1)
section
variable {G : Nat × Nat → Nat → Prop} {k i j : Nat} {ps : List (Nat × Nat)} {f : PL} {p : Nat × Nat} {a : Nat}
theorem LayIn.nil : LayIn G k ps 0 0 [] := ⟨by simp, fun _ h => by simp at h, fun _ _ _ _ _ h => by omega⟩
theorem addF_mem : ∀ q, q ∈ (addF f p a).map (·.1) ↔ q ∈ f.map (·.1) ∨ q = p := fun q => by
  unfold addF
  by_cases h : p ∈ f.map (·.1)
  · rw [if_pos h]
    refine ⟨.inl, fun z => ?_⟩
    rcases z with z | z
    · exact z
    · rw [z]; exact h
  · rw [if_neg h, List.map_append, List.mem_append]
    simp
theorem LayIn.add (L : LayIn G k ps i j f) (hp : ps[i]? = some p) (hj : j < k) (g : G p j) : LayIn G k ps i (j + 1) (addF f p j) := by
  refine ⟨?_, fun x hx => ?_, fun n q hn b hb hc hg => ?_⟩
  · unfold addF
    by_cases h : p ∈ f.map (·.1)
    · rw [if_pos h]; exact L.nd
    · rw [if_neg h, List.map_append, List.nodup_append]
      refine ⟨L.nd, by simp, fun y hy z hz e => ?_⟩
      have hz' : z = p := by simpa using hz
      subst e
      exact h (hz' ▸ hy)
  · unfold addF at hx
    by_cases h : p ∈ f.map (·.1)
    · rw [if_pos h] at hx; exact L.sound x hx
    · rw [if_neg h] at hx
      rcases List.mem_append.mp hx with hx | hx
      · exact L.sound x hx
      · rw [List.mem_singleton] at hx
        subst hx
        exact ⟨List.mem_of_getElem? hp, hj, g⟩
  · rw [addF_mem]
    by_cases e : n = i ∧ b = j
    · obtain ⟨rfl, rfl⟩ := e
      rw [hp] at hn
      exact .inr (Option.some.inj hn).symm
    · exact .inl (L.full n q hn b hb (by omega) hg)
theorem LayIn.skip (L : LayIn G k ps i j f) (hp : ps[i]? = some p) (g : ¬ G p j) : LayIn G k ps i (j + 1) f := by
  refine ⟨L.nd, L.sound, fun n q hn b hb hc hg => ?_⟩
  by_cases e : n = i ∧ b = j
  · obtain ⟨rfl, rfl⟩ := e
    rw [hp] at hn
    exact absurd ((Option.some.inj hn) ▸ hg) g
  · exact L.full n q hn b hb (by omega) hg
theorem LayIn.row (L : LayIn G k ps i k f) : LayIn G k ps (i + 1) 0 f := ⟨L.nd, L.sound, fun n q hn b hb hc hg => L.full n q hn b hb (by omega) hg⟩
theorem LayIn.done (L : LayIn G k ps ps.length 0 f) : Lay G k ps f := ⟨L.nd, L.sound, fun p hp a ha hg => by
  obtain ⟨n, hn⟩ := List.mem_iff_getElem?.mp hp
  exact L.full n p hn a ha (.inl (List.getElem?_eq_some_iff.mp hn).1) hg⟩
theorem LayIn.len (L : LayIn G k ps i j f) : f.length ≤ ps.length := by
  have h := nodup_le L.nd (m := ps) fun q hq => by
    obtain ⟨x, hx, rfl⟩ := List.mem_map.mp hq
    exact (L.sound x hx).1
  rwa [List.length_map] at h
end
section
variable {M : Mach}
/-- all pairs whose first state comes -/
def Mach.AllP (M : Mach) (ps : List (Nat × Nat)) : Prop := ∀ p, p ∈ ps ↔ M.Pr p
/-- a layer: the pairs that have a late word of n letters, each with a first letter of one -/
structure Mach.LayAt (M : Mach) (n : Nat) (f : PL) : Prop where
  keys : ∀ p, p ∈ f.map (·.1) ↔ M.Pr p ∧ M.LateAt p n
  lt : ∀ x ∈ f, x.2 < M.k
theorem Mach.layAt_one {ps : List (Nat × Nat)} (hp : M.AllP ps) {f : PL} (L : Lay (fun p a => M.out p.1 a ≠ M.out p.2 a) M.k ps f) : M.LayAt 1 f ∧ ∀ x ∈ f, M.out x.1.1 x.2 ≠ M.out x.1.2 x.2 := by
  refine ⟨⟨fun p => ⟨fun h => ?_, fun ⟨h1, h2⟩ => ?_⟩, fun x hx => (L.sound x hx).2.1⟩, fun x hx => (L.sound x hx).2.2⟩
  · obtain ⟨x, hx, rfl⟩ := List.mem_map.mp h
    obtain ⟨a, b, c⟩ := L.sound x hx
    exact ⟨(hp _).mp a, M.lateAt_one.mpr ⟨_, b, c⟩⟩
  · obtain ⟨a, ha, h⟩ := M.lateAt_one.mp h2
    exact L.full p ((hp p).mpr h1) a ha h
theorem Mach.layAt_succ (ok : M.Ok) {ps : List (Nat × Nat)} (hp : M.AllP ps) {n : Nat} {e f : PL} (Le : M.LayAt (n + 1) e) (L : Lay (fun p a => (M.go p.1 a, M.go p.2 a) ∈ e.map (·.1)) M.k ps f) : M.LayAt (n + 2) f ∧ ∀ x ∈ f, (M.go x.1.1 x.2, M.go x.1.2 x.2) ∈ e.map (·.1) := by
  refine ⟨⟨fun p => ⟨fun h => ?_, fun ⟨h1, h2⟩ => ?_⟩, fun x hx => (L.sound x hx).2.1⟩, fun x hx => (L.sound x hx).2.2⟩
  · obtain ⟨x, hx, rfl⟩ := List.mem_map.mp h
    obtain ⟨a, b, c⟩ := L.sound x hx
    exact ⟨(hp _).mp a, M.lateAt_succ.mpr ⟨_, b, ((Le.keys _).mp c).2⟩⟩
  · obtain ⟨a, ha, h⟩ := M.lateAt_succ.mp h2
    exact L.full p ((hp p).mpr h1) a ha ((Le.keys _).mpr ⟨h1.go ok ha, h⟩)
/-- the layers from one letter on -/
structure Mach.Layers (M : Mach) (fs : List PL) : Prop where
  at_ : ∀ (n : Nat) f, fs[n]? = some f → M.LayAt (n + 1) f ∧ f ≠ []
  first : ∀ f, fs[0]? = some f → ∀ x ∈ f, M.out x.1.1 x.2 ≠ M.out x.1.2 x.2
  step : ∀ (n : Nat) e f, fs[n]? = some e → fs[n + 1]? = some f → ∀ x ∈ f, (M.go x.1.1 x.2, M.go x.1.2 x.2) ∈ e.map (·.1)
theorem Mach.LayAt.none {n : Nat} {f : PL} (h : M.LayAt n f) (e : f = []) : ¬ M.Late n := fun q => by
  obtain ⟨p, hp, hl⟩ := M.late_iff.mp q
  have := (h.keys p).mpr ⟨hp, hl⟩
  rw [e] at this
  simp at this
theorem Mach.LayAt.some {n : Nat} {f : PL} (h : M.LayAt n f) (e : f ≠ []) : M.Late n := by
  cases f with
  | nil => exact absurd rfl e
  | cons x f => exact M.late_iff.mpr ⟨x.1, (h.keys x.1).mp (by simp)⟩
/-- how the layers end: no late word of one letter more, or more layers than pairs -/
def Mach.Ends (M : Mach) (ps : List (Nat × Nat)) (fs : List PL) : Prop := ¬ M.Late (fs.length + 1) ∨ ps.length < fs.length
/-- what a walk is worth -/
structure Mach.Wk (M : Mach) (w : PL) : Prop where
  walk : M.Walk w
  pr : ∀ x ∈ w, M.Pr x.1
  late : (w.map (·.1)).Nodup → M.LateIs (some w.length)
theorem Mach.Wk.endless (ok : M.Ok) {w : PL} (W : M.Wk w) {i j : Nat} {p : Nat × Nat} {a b : Nat} (hij : i < j) (hi : w[i]? = some (p, a)) (hj : w[j]? = some (p, b)) : M.LateIs none :=
  W.walk.endless ok (W.pr _ (List.mem_of_getElem? hi)) hij hi hj
theorem Mach.lateIs_of (ok : M.Ok) {n : Nat} (h1 : n = 0 ∨ M.Late n) (h2 : ¬ M.Late (n + 1)) : M.LateIs (some n) := fun m hm => by
  constructor
  · intro h
    refine Classical.byContradiction fun q => h2 (M.late_mono ok (by omega) (by omega) h)
  · intro h
    rcases h1 with z | z
    · omega
    · exact M.late_mono ok hm h z
end
end M1
namespace M1
section
variable {M : Mach}
theorem Mach.Layers.nil : M.Layers [] := ⟨fun _ _ h => by simp at h, fun _ h => by simp at h, fun _ _ _ h => by simp at h⟩
theorem Mach.Layers.one {f : PL} (h : M.LayAt 1 f) (hf : ∀ x ∈ f, M.out x.1.1 x.2 ≠ M.out x.1.2 x.2) (hn : f ≠ []) : M.Layers [f] := by
  refine ⟨fun n g hg => ?_, fun g hg => ?_, fun n e g he hg => ?_⟩
  · cases n with
    | zero => simp at hg; subst hg; exact ⟨h, hn⟩
    | succ n => simp at hg
  · simp at hg; subst hg; exact hf
  · simp at hg
theorem Mach.Layers.snoc {fs : List PL} {f g : PL} (L : M.Layers (fs ++ [f])) (h : M.LayAt (fs.length + 2) g) (hs : ∀ x ∈ g, (M.go x.1.1 x.2, M.go x.1.2 x.2) ∈ f.map (·.1)) (hn : g ≠ []) : M.Layers ((fs ++ [f]) ++ [g]) := by
  have hl : (fs ++ [f]).length = fs.length + 1 := by rw [List.length_append]; rfl
  have at_ : ∀ {n : Nat} {u : PL}, ((fs ++ [f]) ++ [g])[n]? = some u → n < fs.length + 1 ∧ (fs ++ [f])[n]? = some u ∨ n = fs.length + 1 ∧ u = g := by
    intro n u hu
    by_cases h1 : n < (fs ++ [f]).length
    · rw [List.getElem?_append_left h1] at hu
      exact .inl ⟨by omega, hu⟩
    · rw [List.getElem?_append_right (by omega)] at hu
      have h2 := (List.getElem?_eq_some_iff.mp hu).1
      simp at h2
      have h3 : n = fs.length + 1 := by omega
      subst h3
      simp at hu
      exact .inr ⟨rfl, hu.symm⟩
  refine ⟨fun n u hu => ?_, fun u hu => ?_, fun n e u he hu => ?_⟩
  · rcases at_ hu with ⟨_, q⟩ | ⟨rfl, rfl⟩
    · exact L.at_ n u q
    · exact ⟨h, hn⟩
  · rcases at_ hu with ⟨_, q⟩ | ⟨z, _⟩
    · exact L.first u q
    · omega
  · rcases at_ hu with ⟨z, q⟩ | ⟨z, rfl⟩
    · rcases at_ he with ⟨_, q2⟩ | ⟨y, _⟩
      · exact L.step n e u q2 q
      · omega
    · have hn' : n = fs.length := by omega
      subst hn'
      rcases at_ he with ⟨_, q2⟩ | ⟨y, _⟩
      · rw [List.getElem?_append_right (Nat.le_refl _)] at q2
        simp at q2
        subst q2
        exact hs
      · omega
theorem Mach.walk_of : ∀ {w : PL}, w ≠ [] → (∀ (i : Nat) p a, w[i]? = some (p, a) → a < M.k) → (∀ (i : Nat) p q a b, w[i]? = some (p, a) → w[i + 1]? = some (q, b) → q = (M.go p.1 a, M.go p.2 a)) → (∀ p a, w.getLast? = some (p, a) → M.out p.1 a ≠ M.out p.2 a) → M.Walk w
  | [], h, _, _, _ => absurd rfl h
  | [(p, a)], _, h1, _, h3 => ⟨h1 0 p a rfl, h3 p a rfl⟩
  | (p, a) :: (q, b) :: r, _, h1, h2, h3 => ⟨h1 0 p a rfl, h2 0 p q a b rfl rfl, Mach.walk_of (w := (q, b) :: r) (by simp) (fun i u c h => h1 (i + 1) u c (by simpa using h)) (fun i u v c d h h' => h2 (i + 1) u v c d (by simpa using h) (by simpa using h')) fun u c h => h3 u c (by rw [List.getLast?_cons_cons]; exact h)⟩
/-- the walk through the layers, its first i steps; p: where it goes on -/
structure Mach.WkIn (M : Mach) (fs : List PL) (i : Nat) (w : PL) (p : Nat × Nat) : Prop where
  len : w.length = i
  lt : ∀ (j : Nat) q a, w[j]? = some (q, a) → a < M.k ∧ M.Pr q
  next : ∀ (j : Nat) q u a b, w[j]? = some (q, a) → w[j + 1]? = some (u, b) → u = (M.go q.1 a, M.go q.2 a)
  last : ∀ q a, w.getLast? = some (q, a) → p = (M.go q.1 a, M.go q.2 a) ∧ (i = fs.length → M.out q.1 a ≠ M.out q.2 a)
  key : i < fs.length → ∃ f, fs[fs.length - 1 - i]? = some f ∧ p ∈ f.map (·.1)
theorem Mach.WkIn.start {fs : List PL} {p : Nat × Nat} {f : PL} (h : fs.getLast? = some f) (hp : p ∈ f.map (·.1)) : M.WkIn fs 0 [] p :=
  ⟨rfl, fun _ _ _ h => by simp at h, fun _ _ _ _ _ h => by simp at h, fun _ _ h => by simp at h, fun _ => ⟨f, by rw [List.getLast?_eq_getElem?] at h; exact h, hp⟩⟩
theorem Mach.WkIn.go {fs : List PL} (L : M.Layers fs) {i : Nat} {w : PL} {p : Nat × Nat} (W : M.WkIn fs i w p) {f : PL} (hf : fs[fs.length - 1 - i]? = some f) (hi : i < fs.length) {a : Nat} (ha : (p, a) ∈ f) : M.WkIn fs (i + 1) (w ++ [(p, a)]) (M.go p.1 a, M.go p.2 a) := by
  have hL := (L.at_ _ f hf).1
  have hk := hL.lt _ ha
  have hpr := ((hL.keys p).mp (List.mem_map_of_mem (f := (·.1)) ha)).1
  have at_ : ∀ {n : Nat} {u : (Nat × Nat) × Nat}, (w ++ [(p, a)])[n]? = some u → n < i ∧ w[n]? = some u ∨ n = i ∧ u = (p, a) := by
    intro n u hu
    by_cases h1 : n < w.length
    · rw [List.getElem?_append_left h1] at hu
      exact .inl ⟨by have := W.len; omega, hu⟩
    · rw [List.getElem?_append_right (by omega)] at hu
      have h2 := (List.getElem?_eq_some_iff.mp hu).1
      simp at h2
      have h3 : n = w.length := by have := W.len; omega
      subst h3
      simp at hu
      exact .inr ⟨W.len, hu.symm⟩
  refine ⟨by rw [List.length_append, W.len]; rfl, fun j q b h => ?_, fun j q u b c h h' => ?_, fun q b h => ?_, fun h => ?_⟩
  · rcases at_ h with ⟨_, h⟩ | ⟨_, h⟩
    · exact W.lt j q b h
    · injection h with h1 h2
      subst h1 h2
      exact ⟨hk, hpr⟩
  · rcases at_ h' with ⟨z', h'⟩ | ⟨z', h'⟩
    · rcases at_ h with ⟨_, h⟩ | ⟨z, _⟩
      · exact W.next j q u b c h h'
      · omega
    · injection h' with h1 h2
      subst h1 h2
      rcases at_ h with ⟨z, h⟩ | ⟨z, _⟩
      · refine (W.last q b ?_).1
        rw [List.getLast?_eq_getElem?, W.len, show i - 1 = j by omega]
        exact h
      · omega
  · rw [List.getLast?_append] at h
    simp at h
    obtain ⟨rfl, rfl⟩ := h
    refine ⟨rfl, fun e => ?_⟩
    rw [show fs.length - 1 - i = 0 by omega] at hf
    exact L.first f hf _ ha
  · refine ⟨_, List.getElem?_eq_getElem (by omega : fs.length - 1 - (i + 1) < fs.length), ?_⟩
    exact L.step (fs.length - 1 - (i + 1)) _ f (List.getElem?_eq_getElem _) (by rw [show fs.length - 1 - (i + 1) + 1 = fs.length - 1 - i by omega]; exact hf) _ ha
theorem Mach.Layers.wk (ok : M.Ok) {ps : List (Nat × Nat)} (hp : M.AllP ps) {fs : List PL} (L : M.Layers fs) (hE : M.Ends ps fs) {w : PL} {p : Nat × Nat} (W : fs = [] ∧ w = [] ∨ fs ≠ [] ∧ M.WkIn fs fs.length w p) : M.Wk w := by
  have hpr : ∀ x ∈ w, M.Pr x.1 := fun x hx => by
    rcases W with ⟨_, e⟩ | ⟨_, W⟩
    · rw [e] at hx; simp at hx
    · obtain ⟨j, hj⟩ := List.mem_iff_getElem?.mp hx
      exact (W.lt j x.1 x.2 hj).2
  have hlen : w.length = fs.length := by
    rcases W with ⟨e, e'⟩ | ⟨_, W⟩
    · rw [e, e']; rfl
    · exact W.len
  refine ⟨?_, hpr, fun nd => ?_⟩
  · rcases W with ⟨_, e⟩ | ⟨hn, W⟩
    · rw [e]; exact True.intro
    · refine M.walk_of (fun e => ?_) (fun i p a h => (W.lt i p a h).1) (fun i p q a b => W.next i p q a b) fun q a h => (W.last q a h).2 rfl
      rw [e] at hlen
      exact hn (List.length_eq_zero_iff.mp hlen.symm)
  · rw [hlen]
    have hle : fs.length ≤ ps.length := by
      have := nodup_le nd (m := ps) fun q hq => by
        obtain ⟨x, hx, rfl⟩ := List.mem_map.mp hq
        exact (hp _).mpr (hpr x hx)
      rw [List.length_map] at this
      omega
    refine M.lateIs_of ok ?_ (hE.resolve_right (by omega))
    cases h : fs.length with
    | zero => exact .inl rfl
    | succ n =>
      refine .inr ?_
      have hlt : n < fs.length := by omega
      obtain ⟨h1, h2⟩ := L.at_ n _ (List.getElem?_eq_getElem hlt)
      exact h1.some h2
end
end M1
namespace M1
section
variable {M : Mach}
/-! ### the states that come, by turns -/
structure Mach.ComeIn (M : Mach) (t : Nat) (r : List Nat) : Prop where
  nd : r.Nodup
  zero : 0 ∈ r
  sound : ∀ i ∈ r, M.Rch i
  grow : (∀ i ∈ r, ∀ a, a < M.k → M.go i a ∈ r) ∨ t + 1 ≤ r.length
theorem Mach.ComeIn.start : M.ComeIn 0 [0] := ⟨by simp, by simp, fun i h => by
  rw [List.mem_singleton] at h
  subst h
  exact Mach.Rch.zero, .inr (Nat.le_refl _)⟩
theorem Mach.row_iff (ok : M.Ok) {i : Nat} (hi : i < M.st.length) {x : Nat} : x ∈ M.row i ↔ ∃ a, a < M.k ∧ M.go i a = x := by
  constructor
  · intro h
    obtain ⟨a, ha⟩ := List.mem_iff_getElem?.mp h
    have hl := (List.getElem?_eq_some_iff.mp ha).1
    rw [M.row_len ok hi] at hl
    refine ⟨a, hl, ?_⟩
    have := M.go_at ok hi hl
    rw [ha] at this
    exact (Option.some.inj this).symm
  · rintro ⟨a, ha, rfl⟩
    exact List.mem_of_getElem? (M.go_at ok hi ha)
theorem Mach.ComeIn.go (ok : M.Ok) {t : Nat} {r s : List Nat} (C : M.ComeIn t r) (nd : s.Nodup) (hs : ∀ x, x ∈ s ↔ x ∈ r ∨ ∃ i ∈ r, x ∈ M.row i) : M.ComeIn (t + 1) s := by
  have lt : ∀ i ∈ r, i < M.st.length := fun i hi => (C.sound i hi).lt ok
  refine ⟨nd, (hs 0).mpr (.inl C.zero), fun x hx => ?_, ?_⟩
  · rcases (hs x).mp hx with h | ⟨i, hi, h⟩
    · exact C.sound x h
    · obtain ⟨a, ha, rfl⟩ := (M.row_iff ok (lt i hi)).mp h
      exact (C.sound i hi).go ha
  · by_cases hc : ∀ i ∈ r, ∀ a, a < M.k → M.go i a ∈ r
    · refine .inl fun i hi a ha => (hs _).mpr (.inl ?_)
      rcases (hs i).mp hi with h | ⟨j, hj, h⟩
      · exact hc i h a ha
      · obtain ⟨b, hb, rfl⟩ := (M.row_iff ok (lt j hj)).mp h
        exact hc _ (hc j hj b hb) a ha
    · refine .inr ?_
      have hr := C.grow.resolve_left hc
      obtain ⟨i, hi, a, ha, hn⟩ : ∃ i, i ∈ r ∧ ∃ a, a < M.k ∧ M.go i a ∉ r := Classical.byContradiction fun z => hc fun i hi a ha => Classical.byContradiction fun q => z ⟨i, hi, a, ha, q⟩
      have h1 : (M.go i a :: r).Nodup := List.nodup_cons.mpr ⟨hn, C.nd⟩
      have := nodup_le h1 (m := s) fun x hx => by
        rcases List.mem_cons.mp hx with e | hx
        · subst e
          exact (hs _).mpr (.inr ⟨i, hi, (M.row_iff ok (lt i hi)).mpr ⟨a, ha, rfl⟩⟩)
        · exact (hs _).mpr (.inl hx)
      rw [List.length_cons] at this
      omega
theorem Mach.ComeIn.len (ok : M.Ok) {t : Nat} {r : List Nat} (C : M.ComeIn t r) : r.length ≤ M.st.length := by
  have := nodup_le C.nd (m := List.range M.st.length) fun x hx => List.mem_range.mpr ((C.sound x hx).lt ok)
  rwa [List.length_range] at this
theorem Mach.ComeIn.done (ok : M.Ok) {r : List Nat} (C : M.ComeIn M.st.length r) : ∀ i, i ∈ r ↔ M.Rch i := fun i => by
  refine ⟨C.sound i, ?_⟩
  have hc := C.grow.resolve_right (by have := C.len ok; omega)
  rintro ⟨u, hu, rfl⟩
  have gen : ∀ (u : List Nat) (i : Nat), i ∈ r → M.Letters u → M.led i u ∈ r := by
    intro u
    induction u with
    | nil => exact fun i hi _ => hi
    | cons a u ih => exact fun i hi hu => ih (M.go i a) (hc i hi a (hu a List.mem_cons_self)) fun x hx => hu x (List.mem_cons_of_mem _ hx)
  exact gen u 0 C.zero hu
/-! ### the lots of pairs -/
/-- words of n letters lead to p from a pair whose first state comes -/
def Mach.At (M : Mach) (n : Nat) (p : Nat × Nat) : Prop := ∃ q u, M.Pr q ∧ M.Letters u ∧ u.length = n ∧ p = (M.led q.1 u, M.led q.2 u)
theorem Mach.at_zero {p : Nat × Nat} : M.At 0 p ↔ M.Pr p := by
  constructor
  · rintro ⟨q, u, hq, _, hl, rfl⟩
    obtain rfl := List.length_eq_zero_iff.mp hl
    exact hq
  · exact fun h => ⟨p, [], h, fun _ h => by simp at h, rfl, rfl⟩
theorem Mach.at_succ {n : Nat} {p : Nat × Nat} : M.At (n + 1) p ↔ ∃ q a, M.At n q ∧ a < M.k ∧ p = (M.go q.1 a, M.go q.2 a) := by
  constructor
  · rintro ⟨q, u, hq, hu, hl, rfl⟩
    rcases List.eq_nil_or_concat u with z | ⟨v, a, z⟩
    · subst z; simp at hl
    · rw [List.concat_eq_append] at z
      subst z
      rw [List.length_append, List.length_singleton] at hl
      refine ⟨(M.led q.1 v, M.led q.2 v), a, ⟨q, v, hq, fun x hx => hu x (List.mem_append_left _ hx), by omega, rfl⟩, hu a (List.mem_append_right _ (List.mem_singleton.mpr rfl)), ?_⟩
      rw [M.led_append, M.led_append]
      rfl
  · rintro ⟨_, a, ⟨q, u, hq, hu, hl, rfl⟩, ha, rfl⟩
    refine ⟨q, u ++ [a], hq, fun x hx => ?_, by rw [List.length_append, hl]; rfl, by rw [M.led_append, M.led_append]; rfl⟩
    rcases List.mem_append.mp hx with h | h
    · exact hu x h
    · rw [List.mem_singleton] at h; subst h; exact ha
theorem Mach.At.pr (ok : M.Ok) {n : Nat} {p : Nat × Nat} (h : M.At n p) : M.Pr p := by
  obtain ⟨q, u, hq, hu, _, rfl⟩ := h
  exact ⟨hq.1.led hu, M.led_lt ok hq.2 hu⟩
/-- unlike answers somewhere -/
theorem Mach.late_at (ok : M.Ok) {n : Nat} : M.Late (n + 1) ↔ ∃ p, M.At n p ∧ M.ans p.1 ≠ M.ans p.2 := by
  constructor
  · rintro ⟨p, w, hp, hw, hl, u, a, rfl, h⟩
    rw [List.length_append, List.length_singleton] at hl
    have hu : M.Letters u := fun x hx => hw x (List.mem_append_left _ hx)
    refine ⟨(M.led p.1 u, M.led p.2 u), ⟨p, u, hp, hu, by omega, rfl⟩, fun z => h ?_⟩
    have ha := hw a (List.mem_append_right _ (List.mem_singleton.mpr rfl))
    have h1 := M.out_at ok (M.led_lt ok (hp.1.lt ok) hu) ha
    have h2 := M.out_at ok (M.led_lt ok hp.2 hu) ha
    have z' : M.ans (M.led p.1 u) = M.ans (M.led p.2 u) := z
    rw [z', h2] at h1
    exact (Option.some.inj h1).symm
  · rintro ⟨_, ⟨p, u, hp, hu, hl, rfl⟩, h⟩
    have l1 := M.led_lt ok (hp.1.lt ok) hu
    have l2 := M.led_lt ok hp.2 hu
    obtain ⟨a, ha, hne⟩ : ∃ a, a < M.k ∧ M.out (M.led p.1 u) a ≠ M.out (M.led p.2 u) a := Classical.byContradiction fun z => h (List.ext_getElem? fun a => by
      show (M.ans (M.led p.1 u))[a]? = (M.ans (M.led p.2 u))[a]?
      by_cases ha : a < M.k
      · rw [M.out_at ok l1 ha, M.out_at ok l2 ha]
        congr 1
        exact Classical.byContradiction fun q => z ⟨a, ha, q⟩
      · rw [List.getElem?_eq_none (by rw [M.ans_len ok l1]; omega), List.getElem?_eq_none (by rw [M.ans_len ok l2]; omega)])
    refine ⟨p, u ++ [a], hp, fun x hx => ?_, by rw [List.length_append, hl]; rfl, u, a, rfl, hne⟩
    rcases List.mem_append.mp hx with q | q
    · exact hu x q
    · rw [List.mem_singleton] at q; subst q; exact ha
/-! ### more letters than pairs: any length -/
def Mach.walkOf (M : Mach) : Nat × Nat → List Nat → PL
  | _, [] => []
  | p, a :: u => (p, a) :: Mach.walkOf M (M.go p.1 a, M.go p.2 a) u
theorem Mach.walkOf_len : ∀ (u : List Nat) (p : Nat × Nat), (M.walkOf p u).length = u.length
  | [], _ => rfl
  | a :: u, p => by
    show (M.walkOf _ u).length + 1 = u.length + 1
    rw [Mach.walkOf_len u]
theorem Mach.walkOf_walk : ∀ (u : List Nat) (p : Nat × Nat), M.Letters u → M.Unl p.1 p.2 u → M.Walk (M.walkOf p u)
  | [], _, _, h => by obtain ⟨_, _, e, _⟩ := h; simp at e
  | [a], p, hu, h => ⟨hu a (by simp), M.unl_one.mp h⟩
  | a :: b :: u, p, hu, h => ⟨hu a (by simp), rfl, Mach.walkOf_walk (b :: u) _ (fun x hx => hu x (List.mem_cons_of_mem _ hx)) ((M.unl_cons (by simp)).mp h)⟩
theorem Mach.late_big (ok : M.Ok) {n : Nat} (hn : 36 < n) (h : M.Late n) : M.LateIs none := by
  obtain ⟨p, u, hp, hu, hl, hU⟩ := h
  have hW := M.walkOf_walk u p hu hU
  have hpr : ∀ x ∈ M.walkOf p u, M.Pr x.1 := hW.pr ok fun x hx => by
    cases u with
    | nil => simp [Mach.walkOf] at hx
    | cons a u =>
      have : x = (p, a) := by simpa [Mach.walkOf] using hx.symm
      rw [this]
      exact hp
  have n6 := ok.n6
  have hm : (pairsN M.st.length).length ≤ 36 := by
    rw [pairsN_len]
    exact Nat.mul_le_mul n6 n6
  obtain ⟨i, j, q, hij, hi, hj⟩ := twice (l := (M.walkOf p u).map (·.1)) (m := pairsN M.st.length) (fun q hq => by
    obtain ⟨x, hx, rfl⟩ := List.mem_map.mp hq
    exact mem_pairsN.mpr ⟨(hpr x hx).1.lt ok, (hpr x hx).2⟩) (by rw [List.length_map, M.walkOf_len]; omega)
  rw [List.getElem?_map] at hi hj
  cases ei : (M.walkOf p u)[i]? with
  | none => rw [ei] at hi; cases hi
  | some x => cases ej : (M.walkOf p u)[j]? with
    | none => rw [ej] at hj; cases hj
    | some y =>
      rw [ei] at hi
      rw [ej] at hj
      have e1 : x.1 = q := Option.some.inj hi
      have e2 : y.1 = q := Option.some.inj hj
      obtain ⟨x1, x2⟩ := x
      obtain ⟨y1, y2⟩ := y
      dsimp only at e1 e2
      subst e1
      subst e2
      exact hW.endless ok (hpr _ (List.mem_of_getElem? ei)) hij ei ej
end
end M1
namespace M1
section
variable {M : Mach}
/-! ### a greatest length is less than the number of states -/
/-- alike behind m letters or more -/
def Mach.Rm (M : Mach) (m i j : Nat) : Prop := ∀ n, m < n → ¬ M.LateAt (i, j) n
theorem Mach.rm_refl (m i : Nat) : M.Rm m i i := fun _ _ ⟨_, _, _, _, _, _, h⟩ => h rfl
theorem Mach.lateAt_symm {i j n : Nat} (h : M.LateAt (i, j) n) : M.LateAt (j, i) n := by
  obtain ⟨w, h1, h2, u, a, e, h⟩ := h
  exact ⟨w, h1, h2, u, a, e, fun z => h z.symm⟩
theorem Mach.rm_symm {m i j : Nat} (h : M.Rm m i j) : M.Rm m j i := fun n hn q => h n hn (M.lateAt_symm q)
theorem Mach.lateAt_trans {i j l n : Nat} (h : M.LateAt (i, l) n) : M.LateAt (i, j) n ∨ M.LateAt (j, l) n := by
  obtain ⟨w, h1, h2, u, a, e, h⟩ := h
  by_cases z : M.out (M.led i u) a = M.out (M.led j u) a
  · exact .inr ⟨w, h1, h2, u, a, e, fun q => h (z.trans q)⟩
  · exact .inl ⟨w, h1, h2, u, a, e, z⟩
theorem Mach.rm_trans {m i j l : Nat} (h : M.Rm m i j) (h' : M.Rm m j l) : M.Rm m i l := fun n hn q => (M.lateAt_trans q).elim (h n hn) (h' n hn)
theorem Mach.rm_mono {m n i j : Nat} (h : m ≤ n) (q : M.Rm m i j) : M.Rm n i j := fun l hl => q l (by omega)
theorem Mach.rm_succ {m i j : Nat} : M.Rm (m + 1) i j ↔ ∀ a, a < M.k → M.Rm m (M.go i a) (M.go j a) := by
  constructor
  · intro h a ha n hn q
    obtain ⟨n, rfl⟩ : ∃ l, n = l + 1 := ⟨n - 1, by omega⟩
    exact h (n + 2) (by omega) (M.lateAt_succ.mpr ⟨a, ha, q⟩)
  · intro h n hn q
    obtain ⟨n, rfl⟩ : ∃ l, n = l + 2 := ⟨n - 2, by omega⟩
    obtain ⟨a, ha, q⟩ := M.lateAt_succ.mp q
    exact h a ha (n + 1) (by omega) q
/-- no finer at one turn: never finer again -/
theorem Mach.rm_stop (ok : M.Ok) {m : Nat} (h : ∀ i j, i < M.st.length → j < M.st.length → M.Rm (m + 1) i j → M.Rm m i j) : ∀ d i j, i < M.st.length → j < M.st.length → M.Rm (m + d) i j → M.Rm m i j
  | 0, _, _, _, _, q => q
  | d + 1, i, j, hi, hj, q => h i j hi hj (M.rm_succ.mpr fun a ha => Mach.rm_stop ok h d _ _ (M.go_lt ok hi ha) (M.go_lt ok hj ha) (M.rm_succ.mp q a ha))
open Classical in
noncomputable def Mach.reps (M : Mach) (m : Nat) : List Nat := (List.range M.st.length).filter fun i => decide (∀ j, j < i → ¬ M.Rm m i j)
open Classical in
theorem Mach.mem_reps {m i : Nat} : i ∈ M.reps m ↔ i < M.st.length ∧ ∀ j, j < i → ¬ M.Rm m i j := by
  unfold Mach.reps
  rw [List.mem_filter, List.mem_range, decide_eq_true_iff]
open Classical in
theorem Mach.reps_nodup (m : Nat) : (M.reps m).Nodup := by
  unfold Mach.reps
  exact List.nodup_range.filter _
theorem Mach.rep_of (m : Nat) : ∀ i, i < M.st.length → ∃ r, r ∈ M.reps m ∧ M.Rm m i r ∧ r ≤ i := fun i => by
  induction i using Nat.strongRecOn with
  | _ i ih =>
    intro hi
    by_cases h : ∀ j, j < i → ¬ M.Rm m i j
    · exact ⟨i, M.mem_reps.mpr ⟨hi, h⟩, M.rm_refl m i, Nat.le_refl _⟩
    · obtain ⟨j, hj⟩ := Classical.not_forall.mp h
      obtain ⟨hj, hR⟩ := Classical.not_imp.mp hj
      obtain ⟨r, h1, h2, h3⟩ := ih j hj (by omega)
      exact ⟨r, h1, M.rm_trans (Classical.not_not.mp hR) h2, by omega⟩
theorem Mach.reps_sub {m n : Nat} (h : m ≤ n) : ∀ i ∈ M.reps n, i ∈ M.reps m := fun i hi => by
  obtain ⟨h1, h2⟩ := M.mem_reps.mp hi
  exact M.mem_reps.mpr ⟨h1, fun j hj q => h2 j hj (M.rm_mono h q)⟩
theorem Mach.reps_less {m i j : Nat} (hi : i < M.st.length) (hj : j < M.st.length) (h1 : M.Rm (m + 1) i j) (h2 : ¬ M.Rm m i j) : (M.reps (m + 1)).length < (M.reps m).length := by
  obtain ⟨r, a1, a2, _⟩ := M.rep_of m i hi
  obtain ⟨s, b1, b2, _⟩ := M.rep_of m j hj
  have hne : r ≠ s := fun e => by
    subst e
    exact h2 (M.rm_trans a2 (M.rm_symm b2))
  have hrs : M.Rm (m + 1) r s := M.rm_trans (M.rm_symm (M.rm_mono (by omega) a2)) (M.rm_trans h1 (M.rm_mono (by omega) b2))
  obtain ⟨x, hx, hx'⟩ : ∃ x, x ∈ M.reps m ∧ x ∉ M.reps (m + 1) := by
    rcases Nat.lt_trichotomy r s with q | q | q
    · exact ⟨s, b1, fun z => (M.mem_reps.mp z).2 r q (M.rm_symm hrs)⟩
    · exact absurd q hne
    · exact ⟨r, a1, fun z => (M.mem_reps.mp z).2 s q hrs⟩
  have hnd : (x :: M.reps (m + 1)).Nodup := List.nodup_cons.mpr ⟨hx', M.reps_nodup _⟩
  have := nodup_le hnd (m := M.reps m) fun y hy => by
    rcases List.mem_cons.mp hy with e | h
    · exact e ▸ hx
    · exact M.reps_sub (by omega) y h
  rw [List.length_cons] at this
  omega
theorem Mach.late_lt (ok : M.Ok) {n : Nat} (h : M.LateIs (some n)) : n < M.st.length := by
  by_cases h0 : n = 0
  · rw [h0]; exact ok.n1
  have all : ∀ i j, i < M.st.length → j < M.st.length → M.Rm n i j := by
    have z : ∀ i, i < M.st.length → M.Rm n 0 i := fun i hi l hl q => by
      have := (h l (by omega)).mp (M.late_iff.mpr ⟨(0, i), ⟨.zero, hi⟩, q⟩)
      omega
    exact fun i j hi hj => M.rm_trans (M.rm_symm (z i hi)) (z j hj)
  obtain ⟨p, hp, hL⟩ := M.late_iff.mp ((h n (by omega)).mpr (Nat.le_refl _))
  have less : ∀ m, m < n → (M.reps (m + 1)).length < (M.reps m).length := fun m hm => by
    apply Classical.byContradiction
    intro hne
    have hst : ∀ i j, i < M.st.length → j < M.st.length → M.Rm (m + 1) i j → M.Rm m i j := fun i j hi hj q => Classical.byContradiction fun z => hne (M.reps_less hi hj q z)
    have := M.rm_stop ok hst (n - m) p.1 p.2 (hp.1.lt ok) hp.2 (by rw [show m + (n - m) = n by omega]; exact all _ _ (hp.1.lt ok) hp.2)
    exact this n hm hL
  have down : ∀ d, d ≤ n → (M.reps d).length + d ≤ (M.reps 0).length := fun d => by
    induction d with
    | zero => intro _; omega
    | succ d ih =>
      intro hd
      have := ih (by omega)
      have := less d (by omega)
      omega
  have h1 := down n (Nat.le_refl _)
  have h2 : 0 < (M.reps n).length := List.length_pos_of_mem (M.mem_reps.mpr ⟨ok.n1, fun j hj => by omega⟩)
  have h3 : (M.reps 0).length ≤ M.st.length := by
    have := nodup_le (M.reps_nodup 0) (m := List.range M.st.length) fun y hy => List.mem_range.mpr (M.mem_reps.mp hy).1
    rwa [List.length_range] at this
  omega
/-- behind more letters than the greatest late word has, all states answer as the first one does -/
theorem Mach.LateIs.alike {n : Nat} (h : M.LateIs (some n)) {i j : Nat} (hi : i < M.st.length) (hj : j < M.st.length) {u : List Nat} {a : Nat} (hu : M.Letters (u ++ [a])) (hl : n ≤ u.length) : M.out (M.led i u) a = M.out (M.led j u) a := by
  have z : ∀ i, i < M.st.length → M.out (M.led 0 u) a = M.out (M.led i u) a := fun i hi => Classical.byContradiction fun q => by
    have := (h (u.length + 1) (by omega)).mp ⟨(0, i), u ++ [a], ⟨.zero, hi⟩, hu, by simp, u, a, rfl, q⟩
    omega
  exact (z i hi).symm.trans (z j hj)
end
end M1
namespace M1
section
variable {M : Mach}
/-! ### late words of the least machine -/
theorem Mach.all_ord (ok : M.Ok) {i s : Nat} (h : M.all[i]? = some s) : (M.ord i)[i]? = some s := by
  obtain ⟨m, e⟩ := M.all_pre ok i
  have hl : i < (M.ord i).length := by
    apply Classical.byContradiction
    intro z
    have := M.all_of ok (i := i) (by omega)
    rw [← this] at h
    have := (List.getElem?_eq_some_iff.mp h).1
    omega
  rw [e, List.getElem?_append_left hl] at h
  exact h
theorem Mach.all_apart (ok : M.Ok) : M.Apart M.all := M.ord_apart ok 6
theorem Mach.all_has (ok : M.Ok) {i s x : Nat} (h : M.all[i]? = some s) (hx : x ∈ M.row s) : ∃ y ∈ M.all, M.eqv y x = true := by
  have ho := M.all_ord ok h
  obtain ⟨m, e⟩ := M.all_pre ok (i + 1)
  obtain ⟨y, hy, q⟩ := M.grow_has (o := M.ord i) (fun z hz => M.row_mem ok (M.ord_lt ok ho) hz) ok hx
  rw [← M.ord_step ho] at hy
  exact ⟨y, by rw [e]; exact List.mem_append_left _ hy, q⟩
theorem Mach.all_zero (ok : M.Ok) : M.all[0]? = some 0 := by
  obtain ⟨m, e⟩ := M.all_pre ok 0
  rw [e]
  rfl
theorem Mach.least_row {i s : Nat} (h : M.all[i]? = some s) : M.least.row i = (M.row s).map (M.num M.all) := by
  unfold Mach.row
  rw [List.getD_eq_getElem?_getD]
  show ((M.all.map fun s => (M.row s).map (M.num M.all))[i]?).getD [] = _
  rw [List.getElem?_map, h]
  rfl
theorem Mach.least_ans {i s : Nat} (h : M.all[i]? = some s) : M.least.ans i = M.ans s := by
  show ((M.all.map M.ans).getD i []) = _
  rw [List.getD_eq_getElem?_getD, List.getElem?_map, h]
  rfl
theorem Mach.least_k (ok : M.Ok) : M.least.k = M.k := by
  show (M.least.row 0).length = _
  rw [M.least_row (M.all_zero ok), List.length_map, M.row_len ok ok.n1]
theorem Mach.least_n (ok : M.Ok) : M.least.st.length = M.all.length := by
  show (M.all.map _).length = _
  rw [List.length_map]
theorem Mach.least_go (ok : M.Ok) {i s a : Nat} (h : M.all[i]? = some s) (ha : a < M.k) : M.least.go i a = M.num M.all (M.go s a) := by
  have hs := M.ord_lt ok (M.all_ord ok h)
  unfold Mach.go
  rw [M.least_row h, List.getD_eq_getElem?_getD, List.getElem?_map, M.go_at ok hs ha]
  rfl
theorem Mach.least_ok (ok : M.Ok) : M.least.Ok where
  n1 := by
    rw [M.least_n ok]
    exact Nat.lt_of_le_of_lt (Nat.zero_le _) (List.getElem?_eq_some_iff.mp (M.all_zero ok)).1
  n6 := by
    rw [M.least_n ok]
    exact Nat.le_trans ((M.all_apart ok).le ok) ok.n6
  k1 := by rw [M.least_k ok]; exact ok.k1
  k3 := by rw [M.least_k ok]; exact ok.k3
  la := by rw [M.least_n ok]; show (M.all.map M.ans).length = _; rw [List.length_map]
  rs := fun r hr => by
    rw [M.least_k ok, M.least_n ok]
    obtain ⟨s, hs, rfl⟩ := List.mem_map.mp (show r ∈ M.all.map fun s => (M.row s).map (M.num M.all) from hr)
    obtain ⟨i, hi, e⟩ := List.getElem_of_mem hs
    have hg : M.all[i]? = some s := by rw [List.getElem?_eq_getElem hi, e]
    refine ⟨by rw [List.length_map, M.row_len ok ((M.all_apart ok).lt s hs)], fun x hx => ?_⟩
    obtain ⟨y, hy, rfl⟩ := List.mem_map.mp hx
    exact M.num_lt (M.all_has ok hg hy)
  ra := fun r hr => by
    rw [M.least_k ok]
    obtain ⟨s, hs, rfl⟩ := List.mem_map.mp (show r ∈ M.all.map M.ans from hr)
    exact ok.ra _ (List.mem_of_getElem? (M.ans_at ok ((M.all_apart ok).lt s hs)))
/-- a state of the least machine stands for one of the machine's -/
def Mach.Stands (M : Mach) (i s : Nat) : Prop := ∃ s', M.all[i]? = some s' ∧ M.Eqv s' s
theorem Mach.Stands.go (ok : M.Ok) {i s a : Nat} (h : M.Stands i s) (ha : a < M.k) : M.Stands (M.least.go i a) (M.go s a) := by
  obtain ⟨s', h1, h2⟩ := h
  have hs' := M.ord_lt ok (M.all_ord ok h1)
  rw [M.least_go ok h1 ha]
  obtain ⟨y, hy, q⟩ := M.num_at (M.all_has ok h1 (List.mem_of_getElem? (M.go_at ok hs' ha)))
  exact ⟨y, hy, (Mach.eqv_iff.mp q).trans ((Mach.Eqv.bis s' s h2).2.2.2 a ha)⟩
theorem Mach.Stands.led (ok : M.Ok) : ∀ {w : List Nat} {i s : Nat}, M.Stands i s → M.Letters w → M.Stands (M.least.led i w) (M.led s w)
  | [], _, _, h, _ => h
  | a :: w, _, _, h, hw => Mach.Stands.led ok (w := w) (h.go ok (hw a List.mem_cons_self)) fun x hx => hw x (List.mem_cons_of_mem _ hx)
theorem Mach.Stands.out {i s a : Nat} (h : M.Stands i s) : M.least.out i a = M.out s a := by
  obtain ⟨s', h1, h2⟩ := h
  unfold Mach.out
  rw [M.least_ans h1, (Mach.Eqv.bis s' s h2).2.2.1]
theorem Mach.Stands.zero (ok : M.Ok) : M.Stands 0 0 := ⟨0, M.all_zero ok, Mach.Eqv.refl ok ok.n1⟩
theorem Mach.least_late (ok : M.Ok) {n : Nat} (h : M.least.Late n) : M.Late n := by
  obtain ⟨p, w, ⟨⟨u, hu, e⟩, hp2⟩, hw, hl, x, a, rfl, hne⟩ := h
  have kk := M.least_k ok
  have hu' : M.Letters u := fun y hy => by rw [← kk]; exact hu y hy
  have hw' : M.Letters (x ++ [a]) := fun y hy => by rw [← kk]; exact hw y hy
  have hx : M.Letters x := fun y hy => hw' y (List.mem_append_left _ hy)
  rw [M.least_n ok] at hp2
  obtain ⟨s, hs⟩ : ∃ s, M.all[p.2]? = some s := ⟨_, List.getElem?_eq_getElem hp2⟩
  have hsl := M.ord_lt ok (M.all_ord ok hs)
  have s1 : M.Stands p.1 (M.led 0 u) := by
    rw [← e]
    exact Mach.Stands.led ok (Mach.Stands.zero ok) hu'
  have s2 : M.Stands p.2 s := ⟨s, hs, Mach.Eqv.refl ok hsl⟩
  refine ⟨(M.led 0 u, s), x ++ [a], ⟨⟨u, hu', rfl⟩, hsl⟩, hw', hl, x, a, rfl, fun z => hne ?_⟩
  rw [(s1.led ok hx).out, (s2.led ok hx).out]
  exact z
theorem Mach.late_some (ok : M.Ok) : ∃ o, M.LateIs o := by
  by_cases h : M.Late 37
  · exact ⟨none, M.late_big ok (n := 37) (by omega) h⟩
  · have fall : ∀ d, ¬ M.Late (d + 1) → ∃ o, M.LateIs o := fun d => by
      induction d with
      | zero => exact fun h => ⟨some 0, M.lateIs_of ok (.inl rfl) h⟩
      | succ d ih =>
        intro h
        by_cases h1 : M.Late (d + 1)
        · exact ⟨some (d + 1), M.lateIs_of ok (.inr h1) h⟩
        · exact ih h1
    exact fall 36 h
/-! ### how many copies -/
/-- rounded up -/
def up (a b : Nat) : Nat := (a + b - 1) / b
theorem up_le {a b m : Nat} (hb : 1 ≤ b) : up a b ≤ m ↔ a ≤ m * b := by
  unfold up
  rw [← Nat.lt_succ_iff, Nat.div_lt_iff_lt_mul (by omega), Nat.succ_mul]
  omega
theorem up_zero {b : Nat} (hb : 1 ≤ b) : up 0 b = 0 := by
  have := (up_le (a := 0) (b := b) (m := 0) hb).mpr (by omega)
  omega
theorem up_pos {a b : Nat} (ha : 1 ≤ a) (hb : 1 ≤ b) : 1 ≤ up a b := by
  apply Classical.byContradiction
  intro z
  have := (up_le (a := a) (b := b) (m := 0) hb).mp (by omega)
  omega
theorem up_mono {a c b : Nat} (h : a ≤ c) (hb : 1 ≤ b) : up a b ≤ up c b := (up_le hb).mpr (Nat.le_trans h ((up_le hb).mp (Nat.le_refl _)))
theorem up_self {a b : Nat} (hb : 1 ≤ b) : a ≤ up a b * b := (up_le hb).mp (Nat.le_refl _)
theorem up_bound {a b : Nat} (hb : 1 ≤ b) : up a b ≤ a := (up_le hb).mpr (by
  have : a * 1 ≤ a * b := Nat.mul_le_mul_left a hb
  omega)
/-- the least number that is enough -/
def needed (o : Option Nat) (p g : Nat) : Option Nat := if p = 0 then some 1 else o.map fun d => 2 * p * up d g + 1
end
end M1
namespace M1
/-! ### courses: copies that strikes push -/
abbrev Strk := Nat × List (Nat × Nat)
def setAll (st : List Nat) (ps : List (Nat × Nat)) : List Nat := ps.foldl (fun s p => s.set p.1 p.2) st
theorem setAll_len (ps : List (Nat × Nat)) : ∀ st : List Nat, (setAll st ps).length = st.length := by
  induction ps with
  | nil => exact fun _ => rfl
  | cons p ps ih =>
    intro st
    show (setAll (st.set p.1 p.2) ps).length = _
    rw [ih, List.length_set]
theorem setAll_snoc (st : List Nat) (ps : List (Nat × Nat)) (p : Nat × Nat) : setAll st (ps ++ [p]) = (setAll st ps).set p.1 p.2 := by
  unfold setAll
  rw [List.foldl_append]
  rfl
theorem setAll_get (ps : List (Nat × Nat)) : ∀ (st : List Nat) (i : Nat) (q : Nat), (setAll st ps)[i]? = some q → st[i]? = some q ∨ ∃ p ∈ ps, p.1 = i ∧ p.2 = q := by
  induction ps with
  | nil => exact fun st i q h => .inl h
  | cons p ps ih =>
    intro st i q h
    rcases ih (st.set p.1 p.2) i q h with h | ⟨r, hr, h⟩
    · by_cases e : p.1 = i
      · subst e
        by_cases hl : p.1 < st.length
        · rw [List.getElem?_set_self hl] at h
          exact .inr ⟨p, List.mem_cons_self, rfl, Option.some.inj h⟩
        · rw [List.getElem?_eq_none (by rw [List.length_set]; omega)] at h
          cases h
      · rw [List.getElem?_set_ne e] at h
        exact .inl h
    · exact .inr ⟨r, List.mem_cons_of_mem _ hr, h⟩
theorem setAll_same (ps : List (Nat × Nat)) : ∀ (st : List Nat) (i : Nat), (∀ p ∈ ps, p.1 ≠ i) → (setAll st ps)[i]? = st[i]? := by
  induction ps with
  | nil => exact fun st i h => rfl
  | cons p ps ih =>
    intro st i h
    show (setAll (st.set p.1 p.2) ps)[i]? = _
    rw [ih _ _ fun q hq => h q (List.mem_cons_of_mem _ hq), List.getElem?_set_ne (h p List.mem_cons_self)]
def atPl (S : List Strk) (j : Nat) : List (Nat × Nat) := match S.find? (fun s => decide (s.1 = j)) with
  | some s => s.2
  | none => []
theorem atPl_mem {S : List Strk} {j : Nat} {p : Nat × Nat} (h : p ∈ atPl S j) : ∃ s ∈ S, s.1 = j ∧ p ∈ s.2 := by
  unfold atPl at h
  cases e : S.find? (fun s => decide (s.1 = j)) with
  | none => rw [e] at h; simp at h
  | some s =>
    rw [e] at h
    exact ⟨s, List.mem_of_find?_eq_some e, by simpa using List.find?_some e, h⟩
/-- one strike behind the other -/
theorem atPl_fold {S : List Strk} (j : Nat) (hS : S.Pairwise fun a b => a.1 < b.1) : ∀ st : List Nat, S.foldl (fun s x => if x.1 = j then setAll s x.2 else s) st = setAll st (atPl S j) := by
  induction S with
  | nil => exact fun _ => rfl
  | cons x S ih =>
    intro st
    have hx := List.pairwise_cons.mp hS
    rw [List.foldl_cons]
    by_cases e : x.1 = j
    · rw [if_pos e]
      have none_ : ∀ (l : List Strk) (st : List Nat), (∀ y ∈ l, y.1 ≠ j) → l.foldl (fun s x => if x.1 = j then setAll s x.2 else s) st = st := by
        intro l
        induction l with
        | nil => exact fun _ _ => rfl
        | cons y l ih =>
          intro st h
          rw [List.foldl_cons, if_neg (h y List.mem_cons_self)]
          exact ih st fun z hz => h z (List.mem_cons_of_mem _ hz)
      rw [none_ S _ fun y hy => by
        have := hx.1 y hy
        omega]
      unfold atPl
      rw [List.find?_cons_of_pos (by simpa using e)]
    · rw [if_neg e, ih hx.2]
      unfold atPl
      rw [List.find?_cons_of_neg (by simpa using e)]
/-- the answer of more than half -/
def voteOf (l : List Nat) : Option Nat := l.find? fun a => decide (l.length < 2 * l.count a)
theorem voteOf_of {l : List Nat} {a : Nat} (h : l.length < 2 * l.count a) : voteOf l = some a := by
  unfold voteOf
  have hm : a ∈ l := List.count_pos_iff.mp (by omega)
  cases e : l.find? (fun a => decide (l.length < 2 * l.count a)) with
  | none =>
    have := List.find?_eq_none.mp e a hm
    exact absurd (decide_eq_true h) this
  | some b =>
    have hb : l.length < 2 * l.count b := by simpa using List.find?_some e
    by_cases hab : a = b
    · rw [hab]
    · have h2 : l.count a + l.count b ≤ l.length := by
        clear e h hb hm
        induction l with
        | nil => simp
        | cons x l ih =>
          rw [List.count_cons, List.count_cons, List.length_cons]
          have : (if x == a then 1 else 0) + (if x == b then 1 else 0) ≤ 1 := by
            by_cases h1 : x = a
            · subst h1
              simp [hab]
            · by_cases h2 : x = b
              · subst h2
                simp [Ne.symm hab]
              · simp [h1, h2]
          omega
      omega
theorem voteOf_some {l : List Nat} {a : Nat} (h : voteOf l = some a) : l.length < 2 * l.count a := by
  unfold voteOf at h
  simpa using List.find?_some h
theorem voteOf_none {l : List Nat} (h : ∀ a, ¬ l.length < 2 * l.count a) : voteOf l = none := by
  unfold voteOf
  rw [List.find?_eq_none]
  exact fun a _ z => h a (of_decide_eq_true z)
/-- what more than half are stands in the middle -/
theorem middle {l : List Nat} {s : List Nat} (hp : s.Perm l) (hs : s.Pairwise (· ≤ ·)) {a : Nat} (h : l.length < 2 * l.count a) {m : Nat} (hm : s[l.length / 2]? = some m) : m = a := by
  have hl := hp.length_eq
  rw [← hp.count_eq] at h
  have cut : s.count a = (s.take (l.length / 2)).count a + (s.drop (l.length / 2)).count a := by rw [← List.count_append, List.take_append_drop]
  have cut2 : s.count a = (s.take (l.length / 2 + 1)).count a + (s.drop (l.length / 2 + 1)).count a := by rw [← List.count_append, List.take_append_drop]
  have ge : ∀ x ∈ s.drop (l.length / 2), m ≤ x := fun x hx => by
    obtain ⟨i, hi⟩ := List.mem_iff_getElem?.mp hx
    rw [List.getElem?_drop] at hi
    by_cases h0 : i = 0
    · subst h0
      rw [Nat.add_zero, hm] at hi
      exact Nat.le_of_eq (Option.some.inj hi)
    · have h1 := List.getElem?_eq_some_iff.mp hm
      have h2 := List.getElem?_eq_some_iff.mp hi
      have := List.pairwise_iff_getElem.mp hs _ _ h1.1 h2.1 (by omega)
      rw [h1.2, h2.2] at this
      exact this
  have le : ∀ x ∈ s.take (l.length / 2 + 1), x ≤ m := fun x hx => by
    obtain ⟨i, hi⟩ := List.mem_iff_getElem?.mp hx
    have hil : i < l.length / 2 + 1 := by
      have := (List.getElem?_eq_some_iff.mp hi).1
      rw [List.length_take] at this
      omega
    rw [List.getElem?_take_of_lt hil] at hi
    by_cases h0 : i = l.length / 2
    · subst h0
      rw [hm] at hi
      exact Nat.le_of_eq (Option.some.inj hi).symm
    · have h1 := List.getElem?_eq_some_iff.mp hm
      have h2 := List.getElem?_eq_some_iff.mp hi
      have := List.pairwise_iff_getElem.mp hs _ _ h2.1 h1.1 (by omega)
      rw [h1.2, h2.2] at this
      exact this
  rcases Nat.lt_trichotomy m a with q | q | q
  · have : (s.take (l.length / 2 + 1)).count a = 0 := List.count_eq_zero.mpr fun z => by
      have := le a z
      omega
    have h3 := List.count_le_length (a := a) (l := s.drop (l.length / 2 + 1))
    rw [List.length_drop] at h3
    omega
  · exact q
  · have : (s.drop (l.length / 2)).count a = 0 := List.count_eq_zero.mpr fun z => by
      have := ge a z
      omega
    have h3 := List.count_le_length (a := a) (l := s.take (l.length / 2))
    rw [List.length_take] at h3
    omega
section
variable {M : Mach}
/-- the copies' states behind j letters -/
def Mach.sts (M : Mach) (c : Nat) (w : List Nat) (S : List Strk) : Nat → List Nat
  | 0 => List.replicate c 0
  | j + 1 => (setAll (M.sts c w S j) (atPl S j)).map fun s => M.go s (w.getD j 0)
def Mach.hit (M : Mach) (c : Nat) (w : List Nat) (S : List Strk) (j : Nat) : List Nat := setAll (M.sts c w S j) (atPl S j)
def Mach.rgt (M : Mach) (w : List Nat) (j : Nat) : Nat := M.led 0 (w.take j)
def Mach.giv (M : Mach) (c : Nat) (w : List Nat) (S : List Strk) (j : Nat) : List Nat := (M.hit c w S j).map fun s => M.out s (w.getD j 0)
theorem Mach.sts_len (c : Nat) (w : List Nat) (S : List Strk) : ∀ j, (M.sts c w S j).length = c
  | 0 => by unfold Mach.sts; rw [List.length_replicate]
  | j + 1 => by
    unfold Mach.sts
    rw [List.length_map, setAll_len, Mach.sts_len]
theorem Mach.hit_len (c : Nat) (w : List Nat) (S : List Strk) (j : Nat) : (M.hit c w S j).length = c := by
  unfold Mach.hit
  rw [setAll_len, M.sts_len]
theorem Mach.giv_len (c : Nat) (w : List Nat) (S : List Strk) (j : Nat) : (M.giv c w S j).length = c := by
  unfold Mach.giv
  rw [List.length_map, M.hit_len]
theorem Mach.rgt_succ {w : List Nat} {j a : Nat} (h : w[j]? = some a) : M.rgt w (j + 1) = M.go (M.rgt w j) a := by
  unfold Mach.rgt
  rw [take_succ' h, M.led_append]
  rfl
structure Mach.Strs (M : Mach) (c : Nat) (S : List Strk) : Prop where
  asc : S.Pairwise fun a b => a.1 < b.1
  pl : ∀ s ∈ S, s.1 ≤ 4000
  ne : ∀ s ∈ S, s.2 ≠ []
  pu : ∀ s ∈ S, s.2.Pairwise fun a b => a.1 < b.1
  ok : ∀ s ∈ S, ∀ p ∈ s.2, p.1 < c ∧ p.2 < M.st.length
theorem Mach.Strs.at_ok {c : Nat} {S : List Strk} (T : M.Strs c S) {j : Nat} : ∀ p ∈ atPl S j, p.1 < c ∧ p.2 < M.st.length := fun p hp => by
  obtain ⟨s, hs, _, h⟩ := atPl_mem hp
  exact T.ok s hs p h
theorem Mach.sts_lt (ok : M.Ok) {c : Nat} {w : List Nat} {S : List Strk} (T : M.Strs c S) : ∀ j, (∀ i a, i < j → w[i]? = some a → a < M.k) → j ≤ w.length → (∀ x ∈ M.sts c w S j, x < M.st.length) ∧ ∀ x ∈ M.hit c w S j, x < M.st.length := fun j => by
  have hitl : ∀ st : List Nat, (∀ x ∈ st, x < M.st.length) → ∀ x ∈ setAll st (atPl S j), x < M.st.length := fun st h x hx => by
    obtain ⟨i, hi⟩ := List.mem_iff_getElem?.mp hx
    rcases setAll_get _ _ _ _ hi with h1 | ⟨p, hp, _, rfl⟩
    · exact h x (List.mem_of_getElem? h1)
    · exact (T.at_ok p hp).2
  induction j with
  | zero =>
    intro _ _
    have h0 : ∀ x ∈ M.sts c w S 0, x < M.st.length := fun x hx => by
      have : x = 0 := List.eq_of_mem_replicate hx
      have := ok.n1
      omega
    exact ⟨h0, hitl _ h0⟩
  | succ j ih =>
    intro hw hl
    have hj : j < w.length := by omega
    have wj : w[j]? = some w[j] := List.getElem?_eq_getElem hj
    have ha := hw j _ (by omega) wj
    have hitl' : ∀ x ∈ M.hit c w S j, x < M.st.length := by
      have h1 := (ih (fun st h x hx => by
        obtain ⟨i, hi⟩ := List.mem_iff_getElem?.mp hx
        rcases setAll_get _ _ _ _ hi with h1 | ⟨p, hp, _, rfl⟩
        · exact h x (List.mem_of_getElem? h1)
        · exact (T.at_ok p hp).2) (fun i a hi => hw i a (by omega)) (by omega))
      exact h1.2
    have h0 : ∀ x ∈ M.sts c w S (j + 1), x < M.st.length := fun x hx => by
      unfold Mach.sts at hx
      obtain ⟨s, hs, rfl⟩ := List.mem_map.mp hx
      rw [getD_of wj]
      exact M.go_lt ok (hitl' s hs) ha
    exact ⟨h0, hitl _ h0⟩
/-- whence a copy's state comes -/
def Mach.Whence (M : Mach) (w : List Nat) (S : List Strk) (j i q : Nat) : Prop := ∃ t z, t ≤ j ∧ z < M.st.length ∧ q = M.led z ((w.drop t).take (j - t)) ∧ (z = M.rgt w t ∨ ∃ s ∈ S, s.1 = t ∧ ∃ p ∈ s.2, p.1 = i)
theorem Mach.rgt_lt (ok : M.Ok) {w : List Nat} (hw : M.Letters w) (j : Nat) : M.rgt w j < M.st.length := M.led_lt ok ok.n1 fun x hx => hw x (List.mem_of_mem_take hx)
theorem Mach.whence (ok : M.Ok) {c : Nat} {w : List Nat} {S : List Strk} (T : M.Strs c S) (hw : M.Letters w) : ∀ j, j ≤ w.length → (∀ i q, (M.sts c w S j)[i]? = some q → M.Whence w S j i q) ∧ ∀ i q, (M.hit c w S j)[i]? = some q → M.Whence w S j i q := fun j => by
  have up_ : ∀ j, (∀ i q, (M.sts c w S j)[i]? = some q → M.Whence w S j i q) → ∀ i q, (M.hit c w S j)[i]? = some q → M.Whence w S j i q := fun j h i q hq => by
    rcases setAll_get _ _ _ _ hq with h1 | ⟨p, hp, rfl, rfl⟩
    · exact h i q h1
    · obtain ⟨s, hs, e, hp'⟩ := atPl_mem hp
      exact ⟨j, p.2, Nat.le_refl _, (T.at_ok p hp).2, by rw [Nat.sub_self]; rfl, .inr ⟨s, hs, e, p, hp', rfl⟩⟩
  induction j with
  | zero =>
    intro _
    have h0 : ∀ i q, (M.sts c w S 0)[i]? = some q → M.Whence w S 0 i q := fun i q hq => by
      have : q = 0 := List.eq_of_mem_replicate (List.mem_of_getElem? hq)
      subst this
      exact ⟨0, 0, Nat.le_refl _, ok.n1, rfl, .inl rfl⟩
    exact ⟨h0, up_ 0 h0⟩
  | succ j ih =>
    intro hl
    have hj : j < w.length := by omega
    have wj : w[j]? = some w[j] := List.getElem?_eq_getElem hj
    have h0 : ∀ i q, (M.sts c w S (j + 1))[i]? = some q → M.Whence w S (j + 1) i q := fun i q hq => by
      unfold Mach.sts at hq
      rw [List.getElem?_map] at hq
      cases e : (setAll (M.sts c w S j) (atPl S j))[i]? with
      | none => rw [e] at hq; cases hq
      | some q0 =>
        rw [e] at hq
        have hq' : M.go q0 (w.getD j 0) = q := Option.some.inj hq
        rw [getD_of wj] at hq'
        obtain ⟨t, z, ht, hz, e1, hh⟩ := (ih (by omega)).2 i q0 e
        refine ⟨t, z, by omega, hz, ?_, hh⟩
        rw [← hq', e1, show j + 1 - t = (j - t) + 1 by omega, take_succ' (x := w[j]) (by rw [List.getElem?_drop, show t + (j - t) = j by omega]; exact wj), M.led_append]
        rfl
    exact ⟨h0, up_ _ h0⟩
theorem Mach.led_rgt {w : List Nat} {t j : Nat} (h : t ≤ j) (hj : j ≤ w.length) : M.led (M.rgt w t) ((w.drop t).take (j - t)) = M.rgt w j := by
  unfold Mach.rgt
  rw [← M.led_append]
  congr 1
  rw [List.take_drop, show t + (j - t) = j by omega]
  have : w.take t = (w.take j).take t := by rw [List.take_take, Nat.min_eq_left h]
  rw [this, List.take_append_drop]
/-- the copies pushed of late -/
def recent (S : List Strk) (d j : Nat) : List Strk := S.filter fun s => decide (s.1 ≤ j) && decide (j < s.1 + d)
theorem Mach.fair (ok : M.Ok) {c d : Nat} {w : List Nat} {S : List Strk} (T : M.Strs c S) (hw : M.Letters w) (hL : M.LateIs (some d)) {j i q : Nat} (hj : j < w.length) (hq : (M.hit c w S j)[i]? = some q) (hi : i ∉ (recent S d j).flatMap fun s => s.2.map (·.1)) : M.out q (w.getD j 0) = M.out (M.rgt w j) (w.getD j 0) := by
  have wj : w[j]? = some w[j] := List.getElem?_eq_getElem hj
  rw [getD_of wj]
  obtain ⟨t, z, ht, hz, rfl, hh⟩ := (M.whence ok T hw j (by omega)).2 i q hq
  rcases hh with rfl | ⟨s, hs, e, p, hp, rfl⟩
  · rw [M.led_rgt ht (by omega)]
  · rw [← M.led_rgt ht (by omega)]
    have hd : ¬ j < t + d := fun z => hi (List.mem_flatMap.mpr ⟨s, List.mem_filter.mpr ⟨hs, by rw [e, decide_eq_true ht, decide_eq_true z]; rfl⟩, List.mem_map.mpr ⟨p, hp, rfl⟩⟩)
    refine hL.alike hz (M.rgt_lt ok hw t) (u := (w.drop t).take (j - t)) (a := w[j]) (fun x hx => ?_) ?_
    · rcases List.mem_append.mp hx with h | h
      · exact hw x (List.mem_of_mem_drop (List.mem_of_mem_take h))
      · rw [List.mem_singleton] at h
        rw [h]
        exact hw _ (List.getElem_mem hj)
    · rw [List.length_take, List.length_drop]
      omega
theorem count_bad {l : List Nat} {a : Nat} {B : List Nat} (h : ∀ i x, l[i]? = some x → i ∉ B → x = a) : l.length ≤ l.count a + B.length := by
  have key : ∀ (l : List Nat) (f : Nat → Bool), (∀ i x, l[i]? = some x → f i = false → x = a) → l.length ≤ l.count a + ((List.range l.length).filter f).length := fun l => by
    refine snoc_ind (P := fun l => ∀ f : Nat → Bool, (∀ i x, l[i]? = some x → f i = false → x = a) → l.length ≤ l.count a + ((List.range l.length).filter f).length) (fun f _ => by simp) (fun l x ih f h => ?_) l
    have h1 := ih f fun i y hy => h i y (by rw [List.getElem?_append_left (List.getElem?_eq_some_iff.mp hy).1]; exact hy)
    have h2 := h l.length x (by rw [List.getElem?_append_right (Nat.le_refl _)]; simp)
    rw [List.length_append, List.length_singleton, List.range_succ, List.filter_append, List.length_append, List.count_append]
    cases hf : f l.length with
    | true =>
      rw [List.filter_cons, if_pos hf]
      simp only [List.filter_nil, List.length_singleton]
      omega
    | false =>
      rw [h2 hf]
      simp
      omega
  have h1 := key l (fun i => decide (i ∈ B)) fun i x hx hf => h i x hx (of_decide_eq_false hf)
  have h2 : ((List.range l.length).filter fun i => decide (i ∈ B)).length ≤ B.length := nodup_le (List.nodup_range.filter _) fun i hi => of_decide_eq_true (List.mem_filter.mp hi).2
  omega
theorem gaps {S : List Strk} {g d j : Nat} (hg : 1 ≤ g) (hS : S.Pairwise fun a b => a.1 + g ≤ b.1) : (recent S d j).length ≤ up d g := by
  have hF : (recent S d j).Pairwise fun a b => a.1 + g ≤ b.1 := hS.filter _
  have hm : ∀ s ∈ recent S d j, s.1 ≤ j ∧ j < s.1 + d := fun s hs => by
    have := (List.mem_filter.mp hs).2
    rw [Bool.and_eq_true] at this
    exact ⟨of_decide_eq_true this.1, of_decide_eq_true this.2⟩
  generalize recent S d j = F at hF hm
  cases F with
  | nil => exact Nat.zero_le _
  | cons x F =>
    have far : ∀ (F : List Strk) (x : Strk), (x :: F).Pairwise (fun a b => a.1 + g ≤ b.1) → ∃ y ∈ x :: F, x.1 + F.length * g ≤ y.1 := fun F => by
      induction F with
      | nil => exact fun x _ => ⟨x, List.mem_cons_self, by simp⟩
      | cons z F ih =>
        intro x h
        have hx := List.pairwise_cons.mp h
        obtain ⟨y, hy, h2⟩ := ih z hx.2
        have := hx.1 z List.mem_cons_self
        refine ⟨y, List.mem_cons_of_mem _ hy, ?_⟩
        rw [List.length_cons, Nat.succ_mul]
        omega
    obtain ⟨y, hy, h2⟩ := far F x hF
    have h3 := hm x List.mem_cons_self
    have h4 := hm y hy
    rw [List.length_cons]
    apply Classical.byContradiction
    intro z
    have := (up_le (a := d) (b := g) (m := F.length) hg).mp (by omega)
    omega
/-- where the copies are enough, the vote is right -/
theorem Mach.vote_right (ok : M.Ok) {c p g : Nat} {o : Option Nat} {w : List Nat} {S : List Strk} (T : M.Strs c S) (hw : M.Letters w) (hL : M.LateIs o) (hg : 1 ≤ g) (hp : ∀ s ∈ S, s.2.length ≤ p) (hS : S.Pairwise fun a b => a.1 + g ≤ b.1) {m : Nat} (hm : needed o p g = some m) (hc : m ≤ c) {j : Nat} (hj : j < w.length) :
    voteOf (M.giv c w S j) = some (M.out (M.rgt w j) (w.getD j 0)) := by
  have hb : ∃ B : List Nat, 2 * B.length < c ∧ ∀ i q, (M.hit c w S j)[i]? = some q → i ∉ B → M.out q (w.getD j 0) = M.out (M.rgt w j) (w.getD j 0) := by
    unfold needed at hm
    by_cases h0 : p = 0
    · rw [if_pos h0] at hm
      have := Option.some.inj hm
      refine ⟨[], by show 2 * 0 < c; omega, fun i q hq _ => ?_⟩
      obtain ⟨t, z, ht, hz, rfl, hh⟩ := (M.whence ok T hw j (by omega)).2 i q hq
      rcases hh with rfl | ⟨s, hs, e, x, hx, rfl⟩
      · rw [M.led_rgt ht (by omega)]
      · have := hp s hs
        have : s.2 = [] := List.length_eq_zero_iff.mp (by omega)
        rw [this] at hx
        simp at hx
    · rw [if_neg h0] at hm
      cases o with
      | none => cases hm
      | some d =>
        have hm' : 2 * p * up d g + 1 = m := Option.some.inj hm
        refine ⟨(recent S d j).flatMap fun s => s.2.map (·.1), ?_, fun i q hq hi => M.fair ok T hw hL hj hq hi⟩
        have hr := gaps (d := d) (j := j) hg hS
        have hsub : ∀ s ∈ recent S d j, s.2.length ≤ p := fun s hs => hp s (List.mem_filter.mp hs).1
        have hlen : ((recent S d j).flatMap fun s => s.2.map (·.1)).length ≤ (recent S d j).length * p := by
          generalize recent S d j = F at hsub
          induction F with
          | nil => simp
          | cons x F ih =>
            rw [List.flatMap_cons, List.length_append, List.length_map, List.length_cons, Nat.succ_mul]
            have := ih fun s hs => hsub s (List.mem_cons_of_mem _ hs)
            have := hsub x List.mem_cons_self
            omega
        have : (recent S d j).length * p ≤ up d g * p := Nat.mul_le_mul_right p hr
        have e : 2 * p * up d g = 2 * (up d g * p) := by rw [Nat.mul_assoc, Nat.mul_comm p]
        omega
  obtain ⟨B, h1, h2⟩ := hb
  refine voteOf_of ?_
  have h3 := count_bad (l := M.giv c w S j) (a := M.out (M.rgt w j) (w.getD j 0)) (B := B) fun i x hx hi => by
    unfold Mach.giv at hx
    rw [List.getElem?_map] at hx
    cases e : (M.hit c w S j)[i]? with
    | none => rw [e] at hx; cases hx
    | some q =>
      rw [e] at hx
      rw [← Option.some.inj hx]
      exact h2 i q e hi
  rw [M.giv_len] at h3 ⊢
  omega
end
end M1
namespace M1
/-! ### stories: letters and strikes by which the vote isn't right -/
section
variable {M : Mach}
theorem setAll_put (ps : List (Nat × Nat)) : ∀ (st : List Nat) (q : Nat × Nat), q ∈ ps → (∀ r ∈ ps, r.1 = q.1 → r.2 = q.2) → q.1 < st.length → (setAll st ps)[q.1]? = some q.2 := by
  refine snoc_ind (P := fun ps => ∀ (st : List Nat) (q : Nat × Nat), q ∈ ps → (∀ r ∈ ps, r.1 = q.1 → r.2 = q.2) → q.1 < st.length → (setAll st ps)[q.1]? = some q.2) (fun _ _ h => by simp at h) (fun ps p ih st q hq hf hl => ?_) ps
  rw [setAll_snoc]
  have hlen := setAll_len ps st
  by_cases e : p.1 = q.1
  · have := hf p (List.mem_append_right _ (List.mem_singleton.mpr rfl)) e
    rw [← e, ← this, List.getElem?_set_self (by omega)]
  · rw [List.getElem?_set_ne e]
    rcases List.mem_append.mp hq with h | h
    · exact ih st q h (fun r hr => hf r (List.mem_append_left _ hr)) hl
    · rw [List.mem_singleton] at h
      rw [h] at e
      exact absurd rfl e
theorem atPl_of {S : List Strk} {s : Strk} (hS : S.Pairwise fun a b => a.1 < b.1) (hs : s ∈ S) : atPl S s.1 = s.2 := by
  induction S with
  | nil => simp at hs
  | cons x S ih =>
    have hx := List.pairwise_cons.mp hS
    rcases List.mem_cons.mp hs with rfl | h
    · unfold atPl
      rw [List.find?_cons_of_pos (by simp)]
    · have : x.1 ≠ s.1 := by
        have := hx.1 s h
        omega
      have e : atPl (x :: S) s.1 = atPl S s.1 := by
        unfold atPl
        rw [List.find?_cons_of_neg (by simpa using this)]
      rw [e]
      exact ih hx.2 h
/-- a copy that nobody pushes goes on by the letters -/
theorem Mach.stay {c : Nat} {w : List Nat} {S : List Strk} {i t z : Nat} (h0 : (M.hit c w S t)[i]? = some z) : ∀ d, t + d < w.length → (∀ s ∈ S, t < s.1 → s.1 ≤ t + d → ∀ p ∈ s.2, p.1 ≠ i) → (M.hit c w S (t + d))[i]? = some (M.led z ((w.drop t).take d)) := fun d => by
  induction d with
  | zero => intro _ _; exact h0
  | succ d ih =>
    intro hl hn
    have h1 := ih (by omega) fun s hs a b => hn s hs a (by omega)
    have wj : w[t + d]? = some w[t + d] := List.getElem?_eq_getElem (by omega)
    have h2 : (M.sts c w S (t + d + 1))[i]? = some (M.go (M.led z ((w.drop t).take d)) w[t + d]) := by
      show ((M.hit c w S (t + d)).map fun s => M.go s (w.getD (t + d) 0))[i]? = _
      rw [List.getElem?_map, h1, getD_of wj]
      rfl
    show (setAll (M.sts c w S (t + d + 1)) (atPl S (t + d + 1)))[i]? = _
    rw [setAll_same _ _ _ fun p hp => by
      obtain ⟨s, hs, e, hp'⟩ := atPl_mem hp
      exact hn s hs (by omega) (by omega) p hp', h2, take_succ' (x := w[t + d]) (by rw [List.getElem?_drop]; exact wj), M.led_append]
    rfl
/-- a copy that nobody pushes is where the right one is -/
theorem Mach.untouched (ok : M.Ok) {c : Nat} {w : List Nat} {S : List Strk} (T : M.Strs c S) (hw : M.Letters w) {i j : Nat} (hi : i < c) (hj : j ≤ w.length) (hn : ∀ s ∈ S, ∀ p ∈ s.2, p.1 ≠ i) : (M.hit c w S j)[i]? = some (M.rgt w j) := by
  have hl := M.hit_len c w S j
  obtain ⟨q, hq⟩ : ∃ q, (M.hit c w S j)[i]? = some q := ⟨_, List.getElem?_eq_getElem (by omega)⟩
  obtain ⟨t, z, ht, hz, rfl, hh⟩ := (M.whence ok T hw j hj).2 i q hq
  rcases hh with rfl | ⟨s, hs, e, p, hp, he⟩
  · rw [hq, M.led_rgt ht hj]
  · exact absurd he (hn s hs p hp)
def chunk (cs : List Nat) (p b : Nat) : List Nat := (cs.drop (b * p)).take p
theorem mem_chunk {cs : List Nat} {p b i : Nat} : i ∈ chunk cs p b ↔ ∃ j, cs[j]? = some i ∧ b * p ≤ j ∧ j < b * p + p := by
  unfold chunk
  rw [List.mem_iff_getElem?]
  constructor
  · rintro ⟨n, hn⟩
    have hlt : n < p := by
      have := (List.getElem?_eq_some_iff.mp hn).1
      rw [List.length_take] at this
      omega
    rw [List.getElem?_take_of_lt hlt, List.getElem?_drop] at hn
    exact ⟨_, hn, by omega, by omega⟩
  · rintro ⟨j, hj, h1, h2⟩
    refine ⟨j - b * p, ?_⟩
    rw [List.getElem?_take_of_lt (by omega), List.getElem?_drop, show b * p + (j - b * p) = j by omega]
    exact hj
/-- what a story is -/
structure Mach.Story (M : Mach) (cs : List Nat) (p g : Nat) (u : List Nat) (s : Nat) (wd : List Nat) (S : List Strk) : Prop where
  len : S.length = up cs.length p
  at_ : ∀ b, b < up cs.length p → ∃ ps, S[up cs.length p - 1 - b]? = some (u.length + (wd.length - 1 - b * g), ps) ∧ (ps.map (·.1)).Perm (chunk cs p b) ∧ ps.Pairwise (fun x y => x.1 < y.1) ∧ ∀ q ∈ ps, q.2 = M.led s (wd.take (wd.length - 1 - b * g))
variable {cs u wd : List Nat} {p g s c : Nat} {S : List Strk}
theorem Mach.Story.mem (h : M.Story cs p g u s wd S) {x : Strk} (hx : x ∈ S) : ∃ b, b < up cs.length p ∧ S[up cs.length p - 1 - b]? = some x ∧ x.1 = u.length + (wd.length - 1 - b * g) ∧ (x.2.map (·.1)).Perm (chunk cs p b) ∧ x.2.Pairwise (fun x y => x.1 < y.1) ∧ ∀ q ∈ x.2, q.2 = M.led s (wd.take (wd.length - 1 - b * g)) := by
  obtain ⟨n, hn⟩ := List.mem_iff_getElem?.mp hx
  have hlt := (List.getElem?_eq_some_iff.mp hn).1
  rw [h.len] at hlt
  obtain ⟨ps, h1, h2, h3, h4⟩ := h.at_ (up cs.length p - 1 - n) (by omega)
  rw [show up cs.length p - 1 - (up cs.length p - 1 - n) = n by omega] at h1
  have e := hn.symm.trans h1
  refine ⟨up cs.length p - 1 - n, by omega, by rw [show up cs.length p - 1 - (up cs.length p - 1 - n) = n by omega]; exact hn, ?_⟩
  rw [Option.some.inj e]
  exact ⟨rfl, h2, h3, h4⟩
theorem Mach.Story.gap (h : M.Story cs p g u s wd S) (hl : (up cs.length p - 1) * g + 1 ≤ wd.length) : S.Pairwise fun a b => a.1 + g ≤ b.1 := by
  rw [List.pairwise_iff_getElem]
  intro i j hi hj hij
  rw [h.len] at hi hj
  obtain ⟨ps, h1, _⟩ := h.at_ (up cs.length p - 1 - i) (by omega)
  obtain ⟨qs, h2, _⟩ := h.at_ (up cs.length p - 1 - j) (by omega)
  rw [show up cs.length p - 1 - (up cs.length p - 1 - i) = i by omega] at h1
  rw [show up cs.length p - 1 - (up cs.length p - 1 - j) = j by omega] at h2
  rw [(List.getElem?_eq_some_iff.mp h1).2, (List.getElem?_eq_some_iff.mp h2).2]
  show u.length + _ + g ≤ u.length + _
  have a1 : (up cs.length p - 1 - j) * g + g ≤ (up cs.length p - 1 - i) * g := by
    rw [← Nat.succ_mul]
    exact Nat.mul_le_mul_right g (by omega)
  have a2 : (up cs.length p - 1 - i) * g ≤ (up cs.length p - 1) * g := Nat.mul_le_mul_right g (by omega)
  omega
theorem Mach.Story.few (h : M.Story cs p g u s wd S) : ∀ x ∈ S, x.2.length ≤ p := fun x hx => by
  obtain ⟨b, _, _, _, h2, _⟩ := h.mem hx
  have := h2.length_eq
  rw [List.length_map] at this
  rw [this]
  unfold chunk
  rw [List.length_take]
  omega
theorem up_mul {a b : Nat} (hb : 1 ≤ b) : a ≤ up a b * b := (up_le hb).mp (Nat.le_refl _)
theorem up_lt {a b n : Nat} (hb : 1 ≤ b) (h : n < up a b) : n * b < a := Classical.byContradiction fun z => by
  have := (up_le (a := a) (m := n) hb).mpr (by omega)
  omega
theorem Mach.Story.strs (ok : M.Ok) (h : M.Story cs p g u s wd S) (hp : 1 ≤ p) (hg : 1 ≤ g) (hl : (up cs.length p - 1) * g + 1 ≤ wd.length) (hw : u.length + wd.length ≤ 4001) (hc : ∀ i ∈ cs, i < c) (hs : s < M.st.length) (lw : M.Letters wd) : M.Strs c S where
  asc := (h.gap hl).imp fun q => by omega
  pl := fun x hx => by
    obtain ⟨b, _, _, e, _⟩ := h.mem hx
    omega
  ne := fun x hx => by
    obtain ⟨b, hb, _, _, h2, _⟩ := h.mem hx
    intro e
    have := h2.length_eq
    rw [e] at this
    unfold chunk at this
    rw [List.length_take, List.length_drop] at this
    have := up_lt hp hb
    simp at *
    omega
  pu := fun x hx => by
    obtain ⟨b, _, _, _, _, h3, _⟩ := h.mem hx
    exact h3
  ok := fun x hx q hq => by
    obtain ⟨b, _, _, _, h2, _, h4⟩ := h.mem hx
    have m : q.1 ∈ chunk cs p b := h2.mem_iff.mp (List.mem_map.mpr ⟨q, hq, rfl⟩)
    obtain ⟨j, hj, _⟩ := mem_chunk.mp m
    refine ⟨hc _ (List.mem_of_getElem? hj), ?_⟩
    rw [h4 q hq]
    exact M.led_lt ok hs fun y hy => lw y (List.mem_of_mem_take hy)
/-- the listed copies are led as the state told, the others as the right one -/
theorem Mach.Story.ends (ok : M.Ok) (h : M.Story cs p g u s wd S) (hp : 1 ≤ p) (hg : 1 ≤ g) (hl : (up cs.length p - 1) * g + 1 ≤ wd.length) (hw : u.length + wd.length ≤ 4001) (hc : ∀ i ∈ cs, i < c) (hnd : cs.Nodup) (hs : s < M.st.length) (lu : M.Letters u) (lw : M.Letters wd) {i : Nat} (hi : i < c) :
    (M.hit c (u ++ wd) S (u.length + (wd.length - 1)))[i]? = some (if i ∈ cs then M.led s (wd.take (wd.length - 1)) else M.led (M.led 0 u) (wd.take (wd.length - 1))) := by
  have T := h.strs (c := c) ok hp hg hl hw hc hs lw
  have hlen : (u ++ wd).length = u.length + wd.length := List.length_append
  by_cases m : i ∈ cs
  · rw [if_pos m]
    obtain ⟨j, hj⟩ := List.mem_iff_getElem?.mp m
    have hjl := (List.getElem?_eq_some_iff.mp hj).1
    have hp0 : 0 < p := hp
    have hd := Nat.div_add_mod j p
    have hm := Nat.mod_lt j hp0
    have hbp : j / p * p = p * (j / p) := Nat.mul_comm _ _
    have hb : j / p < up cs.length p := Classical.byContradiction fun z => by
      have := (up_le (a := cs.length) (b := p) (m := j / p) hp).mp (by omega)
      omega
    obtain ⟨ps, h1, h2, h3, h4⟩ := h.at_ (j / p) hb
    have mi : i ∈ chunk cs p (j / p) := mem_chunk.mpr ⟨j, hj, by omega, by omega⟩
    obtain ⟨q, hq, hqi⟩ := List.mem_map.mp (h2.mem_iff.mpr mi)
    have hbg : (j / p) * g ≤ (up cs.length p - 1) * g := Nat.mul_le_mul_right g (by omega)
    generalize hpl : wd.length - 1 - j / p * g = pl at h1 h4
    have hat : atPl S (u.length + pl) = ps := atPl_of (s := (u.length + pl, ps)) T.asc (List.mem_of_getElem? h1)
    have hq2 := h4 q hq
    have h0 : (M.hit c (u ++ wd) S (u.length + pl))[i]? = some (M.led s (wd.take pl)) := by
      show (setAll _ (atPl S (u.length + pl)))[i]? = _
      have := setAll_put ps (M.sts c (u ++ wd) S (u.length + pl)) q hq (fun r hr _ => by rw [h4 r hr, hq2]) (by rw [M.sts_len, hqi]; exact hi)
      rw [hat, ← hq2, ← this, hqi]
    have hst := M.stay h0 (wd.length - 1 - pl) (by rw [hlen]; omega) fun x hx g1 g2 r hr e => by
      obtain ⟨b', hb', _, e1, k2, _⟩ := h.mem hx
      have mr : i ∈ chunk cs p b' := k2.mem_iff.mp (List.mem_map.mpr ⟨r, hr, e⟩)
      obtain ⟨j', hj', a1, a2⟩ := mem_chunk.mp mr
      have ej : j' = j := by
        have x1 := List.getElem?_eq_some_iff.mp hj
        have x2 := List.getElem?_eq_some_iff.mp hj'
        have pw := List.pairwise_iff_getElem.mp hnd
        rcases Nat.lt_trichotomy j' j with q | q | q
        · exact absurd (x2.2.trans x1.2.symm) (pw j' j x2.1 x1.1 q)
        · exact q
        · exact absurd (x1.2.trans x2.2.symm) (pw j j' x1.1 x2.1 q)
      have : b' = j / p := by
        rw [ej] at a1 a2
        exact (Nat.div_eq_of_lt_le (by omega) (by rw [Nat.succ_mul]; omega)).symm
      rw [this, hpl] at e1
      omega
    rw [show u.length + pl + (wd.length - 1 - pl) = u.length + (wd.length - 1) by omega] at hst
    rw [hst]
    congr 1
    rw [← M.led_append]
    congr 1
    rw [List.drop_append, List.drop_eq_nil_of_le (show u.length ≤ u.length + pl by omega), List.nil_append, show u.length + pl - u.length = pl by omega]
    rw [show wd.length - 1 = pl + (wd.length - 1 - pl) by omega, List.take_add]
    congr 2
    omega
  · rw [if_neg m, M.untouched ok T (fun x hx => (List.mem_append.mp hx).elim (lu x) (lw x)) hi (by rw [hlen]; omega) fun x hx r hr e => by
      obtain ⟨b', hb', _, e1, k2, _⟩ := h.mem hx
      have mr : i ∈ chunk cs p b' := k2.mem_iff.mp (List.mem_map.mpr ⟨r, hr, e⟩)
      obtain ⟨j', hj', _⟩ := mem_chunk.mp mr
      exact m (List.mem_of_getElem? hj')]
    unfold Mach.rgt
    rw [← M.led_append]
    congr 2
    rw [List.take_append, List.take_of_length_le (by omega), show u.length + (wd.length - 1) - u.length = wd.length - 1 by omega]
theorem count_idx (l : List Nat) (a : Nat) : l.count a = ((List.range l.length).filter fun i => l[i]? == some a).length := by
  refine snoc_ind (P := fun l => l.count a = ((List.range l.length).filter fun i => l[i]? == some a).length) rfl (fun l x ih => ?_) l
  rw [List.count_append, List.length_append, List.length_singleton, List.range_succ, List.filter_append, List.length_append]
  have e1 : (List.range l.length).filter (fun i => (l ++ [x])[i]? == some a) = (List.range l.length).filter (fun i => l[i]? == some a) := by
    refine List.filter_congr fun i hi => ?_
    rw [List.getElem?_append_left (List.mem_range.mp hi)]
  rw [e1, ← ih]
  congr 1
  by_cases h : x = a
  · subst h; simp
  · simp [h]
theorem count_out {l : List Nat} {a : Nat} {cs : List Nat} (hn : cs.Nodup) (hl : ∀ i ∈ cs, i < l.length) (h : ∀ i ∈ cs, l[i]? ≠ some a) : l.count a + cs.length ≤ l.length := by
  rw [count_idx, ← List.length_append]
  have := nodup_le (l := ((List.range l.length).filter fun i => l[i]? == some a) ++ cs) (m := List.range l.length) ?_ ?_
  · rw [List.length_range] at this
    exact this
  · rw [List.nodup_append]
    refine ⟨List.Pairwise.filter _ List.nodup_range, hn, fun x hx y hy e => ?_⟩
    subst e
    have := (List.mem_filter.mp hx).2
    exact h x hy (by simpa using this)
  · intro x hx
    rcases List.mem_append.mp hx with q | q
    · exact (List.mem_filter.mp q).1
    · exact List.mem_range.mpr (hl x q)
/-- at the last letter the vote isn't right -/
theorem Mach.Story.wrong (ok : M.Ok) (h : M.Story cs p g u s wd S) (hp : 1 ≤ p) (hg : 1 ≤ g) (hl : (up cs.length p - 1) * g + 1 ≤ wd.length) (hw : u.length + wd.length ≤ 4001) (hc : ∀ i ∈ cs, i < c) (hnd : cs.Nodup) (hs : s < M.st.length) (lu : M.Letters u) (lw : M.Letters wd) (hu : M.Unl (M.led 0 u) s wd) (hm : c ≤ 2 * cs.length) :
    voteOf (M.giv c (u ++ wd) S ((u ++ wd).length - 1)) ≠ some (M.out (M.rgt (u ++ wd) ((u ++ wd).length - 1)) ((u ++ wd).getD ((u ++ wd).length - 1) 0)) := by
  obtain ⟨v, a, rfl, ha⟩ := hu
  have e0 : (u ++ (v ++ [a])).length - 1 = u.length + ((v ++ [a]).length - 1) := by
    simp only [List.length_append, List.length_singleton]
    omega
  have e1 : (v ++ [a]).length - 1 = v.length := by simp
  have e2 : (v ++ [a]).take v.length = v := by rw [List.take_append_of_le_length (Nat.le_refl _), List.take_length]
  have e3 : (u ++ (v ++ [a])).getD (u.length + v.length) 0 = a := by
    rw [List.getD_eq_getElem?_getD, List.getElem?_append_right (by omega), show u.length + v.length - u.length = v.length by omega, List.getElem?_append_right (Nat.le_refl _), Nat.sub_self]
    rfl
  have e4 : M.rgt (u ++ (v ++ [a])) (u.length + v.length) = M.led (M.led 0 u) v := by
    unfold Mach.rgt
    rw [← M.led_append, List.take_append, List.take_of_length_le (by omega), show u.length + v.length - u.length = v.length by omega, e2]
  have hE := fun i hi => h.ends (c := c) ok hp hg hl hw hc hnd hs lu lw (i := i) hi
  rw [e1] at hE
  rw [e2] at hE
  rw [e0, e1, e3, e4]
  intro z
  have hv := voteOf_some z
  have hg' : ∀ i ∈ cs, (M.giv c (u ++ (v ++ [a])) S (u.length + v.length))[i]? ≠ some (M.out (M.led (M.led 0 u) v) a) := fun i hi q => by
    unfold Mach.giv at q
    rw [List.getElem?_map, hE i (hc i hi), if_pos hi, e3] at q
    exact ha (Option.some.inj q).symm
  have hgl := M.giv_len c (u ++ (v ++ [a])) S (u.length + v.length)
  have := count_out hnd (fun i hi => by rw [hgl]; exact hc i hi) hg'
  omega
/-- where copies are too few, the late word is long enough -/
theorem few_room {d c p g : Nat} (hp : 1 ≤ p) (hg : 1 ≤ g) (hc : 1 ≤ c) (h : c < 2 * p * up d g + 1) : (up (up c 2) p - 1) * g + 1 ≤ d := by
  have h1 : up c 2 ≤ p * up d g := (up_le (by omega)).mpr (by
    have : 2 * p * up d g = p * up d g * 2 := by rw [Nat.mul_assoc, Nat.mul_comm 2]
    omega)
  have h2 : up (up c 2) p ≤ up d g := (up_le hp).mpr (by rw [Nat.mul_comm]; exact h1)
  have h3 : 1 ≤ up c 2 := Nat.pos_of_ne_zero fun z => by
    have := (up_le (a := c) (b := 2) (m := 0) (by omega)).mp (by omega)
    omega
  have h4 : 1 ≤ up (up c 2) p := Nat.pos_of_ne_zero fun z => by
    have := (up_le (a := up c 2) (b := p) (m := 0) hp).mp (by omega)
    omega
  have := up_lt (a := d) (b := g) (n := up (up c 2) p - 1) hg (by omega)
  omega
theorem Mach.led_rep {q : Nat} {ag : List Nat} (h : M.led q ag = q) : ∀ n, M.led q (List.replicate n ag).flatten = q
  | 0 => rfl
  | n + 1 => by rw [List.replicate_succ, List.flatten_cons, M.led_append, h]; exact Mach.led_rep h n
theorem Mach.unl_rep {i j : Nat} {ag ls : List Nat} (h1 : M.led i ag = i) (h2 : M.led j ag = j) (h : M.Unl i j ls) (n : Nat) : M.Unl i j ((List.replicate n ag).flatten ++ ls) := by
  obtain ⟨u, a, rfl, ha⟩ := h
  refine ⟨(List.replicate n ag).flatten ++ u, a, by rw [List.append_assoc], ?_⟩
  rw [M.led_append, M.led_append, Mach.led_rep h1, Mach.led_rep h2]
  exact ha
end
end M1
namespace M1
/-! ### the least machine is its own least one (k09) -/
section
variable {M : Mach}
theorem Mach.least_apart (ok : M.Ok) {i j : Nat} (h : M.least.Eqv i j) : i = j := by
  have lok := Mach.least_ok (M := M) ok
  have hb := Mach.Eqv.bis _ _ h
  have hi : i < M.all.length := Mach.least_n ok ▸ hb.1
  have hj : j < M.all.length := Mach.least_n ok ▸ hb.2.1
  have ap := Mach.all_apart (M := M) ok
  obtain ⟨x, hx⟩ : ∃ x, M.all[i]? = some x := ⟨_, List.getElem?_eq_getElem hi⟩
  obtain ⟨y, hy⟩ : ∃ y, M.all[j]? = some y := ⟨_, List.getElem?_eq_getElem hj⟩
  have lx := ap.lt x (List.mem_of_getElem? hx)
  have ly := ap.lt y (List.mem_of_getElem? hy)
  have e : M.Eqv x y := by
    refine ⟨fun x y => ∃ i j, M.least.Eqv i j ∧ M.Stands i x ∧ M.Stands j y, ⟨i, j, h, ⟨x, hx, Mach.Eqv.refl ok lx⟩, ⟨y, hy, Mach.Eqv.refl ok ly⟩⟩, ?_⟩
    rintro x y ⟨i, j, hE, ⟨s, hs, es⟩, ⟨t, ht, et⟩⟩
    obtain ⟨b1, b2, b3, b4⟩ := Mach.Eqv.bis _ _ hE
    obtain ⟨s1, s2, s3, s4⟩ := Mach.Eqv.bis _ _ es
    obtain ⟨t1, t2, t3, t4⟩ := Mach.Eqv.bis _ _ et
    refine ⟨s2, t2, ?_, fun a ha => ⟨M.least.go i a, M.least.go j a, b4 a (by rw [Mach.least_k ok]; exact ha), Mach.Stands.go ok ⟨s, hs, es⟩ ha, Mach.Stands.go ok ⟨t, ht, et⟩ ha⟩⟩
    rw [← s3, ← t3, ← Mach.least_ans hs, ← Mach.least_ans ht]
    exact b3
  exact ap.only hx hy e (Mach.Eqv.refl ok ly)
theorem Mach.least_eqv (ok : M.Ok) {i j : Nat} (hj : j < M.all.length) : M.least.eqv i j = decide (i = j) := by
  have lok := Mach.least_ok (M := M) ok
  by_cases h : i = j
  · subst h
    rw [decide_eq_true rfl]
    exact Mach.eqv_iff.mpr (Mach.Eqv.refl lok (by rw [Mach.least_n ok]; exact hj))
  · rw [decide_eq_false h]
    cases e : M.least.eqv i j with
    | false => rfl
    | true => exact absurd (Mach.least_apart ok (Mach.eqv_iff.mp e)) h
theorem Mach.grow_cons (o : List Nat) (x : Nat) (r : List Nat) : M.grow o (x :: r) = M.grow (M.grow1 o x) r := rfl
theorem Mach.least_grow (ok : M.Ok) : ∀ (r o : List Nat), (∃ m, M.all = M.grow o r ++ m) → (∀ x ∈ r, x < M.st.length) → M.least.grow (List.range o.length) (r.map (M.num M.all)) = List.range (M.grow o r).length
  | [], o, _, _ => rfl
  | x :: r, o, ⟨m, e⟩, hr => by
    rw [Mach.grow_cons] at e ⊢
    rw [List.map_cons, Mach.grow_cons]
    obtain ⟨m1, e1⟩ := M.grow_pre r (M.grow1 o x)
    have ih := Mach.least_grow ok r (M.grow1 o x) ⟨m, e⟩ fun y hy => hr y (List.mem_cons_of_mem _ hy)
    by_cases h : (o.any fun y => M.eqv y x) = true
    · have g : M.grow1 o x = o := by unfold Mach.grow1; rw [if_pos h]
      rw [g] at ih e1 e ⊢
      obtain ⟨y, hy, q⟩ := List.any_eq_true.mp h
      have hex : ∃ y ∈ o, M.eqv y x = true := ⟨y, hy, q⟩
      have hn : M.num M.all x = M.num o x := by rw [e, e1, List.append_assoc]; exact M.num_pre hex
      have hl := M.num_lt hex
      have hal : o.length ≤ M.all.length := by rw [e, e1, List.append_assoc, List.length_append]; omega
      have g2 : M.least.grow1 (List.range o.length) (M.num M.all x) = List.range o.length := by
        unfold Mach.grow1
        rw [if_pos]
        refine List.any_eq_true.mpr ⟨M.num M.all x, List.mem_range.mpr (by omega), ?_⟩
        rw [Mach.least_eqv ok (by omega)]
        exact decide_eq_true rfl
      rw [g2]
      exact ih
    · have g : M.grow1 o x = o ++ [x] := by unfold Mach.grow1; rw [if_neg h]
      rw [g] at ih e1 e ⊢
      have hx := hr x List.mem_cons_self
      have hex : ∃ y ∈ o ++ [x], M.eqv y x = true := ⟨x, List.mem_append_right _ (List.mem_singleton.mpr rfl), Mach.eqv_iff.mpr (Mach.Eqv.refl ok hx)⟩
      have hn : M.num M.all x = o.length := by
        rw [e, e1, List.append_assoc, M.num_pre hex]
        have h0 : ¬ ∃ y ∈ o, M.eqv y x = true := fun ⟨y, hy, q⟩ => h (List.any_eq_true.mpr ⟨y, hy, q⟩)
        obtain ⟨y, hy, q⟩ := M.num_at hex
        have hl := M.num_lt hex
        rw [List.length_append, List.length_singleton] at hl
        by_cases hlt : M.num (o ++ [x]) x < o.length
        · rw [List.getElem?_append_left hlt] at hy
          exact absurd ⟨y, List.mem_of_getElem? hy, q⟩ h0
        · omega
      have hal : o.length + 1 ≤ M.all.length := by rw [e, e1, List.append_assoc, List.length_append, List.length_append, List.length_singleton]; omega
      have g2 : M.least.grow1 (List.range o.length) (M.num M.all x) = List.range (o ++ [x]).length := by
        rw [hn, List.length_append, List.length_singleton, List.range_succ]
        unfold Mach.grow1
        rw [if_neg]
        intro z
        obtain ⟨y, hy, q⟩ := List.any_eq_true.mp z
        rw [Mach.least_eqv ok (by omega)] at q
        have := of_decide_eq_true q
        have := List.mem_range.mp hy
        omega
      rw [g2]
      exact ih
theorem Mach.least_ord (ok : M.Ok) : ∀ i, M.least.ord i = List.range (M.ord i).length
  | 0 => rfl
  | i + 1 => by
    have ih := Mach.least_ord ok i
    cases h : (M.ord i)[i]? with
    | none =>
      have hl : (M.ord i).length ≤ i := List.getElem?_eq_none_iff.mp h
      have h1 : M.ord (i + 1) = M.ord i := Mach.ord_stop hl 1
      have h2 : M.least.ord (i + 1) = M.least.ord i := Mach.ord_stop (M := M.least) (by rw [ih, List.length_range]; exact hl) 1
      rw [h1, h2]
      exact ih
    | some s =>
      have hi : i < (M.ord i).length := (List.getElem?_eq_some_iff.mp h).1
      have h2 : (M.least.ord i)[i]? = some i := by rw [ih]; exact List.getElem?_range hi
      rw [Mach.ord_step h, Mach.ord_step h2, ih, Mach.least_row (Mach.all_at ok h)]
      refine Mach.least_grow ok (M.row s) (M.ord i) ?_ fun x hx => M.row_mem ok (Mach.ord_lt ok h) hx
      obtain ⟨m, e⟩ := Mach.all_pre (M := M) ok (i + 1)
      exact ⟨m, by rw [e, Mach.ord_step h]⟩
theorem Mach.least_all (ok : M.Ok) : M.least.all = List.range M.all.length := Mach.least_ord ok 6
theorem Mach.least_num (ok : M.Ok) {x : Nat} (hx : x < M.all.length) : M.least.num (List.range M.all.length) x = x := by
  have hex : ∃ y ∈ List.range M.all.length, M.least.eqv y x = true := ⟨x, List.mem_range.mpr hx, by rw [Mach.least_eqv ok hx]; exact decide_eq_true rfl⟩
  obtain ⟨y, hy, q⟩ := M.least.num_at hex
  have hl := M.least.num_lt hex
  rw [List.length_range] at hl
  rw [List.getElem?_range hl] at hy
  rw [Mach.least_eqv ok hx] at q
  have h1 := of_decide_eq_true q
  have h2 := Option.some.inj hy
  omega
theorem Mach.st_rows (M : Mach) : M.st = (List.range M.st.length).map M.row := by
  refine List.ext_getElem? fun i => ?_
  rw [List.getElem?_map]
  by_cases h : i < M.st.length
  · rw [List.getElem?_range h]
    exact M.row_at h
  · rw [List.getElem?_eq_none (by omega), List.getElem?_eq_none (by rw [List.length_range]; omega)]
    rfl
theorem Mach.an_rows (ok : M.Ok) : M.an = (List.range M.st.length).map M.ans := by
  refine List.ext_getElem? fun i => ?_
  rw [List.getElem?_map]
  by_cases h : i < M.st.length
  · rw [List.getElem?_range h]
    exact M.ans_at ok h
  · rw [List.getElem?_eq_none (by rw [ok.la]; omega), List.getElem?_eq_none (by rw [List.length_range]; omega)]
    rfl
theorem Mach.least_least (ok : M.Ok) : M.least.least = M.least := by
  have lok := Mach.least_ok (M := M) ok
  have h1 : M.least.least = ⟨M.least.all.map fun s => (M.least.row s).map (M.least.num M.least.all), M.least.all.map M.least.ans⟩ := rfl
  rw [h1, Mach.least_all ok]
  have e1 : (List.range M.all.length).map (fun s => (M.least.row s).map (M.least.num (List.range M.all.length))) = M.least.st := by
    rw [Mach.st_rows M.least, Mach.least_n ok]
    refine List.map_congr_left fun i hi => ?_
    have hi' := List.mem_range.mp hi
    have : ∀ x ∈ M.least.row i, M.least.num (List.range M.all.length) x = x := fun x hx => Mach.least_num ok (by rw [← Mach.least_n ok]; exact M.least.row_mem lok (by rw [Mach.least_n ok]; exact hi') hx)
    rw [List.map_congr_left this, List.map_id']
  have e2 : (List.range M.all.length).map M.least.ans = M.least.an := by
    rw [Mach.an_rows lok, Mach.least_n ok]
  rw [e1, e2]
theorem Mach.least_lateIs (ok : M.Ok) {n : Nat} {o : Option Nat} (h : M.LateIs (some n)) (h' : M.least.LateIs o) : ∃ m, o = some m ∧ m ≤ n := by
  cases o with
  | none =>
    have := (h (n + 1) (by omega)).mp (Mach.least_late ok (h' (n + 1) (by omega)))
    omega
  | some m =>
    refine ⟨m, rfl, ?_⟩
    by_cases h0 : m = 0
    · omega
    · exact (h m (by omega)).mp (Mach.least_late ok ((h' m (by omega)).mpr (Nat.le_refl _)))
theorem Mach.least_tld (ok : M.Ok) {r : List Nat} (hr : M.Letters r) {j : Nat} : M.least.tld 0 r j = M.tld 0 r j := by
  have := Mach.Stands.led ok (w := r.take j) (Mach.Stands.zero ok) fun x hx => hr x (List.mem_of_mem_take hx)
  unfold Mach.tld
  exact this.out
theorem Mach.least_le (ok : M.Ok) : M.least.st.length ≤ M.st.length := by
  rw [Mach.least_n ok]
  exact (Mach.all_apart ok).le ok
end
end M1
namespace M1
/-! ### sums, choices (k63) -/
def cho : Nat → Nat → Nat
  | _, 0 => 1
  | 0, _ + 1 => 0
  | n + 1, k + 1 => cho n k + cho n (k + 1)
theorem cho_big : ∀ {n k : Nat}, n < k → cho n k = 0
  | 0, k + 1, _ => rfl
  | n + 1, k + 1, h => by
    show cho n k + cho n (k + 1) = 0
    rw [cho_big (n := n) (k := k) (by omega), cho_big (n := n) (k := k + 1) (by omega)]
theorem cho_zero : ∀ n, cho n 0 = 1
  | 0 => rfl
  | _ + 1 => rfl
def sumTo : Nat → (Nat → Nat) → Nat
  | 0, _ => 0
  | n + 1, f => sumTo n f + f n
theorem sumTo_congr : ∀ {n : Nat} {f g : Nat → Nat}, (∀ k, k < n → f k = g k) → sumTo n f = sumTo n g
  | 0, _, _, _ => rfl
  | n + 1, f, g, h => by
    show sumTo n f + f n = sumTo n g + g n
    rw [sumTo_congr (n := n) fun k hk => h k (by omega), h n (by omega)]
theorem sumTo_add (n : Nat) (f g : Nat → Nat) : sumTo n (fun k => f k + g k) = sumTo n f + sumTo n g := by
  induction n with
  | zero => rfl
  | succ n ih =>
    show sumTo n (fun k => f k + g k) + (f n + g n) = (sumTo n f + f n) + (sumTo n g + g n)
    rw [ih]
    omega
theorem sumTo_mul (n a : Nat) (f : Nat → Nat) : sumTo n (fun k => a * f k) = a * sumTo n f := by
  induction n with
  | zero => rfl
  | succ n ih =>
    show sumTo n (fun k => a * f k) + a * f n = a * (sumTo n f + f n)
    rw [ih, Nat.mul_add]
theorem sumTo_front (n : Nat) (f : Nat → Nat) : sumTo (n + 1) f = f 0 + sumTo n (fun k => f (k + 1)) := by
  induction n with
  | zero => show 0 + f 0 = f 0 + 0; omega
  | succ n ih =>
    show sumTo (n + 1) f + f (n + 1) = f 0 + (sumTo n (fun k => f (k + 1)) + f (n + 1))
    rw [ih]
    omega
theorem sumTo_split (a n : Nat) (f : Nat → Nat) : sumTo (a + n) f = sumTo a f + sumTo n (fun k => f (a + k)) := by
  induction n with
  | zero => rfl
  | succ n ih =>
    show sumTo (a + n) f + f (a + n) = sumTo a f + (sumTo n (fun k => f (a + k)) + f (a + n))
    rw [ih]
    omega
theorem sumTo_zero {n : Nat} {f : Nat → Nat} (h : ∀ k, k < n → f k = 0) : sumTo n f = 0 := by
  induction n with
  | zero => rfl
  | succ n ih =>
    show sumTo n f + f n = 0
    rw [ih fun k hk => h k (by omega), h n (by omega)]
theorem sumTo_list (n : Nat) (f : Nat → Nat) : ((List.range n).map f).sum = sumTo n f := by
  induction n with
  | zero => rfl
  | succ n ih =>
    rw [List.range_succ, List.map_append, List.sum_append, ih]
    show sumTo n f + (f n + 0) = sumTo n f + f n
    omega
/-- over all choices, each copy R ways right and W ways wrong -/
def binS (R W c : Nat) (f : Nat → Nat) : Nat := sumTo (c + 1) fun k => cho c k * R ^ k * W ^ (c - k) * f k
theorem binS_zero (R W : Nat) (f : Nat → Nat) : binS R W 0 f = f 0 := by
  show 0 + cho 0 0 * R ^ 0 * W ^ 0 * f 0 = f 0
  simp [cho]
theorem binS_succ (R W c : Nat) (f : Nat → Nat) : binS R W (c + 1) f = binS R W c (fun k => R * f (k + 1) + W * f k) := by
  have h1 : binS R W (c + 1) f = (sumTo (c + 1) fun k => cho c k * R ^ (k + 1) * W ^ (c - k) * f (k + 1)) + (W ^ (c + 1) * f 0 + sumTo (c + 1) fun k => cho c (k + 1) * R ^ (k + 1) * W ^ (c - k) * f (k + 1)) := by
    unfold binS
    rw [sumTo_front (c + 1)]
    have e0 : cho (c + 1) 0 * R ^ 0 * W ^ (c + 1 - 0) * f 0 = W ^ (c + 1) * f 0 := by
      rw [cho_zero, Nat.pow_zero, Nat.sub_zero, Nat.one_mul]
    rw [e0]
    have e1 : (sumTo (c + 1) fun k => cho (c + 1) (k + 1) * R ^ (k + 1) * W ^ (c + 1 - (k + 1)) * f (k + 1)) = sumTo (c + 1) fun k => cho c k * R ^ (k + 1) * W ^ (c - k) * f (k + 1) + cho c (k + 1) * R ^ (k + 1) * W ^ (c - k) * f (k + 1) := by
      refine sumTo_congr fun k _ => ?_
      show (cho c k + cho c (k + 1)) * R ^ (k + 1) * W ^ (c + 1 - (k + 1)) * f (k + 1) = _
      rw [Nat.add_sub_add_right, Nat.add_mul, Nat.add_mul, Nat.add_mul]
    rw [e1, sumTo_add]
    omega
  have h2 : (W ^ (c + 1) * f 0 + sumTo (c + 1) fun k => cho c (k + 1) * R ^ (k + 1) * W ^ (c - k) * f (k + 1)) = sumTo (c + 1) fun k => cho c k * R ^ k * W ^ (c - k) * (W * f k) := by
    rw [sumTo_front c (fun k => cho c k * R ^ k * W ^ (c - k) * (W * f k))]
    have e0 : cho c 0 * R ^ 0 * W ^ (c - 0) * (W * f 0) = W ^ (c + 1) * f 0 := by
      rw [cho_zero, Nat.pow_zero, Nat.sub_zero, Nat.one_mul, Nat.pow_succ, Nat.mul_assoc]
    rw [e0]
    congr 1
    show (sumTo c fun k => cho c (k + 1) * R ^ (k + 1) * W ^ (c - k) * f (k + 1)) + cho c (c + 1) * R ^ (c + 1) * W ^ (c - c) * f (c + 1) = _
    rw [cho_big (show c < c + 1 by omega), Nat.zero_mul, Nat.zero_mul, Nat.zero_mul, Nat.add_zero]
    refine sumTo_congr fun k hk => ?_
    have e3 : W ^ (c - k) = W ^ (c - (k + 1)) * W := by rw [show c - k = (c - (k + 1)) + 1 by omega, Nat.pow_succ]
    rw [e3]
    simp only [Nat.mul_assoc]
  rw [h1, h2, ← sumTo_add]
  unfold binS
  refine sumTo_congr fun k _ => ?_
  rw [Nat.mul_add, Nat.pow_succ]
  have a1 : cho c k * (R ^ k * R) * W ^ (c - k) * f (k + 1) = cho c k * R ^ k * W ^ (c - k) * (R * f (k + 1)) := by
    simp only [Nat.mul_assoc, Nat.mul_comm, Nat.mul_left_comm]
  rw [a1]
theorem binS_const (R W : Nat) : ∀ c v, binS R W c (fun _ => v) = (R + W) ^ c * v
  | 0, v => by rw [binS_zero, Nat.pow_zero, Nat.one_mul]
  | c + 1, v => by
    rw [binS_succ, binS_const R W c (R * v + W * v), Nat.pow_succ, ← Nat.add_mul, Nat.mul_assoc]
theorem binS_none (R c : Nat) (f : Nat → Nat) : binS R 0 c f = R ^ c * f c := by
  induction c generalizing f with
  | zero => rw [binS_zero, Nat.pow_zero, Nat.one_mul]
  | succ c ih =>
    rw [binS_succ, ih, Nat.pow_succ]
    simp only [Nat.zero_mul, Nat.add_zero, Nat.mul_assoc]
/-- more than half -/
def thr (c : Nat) (k : Nat) : Nat := if c < 2 * k then 1 else 0
def tom (R W c : Nat) : Nat := binS R W c (thr c)
theorem tom_sum (R W c : Nat) : tom R W c = sumTo (c + 1 - (c / 2 + 1)) fun i => cho c (c / 2 + 1 + i) * R ^ (c / 2 + 1 + i) * W ^ (c - (c / 2 + 1 + i)) := by
  unfold tom binS
  have h : c + 1 = (c / 2 + 1) + (c + 1 - (c / 2 + 1)) := by omega
  conv => lhs; rw [h]
  rw [sumTo_split, sumTo_zero (n := c / 2 + 1), Nat.zero_add]
  · refine sumTo_congr fun i _ => ?_
    unfold thr
    rw [if_pos (by omega), Nat.mul_one]
  · intro k hk
    unfold thr
    rw [if_neg (by omega), Nat.mul_zero]
theorem thr_le (c k : Nat) : thr c k ≤ 1 := by unfold thr; split <;> omega
theorem binS_mono {R W c : Nat} {f g : Nat → Nat} (h : ∀ k, f k ≤ g k) : binS R W c f ≤ binS R W c g := by
  unfold binS
  generalize c + 1 = n
  induction n with
  | zero => exact Nat.le_refl _
  | succ n ih => exact Nat.add_le_add ih (Nat.mul_le_mul_left _ (h n))
theorem tom_le (R W c : Nat) : tom R W c ≤ (R + W) ^ c := by
  have := binS_mono (R := R) (W := W) (c := c) (thr_le c)
  rw [binS_const R W c 1, Nat.mul_one] at this
  exact this
/-! ### all rows of states, with their weights -/
abbrev Rw := List Nat × Nat
def grow (m r b t : Nat) (x : Rw) : List Rw := (x.1 ++ [r], x.2 * (b - t) * m) :: (List.range m).map fun s => (x.1 ++ [s], x.2 * t)
def rws (m r b t : Nat) : Nat → List Rw
  | 0 => [([], 1)]
  | c + 1 => (rws m r b t c).flatMap (grow m r b t)
def wsum (L : List Rw) (F : List Nat → Nat) : Nat := (L.map fun x => x.2 * F x.1).sum
theorem wsum_append (L L' : List Rw) (F : List Nat → Nat) : wsum (L ++ L') F = wsum L F + wsum L' F := by
  unfold wsum
  rw [List.map_append, List.sum_append]
theorem wsum_flat (L : List Rw) (g : Rw → List Rw) (F : List Nat → Nat) (G : List Nat → Nat) (h : ∀ x ∈ L, wsum (g x) F = x.2 * G x.1) : wsum (L.flatMap g) F = wsum L G := by
  induction L with
  | nil => rfl
  | cons x L ih =>
    rw [List.flatMap_cons, wsum_append, h x List.mem_cons_self, ih fun y hy => h y (List.mem_cons_of_mem _ hy)]
    unfold wsum
    rw [List.map_cons, List.sum_cons]
theorem rws_len {m r b t c : Nat} : ∀ x ∈ rws m r b t c, x.1.length = c := by
  induction c with
  | zero => intro x hx; rw [List.mem_singleton.mp hx]; rfl
  | succ c ih =>
    intro x hx
    obtain ⟨y, hy, hx⟩ := List.mem_flatMap.mp hx
    have := ih y hy
    rcases List.mem_cons.mp hx with e | hx
    · subst e; rw [List.length_append, this]; rfl
    · obtain ⟨s, _, rfl⟩ := List.mem_map.mp hx
      rw [List.length_append, this]; rfl
theorem rws_lt {m r b t c : Nat} (hr : r < m) : ∀ x ∈ rws m r b t c, ∀ s ∈ x.1, s < m := by
  induction c with
  | zero => intro x hx s hs; rw [List.mem_singleton.mp hx] at hs; simp at hs
  | succ c ih =>
    intro x hx s hs
    obtain ⟨y, hy, hx⟩ := List.mem_flatMap.mp hx
    rcases List.mem_cons.mp hx with e | hx
    · subst e
      rcases List.mem_append.mp hs with hs | hs
      · exact ih y hy s hs
      · rw [List.mem_singleton.mp hs]; exact hr
    · obtain ⟨z, hz, rfl⟩ := List.mem_map.mp hx
      rcases List.mem_append.mp hs with hs | hs
      · exact ih y hy s hs
      · rw [List.mem_singleton.mp hs]; exact List.mem_range.mp hz
theorem grow_len (m r b t : Nat) (x : Rw) : (grow m r b t x).length = m + 1 := by
  unfold grow
  rw [List.length_cons, List.length_map, List.length_range]
theorem flat_len {L : List Rw} {g : Rw → List Rw} {k : Nat} (h : ∀ x, (g x).length = k) : (L.flatMap g).length = L.length * k := by
  induction L with
  | nil => simp
  | cons x L ih => rw [List.flatMap_cons, List.length_append, h, ih, List.length_cons, Nat.succ_mul]; omega
theorem rws_length {m r b t : Nat} : ∀ c, (rws m r b t c).length = (m + 1) ^ c
  | 0 => rfl
  | c + 1 => by
    show ((rws m r b t c).flatMap (grow m r b t)).length = _
    rw [flat_len (grow_len m r b t), rws_length c, Nat.pow_succ]
theorem states_sum (g : Nat → Bool) (a f1 f0 : Nat) (m : Nat) : ((List.range m).map fun s => a * (if g s then f1 else f0)).sum = a * ((List.range m).countP g * f1 + (m - (List.range m).countP g) * f0) := by
  induction m with
  | zero => simp
  | succ m ih =>
    have hle : (List.range m).countP g ≤ m := by
      have := List.countP_le_length (p := g) (l := List.range m)
      rwa [List.length_range] at this
    rw [List.range_succ, List.map_append, List.sum_append, ih, List.countP_append, List.map_singleton, List.sum_singleton, List.countP_singleton, ← Nat.mul_add]
    congr 1
    cases hg : g m with
    | true =>
      simp only [if_true]
      rw [show m + 1 - ((List.range m).countP g + 1) = m - (List.range m).countP g by omega, Nat.add_mul]
      omega
    | false =>
      simp only [Bool.false_eq_true, if_false, Nat.add_zero]
      rw [show m + 1 - (List.range m).countP g = (m - (List.range m).countP g) + 1 by omega, Nat.add_mul]
      omega
theorem rws_sum {m r b t : Nat} {g : Nat → Bool} (hr : g r = true) : ∀ (c : Nat) (f : Nat → Nat), wsum (rws m r b t c) (fun s => f (s.countP g)) = binS ((b - t) * m + t * (List.range m).countP g) (t * (m - (List.range m).countP g)) c f
  | 0, f => by
    rw [binS_zero]
    show 1 * f 0 + 0 = f 0
    omega
  | c + 1, f => by
    rw [binS_succ, ← rws_sum (m := m) (r := r) (b := b) (t := t) hr c]
    show wsum ((rws m r b t c).flatMap (grow m r b t)) _ = _
    refine wsum_flat _ _ _ _ fun x _ => ?_
    unfold wsum grow
    rw [List.map_cons, List.sum_cons, List.map_map]
    have e1 : ((fun x : Rw => x.2 * f (x.1.countP g)) ∘ fun s => (x.1 ++ [s], x.2 * t)) = fun s => (x.2 * t) * (if g s then f (x.1.countP g + 1) else f (x.1.countP g)) := by
      funext s
      show x.2 * t * f ((x.1 ++ [s]).countP g) = _
      rw [List.countP_append, List.countP_singleton]
      cases g s <;> simp
    rw [e1, states_sum]
    show x.2 * (b - t) * m * f ((x.1 ++ [r]).countP g) + _ = _
    rw [List.countP_append, List.countP_singleton, hr, if_pos rfl]
    generalize (List.range m).countP g = N
    generalize m - N = W
    generalize f (x.1.countP g + 1) = f1
    generalize f (x.1.countP g) = f0
    generalize b - t = d
    generalize x.2 = w
    simp only [Nat.mul_add, Nat.add_mul, Nat.mul_assoc]
    omega
theorem rws_good {m r b t c : Nat} {g : Nat → Bool} (hr : g r = true) : ((rws m r b t c).map fun x => if c < 2 * x.1.countP g then x.2 else 0).sum = tom ((b - t) * m + t * (List.range m).countP g) (t * (m - (List.range m).countP g)) c := by
  have := rws_sum (m := m) (r := r) (b := b) (t := t) hr c (thr c)
  rw [show tom _ _ _ = binS _ _ _ (thr c) from rfl, ← this]
  unfold wsum
  congr 1
  refine List.map_congr_left fun x _ => ?_
  unfold thr
  show _ = x.2 * (if c < 2 * x.1.countP g then 1 else 0)
  by_cases h : c < 2 * x.1.countP g
  · rw [if_pos h, if_pos h, Nat.mul_one]
  · rw [if_neg h, if_neg h, Nat.mul_zero]
theorem rw_sum {b t m N : Nat} (ht : t ≤ b) (hN : N ≤ m) : ((b - t) * m + t * N) + t * (m - N) = b * m := by
  obtain ⟨d, rfl⟩ : ∃ d, b = t + d := ⟨b - t, by omega⟩
  obtain ⟨e, rfl⟩ : ∃ e, m = N + e := ⟨m - N, by omega⟩
  rw [Nat.add_sub_cancel_left, Nat.add_sub_cancel_left]
  simp only [Nat.mul_add, Nat.add_mul]
  omega
theorem rws_whole {m r b t c : Nat} (ht : t ≤ b) : ((rws m r b t c).map fun x => x.2).sum = (b * m) ^ c := by
  have := rws_sum (m := m) (r := r) (b := b) (t := t) (g := fun _ => true) rfl c (fun _ => 1)
  rw [binS_const, Nat.mul_one, rw_sum ht (by have := List.countP_le_length (p := fun _ => true) (l := List.range m); rwa [List.length_range] at this)] at this
  rw [← this]
  unfold wsum
  congr 1
  refine List.map_congr_left fun x _ => ?_
  rw [Nat.mul_one]
/-! ### lowest terms -/
def low (a b : Nat) : Nat × Nat := (a / Nat.gcd a b, b / Nat.gcd a b)
theorem low_eq {a b c d : Nat} (hb : 0 < b) (hd : 0 < d) (h : a * d = c * b) : low a b = low c d := by
  have g1 : 0 < Nat.gcd a b := Nat.gcd_pos_of_pos_right _ hb
  have g2 : 0 < Nat.gcd c d := Nat.gcd_pos_of_pos_right _ hd
  obtain ⟨a', ha⟩ := Nat.gcd_dvd_left a b
  obtain ⟨b', hb'⟩ := Nat.gcd_dvd_right a b
  obtain ⟨c', hc⟩ := Nat.gcd_dvd_left c d
  obtain ⟨d', hd'⟩ := Nat.gcd_dvd_right c d
  have ea : a / Nat.gcd a b = a' := Nat.div_eq_of_eq_mul_right g1 ha
  have eb : b / Nat.gcd a b = b' := Nat.div_eq_of_eq_mul_right g1 hb'
  have ec : c / Nat.gcd c d = c' := Nat.div_eq_of_eq_mul_right g2 hc
  have ed : d / Nat.gcd c d = d' := Nat.div_eq_of_eq_mul_right g2 hd'
  have cop1 : Nat.Coprime a' b' := by rw [← ea, ← eb]; exact Nat.coprime_div_gcd_div_gcd g1
  have cop2 : Nat.Coprime c' d' := by rw [← ec, ← ed]; exact Nat.coprime_div_gcd_div_gcd g2
  have key : a' * d' = c' * b' := by
    have h2 : (Nat.gcd a b * Nat.gcd c d) * (a' * d') = (Nat.gcd a b * Nat.gcd c d) * (c' * b') := by
      calc (Nat.gcd a b * Nat.gcd c d) * (a' * d') = (Nat.gcd a b * a') * (Nat.gcd c d * d') := by simp only [Nat.mul_assoc, Nat.mul_comm, Nat.mul_left_comm]
        _ = a * d := by rw [← ha, ← hd']
        _ = c * b := h
        _ = (Nat.gcd c d * c') * (Nat.gcd a b * b') := by rw [← hc, ← hb']
        _ = (Nat.gcd a b * Nat.gcd c d) * (c' * b') := by simp only [Nat.mul_assoc, Nat.mul_comm, Nat.mul_left_comm]
    exact Nat.eq_of_mul_eq_mul_left (Nat.mul_pos g1 g2) h2
  have hbd : b' = d' := by
    refine Nat.dvd_antisymm ?_ ?_
    · exact (Nat.Coprime.symm cop1).dvd_of_dvd_mul_left (by rw [key]; exact Nat.dvd_mul_left _ _)
    · exact (Nat.Coprime.symm cop2).dvd_of_dvd_mul_left (by rw [← key]; exact Nat.dvd_mul_left _ _)
  have hbp : 0 < b' := by
    rcases Nat.eq_zero_or_pos b' with z | z
    · rw [z, Nat.mul_zero] at hb'; omega
    · exact z
  have hac : a' = c' := by
    rw [← hbd] at key
    exact Nat.eq_of_mul_eq_mul_right hbp key
  unfold low
  rw [ea, eb, ec, ed, hac, hbd]
theorem low_self {a : Nat} (h : 0 < a) : low a a = (1, 1) := by
  unfold low
  rw [Nat.gcd_self, Nat.div_self h]
theorem low_none {a : Nat} (h : 0 < a) : low 0 a = (0, 1) := by
  unfold low
  rw [Nat.gcd_zero_left, Nat.zero_div, Nat.div_self h]
end M1
/-! math.comb of small numbers; a tuple as often as one likes, none too. -/
namespace L2
open PySem PySem.Spec PyProof.Rows
def rComb : List V → Hp → VK → Prop := fun vs H Q => ∃ a b : Nat, vs = [.int (a : Int), .int (b : Int)] ∧ a ≤ 25 ∧ b ≤ 25 ∧ Q (.int ((M1.cho a b : Nat) : Int)) H
theorem comb_cho : ∀ a : Nat, a < 26 → ∀ b : Nat, b < 26 → PySem.W.mcComb (a : Int) (b : Int) = ((M1.cho a b : Nat) : Int) := by decide +kernel
theorem cr_comb {X : Cx} : CallR X (.builtin "math.comb") rComb := by
  intro pins s σ H vs us Q I r h
  obtain ⟨a, b, rfl, ha, hb, q⟩ := h
  obtain ⟨t, u, rfl⟩ := Vals.int2 r
  refine PySem.W.mc_comb_v (c := ((M1.cho a b : Nat) : Int)) (by omega) (by omega) (by omega) (.inl (by omega)) (comb_cho a (by omega) b (by omega)) ⟨.int _, H, I.tok _, ⟨_, rfl⟩, q⟩
theorem cho_max : ∀ a, a < 26 → ∀ b, b < 26 → M1.cho a b ≤ 33554432 := by decide +kernel
theorem cr_sumK {X : Cx} {K : PySem.W.Frag} (hK : X.K = K) (hc : X.calm = true) : CallR X (.builtin "sum") (rSum K) := by
  subst hK
  exact cr_sum hc
theorem tuple_zero (l : Addr) (items : Array Value) (n : Nat) (dd : Option Addr) (sl : Array (Option Value)) (u : Tok) (c1 : items.isEmpty = false) : Meets (Builtin.«tuple.__mul__» ⟨[.ref l, .int 0 u], []⟩) (fun _ R s =>
      s.heap.get? l = some { cls := .type "tuple", dict := dd, data := .seq items n, slots := sl } ∧ R (.ok (.ret (Value.ref s.heap.objs.size))) { s with heap := s.heap.push { cls := Value.type "tuple", data := Data.seq #[] }, toks := s.toks }) :=
  .of_wp fun prog w A R s h => by
    obtain ⟨hp, g, d, tk, os⟩ := s
    obtain ⟨hl, h⟩ := h
    have f1 := AutoSeq1.idx_int
    wp_walk using wpAny_loadPart' hl
    all_goals exact ⟨_, rfl, h⟩
def rRepV (K : PySem.W.Frag) : R2 := fun x y H Q => ∃ l k xs, x = .ref l ∧ y = .int k ∧ SqT K H l xs ∧ xs ≠ [] ∧ 0 ≤ k ∧ k ≤ 4000 ∧ xs.length ≤ 100 ∧ ∀ p H2, Evl.Ex H H2 → SqT K H2 p (List.replicate k.toNat xs).flatten → Q (.ref p) H2
theorem op_repV {X : Cx} {K : PySem.W.Frag} (hK : X.K = K) : OpR X (binaryOp .Mult) (rRepV K) := by
  subst hK
  intro pins s σ H x y v u Q I rx ry h
  obtain ⟨l, k, xs, rfl, rfl, hT, hne, h1, h2, hz, q⟩ := h
  by_cases h0 : k = 0
  · subst h0
    cases rx
    obtain ⟨t, rfl⟩ := ry
    obtain ⟨its, r, ⟨⟨cls, dd, data, sl⟩, ho, hc, n, hd⟩, hs⟩ := I.tuple hT
    simp only at hc hd
    subst hc hd
    have hle : xs.length = its.length := r.length
    have hn : its.toArray.isEmpty = false := by
      cases its with
      | nil => exact absurd (List.eq_nil_of_length_eq_zero hle) hne
      | cons _ _ => rfl
    refine wpAny_binaryOp_repeat_ref (T := "tuple") (U := "int") (by decide) ⟨_, ho, rfl⟩ (fun s' => typeIs_int s' 0 t) noFill_tuple_mul F.fills_int_mul F.slot_int_rmul repeat_tuple F.slot_int_index.lookup
      (call_meets F.slot_int_rmul (typeIs_int s _ t) F.entry_int_rmul (F.args_int_rmul_2 _ _) (int_rmul_tuple _ t l its.toArray n dd sl) ⟨ho, rfl, ⟨_, ho, rfl⟩, call_meets F.slot_tuple_mul ⟨_, ho, rfl⟩ F.entry_tuple_mul (F.args_tuple_mul_2 _ _) (tuple_zero l its.toArray n dd sl t hn) ⟨ho, ?_⟩⟩)
    have fn := I.hok.fresh (Nat.le_refl s.heap.objs.size)
    refine ⟨.ref s.heap.objs.size, _, I.laid (t' := s.toks) (o := .tup []) (fun b ob q => Heap.get?_push_of_some _ q) (Nat.le_refl _) ?_, rfl, q _ _ (Evl.Ex.new fn) (SqT.of upd_same)⟩
    exact ⟨Nat.zero_le _, [], .nil, IsTup.new _ _⟩
  · exact op_repU rfl pins s σ H _ _ v u Q I rx ry ⟨l, k, xs, rfl, rfl, hT, hne, by omega, h2, hz, q⟩
end L2
namespace Kx
open PySem PySem.Spec PyProof.Rows L2

def top (i : Nat) : Stmt := PySem.Challenge.pw_pushedclerks_k63_whole_chances.main.body.getD i (.Pass ⟨0, 0, 0, 0⟩)
abbrev s_is_integer : Stmt := top 12
abbrev N_is_integer : List Str := ["value", "low", "high"]
theorem sc_is_integer : FnScope N_is_integer ["value", "low", "high"] (defScope s_is_integer) := ⟨rfl, rfl, rfl, by decide +kernel, rfl, by decide +kernel, by decide +kernel⟩
abbrev s_is_tuple : Stmt := top 13
abbrev N_is_tuple : List Str := ["value", "low", "high"]
theorem sc_is_tuple : FnScope N_is_tuple ["value", "low", "high"] (defScope s_is_tuple) := ⟨rfl, rfl, rfl, by decide +kernel, rfl, by decide +kernel, by decide +kernel⟩
abbrev s_is_row : Stmt := top 14
abbrev N_is_row : List Str := ["value", "greatest", "item"]
theorem sc_is_row : FnScope N_is_row ["value", "greatest"] (defScope s_is_row) := ⟨rfl, rfl, rfl, by decide +kernel, rfl, by decide +kernel, by decide +kernel⟩
abbrev s_is_table : Stmt := top 15
abbrev N_is_table : List Str := ["value", "height", "width", "greatest", "row"]
theorem sc_is_table : FnScope N_is_table ["value", "height", "width", "greatest"] (defScope s_is_table) := ⟨rfl, rfl, rfl, by decide +kernel, rfl, by decide +kernel, by decide +kernel⟩
abbrev s_is_steps : Stmt := top 16
abbrev N_is_steps : List Str := ["value"]
theorem sc_is_steps : FnScope N_is_steps ["value"] (defScope s_is_steps) := ⟨rfl, rfl, rfl, by decide +kernel, rfl, by decide +kernel, by decide +kernel⟩
abbrev s_check_machine : Stmt := top 17
abbrev N_check_machine : List Str := ["machine", "steps", "told"]
theorem sc_check_machine : FnScope N_check_machine ["machine"] (defScope s_check_machine) := ⟨rfl, rfl, rfl, by decide +kernel, rfl, by decide +kernel, by decide +kernel⟩
abbrev s_is_word : Stmt := top 18
abbrev N_is_word : List Str := ["machine", "value"]
theorem sc_is_word : FnScope N_is_word ["machine", "value"] (defScope s_is_word) := ⟨rfl, rfl, rfl, by decide +kernel, rfl, by decide +kernel, by decide +kernel⟩
abbrev s_is_short_word : Stmt := top 19
abbrev N_is_short_word : List Str := ["machine", "value"]
theorem sc_is_short_word : FnScope N_is_short_word ["machine", "value"] (defScope s_is_short_word) := ⟨rfl, rfl, rfl, by decide +kernel, rfl, by decide +kernel, by decide +kernel⟩
abbrev s_check_word : Stmt := top 20
abbrev N_check_word : List Str := ["machine", "word"]
theorem sc_check_word : FnScope N_check_word ["machine", "word"] (defScope s_check_word) := ⟨rfl, rfl, rfl, by decide +kernel, rfl, by decide +kernel, by decide +kernel⟩
abbrev s_check_number : Stmt := top 21
abbrev N_check_number : List Str := ["value", "low", "high"]
theorem sc_check_number : FnScope N_check_number ["value", "low", "high"] (defScope s_check_number) := ⟨rfl, rfl, rfl, by decide +kernel, rfl, by decide +kernel, by decide +kernel⟩
abbrev s_state_behind : Stmt := top 23
abbrev N_state_behind : List Str := ["machine", "state", "word", "letter"]
theorem sc_state_behind : FnScope N_state_behind ["machine", "state", "word"] (defScope s_state_behind) := ⟨rfl, rfl, rfl, by decide +kernel, rfl, by decide +kernel, by decide +kernel⟩
abbrev s_check_chance : Stmt := top 27
abbrev N_check_chance : List Str := ["chance", "top", "bottom"]
theorem sc_check_chance : FnScope N_check_chance ["chance"] (defScope s_check_chance) := ⟨rfl, rfl, rfl, by decide +kernel, rfl, by decide +kernel, by decide +kernel⟩
abbrev s_lowest_terms : Stmt := top 28
abbrev N_lowest_terms : List Str := ["top", "bottom", "shared"]
theorem sc_lowest_terms : FnScope N_lowest_terms ["top", "bottom"] (defScope s_lowest_terms) := ⟨rfl, rfl, rfl, by decide +kernel, rfl, by decide +kernel, by decide +kernel⟩
abbrev s_powers_of : Stmt := top 29
abbrev N_powers_of : List Str := ["number", "greatest", "powers", "_"]
theorem sc_powers_of : FnScope N_powers_of ["number", "greatest"] (defScope s_powers_of) := ⟨rfl, rfl, rfl, by decide +kernel, rfl, by decide +kernel, by decide +kernel⟩
abbrev s_right_numbers : Stmt := top 30
abbrev N_right_numbers : List Str := ["machine", "way", "word", "steps", "told", "begun", "states", "numbers", "letter", "given", "state"]
theorem sc_right_numbers : FnScope N_right_numbers ["machine", "way", "word"] (defScope s_right_numbers) := ⟨rfl, rfl, rfl, by decide +kernel, rfl, by decide +kernel, by decide +kernel⟩
abbrev s_top_of_most : Stmt := top 31
abbrev N_top_of_most : List Str := ["copies", "right", "wrong", "rights", "wrongs", "least", "many"]
theorem sc_top_of_most : FnScope N_top_of_most ["copies", "right", "wrong"] (defScope s_top_of_most) := ⟨rfl, rfl, rfl, by decide +kernel, rfl, by decide +kernel, by decide +kernel⟩
abbrev s_tops_and_bottom : Stmt := top 32
abbrev N_tops_and_bottom : List Str := ["machine", "copies", "chance", "way", "word", "top", "bottom", "states", "choices", "tops", "number", "wrong"]
theorem sc_tops_and_bottom : FnScope N_tops_and_bottom ["machine", "copies", "chance", "way", "word"] (defScope s_tops_and_bottom) := ⟨rfl, rfl, rfl, by decide +kernel, rfl, by decide +kernel, by decide +kernel⟩
abbrev s_right_chances : Stmt := top 33
abbrev N_right_chances : List Str := ["machine", "copies", "chance", "way", "word", "tops", "bottom", "top"]
theorem sc_right_chances : FnScope N_right_chances ["machine", "copies", "chance", "way", "word"] (defScope s_right_chances) := ⟨rfl, rfl, rfl, by decide +kernel, rfl, by decide +kernel, by decide +kernel⟩
abbrev s_mean_misses : Stmt := top 34
abbrev N_mean_misses : List Str := ["machine", "copies", "chance", "way", "word", "tops", "bottom"]
theorem sc_mean_misses : FnScope N_mean_misses ["machine", "copies", "chance", "way", "word"] (defScope s_mean_misses) := ⟨rfl, rfl, rfl, by decide +kernel, rfl, by decide +kernel, by decide +kernel⟩
abbrev s_law_taken : Stmt := top 36
abbrev N_law_taken : List Str := ["row", "many", "found", "cell"]
theorem sc_law_taken : FnScope N_law_taken ["row", "many"] (defScope s_law_taken) := ⟨rfl, rfl, rfl, by decide +kernel, rfl, by decide +kernel, by decide +kernel⟩
abbrev s_law_alike : Stmt := top 37
abbrev N_law_alike : List Str := ["found", "due", "k"]
theorem sc_law_alike : FnScope N_law_alike ["found", "due"] (defScope s_law_alike) := ⟨rfl, rfl, rfl, by decide +kernel, rfl, by decide +kernel, by decide +kernel⟩
abbrev s_law_machine : Stmt := top 38
abbrev N_law_machine : List Str := ["row", "states", "letters", "many", "wide", "kind", "steps", "said", "state", "letter"]
theorem sc_law_machine : FnScope N_law_machine ["row", "states", "letters"] (defScope s_law_machine) := ⟨rfl, rfl, rfl, by decide +kernel, rfl, by decide +kernel, by decide +kernel⟩
abbrev s_law_word : Stmt := top 39
abbrev N_law_word : List Str := ["row", "machine", "most", "at"]
theorem sc_law_word : FnScope N_law_word ["row", "machine", "most"] (defScope s_law_word) := ⟨rfl, rfl, rfl, by decide +kernel, rfl, by decide +kernel, by decide +kernel⟩
abbrev s_law_low : Stmt := top 40
abbrev N_law_low : List Str := ["top", "bottom", "one", "other"]
theorem sc_law_low : FnScope N_law_low ["top", "bottom"] (defScope s_law_low) := ⟨rfl, rfl, rfl, by decide +kernel, rfl, by decide +kernel, by decide +kernel⟩
abbrev s_law_after : Stmt := top 41
abbrev N_law_after : List Str := ["machine", "state", "word", "letter"]
theorem sc_law_after : FnScope N_law_after ["machine", "state", "word"] (defScope s_law_after) := ⟨rfl, rfl, rfl, by decide +kernel, rfl, by decide +kernel, by decide +kernel⟩
abbrev s_law : Stmt := top 42
abbrev N_law : List Str := ["script", "row", "machine", "copies", "low", "chance", "way", "word", "many", "right", "rows", "copy", "longer", "some", "weight", "whole", "due", "mean", "at", "good", "answer", "said", "state"]
theorem sc_law : FnScope N_law ["script"] (defScope s_law) := ⟨rfl, rfl, rfl, by decide +kernel, rfl, by decide +kernel, by decide +kernel⟩
structure Txt (K : PySem.W.Frag) (mg : Str → Option Value) : Prop where
  b_all : mg "all" = none
  b_bool : mg "bool" = none
  b_int : mg "int" = none
  b_isinstance : mg "isinstance" = none
  b_len : mg "len" = none
  b_list : mg "list" = none
  b_min : mg "min" = none
  b_range : mg "range" = none
  b_str : mg "str" = none
  b_sum : mg "sum" = none
  b_tuple : mg "tuple" = none
  c_MOST_STATES : ∃ t, mg "MOST_STATES" = some (.int 6 t)
  c_MOST_LETTERS : ∃ t, mg "MOST_LETTERS" = some (.int 3 t)
  c_MOST_ANSWER : ∃ t, mg "MOST_ANSWER" = some (.int 9 t)
  c_LONGEST_WORD : ∃ t, mg "LONGEST_WORD" = some (.int 4000 t)
  c_MOST_COPIES_BY_CHANCE : ∃ t, mg "MOST_COPIES_BY_CHANCE" = some (.int 25 t)
  c_GREATEST_BOTTOM : ∃ t, mg "GREATEST_BOTTOM" = some (.int 100 t)
  m_comb : mg "comb" = some (.builtin "math.comb")
  m_gcd : mg "gcd" = some (.builtin "math.gcd")
theorem bt_all : bootBuiltins "all" = some (.builtin "all") := by decide +kernel
theorem bt_bool : bootBuiltins "bool" = some (.type "bool") := by decide +kernel
theorem bt_int : bootBuiltins "int" = some (.type "int") := by decide +kernel
theorem bt_isinstance : bootBuiltins "isinstance" = some (.builtin "isinstance") := by decide +kernel
theorem bt_len : bootBuiltins "len" = some (.builtin "len") := by decide +kernel
theorem bt_list : bootBuiltins "list" = some (.type "list") := by decide +kernel
theorem bt_min : bootBuiltins "min" = some (.builtin "min") := by decide +kernel
theorem bt_range : bootBuiltins "range" = some (.type "range") := by decide +kernel
theorem bt_str : bootBuiltins "str" = some (.type "str") := by decide +kernel
theorem bt_sum : bootBuiltins "sum" = some (.builtin "sum") := by decide +kernel
theorem bt_tuple : bootBuiltins "tuple" = some (.type "tuple") := by decide +kernel
open Evl
section
variable {P : Program} {w : World} {K : PySem.W.Frag} {mg : Str → Option Value} {base : Heap}
/-! ### the promises of the checks -/
def sp_is_integer : Sp := fun vs H Q _ => ∃ v lo hi : Int, vs = [.int v, .int lo, .int hi] ∧ ∀ H2, Ex H H2 → Q (.bl (decide (lo ≤ v) && decide (v ≤ hi))) H2
def sp_is_tuple (K : PySem.W.Frag) : Sp := fun vs H Q _ => ∃ (a : Addr) (xs : List V) (lo hi : Int), vs = [.ref a, .int lo, .int hi] ∧ SqT K H a xs ∧ lo ≤ xs.length ∧ xs.length ≤ hi ∧ ∀ H2, Ex H H2 → Q (.bl true) H2
def sp_is_row (K : PySem.W.Frag) : Sp := fun vs H Q _ => ∃ (a : Addr) (r : List Nat) (g : Int), vs = [.ref a, .int g] ∧ SqT K H a (rowV r) ∧ r.length ≤ 40000 ∧ (∀ x ∈ r, (x : Int) ≤ g) ∧ ∀ H2, Ex H H2 → Q (.bl true) H2
def sp_is_table (K : PySem.W.Frag) : Sp := fun vs H Q _ => ∃ (v : V) (t : List (List Nat)) (hg wd : Nat) (g : Int), vs = [v, .int hg, .int wd, .int g] ∧ TabAt K H v t ∧ t.length = hg ∧ hg ≤ 1000 ∧ wd ≤ 1000 ∧ (∀ r ∈ t, r.length = wd ∧ ∀ x ∈ r, (x : Int) ≤ g) ∧ ∀ H2, Ex H H2 → Q (.bl true) H2
def sp_is_steps (K : PySem.W.Frag) : Sp := fun vs H Q _ => ∃ (v : V) (M : M1.Mach), vs = [v] ∧ TabAt K H v M.st ∧ M.Ok ∧ ∀ H2, Ex H H2 → Q (.bl true) H2
def sp_check_machine (K : PySem.W.Frag) : Sp := fun vs H Q _ => ∃ (v : V) (M : M1.Mach), vs = [v] ∧ MacAt K H v M.st M.an ∧ M.Ok ∧ ∀ H2, Ex H H2 → Q .non H2
def sp_is_state (K : PySem.W.Frag) : Sp := fun vs H Q _ => ∃ (v : V) (M : M1.Mach) (i : Nat), vs = [v, .int i] ∧ MacAt K H v M.st M.an ∧ i < M.st.length ∧ ∀ H2, Ex H H2 → Q (.bl true) H2
def sp_check_state (K : PySem.W.Frag) : Sp := fun vs H Q _ => ∃ (v : V) (M : M1.Mach) (i : Nat), vs = [v, .int i] ∧ MacAt K H v M.st M.an ∧ i < M.st.length ∧ ∀ H2, Ex H H2 → Q .non H2
def sp_is_word (K : PySem.W.Frag) : Sp := fun vs H Q _ => ∃ (v : V) (M : M1.Mach) (a : Addr) (r : List Nat), vs = [v, .ref a] ∧ MacAt K H v M.st M.an ∧ M.Ok ∧ SqT K H a (rowV r) ∧ r.length ≤ 4000 ∧ (∀ x ∈ r, x < M.k) ∧ ∀ H2, Ex H H2 → Q (.bl true) H2
def sp_check_word (K : PySem.W.Frag) : Sp := fun vs H Q _ => ∃ (v : V) (M : M1.Mach) (a : Addr) (r : List Nat), vs = [v, .ref a] ∧ MacAt K H v M.st M.an ∧ M.Ok ∧ SqT K H a (rowV r) ∧ r.length ≤ 4000 ∧ (∀ x ∈ r, x < M.k) ∧ ∀ H2, Ex H H2 → Q .non H2

theorem has_is_integer (T : Txt K mg) {f : Addr} {fd : FuncData} (F : Fun K "is_integer" "is_integer" s_is_integer f fd) (g : mg "is_integer" = some (.ref f)) (B : Binds K fd ["value", "low", "high"] []) : Has P w K mg base "is_integer" 1 ["value", "low", "high"] sp_is_integer := by
  refine Has.mk' g F.kp B (F.ok sc_is_integer (fun vs H Q E h => ?_) (fun cdv A outer s H vs Q E hr h => ?_))
  · obtain ⟨v, lo, hi, rfl, _⟩ := h
    rfl
  · obtain ⟨v, lo, hi, rfl, k⟩ := h
    refine ⟨_, (pss_one (ps_ret (pe_and (pe_callB (call_isi1 (K := K) rfl) (by rfl) T.b_isinstance bt_isinstance (pa_cons (pv 0) (pa_cons (pe_bltn (v := .ty "int") (by rfl) T.b_int bt_int rfl) pa_nil))) (pe_and (pe_not (pe_callB (call_isi1 (K := K) rfl) (by rfl) T.b_isinstance bt_isinstance (pa_cons (pv 0) (pa_cons (pe_bltn (v := .ty "bool") (by rfl) T.b_bool bt_bool rfl) pa_nil)))) (pe_one (pe_chain op_le op_le (pv 1) (pv 0) (pv 2))))))), ?_⟩
    refine s_ret (ev_andV (a := true) (ev_isi (T := "int") (ev_var rfl) (fun _ _ => .base (.int _)) (by decide +kernel)) fun _ => ev_andV (a := true) (ev_notV (a := false) (ev_isi (T := "int") (ev_var rfl) (fun _ _ => .base (.int _)) (by decide +kernel))) fun _ =>
      ev_chainLe (ev_var rfl) (ev_var rfl) (ev_var rfl)) fun H1 e => ?_
    rw [Bool.true_and, Bool.true_and]
    exact k H1 e
theorem has_is_tuple (T : Txt K mg) {f : Addr} {fd : FuncData} (F : Fun K "is_tuple" "is_tuple" s_is_tuple f fd) (g : mg "is_tuple" = some (.ref f)) (B : Binds K fd ["value", "low", "high"] []) : Has P w K mg base "is_tuple" 1 ["value", "low", "high"] (sp_is_tuple K) := by
  refine Has.mk' g F.kp B (F.ok sc_is_tuple (fun vs H Q E h => ?_) (fun cdv A outer s H vs Q E hr h => ?_))
  · obtain ⟨a, xs, lo, hi, rfl, _⟩ := h
    rfl
  · obtain ⟨a, xs, lo, hi, rfl, hS, h1, h2, k⟩ := h
    refine ⟨_, (pss_one (ps_ret (pe_and (pe_callB (call_isi1 (K := K) rfl) (by rfl) T.b_isinstance bt_isinstance (pa_cons (pv 0) (pa_cons (pe_bltn (v := .ty "tuple") (by rfl) T.b_tuple bt_tuple rfl) pa_nil))) (pe_one (pe_chain op_le op_le (pv 1) (pe_callB (call_lenK (K := K) rfl) (by rfl) T.b_len bt_len (pa_cons (pv 0) pa_nil)) (pv 2)))))), ?_⟩
    refine s_ret (ev_andV (a := true) (ev_isi (T := "tuple") (ev_var rfl) (fun _ e => sqT_ty (ex_t e hS)) (by decide +kernel)) fun _ => ev_chainLe (ev_var rfl) (ev_lenT (ev_var rfl) hS) (ev_var rfl)) fun H1 e => ?_
    rw [decide_eq_true h1, decide_eq_true h2]
    exact k H1 e
theorem has_is_row (T : Txt K mg) (h_is_integer : Has P w K mg base "is_integer" 1 ["value", "low", "high"] sp_is_integer) {f : Addr} {fd : FuncData} (F : Fun K "is_row" "is_row" s_is_row f fd) (g : mg "is_row" = some (.ref f)) (B : Binds K fd ["value", "greatest"] []) : Has P w K mg base "is_row" 2 ["value", "greatest"] (sp_is_row K) := by
  refine Has.mk' g F.kp B (F.ok sc_is_row (fun vs H Q E h => ?_) (fun cdv A outer s H vs Q E hr h => ?_))
  · obtain ⟨a, r, g, rfl, _⟩ := h
    rfl
  · obtain ⟨a, r, g, rfl, hS, hl, hg, k⟩ := h
    refine ⟨_, (pss_one (ps_ret (pe_and (pe_callB (call_isi1 (K := K) rfl) (by rfl) T.b_isinstance bt_isinstance (pa_cons (pv 0) (pa_cons (pe_bltn (v := .ty "tuple") (by rfl) T.b_tuple bt_tuple rfl) pa_nil))) (pe_one (pe_callB (cr_all rfl) (by rfl) T.b_all bt_all (pa_cons (pe_lc (own := [("item", 2)]) (g := gName 2) (tt := tYes) (by rfl) sc_is_row.nd (pi_tupK (K := K) rfl (pv 0)) (blkOk_by (N := N_is_row) (sc := defScope s_is_row) (by decide +kernel)) (fun _ _ _ _ _ => pg_name (i := 2) sc_is_row.nd rfl (Or.inl rfl)) (fun _ _ _ _ _ => pts_nil) (fun _ _ _ _ _ => (pe_has h_is_integer (hr.mono (by first | decide | exact Nat.le_refl _)) (by rfl) (pa_cons (pv 2) (pa_cons pe_int (pa_cons (pv 1) pa_nil)))))) pa_nil)))))), ?_⟩
    refine s_ret (ev_andV (a := true) (b := true) (ev_isi (T := "tuple") (ev_var rfl) (fun _ e => sqT_ty (ex_t e hS)) (by decide +kernel)) fun _ =>
      ev_allN (n := (rowV r).length) (el_lcT (fun _ => .bl true) (ev_var rfl) hS (by rw [rowV_len]; exact hl) (fun _ => rfl) fun i x H1 e1 hx => ev_callV (ea_cons (ev_var rfl) (ea_cons ev_c (ea_cons (ev_var rfl) ea_nil))) fun H2 e2 Q q => ?_)) fun H1 e => k H1 e
    obtain ⟨n, hn, rfl⟩ : ∃ n, r[i]? = some n ∧ x = nV n := by
      unfold rowV at hx
      rw [List.getElem?_map] at hx
      cases e : r[i]? with
      | none => rw [e] at hx; cases hx
      | some n => rw [e] at hx; exact ⟨n, rfl, (Option.some.inj hx).symm⟩
    refine ⟨n, 0, g, rfl, fun H3 e3 => ?_⟩
    have h1 : (0 : Int) ≤ n := Int.natCast_nonneg n
    have h2 := hg n (List.mem_of_getElem? hn)
    rw [decide_eq_true h1, decide_eq_true h2]
    exact q H3 e3
theorem row0 {M : M1.Mach} (ok : M.Ok) : M.st[0]? = some (M.row 0) ∧ (M.row 0).length = M.k := ⟨M.row_at ok.n1, M.row_len ok ok.n1⟩
theorem has_is_table (T : Txt K mg) (h_is_tuple : Has P w K mg base "is_tuple" 1 ["value", "low", "high"] (sp_is_tuple K)) (h_is_row : Has P w K mg base "is_row" 2 ["value", "greatest"] (sp_is_row K)) {f : Addr} {fd : FuncData} (F : Fun K "is_table" "is_table" s_is_table f fd) (g : mg "is_table" = some (.ref f)) (B : Binds K fd ["value", "height", "width", "greatest"] []) :
    Has P w K mg base "is_table" 3 ["value", "height", "width", "greatest"] (sp_is_table K) := by
  refine Has.mk' g F.kp B (F.ok sc_is_table (fun vs H Q E h => ?_) (fun cdv A outer s H vs Q E hr h => ?_))
  · obtain ⟨v, t, hg, wd, g, rfl, _⟩ := h
    rfl
  · obtain ⟨v, t, hg, wd, g, rfl, ⟨a, vs, rfl, hS, hP⟩, hl, h1, h2, hx, k⟩ := h
    have hvl : vs.length = t.length := Paired.length hP
    refine ⟨_, (pss_cons (ps_if (pt_not (pt_val (pe_has h_is_tuple (hr.mono (by first | decide | exact Nat.le_refl _)) (by rfl) (pa_cons (pv 0) (pa_cons (pv 1) (pa_cons (pv 1) pa_nil))))))
      (pss_one (ps_ret pe_bl))
      pss_nil)
      (pss_one (ps_ret (pe_callB (cr_all rfl) (by rfl) T.b_all bt_all (pa_cons (pe_lc (own := [("row", 4)]) (g := gName 4) (tt := tYes) (by rfl) sc_is_table.nd (pi_tupK (K := K) rfl (pv 0)) (blkOk_by (N := N_is_table) (sc := defScope s_is_table) (by decide +kernel)) (fun _ _ _ _ _ => pg_name (i := 4) sc_is_table.nd rfl (Or.inl rfl)) (fun _ _ _ _ _ => pts_nil) (fun _ _ _ _ _ => (pe_and (pe_has h_is_row (hr.mono (by first | decide | exact Nat.le_refl _)) (by rfl) (pa_cons (pv 4) (pa_cons (pv 3) pa_nil))) (pe_one (pe_cmpR op_eq (pe_callB (call_lenK (K := K) rfl) (by rfl) T.b_len bt_len (pa_cons (pv 4) pa_nil)) (pv 2) (nomark _)))))) pa_nil))))), ?_⟩
    refine q_when (b := false) (et_not (a := true) (et_B (ev_callV (ea_cons (ev_var rfl) (ea_cons (ev_var rfl) (ea_cons (ev_var rfl) ea_nil))) fun H1 e1 Q q => ⟨a, vs, _, _, rfl, ex_t e1 hS, by omega, by omega, q⟩))) (fun z => by cases z) fun _ H1 e1 => ?_
    refine s_ret (ev_allN (n := vs.length) (el_lcT (fun _ => .bl true) (ev_var rfl) (ex_t e1 hS) (by omega) (fun _ => rfl) fun i x H2 e2 hx' => ?_)) fun H2 e2 => k H2 (e1.trans e2)
    obtain ⟨r, hr', b, rfl, hb⟩ := Paired.get' hP hx'
    have hm := hx r (List.mem_of_getElem? hr')
    have hb2 := ex_t (e1.trans e2) hb
    refine ev_is (ev_andV (a := true) (ev_callV (ea_cons (ev_var rfl) (ea_cons (ev_var rfl) ea_nil)) fun H3 e3 Q q => ⟨b, r, g, rfl, ex_t e3 hb2, by omega, hm.2, q⟩) fun _ => ev_op (ev_lenT (ev_var rfl) hb2) (ev_var rfl) (rv_eq rfl)) ?_
    rw [rowV_len, hm.1, decide_eq_true rfl]
    rfl
theorem has_is_steps (T : Txt K mg) (h_is_tuple : Has P w K mg base "is_tuple" 1 ["value", "low", "high"] (sp_is_tuple K)) (h_is_table : Has P w K mg base "is_table" 3 ["value", "height", "width", "greatest"] (sp_is_table K)) {f : Addr} {fd : FuncData} (F : Fun K "is_steps" "is_steps" s_is_steps f fd) (g : mg "is_steps" = some (.ref f)) (B : Binds K fd ["value"] []) :
    Has P w K mg base "is_steps" 4 ["value"] (sp_is_steps K) := by
  refine Has.mk' g F.kp B (F.ok sc_is_steps (fun vs H Q E h => ?_) (fun cdv A outer s H vs Q E hr h => ?_))
  · obtain ⟨v, M, rfl, _⟩ := h
    rfl
  · obtain ⟨v, M, rfl, ⟨a, vs, rfl, hS, hP⟩, ok, k⟩ := h
    have hvl : vs.length = M.st.length := Paired.length hP
    have n1 := ok.n1
    have n6 := ok.n6
    have k1 := ok.k1
    have k3 := ok.k3
    obtain ⟨r0, hr0⟩ := row0 ok
    obtain ⟨x0, g0, a0, rfl, hS0⟩ := Paired.get hP r0
    refine ⟨_, (pss_cons (ps_if (PW.pt (pw_or (pt_not (pt_val (pe_has h_is_tuple (hr.mono (by first | decide | exact Nat.le_refl _)) (by rfl) (pa_cons (pv 0) (pa_cons pe_int (pa_cons (pe_globI (by rfl) T.c_MOST_STATES) pa_nil)))))) (pw_or1 (pt_not (pt_val (pe_has h_is_tuple (hr.mono (by first | decide | exact Nat.le_refl _)) (by rfl) (pa_cons (pe_ix (ix_tupK (K := K) rfl) (pv 0) pe_int (fun _ _ => rfl)) (pa_cons pe_int (pa_cons (pe_globI (by rfl) T.c_MOST_LETTERS) pa_nil)))))))))
      (pss_one (ps_ret pe_bl))
      pss_nil)
      (pss_one (ps_ret (pe_has h_is_table (hr.mono (by first | decide | exact Nat.le_refl _)) (by rfl) (pa_cons (pv 0) (pa_cons (pe_callB (call_lenK (K := K) rfl) (by rfl) T.b_len bt_len (pa_cons (pv 0) pa_nil)) (pa_cons (pe_callB (call_lenK (K := K) rfl) (by rfl) T.b_len bt_len (pa_cons (pe_ix (ix_tupK (K := K) rfl) (pv 0) pe_int (fun _ _ => rfl)) pa_nil)) (pa_cons (pe_op op_sub (pe_callB (call_lenK (K := K) rfl) (by rfl) T.b_len bt_len (pa_cons (pv 0) pa_nil)) pe_int) pa_nil)))))))), ?_⟩
    have v0 : ∀ H1, Ex H H1 → Ev (tOp (rIxT K) (tVar 0) (tC (.int 0))) (start N_is_steps [V.ref a]) H1 (.ref a0) := fun H1 e1 => ev_op (ev_var rfl) ev_c (rv_ixT (ex_t e1 hS) (atI_nat (j := 0) g0))
    refine q_when (b := false) (et_or (a := false) (et_not (a := true) (et_B (ev_callV (ea_cons (ev_var rfl) (ea_cons ev_c (ea_cons ev_c ea_nil))) fun H1 e1 Q q => ⟨a, vs, _, _, rfl, ex_t e1 hS, by omega, by omega, q⟩))) fun _ =>
      et_not (a := true) (et_B (ev_callV (ea_cons (v0 H (Ex.refl H)) (ea_cons ev_c (ea_cons ev_c ea_nil))) fun H1 e1 Q q => ⟨a0, rowV (M.row 0), _, _, rfl, ex_t e1 hS0, by rw [rowV_len]; omega, by rw [rowV_len]; omega, q⟩))) (fun z => by cases z) fun _ H1 e1 => ?_
    refine s_ret (ev_callV (ea_cons (ev_var rfl) (ea_cons (ev_lenT (ev_var rfl) (ex_t e1 hS)) (ea_cons (ev_lenT (v0 H1 e1) (ex_t e1 hS0)) (ea_cons (ev_op (ev_lenT (ev_var rfl) (ex_t e1 hS)) ev_c rv_I0) ea_nil)))) fun H2 e2 Q q => ?_) fun H2 e2 => k H2 (e1.trans e2)
    rw [rowV_len, hr0, hvl]
    refine ⟨.ref a, M.st, M.st.length, M.k, _, rfl, ⟨a, vs, rfl, ex_t (e1.trans e2) hS, Paired.mapP hP fun _ _ z => z.keep (TK.ex (e1.trans e2))⟩, rfl, by omega, by omega, fun r hr => ⟨(ok.rs r hr).1, fun x hx => ?_⟩, q⟩
    have := (ok.rs r hr).2 x hx
    omega
theorem has_check_machine (T : Txt K mg) (h_is_tuple : Has P w K mg base "is_tuple" 1 ["value", "low", "high"] (sp_is_tuple K)) (h_is_table : Has P w K mg base "is_table" 3 ["value", "height", "width", "greatest"] (sp_is_table K)) (h_is_steps : Has P w K mg base "is_steps" 4 ["value"] (sp_is_steps K))
    {f : Addr} {fd : FuncData} (F : Fun K "check_machine" "check_machine" s_check_machine f fd) (g : mg "check_machine" = some (.ref f)) (B : Binds K fd ["machine"] []) : Has P w K mg base "check_machine" 5 ["machine"] (sp_check_machine K) := by
  refine Has.mk' g F.kp B (F.ok sc_check_machine (fun vs H Q E h => ?_) (fun cdv A outer s H vs Q E hr h => ?_))
  · obtain ⟨v, M, rfl, _⟩ := h
    rfl
  · obtain ⟨v, M, rfl, ⟨a, x, y, rfl, hS, hx, hy⟩, ok, k⟩ := h
    have k3 := ok.k3
    have n6 := ok.n6
    obtain ⟨ax, vx, rfl, hSx, hPx⟩ := hx
    have hvl : vx.length = M.st.length := Paired.length hPx
    obtain ⟨r0, hr0⟩ := row0 ok
    obtain ⟨x0, g0, a0, rfl, hS0⟩ := Paired.get hPx r0
    refine ⟨_, (pss_cons (ps_if (pt_not (pt_val (pe_has h_is_tuple (hr.mono (by first | decide | exact Nat.le_refl _)) (by rfl) (pa_cons (pv 0) (pa_cons pe_int (pa_cons pe_int pa_nil))))))
      (pss_one (ps_never))
      pss_nil)
      (pss_cons (ps_asg (pv 0) (pg_tupK (K := K) (n := 2) rfl (by rfl) (pgs_cons (pg_name (i := 1) sc_check_machine.nd rfl (.inl rfl)) (pgs_cons (pg_name (i := 2) sc_check_machine.nd rfl (.inl rfl)) pgs_nil))))
      (pss_cons (ps_if (pt_not (pt_val (pe_has h_is_steps (hr.mono (by first | decide | exact Nat.le_refl _)) (by rfl) (pa_cons (pv 1) pa_nil))))
      (pss_one (ps_never))
      pss_nil)
      (pss_one (ps_if (pt_not (pt_val (pe_has h_is_table (hr.mono (by first | decide | exact Nat.le_refl _)) (by rfl) (pa_cons (pv 2) (pa_cons (pe_callB (call_lenK (K := K) rfl) (by rfl) T.b_len bt_len (pa_cons (pv 1) pa_nil)) (pa_cons (pe_callB (call_lenK (K := K) rfl) (by rfl) T.b_len bt_len (pa_cons (pe_ix (ix_tupK (K := K) rfl) (pv 1) pe_int (fun _ _ => rfl)) pa_nil)) (pa_cons (pe_globI (by rfl) T.c_MOST_ANSWER) pa_nil)))))))
      (pss_one (ps_never))
      pss_nil))))), ?_⟩
    refine q_when (b := false) (et_not (a := true) (et_B (ev_callV (ea_cons (ev_var rfl) (ea_cons ev_c (ea_cons ev_c ea_nil))) fun H1 e1 Q q => ⟨a, _, _, _, rfl, ex_t e1 hS, by show (2 : Int) ≤ 2; decide, by show (2 : Int) ≤ 2; decide, q⟩))) (fun z => by cases z) fun _ H1 e1 => ?_
    refine ⟨.ref a, rfl, a, _, rfl, ex_t e1 hS, rfl, _, _, rfl, _, _, rfl, rfl, ?_⟩
    refine q_when (b := false) (et_not (a := true) (et_B (ev_callV (ea_cons (ev_var rfl) ea_nil) fun H2 e2 Q q => ⟨.ref ax, M, rfl, ⟨ax, vx, rfl, ex_t (e1.trans e2) hSx, Paired.mapP hPx fun _ _ z => z.keep (TK.ex (e1.trans e2))⟩, ok, q⟩))) (fun z => by cases z) fun _ H2 e2 => ?_
    have e3 := e1.trans e2
    refine s_when (b := false) (et_not (a := true) (et_B (ev_callV (ea_cons (ev_var rfl) (ea_cons (ev_lenT (ev_var rfl) (ex_t e3 hSx)) (ea_cons (ev_lenT (ev_op (ev_var rfl) ev_c (rv_ixT (ex_t e3 hSx) (atI_nat (j := 0) g0))) (ex_t e3 hS0)) (ea_cons ev_c ea_nil)))) fun H4 e4 Q q => ?_))) (fun z => by cases z) fun _ H4 e4 => k H4 (e3.trans e4)
    rw [rowV_len, hr0, hvl]
    exact ⟨y, M.an, M.st.length, M.k, _, rfl, hy.keep (TK.ex (e3.trans e4)), ok.la, by omega, by omega, fun r hr => ⟨(ok.ra r hr).1, fun x hx => by have := (ok.ra r hr).2 x hx; omega⟩, q⟩
theorem has_is_word (T : Txt K mg) (h_is_row : Has P w K mg base "is_row" 2 ["value", "greatest"] (sp_is_row K)) {f : Addr} {fd : FuncData} (F : Fun K "is_word" "is_word" s_is_word f fd) (g : mg "is_word" = some (.ref f)) (B : Binds K fd ["machine", "value"] []) :
    Has P w K mg base "is_word" 3 ["machine", "value"] (sp_is_word K) := by
  refine Has.mk' g F.kp B (F.ok sc_is_word (fun vs H Q E h => ?_) (fun cdv A outer s H vs Q E hr h => ?_))
  · obtain ⟨v, M, b, r, rfl, _⟩ := h
    rfl
  · obtain ⟨v, M, b, r, rfl, ⟨a, x, y, rfl, hS, ⟨ax, vx, rfl, hSx, hPx⟩, hy⟩, ok, hb, hl, hk, k⟩ := h
    obtain ⟨r0, hr0⟩ := row0 ok
    obtain ⟨x0, g0, a0, rfl, hS0⟩ := Paired.get hPx r0
    refine ⟨_, (pss_one (ps_ret (pe_has h_is_row (hr.mono (by first | decide | exact Nat.le_refl _)) (by rfl) (pa_cons (pv 1) (pa_cons (pe_op op_sub (pe_callB (call_lenK (K := K) rfl) (by rfl) T.b_len bt_len (pa_cons (pe_ix (ix_tupK (K := K) rfl) (pe_ix (ix_tupK (K := K) rfl) (pv 0) pe_int (fun _ _ => rfl)) pe_int (fun _ _ => rfl)) pa_nil)) pe_int) pa_nil))))), ?_⟩
    refine s_ret (ev_callV (ea_cons (ev_var rfl) (ea_cons (ev_op (ev_lenT (ev_op (ev_op (ev_var rfl) ev_c (rv_ixT hS (atI_nat (j := 0) rfl))) ev_c (rv_ixT hSx (atI_nat (j := 0) g0))) hS0) ev_c rv_I0) ea_nil)) fun H1 e1 Q q => ⟨b, r, _, rfl, ex_t e1 hb, by omega, fun x hx => ?_, q⟩) fun H1 e1 => k H1 e1
    have := hk x hx
    rw [rowV_len, hr0]
    omega
theorem has_is_short_word (T : Txt K mg) (h_is_tuple : Has P w K mg base "is_tuple" 1 ["value", "low", "high"] (sp_is_tuple K)) (h_is_word : Has P w K mg base "is_word" 3 ["machine", "value"] (sp_is_word K)) {f : Addr} {fd : FuncData} (F : Fun K "is_short_word" "is_short_word" s_is_short_word f fd) (g : mg "is_short_word" = some (.ref f)) (B : Binds K fd ["machine", "value"] []) :
    Has P w K mg base "is_short_word" 4 ["machine", "value"] (sp_is_word K) := by
  refine Has.mk' g F.kp B (F.ok sc_is_short_word (fun vs H Q E h => ?_) (fun cdv A outer s H vs Q E hr h => ?_))
  · obtain ⟨v, M, b, r, rfl, _⟩ := h
    rfl
  · obtain ⟨v, M, b, r, rfl, hM, ok, hb, hl, hk, k⟩ := h
    refine ⟨_, (pss_one (ps_ret (pe_and (pe_has h_is_tuple (hr.mono (by first | decide | exact Nat.le_refl _)) (by rfl) (pa_cons (pv 1) (pa_cons pe_int (pa_cons (pe_globI (by rfl) T.c_LONGEST_WORD) pa_nil)))) (pe_one (pe_has h_is_word (hr.mono (by first | decide | exact Nat.le_refl _)) (by rfl) (pa_cons (pv 0) (pa_cons (pv 1) pa_nil))))))), ?_⟩
    exact s_ret (ev_andV (a := true) (b := true) (ev_callV (ea_cons (ev_var rfl) (ea_cons ev_c (ea_cons ev_c ea_nil))) fun H1 e1 Q q => ⟨b, _, _, _, rfl, ex_t e1 hb, by omega, by rw [rowV_len]; omega, q⟩) fun _ =>
      ev_callV (ea_cons (ev_var rfl) (ea_cons (ev_var rfl) ea_nil)) fun H1 e1 Q q => ⟨v, M, b, r, rfl, hM.keep (TK.ex e1), ok, ex_t e1 hb, hl, hk, q⟩) fun H1 e1 => k H1 e1
theorem has_check_word (T : Txt K mg) (h_is_short_word : Has P w K mg base "is_short_word" 4 ["machine", "value"] (sp_is_word K)) {f : Addr} {fd : FuncData} (F : Fun K "check_word" "check_word" s_check_word f fd) (g : mg "check_word" = some (.ref f)) (B : Binds K fd ["machine", "word"] []) :
    Has P w K mg base "check_word" 5 ["machine", "word"] (sp_check_word K) := by
  refine Has.mk' g F.kp B (F.ok sc_check_word (fun vs H Q E h => ?_) (fun cdv A outer s H vs Q E hr h => ?_))
  · obtain ⟨v, M, b, r, rfl, _⟩ := h
    rfl
  · obtain ⟨v, M, b, r, rfl, hM, ok, hb, hl, hk, k⟩ := h
    refine ⟨_, (pss_one (ps_if (pt_not (pt_val (pe_has h_is_short_word (hr.mono (by first | decide | exact Nat.le_refl _)) (by rfl) (pa_cons (pv 0) (pa_cons (pv 1) pa_nil)))))
      (pss_one (ps_never))
      pss_nil)), ?_⟩
    exact s_when (b := false) (et_not (a := true) (et_B (ev_callV (ea_cons (ev_var rfl) (ea_cons (ev_var rfl) ea_nil)) fun H1 e1 Q q => ⟨v, M, b, r, rfl, hM.keep (TK.ex e1), ok, ex_t e1 hb, hl, hk, q⟩))) (fun z => by cases z) fun _ H1 e1 => k H1 e1
end

end Kx
namespace Kx
open PySem PySem.Spec PyProof.Rows L2

open Evl
section
variable {P : Program} {w : World} {K : PySem.W.Frag} {mg : Str → Option Value} {base : Heap}
def oV (o : Option Nat) : V := match o with | some n => nV n | none => .non
/-- the answers to a word -/
def tldV (M : M1.Mach) (i : Nat) (r : List Nat) : List V := gvn r.length fun j => nV (M.tld i r j)
/-- an item of a table -/
theorem tab_get {K : PySem.W.Frag} {H : Hp} {vx : List V} {t : List (List Nat)} (h : Paired (RowAt K H) vx t) {i : Nat} {r : List Nat} (e : t[i]? = some r) : ∃ a, vx[i]? = some (.ref a) ∧ SqT K H a (rowV r) := by
  obtain ⟨x, g, a, rfl, hS⟩ := Paired.get h e
  exact ⟨a, g, hS⟩
theorem paired_keep {K : PySem.W.Frag} {H H' : Hp} {vx : List V} {t : List (List Nat)} (h : Paired (RowAt K H) vx t) (e : TK K H H') : Paired (RowAt K H') vx t := Paired.mapP h fun _ _ z => z.keep e
def sp_led (K : PySem.W.Frag) : Sp := fun vs H Q _ => ∃ (v : V) (M : M1.Mach) (i : Nat) (b : Addr) (r : List Nat), vs = [v, .int (i : Int), .ref b] ∧ MacAt K H v M.st M.an ∧ M.Ok ∧ i < M.st.length ∧ SqT K H b (rowV r) ∧ (∀ x ∈ r, x < M.k) ∧ ∀ H2, Ex H H2 → Q (nV (M.led i r)) H2
def sp_told (K : PySem.W.Frag) : Sp := fun vs H Q _ => ∃ (v : V) (M : M1.Mach) (i : Nat) (b : Addr) (r : List Nat), vs = [v, .int (i : Int), .ref b] ∧ MacAt K H v M.st M.an ∧ M.Ok ∧ i < M.st.length ∧ SqT K H b (rowV r) ∧ r.length ≤ 4000 ∧ (∀ x ∈ r, x < M.k) ∧
  ∀ p H2, H p = none → Ex H H2 → H2 p = some (.tup (tldV M i r)) → Q (.ref p) H2
theorem rv_isN {H : Hp} {x : V} : RV (fun x y H Q => y = V.non ∧ Q (V.bl (decide (x = V.non))) H) x .non H (.bl (decide (x = .non))) := fun H1 _ Q q => ⟨rfl, q H1 (Ex.refl _)⟩
theorem rv_notN {H : Hp} {x : V} : RV (fun x y H Q => y = V.non ∧ Q (V.bl (!decide (x = V.non))) H) x .non H (.bl (!decide (x = .non))) := fun H1 _ Q q => ⟨rfl, q H1 (Ex.refl _)⟩
theorem et_isN {σ : L2.St} {H : Hp} {i : Nat} {v : V} (h : σ[i]? = some (some v)) : EvT (tTest (tOp (fun x y H Q => y = V.non ∧ Q (V.bl (decide (x = V.non))) H) (tVar i) (tC V.non))) σ H (decide (v = .non)) := fun H1 e1 Q q => ⟨v, h, rfl, _, rfl, q H1 (Ex.refl _)⟩
theorem et_notN {σ : L2.St} {H : Hp} {i : Nat} {v : V} (h : σ[i]? = some (some v)) : EvT (tTest (tOp (fun x y H Q => y = V.non ∧ Q (V.bl (!decide (x = V.non))) H) (tVar i) (tC V.non))) σ H (!decide (v = .non)) := fun H1 e1 Q q => ⟨v, h, rfl, _, rfl, q H1 (Ex.refl _)⟩
end

end Kx
namespace Kx
open PySem PySem.Spec PyProof.Rows L2

open Evl
section
variable {P : Program} {w : World} {K : PySem.W.Frag} {mg : Str → Option Value} {base : Heap}
theorem cut_row {r : List Nat} {j : Nat} (h : j ≤ r.length) : cutV (rowV r) none (some (j : Int)) = rowV (r.take j) := by
  unfold cutV
  rw [HT.sIx_none, HT.sIx_nat, rowV_len, Nat.min_eq_left h]
  unfold rowV
  rw [List.drop_zero, List.map_take]
  rfl
end

end Kx
namespace Kx
open PySem PySem.Spec PyProof.Rows L2

open Evl
section
variable {P : Program} {w : World} {K : PySem.W.Frag} {mg : Str → Option Value} {base : Heap}
theorem has_state_behind (T : Txt K mg) {f : Addr} {fd : FuncData} (F : Fun K "state_behind" "state_behind" s_state_behind f fd) (g : mg "state_behind" = some (.ref f)) (B : Binds K fd ["machine", "state", "word"] []) : Has P w K mg base "state_behind" 1 ["machine", "state", "word"] (sp_led K) := by
  refine Has.mk' g F.kp B (F.ok sc_state_behind (fun vs H Q E h => ?_) (fun cdv A outer s H vs Q E hr h => ?_))
  · obtain ⟨v, M, i, b, r, rfl, _⟩ := h
    rfl
  · obtain ⟨v, M, i, b, r, rfl, ⟨a, x, y, rfl, hS, ⟨ax, vx, rfl, hSx, hPx⟩, hy⟩, ok, hi, hb, hk, k⟩ := h
    refine ⟨_, (pss_cons (ps_for PassesOwn.never rfl (pi_tupK (K := K) rfl (pv 2)) (pg_name (i := 3) sc_state_behind.nd rfl (.inl rfl))
      (pss_one (ps_set (i := 1) sc_state_behind.nd rfl (.inl rfl) (pe_ix (ix_tupK (K := K) rfl) (pe_ix (ix_tupK (K := K) rfl) (pe_ix (ix_tupK (K := K) rfl) (pv 0) pe_int (fun _ _ => rfl)) (pv 1) (fun _ _ => rfl)) (pv 3) (fun _ _ => rfl)))))
      (pss_one (ps_ret (pv 1)))), ?_⟩
    refine q_forT (ev_var rfl) hb (fun j σ' H' => ∃ l, σ' = [some (.ref a), some (.int (M.led i (r.take j) : Nat)), some (.ref b), l] ∧ Ex H H') (fun H1 e1 => ⟨none, rfl, e1⟩) (fun j σ' H' _ ⟨_, _, e⟩ => ex_t e hb) ?_ ?_
    · rintro j z σ' H' hz ⟨l, rfl, e⟩
      obtain ⟨c, hc, rfl⟩ := map_of hz
      have hlt : M.led i (r.take j) < M.st.length := M.led_lt ok hi fun x hx => hk x (List.mem_of_mem_take hx)
      have hcm := hk c (List.mem_of_getElem? hc)
      obtain ⟨ar, gr, hr1⟩ := tab_get hPx (M.row_at hlt)
      have hg := M.go_at ok hlt hcm
      refine s_asg (ev_op (ev_op (ev_op (ev_var rfl) ev_c (rv_ixT (ex_t e hS) (atI_nat (j := 0) rfl))) (ev_var rfl) (rv_ixT (ex_t e hSx) (atI_nat gr))) (ev_var rfl) (rv_ixT (ex_t e hr1) (atI_nat (rowV_at hg)))) fun H6 e8 => ?_
      refine ⟨some (nV c), ?_, e.trans e8⟩
      rw [M.led_take hc]
      rfl
    · rintro σ' H' ⟨l, rfl, e⟩
      rw [rowV_len, List.take_length]
      exact s_ret (ev_var rfl) fun H5 e6 => k H5 (e.trans e6)
/-! ### the states that come, each with a way -/
/-- the dict kvs tells the ways ws -/
structure Ways (K : PySem.W.Frag) (H : Hp) (M : M1.Mach) (kvs : List (Key × V)) (ws : List (Nat × List Nat)) : Prop where
  at_ : Paired (fun (kv : Key × V) (iw : Nat × List Nat) => kv.1 = Sum.inl (iw.1 : Int) ∧ RowAt K H kv.2 iw.2) kvs ws
  way : ∀ iw ∈ ws, M.Letters iw.2 ∧ M.led 0 iw.2 = iw.1
  nd : (ws.map (·.1)).Nodup
  ln : ∀ iw ∈ ws, iw.2.length ≤ ws.length
theorem Ways.keep {H H' : Hp} {M : M1.Mach} {kvs : List (Key × V)} {ws : List (Nat × List Nat)} (W : Ways K H M kvs ws) (e : TK K H H') : Ways K H' M kvs ws := ⟨Paired.mapP W.at_ fun _ _ z => ⟨z.1, z.2.keep e⟩, W.way, W.nd, W.ln⟩
theorem ways_val {H : Hp} : ∀ {kvs : List (Key × V)} {ws : List (Nat × List Nat)}, Paired (fun (kv : Key × V) (iw : Nat × List Nat) => kv.1 = Sum.inl (iw.1 : Int) ∧ RowAt K H kv.2 iw.2) kvs ws → ∀ i : Nat, (i ∈ ws.map (·.1) → ∃ v u, valV kvs (Sum.inl (i : Int)) = some v ∧ (i, u) ∈ ws ∧ RowAt K H v u) ∧ (i ∉ ws.map (·.1) → valV kvs (Sum.inl (i : Int)) = none)
  | _, _, .nil, i => ⟨fun h => by simp at h, fun _ => rfl⟩
  | _, _, .cons (a := kv) (b := iw) ⟨e, hr⟩ t, i => by
    have ih := ways_val t i
    by_cases h : iw.1 = i
    · subst h
      refine ⟨fun _ => ⟨kv.2, iw.2, valV_pos e, List.mem_cons_self, hr⟩, fun hn => absurd List.mem_cons_self hn⟩
    · have hne : ¬ kv.1 = Sum.inl (i : Int) := fun z => by
        rw [e] at z
        exact h (Int.ofNat_inj.mp (Sum.inl.inj z))
      rw [valV_neg hne]
      refine ⟨fun hm => ?_, fun hn => ih.2 fun z => hn (List.mem_cons_of_mem _ z)⟩
      rcases List.mem_cons.mp hm with z | z
      · exact absurd z.symm h
      · obtain ⟨v, u, a, b, c⟩ := ih.1 z
        exact ⟨v, u, a, List.mem_cons_of_mem _ b, c⟩
theorem Ways.lt {H : Hp} {M : M1.Mach} (ok : M.Ok) {kvs : List (Key × V)} {ws : List (Nat × List Nat)} (W : Ways K H M kvs ws) : ∀ i ∈ ws.map (·.1), i < M.st.length := fun i hi => by
  obtain ⟨iw, hm, rfl⟩ := List.mem_map.mp hi
  have h := W.way iw hm
  rw [← h.2]
  exact M.led_lt ok ok.n1 h.1
theorem Ways.len {H : Hp} {M : M1.Mach} (ok : M.Ok) {kvs : List (Key × V)} {ws : List (Nat × List Nat)} (W : Ways K H M kvs ws) : ws.length ≤ M.st.length := by
  have h := M1.nodup_le W.nd (m := List.range M.st.length) fun i hi => List.mem_range.mpr (W.lt ok i hi)
  rw [List.length_map, List.length_range] at h
  exact h
/-- all states that come are among them -/
def AllCome (M : M1.Mach) (ws : List (Nat × List Nat)) : Prop := ∀ i, M.Rch i → i ∈ ws.map (·.1)
theorem allCome_of {M : M1.Mach} {ws : List (Nat × List Nat)} (h0 : 0 ∈ ws.map (·.1)) (hc : ∀ i ∈ ws.map (·.1), ∀ a, a < M.k → M.go i a ∈ ws.map (·.1)) : AllCome M ws := by
  rintro i ⟨u, hu, rfl⟩
  have gen : ∀ (u : List Nat) (i : Nat), i ∈ ws.map (·.1) → M.Letters u → M.led i u ∈ ws.map (·.1) := by
    intro u
    induction u with
    | nil => exact fun i hi _ => hi
    | cons a u ih => exact fun i hi hu => ih (M.go i a) (hc i hi a (hu a List.mem_cons_self)) fun x hx => hu x (List.mem_cons_of_mem _ hx)
  exact gen u 0 h0 hu
theorem seq0 {n : Nat} (h : 0 < n) : seqIndex? 0 n = some 0 := by
  unfold seqIndex?
  have h' : (0 : Int) < (n : Int) := by omega
  simp
  omega
def sp_ways (K : PySem.W.Frag) : Sp := fun vs H Q _ => ∃ (v : V) (M : M1.Mach), vs = [v] ∧ MacAt K H v M.st M.an ∧ M.Ok ∧ ∀ p H2 kvs ws, H p = none → Ex H H2 → H2 p = some (.dK kvs) → Ways K H2 M kvs ws → AllCome M ws → Q (.ref p) H2
end

end Kx
namespace Kx
open PySem PySem.Spec PyProof.Rows L2

open Evl
section
variable {P : Program} {w : World} {K : PySem.W.Frag} {mg : Str → Option Value} {base : Heap}
/-! ### the numbers are let -/
def sp_chknum : Sp := fun vs H Q _ => ∃ v lo hi : Int, vs = [.int v, .int lo, .int hi] ∧ lo ≤ v ∧ v ≤ hi ∧ ∀ H2, Ex H H2 → Q .non H2
def sp_chk (lo hi : Int) : Sp := fun vs H Q _ => ∃ v : Int, vs = [.int v] ∧ lo ≤ v ∧ v ≤ hi ∧ ∀ H2, Ex H H2 → Q .non H2
theorem has_check_number (T : Txt K mg) (h_is_integer : Has P w K mg base "is_integer" 1 ["value", "low", "high"] sp_is_integer) {f : Addr} {fd : FuncData} (F : Fun K "check_number" "check_number" s_check_number f fd) (g : mg "check_number" = some (.ref f)) (B : Binds K fd ["value", "low", "high"] []) : Has P w K mg base "check_number" 2 ["value", "low", "high"] sp_chknum := by
  refine Has.mk' g F.kp B (F.ok sc_check_number (fun vs H Q E h => ?_) (fun cdv A outer s H vs Q E hr h => ?_))
  · obtain ⟨v, lo, hi, rfl, _⟩ := h
    rfl
  · obtain ⟨v, lo, hi, rfl, h1, h2, k⟩ := h
    refine ⟨_, (pss_one (ps_if (pt_not (pt_val (pe_has h_is_integer (hr.mono (by first | decide | exact Nat.le_refl _)) (by rfl) (pa_cons (pv 0) (pa_cons (pv 1) (pa_cons (pv 2) pa_nil))))))
      (pss_one (ps_never))
      pss_nil)), ?_⟩
    refine s_when (b := false) (et_not (a := true) (et_B (ev_callV (ea_cons (ev_var rfl) (ea_cons (ev_var rfl) (ea_cons (ev_var rfl) ea_nil))) fun H1 e1 Q q => ⟨v, lo, hi, rfl, fun H2 e2 => ?_⟩))) (fun z => by cases z) fun _ H1 e1 => k H1 e1
    rw [decide_eq_true h1, decide_eq_true h2]
    exact q H2 e2
end

end Kx
namespace Kx
open PySem PySem.Spec PyProof.Rows L2

open Evl
section
variable {P : Program} {w : World} {K : PySem.W.Frag} {mg : Str → Option Value} {base : Heap}
/-! ### the law's draws -/
def sp_taken (K : PySem.W.Frag) : Sp := fun vs H Q _ => ∃ (a scr : Addr) (ns : List Int) (m : Nat), vs = [.ref a, .int (m : Int)] ∧ 1 ≤ m ∧ m ≤ 1000 ∧ RowOk K H a scr ns ∧ ∀ (r : Nat) H2, r < m → ExB a H H2 → RowOk K H2 a scr ns → Q (nV r) H2
theorem int_mod {x : Int} {m : Nat} (h : 1 ≤ m) : ∃ r : Nat, r < m ∧ x % (m : Int) = (r : Int) := by
  have h0 : (0 : Int) ≤ x % (m : Int) := Int.emod_nonneg x (by omega)
  have h1 : x % (m : Int) < (m : Int) := Int.emod_lt_of_pos x (by omega)
  exact ⟨(x % (m : Int)).toNat, by omega, by omega⟩
theorem ix4 (j : Nat) (h : j < 4) {v0 v1 v2 v3 : V} : ixN ([v0, v1, v2, v3] : List V).length (j : Int) = some j := ixN_nat h
theorem lt4 {j : Nat} {a b c d : V} (h : j < 4) : j < [a, b, c, d].length := h
theorem rv_modN {H : Hp} {i : Int} {m : Nat} (h : 1 ≤ m) : RV (rI (fun _ j => 0 < j) fun i j => .int (i % j)) (.int i) (.int (m : Int)) H (.int (i % (m : Int))) := rv_I (C := fun _ j => 0 < j) (by omega)
theorem ev_int {ta : TE} {σ : L2.St} {H : Hp} {i : Int} (ha : Ev ta σ H (.int i)) : Ev (tCB (fun xs H Q => (∃ i, xs = [.int i] ∧ Q (.int i) H) ∨ ∃ k, xs = [.bl k] ∧ Q (.int (if k then 1 else 0)) H) (tCons ta tNil)) σ H (.int i) := fun H1 e Q q =>
  ha H1 e _ fun H2 e2 => .inl ⟨i, rfl, q H2 e2⟩
theorem has_law_taken (T : Txt K mg) {f : Addr} {fd : FuncData} (F : Fun K "_law_taken" "_law_taken" s_law_taken f fd) (g : mg "_law_taken" = some (.ref f)) (B : Binds K fd ["row", "many"] []) : Has P w K mg base "_law_taken" 1 ["row", "many"] (sp_taken K) := by
  refine Has.mk' g F.kp B (F.ok sc_law_taken (fun vs H Q E h => ?_) (fun cdv A outer s H vs Q E hr h => ?_))
  · obtain ⟨a, scr, ns, m, rfl, _⟩ := h
    rfl
  · obtain ⟨a, scr, ns, m, rfl, h1, hm, ⟨⟨i, z, q, hA, i0, z0, z1⟩, hS, hl⟩, k⟩ := h
    refine ⟨_, (pss_cons (ps_if (pt_cmpR op_gt (pe_ix (ix_listK (K := K) rfl) (pv 0) pe_int (fun _ _ => rfl)) pe_int (nomark _))
      (pss_cons (ps_set (i := 2) sc_law_taken.nd rfl (.inl rfl) (pe_op op_mod (pe_callTy call_int1 (by rfl) T.b_int bt_int (pa_cons (pe_ix (ix_listK (K := K) rfl) (pv 0) pe_int (fun _ _ => rfl)) pa_nil)) (pv 1)))
      (pss_cons (ps_asg (pe_op op_fdiv (pe_ix (ix_listK (K := K) rfl) (pv 0) pe_int (fun _ _ => rfl)) (pv 1)) (pg_sub (pv 0) pe_int set_list))
      (pss_one (ps_ret (pv 2)))))
      pss_nil)
      (pss_cons (ps_asg (pe_op op_add (pe_ix (ix_listK (K := K) rfl) (pv 0) pe_int (fun _ _ => rfl)) pe_int) (pg_sub (pv 0) pe_int set_list))
      (pss_cons (ps_if (pt_cmpR op_gt (pe_ix (ix_listK (K := K) rfl) (pv 0) pe_int (fun _ _ => rfl)) (pe_callB (call_lenK (K := K) rfl) (by rfl) T.b_len bt_len (pa_cons (pe_ix (ix_listK (K := K) rfl) (pv 0) pe_int (fun _ _ => rfl)) pa_nil)) (nomark _))
      (pss_cons (ps_asg (pe_op op_mod (pe_callTy call_int1 (by rfl) T.b_int bt_int (pa_cons (pe_op op_add (pe_op op_mul (pe_ix (ix_listK (K := K) rfl) (pv 0) pe_int (fun _ _ => rfl)) pe_int) pe_int) pa_nil)) pe_int) (pg_sub (pv 0) pe_int set_list))
      (pss_one (ps_ret (pe_op op_mod (pe_callTy call_int1 (by rfl) T.b_int bt_int (pa_cons (pe_op op_fdiv (pe_ix (ix_listK (K := K) rfl) (pv 0) pe_int (fun _ _ => rfl)) pe_int) pa_nil)) (pv 1)))))
      pss_nil)
      (pss_cons (ps_set (i := 3) sc_law_taken.nd rfl (.inl rfl) (pe_ix (ix_listK (K := K) rfl) (pe_ix (ix_listK (K := K) rfl) (pv 0) pe_int (fun _ _ => rfl)) (pe_op op_sub (pe_ix (ix_listK (K := K) rfl) (pv 0) pe_int (fun _ _ => rfl)) pe_int) (fun _ _ => rfl)))
      (pss_cons (ps_asg (pe_op op_mod (pe_callTy call_int1 (by rfl) T.b_int bt_int (pa_cons (pe_op op_add (pe_op op_add (pe_op op_mul (pe_ix (ix_listK (K := K) rfl) (pv 0) pe_int (fun _ _ => rfl)) pe_int) (pv 3)) pe_int) pa_nil)) pe_int) (pg_sub (pv 0) pe_int set_list))
      (pss_cons (ps_if (pt_cmpR op_ge (pv 3) (pe_op op_pow pe_int pe_int) (nomark _))
      (pss_one (ps_asg (pe_op op_fdiv (pv 3) (pv 1)) (pg_sub (pv 0) pe_int set_list)))
      pss_nil)
      (pss_one (ps_ret (pe_op op_mod (pe_callTy call_int1 (by rfl) T.b_int bt_int (pa_cons (pv 3) pa_nil)) (pv 1)))))))))), ?_⟩
    have fin : ∀ (x : Int) (H2 : Hp) (i z q : Int), H2 a = some (.lst [.ref scr, .int i, .int z, .int q]) → 0 ≤ i → 0 ≤ z → z < 2147483647 → ExB a H H2 → Q (.int (x % (m : Int))) H2 := fun x H2 i z q hA i0 z0 z1 e => by
      obtain ⟨r, hr, er⟩ := int_mod (x := x) h1
      rw [er]
      exact k r H2 hr e ⟨⟨i, z, q, hA, i0, z0, z1⟩, fun H' x => hS H' (e.trans x), hl⟩
    refine q_when (b := decide ((0 : Int) < q)) (et_test (ev_op (ev_op (ev_var rfl) ev_c (rv_ixL (sq_of hA) (atI_nat (j := 3) rfl))) ev_c rv_I0)) (fun _ H1 e1 => ?_) (fun _ H1 e1 => ?_)
    · have hA1 := e1 _ _ hA
      refine q_asg (ev_op (ev_int (ev_op (ev_var rfl) ev_c (rv_ixL (sq_of hA1) (atI_nat (j := 3) rfl)))) (ev_var rfl) (rv_modN h1)) fun H2 e2 => ?_
      have hA2 := e2 _ _ hA1
      refine q_setL (j := 3) hA2 (ev_op (ev_op (ev_var rfl) ev_c (rv_ixL (sq_of hA2) (atI_nat (j := 3) rfl))) (ev_var rfl) (rv_I (C := CDiv) ⟨by omega, by omega⟩)) (ev_var rfl) ev_c (lt4 (by decide)) fun H3 e3 => ?_
      refine s_ret (ev_var rfl) fun H4 e4 => ?_
      exact fin q H4 i z _ (e4 _ _ upd_same) i0 z0 z1 ((((ExB.of (e1.trans e2)).trans (ExB.of e3)).trans ExB.upd).trans (ExB.of e4))
    · have hA1 := e1 _ _ hA
      refine q_setL (j := 1) hA1 (ev_op (ev_op (ev_var rfl) ev_c (rv_ixL (sq_of hA1) (atI_nat (j := 1) rfl))) ev_c rv_I0) (ev_var rfl) ev_c (lt4 (by decide)) fun H2 e2 => ?_
      have hA2 : (upd H2 a (.lst [.ref scr, .int (i + 1), .int z, .int q])) a = some (.lst [.ref scr, .int (i + 1), .int z, .int q]) := upd_same
      have x2 : ExB a H (upd H2 a (.lst [.ref scr, .int (i + 1), .int z, .int q])) := (ExB.of (e1.trans e2)).trans ExB.upd
      have hS2 := hS _ x2
      refine q_when (b := decide (((ns.map V.int).length : Int) < i + 1)) (et_test (ev_op (ev_op (ev_var rfl) ev_c (rv_ixL (sq_of hA2) (atI_nat (j := 1) rfl))) (ev_len (ev_op (ev_var rfl) ev_c (rv_ixL (sq_of hA2) (atI_nat (j := 0) rfl))) hS2) rv_I0)) (fun _ H3 e3 => ?_) (fun b H3 e3 => ?_)
      · have hA3 := e3 _ _ hA2
        refine q_setL (j := 2) hA3 (ev_op (ev_int (ev_op (ev_op (ev_op (ev_var rfl) ev_c (rv_ixL (sq_of hA3) (atI_nat (j := 2) rfl))) ev_c (rv_I (C := CMul) (.inl ⟨by omega, by omega⟩))) ev_c rv_I0)) ev_c (rv_I (C := fun _ j => (0 : Int) < j) (by decide))) (ev_var rfl) ev_c (lt4 (by decide)) fun H4 e4 => ?_
        have hA4 : (upd H4 a (.lst [.ref scr, .int (i + 1), .int ((z * 48271 + 11) % 2147483647), .int q])) a = some (.lst [.ref scr, .int (i + 1), .int ((z * 48271 + 11) % 2147483647), .int q]) := upd_same
        refine s_ret (ev_op (ev_int (ev_op (ev_op (ev_var rfl) ev_c (rv_ixL (sq_of hA4) (atI_nat (j := 2) rfl))) ev_c (rv_I (C := CDiv) ⟨by decide, by decide⟩))) (ev_var rfl) (rv_modN h1)) fun H5 e5 => ?_
        exact fin _ H5 _ _ _ (e5 _ _ hA4) (by omega) (Int.emod_nonneg _ (by decide)) (Int.emod_lt_of_pos _ (by decide)) (((x2.trans (ExB.of (e3.trans e4))).trans ExB.upd).trans (ExB.of e5))
      · have hA3 := e3 _ _ hA2
        have x3 := x2.trans (ExB.of e3)
        have hS3 := hS _ x3
        have hle : i + 1 ≤ (ns.length : Int) := by
          have := of_decide_eq_false b
          rw [List.length_map] at this
          omega
        obtain ⟨j, hj⟩ : ∃ j : Nat, i = (j : Int) := ⟨i.toNat, by omega⟩
        subst hj
        have hjl : j < ns.length := by omega
        have hget : (ns.map V.int)[j]? = some (.int ns[j]) := by rw [List.getElem?_map, List.getElem?_eq_getElem hjl]; rfl
        refine q_asg (ev_op (ev_op (ev_var rfl) ev_c (rv_ixL (sq_of hA3) (atI_nat (j := 0) rfl))) (ev_op (ev_op (ev_var rfl) ev_c (rv_ixL (sq_of hA3) (atI_nat (j := 1) rfl))) ev_c rv_I0) (rv_ixL hS3 (by rw [show (j : Int) + 1 - 1 = (j : Int) by omega]; exact atI_nat hget))) fun H4 e4 => ?_
        have hA4 := e4 _ _ hA3
        refine q_setL (j := 2) hA4 (ev_op (ev_int (ev_op (ev_op (ev_op (ev_op (ev_var rfl) ev_c (rv_ixL (sq_of hA4) (atI_nat (j := 2) rfl))) ev_c (rv_I (C := CMul) (.inl ⟨by omega, by omega⟩))) (ev_var rfl) rv_I0) ev_c rv_I0)) ev_c (rv_I (C := fun _ j => (0 : Int) < j) (by decide))) (ev_var rfl) ev_c (lt4 (by decide)) fun H5 e5 => ?_
        have hA5 : (upd H5 a (.lst [.ref scr, .int ((j : Int) + 1), .int ((z * 48271 + ns[j] + 11) % 2147483647), .int q])) a = some (.lst [.ref scr, .int ((j : Int) + 1), .int ((z * 48271 + ns[j] + 11) % 2147483647), .int q]) := upd_same
        have x5 := (x3.trans (ExB.of (e4.trans e5))).trans (ExB.upd (a := a) (o := .lst [.ref scr, .int ((j : Int) + 1), .int ((z * 48271 + ns[j] + 11) % 2147483647), .int q]))
        have zz : 0 ≤ (z * 48271 + ns[j] + 11) % 2147483647 ∧ (z * 48271 + ns[j] + 11) % 2147483647 < 2147483647 := ⟨Int.emod_nonneg _ (by decide), Int.emod_lt_of_pos _ (by decide)⟩
        refine q_when (b := decide ((10 : Int) ^ (18 : Int).toNat ≤ ns[j])) (et_test (ev_op (ev_var rfl) (ev_op ev_c ev_c (rv_I (C := CPow) ⟨by decide, by decide, by decide⟩)) rv_I0)) (fun _ H6 e6 => ?_) (fun _ H6 e6 => ?_)
        · refine s_setL (D := { nx := _, rt := _, bk := _, ct := _ }) (j := 3) (e6 _ _ hA5) (ev_op (ev_var rfl) (ev_var rfl) (rv_I (C := CDiv) ⟨by omega, by omega⟩)) (ev_var rfl) ev_c (lt4 (by decide)) fun H7 e7 => ?_
          refine s_ret (ev_op (ev_int (ev_var rfl)) (ev_var rfl) (rv_modN h1)) fun H8 e8 => ?_
          exact fin _ H8 _ _ _ (e8 _ _ upd_same) (by omega) zz.1 zz.2 (((x5.trans (ExB.of (e6.trans e7))).trans ExB.upd).trans (ExB.of e8))
        · refine s_ret (ev_op (ev_int (ev_var rfl)) (ev_var rfl) (rv_modN h1)) fun H8 e8 => ?_
          exact fin _ H8 _ _ _ (e8 _ _ (e6 _ _ hA5)) (by omega) zz.1 zz.2 (x5.trans (ExB.of (e6.trans e8)))
end

end Kx
namespace Kx
open PySem PySem.Spec PyProof.Rows L2

open Evl
section
variable {P : Program} {w : World} {K : PySem.W.Frag} {mg : Str → Option Value} {base : Heap}
def sp_lawmac (K : PySem.W.Frag) : Sp := fun vs H Q _ => ∃ (a scr : Addr) (ns : List Int) (s l : Nat), vs = [.ref a, .int (s : Int), .int (l : Int)] ∧ 1 ≤ s ∧ s ≤ 6 ∧ 1 ≤ l ∧ l ≤ 3 ∧ RowOk K H a scr ns ∧
  ∀ v (M : M1.Mach) H2, M.Ok → M.st.length ≤ s → M.k ≤ l → MacAt K H2 v M.st M.an → ExB a H H2 → RowOk K H2 a scr ns → Q v H2
/-- what stands while the machine is drawn -/
structure Dw (K : PySem.W.Frag) (H0 H : Hp) (a scr : Addr) (ns : List Int) (ps pt pb : Addr) (tab : List Nat) (ls lt : List V) (rows anss : List (List Nat)) : Prop where
  x : ExB a H0 H
  r : RowOk K H a scr ns
  hs : H ps = some (.lst ls)
  ht : H pt = some (.lst lt)
  hb : H pb = some (.lst (rowV tab))
  ps_ : Paired (RowAt K H) ls rows
  pt_ : Paired (RowAt K H) lt anss
theorem Dw.keep {K : PySem.W.Frag} {H0 H H' : Hp} {a scr : Addr} {ns : List Int} {ps pt pb : Addr} {tab : List Nat} {ls lt : List V} {rows anss : List (List Nat)} (D : Dw K H0 H a scr ns ps pt pb tab ls lt rows anss) (n1 : ps ≠ a) (n2 : pt ≠ a) (n3 : pb ≠ a) (e : ExB a H H') (R : RowOk K H' a scr ns) :
    Dw K H0 H' a scr ns ps pt pb tab ls lt rows anss := by
  obtain ⟨xs, hx⟩ := D.r.lst
  exact ⟨D.x.trans e, R, e _ _ n1 D.hs, e _ _ n2 D.ht, e _ _ n3 D.hb, paired_keep D.ps_ (e.tk hx), paired_keep D.pt_ (e.tk hx)⟩
theorem Dw.ex {K : PySem.W.Frag} {H0 H H' : Hp} {a scr : Addr} {ns : List Int} {ps pt pb : Addr} {tab : List Nat} {ls lt : List V} {rows anss : List (List Nat)} (D : Dw K H0 H a scr ns ps pt pb tab ls lt rows anss) (n1 : ps ≠ a) (n2 : pt ≠ a) (n3 : pb ≠ a) (e : Ex H H') : Dw K H0 H' a scr ns ps pt pb tab ls lt rows anss :=
  D.keep n1 n2 n3 (ExB.of e) (D.r.ex e)
/-- a fresh list is written -/
theorem Dw.put {K : PySem.W.Frag} {H0 H : Hp} {a scr p : Addr} {ns : List Int} {ps pt pb : Addr} {tab : List Nat} {ls lt xs ys : List V} {rows anss : List (List Nat)} (D : Dw K H0 H a scr ns ps pt pb tab ls lt rows anss) (R0 : RowOk K H0 a scr ns) (h0 : H0 p = none) (hp : H p = some (.lst xs)) (na : p ≠ a) (n1 : p ≠ ps) (n2 : p ≠ pt) (n3 : p ≠ pb) :
    Dw K H0 (upd H p (.lst ys)) a scr ns ps pt pb tab ls lt rows anss :=
  ⟨D.x.mut h0, R0.join D.r (D.x.mut h0) (upd_ne na.symm), by rw [upd_ne n1.symm]; exact D.hs, by rw [upd_ne n2.symm]; exact D.ht, by rw [upd_ne n3.symm]; exact D.hb, paired_keep D.ps_ (TK.lst hp), paired_keep D.pt_ (TK.lst hp)⟩
theorem draw_ok {σ : L2.St} {H : Hp} {a scr : Addr} {ns : List Int} {m : Nat} {te : TE} {i : Nat} (h1 : 1 ≤ m) (h2 : m ≤ 1000) (s0 : σ[i]? = some (some (.ref a))) (hmx : ∀ H1, ExB a H H1 → Ev te σ H1 (.int (m : Int))) :
    EvR K (tCall (sp_taken K) [] E0 (tCons (tVar i) (tCons te tNil))) σ H a scr ns m := fun H1 x1 R1 Q q => by
  refine ⟨.ref a, s0, hmx H1 x1 H1 (Ex.refl H1) _ fun H2 e2 => ⟨a, scr, ns, m, rfl, h1, h2, R1.ex e2, fun r H3 hr x3 R3 => q r H3 hr ((ExB.of e2).trans x3) R3⟩⟩
/-- name = [draw for x in range(n)] -/
theorem q_draws {ta : TA} {te : TE} {tz : TS} {D : Ends} {σ : L2.St} {H : Hp} {a scr : Addr} {ns : List Int} {i j n m : Nat} {vs : List Nat} (h : EvA ta σ H [.int (n : Int)]) (hn : n ≤ 1000) (R : RowOk K H a scr ns) (hw : ∀ x, wipe ((wipe σ vs).set j (some x)) vs = wipe σ vs)
    (he : ∀ i : Nat, i < 1000 → EvR K te ((wipe σ vs).set j (some (.int (i : Int)))) H a scr ns m)
    (q : ∀ p l H2, H p = none → p ≠ a → ExB a H H2 → RowOk K H2 a scr ns → H2 p = some (.lst (rowV l)) → l.length = n → (∀ x ∈ l, x < m) → tz D (σ.set i (some (.ref p))) H2) : tSeq (tAsg (tLc (iRng1 ta) (gName j) tYes te vs) (gName i)) tz D σ H :=
  er_lcR h hn R hw he (fun x H1 => gName i x σ H1 (tz D)) q
/-- tuple([draw for x in range(n)]), the only argument -/
theorem a_draws {ta : TA} {te : TE} {σ : L2.St} {H : Hp} {a scr : Addr} {ns : List Int} {j n m : Nat} {vs : List Nat} {Q : List V → Hp → Prop} (h : EvA ta σ H [.int (n : Int)]) (hn : n ≤ 1000) (R : RowOk K H a scr ns) (hw : ∀ x, wipe ((wipe σ vs).set j (some x)) vs = wipe σ vs)
    (he : ∀ i : Nat, i < 1000 → EvR K te ((wipe σ vs).set j (some (.int (i : Int)))) H a scr ns m)
    (q : ∀ p l H2, H p = none → p ≠ a → ExB a H H2 → RowOk K H2 a scr ns → H2 p = some (.tup (rowV l)) → l.length = n → (∀ x ∈ l, x < m) → Q [.ref p] H2) : tCons (tCB (rTupOf K) (tCons (tLc (iRng1 ta) (gName j) tYes te vs) tNil)) tNil σ H Q :=
  er_lcR h hn R hw he (fun x H1 => rTupOf K [x] H1 fun y H2 => Q [y] H2) fun p l H2 hp na x2 R2 h2 hl hm => ⟨p, _, rfl, Or.inl ⟨sq_of h2, fun p2 hp2 => by
    have np2 : p2 ≠ a := fun z => by
      subst z
      obtain ⟨xs, hx⟩ := R2.lst
      rw [hx] at hp2
      cases hp2
    exact q p2 l _ (x2.fresh np2 hp2) np2 (x2.trans (ExB.of (Ex.new hp2))) (R2.ex (Ex.new hp2)) upd_same hl hm⟩⟩
end

end Kx
namespace Kx
open PySem PySem.Spec PyProof.Rows L2

open Evl
section
variable {P : Program} {w : World} {K : PySem.W.Frag} {mg : Str → Option Value} {base : Heap}
/-! ### data in the heap, kept -/
mutual
theorem dp_ex {H H' : Hp} (e : Ex H H') : ∀ (d : PyData) (v : V), Dp K H v d → Dp K H' v d
  | .none, _, h => by cases h; exact .non
  | .bool b, _, h => by cases h; exact .bl b
  | .int i, _, h => by cases h; exact .int i
  | .str x, _, h => by cases h; exact .str x
  | .list ds, _, h => by
    cases h with
    | lst h1 h2 => exact .lst (ex_l e h1) (dps_ex e ds _ h2)
  | .tuple ds, _, h => by
    cases h with
    | tup h1 h2 => exact .tup (ex_t e h1) (dps_ex e ds _ h2)
  | .dict _, _, h => by cases h
theorem dps_ex {H H' : Hp} (e : Ex H H') : ∀ (ds : List PyData) (vs : List V), DpAll K H vs ds → DpAll K H' vs ds
  | [], _, h => by cases h; exact .nil
  | d :: ds, _, h => by
    cases h with
    | cons h1 h2 => exact .cons (dp_ex e d _ h1) (dps_ex e ds _ h2)
end
theorem dps_len {H : Hp} : ∀ {ds : List PyData} {vs : List V}, DpAll K H vs ds → vs.length = ds.length
  | [], _, h => by cases h; rfl
  | _ :: ds, _, h => by
    cases h with
    | cons _ h2 => rw [List.length_cons, List.length_cons, dps_len h2]
theorem dps_get {H : Hp} : ∀ {ds : List PyData} {vs : List V} {i : Nat}, DpAll K H vs ds → i < ds.length → ∃ v d, vs[i]? = some v ∧ ds[i]? = some d ∧ Dp K H v d
  | [], _, _, _, hi => by simp at hi
  | d :: ds, _, i, h, hi => by
    cases h with
    | cons h1 h2 =>
      cases i with
      | zero => exact ⟨_, _, rfl, rfl, h1⟩
      | succ i =>
        obtain ⟨v, d', a, b, c⟩ := dps_get (i := i) h2 (by simpa using hi)
        exact ⟨v, d', by simpa using a, by simpa using b, c⟩
/-- data of a bounded depth -/
def Fine : Nat → PyData → Prop
  | _, .none | _, .bool _ | _, .int _ | _, .str _ => True
  | _, .dict _ => False
  | 0, .list _ | 0, .tuple _ => False
  | d + 1, .list xs | d + 1, .tuple xs => xs.length ≤ 40000 ∧ ∀ x ∈ xs, Fine d x
def sp_la (K : PySem.W.Frag) (n : Nat) : Sp := fun vs H Q _ => ∃ (x y : V) (d : PyData), vs = [x, y] ∧ Dp K H x d ∧ Dp K H y d ∧ Fine n d ∧ ∀ H2, Ex H H2 → Q (.bl true) H2
theorem kit_tl {T : String} {b1 b2 : Bool} (h1 : kitB T "tuple" = some b1) (h2 : kitB T "list" = some b2) : PySem.W.kitAny K (.type T) [.type "tuple", .type "list"] = some (b1 || b2) :=
  kitAny_cons (kit_ty h1) (fun e => by subst e; exact kitAny_cons (kit_ty h2) (fun e => by subst e; exact kitAny_nil) fun e => by subst e; rfl) fun e => by subst e; rfl
theorem ev_tl {ta : TE} {σ : L2.St} {H : Hp} {x : V} {T : String} {b1 b2 : Bool} (ha : Ev ta σ H x) (hy : ∀ H1, Ex H H1 → TyX K H1 x (.type T)) (h1 : kitB T "tuple" = some b1) (h2 : kitB T "list" = some b2) :
    Ev (tCB (rIsiT K) (tCons ta (tCons (tTup (tCons (tC (.ty "tuple")) (tCons (tC (.ty "list")) tNil))) tNil))) σ H (.bl (b1 || b2)) := fun H1 e Q q =>
  ha H1 e _ fun H2 e2 => ⟨by show 2 ≤ sizeLine; decide, fun p hp => ⟨x, p, _, _, _, _, rfl, upd_same, .cons (.ty _) (.cons (.ty _) .nil), hy _ ((e.trans e2).trans (Ex.new hp)), kit_tl h1 h2, q _ (e2.trans (Ex.new hp))⟩⟩
theorem ev_lenS {ta : TE} {σ : L2.St} {H : Hp} {p : Addr} {xs : List V} (ha : Ev ta σ H (.ref p)) (h : SqL K H p xs ∨ SqT K H p xs) : Ev (tCB (rLenS K) (tCons ta tNil)) σ H (.int (xs.length : Int)) := by
  rcases h with h | h
  · exact ev_len ha h
  · exact ev_lenT ha h
theorem rv_ixA {H : Hp} {p : Addr} {xs : List V} {i : Int} {v : V} (h : SqL K H p xs ∨ SqT K H p xs) (ha : atI xs i = some v) : RV (rIx K) (.ref p) (.int i) H v := fun H1 e Q q => by
  rcases h with h | h
  · exact .inl (rv_ixL h ha H1 e Q q)
  · exact .inr (.inl (rv_ixT h ha H1 e Q q))
theorem given_none {n : Nat} {v : Nat → V} : given n (fun _ => false) v = rowV [] := by
  unfold given
  rw [List.filter_eq_nil_iff.mpr (fun _ _ => by decide)]
  rfl
theorem alike_all (T : Txt K mg) {f : Addr} {fd : FuncData} (F : Fun K "_law_alike" "_law_alike" s_law_alike f fd) (g : mg "_law_alike" = some (.ref f)) (B : Binds K fd ["found", "due"] []) : ∀ n, Has P w K mg base "_law_alike" (n + 1) ["found", "due"] (sp_la K n) := by
  -- the scalars
  have tyI : ∀ (H : Hp) (i : Int), TyX K H (.int i) (.type "int") := fun _ _ => .base (.int _)
  have tyB : ∀ (H : Hp) (b : Bool), TyX K H (.bl b) (.type "bool") := fun _ _ => .base (.bl _)
  have tyN : ∀ (H : Hp), TyX K H .non (.type "NoneType") := fun _ => .base .non
  have tyS : ∀ (H : Hp) (z : Str), TyX K H (.str z) (.type "str") := fun _ _ => .base (.str _)
  have tail : ∀ (x : V) (d : PyData) (H : Hp) (Q : VK) (X : TS), (d = .none ∨ (∃ b, d = .bool b) ∨ (∃ i, d = .int i) ∨ ∃ z, d = .str z) → Dp K H x d → (∀ H2, Ex H H2 → Q (.bl true) H2) →
      tSeq (tIfS (tB (tCB (rIsiT K) (tCons (tVar 1) (tCons (tTup (tCons (tC (.ty "tuple")) (tCons (tC (.ty "list")) tNil))) tNil)))) X tNext)
        (tSeq (tIfS (tOr (tTest (tOp (fun x y H Q => y = .non ∧ Q (.bl (decide (x = .non))) H) (tVar 1) (tC .non))) (tB (tCB (rIsi K) (tCons (tVar 1) (tCons (tC (.ty "str")) tNil))))) (tRet (tAndV (tOp rEq (tVar 0) (tVar 1)) (tOp rEq (tCB (rIsi K) (tCons (tVar 0) (tCons (tC (.ty "str")) tNil))) (tCB (rIsi K) (tCons (tVar 1) (tCons (tC (.ty "str")) tNil)))))) tNext)
          (tRet (tAndV (tCB (rIsi K) (tCons (tVar 0) (tCons (tC (.ty "int")) tNil))) (tAndV (tOp rEq (tCB (rIsi K) (tCons (tVar 0) (tCons (tC (.ty "bool")) tNil))) (tCB (rIsi K) (tCons (tVar 1) (tCons (tC (.ty "bool")) tNil)))) (tOp rEq (tVar 0) (tVar 1))))))
        { nx := fun _ H' => Q .non H', rt := Q } [some x, some x, none] H := by
    intro x d H Q X hd hx q
    have isn : ∀ H1, Ev (tOp (fun x y H Q => y = .non ∧ Q (.bl (decide (x = .non))) H) (tVar 1) (tC .non)) [some x, some x, none] H1 (.bl (decide (x = .non))) := fun H1 => ev_op (ev_var rfl) ev_c fun H2 _ Q q => ⟨rfl, q H2 (Ex.refl H2)⟩
    rcases hd with rfl | ⟨b, rfl⟩ | ⟨i, rfl⟩ | ⟨z, rfl⟩
    · cases hx
      refine q_when (b := false) (et_B (ev_tl (T := "NoneType") (b1 := false) (b2 := false) (ev_var rfl) (fun _ _ => tyN _) (by decide +kernel) (by decide +kernel))) (fun z => by cases z) fun _ H1 e1 => ?_
      refine q_when (b := true) (et_is (et_or (b := true) (et_test (isn H1)) fun h => by cases h) rfl) (fun _ H2 e2 => ?_) (fun z => by cases z)
      exact s_ret (ev_is (ev_andV (a := true) (ev_is (ev_op (ev_var rfl) (ev_var rfl) (rv_eq rfl)) rfl) fun _ => ev_op (ev_isi (T := "NoneType") (b := false) (ev_var rfl) (fun _ _ => tyN _) (by decide +kernel)) (ev_isi (T := "NoneType") (b := false) (ev_var rfl) (fun _ _ => tyN _) (by decide +kernel)) (rv_eq rfl)) rfl) fun H3 e3 => q H3 ((e1.trans e2).trans e3)
    · cases hx
      refine q_when (b := false) (et_B (ev_tl (T := "bool") (b1 := false) (b2 := false) (ev_var rfl) (fun _ _ => tyB _ _) (by decide +kernel) (by decide +kernel))) (fun z => by cases z) fun _ H1 e1 => ?_
      refine q_when (b := false) (et_or (a := false) (b := false) (et_test (isn H1)) fun _ => et_B (ev_isi (T := "bool") (ev_var rfl) (fun _ _ => tyB _ _) (by decide +kernel))) (fun z => by cases z) fun _ H2 e2 => ?_
      exact s_ret (ev_is (ev_andV (a := true) (ev_isi (T := "bool") (ev_var rfl) (fun _ _ => tyB _ _) (by decide +kernel)) fun _ => ev_andV (ev_op (ev_isi (T := "bool") (b := true) (ev_var rfl) (fun _ _ => tyB _ _) (by decide +kernel)) (ev_isi (T := "bool") (b := true) (ev_var rfl) (fun _ _ => tyB _ _) (by decide +kernel)) (rv_eq rfl)) fun _ => ev_op (ev_var rfl) (ev_var rfl) (rv_eq rfl)) (by cases b <;> rfl)) fun H3 e3 => q H3 ((e1.trans e2).trans e3)
    · cases hx
      refine q_when (b := false) (et_B (ev_tl (T := "int") (b1 := false) (b2 := false) (ev_var rfl) (fun _ _ => tyI _ _) (by decide +kernel) (by decide +kernel))) (fun z => by cases z) fun _ H1 e1 => ?_
      refine q_when (b := false) (et_or (a := false) (b := false) (et_test (isn H1)) fun _ => et_B (ev_isi (T := "int") (ev_var rfl) (fun _ _ => tyI _ _) (by decide +kernel))) (fun z => by cases z) fun _ H2 e2 => ?_
      exact s_ret (ev_is (ev_andV (a := true) (ev_isi (T := "int") (ev_var rfl) (fun _ _ => tyI _ _) (by decide +kernel)) fun _ => ev_andV (ev_op (ev_isi (T := "int") (b := false) (ev_var rfl) (fun _ _ => tyI _ _) (by decide +kernel)) (ev_isi (T := "int") (b := false) (ev_var rfl) (fun _ _ => tyI _ _) (by decide +kernel)) (rv_eq rfl)) fun _ => ev_op (ev_var rfl) (ev_var rfl) (rv_eq rfl)) (by rw [decide_eq_true (rfl : V.int i = V.int i)]; rfl)) fun H3 e3 => q H3 ((e1.trans e2).trans e3)
    · cases hx
      refine q_when (b := false) (et_B (ev_tl (T := "str") (b1 := false) (b2 := false) (ev_var rfl) (fun _ _ => tyS _ _) (by decide +kernel) (by decide +kernel))) (fun z => by cases z) fun _ H1 e1 => ?_
      refine q_when (b := true) (et_is (et_or (a := false) (b := true) (et_test (isn H1)) fun _ => et_B (ev_isi (T := "str") (ev_var rfl) (fun _ _ => tyS _ _) (by decide +kernel))) rfl) (fun _ H2 e2 => ?_) (fun z => by cases z)
      exact s_ret (ev_is (ev_andV (ev_op (ev_var rfl) (ev_var rfl) (rv_eq rfl)) fun _ => ev_op (ev_isi (T := "str") (b := true) (ev_var rfl) (fun _ _ => tyS _ _) (by decide +kernel)) (ev_isi (T := "str") (b := true) (ev_var rfl) (fun _ _ => tyS _ _) (by decide +kernel)) (rv_eq rfl)) (by rw [decide_eq_true (rfl : V.str z = V.str z)]; rfl)) fun H3 e3 => q H3 ((e1.trans e2).trans e3)
  have same : ∀ (x y : V) (d : PyData) (H : Hp), (d = .none ∨ (∃ b, d = .bool b) ∨ (∃ i, d = .int i) ∨ ∃ z, d = .str z) → Dp K H x d → Dp K H y d → y = x := by
    intro x y d H hd hx hy
    rcases hd with rfl | ⟨b, rfl⟩ | ⟨i, rfl⟩ | ⟨z, rfl⟩ <;> (cases hx; cases hy; rfl)
  intro n
  induction n with
  | zero =>
    refine Has.mk' g F.kp B (F.ok sc_law_alike (fun vs H Q E h => ?_) (fun cdv A outer s H vs Q E hr h => ?_))
    · obtain ⟨x, y, d, rfl, _⟩ := h
      rfl
    · obtain ⟨x, y, d, rfl, hx, hy, hf, q⟩ := h
      have hd : d = .none ∨ (∃ b, d = .bool b) ∨ (∃ i, d = .int i) ∨ ∃ z, d = .str z := by
        cases d with
        | none => exact .inl rfl
        | bool b => exact .inr (.inl ⟨b, rfl⟩)
        | int i => exact .inr (.inr (.inl ⟨i, rfl⟩))
        | str z => exact .inr (.inr (.inr ⟨z, rfl⟩))
        | list xs => simp [Fine] at hf
        | tuple xs => simp [Fine] at hf
        | dict xs => simp [Fine] at hf
      have exy := same x y d H hd hx hy
      subst exy
      refine ⟨_, (pss_cons (ps_if (pt_val (pe_callB (call_isiTu (K := K) rfl) (by rfl) T.b_isinstance bt_isinstance (pa_cons (pv 1) (pa_cons (pe_tup (pa_cons (pe_bltn (v := .ty "tuple") (by rfl) T.b_tuple bt_tuple rfl) (pa_cons (pe_bltn (v := .ty "list") (by rfl) T.b_list bt_list rfl) pa_nil))) pa_nil))))
      pss_never
      pss_nil)
      (pss_cons (ps_if (PW.pt (pw_or (pt_cmpR op_isN (pv 1) pe_non (nomark _)) (pw_or1 (pt_val (pe_callB (call_isi1 (K := K) rfl) (by rfl) T.b_isinstance bt_isinstance (pa_cons (pv 1) (pa_cons (pe_bltn (v := .ty "str") (by rfl) T.b_str bt_str rfl) pa_nil)))))))
      (pss_one (ps_ret (pe_and (pe_cmpR op_eq (pv 0) (pv 1) (nomark _)) (pe_one (pe_cmpR op_eq (pe_callB (call_isi1 (K := K) rfl) (by rfl) T.b_isinstance bt_isinstance (pa_cons (pv 0) (pa_cons (pe_bltn (v := .ty "str") (by rfl) T.b_str bt_str rfl) pa_nil))) (pe_callB (call_isi1 (K := K) rfl) (by rfl) T.b_isinstance bt_isinstance (pa_cons (pv 1) (pa_cons (pe_bltn (v := .ty "str") (by rfl) T.b_str bt_str rfl) pa_nil))) (nomark _))))))
      pss_nil)
      (pss_one (ps_ret (pe_and (pe_callB (call_isi1 (K := K) rfl) (by rfl) T.b_isinstance bt_isinstance (pa_cons (pv 0) (pa_cons (pe_bltn (v := .ty "int") (by rfl) T.b_int bt_int rfl) pa_nil))) (pe_and (pe_cmpR op_eq (pe_callB (call_isi1 (K := K) rfl) (by rfl) T.b_isinstance bt_isinstance (pa_cons (pv 0) (pa_cons (pe_bltn (v := .ty "bool") (by rfl) T.b_bool bt_bool rfl) pa_nil))) (pe_callB (call_isi1 (K := K) rfl) (by rfl) T.b_isinstance bt_isinstance (pa_cons (pv 1) (pa_cons (pe_bltn (v := .ty "bool") (by rfl) T.b_bool bt_bool rfl) pa_nil))) (nomark _)) (pe_one (pe_cmpR op_eq (pv 0) (pv 1) (nomark _))))))))), ?_⟩
      exact tail y d H Q _ hd hx q
  | succ n ih =>
    have h_law_alike := ih
    refine Has.mk' g F.kp B (F.ok sc_law_alike (fun vs H Q E h => ?_) (fun cdv A outer s H vs Q E hr h => ?_))
    · obtain ⟨x, y, d, rfl, _⟩ := h
      rfl
    · obtain ⟨x, y, d, rfl, hx, hy, hf, q⟩ := h
      refine ⟨_, (pss_cons (ps_if (pt_val (pe_callB (call_isiTu (K := K) rfl) (by rfl) T.b_isinstance bt_isinstance (pa_cons (pv 1) (pa_cons (pe_tup (pa_cons (pe_bltn (v := .ty "tuple") (by rfl) T.b_tuple bt_tuple rfl) (pa_cons (pe_bltn (v := .ty "list") (by rfl) T.b_list bt_list rfl) pa_nil))) pa_nil))))
      (pss_cons (ps_if (PW.pt (pw_or (pt_not (pt_val (pe_callB (call_isiTu (K := K) rfl) (by rfl) T.b_isinstance bt_isinstance (pa_cons (pv 0) (pa_cons (pe_tup (pa_cons (pe_bltn (v := .ty "tuple") (by rfl) T.b_tuple bt_tuple rfl) (pa_cons (pe_bltn (v := .ty "list") (by rfl) T.b_list bt_list rfl) pa_nil))) pa_nil))))) (pw_or1 (pt_cmpR op_ne (pe_callB (call_isi1 (K := K) rfl) (by rfl) T.b_isinstance bt_isinstance (pa_cons (pv 0) (pa_cons (pe_bltn (v := .ty "list") (by rfl) T.b_list bt_list rfl) pa_nil))) (pe_callB (call_isi1 (K := K) rfl) (by rfl) T.b_isinstance bt_isinstance (pa_cons (pv 1) (pa_cons (pe_bltn (v := .ty "list") (by rfl) T.b_list bt_list rfl) pa_nil))) (nomark _)))))
      (pss_one (ps_ret pe_bl))
      pss_nil)
      (pss_cons (ps_if (pt_cmpR op_ne (pe_callB (call_lenK (K := K) rfl) (by rfl) T.b_len bt_len (pa_cons (pv 0) pa_nil)) (pe_callB (call_lenK (K := K) rfl) (by rfl) T.b_len bt_len (pa_cons (pv 1) pa_nil)) (nomark _))
      (pss_one (ps_ret pe_bl))
      pss_nil)
      (pss_one (ps_ret (pe_cmpR (op_eqDK (K := K) rfl hr.units) (pe_lc (own := [("k", 2)]) (g := gName 2) (by rfl) sc_law_alike.nd (pi_range1 (by rfl) T.b_range (pa_cons (pe_callB (call_lenK (K := K) rfl) (by rfl) T.b_len bt_len (pa_cons (pv 1) pa_nil)) pa_nil)) (blkOk_by (N := N_law_alike) (sc := defScope s_law_alike) (by decide +kernel)) (fun _ _ _ _ _ => pg_name (i := 2) sc_law_alike.nd rfl (Or.inl rfl)) (fun _ _ _ _ _ => pts_one (pt_not (pt_val (pe_has h_law_alike (hr.mono (by first | decide | exact Nat.le_refl _)) (by rfl) (pa_cons (pe_ix (ix_seqK (K := K) rfl) (pv 0) (pv 2) (fun _ _ => rfl)) (pa_cons (pe_ix (ix_seqK (K := K) rfl) (pv 1) (pv 2) (fun _ _ => rfl)) pa_nil)))))) (fun _ _ _ _ _ => (pv 2))) (pe_lst pa_nil) (nomark _))))))
      pss_nil)
      (pss_cons (ps_if (PW.pt (pw_or (pt_cmpR op_isN (pv 1) pe_non (nomark _)) (pw_or1 (pt_val (pe_callB (call_isi1 (K := K) rfl) (by rfl) T.b_isinstance bt_isinstance (pa_cons (pv 1) (pa_cons (pe_bltn (v := .ty "str") (by rfl) T.b_str bt_str rfl) pa_nil)))))))
      (pss_one (ps_ret (pe_and (pe_cmpR op_eq (pv 0) (pv 1) (nomark _)) (pe_one (pe_cmpR op_eq (pe_callB (call_isi1 (K := K) rfl) (by rfl) T.b_isinstance bt_isinstance (pa_cons (pv 0) (pa_cons (pe_bltn (v := .ty "str") (by rfl) T.b_str bt_str rfl) pa_nil))) (pe_callB (call_isi1 (K := K) rfl) (by rfl) T.b_isinstance bt_isinstance (pa_cons (pv 1) (pa_cons (pe_bltn (v := .ty "str") (by rfl) T.b_str bt_str rfl) pa_nil))) (nomark _))))))
      pss_nil)
      (pss_one (ps_ret (pe_and (pe_callB (call_isi1 (K := K) rfl) (by rfl) T.b_isinstance bt_isinstance (pa_cons (pv 0) (pa_cons (pe_bltn (v := .ty "int") (by rfl) T.b_int bt_int rfl) pa_nil))) (pe_and (pe_cmpR op_eq (pe_callB (call_isi1 (K := K) rfl) (by rfl) T.b_isinstance bt_isinstance (pa_cons (pv 0) (pa_cons (pe_bltn (v := .ty "bool") (by rfl) T.b_bool bt_bool rfl) pa_nil))) (pe_callB (call_isi1 (K := K) rfl) (by rfl) T.b_isinstance bt_isinstance (pa_cons (pv 1) (pa_cons (pe_bltn (v := .ty "bool") (by rfl) T.b_bool bt_bool rfl) pa_nil))) (nomark _)) (pe_one (pe_cmpR op_eq (pv 0) (pv 1) (nomark _))))))))), ?_⟩
      have seq : ∀ (H : Hp) (D : Ends) (p r : Addr) (xs ys : List V) (ds : List PyData) (T : String), x = .ref p → y = .ref r → (SqL K H p xs ∨ SqT K H p xs) → (SqL K H r ys ∨ SqT K H r ys) → DpAll K H xs ds → DpAll K H ys ds → (∀ H1, Ex H H1 → TyX K H1 (.ref p) (.type T)) → (∀ H1, Ex H H1 → TyX K H1 (.ref r) (.type T)) → (T = "list" ∨ T = "tuple") → ds.length ≤ 40000 → (∀ d ∈ ds, Fine n d) → (∀ H2, Ex H H2 → D.rt (.bl true) H2) →
          tSeq (tIfS (tOr (tNot (tB (tCB (rIsiT K) (tCons (tVar 0) (tCons (tTup (tCons (tC (.ty "tuple")) (tCons (tC (.ty "list")) tNil))) tNil))))) (tTest (tOp rNe (tCB (rIsi K) (tCons (tVar 0) (tCons (tC (.ty "list")) tNil))) (tCB (rIsi K) (tCons (tVar 1) (tCons (tC (.ty "list")) tNil)))))) (tRet (tC (.bl false))) tNext)
            (tSeq (tIfS (tTest (tOp rNe (tCB (rLenS K) (tCons (tVar 0) tNil)) (tCB (rLenS K) (tCons (tVar 1) tNil)))) (tRet (tC (.bl false))) tNext)
              (tRet (tOp (rEqD K) (tLc (iRng1 (tCons (tCB (rLenS K) (tCons (tVar 1) tNil)) tNil)) (gName 2) (tNot (tB (tCall (sp_la K n) [] E0 (tCons (tOp (rIx K) (tVar 0) (tVar 2)) (tCons (tOp (rIx K) (tVar 1) (tVar 2)) tNil))))) (tVar 2) [2]) (tLst tNil))))
            D [some x, some y, none] H := by
        intro H D p r xs ys ds T ex ey hp hr' dx dy tp tr hT hl hF q
        subst ex ey
        have lx := dps_len dx
        have ly := dps_len dy
        have tl : ∃ b1 b2 : Bool, kitB T "tuple" = some b1 ∧ kitB T "list" = some b2 ∧ (b1 || b2) = true := by
          rcases hT with rfl | rfl
          · exact ⟨false, true, by decide +kernel, by decide +kernel, rfl⟩
          · exact ⟨true, false, by decide +kernel, by decide +kernel, rfl⟩
        obtain ⟨b1, b2, k1, k2, kk⟩ := tl
        have keep : ∀ {a : Addr} {zs : List V} {H1 : Hp}, Ex H H1 → (SqL K H a zs ∨ SqT K H a zs) → (SqL K H1 a zs ∨ SqT K H1 a zs) := fun e h => by
          rcases h with h | h
          · exact .inl (ex_l e h)
          · exact .inr (ex_t e h)
        refine q_when (b := false) (et_is (et_or (a := false) (b := false) (et_is (et_not (et_B (ev_tl (ev_var rfl) tp k1 k2))) (by rw [kk]; rfl)) fun _ => et_test (ev_is (ev_op (ev_isi (ev_var rfl) tp k2) (ev_isi (ev_var rfl) tr k2) (rv_ne rfl)) (by cases b2 <;> rfl))) rfl) (fun z => by cases z) fun _ H1 e1 => ?_
        refine q_when (b := false) (et_test (ev_is (ev_op (ev_lenS (ev_var rfl) (keep e1 hp)) (ev_lenS (ev_var rfl) (keep e1 hr')) (rv_ne rfl)) (by rw [lx, ly, decide_eq_true (rfl : V.int (ds.length : Int) = V.int (ds.length : Int))]; rfl))) (fun z => by cases z) fun _ H2 e2 => ?_
        have e12 := e1.trans e2
        refine s_ret (ev_is (ev_opLL (xs := rowV []) (ys := rowV []) (fun H3 e3 Q q => ?_) (el_lst ea_nil (by decide)) fun p q H3 hp hq e3 => rv_eqRows (sq_of hp) (sq_of hq)) rfl) fun H3 e3 => q H3 (e12.trans e3)
        have big := el_lcR1 (σ := [some (V.ref p), some (V.ref r), none]) (H := H2) (ta := tCons (tCB (rLenS K) (tCons (tVar 1) tNil)) tNil) (t := tNot (tB (tCall (sp_la K n) [] E0 (tCons (tOp (rIx K) (tVar 0) (tVar 2)) (tCons (tOp (rIx K) (tVar 1) (tVar 2)) tNil))))) (te := tVar 2) (j := 2) (vs := [2]) (n := (ys.length : Int)) (fun _ => false) (fun _ => .non) (ea_cons (ev_lenS (ev_var rfl) (keep e12 hr')) ea_nil) ⟨by omega, by omega⟩ (fun _ => rfl)
          (fun i H4 e4 hi => ?_) (fun _ _ _ _ h => by cases h)
        · rw [given_none] at big
          exact big H3 e3 Q q
        · have hi' : i < ds.length := by omega
          obtain ⟨v1, d1, g1, gd1, hd1⟩ := dps_get dx hi'
          obtain ⟨v2, d2, g2, gd2, hd2⟩ := dps_get dy hi'
          have ed : d2 = d1 := by rw [gd1] at gd2; exact (Option.some.inj gd2).symm
          subst ed
          have e5 := e12.trans e4
          exact et_is (et_not (a := true) (et_B (ev_callV (ea_cons (ev_op (ev_var rfl) (ev_var rfl) (rv_ixA (keep e5 hp) (atI_nat g1))) (ea_cons (ev_op (ev_var rfl) (ev_var rfl) (rv_ixA (keep e5 hr') (atI_nat g2))) ea_nil)) fun H6 e6 Q q => ⟨v1, v2, d2, rfl, dp_ex (e5.trans e6) _ _ hd1, dp_ex (e5.trans e6) _ _ hd2, hF _ (List.mem_of_getElem? gd1), q⟩))) rfl
      cases d with
      | list ds =>
        cases hx with
        | lst hx1 hx2 =>
          cases hy with
          | lst hy1 hy2 =>
            exact q_when (b := true) (et_B (ev_tl (T := "list") (b1 := false) (b2 := true) (ev_var rfl) (fun _ e => sqL_ty (ex_l e hy1)) (by decide +kernel) (by decide +kernel))) (fun _ H1 e1 => seq H1 _ _ _ _ _ ds "list" rfl rfl (.inl (ex_l e1 hx1)) (.inl (ex_l e1 hy1)) (dps_ex e1 _ _ hx2) (dps_ex e1 _ _ hy2)
              (fun H2 e2 => sqL_ty (ex_l (e1.trans e2) hx1)) (fun H2 e2 => sqL_ty (ex_l (e1.trans e2) hy1)) (.inl rfl) hf.1 hf.2 fun H2 e2 => q H2 (e1.trans e2)) (fun z => by cases z)
      | tuple ds =>
        cases hx with
        | tup hx1 hx2 =>
          cases hy with
          | tup hy1 hy2 =>
            exact q_when (b := true) (et_B (ev_tl (T := "tuple") (b1 := true) (b2 := false) (ev_var rfl) (fun _ e => sqT_ty (ex_t e hy1)) (by decide +kernel) (by decide +kernel))) (fun _ H1 e1 => seq H1 _ _ _ _ _ ds "tuple" rfl rfl (.inr (ex_t e1 hx1)) (.inr (ex_t e1 hy1)) (dps_ex e1 _ _ hx2) (dps_ex e1 _ _ hy2)
              (fun H2 e2 => sqT_ty (ex_t (e1.trans e2) hx1)) (fun H2 e2 => sqT_ty (ex_t (e1.trans e2) hy1)) (.inr rfl) hf.1 hf.2 fun H2 e2 => q H2 (e1.trans e2)) (fun z => by cases z)
      | none =>
        have e := same x y _ H (.inl rfl) hx hy
        subst e
        exact tail _ _ H Q _ (.inl rfl) hx q
      | bool b =>
        have e := same x y _ H (.inr (.inl ⟨b, rfl⟩)) hx hy
        subst e
        exact tail _ _ H Q _ (.inr (.inl ⟨b, rfl⟩)) hx q
      | int i =>
        have e := same x y _ H (.inr (.inr (.inl ⟨i, rfl⟩))) hx hy
        subst e
        exact tail _ _ H Q _ (.inr (.inr (.inl ⟨i, rfl⟩))) hx q
      | str z =>
        have e := same x y _ H (.inr (.inr (.inr ⟨z, rfl⟩))) hx hy
        subst e
        exact tail _ _ H Q _ (.inr (.inr (.inr ⟨z, rfl⟩))) hx q
      | dict ds => simp [Fine] at hf
end

end Kx
namespace Kx
open PySem PySem.Spec PyProof.Rows L2

open Evl
section
variable {P : Program} {w : World} {K : PySem.W.Frag} {mg : Str → Option Value} {base : Heap}
theorem has_law_alike (T : Txt K mg) {f : Addr} {fd : FuncData} (F : Fun K "_law_alike" "_law_alike" s_law_alike f fd) (g : mg "_law_alike" = some (.ref f)) (B : Binds K fd ["found", "due"] []) : Has P w K mg base "_law_alike" 4 ["found", "due"] (sp_la K 3) := alike_all T F g B 3
/-! ### data -/
def rowP (r : List Nat) : PyData := .tuple (rowD r)
def macP (M : M1.Mach) : PyData := .tuple [.tuple (M.st.map rowP), .tuple (M.an.map rowP)]
theorem dp_tab {H : Hp} : ∀ {vx : List V} {t : List (List Nat)}, Paired (RowAt K H) vx t → DpAll K H vx (t.map rowP)
  | _, _, .nil => .nil
  | _, _, .cons ⟨a, e, hS⟩ t => .cons (by rw [e]; exact .tup hS (dp_row _)) (dp_tab t)
theorem dp_mac {H : Hp} {v : V} {M : M1.Mach} (h : MacAt K H v M.st M.an) : Dp K H v (macP M) := by
  obtain ⟨a, x, y, rfl, hS, ⟨ax, vx, rfl, hSx, hPx⟩, ⟨ay, vy, rfl, hSy, hPy⟩⟩ := h
  exact .tup hS (.cons (.tup hSx (dp_tab hPx)) (.cons (.tup hSy (dp_tab hPy)) .nil))
theorem fine_int (n : Nat) (i : Int) : Fine n (.int i) := by cases n <;> trivial
theorem fine_row {n : Nat} {r : List Nat} (h : r.length ≤ 40000) : Fine (n + 1) (rowP r) := by
  refine ⟨by unfold rowD; rw [List.length_map]; exact h, fun x hx => ?_⟩
  obtain ⟨i, _, rfl⟩ := List.mem_map.mp hx
  exact fine_int n _
theorem fine_tab {n : Nat} {t : List (List Nat)} (h : t.length ≤ 40000) (hr : ∀ r ∈ t, r.length ≤ 40000) : Fine (n + 2) (.tuple (t.map rowP)) := by
  refine ⟨by rw [List.length_map]; exact h, fun x hx => ?_⟩
  obtain ⟨r, hm, rfl⟩ := List.mem_map.mp hx
  exact fine_row (hr r hm)
theorem fine_mac {M : M1.Mach} (h1 : M.st.length ≤ 40000) (h2 : M.an.length ≤ 40000) (h3 : ∀ r ∈ M.st, r.length ≤ 40000) (h4 : ∀ r ∈ M.an, r.length ≤ 40000) : Fine 3 (macP M) := by
  refine ⟨by show 2 ≤ 40000; decide, fun x hx => ?_⟩
  rcases List.mem_cons.mp hx with e | hx
  · subst e
    exact fine_tab (n := 0) h1 h3
  · rcases List.mem_cons.mp hx with e | hx
    · subst e
      exact fine_tab (n := 0) h2 h4
    · simp at hx
/-! ### lists that a comprehension gives -/
theorem given_map {o : List Nat} {f : Nat → Bool} : given o.length f (fun i => nV (o.getD i 0)) = rowV (((List.range o.length).filter f).map fun i => o.getD i 0) := by
  unfold given rowV
  rw [List.map_map]
  rfl
theorem none_iff {o : List Nat} {p : Nat → Bool} : (((List.range o.length).filter fun i => p (o.getD i 0)).map fun i => o.getD i 0) = [] ↔ o.any p = false := by
  rw [List.map_eq_nil_iff, List.filter_eq_nil_iff]
  constructor
  · intro h
    rw [List.any_eq_false]
    intro x hx
    obtain ⟨i, hi, e⟩ := List.getElem_of_mem hx
    have q := h i (List.mem_range.mpr hi)
    rw [M1.getD_of (List.getElem?_eq_getElem hi), e] at q
    exact q
  · intro h i hi
    have hi' := List.mem_range.mp hi
    rw [List.any_eq_false] at h
    rw [M1.getD_of (List.getElem?_eq_getElem hi')]
    exact h _ (List.getElem_mem hi')
theorem first_of {o : List Nat} {p : Nat → Bool} (h : ∃ x ∈ o, p x = true) : ((List.range o.length).filter fun i => p (o.getD i 0))[0]? = some (o.findIdx p) := by
  have hl := List.findIdx_lt_length_of_exists h
  rw [← List.head?_eq_getElem?, List.head?_filter, List.find?_range_eq_some]
  refine ⟨?_, List.mem_range.mpr hl, fun j hj => ?_⟩
  · rw [M1.getD_of (List.getElem?_eq_getElem hl)]
    exact List.findIdx_getElem (w := hl)
  · have hj' : j < o.length := by omega
    rw [M1.getD_of (List.getElem?_eq_getElem hj')]
    have := List.not_of_lt_findIdx hj
    simpa using this
theorem a_drawsX {ta : TA} {te : TE} {σ : L2.St} {H : Hp} {a scr : Addr} {ns : List Int} {j m : Nat} {vs : List Nat} {Q : List V → Hp → Prop} (Pn : Nat → Prop) (h : ∀ R : List V → Hp → Prop, (∀ n H1, n ≤ 1000 → Pn n → ExB a H H1 → RowOk K H1 a scr ns → R [.int (n : Int)] H1) → ta σ H R) (hw : ∀ x, wipe ((wipe σ vs).set j (some x)) vs = wipe σ vs)
    (he : ∀ i : Nat, i < 1000 → EvR K te ((wipe σ vs).set j (some (.int (i : Int)))) H a scr ns m)
    (q : ∀ p l H2, H p = none → p ≠ a → ExB a H H2 → RowOk K H2 a scr ns → H2 p = some (.tup (rowV l)) → Pn l.length → (∀ x ∈ l, x < m) → Q [.ref p] H2) : tCons (tCB (rTupOf K) (tCons (tLc (iRng1 ta) (gName j) tYes te vs) tNil)) tNil σ H Q :=
  er_lcX Pn h hw he (fun x H1 => rTupOf K [x] H1 fun y H2 => Q [y] H2) fun p l H2 hp na x2 R2 h2 _ hl hm => ⟨p, _, rfl, Or.inl ⟨sq_of h2, fun p2 hp2 => by
    have np2 : p2 ≠ a := fun z => by
      subst z
      obtain ⟨xs, hx⟩ := R2.lst
      rw [hx] at hp2
      cases hp2
    exact q p2 l _ (x2.fresh np2 hp2) np2 (x2.trans (ExB.of (Ex.new hp2))) (R2.ex (Ex.new hp2)) upd_same hl hm⟩⟩
theorem tldV_row (M : M1.Mach) (i : Nat) (r : List Nat) : tldV M i r = rowV ((List.range r.length).map (M.tld i r)) := by
  unfold tldV gvn rowV
  rw [List.map_map]
  rfl
theorem ev_alike {σ : L2.St} {H : Hp} {E : XK} {ta tb : TE} {x y : V} {d : PyData} (ha : Ev ta σ H x) (hb : Ev tb σ H y) (h : ∀ H1, Ex H H1 → Dp K H1 x d ∧ Dp K H1 y d) (hf : Fine 3 d) : Ev (tCall (sp_la K 3) [] E (tCons ta (tCons tb tNil))) σ H (.bl true) :=
  ev_callV (ea_cons ha (ea_cons hb ea_nil)) fun H1 e Q q => ⟨x, y, d, rfl, (h H1 e).1, (h H1 e).2, hf, q⟩
def oD (o : Option Nat) : PyData := match o with | some n => .int (n : Int) | none => .none
theorem dp_o {H : Hp} (o : Option Nat) : Dp K H (oV o) (oD o) := by
  cases o with
  | none => exact .non
  | some n => exact .int _
theorem fine_o {k : Nat} (o : Option Nat) : Fine k (oD o) := by
  cases o with
  | none => cases k <;> trivial
  | some n => cases k <;> trivial
theorem fine_b {k : Nat} (b : Bool) : Fine k (.bool b) := by cases k <;> trivial
theorem q_drawsT {ta : TA} {te : TE} {tz : TS} {D : Ends} {σ : L2.St} {H : Hp} {a scr : Addr} {ns : List Int} {i j m : Nat} {vs : List Nat} (Pn : Nat → Prop) (h : ∀ R : List V → Hp → Prop, (∀ n H1, n ≤ 1000 → Pn n → ExB a H H1 → RowOk K H1 a scr ns → R [.int (n : Int)] H1) → ta σ H R) (hw : ∀ x, wipe ((wipe σ vs).set j (some x)) vs = wipe σ vs)
    (he : ∀ i : Nat, i < 1000 → EvR K te ((wipe σ vs).set j (some (.int (i : Int)))) H a scr ns m)
    (q : ∀ p l H2, H p = none → p ≠ a → ExB a H H2 → RowOk K H2 a scr ns → H2 p = some (.tup (rowV l)) → Pn l.length → (∀ x ∈ l, x < m) → tz D (σ.set i (some (.ref p))) H2) : tSeq (tAsg (tCB (rTupOf K) (tCons (tLc (iRng1 ta) (gName j) tYes te vs) tNil)) (gName i)) tz D σ H :=
  er_lcX Pn h hw he (fun x H1 => rTupOf K [x] H1 fun y H2 => gName i y σ H2 (tz D)) fun p l H2 hp na x2 R2 h2 _ hl hm => ⟨p, _, rfl, Or.inl ⟨sq_of h2, fun p2 hp2 => by
    have np2 : p2 ≠ a := fun z => by
      subst z
      obtain ⟨xs, hx⟩ := R2.lst
      rw [hx] at hp2
      cases hp2
    exact q p2 l _ (x2.fresh np2 hp2) np2 (x2.trans (ExB.of (Ex.new hp2))) (R2.ex (Ex.new hp2)) upd_same hl hm⟩⟩
end

end Kx
namespace Kx
open PySem PySem.Spec PyProof.Rows L2

open Evl
section
variable {P : Program} {w : World} {K : PySem.W.Frag} {mg : Str → Option Value} {base : Heap}
theorem st_lit {tz : TS} {D : Ends} {H : Hp} {σ σ' : L2.St} (h : σ = σ') (k : tz D σ' H) : tz D σ H := h ▸ k
theorem g_lit {j : Nat} {x : V} {H : Hp} {σ σ' : L2.St} {kk : L2.St → Hp → Prop} (h : σ.set j (some x) = σ') (k : kk σ' H) : gName j x σ H kk := by
  unfold gName
  rw [h]
  exact k
end

end Kx
namespace Kx
open PySem PySem.Spec PyProof.Rows L2

open Evl
section
variable {P : Program} {w : World} {K : PySem.W.Frag} {mg : Str → Option Value} {base : Heap}
/-! ### the law's machines, second kind -/
structure Dx (K : PySem.W.Frag) (H0 H : Hp) (a scr : Addr) (ns : List Int) (ps pt : Addr) (ls lt : List V) (rows anss : List (List Nat)) : Prop where
  x : ExB a H0 H
  r : RowOk K H a scr ns
  hs : H ps = some (.lst ls)
  ht : H pt = some (.lst lt)
  ps_ : Paired (RowAt K H) ls rows
  pt_ : Paired (RowAt K H) lt anss
theorem Dx.keep {H0 H H' : Hp} {a scr : Addr} {ns : List Int} {ps pt : Addr} {ls lt : List V} {rows anss : List (List Nat)} (D : Dx K H0 H a scr ns ps pt ls lt rows anss) (n1 : ps ≠ a) (n2 : pt ≠ a) (e : ExB a H H') (R : RowOk K H' a scr ns) : Dx K H0 H' a scr ns ps pt ls lt rows anss := by
  obtain ⟨xs, hx⟩ := D.r.lst
  exact ⟨D.x.trans e, R, e _ _ n1 D.hs, e _ _ n2 D.ht, paired_keep D.ps_ (e.tk hx), paired_keep D.pt_ (e.tk hx)⟩
theorem Dx.ex {H0 H H' : Hp} {a scr : Addr} {ns : List Int} {ps pt : Addr} {ls lt : List V} {rows anss : List (List Nat)} (D : Dx K H0 H a scr ns ps pt ls lt rows anss) (n1 : ps ≠ a) (n2 : pt ≠ a) (e : Ex H H') : Dx K H0 H' a scr ns ps pt ls lt rows anss :=
  D.keep n1 n2 (ExB.of e) (D.r.ex e)
theorem ev_min2 {ta tb : TE} {σ : L2.St} {H : Hp} {i j : Int} (ha : Ev ta σ H (.int i)) (hb : Ev tb σ H (.int j)) : Ev (tCB (fun xs H Q => ∃ i j, xs = [V.int i, V.int j] ∧ Q (.int (if j < i then j else i)) H) (tCons ta (tCons tb tNil))) σ H (.int (if j < i then j else i)) := fun H1 e Q q =>
  ha H1 e _ fun H2 e2 => hb H2 (e.trans e2) _ fun H3 e3 => ⟨i, j, rfl, q H3 (e2.trans e3)⟩
theorem gvn_nat {n : Nat} (f : Nat → Nat) : gvn n (fun i => nV (f i)) = rowV ((List.range n).map f) := by
  unfold gvn rowV
  rw [List.map_map]
  rfl
theorem has_law_machine (T : Txt K mg) (h_law_taken : Has P w K mg base "_law_taken" 1 ["row", "many"] (sp_taken K)) {f : Addr} {fd : FuncData} (F : Fun K "_law_machine" "_law_machine" s_law_machine f fd) (g : mg "_law_machine" = some (.ref f)) (B : Binds K fd ["row", "states", "letters"] []) :
    Has P w K mg base "_law_machine" 2 ["row", "states", "letters"] (sp_lawmac K) := by
  refine Has.mk' g F.kp B (F.ok sc_law_machine (fun vs H Q E h => ?_) (fun cdv A outer s H vs Q E hr h => ?_))
  · obtain ⟨a, scr, ns, s, l, rfl, _⟩ := h
    rfl
  · obtain ⟨a, scr, ns, s, l, rfl, s1, s6, l1, l3, R, k⟩ := h
    refine ⟨_, (pss_cons (ps_asg (pe_tup (pa_cons (pe_op op_add pe_int (pe_has h_law_taken (hr.mono (by first | decide | exact Nat.le_refl _)) (by rfl) (pa_cons (pv 0) (pa_cons (pv 1) pa_nil)))) (pa_cons (pe_op op_add pe_int (pe_has h_law_taken (hr.mono (by first | decide | exact Nat.le_refl _)) (by rfl) (pa_cons (pv 0) (pa_cons (pv 2) pa_nil)))) (pa_cons (pe_has h_law_taken (hr.mono (by first | decide | exact Nat.le_refl _)) (by rfl) (pa_cons (pv 0) (pa_cons pe_int pa_nil))) pa_nil)))) (pg_tupK (K := K) (n := 3) rfl (by rfl) (pgs_cons (pg_name (i := 3) sc_law_machine.nd rfl (.inr rfl)) (pgs_cons (pg_name (i := 4) sc_law_machine.nd rfl (.inr rfl)) (pgs_cons (pg_name (i := 5) sc_law_machine.nd rfl (.inl rfl)) pgs_nil)))))
      (pss_cons (ps_par (i := 6) (j := 7) (by rfl) sc_law_machine.nd rfl rfl (by decide) rfl rfl (pa_cons (pe_lst pa_nil) (pa_cons (pe_lst pa_nil) pa_nil)) (by rfl))
      (pss_cons (ps_for PassesOwn.never rfl (pi_range1 (by rfl) T.b_range (pa_cons (pv 3) pa_nil)) (pg_name (i := 8) sc_law_machine.nd rfl (.inr rfl))
      (pss_cut (ps_if (pt_cmpR op_eq (pv 5) pe_int (nomark _))
      (pss_one (ps_expr (pe_bm PySem.F.plainAttrs_list PySem.F.slot_list_append PySem.F.type_list_append mt_append (pv 6) (pa_cons (pe_callTy (call_tupleK (K := K) rfl) (by rfl) T.b_tuple bt_tuple (pa_cons (pe_lc (own := [("letter", 9)]) (g := gName 9) (tt := tYes) (by rfl) sc_law_machine.nd (pi_range1 (by rfl) T.b_range (pa_cons (pv 4) pa_nil)) (blkOk_by (N := N_law_machine) (sc := defScope s_law_machine) (by decide +kernel)) (fun _ _ _ _ _ => pg_name (i := 9) sc_law_machine.nd rfl (Or.inl rfl)) (fun _ _ _ _ _ => pts_nil) (fun _ _ _ _ _ => (pe_ifExp (pt_cmpR op_eq (pv 9) (pe_op op_sub (pv 4) pe_int) (nomark _)) (pe_callB (call_min2 rfl) (by rfl) T.b_min bt_min (pa_cons (pe_op op_sub (pv 3) pe_int) (pa_cons (pe_op op_add (pv 8) pe_int) pa_nil))) pe_int))) pa_nil)) pa_nil))))
      (pss_one (ps_if (pt_cmpR op_eq (pv 5) pe_int (nomark _))
      (pss_one (ps_expr (pe_bm PySem.F.plainAttrs_list PySem.F.slot_list_append PySem.F.type_list_append mt_append (pv 6) (pa_cons (pe_callTy (call_tupleK (K := K) rfl) (by rfl) T.b_tuple bt_tuple (pa_cons (pe_lc (own := [("letter", 9)]) (g := gName 9) (tt := tYes) (by rfl) sc_law_machine.nd (pi_range1 (by rfl) T.b_range (pa_cons (pv 4) pa_nil)) (blkOk_by (N := N_law_machine) (sc := defScope s_law_machine) (by decide +kernel)) (fun _ _ _ _ _ => pg_name (i := 9) sc_law_machine.nd rfl (Or.inl rfl)) (fun _ _ _ _ _ => pts_nil) (fun _ _ _ _ _ => (pe_callB (call_min2 rfl) (by rfl) T.b_min bt_min (pa_cons (pe_op op_sub (pv 3) pe_int) (pa_cons (pv 9) pa_nil))))) pa_nil)) pa_nil))))
      (pss_one (ps_expr (pe_bm PySem.F.plainAttrs_list PySem.F.slot_list_append PySem.F.type_list_append mt_append (pv 6) (pa_cons (pe_callTy (call_tupleK (K := K) rfl) (by rfl) T.b_tuple bt_tuple (pa_cons (pe_lc (own := [("letter", 9)]) (g := gName 9) (tt := tYes) (by rfl) sc_law_machine.nd (pi_range1 (by rfl) T.b_range (pa_cons (pv 4) pa_nil)) (blkOk_by (N := N_law_machine) (sc := defScope s_law_machine) (by decide +kernel)) (fun _ _ _ _ _ => pg_name (i := 9) sc_law_machine.nd rfl (Or.inl rfl)) (fun _ _ _ _ _ => pts_nil) (fun _ _ _ _ _ => (pe_has h_law_taken (hr.mono (by first | decide | exact Nat.le_refl _)) (by rfl) (pa_cons (pv 0) (pa_cons (pv 3) pa_nil))))) pa_nil)) pa_nil)))))))
      (pss_one (ps_expr (pe_bm PySem.F.plainAttrs_list PySem.F.slot_list_append PySem.F.type_list_append mt_append (pv 7) (pa_cons (pe_callTy (call_tupleK (K := K) rfl) (by rfl) T.b_tuple bt_tuple (pa_cons (pe_lc (own := [("letter", 9)]) (g := gName 9) (tt := tYes) (by rfl) sc_law_machine.nd (pi_range1 (by rfl) T.b_range (pa_cons (pv 4) pa_nil)) (blkOk_by (N := N_law_machine) (sc := defScope s_law_machine) (by decide +kernel)) (fun _ _ _ _ _ => pg_name (i := 9) sc_law_machine.nd rfl (Or.inl rfl)) (fun _ _ _ _ _ => pts_nil) (fun _ _ _ _ _ => (pe_has h_law_taken (hr.mono (by first | decide | exact Nat.le_refl _)) (by rfl) (pa_cons (pv 0) (pa_cons pe_int pa_nil))))) pa_nil)) pa_nil))))))
      (pss_one (ps_ret (pe_tup (pa_cons (pe_callTy (call_tupleK (K := K) rfl) (by rfl) T.b_tuple bt_tuple (pa_cons (pv 6) pa_nil)) (pa_cons (pe_callTy (call_tupleK (K := K) rfl) (by rfl) T.b_tuple bt_tuple (pa_cons (pv 7) pa_nil)) pa_nil)))))))), ?_⟩
    -- many, wide, kind
    refine ⟨.ref a, rfl, .int (s : Int), rfl, a, scr, ns, s, rfl, s1, by omega, R, fun r1 H1 hr1 x1 R1 => ⟨1, (r1 : Int), rfl, rfl, .ref a, rfl, .int (l : Int), rfl, a, scr, ns, l, rfl, l1, by omega, R1, fun r2 H2 hr2 x2 R2 => ⟨1, (r2 : Int), rfl, rfl, .ref a, rfl, a, scr, ns, 4, rfl, by decide, by decide, R2, fun kd H3 hkd x3 R3 => ⟨by show 3 ≤ sizeLine; decide, fun Tp hTp => ⟨Tp, _, rfl, SqT.of upd_same, rfl, _, _, rfl, _, _, rfl, _, _, rfl, rfl, ?_⟩⟩⟩⟩⟩
    obtain ⟨n, hn⟩ : ∃ n : Nat, n = 1 + r1 := ⟨_, rfl⟩
    obtain ⟨m, hm⟩ : ∃ m : Nat, m = 1 + r2 := ⟨_, rfl⟩
    have en : (1 : Int) + (r1 : Int) = (n : Int) := by omega
    have em : (1 : Int) + (r2 : Int) = (m : Int) := by omega
    dsimp only
    rw [en, em]
    have x4 : ExB a H (upd H3 Tp (.tup [.int (n : Int), .int (m : Int), nV kd])) := ((x1.trans x2).trans x3).trans (ExB.of (Ex.new hTp))
    have R4 : RowOk K (upd H3 Tp (.tup [.int (n : Int), .int (m : Int), nV kd])) a scr ns := R3.ex (Ex.new hTp)
    generalize upd H3 Tp (.tup [.int (n : Int), .int (m : Int), nV kd]) = H4 at x4 R4
    -- steps, said = [], []
    refine ⟨Nat.zero_le _, fun ps hps => ⟨Nat.zero_le _, fun pt hpt => ⟨_, _, rfl, ?_⟩⟩⟩
    obtain ⟨xa, hxa⟩ := R4.lst
    have nsa : ps ≠ a := fun z => by subst z; rw [hxa] at hps; cases hps
    have hpt' := hpt
    have nts : pt ≠ ps := fun z => by subst z; rw [upd_same] at hpt; cases hpt
    rw [upd_ne nts] at hpt'
    have nta : pt ≠ a := fun z => by subst z; rw [hxa] at hpt'; cases hpt'
    have e5 : Ex H4 (upd (upd H4 ps (.lst [])) pt (.lst [])) := (Ex.new hps).trans (Ex.new hpt)
    have nps : H ps = none := x4.fresh nsa hps
    have npt : H pt = none := x4.fresh nta hpt'
    have D5 : Dx K H (upd (upd H4 ps (.lst [])) pt (.lst [])) a scr ns ps pt [] [] [] [] := ⟨x4.trans (ExB.of e5), R4.ex e5, by rw [upd_ne nts.symm, upd_same], upd_same, .nil, .nil⟩
    generalize upd (upd H4 ps (.lst [])) pt (.lst []) = H5 at e5 D5
    have putS : ∀ {H' : Hp} {ls lt : List V} {rows anss : List (List Nat)} {q : Addr} {ln : List Nat}, Dx K H H' a scr ns ps pt ls lt rows anss → SqT K H' q (rowV ln) → Dx K H (upd H' ps (.lst (ls ++ [.ref q]))) a scr ns ps pt (ls ++ [.ref q]) lt (rows ++ [ln]) anss := fun {H' ls lt rows anss q ln} D h9 => by
      have tk : TK K H' (upd H' ps (.lst (ls ++ [.ref q]))) := TK.lst D.hs
      exact ⟨D.x.mut nps, R.join D.r (D.x.mut nps) (upd_ne nsa.symm), upd_same, by rw [upd_ne nts]; exact D.ht, Paired.snoc (paired_keep D.ps_ tk) ⟨q, rfl, tk _ _ h9⟩, paired_keep D.pt_ tk⟩
    have putT : ∀ {H' : Hp} {ls lt : List V} {rows anss : List (List Nat)} {q : Addr} {ln : List Nat}, Dx K H H' a scr ns ps pt ls lt rows anss → SqT K H' q (rowV ln) → Dx K H (upd H' pt (.lst (lt ++ [.ref q]))) a scr ns ps pt ls (lt ++ [.ref q]) rows (anss ++ [ln]) := fun {H' ls lt rows anss q ln} D h9 => by
      have tk : TK K H' (upd H' pt (.lst (lt ++ [.ref q]))) := TK.lst D.ht
      exact ⟨D.x.mut npt, R.join D.r (D.x.mut npt) (upd_ne nta.symm), by rw [upd_ne nts.symm]; exact D.hs, upd_same, paired_keep D.ps_ tk, Paired.snoc (paired_keep D.pt_ tk) ⟨q, rfl, tk _ _ h9⟩⟩
    refine st_lit (σ' := [some (.ref a), some (.int (s : Int)), some (.int (l : Int)), some (.int (n : Int)), some (.int (m : Int)), some (nV kd), some (.ref ps), some (.ref pt), none, none]) rfl ?_
    refine q_forR1 (n := (n : Int)) (ea_cons (ev_var rfl) ea_nil) ⟨by omega, by omega⟩ (fun i σ' H' => ∃ l8 l9 ls lt rows anss, σ' = [some (.ref a), some (.int (s : Int)), some (.int (l : Int)), some (.int (n : Int)), some (.int (m : Int)), some (nV kd), some (.ref ps), some (.ref pt), l8, l9] ∧
      Dx K H H' a scr ns ps pt ls lt rows anss ∧ rows.length = i ∧ anss.length = i ∧ (∀ r ∈ rows, r.length = m ∧ ∀ x ∈ r, x < n) ∧ ∀ r ∈ anss, r.length = m ∧ ∀ x ∈ r, x ≤ 9)
      (fun H7 e7 => ⟨none, none, [], [], [], [], rfl, D5.ex nsa nta e7, rfl, rfl, fun _ h => by simp at h, fun _ h => by simp at h⟩) ?_ ?_
    · rintro i σ' H' hi ⟨l8, l9, ls, lt, rows, anss, rfl, D, lr, la, ar, aa⟩
      have hls : ls.length = i := by rw [Paired.length D.ps_, lr]
      have hlt : lt.length = i := by rw [Paired.length D.pt_, la]
      refine st_lit (σ' := [some (.ref a), some (.int (s : Int)), some (.int (l : Int)), some (.int (n : Int)), some (.int (m : Int)), some (nV kd), some (.ref ps), some (.ref pt), some (.int (i : Int)), l9]) rfl ?_
      refine ⟨fun σ' H' => ∃ ls' ln, σ' = [some (.ref a), some (.int (s : Int)), some (.int (l : Int)), some (.int (n : Int)), some (.int (m : Int)), some (nV kd), some (.ref ps), some (.ref pt), some (.int (i : Int)), l9] ∧ Dx K H H' a scr ns ps pt ls' lt (rows ++ [ln]) anss ∧ ln.length = m ∧ ∀ x ∈ ln, x < n, ?_, ?_⟩
      · -- the row of steps
        have pure_ : ∀ (te : TE) (fv : Nat → Nat) (H7 : Hp), Ex H' H7 → (∀ j, j < m → fv j < n) → (∀ (j : Nat) H8, Ex H7 H8 → (j : Int) < (m : Int) → Ev te ((wipe [some (.ref a), some (.int (s : Int)), some (.int (l : Int)), some (.int (n : Int)), some (.int (m : Int)), some (nV kd), some (.ref ps), some (.ref pt), some (.int (i : Int)), l9] [9]).set 9 (some (.int (j : Int)))) H8 (nV (fv j))) →
            ∀ Db : Ends, (∀ ls' ln H9, Dx K H H9 a scr ns ps pt ls' lt (rows ++ [ln]) anss → ln.length = m → (∀ x ∈ ln, x < n) → Db.nx [some (.ref a), some (.int (s : Int)), some (.int (l : Int)), some (.int (n : Int)), some (.int (m : Int)), some (nV kd), some (.ref ps), some (.ref pt), some (.int (i : Int)), l9] H9) → tDrop (tBM K "list" rAppend (tVar 6) (tCons (tCB (rTupOf K) (tCons (tLc (iRng1 (tCons (tVar 4) tNil)) (gName 9) tYes te [9]) tNil)) tNil)) Db [some (.ref a), some (.int (s : Int)), some (.int (l : Int)), some (.int (n : Int)), some (.int (m : Int)), some (nV kd), some (.ref ps), some (.ref pt), some (.int (i : Int)), l9] H7 := fun te fv H7 e7 hf he Db hk => by
          have big := el_lcRv (σ := [some (.ref a), some (.int (s : Int)), some (.int (l : Int)), some (.int (n : Int)), some (.int (m : Int)), some (nV kd), some (.ref ps), some (.ref pt), some (.int (i : Int)), l9]) (H := H7) (ta := tCons (tVar 4) tNil) (j := 9) (vs := [9]) (n := (m : Int)) (te := te) (fun j => nV (fv j)) (ea_cons (ev_var rfl) ea_nil) ⟨by omega, by omega⟩ (fun _ => rfl) he
          rw [Int.toNat_natCast, gvn_nat] at big
          have D7 := D.ex nsa nta e7
          refine s_appU D7.hs (ev_var rfl) (eu_tupN big) (by omega) fun q H9 hq e9 h9 => ?_
          refine hk _ ((List.range m).map fv) _ (putS (D7.ex nsa nta e9) (SqT.of h9)) (by rw [List.length_map, List.length_range]) fun x hx => ?_
          obtain ⟨j, hj, rfl⟩ := List.mem_map.mp hx
          exact hf j (List.mem_range.mp hj)
        by_cases k0 : kd = 0
        · subst k0
          refine s_if (b := true) (et_is (et_test (ev_op (x := nV 0) (y := .int 0) (ev_var rfl) ev_c (rv_eq rfl))) (decide_eq_true rfl)) (fun _ H7 e7 => ?_) (fun z => by cases z)
          refine pure_ _ (fun j => if j + 1 = m then min (n - 1) (i + 1) else 0) H7 e7 (fun j hj => by split <;> omega) (fun j H8 e8 hj => ?_) _ fun ls' ln H9 D9 h1 h2 => ⟨ls', ln, rfl, D9, h1, h2⟩
          refine ev_if (b := decide (j + 1 = m)) (et_is (et_test (ev_op (x := .int (j : Int)) (y := .int ((m : Int) - 1)) (ev_var rfl) (ev_op (ev_var rfl) ev_c rv_I0) (rv_eq rfl))) ?_) (fun hb => ?_) fun hb => ?_
          · by_cases h : j + 1 = m
            · rw [decide_eq_true h]
              exact decide_eq_true (congrArg V.int (by omega))
            · rw [decide_eq_false h]
              exact decide_eq_false fun z => h (by have := V.int.inj z; omega)
          · rw [if_pos (of_decide_eq_true hb)]
            refine ev_is (ev_min2 (ev_op (ev_var rfl) ev_c rv_I0) (ev_op (ev_var rfl) ev_c rv_I0)) (congrArg V.int ?_)
            split <;> omega
          · rw [if_neg (of_decide_eq_false hb)]
            exact ev_c
        · refine s_if (b := false) (et_is (et_test (ev_op (x := nV kd) (y := .int 0) (ev_var rfl) ev_c (rv_eq rfl))) (decide_eq_false fun z => k0 (by have : (kd : Int) = 0 := V.int.inj z; omega))) (fun z => by cases z) fun _ H7 e7 => ?_
          by_cases k1 : kd = 1
          · subst k1
            refine s_if (b := true) (et_is (et_test (ev_op (x := nV 1) (y := .int 1) (ev_var rfl) ev_c (rv_eq rfl))) (decide_eq_true rfl)) (fun _ H8 e8 => ?_) (fun z => by cases z)
            refine pure_ _ (fun j => min (n - 1) j) H8 (e7.trans e8) (fun j hj => by omega) (fun j H9 e9 hj => ?_) _ fun ls' ln H9 D9 h1 h2 => ⟨ls', ln, rfl, D9, h1, h2⟩
            refine ev_is (ev_min2 (ev_op (ev_var rfl) ev_c rv_I0) (ev_var rfl)) (congrArg V.int ?_)
            split <;> omega
          · refine s_if (b := false) (et_is (et_test (ev_op (x := nV kd) (y := .int 1) (ev_var rfl) ev_c (rv_eq rfl))) (decide_eq_false fun z => k1 (by have : (kd : Int) = 1 := V.int.inj z; omega))) (fun z => by cases z) fun _ H8 e8 => ?_
            have D8 := D.ex nsa nta (e7.trans e8)
            refine ⟨.ref ps, rfl, Or.inl ⟨rfl, _, sq_of D8.hs⟩, ?_⟩
            refine a_draws (n := m) (m := n) (ea_cons (ev_var rfl) ea_nil) (by omega) D8.r (fun _ => rfl) (fun i hi => draw_ok (by omega) (by omega) (by exact rfl) fun _ _ => by exact ev_var rfl) fun q2 an H11 hq2 nda x11 R11 h11 dl da => ?_
            have D11 := D8.keep nsa nta x11 R11
            exact ⟨ps, _, _, rfl, rfl, D11.hs, small1000 (by omega), _, an, rfl, putS D11 (SqT.of h11), dl, da⟩
      · rintro σ' H7 ⟨ls', ln, rfl, D7, hln, hlx⟩
        refine ⟨.ref pt, rfl, Or.inl ⟨rfl, _, sq_of D7.ht⟩, ?_⟩
        refine a_draws (n := m) (m := 2) (ea_cons (ev_var rfl) ea_nil) (by omega) D7.r (fun _ => rfl) (fun i hi => draw_ok (by decide) (by decide) (by exact rfl) fun _ _ => by exact ev_c) fun q2 an H11 hq2 nda x11 R11 h11 dl da => ?_
        have D11 := D7.keep nsa nta x11 R11
        refine ⟨pt, _, _, rfl, rfl, D11.ht, small1000 (by omega), ?_⟩
        refine ⟨_, _, ls', _, rows ++ [ln], anss ++ [an], rfl, putT D11 (SqT.of h11), by rw [List.length_append, List.length_singleton, lr], by rw [List.length_append, List.length_singleton, la], fun r hr => ?_, fun r hr => ?_⟩
        · rcases List.mem_append.mp hr with hr | hr
          · exact ar r hr
          · rw [List.mem_singleton] at hr
            subst hr
            exact ⟨hln, hlx⟩
        · rcases List.mem_append.mp hr with hr | hr
          · exact aa r hr
          · rw [List.mem_singleton] at hr
            subst hr
            exact ⟨dl, fun x hx => by have := da x hx; omega⟩
    · rintro σ' H' ⟨l8, l9, ls, lt, rows, anss, rfl, D, lr, la, ar, aa⟩
      have lr' : rows.length = n := by omega
      have la' : anss.length = n := by omega
      refine eu_tupL (ev_var rfl) (sq_of D.hs) _ (Ex.refl _) _ fun q1 H7 hq1 e7 h7 => ?_
      refine eu_tupL (ev_var rfl) (sq_of (e7 _ _ D.ht)) _ (Ex.refl _) _ fun q2 H8 hq2 e8 h8 => ⟨by show 2 ≤ sizeLine; decide, fun q3 hq3 => ?_⟩
      have e9 : Ex H8 (upd H8 q3 (.tup [.ref q1, .ref q2])) := Ex.new hq3
      have D9 := D.ex nsa nta ((e7.trans e8).trans e9)
      have hk0 : (⟨rows, anss⟩ : M1.Mach).k = m := by
        show (rows.getD 0 []).length = m
        have g0 : rows[0]? = some (rows.getD 0 []) := M1.getD_at (by omega)
        exact (ar _ (List.mem_of_getElem? g0)).1
      refine k _ ⟨rows, anss⟩ _ ⟨by show 1 ≤ rows.length; omega, by show rows.length ≤ 6; omega, by rw [hk0]; omega, by rw [hk0]; omega, by show anss.length = rows.length; omega, fun r hr => ?_, fun r hr => ?_⟩ (by show rows.length ≤ s; omega) (by rw [hk0]; omega)
        ⟨q3, .ref q1, .ref q2, rfl, SqT.of upd_same, ⟨q1, ls, rfl, SqT.of ((e8.trans e9) _ _ h7), D9.ps_⟩, ⟨q2, lt, rfl, SqT.of (e9 _ _ h8), D9.pt_⟩⟩ D9.x D9.r
      · rw [hk0]
        refine ⟨(ar r hr).1, fun x hx => ?_⟩
        have := (ar r hr).2 x hx
        show x < rows.length
        omega
      · rw [hk0]
        exact aa r hr
end

end Kx
namespace Kx
open PySem PySem.Spec PyProof.Rows L2

open Evl
section
variable {P : Program} {w : World} {K : PySem.W.Frag} {mg : Str → Option Value} {base : Heap}
def sp_lword2 (K : PySem.W.Frag) : Sp := fun vs H Q _ => ∃ (a scr : Addr) (ns : List Int) (v : V) (M : M1.Mach) (n : Nat), vs = [.ref a, v, .int (n : Int)] ∧ MacAt K H v M.st M.an ∧ M.Ok ∧ n ≤ 900 ∧ RowOk K H a scr ns ∧
  ∀ p wd H2, ExB a H H2 → RowOk K H2 a scr ns → SqT K H2 p (rowV wd) → wd.length ≤ n → M.Letters wd → Q (.ref p) H2
theorem s_drawsT {ta : TA} {te : TE} {D : Ends} {σ : L2.St} {H : Hp} {a scr : Addr} {ns : List Int} {j m : Nat} {vs : List Nat} (Pn : Nat → Prop) (h : ∀ R : List V → Hp → Prop, (∀ n H1, n ≤ 1000 → Pn n → ExB a H H1 → RowOk K H1 a scr ns → R [.int (n : Int)] H1) → ta σ H R) (hw : ∀ x, wipe ((wipe σ vs).set j (some x)) vs = wipe σ vs)
    (he : ∀ i : Nat, i < 1000 → EvR K te ((wipe σ vs).set j (some (.int (i : Int)))) H a scr ns m)
    (q : ∀ p l H2, H p = none → p ≠ a → ExB a H H2 → RowOk K H2 a scr ns → H2 p = some (.tup (rowV l)) → Pn l.length → (∀ x ∈ l, x < m) → D.rt (.ref p) H2) : tRet (tCB (rTupOf K) (tCons (tLc (iRng1 ta) (gName j) tYes te vs) tNil)) D σ H :=
  er_lcX Pn h hw he (fun x H1 => rTupOf K [x] H1 D.rt) fun p l H2 hp na x2 R2 h2 _ hl hm => ⟨p, _, rfl, Or.inl ⟨sq_of h2, fun p2 hp2 => by
    have np2 : p2 ≠ a := fun z => by
      subst z
      obtain ⟨xs, hx⟩ := R2.lst
      rw [hx] at hp2
      cases hp2
    exact q p2 l _ (x2.fresh np2 hp2) np2 (x2.trans (ExB.of (Ex.new hp2))) (R2.ex (Ex.new hp2)) upd_same hl hm⟩⟩
theorem has_law_word (T : Txt K mg) (h_law_taken : Has P w K mg base "_law_taken" 1 ["row", "many"] (sp_taken K)) {f : Addr} {fd : FuncData} (F : Fun K "_law_word" "_law_word" s_law_word f fd) (g : mg "_law_word" = some (.ref f)) (B : Binds K fd ["row", "machine", "most"] []) : Has P w K mg base "_law_word" 2 ["row", "machine", "most"] (sp_lword2 K) := by
  refine Has.mk' g F.kp B (F.ok sc_law_word (fun vs H Q E h => ?_) (fun cdv A outer s H vs Q E hr h => ?_))
  · obtain ⟨a, scr, ns, v, M, n, rfl, _⟩ := h
    rfl
  · obtain ⟨a, scr, ns, v, M, n, rfl, hM, ok, hn, R, k⟩ := h
    refine ⟨_, (pss_one (ps_ret (pe_callTy (call_tupleK (K := K) rfl) (by rfl) T.b_tuple bt_tuple (pa_cons (pe_lc (own := [("at", 3)]) (g := gName 3) (tt := tYes) (by rfl) sc_law_word.nd (pi_range1 (by rfl) T.b_range (pa_cons (pe_has h_law_taken (hr.mono (by first | decide | exact Nat.le_refl _)) (by rfl) (pa_cons (pv 0) (pa_cons (pe_op op_add (pv 2) pe_int) pa_nil))) pa_nil)) (blkOk_by (N := N_law_word) (sc := defScope s_law_word) (by decide +kernel)) (fun _ _ _ _ _ => pg_name (i := 3) sc_law_word.nd rfl (Or.inl rfl)) (fun _ _ _ _ _ => pts_nil) (fun _ _ _ _ _ => (pe_has h_law_taken (hr.mono (by first | decide | exact Nat.le_refl _)) (by rfl) (pa_cons (pv 0) (pa_cons (pe_callB (call_lenK (K := K) rfl) (by rfl) T.b_len bt_len (pa_cons (pe_ix (ix_tupK (K := K) rfl) (pe_ix (ix_tupK (K := K) rfl) (pv 1) pe_int (fun _ _ => rfl)) pe_int (fun _ _ => rfl)) pa_nil)) pa_nil))))) pa_nil)))), ?_⟩
    have n1 := ok.n1
    have k1 := ok.k1
    have k3 := ok.k3
    have tkx : ∀ {H' : Hp}, ExB a H H' → TK K H H' := fun x => by
      obtain ⟨xs, hx⟩ := R.lst
      exact x.tk hx
    refine s_drawsT (a := a) (scr := scr) (ns := ns) (m := M.k) (fun k => k ≤ n) (fun R' r => ⟨.ref a, rfl, .int (n : Int), rfl, (n : Int), 1, rfl, rfl, a, scr, ns, n + 1, rfl, by omega, by omega, R, fun x H7 hx x7 R7 => r x H7 (by omega) (by omega) x7 R7⟩) (fun _ => rfl) (fun i hi => draw_ok (by omega) (by omega) (by exact rfl) fun H' x' => ?_) fun p l H2 hp na x2 R2 h2 hl hm => k p l H2 x2 R2 (SqT.of h2) hl hm
    obtain ⟨am, x, y, rfl, hSm, ⟨ax, vx, rfl, hSx, hPx⟩, _⟩ := hM.keep (tkx x')
    obtain ⟨ar, gr, hr1⟩ := tab_get hPx (M.row_at n1)
    exact ev_is (ev_lenT (ev_op (ev_op (ev_var rfl) ev_c (rv_ixT hSm (atI_nat (j := 0) rfl))) ev_c (rv_ixT hSx (atI_nat (j := 0) gr))) hr1) (by rw [rowV_len, M.row_len ok n1])
end

end Kx
namespace Kx
open PySem PySem.Spec PyProof.Rows L2

open Evl RZ
section
variable {P : Program} {w : World} {K : PySem.W.Frag} {mg : Str → Option Value} {base : Heap}
/-! ### chances -/
theorem rowI (l : List Nat) : rowV l = (l.map fun (n : Nat) => (n : Int)).map V.int := by unfold rowV; rw [List.map_map]; rfl
theorem flat_row (l : List Nat) : (rowV l).all flatV = true := by
  rw [List.all_eq_true]
  intro x hx
  obtain ⟨n, _, rfl⟩ := List.mem_map.mp hx
  rfl
theorem countV (l : List Nat) (m : Nat) : ((rowV l).countP fun z => eqV z (nV m)) = l.count m := by
  induction l with
  | nil => rfl
  | cons x l ih =>
    show (nV x :: rowV l).countP _ = _
    rw [List.countP_cons, ih, List.count_cons]
    congr 1
    have e : eqV (nV x) (nV m) = (x == m) := by
      show ((x : Int) == (m : Int)) = _
      by_cases h : x = m
      · subst h; simp
      · rw [beq_eq_false_iff_ne.mpr h, beq_eq_false_iff_ne.mpr fun z => h (Int.ofNat_inj.mp z)]
    rw [e]
theorem sumV (l : List Nat) : (l.map fun (n : Nat) => (n : Int)).sum = ((l.sum : Nat) : Int) := by
  induction l with
  | nil => rfl
  | cons x l ih => rw [List.map_cons, List.sum_cons, ih, List.sum_cons, Int.natCast_add]
theorem gvn_rowf (l : List Nat) (f : Nat → Nat) : gvn (rowV l).length (fun i => nV (f (l.getD i 0))) = rowV (l.map f) := by
  unfold gvn rowV
  rw [List.length_map, List.map_map]
  refine List.ext_getElem? fun i => ?_
  rw [List.getElem?_map, List.getElem?_map]
  by_cases hi : i < l.length
  · rw [List.getElem?_range hi, List.getElem?_eq_getElem hi]
    show some (nV (f (l.getD i 0))) = _
    rw [List.getD_eq_getElem?_getD, List.getElem?_eq_getElem hi]
    rfl
  · rw [List.getElem?_eq_none (by rw [List.length_range]; omega), List.getElem?_eq_none (by omega)]
    rfl
theorem rgV_row (n : Nat) : rgV 0 (n : Int) = rowV (List.range n) := by
  unfold rgV rowV
  rw [Int.sub_zero, Int.toNat_natCast]
  refine List.map_congr_left fun i _ => ?_
  rw [Int.zero_add]
  rfl
theorem el_listRg {te : TE} {σ : L2.St} {H : Hp} {n : Nat} (h : Ev te σ H (nV n)) (hn : n ≤ 1000) : EvL (tLstRg (tRg1 te)) σ H (rowV (List.range n)) := fun H1 e Q q =>
  h H1 e _ fun H2 e2 => ⟨(n : Int), rfl, RgOk.of_le (by omega) (by omega) (by omega) (by omega), fun p hp => by
    rw [rgV_row]
    exact q p _ (fresh_back e2 hp) (e2.trans (Ex.new hp)) upd_same⟩
theorem ev_gcd {ta tb : TE} {σ : L2.St} {H : Hp} {a b : Nat} (ha : Ev ta σ H (nV a)) (hb : Ev tb σ H (nV b)) : Ev (tCB rGcd (tCons ta (tCons tb tNil))) σ H (nV (Nat.gcd a b)) := fun H1 e Q q =>
  ha H1 e _ fun H2 e2 => hb H2 (e.trans e2) _ fun H3 e3 => ⟨(a : Int), (b : Int), rfl, q H3 (e2.trans e3)⟩
theorem ev_divW {ta tb : TE} {σ : L2.St} {H : Hp} {a b : Nat} (ha : Ev ta σ H (nV a)) (hb : Ev tb σ H (nV b)) (h : 0 < b) (h2 : b < 2 ^ 1000) : Ev (tOp (rI CDivW fun i j => .int (i / j)) ta tb) σ H (nV (a / b)) :=
  ev_is (ev_op ha hb (rv_I (C := CDivW) (wide_div (b := 1000) (by omega) (by rw [Int.natAbs_natCast]; exact h2) (by decide) (by decide)))) (congrArg V.int (Int.natCast_ediv a b).symm)
theorem ev_mulL {ta tb : TE} {σ : L2.St} {H : Hp} {a b : Nat} (ha : Ev ta σ H (nV a)) (hb : Ev tb σ H (nV b)) (h : a < 2 ^ 64) : Ev (tOp (rI CMul fun i j => .int (i * j)) ta tb) σ H (nV (a * b)) :=
  ev_is (ev_op ha hb (rv_I (C := CMul) (.inl ⟨by omega, by have : ((2 ^ 64 : Nat) : Int) = 2 ^ 64 := rfl; omega⟩))) (congrArg V.int (Int.natCast_mul a b).symm)
theorem ev_mulR {ta tb : TE} {σ : L2.St} {H : Hp} {a b : Nat} (ha : Ev ta σ H (nV a)) (hb : Ev tb σ H (nV b)) (h : b < 2 ^ 64) : Ev (tOp (rI CMul fun i j => .int (i * j)) ta tb) σ H (nV (a * b)) :=
  ev_is (ev_op ha hb (rv_I (C := CMul) (.inr ⟨by omega, by have : ((2 ^ 64 : Nat) : Int) = 2 ^ 64 := rfl; omega⟩))) (congrArg V.int (Int.natCast_mul a b).symm)
theorem ev_subZ {ta tb : TE} {σ : L2.St} {H : Hp} {a b : Nat} (ha : Ev ta σ H (nV a)) (hb : Ev tb σ H (nV b)) (h : b ≤ a) : Ev (tOp (rI0 fun i j => .int (i - j)) ta tb) σ H (nV (a - b)) := ev_is (ev_op ha hb rv_I0) (congrArg V.int (by omega))
theorem ev_addZ {ta tb : TE} {σ : L2.St} {H : Hp} {a b : Nat} (ha : Ev ta σ H (nV a)) (hb : Ev tb σ H (nV b)) : Ev (tOp (rI0 fun i j => .int (i + j)) ta tb) σ H (nV (a + b)) := ev_is (ev_op ha hb rv_I0) (congrArg V.int (Int.natCast_add a b).symm)
theorem ev_sumL {te : TE} {σ : L2.St} {H : Hp} {l : List Nat} (h : EvL te σ H (rowV l)) : Ev (tCB (rSum K) (tCons te tNil)) σ H (nV l.sum) := fun H1 e Q q =>
  h H1 e _ fun p H2 hp e2 h2 => ⟨p, l.map fun (n : Nat) => (n : Int), rfl, sq_of (by rw [h2, rowI]), by rw [sumV]; exact q H2 e2⟩
theorem ev_sumV {te : TE} {σ : L2.St} {H : Hp} {p : Addr} {l : List Nat} (h : Ev te σ H (.ref p)) (hs : SqL K H p (rowV l)) : Ev (tCB (rSum K) (tCons te tNil)) σ H (nV l.sum) := fun H1 e Q q =>
  h H1 e _ fun H2 e2 => ⟨p, l.map fun (n : Nat) => (n : Int), rfl, by rw [← rowI]; exact ex_l (e.trans e2) hs, by rw [sumV]; exact q H2 e2⟩
def LowAt (K : PySem.W.Frag) (H : Hp) (v : V) (x : Nat × Nat) : Prop := ∃ t, v = .ref t ∧ SqT K H t [nV x.1, nV x.2]
theorem LowAt.keep {H H' : Hp} (e : TK K H H') {v : V} {x : Nat × Nat} (h : LowAt K H v x) : LowAt K H' v x := let ⟨t, h1, h2⟩ := h; ⟨t, h1, e _ _ h2⟩
def sp_low (K : PySem.W.Frag) : Sp := fun vs H Q _ => ∃ a b : Nat, vs = [.int (a : Int), .int (b : Int)] ∧ 0 < b ∧ b < 2 ^ 1000 ∧ ∀ t H2, Ex H H2 → SqT K H2 t [nV (M1.low a b).1, nV (M1.low a b).2] → Q (.ref t) H2
theorem has_lowest_terms (T : Txt K mg) {f : Addr} {fd : FuncData} (F : Fun K "lowest_terms" "lowest_terms" s_lowest_terms f fd) (g : mg "lowest_terms" = some (.ref f)) (B : Binds K fd ["top", "bottom"] []) : Has P w K mg base "lowest_terms" 1 ["top", "bottom"] (sp_low K) := by
  refine Has.mk' g F.kp B (F.ok sc_lowest_terms (fun vs H Q E h => ?_) (fun cdv A outer s H vs Q E hr h => ?_))
  · obtain ⟨a, b, rfl, _⟩ := h
    rfl
  · obtain ⟨a, b, rfl, hb, hb2, k⟩ := h
    refine ⟨_, (pss_cons (ps_set (i := 2) sc_lowest_terms.nd rfl (.inl rfl) (pe_callBfun cr_gcd (by rfl) T.m_gcd (pa_cons (pv 0) (pa_cons (pv 1) pa_nil))))
      (pss_one (ps_ret (pe_tup (pa_cons (pe_op op_fdivW (pv 0) (pv 2)) (pa_cons (pe_op op_fdivW (pv 1) (pv 2)) pa_nil)))))), ?_⟩
    have g1 : 0 < Nat.gcd a b := Nat.gcd_pos_of_pos_right _ hb
    have g2 : Nat.gcd a b < 2 ^ 1000 := Nat.lt_of_le_of_lt (Nat.le_of_dvd hb (Nat.gcd_dvd_right a b)) hb2
    refine q_asg (v := nV (Nat.gcd a b)) (ev_gcd (ev_var rfl) (ev_var rfl)) fun H1 e1 => ?_
    exact s_retU (eu_tup (ea_cons (ev_divW (a := a) (ev_var rfl) (ev_var rfl) g1 g2) (ea_cons (ev_divW (a := b) (ev_var rfl) (ev_var rfl) g1 g2) ea_nil)) (by show 2 ≤ 100000; decide)) fun p H2 hp e2 h2 => k p H2 (e1.trans e2) (SqT.of h2)
theorem pow_row (n i : Nat) : rowV ((List.range (i + 1)).map (n ^ ·)) ++ [nV (n ^ (i + 1))] = rowV ((List.range (i + 1 + 1)).map (n ^ ·)) := by
  rw [List.range_succ (n := i + 1), List.map_append, List.map_singleton, rowV_snoc]
def sp_powers : Sp := fun vs H Q _ => ∃ n k : Nat, vs = [.int (n : Int), .int (k : Int)] ∧ n < 2 ^ 64 ∧ k ≤ 30 ∧ ∀ p H2, H p = none → Ex H H2 → H2 p = some (.lst (rowV ((List.range (k + 1)).map (n ^ ·)))) → Q (.ref p) H2
theorem has_powers_of (T : Txt K mg) {f : Addr} {fd : FuncData} (F : Fun K "powers_of" "powers_of" s_powers_of f fd) (g : mg "powers_of" = some (.ref f)) (B : Binds K fd ["number", "greatest"] []) : Has P w K mg base "powers_of" 1 ["number", "greatest"] sp_powers := by
  refine Has.mk' g F.kp B (F.ok sc_powers_of (fun vs H Q E h => ?_) (fun cdv A outer s H vs Q E hr h => ?_))
  · obtain ⟨n, m, rfl, _⟩ := h
    rfl
  · obtain ⟨n, m, rfl, hn, hm, k⟩ := h
    refine ⟨_, (pss_cons (ps_set (i := 2) sc_powers_of.nd rfl (.inl rfl) (pe_lst (pa_cons pe_int pa_nil)))
      (pss_cons (ps_for PassesOwn.never rfl (pi_range1 (by rfl) T.b_range (pa_cons (pv 1) pa_nil)) (pg_name (i := 3) sc_powers_of.nd rfl (.inl rfl))
      (pss_one (ps_expr (pe_bm PySem.F.plainAttrs_list PySem.F.slot_list_append PySem.F.type_list_append mt_append (pv 2) (pa_cons (pe_op op_mul (pe_ix (ix_listK (K := K) rfl) (pv 2) (pe_un un_neg pe_int) (fun _ _ => rfl)) (pv 0)) pa_nil)))))
      (pss_one (ps_ret (pv 2))))), ?_⟩
    refine q_asgL (el_lst (ea_cons (ev_c (v := V.int 1)) ea_nil) (by show 1 ≤ 100000; decide)) fun p H1 hp e1 h1 => ?_
    refine q_forR1 (n := (m : Int)) (ea_cons (ev_var rfl) ea_nil) ⟨by omega, by omega⟩ (fun i σ' H' => ∃ l3 : Option V, σ' = [some (.int (n : Int)), some (.int (m : Int)), some (.ref p), l3] ∧ Ex H H' ∧ H' p = some (.lst (rowV ((List.range (i + 1)).map (n ^ ·))))) (fun H2 e2 => ⟨none, rfl, e1.trans e2, e2 _ _ h1⟩) ?_ ?_
    · rintro i σ' H2 hi ⟨l3, rfl, e2, h2⟩
      refine s_app (v := nV (n ^ (i + 1))) h2 (ev_var rfl) ?_ (by rw [rowV_len, List.length_map, List.length_range]; omega) fun H3 e3 => ⟨_, rfl, Ex.mut (e2.trans e3) hp, ?_⟩
      · have hlast : atI (rowV ((List.range (i + 1)).map (n ^ ·))) (-1) = some (nV (n ^ i)) := by
          rw [List.range_succ, List.map_append, List.map_singleton, rowV_snoc]
          exact atI_last _ _
        refine ev_is (ev_mulR (a := n ^ i) (b := n) (ev_op (ev_var rfl) (ev_un ev_c ru_neg) (rv_ixL (sq_of h2) hlast)) (ev_var rfl) hn) ?_
        rw [Nat.pow_succ]
      · rw [upd_same, pow_row]
    · rintro σ' H2 ⟨l3, rfl, e2, h2⟩
      rw [Int.toNat_natCast] at h2
      exact s_ret (ev_var rfl) fun H3 e3 => k p H3 hp (e2.trans e3) (e3 _ _ h2)
/-- from how many states the letter j is answered as from r -/
def numAt (M : M1.Mach) (r : Nat) (wd : List Nat) (j : Nat) : Nat := (List.range M.st.length).countP fun s => decide (M.tld s wd j = M.tld r wd j)
def sp_rightn (K : PySem.W.Frag) : Sp := fun vs H Q _ => ∃ (v : V) (M : M1.Mach) (a b : Addr) (way wd : List Nat), vs = [v, .ref a, .ref b] ∧ MacAt K H v M.st M.an ∧ M.Ok ∧ SqT K H a (rowV way) ∧ M.Letters way ∧ SqT K H b (rowV wd) ∧ wd.length ≤ 4000 ∧ M.Letters wd ∧
  ∀ p H2, H p = none → Ex H H2 → H2 p = some (.lst (rowV ((List.range wd.length).map (numAt M (M.led 0 way) wd)))) → Q (.ref p) H2
theorem count_map (l : List Nat) (f : Nat → Nat) (x : Nat) : (l.map f).count x = l.countP fun s => decide (f s = x) := by
  rw [List.count, List.countP_map]
  refine List.countP_congr fun s _ => ?_
  show (f s == x) = true ↔ decide (f s = x) = true
  rw [beq_iff_eq, decide_eq_true_iff]
theorem has_right_numbers (T : Txt K mg) (h_state_behind : Has P w K mg base "state_behind" 1 ["machine", "state", "word"] (sp_led K)) {f : Addr} {fd : FuncData} (F : Fun K "right_numbers" "right_numbers" s_right_numbers f fd) (g : mg "right_numbers" = some (.ref f)) (B : Binds K fd ["machine", "way", "word"] []) : Has P w K mg base "right_numbers" 2 ["machine", "way", "word"] (sp_rightn K) := by
  refine Has.mk' g F.kp B (F.ok sc_right_numbers (fun vs H Q E h => ?_) (fun cdv A outer s H vs Q E hr h => ?_))
  · obtain ⟨v, M, a, b, way, wd, rfl, _⟩ := h
    rfl
  · obtain ⟨v, M, wa, wb, way, wd, rfl, hM, ok, hwa, hway, hwb, hwl, hwd, k⟩ := h
    obtain ⟨am, x, y, rfl, hSm, ⟨ax, vx, rfl, hSx, hPx⟩, ⟨ay, vy, rfl, hSy, hPy⟩⟩ := id hM
    have hvx : vx.length = M.st.length := Paired.length hPx
    have n1 := ok.n1
    have n6 := ok.n6
    refine ⟨_, (pss_cons (ps_asg (pv 0) (pg_tupK (K := K) (n := 2) rfl (by rfl) (pgs_cons (pg_name (i := 3) sc_right_numbers.nd rfl (.inr rfl)) (pgs_cons (pg_name (i := 4) sc_right_numbers.nd rfl (.inr rfl)) pgs_nil))))
      (pss_cons (ps_set (i := 5) sc_right_numbers.nd rfl (.inl rfl) (pe_has h_state_behind (hr.mono (by first | decide | exact Nat.le_refl _)) (by rfl) (pa_cons (pv 0) (pa_cons pe_int (pa_cons (pv 1) pa_nil)))))
      (pss_cons (ps_set (i := 6) sc_right_numbers.nd rfl (.inl rfl) (pe_listRg rfl (by rfl) T.b_list (prg_1 (by rfl) T.b_range (pe_callB (call_lenK (K := K) rfl) (by rfl) T.b_len bt_len (pa_cons (pv 3) pa_nil)))))
      (pss_cons (ps_set (i := 7) sc_right_numbers.nd rfl (.inl rfl) (pe_lst pa_nil))
      (pss_cons (ps_for PassesOwn.never rfl (pi_tupK (K := K) rfl (pv 2)) (pg_name (i := 8) sc_right_numbers.nd rfl (.inr rfl))
      (pss_cons (ps_setLc (i := 9) (own := [("state", 10)]) (g := gName 10) (tt := tYes) (by rfl) sc_right_numbers.nd rfl rfl (sw_true rfl rfl rfl (by decide +kernel)) (pi_listK (K := K) rfl (pv 6)) (blkOk_by (N := N_right_numbers) (sc := defScope s_right_numbers) (by decide +kernel)) (fun _ _ _ _ _ => pg_name (i := 10) sc_right_numbers.nd rfl (Or.inl rfl)) (fun _ _ _ _ _ => pts_nil) (fun _ _ _ _ _ => (pe_ix (ix_tupK (K := K) rfl) (pe_ix (ix_tupK (K := K) rfl) (pv 4) (pv 10) (fun _ _ => rfl)) (pv 8) (fun _ _ => rfl))))
      (pss_cons (ps_expr (pe_bm PySem.F.plainAttrs_list PySem.F.slot_list_append PySem.F.type_list_append mt_append (pv 7) (pa_cons (pe_bm PySem.F.plainAttrs_list PySem.F.slot_list_count PySem.F.type_list_count (mt_countF (K := K) rfl) (pv 9) (pa_cons (pe_ix (ix_listK (K := K) rfl) (pv 9) (pv 5) (fun _ _ => rfl)) pa_nil)) pa_nil)))
      (pss_one (ps_setLc (i := 6) (own := [("state", 10)]) (g := gName 10) (tt := tYes) (by rfl) sc_right_numbers.nd rfl rfl (sw_true rfl rfl rfl (by decide +kernel)) (pi_listK (K := K) rfl (pv 6)) (blkOk_by (N := N_right_numbers) (sc := defScope s_right_numbers) (by decide +kernel)) (fun _ _ _ _ _ => pg_name (i := 10) sc_right_numbers.nd rfl (Or.inl rfl)) (fun _ _ _ _ _ => pts_nil) (fun _ _ _ _ _ => (pe_ix (ix_tupK (K := K) rfl) (pe_ix (ix_tupK (K := K) rfl) (pv 3) (pv 10) (fun _ _ => rfl)) (pv 8) (fun _ _ => rfl))))))))
      (pss_one (ps_ret (pv 7)))))))), ?_⟩
    -- steps, told
    refine ⟨.ref am, rfl, am, _, rfl, hSm, rfl, _, _, rfl, _, _, rfl, rfl, ?_⟩
    refine st_lit (σ' := [some (.ref am), some (.ref wa), some (.ref wb), some (.ref ax), some (.ref ay), none, none, none, none, none, none]) rfl ?_
    have rlt : M.led 0 way < M.st.length := M.led_lt ok n1 hway
    refine q_asg (v := nV (M.led 0 way)) (ev_callV (ea_cons (ev_var rfl) (ea_cons ev_c (ea_cons (ev_var rfl) ea_nil))) fun H1 e1 Q q => ⟨.ref am, M, 0, wa, way, rfl, hM.keep (TK.ex e1), ok, n1, ex_t e1 hwa, hway, q⟩) fun H1 e1 => ?_
    refine st_lit (σ' := [some (.ref am), some (.ref wa), some (.ref wb), some (.ref ax), some (.ref ay), some (nV (M.led 0 way)), none, none, none, none, none]) rfl ?_
    refine q_asgL (el_listRg (n := M.st.length) (ev_is (ev_lenT (ev_var rfl) (ex_t e1 hSx)) (by rw [hvx]; rfl)) (by omega)) fun ps H2 hps e2 h2 => ?_
    refine q_asgL (el_lst ea_nil (by show 0 ≤ 100000; decide)) fun pn H3 hpn e3 h3 => ?_
    refine st_lit (σ' := [some (.ref am), some (.ref wa), some (.ref wb), some (.ref ax), some (.ref ay), some (nV (M.led 0 way)), some (.ref ps), some (.ref pn), none, none, none]) rfl ?_
    have e03 := (e1.trans e2).trans e3
    have nps : H ps = none := fresh_back e1 hps
    have npn : H pn = none := fresh_back (e1.trans e2) hpn
    have nsn : pn ≠ ps := fun z => by rw [z, h2] at hpn; cases hpn
    have toldAt : ∀ (H' : Hp) (τ : L2.St) (i q a : Nat), Ex H H' → τ[4]? = some (some (.ref ay)) → τ[i]? = some (some (nV q)) → τ[8]? = some (some (nV a)) → q < M.st.length → a < M.k → Ev (tOp (rIxT K) (tOp (rIxT K) (tVar 4) (tVar i)) (tVar 8)) τ H' (nV (M.out q a)) := fun H' τ i q a e h0 hi h8 hs hak => by
      obtain ⟨ar, gr, hr1⟩ := tab_get hPy (M.ans_at ok hs)
      exact ev_op (ev_op (ev_var h0) (ev_var hi) (rv_ixT (ex_t e hSy) (atI_nat gr))) (ev_var h8) (rv_ixT (ex_t e hr1) (atI_nat (rowV_at (M.out_at ok hs hak))))
    have stepAt : ∀ (H' : Hp) (τ : L2.St) (i q a : Nat), Ex H H' → τ[3]? = some (some (.ref ax)) → τ[i]? = some (some (nV q)) → τ[8]? = some (some (nV a)) → q < M.st.length → a < M.k → Ev (tOp (rIxT K) (tOp (rIxT K) (tVar 3) (tVar i)) (tVar 8)) τ H' (nV (M.go q a)) := fun H' τ i q a e h0 hi h8 hs hak => by
      obtain ⟨ar, gr, hr1⟩ := tab_get hPx (M.row_at hs)
      exact ev_op (ev_op (ev_var h0) (ev_var hi) (rv_ixT (ex_t e hSx) (atI_nat gr))) (ev_var h8) (rv_ixT (ex_t e hr1) (atI_nat (rowV_at (M.go_at ok hs hak))))
    refine q_forT (ev_var rfl) (ex_t e03 hwb) (fun j σ' H' => ∃ (pst : Addr) (l8 l9 l10 : Option V), σ' = [some (.ref am), some (.ref wa), some (.ref wb), some (.ref ax), some (.ref ay), some (nV (M.led 0 way)), some (.ref pst), some (.ref pn), l8, l9, l10] ∧ Ex H H' ∧ H' pst = some (.lst (rowV ((List.range M.st.length).map fun s => M.led s (wd.take j)))) ∧ H' pn = some (.lst (rowV ((List.range j).map (numAt M (M.led 0 way) wd)))) ∧ H pst = none ∧ pn ≠ pst)
      (fun H4 e4 => ⟨ps, none, none, none, rfl, e03.trans e4, e4 _ _ (e3 _ _ (by rw [h2, List.take_zero]; exact congrArg (fun l => some (HO.lst (rowV l))) (List.map_id' _).symm)), e4 _ _ h3, nps, nsn⟩) (fun j σ' H' _ ⟨_, _, _, _, _, e, _⟩ => ex_t e hwb) ?_ ?_
    · rintro j z σ' H4 hz ⟨pst, l8, l9, l10, rfl, e4, hst, hpn4, nst, nns⟩
      obtain ⟨a, ha, rfl⟩ := map_of hz
      have hj : j < wd.length := (List.getElem?_eq_some_iff.mp ha).1
      have hak := hwd a (List.mem_of_getElem? ha)
      have hgd : wd.getD j 0 = a := M1.getD_of ha
      have lt : ∀ s, s < M.st.length → M.led s (wd.take j) < M.st.length := fun s hs => M.led_lt ok hs fun x hx => hwd x (List.mem_of_mem_take hx)
      refine g_lit (σ' := [some (.ref am), some (.ref wa), some (.ref wb), some (.ref ax), some (.ref ay), some (nV (M.led 0 way)), some (.ref pst), some (.ref pn), some (nV a), l9, l10]) rfl ?_
      have hgv : gvn (rowV ((List.range M.st.length).map fun s => M.led s (wd.take j))).length (fun i => nV (M.out (((List.range M.st.length).map fun s => M.led s (wd.take j)).getD i 0) a)) = rowV ((List.range M.st.length).map fun s => M.tld s wd j) := by
        rw [gvn_rowf _ fun q => M.out q a, List.map_map]
        refine congrArg rowV (List.map_congr_left fun s _ => ?_)
        show M.out (M.led s (wd.take j)) a = M.out (M.led s (wd.take j)) (wd.getD j 0)
        rw [hgd]
      have hsv : gvn (rowV ((List.range M.st.length).map fun s => M.led s (wd.take j))).length (fun i => nV (M.go (((List.range M.st.length).map fun s => M.led s (wd.take j)).getD i 0) a)) = rowV ((List.range M.st.length).map fun s => M.led s (wd.take (j + 1))) := by
        rw [gvn_rowf _ fun q => M.go q a, List.map_map]
        refine congrArg rowV (List.map_congr_left fun s _ => ?_)
        rw [M.led_take ha]
        rfl
      have mem : ∀ (i q : Nat), ((List.range M.st.length).map fun s => M.led s (wd.take j))[i]? = some q → q < M.st.length := fun i q h => by
        obtain ⟨s, hs, rfl⟩ := List.mem_map.mp (List.mem_of_getElem? h)
        exact lt s (List.mem_range.mp hs)
      refine q_asgL (el_lcLv (fun i => nV (M.out (((List.range M.st.length).map fun s => M.led s (wd.take j)).getD i 0) a)) (ev_var rfl) (sq_of hst) (by rw [rowV_len, List.length_map, List.length_range]; omega) (fun _ => rfl) (fun i z H9 e9 hz => ?_)) fun pg H5 hpg e5 h5 => ?_
      · obtain ⟨q, hq, rfl⟩ := map_of hz
        rw [M1.getD_of hq]
        exact toldAt H9 _ 10 q a (e4.trans e9) rfl rfl rfl (mem i q hq) hak
      rw [hgv] at h5
      refine st_lit (σ' := [some (.ref am), some (.ref wa), some (.ref wb), some (.ref ax), some (.ref ay), some (nV (M.led 0 way)), some (.ref pst), some (.ref pn), some (nV a), some (.ref pg), l10]) rfl ?_
      -- numbers.append(given.count(given[begun]))
      have hbeg : (rowV ((List.range M.st.length).map fun s => M.tld s wd j))[M.led 0 way]? = some (nV (M.tld (M.led 0 way) wd j)) := rowV_at (by rw [List.getElem?_map, List.getElem?_range rlt]; rfl)
      have evc : Ev (tBM K "list" (rCntF K) (tVar 9) (tCons (tOp (rIxL K) (tVar 9) (tVar 5)) tNil)) [some (.ref am), some (.ref wa), some (.ref wb), some (.ref ax), some (.ref ay), some (nV (M.led 0 way)), some (.ref pst), some (.ref pn), some (nV a), some (.ref pg), l10] H5 (nV (numAt M (M.led 0 way) wd j)) := fun H' e' Q' q' =>
        ⟨.ref pg, rfl, Or.inl ⟨rfl, _, sq_of (e' _ _ h5)⟩, .ref pg, rfl, nV (M.led 0 way), rfl, pg, _, _, _, rfl, rfl, sq_of (e' _ _ h5), atI_nat hbeg, pg, _, nV (M.tld (M.led 0 way) wd j), rfl, rfl, sq_of (e' _ _ h5), rfl, flat_row _, by
          rw [countV, count_map]
          exact q' H' (Ex.refl _)⟩
      refine q_app (l := pn) (xs := rowV ((List.range j).map (numAt M (M.led 0 way) wd))) (v := nV (numAt M (M.led 0 way) wd j)) (e5 _ _ hpn4) (ev_var rfl) evc (by rw [rowV_len, List.length_map, List.length_range]; omega) fun H6 e6 => ?_
      have e46 := e5.trans e6
      have x7 : Ex H (upd H6 pn (.lst (rowV ((List.range j).map (numAt M (M.led 0 way) wd)) ++ [nV (numAt M (M.led 0 way) wd j)]))) := Ex.mut (e4.trans e46) npn
      have hst7 : upd H6 pn (.lst (rowV ((List.range j).map (numAt M (M.led 0 way) wd)) ++ [nV (numAt M (M.led 0 way) wd j)])) pst = some (.lst (rowV ((List.range M.st.length).map fun s => M.led s (wd.take j)))) := by
        rw [upd_ne nns.symm]
        exact e46 _ _ hst
      have hpn7 : upd H6 pn (.lst (rowV ((List.range j).map (numAt M (M.led 0 way) wd)) ++ [nV (numAt M (M.led 0 way) wd j)])) pn = some (.lst (rowV ((List.range (j + 1)).map (numAt M (M.led 0 way) wd)))) := by
        rw [upd_same, List.range_succ, List.map_append, List.map_singleton, rowV_snoc]
      generalize upd H6 pn (.lst (rowV ((List.range j).map (numAt M (M.led 0 way) wd)) ++ [nV (numAt M (M.led 0 way) wd j)])) = H7 at x7 hst7 hpn7 ⊢
      refine s_asgL (el_lcLv (fun i => nV (M.go (((List.range M.st.length).map fun s => M.led s (wd.take j)).getD i 0) a)) (ev_var rfl) (sq_of hst7) (by rw [rowV_len, List.length_map, List.length_range]; omega) (fun _ => rfl) (fun i z H9 e9 hz => ?_)) fun pg2 H8 hpg2 e8 h8 => ?_
      · obtain ⟨q, hq, rfl⟩ := map_of hz
        rw [M1.getD_of hq]
        exact stepAt H9 _ 10 q a (x7.trans e9) rfl rfl rfl (mem i q hq) hak
      rw [hsv] at h8
      refine ⟨pg2, _, _, _, rfl, x7.trans e8, h8, e8 _ _ hpn7, fresh_back x7 hpg2, fun z => ?_⟩
      rw [← z, hpn7] at hpg2
      cases hpg2
    · rintro σ' H4 ⟨pst, l8, l9, l10, rfl, e4, hst, hpn4, nst, nns⟩
      rw [rowV_len] at hpn4
      exact s_ret (ev_var rfl) fun H5 e5 => k pn H5 npn (e4.trans e5) (e5 _ _ hpn4)
end

end Kx
namespace Kx
open PySem PySem.Spec PyProof.Rows L2

open Evl RZ
section
variable {P : Program} {w : World} {K : PySem.W.Frag} {mg : Str → Option Value} {base : Heap}
theorem yesT {σ : L2.St} {H : Hp} {A B : Hp → Prop} (h : A H) : tYes σ H fun b H3 => if b = true then A H3 else B H3 := by
  show if true = true then A H else B H
  rw [if_pos rfl]
  exact h
theorem el_lcR2v {ta : TA} {te : TE} {σ : L2.St} {H : Hp} {j : Nat} {vs : List Nat} {lo n : Nat} (v : Nat → V) (h : EvA ta σ H [.int (lo : Int), .int ((lo + n : Nat) : Int)]) (hn : lo + n ≤ 40000) (hw : ∀ x, wipe ((wipe σ vs).set j (some x)) vs = wipe σ vs)
    (he : ∀ (i : Nat) H1, Ex H H1 → i < n → Ev te ((wipe σ vs).set j (some (nV (lo + i)))) H1 (v i)) :
    EvL (tLc (iRng2 ta) (gName j) tYes te vs) σ H (gvn n v) := fun H0 e Q q => h H0 e _ fun H1 e1 => ⟨(lo : Int), ((lo + n : Nat) : Int), rfl, ⟨by omega, by omega, by omega, by omega⟩, fun Dl hD => by
    have hz : (((lo + n : Nat) : Int) - (lo : Int)).toNat = n := by omega
    rw [hz]
    exact lc_range (lo := (lo : Int)) (n := n) (Cv H1 v Dl) ⟨hD, Ex.new hD, upd_same⟩ (fun i H' hi p => by
      have z0 : (lo : Int) + (i : Int) = ((lo + i : Nat) : Int) := by omega
      show wipe ((wipe σ vs).set j (some (.int ((lo : Int) + (i : Int))))) vs = wipe σ vs ∧ tYes ((wipe σ vs).set j (some (.int ((lo : Int) + (i : Int))))) H' fun b H3 => if b = true then te ((wipe σ vs).set j (some (.int ((lo : Int) + (i : Int))))) H3 fun y H4 => ∃ acc, H4 Dl = some (.lst acc) ∧ acc.length < sizeLine ∧ Cv H1 v Dl (i + 1) (upd H4 Dl (.lst (acc ++ [y]))) else Cv H1 v Dl (i + 1) H3
      rw [z0]
      exact ⟨hw _, cv_turn p (by omega) (he i H1 (e.trans e1) hi)⟩) (fun H' p => q Dl H' (fresh_back e1 p.1) (e1.trans p.2.1) p.2.2)⟩
theorem ev_comb {ta tb : TE} {σ : L2.St} {H : Hp} {a b : Nat} (ha : Ev ta σ H (nV a)) (hb : Ev tb σ H (nV b)) (h1 : a ≤ 25) (h2 : b ≤ 25) : Ev (tCB rComb (tCons ta (tCons tb tNil))) σ H (nV (M1.cho a b)) := fun H1 e Q q =>
  ha H1 e _ fun H2 e2 => hb H2 (e.trans e2) _ fun H3 e3 => ⟨a, b, rfl, h1, h2, q H3 (e2.trans e3)⟩
theorem gvn_natC {n : Nat} (f : Nat → Nat) : gvn n (fun i => nV (f i)) = rowV ((List.range n).map f) := by
  unfold gvn rowV
  rw [List.map_map]
  rfl
theorem pow_at {n k i : Nat} (h : i ≤ k) : (rowV ((List.range (k + 1)).map (n ^ ·)))[i]? = some (nV (n ^ i)) := rowV_at (by rw [List.getElem?_map, List.getElem?_range (by omega)]; rfl)
def sp_tom : Sp := fun vs H Q _ => ∃ c R W : Nat, vs = [.int (c : Int), .int (R : Int), .int (W : Int)] ∧ c ≤ 25 ∧ R < 2 ^ 60 ∧ W < 2 ^ 60 ∧ (∀ j, j ≤ c → W ^ j < 2 ^ 60) ∧ ∀ H2, Ex H H2 → Q (nV (M1.tom R W c)) H2
theorem has_top_of_most (T : Txt K mg) (h_powers_of : Has P w K mg base "powers_of" 1 ["number", "greatest"] sp_powers) {f : Addr} {fd : FuncData} (F : Fun K "top_of_most" "top_of_most" s_top_of_most f fd) (g : mg "top_of_most" = some (.ref f)) (B : Binds K fd ["copies", "right", "wrong"] []) : Has P w K mg base "top_of_most" 2 ["copies", "right", "wrong"] sp_tom := by
  refine Has.mk' g F.kp B (F.ok sc_top_of_most (fun vs H Q E h => ?_) (fun cdv A outer s H vs Q E hr h => ?_))
  · obtain ⟨c, R, W, rfl, _⟩ := h
    rfl
  · obtain ⟨c, R, W, rfl, hc, hR, hW, hWp, k⟩ := h
    refine ⟨_, (pss_cons (ps_set (i := 3) sc_top_of_most.nd rfl (.inr rfl) (pe_has h_powers_of (hr.mono (by first | decide | exact Nat.le_refl _)) (by rfl) (pa_cons (pv 1) (pa_cons (pv 0) pa_nil))))
      (pss_cons (ps_set (i := 4) sc_top_of_most.nd rfl (.inr rfl) (pe_has h_powers_of (hr.mono (by first | decide | exact Nat.le_refl _)) (by rfl) (pa_cons (pv 2) (pa_cons (pv 0) pa_nil))))
      (pss_cons (ps_set (i := 5) sc_top_of_most.nd rfl (.inl rfl) (pe_op op_add (pe_op op_fdiv (pv 0) pe_int) pe_int))
      (pss_one (ps_ret (pe_callB (cr_sumK (K := K) rfl rfl) (by rfl) T.b_sum bt_sum (pa_cons (pe_lc (own := [("many", 6)]) (g := gName 6) (tt := tYes) (by rfl) sc_top_of_most.nd (pi_range2 (by rfl) T.b_range (pa_cons (pv 5) (pa_cons (pe_op op_add (pv 0) pe_int) pa_nil))) (blkOk_by (N := N_top_of_most) (sc := defScope s_top_of_most) (by decide +kernel)) (fun _ _ _ _ _ => pg_name (i := 6) sc_top_of_most.nd rfl (Or.inl rfl)) (fun _ _ _ _ _ => pts_nil) (fun _ _ _ _ _ => (pe_op op_mul (pe_op op_mul (pe_callBfun cr_comb (by rfl) T.m_comb (pa_cons (pv 0) (pa_cons (pv 6) pa_nil))) (pe_ix (ix_listK (K := K) rfl) (pv 3) (pv 6) (fun _ _ => rfl))) (pe_ix (ix_listK (K := K) rfl) (pv 4) (pe_op op_sub (pv 0) (pv 6)) (fun _ _ => rfl))))) pa_nil))))))), ?_⟩
    refine q_asgL (el_callL (ea_cons (ev_var rfl) (ea_cons (ev_var rfl) ea_nil)) fun H1 e1 Q q => ⟨R, c, rfl, by omega, by omega, q⟩) fun pr H1 hpr e1 h1 => ?_
    refine q_asgL (el_callL (ea_cons (ev_var rfl) (ea_cons (ev_var rfl) ea_nil)) fun H2 e2 Q q => ⟨W, c, rfl, by omega, by omega, q⟩) fun pw H2 hpw e2 h2 => ?_
    refine q_asg (v := nV (c / 2 + 1)) (ev_is (ev_op (x := nV (c / 2)) (ev_is (ev_op (ev_var rfl) ev_c (rv_I (C := CDiv) ⟨by decide, by decide⟩)) (congrArg V.int (Int.natCast_ediv c 2).symm)) ev_c rv_I0) rfl) fun H3 e3 => ?_
    have h13 := (e2.trans e3) _ _ h1
    have h23 := e3 _ _ h2
    refine st_lit (σ' := [some (.int (c : Int)), some (.int (R : Int)), some (.int (W : Int)), some (.ref pr), some (.ref pw), some (nV (c / 2 + 1)), none]) rfl ?_
    have big := el_lcR2v (σ := [some (.int (c : Int)), some (.int (R : Int)), some (.int (W : Int)), some (.ref pr), some (.ref pw), some (nV (c / 2 + 1)), none]) (H := H3) (j := 6) (vs := [6]) (lo := c / 2 + 1) (n := c + 1 - (c / 2 + 1)) (ta := tCons (tVar 5) (tCons (tOp (rI0 fun i j => .int (i + j)) (tVar 0) (tC (.int 1))) tNil))
      (te := tOp (rI CMul fun i j => .int (i * j)) (tOp (rI CMul fun i j => .int (i * j)) (tCB rComb (tCons (tVar 0) (tCons (tVar 6) tNil))) (tOp (rIxL K) (tVar 3) (tVar 6))) (tOp (rIxL K) (tVar 4) (tOp (rI0 fun i j => .int (i - j)) (tVar 0) (tVar 6))))
      (fun i => nV (M1.cho c (c / 2 + 1 + i) * R ^ (c / 2 + 1 + i) * W ^ (c - (c / 2 + 1 + i)))) (ea_cons (ev_var rfl) (ea_cons (ev_is (ev_op (x := nV c) (ev_var rfl) ev_c rv_I0) (congrArg V.int (by omega))) ea_nil)) (by omega) (fun _ => rfl) (fun i H4 e4 hi => ?_)
    · refine s_ret (v := nV (M1.tom R W c)) (ev_is (ev_sumL (by rw [gvn_natC] at big; exact big)) ?_) fun H4 e4 => k H4 ((e1.trans e2).trans (e3.trans e4))
      rw [M1.tom_sum, M1.sumTo_list]
    · have hlt := cho_max c (by omega) (c / 2 + 1 + i) (by omega)
      exact ev_mulR (ev_mulL (ev_comb (ev_var rfl) (ev_var rfl) (by omega) (by omega)) (ev_op (ev_var rfl) (ev_var rfl) (rv_ixL (sq_of (e4 _ _ h13)) (atI_nat (pow_at (by omega))))) (by omega)) (ev_op (ev_var rfl) (ev_subZ (a := c) (b := c / 2 + 1 + i) (ev_var rfl) (ev_var rfl) (by omega)) (rv_ixL (sq_of (e4 _ _ h23)) (atI_nat (pow_at (by omega))))) (by have := hWp (c - (c / 2 + 1 + i)) (by omega); omega)
/-! ### the tops, their bottom -/
def sp_chkch (K : PySem.W.Frag) : Sp := fun vs H Q _ => ∃ (a : Addr) (t b : Nat), vs = [.ref a] ∧ SqT K H a [nV t, nV b] ∧ 1 ≤ b ∧ b ≤ 100 ∧ t ≤ b ∧ ∀ H2, Ex H H2 → Q .non H2
theorem has_check_chance (T : Txt K mg) (h_is_tuple : Has P w K mg base "is_tuple" 1 ["value", "low", "high"] (sp_is_tuple K)) (h_is_integer : Has P w K mg base "is_integer" 1 ["value", "low", "high"] sp_is_integer) {f : Addr} {fd : FuncData} (F : Fun K "check_chance" "check_chance" s_check_chance f fd) (g : mg "check_chance" = some (.ref f)) (B : Binds K fd ["chance"] []) : Has P w K mg base "check_chance" 2 ["chance"] (sp_chkch K) := by
  refine Has.mk' g F.kp B (F.ok sc_check_chance (fun vs H Q E h => ?_) (fun cdv A outer s H vs Q E hr h => ?_))
  · obtain ⟨a, t, b, rfl, _⟩ := h
    rfl
  · obtain ⟨a, t, b, rfl, hS, b1, b2, ht, k⟩ := h
    refine ⟨_, (pss_cons (ps_if (pt_not (pt_val (pe_has h_is_tuple (hr.mono (by first | decide | exact Nat.le_refl _)) (by rfl) (pa_cons (pv 0) (pa_cons pe_int (pa_cons pe_int pa_nil))))))
      (pss_one (ps_never))
      pss_nil)
      (pss_cons (ps_asg (pv 0) (pg_tupK (K := K) (n := 2) rfl (by rfl) (pgs_cons (pg_name (i := 1) sc_check_chance.nd rfl (.inl rfl)) (pgs_cons (pg_name (i := 2) sc_check_chance.nd rfl (.inl rfl)) pgs_nil))))
      (pss_one (ps_if (PW.pt (pw_or (pt_not (pt_val (pe_has h_is_integer (hr.mono (by first | decide | exact Nat.le_refl _)) (by rfl) (pa_cons (pv 2) (pa_cons pe_int (pa_cons (pe_globI (by rfl) T.c_GREATEST_BOTTOM) pa_nil)))))) (pw_or1 (pt_not (pt_val (pe_has h_is_integer (hr.mono (by first | decide | exact Nat.le_refl _)) (by rfl) (pa_cons (pv 1) (pa_cons pe_int (pa_cons (pv 2) pa_nil)))))))))
      (pss_one (ps_never))
      pss_nil)))), ?_⟩
    refine q_when (b := false) (et_not (a := true) (et_B (ev_callV (ea_cons (ev_var rfl) (ea_cons ev_c (ea_cons ev_c ea_nil))) fun H1 e1 Q q => ⟨a, _, _, _, rfl, ex_t e1 hS, by show (2 : Int) ≤ 2; decide, by show (2 : Int) ≤ 2; decide, q⟩))) (fun z => by cases z) fun _ H1 e1 => ?_
    refine ⟨.ref a, rfl, a, _, rfl, ex_t e1 hS, rfl, _, _, rfl, _, _, rfl, rfl, ?_⟩
    refine st_lit (σ' := [some (.ref a), some (nV t), some (nV b)]) rfl ?_
    refine s_when (b := false) (et_or (a := false) (b := false) (et_not (a := true) (et_B (ev_callV (z := .bl true) (ea_cons (ev_var rfl) (ea_cons ev_c (ea_cons ev_c ea_nil))) fun H2 e2 Q q => ⟨_, _, _, rfl, fun H3 e3 => ?_⟩))) fun _ => et_not (a := true) (et_B (ev_callV (z := .bl true) (ea_cons (ev_var rfl) (ea_cons ev_c (ea_cons (ev_var rfl) ea_nil))) fun H2 e2 Q q => ⟨_, _, _, rfl, fun H3 e3 => ?_⟩))) (fun z => by cases z) fun _ H2 e2 => k H2 (e1.trans e2)
    · rw [decide_eq_true (by omega), decide_eq_true (by omega)]
      exact q H3 e3
    · rw [decide_eq_true (by omega), decide_eq_true (by omega)]
      exact q H3 e3
def topAt (M : M1.Mach) (c t b r : Nat) (wd : List Nat) (j : Nat) : Nat := M1.tom (b * M.st.length - t * (M.st.length - numAt M r wd j)) (t * (M.st.length - numAt M r wd j)) c
def TopIn (K : PySem.W.Frag) (H : Hp) (vs : List V) (M : M1.Mach) (c t b : Nat) (way wd : List Nat) : Prop := ∃ (v : V) (ch wa wb : Addr), vs = [v, .int (c : Int), .ref ch, .ref wa, .ref wb] ∧ MacAt K H v M.st M.an ∧ M.Ok ∧ 1 ≤ c ∧ c ≤ 25 ∧ SqT K H ch [nV t, nV b] ∧ 1 ≤ b ∧ b ≤ 100 ∧ t ≤ b ∧ (c ≤ 4 ∨ t = 0) ∧ SqT K H wa (rowV way) ∧ way.length ≤ 4000 ∧ M.Letters way ∧ SqT K H wb (rowV wd) ∧ wd.length ≤ 4000 ∧ M.Letters wd
def sp_tops (K : PySem.W.Frag) : Sp := fun vs H Q _ => ∃ (M : M1.Mach) (c t b : Nat) (way wd : List Nat), TopIn K H vs M c t b way wd ∧
  ∀ tt pl H2, H pl = none → Ex H H2 → SqT K H2 tt [.ref pl, nV ((b * M.st.length) ^ c)] → H2 pl = some (.lst (rowV ((List.range wd.length).map (topAt M c t b (M.led 0 way) wd)))) → Q (.ref tt) H2
theorem numAt_le (M : M1.Mach) (r : Nat) (wd : List Nat) (j : Nat) : numAt M r wd j ≤ M.st.length := by
  have := List.countP_le_length (p := fun s => decide (M.tld s wd j = M.tld r wd j)) (l := List.range M.st.length)
  rw [List.length_range] at this
  exact this
theorem w_small {t m c : Nat} (ht : t ≤ 100) (hm : m ≤ 6) (h : c ≤ 4 ∨ t = 0) : ∀ j, j ≤ c → (t * m) ^ j < 2 ^ 60 := fun j hj => by
  rcases h with h | h
  · have h1 : t * m ≤ 600 := Nat.le_trans (Nat.mul_le_mul ht hm) (by decide)
    have h2 : (t * m) ^ j ≤ 600 ^ j := Nat.pow_le_pow_left h1 j
    have h3 : 600 ^ j ≤ 600 ^ 4 := Nat.pow_le_pow_right (by decide) (by omega)
    exact Nat.lt_of_le_of_lt (Nat.le_trans h2 h3) (by decide)
  · subst h
    rw [Nat.zero_mul]
    cases j with
    | zero => decide
    | succ j => rw [Nat.zero_pow (Nat.succ_pos j)]; decide
theorem has_tops_and_bottom (T : Txt K mg) (h_check_machine : Has P w K mg base "check_machine" 5 ["machine"] (sp_check_machine K)) (h_check_number : Has P w K mg base "check_number" 2 ["value", "low", "high"] sp_chknum) (h_check_chance : Has P w K mg base "check_chance" 2 ["chance"] (sp_chkch K)) (h_check_word : Has P w K mg base "check_word" 5 ["machine", "word"] (sp_check_word K))
    (h_right_numbers : Has P w K mg base "right_numbers" 2 ["machine", "way", "word"] (sp_rightn K)) (h_top_of_most : Has P w K mg base "top_of_most" 2 ["copies", "right", "wrong"] sp_tom) (h_powers_of : Has P w K mg base "powers_of" 1 ["number", "greatest"] sp_powers)
    {f : Addr} {fd : FuncData} (F : Fun K "tops_and_bottom" "tops_and_bottom" s_tops_and_bottom f fd) (g : mg "tops_and_bottom" = some (.ref f)) (B : Binds K fd ["machine", "copies", "chance", "way", "word"] []) : Has P w K mg base "tops_and_bottom" 6 ["machine", "copies", "chance", "way", "word"] (sp_tops K) := by
  refine Has.mk' g F.kp B (F.ok sc_tops_and_bottom (fun vs H Q E h => ?_) (fun cdv A outer s H vs Q E hr h => ?_))
  · obtain ⟨M, c, t, b, way, wd, ⟨v, ch, wa, wb, rfl, _⟩, _⟩ := h
    rfl
  · obtain ⟨M, c, t, b, way, wd, ⟨v, ch, wa, wb, rfl, hM, ok, c1, c2, hch, b1, b2, htb, hct, hwa, hwal, hway, hwb, hwl, hwd⟩, k⟩ := h
    refine ⟨_, (pss_cons (ps_expr (pe_has h_check_machine (hr.mono (by first | decide | exact Nat.le_refl _)) (by rfl) (pa_cons (pv 0) pa_nil)))
      (pss_cons (ps_expr (pe_has h_check_number (hr.mono (by first | decide | exact Nat.le_refl _)) (by rfl) (pa_cons (pv 1) (pa_cons pe_int (pa_cons (pe_globI (by rfl) T.c_MOST_COPIES_BY_CHANCE) pa_nil)))))
      (pss_cons (ps_expr (pe_has h_check_chance (hr.mono (by first | decide | exact Nat.le_refl _)) (by rfl) (pa_cons (pv 2) pa_nil)))
      (pss_cons (ps_expr (pe_has h_check_word (hr.mono (by first | decide | exact Nat.le_refl _)) (by rfl) (pa_cons (pv 0) (pa_cons (pv 3) pa_nil))))
      (pss_cons (ps_expr (pe_has h_check_word (hr.mono (by first | decide | exact Nat.le_refl _)) (by rfl) (pa_cons (pv 0) (pa_cons (pv 4) pa_nil))))
      (pss_cons (ps_asg (pv 2) (pg_tupK (K := K) (n := 2) rfl (by rfl) (pgs_cons (pg_name (i := 5) sc_tops_and_bottom.nd rfl (.inl rfl)) (pgs_cons (pg_name (i := 6) sc_tops_and_bottom.nd rfl (.inl rfl)) pgs_nil))))
      (pss_cons (ps_set (i := 7) sc_tops_and_bottom.nd rfl (.inl rfl) (pe_callB (call_lenK (K := K) rfl) (by rfl) T.b_len bt_len (pa_cons (pe_ix (ix_tupK (K := K) rfl) (pv 0) pe_int (fun _ _ => rfl)) pa_nil)))
      (pss_cons (ps_set (i := 8) sc_tops_and_bottom.nd rfl (.inl rfl) (pe_op op_mul (pv 6) (pv 7)))
      (pss_cons (ps_set (i := 9) sc_tops_and_bottom.nd rfl (.inl rfl) (pe_lst pa_nil))
      (pss_cons (ps_for PassesOwn.never rfl (pi_listK (K := K) rfl (pe_has h_right_numbers (hr.mono (by first | decide | exact Nat.le_refl _)) (by rfl) (pa_cons (pv 0) (pa_cons (pv 3) (pa_cons (pv 4) pa_nil))))) (pg_name (i := 10) sc_tops_and_bottom.nd rfl (.inl rfl))
      (pss_cons (ps_set (i := 11) sc_tops_and_bottom.nd rfl (.inl rfl) (pe_op op_mul (pv 5) (pe_op op_sub (pv 7) (pv 10))))
      (pss_one (ps_expr (pe_bm PySem.F.plainAttrs_list PySem.F.slot_list_append PySem.F.type_list_append mt_append (pv 9) (pa_cons (pe_has h_top_of_most (hr.mono (by first | decide | exact Nat.le_refl _)) (by rfl) (pa_cons (pv 1) (pa_cons (pe_op op_sub (pv 8) (pv 11)) (pa_cons (pv 11) pa_nil)))) pa_nil))))))
      (pss_one (ps_ret (pe_tup (pa_cons (pv 9) (pa_cons (pe_ix (ix_listK (K := K) rfl) (pe_has h_powers_of (hr.mono (by first | decide | exact Nat.le_refl _)) (by rfl) (pa_cons (pv 8) (pa_cons (pv 1) pa_nil))) (pe_un un_neg pe_int) (fun _ _ => rfl)) pa_nil))))))))))))))), ?_⟩
    have n1 := ok.n1
    have n6 := ok.n6
    refine ⟨v, rfl, v, M, rfl, hM, ok, fun H1 e1 => ⟨.int (c : Int), rfl, _, _, _, rfl, by omega, by omega, fun H2 e2 => ⟨.ref ch, rfl, ch, t, b, rfl, ex_t (e1.trans e2) hch, b1, b2, htb, fun H3 e3 => ?_⟩⟩⟩
    have e03 := (e1.trans e2).trans e3
    refine ⟨v, rfl, .ref wa, rfl, v, M, wa, way, rfl, hM.keep (TK.ex e03), ok, ex_t e03 hwa, hwal, hway, fun H4 e4 => ⟨v, rfl, .ref wb, rfl, v, M, wb, wd, rfl, hM.keep (TK.ex (e03.trans e4)), ok, ex_t (e03.trans e4) hwb, hwl, hwd, fun H5 e5 => ?_⟩⟩
    have e05 := (e03.trans e4).trans e5
    -- top, bottom
    refine ⟨.ref ch, rfl, ch, _, rfl, ex_t e05 hch, rfl, _, _, rfl, _, _, rfl, rfl, ?_⟩
    refine st_lit (σ' := [some v, some (.int (c : Int)), some (.ref ch), some (.ref wa), some (.ref wb), some (nV t), some (nV b), none, none, none, none, none]) rfl ?_
    obtain ⟨am, x, y, rfl, hSm, ⟨ax, vx, rfl, hSx, hPx⟩, _⟩ := id hM
    have hvx : vx.length = M.st.length := Paired.length hPx
    refine q_asg (v := nV M.st.length) (ev_is (ev_lenT (ev_op (ev_var rfl) ev_c (rv_ixT (ex_t e05 hSm) (atI_nat (j := 0) rfl))) (ex_t e05 hSx)) (by rw [hvx]; rfl)) fun H6 e6 => ?_
    refine q_asg (v := nV (b * M.st.length)) (ev_mulL (ev_var rfl) (ev_var rfl) (by omega)) fun H7 e7 => ?_
    refine q_asgL (el_lst ea_nil (by show 0 ≤ 100000; decide)) fun pl H8 hpl e8 h8 => ?_
    refine st_lit (σ' := [some (.ref am), some (.int (c : Int)), some (.ref ch), some (.ref wa), some (.ref wb), some (nV t), some (nV b), some (nV M.st.length), some (nV (b * M.st.length)), some (.ref pl), none, none]) rfl ?_
    have e08 := ((e05.trans e6).trans e7).trans e8
    have npl : H pl = none := fresh_back ((e05.trans e6).trans e7) hpl
    have hbn : b * M.st.length ≤ 600 := Nat.le_trans (Nat.mul_le_mul b2 n6) (by decide)
    have nle := numAt_le M (M.led 0 way) wd
    -- for number in right_numbers(..)
    refine ⟨.ref am, rfl, .ref wa, rfl, .ref wb, rfl, .ref am, M, wa, wb, way, wd, rfl, hM.keep (TK.ex e08), ok, ex_t e08 hwa, hway, ex_t e08 hwb, hwl, hwd, fun pn H9 hpn e9 h9 => ⟨pn, rfl, ⟨_, sq_of h9⟩, for_list (K := K) (xs := rowV ((List.range wd.length).map (numAt M (M.led 0 way) wd))) (fun i σ' H' => ∃ l10 l11 : Option V, σ' = [some (.ref am), some (.int (c : Int)), some (.ref ch), some (.ref wa), some (.ref wb), some (nV t), some (nV b), some (nV M.st.length), some (nV (b * M.st.length)), some (.ref pl), l10, l11] ∧ Ex H H' ∧ H' pn = some (.lst (rowV ((List.range wd.length).map (numAt M (M.led 0 way) wd)))) ∧ H' pl = some (.lst (rowV ((List.range i).map (topAt M c t b (M.led 0 way) wd))))) ⟨none, none, rfl, e08.trans e9, h9, e9 _ _ h8⟩ (fun i σ' H' _ ⟨_, _, _, _, h, _⟩ => sq_of h) ?_ ?_⟩⟩
    · rintro i z σ' Ha hz ⟨l10, l11, rfl, ea, hpna, hpla⟩
      obtain ⟨q, hq, rfl⟩ := map_of hz
      have hi : i < wd.length := by
        have := (List.getElem?_eq_some_iff.mp hq).1
        rw [List.length_map, List.length_range] at this
        exact this
      rw [List.getElem?_map, List.getElem?_range hi] at hq
      have hq2 : q = numAt M (M.led 0 way) wd i := (Option.some.inj hq).symm
      have hqn : q ≤ M.st.length := hq2 ▸ nle i
      refine g_lit (σ' := [some (.ref am), some (.int (c : Int)), some (.ref ch), some (.ref wa), some (.ref wb), some (nV t), some (nV b), some (nV M.st.length), some (nV (b * M.st.length)), some (.ref pl), some (nV q), l11]) rfl ?_
      have npn : pn ≠ pl := fun z => by rw [z] at hpn; rw [h8] at hpn; cases hpn
      refine q_asg (v := nV (t * (M.st.length - q))) (ev_mulL (ev_var rfl) (ev_subZ (ev_var rfl) (ev_var rfl) hqn) (by omega)) fun Hb eb => ?_
      refine st_lit (σ' := [some (.ref am), some (.int (c : Int)), some (.ref ch), some (.ref wa), some (.ref wb), some (nV t), some (nV b), some (nV M.st.length), some (nV (b * M.st.length)), some (.ref pl), some (nV q), some (nV (t * (M.st.length - q)))]) rfl ?_
      have hW : t * (M.st.length - q) ≤ b * M.st.length := Nat.mul_le_mul htb (by omega)
      have hWp : ∀ j, j ≤ c → (t * (M.st.length - q)) ^ j < 2 ^ 60 := w_small (by omega) (by omega) hct
      refine s_app (v := nV (topAt M c t b (M.led 0 way) wd i)) (eb _ _ hpla) (ev_var rfl) (ev_callV (ea_cons (ev_var rfl) (ea_cons (ev_subZ (ev_var rfl) (ev_var rfl) hW) (ea_cons (ev_var rfl) ea_nil))) fun Hc ec Q q' => ⟨c, b * M.st.length - t * (M.st.length - q), t * (M.st.length - q), rfl, c2, by omega, by omega, hWp, fun Hd ed => ?_⟩) (by rw [rowV_len, List.length_map, List.length_range]; omega) fun Hc ec => ?_
      · have z := q' Hd ed
        unfold topAt at z
        rw [← hq2] at z
        exact z
      · refine ⟨_, _, rfl, Ex.mut ((ea.trans eb).trans ec) npl, ?_, ?_⟩
        · rw [upd_ne npn]; exact (eb.trans ec) _ _ hpna
        · rw [upd_same, List.range_succ, List.map_append, List.map_singleton, rowV_snoc]
    · rintro σ' Ha ⟨l10, l11, rfl, ea, hpna, hpla⟩
      rw [rowV_len, List.length_map, List.length_range] at hpla
      refine ⟨.ref pl, rfl, nV (b * M.st.length), rfl, nV c, rfl, b * M.st.length, c, rfl, by omega, by omega, fun pp Hb hpp eb hb => ⟨1, rfl, pp, _, -1, nV ((b * M.st.length) ^ c), rfl, rfl, sq_of hb, ?_, by show 2 ≤ sizeLine; decide, fun tt htt => k tt pl _ npl ((ea.trans eb).trans (Ex.new htt)) (SqT.of upd_same) (Ex.new htt _ _ (eb _ _ hpla))⟩⟩
      rw [List.range_succ, List.map_append, List.map_singleton, rowV_snoc]
      exact atI_last _ _
/-! ### chances, the mean -/
def sp_rc (K : PySem.W.Frag) : Sp := fun vs H Q _ => ∃ (M : M1.Mach) (c t b : Nat) (way wd : List Nat), TopIn K H vs M c t b way wd ∧
  ∀ pt refs H2, Ex H H2 → SqT K H2 pt refs → Paired (LowAt K H2) refs ((List.range wd.length).map fun j => M1.low (topAt M c t b (M.led 0 way) wd j) ((b * M.st.length) ^ c)) → Q (.ref pt) H2
theorem bot_ok {b n c : Nat} (b1 : 1 ≤ b) (b2 : b ≤ 100) (n1 : 0 < n) (n6 : n ≤ 6) (c2 : c ≤ 25) : 0 < (b * n) ^ c ∧ (b * n) ^ c < 2 ^ 1000 := by
  refine ⟨Nat.pow_pos (Nat.mul_pos b1 n1), ?_⟩
  have h1 : b * n ≤ 1024 := Nat.le_trans (Nat.mul_le_mul b2 n6) (by decide)
  have h2 : (b * n) ^ c ≤ 1024 ^ c := Nat.pow_le_pow_left h1 c
  have h3 : 1024 ^ c ≤ 1024 ^ 25 := Nat.pow_le_pow_right (by decide) c2
  exact Nat.lt_of_le_of_lt (Nat.le_trans h2 h3) (by decide)
theorem has_right_chances (T : Txt K mg) (h_tops_and_bottom : Has P w K mg base "tops_and_bottom" 6 ["machine", "copies", "chance", "way", "word"] (sp_tops K)) (h_lowest_terms : Has P w K mg base "lowest_terms" 1 ["top", "bottom"] (sp_low K)) {f : Addr} {fd : FuncData} (F : Fun K "right_chances" "right_chances" s_right_chances f fd) (g : mg "right_chances" = some (.ref f)) (B : Binds K fd ["machine", "copies", "chance", "way", "word"] []) : Has P w K mg base "right_chances" 7 ["machine", "copies", "chance", "way", "word"] (sp_rc K) := by
  refine Has.mk' g F.kp B (F.ok sc_right_chances (fun vs H Q E h => ?_) (fun cdv A outer s H vs Q E hr h => ?_))
  · obtain ⟨M, c, t, b, way, wd, ⟨v, ch, wa, wb, rfl, _⟩, _⟩ := h
    rfl
  · obtain ⟨M, c, t, b, way, wd, hin, k⟩ := h
    obtain ⟨v, ch, wa, wb, rfl, hM, ok, c1, c2, hch, b1, b2, htb, hct, hwa, hwal, hway, hwb, hwl, hwd⟩ := id hin
    obtain ⟨g1, g2⟩ := bot_ok b1 b2 ok.n1 ok.n6 c2
    refine ⟨_, (pss_cons (ps_asg (pe_has h_tops_and_bottom (hr.mono (by first | decide | exact Nat.le_refl _)) (by rfl) (pa_cons (pv 0) (pa_cons (pv 1) (pa_cons (pv 2) (pa_cons (pv 3) (pa_cons (pv 4) pa_nil)))))) (pg_tupK (K := K) (n := 2) rfl (by rfl) (pgs_cons (pg_name (i := 5) sc_right_chances.nd rfl (.inl rfl)) (pgs_cons (pg_name (i := 6) sc_right_chances.nd rfl (.inr rfl)) pgs_nil))))
      (pss_one (ps_ret (pe_callTy (call_tupleK (K := K) rfl) (by rfl) T.b_tuple bt_tuple (pa_cons (pe_lc (own := [("top", 7)]) (g := gName 7) (tt := tYes) (by rfl) sc_right_chances.nd (pi_listK (K := K) rfl (pv 5)) (blkOk_by (N := N_right_chances) (sc := defScope s_right_chances) (by decide +kernel)) (fun _ _ _ _ _ => pg_name (i := 7) sc_right_chances.nd rfl (Or.inl rfl)) (fun _ _ _ _ _ => pts_nil) (fun _ _ _ _ _ => (pe_has h_lowest_terms (hr.mono (by first | decide | exact Nat.le_refl _)) (by rfl) (pa_cons (pv 7) (pa_cons (pv 6) pa_nil))))) pa_nil))))), ?_⟩
    refine ⟨v, rfl, .int (c : Int), rfl, .ref ch, rfl, .ref wa, rfl, .ref wb, rfl, M, c, t, b, way, wd, hin, fun tt pl H1 hpl e1 htt hpl1 => ⟨tt, _, rfl, htt, rfl, _, _, rfl, _, _, rfl, rfl, ?_⟩⟩
    refine st_lit (σ' := [some v, some (.int (c : Int)), some (.ref ch), some (.ref wa), some (.ref wb), some (.ref pl), some (nV ((b * M.st.length) ^ c)), none]) rfl ?_
    refine ⟨.ref pl, rfl, pl, rfl, ⟨_, sq_of hpl1⟩, fun D hD => ?_⟩
    refine lc_list (K := K) (a := pl) (xs := rowV ((List.range wd.length).map (topAt M c t b (M.led 0 way) wd))) (fun i H' => Ex H1 H' ∧ ∃ refs, H' D = some (.lst refs) ∧ Paired (LowAt K H') refs ((List.range i).map fun j => M1.low (topAt M c t b (M.led 0 way) wd j) ((b * M.st.length) ^ c))) ⟨Ex.new hD, [], upd_same, .nil⟩ (fun i H' _ p => sq_of (p.1 _ _ hpl1)) ?_ ?_
    · rintro i z H2 hz ⟨e2, refs, hD2, hR2⟩
      obtain ⟨q, hq, rfl⟩ := map_of hz
      have hi : i < wd.length := by
        have := (List.getElem?_eq_some_iff.mp hq).1
        rw [List.length_map, List.length_range] at this
        exact this
      rw [List.getElem?_map, List.getElem?_range hi] at hq
      have hq2 : q = topAt M c t b (M.led 0 way) wd i := (Option.some.inj hq).symm
      have rl : refs.length = i := by rw [Paired.length hR2, List.length_map, List.length_range]
      refine ⟨rfl, yesT ⟨nV q, rfl, nV ((b * M.st.length) ^ c), rfl, q, (b * M.st.length) ^ c, rfl, g1, g2, fun t2 H3 e3 ht2 => ⟨refs, e3 _ _ hD2, sz_lt (by omega), Ex.mut (e2.trans e3) hD, refs ++ [.ref t2], upd_same, ?_⟩⟩⟩
      rw [List.range_succ, List.map_append, List.map_singleton, ← hq2]
      have tk : TK K H3 (upd H3 D (.lst (refs ++ [.ref t2]))) := TK.lst (e3 _ _ hD2)
      exact Paired.snoc (Paired.mapP hR2 fun _ _ q => q.keep ((TK.ex e3).trans tk)) ⟨t2, rfl, tk _ _ ht2⟩
    · rintro H2 ⟨e2, refs, hD2, hR2⟩
      rw [rowV_len, List.length_map, List.length_range] at hR2
      exact ⟨D, refs, rfl, .inl ⟨sq_of hD2, fun l hl => k l refs _ ((e1.trans e2).trans (Ex.new hl)) (SqT.of upd_same) (Paired.mapP hR2 fun _ _ q => q.keep (TK.ex (Ex.new hl)))⟩⟩
def sp_mm (K : PySem.W.Frag) : Sp := fun vs H Q _ => ∃ (M : M1.Mach) (c t b : Nat) (way wd : List Nat), TopIn K H vs M c t b way wd ∧
  ∀ pt H2, Ex H H2 → LowAt K H2 (.ref pt) (M1.low ((b * M.st.length) ^ c * wd.length - ((List.range wd.length).map (topAt M c t b (M.led 0 way) wd)).sum) ((b * M.st.length) ^ c)) → Q (.ref pt) H2
theorem topAt_le {M : M1.Mach} {c t b r : Nat} {wd : List Nat} {j : Nat} (htb : t ≤ b) : topAt M c t b r wd j ≤ (b * M.st.length) ^ c := by
  have h := M1.tom_le (b * M.st.length - t * (M.st.length - numAt M r wd j)) (t * (M.st.length - numAt M r wd j)) c
  have hW : t * (M.st.length - numAt M r wd j) ≤ b * M.st.length := Nat.mul_le_mul htb (by omega)
  rw [Nat.sub_add_cancel hW] at h
  exact h
theorem sum_le_mul {n B : Nat} {f : Nat → Nat} (h : ∀ j, f j ≤ B) : ((List.range n).map f).sum ≤ B * n := by
  induction n with
  | zero => simp
  | succ n ih =>
    rw [List.range_succ, List.map_append, List.sum_append, List.map_singleton, List.sum_singleton, Nat.mul_succ]
    exact Nat.add_le_add ih (h n)
theorem has_mean_misses (T : Txt K mg) (h_tops_and_bottom : Has P w K mg base "tops_and_bottom" 6 ["machine", "copies", "chance", "way", "word"] (sp_tops K)) (h_lowest_terms : Has P w K mg base "lowest_terms" 1 ["top", "bottom"] (sp_low K)) {f : Addr} {fd : FuncData} (F : Fun K "mean_misses" "mean_misses" s_mean_misses f fd) (g : mg "mean_misses" = some (.ref f)) (B : Binds K fd ["machine", "copies", "chance", "way", "word"] []) : Has P w K mg base "mean_misses" 7 ["machine", "copies", "chance", "way", "word"] (sp_mm K) := by
  refine Has.mk' g F.kp B (F.ok sc_mean_misses (fun vs H Q E h => ?_) (fun cdv A outer s H vs Q E hr h => ?_))
  · obtain ⟨M, c, t, b, way, wd, ⟨v, ch, wa, wb, rfl, _⟩, _⟩ := h
    rfl
  · obtain ⟨M, c, t, b, way, wd, hin, k⟩ := h
    obtain ⟨v, ch, wa, wb, rfl, hM, ok, c1, c2, hch, b1, b2, htb, hct, hwa, hwal, hway, hwb, hwl, hwd⟩ := id hin
    obtain ⟨g1, g2⟩ := bot_ok b1 b2 ok.n1 ok.n6 c2
    refine ⟨_, (pss_cons (ps_asg (pe_has h_tops_and_bottom (hr.mono (by first | decide | exact Nat.le_refl _)) (by rfl) (pa_cons (pv 0) (pa_cons (pv 1) (pa_cons (pv 2) (pa_cons (pv 3) (pa_cons (pv 4) pa_nil)))))) (pg_tupK (K := K) (n := 2) rfl (by rfl) (pgs_cons (pg_name (i := 5) sc_mean_misses.nd rfl (.inl rfl)) (pgs_cons (pg_name (i := 6) sc_mean_misses.nd rfl (.inl rfl)) pgs_nil))))
      (pss_one (ps_ret (pe_has h_lowest_terms (hr.mono (by first | decide | exact Nat.le_refl _)) (by rfl) (pa_cons (pe_op op_sub (pe_op op_mul (pv 6) (pe_callB (call_lenK (K := K) rfl) (by rfl) T.b_len bt_len (pa_cons (pv 5) pa_nil))) (pe_callB (cr_sumK (K := K) rfl rfl) (by rfl) T.b_sum bt_sum (pa_cons (pv 5) pa_nil))) (pa_cons (pv 6) pa_nil)))))), ?_⟩
    refine ⟨v, rfl, .int (c : Int), rfl, .ref ch, rfl, .ref wa, rfl, .ref wb, rfl, M, c, t, b, way, wd, hin, fun tt pl H1 hpl e1 htt hpl1 => ⟨tt, _, rfl, htt, rfl, _, _, rfl, _, _, rfl, rfl, ?_⟩⟩
    refine st_lit (σ' := [some v, some (.int (c : Int)), some (.ref ch), some (.ref wa), some (.ref wb), some (.ref pl), some (nV ((b * M.st.length) ^ c))]) rfl ?_
    have hle : ((List.range wd.length).map (topAt M c t b (M.led 0 way) wd)).sum ≤ (b * M.st.length) ^ c * wd.length := sum_le_mul fun j => topAt_le htb
    have evA : Ev (tOp (rI0 fun i j => .int (i - j)) (tOp (rI CMul fun i j => .int (i * j)) (tVar 6) (tCB (rLenS K) (tCons (tVar 5) tNil))) (tCB (rSum K) (tCons (tVar 5) tNil))) [some v, some (.int (c : Int)), some (.ref ch), some (.ref wa), some (.ref wb), some (.ref pl), some (nV ((b * M.st.length) ^ c))] H1 (nV ((b * M.st.length) ^ c * wd.length - ((List.range wd.length).map (topAt M c t b (M.led 0 way) wd)).sum)) :=
      ev_subZ (ev_mulR (b := wd.length) (ev_var rfl) (ev_is (ev_len (ev_var rfl) (sq_of hpl1)) (by rw [rowV_len, List.length_map, List.length_range]; rfl)) (by omega)) (ev_sumV (ev_var rfl) (sq_of hpl1)) hle
    exact evA H1 (Ex.refl _) _ fun H2 e2 => ⟨nV ((b * M.st.length) ^ c), rfl, _, _, rfl, g1, g2, fun t2 H3 e3 ht2 => k t2 H3 ((e1.trans e2).trans e3) ⟨t2, rfl, ht2⟩⟩
end

end Kx
namespace Kx
open PySem PySem.Spec PyProof.Rows L2

open Evl RZ
section
variable {P : Program} {w : World} {K : PySem.W.Frag} {mg : Str → Option Value} {base : Heap}
theorem q_par2 {ta : TA} {tz : TS} {D : Ends} {σ : L2.St} {H : Hp} {i j : Nat} {x y : V} (h : EvA ta σ H [x, y]) (k : ∀ H1, Ex H H1 → tz D ((σ.set i (some x)).set j (some y)) H1) : tSeq (tPar i j ta) tz D σ H := h H (Ex.refl H) _ fun H1 e => ⟨x, y, rfl, k H1 e⟩
theorem s_par2 {ta : TA} {D : Ends} {σ : L2.St} {H : Hp} {i j : Nat} {x y : V} (h : EvA ta σ H [x, y]) (k : ∀ H1, Ex H H1 → D.nx ((σ.set i (some x)).set j (some y)) H1) : tPar i j ta D σ H := h H (Ex.refl H) _ fun H1 e => ⟨x, y, rfl, k H1 e⟩
/-! ### the law's own lowest terms -/
theorem has_law_low (T : Txt K mg) {f : Addr} {fd : FuncData} (F : Fun K "_law_low" "_law_low" s_law_low f fd) (g : mg "_law_low" = some (.ref f)) (B : Binds K fd ["top", "bottom"] []) : Has P w K mg base "_law_low" 1 ["top", "bottom"] (sp_low K) := by
  refine Has.mk' g F.kp B (F.ok sc_law_low (fun vs H Q E h => ?_) (fun cdv A outer s H vs Q E hr h => ?_))
  · obtain ⟨a, b, rfl, _⟩ := h
    rfl
  · obtain ⟨a, b, rfl, hb, hb2, k⟩ := h
    refine ⟨_, (pss_cons (ps_par (i := 2) (j := 3) (by rfl) sc_law_low.nd rfl rfl (by decide) rfl rfl (pa_cons (pv 0) (pa_cons (pv 1) pa_nil)) (by rfl))
      (pss_cons (ps_while PassesOwn.never (pt_cmpR op_gt (pv 3) pe_int (nomark _))
      (pss_one (ps_par (i := 2) (j := 3) (by rfl) sc_law_low.nd rfl rfl (by decide) rfl rfl (pa_cons (pv 3) (pa_cons (pe_op op_mod (pe_callTy call_int1 (by rfl) T.b_int bt_int (pa_cons (pv 2) pa_nil)) (pv 3)) pa_nil)) (by rfl))))
      (pss_one (ps_ret (pe_tup (pa_cons (pe_op op_fdivW (pv 0) (pv 2)) (pa_cons (pe_op op_fdivW (pv 1) (pv 2)) pa_nil))))))), ?_⟩
    have g1 : 0 < Nat.gcd a b := Nat.gcd_pos_of_pos_right _ hb
    have g2 : Nat.gcd a b < 2 ^ 1000 := Nat.lt_of_le_of_lt (Nat.le_of_dvd hb (Nat.gcd_dvd_right a b)) hb2
    refine q_par2 (x := nV a) (y := nV b) (ea_cons (ev_var rfl) (ea_cons (ev_var rfl) ea_nil)) fun H1 e1 => ?_
    refine q_while (fun m σ' H' => ∃ x y : Nat, σ' = [some (nV a), some (nV b), some (nV x), some (nV y)] ∧ Nat.gcd x y = Nat.gcd a b ∧ Ex H H' ∧ m = y) b ⟨a, b, rfl, rfl, e1, rfl⟩ ?_
    rintro m σ' H2 ⟨x, y, rfl, hg, e2, rfl⟩
    refine ⟨decide ((0 : Int) < (m : Int)), et_test (ev_op (ev_var rfl) ev_c rv_I0), fun hb' H3 e3 => ?_, fun hb' H3 e3 => ?_⟩
    · have hpos : 0 < m := by have := of_decide_eq_true hb'; omega
      refine ⟨fun σ' H' => σ' = [some (nV a), some (nV b), some (nV m), some (nV (x % m))] ∧ Ex H H', fun σ2 H2' ⟨h1, h2⟩ => ⟨x % m, Nat.mod_lt _ hpos, m, x % m, h1, ?_, h2, rfl⟩, ?_⟩
      · rw [← hg, Nat.gcd_comm x m, Nat.gcd_rec m x, Nat.gcd_comm]
      · refine s_par2 (x := nV m) (y := nV (x % m)) (ea_cons (ev_var rfl) (ea_cons (ev_is (ev_op (ev_int (i := (x : Int)) (ev_var rfl)) (ev_var rfl) (rv_modN hpos)) (congrArg V.int (Int.natCast_emod x m).symm)) ea_nil)) fun H4 e4 => ⟨rfl, (e2.trans e3).trans e4⟩
    · have h0 : m = 0 := by have := of_decide_eq_false hb'; omega
      subst h0
      rw [Nat.gcd_zero_right] at hg
      subst hg
      exact s_retU (eu_tup (ea_cons (ev_divW (a := a) (ev_var rfl) (ev_var rfl) g1 g2) (ea_cons (ev_divW (a := b) (ev_var rfl) (ev_var rfl) g1 g2) ea_nil)) (by show 2 ≤ 100000; decide)) fun p H4 hp e4 h4 => k p H4 ((e2.trans e3).trans e4) (SqT.of h4)
theorem has_law_after (T : Txt K mg) {f : Addr} {fd : FuncData} (F : Fun K "_law_after" "_law_after" s_law_after f fd) (g : mg "_law_after" = some (.ref f)) (B : Binds K fd ["machine", "state", "word"] []) : Has P w K mg base "_law_after" 1 ["machine", "state", "word"] (sp_led K) := by
  refine Has.mk' g F.kp B (F.ok sc_law_after (fun vs H Q E h => ?_) (fun cdv A outer s H vs Q E hr h => ?_))
  · obtain ⟨v, M, i, b, r, rfl, _⟩ := h
    rfl
  · obtain ⟨v, M, i, b, r, rfl, ⟨a, x, y, rfl, hS, ⟨ax, vx, rfl, hSx, hPx⟩, hy⟩, ok, hi, hb, hk, k⟩ := h
    refine ⟨_, (pss_cons (ps_for PassesOwn.never rfl (pi_tupK (K := K) rfl (pv 2)) (pg_name (i := 3) sc_law_after.nd rfl (.inl rfl))
      (pss_one (ps_set (i := 1) sc_law_after.nd rfl (.inl rfl) (pe_ix (ix_tupK (K := K) rfl) (pe_ix (ix_tupK (K := K) rfl) (pe_ix (ix_tupK (K := K) rfl) (pv 0) pe_int (fun _ _ => rfl)) (pv 1) (fun _ _ => rfl)) (pv 3) (fun _ _ => rfl)))))
      (pss_one (ps_ret (pv 1)))), ?_⟩
    refine q_forT (ev_var rfl) hb (fun j σ' H' => ∃ l, σ' = [some (.ref a), some (.int (M.led i (r.take j) : Nat)), some (.ref b), l] ∧ Ex H H') (fun H1 e1 => ⟨none, rfl, e1⟩) (fun j σ' H' _ ⟨_, _, e⟩ => ex_t e hb) ?_ ?_
    · rintro j z σ' H' hz ⟨l, rfl, e⟩
      obtain ⟨c, hc, rfl⟩ := map_of hz
      have hlt : M.led i (r.take j) < M.st.length := M.led_lt ok hi fun x hx => hk x (List.mem_of_mem_take hx)
      have hcm := hk c (List.mem_of_getElem? hc)
      obtain ⟨ar, gr, hr1⟩ := tab_get hPx (M.row_at hlt)
      have hg := M.go_at ok hlt hcm
      refine s_asg (ev_op (ev_op (ev_op (ev_var rfl) ev_c (rv_ixT (ex_t e hS) (atI_nat (j := 0) rfl))) (ev_var rfl) (rv_ixT (ex_t e hSx) (atI_nat gr))) (ev_var rfl) (rv_ixT (ex_t e hr1) (atI_nat (rowV_at hg)))) fun H6 e8 => ?_
      refine ⟨some (nV c), ?_, e.trans e8⟩
      rw [M.led_take hc]
      rfl
    · rintro σ' H' ⟨l, rfl, e⟩
      rw [rowV_len, List.take_length]
      exact s_ret (ev_var rfl) fun H5 e6 => k H5 (e.trans e6)
/-! ### rows of states with their weights -/
def RwAt (K : PySem.W.Frag) (H : Hp) (v : V) (x : M1.Rw) : Prop := ∃ t a, v = .ref t ∧ SqT K H t [.ref a, nV x.2] ∧ SqT K H a (rowV x.1)
theorem RwAt.keep {H H' : Hp} (e : TK K H H') {v : V} {x : M1.Rw} (h : RwAt K H v x) : RwAt K H' v x := let ⟨t, a, h1, h2, h3⟩ := h; ⟨t, a, h1, e _ _ h2, e _ _ h3⟩
theorem rws_keep {H H' : Hp} (e : TK K H H') {vs : List V} {L : List M1.Rw} (h : Paired (RwAt K H) vs L) : Paired (RwAt K H') vs L := Paired.mapP h fun _ _ q => q.keep e
theorem catAA {H : Hp} {a b : Addr} {xs ys : List V} {Q : VK} (ha : SqT K H a xs) (hb : SqT K H b ys) (hz : xs.length + ys.length ≤ 90000) (q : ∀ p H', Ex H H' → SqT K H' p (xs ++ ys) → Q (.ref p) H') : rCatA K (.ref a) (.ref b) H Q :=
  ⟨a, b, xs, ys, rfl, rfl, ha, hb, by rw [sizeLine_eq]; omega, fun z => q b H (Ex.refl _) (by rw [z]; exact hb), fun _ z => q a H (Ex.refl _) (by rw [z, List.append_nil]; exact ha), fun _ _ p hp => q p _ (Ex.new hp) (SqT.of upd_same)⟩
theorem paired_appC {α β : Type} {F : α → β → Prop} : ∀ {a : List α} {b : List β} {c : List α} {d : List β}, Paired F a b → Paired F c d → Paired F (a ++ c) (b ++ d)
  | _, _, _, _, .nil, h => h
  | _, _, _, _, .cons h t, h2 => .cons h (paired_appC t h2)
/-- (some + (state,), number) -/
def EvRw (K : PySem.W.Frag) (te : TE) (σ : L2.St) (H : Hp) (x : M1.Rw) : Prop := ∀ H1, Ex H H1 → ∀ Q : VK, (∀ v H2, Ex H1 H2 → RwAt K H2 v x → Q v H2) → te σ H1 Q
theorem ev_rw {ta tb tc : TE} {σ : L2.St} {H : Hp} {a : Addr} {s : List Nat} {x n : Nat} (ha : Ev ta σ H (.ref a)) (hs : SqT K H a (rowV s)) (hl : s.length ≤ 100) (hb : Ev tb σ H (nV x)) (hc : Ev tc σ H (nV n)) : EvRw K (tTup (tCons (tOp (rCatA K) ta (tTup (tCons tb tNil))) (tCons tc tNil))) σ H (s ++ [x], n) := fun H1 e Q q =>
  ha H1 e _ fun H2 e2 => (eu_tup (ea_cons hb ea_nil) (by show 1 ≤ 100000; decide)) H2 (e.trans e2) _ fun p H3 hp e3 h3 => by
    have e13 := (e.trans e2).trans e3
    refine catAA (ex_t e13 hs) (SqT.of h3) (by rw [rowV_len]; show s.length + 1 ≤ 90000; omega) fun pc H4 e4 h4 => ?_
    refine hc H4 (e13.trans e4) _ fun H5 e5 => ⟨by show 2 ≤ sizeLine; decide, fun pt hpt => q _ _ ((((e2.trans e3).trans e4).trans e5).trans (Ex.new hpt)) ⟨pt, pc, rfl, SqT.of upd_same, ?_⟩⟩
    have z := ex_t (e5.trans (Ex.new (o := .tup [.ref pc, nV n]) hpt)) h4
    rw [show rowV s ++ [nV x] = rowV (s ++ [x]) from (rowV_snoc s x).symm] at z
    exact z
/-- [weight for some, weight in rows] -/
theorem el_weights {σ : L2.St} {H : Hp} {refs : List V} {L : List M1.Rw} {pd : Addr} {vs : List Nat} {i r u : Nat} (h8 : σ[i]? = some (some (.ref pd))) (hd : H pd = some (.lst refs)) (hR : Paired (RwAt K H) refs L) (hl : L.length ≤ 4000)
    (hset : ∀ b d : V, wipe (((wipe σ vs).set r (some b)).set u (some d)) vs = wipe σ vs ∧ (((wipe σ vs).set r (some b)).set u (some d))[u]? = some (some d)) :
    EvL (tLc (iList K (tVar i)) (gTup K 2 (gCons (gName r) (gCons (gName u) gNil))) tYes (tVar u) vs) σ H (rowV (L.map (·.2))) := fun H0 e Q q => by
  have hrl : refs.length = L.length := Paired.length hR
  refine ⟨.ref pd, h8, pd, rfl, ⟨refs, sq_of (e _ _ hd)⟩, fun D hD => lc_list (xs := refs) (fun j H' => Ex H0 H' ∧ H' D = some (.lst (rowV ((L.take j).map (·.2))))) ⟨Ex.new hD, upd_same⟩ (fun j H' _ p => sq_of (p.1 _ _ (e _ _ hd))) (fun j x H' hx p => ?_) (fun H' p => q D H' hD p.1 (by have z := p.2; rw [hrl, List.take_length] at z; exact z))⟩
  obtain ⟨e3, hD3⟩ := p
  obtain ⟨y, hy, hat⟩ := Paired.get' hR hx
  obtain ⟨t, a, rfl, h1, h2⟩ := hat.keep (TK.ex (e.trans e3))
  obtain ⟨q1, q2⟩ := hset (.ref a) (nV y.2)
  refine ⟨t, _, rfl, h1, rfl, _, _, rfl, _, _, rfl, rfl, q1, yesT ⟨_, q2, _, hD3, ?_, Ex.mut e3 hD, ?_⟩⟩
  · rw [rowV_len, List.length_map, List.length_take]
    exact sz_lt (by omega)
  · rw [upd_same, M1.take_succ' hy, List.map_append, List.map_singleton, rowV_snoc]
/-! ### pairs as data -/
def pairD (x : Nat × Nat) : PyData := .tuple [.int (x.1 : Int), .int (x.2 : Int)]
theorem dp_pair {H : Hp} {v : V} {x : Nat × Nat} (h : LowAt K H v x) : Dp K H v (pairD x) := by
  obtain ⟨t, rfl, h⟩ := h
  exact .tup h (.cons (.int _) (.cons (.int _) .nil))
theorem dp_pairs {H : Hp} : ∀ {vs : List V} {l : List (Nat × Nat)}, Paired (LowAt K H) vs l → DpAll K H vs (l.map pairD)
  | _, _, .nil => .nil
  | _, _, .cons h t => .cons (dp_pair h) (dp_pairs t)
theorem fine_pair {n : Nat} (x : Nat × Nat) : Fine (n + 1) (pairD x) := by
  refine ⟨by show 2 ≤ 40000; decide, fun y hy => ?_⟩
  rcases List.mem_cons.mp hy with e | hy
  · subst e; exact fine_int _ _
  · rw [List.mem_singleton.mp hy]; exact fine_int _ _
theorem fine_pairs {l : List (Nat × Nat)} (h : l.length ≤ 40000) : Fine 3 (.tuple (l.map pairD)) := by
  refine ⟨by rw [List.length_map]; exact h, fun x hx => ?_⟩
  obtain ⟨t, ht, rfl⟩ := List.mem_map.mp hx
  exact fine_pair t
theorem canLay_pairs : ∀ ps : List (Nat × Nat), PyData.canLayAll0 (ps.map pairD) = true
  | [] => by simp [PyData.canLayAll0]
  | p :: ps => by
    show (PyData.canLay0 (pairD p) && PyData.canLayAll0 (ps.map pairD)) = true
    rw [canLay_pairs ps]
    simp [pairD, PyData.canLay0, PyData.canLayAll0]
theorem depth_pairs : ∀ ps : List (Nat × Nat), PyData.depthAll (ps.map pairD) ≤ 1
  | [] => by simp [PyData.depthAll]
  | p :: ps => by
    show max (PyData.depth (pairD p)) (PyData.depthAll (ps.map pairD)) ≤ 1
    have := depth_pairs ps
    have h2 : PyData.depth (pairD p) ≤ 1 := by simp [pairD, PyData.depth, PyData.depthAll]
    omega
theorem eqv_pair (p : Nat × Nat) : PyData.eqv (pairD p) (pairD p) = true := by
  simp [pairD, PyData.eqv, PyData.eqvAll]
theorem eqv_pairs : ∀ ps : List (Nat × Nat), PyData.eqvAll (ps.map pairD) (ps.map pairD) = true
  | [] => by simp [PyData.eqvAll]
  | p :: ps => by
    show (PyData.eqv (pairD p) (pairD p) && PyData.eqvAll (ps.map pairD) (ps.map pairD)) = true
    rw [eqv_pairs ps, eqv_pair]
    rfl
theorem shaped_pairs (l : List (Nat × Nat)) : SeqAt.shaped (.tuple (l.map pairD)) = true := by
  unfold SeqAt.shaped
  have := depth_pairs l
  simp only [PyData.canLay0, PyData.depth, canLay_pairs]
  simp
  omega
theorem shaped_pair (p : Nat × Nat) : SeqAt.shaped (pairD p) = true := by
  unfold SeqAt.shaped pairD
  simp [PyData.canLay0, PyData.canLayAll0, PyData.depth, PyData.depthAll]
theorem rv_nePair {H : Hp} {v u : V} {x : Nat × Nat} (hp : LowAt K H v x) (hq : LowAt K H u x) : Evl.RV (rNeD K) v u H (.bl false) := fun H1 e Q k =>
  ⟨pairD x, pairD x, dp_pair (hp.keep (TK.ex e)), dp_pair (hq.keep (TK.ex e)), shaped_pair x, shaped_pair x, by
    rw [eqv_pair]
    exact k H1 (Ex.refl H1)⟩
theorem rv_eqPair {H : Hp} {v u : V} {x : Nat × Nat} (hp : LowAt K H v x) (hq : LowAt K H u x) : Evl.RV (rEqD K) v u H (.bl true) := fun H1 e Q k =>
  ⟨pairD x, pairD x, dp_pair (hp.keep (TK.ex e)), dp_pair (hq.keep (TK.ex e)), shaped_pair x, shaped_pair x, by
    rw [eqv_pair]
    exact k H1 (Ex.refl H1)⟩
theorem rv_nePairs {H : Hp} {p q : Addr} {vs us : List V} {l : List (Nat × Nat)} (hp : SqT K H p vs) (hP : Paired (LowAt K H) vs l) (hq : SqT K H q us) (hU : Paired (LowAt K H) us l) : Evl.RV (rNeD K) (.ref p) (.ref q) H (.bl false) := fun H1 e Q k =>
  ⟨.tuple (l.map pairD), .tuple (l.map pairD), .tup (ex_t e hp) (dp_pairs (Paired.mapP hP fun _ _ q => q.keep (TK.ex e))), .tup (ex_t e hq) (dp_pairs (Paired.mapP hU fun _ _ q => q.keep (TK.ex e))), shaped_pairs l, shaped_pairs l, by
    rw [PyData.eqv, eqv_pairs]
    exact k H1 (Ex.refl H1)⟩
theorem paired_rep {F : V → Nat × Nat → Prop} {v : V} {x : Nat × Nat} (h : F v x) : ∀ n, Paired F (List.replicate n v) (List.replicate n x)
  | 0 => .nil
  | n + 1 => .cons h (paired_rep h n)
theorem rep_one (n : Nat) (v : V) : (List.replicate n [v]).flatten = List.replicate n v := by
  induction n with
  | zero => rfl
  | succ n ih => rw [List.replicate_succ, List.flatten_cons, ih, List.replicate_succ]; rfl
/-- (a, b), written -/
theorem el_two {σ : L2.St} {H : Hp} {a b : Nat} : EvU (tTup (tCons (tC (.int (a : Int))) (tCons (tC (.int (b : Int))) tNil))) σ H [nV a, nV b] := eu_tup (ea_cons ev_c (ea_cons ev_c ea_nil)) (by show 2 ≤ 100000; decide)
end

end Kx
namespace Kx
open PySem PySem.Spec PyProof.Rows L2

open Evl RZ
set_option maxHeartbeats 1000000
section
variable {P : Program} {w : World} {K : PySem.W.Frag} {mg : Str → Option Value} {base : Heap}
def spLaw (K : PySem.W.Frag) : Sp := fun vs H Q _ => ∃ (a : Addr) (ns : List Int), vs = [.ref a] ∧ SqL K H a (ns.map V.int) ∧ ns.length ≤ 63 ∧ ∀ H', Q (.bl true) H'
def gSum (c : Nat) (g : Nat → Bool) (L : List M1.Rw) : Nat := (L.map fun x => if c < 2 * x.1.countP g then x.2 else 0).sum
theorem gSum_snoc (c : Nat) (g : Nat → Bool) (L : List M1.Rw) (x : M1.Rw) : gSum c g (L ++ [x]) = gSum c g L + if c < 2 * x.1.countP g then x.2 else 0 := by
  unfold gSum
  rw [List.map_append, List.sum_append, List.map_singleton, List.sum_singleton]
/-- machine[1][_law_after(machine, state, word[:at])][word[at]] -/
theorem ev_toldN {σ : L2.St} {H : Hp} {am wa : Addr} {M : M1.Mach} {wd : List Nat} {i s j : Nat} (hM : MacAt K H (.ref am) M.st M.an) (ok : M.Ok) (hw : SqT K H wa (rowV wd)) (hwd : M.Letters wd) (h2 : σ[2]? = some (some (.ref am))) (h7 : σ[7]? = some (some (.ref wa))) (h18 : σ[18]? = some (some (nV j))) (hi : σ[i]? = some (some (nV s))) (hs : s < M.st.length) (hj : j < wd.length) :
    Ev (tOp (rIxT K) (tOp (rIxT K) (tOp (rIxT K) (tVar 2) (tC (.int 1))) (tCall (sp_led K) [] E0 (tCons (tVar 2) (tCons (tVar i) (tCons (tSl (rSlT K) (tVar 7) tNoPart (tPart (tVar 18))) tNil))))) (tOp (rIxT K) (tVar 7) (tVar 18))) σ H (nV (M.tld s wd j)) := by
  obtain ⟨am', x, y, e0, hSm, hx, ⟨ay, vy, rfl, hSy, hPy⟩⟩ := id hM
  cases e0
  have hltk : ∀ x ∈ wd.take j, x < M.k := fun x hx => hwd x (List.mem_of_mem_take hx)
  have hl := M.led_lt ok hs hltk
  obtain ⟨a, ha⟩ : ∃ a, wd[j]? = some a := ⟨_, List.getElem?_eq_getElem hj⟩
  have hak := hwd a (List.mem_of_getElem? ha)
  obtain ⟨ar, gr, hr1⟩ := tab_get hPy (M.ans_at ok hl)
  have evL : Ev (tCall (sp_led K) [] E0 (tCons (tVar 2) (tCons (tVar i) (tCons (tSl (rSlT K) (tVar 7) tNoPart (tPart (tVar 18))) tNil)))) σ H (nV (M.led s (wd.take j))) := fun H1 e Q q =>
    ⟨.ref am, h2, nV s, hi, .ref wa, h7, nV j, h18, (j : Int), rfl, wa, _, rfl, ex_t e hw, (fun z => by have := z.2; rw [HT.sIx_nat, rowV_len] at this; omega), fun p hp => ⟨.ref am, M, s, p, wd.take j, rfl, hM.keep (TK.ex (e.trans (Ex.new hp))), ok, hs, by
      rw [cut_row (by omega)]
      exact SqT.of upd_same, hltk, fun H2 e2 => q H2 ((Ex.new hp).trans e2)⟩⟩
  refine ev_is (ev_op (ev_op (ev_op (ev_var h2) ev_c (rv_ixT hSm (atI_nat (j := 1) rfl))) evL (rv_ixT hSy (atI_nat gr))) (ev_op (ev_var h7) (ev_var h18) (rv_ixT hw (atI_nat (rowV_at ha)))) (rv_ixT hr1 (atI_nat (rowV_at (M.out_at ok hl hak))))) ?_
  unfold M1.Mach.tld
  rw [M1.getD_of ha]
theorem ok_law (T : Txt K mg) (h_right_chances : Has P w K mg base "right_chances" 7 ["machine", "copies", "chance", "way", "word"] (sp_rc K)) (h_mean_misses : Has P w K mg base "mean_misses" 7 ["machine", "copies", "chance", "way", "word"] (sp_mm K)) (h_law_taken : Has P w K mg base "_law_taken" 1 ["row", "many"] (sp_taken K)) (h_law_alike : Has P w K mg base "_law_alike" 4 ["found", "due"] (sp_la K 3)) (h_law_machine : Has P w K mg base "_law_machine" 2 ["row", "states", "letters"] (sp_lawmac K))
    (h_law_word : Has P w K mg base "_law_word" 2 ["row", "machine", "most"] (sp_lword2 K)) (h_law_low : Has P w K mg base "_law_low" 1 ["top", "bottom"] (sp_low K)) (h_law_after : Has P w K mg base "_law_after" 1 ["machine", "state", "word"] (sp_led K))
    {f : Addr} {fd : FuncData} (F : Fun K "law" "law" s_law f fd) : FnOk P w K mg base CX0 11 f fd ["script"] (spLaw K) := by
  refine F.ok sc_law (fun vs H Q E h => ?_) (fun cdv A outer s H vs Q E hr h => ?_)
  · obtain ⟨a, ns, rfl, _⟩ := h
    rfl
  · obtain ⟨scr, ns, rfl, hS, hl, q⟩ := h
    refine ⟨_, (pss_cons (ps_set (i := 1) sc_law.nd rfl (.inl rfl) (pe_lst (pa_cons (pv 0) (pa_cons pe_int (pa_cons pe_int (pa_cons pe_int pa_nil))))))
      (pss_cons (ps_asg (pe_tup (pa_cons (pe_has h_law_machine (hr.mono (by first | decide | exact Nat.le_refl _)) (by rfl) (pa_cons (pv 1) (pa_cons pe_int (pa_cons pe_int pa_nil)))) (pa_cons (pe_op op_add pe_int (pe_has h_law_taken (hr.mono (by first | decide | exact Nat.le_refl _)) (by rfl) (pa_cons (pv 1) (pa_cons pe_int pa_nil)))) pa_nil))) (pg_tupK (K := K) (n := 2) rfl (by rfl) (pgs_cons (pg_name (i := 2) sc_law.nd rfl (.inr rfl)) (pgs_cons (pg_name (i := 3) sc_law.nd rfl (.inl rfl)) pgs_nil))))
      (pss_cons (ps_set (i := 4) sc_law.nd rfl (.inl rfl) (pe_op op_add pe_int (pe_has h_law_taken (hr.mono (by first | decide | exact Nat.le_refl _)) (by rfl) (pa_cons (pv 1) (pa_cons pe_int pa_nil)))))
      (pss_cons (ps_asg (pe_tup (pa_cons (pe_tup (pa_cons (pe_has h_law_taken (hr.mono (by first | decide | exact Nat.le_refl _)) (by rfl) (pa_cons (pv 1) (pa_cons (pe_op op_add (pv 4) pe_int) pa_nil))) (pa_cons (pv 4) pa_nil))) (pa_cons (pe_has h_law_word (hr.mono (by first | decide | exact Nat.le_refl _)) (by rfl) (pa_cons (pv 1) (pa_cons (pv 2) (pa_cons pe_int pa_nil)))) (pa_cons (pe_has h_law_word (hr.mono (by first | decide | exact Nat.le_refl _)) (by rfl) (pa_cons (pv 1) (pa_cons (pv 2) (pa_cons pe_int pa_nil)))) pa_nil)))) (pg_tupK (K := K) (n := 3) rfl (by rfl) (pgs_cons (pg_name (i := 5) sc_law.nd rfl (.inr rfl)) (pgs_cons (pg_name (i := 6) sc_law.nd rfl (.inl rfl)) (pgs_cons (pg_name (i := 7) sc_law.nd rfl (.inr rfl)) pgs_nil)))))
      (pss_cons (ps_par (i := 8) (j := 9) (by rfl) sc_law.nd rfl rfl (by decide) rfl rfl (pa_cons (pe_callB (call_lenK (K := K) rfl) (by rfl) T.b_len bt_len (pa_cons (pe_ix (ix_tupK (K := K) rfl) (pv 2) pe_int (fun _ _ => rfl)) pa_nil)) (pa_cons (pe_has h_law_after (hr.mono (by first | decide | exact Nat.le_refl _)) (by rfl) (pa_cons (pv 2) (pa_cons pe_int (pa_cons (pv 6) pa_nil)))) pa_nil)) (by rfl))
      (pss_cons (ps_set (i := 10) sc_law.nd rfl (.inl rfl) (pe_lst (pa_cons (pe_tup (pa_cons (pe_tup pa_nil) (pa_cons pe_int pa_nil))) pa_nil)))
      (pss_cut (ps_for PassesOwn.never rfl (pi_range1 (by rfl) T.b_range (pa_cons (pv 3) pa_nil)) (pg_name (i := 11) sc_law.nd rfl (.inl rfl))
      (pss_cons (ps_set (i := 12) sc_law.nd rfl (.inl rfl) (pe_lst pa_nil))
      (pss_cut (ps_for PassesOwn.never rfl (pi_listK (K := K) rfl (pv 10)) (pg_tupK (K := K) (n := 2) rfl (by rfl) (pgs_cons (pg_name (i := 13) sc_law.nd rfl (.inr rfl)) (pgs_cons (pg_name (i := 14) sc_law.nd rfl (.inr rfl)) pgs_nil)))
      (pss_cons (ps_expr (pe_bm PySem.F.plainAttrs_list PySem.F.slot_list_append PySem.F.type_list_append mt_append (pv 12) (pa_cons (pe_tup (pa_cons (pe_op (op_catK (K := K) rfl) (pv 13) (pe_tup (pa_cons (pv 9) pa_nil))) (pa_cons (pe_op op_mul (pe_op op_mul (pv 14) (pe_op op_sub (pe_ix (ix_tupK (K := K) rfl) (pv 5) pe_int (fun _ _ => rfl)) (pe_ix (ix_tupK (K := K) rfl) (pv 5) pe_int (fun _ _ => rfl)))) (pv 8)) pa_nil))) pa_nil)))
      (pss_one (ps_set (i := 12) sc_law.nd rfl (.inl rfl) (pe_op op_cat (pv 12) (pe_lc (own := [("state", 22)]) (g := gName 22) (tt := tYes) (by rfl) sc_law.nd (pi_range1 (by rfl) T.b_range (pa_cons (pv 8) pa_nil)) (blkOk_by (N := N_law) (sc := defScope s_law) (by decide +kernel)) (fun _ _ _ _ _ => pg_name (i := 22) sc_law.nd rfl (Or.inl rfl)) (fun _ _ _ _ _ => pts_nil) (fun _ _ _ _ _ => (pe_tup (pa_cons (pe_op (op_catK (K := K) rfl) (pv 13) (pe_tup (pa_cons (pv 22) pa_nil))) (pa_cons (pe_op op_mul (pv 14) (pe_ix (ix_tupK (K := K) rfl) (pv 5) pe_int (fun _ _ => rfl))) pa_nil))))))))))
      (pss_one (ps_set (i := 10) sc_law.nd rfl (.inl rfl) (pv 12))))))
      (pss_cons (ps_set (i := 15) sc_law.nd rfl (.inl rfl) (pe_callB (cr_sumK (K := K) rfl rfl) (by rfl) T.b_sum bt_sum (pa_cons (pe_lc (own := [("some", 13), ("weight", 14)]) (tt := tYes) (by rfl) sc_law.nd (pi_listK (K := K) rfl (pv 10)) (blkOk_by (N := N_law) (sc := defScope s_law) (by decide +kernel)) (fun _ _ _ _ _ => (pg_tupK (K := K) (n := 2) rfl (by rfl) (pgs_cons (pg_name (i := 13) sc_law.nd rfl (.inl rfl)) (pgs_cons (pg_name (i := 14) sc_law.nd rfl (.inl rfl)) pgs_nil)))) (fun _ _ _ _ _ => pts_nil) (fun _ _ _ _ _ => (pv 14))) pa_nil)))
      (pss_cons (ps_par (i := 16) (j := 17) (by rfl) sc_law.nd rfl rfl (by decide) rfl rfl (pa_cons (pe_lst pa_nil) (pa_cons (pe_tup (pa_cons pe_int (pa_cons pe_int pa_nil))) pa_nil)) (by rfl))
      (pss_cut (ps_for PassesOwn.never rfl (pi_range1 (by rfl) T.b_range (pa_cons (pe_callB (call_lenK (K := K) rfl) (by rfl) T.b_len bt_len (pa_cons (pv 7) pa_nil)) pa_nil)) (pg_name (i := 18) sc_law.nd rfl (.inr rfl))
      (pss_cons (ps_par (i := 19) (j := 20) (by rfl) sc_law.nd rfl rfl (by decide) rfl rfl (pa_cons pe_int (pa_cons (pe_ix (ix_tupK (K := K) rfl) (pe_ix (ix_tupK (K := K) rfl) (pe_ix (ix_tupK (K := K) rfl) (pv 2) pe_int (fun _ _ => rfl)) (pe_has h_law_after (hr.mono (by first | decide | exact Nat.le_refl _)) (by rfl) (pa_cons (pv 2) (pa_cons (pv 9) (pa_cons (pe_slice (sl_tupK (K := K) rfl) (pv 7) po_none (po_some (pv 18))) pa_nil)))) (fun _ _ => rfl)) (pe_ix (ix_tupK (K := K) rfl) (pv 7) (pv 18) (fun _ _ => rfl)) (fun _ _ => rfl)) pa_nil)) (by rfl))
      (pss_cut (ps_for PassesOwn.never rfl (pi_listK (K := K) rfl (pv 10)) (pg_tupK (K := K) (n := 2) rfl (by rfl) (pgs_cons (pg_name (i := 13) sc_law.nd rfl (.inr rfl)) (pgs_cons (pg_name (i := 14) sc_law.nd rfl (.inr rfl)) pgs_nil)))
      (pss_cons (ps_setLc (i := 21) (own := [("state", 22)]) (g := gName 22) (tt := tYes) (by rfl) sc_law.nd rfl rfl (sw_true rfl rfl rfl (by decide +kernel)) (pi_tupK (K := K) rfl (pv 13)) (blkOk_by (N := N_law) (sc := defScope s_law) (by decide +kernel)) (fun _ _ _ _ _ => pg_name (i := 22) sc_law.nd rfl (Or.inl rfl)) (fun _ _ _ _ _ => pts_nil) (fun _ _ _ _ _ => (pe_ix (ix_tupK (K := K) rfl) (pe_ix (ix_tupK (K := K) rfl) (pe_ix (ix_tupK (K := K) rfl) (pv 2) pe_int (fun _ _ => rfl)) (pe_has h_law_after (hr.mono (by first | decide | exact Nat.le_refl _)) (by rfl) (pa_cons (pv 2) (pa_cons (pv 22) (pa_cons (pe_slice (sl_tupK (K := K) rfl) (pv 7) po_none (po_some (pv 18))) pa_nil)))) (fun _ _ => rfl)) (pe_ix (ix_tupK (K := K) rfl) (pv 7) (pv 18) (fun _ _ => rfl)) (fun _ _ => rfl))))
      (pss_one (ps_set (i := 19) sc_law.nd rfl (.inl rfl) (pe_op op_add (pv 19) (pe_ifExp (pt_cmpR op_gt (pe_op op_mul pe_int (pe_bm PySem.F.plainAttrs_list PySem.F.slot_list_count PySem.F.type_list_count (mt_countF (K := K) rfl) (pv 21) (pa_cons (pv 20) pa_nil))) (pv 3) (nomark _)) (pv 14) pe_int))))))
      (pss_cons (ps_expr (pe_bm PySem.F.plainAttrs_list PySem.F.slot_list_append PySem.F.type_list_append mt_append (pv 16) (pa_cons (pe_has h_law_low (hr.mono (by first | decide | exact Nat.le_refl _)) (by rfl) (pa_cons (pv 19) (pa_cons (pv 15) pa_nil))) pa_nil)))
      (pss_one (ps_set (i := 17) sc_law.nd rfl (.inl rfl) (pe_tup (pa_cons (pe_op op_add (pe_op op_mul (pe_ix (ix_tupK (K := K) rfl) (pv 17) pe_int (fun _ _ => rfl)) (pv 15)) (pe_op op_mul (pe_ix (ix_tupK (K := K) rfl) (pv 17) pe_int (fun _ _ => rfl)) (pe_op op_sub (pv 15) (pv 19)))) (pa_cons (pe_op op_mul (pe_ix (ix_tupK (K := K) rfl) (pv 17) pe_int (fun _ _ => rfl)) (pv 15)) pa_nil)))))))))
      (pss_cons (ps_if (pt_not (pt_val (pe_has h_law_alike (hr.mono (by first | decide | exact Nat.le_refl _)) (by rfl) (pa_cons (pe_has h_right_chances (hr.mono (by first | decide | exact Nat.le_refl _)) (by rfl) (pa_cons (pv 2) (pa_cons (pv 3) (pa_cons (pv 5) (pa_cons (pv 6) (pa_cons (pv 7) pa_nil)))))) (pa_cons (pe_callTy (call_tupleK (K := K) rfl) (by rfl) T.b_tuple bt_tuple (pa_cons (pv 16) pa_nil)) pa_nil)))))
      (pss_one (ps_ret pe_bl))
      pss_nil)
      (pss_cons (ps_if (pt_not (pt_val (pe_has h_law_alike (hr.mono (by first | decide | exact Nat.le_refl _)) (by rfl) (pa_cons (pe_has h_mean_misses (hr.mono (by first | decide | exact Nat.le_refl _)) (by rfl) (pa_cons (pv 2) (pa_cons (pv 3) (pa_cons (pv 5) (pa_cons (pv 6) (pa_cons (pv 7) pa_nil)))))) (pa_cons (pe_has h_law_low (hr.mono (by first | decide | exact Nat.le_refl _)) (by rfl) (pa_cons (pe_ix (ix_tupK (K := K) rfl) (pv 17) pe_int (fun _ _ => rfl)) (pa_cons (pe_ix (ix_tupK (K := K) rfl) (pv 17) pe_int (fun _ _ => rfl)) pa_nil))) pa_nil)))))
      (pss_one (ps_ret pe_bl))
      pss_nil)
      (pss_cons (ps_if (PW.pt (pw_or (pt_cmpR (op_neDK (K := K) rfl hr.units) (pe_has h_right_chances (hr.mono (by first | decide | exact Nat.le_refl _)) (by rfl) (pa_cons (pv 2) (pa_cons pe_int (pa_cons (pe_tup (pa_cons pe_int (pa_cons pe_int pa_nil))) (pa_cons (pv 6) (pa_cons (pv 7) pa_nil)))))) (pe_op (op_repV (K := K) rfl) (pe_tup (pa_cons (pe_tup (pa_cons pe_int (pa_cons pe_int pa_nil))) pa_nil)) (pe_callB (call_lenK (K := K) rfl) (by rfl) T.b_len bt_len (pa_cons (pv 7) pa_nil))) (nomark _)) (pw_or1 (pt_cmpR (op_neDK (K := K) rfl hr.units) (pe_has h_mean_misses (hr.mono (by first | decide | exact Nat.le_refl _)) (by rfl) (pa_cons (pv 2) (pa_cons pe_int (pa_cons (pe_tup (pa_cons pe_int (pa_cons pe_int pa_nil))) (pa_cons (pv 6) (pa_cons (pe_tup pa_nil) pa_nil)))))) (pe_tup (pa_cons pe_int (pa_cons pe_int pa_nil))) (nomark _)))))
      (pss_one (ps_ret pe_bl))
      pss_nil)
      (pss_one (ps_ret (pe_cmpR (op_eqDK (K := K) rfl hr.units) (pe_has h_mean_misses (hr.mono (by first | decide | exact Nat.le_refl _)) (by rfl) (pa_cons (pv 2) (pa_cons (pv 3) (pa_cons (pe_tup (pa_cons pe_int (pa_cons pe_int pa_nil))) (pa_cons (pv 6) (pa_cons (pv 7) pa_nil)))))) (pe_tup (pa_cons pe_int (pa_cons pe_int pa_nil))) (nomark _))))))))))))))))), ?_⟩
    refine ⟨.ref scr, rfl, by show 4 ≤ sizeLine; decide, fun row hrow => ?_⟩
    have R0 : RowOk K (upd H row (.lst [.ref scr, .int 0, .int 9734, .int 0])) row scr ns := by
      refine ⟨⟨0, 9734, 0, upd_same, by decide, by decide, by decide⟩, fun H' x => ?_, hl⟩
      rcases hS with (hS | ⟨o, hS⟩) | hS
      · exact .inl (.inl (x _ _ (ne_of_none hS hrow) (by rw [upd_ne (ne_of_none hS hrow)]; exact hS)))
      · exact .inl (.inr ⟨o, x _ _ (ne_of_none hS hrow) (by rw [upd_ne (ne_of_none hS hrow)]; exact hS)⟩)
      · exact .inr hS
    have tkx : ∀ {H' H'' : Hp}, RowOk K H' row scr ns → ExB row H' H'' → TK K H' H'' := fun R x => by
      obtain ⟨xs, hx⟩ := R.lst
      exact x.tk hx
    -- machine, copies
    refine ⟨.ref row, rfl, row, scr, ns, 3, 2, rfl, by decide, by decide, by decide, by decide, R0, fun v M H1 ok hn3 hk2 hM x1 R1 => ⟨.ref row, rfl, row, scr, ns, 4, rfl, by decide, by decide, R1, fun c0 H2 hc0 x2 R2 => ⟨1, (c0 : Int), rfl, rfl, by show 2 ≤ sizeLine; decide, fun tt htt => ?_⟩⟩⟩
    refine ⟨tt, _, rfl, SqT.of upd_same, rfl, _, _, rfl, _, _, rfl, rfl, ?_⟩
    obtain ⟨c, hc⟩ : ∃ c : Nat, c = 1 + c0 := ⟨_, rfl⟩
    have ec : (1 : Int) + (c0 : Int) = (c : Int) := by omega
    dsimp only
    rw [ec]
    have c1 : 1 ≤ c := by omega
    have c4 : c ≤ 4 := by omega
    have e23 : Ex H2 (upd H2 tt (.tup [v, .int (c : Int)])) := Ex.new htt
    have hM3 := (hM.keep (tkx R1 x2)).keep (TK.ex e23)
    have R3 := R2.ex e23
    generalize upd H2 tt (.tup [v, .int (c : Int)]) = H3 at e23 hM3 R3
    refine st_lit (σ' := [some (.ref scr), some (.ref row), some v, some (.int (c : Int)), none, none, none, none, none, none, none, none, none, none, none, none, none, none, none, none, none, none, none]) rfl ?_
    clear R0 hrow hS x1 x2 R1 R2 hM e23 ec hc hc0 htt
    -- low
    refine ⟨.ref row, rfl, row, scr, ns, 5, rfl, by decide, by decide, R3, fun b0 H4 hb0 x4 R4 => ⟨1, (b0 : Int), rfl, rfl, ?_⟩⟩
    obtain ⟨b, hb⟩ : ∃ b : Nat, b = 1 + b0 := ⟨_, rfl⟩
    have eb : (1 : Int) + (b0 : Int) = (b : Int) := by omega
    dsimp only
    rw [eb]
    have b1 : 1 ≤ b := by omega
    have b5 : b ≤ 5 := by omega
    have hM4 := hM3.keep (tkx R3 x4)
    refine g_lit (σ' := [some (.ref scr), some (.ref row), some v, some (.int (c : Int)), some (.int (b : Int)), none, none, none, none, none, none, none, none, none, none, none, none, none, none, none, none, none, none]) rfl ?_
    clear hM3 R3 x4 eb hb hb0
    -- chance, way, word
    refine ⟨.ref row, rfl, nV b, rfl, (b : Int), 1, rfl, rfl, row, scr, ns, b + 1, rfl, by omega, by omega, R4, fun t H5 ht x5 R5 => ⟨nV b, rfl, by show 2 ≤ sizeLine; decide, fun ch hch => ?_⟩⟩
    have e56 : Ex H5 (upd H5 ch (.tup [nV t, nV b])) := Ex.new hch
    have hch6 : SqT K (upd H5 ch (.tup [nV t, nV b])) ch [nV t, nV b] := SqT.of upd_same
    have hM6 := (hM4.keep (tkx R4 x5)).keep (TK.ex e56)
    have R6 := R5.ex e56
    generalize upd H5 ch (.tup [nV t, nV b]) = H6 at e56 hch6 hM6 R6
    refine ⟨.ref row, rfl, v, rfl, row, scr, ns, v, M, 3, rfl, hM6, ok, by decide, R6, fun wa way H7 x7 R7 hwa hwal hway => ⟨.ref row, rfl, v, rfl, row, scr, ns, v, M, 4, rfl, hM6.keep (tkx R6 x7), ok, by decide, R7, fun wb wd H8 x8 R8 hwb hwl hwd => ⟨by show 3 ≤ sizeLine; decide, fun t3 ht3 => ⟨t3, _, rfl, SqT.of upd_same, rfl, _, _, rfl, _, _, rfl, _, _, rfl, rfl, ?_⟩⟩⟩⟩
    have e89 : Ex H8 (upd H8 t3 (.tup [.ref ch, .ref wa, .ref wb])) := Ex.new ht3
    have t79 := (tkx R7 x8).trans (TK.ex (K := K) e89)
    have hM9 := (hM6.keep (tkx R6 x7)).keep t79
    have hch9 := t79 _ _ (tkx R6 x7 _ _ hch6)
    have hwa9 := t79 _ _ hwa
    have hwb9 := ex_t e89 hwb
    generalize upd H8 t3 (.tup [.ref ch, .ref wa, .ref wb]) = H9 at e89 t79 hM9 hch9 hwa9 hwb9
    refine st_lit (σ' := [some (.ref scr), some (.ref row), some v, some (.int (c : Int)), some (.int (b : Int)), some (.ref ch), some (.ref wa), some (.ref wb), none, none, none, none, none, none, none, none, none, none, none, none, none, none, none]) rfl ?_
    have htb : t ≤ b := by omega
    clear hM4 hM6 hch6 hwa hwb R4 R5 R6 R7 R8 x5 x7 x8 e56 e89 t79 hch ht3 tkx
    obtain ⟨am, x, y, rfl, hSm, ⟨ax, vx, rfl, hSx, hPx⟩, hy⟩ := id hM9
    have hvx : vx.length = M.st.length := Paired.length hPx
    have n1 := ok.n1
    have r0 : M.led 0 way < M.st.length := M.led_lt ok n1 hway
    -- many, right
    refine q_par2 (x := nV M.st.length) (y := nV (M.led 0 way)) (ea_cons (ev_is (ev_lenT (ev_op (ev_var rfl) ev_c (rv_ixT hSm (atI_nat (j := 0) rfl))) hSx) (by rw [hvx]; rfl)) (ea_cons (ev_callV (ea_cons (ev_var rfl) (ea_cons ev_c (ea_cons (ev_var rfl) ea_nil))) fun H' e' Q' q' => ⟨.ref am, M, 0, wa, way, rfl, hM9.keep (TK.ex e'), ok, n1, ex_t e' hwa9, hway, q'⟩) ea_nil)) fun Ha ea => ?_
    obtain ⟨m, hm⟩ : ∃ m, m = M.st.length := ⟨_, rfl⟩
    obtain ⟨r, hr'⟩ : ∃ r, r = M.led 0 way := ⟨_, rfl⟩
    refine st_lit (σ' := [some (.ref scr), some (.ref row), some (.ref am), some (.int (c : Int)), some (.int (b : Int)), some (.ref ch), some (.ref wa), some (.ref wb), some (nV m), some (nV r), none, none, none, none, none, none, none, none, none, none, none, none, none]) (by rw [hm, hr']; rfl) ?_
    have hMa := hM9.keep (TK.ex ea)
    have hcha := ex_t ea hch9
    have hwaa := ex_t ea hwa9
    have hwba := ex_t ea hwb9
    rw [← hr'] at r0
    have m3 : m ≤ 3 := by omega
    have rm : r < m := by omega
    clear hM9 hch9 hwa9 hwb9 ea hSm hSx hPx hy hvx
    -- rows = [((), 1)]
    refine ⟨by show 0 ≤ sizeLine; decide, fun p0 hp0 => ⟨by show 2 ≤ sizeLine; decide, fun p1 hp1 => ⟨by show 1 ≤ sizeLine; decide, fun p2 hp2 => ?_⟩⟩⟩
    have k2 := Ex.new (o := .lst [.ref p1]) hp2
    have k1 := (Ex.new (o := .tup [.ref p0, .int 1]) hp1).trans k2
    have eb : Ex Ha (upd (upd (upd Ha p0 (.tup [])) p1 (.tup [.ref p0, .int 1])) p2 (.lst [.ref p1])) := (Ex.new (o := .tup []) hp0).trans k1
    have hp2b : (upd (upd (upd Ha p0 (.tup [])) p1 (.tup [.ref p0, .int 1])) p2 (.lst [.ref p1])) p2 = some (.lst [.ref p1]) := upd_same
    have hRb : Paired (RwAt K (upd (upd (upd Ha p0 (.tup [])) p1 (.tup [.ref p0, .int 1])) p2 (.lst [.ref p1]))) [.ref p1] (M1.rws m r b t 0) := .cons ⟨p1, p0, rfl, ex_t k2 (SqT.of upd_same), ex_t k1 (SqT.of upd_same)⟩ .nil
    generalize upd (upd (upd Ha p0 (.tup [])) p1 (.tup [.ref p0, .int 1])) p2 (.lst [.ref p1]) = Hb at k2 k1 eb hp2b hRb
    refine g_lit (σ' := [some (.ref scr), some (.ref row), some (.ref am), some (.int (c : Int)), some (.int (b : Int)), some (.ref ch), some (.ref wa), some (.ref wb), some (nV m), some (nV r), some (.ref p2), none, none, none, none, none, none, none, none, none, none, none, none]) rfl ?_
    have hMb := hMa.keep (TK.ex eb)
    have hchb := ex_t eb hcha
    have hwab := ex_t eb hwaa
    have hwbb := ex_t eb hwba
    clear hMa hcha hwaa hwba k1 k2 hp0 hp1 hp2 eb
    have rlen : ∀ i, i ≤ c → (M1.rws m r b t i).length ≤ 256 := fun i hi => by
      rw [M1.rws_length]
      have h1 : (m + 1) ^ i ≤ 4 ^ i := Nat.pow_le_pow_left (by omega) i
      have h2 : 4 ^ i ≤ 4 ^ 4 := Nat.pow_le_pow_right (by decide) (by omega)
      exact Nat.le_trans h1 (Nat.le_trans h2 (by decide))
    -- for copy in range(copies)
    refine ⟨fun σ' H' => ∃ (pr : Addr) (refs : List V) (l11 l12 l13 l14 : Option V), σ' = [some (.ref scr), some (.ref row), some (.ref am), some (.int (c : Int)), some (.int (b : Int)), some (.ref ch), some (.ref wa), some (.ref wb), some (nV m), some (nV r), some (.ref pr), l11, l12, l13, l14, none, none, none, none, none, none, none, none] ∧ Ex Hb H' ∧ H' pr = some (.lst refs) ∧ Paired (RwAt K H') refs (M1.rws m r b t c), ?_, ?_⟩
    · refine s_forR1 (n := (c : Int)) (ea_cons (ev_var rfl) ea_nil) ⟨by omega, by omega⟩ (fun i σ' H' => ∃ (pr : Addr) (refs : List V) (l11 l12 l13 l14 : Option V), σ' = [some (.ref scr), some (.ref row), some (.ref am), some (.int (c : Int)), some (.int (b : Int)), some (.ref ch), some (.ref wa), some (.ref wb), some (nV m), some (nV r), some (.ref pr), l11, l12, l13, l14, none, none, none, none, none, none, none, none] ∧ Ex Hb H' ∧ H' pr = some (.lst refs) ∧ Paired (RwAt K H') refs (M1.rws m r b t i)) (fun H1 e1 => ⟨p2, _, none, none, none, none, rfl, e1, e1 _ _ hp2b, rws_keep (TK.ex e1) hRb⟩) ?_ ?_
      · rintro i σ' H1 hi ⟨pr, refs, l11, l12, l13, l14, rfl, e1, hpr, hR⟩
        have hic : i < c := by omega
        have rl := rlen i (by omega)
        have hrl : refs.length = (M1.rws m r b t i).length := Paired.length hR
        refine q_asgL (el_lst ea_nil (by show 0 ≤ 100000; decide)) fun pl H2 hpl e2 h2 => ?_
        refine st_lit (σ' := [some (.ref scr), some (.ref row), some (.ref am), some (.int (c : Int)), some (.int (b : Int)), some (.ref ch), some (.ref wa), some (.ref wb), some (nV m), some (nV r), some (.ref pr), some (.int (i : Int)), some (.ref pl), l13, l14, none, none, none, none, none, none, none, none]) rfl ?_
        have e02 := e1.trans e2
        have npl : Hb pl = none := fresh_back e1 hpl
        have nlr : pl ≠ pr := fun z => by rw [z, hpr] at hpl; cases hpl
        -- for some, weight in rows
        refine ⟨fun σ' H' => ∃ (pl : Addr) (refs2 : List V) (l13 l14 : Option V), σ' = [some (.ref scr), some (.ref row), some (.ref am), some (.int (c : Int)), some (.int (b : Int)), some (.ref ch), some (.ref wa), some (.ref wb), some (nV m), some (nV r), some (.ref pr), some (.int (i : Int)), some (.ref pl), l13, l14, none, none, none, none, none, none, none, none] ∧ Ex Hb H' ∧ H' pl = some (.lst refs2) ∧ Paired (RwAt K H') refs2 (M1.rws m r b t (i + 1)), ?_, ?_⟩
        · refine s_forL (a := pr) (xs := refs) (ev_var rfl) (sq_of (e2 _ _ hpr)) (fun j σ' H' => ∃ (pl : Addr) (refs2 : List V) (l13 l14 : Option V), σ' = [some (.ref scr), some (.ref row), some (.ref am), some (.int (c : Int)), some (.int (b : Int)), some (.ref ch), some (.ref wa), some (.ref wb), some (nV m), some (nV r), some (.ref pr), some (.int (i : Int)), some (.ref pl), l13, l14, none, none, none, none, none, none, none, none] ∧ Ex Hb H' ∧ H' pr = some (.lst refs) ∧ Paired (RwAt K H') refs (M1.rws m r b t i) ∧ H' pl = some (.lst refs2) ∧ Hb pl = none ∧ pl ≠ pr ∧ Paired (RwAt K H') refs2 (((M1.rws m r b t i).take j).flatMap (M1.grow m r b t))) (fun H3 e3 => ⟨pl, [], l13, l14, rfl, e02.trans e3, e3 _ _ (e2 _ _ hpr), rws_keep (TK.ex (e2.trans e3)) hR, e3 _ _ h2, npl, nlr, .nil⟩) (fun j σ' H' _ ⟨_, _, _, _, _, _, h, _⟩ => sq_of h) ?_ ?_
          · rintro j z σ' H3 hz ⟨pl, refs2, l13, l14, rfl, e3, hpr3, hR3, hpl3, npl, nlr, hR23⟩
            obtain ⟨x, hx, hat⟩ := Paired.get' hR3 hz
            obtain ⟨tx, ax', rfl, hx1, hx2⟩ := hat
            have xlen : x.1.length = i := M1.rws_len x (List.mem_of_getElem? hx)
            refine ⟨tx, _, rfl, hx1, rfl, _, _, rfl, _, _, rfl, rfl, ?_⟩
            refine st_lit (σ' := [some (.ref scr), some (.ref row), some (.ref am), some (.int (c : Int)), some (.int (b : Int)), some (.ref ch), some (.ref wa), some (.ref wb), some (nV m), some (nV r), some (.ref pr), some (.int (i : Int)), some (.ref pl), some (.ref ax'), some (nV x.2), none, none, none, none, none, none, none, none]) rfl ?_
            have hch3 : ∀ H', Ex H3 H' → SqT K H' ch [nV t, nV b] := fun H' e => ex_t (e3.trans e) hchb
            have rl23 : refs2.length ≤ 256 * 5 := by
              rw [Paired.length hR23, M1.flat_len (M1.grow_len m r b t)]
              exact Nat.mul_le_mul (Nat.le_trans (by rw [List.length_take]; omega) rl) (by omega)
            -- longer.append(..)
            refine ⟨.ref pl, rfl, Or.inl ⟨rfl, refs2, sq_of hpl3⟩, ?_⟩
            refine (ev_rw (s := x.1) (x := r) (n := x.2 * (b - t) * m) (ev_var rfl) hx2 (by omega) (ev_var rfl) (ev_mulR (ev_mulR (ev_var rfl) (ev_subZ (ev_op (ev_var rfl) ev_c (rv_ixT (hch3 H3 (Ex.refl _)) (atI_nat (j := 1) rfl))) (ev_op (ev_var rfl) ev_c (rv_ixT (hch3 H3 (Ex.refl _)) (atI_nat (j := 0) rfl))) htb) (by omega)) (ev_var rfl) (by omega))) H3 (Ex.refl _) _ fun vv H4 e4 hv4 => ⟨pl, refs2, vv, rfl, rfl, e4 _ _ hpl3, sz_lt (by omega), ?_⟩
            have x5 : Ex Hb (upd H4 pl (.lst (refs2 ++ [vv]))) := Ex.mut (e3.trans e4) npl
            have tk5 : TK K H4 (upd H4 pl (.lst (refs2 ++ [vv]))) := TK.lst (e4 _ _ hpl3)
            have tk35 := (TK.ex (K := K) e4).trans tk5
            have hpr5 : upd H4 pl (.lst (refs2 ++ [vv])) pr = some (.lst refs) := by rw [upd_ne nlr.symm]; exact e4 _ _ hpr3
            have hpl5 : upd H4 pl (.lst (refs2 ++ [vv])) pl = some (.lst (refs2 ++ [vv])) := upd_same
            have hv5 := hv4.keep tk5
            generalize upd H4 pl (.lst (refs2 ++ [vv])) = H5 at x5 tk5 tk35 hpr5 hpl5 hv5 ⊢
            have hx5 := tk35 _ _ hx2
            have hch5 : ∀ H', Ex H5 H' → SqT K H' ch [nV t, nV b] := fun H' e => ex_t (x5.trans e) hchb
            have hRx := Paired.snoc (rws_keep tk35 hR23) hv5
            have hR5 := rws_keep tk35 hR3
            -- longer = longer + [..]
            dsimp only
            refine ⟨.ref pl, rfl, nV m, rfl, (m : Int), rfl, by omega, by omega, fun D hD => ?_⟩
            rw [Int.toNat_natCast]
            refine lc_range (lo := 0) (n := m) (fun s H' => Ex H5 H' ∧ ∃ rs, H' D = some (.lst rs) ∧ Paired (RwAt K H') rs ((List.range s).map fun s => (x.1 ++ [s], x.2 * t))) ⟨Ex.new hD, [], upd_same, .nil⟩ ?_ ?_
            · rintro s H6 hs ⟨e6, rs, hD6, hRs⟩
              have rsl : rs.length = s := by rw [Paired.length hRs, List.length_map, List.length_range]
              rw [Int.zero_add]
              refine ⟨rfl, yesT ?_⟩
              refine (ev_rw (s := x.1) (x := s) (n := x.2 * t) (ev_var rfl) (ex_t e6 hx5) (by omega) (ev_var rfl) (ev_mulR (ev_var rfl) (ev_op (ev_var rfl) ev_c (rv_ixT (hch5 H6 e6) (atI_nat (j := 0) rfl))) (by omega))) H6 (Ex.refl _) _ fun v7 H7 e7 hv7 => ⟨rs, e7 _ _ hD6, sz_lt (by omega), Ex.mut (e6.trans e7) hD, rs ++ [v7], upd_same, ?_⟩
              have tk : TK K H7 (upd H7 D (.lst (rs ++ [v7]))) := TK.lst (e7 _ _ hD6)
              rw [List.range_succ, List.map_append, List.map_singleton]
              exact Paired.snoc (rws_keep ((TK.ex e7).trans tk) hRs) (hv7.keep tk)
            · rintro H6 ⟨e6, rs, hD6, hRs⟩
              have rsl : rs.length = m := by rw [Paired.length hRs, List.length_map, List.length_range]
              refine ⟨pl, D, _, rs, rfl, rfl, e6 _ _ hpl5, hD6, by rw [sizeLine_eq, List.length_append, rsl]; show refs2.length + 1 + m ≤ _; omega, fun pz hpz => ?_⟩
              have e7 : Ex H5 (upd H6 pz (.lst (refs2 ++ [vv] ++ rs))) := e6.trans (Ex.new hpz)
              refine ⟨pz, _, _, _, rfl, x5.trans e7, e7 _ _ hpr5, rws_keep (TK.ex e7) hR5, upd_same, fresh_back (x5.trans e6) hpz, fun z => ?_, ?_⟩
              · rw [z, e6 _ _ hpr5] at hpz
                cases hpz
              · rw [M1.take_succ' hx, List.flatMap_append, List.flatMap_singleton, show M1.grow m r b t x = [(x.1 ++ [r], x.2 * (b - t) * m)] ++ (List.range m).map (fun s => (x.1 ++ [s], x.2 * t)) from rfl, ← List.append_assoc]
                exact paired_appC (rws_keep (TK.ex e7) hRx) (rws_keep (TK.ex (Ex.new hpz)) hRs)
          · rintro σ' H3 ⟨pl, refs2, l13, l14, rfl, e3, hpr3, hR3, hpl3, npl, nlr, hR23⟩
            rw [hrl, List.take_length] at hR23
            exact ⟨pl, refs2, _, _, rfl, e3, hpl3, hR23⟩
        · rintro σ' H3 ⟨pl, refs2, l13, l14, rfl, e3, hpl3, hR23⟩
          exact s_asg (ev_var rfl) fun H4 e4 => ⟨pl, refs2, _, _, _, _, rfl, e3.trans e4, e4 _ _ hpl3, rws_keep (TK.ex e4) hR23⟩
      · rintro σ' H1 ⟨pr, refs, l11, l12, l13, l14, rfl, e1, hpr, hR⟩
        rw [Int.toNat_natCast] at hR
        exact ⟨pr, refs, _, _, _, _, rfl, e1, hpr, hR⟩
    rintro σ' Hc ⟨pr, refs, l11, l12, l13, l14, rfl, ec, hpr, hR⟩
    have rl := rlen c (Nat.le_refl _)
    have hMc := hMb.keep (TK.ex ec)
    have hchc := ex_t ec hchb
    have hwac := ex_t ec hwab
    have hwbc := ex_t ec hwbb
    clear hMb hchb hwab hwbb hp2b hRb ec rlen
    -- whole
    have hwh : ((M1.rws m r b t c).map (·.2)).sum = (b * m) ^ c := M1.rws_whole htb
    refine q_asg (v := nV ((b * m) ^ c)) (ev_is (ev_sumL (el_weights rfl hpr hR (by omega) fun _ _ => ⟨rfl, rfl⟩)) (by rw [hwh])) fun Hd ed => ?_
    refine st_lit (σ' := [some (.ref scr), some (.ref row), some (.ref am), some (.int (c : Int)), some (.int (b : Int)), some (.ref ch), some (.ref wa), some (.ref wb), some (nV m), some (nV r), some (.ref pr), l11, l12, l13, l14, some (nV ((b * m) ^ c)), none, none, none, none, none, none, none]) rfl ?_
    have hMd := hMc.keep (TK.ex ed)
    have hchd := ex_t ed hchc
    have hwad := ex_t ed hwac
    have hwbd := ex_t ed hwbc
    have hprd := ed _ _ hpr
    have hRd := rws_keep (TK.ex ed) hR
    clear hMc hchc hwac hwbc hpr hR ed
    have hm6 : M.st.length ≤ 6 := by omega
    obtain ⟨wp, ww⟩ : 0 < (b * m) ^ c ∧ (b * m) ^ c < 2 ^ 60 := by
      refine ⟨Nat.pow_pos (Nat.mul_pos b1 (by omega)), ?_⟩
      have h1 : b * m ≤ 16 := Nat.le_trans (Nat.mul_le_mul b5 m3) (by decide)
      have h2 : (b * m) ^ c ≤ 16 ^ c := Nat.pow_le_pow_left h1 c
      have h3 : 16 ^ c ≤ 16 ^ 4 := Nat.pow_le_pow_right (by decide) c4
      exact Nat.lt_of_le_of_lt (Nat.le_trans h2 h3) (by decide)
    have wbig : (b * m) ^ c < 2 ^ 1000 := Nat.lt_of_lt_of_le ww (Nat.pow_le_pow_right (by decide) (by decide))
    -- due, mean
    refine ⟨by show 0 ≤ sizeLine; decide, fun pd hpd => ⟨by show 2 ≤ sizeLine; decide, fun pm hpm => ⟨_, _, rfl, ?_⟩⟩⟩
    have ee : Ex Hd (upd (upd Hd pd (.lst [])) pm (.tup [.int 0, .int 1])) := (Ex.new (o := .lst []) hpd).trans (Ex.new hpm)
    have hpde : (upd (upd Hd pd (.lst [])) pm (.tup [.int 0, .int 1])) pd = some (.lst []) := Ex.new hpm _ _ upd_same
    have hpme : SqT K (upd (upd Hd pd (.lst [])) pm (.tup [.int 0, .int 1])) pm [nV 0, nV 1] := SqT.of upd_same
    generalize upd (upd Hd pd (.lst [])) pm (.tup [.int 0, .int 1]) = He at ee hpde hpme
    dsimp only
    refine st_lit (σ' := [some (.ref scr), some (.ref row), some (.ref am), some (.int (c : Int)), some (.int (b : Int)), some (.ref ch), some (.ref wa), some (.ref wb), some (nV m), some (nV r), some (.ref pr), l11, l12, l13, l14, some (nV ((b * m) ^ c)), some (.ref pd), some (.ref pm), none, none, none, none, none]) rfl ?_
    have hgood : ∀ j, gSum c (fun s => decide (M.tld s wd j = M.tld r wd j)) (M1.rws m r b t c) = topAt M c t b r wd j := fun j => by
      have h1 := M1.rws_good (m := m) (r := r) (b := b) (t := t) (c := c) (g := fun s => decide (M.tld s wd j = M.tld r wd j)) (decide_eq_true rfl)
      unfold gSum topAt numAt
      rw [h1, ← hm]
      have hN : (List.range m).countP (fun s => decide (M.tld s wd j = M.tld r wd j)) ≤ m := by
        have := List.countP_le_length (p := fun s => decide (M.tld s wd j = M.tld r wd j)) (l := List.range m)
        rwa [List.length_range] at this
      have h2 := M1.rw_sum (b := b) (t := t) htb hN
      rw [← h2, Nat.add_sub_cancel]
    have tle : ∀ j, topAt M c t b r wd j ≤ (b * m) ^ c := fun j => by rw [hm]; exact topAt_le htb
    -- for at in range(len(word))
    refine ⟨fun σ' H' => ∃ (refs2 : List V) (pm : Addr) (m0 m1 : Nat) (l13 l14 l18 l19 l20 l21 l22 : Option V), σ' = [some (.ref scr), some (.ref row), some (.ref am), some (.int (c : Int)), some (.int (b : Int)), some (.ref ch), some (.ref wa), some (.ref wb), some (nV m), some (nV r), some (.ref pr), l11, l12, l13, l14, some (nV ((b * m) ^ c)), some (.ref pd), some (.ref pm), l18, l19, l20, l21, l22] ∧ Ex Hd H' ∧ H' pd = some (.lst refs2) ∧ Paired (LowAt K H') refs2 ((List.range wd.length).map fun i => M1.low (topAt M c t b r wd i) ((b * m) ^ c)) ∧ SqT K H' pm [nV m0, nV m1] ∧ m0 * (b * m) ^ c = ((b * m) ^ c * wd.length - ((List.range wd.length).map (topAt M c t b r wd)).sum) * m1 ∧ 0 < m1 ∧ m1 < 2 ^ 1000, ?_, ?_⟩
    · refine s_forR1 (n := (wd.length : Int)) (ea_cons (ev_is (ev_lenT (ev_var rfl) (ex_t ee hwbd)) (by rw [rowV_len])) ea_nil) ⟨by omega, by omega⟩ (fun j σ' H' => ∃ (refs2 : List V) (pm : Addr) (m0 : Nat) (l13 l14 l18 l19 l20 l21 l22 : Option V), σ' = [some (.ref scr), some (.ref row), some (.ref am), some (.int (c : Int)), some (.int (b : Int)), some (.ref ch), some (.ref wa), some (.ref wb), some (nV m), some (nV r), some (.ref pr), l11, l12, l13, l14, some (nV ((b * m) ^ c)), some (.ref pd), some (.ref pm), l18, l19, l20, l21, l22] ∧ Ex Hd H' ∧ H' pd = some (.lst refs2) ∧ Paired (LowAt K H') refs2 ((List.range j).map fun i => M1.low (topAt M c t b r wd i) ((b * m) ^ c)) ∧ SqT K H' pm [nV m0, nV (((b * m) ^ c) ^ j)] ∧ m0 * (b * m) ^ c = ((b * m) ^ c * j - ((List.range j).map (topAt M c t b r wd)).sum) * ((b * m) ^ c) ^ j) (fun H1 e1 => ⟨[], pm, 0, l13, l14, none, none, none, none, none, rfl, ee.trans e1, e1 _ _ hpde, .nil, ex_t e1 hpme, by simp⟩) ?_ ?_
      · rintro j σ' H1 hj ⟨refs2, pm, m0, l13, l14, l18, l19, l20, l21, l22, rfl, e1, hpd1, hR1, hpm1, hm01⟩
        have hjw : j < wd.length := by omega
        obtain ⟨W, hW⟩ : ∃ W, W = (b * m) ^ c := ⟨_, rfl⟩
        rw [← hW] at hm01 hpm1 wp ww tle ⊢
        refine st_lit (σ' := [some (.ref scr), some (.ref row), some (.ref am), some (.int (c : Int)), some (.int (b : Int)), some (.ref ch), some (.ref wa), some (.ref wb), some (nV m), some (nV r), some (.ref pr), l11, l12, l13, l14, some (nV W), some (.ref pd), some (.ref pm), some (nV j), l19, l20, l21, l22]) rfl ?_
        -- good, answer
        refine q_par2 (x := nV 0) (y := nV (M.tld r wd j)) (ea_cons ev_c (ea_cons (ev_toldN (i := 9) (s := r) (j := j) (hMd.keep (TK.ex e1)) ok (ex_t e1 hwbd) hwd rfl rfl rfl rfl (by omega) hjw) ea_nil)) fun H2 e2 => ?_
        refine st_lit (σ' := [some (.ref scr), some (.ref row), some (.ref am), some (.int (c : Int)), some (.int (b : Int)), some (.ref ch), some (.ref wa), some (.ref wb), some (nV m), some (nV r), some (.ref pr), l11, l12, l13, l14, some (nV W), some (.ref pd), some (.ref pm), some (nV j), some (nV 0), some (nV (M.tld r wd j)), l21, l22]) rfl ?_
        have e02 := e1.trans e2
        obtain ⟨g, hg⟩ : ∃ g : Nat → Bool, g = fun s => decide (M.tld s wd j = M.tld r wd j) := ⟨_, rfl⟩
        refine ⟨fun σ' H' => ∃ l13 l14 l21 : Option V, σ' = [some (.ref scr), some (.ref row), some (.ref am), some (.int (c : Int)), some (.int (b : Int)), some (.ref ch), some (.ref wa), some (.ref wb), some (nV m), some (nV r), some (.ref pr), l11, l12, l13, l14, some (nV W), some (.ref pd), some (.ref pm), some (nV j), some (nV (topAt M c t b r wd j)), some (nV (M.tld r wd j)), l21, l22] ∧ Ex H2 H', ?_, ?_⟩
        · refine s_forL (a := pr) (xs := refs) (ev_var rfl) (sq_of (e02 _ _ hprd)) (fun k σ' H' => ∃ l13 l14 l21 : Option V, σ' = [some (.ref scr), some (.ref row), some (.ref am), some (.int (c : Int)), some (.int (b : Int)), some (.ref ch), some (.ref wa), some (.ref wb), some (nV m), some (nV r), some (.ref pr), l11, l12, l13, l14, some (nV W), some (.ref pd), some (.ref pm), some (nV j), some (nV (gSum c g ((M1.rws m r b t c).take k))), some (nV (M.tld r wd j)), l21, l22] ∧ Ex H2 H') (fun H3 e3 => ⟨l13, l14, l21, rfl, e3⟩) (fun k σ' H' _ ⟨_, _, _, _, e⟩ => sq_of (e _ _ (e02 _ _ hprd))) ?_ ?_
          · rintro k z σ' H3 hz ⟨l13, l14, l21, rfl, e3⟩
            obtain ⟨x, hx, hat⟩ := Paired.get' hRd hz
            have e03 := e02.trans e3
            obtain ⟨tx, ax', rfl, hx1, hx2⟩ := hat.keep (TK.ex e03)
            have hxm := List.mem_of_getElem? hx
            have xlen : x.1.length = c := M1.rws_len x hxm
            have xlt := M1.rws_lt rm x hxm
            refine ⟨tx, _, rfl, hx1, rfl, _, _, rfl, _, _, rfl, rfl, ?_⟩
            refine st_lit (σ' := [some (.ref scr), some (.ref row), some (.ref am), some (.int (c : Int)), some (.int (b : Int)), some (.ref ch), some (.ref wa), some (.ref wb), some (nV m), some (nV r), some (.ref pr), l11, l12, some (.ref ax'), some (nV x.2), some (nV W), some (.ref pd), some (.ref pm), some (nV j), some (nV (gSum c g ((M1.rws m r b t c).take k))), some (nV (M.tld r wd j)), l21, l22]) rfl ?_
            have hgv : gvn (rowV x.1).length (fun i => nV (M.tld (x.1.getD i 0) wd j)) = rowV (x.1.map fun s => M.tld s wd j) := gvn_rowf x.1 fun s => M.tld s wd j
            refine q_asgL (el_lcT (fun i => nV (M.tld (x.1.getD i 0) wd j)) (ev_var rfl) hx2 (by rw [rowV_len]; omega) (fun _ => rfl) (fun i z H9 e9 hz => ?_)) fun ps H4 hps e4 h4 => ?_
            · obtain ⟨s, hs, rfl⟩ := map_of hz
              rw [M1.getD_of hs]
              exact ev_toldN (i := 22) (s := s) (j := j) (hMd.keep (TK.ex (e03.trans e9))) ok (ex_t (e03.trans e9) hwbd) hwd rfl rfl rfl rfl (by have := xlt s (List.mem_of_getElem? hs); omega) hjw
            rw [hgv] at h4
            refine st_lit (σ' := [some (.ref scr), some (.ref row), some (.ref am), some (.int (c : Int)), some (.int (b : Int)), some (.ref ch), some (.ref wa), some (.ref wb), some (nV m), some (nV r), some (.ref pr), l11, l12, some (.ref ax'), some (nV x.2), some (nV W), some (.ref pd), some (.ref pm), some (nV j), some (nV (gSum c g ((M1.rws m r b t c).take k))), some (nV (M.tld r wd j)), some (.ref ps), l22]) rfl ?_
            have hcnt : (x.1.map fun s => M.tld s wd j).count (M.tld r wd j) = x.1.countP g := by rw [count_map, hg]
            have evC : Ev (tBM K "list" (rCntF K) (tVar 21) (tCons (tVar 20) tNil)) [some (.ref scr), some (.ref row), some (.ref am), some (.int (c : Int)), some (.int (b : Int)), some (.ref ch), some (.ref wa), some (.ref wb), some (nV m), some (nV r), some (.ref pr), l11, l12, some (.ref ax'), some (nV x.2), some (nV W), some (.ref pd), some (.ref pm), some (nV j), some (nV (gSum c g ((M1.rws m r b t c).take k))), some (nV (M.tld r wd j)), some (.ref ps), l22] H4 (nV (x.1.countP g)) := fun H' e' Q' q' =>
              ⟨.ref ps, rfl, Or.inl ⟨rfl, _, sq_of (e' _ _ h4)⟩, nV (M.tld r wd j), rfl, ps, _, nV (M.tld r wd j), rfl, rfl, sq_of (e' _ _ h4), rfl, flat_row _, by
                rw [countV, hcnt]
                exact q' H' (Ex.refl _)⟩
            refine s_asg (v := nV (gSum c g ((M1.rws m r b t c).take (k + 1)))) (ev_is (ev_addZ (b := if c < 2 * x.1.countP g then x.2 else 0) (ev_var rfl) (ev_if (b := decide (((c : Nat) : Int) < ((2 * x.1.countP g : Nat) : Int))) (et_test (ev_op (ev_mulL (a := 2) ev_c evC (by decide)) (ev_var rfl) rv_I0)) (fun hb => ?_) fun hb => ?_)) ?_) fun H5 e5 => ⟨_, _, _, rfl, (e3.trans e4).trans e5⟩
            · have h1 := of_decide_eq_true hb
              rw [if_pos (by omega)]
              exact ev_var rfl
            · have h1 := of_decide_eq_false hb
              rw [if_neg (by omega)]
              exact ev_c
            · rw [M1.take_succ' hx, gSum_snoc]
          · rintro σ' H3 ⟨l13, l14, l21, rfl, e3⟩
            rw [Paired.length hRd, List.take_length, hg, hgood j]
            exact ⟨l13, l14, l21, rfl, e3⟩
        rintro σ' H3 ⟨l13, l14, l21, rfl, e3⟩
        have e13 := e2.trans e3
        have e03 := e1.trans e13
        have tj := tle j
        -- due.append(_law_low(good, whole))
        refine ⟨.ref pd, rfl, Or.inl ⟨rfl, refs2, sq_of (e13 _ _ hpd1)⟩, nV (topAt M c t b r wd j), rfl, nV W, rfl, topAt M c t b r wd j, W, rfl, wp, by rw [hW]; exact wbig, fun tq H4 e4 htq => ?_⟩
        have rl2 : refs2.length = j := by rw [Paired.length hR1, List.length_map, List.length_range]
        have e14 := e13.trans e4
        refine ⟨pd, refs2, .ref tq, rfl, rfl, e14 _ _ hpd1, sz_lt (by omega), ?_⟩
        have npd : Hd pd = none := hpd
        have x5 : Ex Hd (upd H4 pd (.lst (refs2 ++ [.ref tq]))) := Ex.mut (e03.trans e4) npd
        have tk5 : TK K H4 (upd H4 pd (.lst (refs2 ++ [.ref tq]))) := TK.lst (e14 _ _ hpd1)
        have hpd5 : upd H4 pd (.lst (refs2 ++ [.ref tq])) pd = some (.lst (refs2 ++ [.ref tq])) := upd_same
        have hR5 : Paired (LowAt K (upd H4 pd (.lst (refs2 ++ [.ref tq])))) (refs2 ++ [.ref tq]) ((List.range (j + 1)).map fun i => M1.low (topAt M c t b r wd i) W) := by
          rw [List.range_succ, List.map_append, List.map_singleton]
          rw [← hW] at hR1
          exact Paired.snoc (Paired.mapP hR1 fun _ _ q => q.keep ((TK.ex e14).trans tk5)) ⟨tq, rfl, tk5 _ _ htq⟩
        have hpm5 := tk5 _ _ (ex_t e14 hpm1)
        generalize upd H4 pd (.lst (refs2 ++ [.ref tq])) = H5 at x5 tk5 hpd5 hR5 hpm5 ⊢
        -- mean
        have mx : ∀ (i : Nat) (q : Nat), ([nV m0, nV (W ^ j)])[i]? = some (nV q) → Ev (tOp (rIxT K) (tVar 17) (tC (.int (i : Int)))) [some (.ref scr), some (.ref row), some (.ref am), some (.int (c : Int)), some (.int (b : Int)), some (.ref ch), some (.ref wa), some (.ref wb), some (nV m), some (nV r), some (.ref pr), l11, l12, l13, l14, some (nV W), some (.ref pd), some (.ref pm), some (nV j), some (nV (topAt M c t b r wd j)), some (nV (M.tld r wd j)), l21, l22] H5 (nV q) := fun i q h => ev_op (ev_var rfl) ev_c (rv_ixT hpm5 (atI_nat h))
        dsimp only
        refine s_asgU (eu_tup (vs := [nV (m0 * W + W ^ j * (W - topAt M c t b r wd j)), nV (W ^ (j + 1))]) (ea_cons (ev_addZ (ev_mulR (mx 0 m0 rfl) (ev_var rfl) (by omega)) (ev_mulR (mx 1 (W ^ j) rfl) (ev_subZ (ev_var rfl) (ev_var rfl) tj) (by omega))) (ea_cons (ev_is (ev_mulR (mx 1 (W ^ j) rfl) (ev_var rfl) (by omega)) (by rw [Nat.pow_succ])) ea_nil)) (by show 2 ≤ 100000; decide)) fun pq H6 hpq e6 h6 => ?_
        refine ⟨refs2 ++ [.ref tq], pq, m0 * W + W ^ j * (W - topAt M c t b r wd j), l13, l14, _, _, _, _, _, rfl, x5.trans e6, e6 _ _ hpd5, Paired.mapP hR5 fun _ _ q => q.keep (TK.ex e6), SqT.of h6, ?_⟩
        have hS : ((List.range j).map (topAt M c t b r wd)).sum ≤ W * j := by
          rw [hW, hm]
          exact sum_le_mul fun i => topAt_le htb
        rw [List.range_succ, List.map_append, List.sum_append, List.map_singleton, List.sum_singleton, Nat.add_mul, hm01, Nat.pow_succ, Nat.mul_succ]
        rw [show W * j + W - (((List.range j).map (topAt M c t b r wd)).sum + topAt M c t b r wd j) = (W * j - ((List.range j).map (topAt M c t b r wd)).sum) + (W - topAt M c t b r wd j) by omega, Nat.add_mul]
        generalize W * j - ((List.range j).map (topAt M c t b r wd)).sum = D
        generalize W - topAt M c t b r wd j = E'
        generalize W ^ j = X
        simp only [Nat.mul_assoc, Nat.mul_comm, Nat.mul_left_comm]
      · rintro σ' H1 ⟨refs2, pm, m0, l13, l14, l18, l19, l20, l21, l22, rfl, e1, hpd1, hR1, hpm1, hm01⟩
        rw [Int.toNat_natCast] at hR1 hpm1 hm01
        refine ⟨refs2, pm, m0, _, l13, l14, l18, l19, l20, l21, l22, rfl, e1, hpd1, hR1, hpm1, hm01, Nat.pow_pos wp, ?_⟩
        have h1 : ((b * m) ^ c) ^ wd.length ≤ (2 ^ 60) ^ wd.length := Nat.pow_le_pow_left (by omega) _
        have h2 : (2 ^ 60) ^ wd.length ≤ (2 ^ 60) ^ 4 := Nat.pow_le_pow_right (by decide) hwl
        have h3 : (2 ^ 60) ^ 4 < 2 ^ 1000 := by rw [← Nat.pow_mul]; exact Nat.pow_lt_pow_right (by decide) (by decide)
        exact Nat.lt_of_le_of_lt (Nat.le_trans h1 h2) h3
    rintro σ' Hf ⟨refs2, pm, m0, m1, l13, l14, l18, l19, l20, l21, l22, rfl, ef, hpdf, hRf, hpmf, hmm, m1p, m1b⟩
    have hMf := hMd.keep (TK.ex ef)
    have hchf := ex_t ef hchd
    have hwaf := ex_t ef hwad
    have hwbf := ex_t ef hwbd
    clear hMd hchd hwad hwbd hprd hRd ee hpde hpme hpd hpm
    subst hr'
    subst hm
    have hin : ∀ H' (c' t' b' : Nat) (chx wx : Addr) (wd' : List Nat), Ex Hf H' → 1 ≤ c' → c' ≤ 25 → SqT K H' chx [nV t', nV b'] → 1 ≤ b' → b' ≤ 100 → t' ≤ b' → (c' ≤ 4 ∨ t' = 0) → SqT K H' wx (rowV wd') → wd'.length ≤ 4000 → M.Letters wd' → TopIn K H' [.ref am, .int (c' : Int), .ref chx, .ref wa, .ref wx] M c' t' b' way wd' := fun H' c' t' b' chx wx wd' e h1 h2 h3 h4 h5 h6 h7 h8 h9 h10 => ⟨.ref am, chx, wa, wx, rfl, hMf.keep (TK.ex e), ok, h1, h2, h3, h4, h5, h6, h7, ex_t e hwaf, by omega, hway, h8, h9, h10⟩
    -- if not alike(right_chances(..), tuple(due))
    refine q_when (b := false) (et_not (a := true) (et_B fun H1 e1 Q1 q1 => ⟨.ref am, rfl, .int (c : Int), rfl, .ref ch, rfl, .ref wa, rfl, .ref wb, rfl, M, c, t, b, way, wd, hin H1 c t b ch wb wd e1 c1 (by omega) (ex_t e1 hchf) b1 (by omega) htb (.inl c4) (ex_t e1 hwbf) (by omega) hwd, fun pt refs3 H2 e2 hpt hR3 => ⟨.ref pd, rfl, pd, refs2, rfl, .inl ⟨sq_of (e2 _ _ (e1 _ _ hpdf)), fun pu hpu => ⟨.ref pt, .ref pu, .tuple (((List.range wd.length).map fun i => M1.low (topAt M c t b (M.led 0 way) wd i) ((b * M.st.length) ^ c)).map pairD), rfl, .tup (ex_t (Ex.new hpu) hpt) (dp_pairs (Paired.mapP hR3 fun _ _ q => q.keep (TK.ex (Ex.new hpu)))), .tup (SqT.of upd_same) (dp_pairs (Paired.mapP hRf fun _ _ q => q.keep (TK.ex ((e1.trans e2).trans (Ex.new hpu))))), fine_pairs (by rw [List.length_map, List.length_range]; omega), fun H4 e4 => q1 H4 ((e2.trans (Ex.new hpu)).trans e4)⟩⟩⟩⟩)) (fun z => by cases z) fun _ Hg eg => ?_
    -- if not alike(mean_misses(..), _law_low(..))
    have hmlow : M1.low m0 m1 = M1.low ((b * M.st.length) ^ c * wd.length - ((List.range wd.length).map (topAt M c t b (M.led 0 way) wd)).sum) ((b * M.st.length) ^ c) := M1.low_eq m1p wp hmm
    refine q_when (b := false) (et_not (a := true) (et_B fun H1 e1 Q1 q1 => ⟨.ref am, rfl, .int (c : Int), rfl, .ref ch, rfl, .ref wa, rfl, .ref wb, rfl, M, c, t, b, way, wd, hin H1 c t b ch wb wd (eg.trans e1) c1 (by omega) (ex_t (eg.trans e1) hchf) b1 (by omega) htb (.inl c4) (ex_t (eg.trans e1) hwbf) (by omega) hwd, fun pt H2 e2 hpt => ⟨.ref pm, rfl, pm, _, 0, nV m0, rfl, rfl, ex_t ((eg.trans e1).trans e2) hpmf, atI_nat (j := 0) rfl, .ref pm, rfl, pm, _, 1, nV m1, rfl, rfl, ex_t ((eg.trans e1).trans e2) hpmf, atI_nat (j := 1) rfl, m0, m1, rfl, m1p, m1b, fun pu H3 e3 hpu => ⟨.ref pt, .ref pu, pairD _, rfl, dp_pair (hpt.keep (TK.ex e3)), dp_pair ⟨pu, rfl, by rw [← hmlow]; exact hpu⟩, fine_pair _, fun H4 e4 => q1 H4 ((e2.trans e3).trans e4)⟩⟩⟩)) (fun z => by cases z) fun _ Hh eh => ?_
    have efh := eg.trans eh
    -- the bench of twenty-five, never pushed
    have n25 : ∀ j, topAt M 25 0 7 (M.led 0 way) wd j = (7 * M.st.length) ^ 25 := fun j => by
      unfold topAt M1.tom
      rw [Nat.zero_mul, M1.binS_none, Nat.sub_zero]
      show (7 * M.st.length) ^ 25 * 1 = _
      rw [Nat.mul_one]
    have p25 : 0 < (7 * M.st.length) ^ 25 := Nat.pow_pos (Nat.mul_pos (by decide) n1)
    refine q_when (b := false) (et_is (et_or (a := false) (b := false) (et_test ?_) fun _ => et_test ?_) rfl) (fun z => by cases z) fun _ Hi ei => ?_
    · intro H1 e1 Q1 q1
      refine ⟨.ref am, rfl, by show 2 ≤ sizeLine; decide, fun c7 hc7 => ⟨.ref wa, rfl, .ref wb, rfl, M, 25, 0, 7, way, wd, ?_, fun pt refs3 H2 e2 hpt hR3 => ?_⟩⟩
      · have e := (efh.trans e1).trans (Ex.new (o := .tup [.int 0, .int 7]) hc7)
        exact hin _ 25 0 7 c7 wb wd e (by decide) (by decide) (SqT.of upd_same) (by decide) (by decide) (by decide) (.inr rfl) (ex_t e hwbf) (by omega) hwd
      · refine ⟨by show 2 ≤ sizeLine; decide, fun p1 hp1 => ⟨by show 1 ≤ sizeLine; decide, fun p2 hp2 => ⟨.ref wb, rfl, wb, rowV wd, rfl, .inr ?_, p2, _, [.ref p1], rfl, rfl, SqT.of upd_same, (fun z => by cases z), by omega, by rw [rowV_len]; omega, by show 1 ≤ 100; decide, fun p3 H3 e3 h3 => ?_⟩⟩⟩
        · exact ex_t ((((efh.trans e1).trans (Ex.new hc7)).trans e2).trans ((Ex.new hp1).trans (Ex.new hp2))) hwbf
        · rw [Int.toNat_natCast, rowV_len, rep_one] at h3
          have e23 := ((Ex.new (o := .tup [.int 1, .int 1]) hp1).trans (Ex.new (o := .tup [.ref p1]) hp2)).trans e3
          have h11 : LowAt K H3 (.ref p1) (1, 1) := ⟨p1, rfl, ex_t ((Ex.new (o := .tup [.ref p1]) hp2).trans e3) (SqT.of upd_same)⟩
          have hl1 : ((List.range wd.length).map fun j => M1.low (topAt M 25 0 7 (M.led 0 way) wd j) ((7 * M.st.length) ^ 25)) = List.replicate wd.length (1, 1) := by
            rw [← List.length_range (n := wd.length), ← List.map_const']
            simp only [List.length_range]
            exact List.map_congr_left fun j _ => by rw [n25 j, M1.low_self p25]
          rw [hl1] at hR3
          exact rv_nePairs (ex_t e23 hpt) (Paired.mapP hR3 fun _ _ q => q.keep (TK.ex e23)) h3 (paired_rep h11 _) H3 (Ex.refl _) Q1 fun H4 e4 => q1 H4 ((((Ex.new hc7).trans e2).trans e23).trans e4)
    · intro H1 e1 Q1 q1
      refine ⟨.ref am, rfl, by show 2 ≤ sizeLine; decide, fun c7 hc7 => ⟨.ref wa, rfl, by show 0 ≤ sizeLine; decide, fun pe hpe => ⟨M, 25, 0, 7, way, [], ?_, fun pt H2 e2 hpt => ⟨by show 2 ≤ sizeLine; decide, fun p1 hp1 => ?_⟩⟩⟩⟩
      · have e := ((efh.trans e1).trans (Ex.new (o := .tup [.int 0, .int 7]) hc7)).trans (Ex.new (o := .tup []) hpe)
        exact hin _ 25 0 7 c7 pe [] e (by decide) (by decide) (ex_t (Ex.new hpe) (SqT.of upd_same)) (by decide) (by decide) (by decide) (.inr rfl) (SqT.of upd_same) (by decide) (fun x hx => by simp at hx)
      · have hz : M1.low ((7 * M.st.length) ^ 25 * ([] : List Nat).length - ((List.range ([] : List Nat).length).map (topAt M 25 0 7 (M.led 0 way) [])).sum) ((7 * M.st.length) ^ 25) = (0, 1) := by
          show M1.low ((7 * M.st.length) ^ 25 * 0 - 0) _ = _
          rw [Nat.mul_zero, Nat.zero_sub]
          exact M1.low_none p25
        rw [hz] at hpt
        exact rv_nePair (hpt.keep (TK.ex (Ex.new hp1))) ⟨p1, rfl, SqT.of upd_same⟩ _ (Ex.refl _) Q1 fun H4 e4 => q1 H4 ((((Ex.new hc7).trans (Ex.new hpe)).trans e2).trans ((Ex.new hp1).trans e4))
    -- the last
    have efi := efh.trans ei
    refine s_ret (v := .bl true) ?_ fun H' _ => q H'
    intro H1 e1 Q1 q1
    refine ⟨.ref am, rfl, .int (c : Int), rfl, by show 2 ≤ sizeLine; decide, fun c7 hc7 => ⟨.ref wa, rfl, .ref wb, rfl, M, c, 0, 1, way, wd, ?_, fun pt H2 e2 hpt => ⟨by show 2 ≤ sizeLine; decide, fun p1 hp1 => ?_⟩⟩⟩
    · have e := (efi.trans e1).trans (Ex.new (o := .tup [.int 0, .int 1]) hc7)
      exact hin _ c 0 1 c7 wb wd e c1 (by omega) (SqT.of upd_same) (by decide) (by decide) (by decide) (.inr rfl) (ex_t e hwbf) (by omega) hwd
    · have p1c : 0 < (1 * M.st.length) ^ c := Nat.pow_pos (by omega)
      have hz : M1.low ((1 * M.st.length) ^ c * wd.length - ((List.range wd.length).map (topAt M c 0 1 (M.led 0 way) wd)).sum) ((1 * M.st.length) ^ c) = (0, 1) := by
        have ht : ∀ j, topAt M c 0 1 (M.led 0 way) wd j = (1 * M.st.length) ^ c := fun j => by
          unfold topAt M1.tom
          rw [Nat.zero_mul, M1.binS_none, Nat.sub_zero]
          unfold M1.thr
          rw [if_pos (by omega), Nat.mul_one]
        have hs : ((List.range wd.length).map (topAt M c 0 1 (M.led 0 way) wd)).sum = (1 * M.st.length) ^ c * wd.length := by
          rw [show topAt M c 0 1 (M.led 0 way) wd = fun _ => (1 * M.st.length) ^ c from funext ht, List.map_const', List.sum_replicate_nat, List.length_range, Nat.mul_comm]
        rw [hs, Nat.sub_self]
        exact M1.low_none p1c
      rw [hz] at hpt
      exact rv_eqPair (hpt.keep (TK.ex (Ex.new hp1))) ⟨p1, rfl, SqT.of upd_same⟩ _ (Ex.refl _) Q1 fun H4 e4 => q1 H4 (((Ex.new hc7).trans e2).trans ((Ex.new hp1).trans e4))
end

end Kx

namespace Kx
open PySem PySem.Spec PyProof.Rows L2
theorem all_mk {l : PySem.W.OpenLaw} {w : World} {K : PySem.W.Frag} {h : Heap} {mg : Str → Option Value} {fa : Addr} (X : K.In h) (G : h.Ns mainGlobals mg) (hfa : mg "law" = some (.ref fa))
    {f_is_integer : Addr} {od_is_integer an_is_integer : Option Addr} {sl_is_integer : Array (Option Value)} {oc_is_integer kV_is_integer dc_is_integer pm_is_integer cd_is_integer ct_is_integer : Value}
    {f_is_tuple : Addr} {od_is_tuple an_is_tuple : Option Addr} {sl_is_tuple : Array (Option Value)} {oc_is_tuple kV_is_tuple dc_is_tuple pm_is_tuple cd_is_tuple ct_is_tuple : Value}
    {f_is_row : Addr} {od_is_row an_is_row : Option Addr} {sl_is_row : Array (Option Value)} {oc_is_row kV_is_row dc_is_row pm_is_row cd_is_row ct_is_row : Value}
    {f_is_table : Addr} {od_is_table an_is_table : Option Addr} {sl_is_table : Array (Option Value)} {oc_is_table kV_is_table dc_is_table pm_is_table cd_is_table ct_is_table : Value}
    {f_is_steps : Addr} {od_is_steps an_is_steps : Option Addr} {sl_is_steps : Array (Option Value)} {oc_is_steps kV_is_steps dc_is_steps pm_is_steps cd_is_steps ct_is_steps : Value}
    {f_check_machine : Addr} {od_check_machine an_check_machine : Option Addr} {sl_check_machine : Array (Option Value)} {oc_check_machine kV_check_machine dc_check_machine pm_check_machine cd_check_machine ct_check_machine : Value}
    {f_is_word : Addr} {od_is_word an_is_word : Option Addr} {sl_is_word : Array (Option Value)} {oc_is_word kV_is_word dc_is_word pm_is_word cd_is_word ct_is_word : Value}
    {f_is_short_word : Addr} {od_is_short_word an_is_short_word : Option Addr} {sl_is_short_word : Array (Option Value)} {oc_is_short_word kV_is_short_word dc_is_short_word pm_is_short_word cd_is_short_word ct_is_short_word : Value}
    {f_check_word : Addr} {od_check_word an_check_word : Option Addr} {sl_check_word : Array (Option Value)} {oc_check_word kV_check_word dc_check_word pm_check_word cd_check_word ct_check_word : Value}
    {f_check_number : Addr} {od_check_number an_check_number : Option Addr} {sl_check_number : Array (Option Value)} {oc_check_number kV_check_number dc_check_number pm_check_number cd_check_number ct_check_number : Value}
    {f_state_behind : Addr} {od_state_behind an_state_behind : Option Addr} {sl_state_behind : Array (Option Value)} {oc_state_behind kV_state_behind dc_state_behind pm_state_behind cd_state_behind ct_state_behind : Value}
    {f_check_chance : Addr} {od_check_chance an_check_chance : Option Addr} {sl_check_chance : Array (Option Value)} {oc_check_chance kV_check_chance dc_check_chance pm_check_chance cd_check_chance ct_check_chance : Value}
    {f_lowest_terms : Addr} {od_lowest_terms an_lowest_terms : Option Addr} {sl_lowest_terms : Array (Option Value)} {oc_lowest_terms kV_lowest_terms dc_lowest_terms pm_lowest_terms cd_lowest_terms ct_lowest_terms : Value}
    {f_powers_of : Addr} {od_powers_of an_powers_of : Option Addr} {sl_powers_of : Array (Option Value)} {oc_powers_of kV_powers_of dc_powers_of pm_powers_of cd_powers_of ct_powers_of : Value}
    {f_right_numbers : Addr} {od_right_numbers an_right_numbers : Option Addr} {sl_right_numbers : Array (Option Value)} {oc_right_numbers kV_right_numbers dc_right_numbers pm_right_numbers cd_right_numbers ct_right_numbers : Value}
    {f_top_of_most : Addr} {od_top_of_most an_top_of_most : Option Addr} {sl_top_of_most : Array (Option Value)} {oc_top_of_most kV_top_of_most dc_top_of_most pm_top_of_most cd_top_of_most ct_top_of_most : Value}
    {f_tops_and_bottom : Addr} {od_tops_and_bottom an_tops_and_bottom : Option Addr} {sl_tops_and_bottom : Array (Option Value)} {oc_tops_and_bottom kV_tops_and_bottom dc_tops_and_bottom pm_tops_and_bottom cd_tops_and_bottom ct_tops_and_bottom : Value}
    {f_right_chances : Addr} {od_right_chances an_right_chances : Option Addr} {sl_right_chances : Array (Option Value)} {oc_right_chances kV_right_chances dc_right_chances pm_right_chances cd_right_chances ct_right_chances : Value}
    {f_mean_misses : Addr} {od_mean_misses an_mean_misses : Option Addr} {sl_mean_misses : Array (Option Value)} {oc_mean_misses kV_mean_misses dc_mean_misses pm_mean_misses cd_mean_misses ct_mean_misses : Value}
    {f_law_taken : Addr} {od_law_taken an_law_taken : Option Addr} {sl_law_taken : Array (Option Value)} {oc_law_taken kV_law_taken dc_law_taken pm_law_taken cd_law_taken ct_law_taken : Value}
    {f_law_alike : Addr} {od_law_alike an_law_alike : Option Addr} {sl_law_alike : Array (Option Value)} {oc_law_alike kV_law_alike dc_law_alike pm_law_alike cd_law_alike ct_law_alike : Value}
    {f_law_machine : Addr} {od_law_machine an_law_machine : Option Addr} {sl_law_machine : Array (Option Value)} {oc_law_machine kV_law_machine dc_law_machine pm_law_machine cd_law_machine ct_law_machine : Value}
    {f_law_word : Addr} {od_law_word an_law_word : Option Addr} {sl_law_word : Array (Option Value)} {oc_law_word kV_law_word dc_law_word pm_law_word cd_law_word ct_law_word : Value}
    {f_law_low : Addr} {od_law_low an_law_low : Option Addr} {sl_law_low : Array (Option Value)} {oc_law_low kV_law_low dc_law_low pm_law_low cd_law_low ct_law_low : Value}
    {f_law_after : Addr} {od_law_after an_law_after : Option Addr} {sl_law_after : Array (Option Value)} {oc_law_after kV_law_after dc_law_after pm_law_after cd_law_after ct_law_after : Value}
    {f_law : Addr} {od_law an_law : Option Addr} {sl_law : Array (Option Value)} {oc_law kV_law dc_law pm_law cd_law ct_law : Value}
    (a_is_integer : PySem.W.nsIn K mainGlobals "is_integer" = some (some (.ref f_is_integer))) (l_is_integer : K.lookup f_is_integer = some ⟨oc_is_integer, od_is_integer, .func (PySem.W.fnOf "is_integer" "is_integer" (defArgs s_is_integer) (defBody s_is_integer) (defScope s_is_integer) .none kV_is_integer dc_is_integer pm_is_integer an_is_integer cd_is_integer ct_is_integer), sl_is_integer⟩) (c_is_integer : PySem.W.codeIn K cd_is_integer "is_integer" = true) (k_is_integer : PySem.W.keepIn K (.ref f_is_integer) = true)
    (a_is_tuple : PySem.W.nsIn K mainGlobals "is_tuple" = some (some (.ref f_is_tuple))) (l_is_tuple : K.lookup f_is_tuple = some ⟨oc_is_tuple, od_is_tuple, .func (PySem.W.fnOf "is_tuple" "is_tuple" (defArgs s_is_tuple) (defBody s_is_tuple) (defScope s_is_tuple) .none kV_is_tuple dc_is_tuple pm_is_tuple an_is_tuple cd_is_tuple ct_is_tuple), sl_is_tuple⟩) (c_is_tuple : PySem.W.codeIn K cd_is_tuple "is_tuple" = true) (k_is_tuple : PySem.W.keepIn K (.ref f_is_tuple) = true)
    (a_is_row : PySem.W.nsIn K mainGlobals "is_row" = some (some (.ref f_is_row))) (l_is_row : K.lookup f_is_row = some ⟨oc_is_row, od_is_row, .func (PySem.W.fnOf "is_row" "is_row" (defArgs s_is_row) (defBody s_is_row) (defScope s_is_row) .none kV_is_row dc_is_row pm_is_row an_is_row cd_is_row ct_is_row), sl_is_row⟩) (c_is_row : PySem.W.codeIn K cd_is_row "is_row" = true) (k_is_row : PySem.W.keepIn K (.ref f_is_row) = true)
    (a_is_table : PySem.W.nsIn K mainGlobals "is_table" = some (some (.ref f_is_table))) (l_is_table : K.lookup f_is_table = some ⟨oc_is_table, od_is_table, .func (PySem.W.fnOf "is_table" "is_table" (defArgs s_is_table) (defBody s_is_table) (defScope s_is_table) .none kV_is_table dc_is_table pm_is_table an_is_table cd_is_table ct_is_table), sl_is_table⟩) (c_is_table : PySem.W.codeIn K cd_is_table "is_table" = true) (k_is_table : PySem.W.keepIn K (.ref f_is_table) = true)
    (a_is_steps : PySem.W.nsIn K mainGlobals "is_steps" = some (some (.ref f_is_steps))) (l_is_steps : K.lookup f_is_steps = some ⟨oc_is_steps, od_is_steps, .func (PySem.W.fnOf "is_steps" "is_steps" (defArgs s_is_steps) (defBody s_is_steps) (defScope s_is_steps) .none kV_is_steps dc_is_steps pm_is_steps an_is_steps cd_is_steps ct_is_steps), sl_is_steps⟩) (c_is_steps : PySem.W.codeIn K cd_is_steps "is_steps" = true) (k_is_steps : PySem.W.keepIn K (.ref f_is_steps) = true)
    (a_check_machine : PySem.W.nsIn K mainGlobals "check_machine" = some (some (.ref f_check_machine))) (l_check_machine : K.lookup f_check_machine = some ⟨oc_check_machine, od_check_machine, .func (PySem.W.fnOf "check_machine" "check_machine" (defArgs s_check_machine) (defBody s_check_machine) (defScope s_check_machine) .none kV_check_machine dc_check_machine pm_check_machine an_check_machine cd_check_machine ct_check_machine), sl_check_machine⟩) (c_check_machine : PySem.W.codeIn K cd_check_machine "check_machine" = true) (k_check_machine : PySem.W.keepIn K (.ref f_check_machine) = true)
    (a_is_word : PySem.W.nsIn K mainGlobals "is_word" = some (some (.ref f_is_word))) (l_is_word : K.lookup f_is_word = some ⟨oc_is_word, od_is_word, .func (PySem.W.fnOf "is_word" "is_word" (defArgs s_is_word) (defBody s_is_word) (defScope s_is_word) .none kV_is_word dc_is_word pm_is_word an_is_word cd_is_word ct_is_word), sl_is_word⟩) (c_is_word : PySem.W.codeIn K cd_is_word "is_word" = true) (k_is_word : PySem.W.keepIn K (.ref f_is_word) = true)
    (a_is_short_word : PySem.W.nsIn K mainGlobals "is_short_word" = some (some (.ref f_is_short_word))) (l_is_short_word : K.lookup f_is_short_word = some ⟨oc_is_short_word, od_is_short_word, .func (PySem.W.fnOf "is_short_word" "is_short_word" (defArgs s_is_short_word) (defBody s_is_short_word) (defScope s_is_short_word) .none kV_is_short_word dc_is_short_word pm_is_short_word an_is_short_word cd_is_short_word ct_is_short_word), sl_is_short_word⟩) (c_is_short_word : PySem.W.codeIn K cd_is_short_word "is_short_word" = true) (k_is_short_word : PySem.W.keepIn K (.ref f_is_short_word) = true)
    (a_check_word : PySem.W.nsIn K mainGlobals "check_word" = some (some (.ref f_check_word))) (l_check_word : K.lookup f_check_word = some ⟨oc_check_word, od_check_word, .func (PySem.W.fnOf "check_word" "check_word" (defArgs s_check_word) (defBody s_check_word) (defScope s_check_word) .none kV_check_word dc_check_word pm_check_word an_check_word cd_check_word ct_check_word), sl_check_word⟩) (c_check_word : PySem.W.codeIn K cd_check_word "check_word" = true) (k_check_word : PySem.W.keepIn K (.ref f_check_word) = true)
    (a_check_number : PySem.W.nsIn K mainGlobals "check_number" = some (some (.ref f_check_number))) (l_check_number : K.lookup f_check_number = some ⟨oc_check_number, od_check_number, .func (PySem.W.fnOf "check_number" "check_number" (defArgs s_check_number) (defBody s_check_number) (defScope s_check_number) .none kV_check_number dc_check_number pm_check_number an_check_number cd_check_number ct_check_number), sl_check_number⟩) (c_check_number : PySem.W.codeIn K cd_check_number "check_number" = true) (k_check_number : PySem.W.keepIn K (.ref f_check_number) = true)
    (a_state_behind : PySem.W.nsIn K mainGlobals "state_behind" = some (some (.ref f_state_behind))) (l_state_behind : K.lookup f_state_behind = some ⟨oc_state_behind, od_state_behind, .func (PySem.W.fnOf "state_behind" "state_behind" (defArgs s_state_behind) (defBody s_state_behind) (defScope s_state_behind) .none kV_state_behind dc_state_behind pm_state_behind an_state_behind cd_state_behind ct_state_behind), sl_state_behind⟩) (c_state_behind : PySem.W.codeIn K cd_state_behind "state_behind" = true) (k_state_behind : PySem.W.keepIn K (.ref f_state_behind) = true)
    (a_check_chance : PySem.W.nsIn K mainGlobals "check_chance" = some (some (.ref f_check_chance))) (l_check_chance : K.lookup f_check_chance = some ⟨oc_check_chance, od_check_chance, .func (PySem.W.fnOf "check_chance" "check_chance" (defArgs s_check_chance) (defBody s_check_chance) (defScope s_check_chance) .none kV_check_chance dc_check_chance pm_check_chance an_check_chance cd_check_chance ct_check_chance), sl_check_chance⟩) (c_check_chance : PySem.W.codeIn K cd_check_chance "check_chance" = true) (k_check_chance : PySem.W.keepIn K (.ref f_check_chance) = true)
    (a_lowest_terms : PySem.W.nsIn K mainGlobals "lowest_terms" = some (some (.ref f_lowest_terms))) (l_lowest_terms : K.lookup f_lowest_terms = some ⟨oc_lowest_terms, od_lowest_terms, .func (PySem.W.fnOf "lowest_terms" "lowest_terms" (defArgs s_lowest_terms) (defBody s_lowest_terms) (defScope s_lowest_terms) .none kV_lowest_terms dc_lowest_terms pm_lowest_terms an_lowest_terms cd_lowest_terms ct_lowest_terms), sl_lowest_terms⟩) (c_lowest_terms : PySem.W.codeIn K cd_lowest_terms "lowest_terms" = true) (k_lowest_terms : PySem.W.keepIn K (.ref f_lowest_terms) = true)
    (a_powers_of : PySem.W.nsIn K mainGlobals "powers_of" = some (some (.ref f_powers_of))) (l_powers_of : K.lookup f_powers_of = some ⟨oc_powers_of, od_powers_of, .func (PySem.W.fnOf "powers_of" "powers_of" (defArgs s_powers_of) (defBody s_powers_of) (defScope s_powers_of) .none kV_powers_of dc_powers_of pm_powers_of an_powers_of cd_powers_of ct_powers_of), sl_powers_of⟩) (c_powers_of : PySem.W.codeIn K cd_powers_of "powers_of" = true) (k_powers_of : PySem.W.keepIn K (.ref f_powers_of) = true)
    (a_right_numbers : PySem.W.nsIn K mainGlobals "right_numbers" = some (some (.ref f_right_numbers))) (l_right_numbers : K.lookup f_right_numbers = some ⟨oc_right_numbers, od_right_numbers, .func (PySem.W.fnOf "right_numbers" "right_numbers" (defArgs s_right_numbers) (defBody s_right_numbers) (defScope s_right_numbers) .none kV_right_numbers dc_right_numbers pm_right_numbers an_right_numbers cd_right_numbers ct_right_numbers), sl_right_numbers⟩) (c_right_numbers : PySem.W.codeIn K cd_right_numbers "right_numbers" = true) (k_right_numbers : PySem.W.keepIn K (.ref f_right_numbers) = true)
    (a_top_of_most : PySem.W.nsIn K mainGlobals "top_of_most" = some (some (.ref f_top_of_most))) (l_top_of_most : K.lookup f_top_of_most = some ⟨oc_top_of_most, od_top_of_most, .func (PySem.W.fnOf "top_of_most" "top_of_most" (defArgs s_top_of_most) (defBody s_top_of_most) (defScope s_top_of_most) .none kV_top_of_most dc_top_of_most pm_top_of_most an_top_of_most cd_top_of_most ct_top_of_most), sl_top_of_most⟩) (c_top_of_most : PySem.W.codeIn K cd_top_of_most "top_of_most" = true) (k_top_of_most : PySem.W.keepIn K (.ref f_top_of_most) = true)
    (a_tops_and_bottom : PySem.W.nsIn K mainGlobals "tops_and_bottom" = some (some (.ref f_tops_and_bottom))) (l_tops_and_bottom : K.lookup f_tops_and_bottom = some ⟨oc_tops_and_bottom, od_tops_and_bottom, .func (PySem.W.fnOf "tops_and_bottom" "tops_and_bottom" (defArgs s_tops_and_bottom) (defBody s_tops_and_bottom) (defScope s_tops_and_bottom) .none kV_tops_and_bottom dc_tops_and_bottom pm_tops_and_bottom an_tops_and_bottom cd_tops_and_bottom ct_tops_and_bottom), sl_tops_and_bottom⟩) (c_tops_and_bottom : PySem.W.codeIn K cd_tops_and_bottom "tops_and_bottom" = true) (k_tops_and_bottom : PySem.W.keepIn K (.ref f_tops_and_bottom) = true)
    (a_right_chances : PySem.W.nsIn K mainGlobals "right_chances" = some (some (.ref f_right_chances))) (l_right_chances : K.lookup f_right_chances = some ⟨oc_right_chances, od_right_chances, .func (PySem.W.fnOf "right_chances" "right_chances" (defArgs s_right_chances) (defBody s_right_chances) (defScope s_right_chances) .none kV_right_chances dc_right_chances pm_right_chances an_right_chances cd_right_chances ct_right_chances), sl_right_chances⟩) (c_right_chances : PySem.W.codeIn K cd_right_chances "right_chances" = true) (k_right_chances : PySem.W.keepIn K (.ref f_right_chances) = true)
    (a_mean_misses : PySem.W.nsIn K mainGlobals "mean_misses" = some (some (.ref f_mean_misses))) (l_mean_misses : K.lookup f_mean_misses = some ⟨oc_mean_misses, od_mean_misses, .func (PySem.W.fnOf "mean_misses" "mean_misses" (defArgs s_mean_misses) (defBody s_mean_misses) (defScope s_mean_misses) .none kV_mean_misses dc_mean_misses pm_mean_misses an_mean_misses cd_mean_misses ct_mean_misses), sl_mean_misses⟩) (c_mean_misses : PySem.W.codeIn K cd_mean_misses "mean_misses" = true) (k_mean_misses : PySem.W.keepIn K (.ref f_mean_misses) = true)
    (a_law_taken : PySem.W.nsIn K mainGlobals "_law_taken" = some (some (.ref f_law_taken))) (l_law_taken : K.lookup f_law_taken = some ⟨oc_law_taken, od_law_taken, .func (PySem.W.fnOf "_law_taken" "_law_taken" (defArgs s_law_taken) (defBody s_law_taken) (defScope s_law_taken) .none kV_law_taken dc_law_taken pm_law_taken an_law_taken cd_law_taken ct_law_taken), sl_law_taken⟩) (c_law_taken : PySem.W.codeIn K cd_law_taken "_law_taken" = true) (k_law_taken : PySem.W.keepIn K (.ref f_law_taken) = true)
    (a_law_alike : PySem.W.nsIn K mainGlobals "_law_alike" = some (some (.ref f_law_alike))) (l_law_alike : K.lookup f_law_alike = some ⟨oc_law_alike, od_law_alike, .func (PySem.W.fnOf "_law_alike" "_law_alike" (defArgs s_law_alike) (defBody s_law_alike) (defScope s_law_alike) .none kV_law_alike dc_law_alike pm_law_alike an_law_alike cd_law_alike ct_law_alike), sl_law_alike⟩) (c_law_alike : PySem.W.codeIn K cd_law_alike "_law_alike" = true) (k_law_alike : PySem.W.keepIn K (.ref f_law_alike) = true)
    (a_law_machine : PySem.W.nsIn K mainGlobals "_law_machine" = some (some (.ref f_law_machine))) (l_law_machine : K.lookup f_law_machine = some ⟨oc_law_machine, od_law_machine, .func (PySem.W.fnOf "_law_machine" "_law_machine" (defArgs s_law_machine) (defBody s_law_machine) (defScope s_law_machine) .none kV_law_machine dc_law_machine pm_law_machine an_law_machine cd_law_machine ct_law_machine), sl_law_machine⟩) (c_law_machine : PySem.W.codeIn K cd_law_machine "_law_machine" = true) (k_law_machine : PySem.W.keepIn K (.ref f_law_machine) = true)
    (a_law_word : PySem.W.nsIn K mainGlobals "_law_word" = some (some (.ref f_law_word))) (l_law_word : K.lookup f_law_word = some ⟨oc_law_word, od_law_word, .func (PySem.W.fnOf "_law_word" "_law_word" (defArgs s_law_word) (defBody s_law_word) (defScope s_law_word) .none kV_law_word dc_law_word pm_law_word an_law_word cd_law_word ct_law_word), sl_law_word⟩) (c_law_word : PySem.W.codeIn K cd_law_word "_law_word" = true) (k_law_word : PySem.W.keepIn K (.ref f_law_word) = true)
    (a_law_low : PySem.W.nsIn K mainGlobals "_law_low" = some (some (.ref f_law_low))) (l_law_low : K.lookup f_law_low = some ⟨oc_law_low, od_law_low, .func (PySem.W.fnOf "_law_low" "_law_low" (defArgs s_law_low) (defBody s_law_low) (defScope s_law_low) .none kV_law_low dc_law_low pm_law_low an_law_low cd_law_low ct_law_low), sl_law_low⟩) (c_law_low : PySem.W.codeIn K cd_law_low "_law_low" = true) (k_law_low : PySem.W.keepIn K (.ref f_law_low) = true)
    (a_law_after : PySem.W.nsIn K mainGlobals "_law_after" = some (some (.ref f_law_after))) (l_law_after : K.lookup f_law_after = some ⟨oc_law_after, od_law_after, .func (PySem.W.fnOf "_law_after" "_law_after" (defArgs s_law_after) (defBody s_law_after) (defScope s_law_after) .none kV_law_after dc_law_after pm_law_after an_law_after cd_law_after ct_law_after), sl_law_after⟩) (c_law_after : PySem.W.codeIn K cd_law_after "_law_after" = true) (k_law_after : PySem.W.keepIn K (.ref f_law_after) = true)
    (a_law : PySem.W.nsIn K mainGlobals "law" = some (some (.ref f_law))) (l_law : K.lookup f_law = some ⟨oc_law, od_law, .func (PySem.W.fnOf "law" "law" (defArgs s_law) (defBody s_law) (defScope s_law) .none kV_law dc_law pm_law an_law cd_law ct_law), sl_law⟩) (c_law : PySem.W.codeIn K cd_law "law" = true) (k_law : PySem.W.keepIn K (.ref f_law) = true)
    (z_all : PySem.W.nsIn K mainGlobals "all" = some none)
    (z_bool : PySem.W.nsIn K mainGlobals "bool" = some none)
    (z_int : PySem.W.nsIn K mainGlobals "int" = some none)
    (z_isinstance : PySem.W.nsIn K mainGlobals "isinstance" = some none)
    (z_len : PySem.W.nsIn K mainGlobals "len" = some none)
    (z_list : PySem.W.nsIn K mainGlobals "list" = some none)
    (z_min : PySem.W.nsIn K mainGlobals "min" = some none)
    (z_range : PySem.W.nsIn K mainGlobals "range" = some none)
    (z_str : PySem.W.nsIn K mainGlobals "str" = some none)
    (z_sum : PySem.W.nsIn K mainGlobals "sum" = some none)
    (z_tuple : PySem.W.nsIn K mainGlobals "tuple" = some none)
    {t_MOST_STATES : Tok} (n_MOST_STATES : PySem.W.nsIn K mainGlobals "MOST_STATES" = some (some (.int 6 t_MOST_STATES)))
    {t_MOST_LETTERS : Tok} (n_MOST_LETTERS : PySem.W.nsIn K mainGlobals "MOST_LETTERS" = some (some (.int 3 t_MOST_LETTERS)))
    {t_MOST_ANSWER : Tok} (n_MOST_ANSWER : PySem.W.nsIn K mainGlobals "MOST_ANSWER" = some (some (.int 9 t_MOST_ANSWER)))
    {t_LONGEST_WORD : Tok} (n_LONGEST_WORD : PySem.W.nsIn K mainGlobals "LONGEST_WORD" = some (some (.int 4000 t_LONGEST_WORD)))
    {t_MOST_COPIES_BY_CHANCE : Tok} (n_MOST_COPIES_BY_CHANCE : PySem.W.nsIn K mainGlobals "MOST_COPIES_BY_CHANCE" = some (some (.int 25 t_MOST_COPIES_BY_CHANCE)))
    {t_GREATEST_BOTTOM : Tok} (n_GREATEST_BOTTOM : PySem.W.nsIn K mainGlobals "GREATEST_BOTTOM" = some (some (.int 100 t_GREATEST_BOTTOM)))
    (i_comb : PySem.W.nsIn K mainGlobals "comb" = some (some (.builtin "math.comb")))
    (i_gcd : PySem.W.nsIn K mainGlobals "gcd" = some (some (.builtin "math.gcd"))) :
    ∃ fd : FuncData, (∀ (s : Shared) (v : Value), BindsTo s fd ⟨[v], []⟩ [("script", v)]) ∧ ∀ base : Heap, K.In base → base.Ns mainGlobals mg → FnOk l.prog w K mg base CX0 11 fa fd ["script"] (spLaw K) := by
  have e := hfa.symm.trans (PySem.W.mg_of X G a_law)
  cases e
  have T : Txt K mg := ⟨PySem.W.mg_none_of X G z_all, PySem.W.mg_none_of X G z_bool, PySem.W.mg_none_of X G z_int, PySem.W.mg_none_of X G z_isinstance, PySem.W.mg_none_of X G z_len, PySem.W.mg_none_of X G z_list, PySem.W.mg_none_of X G z_min, PySem.W.mg_none_of X G z_range, PySem.W.mg_none_of X G z_str, PySem.W.mg_none_of X G z_sum, PySem.W.mg_none_of X G z_tuple, ⟨_, PySem.W.mg_of X G n_MOST_STATES⟩, ⟨_, PySem.W.mg_of X G n_MOST_LETTERS⟩, ⟨_, PySem.W.mg_of X G n_MOST_ANSWER⟩, ⟨_, PySem.W.mg_of X G n_LONGEST_WORD⟩, ⟨_, PySem.W.mg_of X G n_MOST_COPIES_BY_CHANCE⟩, ⟨_, PySem.W.mg_of X G n_GREATEST_BOTTOM⟩, PySem.W.mg_of X G i_comb, PySem.W.mg_of X G i_gcd⟩
  have F_is_integer := fun_mk (st := s_is_integer) l_is_integer c_is_integer k_is_integer
  have B_is_integer := F_is_integer.binds (ps := ["value", "low", "high"]) fun _ _ _ _ _ _ us hl => match us, hl with | [_, _, _], _ => rfl
  have F_is_tuple := fun_mk (st := s_is_tuple) l_is_tuple c_is_tuple k_is_tuple
  have B_is_tuple := F_is_tuple.binds (ps := ["value", "low", "high"]) fun _ _ _ _ _ _ us hl => match us, hl with | [_, _, _], _ => rfl
  have F_is_row := fun_mk (st := s_is_row) l_is_row c_is_row k_is_row
  have B_is_row := F_is_row.binds (ps := ["value", "greatest"]) fun _ _ _ _ _ _ us hl => match us, hl with | [_, _], _ => rfl
  have F_is_table := fun_mk (st := s_is_table) l_is_table c_is_table k_is_table
  have B_is_table := F_is_table.binds (ps := ["value", "height", "width", "greatest"]) fun _ _ _ _ _ _ us hl => match us, hl with | [_, _, _, _], _ => rfl
  have F_is_steps := fun_mk (st := s_is_steps) l_is_steps c_is_steps k_is_steps
  have B_is_steps := F_is_steps.binds (ps := ["value"]) fun _ _ _ _ _ _ us hl => match us, hl with | [_], _ => rfl
  have F_check_machine := fun_mk (st := s_check_machine) l_check_machine c_check_machine k_check_machine
  have B_check_machine := F_check_machine.binds (ps := ["machine"]) fun _ _ _ _ _ _ us hl => match us, hl with | [_], _ => rfl
  have F_is_word := fun_mk (st := s_is_word) l_is_word c_is_word k_is_word
  have B_is_word := F_is_word.binds (ps := ["machine", "value"]) fun _ _ _ _ _ _ us hl => match us, hl with | [_, _], _ => rfl
  have F_is_short_word := fun_mk (st := s_is_short_word) l_is_short_word c_is_short_word k_is_short_word
  have B_is_short_word := F_is_short_word.binds (ps := ["machine", "value"]) fun _ _ _ _ _ _ us hl => match us, hl with | [_, _], _ => rfl
  have F_check_word := fun_mk (st := s_check_word) l_check_word c_check_word k_check_word
  have B_check_word := F_check_word.binds (ps := ["machine", "word"]) fun _ _ _ _ _ _ us hl => match us, hl with | [_, _], _ => rfl
  have F_check_number := fun_mk (st := s_check_number) l_check_number c_check_number k_check_number
  have B_check_number := F_check_number.binds (ps := ["value", "low", "high"]) fun _ _ _ _ _ _ us hl => match us, hl with | [_, _, _], _ => rfl
  have F_state_behind := fun_mk (st := s_state_behind) l_state_behind c_state_behind k_state_behind
  have B_state_behind := F_state_behind.binds (ps := ["machine", "state", "word"]) fun _ _ _ _ _ _ us hl => match us, hl with | [_, _, _], _ => rfl
  have F_check_chance := fun_mk (st := s_check_chance) l_check_chance c_check_chance k_check_chance
  have B_check_chance := F_check_chance.binds (ps := ["chance"]) fun _ _ _ _ _ _ us hl => match us, hl with | [_], _ => rfl
  have F_lowest_terms := fun_mk (st := s_lowest_terms) l_lowest_terms c_lowest_terms k_lowest_terms
  have B_lowest_terms := F_lowest_terms.binds (ps := ["top", "bottom"]) fun _ _ _ _ _ _ us hl => match us, hl with | [_, _], _ => rfl
  have F_powers_of := fun_mk (st := s_powers_of) l_powers_of c_powers_of k_powers_of
  have B_powers_of := F_powers_of.binds (ps := ["number", "greatest"]) fun _ _ _ _ _ _ us hl => match us, hl with | [_, _], _ => rfl
  have F_right_numbers := fun_mk (st := s_right_numbers) l_right_numbers c_right_numbers k_right_numbers
  have B_right_numbers := F_right_numbers.binds (ps := ["machine", "way", "word"]) fun _ _ _ _ _ _ us hl => match us, hl with | [_, _, _], _ => rfl
  have F_top_of_most := fun_mk (st := s_top_of_most) l_top_of_most c_top_of_most k_top_of_most
  have B_top_of_most := F_top_of_most.binds (ps := ["copies", "right", "wrong"]) fun _ _ _ _ _ _ us hl => match us, hl with | [_, _, _], _ => rfl
  have F_tops_and_bottom := fun_mk (st := s_tops_and_bottom) l_tops_and_bottom c_tops_and_bottom k_tops_and_bottom
  have B_tops_and_bottom := F_tops_and_bottom.binds (ps := ["machine", "copies", "chance", "way", "word"]) fun _ _ _ _ _ _ us hl => match us, hl with | [_, _, _, _, _], _ => rfl
  have F_right_chances := fun_mk (st := s_right_chances) l_right_chances c_right_chances k_right_chances
  have B_right_chances := F_right_chances.binds (ps := ["machine", "copies", "chance", "way", "word"]) fun _ _ _ _ _ _ us hl => match us, hl with | [_, _, _, _, _], _ => rfl
  have F_mean_misses := fun_mk (st := s_mean_misses) l_mean_misses c_mean_misses k_mean_misses
  have B_mean_misses := F_mean_misses.binds (ps := ["machine", "copies", "chance", "way", "word"]) fun _ _ _ _ _ _ us hl => match us, hl with | [_, _, _, _, _], _ => rfl
  have F_law_taken := fun_mk (st := s_law_taken) l_law_taken c_law_taken k_law_taken
  have B_law_taken := F_law_taken.binds (ps := ["row", "many"]) fun _ _ _ _ _ _ us hl => match us, hl with | [_, _], _ => rfl
  have F_law_alike := fun_mk (st := s_law_alike) l_law_alike c_law_alike k_law_alike
  have B_law_alike := F_law_alike.binds (ps := ["found", "due"]) fun _ _ _ _ _ _ us hl => match us, hl with | [_, _], _ => rfl
  have F_law_machine := fun_mk (st := s_law_machine) l_law_machine c_law_machine k_law_machine
  have B_law_machine := F_law_machine.binds (ps := ["row", "states", "letters"]) fun _ _ _ _ _ _ us hl => match us, hl with | [_, _, _], _ => rfl
  have F_law_word := fun_mk (st := s_law_word) l_law_word c_law_word k_law_word
  have B_law_word := F_law_word.binds (ps := ["row", "machine", "most"]) fun _ _ _ _ _ _ us hl => match us, hl with | [_, _, _], _ => rfl
  have F_law_low := fun_mk (st := s_law_low) l_law_low c_law_low k_law_low
  have B_law_low := F_law_low.binds (ps := ["top", "bottom"]) fun _ _ _ _ _ _ us hl => match us, hl with | [_, _], _ => rfl
  have F_law_after := fun_mk (st := s_law_after) l_law_after c_law_after k_law_after
  have B_law_after := F_law_after.binds (ps := ["machine", "state", "word"]) fun _ _ _ _ _ _ us hl => match us, hl with | [_, _, _], _ => rfl
  refine ⟨PySem.W.fnOf "law" "law" (defArgs s_law) (defBody s_law) (defScope s_law) .none kV_law dc_law pm_law an_law cd_law ct_law, fun s v => .of_eq rfl, fun base _ _ => ?_⟩
  have h_is_integer := has_is_integer (P := l.prog) (w := w) (base := base) T  F_is_integer (PySem.W.mg_of X G a_is_integer) B_is_integer
  have h_is_tuple := has_is_tuple (P := l.prog) (w := w) (base := base) T  F_is_tuple (PySem.W.mg_of X G a_is_tuple) B_is_tuple
  have h_is_row := has_is_row (P := l.prog) (w := w) (base := base) T h_is_integer F_is_row (PySem.W.mg_of X G a_is_row) B_is_row
  have h_is_table := has_is_table (P := l.prog) (w := w) (base := base) T h_is_tuple h_is_row F_is_table (PySem.W.mg_of X G a_is_table) B_is_table
  have h_is_steps := has_is_steps (P := l.prog) (w := w) (base := base) T h_is_tuple h_is_table F_is_steps (PySem.W.mg_of X G a_is_steps) B_is_steps
  have h_check_machine := has_check_machine (P := l.prog) (w := w) (base := base) T h_is_tuple h_is_table h_is_steps F_check_machine (PySem.W.mg_of X G a_check_machine) B_check_machine
  have h_is_word := has_is_word (P := l.prog) (w := w) (base := base) T h_is_row F_is_word (PySem.W.mg_of X G a_is_word) B_is_word
  have h_is_short_word := has_is_short_word (P := l.prog) (w := w) (base := base) T h_is_tuple h_is_word F_is_short_word (PySem.W.mg_of X G a_is_short_word) B_is_short_word
  have h_check_word := has_check_word (P := l.prog) (w := w) (base := base) T h_is_short_word F_check_word (PySem.W.mg_of X G a_check_word) B_check_word
  have h_state_behind := has_state_behind (P := l.prog) (w := w) (base := base) T  F_state_behind (PySem.W.mg_of X G a_state_behind) B_state_behind
  have h_check_number := has_check_number (P := l.prog) (w := w) (base := base) T h_is_integer F_check_number (PySem.W.mg_of X G a_check_number) B_check_number
  have h_law_taken := has_law_taken (P := l.prog) (w := w) (base := base) T  F_law_taken (PySem.W.mg_of X G a_law_taken) B_law_taken
  have h_law_alike := has_law_alike (P := l.prog) (w := w) (base := base) T  F_law_alike (PySem.W.mg_of X G a_law_alike) B_law_alike
  have h_law_machine := has_law_machine (P := l.prog) (w := w) (base := base) T h_law_taken F_law_machine (PySem.W.mg_of X G a_law_machine) B_law_machine
  have h_law_word := has_law_word (P := l.prog) (w := w) (base := base) T h_law_taken F_law_word (PySem.W.mg_of X G a_law_word) B_law_word
  have h_lowest_terms := has_lowest_terms (P := l.prog) (w := w) (base := base) T  F_lowest_terms (PySem.W.mg_of X G a_lowest_terms) B_lowest_terms
  have h_powers_of := has_powers_of (P := l.prog) (w := w) (base := base) T  F_powers_of (PySem.W.mg_of X G a_powers_of) B_powers_of
  have h_right_numbers := has_right_numbers (P := l.prog) (w := w) (base := base) T h_state_behind F_right_numbers (PySem.W.mg_of X G a_right_numbers) B_right_numbers
  have h_top_of_most := has_top_of_most (P := l.prog) (w := w) (base := base) T h_powers_of F_top_of_most (PySem.W.mg_of X G a_top_of_most) B_top_of_most
  have h_check_chance := has_check_chance (P := l.prog) (w := w) (base := base) T h_is_tuple h_is_integer F_check_chance (PySem.W.mg_of X G a_check_chance) B_check_chance
  have h_tops_and_bottom := has_tops_and_bottom (P := l.prog) (w := w) (base := base) T h_check_machine h_check_number h_check_chance h_check_word h_right_numbers h_top_of_most h_powers_of F_tops_and_bottom (PySem.W.mg_of X G a_tops_and_bottom) B_tops_and_bottom
  have h_right_chances := has_right_chances (P := l.prog) (w := w) (base := base) T h_tops_and_bottom h_lowest_terms F_right_chances (PySem.W.mg_of X G a_right_chances) B_right_chances
  have h_mean_misses := has_mean_misses (P := l.prog) (w := w) (base := base) T h_tops_and_bottom h_lowest_terms F_mean_misses (PySem.W.mg_of X G a_mean_misses) B_mean_misses
  have h_law_low := has_law_low (P := l.prog) (w := w) (base := base) T  F_law_low (PySem.W.mg_of X G a_law_low) B_law_low
  have h_law_after := has_law_after (P := l.prog) (w := w) (base := base) T  F_law_after (PySem.W.mg_of X G a_law_after) B_law_after
  exact ok_law T h_right_chances h_mean_misses h_law_taken h_law_alike h_law_machine h_law_word h_law_low h_law_after (fun_mk (st := s_law) l_law c_law k_law)
end Kx
open PySem PySem.W PyProof.Rows
set_option maxHeartbeats 0 in
theorem PySem.Challenge.cw_pushedclerks_k63_whole_chances_holds : PySem.Challenge.rw_pushedclerks_k63_whole_chances.Holds := by
  w_on; o_law; k_head; (case hw => w_witness2)
  k_fill
  refine L2.walk_of (l := PySem.Challenge.rw_pushedclerks_k63_whole_chances) (n := 63) (k := 11) (x := "script") (CX := fun _ => L2.CX0) (sp := fun w => Kx.spLaw _) rfl (by decide) rfl ⟨rfl, by decide, by decide⟩ (fun w h Y => PySem.W.kIn_of Y) ?F (fun _ _ a ns hl _ hS => ⟨a, ns, rfl, hS, hl, fun _ => rfl⟩) (fun _ _ _ _ _ h => h)
  case F =>
    intro w mg fa h KX G hmg
    refine' Kx.all_mk KX G hmg ?a_is_integer ?l_is_integer ?c_is_integer ?k_is_integer ?a_is_tuple ?l_is_tuple ?c_is_tuple ?k_is_tuple ?a_is_row ?l_is_row ?c_is_row ?k_is_row ?a_is_table ?l_is_table ?c_is_table ?k_is_table ?a_is_steps ?l_is_steps ?c_is_steps ?k_is_steps ?a_check_machine ?l_check_machine ?c_check_machine ?k_check_machine ?a_is_word ?l_is_word ?c_is_word ?k_is_word ?a_is_short_word ?l_is_short_word ?c_is_short_word ?k_is_short_word ?a_check_word ?l_check_word ?c_check_word ?k_check_word ?a_check_number ?l_check_number ?c_check_number ?k_check_number ?a_state_behind ?l_state_behind ?c_state_behind ?k_state_behind ?a_check_chance ?l_check_chance ?c_check_chance ?k_check_chance ?a_lowest_terms ?l_lowest_terms ?c_lowest_terms ?k_lowest_terms ?a_powers_of ?l_powers_of ?c_powers_of ?k_powers_of ?a_right_numbers ?l_right_numbers ?c_right_numbers ?k_right_numbers ?a_top_of_most ?l_top_of_most ?c_top_of_most ?k_top_of_most ?a_tops_and_bottom ?l_tops_and_bottom ?c_tops_and_bottom ?k_tops_and_bottom ?a_right_chances ?l_right_chances ?c_right_chances ?k_right_chances ?a_mean_misses ?l_mean_misses ?c_mean_misses ?k_mean_misses ?a_law_taken ?l_law_taken ?c_law_taken ?k_law_taken ?a_law_alike ?l_law_alike ?c_law_alike ?k_law_alike ?a_law_machine ?l_law_machine ?c_law_machine ?k_law_machine ?a_law_word ?l_law_word ?c_law_word ?k_law_word ?a_law_low ?l_law_low ?c_law_low ?k_law_low ?a_law_after ?l_law_after ?c_law_after ?k_law_after ?a_law ?l_law ?c_law ?k_law ?z_all ?z_bool ?z_int ?z_isinstance ?z_len ?z_list ?z_min ?z_range ?z_str ?z_sum ?z_tuple ?n_MOST_STATES ?n_MOST_LETTERS ?n_MOST_ANSWER ?n_LONGEST_WORD ?n_MOST_COPIES_BY_CHANCE ?n_GREATEST_BOTTOM ?i_comb ?i_gcd
    (case a_is_integer => k_is)
    (case l_is_integer => k_is)
    (case c_is_integer => k_is)
    (case k_is_integer => k_is)
    (case a_is_tuple => k_is)
    (case l_is_tuple => k_is)
    (case c_is_tuple => k_is)
    (case k_is_tuple => k_is)
    (case a_is_row => k_is)
    (case l_is_row => k_is)
    (case c_is_row => k_is)
    (case k_is_row => k_is)
    (case a_is_table => k_is)
    (case l_is_table => k_is)
    (case c_is_table => k_is)
    (case k_is_table => k_is)
    (case a_is_steps => k_is)
    (case l_is_steps => k_is)
    (case c_is_steps => k_is)
    (case k_is_steps => k_is)
    (case a_check_machine => k_is)
    (case l_check_machine => k_is)
    (case c_check_machine => k_is)
    (case k_check_machine => k_is)
    (case a_is_word => k_is)
    (case l_is_word => k_is)
    (case c_is_word => k_is)
    (case k_is_word => k_is)
    (case a_is_short_word => k_is)
    (case l_is_short_word => k_is)
    (case c_is_short_word => k_is)
    (case k_is_short_word => k_is)
    (case a_check_word => k_is)
    (case l_check_word => k_is)
    (case c_check_word => k_is)
    (case k_check_word => k_is)
    (case a_check_number => k_is)
    (case l_check_number => k_is)
    (case c_check_number => k_is)
    (case k_check_number => k_is)
    (case a_state_behind => k_is)
    (case l_state_behind => k_is)
    (case c_state_behind => k_is)
    (case k_state_behind => k_is)
    (case a_check_chance => k_is)
    (case l_check_chance => k_is)
    (case c_check_chance => k_is)
    (case k_check_chance => k_is)
    (case a_lowest_terms => k_is)
    (case l_lowest_terms => k_is)
    (case c_lowest_terms => k_is)
    (case k_lowest_terms => k_is)
    (case a_powers_of => k_is)
    (case l_powers_of => k_is)
    (case c_powers_of => k_is)
    (case k_powers_of => k_is)
    (case a_right_numbers => k_is)
    (case l_right_numbers => k_is)
    (case c_right_numbers => k_is)
    (case k_right_numbers => k_is)
    (case a_top_of_most => k_is)
    (case l_top_of_most => k_is)
    (case c_top_of_most => k_is)
    (case k_top_of_most => k_is)
    (case a_tops_and_bottom => k_is)
    (case l_tops_and_bottom => k_is)
    (case c_tops_and_bottom => k_is)
    (case k_tops_and_bottom => k_is)
    (case a_right_chances => k_is)
    (case l_right_chances => k_is)
    (case c_right_chances => k_is)
    (case k_right_chances => k_is)
    (case a_mean_misses => k_is)
    (case l_mean_misses => k_is)
    (case c_mean_misses => k_is)
    (case k_mean_misses => k_is)
    (case a_law_taken => k_is)
    (case l_law_taken => k_is)
    (case c_law_taken => k_is)
    (case k_law_taken => k_is)
    (case a_law_alike => k_is)
    (case l_law_alike => k_is)
    (case c_law_alike => k_is)
    (case k_law_alike => k_is)
    (case a_law_machine => k_is)
    (case l_law_machine => k_is)
    (case c_law_machine => k_is)
    (case k_law_machine => k_is)
    (case a_law_word => k_is)
    (case l_law_word => k_is)
    (case c_law_word => k_is)
    (case k_law_word => k_is)
    (case a_law_low => k_is)
    (case l_law_low => k_is)
    (case c_law_low => k_is)
    (case k_law_low => k_is)
    (case a_law_after => k_is)
    (case l_law_after => k_is)
    (case c_law_after => k_is)
    (case k_law_after => k_is)
    (case a_law => k_is)
    (case l_law => k_is)
    (case c_law => k_is)
    (case k_law => k_is)
    (case z_all => k_is)
    (case z_bool => k_is)
    (case z_int => k_is)
    (case z_isinstance => k_is)
    (case z_len => k_is)
    (case z_list => k_is)
    (case z_min => k_is)
    (case z_range => k_is)
    (case z_str => k_is)
    (case z_sum => k_is)
    (case z_tuple => k_is)
    (case n_MOST_STATES => k_is)
    (case n_MOST_LETTERS => k_is)
    (case n_MOST_ANSWER => k_is)
    (case n_LONGEST_WORD => k_is)
    (case n_MOST_COPIES_BY_CHANCE => k_is)
    (case n_GREATEST_BOTTOM => k_is)
    (case i_comb => k_is)
    (case i_gcd => k_is)
