import PyProof.Rows.All
import Wide.All
import OpenK.AllK
import Wide.FinOn
import KE.KeyNested
import KE.GoesMore
import KE.GoesEnum
import HandS.ForMost
import HandS.Evl
import HandS.IsInst
import HandS.Style
import HandS.SetKeys
import HandS.TupLen
import HandS.TupAny
import HandS.Conv
import HandS.Rev
import HandS.ForExc
import HandS.WordsExc
import HandS.TryOnly
import HandS.SetFor
import HandS.Sort
import HandS.Strs
import HandS.Lambda
import HandS.ExcIs
import HandS.EndOwn
import HandS.TryMany
import HandS.SortInts
import HandS.Walk
import HandS.Zip
import HandS.DictComp
import HandS.Flow
import HandS.TupMul
import HandS.Zip0
import HandS.FStr
import HandS.Text
import HandS.Steps
import HandS.Small
import HandS.StrMore
import HandS.Property
import HandS.Codes
import HandS.ExcOwn
import HandS.ExcInit
import HandS.ExcField
import HandS.Gcd
import HandS.Wide
import HandS.SortKw
import KE.KMathGC
import HandS.TupSets
import KE.KDictDisplayH
import PyProof.DictTable
import PySem.Challenge.RW_pushedclerks_k00_whole_law
set_option Elab.async false
set_option linter.all false
set_option maxRecDepth 100000
set_option maxHeartbeats 4000000
namespace L2
open PySem PySem.Spec PyProof.Rows

/-! ### dicts whose keys are nested tuples -/
/-- at a: a dict with the keys, where they stand, and the values kvs -/
def DictN (P : Program) (w : World) (a : Addr) (kvs : List (NestedKey × Addr × V)) : HO := .ext fun h => (a == sysModules) = false ∧ kvs.length ≤ sizeLine ∧
  ∃ xs : List (NestedKey × Addr × Value), Paired (fun (p : NestedKey × Addr × V) (q : NestedKey × Addr × Value) => p.1 = q.1 ∧ p.2.1 = q.2.1 ∧ RelV p.2.2 q.2.2) kvs xs ∧
    ∃ o es ep, h.get? a = some o ∧ o.ExactDict ∧ o.data = .dict es ep ∧ es.toList = xs.map (entryOfKey (nestedKind P w)) ∧ (xs.map (·.1)).Nodup
mutual
/-- a value of the abstract heap is a key -/
inductive NKey (K : PySem.W.Frag) (H : Hp) : V → NestedKey → Prop
  | int (i : Int) : NKey K H (.int i) (.num i)
  | tup {a : Addr} {xs : List V} {ks : List NestedKey} : SqT K H a xs → NKeys K H xs ks → NKey K H (.ref a) (.tup ks)
inductive NKeys (K : PySem.W.Frag) (H : Hp) : List V → List NestedKey → Prop
  | nil : NKeys K H [] []
  | cons {v : V} {vs : List V} {k : NestedKey} {ks : List NestedKey} : NKey K H v k → NKeys K H vs ks → NKeys K H (v :: vs) (k :: ks)
end
def TKp (K : PySem.W.Frag) (H H' : Hp) : Prop := ∀ a xs, SqT K H a xs → SqT K H' a xs
mutual
theorem NKey.keep {K : PySem.W.Frag} {H H' : Hp} (e : TKp K H H') : ∀ (k : NestedKey) (v : V), NKey K H v k → NKey K H' v k
  | .num i, _, h => by cases h; exact .int i
  | .tup ks, _, h => by
    cases h with
    | tup h1 h2 => exact .tup (e _ _ h1) (NKeys.keep e ks _ h2)
  | .none, _, h => by cases h
  | .text _, _, h => by cases h
theorem NKeys.keep {K : PySem.W.Frag} {H H' : Hp} (e : TKp K H H') : ∀ (ks : List NestedKey) (vs : List V), NKeys K H vs ks → NKeys K H' vs ks
  | [], _, h => by cases h; exact .nil
  | k :: ks, _, h => by
    cases h with
    | cons h1 h2 => exact .cons (NKey.keep e k _ h1) (NKeys.keep e ks _ h2)
end
section
variable {X : Cx} {pinz : List (Addr × Obj)} {σ : St} {H : Hp} {s : Shared}
mutual
theorem NKey.is (I : Inv X pinz σ H s) : ∀ (k : NestedKey) (v : V) (u : Value), NKey X.K H v k → RelV v u → NestedIs s.heap k u
  | .num i, _, _, h, r => by
    cases h
    obtain ⟨t, rfl⟩ := r
    exact .int i t
  | .tup ks, _, _, h, r => by
    cases h with
    | tup h1 h2 =>
      cases r
      obtain ⟨its, rV, ⟨o, ho, hc, n, hd⟩, _⟩ := I.tuple h1
      exact .tup ho hc hd (NKeys.is I ks _ _ h2 rV)
  | .none, _, _, h, _ => by cases h
  | .text _, _, _, h, _ => by cases h
theorem NKeys.is (I : Inv X pinz σ H s) : ∀ (ks : List NestedKey) (vs : List V) (us : List Value), NKeys X.K H vs ks → Vals vs us → NestedAll s.heap ks us
  | [], _, _, h, r => by
    cases h
    cases r
    exact .nil
  | k :: ks, _, _, h, r => by
    cases h with
    | cons h1 h2 =>
      cases r with
      | cons r1 r2 => exact .cons (NKey.is I k _ _ h1 r1) (NKeys.is I ks _ _ h2 r2)
end
end
/-- what stands at a key -/
def atN (kvs : List (NestedKey × Addr × V)) (k : NestedKey) : Option V := (kvs.find? fun e => decide (e.1 = k)).map (·.2.2)
theorem atN_rel {kvs : List (NestedKey × Addr × V)} {xs : List (NestedKey × Addr × Value)} (r : Paired (fun (p : NestedKey × Addr × V) (q : NestedKey × Addr × Value) => p.1 = q.1 ∧ p.2.1 = q.2.1 ∧ RelV p.2.2 q.2.2) kvs xs) (k : NestedKey) :
    RelO (atN kvs k) ((atKey xs k).map (·.2)) := by
  induction r with
  | nil => exact True.intro
  | @cons p q ps qs h t ih =>
    obtain ⟨h1, _, h2⟩ := h
    by_cases e : p.1 = k
    · have y' : q.1 = k := h1.symm.trans e
      have b : atKey (q :: qs) k = some q.2 := by simp [atKey, List.find?_cons, y']
      have c : atN (p :: ps) k = some p.2.2 := by simp [atN, List.find?_cons, e]
      rw [b, c]; exact h2
    · have y' : ¬ q.1 = k := fun z => e (h1.trans z)
      have b : atKey (q :: qs) k = atKey qs k := by simp [atKey, List.find?_cons, y']
      have c : atN (p :: ps) k = atN ps k := by simp [atN, List.find?_cons, e]
      rw [b, c]; exact ih
theorem dictN_stay {P : Program} {w : World} {a : Addr} {kvs : List (NestedKey × Addr × V)} : ∀ h1 h2 : Heap, ((a == sysModules) = false ∧ kvs.length ≤ sizeLine ∧
  ∃ xs : List (NestedKey × Addr × Value), Paired (fun (p : NestedKey × Addr × V) (q : NestedKey × Addr × Value) => p.1 = q.1 ∧ p.2.1 = q.2.1 ∧ RelV p.2.2 q.2.2) kvs xs ∧
    ∃ o es ep, h1.get? a = some o ∧ o.ExactDict ∧ o.data = .dict es ep ∧ es.toList = xs.map (entryOfKey (nestedKind P w)) ∧ (xs.map (·.1)).Nodup) → (∀ o, h1.get? a = some o → h2.get? a = some o) → ((a == sysModules) = false ∧ kvs.length ≤ sizeLine ∧
  ∃ xs : List (NestedKey × Addr × Value), Paired (fun (p : NestedKey × Addr × V) (q : NestedKey × Addr × Value) => p.1 = q.1 ∧ p.2.1 = q.2.1 ∧ RelV p.2.2 q.2.2) kvs xs ∧
    ∃ o es ep, h2.get? a = some o ∧ o.ExactDict ∧ o.data = .dict es ep ∧ es.toList = xs.map (entryOfKey (nestedKind P w)) ∧ (xs.map (·.1)).Nodup) := by
  rintro h1 h2 ⟨z, y, xs, r, o, es, ep, e, c⟩ k
  exact ⟨z, y, xs, r, o, es, ep, k o e, c⟩
theorem dictN_ok {P : Program} {w : World} {H : Hp} {h : Heap} {a : Addr} {kvs : List (NestedKey × Addr × V)} {xs : List (NestedKey × Addr × Value)} (hd : (a == sysModules) = false) (hl : kvs.length ≤ sizeLine)
    (r : Paired (fun (p : NestedKey × Addr × V) (q : NestedKey × Addr × Value) => p.1 = q.1 ∧ p.2.1 = q.2.1 ∧ RelV p.2.2 q.2.2) kvs xs) (dd : h.DictOfH (nestedKind P w) a xs) : ObjOk P w H h a (DictN P w a kvs) := by
  obtain ⟨o, es, ep, h1, h2, h3, h4, _, h5⟩ := dd
  exact ⟨⟨hd, hl, xs, r, o, es, ep, h1, h2, h3, h4, h5⟩, ⟨o, h1⟩, dictN_stay⟩
/-- {} whose keys will be nested tuples -/
def tDNewN (P : Program) (w : World) : TE := fun _ H Q => ∀ p, H p = none → Q (.ref p) (upd H p (DictN P w p []))
theorem pe_dnewN {X : Cx} {pos : Pos} : PE X (.Dict [] [] pos) (tDNewN X.prog X.w) := ⟨fun pinz s σ H Q I h =>
  wpAny_Dict_empty ⟨.ref s.heap.objs.size, _, I.laid (a := s.heap.objs.size) (o := DictN X.prog X.w s.heap.objs.size []) (t' := s.toks) (fun _ _ q => Heap.get?_push_of_some _ q) (Nat.le_refl _)
    (dictN_ok (by have := I.big; exact beq_eq_false_iff_ne.mpr (Nat.ne_of_gt this)) (Nat.zero_le _) .nil (Heap.DictOfH.new s.heap)), rfl, h _ (I.hok.fresh (Nat.le_refl _))⟩⟩
section
variable {X : Cx} {pinz : List (Addr × Obj)} {σ : St} {H : Hp} {s : Shared} {a b : Addr} {A : Around} {E : Value → Shared → Prop}
theorem dictN_get {kvs : List (NestedKey × Addr × V)} (I : Inv X pinz σ H s) (e : H a = some (DictN X.prog X.w a kvs)) (hk : ∀ q ∈ kvs, NKey X.K H (.ref q.2.1) q.1 ∧ q.1.depth ≤ 8) :
    (a == sysModules) = false ∧ kvs.length ≤ sizeLine ∧ ∃ xs : List (NestedKey × Addr × Value), Paired (fun (p : NestedKey × Addr × V) (q : NestedKey × Addr × Value) => p.1 = q.1 ∧ p.2.1 = q.2.1 ∧ RelV p.2.2 q.2.2) kvs xs ∧ s.heap.DictOfH (nestedKind X.prog X.w) a xs := by
  obtain ⟨⟨z, y, xs, r, o, es, ep, h1, h2, h3, h4, h5⟩, _⟩ := I.hok a _ e
  refine ⟨z, y, xs, r, o, es, ep, h1, h2, h3, h4, fun x hx => ?_, h5⟩
  have all : ∀ {l : List (NestedKey × Addr × V)} {m : List (NestedKey × Addr × Value)}, Paired (fun (p : NestedKey × Addr × V) (q : NestedKey × Addr × Value) => p.1 = q.1 ∧ p.2.1 = q.2.1 ∧ RelV p.2.2 q.2.2) l m → (∀ q ∈ l, NKey X.K H (.ref q.2.1) q.1 ∧ q.1.depth ≤ 8) → ∀ x ∈ m, (nestedKind X.prog X.w).is s.heap x.1 x.2.1 := by
    intro l m q
    induction q with
    | nil => intro _ x hx; exact nomatch hx
    | @cons p q ps qs wq t ih =>
      intro hl x hx
      rcases List.mem_cons.mp hx with e | hx
      · subst e
        have := hl p List.mem_cons_self
        rw [← wq.1, ← wq.2.1]
        exact ⟨NKey.is I _ _ _ this.1 rfl, this.2⟩
      · exact ih (fun q wq => hl q (List.mem_cons_of_mem _ wq)) x hx
  exact all r hk x hx
theorem dn_setd {kvs : List (NestedKey × Addr × V)} {k : NestedKey} {d : V} {r : Value} {Q : Value → Shared → Prop} (hu : A.units + 9 < cLine) (I : Inv X pinz σ H s) (e : H a = some (DictN X.prog X.w a kvs)) (hk : ∀ q ∈ kvs, NKey X.K H (.ref q.2.1) q.1 ∧ q.1.depth ≤ 8)
    (ky : NKey X.K H (.ref b) k) (kd : k.depth ≤ 8) (rd : RelV d r) (hl : kvs.length < sizeLine)
    (h1 : ∀ v, atN kvs k = some v → ∀ (w' : Value) (s' : Shared), Inv X pinz σ H s' → RelV v w' → Q w' s') (h2 : atN kvs k = none → ∀ (w' : Value) (s' : Shared), Inv X pinz σ (upd H a (DictN X.prog X.w a (kvs ++ [(k, b, d)]))) s' → RelV d w' → Q w' s') :
    wpAny (model X.prog X.w) A (call (.builtin "dict.setdefault") [.ref a, .ref b, r]) Q E s := by
  obtain ⟨hd, z, xs, rel, dd⟩ := dictN_get I e hk
  have wz : xs.length ≤ sizeLine := by rw [← Paired.length rel]; exact z
  have rl := atN_rel rel k
  refine call_setdefault_heap (hsz := wz) (knd := nestedKind X.prog X.w) (show A.in1.units + 8 < cLine from by show A.units + 1 + 8 < cLine; omega) ⟨NKey.is I _ _ _ ky rfl, kd⟩ hd dd (fun p hp => ?_) fun hn h' dd' hs => ?_
  · rw [hp] at rl
    cases q0 : atN kvs k with
    | none => rw [q0] at rl; exact (show False from rl).elim
    | some v0 => rw [q0] at rl; exact h1 v0 q0 _ _ (I.tok _) rl
  · rw [hn] at rl
    cases q0 : atN kvs k with
    | some v0 => rw [q0] at rl; exact (show False from rl).elim
    | none =>
      rw [storedH_new hn] at dd'
      have he : ∃ q, h'.get? a = some q := let ⟨q, _, _, wq, _⟩ := dd'; ⟨q, wq⟩
      refine h2 q0 _ _ (d_write (t' := s.toks + (nestedKind X.prog X.w).draws k) I (by rw [e]; exact True.intro) hs he (dictN_ok hd ?_ (Paired.snoc rel ⟨rfl, rfl, rd⟩) dd')) rd
      rw [List.length_append]
      exact hl
end
/-- d.setdefault(y, z), y a tuple -/
def tDSetdN (K : PySem.W.Frag) (P : Program) (w : World) (td ty tx : TE) : TE := fun σ H Q => td σ H fun x H1 => ∃ a, x = .ref a ∧ (∃ kvs, H1 a = some (DictN P w a kvs)) ∧ ty σ H1 fun y H2 => tx σ H2 fun z H3 => ∃ (kvs : List (NestedKey × Addr × V)) (k : NestedKey) (b : Addr),
  H3 a = some (DictN P w a kvs) ∧ y = .ref b ∧ (∀ q ∈ kvs, NKey K H3 (.ref q.2.1) q.1 ∧ q.1.depth ≤ 8) ∧ NKey K H3 (.ref b) k ∧ k.depth ≤ 8 ∧ kvs.length < sizeLine ∧
  (∀ v, atN kvs k = some v → Q v H3) ∧ (atN kvs k = none → Q z (upd H3 a (DictN P w a (kvs ++ [(k, b, z)]))))
section
variable {X : Cx} {o e f : Expr} {td ty tx : TE} {apos cpos : Pos}
theorem pe_dsetdN (hu : X.A.units + 9 < cLine) (ho : PE X o td) (he : PE X e ty) (hf : PE X f tx) (m : M2 X o "setdefault" apos e f cpos) : PE X (.Call (.Attribute o "setdefault" apos) [e, f] [] cpos) (tDSetdN X.K X.prog X.w td ty tx) := by
  refine ⟨fun pinz s σ H Q I h => ?_⟩
  refine wpAny_Call_method m.base m.few m.line PySem.F.plainAttrs_dict PySem.F.slot_dict_setdefault PySem.F.type_dict_setdefault (thn (ho.run pinz s σ H _ I h) fun u z1 ⟨x, H1, J1, rx, a, ex, ⟨kvs0, d0⟩, k1⟩ => ?_)
  subst ex
  obtain rfl : u = Value.ref a := rx
  have tt : z1.TypeIs (.ref a) "dict" ∧ (∀ b, Value.ref a = .ref b → ∃ ob, z1.heap.get? b = some ob ∧ ob.dict = none) := by
    obtain ⟨⟨_, _, xs, _, ob, es, ep, h1, h2, h3, _⟩, _⟩ := J1.hok a _ d0
    exact ⟨⟨ob, h1, h2.1⟩, fun b q => by cases q; exact ⟨ob, h1, h2.2.1⟩⟩
  refine ⟨tt.1, tt.2, ?_⟩
  rw [m.trees]
  refine Calls.callWith_builtin rfl (Calls.evalArgs_plain (Calls.spliced_cons (thn (he.run pinz z1 σ H1 _ J1 k1) fun iv z2 ⟨y, H2, J2, ry, k2⟩ =>
    Calls.spliced_cons (thn (hf.run pinz z2 σ H2 _ J2 k2) fun fv z3 ⟨z, H3, J3, rz, kvs, k, b, ea, ey, hk, ky, kd, hl, k3, k4⟩ => Calls.spliced_nil ?_))))
  subst ey
  obtain rfl : iv = Value.ref b := ry
  exact dn_setd hu J3 ea hk ky kd rz hl (fun v hv w' z4 I4 rw' => ⟨v, _, I4, rw', k3 v hv⟩) fun hn w' z4 I4 rw' => ⟨z, _, I4, rw', k4 hn⟩
end

/-! ### enumerate(t), t a tuple -/
theorem meets_enumerate_new1 {v : Value} {o : Obj} {H : Heap → Prop} (B : Begins v o H) :
    Meets (Builtin.«enumerate.__new__» ⟨[.type "enumerate", v], []⟩) (fun _ R s => H s.heap ∧
      R (.ok (.ret (.ref (s.heap.push o).objs.size))) { s with heap := (s.heap.push o).push { cls := .type "enumerate", data := .fields #[.none, .bool false, .ref s.heap.objs.size, rawInt 0, .none, .none] } }) :=
  .of_wp fun prog w A R s h => by
    obtain ⟨hp0, g, d, tk0, os0⟩ := s; obtain ⟨h1, h⟩ := h
    have wsub := sub_enumerate
    have k1 : ∀ {A' : Around} {E : Value → Shared → Prop} {Q : Value → Shared → Prop}, Q (.ref hp0.objs.size) ⟨hp0.push o, g, d, tk0, os0⟩ → wpAny (model prog w) A' (pyIter v) Q E ⟨hp0, g, d, tk0, os0⟩ :=
      fun q => B.iter prog w _ _ ⟨hp0, g, d, tk0, os0⟩ _ h1 q
    wp_walk using k1
    refine wpAny_stack_any fun st0 => wpAny_pure ?_
    split
    · rename_i c _ _ _ _ _
      cases (c == Value.type "enumerate")
      · wp_walk using k1
        exact ⟨_, rfl, h⟩
      · wp_walk using k1
        exact ⟨_, rfl, h⟩
    · wp_walk using k1
      exact ⟨_, rfl, h⟩
section
variable {prog : Program} {w : World} {A : Around} {E : Value → Shared → Prop} {s : Shared}
theorem enum_begins1 {v : Value} {o : Obj} {H : Heap → Prop} {Q : Value → Shared → Prop} (B : Begins v o H) (h1 : H s.heap)
    (h : ∀ h', IsEnum h' (s.heap.objs.size + 1) s.heap.objs.size 0 .none → h'.get? s.heap.objs.size = some o → h'.objs.size = s.heap.objs.size + 2 →
      (∀ b o, s.heap.get? b = some o → h'.get? b = some o) →
      Q (.ref (s.heap.objs.size + 1)) { s with heap := h' }) :
    wpAny (model prog w) A (call (.type "enumerate") [v]) Q E s := by
  refine callType_new F.called_enumerate (by decide)
    (F.typeCall_enumerate_1 _) (F.newCall_enumerate_1 _) (fun obj => F.args_object_init_2 obj _) F.entry_enumerate_new
    (meets_enumerate_new1 B) ⟨h1, ?_⟩
  have wz : (s.heap.push o).objs.size = s.heap.objs.size + 1 := Heap.size_push ..
  show _ ∧ _
  rw [wz]
  have he0 : IsEnum ((s.heap.push o).push { cls := .type "enumerate", data := .fields #[.none, .bool false, .ref s.heap.objs.size, rawInt 0, .none, .none] }) (s.heap.objs.size + 1) s.heap.objs.size 0 .none := by
    have := Heap.get?_push_size (s.heap.push o) (o := { cls := .type "enumerate", data := .fields #[.none, .bool false, .ref s.heap.objs.size, rawInt 0, .none, .none] }) rfl
    rw [wz] at this; exact this
  refine ⟨⟨_, he0, rfl⟩, h _ he0 (Heap.get?_push_of_some _ (Heap.get?_push_size _ B.free)) (by rw [Heap.size_push, wz]) fun b o x => Heap.get?_push_of_some _ (Heap.get?_push_of_some _ x)⟩
end
/-- the tuple at a as it stands at each turn, each item in a new pair -/
def IteT (K : PySem.W.Frag) (a : Addr) : It :=
  ⟨fun i H => ∃ (ws : List V) (x : V), SqT K H a ws ∧ ws[i]? = some x, fun i H v H' => ∃ T x, v = .ref T ∧ H T = none ∧ H' = upd H T (.tup [.int (i : Nat), x]) ∧ ∀ ws, SqT K H a ws → ws[i]? = some x, fun i H => ∃ ws : List V, SqT K H a ws ∧ ws.length = i⟩
theorem turn_enumT {P : Program} {w : World} {K : PySem.W.Frag} {elts : List Expr} {kk : Nat} {tpos : Pos} (a e it : Addr) (hai : a ≠ it) (hae : a ≠ e) (hei : e ≠ it) :
    Turn P w K (.Tuple elts kk tpos) (IteT K a) [e, it] e (fun i h => (∃ old, IsEnum h e it ((i : Nat) : Int) old) ∧ h.IsTupleIter it a i) where
  mem := by simp
  obj := fun i h st0 b hb0 => by
    obtain ⟨⟨old, he0⟩, ⟨o, ho0, hc0, hd⟩⟩ := st0
    have yy : b = e ∨ b = it := by simpa using hb0
    rcases yy with z | z
    · rw [z]; exact ⟨_, he0, fun v q => nomatch q⟩
    · rw [z]; exact ⟨o, ho0, fun v q => by rw [hd] at q; cases q⟩
  keep := fun i h h' st0 k => let ⟨⟨old, he0⟩, hi⟩ := st0; ⟨⟨old, k e (by simp) _ he0⟩, hi.at fun o q => k it (by simp) o q⟩
  item := by
    intro X hP hw hK hc0 i pinz s σ H E I hf st0 hg
    subst hP hw hK
    obtain ⟨⟨old, he0⟩, wit⟩ := st0
    obtain ⟨ws, x, wq, hx⟩ := hg
    obtain ⟨its, rV, p, wz⟩ := I.tuple wq
    obtain ⟨u, hu, ru⟩ := rV.get hx
    have wel : e < s.heap.objs.size := Heap.lt_size he0
    have wil : it < s.heap.objs.size := by obtain ⟨_, q, _⟩ := wit; exact Heap.lt_size q
    have D := Draws.tuple (prog := X.prog) (w := X.w) (A := X.A.in1) (I.ok.hd hc0) it a hai its.toArray
    refine wpAny_pyNext_enum_itemD D he0 ⟨wit, p⟩ (by
      have := (List.getElem?_eq_some_iff.mp hu).1
      simpa using this) hei (by simp [hei, hae.symm]) fun x' h' tk0 hP ho0 stt hT hsz hk0 => ?_
    have ex' : x' = u := by
      have hPp : its[i]? = some x' := by simpa using hP
      rw [hu] at hPp
      exact (Option.some.inj hPp).symm
    subst ex'
    refine ⟨_, rfl, wpAny_letOwnedTupleGo_enum (s := { s with heap := h', toks := tk0 + 1 }) ho0 fun hh2 he' sb => ?_⟩
    have wT2 : hh2.get? s.heap.objs.size = some { cls := .type "tuple", data := .seq #[.int i tk0, x'] } := (sb.2 _ (Nat.ne_of_gt wel)).trans hT
    have new : ObjOk X.prog X.w (upd H s.heap.objs.size (.tup [.int (i : Nat), x])) hh2 s.heap.objs.size (.tup [.int (i : Nat), x]) :=
      ⟨by show 2 ≤ sizeLine; decide, [.int i tk0, x'], .cons ⟨_, rfl⟩ (.cons ru .nil), ⟨_, wT2, rfl, _, rfl⟩⟩
    have J1 : Inv X pinz σ (upd H s.heap.objs.size (.tup [.int (i : Nat), x])) { s with heap := hh2, toks := tk0 + 1 } :=
      I.turnedNew (ch := [e, it]) (fun b ob0 hb0 q => (sb.2 b (fun z => hb0 (by simp [z]))).trans (hk0 b ob0 (fun z => hb0 (by simp [z])) (fun z => hb0 (by simp [z])) q)) hf (Nat.le_refl _) new
    refine ⟨.ref s.heap.objs.size, _, J1, rfl, ⟨_, x, rfl, I.hok.fresh (Nat.le_refl _), rfl, fun ys hy => by rw [I.tuple_inj hy wq]; exact hx⟩, ⟨⟨x', ?_⟩, stt.1.at fun o q => (sb.2 it (Ne.symm hei)).trans q⟩, fun b hb0 => ?_⟩
    · have ee1 : ((i + 1 : Nat) : Int) = (i : Int) + 1 := by omega
      rw [ee1]; exact he'
    · have wb' : b < s.heap.objs.size := by
        have yy : b = e ∨ b = it := by simpa using hb0
        rcases yy with z | z
        · rw [z]; exact wel
        · rw [z]; exact wil
      rw [upd_ne (Nat.ne_of_lt wb')]
      exact (hf b hb0).1
  done := by
    intro X hP hw hK hc0 i pinz s σ H E I hf st0 hg
    subst hP hw hK
    obtain ⟨⟨old, he0⟩, wit⟩ := st0
    obtain ⟨ws, wq, hx⟩ := hg
    obtain ⟨its, rV, p, wz⟩ := I.tuple wq
    obtain ⟨u0, u1, u2, u3, u4, u5⟩ := hf it (by simp)
    have hl := rV.length
    have D := Draws.tuple (prog := X.prog) (w := X.w) (A := X.A.in1) (I.ok.hd hc0) it a hai its.toArray
    have hn : its.toArray.size = i := by rw [List.size_toArray]; omega
    have stt : s.heap.IsTupleIter it a its.toArray.size ∧ s.heap.IsTuple a its.toArray := ⟨by rw [hn]; exact wit, p⟩
    exact wpAny_pyNext_enum_endD D he0 stt fun h' eb => ⟨rfl, I.turned (t' := s.toks) (fun b o hb0 q => eb b o hb0 q) u0 u1 u3 u4 u5⟩
  self := fun A i s Q E st0 h => let ⟨⟨_, he0⟩, _⟩ := st0; wpAny_pyIter_enum he0 h

def iEnumT (K : PySem.W.Frag) (ta : TA) : TI := fun σ H R => ta σ H fun vs H1 => ∃ a ws, vs = [.ref a] ∧ SqT K H1 a ws ∧ R (IteT K a) H1
theorem pi_enumT {X : Cx} {e : Expr} {ta : TA} {p pos tpos : Pos} {elts : List Expr} {kk : Nat} (hg : Gl X "enumerate") (hm : X.mg "enumerate" = none) (ha : PA X [e] ta) (hs : starEach [e] X.env = [(false, eval e X.env)] := by rfl) :
    PI X (.Tuple elts kk tpos) (.Call (.Name "enumerate" p) [e] [] pos) (iEnumT X.K ta) := by
  refine ⟨fun pinz s σ H R I h => ?_⟩
  refine Call_ (ld_blt I hg hm boot_enumerate (PyProof.Rows.callWith_type1 (thn (ha.run pos pinz s σ H _ I h) fun us z1 ⟨vs, H1, J1, r1, k1⟩ => ?_) hs rfl))
  obtain ⟨a, ws, ex, wq, q⟩ := k1
  subst ex
  cases r1 with
  | cons r rr =>
    cases rr
    cases r
    obtain ⟨its, rV, p', wz⟩ := J1.tuple wq
    have wal : a < z1.heap.objs.size := by obtain ⟨o, ho0, _⟩ := p'; exact Heap.lt_size ho0
    refine enum_begins1 (begins_tuple a its.toArray) p' fun h' he0 wit hsz hk0 => wpAny_pyIter_enum he0 ?_
    have J2 : Inv X pinz σ H1 { z1 with heap := h' } := J1.kept (t' := z1.toks) hk0
    refine ⟨z1.heap.objs.size + 1, [z1.heap.objs.size + 1, z1.heap.objs.size], _, _, H1, rfl, J2, turn_enumT a (z1.heap.objs.size + 1) z1.heap.objs.size (Nat.ne_of_lt wal) (Nat.ne_of_lt (Nat.lt_succ_of_lt wal)) (Nat.succ_ne_self _), ⟨⟨.none, he0⟩, ⟨_, wit, rfl, rfl⟩⟩, fun b hb0 => ?_, q⟩
    have yy : b = z1.heap.objs.size + 1 ∨ b = z1.heap.objs.size := by simpa using hb0
    have wle : z1.heap.objs.size ≤ b := by
      rcases yy with z | z
      · rw [z]; exact Nat.le_add_right _ _
      · rw [z]; exact Nat.le_refl _
    exact J1.fpOk wle (J1.hok.fresh wle)
/-- a loop over enumerate of a tuple that stands still -/
theorem for_enumT {K : PySem.W.Frag} {a : Addr} {ws : List V} {g : TG} {tb : TS} {D : Ends} {σ : St} {H : Hp} (Pw : Nat → St → Hp → Prop) (h0 : Pw 0 σ H) (hl : ∀ i σ H, i ≤ ws.length → Pw i σ H → SqT K H a ws)
    (hs : ∀ i x T σ H, ws[i]? = some x → Pw i σ H → H T = none → g (.ref T) σ (upd H T (.tup [.int (i : Nat), x])) fun σ2 H2 => tb { D with nx := Pw (i + 1), ct := Pw (i + 1), bk := D.nx } σ2 H2) (hd : ∀ σ H, Pw ws.length σ H → D.nx σ H) :
    ∃ W : Nat → Nat → St → Hp → Prop, (∃ m, W 0 m σ H) ∧
      ∀ i m σ H, W i m σ H →
      ((IteT K a).stop i H ∧ D.nx σ H) ∨ ((IteT K a).go i H ∧ ∃ N : St → Hp → Prop, (∀ σ' H', N σ' H' → ∃ m', m' < m ∧ W (i + 1) m' σ' H') ∧ ∀ x H', (IteT K a).yld i H x H' → g x σ H' fun σ2 H2 => tb { D with nx := N, ct := N, bk := D.nx } σ2 H2) := by
  refine ⟨fun i m σ H => m = ws.length - i ∧ i ≤ ws.length ∧ Pw i σ H, ⟨ws.length, by simp, Nat.zero_le _, h0⟩, ?_⟩
  rintro i m σ H ⟨rfl, hi, p⟩
  have q := hl i σ H hi p
  by_cases hlt0 : i < ws.length
  · refine .inr ⟨⟨ws, ws[i], q, by simp [hlt0]⟩, Pw (i + 1), fun σ' H' p' => ⟨ws.length - (i + 1), by omega, rfl, hlt0, p'⟩, fun x H' y => ?_⟩
    obtain ⟨T, x', ee1, nT, e2, y⟩ := y
    subst ee1 e2
    exact hs i x' T σ H (y ws q) p nT
  · have e : i = ws.length := by omega
    subst e
    exact .inl ⟨⟨ws, q, rfl⟩, hd σ H p⟩

/-! ### a def of the text, by its name -/
structure Has (P : Program) (w : World) (K : PySem.W.Frag) (mg : Str → Option Value) (base : Heap) (x : Str) (k : Nat) (ps : List Str) (sp : Sp) : Prop where
  ex : ∃ (f : Addr) (fd : FuncData), mg x = some (.ref f) ∧ PySem.W.keepIn K (.ref f) = true ∧ Binds K fd ps [] ∧ FnOk P w K mg base CX0 k f fd ps sp
theorem Has.mk' {P : Program} {w : World} {K : PySem.W.Frag} {mg : Str → Option Value} {base : Heap} {x : Str} {k : Nat} {ps : List Str} {sp : Sp} {f : Addr} {fd : FuncData} (h1 : mg x = some (.ref f)) (h2 : PySem.W.keepIn K (.ref f) = true) (h3 : Binds K fd ps []) (h4 : FnOk P w K mg base CX0 k f fd ps sp) : Has P w K mg base x k ps sp := ⟨⟨f, fd, h1, h2, h3, h4⟩⟩
theorem pe_has {X : Cx} {x : Str} {k : Nat} {ps : List Str} {sp : Sp} {e : Expr} {es : List Expr} {t : TA} {p pos : Pos} (h : Has X.prog X.w X.K X.mg X.base x k ps sp) (hr : Room k X.A) (hg : Gl X x)
    (ha : PA X (e :: es) t)
    (hdb : (x == ("__debug__" : Str)) = false := by decide) (he : starEach (e :: es) X.env = (false, eval e X.env) :: starEach es X.env := by rfl) (hpl : (backTo pos (starEach es X.env)).any (·.1) = false := by rfl) :
    PE X (.Call (.Name x p) (e :: es) [] pos) (tCall sp [] E0 t) := by
  obtain ⟨f, fd, h1, h2, h3, h4⟩ := h.ex
  exact pe_call h4 hr hg h1 h2 h3 .nil pass0 ha hdb he hpl
theorem pe_globI {X : Cx} {x : Str} {n : Int} {pos : Pos} (hg : Gl X x) (h : ∃ t, X.mg x = some (.int n t)) (hd : (x == ("__debug__" : Str)) = false := by decide) (hcd : True := trivial) : PE X (.Name x pos) (tC (.int n)) := by
  obtain ⟨t, e⟩ := h
  exact pe_glob hg e ⟨_, rfl⟩ hd
/-! ### tuples of whole numbers, tables, machines -/
def nV (n : Nat) : V := .int (n : Int)
def rowV (r : List Nat) : List V := r.map nV
def RowAt (K : PySem.W.Frag) (H : Hp) (v : V) (r : List Nat) : Prop := ∃ a, v = .ref a ∧ SqT K H a (rowV r)
def TabAt (K : PySem.W.Frag) (H : Hp) (v : V) (t : List (List Nat)) : Prop := ∃ a vs, v = .ref a ∧ SqT K H a vs ∧ Paired (RowAt K H) vs t
def MacAt (K : PySem.W.Frag) (H : Hp) (v : V) (s t : List (List Nat)) : Prop := ∃ a x y, v = .ref a ∧ SqT K H a [x, y] ∧ TabAt K H x s ∧ TabAt K H y t
theorem TKp.refl {K : PySem.W.Frag} {H : Hp} : TKp K H H := fun _ _ h => h
theorem TKp.trans {K : PySem.W.Frag} {H H1 H2 : Hp} (a : TKp K H H1) (b : TKp K H1 H2) : TKp K H H2 := fun x xs h => b x xs (a x xs h)
theorem TKp.ex {K : PySem.W.Frag} {H H' : Hp} (e : Evl.Ex H H') : TKp K H H' := fun _ _ h => Evl.ex_t e h
theorem TKp.upd {K : PySem.W.Frag} {H : Hp} {a : Addr} {o o' : HO} (h : H a = some o) (hn : ∀ xs, o ≠ .tup xs) (hf : ∀ ob xs, o ≠ .frz ob (.tup xs)) : TKp K H (upd H a o') := fun b xs q => by
  rcases q with (q | ⟨ob, q⟩) | q
  · exact .inl (.inl (by rw [upd_ne (fun e => by subst e; rw [h] at q; exact hn _ (Option.some.inj q))]; exact q))
  · exact .inl (.inr ⟨ob, by rw [upd_ne (fun e => by subst e; rw [h] at q; exact hf _ _ (Option.some.inj q))]; exact q⟩)
  · exact .inr q
theorem TKp.lst {K : PySem.W.Frag} {H : Hp} {a : Addr} {xs : List V} {o' : HO} (h : H a = some (.lst xs)) : TKp K H (L2.upd H a o') := TKp.upd h (fun _ z => by cases z) (fun _ _ z => by cases z)
theorem RowAt.keep {K : PySem.W.Frag} {H H' : Hp} (e : TKp K H H') {v : V} {r : List Nat} (h : RowAt K H v r) : RowAt K H' v r := let ⟨a, h1, h2⟩ := h; ⟨a, h1, e _ _ h2⟩
theorem TabAt.keep {K : PySem.W.Frag} {H H' : Hp} (e : TKp K H H') {v : V} {t : List (List Nat)} (h : TabAt K H v t) : TabAt K H' v t := let ⟨a, vs, h1, h2, h3⟩ := h; ⟨a, vs, h1, e _ _ h2, Paired.mapP h3 fun _ _ q => q.keep e⟩
theorem MacAt.keep {K : PySem.W.Frag} {H H' : Hp} (e : TKp K H H') {v : V} {s t : List (List Nat)} (h : MacAt K H v s t) : MacAt K H' v s t := let ⟨a, x, y, h1, h2, h3, h4⟩ := h; ⟨a, x, y, h1, e _ _ h2, h3.keep e, h4.keep e⟩
theorem Paired.get {α β : Type} {F : α → β → Prop} : ∀ {l : List α} {m : List β} {i : Nat} {y : β}, Paired F l m → m[i]? = some y → ∃ x, l[i]? = some x ∧ F x y
  | _, _, _, _, .nil, e => by simp at e
  | _, _, 0, _, .cons r _, e => by simp at e; subst e; exact ⟨_, rfl, r⟩
  | _, _, i + 1, y, .cons _ t, e => by
    obtain ⟨u, h1, h2⟩ := Paired.get (i := i) (y := y) t (by simpa using e)
    exact ⟨u, by simpa using h1, h2⟩
theorem Paired.get' {α β : Type} {F : α → β → Prop} : ∀ {l : List α} {m : List β} {i : Nat} {x : α}, Paired F l m → l[i]? = some x → ∃ y, m[i]? = some y ∧ F x y
  | _, _, _, _, .nil, e => by simp at e
  | _, _, 0, _, .cons r _, e => by simp at e; subst e; exact ⟨_, rfl, r⟩
  | _, _, i + 1, y, .cons _ t, e => by
    obtain ⟨u, h1, h2⟩ := Paired.get' (i := i) (x := y) t (by simpa using e)
    exact ⟨u, by simpa using h1, h2⟩
theorem rowV_at {r : List Nat} {i n : Nat} (h : r[i]? = some n) : (rowV r)[i]? = some (nV n) := by unfold rowV; rw [List.getElem?_map, h]; rfl
theorem rowV_len (r : List Nat) : (rowV r).length = r.length := by unfold rowV; rw [List.length_map]
/-- an all of a comprehension's answers: each item true -/
theorem small {n : Nat} (h : n ≤ 100000) : n < sizeLine := Nat.lt_of_le_of_lt h (by decide)
theorem sqT_ty {K : PySem.W.Frag} {H : Hp} {a : Addr} {xs : List V} (h : SqT K H a xs) : TyX K H (.ref a) (.type "tuple") := by
  rcases h with (h | ⟨o, h⟩) | ⟨o, its, n, e, c, _⟩
  · exact .base (.tup h)
  · exact .fTuple h
  · exact .kTuple e c
theorem sqL_ty {K : PySem.W.Frag} {H : Hp} {a : Addr} {xs : List V} (h : SqL K H a xs) : TyX K H (.ref a) (.type "list") := by
  rcases h with (h | ⟨o, h⟩) | ⟨o, its, n, e, c, _⟩
  · exact .base (.lst h)
  · exact .base (.frz h)
  · exact .kList e c
/-! ### what evaluates to what: tuples -/
open Evl
section
variable {K : PySem.W.Frag} {σ : L2.St} {H H' : Hp} {ta tb te tx : TE} {t u : TT} {x y z v : V} {D : Ends} {tu tw tz : TS} {g : TG}
theorem ev_isi {T U : String} {b : Bool} (ha : Ev ta σ H x) (hy : ∀ H1, Ex H H1 → TyX K H1 x (.type T)) (hk : kitB T U = some b) : Ev (tCB (rIsi K) (tCons ta (tCons (tC (.ty U)) tNil))) σ H (.bl b) := fun H1 e Q q =>
  ha H1 e _ fun H2 e2 => ⟨x, .ty U, _, _, b, rfl, .ty _, hy H2 (e.trans e2), kit_ty hk, q H2 e2⟩
theorem ev_lenT {p : Addr} {xs : List V} (ha : Ev ta σ H (.ref p)) (h : SqT K H p xs) : Ev (tCB (rLenS K) (tCons ta tNil)) σ H (.int (xs.length : Int)) := fun H1 e Q q =>
  ha H1 e _ fun H2 e2 => ⟨p, xs, rfl, Or.inr (ex_t (e.trans e2) h), q H2 e2⟩
theorem ev_allN {n : Nat} (ha : EvL ta σ H ((List.range n).map fun _ => V.bl true)) : Ev (tCB (rAll K) (tCons ta tNil)) σ H (.bl true) := fun H1 e Q q =>
  ha H1 e _ fun p H2 _ e2 h2 => ⟨p, (List.range n).map fun _ => true, rfl, sq_of (by rw [h2, List.map_map]; rfl), by
    have : ((List.range n).map fun _ => true).all id = true := by rw [List.all_eq_true]; intro b hb; obtain ⟨_, _, e⟩ := List.mem_map.mp hb; rw [← e]; rfl
    rw [this]
    exact q H2 e2⟩
theorem ev_chainLe {a b c : Int} (ha : Ev ta σ H (.int a)) (hb : Ev tb σ H (.int b)) (hc : Ev te σ H (.int c)) : Ev (tChain (rI0 fun i j => .bl (decide (i ≤ j))) (rI0 fun i j => .bl (decide (i ≤ j))) ta tb te) σ H (.bl (decide (a ≤ b) && decide (b ≤ c))) := fun H1 e Q q =>
  ha H1 e _ fun H2 e2 => hb H2 (e.trans e2) _ fun H3 e3 => ⟨a, b, rfl, rfl, decide (a ≤ b), rfl, by
    by_cases h : a ≤ b
    · rw [decide_eq_true h]
      refine iteT (hc H3 ((e.trans e2).trans e3) _ fun H4 e4 => ⟨b, c, rfl, rfl, ?_⟩)
      have := q H4 ((e2.trans e3).trans e4)
      rw [decide_eq_true h, Bool.true_and] at this
      exact this
    · rw [decide_eq_false h]
      refine iteF ?_
      have := q H3 (e2.trans e3)
      rw [decide_eq_false h, Bool.false_and] at this
      exact this⟩
def gvn (n : Nat) (v : Nat → V) : List V := (List.range n).map v
theorem gvn_succ (n : Nat) (v : Nat → V) : gvn (n + 1) v = gvn n v ++ [v n] := by unfold gvn; rw [List.range_succ, List.map_append]; rfl
theorem gvn_len (n : Nat) (v : Nat → V) : (gvn n v).length = n := by unfold gvn; rw [List.length_map, List.length_range]
def Cv (H : Hp) (v : Nat → V) (Dl : Addr) (i : Nat) (H' : Hp) : Prop := H Dl = none ∧ Ex H H' ∧ H' Dl = some (.lst (gvn i v))
theorem cv_turn {H H' : Hp} {v : Nat → V} {Dl : Addr} {i : Nat} {σ2 : L2.St} (p : Cv H v Dl i H') (hi : i < 50000) (he : Ev te σ2 H (v i)) :
    tYes σ2 H' fun b H3 => if b = true then te σ2 H3 fun y H4 => ∃ acc, H4 Dl = some (.lst acc) ∧ acc.length < sizeLine ∧ Cv H v Dl (i + 1) (upd H4 Dl (.lst (acc ++ [y]))) else Cv H v Dl (i + 1) H3 := by
  obtain ⟨p1, p2, p3⟩ := p
  show te σ2 H' fun y H4 => ∃ acc, H4 Dl = some (.lst acc) ∧ acc.length < sizeLine ∧ Cv H v Dl (i + 1) (upd H4 Dl (.lst (acc ++ [y])))
  refine he H' p2 _ fun H4 e4 => ⟨gvn i v, e4 Dl _ p3, sz_lt (by rw [gvn_len]; omega), p1, Ex.mut (p2.trans e4) p1, ?_⟩
  rw [gvn_succ]
  exact upd_same
/-- [e for x in t], t a tuple -/
theorem el_lcT {a : Addr} {xs : List V} {tl : TE} {j : Nat} {vs : List Nat} (v : Nat → V) (h : Ev tl σ H (.ref a)) (hx : SqT K H a xs) (wz : xs.length ≤ 40000) (hw : ∀ x, wipe ((wipe σ vs).set j (some x)) vs = wipe σ vs)
    (he : ∀ (i : Nat) (x : V) H1, Ex H H1 → xs[i]? = some x → Ev te ((wipe σ vs).set j (some x)) H1 (v i)) :
    EvL (tLc (iTup K tl) (gName j) tYes te vs) σ H (gvn xs.length v) := fun H0 e Q q => h H0 e _ fun H1 e1 => ⟨a, rfl, ⟨xs, ex_t (e.trans e1) hx⟩, fun Dl hD =>
  lc_tup (xs := xs) (Cv H1 v Dl) ⟨hD, Ex.new hD, upd_same⟩ (fun i H' _ p => ex_t ((e.trans e1).trans p.2.1) hx) (fun i x H' hi p => ⟨hw x, cv_turn p (by have := (List.getElem?_eq_some_iff.mp hi).1; omega) (he i x H1 (e.trans e1) hi)⟩)
    (fun H' p => q Dl H' (fresh_back e1 p.1) (e1.trans p.2.1) p.2.2)⟩
theorem el_lcLv {a : Addr} {xs : List V} {tl : TE} {j : Nat} {vs : List Nat} (v : Nat → V) (h : Ev tl σ H (.ref a)) (hx : SqL K H a xs) (wz : xs.length ≤ 40000) (hw : ∀ x, wipe ((wipe σ vs).set j (some x)) vs = wipe σ vs)
    (he : ∀ (i : Nat) (x : V) H1, Ex H H1 → xs[i]? = some x → Ev te ((wipe σ vs).set j (some x)) H1 (v i)) :
    EvL (tLc (iList K tl) (gName j) tYes te vs) σ H (gvn xs.length v) := fun H0 e Q q => h H0 e _ fun H1 e1 => ⟨a, rfl, ⟨xs, ex_l (e.trans e1) hx⟩, fun Dl hD =>
  lc_list (xs := xs) (Cv H1 v Dl) ⟨hD, Ex.new hD, upd_same⟩ (fun i H' _ p => ex_l ((e.trans e1).trans p.2.1) hx) (fun i x H' hi p => ⟨hw x, cv_turn p (by have := (List.getElem?_eq_some_iff.mp hi).1; omega) (he i x H1 (e.trans e1) hi)⟩)
    (fun H' p => q Dl H' (fresh_back e1 p.1) (e1.trans p.2.1) p.2.2)⟩
theorem el_lcRv {ta : TA} {j : Nat} {vs : List Nat} {n : Int} (v : Nat → V) (h : EvA ta σ H [.int n]) (hn : 0 ≤ n ∧ n ≤ 40000) (hw : ∀ x, wipe ((wipe σ vs).set j (some x)) vs = wipe σ vs)
    (he : ∀ (i : Nat) H1, Ex H H1 → (i : Int) < n → Ev te ((wipe σ vs).set j (some (.int (i : Int)))) H1 (v i)) :
    EvL (tLc (iRng1 ta) (gName j) tYes te vs) σ H (gvn n.toNat v) := fun H0 e Q q => h H0 e _ fun H1 e1 => ⟨n, rfl, by omega, by omega, fun Dl hD =>
  lc_range (lo := 0) (n := n.toNat) (Cv H1 v Dl) ⟨hD, Ex.new hD, upd_same⟩ (fun i H' hi p => by
    have z0 : (0 : Int) + (i : Int) = (i : Int) := Int.zero_add _
    show wipe ((wipe σ vs).set j (some (.int ((0 : Int) + (i : Int))))) vs = wipe σ vs ∧ tYes ((wipe σ vs).set j (some (.int ((0 : Int) + (i : Int))))) H' fun b H3 => if b = true then te ((wipe σ vs).set j (some (.int ((0 : Int) + (i : Int))))) H3 fun y H4 => ∃ acc, H4 Dl = some (.lst acc) ∧ acc.length < sizeLine ∧ Cv H1 v Dl (i + 1) (upd H4 Dl (.lst (acc ++ [y]))) else Cv H1 v Dl (i + 1) H3
    rw [z0]
    exact ⟨hw _, cv_turn p (by omega) (he i H1 (e.trans e1) (by omega))⟩) (fun H' p => q Dl H' (fresh_back e1 p.1) (e1.trans p.2.1) p.2.2)⟩
/-- tuple([..]) -/
def rTupOf (K : PySem.W.Frag) : List V → Hp → VK → Prop := fun xs H Q => ∃ p ys, xs = [.ref p] ∧ ((SqL K H p ys ∧ ∀ l, H l = none → Q (.ref l) (upd H l (.tup ys))) ∨ (SqT K H p ys ∧ Q (.ref p) H))
theorem eu_tupN {xs : List V} (h : EvL ta σ H xs) : EvU (tCB (rTupOf K) (tCons ta tNil)) σ H xs := fun H1 e Q q =>
  h H1 e _ fun p H2 hp e2 h2 => ⟨p, xs, rfl, Or.inl ⟨sq_of h2, fun l hl => q l _ (fresh_back e2 hl) (e2.trans (Ex.new hl)) upd_same⟩⟩
theorem eu_tupL {p : Addr} {xs : List V} (h : Ev ta σ H (.ref p)) (hs : SqL K H p xs) : EvU (tCB (rTupOf K) (tCons ta tNil)) σ H xs := fun H1 e Q q =>
  h H1 e _ fun H2 e2 => ⟨p, xs, rfl, Or.inl ⟨ex_l (e.trans e2) hs, fun l hl => q l _ (fresh_back e2 hl) (e2.trans (Ex.new hl)) upd_same⟩⟩
theorem ev_callV {sp : Sp} {vs : List V} {E : XK} {ta : TA} (h : EvA ta σ H vs) (hs : ∀ H1, Ex H H1 → ∀ Q : VK, (∀ H2, Ex H1 H2 → Q z H2) → sp vs H1 Q E) : Ev (tCall sp [] E ta) σ H z := fun H1 e Q q =>
  h H1 e _ fun H2 e2 => by
    rw [List.append_nil]
    exact hs H2 (e.trans e2) Q fun H3 e3 => q H3 (e2.trans e3)
end
section
variable {X : Cx} {K : PySem.W.Frag}
theorem ix_tupK (h : X.K = K) : IxR X (rIxT K) := by subst h; exact ix_tup
theorem ix_listK (h : X.K = K) : IxR X (rIxL K) := by subst h; exact ix_list
theorem call_lenK (h : X.K = K) : CallR X (.builtin "len") (Evl.rLenS K) := by subst h; exact call_len_seq
theorem call_isi1 (h : X.K = K) : CallR X (.builtin "isinstance") (rIsi K) := by subst h; exact call_isi
theorem call_isiTu (h : X.K = K) : CallR X (.builtin "isinstance") (rIsiT K) := by subst h; exact call_isiT
theorem call_tupleK (h : X.K = K) : CallR X (.type "tuple") (rTupOf K) := by subst h; exact call_tuple_of
theorem call_listK (h : X.K = K) : CallR X (.type "list") (Evl.rListS K) := by subst h; exact call_list_of
theorem sl_tupK (h : X.K = K) : SlR X (rSlT K) := by subst h; exact sl_tup
theorem op_eqDK (h : X.K = K) (hu : X.A.units + 64 < cLine) : OpR X (compareOp .Eq) (rEqD K) := by subst h; exact op_eqD hu
theorem op_neDK (h : X.K = K) (hu : X.A.units + 64 < cLine) : OpR X (compareOp .NotEq) (rNeD K) := by subst h; exact op_neD hu
end
theorem hu9_of {A : Around} {k : Nat} (hr : Room k A) : A.units + 9 < cLine := by have := hr.units; omega
/-- len of a dict with nested keys -/
def rLenN (K : PySem.W.Frag) (P : Program) (w : World) : List V → Hp → VK → Prop := fun xs H Q => ∃ (p : Addr) (kvs : List (NestedKey × Addr × V)), xs = [.ref p] ∧ H p = some (DictN P w p kvs) ∧ (∀ q ∈ kvs, NKey K H (.ref q.2.1) q.1 ∧ q.1.depth ≤ 8) ∧ Q (.int ((kvs.length : Nat) : Int)) H
theorem call_len_DN {X : Cx} : CallR X (.builtin "len") (rLenN X.K X.prog X.w) := by
  intro pinz s σ H xs us Q I r h
  obtain ⟨p, kvs, rfl, hp, hk, q⟩ := h
  obtain ⟨u, rfl, rx⟩ := vals1 r
  obtain rfl : u = .ref p := rx
  obtain ⟨hd, z, ys, rel, dd⟩ := dictN_get I hp hk
  have hl : kvs.length = ys.length := Paired.length rel
  refine call_len_dictH hd dd
    (by rw [← hl]; rw [sizeLine_eq] at z; omega) ?_
  rw [← hl]
  exact ⟨.int ((kvs.length : Nat) : Int), H, I.tok _, ⟨_, rfl⟩, q⟩
/-! ### lists of whole numbers compared -/
def rowD (r : List Nat) : List PyData := r.map fun (n : Nat) => .int (n : Int)
theorem eqv_rows : ∀ r q : List Nat, PyData.eqvAll (rowD r) (rowD q) = decide (r = q)
  | [], [] => by simp [rowD, PyData.eqvAll]
  | [], _ :: _ => by simp [rowD, PyData.eqvAll]
  | _ :: _, [] => by simp [rowD, PyData.eqvAll]
  | x :: r, y :: q => by
    have ih := eqv_rows r q
    show (PyData.eqv (.int (x : Int)) (.int (y : Int)) && PyData.eqvAll (rowD r) (rowD q)) = decide (x :: r = y :: q)
    rw [ih]
    simp only [PyData.eqv, List.cons.injEq, Bool.decide_and]
    congr 1
    rw [Bool.beq_eq_decide_eq]
    exact decide_eq_decide.mpr Int.ofNat_inj
theorem canLay_row : ∀ r : List Nat, PyData.canLayAll0 (rowD r) = true
  | [] => by simp [rowD, PyData.canLayAll0]
  | x :: r => by
    show (PyData.canLay0 (.int (x : Int)) && PyData.canLayAll0 (rowD r)) = true
    rw [canLay_row r]
    simp [PyData.canLay0]
theorem depth_row : ∀ r : List Nat, PyData.depthAll (rowD r) = 0
  | [] => by simp [rowD, PyData.depthAll]
  | x :: r => by
    show max (PyData.depth (.int (x : Int))) (PyData.depthAll (rowD r)) = 0
    rw [depth_row r]
    simp [PyData.depth]
theorem shaped_rowL (r : List Nat) : SeqAt.shaped (.list (rowD r)) = true := by
  unfold SeqAt.shaped
  simp only [PyData.canLay0, PyData.depth, canLay_row, depth_row]
  decide
theorem dp_row {K : PySem.W.Frag} {H : Hp} : ∀ r : List Nat, DpAll K H (rowV r) (rowD r)
  | [] => .nil
  | x :: r => .cons (.int _) (dp_row r)
theorem rv_eqRows {K : PySem.W.Frag} {H : Hp} {p q : Addr} {r s : List Nat} (hp : SqL K H p (rowV r)) (wq : SqL K H q (rowV s)) : Evl.RV (rEqD K) (.ref p) (.ref q) H (.bl (decide (r = s))) := fun H1 e Q k =>
  ⟨_, _, .lst (Evl.ex_l e hp) (dp_row r), .lst (Evl.ex_l e wq) (dp_row s), shaped_rowL r, shaped_rowL s, by
    rw [show PyData.eqv (.list (rowD r)) (.list (rowD s)) = decide (r = s) by rw [PyData.eqv]; exact eqv_rows r s]
    exact k H1 (Evl.Ex.refl H1)⟩
open Evl in
theorem eu_callU {sp : Sp} {vs xs : List V} {E : XK} {ta : TA} {σ : L2.St} {H : Hp} (h : EvA ta σ H vs) (hs : ∀ H1, Ex H H1 → ∀ Q : VK, (∀ p H2, H1 p = none → Ex H1 H2 → H2 p = some (.tup xs) → Q (.ref p) H2) → sp vs H1 Q E) : EvU (tCall sp [] E ta) σ H xs := fun H1 e Q q =>
  h H1 e _ fun H2 e2 => by
    rw [List.append_nil]
    exact hs H2 (e.trans e2) Q fun p H3 hp e3 h3 => q p H3 (fresh_back e2 hp) (e2.trans e3) h3
open Evl in
theorem el_callL {sp : Sp} {vs xs : List V} {E : XK} {ta : TA} {σ : L2.St} {H : Hp} (h : EvA ta σ H vs) (hs : ∀ H1, Ex H H1 → ∀ Q : VK, (∀ p H2, H1 p = none → Ex H1 H2 → H2 p = some (.lst xs) → Q (.ref p) H2) → sp vs H1 Q E) : EvL (tCall sp [] E ta) σ H xs := fun H1 e Q q =>
  h H1 e _ fun H2 e2 => by
    rw [List.append_nil]
    exact hs H2 (e.trans e2) Q fun p H3 hp e3 h3 => q p H3 (fresh_back e2 hp) (e2.trans e3) h3
theorem rowV_snoc (r : List Nat) (n : Nat) : rowV (r ++ [n]) = rowV r ++ [nV n] := by unfold rowV; rw [List.map_append]; rfl
theorem map_of {α β : Type} {f : α → β} {l : List α} {i : Nat} {y : β} (h : (l.map f)[i]? = some y) : ∃ x, l[i]? = some x ∧ y = f x := by
  rw [List.getElem?_map] at h
  cases e : l[i]? with
  | none => rw [e] at h; cases h
  | some x => rw [e] at h; exact ⟨x, rfl, (Option.some.inj h).symm⟩
theorem ix_seqK {X : Cx} {K : PySem.W.Frag} (h : X.K = K) : IxR X (rIx K) := by subst h; exact ix_seq
/-! ### a row of draws, written at each draw: what stands but it -/
def ExB (a : Addr) (H H' : Hp) : Prop := ∀ b o, b ≠ a → H b = some o → H' b = some o
theorem ExB.refl (a : Addr) (H : Hp) : ExB a H H := fun _ _ _ h => h
theorem ExB.trans {a : Addr} {H H1 H2 : Hp} (x : ExB a H H1) (y : ExB a H1 H2) : ExB a H H2 := fun b o n h => y b o n (x b o n h)
theorem ExB.of {a : Addr} {H H' : Hp} (e : Evl.Ex H H') : ExB a H H' := fun b o _ h => e b o h
theorem ExB.upd {a : Addr} {H : Hp} {o : HO} : ExB a H (L2.upd H a o) := fun b u n h => by rw [upd_ne n]; exact h
theorem ExB.mut {a p : Addr} {H H' : Hp} {o : HO} (e : ExB a H H') (h : H p = none) : ExB a H (L2.upd H' p o) := fun b u n hb => by
  rw [upd_ne (ne_of_none hb h)]
  exact e b u n hb
theorem ExB.fresh {a p : Addr} {H H' : Hp} (e : ExB a H H') (n : p ≠ a) (h : H' p = none) : H p = none := by
  cases q : H p with
  | none => rfl
  | some o => rw [e p o n q] at h; cases h
theorem ExB.tk {K : PySem.W.Frag} {a : Addr} {H H' : Hp} {xs : List V} (e : ExB a H H') (h : H a = some (.lst xs)) : TKp K H H' := fun b ys q => by
  rcases q with (q | ⟨ob, q⟩) | q
  · exact .inl (.inl (e b _ (fun z => by subst z; rw [h] at q; cases q) q))
  · exact .inl (.inr ⟨ob, e b _ (fun z => by subst z; rw [h] at q; cases q) q⟩)
  · exact .inr q
theorem ExB.seq {K : PySem.W.Frag} {a b : Addr} {H H' : Hp} {xs : List V} (e : ExB a H H') (n : b ≠ a) (h : SqL K H b xs) : SqL K H' b xs := by
  rcases h with (h | ⟨o, h⟩) | h
  · exact .inl (.inl (e _ _ n h))
  · exact .inl (.inr ⟨o, e _ _ n h⟩)
  · exact .inr h
/-- the row that the draws are taken from: the script, a place, a number, a rest -/
def RowOk (K : PySem.W.Frag) (H : Hp) (a scr : Addr) (ns : List Int) : Prop := (∃ i z q : Int, H a = some (.lst [.ref scr, .int i, .int z, .int q]) ∧ 0 ≤ i ∧ 0 ≤ z ∧ z < 2147483647) ∧ (∀ H', ExB a H H' → SqL K H' scr (ns.map V.int)) ∧ ns.length ≤ 63
theorem RowOk.lst {K : PySem.W.Frag} {H : Hp} {a scr : Addr} {ns : List Int} (h : RowOk K H a scr ns) : ∃ xs, H a = some (.lst xs) := let ⟨⟨_, _, _, h, _⟩, _⟩ := h; ⟨_, h⟩
theorem RowOk.ex {K : PySem.W.Frag} {H H' : Hp} {a scr : Addr} {ns : List Int} (h : RowOk K H a scr ns) (e : Evl.Ex H H') : RowOk K H' a scr ns := by
  obtain ⟨⟨i, z, q, h1, h2⟩, h3, h4⟩ := h
  exact ⟨⟨i, z, q, e _ _ h1, h2⟩, fun H'' x => h3 H'' ((ExB.of e).trans x), h4⟩
/-- the row as it stands at H', the script as it stood at H -/
theorem RowOk.join {K : PySem.W.Frag} {H H' : Hp} {a scr : Addr} {ns : List Int} {H'' : Hp} (h : RowOk K H a scr ns) (h' : RowOk K H' a scr ns) (e : ExB a H H'') (ea : H'' a = H' a) : RowOk K H'' a scr ns := by
  obtain ⟨_, h3, h4⟩ := h
  obtain ⟨⟨i, z, q, h1, h2⟩, _⟩ := h'
  exact ⟨⟨i, z, q, by rw [ea]; exact h1, h2⟩, fun H3 x => h3 H3 (e.trans x), h4⟩
/-- an expression that takes a draw below m -/
def EvR (K : PySem.W.Frag) (te : TE) (σ : L2.St) (H : Hp) (a scr : Addr) (ns : List Int) (m : Nat) : Prop := ∀ H1, ExB a H H1 → RowOk K H1 a scr ns → ∀ Q : VK, (∀ (r : Nat) H2, r < m → ExB a H1 H2 → RowOk K H2 a scr ns → Q (nV r) H2) → te σ H1 Q
theorem EvR.mono {K : PySem.W.Frag} {te : TE} {σ : L2.St} {H H' : Hp} {a scr : Addr} {ns : List Int} {m : Nat} (e : ExB a H H') (h : EvR K te σ H a scr ns m) : EvR K te σ H' a scr ns m := fun H1 e1 R Q q => h H1 (e.trans e1) R Q q
open Evl in
/-- [draw for x in range(..)], the number of turns itself may be drawn -/
theorem er_lcX {K : PySem.W.Frag} {ta : TA} {te : TE} {σ : L2.St} {H : Hp} {a scr : Addr} {ns : List Int} {j m : Nat} {vs : List Nat} (Pn : Nat → Prop) (h : ∀ R : List V → Hp → Prop, (∀ n H1, n ≤ 1000 → Pn n → ExB a H H1 → RowOk K H1 a scr ns → R [.int (n : Int)] H1) → ta σ H R) (hw : ∀ x, wipe ((wipe σ vs).set j (some x)) vs = wipe σ vs)
    (he : ∀ i : Nat, i < 1000 → EvR K te ((wipe σ vs).set j (some (.int (i : Int)))) H a scr ns m) (Q : VK)
    (q : ∀ p l H2, H p = none → p ≠ a → ExB a H H2 → RowOk K H2 a scr ns → H2 p = some (.lst (rowV l)) → l.length ≤ 1000 → Pn l.length → (∀ x ∈ l, x < m) → Q (.ref p) H2) : tLc (iRng1 ta) (gName j) tYes te vs σ H Q := by
  refine h _ fun n H1 hn pn e1 R => ⟨_, rfl, by omega, by omega, fun D hD => ?_⟩
  have hna : D ≠ a := fun z => by
    subst z
    obtain ⟨xs, hx⟩ := R.lst
    rw [hx] at hD
    cases hD
  have nD : H D = none := e1.fresh hna hD
  have e2 : ExB a H1 (L2.upd H1 D (.lst [])) := ExB.of (Ex.new (o := .lst []) hD)
  have R2 := R.ex (Ex.new (o := .lst []) hD)
  refine lc_range (lo := 0) (n := ((n : Int)).toNat) (fun i H' => ∃ l, ExB a H1 H' ∧ RowOk K H' a scr ns ∧ H' D = some (.lst (rowV l)) ∧ l.length = i ∧ ∀ x ∈ l, x < m) ⟨[], e2, R2, upd_same, rfl, fun _ h => by simp at h⟩ (fun i H' hi p => ?_) fun H' p => ?_
  · obtain ⟨l, p1, p2, p3, p4, p5⟩ := p
    have z0 : (0 : Int) + (i : Int) = (i : Int) := Int.zero_add _
    rw [z0]
    refine ⟨hw _, ?_⟩
    show te _ H' fun y H4 => ∃ acc, H4 D = some (.lst acc) ∧ acc.length < sizeLine ∧ ∃ l, ExB a H1 (L2.upd H4 D (.lst (acc ++ [y]))) ∧ RowOk K (L2.upd H4 D (.lst (acc ++ [y]))) a scr ns ∧ (L2.upd H4 D (.lst (acc ++ [y]))) D = some (.lst (rowV l)) ∧ l.length = i + 1 ∧ ∀ x ∈ l, x < m
    refine he i (by omega) H' (e1.trans p1) p2 _ fun r H4 hr e4 R4 => ?_
    refine ⟨rowV l, e4 _ _ hna p3, by rw [rowV_len]; exact small1000 (by omega), l ++ [r], (p1.trans e4).mut hD, ?_, by rw [rowV_snoc]; exact upd_same, by rw [List.length_append, List.length_singleton, p4], fun x hx => ?_⟩
    · exact R.join R4 ((p1.trans e4).mut hD) (upd_ne hna.symm)
    · rcases List.mem_append.mp hx with hx | hx
      · exact p5 x hx
      · rw [List.mem_singleton] at hx; subst hx; exact hr
  · obtain ⟨l, p1, p2, p3, p4, p5⟩ := p
    have p4' : l.length = n := by rw [p4]; exact Int.toNat_natCast n
    exact q D l H' nD hna (e1.trans p1) p2 p3 (by omega) (by rw [p4']; exact pn) p5
open Evl in
/-- [draw for x in range(n)] -/
theorem er_lcR {K : PySem.W.Frag} {ta : TA} {te : TE} {σ : L2.St} {H : Hp} {a scr : Addr} {ns : List Int} {j n m : Nat} {vs : List Nat} (h : EvA ta σ H [.int (n : Int)]) (hn : n ≤ 1000) (R : RowOk K H a scr ns) (hw : ∀ x, wipe ((wipe σ vs).set j (some x)) vs = wipe σ vs)
    (he : ∀ i : Nat, i < 1000 → EvR K te ((wipe σ vs).set j (some (.int (i : Int)))) H a scr ns m) (Q : VK)
    (q : ∀ p l H2, H p = none → p ≠ a → ExB a H H2 → RowOk K H2 a scr ns → H2 p = some (.lst (rowV l)) → l.length = n → (∀ x ∈ l, x < m) → Q (.ref p) H2) : tLc (iRng1 ta) (gName j) tYes te vs σ H Q :=
  er_lcX (fun k => k = n) (fun R' r => h H (Ex.refl H) _ fun H1 e1 => r n H1 hn rfl (ExB.of e1) (R.ex e1)) hw he Q fun p l H2 h1 h2 h3 h4 h5 _ h6 h7 => q p l H2 h1 h2 h3 h4 h5 h6 h7
end L2
namespace L2
open PySem PySem.Spec PyProof.Rows
/-! ### setdefault of a dict with tuple keys -/
section
variable {X : Cx} {pins : List (Addr × Obj)} {σ : St} {H : Hp} {s : Shared} {a b : Addr} {A : Around} {E : Value → Shared → Prop}
theorem dt_setd {kvs : List (List Key × V)} {k : List Key} {d : V} {r : Value} {Q : Value → Shared → Prop} (hu : A.units + 1 < cLine) (I : Inv X pins σ H s) (e : H a = some (.dT kvs)) (ky : H b = some (.tup (k.map kV))) (rd : RelV d r) (hl : kvs.length < sizeLine)
    (h1 : ∀ v, valV kvs k = some v → ∀ (w' : Value) (s' : Shared), Inv X pins σ H s' → RelV v w' → Q w' s') (h2 : valV kvs k = none → ∀ (w' : Value) (s' : Shared), Inv X pins σ (upd H a (.dT (putK kvs k d))) s' → RelV d w' → Q w' s') :
    wpAny (model X.prog X.w) A (call (.builtin "dict.setdefault") [.ref a, .ref b, r]) Q E s := by
  obtain ⟨z, hd, xs, rel, dd⟩ := dt_of I.hok e
  have hz : xs.length ≤ sizeLine := by
    have hlen := Paired.length rel
    omega
  have rl := rel.val k
  refine call_setdefault_heap (hsz := hz) (knd := tupleKind (mixKind X.prog X.w)) (tupleKind_room_in1 hu) (key_of I.hok ky) hd dd (fun p hp => ?_) fun hn h' dd' hs => ?_
  · rw [hp] at rl
    cases q0 : valV kvs k with
    | none => rw [q0] at rl; exact (show False from rl).elim
    | some v0 => rw [q0] at rl; exact h1 v0 q0 _ _ (I.tok _) rl
  · rw [hn] at rl
    cases q0 : valV kvs k with
    | some v0 => rw [q0] at rl; exact (show False from rl).elim
    | none =>
      have hl2 : (putK kvs k d).length ≤ sizeLine := by
        have hp := length_putK kvs k d
        omega
      obtain ⟨o, es, ep, ho, c2, c3, c4, _, c5⟩ := dd'
      refine h2 q0 _ _ (d_write (t' := s.toks + (tupleKind (mixKind X.prog X.w)).draws k) I (by rw [e]; exact True.intro) hs ⟨o, ho⟩ ⟨hl2, hd, _, (rel.put k ky rd).keeps fun c ys ec => ?_, o, es, ep, ho, c2, c3, c4, c5⟩) rd
      rw [upd_ne (ne_of ec e (fun z => nomatch z))]
      exact ec
end
def tDSetdT (td ty tx : TE) : TE := fun σ H Q => td σ H fun x H1 => ∃ a, x = .ref a ∧ IsD H1 a ∧ ty σ H1 fun y H2 => tx σ H2 fun z H3 => ∃ (kvs : List (List Key × V)) (k : List Key) (b : Addr),
  H3 a = some (.dT kvs) ∧ y = .ref b ∧ H3 b = some (.tup (k.map kV)) ∧ kvs.length < sizeLine ∧ (∀ v, valV kvs k = some v → Q v H3) ∧ (valV kvs k = none → Q z (upd H3 a (.dT (putK kvs k z))))
section
variable {X : Cx} {o e f : Expr} {td ty tx : TE} {apos cpos : Pos}
theorem pe_dsetdT (hu : X.A.units + 1 < cLine) (ho : PE X o td) (he : PE X e ty) (hf : PE X f tx) (m : M2 X o "setdefault" apos e f cpos) : PE X (.Call (.Attribute o "setdefault" apos) [e, f] [] cpos) (tDSetdT td ty tx) := by
  refine ⟨fun pz s0 σ H Q I h => ?_⟩
  refine wpAny_Call_method m.base m.few m.line PySem.F.plainAttrs_dict PySem.F.slot_dict_setdefault PySem.F.type_dict_setdefault
    (thn (ho.run pz s0 σ H _ I h) fun u s1 ⟨x, H1, I1, rx, a, ex, d, q1⟩ => ?_)
  subst ex
  cases (show u = Value.ref a from rx)
  obtain ⟨t1, t2, _⟩ := isD_at I1 d
  refine ⟨t1, t2, ?_⟩
  rw [m.trees]
  refine Calls.callWith_builtin rfl (Calls.evalArgs_plain (Calls.spliced_cons
    (thn (he.run pz s1 σ H1 _ I1 q1) fun iv s2 ⟨y, H2, I2, ry, q2⟩ =>
      Calls.spliced_cons (thn (hf.run pz s2 σ H2 _ I2 q2) fun fv s3 ⟨z, H3, I3, rz, kvs, k, b, ea, ey, eb, hl, q3, q4⟩ => Calls.spliced_nil ?_))))
  subst ey
  cases (show iv = Value.ref b from ry)
  exact dt_setd hu I3 ea eb rz hl (fun v hv w' s4 I4 rw' => ⟨v, _, I4, rw', q3 v hv⟩) fun hn w' s4 I4 rw' => ⟨z, _, I4, rw', q4 hn⟩
end
/-! ### an object that is known from now on, and not written any more -/
def tFrz (t : TE) : TE := fun σ H Q => t σ H fun v H1 => ∃ d u, v = .ref d ∧ H1 d = some u ∧ Mut (some u) ∧ ∀ od, Q v (upd H1 d (.frz od u))
theorem pe_frz {X : Cx} {e : Expr} {t : TE} (h : PE X e t) : PE X e (tFrz t) := by
  refine ⟨fun pz s0 σ H Q I hw => ?_⟩
  refine thn (h.run pz s0 σ H _ I hw) fun v s1 ⟨x, H1, I1, r, d, u, ex, hd, mu, q⟩ => ?_
  obtain ⟨od, I2⟩ := I1.lock hd mu
  exact ⟨x, _, I2, r, q od⟩
/-! ### truth of a dict with tuple keys -/
theorem truthy_dictH {prog : Program} {w : World} {κ : Type} [DecidableEq κ] {knd : HeapKind prog w κ} {A : Around} {E : Value → Shared → Prop} {s : Shared} {d : Addr} {xs : List (κ × Addr × Value)} {Q : Bool → Shared → Prop} (hd : (d == sysModules) = false) (hm : s.heap.DictOfH knd d xs) (hfit : (xs.length : Int) < 2 ^ 63)
    (h : Q (!xs.isEmpty) { s with toks := s.toks + 1 + 1 }) : wpAny (model prog w) A (truthy (.ref d)) Q E s := by
  have hne : ((xs.length : Int) != 0) = !xs.isEmpty := by cases xs <;> simp <;> omega
  have key : wpAny (model prog w) A (runValue (.builtin "len" ⟨[.ref d], []⟩)) (fun r s' => r = .int xs.length (s.toks + 1) ∧ Q (!xs.isEmpty) s') E s := by
    refine wpAny_runValue (codeAny_builtin entry_len ?_)
    rw [Around.under_plainId plain_len _]
    exact wpAny_mono (wpAny_len_body_dictH (Q := fun r s' => r = .int xs.length (s.toks + 1) ∧ Q (!xs.isEmpty) s') hd hm hfit ⟨rfl, h⟩)
      (fun fin s' h' => by obtain ⟨r, rfl, hq⟩ := h'; exact hq) fun _ _ e => e
  unfold truthy
  refine wpAny_bind (wpAny_callSpecial?_none (name := Str.ofString "__bool__") hm.typeIs noBool_dict ?_)
  refine wpAny_bind (wpAny_specialOf (name := Str.ofString "__len__") hm.typeIs F.slot_dict_len.lookup ?_)
  refine wpAny_bind (wpAny_mono key (fun r s' h' => ?_) fun _ _ e => e)
  obtain ⟨rfl, hq⟩ := h'
  exact wpAny_pure (hne ▸ hq)
def tTruT (t : TE) : TT := fun σ H Q => t σ H fun x H1 => ∃ p kvs, x = .ref p ∧ H1 p = some (.dT kvs) ∧ Q (!kvs.isEmpty) H1
theorem pt_truthT {X : Cx} {e : Expr} {t : TE} (h : PE X e t) (he : ∀ whole, isTrue e X.env whole = (do let v ← whole; standAt e.pos; holding [v] (truthy v)) := by intro _; rfl) : PT X e (tTruT t) := by
  refine ⟨fun pz s0 σ H Q I hw => ?_⟩
  refine isTrue_plain (thn (h.run pz s0 σ H _ I hw) fun v s1 ⟨x, H1, I1, r, p, kvs, ex, hp, q⟩ => ?_) (he _)
  subst ex
  cases (show v = Value.ref p from r)
  obtain ⟨z, hd, ys, rel, dd⟩ := dt_of I1.hok hp
  have hl : kvs.length = ys.length := Paired.length rel
  have hb : kvs.isEmpty = ys.isEmpty := by cases rel <;> rfl
  refine truthy_dictH hd dd (by rw [← hl]; rw [sizeLine_eq] at z; omega) ?_
  rw [← hb]
  exact ⟨H1, I1.tok _, q⟩
theorem tru_list {K : PySem.W.Frag} {H : Hp} {p : Addr} {xs : List V} (h : SqL K H p xs) : TruV K (.ref p) H (!xs.isEmpty) := .inl ⟨xs, h, rfl⟩
theorem tru_tup {K : PySem.W.Frag} {H : Hp} {p : Addr} {xs : List V} (h : SqT K H p xs) : TruV K (.ref p) H (!xs.isEmpty) := .inr (.inl ⟨xs, h, rfl⟩)
theorem pt_tru {X : Cx} {K : PySem.W.Frag} (hK : X.K = K) {e : Expr} {t : TE} (h : PE X e t) (he : ∀ whole, isTrue e X.env whole = (do let v ← whole; standAt e.pos; holding [v] (truthy v)) := by intro _; rfl) : PT X e (fun σ H Q => t σ H fun x H' => ∃ k, TruV K x H' k ∧ Q k H') := by
  subst hK
  exact pt_truth h he
theorem op_catK {X : Cx} {K : PySem.W.Frag} (hK : X.K = K) : OpR X (binaryOp .Add) (rCatA K) := by
  subst hK
  exact op_catA
theorem sl_tupAK {X : Cx} {K : PySem.W.Frag} (hK : X.K = K) : SlR X (rSlA K) := by
  subst hK
  exact sl_tupA
open Evl in
theorem et_tru {K : PySem.W.Frag} {ta : TE} {σ : L2.St} {H : Hp} {x : V} {b : Bool} (ha : Ev ta σ H x) (hb : ∀ H1, Ex H H1 → TruV K x H1 b) : EvT (fun σ H Q => ta σ H fun x H' => ∃ k, TruV K x H' k ∧ Q k H') σ H b := fun H1 e Q q =>
  ha H1 e _ fun H2 e2 => ⟨b, hb H2 (e.trans e2), q H2 e2⟩
theorem pg_tupK {X : Cx} {K : PySem.W.Frag} {es : List Expr} {k n : Nat} {t : TGs} {pos : Pos} (hK : X.K = K) (hc : X.calm = true) (h : PGs X es t)
    (hn : (assignEach es X.env).length = n := by rfl) (hst : (assignEach es X.env).findIdx? (·.1) = none := by rfl) : PG X (.Tuple es k pos) (gTup K n t) := by
  subst hK
  exact pg_tup hc h hn hst
theorem pi_tupK {X : Cx} {K : PySem.W.Frag} {tg l : Expr} {tl : TE} (hK : X.K = K) (hl : PE X l tl) : PI X tg l (iTup K tl) := by
  subst hK
  exact pi_tup hl
theorem pi_listK {X : Cx} {K : PySem.W.Frag} {tg l : Expr} {tl : TE} (hK : X.K = K) (hl : PE X l tl) : PI X tg l (iList K tl) := by
  subst hK
  exact pi_list hl
/-- a loop over enumerate of a list that stands still -/
theorem for_enumL {K : PySem.W.Frag} {a : Addr} {ws : List V} {g : TG} {tb : TS} {D : Ends} {σ : St} {H : Hp} (Pw : Nat → St → Hp → Prop) (h0 : Pw 0 σ H) (hl : ∀ i σ H, i ≤ ws.length → Pw i σ H → SqL K H a ws)
    (hs : ∀ i x T σ H, ws[i]? = some x → Pw i σ H → H T = none → g (.ref T) σ (upd H T (.tup [.int (i : Nat), x])) fun σ2 H2 => tb { D with nx := Pw (i + 1), ct := Pw (i + 1), bk := D.nx } σ2 H2) (hd : ∀ σ H, Pw ws.length σ H → D.nx σ H) :
    ∃ W : Nat → Nat → St → Hp → Prop, (∃ m, W 0 m σ H) ∧ ∀ i m σ H, W i m σ H →
      ((Ite K a).stop i H ∧ D.nx σ H) ∨ ((Ite K a).go i H ∧ ∃ N : St → Hp → Prop, (∀ σ' H', N σ' H' → ∃ m', m' < m ∧ W (i + 1) m' σ' H') ∧ ∀ x H', (Ite K a).yld i H x H' → g x σ H' fun σ2 H2 => tb { D with nx := N, ct := N, bk := D.nx } σ2 H2) := by
  refine ⟨fun i m σ H => m = ws.length - i ∧ i ≤ ws.length ∧ Pw i σ H, ⟨ws.length, by simp, Nat.zero_le _, h0⟩, ?_⟩
  rintro i m σ H ⟨rfl, hi, p⟩
  have q := hl i σ H hi p
  by_cases hlt0 : i < ws.length
  · refine .inr ⟨⟨ws, ws[i], q, by simp [hlt0]⟩, Pw (i + 1), fun σ' H' p' => ⟨ws.length - (i + 1), by omega, rfl, hlt0, p'⟩, fun x H' y => ?_⟩
    obtain ⟨T, x', ee1, nT, e2, y⟩ := y
    subst ee1 e2
    exact hs i x' T σ H (y ws q) p nT
  · have e : i = ws.length := by omega
    subst e
    exact .inl ⟨⟨ws, q, Nat.le_refl _⟩, hd σ H p⟩
section
open Evl
variable {K : PySem.W.Frag} {σ : St} {H : Hp} {te : TE}
/-- [e for x in t], t a new tuple -/
theorem el_lcNT {xs : List V} {tl : TE} {j : Nat} {vs : List Nat} (v : Nat → V) (h : EvU tl σ H xs) (wz : xs.length ≤ 40000) (hw : ∀ x, wipe ((wipe σ vs).set j (some x)) vs = wipe σ vs)
    (he : ∀ (i : Nat) (x : V) H1, Ex H H1 → xs[i]? = some x → Ev te ((wipe σ vs).set j (some x)) H1 (v i)) :
    EvL (tLc (iTup K tl) (gName j) tYes te vs) σ H (gvn xs.length v) := fun H0 e Q q => h H0 e _ fun a H1 ha e1 hx => ⟨a, rfl, ⟨xs, SqT.of hx⟩, fun Dl hD =>
  lc_tup (xs := xs) (Cv H1 v Dl) ⟨hD, Ex.new hD, upd_same⟩ (fun i H' _ p => SqT.of (p.2.1 _ _ hx)) (fun i x H' hi p => ⟨hw x, cv_turn p (by have := (List.getElem?_eq_some_iff.mp hi).1; omega) (he i x H1 (e.trans e1) hi)⟩)
    (fun H' p => q Dl H' (fresh_back e1 p.1) (e1.trans p.2.1) p.2.2)⟩
end
end L2
namespace L2
open PySem PySem.Spec PyProof.Rows
/-! ### errors without arguments -/
/-- an own error class, over ValueError by own classes without an own making -/
structure ErrC (K : PySem.W.Frag) (mg : Str → Option Value) (x : Str) (C : Addr) : Prop where
  g : mg x = some (.ref C)
  x : PySem.W.excIn K C [.type "ValueError", .type "Exception", .type "BaseException", .type "object"] "ValueError.__new__" = true
  k : PySem.W.keepIn K (.ref C) = true
  b : PySem.W.subIn K (.ref C) (.type "BaseException") = some true
  t : PySem.W.typeIn K (.ref C) = some (.type "type")
theorem ErrC.one {K : PySem.W.Frag} {mg : Str → Option Value} {x : Str} {C C' : Addr} (h : ErrC K mg x C) (e : mg x = some (.ref C')) : C' = C := by
  rw [h.g] at e
  cases e
  rfl
/-- X() -/
theorem pmk_own0 {X : Cx} {C : Addr} {x : Str} {p pos : Pos} (E : ErrC X.K X.mg x C) (hg : Gl X x) (hdb : (x == ("__debug__" : Str)) = false := by decide) : PMk X (.Call (.Name x p) [] [] pos) (fun _ H Q => Q (.ref C) none H) := by
  intro pins s σ H Q I h
  refine wpAny_Call_Name_kw (ld_glob I hg E.g ?_ hdb)
  refine PySem.W.callWith_K0 I.kIn E.k ?_
  obtain ⟨bm, N, nm, qn, bs, hdct, sn, sub, ab, col, dd, k0, k1, k2, k3, k5, mN, hC, hN, hni, T⟩ := exc_obj I.kIn E.x
  refine wpAny_call_exc_subT PySem.F.excBase_ValueError T hC hN hni (fun h' e hm => ?_) (Nat.zero_le _)
  exact mk_of I hm (raises_own E.b E.t) h (I.hok.gone hm.new)
/-! ### defs that may raise -/
structure HasX (P : Program) (w : World) (K : PySem.W.Frag) (mg : Str → Option Value) (base : Heap) (x : Str) (k : Nat) (ps : List Str) (sp : Sp) : Prop where
  ex : ∃ (f : Addr) (fd : FuncData), mg x = some (.ref f) ∧ PySem.W.keepIn K (.ref f) = true ∧ Binds K fd ps [] ∧ FnOk P w K mg base (L2.CX P w) k f fd ps sp
theorem HasX.mk' {P : Program} {w : World} {K : PySem.W.Frag} {mg : Str → Option Value} {base : Heap} {x : Str} {k : Nat} {ps : List Str} {sp : Sp} {f : Addr} {fd : FuncData} (h1 : mg x = some (.ref f)) (h2 : PySem.W.keepIn K (.ref f) = true) (h3 : Binds K fd ps []) (h4 : FnOk P w K mg base (L2.CX P w) k f fd ps sp) : HasX P w K mg base x k ps sp := ⟨⟨f, fd, h1, h2, h3, h4⟩⟩
section
variable {X : Cx} {x : Str} {k : Nat} {ps : List Str} {sp : Sp} {e : Expr} {es : List Expr} {t : TA} {p pos : Pos}
/-- it is called, and what it raises is wished for -/
theorem pe_hasT {W : WX} (h : HasX X.prog X.w X.K X.mg X.base x k ps sp) (hr : Room k X.A) (tk : Takes X W) (hg : Gl X x) (ha : PA X (e :: es) t)
    (hdb : (x == ("__debug__" : Str)) = false := by decide) (he : starEach (e :: es) X.env = (false, eval e X.env) :: starEach es X.env := by rfl) (hpl : (backTo pos (starEach es X.env)).any (·.1) = false := by rfl) :
    PE X (.Call (.Name x p) (e :: es) [] pos) (tCallS sp (WE W) t) := by
  obtain ⟨f, fd, h1, h2, h3, h4⟩ := h.ex
  exact pe_callS h4 hr hg h1 h2 h3 (fun σ => passAt tk σ) ha hdb he hpl
end
end L2
namespace L2
open PySem PySem.Spec PyProof.Rows
/-! ### set(xs) of a list of whole numbers -/
abbrev newS (w : World) : Obj := { cls := .type "set", dict := none, data := .set #[] 0 (.fresh 0 0 (!w.params.followText "set-order")) }
section
variable {P : Program} {w : World} {A : Around} {E : Value → Shared → Prop} {s : Shared}
theorem call_set_lstI {l : Addr} {its : Array Value} (zs : List Int) {Q : Value → Shared → Prop} (h0 : A.handled = none) (il : s.heap.IsList l its) (ia : IntsAre its.toList zs) (ub : zs.length + 1 < scanBound)
    (h : ∀ (h' : Heap) (tk c : Nat), SetR w h' s.heap.objs.size (fun j => decide (j ∈ zs)) c → c ≤ zs.length → (∀ b o, s.heap.get? b = some o → h'.get? b = some o) → Q (.ref s.heap.objs.size) { s with heap := h', toks := tk }) :
    wpAny (model P w) A (call (.type "set") [.ref l]) Q E s := by
  have zl : its.size = zs.length := by
    have q := IntsAre.length ia
    rw [Array.length_toList] at q
    exact q
  obtain ⟨c, tl, mr⟩ := F.called_set.mro
  have md := F.called_set.made
  have sb := F.called_set.sub
  refine wpAny_call (codeAny_of_tree ?_)
  show wpAny _ _ (callAny (.type "set") _) _ _ _
  refine wpAny_pure ⟨Code.quiet_builtin _ (by decide +kernel), codeAny_builtin F.entry_type_call ?_⟩
  rw [Around.under_plain (weight_type_call_type "set" [.ref l] []) rfl]
  have n1 := F.called_set.notType
  have n2 := F.called_set.canCreate
  have ct := F.typeCall_set_1 (.ref l)
  repeat (any_goals (first | assumption | wp_step))

  refine codeAny_mono (code_set_led1 (.ref l) (E := E) (Q₁ := fun ob s₁ => ob = .ref s.heap.objs.size ∧ s₁ = { s with heap := s.heap.push (newS w) }) ⟨rfl, rfl⟩) fun r s₁ rr => ?_
  cases r with
  | error e => exact rr
  | ok fl =>
    cases fl with
    | ret ob =>
      obtain ⟨rfl, rfl⟩ := rr
      have gs : (s.heap.push (newS w)).get? s.heap.objs.size = some (newS w) := Heap.get?_push_size _ rfl
      have ts : Shared.TypeIs { s with heap := s.heap.push (newS w) } (.ref s.heap.objs.size) "set" := ⟨_, gs, rfl⟩
      have li := F.called_set.init.lookup
      have bi := F.called_set.init.bind (.ref s.heap.objs.size)
      repeat (any_goals (first | assumption | wp_step))

      refine codeAny_mono (codeAny_call_builtin (R := wants (fun r s₂ => r = .none ∧ ∃ h' tk c, s₂ = { s with heap := h', toks := tk } ∧ SetR w h' s.heap.objs.size (fun j => decide (j ∈ zs)) c ∧ c ≤ zs.length ∧
          (∀ b o, s.heap.get? b = some o → h'.get? b = some o)) E) F.called_set.init.plain F.entry_set_init (check_set_init_1 ts ?_)) fun r₂ s₂ rr2 => ?_
      · obtain ⟨ol, ol0, oc, nl, od⟩ := il
        obtain ⟨ocls, odict, odata, oslots⟩ := ol
        simp only at oc od
        subst oc; subst od
        have ol1 : (s.heap.push (newS w)).get? l = some { cls := .type "list", dict := odict, data := .seq its nl, slots := oslots } := Heap.get?_push_of_some _ ol0
        have sl1 := F.sub_list_set
        have sl2 := F.sub_list_frozenset
        have ne1 : (Value.type "list" == Value.type "dict") = false := by decide
        have il1 : (s.heap.push (newS w)).IsList l its := ⟨_, ol1, rfl, nl, rfl⟩
        unfold Builtin.«set.__init__» noKeywords Builtin.Frozenset.updateFrom
        generalize eP : pyIter = pI
        wp_walk
        subst eP

        refine wpAny_pyIter_list il1 ?_
        refine wpAny_bind (wpAny_runValue ?_)
        have ls1 : l < s.heap.objs.size := Heap.lt_size ol0
        have h03 : A.in1.in1.in1.handled = none := by simp [h0]
        have z1 : (s.heap.push (newS w)).objs.size = s.heap.objs.size + 1 := Heap.size_push ..
        have neI : l ≠ (s.heap.push (newS w)).objs.size := by
          rw [Heap.size_push]; exact Nat.ne_of_lt (Nat.lt_succ_of_lt ls1)
        have nf : s.heap.objs.size ∉ [(s.heap.push (newS w)).objs.size, l] := by
          rw [Heap.size_push]; simp only [List.mem_cons, List.mem_singleton, List.not_mem_nil, or_false, not_or]
          exact ⟨Nat.ne_of_lt (Nat.lt_succ_self _), Nat.ne_of_gt ls1⟩
        have vl : ∀ (i : Nat) (v : Value), its[i]? = some v → ∃ k t, zs[i]? = some k ∧ v = .int k t := fun i v qv => by
          have qi : i < zs.length := by rw [← zl]; exact (Array.getElem?_eq_some_iff.mp qv).1
          obtain ⟨t, e⟩ := PyProof.Rows.IntsAre.int_at ia i v (by rw [Array.getElem?_toList]; exact qv)
          refine ⟨zs[i], t, List.getElem?_eq_getElem qi, ?_⟩
          rw [e, List.getD_eq_getElem?_getD, List.getElem?_eq_getElem qi] <;> rfl
        refine set_update_ints ((Walks.list h03 _ l neI its).toS) s.heap.objs.size
          nf zs zl ub vl (its.size - 0) 0 _ (by omega) (Nat.zero_le _)
          ⟨⟨_, Heap.get?_push_size _ rfl, rfl, rfl⟩, (il1.push _)⟩ ?gs0 ?gR
        case gs0 =>
          have gt1 : ((s.heap.push (newS w)).push { cls := .type "list_iterator", data := .fields #[.ref l, .int 0 0] }).get? s.heap.objs.size
              = some (newS w) := Heap.get?_push_of_some _ gs
          exact ⟨0, Nat.le_refl 0, setR_new_at gt1⟩
        case gR =>
          intro s' c' mv cc' gs'
          obtain ⟨h', g2, d', tk', os'⟩ := s'
          have q1 : g2 = s.gens := mv.gens
          have q2 : d' = s.drawn := mv.drawn
          have q3 : os' = s.os := mv.os
          subst q1; subst q2; subst q3
          show wpAny _ _ _ _ _ _
          refine wpAny_pure ?_
          show wpAny _ _ (ret Value.none) _ _ _
          rw [zl] at cc'
          refine wpAny_pure ⟨rfl, h', tk', c', rfl, gs', cc', fun b o e => ?_⟩
          have u0 : b < s.heap.objs.size := Heap.lt_size e
          have u1 : b ≠ s.heap.objs.size := Nat.ne_of_lt u0
          have u2 : b ≠ (s.heap.push (newS w)).objs.size := by
            rw [Heap.size_push]; exact Nat.ne_of_lt (Nat.lt_succ_of_lt u0)
          exact mv.heap b o (by simp only [List.mem_cons, List.mem_singleton, List.not_mem_nil, or_false, not_or]; exact ⟨u1, u2⟩) (Heap.get?_push_of_some _ (Heap.get?_push_of_some _ e))

      · cases r₂ with
        | error e => exact rr2
        | ok fl₂ =>
          cases fl₂ with
          | ret r =>
            obtain ⟨rfl, h', tk, c', rfl, gs', cc', kk'⟩ := rr2
            repeat (any_goals (first | assumption | wp_step))
            exact h _ _ _ gs' cc' kk'
          | _ => exact rr2.elim
    | _ => exact rr.elim

end
def rSetL1 (K : PySem.W.Frag) (w : World) : List V → Hp → VK → Prop := fun vs H Q => ∃ (l : Addr) (ns : List Int), vs = [V.ref l] ∧ SqL K H l (ns.map V.int) ∧ ns.length + 1 < scanBound ∧ ∀ c p, c ≤ ns.length → H p = none → Q (.ref p) (upd H p (SetO w p (fun j => decide (j ∈ ns)) c))
theorem cr_setL1 {X : Cx} {K : PySem.W.Frag} (hK : X.K = K) (hc : X.calm = true) : CallR X (.type "set") (rSetL1 K X.w) := by
  subst hK
  intro pins s σ H vs us Q I r h
  obtain ⟨l, ns, rfl, hS, hb, q⟩ := h
  rw [Vals.ref1 r]
  obtain ⟨its, rv, ⟨⟨cls, dd, data, sl⟩, n, ho, hcl, hdn, hd⟩, hlen⟩ := I.list hS
  simp only at hcl hd
  subst hcl hd
  have hi := ints_of_vals rv
  refine call_set_lstI ns (I.ok.hd hc) (its := its.toArray) ⟨_, ho, rfl, n, rfl⟩ hi hb fun h' tk c R hcn k => ?_
  have hn : H s.heap.objs.size = none := I.hok.fresh (Nat.le_refl _)
  exact ⟨.ref s.heap.objs.size, _, I.laid (t' := tk) k (Nat.le_refl _) (setO_new R), rfl, q c _ hcn hn⟩
theorem cr_sortedPK {X : Cx} {K : PySem.W.Frag} (hK : X.K = K) : CallR X (.builtin "sorted") (rSortedP K) := by
  subst hK
  exact cr_sortedP
theorem cr_maxK {X : Cx} {K : PySem.W.Frag} (hK : X.K = K) (hc : X.calm = true) : CallR X (.builtin "max") (rMax K) := by
  subst hK
  exact cr_max hc
end L2
namespace L2
open PySem PySem.Spec PyProof.Rows
/-! ### count of flat things in a list, in a tuple -/
theorem countP_eqU {x : V} : ∀ {xs : List V} {us : List Value}, Vals xs us → xs.all flatV = true → us.countP (eqU x) = xs.countP fun y => eqV y x
  | _, _, .nil, _ => rfl
  | y :: xs, u :: us, .cons r t, f => by
    rw [List.all_cons, Bool.and_eq_true] at f
    rw [List.countP_cons, List.countP_cons, countP_eqU t f.2, eqU_of r f.1]
def rCntF (K : PySem.W.Frag) : V → List V → Hp → VK → Prop := fun x xs H Q => ∃ (p : Addr) (ys : List V) (y : V), x = .ref p ∧ xs = [y] ∧ SqL K H p ys ∧ flatV y = true ∧ ys.all flatV = true ∧ Q (.int ((ys.countP fun z => eqV z y : Nat) : Int)) H
def rCntT (K : PySem.W.Frag) : V → List V → Hp → VK → Prop := fun x xs H Q => ∃ (p : Addr) (ys : List V) (y : V), x = .ref p ∧ xs = [y] ∧ SqT K H p ys ∧ flatV y = true ∧ ys.all flatV = true ∧ Q (.int ((ys.countP fun z => eqV z y : Nat) : Int)) H
section
variable {X : Cx}
theorem mt_countF {K : PySem.W.Frag} (hK : X.K = K) : MtR X "list.count" (rCntF K) := by
  subst hK
  intro pins s σ H x xs v us Q I rx rxs h
  obtain ⟨p, ys, y, rfl, rfl, hs, fy, fys, q⟩ := h
  cases rx
  cases rxs with
  | cons ry rt =>
    rename_i uy ut
    cases rt
    obtain ⟨its, rv, ⟨⟨cls, dd, data, sl⟩, n, ho, hc, hdn, hd⟩, hlen⟩ := I.list hs
    simp only at hc hd
    subst hc hd
    refine call_meets PySem.F.slot_list_count ⟨_, ho, rfl⟩ PySem.F.entry_list_count (PySem.F.args_list_count_2 _ _)
      (SeqAt.list_countAt p its.toArray n dd sl uy (eqU y)) ⟨ho, fun u' hu' => mem_eqAt ry fy rv fys u' (by simpa using hu'), ?_⟩
    refine ⟨.int ((ys.countP fun z => eqV z y : Nat) : Int), H, I.tok _, ⟨s.toks, ?_⟩, q⟩
    show Value.int ((its.toArray.toList.countP (eqU y) : Nat) : Int) s.toks = _
    rw [show its.toArray.toList = its from rfl, countP_eqU rv fys]
theorem mt_countT {K : PySem.W.Frag} (hK : X.K = K) : MtR X "tuple.count" (rCntT K) := by
  subst hK
  intro pins s σ H x xs v us Q I rx rxs h
  obtain ⟨p, ys, y, rfl, rfl, hs, fy, fys, q⟩ := h
  cases rx
  cases rxs with
  | cons ry rt =>
    rename_i uy ut
    cases rt
    obtain ⟨its, rv, ⟨⟨cls, dd, data, sl⟩, ho, hc, n, hd⟩, hlen⟩ := I.tuple hs
    simp only at hc hd
    subst hc hd
    refine call_meets PySem.F.slot_tuple_count ⟨_, ho, rfl⟩ PySem.F.entry_tuple_count (PySem.F.args_tuple_count_2 _ _)
      (SeqAt.tuple_countAt p its.toArray n dd sl uy (eqU y)) ⟨ho, fun u' hu' => mem_eqAt ry fy rv fys u' (by simpa using hu'), ?_⟩
    refine ⟨.int ((ys.countP fun z => eqV z y : Nat) : Int), H, I.tok _, ⟨s.toks, ?_⟩, q⟩
    show Value.int ((its.toArray.toList.countP (eqU y) : Nat) : Int) s.toks = _
    rw [show its.toArray.toList = its from rfl, countP_eqU rv fys]
end
end L2
namespace L2
open PySem PySem.Spec PyProof.Rows
section
variable {P : Program} {w : World} {K : PySem.W.Frag} {mg : Str → Option Value} {base : Heap}
/-- a def by its body, its code object told -/
theorem ok_cd {x qual : Str} {st : Stmt} {f : Addr} {N ps : List Str} {k : Nat} {sp : Sp} {oc kV doc pm cdv ct : Value} {od an : Option Addr} {osl : Array (Option Value)}
    (lk : K.lookup f = some ⟨oc, od, .func (PySem.W.fnOf x qual (defArgs st) (defBody st) (defScope st) .none kV doc pm an cdv ct), osl⟩) (hcd : PySem.W.codeIn K cdv qual = true) (S : FnScope N ps (defScope st)) (len : ∀ vs H Q E, sp vs H Q E → vs.length = ps.length)
    (hbody : ∀ (A : Around) (outer : List Env) (s : Shared) (H : Hp) (vs : List V) (Q : VK) (E : XK), Room k (A.deeper (envOfC qual (defScope st) s.heap.objs.size f cdv)) → sp vs H Q E →
      ∃ t, PSs (cxOf CX0 P w K mg base N qual (defScope st) f cdv A outer s H E).nox (defBody st) t ∧ t { nx := fun _ H' => Q .non H', rt := Q } (start N vs) H) : FnOk P w K mg base CX0 (k + 1) f (PySem.W.fnOf x qual (defArgs st) (defBody st) (defScope st) .none kV doc pm an cdv ct) ps sp := by
  refine fn_of lk hcd S len fun A outer s H vs Q E hr hsp => ?_
  obtain ⟨t, h, q⟩ := hbody A outer s H vs Q E hr hsp
  exact ⟨t, h.nox, q⟩
/-- own error classes under one -/
structure ErrU (K : PySem.W.Frag) (mg : Str → Option Value) (bs : Str) (names : List Str) : Prop where
  u : ∃ B, mg bs = some (.ref B) ∧ ∀ x ∈ names, ∃ C, mg x = some (.ref C) ∧ PySem.W.exmOne K (.ref C) (.ref B) = some true ∧ ExcC K C
  r : ∀ x ∈ names, ∀ y ∈ names, ∃ C D, mg x = some (.ref C) ∧ mg y = some (.ref D) ∧ PySem.W.kitOne K (.ref C) (.ref D) = some (decide (x = y))
end
end L2
namespace L2
open PySem PySem.Spec PyProof.Rows
theorem kit_self {K : PySem.W.Frag} {C : Addr} : PySem.W.kitOne K (.ref C) (.ref C) = some true := by
  unfold PySem.W.kitOne
  rw [if_pos (by simp)]
theorem kit_no {K : PySem.W.Frag} {C D : Addr} (hd : PySem.W.hasDictIn K D = true) (ht : PySem.W.typeIn K (.ref D) = some (.type "type")) (hs : PySem.W.subIn K (.ref C) (.ref D) = some false) (hn : (Value.ref C == Value.ref D) = false) : PySem.W.kitOne K (.ref C) (.ref D) = some false := by
  obtain ⟨cd, hc, _⟩ := PySem.W.any_some hd
  unfold PySem.W.kitOne
  rw [if_neg (by rw [hn]; decide)]
  have e2 : ((PySem.W.clsIn K D).isSome && PySem.W.typeIn K (.ref D) == some (.type "type")) = true := by rw [hc, ht] <;> rfl
  show (if ((PySem.W.clsIn K D).isSome && PySem.W.typeIn K (.ref D) == some (.type "type")) = true then PySem.W.subIn K (.ref C) (.ref D) else none) = some false
  rw [if_pos e2]
  exact hs
end L2
namespace PyProof.Rows
open PySem PySem.Spec PySem.W
section
variable {prog : Program} {w : World} {A : Around} {E : Value → Shared → Prop} {s : Shared}
/-- what a tuple holds, gathered in a new list -/
theorem own_gatherT {l : Addr} {vs : List Value} {Q : List Value → Shared → Prop} (hl : s.heap.IsTuple l vs.toArray)
    (h : Q vs { s with heap := (s.heap.push (seqObj "list" #[] 0)).update s.heap.objs.size (Obj.mapSeq (· ++ vs.toArray)) }) (hsz : vs.length ≤ sizeLine) : wpAny (model prog w) A (collect (.ref l)) Q E s := by
  obtain ⟨o, ho, hc, n, hd⟩ := id hl
  have ho2 : (s.heap.push (seqObj "list" #[] 0)).get? l = some o := Heap.get?_push_of_some _ ho
  have hcond : (Value.type "tuple" == Value.type "tuple") = true := by rfl
  have hcond2 : (Value.type "tuple" == Value.type "list") = false := by decide
  unfold collect
  refine wpAny_bind (wpAny_runValue (codeAny_builtin entry_proto_collect' ?_)); show wpAny _ _ (do again (.builtin "list.__iadd__" ⟨[← newList [], .ref l], []⟩)) _ _ s
  refine wpAny_bind (wpAny_newList (wpAny_pure ⟨Code.quiet_builtin _ (by decide +kernel), codeAny_builtin entry_list_iadd' ?_⟩)); show wpAny _ _ (Builtin.List.listExtendWith (.ref s.heap.objs.size) (.ref l) (.ref s.heap.objs.size)) _ _ { s with heap := s.heap.push (seqObj "list" #[] 0) }
  unfold Builtin.List.listExtendWith
  refine wpAny_bind (wpAny_typeOf (T := "tuple") ⟨o, ho2, hc⟩ ?_)
  rw [if_pos (by rw [hcond]; simp)]
  refine wpAny_bind (listItems_at ho2 hd ?_)
  refine wpAny_bind (listItems_at (xs := #[]) (n := 0) (Heap.get?_push_size _ rfl) rfl ?_)
  rw [if_neg (by simp)]
  refine wpAny_bind (listUpdate_at (xs := #[]) (n := 0) (Heap.get?_push_size _ rfl) rfl ?_ (Nat.zero_le _) (by show (#[] ++ vs.toArray).size ≤ sizeLine + 1; simp only [Array.size_append, List.size_toArray, List.length_nil]; omega)); refine wpAny_pure ?_
  refine wpAny_bind (wpAny_load (get?_update_seq (Heap.get?_push_size _ rfl) _) ?_)
  show wpAny _ _ (pure ((#[] : Array Value) ++ vs.toArray).toList) Q E _
  have e0 : ((#[] : Array Value) ++ vs.toArray).toList = vs := by simp
  rw [e0]; exact wpAny_pure h
end
end PyProof.Rows
namespace SrtO
open PySem PyProof.Rows Srt
section
variable {prog : Program} {w : World} {A : Around} {E : Value → Shared → Prop} {s : Shared}
theorem own_sortT {l : Addr} {vs : List Value} {ltv : Value → Value → Bool} {Q : Value → Shared → Prop} (O : Swo ltv) (hl : s.heap.IsTuple l vs.toArray) (hz : vs.length ≤ sizeLine)
    (hS : 2 ≤ vs.length → ∀ (h₁ : Heap) (a : Addr), h₁.get? a = some (seqObj "list" vs.toArray 0) → (∀ b o, s.heap.get? b = some o → b ≠ a ∧ h₁.get? b = some o) → SortableO prog w A.in1.in1 { s with heap := h₁ } a vs ltv)
    (h : ∀ out : List Value, Srtd ltv out → Stb ltv out vs → Q (.ref (s.heap.objs.size + 1)) { s with heap := sortedAll s.heap vs out.toArray }) : wpAny (model prog w) A (call (.builtin "sorted") [.ref l]) Q E s := by
  refine Calls.call_function_entry kind_sorted plain_sorted entry_sorted (args_sorted1 _) ?_; unfold Builtin.«sorted»
  refine wpAny_bind (m := checkCount "sorted" 1 1 _) (wpAny_pure ?_); refine wpAny_bind (own_gatherT hl ?_ hz)
  refine wpAny_bind (wpAny_newList ?_ hz)
  have n1 : ((s.heap.push (seqObj "list" #[] 0)).update s.heap.objs.size (Obj.mapSeq (· ++ vs.toArray))).objs.size = s.heap.objs.size + 1 := by rw [Heap.size_update, size_push']
  have g1 : (((s.heap.push (seqObj "list" #[] 0)).update s.heap.objs.size (Obj.mapSeq (· ++ vs.toArray))).push (seqObj "list" vs.toArray 0)).get? (s.heap.objs.size + 1) = some (seqObj "list" vs.toArray 0) := by rw [← n1]; exact Heap.get?_push_size _ rfl
  have k1 : ∀ b o, s.heap.get? b = some o → b ≠ s.heap.objs.size + 1 ∧ (((s.heap.push (seqObj "list" #[] 0)).update s.heap.objs.size (Obj.mapSeq (· ++ vs.toArray))).push (seqObj "list" vs.toArray 0)).get? b = some o := fun b o q => by
    have lt := Heap.lt_size q
    exact ⟨Nat.ne_of_lt (Nat.lt_succ_of_lt lt), Heap.get?_push_of_some _ (by rw [Heap.get?_update_ne _ _ _ _ (Nat.ne_of_lt lt)]; exact Heap.get?_push_of_some _ q)⟩
  show wpAny _ _ _ _ _ { s with heap := ((s.heap.push (seqObj "list" #[] 0)).update s.heap.objs.size (Obj.mapSeq (· ++ vs.toArray))).push (seqObj "list" vs.toArray 0) }; rw [n1]
  exact wpAny_bind (wpAny_holding (wpAny_call_entry slot_list_sort ⟨_, g1, rfl⟩ entry_list_sort (list_sort_ord O g1 hz (fun h2 => hS h2 _ _ g1 k1) fun out hs hb => ⟨_, rfl, wpAny_pure ⟨_, rfl, h out hs hb⟩⟩) (args_list_sort _)))
end
end SrtO
namespace L2
open PySem PySem.Spec PyProof.Rows RZ
/-- sorted(t), whole numbers in a tuple -/
def rSortedTI (K : PySem.W.Frag) : List V → Hp → VK → Prop := fun vs H Q => ∃ (a : Addr) (ns : List Int), vs = [V.ref a] ∧ SqT K H a (ns.map V.int) ∧
  ∀ (ns' : List Int) (p : Addr), ns'.Perm ns → ns'.Pairwise (· ≤ ·) → H p = none → Q (.ref p) (upd H p (.lst (ns'.map V.int)))
theorem cr_sortedTI {X : Cx} {K : PySem.W.Frag} (hK : X.K = K) : CallR X (.builtin "sorted") (rSortedTI K) := by
  subst hK
  intro pins s σ H vs us Q I r h
  obtain ⟨a, ns, rfl, hs, q⟩ := h
  obtain ⟨its, rv, hl, hz⟩ := I.tuple hs
  rw [Vals.ref1 r]
  have hi := rv.ints
  refine SrtO.own_sortT SrtO.swo_int hl (by rw [← rv.length]; exact hz) (fun h2 h₁ a' _ _ => SrtO.ints_sortable hi h2) fun out h1 h2 => ?_
  obtain ⟨k1, k2, k3⟩ := SrtO.ints_out hi h1 h2
  obtain ⟨ep, he'⟩ := PyProof.Rows.sortedAll_at s.heap its out.toArray
  have ll : ((out.map SrtO.iv).map V.int).length ≤ sizeLine := by
    rw [List.length_map] at hz ⊢; rw [k2.length_eq]; exact hz
  exact ⟨.ref _, _, I.laid (o := .lst ((out.map SrtO.iv).map V.int)) (t' := s.toks) (fun _ _ => PyProof.Rows.sortedAll_old) (Nat.le_succ _) ⟨ll, out, ep, vals_of_ints k1, he'⟩, rfl, q _ _ k2 k3 (I.hok.fresh (Nat.le_succ _))⟩
theorem cr_sortedIK {X : Cx} {K : PySem.W.Frag} (hK : X.K = K) : CallR X (.builtin "sorted") (rSortedI K) := by
  subst hK
  exact cr_sortedI
theorem pi_zipAK {X : Cx} {K : PySem.W.Frag} (hK : X.K = K) {e e2 : Expr} {ta : TA} {p pos tpos : Pos} {elts : List Expr} {kk : Nat} (hg : Gl X "zip") (hm : X.mg "zip" = none) (ha : PA X [e, e2] ta)
    (hs : starEach [e, e2] X.env = (false, eval e X.env) :: starEach [e2] X.env := by rfl) (hpl : (backTo pos (starEach [e2] X.env)).any (·.1) = false := by rfl) : PI X (.Tuple elts kk tpos) (.Call (.Name "zip" p) [e, e2] [] pos) (iZipA K ta) := by
  subst hK
  exact pi_zipA hg hm ha hs hpl
theorem walk_zipT {K : PySem.W.Frag} {a b : Addr} {xs ys : List V} {n : Nat} (hn : n = min xs.length ys.length) : Walk (ItzT K a b) n (fun H => SqT K H a xs ∧ SqT K H b ys) (YPair (fun i => xs[i]?) (fun i => ys[i]?)) := by
  subst hn
  refine ⟨fun i _ hi q => ⟨xs, ys, xs[i]'(by omega), ys[i]'(by omega), q.1, q.2, List.getElem?_eq_getElem (by omega), List.getElem?_eq_getElem (by omega)⟩, fun _ q => ⟨xs, ys, q.1, q.2, by omega⟩, fun i H v H' _ q y => ?_⟩
  obtain ⟨T, x, z, h1, h2, h3, h4, h5⟩ := y
  exact ⟨T, x, z, h1, h2, h3, h4 xs q.1, h5 ys q.2⟩
end L2
namespace L2
open PySem PySem.Spec PyProof.Rows
/-! ### a new tuple whose object is known; methods of such a tuple -/
def SqF (H : Hp) (a : Addr) (xs : List V) : Prop := ∃ o : Obj, H a = some (.frz o (.tup xs)) ∧ o.dict = none
theorem SqF.sq {K : PySem.W.Frag} {H : Hp} {a : Addr} {xs : List V} (h : SqF H a xs) : SqT K H a xs := let ⟨o, h, _⟩ := h; .inl (.inr ⟨o, h⟩)
theorem SqF.ex {H H' : Hp} {a : Addr} {xs : List V} (h : SqF H a xs) (e : Evl.Ex H H') : SqF H' a xs := let ⟨o, h, d⟩ := h; ⟨o, e _ _ h, d⟩
def rTupF (K : PySem.W.Frag) : List V → Hp → VK → Prop := fun xs H Q => ∃ p ys, xs = [.ref p] ∧ SqL K H p ys ∧ ∀ l o, H l = none → o.dict = none → Q (.ref l) (upd H l (.frz o (.tup ys)))
def tBMT (T : String) (r : V → List V → Hp → VK → Prop) (to : TE) (t : TA) : TE := fun σ H Q => to σ H fun x H1 => (T = "tuple" ∧ ∃ p xs, x = .ref p ∧ SqF H1 p xs) ∧ t σ H1 fun xs H2 => r x xs H2 Q
section
variable {X : Cx}
theorem cr_tupF {K : PySem.W.Frag} (hK : X.K = K) : CallR X (.type "tuple") (rTupF K) := by
  subst hK
  intro pins s σ H xs us Q I r h
  obtain ⟨p, ys, rfl, hq, q⟩ := h
  rw [Vals.ref1 r]
  obtain ⟨its, rv, pl, hz⟩ := I.list hq
  have hlen := rv.length
  refine call_tuple_list pl.isList (fun h' kp => ?_) (by simp only [List.size_toArray] <;> omega)
  have J : Inv X pins σ H { s with heap := h' } := I.kept (t' := s.toks) kp
  exact ⟨.ref h'.objs.size, _, J.laid (o := .frz { cls := .type "tuple", data := .seq its.toArray } (.tup ys)) (t' := s.toks) (fun b o e => Heap.get?_push_of_some _ e) (Nat.le_refl _) ⟨Heap.get?_push_size _ rfl, hz, its, rv, IsTup.new _ _⟩, rfl, q _ _ (J.hok.fresh (Nat.le_refl _)) rfl⟩
theorem pe_bmT {o e : Expr} {es : List Expr} {to : TE} {t : TA} {name : Str} {apos cpos : Pos} {T id : String} {r : V → List V → Hp → VK → Prop} (pa : PlainAttrs T) (slot : Slot T name id) (hty : typeOf (.builtin id) = pure (.type "method_descriptor")) (hm : MtR X id r) (ho : PE X o to) (ha : PA X (e :: es) t)
    (hbase : attributeBase o name X.env (eval o X.env) = eval o X.env := by rfl)
    (hfew : ((backTo cpos (starEach (e :: es) X.env)).all (fun x => !x.1) && (backToKw cpos (keywordEach [] X.env)).all (fun x => x.1.isSome) && decide ((e :: es).length + ([] : List Keyword).length + (if ([] : List Keyword).isEmpty then 0 else 1) < 30)) = true := by rfl)
    (hline : (apos.endLine == cpos.line) = true := by rfl) (hs : starEach (e :: es) X.env = (false, eval e X.env) :: starEach es X.env := by rfl) (hplain : (backTo cpos (starEach es X.env)).any (·.1) = false := by rfl) : PE X (.Call (.Attribute o name apos) (e :: es) [] cpos) (tBMT T r to t) := by
  refine ⟨fun pins s σ H Q I h => wpAny_Call_method_late hbase hfew hline rfl (thn (ho.run pins s σ H _ I h) fun v s1 ⟨x, H1, I1, r1, ty, q1⟩ => ?_)⟩
  obtain ⟨rfl, p, xs, rfl, o1, hp, hd⟩ := ty
  cases r1
  obtain ⟨hg, _, its, _, ot, hot, hc, n, _⟩ := I1.hok p _ hp
  refine ⟨"tuple", id, pa, slot, hty, ⟨ot, hot, hc⟩, fun a e => ?_, ?_⟩
  · cases e
    exact ⟨o1, hg, hd⟩
  · have hA := ha.run cpos pins s1 σ H1 _ I1 q1
    rw [hs] at hA ⊢
    exact Calls.callWith_builtin (by show (false || (backTo cpos (starEach es X.env)).any (·.1)) = false; rw [hplain] <;> rfl) (Calls.evalArgs_plain (thn hA fun us s2 ⟨vs, H2, I2, r2, q2⟩ => hm pins s2 σ H2 (.ref p) vs _ us Q I2 rfl r2 q2))
end
theorem walk_enumT {K : PySem.W.Frag} {a : Addr} {xs : List V} : Walk (IteT K a) xs.length (fun H => SqT K H a xs) (YPair (fun i => some (.int (i : Nat))) (fun i => xs[i]?)) := by
  refine ⟨fun i _ hi q => ⟨xs, xs[i], q, List.getElem?_eq_getElem hi⟩, fun _ q => ⟨xs, q, rfl⟩, fun i H v H' _ q y => ?_⟩
  obtain ⟨T, x, h1, h2, h3, h4⟩ := y
  exact ⟨T, .int (i : Nat), x, h1, h2, h3, rfl, h4 xs q⟩
end L2
/-! zip of a tuple and a list: at the level of the library, over iterators of either kind. -/
namespace ZipM
open PySem RZ
/-- an iterator over a tuple or over a list, k things taken -/
def SeqIt (h : Heap) (it l : Addr) (k : Nat) (xs : Array Value) : Prop := (h.IsTupleIter it l k ∧ h.IsTuple l xs) ∨ (h.IsListIter it l k ∧ h.IsList l xs)
theorem SeqIt.ext {h h' : Heap} {it l c : Addr} {k : Nat} {xs : Array Value} (q : SeqIt h it l k xs) (e : Heap.ExtBut c h h') (h1 : it ≠ c) (h2 : l ≠ c) : SeqIt h' it l k xs := by
  rcases q with ⟨q1, q2⟩ | ⟨q1, q2⟩
  · exact .inl ⟨q1.extBut e h1, q2.extBut e h2⟩
  · exact .inr ⟨q1.extBut e h1, q2.extBut e h2⟩
section
variable {prog : Program} {w : World} {A : Around} {E : Value → Shared → Prop} {s : Shared}
theorem nextSome {it l : Addr} {k : Nat} {xs : Array Value} {x : Value} {Q : Value → Shared → Prop} (q : SeqIt s.heap it l k xs) (hne : l ≠ it) (hx : xs[k]? = some x)
    (hQ : ∀ h', SeqIt h' it l (k + 1) xs → Heap.SameBut it s.heap h' → Q x { s with heap := h' }) : wpAny (model prog w) A (Builtin.SmallTypes.nextOf (.ref it)) Q E s := by
  rcases q with ⟨q1, q2⟩ | ⟨q1, q2⟩
  · exact nextOf_tuple_item q1 q2 hx fun h' a b => hQ h' (.inl ⟨a, q2.extBut b.extBut hne⟩) b
  · exact wpAny_nextOf_list_item q1 q2 hx fun h' a b => hQ h' (.inr ⟨a, q2.extBut b.extBut hne⟩) b
theorem nextNone {it l : Addr} {k : Nat} {xs : Array Value} {Q : Value → Shared → Prop} (hh : A.handled = none) (q : SeqIt s.heap it l k xs) (hx : xs[k]? = none)
    (hE : ∀ h' e, Heap.ExtBut it s.heap h' → (∃ o, h'.get? e = some o ∧ o.cls = .type "StopIteration") → E (.ref e) { s with heap := h' }) : wpAny (model prog w) A (Builtin.SmallTypes.nextOf (.ref it)) Q E s := by
  rcases q with ⟨q1, q2⟩ | ⟨q1, q2⟩
  · exact nextOf_tuple_end hh q1 q2 hx hE
  · exact wpAny_nextOf_list_end hh q1 q2 hx hE
/-- all but the zip's own four objects stays -/
def Rest (z TO i1 i2 : Addr) (h h' : Heap) : Prop := ∀ c o, c ≠ z → c ≠ TO → c ≠ i1 → c ≠ i2 → h.get? c = some o → h'.get? c = some o
theorem zipm_head {z TI TO i1 i2 l1 l2 : Addr} {k1 k2 : Nat} {xs ys : Array Value} {a b : Value} {Q : Fin → Shared → Prop} (D : ZipApart z TI TO i1 i2 l1 l2)
    (hz : IsZip s.heap z TI TO .none) (hTI : IsPair s.heap TI (.ref i1) (.ref i2)) (h1 : SeqIt s.heap i1 l1 k1 xs) (h2 : SeqIt s.heap i2 l2 k2 ys) (hTO : IsPair s.heap TO a b)
    (hE : (xs[k1]? = none ∨ ys[k2]? = none) → ∀ h' e, A.handled = none → Rest z TO i1 i2 s.heap h' → (∃ o, h'.get? e = some o ∧ o.cls = .type "StopIteration") → E (.ref e) { s with heap := h' }) (hA : (xs[k1]? = none ∨ ys[k2]? = none) → A.handled = none)
    (hQ : ∀ x y h', xs[k1]? = some x → ys[k2]? = some y → IsZip h' z TI TO (rawInt s.heap.objs.size) → IsPair h' TO x y → SeqIt h' i1 l1 (k1 + 1) xs → SeqIt h' i2 l2 (k2 + 1) ys → IsPair h' s.heap.objs.size x y →
      h'.objs.size = s.heap.objs.size + 1 → Rest z TO i1 i2 s.heap h' → Q (.done (.ret (.ref s.heap.objs.size))) { s with heap := h' }) :
    wpAny (model prog w) A (Builtin.«zip.__next__» ⟨[.ref z], []⟩) Q E s := by
  show wpAny _ _ (do let _ ← field (.ref z) 2; _) _ _ _
  refine wpAny_bind (wpAny_field hz rfl (x := .bool false) rfl ?_); show wpAny _ _ (do let _ ← field (.ref z) 3; _) _ _ _
  refine wpAny_bind (wpAny_field hz rfl (x := .ref TI) rfl ?_); refine wpAny_bind (wpAny_seqItems hTI rfl ?_)
  show wpAny _ _ (do let _ ← Builtin.SmallTypes.ownedTupleIsFree (.ref z); _) _ _ _
  refine wpAny_bind ?_; unfold Builtin.SmallTypes.ownedTupleIsFree
  refine wpAny_bind (wpAny_field hz rfl (x := .none) rfl (wpAny_pure ?_)); simp only [if_true]
  refine wpAny_bind (wpAny_rule ?_); refine wpAny_bind (wpAny_field hz rfl (x := .ref TO) rfl ?_)
  refine wpAny_bind (wpAny_setField_rec hz (by simp) fun g1 hz1 e1 => ?_); replace hz1 : IsZip g1 z TI TO .ellipsis := hz1
  refine wpAny_bind ?_; simp only [List.zipIdx_cons, List.zipIdx_nil, List.forIn_cons, List.forIn_nil]
  refine wpAny_bind (wpAny_bind (wpAny_onRaise ?_)); show wpAny _ _ (do let _ ← Builtin.SmallTypes.nextOf (.ref i1); _) _ _ _
  have a1 : SeqIt g1 i1 l1 k1 xs := h1.ext e1.extBut D.i1z D.l1z
  have a2 : SeqIt g1 i2 l2 k2 ys := h2.ext e1.extBut D.i2z D.l2z
  cases hx : xs[k1]? with
  | none =>
    refine wpAny_bind (nextNone (hA (.inl hx)) a1 hx fun g2 e e2 he => ?_)
    obtain ⟨oe, hoe, hce⟩ := he
    have hz2 : IsZip g2 z TI TO .ellipsis := e2 _ _ D.i1z.symm hz1
    have hez : e ≠ z := fun x => by rw [x, hz2] at hoe; cases hoe; simp at hce
    refine wpAny_setField_rec hz2 (by simp) fun g3 _ e3 => hE (.inl hx) g3 e (hA (.inl hx)) (fun c o c1 _ c3 _ x => ?_) ⟨oe, e3.extBut _ _ hez hoe, hce⟩
    exact e3.extBut _ _ c1 (e2 _ _ c3 (e1.extBut _ _ c1 x))
  | some x =>
    refine wpAny_bind (nextSome a1 D.l1i1 hx fun g2 b1 e2 => wpAny_pure ?_)
    have t2 : IsPair g2 TO a b := e2.extBut _ _ D.TOi1 (e1.extBut _ _ D.TOz hTO)
    have b2 : SeqIt g2 i2 l2 k2 ys := a2.ext e2.extBut D.i12.symm D.l2i1
    refine wpAny_bind (wpAny_seqItems t2 rfl ?_); refine wpAny_bind (wpAny_updateSeq_pair t2 fun g3 t3 e3 => ?_); replace t3 : IsPair g3 TO x b := t3
    refine wpAny_bind (wpAny_letGo (wpAny_pure ?_)); refine wpAny_bind (wpAny_bind (wpAny_onRaise ?_))
    show wpAny _ _ (do let _ ← Builtin.SmallTypes.nextOf (.ref i2); _) _ _ _
    have c2 : SeqIt g3 i2 l2 k2 ys := b2.ext e3.extBut D.TOi2.symm D.l2TO
    have c1 : SeqIt g3 i1 l1 (k1 + 1) xs := b1.ext e3.extBut D.TOi1.symm D.l1TO
    have z3 : IsZip g3 z TI TO .ellipsis := e3.extBut _ _ D.TOz.symm (e2.extBut _ _ D.i1z.symm hz1)
    have r3 : ∀ c o, c ≠ z → c ≠ TO → c ≠ i1 → s.heap.get? c = some o → g3.get? c = some o := fun c o n1 n2 n3 q => e3.extBut _ _ n2 (e2.extBut _ _ n3 (e1.extBut _ _ n1 q))
    cases hy : ys[k2]? with
    | none =>
      refine wpAny_bind (nextNone (hA (.inr hy)) c2 hy fun g4 e e4 he => ?_)
      obtain ⟨oe, hoe, hce⟩ := he
      have z4 : IsZip g4 z TI TO .ellipsis := e4 _ _ D.i2z.symm z3
      have hez : e ≠ z := fun x => by rw [x, z4] at hoe; cases hoe; simp at hce
      refine wpAny_setField_rec z4 (by simp) fun g5 _ e5 => hE (.inr hy) g5 e (hA (.inr hy)) (fun c o n1 n2 n3 n4 x => ?_) ⟨oe, e5.extBut _ _ hez hoe, hce⟩
      exact e5.extBut _ _ n1 (e4 _ _ n4 (r3 c o n1 n2 n3 x))
    | some y =>
      refine wpAny_bind (nextSome c2 D.l2i2 hy fun g4 d2 e4 => wpAny_pure ?_)
      have t4 : IsPair g4 TO x b := e4.extBut _ _ D.TOi2 t3
      have d1 : SeqIt g4 i1 l1 (k1 + 1) xs := c1.ext e4.extBut D.i12 D.l1i2
      refine wpAny_bind (wpAny_seqItems t4 rfl ?_); refine wpAny_bind (wpAny_updateSeq_pair t4 fun g5 t5 e5 => ?_); replace t5 : IsPair g5 TO x y := t5
      refine wpAny_bind (wpAny_letGo (wpAny_pure (wpAny_pure ?_))); refine wpAny_bind (wpAny_seqItems t5 rfl ?_); refine wpAny_bind (wpAny_newTuple ?_)
      have hsz : g5.objs.size = s.heap.objs.size := by rw [e5.1, e4.1, e3.1, e2.1, e1.1]
      have z5 : IsZip g5 z TI TO .ellipsis := e5.extBut _ _ D.TOz.symm (e4.extBut _ _ D.i2z.symm z3)
      have r5 : ∀ c o, c ≠ z → c ≠ TO → c ≠ i1 → c ≠ i2 → s.heap.get? c = some o → g5.get? c = some o := fun c o n1 n2 n3 n4 q => e5.extBut _ _ n2 (e4.extBut _ _ n4 (r3 c o n1 n2 n3 q))
      have f1 : SeqIt g5 i1 l1 (k1 + 1) xs := d1.ext e5.extBut D.TOi1.symm D.l1TO
      have f2 : SeqIt g5 i2 l2 (k2 + 1) ys := d2.ext e5.extBut D.TOi2.symm D.l2TO
      have lz : z < g5.objs.size := Heap.lt_size z5
      show wpAny _ _ (do let _ ← Builtin.SmallTypes.ownedTupleHandOut (.ref z) (.ref g5.objs.size); _) _ _ _
      refine wpAny_bind ?_; unfold Builtin.SmallTypes.ownedTupleHandOut
      have z6 : IsZip (g5.push { cls := .type "tuple", data := .seq #[x, y] }) z TI TO .ellipsis := Heap.get?_push_of_some _ z5
      refine wpAny_bind (wpAny_setField_rec z6 (by simp) fun g7 z7 e7 => ?_); replace z7 : IsZip g7 z TI TO (rawInt g5.objs.size) := z7
      refine wpAny_setField_rec z7 (by simp) fun g8 z8 e8 => ?_; replace z8 : IsZip g8 z TI TO (rawInt g5.objs.size) := z8
      have up : ∀ c o, c ≠ z → g5.get? c = some o → g8.get? c = some o := fun c o n1 q => e8.extBut _ _ n1 (e7.extBut _ _ n1 (Heap.get?_push_of_some _ q))
      have p8 : IsPair g8 g5.objs.size x y := e8.extBut _ _ (Nat.ne_of_gt lz) (e7.extBut _ _ (Nat.ne_of_gt lz) (Heap.get?_push_size _ rfl))
      have s8 : g8.objs.size = g5.objs.size + 1 := by rw [e8.1, e7.1, Heap.size_push]
      have at8 : ∀ {it l : Addr} {k : Nat} {vs : Array Value}, it ≠ z → l ≠ z → SeqIt g5 it l k vs → SeqIt g8 it l k vs := fun n1 n2 q => by
        rcases q with ⟨⟨o, q1, q2⟩, ⟨o', q3, q4⟩⟩ | ⟨⟨o, q1, q2⟩, ⟨o', q3, q4⟩⟩
        · exact .inl ⟨⟨o, up _ _ n1 q1, q2⟩, ⟨o', up _ _ n2 q3, q4⟩⟩
        · exact .inr ⟨⟨o, up _ _ n1 q1, q2⟩, ⟨o', up _ _ n2 q3, q4⟩⟩
      rw [hsz] at z8 p8 s8
      refine wpAny_pure ?_
      rw [hsz]
      exact hQ x y g8 hx hy z8 (up _ _ D.TOz t5) (at8 D.i1z D.l1z f1) (at8 D.i2z D.l2z f2) p8 s8 fun c o n1 n2 n3 n4 q => up c o n1 (r5 c o n1 n2 n3 n4 q)
theorem pyNextM {z TI TO i1 i2 l1 l2 : Addr} {k1 k2 : Nat} {xs ys : Array Value} {a b : Value} {Q : Option Value → Shared → Prop} (D : ZipApart z TI TO i1 i2 l1 l2)
    (hz : IsZip s.heap z TI TO .none) (hTI : IsPair s.heap TI (.ref i1) (.ref i2)) (h1 : SeqIt s.heap i1 l1 k1 xs) (h2 : SeqIt s.heap i2 l2 k2 ys) (hTO : IsPair s.heap TO a b) (hA : (xs[k1]? = none ∨ ys[k2]? = none) → A.handled = none)
    (hE : (xs[k1]? = none ∨ ys[k2]? = none) → ∀ h', Rest z TO i1 i2 s.heap h' → Q none { s with heap := h' })
    (hQ : ∀ x y h', xs[k1]? = some x → ys[k2]? = some y → IsZip h' z TI TO (rawInt s.heap.objs.size) → IsPair h' TO x y → SeqIt h' i1 l1 (k1 + 1) xs → SeqIt h' i2 l2 (k2 + 1) ys → IsPair h' s.heap.objs.size x y →
      h'.objs.size = s.heap.objs.size + 1 → Rest z TO i1 i2 s.heap h' → Q (some (.ref s.heap.objs.size)) { s with heap := h' }) : wpAny (model prog w) A (pyNext (.ref z)) Q E s := by
  have hT : s.TypeIs (.ref z) "zip" := ⟨_, hz, rfl⟩
  unfold pyNext
  refine wpAny_bind (wpAny_attempt (wpAny_callSpecial?_slot (name := Str.ofString "__next__") hT F.slot_zip_next (wpAny_call_entry F.slot_zip_next hT F.entry_zip_next
    (zipm_head D hz hTI h1 h2 hTO (fun hn h' e _ hk he => ?_) (fun hn => hA hn) fun x y h' q1 q2 q3 q4 q5 q6 q7 q8 q9 => ⟨_, rfl, wpAny_pure (hQ x y h' q1 q2 q3 q4 q5 q6 q7 q8 q9)⟩) (F.args_zip_next_1 _))))
  obtain ⟨o, ho, hc⟩ := he
  exact wpAny_bind (wpAny_isInstance (T := "StopIteration") (b := true) ⟨o, ho, hc⟩ isSubtype_stop (wpAny_pure (hE hn _ hk)))
end
abbrev zmA (h : Heap) (l1 : Addr) : Heap := h.push { cls := .type "tuple_iterator", data := .fields #[.ref l1, .int 0 0] }
abbrev zmB (h : Heap) (l1 l2 : Addr) : Heap := (zmA h l1).push { cls := .type "list_iterator", data := .fields #[.ref l2, .int 0 0] }
abbrev zmC (h : Heap) (l1 l2 : Addr) : Heap := (zmB h l1 l2).push { cls := .type "tuple", data := .seq #[.ref h.objs.size, .ref (zmA h l1).objs.size] }
abbrev zmD (h : Heap) (l1 l2 : Addr) : Heap := (zmC h l1 l2).push { cls := .type "tuple", data := .seq #[.none, .none] }
abbrev zmE (h : Heap) (l1 l2 : Addr) : Heap := (zmD h l1 l2).push { cls := .type "zip", data := .fields #[.none, .bool false, .bool false, .ref (zmB h l1 l2).objs.size, .ref (zmC h l1 l2).objs.size] }
theorem meets_zm (l1 l2 : Addr) (xs ys : Array Value) : Meets (Builtin.«zip.__new__» ⟨[.type "zip", .ref l1, .ref l2], []⟩) (fun _ R s =>
      s.heap.IsTuple l1 xs ∧ s.heap.IsList l2 ys ∧ R (.ok (.ret (.ref (zmD s.heap l1 l2).objs.size))) { s with heap := zmE s.heap l1 l2 }) :=
  .of_wp fun prog w A R s h => by
    obtain ⟨hp, g, d, tk, os⟩ := s; obtain ⟨q1, q2, h⟩ := h
    have own_ := sub_zip
    have t1 : Heap.IsTuple (Shared.heap ⟨hp, g, d, tk, os⟩) l1 xs := q1
    have t2 : Heap.IsList (Shared.heap ⟨zmA hp l1, g, d, tk, os⟩) l2 ys := Heap.IsList.push q2 _
    wp_walk using wpAny_pyIter_tuple t1, wpAny_pyIter_list t2
    exact ⟨_, rfl, h⟩
section
variable {prog : Program} {w : World} {A : Around} {E : Value → Shared → Prop} {s : Shared}
theorem call_zm {l1 l2 : Addr} {xs ys : Array Value} {Q : Value → Shared → Prop} (q1 : s.heap.IsTuple l1 xs) (q2 : s.heap.IsList l2 ys)
    (h : ∀ h', IsZip h' (s.heap.objs.size + 4) (s.heap.objs.size + 2) (s.heap.objs.size + 3) .none → IsPair h' (s.heap.objs.size + 2) (.ref s.heap.objs.size) (.ref (s.heap.objs.size + 1)) → IsPair h' (s.heap.objs.size + 3) .none .none →
      SeqIt h' s.heap.objs.size l1 0 xs → SeqIt h' (s.heap.objs.size + 1) l2 0 ys → h'.objs.size = s.heap.objs.size + 5 → (∀ c o, s.heap.get? c = some o → h'.get? c = some o) → Q (.ref (s.heap.objs.size + 4)) { s with heap := h' }) :
    wpAny (model prog w) A (call (.type "zip") [.ref l1, .ref l2]) Q E s := by
  refine callType_new F.called_zip (by decide) (F.typeCall_zip_2 _ _) (F.newCall_zip_2 _ _) (fun obj => F.args_object_init_3 obj _ _) F.entry_zip_new (meets_zm l1 l2 xs ys) ⟨q1, q2, ?_⟩
  have n1 : (zmA s.heap l1).objs.size = s.heap.objs.size + 1 := Heap.size_push ..
  have n2 : (zmB s.heap l1 l2).objs.size = s.heap.objs.size + 2 := by rw [Heap.size_push, n1]
  have n3 : (zmC s.heap l1 l2).objs.size = s.heap.objs.size + 3 := by rw [Heap.size_push, n2]
  have n4 : (zmD s.heap l1 l2).objs.size = s.heap.objs.size + 4 := by rw [Heap.size_push, n3]
  have n5 : (zmE s.heap l1 l2).objs.size = s.heap.objs.size + 5 := by rw [Heap.size_push, n4]
  have old : ∀ c o, s.heap.get? c = some o → (zmE s.heap l1 l2).get? c = some o := fun c o x => Heap.get?_push_of_some _ (Heap.get?_push_of_some _ (Heap.get?_push_of_some _ (Heap.get?_push_of_some _ (Heap.get?_push_of_some _ x))))
  have a5 : (zmE s.heap l1 l2).get? (zmD s.heap l1 l2).objs.size = some _ := Heap.get?_push_size _ rfl
  have a4 : (zmE s.heap l1 l2).get? (zmC s.heap l1 l2).objs.size = some _ := Heap.get?_push_of_some _ (Heap.get?_push_size _ rfl)
  have a3 : (zmE s.heap l1 l2).get? (zmB s.heap l1 l2).objs.size = some _ := Heap.get?_push_of_some _ (Heap.get?_push_of_some _ (Heap.get?_push_size _ rfl))
  have a2 : (zmE s.heap l1 l2).get? (zmA s.heap l1).objs.size = some _ := Heap.get?_push_of_some _ (Heap.get?_push_of_some _ (Heap.get?_push_of_some _ (Heap.get?_push_size _ rfl)))
  have a1 : (zmE s.heap l1 l2).get? s.heap.objs.size = some _ := Heap.get?_push_of_some _ (Heap.get?_push_of_some _ (Heap.get?_push_of_some _ (Heap.get?_push_of_some _ (Heap.get?_push_size _ rfl))))
  show _ ∧ _
  rw [n2, n3, n4] at a5
  rw [n1, n2] at a3
  rw [n3] at a4
  rw [n1] at a2
  rw [n4]
  obtain ⟨o1, x1, y1⟩ := id q1
  obtain ⟨o2, x2, y2⟩ := id q2
  exact ⟨⟨_, a5, rfl⟩, h _ a5 a3 a4 (.inl ⟨⟨_, a1, rfl, rfl⟩, ⟨o1, old _ _ x1, y1⟩⟩) (.inr ⟨⟨_, a2, rfl, rfl⟩, ⟨o2, old _ _ x2, y2⟩⟩) n5 old⟩
end
end ZipM
namespace L2
open PySem PySem.Spec PyProof.Rows RZ ZipM
/-- a tuple and a list, the things in new pairs -/
def ItzM (K : PySem.W.Frag) (a b : Addr) : It where
  go i H := ∃ (xs ys : List V) (x y : V), SqT K H a xs ∧ SqL K H b ys ∧ xs[i]? = some x ∧ ys[i]? = some y
  yld i H v H' := ∃ T x y, v = .ref T ∧ H T = none ∧ H' = upd H T (.tup [x, y]) ∧ (∀ xs, SqT K H a xs → xs[i]? = some x) ∧ ∀ ys, SqL K H b ys → ys[i]? = some y
  stop i H := ∃ xs ys : List V, SqT K H a xs ∧ SqL K H b ys ∧ (xs.length ≤ i ∨ ys.length ≤ i)
theorem five {z TI TO i1 i2 c : Addr} {p : Addr → Prop} (h : c ∈ [z, TI, TO, i1, i2]) (a1 : p z) (a2 : p TI) (a3 : p TO) (a4 : p i1) (a5 : p i2) : p c := by
  have e : c = z ∨ c = TI ∨ c = TO ∨ c = i1 ∨ c = i2 := by simpa using h
  rcases e with rfl | rfl | rfl | rfl | rfl <;> assumption
end L2
namespace L2
open PySem PySem.Spec PyProof.Rows RZ ZipM
theorem turn_zipM {P : Program} {w : World} {K : PySem.W.Frag} {elts : List Expr} {kk : Nat} {tpos : Pos} {a b z TI TO i1 i2 : Addr} (D : ZipApart z TI TO i1 i2 a b) :
    Turn P w K (.Tuple elts kk tpos) (ItzM K a b) [z, TI, TO, i1, i2] z (fun i h => IsZip h z TI TO .none ∧ IsPair h TI (.ref i1) (.ref i2) ∧ (∃ x y, IsPair h TO x y) ∧ h.IsTupleIter i1 a i ∧ h.IsListIter i2 b i) where
  mem := by simp
  self := fun A i s Q E st h => wpAny_pyIter_zip st.1 h
  keep := fun i h h' st k => by
    obtain ⟨q1, q2, ⟨x, y, q3⟩, q4, q5⟩ := st
    refine ⟨k z (by simp) _ q1, k TI (by simp) _ q2, ⟨x, y, k TO (by simp) _ q3⟩, ?_, ?_⟩
    · exact q4.at fun o q => k i1 (by simp) o q
    · exact q5.at fun o q => k i2 (by simp) o q
  obj := fun i h st c hc => by
    obtain ⟨q1, q2, ⟨x, y, q3⟩, ⟨o4, e4, _, d4⟩, ⟨o5, e5, _, d5⟩⟩ := st
    refine five (p := fun c => ∃ o, h.get? c = some o ∧ ∀ v, o.data ≠ .cell v) hc ⟨_, q1, fun v q => nomatch q⟩ ⟨_, q2, fun v q => nomatch q⟩ ⟨_, q3, fun v q => nomatch q⟩ ⟨o4, e4, fun v q => ?_⟩ ⟨o5, e5, fun v q => ?_⟩
    · rw [d4] at q; cases q
    · rw [d5] at q; cases q
  item := by
    intro X hP hw hK hc i pins s σ H E I hf st hg
    subst hP hw hK
    obtain ⟨hz, hTI, ⟨x0, y0, hTO⟩, h1, h2⟩ := st
    obtain ⟨xs, ys, x, y, hqx, hqy, hx, hy⟩ := hg
    obtain ⟨its, rv, p, _⟩ := I.tuple hqx
    obtain ⟨jts, rw', p', _⟩ := I.list hqy
    obtain ⟨u, hu, ru⟩ := rv.get hx
    obtain ⟨v, hv, ru'⟩ := rw'.get hy
    have hu' : its.toArray[i]? = some u := by simpa using hu
    have hv' : jts.toArray[i]? = some v := by simpa using hv
    have lz : z < s.heap.objs.size := Heap.lt_size hz
    refine pyNextM D hz hTI (.inl ⟨h1, p⟩) (.inr ⟨h2, p'.isList⟩) hTO (fun hn => ?_) (fun hn => ?_) fun x' y' h' e1 e2 z' TO' s1 s2 hT hsz hk => ?_
    · rcases hn with hn | hn
      · rw [hu'] at hn; cases hn
      · rw [hv'] at hn; cases hn
    · rcases hn with hn | hn
      · rw [hu'] at hn; cases hn
      · rw [hv'] at hn; cases hn
    rw [hu'] at e1
    cases e1
    rw [hv'] at e2
    cases e2
    refine ⟨_, rfl, wpAny_letOwnedTupleGo_zip (s := { s with heap := h' }) z' fun h'' z'' sb => ?_⟩
    have hT2 : h''.get? s.heap.objs.size = some { cls := .type "tuple", data := .seq #[u, v] } := (sb.2 _ (Nat.ne_of_gt lz)).trans hT
    have new : ObjOk X.prog X.w (upd H s.heap.objs.size (.tup [x, y])) h'' s.heap.objs.size (.tup [x, y]) := ⟨by show 2 ≤ sizeLine; decide, [u, v], .cons ru (.cons ru' .nil), _, hT2, rfl, _, rfl⟩
    have I1 : Inv X pins σ (upd H s.heap.objs.size (.tup [x, y])) { s with heap := h'' } := I.turnedNew (t' := s.toks) (ch := [z, TI, TO, i1, i2]) (fun c o hb q => by
      have m : ∀ d ∈ [z, TI, TO, i1, i2], c ≠ d := fun d hd e => hb (e ▸ hd)
      exact (sb.2 c (m z (by simp))).trans (hk c o (m z (by simp)) (m TO (by simp)) (m i1 (by simp)) (m i2 (by simp)) q)) hf (Nat.le_refl _) new
    have it1 : h'.IsTupleIter i1 a (i + 1) := by
      rcases s1 with q | q
      · exact q.1
      · obtain ⟨_, o, g1, g2, _⟩ := q
        obtain ⟨o', k1, k2, _⟩ := id p
        have := hk a _ D.l1z D.l1TO D.l1i1 D.l1i2 k1
        rw [g1] at this
        cases this
        rw [g2] at k2
        injection k2 with k3
        exact absurd k3 (by decide)
    have it2 : h'.IsListIter i2 b (i + 1) := by
      rcases s2 with q | q
      · obtain ⟨_, o, g1, g2, _⟩ := q
        obtain ⟨o', k1, k2, _⟩ := id p'.isList
        have := hk b _ D.l2z D.l2TO D.l2i1 D.l2i2 k1
        rw [g1] at this
        cases this
        rw [g2] at k2
        injection k2 with k3
        exact absurd k3 (by decide)
      · exact q.1
    refine ⟨.ref s.heap.objs.size, _, I1, rfl, ⟨_, x, y, rfl, I.hok.fresh (Nat.le_refl _), rfl, fun l hl => by rw [I.tuple_inj hl hqx]; exact hx, fun l hl => by rw [I.list_inj hl hqy]; exact hy⟩, ⟨z'', (sb.2 _ D.TIz).trans (hk _ _ D.TIz D.TITO D.TIi1 D.TIi2 hTI), ⟨u, v, (sb.2 _ D.TOz).trans TO'⟩, it1.at fun o q => (sb.2 _ D.i1z).trans q, it2.at fun o q => (sb.2 _ D.i2z).trans q⟩, fun c hcm => ?_⟩
    have hlt : c < s.heap.objs.size := by
      obtain ⟨_, w4, _⟩ := h1
      obtain ⟨_, w5, _⟩ := h2
      exact five (p := fun c => c < s.heap.objs.size) hcm lz (Heap.lt_size hTI) (Heap.lt_size hTO) (Heap.lt_size w4) (Heap.lt_size w5)
    rw [upd_ne (Nat.ne_of_lt hlt)]
    exact (hf c hcm).1
  done := by
    intro X hP hw hK hc i pins s σ H E I hf st hg
    subst hP hw hK
    obtain ⟨hz, hTI, ⟨x0, y0, hTO⟩, h1, h2⟩ := st
    obtain ⟨xs, ys, hqx, hqy, hend⟩ := hg
    obtain ⟨its, rv, p, _⟩ := I.tuple hqx
    obtain ⟨jts, rw', p', _⟩ := I.list hqy
    have l1 := rv.length
    have l2 := rw'.length
    have he : its.toArray[i]? = none ∨ jts.toArray[i]? = none := hend.imp (fun q => by simp; omega) fun q => by simp; omega
    refine pyNextM D hz hTI (.inl ⟨h1, p⟩) (.inr ⟨h2, p'.isList⟩) hTO (fun _ => I.ok.hd hc) (fun _ h' hk => ⟨rfl, I.turnedL (t' := s.toks) (ch := [z, TI, TO, i1, i2]) (fun c o hb q => ?_) hf⟩) fun x' y' h' e1 e2 => ?_
    · have m : ∀ d ∈ [z, TI, TO, i1, i2], c ≠ d := fun d hd e => hb (e ▸ hd)
      exact hk c o (m z (by simp)) (m TO (by simp)) (m i1 (by simp)) (m i2 (by simp)) q
    · rcases he with q | q
      · rw [e1] at q; cases q
      · rw [e2] at q; cases q
def iZipM (K : PySem.W.Frag) (ta : TA) : TI := fun σ H R => ta σ H fun vs H1 => ∃ a b xs ys, vs = [.ref a, .ref b] ∧ SqT K H1 a xs ∧ SqL K H1 b ys ∧ R (ItzM K a b) H1
theorem pi_zipM {X : Cx} {K : PySem.W.Frag} (hK : X.K = K) {e e2 : Expr} {ta : TA} {p pos tpos : Pos} {elts : List Expr} {kk : Nat} (hg : Gl X "zip") (hm : X.mg "zip" = none) (ha : PA X [e, e2] ta)
    (hs : starEach [e, e2] X.env = (false, eval e X.env) :: starEach [e2] X.env := by rfl) (hpl : (backTo pos (starEach [e2] X.env)).any (·.1) = false := by rfl) : PI X (.Tuple elts kk tpos) (.Call (.Name "zip" p) [e, e2] [] pos) (iZipM K ta) := by
  subst hK
  refine ⟨fun pins s σ H R I h => ?_⟩
  refine Call_ (ld_blt I hg hm PyProof.Rows.boot_zip (PyProof.Rows.callWith_type1 (thn (ha.run pos pins s σ H _ I h) fun us s1 ⟨vs, H1, I1, r1, q1⟩ => ?_) hs hpl))
  obtain ⟨a, b, xs, ys, rfl, hqx, hqy, q⟩ := q1
  obtain ⟨ua, ub, rfl, ra, rb⟩ : ∃ ua ub, us = [ua, ub] ∧ RelV (.ref a) ua ∧ RelV (.ref b) ub := by
    cases r1 with
    | cons r rr => cases rr with
      | cons r' rr => cases rr; exact ⟨_, _, rfl, r, r'⟩
  cases ra
  cases rb
  obtain ⟨its, rv, p1, _⟩ := I1.tuple hqx
  obtain ⟨jts, rv', p2, _⟩ := I1.list hqy
  obtain ⟨o1, ho1, _⟩ := id p1
  refine call_zm (show s1.heap.IsTuple a its.toArray from p1) p2.isList fun h' hz hTI hTO h1 h2 hsz hk => wpAny_pyIter_zip hz ?_
  have I2 : Inv X pins σ H1 { s1 with heap := h' } := I1.kept (t' := s1.toks) hk
  have fr0 : FpOk X pins H1 s1.heap.objs.size := I1.fpOk (Nat.le_refl _) (I1.hok.fresh (Nat.le_refl _))
  have fr : ∀ n, FpOk X pins H1 (s1.heap.objs.size + n) := fun n => I1.fpOk (Nat.le_add_right _ _) (I1.hok.fresh (Nat.le_add_right _ _))
  have hfr : ∀ c ∈ [s1.heap.objs.size + 4, s1.heap.objs.size + 2, s1.heap.objs.size + 3, s1.heap.objs.size, s1.heap.objs.size + 1], FpOk X pins H1 c := fun c hc => five (p := FpOk X pins H1) hc (fr 4) (fr 2) (fr 3) fr0 (fr 1)
  have it1 : h'.IsTupleIter s1.heap.objs.size a 0 := by
    rcases h1 with q | q
    · exact q.1
    · obtain ⟨_, o, g1, g2, _⟩ := q
      obtain ⟨o', k1, k2, _⟩ := id p1
      have := hk a _ k1
      rw [g1] at this
      cases this
      rw [g2] at k2
      injection k2 with k3
      exact absurd k3 (by decide)
  have it2 : h'.IsListIter (s1.heap.objs.size + 1) b 0 := by
    rcases h2 with q | q
    · obtain ⟨_, o, g1, g2, _⟩ := q
      obtain ⟨o', k1, k2, _⟩ := id p2.isList
      have := hk b _ k1
      rw [g1] at this
      cases this
      rw [g2] at k2
      injection k2 with k3
      exact absurd k3 (by decide)
    · exact q.1
  exact ⟨s1.heap.objs.size + 4, [s1.heap.objs.size + 4, s1.heap.objs.size + 2, s1.heap.objs.size + 3, s1.heap.objs.size, s1.heap.objs.size + 1], _, _, H1, rfl, I2, turn_zipM (PySem.W.ktu_apart s1.heap.objs.size a b (Heap.lt_size ho1) p2.lt), ⟨hz, hTI, ⟨_, _, hTO⟩, it1, it2⟩, fun c hc => hfr c hc, q⟩
/-- a loop over zip of a tuple and a list that stay -/
theorem for_zipM {K : PySem.W.Frag} {a b : Addr} {xs ys : List V} {g : TG} {tb : TS} {D : Ends} {σ : L2.St} {H : Hp} (Pv : Nat → L2.St → Hp → Prop) (h0 : Pv 0 σ H) (hl : xs.length = ys.length) (hq : ∀ i σ H, Pv i σ H → SqT K H a xs ∧ SqL K H b ys)
    (hs : ∀ (i : Nat) (x y : V) (t : Addr) (σ : L2.St) (H : Hp), xs[i]? = some x → ys[i]? = some y → Pv i σ H → H t = none → g (.ref t) σ (upd H t (.tup [x, y])) fun σ' H' => tb { D with nx := Pv (i + 1), ct := Pv (i + 1), bk := D.nx } σ' H') (hd : ∀ σ H, Pv xs.length σ H → D.nx σ H) :
    ∃ W : Nat → Nat → L2.St → Hp → Prop, (∃ m, W 0 m σ H) ∧ ∀ i m σ H, W i m σ H → ((ItzM K a b).stop i H ∧ D.nx σ H) ∨
      ((ItzM K a b).go i H ∧ ∃ N : L2.St → Hp → Prop, (∀ σ' H', N σ' H' → ∃ m', m' < m ∧ W (i + 1) m' σ' H') ∧ ∀ v H', (ItzM K a b).yld i H v H' → g v σ H' fun σ' H'' => tb { D with nx := N, ct := N, bk := D.nx } σ' H'') := by
  refine ⟨fun i m σ H => i ≤ xs.length ∧ m = xs.length - i ∧ Pv i σ H, ⟨_, Nat.zero_le _, rfl, h0⟩, ?_⟩
  rintro i m σ H ⟨hi, rfl, p⟩
  obtain ⟨q1, q2⟩ := hq i σ H p
  by_cases hlt : i < xs.length
  · obtain ⟨x, hx⟩ : ∃ x, xs[i]? = some x := ⟨_, List.getElem?_eq_getElem hlt⟩
    obtain ⟨y, hy⟩ : ∃ y, ys[i]? = some y := ⟨_, List.getElem?_eq_getElem (hl ▸ hlt)⟩
    refine .inr ⟨⟨xs, ys, x, y, q1, q2, hx, hy⟩, Pv (i + 1), fun σ' H' p' => ⟨_, Nat.sub_lt_sub_left hlt (Nat.lt_succ_self i), hlt, rfl, p'⟩, ?_⟩
    rintro v H' ⟨t, x', y', rfl, ht, rfl, f1, f2⟩
    exact hs i x' y' t σ H (f1 xs q1) (f2 ys q2) p ht
  · have e : i = xs.length := by omega
    subst e
    exact .inl ⟨⟨xs, ys, q1, q2, .inl (Nat.le_refl _)⟩, hd σ H p⟩
end L2
/-! a tuple some times, once too; lists backwards; lists of ranges. -/
namespace L2
open PySem PySem.Spec PyProof.Rows
theorem tuple_once (l : Addr) (items : Array Value) (n : Nat) (dd : Option Addr) (sl : Array (Option Value)) (u : Tok) : Meets (Builtin.«tuple.__mul__» ⟨[.ref l, .int 1 u], []⟩) (fun _ R s =>
      s.heap.get? l = some { cls := .type "tuple", dict := dd, data := .seq items n, slots := sl } ∧ R (.ok (.ret (Value.ref l))) s) :=
  .of_wp fun prog w A R s h => by
    obtain ⟨hp, g, d, tk, os⟩ := s
    obtain ⟨hl, h⟩ := h
    have f1 := AutoSeq1.idx_int
    wp_walk using wpAny_loadPart' hl
    exact ⟨_, rfl, h⟩
open Evl in
/-- a tuple some times: once, it is itself -/
def rRepU (K : PySem.W.Frag) : R2 := fun x y H Q => ∃ l k xs, x = .ref l ∧ y = .int k ∧ SqT K H l xs ∧ xs ≠ [] ∧ 1 ≤ k ∧ k ≤ 4000 ∧ xs.length ≤ 100 ∧ ∀ p H2, Evl.Ex H H2 → SqT K H2 p (List.replicate k.toNat xs).flatten → Q (.ref p) H2
section
variable {X : Cx} {K : PySem.W.Frag}
theorem op_repU (hK : X.K = K) : OpR X (binaryOp .Mult) (rRepU K) := by
  subst hK
  intro pins s σ H x y v u Q I rx ry h
  obtain ⟨l, k, xs, rfl, rfl, hT, hne, h1, h2, hz, q⟩ := h
  cases rx
  obtain ⟨t, rfl⟩ := ry
  obtain ⟨its, r, ⟨⟨cls, dd, data, sl⟩, ho, hc, n, hd⟩, hs⟩ := I.tuple hT
  simp only at hc hd
  subst hc hd
  have hle : xs.length = its.length := r.length
  have hn : its.toArray.isEmpty = false := by
    cases its with
    | nil => exact absurd (List.eq_nil_of_length_eq_zero hle) hne
    | cons _ _ => rfl
  have big : k.toNat * its.length ≤ 4000 * 100 := Nat.mul_le_mul (by omega) (by omega)
  have flen : (List.replicate k.toNat its).flatten.length ≤ sizeLine := by rw [PyProof.Rows.lm_len_rep_flat, sizeLine_eq]; omega
  have prod : ((its.toArray.size : Nat) : Int) * k ≤ 400000 := by
    rw [List.size_toArray]
    have : ((k.toNat * its.length : Nat) : Int) ≤ 400000 := Int.ofNat_le.mpr big
    rw [Int.natCast_mul, Int.toNat_of_nonneg (by omega), Int.mul_comm] at this
    exact this
  by_cases e : k = 1
  · subst e
    refine wpAny_binaryOp_repeat_ref (T := "tuple") (U := "int") (by decide) ⟨_, ho, rfl⟩ (fun s' => typeIs_int s' 1 t) noFill_tuple_mul F.fills_int_mul F.slot_int_rmul repeat_tuple F.slot_int_index.lookup
      (call_meets F.slot_int_rmul (typeIs_int s _ t) F.entry_int_rmul (F.args_int_rmul_2 _ _) (int_rmul_tuple _ t l its.toArray n dd sl) ⟨ho, rfl, ⟨_, ho, rfl⟩, call_meets F.slot_tuple_mul ⟨_, ho, rfl⟩ F.entry_tuple_mul (F.args_tuple_mul_2 _ _) (tuple_once l its.toArray n dd sl t) ⟨ho, ?_⟩⟩)
    refine ⟨.ref l, H, I, rfl, q l H (fun _ _ q => q) ?_⟩
    rw [show (List.replicate (1 : Int).toNat xs).flatten = xs by simp]
    exact hT
  · have c0 : (decide (k < -(2 ^ 63)) || decide (k ≥ 2 ^ 63)) = false := by
      rw [Bool.or_eq_false_iff]
      exact ⟨decide_eq_false (by omega), decide_eq_false (by omega)⟩
    have c1 : (its.toArray.isEmpty || k == 1) = false := by rw [hn, Bool.false_or]; exact beq_eq_false_iff_ne.mpr e
    have c2 : (decide (k ≤ 0) || its.toArray.isEmpty) = false := by rw [hn, Bool.or_false]; exact decide_eq_false (by omega)
    have c4 : Builtin.Tuple.tupleTooMany (((its.toArray.size : Nat) : Int) * k) = false := by unfold Builtin.Tuple.tupleTooMany; rw [sizeLine_eq]; exact decide_eq_false (by omega)
    refine wpAny_binaryOp_repeat_ref (T := "tuple") (U := "int") (by decide) ⟨_, ho, rfl⟩ (fun s' => typeIs_int s' k t) noFill_tuple_mul F.fills_int_mul F.slot_int_rmul repeat_tuple F.slot_int_index.lookup
      (call_meets F.slot_int_rmul (typeIs_int s _ t) F.entry_int_rmul (F.args_int_rmul_2 _ _) (int_rmul_tuple _ t l its.toArray n dd sl) ⟨ho, rfl, ⟨_, ho, rfl⟩, call_meets F.slot_tuple_mul ⟨_, ho, rfl⟩ F.entry_tuple_mul (F.args_tuple_mul_2 _ _) (tuple_mulW l its.toArray n dd sl k t c0 c1 c2 (by omega) c4 (by rw [size_rep, List.size_toArray]; exact flen)) ⟨ho, ?_⟩⟩)
    rw [size_rep]
    have fn := I.hok.fresh (Nat.le_refl s.heap.objs.size)
    refine ⟨.ref s.heap.objs.size, _, I.laid (t' := s.toks) (o := .tup (List.replicate k.toNat xs).flatten) (fun b ob q => Heap.get?_push_of_some _ q) (Nat.le_refl _) ?_, rfl, q _ _ (Evl.Ex.new fn) (SqT.of upd_same)⟩
    exact ⟨by rw [PyProof.Rows.lm_len_rep_flat, sizeLine_eq, hle]; omega, _, r.rep k.toNat, IsTup.new _ _⟩
theorem pe_revLK (hK : X.K = K) {e : Expr} {te : TE} {k : Nat} {p1 p2 p3 pos : Pos} (he : PE X e te) : PE X (.Subscript e (.Slice none none (some (.UnaryOp .USub (.Constant (.int 1) k p1) p2)) p3) pos) (tRevL K te) := by
  subst hK
  exact pe_revL he
end
end L2
/-! lists made of pairs in a tuple, of two tuples at once. -/
namespace L2
open PySem PySem.Spec PyProof.Rows RZ Evl
section
variable {K : PySem.W.Frag} {σ : L2.St} {H : Hp} {te : TE}
theorem cv_turnH {H H' : Hp} {v : Nat → V} {Dl : Addr} {i : Nat} {σ2 : L2.St} (p : Cv H v Dl i H') (hi : i < 50000) {H9 : Hp} (e9 : Ex H' H9) (he : Ev te σ2 H9 (v i)) :
    tYes σ2 H9 fun b H3 => if b = true then te σ2 H3 fun y H4 => ∃ acc, H4 Dl = some (.lst acc) ∧ acc.length < sizeLine ∧ Cv H v Dl (i + 1) (upd H4 Dl (.lst (acc ++ [y]))) else Cv H v Dl (i + 1) H3 := by
  obtain ⟨p1, p2, p3⟩ := p
  show te σ2 H9 fun y H4 => ∃ acc, H4 Dl = some (.lst acc) ∧ acc.length < sizeLine ∧ Cv H v Dl (i + 1) (upd H4 Dl (.lst (acc ++ [y])))
  refine he H9 (Ex.refl _) _ fun H4 e4 => ⟨gvn i v, (e9.trans e4) Dl _ p3, ?_, p1, Ex.mut (p2.trans (e9.trans e4)) p1, by rw [gvn_succ]; exact upd_same⟩
  rw [gvn_len, sizeLine_eq]
  omega
theorem el_lcT2 {a : Addr} {xs : List V} {tl : TE} {j1 j2 : Nat} {vs : List Nat} (v : Nat → V) (h : Ev tl σ H (.ref a)) (hx : SqT K H a xs) (wz : xs.length ≤ 40000)
    (he : ∀ (i : Nat) (z : V) H1, Ex H H1 → xs[i]? = some z → ∃ (ta : Addr) (x y : V), z = .ref ta ∧ SqT K H1 ta [x, y] ∧ wipe (((wipe σ vs).set j1 (some x)).set j2 (some y)) vs = wipe σ vs ∧ Ev te (((wipe σ vs).set j1 (some x)).set j2 (some y)) H1 (v i)) :
    EvL (tLc (iTup K tl) (gTup K 2 (gCons (gName j1) (gCons (gName j2) gNil))) tYes te vs) σ H (gvn xs.length v) := fun H0 e Q q => h H0 e _ fun H1 e1 => ⟨a, rfl, ⟨xs, ex_t (e.trans e1) hx⟩, fun Dl hD =>
  lc_tup (xs := xs) (Cv H1 v Dl) ⟨hD, Ex.new hD, upd_same⟩ (fun i H' _ p => ex_t ((e.trans e1).trans p.2.1) hx) (fun i x H' hi p => by
    obtain ⟨ta, x1, y1, rfl, hs, hw, hev⟩ := he i x H' ((e.trans e1).trans p.2.1) hi
    exact ⟨ta, _, rfl, hs, rfl, _, _, rfl, _, _, rfl, rfl, hw, cv_turnH p (by have := (List.getElem?_eq_some_iff.mp hi).1; omega) (Ex.refl _) hev⟩)
    (fun H' p => q Dl H' (fresh_back e1 p.1) (e1.trans p.2.1) p.2.2)⟩
theorem el_lcZ {ta : TA} {xs ys : List V} {j1 j2 n : Nat} {vs : List Nat} (v : Nat → V) (hn : n = min xs.length ys.length) (wz : n ≤ 40000)
    (h : ∀ H1, Ex H H1 → ∀ Q : List V → Hp → Prop, (∀ a b H2, Ex H1 H2 → SqT K H2 a xs → SqT K H2 b ys → Q [.ref a, .ref b] H2) → ta σ H1 Q)
    (he : ∀ (i : Nat) (x y : V) H1, Ex H H1 → xs[i]? = some x → ys[i]? = some y → wipe (((wipe σ vs).set j1 (some x)).set j2 (some y)) vs = wipe σ vs ∧ Ev te (((wipe σ vs).set j1 (some x)).set j2 (some y)) H1 (v i)) :
    EvL (tLc (iZipA K ta) (gTup K 2 (gCons (gName j1) (gCons (gName j2) gNil))) tYes te vs) σ H (gvn n v) := fun H0 e Q q => h H0 e _ fun a b H1 e1 hx hy => ⟨a, b, xs, ys, rfl, .inr ⟨hx, hy, fun Dl hD => by
  refine lc_it (walk_zipT hn) (Cv H1 v Dl) ⟨hD, Ex.new hD, upd_same⟩ (fun i H' _ p => ⟨ex_t p.2.1 hx, ex_t p.2.1 hy⟩) ?_ (fun H' p => q Dl H' (fresh_back e1 p.1) (e1.trans p.2.1) p.2.2)
  rintro i z H3 H4 hi p ⟨t, y1, y2, rfl, hT, rfl, hy1, hy2⟩
  obtain ⟨hw, hev⟩ := he i y1 y2 _ (((e.trans e1).trans p.2.1).trans (Ex.new (o := .tup [y1, y2]) hT)) hy1 hy2
  exact ⟨t, _, rfl, SqT.of upd_same, rfl, _, _, rfl, _, _, rfl, rfl, hw, cv_turnH p (by omega) (Ex.new hT) hev⟩⟩⟩
end
end L2
/-! enumerate(s), s a text; texts put together. -/
namespace L2
open PySem PySem.Spec PyProof.Rows RZ Evl
def IteS (x : Str) : It where
  go i _ := i < x.cps.size
  yld i H v H' := ∃ t c, v = .ref t ∧ H t = none ∧ H' = upd H t (.tup [.int (i : Nat), .str ⟨#[c]⟩]) ∧ x.cps[i]? = some c
  stop i _ := x.cps.size = i
theorem turn_enumS {P : Program} {w : World} {K : PySem.W.Frag} {elts : List Expr} {kk : Nat} {tpos : Pos} (x : Str) (tk : Tok) (ty : String) (hty : ty = "str_ascii_iterator" ∨ ty = "str_iterator") (e it : Addr) (hei : e ≠ it) :
    Turn P w K (.Tuple elts kk tpos) (IteS x) [e, it] e (fun i h => (∃ old, IsEnum h e it ((i : Nat) : Int) old) ∧ h.IsStrIter it ty x tk i) where
  mem := by simp
  obj := fun i h st b hb => by
    obtain ⟨⟨old, q1⟩, ⟨o, q2, _, d2⟩⟩ := st
    have z : b = e ∨ b = it := by simpa using hb
    rcases z with rfl | rfl
    · exact ⟨_, q1, fun v q => nomatch q⟩
    · exact ⟨o, q2, fun v q => by rw [d2] at q; cases q⟩
  keep := fun i h h' st k => by
    obtain ⟨⟨old, q1⟩, ⟨o, q2, q3⟩⟩ := st
    exact ⟨⟨old, k e (by simp) _ q1⟩, ⟨o, k it (by simp) o q2, q3⟩⟩
  item := by
    intro X hP hw hK hc i pins s σ H E I hf st hg
    subst hP hw hK
    obtain ⟨⟨old, q1⟩, q2⟩ := st
    have le : e < s.heap.objs.size := Heap.lt_size q1
    have li : it < s.heap.objs.size := by obtain ⟨_, q, _⟩ := id q2; exact Heap.lt_size q
    have D : Draws X.prog X.w X.A.in1 it [it] x.cps.size (fun i v => ∃ c u, x.cps[i]? = some c ∧ v = Value.str { cps := #[c] } u) (fun i h => h.IsStrIter it ty x tk i) := by
      rcases hty with rfl | rfl
      · exact Draws.strAscii (A := X.A.in1) (I.ok.hd hc) it x tk
      · exact Draws.strWide (A := X.A.in1) (I.ok.hd hc) it x tk
    refine wpAny_pyNext_enum_itemD D q1 q2 hg hei (by simp [hei]) fun v h' tk0 hP ho st' hT hsz hk => ?_
    obtain ⟨c, u, hcx, rfl⟩ := hP
    refine ⟨_, rfl, wpAny_letOwnedTupleGo_enum (s := { s with heap := h', toks := tk0 + 1 }) ho fun h2 he' sb => ?_⟩
    have hT2 : h2.get? s.heap.objs.size = some { cls := .type "tuple", data := .seq #[.int i tk0, .str ⟨#[c]⟩ u] } := (sb.2 _ (Nat.ne_of_gt le)).trans hT
    have new : ObjOk X.prog X.w (upd H s.heap.objs.size (.tup [.int (i : Nat), .str ⟨#[c]⟩])) h2 s.heap.objs.size (.tup [.int (i : Nat), .str ⟨#[c]⟩]) := ⟨by show 2 ≤ sizeLine; decide, [.int i tk0, .str ⟨#[c]⟩ u], .cons ⟨_, rfl⟩ (.cons ⟨u, rfl⟩ .nil), _, hT2, rfl, _, rfl⟩
    have J : Inv X pins σ (upd H s.heap.objs.size (.tup [.int (i : Nat), .str ⟨#[c]⟩])) { s with heap := h2, toks := tk0 + 1 } := I.turnedNew (ch := [e, it]) (fun b o hb q => (sb.2 b (fun z => hb (by simp [z]))).trans (hk b o (fun z => hb (by simp [z])) (fun z => hb (by simp [z])) q)) hf (Nat.le_refl _) new
    refine ⟨.ref s.heap.objs.size, _, J, rfl, ⟨_, c, rfl, I.hok.fresh (Nat.le_refl _), rfl, hcx⟩, ⟨⟨.str ⟨#[c]⟩ u, ?_⟩, ?_⟩, fun b hb => ?_⟩
    · rw [show ((i + 1 : Nat) : Int) = (i : Int) + 1 by omega]
      exact he'
    · obtain ⟨o, z1, z2⟩ := st'
      exact ⟨o, (sb.2 it (Ne.symm hei)).trans z1, z2⟩
    · have lb : b < s.heap.objs.size := by
        have z : b = e ∨ b = it := by simpa using hb
        rcases z with rfl | rfl <;> assumption
      rw [upd_ne (Nat.ne_of_lt lb)]
      exact (hf b hb).1
  done := by
    intro X hP hw hK hc i pins s σ H E I hf st hg
    subst hP hw hK
    obtain ⟨⟨old, q1⟩, q2⟩ := st
    obtain ⟨u0, u1, u2, u3, u4, u5⟩ := hf it (by simp)
    have D : Draws X.prog X.w X.A.in1 it [it] x.cps.size (fun i v => ∃ c u, x.cps[i]? = some c ∧ v = Value.str { cps := #[c] } u) (fun i h => h.IsStrIter it ty x tk i) := by
      rcases hty with rfl | rfl
      · exact Draws.strAscii (A := X.A.in1) (I.ok.hd hc) it x tk
      · exact Draws.strWide (A := X.A.in1) (I.ok.hd hc) it x tk
    have hn : i = x.cps.size := Eq.symm hg
    rw [hn] at q1 q2
    exact wpAny_pyNext_enum_endD D q1 q2 fun h' eb => ⟨rfl, I.turned (t' := s.toks) (fun b o hb0 q => eb b o hb0 q) u0 u1 u3 u4 u5⟩
  self := fun A i s Q E st h => let ⟨⟨_, q⟩, _⟩ := st; wpAny_pyIter_enum q h
def iEnumS (ta : TA) : TI := fun σ H R => ta σ H fun vs H1 => ∃ x : Str, vs = [.str x] ∧ R (IteS x) H1
theorem pi_enumS {X : Cx} {e : Expr} {ta : TA} {p pos tpos : Pos} {elts : List Expr} {kk : Nat} (hg : Gl X "enumerate") (hm : X.mg "enumerate" = none) (ha : PA X [e] ta) (hs : starEach [e] X.env = [(false, eval e X.env)] := by rfl) : PI X (.Tuple elts kk tpos) (.Call (.Name "enumerate" p) [e] [] pos) (iEnumS ta) := by
  refine ⟨fun pins s σ H R I h => ?_⟩
  refine Call_ (ld_blt I hg hm boot_enumerate (PyProof.Rows.callWith_type1 (thn (ha.run pos pins s σ H _ I h) fun us z1 ⟨vs, H1, J1, r1, k1⟩ => ?_) hs rfl))
  obtain ⟨x, rfl, q⟩ := k1
  obtain ⟨t, rfl⟩ : ∃ t, us = [.str x t] := by
    cases r1 with
    | cons r rr => cases rr; obtain ⟨t, rfl⟩ := r; exact ⟨t, rfl⟩
  refine enum_begins1 (begins_text x t) trivial fun h' he0 wit hsz hk0 => wpAny_pyIter_enum he0 ?_
  have J2 : Inv X pins σ H1 { z1 with heap := h' } := J1.kept (t' := z1.toks) hk0
  have f0 : FpOk X pins H1 z1.heap.objs.size := J1.fpOk (Nat.le_refl _) (J1.hok.fresh (Nat.le_refl _))
  have f1 : FpOk X pins H1 (z1.heap.objs.size + 1) := J1.fpOk (Nat.le_succ _) (J1.hok.fresh (Nat.le_succ _))
  have hty : strIterType x = "str_ascii_iterator" ∨ strIterType x = "str_iterator" := by unfold strIterType; split <;> simp
  refine ⟨z1.heap.objs.size + 1, [z1.heap.objs.size + 1, z1.heap.objs.size], _, _, H1, rfl, J2, turn_enumS x t _ hty (z1.heap.objs.size + 1) z1.heap.objs.size (Nat.succ_ne_self _), ⟨⟨.none, he0⟩, ⟨_, wit, rfl, rfl⟩⟩, fun b hb => ?_, q⟩
  have z : b = z1.heap.objs.size + 1 ∨ b = z1.heap.objs.size := by simpa using hb
  rcases z with rfl | rfl <;> assumption
/-- a loop over enumerate of a text -/
theorem for_enumS {x : Str} {g : TG} {tb : TS} {D : Ends} {σ : L2.St} {H : Hp} (Pv : Nat → L2.St → Hp → Prop) (h0 : Pv 0 σ H)
    (hs : ∀ (i c : Nat) (t : Addr) (σ : L2.St) (H : Hp), x.cps[i]? = some c → Pv i σ H → H t = none → g (.ref t) σ (upd H t (.tup [.int (i : Nat), .str ⟨#[c]⟩])) fun σ' H' => tb { D with nx := Pv (i + 1), ct := Pv (i + 1), bk := D.nx } σ' H') (hd : ∀ σ H, Pv x.cps.size σ H → D.nx σ H) :
    ∃ W : Nat → Nat → L2.St → Hp → Prop, (∃ m, W 0 m σ H) ∧ ∀ i m σ H, W i m σ H → ((IteS x).stop i H ∧ D.nx σ H) ∨
      ((IteS x).go i H ∧ ∃ N : L2.St → Hp → Prop, (∀ σ' H', N σ' H' → ∃ m', m' < m ∧ W (i + 1) m' σ' H') ∧ ∀ v H', (IteS x).yld i H v H' → g v σ H' fun σ' H'' => tb { D with nx := N, ct := N, bk := D.nx } σ' H'') := by
  refine ⟨fun i m σ H => i ≤ x.cps.size ∧ m = x.cps.size - i ∧ Pv i σ H, ⟨_, Nat.zero_le _, rfl, h0⟩, ?_⟩
  rintro i m σ H ⟨hi, rfl, p⟩
  by_cases hlt : i < x.cps.size
  · refine .inr ⟨hlt, Pv (i + 1), fun σ' H' p' => ⟨_, Nat.sub_lt_sub_left hlt (Nat.lt_succ_self i), hlt, rfl, p'⟩, ?_⟩
    rintro v H' ⟨t, c, rfl, ht, rfl, hc⟩
    exact hs i c t σ H hc p ht
  · have e : i = x.cps.size := by omega
    subst e
    exact .inl ⟨rfl, hd σ H p⟩
theorem pe_globS {X : Cx} {x : Str} {y : Str} {pos : Pos} (hg : Gl X x) (h : ∃ t, X.mg x = some (.str y t)) (hd : (x == ("__debug__" : Str)) = false := by decide) : PE X (.Name x pos) (tC (.str y)) := by
  obtain ⟨t, e⟩ := h
  exact pe_glob hg e ⟨_, rfl⟩ hd
def rDictP (K : PySem.W.Frag) : List V → Hp → VK → Prop := fun xs H Q => ∃ (a : Addr) (ps : List Addr) (kvs : List (Key × V)), xs = [.ref a] ∧ SqL K H a (ps.map V.ref) ∧ Paired (fun p kv => SqT K H p [kV kv.1, kv.2]) ps kvs ∧ ∀ p, H p = none → Q (.ref p) (upd H p (.dK (mergeK [] kvs)))
theorem call_dictPK {X : Cx} {K : PySem.W.Frag} (hK : X.K = K) (hc : X.calm = true := by rfl) : CallR X (.type "dict") (rDictP K) := by
  subst hK
  exact call_dictP hc
end L2
namespace L2
open PySem PySem.Spec PyProof.Rows
/-! ### properties of own classes -/
structure HasP (P : Program) (w : World) (K : PySem.W.Frag) (mg : Str → Option Value) (base : Heap) (C : Addr) (x : Str) (k : Nat) (sp : Sp) : Prop where
  cl : Cls K C
  ex : ∃ (p f : Addr) (fd : FuncData), PropOf K C x p f ∧ Binds K fd ["self"] [] ∧ FnOk P w K mg base CX0 k f fd ["self"] sp
theorem pe_hasP {X : Cx} {C : Addr} {k : Nat} {sp : Sp} {e : Expr} {f : Str} {pos : Pos} {ta : TE} (h : HasP X.prog X.w X.K X.mg X.base C f k sp) (hr : Room (k + 1) X.A) (he : PE X e ta) (hab : attributeBase e f X.env (eval e X.env) = eval e X.env) : PE X (.Attribute e f pos) (tProp C sp [] E0 ta) := by
  obtain ⟨c, ⟨p, g, fd, h1, h2, h3⟩⟩ := h
  exact pe_prop he c h1 h3 hr h2 .nil pass0 hab
theorem pe_fldK {X : Cx} {K : PySem.W.Frag} (hK : X.K = K) {e : Expr} {f : Str} {pos : Pos} {ta : TE} (he : PE X e ta) (hb : attributeBase e f X.env (eval e X.env) = eval e X.env) : PE X (.Attribute e f pos) (tFld K ta f) := by
  subst hK
  exact pe_fld he hb
/-! ### methods that may raise -/
structure MetX (P : Program) (w : World) (K : PySem.W.Frag) (mg : Str → Option Value) (base : Heap) (k : Nat) (C : Addr) (m : Str) (ps : List Str) (sp : Sp) : Prop where
  cl : Cls K C
  ex : ∃ (f : Addr) (fd : FuncData), Meth K C m f ∧ Binds K fd ps [] ∧ FnOk P w K mg base (L2.CX P w) k f fd ps sp
def tMethX (C : Addr) (m : Str) (sp : Sp) (E : L2.St → XK) (ta : TE) (t : TA) : TE := fun σ H Q => ta σ H fun x H1 => ∃ a dx fs, x = .ref a ∧ H1 a = some (.ins C dx fs) ∧ fs.lookup m = none ∧
  t σ H1 fun vs H2 => sp (x :: vs) H2 Q (E σ)
theorem pe_metX {X : Cx} {W : WX} {k : Nat} {C : Addr} {m : Str} {ps : List Str} {sp : Sp} {o e : Expr} {es : List Expr} {ta : TE} {t : TA} {pos apos : Pos} {pl : Sem Bool} (M : MetX X.prog X.w X.K X.mg X.base k C m ps sp) (hr : Room k X.A) (tk : Takes X W) (he : PE X o ta) (ha : PA X (e :: es) t)
    (hst : starEach (e :: es) X.env = (false, eval e X.env) :: starEach es X.env := by rfl) (hpl : (backTo pos (starEach es X.env)).any (·.1) = false := by rfl)
    (ht : eval (.Call (.Attribute o m apos) (e :: es) [] pos) X.env = (do
      let ov ← eval o X.env
      standAt apos.atName
      let (f, first) ← holding [ov] (getMethod ov m pl)
      callWith pos f first (backTo pos (starEach (e :: es) X.env)) (backToKw pos (keywordEach [] X.env))) := by rfl) :
    PE X (.Call (.Attribute o m apos) (e :: es) [] pos) (tMethX C m sp (WE W) ta t) := by
  obtain ⟨c, f, fd, hm, hb, F⟩ := M
  refine ⟨fun pins s σ H Q I h => ?_⟩
  refine PySem.W.methodCall_KW (pl := pl) (thn (he.run pins s σ H _ I h) fun u s1 ⟨x, H1, I1, rx, a, dx, fs, ex, ea, l, q⟩ => ?_) ht
  subst ex
  obtain rfl : u = Value.ref a := rx
  refine getmeth_ok I1 ea c hm l ?_
  refine PySem.W.callWith_K (first := [.ref a]) (h₀ := X.base) I.ok.mod.kin hm.kp (thn (ha.run pos pins s1 σ H1 _ I1 q) fun us s2 ⟨vs, H2, I2, r, q2⟩ => ⟨I2.kIn, ?_⟩) hst hpl
  exact run_fnS (us := .ref a :: us) (vs := .ref a :: vs) F hr hb (passAt tk σ) I2 (.cons rfl r) q2
structure MakX (P : Program) (w : World) (K : PySem.W.Frag) (mg : Str → Option Value) (base : Heap) (k : Nat) (x : Str) (C : Addr) (ps : List Str) (sp : Sp) : Prop where
  ex : ∃ (f : Addr) (fd : FuncData), Mk K C f ∧ mg x = some (.ref C) ∧ Binds K fd ps [] ∧ FnOk P w K mg base (L2.CX P w) k f fd ps sp
def tMakeX (C : Addr) (sp : Sp) (E : L2.St → XK) (t : TA) : TE := fun σ H Q => t σ H fun vs H1 => ∀ x dx, H1 x = none → H1 dx = none → dx ≠ x →
  sp (.ref x :: vs) (upd (upd H1 dx (.own x)) x (.ins C dx [])) (fun v H2 => v = .non ∧ Q (.ref x) H2) (E σ)
theorem pe_makX {X : Cx} {W : WX} {k : Nat} {C : Addr} {x : Str} {ps : List Str} {sp : Sp} {e : Expr} {es : List Expr} {t : TA} {p pos : Pos} (M : MakX X.prog X.w X.K X.mg X.base k x C ps sp) (hr : Room (k + 1) X.A) (tk : Takes X W) (hg : Gl X x) (ha : PA X (e :: es) t)
    (hdb : (x == ("__debug__" : Str)) = false := by decide) (he : starEach (e :: es) X.env = (false, eval e X.env) :: starEach es X.env := by rfl) (hpl : (backTo pos (starEach es X.env)).any (·.1) = false := by rfl) :
    PE X (.Call (.Name x p) (e :: es) [] pos) (tMakeX C sp (WE W) t) := by
  obtain ⟨f, fd, M, hm, hb, F⟩ := M.ex
  refine ⟨fun pins s σ H Q I h => ?_⟩
  refine wpAny_Call_Name_kw (ld_glob I hg hm ?_ hdb)
  refine PySem.W.callWith_K (h₀ := X.base) I.ok.mod.kin M.kp (thn (ha.run pos pins s σ H _ I h) fun us s1 ⟨vs, H1, I1, r, q⟩ => ⟨I1.kIn, ?_⟩) he hpl
  have hq := q (s1.heap.objs.size + 1) s1.heap.objs.size (I1.hok.fresh (Nat.le_succ _)) (I1.hok.fresh (Nat.le_refl _)) (Nat.ne_of_lt (Nat.lt_succ_self _))
  have I2 := Inv.made (C := C) I1
  have r2 : Vals (V.ref (s1.heap.objs.size + 1) :: vs) (Value.ref (s1.heap.objs.size + 1) :: us) := .cons rfl r
  have hl : ((Value.ref (s1.heap.objs.size + 1) :: us) ++ []).length = ps.length := by
    have e := r2.length
    rw [F.len _ _ _ _ hq] at e
    rw [List.append_nil]
    exact e.symm
  have b := hb _ (Value.ref (s1.heap.objs.size + 1) :: us) I2.kIn hl
  rw [List.append_nil] at b
  refine wpAny_call (make_map (f := f) I1.kIn M.makes M.init (beq_iff_eq.mp M.fn) (codeAny_mono (F.run _ X.stack _ _ ⟨Value.ref (s1.heap.objs.size + 1) :: us, []⟩ (Value.ref (s1.heap.objs.size + 1) :: us) _ _ (WE W σ) (hr.make C us [])
    (I2.env0.make C us []) b r2 hq) fun rr s' hq' => ?_))
  cases rr with
  | error e => exact passAt tk σ pins _ _ e s' I2 hq'
  | ok fl =>
    cases fl with
    | ret u =>
      obtain ⟨v, H', I3, rv, ev, q3⟩ := I2.after hq'
      subst ev
      exact ⟨rv, ⟨V.ref (s1.heap.objs.size + 1), H', I3, rfl, q3⟩⟩
    | next => exact False.elim hq'
    | brk => exact False.elim hq'
    | cont => exact False.elim hq'
/-! ### the making of an own error that calls its base's making by the base's name -/
theorem pe_ceinit {X : Cx} {B : Str} {C0 : Addr} {mc : Value} {pl : Sem Bool} {p1 p2 pos : Pos} {e : Expr} {es : List Expr} {ta : TA} (hg : Gl X B) (hm : X.mg B = some (.ref C0)) (hga : PySem.W.specialIn X.K (.ref C0) "__getattribute__" = some (some (.builtin "type.__getattribute__"))) (ty : PySem.W.typeIn X.K (.ref C0) = some mc) (hr : PySem.W.readsIn X.K C0 mc = true)
    (fc : PySem.W.findCls X.K (.ref C0) mc "__init__" = some (.val (.builtin "ValueError.__init__"))) (ha : PA X (e :: es) ta) (hdb : (B == ("__debug__" : Str)) = false := by decide)
    (hc : eval (.Call (.Attribute (.Name B p1) "__init__" p2) (e :: es) [] pos) X.env = (do
      let ov ← eval (.Name B p1) X.env
      standAt p2.atName
      let (f, first) ← holding [ov] (getMethod ov "__init__" pl)
      callWith pos f first (backTo pos (starEach (e :: es) X.env)) (backToKw pos (keywordEach [] X.env))) := by rfl)
    (he : starEach (e :: es) X.env = (false, eval e X.env) :: starEach es X.env := by rfl) (hpl : (backTo pos (starEach es X.env)).any (·.1) = false := by rfl) :
    PE X (.Call (.Attribute (.Name B p1) "__init__" p2) (e :: es) [] pos) (tVeI X.K ta) := by
  refine ⟨fun pins s σ H Q I h => ?_⟩
  refine PySem.W.methodCall_KW (ld_glob I hg hm ?_ hdb) hc
  obtain ⟨m, fr⟩ := I.fr
  refine PySem.W.method_of_cls fr I.ok.mod.kin hga (PySem.W.cls_val fr I.ok.mod.kin ty hr fc (by decide +kernel) ?_)
  show wpAny _ _ (callWith pos (Value.builtin "ValueError.__init__") [] (backTo pos (starEach (e :: es) X.env)) []) _ _ _
  refine PyProof.Rows.callWith_method1 (thn (ha.run pos pins _ σ H _ (I.tok _) h) fun us s1 ⟨vs, H1, I1, r1, a, C, ws, ev, hl, T, ea, q⟩ => ?_) he hpl
  subst ev
  cases r1 with
  | @cons _ u0 _ ur ra rw' =>
    obtain rfl : u0 = Value.ref a := ra
    have hlen : ur.length ≤ sizeLine := by
      rw [← Paired.length rw', sizeLine_eq]
      omega
    exact oinit_ok T I1 ea hlen fun s' J => ⟨.non, H1, J, rfl, q⟩
structure BaseE (K : PySem.W.Frag) (mg : Str → Option Value) (x : Str) : Prop where
  ex : ∃ (C0 : Addr) (mc : Value), mg x = some (.ref C0) ∧ PySem.W.specialIn K (.ref C0) "__getattribute__" = some (some (.builtin "type.__getattribute__")) ∧ PySem.W.typeIn K (.ref C0) = some mc ∧ PySem.W.readsIn K C0 mc = true ∧ PySem.W.findCls K (.ref C0) mc "__init__" = some (.val (.builtin "ValueError.__init__"))
theorem pe_baseE {X : Cx} {B : Str} {pl : Sem Bool} {p1 p2 pos : Pos} {e : Expr} {es : List Expr} {ta : TA} (E : BaseE X.K X.mg B) (hg : Gl X B) (ha : PA X (e :: es) ta) (hdb : (B == ("__debug__" : Str)) = false := by decide)
    (hc : eval (.Call (.Attribute (.Name B p1) "__init__" p2) (e :: es) [] pos) X.env = (do
      let ov ← eval (.Name B p1) X.env
      standAt p2.atName
      let (f, first) ← holding [ov] (getMethod ov "__init__" pl)
      callWith pos f first (backTo pos (starEach (e :: es) X.env)) (backToKw pos (keywordEach [] X.env))) := by rfl)
    (he : starEach (e :: es) X.env = (false, eval e X.env) :: starEach es X.env := by rfl) (hpl : (backTo pos (starEach es X.env)).any (·.1) = false := by rfl) :
    PE X (.Call (.Attribute (.Name B p1) "__init__" p2) (e :: es) [] pos) (tVeI X.K ta) := by
  obtain ⟨C0, mc, h1, h2, h3, h4, h5⟩ := E.ex
  exact pe_ceinit hg h1 h2 h3 h4 h5 ha hdb hc he hpl
structure MakE (P : Program) (w : World) (K : PySem.W.Frag) (mg : Str → Option Value) (base : Heap) (k : Nat) (x : Str) (C : Addr) (sp : Sp) : Prop where
  oe : OexC K C
  ex : ∃ (fI : Addr) (fd : FuncData) (ps : List Str), PySem.W.findIn K (.ref C) "__init__" = some (some (.ref fI)) ∧ PySem.W.typeIn K (.ref fI) = some (.type "function") ∧ mg x = some (.ref C) ∧ Binds K fd ps [] ∧ FnOk P w K mg base CX0 k fI fd ps sp
theorem pmk_oexE {X : Cx} {k : Nat} {x : Str} {C : Addr} {sp : Sp} {e : Expr} {es : List Expr} {ta : TA} {p pos : Pos} (M : MakE X.prog X.w X.K X.mg X.base k x C sp) (hr : Room (k + 1) X.A) (hg : Gl X x) (ha : PA X (e :: es) ta)
    (hdb : (x == ("__debug__" : Str)) = false := by decide) (he : starEach (e :: es) X.env = (false, eval e X.env) :: starEach es X.env := by rfl) (hpl : (backTo pos (starEach es X.env)).any (·.1) = false := by rfl) :
    PMk X (.Call (.Name x p) (e :: es) [] pos) (tMkO C sp [] ta) := by
  obtain ⟨fI, fd, ps, h1, h2, h3, h4, h5⟩ := M.ex
  exact pmk_oex M.oe h1 h2 h5 hr h4 .nil pass0 hg h3 ha hdb he hpl
end L2
/-! isinstance of a caught error of an own class that may have a dict of its own -/
namespace PySem.W
open PySem PySem.Spec PySem.Calls PyProof.Rows
section
variable {prog : Program} {w : World} {A : Around} {E : Value → Shared → Prop} {s : Shared} {K : Frag} {x D : Addr} {ox : Obj} {od : Option Obj}
/-- e.__class__ of an error of the class D, whatever dict of its own it has -/
theorem own_class2 {Q : Option Value → Shared → Prop} (C : L2.ExcC K D) (X : K.In s.heap) (I : InstAt s.heap x ox D od) (h : Q (some (.ref D)) { s with toks := s.toks + 1 }) : wpAny (model prog w) A (getAttr? (.ref x) "__class__") Q E s := by
  have found : findObj K D od "__class__" = some (.bind (.builtin "getset_descriptor.__get__") (.builtin "object.__class__")) := by
    have some_ : (clsIn K D).isSome = true := (any_some C.hd).elim fun _ hc => by rw [hc.1]; rfl
    cases od <;> first | exact findObj_dataN some_ C.ha C.hn C.ht | exact findObj_data some_ C.ha C.hn C.ht
  rcases s with ⟨H0, gens, drawn, tok, osS⟩
  have ty := I.type (M := model prog w)
  have differs : (Value.builtin "BaseException.__getattribute__" == Value.builtin "object.__getattribute__") = false := by decide +kernel
  unfold getAttr? getAttrBy? getAttrBy
  refine wpAny_bind (wpAny_mkText (wpAny_bind (wpAny_attempt (wpAny_holding (wpAny_bind (ty.at (wpAny_bind ((looks_findIn (M := model prog w) X C.hg).at ?_))))))))
  dsimp only
  rw [if_neg (show ¬ (onTheHeap (Value.ref D) && Value.builtin "BaseException.__getattribute__" == Value.builtin "object.__getattribute__") = true by rw [differs, Bool.and_false]; exact Bool.false_ne_true)]
  unfold getAttrByItsOwn hookBefore
  refine wpAny_bind ?_
  rw [if_pos (show onTheHeap (Value.ref D) = true from rfl)]
  refine (looks_findIn (M := model prog w) X C.hk).at (wpAny_bind (wpAny_attempt (wpAny_holding ?_)))
  unfold callGetattribute
  rw [if_neg (show ¬ (false && onTheHeap (Value.builtin "BaseException.__getattribute__")) = true from Bool.false_ne_true)]
  unfold boundAndCalled
  rw [PySem.F.excAttr_ValueError.ga.bind (.ref x)]
  refine wpAny_bind (wpAny_pure ?_)
  exact (wpAny_call (codeAny_call_builtin PySem.F.excAttr_ValueError.ga.plain PySem.F.entry_bexc_ga (@check_slot (model prog w) _ _ ⟨H0, gens, drawn, tok + 1, osS⟩ "BaseException.__getattribute__" "BaseException" "__getattribute__" (.ref x) [.str "__class__" tok] [] _ (by decide +kernel) (by decide +kernel) (ty.andThen (looks_subIn X C.hs)) (PySem.F.args_bexc_ga (.ref x) (.str "__class__" tok)) (by
    unfold Builtin.«object.__getattribute__»
    refine wpAny_bind (wpAny_of_eq (a := ((Value.ref x : Value), [Value.str "__class__" tok])) (by first | rfl | (simp only [slotArgs]; rfl)) (wpAny_bind (wpAny_pure (wpAny_bind (ty.at (wpAny_bind ((looks_find (M := model prog w) X I found).at ?_)))))))
    refine wpAny_bind (wpAny_holding (wpAny_call (class_get (s := ⟨H0, gens, drawn, tok + 1, osS⟩) (ox := ox) (od := od) X I C.hm (wpAny_pure ?_))))
    show wpAny _ _ (handedOut (.ref D)) _ _ _
    rw [handedOut_of (v := .ref D) rfl]
    first
      | exact wpAny_pure (wpAny_pure h)
      | exact wpAny_pure h
      | exact wpAny_pure (wpAny_bind (wpAny_pure (wpAny_pure h))))))) 
theorem own_isType (C : L2.ExcC K D) (M : Model) (h : Heap) (X : K.In h) : Looks M h (isType (.ref D)) true := by
  obtain ⟨cd, hc, _⟩ := any_some C.hd
  unfold clsIn at hc
  split at hc
  · rename_i here
    intro _ _ _ _ keep q
    unfold isType loadHead
    exact wpAny_bind (wpAny_loadPart (keep _ _ (X _ _ here)) (wpAny_pure q))
  · cases hc
theorem own_kitx_exc2 (C : L2.ExcC K D) : KitX K (.ref x) (.ref D) (fun h => InstAt h x ox D od) :=
  have Z := handS_kitx_exc (K := K) (D := D) (x := x) (ox := { ox with dict := none, cls := .ref D }) C.hg C.hk C.hs C.hd C.ha C.hn C.ht C.hm
  { ty := fun _ _ _ I => I.type
    it := fun M h X _ => own_isType C M h X
    ne := Z.ne
    ca := fun X I k => own_class2 C X I k }
end
end PySem.W
namespace L2
open PySem PySem.Spec PyProof.Rows
/-- isinstance(e, c), e the exception that the suite holds, its dict known -/
def rIsE2 (K : PySem.W.Frag) (D a : Addr) (d : Option Addr) : List V → Hp → VK → Prop := fun xs H Q => ∃ (c : V) (cv : Value) (b : Bool), xs = [.ref a, c] ∧ (∀ u, RelV c u → u = cv) ∧ PySem.W.kitOne K (.ref D) cv = some b ∧ (d = none ∨ ∃ dd fs, d = some dd ∧ H dd = some (.xd fs)) ∧ Q (.bl b) H
theorem call_isE2 {X : Cx} {a D : Addr} {d : Option Addr} {oe : Obj} {pn : List (Addr × Obj)} (C : ExcC X.K D) (hz : Zc (.ref D) d oe) (hf : ∃ vs, oe.data = .fields vs) : CallR (X.suite a ((a, oe) :: pn)) (.builtin "isinstance") (rIsE2 X.K D a d) := by
  intro pins s σ H xs us Q I r h
  obtain ⟨c, cv, b, rfl, hcv, e, hd, q⟩ := h
  cases r with
  | cons rx rr =>
    cases rr with
    | cons rt rr =>
      cases rr
      cases rx
      have ec := hcv _ rt
      subst ec
      obtain ⟨hget, _⟩ := I.pin (a, oe) (List.mem_append.mpr (.inl List.mem_cons_self))
      obtain ⟨vs, hv⟩ := hf
      obtain ⟨od, J⟩ : ∃ od, PySem.W.InstAt s.heap a oe D od := by
        rcases hd with rfl | ⟨dd, fs, rfl, ea⟩
        · refine ⟨none, ?_⟩
          obtain ⟨oc, od, oda, osl⟩ := oe
          obtain ⟨h1, h2⟩ := hz
          dsimp only at h1 h2 hv
          subst h1 h2 hv
          exact ⟨hget, rfl, rfl, trivial⟩
        · have hx : ObjOk X.prog X.w H s.heap dd (.xd fs) := I.hok dd _ ea
          obtain ⟨mA, hns, hr⟩ := hx
          obtain ⟨od, ho, hl⟩ := lookIn_ns hns
          exact ⟨some od, hget, hz.1, by unfold PySem.W.notCls; rw [hv] <;> rfl, by rw [hz.2]; exact ho⟩
      exact PySem.W.kia_one (PySem.W.own_kitx_exc2 C) I.kIn J e (fun z => nomatch z) fun tk => ⟨.bl b, H, I.kept (t' := tk) fun _ _ z => z, rfl, q⟩
end L2
/-! The mathematics of machines: numbering by first coming, partition refinement, the table of pairs, the states by first coming. No Python. -/
namespace M1
/-! ### lists -/
theorem nodup_le {α : Type} [DecidableEq α] : ∀ {l m : List α}, l.Nodup → (∀ x ∈ l, x ∈ m) → l.length ≤ m.length
  | [], _, _, _ => Nat.zero_le _
  | a :: l, m, hn, hs => by
    have hn2 := List.nodup_cons.mp hn
    have ha : a ∈ m := hs a List.mem_cons_self
    have ih := nodup_le (l := l) (m := m.erase a) hn2.2 fun x hx => by
      have hne : x ≠ a := fun e => hn2.1 (e ▸ hx)
      exact (List.mem_erase_of_ne hne).mpr (hs x (List.mem_cons_of_mem _ hx))
    have hl := List.length_erase_of_mem ha
    have hp : 0 < m.length := List.length_pos_of_mem ha
    rw [List.length_cons]
    omega
theorem snoc_ind {α : Type} {P : List α → Prop} (h0 : P []) (h1 : ∀ l a, P l → P (l ++ [a])) (l : List α) : P l := by
  have h : ∀ n (l : List α), l.length = n → P l := by
    intro n
    induction n with
    | zero => intro l hl; have : l = [] := List.length_eq_zero_iff.mp hl; subst this; exact h0
    | succ n ih =>
      intro l hl
      have hne : l ≠ [] := fun e => by subst e; simp at hl
      have e := List.dropLast_concat_getLast hne
      rw [← e]
      refine h1 _ _ (ih _ ?_)
      rw [List.length_dropLast, hl]
      rfl
  exact h _ l rfl
theorem take_succ' {α : Type} {l : List α} {i : Nat} {x : α} (h : l[i]? = some x) : l.take (i + 1) = l.take i ++ [x] := by
  rw [List.take_add_one, h]; rfl

/-! ### numbering by first coming -/
section
variable {α : Type} [DecidableEq α] {β : Type} [DecidableEq β]
def nub (ks : List α) : List α := ks.foldl (fun a k => if k ∈ a then a else a ++ [k]) []
theorem nub_snoc (ks : List α) (k : α) : nub (ks ++ [k]) = if k ∈ nub ks then nub ks else nub ks ++ [k] := by
  unfold nub
  rw [List.foldl_append]
  rfl
theorem mem_nub (ks : List α) : ∀ x, x ∈ nub ks ↔ x ∈ ks := by
  refine snoc_ind (P := fun ks => ∀ x, x ∈ nub ks ↔ x ∈ ks) (fun x => Iff.rfl) (fun l a ih x => ?_) ks
  rw [nub_snoc]
  by_cases h : a ∈ nub l
  · rw [if_pos h, ih x, List.mem_append, List.mem_singleton]
    refine ⟨.inl, fun q => ?_⟩
    rcases q with q | q
    · exact q
    · subst q; exact (ih x).mp h
  · rw [if_neg h, List.mem_append, List.mem_append, ih x]
theorem nub_nodup (ks : List α) : (nub ks).Nodup := by
  refine snoc_ind (P := fun ks => (nub ks).Nodup) List.nodup_nil (fun l a ih => ?_) ks
  rw [nub_snoc]
  by_cases h : a ∈ nub l
  · rw [if_pos h]; exact ih
  · rw [if_neg h, List.nodup_append]
    refine ⟨ih, by simp, fun x hx y hy => ?_⟩
    rw [List.mem_singleton] at hy
    subst hy
    exact fun e => h (e ▸ hx)
/-- the numbers that first_come_numbers gives -/
def fc (ks : List α) : List Nat := ks.map fun k => (nub ks).idxOf k
theorem fc_length (ks : List α) : (fc ks).length = ks.length := by unfold fc; rw [List.length_map]
theorem idxOf_nub_snoc {ks : List α} {a x : α} (h : x ∈ ks) : (nub (ks ++ [a])).idxOf x = (nub ks).idxOf x := by
  rw [nub_snoc]
  split
  · rfl
  · rw [List.idxOf_append, if_pos ((mem_nub ks x).mpr h)]
theorem fc_snoc (ks : List α) (k : α) : fc (ks ++ [k]) = fc ks ++ [if k ∈ ks then (nub ks).idxOf k else (nub ks).length] := by
  unfold fc
  rw [List.map_append]
  have e1 : ks.map (fun x => (nub (ks ++ [k])).idxOf x) = ks.map fun x => (nub ks).idxOf x := List.map_congr_left fun x hx => idxOf_nub_snoc hx
  rw [e1]
  congr 1
  rw [List.map_singleton]
  congr 1
  by_cases h : k ∈ ks
  · rw [if_pos h, idxOf_nub_snoc h]
  · have h' : k ∉ nub ks := fun q => h ((mem_nub ks k).mp q)
    rw [if_neg h, nub_snoc, if_neg h', List.idxOf_append, if_neg h']
    simp
theorem fc_eq_iff {ks : List α} {i j : Nat} {a b : α} (hi : ks[i]? = some a) (hj : ks[j]? = some b) : (fc ks)[i]? = (fc ks)[j]? ↔ a = b := by
  unfold fc
  rw [List.getElem?_map, List.getElem?_map, hi, hj, Option.map_some, Option.map_some]
  refine ⟨fun e => ?_, fun e => by rw [e]⟩
  have e := Option.some.inj e
  have ma := (mem_nub ks a).mpr (List.mem_of_getElem? hi)
  have mb := (mem_nub ks b).mpr (List.mem_of_getElem? hj)
  have ha := List.idxOf_lt_length_of_mem ma
  have g1 := List.getElem_idxOf ha
  have hb := List.idxOf_lt_length_of_mem mb
  have g2 := List.getElem_idxOf hb
  rw [← g1, ← g2]
  congr 1
/-- the numbering goes by the kernel alone -/
theorem fc_kernel (ks : List α) : ∀ ls : List β, ls.length = ks.length → (∀ (i j : Nat) a b c d, ks[i]? = some a → ks[j]? = some b → ls[i]? = some c → ls[j]? = some d → (a = b ↔ c = d)) → fc ks = fc ls ∧ (nub ks).length = (nub ls).length := by
  refine snoc_ind (P := fun ks : List α => ∀ ls : List β, ls.length = ks.length → (∀ (i j : Nat) a b c d, ks[i]? = some a → ks[j]? = some b → ls[i]? = some c → ls[j]? = some d → (a = b ↔ c = d)) → fc ks = fc ls ∧ (nub ks).length = (nub ls).length) ?_ ?_ ks
  · intro ls hl _
    have : ls = [] := List.length_eq_zero_iff.mp hl
    subst this
    exact ⟨rfl, rfl⟩
  · intro ks k ih ls hl hk
    have hne : ls ≠ [] := fun e => by subst e; simp at hl
    obtain ⟨ms, m, rfl⟩ : ∃ ms m, ls = ms ++ [m] := ⟨_, _, (List.dropLast_concat_getLast hne).symm⟩
    have hl2 : ms.length = ks.length := by simpa using hl
    have lift : ∀ {γ : Type} (l : List γ) (x : γ) (i : Nat) (y : γ), l[i]? = some y → (l ++ [x])[i]? = some y := fun l x i y h => by
      rw [List.getElem?_append_left (List.getElem?_eq_some_iff.mp h).1]; exact h
    have lastg : ∀ {γ : Type} (l : List γ) (x : γ), (l ++ [x])[l.length]? = some x := fun l x => by simp
    obtain ⟨e1, e2⟩ := ih ms hl2 fun i j a b c d h1 h2 h3 h4 => hk i j a b c d (lift _ _ _ _ h1) (lift _ _ _ _ h2) (lift _ _ _ _ h3) (lift _ _ _ _ h4)
    have hmem : k ∈ ks ↔ m ∈ ms := by
      constructor
      · intro h
        obtain ⟨i, hi, e⟩ := List.getElem_of_mem h
        have g : ks[i]? = some k := by rw [List.getElem?_eq_getElem hi, e]
        have hi' : i < ms.length := by omega
        have q := (hk i ks.length k k ms[i] m (lift _ _ _ _ g) (lastg _ _) (lift _ _ _ _ (List.getElem?_eq_getElem hi')) (by rw [← hl2]; exact lastg _ _)).mp rfl
        rw [← q]
        exact List.getElem_mem hi'
      · intro h
        obtain ⟨i, hi, e⟩ := List.getElem_of_mem h
        have g : ms[i]? = some m := by rw [List.getElem?_eq_getElem hi, e]
        have hi' : i < ks.length := by omega
        have q := (hk i ks.length ks[i] k m m (lift _ _ _ _ (List.getElem?_eq_getElem hi')) (lastg _ _) (lift _ _ _ _ g) (by rw [← hl2]; exact lastg _ _)).mpr rfl
        rw [← q]
        exact List.getElem_mem hi'
    rw [fc_snoc, fc_snoc, nub_snoc, nub_snoc, e1]
    by_cases h : k ∈ ks
    · have h' := hmem.mp h
      rw [if_pos h, if_pos h', if_pos ((mem_nub ks k).mpr h), if_pos ((mem_nub ms m).mpr h')]
      refine ⟨?_, e2⟩
      congr 2
      obtain ⟨i, hi, e⟩ := List.getElem_of_mem h
      have hi' : i < ms.length := by omega
      have g : ks[i]? = some k := by rw [List.getElem?_eq_getElem hi, e]
      have q := (hk i ks.length k k ms[i] m (lift _ _ _ _ g) (lastg _ _) (lift _ _ _ _ (List.getElem?_eq_getElem hi')) (by rw [← hl2]; exact lastg _ _)).mp rfl
      have f1 : (fc ks)[i]? = some ((nub ks).idxOf k) := by unfold fc; rw [List.getElem?_map, g]; rfl
      have f2 : (fc ms)[i]? = some ((nub ms).idxOf m) := by unfold fc; rw [List.getElem?_map, List.getElem?_eq_getElem hi', q]; rfl
      rw [e1, f2] at f1
      exact (Option.some.inj f1).symm
    · have h' : m ∉ ms := fun q => h (hmem.mpr q)
      rw [if_neg h, if_neg h', if_neg (fun q => h ((mem_nub ks k).mp q)), if_neg (fun q => h' ((mem_nub ms m).mp q)), e2]
      refine ⟨rfl, ?_⟩
      rw [List.length_append, List.length_append, e2]
      rfl
end
end M1
namespace M1
/-! ### machines -/
/-- steps and answers: for each state a row, for each letter an item -/
structure Mach where
  st : List (List Nat)
  an : List (List Nat)
def Mach.n (M : Mach) : Nat := M.st.length
def Mach.k (M : Mach) : Nat := (M.st.getD 0 []).length
structure Mach.Ok (M : Mach) : Prop where
  n1 : 1 ≤ M.st.length
  n6 : M.st.length ≤ 6
  k1 : 1 ≤ M.k
  k3 : M.k ≤ 3
  la : M.an.length = M.st.length
  rs : ∀ r ∈ M.st, r.length = M.k ∧ ∀ x ∈ r, x < M.st.length
  ra : ∀ r ∈ M.an, r.length = M.k ∧ ∀ x ∈ r, x ≤ 9
def Mach.row (M : Mach) (i : Nat) : List Nat := M.st.getD i []
def Mach.ans (M : Mach) (i : Nat) : List Nat := M.an.getD i []
def Mach.go (M : Mach) (i a : Nat) : Nat := (M.row i).getD a 0
def Mach.out (M : Mach) (i a : Nat) : Nat := (M.ans i).getD a 0
section
variable {M : Mach}
theorem Mach.row_at {i : Nat} (h : i < M.st.length) : M.st[i]? = some (M.row i) := by
  unfold Mach.row
  rw [List.getD_eq_getElem?_getD, List.getElem?_eq_getElem h]
  rfl
theorem Mach.ans_at (ok : M.Ok) {i : Nat} (h : i < M.st.length) : M.an[i]? = some (M.ans i) := by
  have h' : i < M.an.length := by rw [ok.la]; exact h
  unfold Mach.ans
  rw [List.getD_eq_getElem?_getD, List.getElem?_eq_getElem h']
  rfl
theorem Mach.row_len (ok : M.Ok) {i : Nat} (h : i < M.st.length) : (M.row i).length = M.k := (ok.rs _ (List.mem_of_getElem? (M.row_at h))).1
theorem Mach.ans_len (ok : M.Ok) {i : Nat} (h : i < M.st.length) : (M.ans i).length = M.k := (ok.ra _ (List.mem_of_getElem? (M.ans_at ok h))).1
theorem Mach.go_at (ok : M.Ok) {i a : Nat} (h : i < M.st.length) (ha : a < M.k) : (M.row i)[a]? = some (M.go i a) := by
  have h' : a < (M.row i).length := by rw [M.row_len ok h]; exact ha
  unfold Mach.go
  rw [List.getD_eq_getElem?_getD, List.getElem?_eq_getElem h']
  rfl
theorem Mach.out_at (ok : M.Ok) {i a : Nat} (h : i < M.st.length) (ha : a < M.k) : (M.ans i)[a]? = some (M.out i a) := by
  have h' : a < (M.ans i).length := by rw [M.ans_len ok h]; exact ha
  unfold Mach.out
  rw [List.getD_eq_getElem?_getD, List.getElem?_eq_getElem h']
  rfl
theorem Mach.go_lt (ok : M.Ok) {i a : Nat} (h : i < M.st.length) (ha : a < M.k) : M.go i a < M.st.length :=
  (ok.rs _ (List.mem_of_getElem? (M.row_at h))).2 _ (List.mem_of_getElem? (M.go_at ok h ha))
theorem Mach.row_mem (ok : M.Ok) {i x : Nat} (h : i < M.st.length) (hx : x ∈ M.row i) : x < M.st.length := (ok.rs _ (List.mem_of_getElem? (M.row_at h))).2 x hx

/-- what a bisimulation asks -/
def Mach.Bis (M : Mach) (R : Nat → Nat → Prop) : Prop := ∀ x y, R x y → x < M.st.length ∧ y < M.st.length ∧ M.ans x = M.ans y ∧ ∀ a, a < M.k → R (M.go x a) (M.go y a)
/-- from both states every word is answered alike -/
def Mach.Eqv (M : Mach) (i j : Nat) : Prop := ∃ R : Nat → Nat → Prop, R i j ∧ M.Bis R
theorem Mach.Eqv.bis : M.Bis M.Eqv := fun x y ⟨R, h, b⟩ => ⟨(b x y h).1, (b x y h).2.1, (b x y h).2.2.1, fun a ha => ⟨R, (b x y h).2.2.2 a ha, b⟩⟩
theorem Mach.Eqv.refl (ok : M.Ok) {i : Nat} (h : i < M.st.length) : M.Eqv i i :=
  ⟨fun x y => x = y ∧ x < M.st.length, ⟨rfl, h⟩, fun x y ⟨e, hx⟩ => by subst e; exact ⟨hx, hx, rfl, fun a ha => ⟨rfl, M.go_lt ok hx ha⟩⟩⟩
theorem Mach.Eqv.symm {i j : Nat} (h : M.Eqv i j) : M.Eqv j i := by
  obtain ⟨R, h, b⟩ := h
  exact ⟨fun x y => R y x, h, fun x y q => ⟨(b y x q).2.1, (b y x q).1, (b y x q).2.2.1.symm, fun a ha => (b y x q).2.2.2 a ha⟩⟩
theorem Mach.Eqv.trans {i j k : Nat} (h : M.Eqv i j) (h' : M.Eqv j k) : M.Eqv i k :=
  ⟨fun x y => ∃ z, M.Eqv x z ∧ M.Eqv z y, ⟨j, h, h'⟩, fun x y ⟨z, p, q⟩ => by
    obtain ⟨a1, _, a3, a4⟩ := Mach.Eqv.bis x z p
    obtain ⟨_, b2, b3, b4⟩ := Mach.Eqv.bis z y q
    exact ⟨a1, b2, a3.trans b3, fun a ha => ⟨_, a4 a ha, b4 a ha⟩⟩⟩
end
open Classical in
/-- the same, told -/
noncomputable def Mach.eqv (M : Mach) (i j : Nat) : Bool := decide (M.Eqv i j)
theorem Mach.eqv_iff {M : Mach} {i j : Nat} : M.eqv i j = true ↔ M.Eqv i j := by
  unfold Mach.eqv
  simp

/-! ### partition refinement: alike_classes -/
/-- a state's key at a turn: its class and its row's classes -/
def Mach.key (M : Mach) (c : List Nat) (i : Nat) : Nat × List Nat := (c.getD i 0, (M.row i).map fun x => c.getD x 0)
def Mach.keys (M : Mach) (c : List Nat) : List (Nat × List Nat) := (List.range M.st.length).map (M.key c)
/-- the classes are coarser than being alike, and part what is answered unlike; they are numbered as they come -/
structure Mach.Cls (M : Mach) (c : List Nat) : Prop where
  len : c.length = M.st.length
  lt : ∀ x ∈ c, x < M.st.length
  coarse : ∀ i j, M.Eqv i j → c.getD i 0 = c.getD j 0
  part : ∀ i j, i < M.st.length → j < M.st.length → c.getD i 0 = c.getD j 0 → M.ans i = M.ans j
  num : fc c = c
theorem fc_fc {α : Type} [DecidableEq α] (ks : List α) : fc (fc ks) = fc ks := by
  refine (fc_kernel ks (fc ks) (fc_length ks) fun i j a b c d h1 h2 h3 h4 => ?_).1.symm
  rw [← fc_eq_iff h1 h2, h3, h4]
  exact ⟨fun e => Option.some.inj e, fun e => by rw [e]⟩
theorem fc_lt {α : Type} [DecidableEq α] (ks : List α) : ∀ x ∈ fc ks, x < ks.length := fun x hx => by
  unfold fc at hx
  obtain ⟨k, hk, e⟩ := List.mem_map.mp hx
  have h1 := List.idxOf_lt_length_of_mem ((mem_nub ks k).mpr hk)
  have h2 : (nub ks).length ≤ ks.length := nodup_le (nub_nodup ks) fun y hy => (mem_nub ks y).mp hy
  omega
theorem getD_of {α : Type} {l : List α} {i : Nat} {x d : α} (h : l[i]? = some x) : l.getD i d = x := by rw [List.getD_eq_getElem?_getD, h]; rfl
theorem getD_at {α : Type} {l : List α} {i : Nat} {d : α} (h : i < l.length) : l[i]? = some (l.getD i d) := by
  rw [List.getD_eq_getElem?_getD, List.getElem?_eq_getElem h]
  rfl
section
variable {M : Mach}
theorem fc_getD {α : Type} [DecidableEq α] {ks : List α} {i j : Nat} {a b : α} (hi : ks[i]? = some a) (hj : ks[j]? = some b) : (fc ks).getD i 0 = (fc ks).getD j 0 ↔ a = b := by
  have h1 : i < (fc ks).length := by rw [fc_length]; exact (List.getElem?_eq_some_iff.mp hi).1
  have h2 : j < (fc ks).length := by rw [fc_length]; exact (List.getElem?_eq_some_iff.mp hj).1
  rw [← fc_eq_iff hi hj, getD_at (d := 0) h1, getD_at (d := 0) h2]
  exact ⟨fun e => by rw [e], fun e => Option.some.inj e⟩
theorem Mach.Cls.first (ok : M.Ok) : M.Cls (fc M.an) where
  len := by rw [fc_length, ok.la]
  lt := fun x hx => by rw [← ok.la]; exact fc_lt _ x hx
  coarse := fun i j h => by
    obtain ⟨hi, hj, e, _⟩ := Mach.Eqv.bis i j h
    exact (fc_getD (M.ans_at ok hi) (M.ans_at ok hj)).mpr e
  part := fun i j hi hj e => (fc_getD (M.ans_at ok hi) (M.ans_at ok hj)).mp e
  num := fc_fc _
theorem Mach.keys_at {c : List Nat} {i : Nat} (h : i < M.st.length) : (M.keys c)[i]? = some (M.key c i) := by
  unfold Mach.keys
  rw [List.getElem?_map, List.getElem?_range h]
  rfl
theorem Mach.keys_len {c : List Nat} : (M.keys c).length = M.st.length := by unfold Mach.keys; rw [List.length_map, List.length_range]
theorem map_ext_at {α β : Type} {f : α → β} {l m : List α} (hl : l.length = m.length) (h : ∀ (i : Nat) a b, l[i]? = some a → m[i]? = some b → f a = f b) : l.map f = m.map f := by
  refine List.ext_getElem? fun i => ?_
  rw [List.getElem?_map, List.getElem?_map]
  by_cases hi : i < l.length
  · have hi' : i < m.length := by omega
    rw [List.getElem?_eq_getElem hi, List.getElem?_eq_getElem hi', Option.map_some, Option.map_some, h i _ _ (List.getElem?_eq_getElem hi) (List.getElem?_eq_getElem hi')]
  · rw [List.getElem?_eq_none (by omega), List.getElem?_eq_none (by omega)]
theorem Mach.Cls.next (ok : M.Ok) {c : List Nat} (C : M.Cls c) : M.Cls (fc (M.keys c)) where
  len := by rw [fc_length, M.keys_len]
  lt := fun x hx => by have := fc_lt _ x hx; rwa [M.keys_len] at this
  coarse := fun i j h => by
    obtain ⟨hi, hj, e, g⟩ := Mach.Eqv.bis i j h
    refine (fc_getD (M.keys_at hi) (M.keys_at hj)).mpr ?_
    unfold Mach.key
    rw [C.coarse i j h]
    congr 1
    refine List.ext_getElem? fun a => ?_
    rw [List.getElem?_map, List.getElem?_map]
    by_cases ha : a < M.k
    · rw [M.go_at ok hi ha, M.go_at ok hj ha, Option.map_some, Option.map_some, C.coarse _ _ (g a ha)]
    · rw [List.getElem?_eq_none (by rw [M.row_len ok hi]; omega), List.getElem?_eq_none (by rw [M.row_len ok hj]; omega)]
  part := fun i j hi hj e => by
    have q := (fc_getD (M.keys_at hi) (M.keys_at hj)).mp e
    exact C.part i j hi hj (Prod.mk.inj q).1
  num := fc_fc _
/-- at the end -/
theorem Mach.Cls.done (ok : M.Ok) {c : List Nat} (C : M.Cls c) (e : fc (M.keys c) = c) {i j : Nat} (hi : i < M.st.length) (hj : j < M.st.length) : c.getD i 0 = c.getD j 0 ↔ M.Eqv i j := by
  refine ⟨fun h => ⟨fun x y => x < M.st.length ∧ y < M.st.length ∧ c.getD x 0 = c.getD y 0, ⟨hi, hj, h⟩, fun x y ⟨hx, hy, q⟩ => ⟨hx, hy, C.part x y hx hy q, fun a ha => ⟨M.go_lt ok hx ha, M.go_lt ok hy ha, ?_⟩⟩⟩, C.coarse i j⟩
  have q2 : (fc (M.keys c)).getD x 0 = (fc (M.keys c)).getD y 0 := by rw [e]; exact q
  have q3 := (Prod.mk.inj ((fc_getD (M.keys_at hx) (M.keys_at hy)).mp q2)).2
  have q4 := congrArg (fun l => l[a]?) q3
  simp only [List.getElem?_map] at q4
  rw [M.go_at ok hx ha, M.go_at ok hy ha, Option.map_some, Option.map_some] at q4
  exact Option.some.inj q4
/-- what falls: the pairs of one class -/
def pairsN (n : Nat) : List (Nat × Nat) := (List.range n).flatMap fun i => (List.range n).map fun j => (i, j)
theorem mem_pairsN {n : Nat} {p : Nat × Nat} : p ∈ pairsN n ↔ p.1 < n ∧ p.2 < n := by
  unfold pairsN
  rw [List.mem_flatMap]
  constructor
  · rintro ⟨i, hi, h⟩
    obtain ⟨j, hj, rfl⟩ := List.mem_map.mp h
    exact ⟨List.mem_range.mp hi, List.mem_range.mp hj⟩
  · rintro ⟨h1, h2⟩
    exact ⟨p.1, List.mem_range.mpr h1, List.mem_map.mpr ⟨p.2, List.mem_range.mpr h2, rfl⟩⟩
theorem pairsN_len (n : Nat) : (pairsN n).length = n * n := by
  unfold pairsN
  have h : ∀ l : List Nat, (l.flatMap fun i => (List.range n).map fun j => (i, j)).length = l.length * n := by
    intro l
    induction l with
    | nil => simp
    | cons a l ih => rw [List.flatMap_cons, List.length_append, ih, List.length_map, List.length_range, List.length_cons, Nat.add_mul, Nat.one_mul]; omega
  rw [h, List.length_range]
def meas (n : Nat) (c : List Nat) : Nat := ((pairsN n).filter fun p => decide (c.getD p.1 0 = c.getD p.2 0)).length
theorem filter_lt {α : Type} {p q : α → Bool} : ∀ {l : List α}, (∀ x ∈ l, p x = true → q x = true) → (∃ x ∈ l, q x = true ∧ p x = false) → (l.filter p).length < (l.filter q).length
  | [], _, ⟨x, hx, _⟩ => by simp at hx
  | a :: l, h, ⟨x, hx, h1, h2⟩ => by
    have hle : (l.filter p).length ≤ (l.filter q).length := by
      have : ∀ l : List α, (∀ x ∈ l, p x = true → q x = true) → (l.filter p).length ≤ (l.filter q).length := by
        intro l
        induction l with
        | nil => intro _; simp
        | cons b l ih =>
          intro hb
          have ih := ih fun x hx => hb x (List.mem_cons_of_mem _ hx)
          rw [List.filter_cons, List.filter_cons]
          by_cases e : p b = true
          · rw [if_pos e, if_pos (hb b List.mem_cons_self e), List.length_cons, List.length_cons]; omega
          · rw [if_neg e]
            split
            · rw [List.length_cons]; omega
            · exact ih
      exact this l fun x hx => h x (List.mem_cons_of_mem _ hx)
    rw [List.filter_cons, List.filter_cons]
    rcases List.mem_cons.mp hx with e | hx
    · subst e
      rw [if_pos h1, if_neg (by rw [h2]; decide), List.length_cons]
      omega
    · have ih := filter_lt (l := l) (fun x hx => h x (List.mem_cons_of_mem _ hx)) ⟨x, hx, h1, h2⟩
      by_cases e : p a = true
      · rw [if_pos e, if_pos (h a List.mem_cons_self e), List.length_cons, List.length_cons]; omega
      · rw [if_neg e]
        split
        · rw [List.length_cons]; omega
        · exact ih
theorem Mach.Cls.fall {c : List Nat} (C : M.Cls c) (e : fc (M.keys c) ≠ c) : meas M.st.length (fc (M.keys c)) < meas M.st.length c := by
  have fine : ∀ i j, i < M.st.length → j < M.st.length → (fc (M.keys c)).getD i 0 = (fc (M.keys c)).getD j 0 → c.getD i 0 = c.getD j 0 := fun i j hi hj q =>
    (Prod.mk.inj ((fc_getD (M.keys_at hi) (M.keys_at hj)).mp q)).1
  refine filter_lt (fun p hp q => ?_) ?_
  · obtain ⟨h1, h2⟩ := mem_pairsN.mp hp
    exact decide_eq_true (fine _ _ h1 h2 (of_decide_eq_true q))
  · refine Classical.byContradiction fun hno => e ?_
    have all : ∀ i j, i < M.st.length → j < M.st.length → c.getD i 0 = c.getD j 0 → (fc (M.keys c)).getD i 0 = (fc (M.keys c)).getD j 0 := fun i j hi hj q => by
      refine Classical.byContradiction fun hn => hno ⟨(i, j), mem_pairsN.mpr ⟨hi, hj⟩, decide_eq_true q, decide_eq_false hn⟩
    have h := (fc_kernel c (M.keys c) (by rw [M.keys_len, C.len]) fun i j a b x y h1 h2 h3 h4 => ?_).1
    · rw [← h]; exact C.num
    · have hi : i < M.st.length := by have := (List.getElem?_eq_some_iff.mp h1).1; rwa [C.len] at this
      have hj : j < M.st.length := by have := (List.getElem?_eq_some_iff.mp h2).1; rwa [C.len] at this
      have f := fc_getD h3 h4
      rw [← f]
      have ga := getD_of (d := 0) h1
      have gb := getD_of (d := 0) h2
      constructor
      · intro q
        exact all i j hi hj (by rw [ga, gb, q])
      · intro q
        have := fine i j hi hj q
        rw [ga, gb] at this
        exact this
end
end M1
namespace M1
/-! ### the table of pairs: _law_unlike -/
/-- what a turn asks of a pair, the table being ps -/
def Mach.unl (M : Mach) (ps : List (Nat × Nat)) (p : Nat × Nat) : Prop := M.ans p.1 ≠ M.ans p.2 ∨ ∃ a, a < M.k ∧ (M.go p.1 a, M.go p.2 a) ∈ ps
noncomputable instance {M : Mach} {ps : List (Nat × Nat)} {p : Nat × Nat} : Decidable (M.unl ps p) := Classical.propDecidable _
def addP (ps : List (Nat × Nat)) (p : Nat × Nat) : List (Nat × Nat) := if p ∈ ps then ps else ps ++ [p]
section
variable {M : Mach}
/-- the table's pairs are states that are not alike; each once -/
structure Mach.Tab (M : Mach) (ps : List (Nat × Nat)) : Prop where
  nd : ps.Nodup
  lt : ∀ p ∈ ps, p.1 < M.st.length ∧ p.2 < M.st.length
  sound : ∀ p ∈ ps, ¬ M.Eqv p.1 p.2
theorem Mach.Tab.nil : M.Tab [] := ⟨List.nodup_nil, fun _ h => by simp at h, fun _ h => by simp at h⟩
theorem Mach.Tab.add {ps : List (Nat × Nat)} {p : Nat × Nat} (T : M.Tab ps) (h1 : p.1 < M.st.length) (h2 : p.2 < M.st.length) (h : M.unl ps p) : M.Tab (addP ps p) := by
  unfold addP
  by_cases hm : p ∈ ps
  · rw [if_pos hm]; exact T
  · rw [if_neg hm]
    refine ⟨?_, fun q hq => ?_, fun q hq => ?_⟩
    · rw [List.nodup_append]
      refine ⟨T.nd, by simp, fun x hx y hy e => ?_⟩
      rw [List.mem_singleton] at hy
      subst hy e
      exact hm hx
    · rcases List.mem_append.mp hq with hq | hq
      · exact T.lt q hq
      · rw [List.mem_singleton] at hq; subst hq; exact ⟨h1, h2⟩
    · rcases List.mem_append.mp hq with hq | hq
      · exact T.sound q hq
      · rw [List.mem_singleton] at hq
        subst hq
        intro e
        obtain ⟨_, _, e1, e2⟩ := Mach.Eqv.bis _ _ e
        rcases h with h | ⟨a, ha, h⟩
        · exact h e1
        · exact T.sound _ h (e2 a ha)
theorem addP_len (ps : List (Nat × Nat)) (p : Nat × Nat) : ps.length ≤ (addP ps p).length := by
  unfold addP
  split
  · exact Nat.le_refl _
  · rw [List.length_append]; omega
theorem addP_sub {ps : List (Nat × Nat)} {p : Nat × Nat} : ∀ q ∈ ps, q ∈ addP ps p := fun q hq => by
  unfold addP
  split
  · exact hq
  · exact List.mem_append_left _ hq
theorem addP_mem {ps : List (Nat × Nat)} {p : Nat × Nat} : p ∈ addP ps p := by
  unfold addP
  split
  · assumption
  · exact List.mem_append_right _ (List.mem_singleton.mpr rfl)
theorem Mach.unl.mono {ps qs : List (Nat × Nat)} {p : Nat × Nat} (s : ∀ q ∈ ps, q ∈ qs) (h : M.unl ps p) : M.unl qs p := by
  rcases h with h | ⟨a, ha, h⟩
  · exact .inl h
  · exact .inr ⟨a, ha, s _ h⟩
/-- all that are not alike are in -/
def Mach.Full (M : Mach) (ps : List (Nat × Nat)) : Prop := ∀ i j, i < M.st.length → j < M.st.length → ¬ M.Eqv i j → (i, j) ∈ ps
theorem Mach.full_of (ok : M.Ok) {ps : List (Nat × Nat)} (h : ∀ p, p.1 < M.st.length → p.2 < M.st.length → M.unl ps p → p ∈ ps) : M.Full ps := fun i j hi hj hn => by
  refine Classical.byContradiction fun hm => hn ⟨fun x y => x < M.st.length ∧ y < M.st.length ∧ (x, y) ∉ ps, ⟨hi, hj, hm⟩, fun x y ⟨hx, hy, q⟩ => ⟨hx, hy, ?_, fun a ha => ⟨M.go_lt ok hx ha, M.go_lt ok hy ha, fun r => q (h _ hx hy (.inr ⟨a, ha, r⟩))⟩⟩⟩
  exact Classical.byContradiction fun r => q (h _ hx hy (.inl r))
/-- the table as the turns go: t of them done -/
def Mach.Turns (M : Mach) (t : Nat) (ps : List (Nat × Nat)) : Prop := M.Tab ps ∧ (M.Full ps ∨ t ≤ ps.length)
/-- within a turn: begun with ps, the pairs ahead of those of one's row i and other j done -/
def Mach.In (M : Mach) (ps : List (Nat × Nat)) (i j : Nat) (qs : List (Nat × Nat)) : Prop :=
  M.Tab qs ∧ (∃ more, qs = ps ++ more) ∧ ∀ p : Nat × Nat, p.1 < M.st.length → p.2 < M.st.length → (p.1 < i ∨ p.1 = i ∧ p.2 < j) → M.unl ps p → p ∈ qs
theorem Mach.In.first {t : Nat} {ps : List (Nat × Nat)} (h : M.Turns t ps) : M.In ps 0 0 ps := ⟨h.1, ⟨[], by simp⟩, fun p _ _ h => by omega⟩
theorem Mach.In.more {ps qs : List (Nat × Nat)} {i j : Nat} (h : M.In ps i j qs) : ∀ q ∈ ps, q ∈ qs := fun q hq => by
  obtain ⟨m, e⟩ := h.2.1
  rw [e]
  exact List.mem_append_left _ hq
theorem Mach.In.add {ps qs : List (Nat × Nat)} {i j : Nat} (h : M.In ps i j qs) (hi : i < M.st.length) (hj : j < M.st.length) (u : M.unl qs (i, j)) : M.In ps i (j + 1) (addP qs (i, j)) := by
  obtain ⟨T, ⟨more, e⟩, k⟩ := h
  refine ⟨T.add hi hj u, ?_, fun p h1 h2 h3 h4 => ?_⟩
  · unfold addP
    split
    · exact ⟨more, e⟩
    · exact ⟨more ++ [(i, j)], by rw [e, List.append_assoc]⟩
  · by_cases ep : p = (i, j)
    · rw [ep]; exact addP_mem
    · refine addP_sub _ (k p h1 h2 ?_ h4)
      rcases h3 with h3 | ⟨h3, h5⟩
      · exact .inl h3
      · refine .inr ⟨h3, ?_⟩
        have : p.2 ≠ j := fun e => ep (by rw [← h3, ← e])
        omega
theorem Mach.In.skip {ps qs : List (Nat × Nat)} {i j : Nat} (h : M.In ps i j qs) (u : ¬ M.unl qs (i, j)) : M.In ps i (j + 1) qs := by
  have hs := h.more
  obtain ⟨T, me, k⟩ := h
  refine ⟨T, me, fun p h1 h2 h3 h4 => k p h1 h2 ?_ h4⟩
  rcases h3 with h3 | ⟨h3, h5⟩
  · exact .inl h3
  · refine .inr ⟨h3, ?_⟩
    have : p.2 ≠ j := fun e => u (by
      have ep : p = (i, j) := by rw [← h3, ← e]
      rw [← ep]
      exact h4.mono hs)
    omega
theorem Mach.In.row {ps qs : List (Nat × Nat)} {i : Nat} (h : M.In ps i M.st.length qs) : M.In ps (i + 1) 0 qs := by
  obtain ⟨T, me, k⟩ := h
  refine ⟨T, me, fun p h1 h2 h3 h4 => k p h1 h2 ?_ h4⟩
  rcases h3 with h3 | ⟨h3, h5⟩
  · by_cases e : p.1 = i
    · exact .inr ⟨e, h2⟩
    · exact .inl (by omega)
  · omega
theorem Mach.In.turn (ok : M.Ok) {t : Nat} {ps qs : List (Nat × Nat)} (h0 : M.Turns t ps) (h : M.In ps M.st.length 0 qs) : M.Turns (t + 1) qs := by
  have hs := h.more
  obtain ⟨T, ⟨more, e⟩, k⟩ := h
  refine ⟨T, ?_⟩
  rcases h0.2 with f | f
  · exact .inl fun i j hi hj hn => hs _ (f i j hi hj hn)
  · by_cases hm : more = []
    · subst hm
      rw [List.append_nil] at e
      subst e
      exact .inl (M.full_of ok fun p h1 h2 h4 => k p h1 h2 (.inl h1) h4)
    · refine .inr ?_
      rw [e, List.length_append]
      have := List.length_pos_iff.mpr hm
      omega
theorem Mach.Turns.done {ps : List (Nat × Nat)} (h : M.Turns (M.st.length * M.st.length + 1) ps) : M.Full ps := by
  rcases h.2 with f | f
  · exact f
  · have h1 := nodup_le h.1.nd (m := pairsN M.st.length) fun p hp => mem_pairsN.mpr (h.1.lt p hp)
    rw [pairsN_len] at h1
    omega
/-- in the table at the end: not alike -/
theorem Mach.Turns.iff {ps : List (Nat × Nat)} (h : M.Turns (M.st.length * M.st.length + 1) ps) {i j : Nat} (hi : i < M.st.length) (hj : j < M.st.length) : (i, j) ∈ ps ↔ M.eqv i j = false := by
  have e : M.eqv i j = false ↔ ¬ M.Eqv i j := by rw [← Mach.eqv_iff]; simp
  rw [e]
  exact ⟨h.1.sound (i, j), h.done i j hi hj⟩

/-! ### the states by first coming -/
/-- a row's states taken in: those that are alike to none -/
noncomputable def Mach.grow1 (M : Mach) (o : List Nat) (x : Nat) : List Nat := if (o.any fun y => M.eqv y x) = true then o else o ++ [x]
noncomputable def Mach.grow (M : Mach) (o : List Nat) (r : List Nat) : List Nat := r.foldl M.grow1 o
noncomputable def Mach.ord (M : Mach) : Nat → List Nat
  | 0 => [0]
  | i + 1 => match (M.ord i)[i]? with
    | some s => M.grow (M.ord i) (M.row s)
    | none => M.ord i
/-- states, no two of them alike -/
structure Mach.Apart (M : Mach) (o : List Nat) : Prop where
  lt : ∀ x ∈ o, x < M.st.length
  ap : o.Pairwise fun x y => ¬ M.Eqv x y
theorem Mach.grow1_pre (o : List Nat) (x : Nat) : ∃ m, M.grow1 o x = o ++ m := by
  unfold Mach.grow1
  split
  · exact ⟨[], by simp⟩
  · exact ⟨[x], rfl⟩
theorem Mach.grow_pre (r : List Nat) : ∀ o : List Nat, ∃ m, M.grow o r = o ++ m := by
  induction r with
  | nil => exact fun o => ⟨[], by simp [Mach.grow]⟩
  | cons x r ih =>
    intro o
    obtain ⟨m, e⟩ := M.grow1_pre o x
    obtain ⟨m', e'⟩ := ih (M.grow1 o x)
    exact ⟨m ++ m', by show M.grow (M.grow1 o x) r = _; rw [e', e, List.append_assoc]⟩
theorem Mach.grow1_apart {o : List Nat} (A : M.Apart o) {x : Nat} (hx : x < M.st.length) : M.Apart (M.grow1 o x) := by
  unfold Mach.grow1
  by_cases h : (o.any fun y => M.eqv y x) = true
  · rw [if_pos h]; exact A
  · rw [if_neg h]
    refine ⟨fun y hy => ?_, ?_⟩
    · rcases List.mem_append.mp hy with hy | hy
      · exact A.lt y hy
      · rw [List.mem_singleton] at hy; subst hy; exact hx
    · rw [List.pairwise_append]
      refine ⟨A.ap, by simp, fun y hy z hz e => ?_⟩
      rw [List.mem_singleton] at hz
      subst hz
      exact h (List.any_eq_true.mpr ⟨y, hy, Mach.eqv_iff.mpr e⟩)
theorem Mach.grow_apart : ∀ {r o : List Nat}, M.Apart o → (∀ x ∈ r, x < M.st.length) → M.Apart (M.grow o r)
  | [], _, A, _ => A
  | x :: r, _, A, h => Mach.grow_apart (r := r) (M.grow1_apart A (h x List.mem_cons_self)) fun y hy => h y (List.mem_cons_of_mem _ hy)
theorem Mach.ord_apart (ok : M.Ok) : ∀ i, M.Apart (M.ord i)
  | 0 => ⟨fun x hx => by
      have : x = 0 := by simpa [Mach.ord] using hx
      subst this
      exact ok.n1, by simp [Mach.ord]⟩
  | i + 1 => by
    have A := Mach.ord_apart ok i
    unfold Mach.ord
    cases e : (M.ord i)[i]? with
    | none => exact A
    | some s => exact M.grow_apart A fun x hx => M.row_mem ok (A.lt s (List.mem_of_getElem? e)) hx
theorem Mach.Apart.le (ok : M.Ok) {o : List Nat} (A : M.Apart o) : o.length ≤ M.st.length := by
  have hn : o.Nodup := by
    refine A.ap.imp_of_mem fun {x y} hx _ h e => ?_
    subst e
    exact h (Mach.Eqv.refl ok (A.lt x hx))
  have h := nodup_le hn (m := List.range M.st.length) fun x hx => List.mem_range.mpr (A.lt x hx)
  rwa [List.length_range] at h
theorem Mach.ord_pre (i : Nat) : ∃ m, M.ord (i + 1) = M.ord i ++ m := by
  show ∃ m, (match (M.ord i)[i]? with | some s => M.grow (M.ord i) (M.row s) | none => M.ord i) = M.ord i ++ m
  cases (M.ord i)[i]? with
  | none => exact ⟨[], by simp⟩
  | some s => exact M.grow_pre _ _
theorem Mach.ord_pres (i : Nat) : ∀ d, ∃ m, M.ord (i + d) = M.ord i ++ m
  | 0 => ⟨[], by simp⟩
  | d + 1 => by
    obtain ⟨m, e⟩ := Mach.ord_pres i d
    obtain ⟨m', e'⟩ := Mach.ord_pre (M := M) (i + d)
    exact ⟨m ++ m', by rw [← Nat.add_assoc, e', e, List.append_assoc]⟩
theorem Mach.ord_step {i s : Nat} (h : (M.ord i)[i]? = some s) : M.ord (i + 1) = M.grow (M.ord i) (M.row s) := by
  show (match (M.ord i)[i]? with | some s => M.grow (M.ord i) (M.row s) | none => M.ord i) = _
  rw [h]
theorem Mach.ord_stop {i : Nat} (h : (M.ord i).length ≤ i) : ∀ d, M.ord (i + d) = M.ord i
  | 0 => rfl
  | d + 1 => by
    have ih := Mach.ord_stop h d
    have g : (M.ord (i + d))[i + d]? = none := by rw [ih]; exact List.getElem?_eq_none (by omega)
    rw [← Nat.add_assoc]
    show (match (M.ord (i + d))[i + d]? with | some s => M.grow (M.ord (i + d)) (M.row s) | none => M.ord (i + d)) = _
    rw [g]
    exact ih
/-- all of them, in the end -/
noncomputable def Mach.all (M : Mach) : List Nat := M.ord 6
theorem Mach.all_of (ok : M.Ok) {i : Nat} (h : (M.ord i).length ≤ i) : M.ord i = M.all := by
  unfold Mach.all
  have l6 := (Mach.ord_apart ok 6).le ok
  have n6 := ok.n6
  by_cases hi : i ≤ 6
  · have := Mach.ord_stop h (6 - i)
    rw [show i + (6 - i) = 6 by omega] at this
    exact this.symm
  · have := Mach.ord_stop (M := M) (i := 6) (by omega) (i - 6)
    rw [show 6 + (i - 6) = i by omega] at this
    exact this
/-- the number that a state has among o: its class's -/
noncomputable def Mach.num (M : Mach) (o : List Nat) (x : Nat) : Nat := o.findIdx fun y => M.eqv y x
/-- the least machine -/
noncomputable def Mach.least (M : Mach) : Mach := ⟨M.all.map fun s => (M.row s).map (M.num M.all), M.all.map M.ans⟩
theorem Mach.grow_has : ∀ {r o : List Nat} {x : Nat}, (∀ z ∈ r, z < M.st.length) → M.Ok → x ∈ r → ∃ y ∈ M.grow o r, M.eqv y x = true
  | z :: r, o, x, hz, ok, h => by
    rcases List.mem_cons.mp h with e | h
    · subst e
      obtain ⟨m, e2⟩ := M.grow_pre r (M.grow1 o x)
      have h1 : ∃ y ∈ M.grow1 o x, M.eqv y x = true := by
        unfold Mach.grow1
        by_cases h : (o.any fun y => M.eqv y x) = true
        · rw [if_pos h]
          obtain ⟨y, hy, q⟩ := List.any_eq_true.mp h
          exact ⟨y, hy, q⟩
        · rw [if_neg h]
          exact ⟨x, List.mem_append_right _ (List.mem_singleton.mpr rfl), Mach.eqv_iff.mpr (Mach.Eqv.refl ok (hz x List.mem_cons_self))⟩
      obtain ⟨y, hy, q⟩ := h1
      exact ⟨y, by show y ∈ M.grow (M.grow1 o x) r; rw [e2]; exact List.mem_append_left _ hy, q⟩
    · exact Mach.grow_has (r := r) (o := M.grow1 o z) (fun w hw => hz w (List.mem_cons_of_mem _ hw)) ok h
/-- a number, once there, stays -/
theorem Mach.num_pre {o m : List Nat} {x : Nat} (h : ∃ y ∈ o, M.eqv y x = true) : M.num (o ++ m) x = M.num o x := by
  unfold Mach.num
  rw [List.findIdx_append, if_pos]
  exact List.findIdx_lt_length_of_exists h
theorem Mach.num_lt {o : List Nat} {x : Nat} (h : ∃ y ∈ o, M.eqv y x = true) : M.num o x < o.length := List.findIdx_lt_length_of_exists h
theorem Mach.num_at {o : List Nat} {x : Nat} (h : ∃ y ∈ o, M.eqv y x = true) : ∃ y, o[M.num o x]? = some y ∧ M.eqv y x = true := by
  have hl := M.num_lt h
  exact ⟨_, List.getElem?_eq_getElem hl, List.findIdx_getElem (w := hl)⟩
/-- the number by which an apart list names a state is the only one -/
theorem Mach.Apart.only {o : List Nat} (A : M.Apart o) {i j : Nat} {x y z : Nat} (hi : o[i]? = some x) (hj : o[j]? = some y) (hx : M.Eqv x z) (hy : M.Eqv y z) : i = j := by
  obtain ⟨h1, e1⟩ := List.getElem?_eq_some_iff.mp hi
  obtain ⟨h2, e2⟩ := List.getElem?_eq_some_iff.mp hj
  have q := List.pairwise_iff_getElem.mp A.ap
  rcases Nat.lt_trichotomy i j with h | h | h
  · exact absurd (hx.trans hy.symm) (by have := q i j h1 h2 h; rw [e1, e2] at this; exact this)
  · exact h
  · exact absurd (hy.trans hx.symm) (by have := q j i h2 h1 h; rw [e1, e2] at this; exact this)
end
end M1
namespace M1
section
variable {M : Mach}
/-- the state to which a word leads -/
def Mach.led (M : Mach) (i : Nat) (r : List Nat) : Nat := r.foldl M.go i
/-- the answer to the letter at j -/
def Mach.tld (M : Mach) (i : Nat) (r : List Nat) (j : Nat) : Nat := M.out (M.led i (r.take j)) (r.getD j 0)
theorem Mach.led_lt (ok : M.Ok) : ∀ {r : List Nat} {i : Nat}, i < M.st.length → (∀ x ∈ r, x < M.k) → M.led i r < M.st.length
  | [], _, h, _ => h
  | a :: r, i, h, hr => Mach.led_lt ok (r := r) (i := M.go i a) (M.go_lt ok h (hr a List.mem_cons_self)) fun x hx => hr x (List.mem_cons_of_mem _ hx)
theorem Mach.led_take {i : Nat} {r : List Nat} {j a : Nat} (h : r[j]? = some a) : M.led i (r.take (j + 1)) = M.go (M.led i (r.take j)) a := by
  unfold Mach.led
  rw [take_succ' h, List.foldl_append]
  rfl
theorem fc_map {α β : Type} [DecidableEq α] [DecidableEq β] (f : α → β) (hf : ∀ a b, f a = f b → a = b) (ks : List α) : fc (ks.map f) = fc ks := by
  refine (fc_kernel (ks.map f) ks (by rw [List.length_map]) fun i j a b c d h1 h2 h3 h4 => ?_).1
  rw [List.getElem?_map, h3] at h1
  rw [List.getElem?_map, h4] at h2
  have e1 := Option.some.inj h1
  have e2 := Option.some.inj h2
  rw [← e1, ← e2]
  exact ⟨fun e => hf _ _ e, fun e => by rw [e]⟩
theorem idxOf_take {α : Type} [DecidableEq α] {ks : List α} {i : Nat} {k : α} (h : ks[i]? = some k) :
    fc (ks.take (i + 1)) = fc (ks.take i) ++ [if k ∈ nub (ks.take i) then (nub (ks.take i)).idxOf k else (nub (ks.take i)).length] := by
  rw [take_succ' h, fc_snoc]
  congr 2
  by_cases hm : k ∈ ks.take i
  · rw [if_pos hm, if_pos ((mem_nub _ k).mpr hm)]
  · rw [if_neg hm, if_neg fun q => hm ((mem_nub _ k).mp q)]
theorem nub_take {α : Type} [DecidableEq α] {ks : List α} {i : Nat} {k : α} (h : ks[i]? = some k) :
    nub (ks.take (i + 1)) = if k ∈ nub (ks.take i) then nub (ks.take i) else nub (ks.take i) ++ [k] := by
  rw [take_succ' h, nub_snoc]
theorem nub_len {α : Type} [DecidableEq α] (ks : List α) : (nub ks).length ≤ ks.length := nodup_le (nub_nodup ks) fun y hy => (mem_nub ks y).mp hy
theorem Mach.keys_take {c : List Nat} {i : Nat} (h : i < M.st.length) : (List.range (i + 1)).map (M.key c) = (List.range i).map (M.key c) ++ [M.key c i] := by rw [List.range_succ, List.map_append]; rfl
/-! ### the least machine's rows as they are made -/
theorem Mach.ord_lt (ok : M.Ok) {i s : Nat} (h : (M.ord i)[i]? = some s) : s < M.st.length := (M.ord_apart ok i).lt s (List.mem_of_getElem? h)
theorem Mach.all_pre (ok : M.Ok) (i : Nat) : ∃ m, M.all = M.ord i ++ m := by
  by_cases h : i ≤ 6
  · obtain ⟨m, e⟩ := Mach.ord_pres (M := M) i (6 - i)
    refine ⟨m, ?_⟩
    unfold Mach.all
    rw [← e, show i + (6 - i) = 6 by omega]
  · have l6 := (M.ord_apart ok 6).le ok
    have n6 := ok.n6
    have := Mach.ord_stop (M := M) (i := 6) (by omega) (i - 6)
    rw [show 6 + (i - 6) = i by omega] at this
    exact ⟨[], by rw [this, List.append_nil]; rfl⟩
/-- a row's numbers are the same at the end -/
theorem Mach.row_num (ok : M.Ok) {i s : Nat} (h : (M.ord i)[i]? = some s) : (M.row s).map (M.num (M.ord (i + 1))) = (M.row s).map (M.num M.all) := by
  obtain ⟨m, e⟩ := M.all_pre ok (i + 1)
  refine List.map_congr_left fun x hx => ?_
  rw [e, M.num_pre]
  rw [M.ord_step h]
  exact M.grow_has (fun z hz => M.row_mem ok (M.ord_lt ok h) hz) ok hx
theorem Mach.all_at (ok : M.Ok) {i s : Nat} (h : (M.ord i)[i]? = some s) : M.all[i]? = some s := by
  obtain ⟨m, e⟩ := M.all_pre ok i
  rw [e, List.getElem?_append_left (List.getElem?_eq_some_iff.mp h).1]
  exact h
/-- within a row: taken in so far -/
noncomputable def Mach.mid (M : Mach) (i s j : Nat) : List Nat := M.grow (M.ord i) ((M.row s).take j)
theorem Mach.mid_zero {i s : Nat} : M.mid i s 0 = M.ord i := rfl
theorem Mach.mid_succ {i s j x : Nat} (h : (M.row s)[j]? = some x) : M.mid i s (j + 1) = M.grow1 (M.mid i s j) x := by
  unfold Mach.mid Mach.grow
  rw [take_succ' h, List.foldl_append]
  rfl
theorem Mach.mid_end {i s : Nat} (h : (M.ord i)[i]? = some s) : M.mid i s (M.row s).length = M.ord (i + 1) := by
  rw [M.ord_step h]
  unfold Mach.mid
  rw [List.take_length]
theorem Mach.mid_apart (ok : M.Ok) {i s j : Nat} (hs : s < M.st.length) : M.Apart (M.mid i s j) := M.grow_apart (M.ord_apart ok i) fun x hx => M.row_mem ok hs (List.mem_of_mem_take hx)
theorem Mach.grow_num : ∀ {r o : List Nat} {x : Nat}, (∃ y ∈ o, M.eqv y x = true) → M.num (M.grow o r) x = M.num o x := fun {r o x} h => by
  obtain ⟨m, e⟩ := M.grow_pre r o
  rw [e, M.num_pre h]
theorem Mach.mid_num {i s j x : Nat} (hx : ∃ y ∈ M.mid i s (j + 1), M.eqv y x = true) (hs : (M.ord i)[i]? = some s) (hj : j < (M.row s).length) : M.num (M.mid i s (j + 1)) x = M.num (M.ord (i + 1)) x := by
  rw [← M.mid_end hs]
  have e : M.mid i s (M.row s).length = M.grow (M.mid i s (j + 1)) ((M.row s).drop (j + 1)) := by
    unfold Mach.mid Mach.grow
    rw [← List.foldl_append, List.take_append_drop, List.take_length]
  rw [e, M.grow_num hx]
end
end M1
/-! The mathematics of late words: layers of pairs, walks, rounds. No Python. -/
namespace M1
section
variable {M : Mach}
def Mach.Letters (M : Mach) (w : List Nat) : Prop := ∀ x ∈ w, x < M.k
/-- a state to which a word leads from state 0 -/
def Mach.Rch (M : Mach) (i : Nat) : Prop := ∃ w, M.Letters w ∧ M.led 0 w = i
theorem Mach.Rch.zero : M.Rch 0 := ⟨[], fun _ h => by simp at h, rfl⟩
theorem Mach.led_append (i : Nat) (u w : List Nat) : M.led i (u ++ w) = M.led (M.led i u) w := by unfold Mach.led; rw [List.foldl_append]
theorem Mach.Rch.go {i a : Nat} (h : M.Rch i) (ha : a < M.k) : M.Rch (M.go i a) := by
  obtain ⟨w, hw, e⟩ := h
  refine ⟨w ++ [a], fun x hx => ?_, by rw [M.led_append, e]; rfl⟩
  rcases List.mem_append.mp hx with hx | hx
  · exact hw x hx
  · rw [List.mem_singleton] at hx; subst hx; exact ha
theorem Mach.Rch.lt (ok : M.Ok) {i : Nat} (h : M.Rch i) : i < M.st.length := by
  obtain ⟨w, hw, e⟩ := h
  rw [← e]
  exact M.led_lt ok ok.n1 hw
theorem Mach.Rch.led {i : Nat} (h : M.Rch i) {w : List Nat} (hw : M.Letters w) : M.Rch (M.led i w) := by
  obtain ⟨u, hu, e⟩ := h
  refine ⟨u ++ w, fun x hx => ?_, by rw [M.led_append, e]⟩
  rcases List.mem_append.mp hx with hx | hx
  · exact hu x hx
  · exact hw x hx
/-- the last letter of the word is answered unlike from i and from j -/
def Mach.Unl (M : Mach) (i j : Nat) (w : List Nat) : Prop := ∃ u a, w = u ++ [a] ∧ M.out (M.led i u) a ≠ M.out (M.led j u) a
theorem Mach.unl_cons {i j a : Nat} {w : List Nat} (hw : w ≠ []) : M.Unl i j (a :: w) ↔ M.Unl (M.go i a) (M.go j a) w := by
  constructor
  · rintro ⟨u, b, e, h⟩
    cases u with
    | nil => simp at e; exact absurd e.2 hw
    | cons c u =>
      simp at e
      obtain ⟨rfl, rfl⟩ := e
      exact ⟨u, b, rfl, h⟩
  · rintro ⟨u, b, rfl, h⟩
    exact ⟨a :: u, b, rfl, h⟩
theorem Mach.unl_one {i j a : Nat} : M.Unl i j [a] ↔ M.out i a ≠ M.out j a := by
  constructor
  · rintro ⟨u, b, e, h⟩
    cases u with
    | nil => simp at e; subst e; exact h
    | cons c u => simp at e
  · intro h; exact ⟨[], a, rfl, h⟩
/-- a pair whose first state comes -/
def Mach.Pr (M : Mach) (p : Nat × Nat) : Prop := M.Rch p.1 ∧ p.2 < M.st.length
theorem Mach.Pr.go (ok : M.Ok) {p : Nat × Nat} (h : M.Pr p) {a : Nat} (ha : a < M.k) : M.Pr (M.go p.1 a, M.go p.2 a) := ⟨h.1.go ha, M.go_lt ok h.2 ha⟩
/-- there is a late word of this length -/
def Mach.Late (M : Mach) (n : Nat) : Prop := ∃ p w, M.Pr p ∧ M.Letters w ∧ w.length = n ∧ M.Unl p.1 p.2 w
/-- p has a late word of this length -/
def Mach.LateAt (M : Mach) (p : Nat × Nat) (n : Nat) : Prop := ∃ w, M.Letters w ∧ w.length = n ∧ M.Unl p.1 p.2 w
theorem Mach.lateAt_zero {p : Nat × Nat} : ¬ M.LateAt p 0 := by
  rintro ⟨w, _, h, u, a, e, _⟩
  rw [e] at h
  simp at h
theorem Mach.lateAt_one {p : Nat × Nat} : M.LateAt p 1 ↔ ∃ a, a < M.k ∧ M.out p.1 a ≠ M.out p.2 a := by
  constructor
  · rintro ⟨w, hw, h, hu⟩
    obtain ⟨a, rfl⟩ : ∃ a, w = [a] := by
      cases w with
      | nil => simp at h
      | cons a w => cases w with
        | nil => exact ⟨a, rfl⟩
        | cons _ _ => simp at h
    exact ⟨a, hw a List.mem_cons_self, M.unl_one.mp hu⟩
  · rintro ⟨a, ha, h⟩
    exact ⟨[a], fun x hx => by rw [List.mem_singleton] at hx; subst hx; exact ha, rfl, M.unl_one.mpr h⟩
theorem Mach.lateAt_succ {p : Nat × Nat} {n : Nat} : M.LateAt p (n + 2) ↔ ∃ a, a < M.k ∧ M.LateAt (M.go p.1 a, M.go p.2 a) (n + 1) := by
  constructor
  · rintro ⟨w, hw, h, hu⟩
    cases w with
    | nil => simp at h
    | cons a w =>
      have hne : w ≠ [] := fun e => by subst e; simp at h
      exact ⟨a, hw a List.mem_cons_self, w, fun x hx => hw x (List.mem_cons_of_mem _ hx), by simpa using h, (M.unl_cons hne).mp hu⟩
  · rintro ⟨a, ha, w, hw, h, hu⟩
    have hne : w ≠ [] := fun e => by subst e; simp at h
    refine ⟨a :: w, fun x hx => ?_, by simp [h], (M.unl_cons hne).mpr hu⟩
    rcases List.mem_cons.mp hx with e | hx
    · subst e; exact ha
    · exact hw x hx
theorem Mach.late_iff {n : Nat} : M.Late n ↔ ∃ p, M.Pr p ∧ M.LateAt p n := by
  constructor
  · rintro ⟨p, w, hp, a, b, c⟩; exact ⟨p, hp, w, a, b, c⟩
  · rintro ⟨p, hp, w, a, b, c⟩; exact ⟨p, w, hp, a, b, c⟩
theorem Mach.late_down (ok : M.Ok) {n : Nat} (h : M.Late (n + 2)) : M.Late (n + 1) := by
  obtain ⟨p, hp, h⟩ := M.late_iff.mp h
  obtain ⟨a, ha, h⟩ := M.lateAt_succ.mp h
  exact M.late_iff.mpr ⟨_, hp.go ok ha, h⟩
theorem Mach.late_le (ok : M.Ok) {n : Nat} : ∀ d, M.Late (n + 1 + d) → M.Late (n + 1)
  | 0, h => h
  | d + 1, h => Mach.late_le ok d (M.late_down ok (n := n + d) (by rw [show n + d + 2 = n + 1 + (d + 1) by omega]; exact h) |> fun q => by rw [show n + 1 + d = n + d + 1 by omega]; exact q)
theorem Mach.late_mono (ok : M.Ok) {m n : Nat} (hm : 1 ≤ m) (h : m ≤ n) (hn : M.Late n) : M.Late m := by
  have := M.late_le ok (n := m - 1) (n - m) (by rw [show m - 1 + 1 + (n - m) = n by omega]; exact hn)
  rwa [show m - 1 + 1 = m by omega] at this
/-! ### walks -/
/-- the pairs along a word, each with the letter read there -/
def Mach.Walk (M : Mach) : List ((Nat × Nat) × Nat) → Prop
  | [] => True
  | [(p, a)] => a < M.k ∧ M.out p.1 a ≠ M.out p.2 a
  | (p, a) :: (q, b) :: r => a < M.k ∧ q = (M.go p.1 a, M.go p.2 a) ∧ Mach.Walk M ((q, b) :: r)
def wordOf (w : List ((Nat × Nat) × Nat)) : List Nat := w.map (·.2)
theorem Mach.Walk.word : ∀ {w : List ((Nat × Nat) × Nat)} {p : Nat × Nat} {a : Nat}, M.Walk ((p, a) :: w) → M.Letters (wordOf ((p, a) :: w)) ∧ M.Unl p.1 p.2 (wordOf ((p, a) :: w))
  | [], p, a, h => ⟨fun x hx => by simp [wordOf] at hx; subst hx; exact h.1, M.unl_one.mpr h.2⟩
  | (q, b) :: r, p, a, h => by
    obtain ⟨h1, h2, h3⟩ := h
    obtain ⟨i1, i2⟩ := Mach.Walk.word h3
    refine ⟨fun x hx => ?_, ?_⟩
    · rcases List.mem_cons.mp hx with e | hx
      · subst e; exact h1
      · exact i1 x hx
    · subst h2
      exact (M.unl_cons (by simp [wordOf])).mpr i2
theorem Mach.Walk.tail : ∀ {w : List ((Nat × Nat) × Nat)} {x : (Nat × Nat) × Nat}, M.Walk (x :: w) → M.Walk w
  | [], _, _ => trivial
  | (_, _) :: _, (_, _), h => h.2.2
theorem Mach.Walk.drop : ∀ {w : List ((Nat × Nat) × Nat)} (i : Nat), M.Walk w → M.Walk (w.drop i)
  | _, 0, h => h
  | [], _ + 1, h => h
  | _ :: _, i + 1, h => Mach.Walk.drop i h.tail
/-- a walk's next pair -/
theorem Mach.Walk.step : ∀ {w : List ((Nat × Nat) × Nat)} {i : Nat} {p q : Nat × Nat} {a b : Nat}, M.Walk w → w[i]? = some (p, a) → w[i + 1]? = some (q, b) → a < M.k ∧ q = (M.go p.1 a, M.go p.2 a)
  | (_, _) :: (_, _) :: _, 0, p, q, a, b, h, h1, h2 => by
    simp at h1 h2
    obtain ⟨⟨rfl, rfl⟩, rfl⟩ := h1
    obtain ⟨⟨rfl, rfl⟩, rfl⟩ := h2
    exact ⟨h.1, h.2.1⟩
  | x :: r, i + 1, p, q, a, b, h, h1, h2 => Mach.Walk.step (w := r) (i := i) h.tail (by simpa using h1) (by simpa using h2)
  | [(_, _)], 0, _, _, _, _, _, _, h2 => by simp at h2
theorem Mach.Walk.letter : ∀ {w : List ((Nat × Nat) × Nat)} {i : Nat} {p : Nat × Nat} {a : Nat}, M.Walk w → w[i]? = some (p, a) → a < M.k
  | (_, _) :: [], 0, _, _, h, h1 => by simp at h1; obtain ⟨_, rfl⟩ := h1; exact h.1
  | (_, _) :: (_, _) :: _, 0, _, _, h, h1 => by simp at h1; obtain ⟨_, rfl⟩ := h1; exact h.1
  | _ :: r, i + 1, _, _, h, h1 => Mach.Walk.letter (w := r) (i := i) h.tail (by simpa using h1)
/-- from the i-th to the j-th pair -/
theorem Mach.Walk.led {w : List ((Nat × Nat) × Nat)} (h : M.Walk w) {i : Nat} {p : Nat × Nat} {a : Nat} (hi : w[i]? = some (p, a)) : ∀ (d : Nat) {q : Nat × Nat} {b : Nat}, w[i + d]? = some (q, b) → q = (M.led p.1 (wordOf ((w.drop i).take d)), M.led p.2 (wordOf ((w.drop i).take d)))
  | 0, q, b, hj => by
    rw [Nat.add_zero, hi] at hj
    have := Option.some.inj hj
    have : q = p := (Prod.mk.inj this).1.symm
    subst this
    rfl
  | d + 1, q, b, hj => by
    have hlt : i + d < w.length := by
      have := (List.getElem?_eq_some_iff.mp hj).1
      omega
    obtain ⟨r, c, hr⟩ : ∃ r c, w[i + d]? = some (r, c) := ⟨(w[i + d]).1, (w[i + d]).2, List.getElem?_eq_getElem hlt⟩
    have ih := h.led hi d hr
    obtain ⟨_, hs⟩ := h.step hr (by rw [show i + d + 1 = i + (d + 1) by omega]; exact hj)
    have e : wordOf ((w.drop i).take (d + 1)) = wordOf ((w.drop i).take d) ++ [c] := by
      have g : (w.drop i)[d]? = some (r, c) := by rw [List.getElem?_drop]; exact hr
      unfold wordOf
      rw [take_succ' g, List.map_append]
      rfl
    rw [hs, e, M.led_append, M.led_append, ih]
    rfl
/-- round and round: words of any length -/
theorem Mach.pump (ok : M.Ok) {p : Nat × Nat} (hp : M.Pr p) {u w : List Nat} (hu : u ≠ []) (lu : M.Letters u) (h1 : M.led p.1 u = p.1) (h2 : M.led p.2 u = p.2) (lw : M.Letters w) (hw : M.Unl p.1 p.2 w) : ∀ n, 1 ≤ n → M.Late n := by
  have hpos : 1 ≤ w.length := by
    obtain ⟨_, _, e, _⟩ := hw
    rw [e]; simp
  have big : ∀ k, ∃ v, M.Letters v ∧ k + w.length ≤ v.length ∧ M.Unl p.1 p.2 v := by
    intro k
    induction k with
    | zero => exact ⟨w, lw, by omega, hw⟩
    | succ k ih =>
      obtain ⟨v, lv, hv, x, a, e, hx⟩ := ih
      refine ⟨u ++ v, fun y hy => ?_, ?_, u ++ x, a, by rw [e, List.append_assoc], ?_⟩
      · rcases List.mem_append.mp hy with hy | hy
        · exact lu y hy
        · exact lv y hy
      · have : 1 ≤ u.length := List.length_pos_iff.mpr hu
        rw [List.length_append]
        omega
      · rw [M.led_append, M.led_append, h1, h2]
        exact hx
  intro n hn
  obtain ⟨v, lv, hv, hu⟩ := big n
  exact M.late_mono ok hn (by omega : n ≤ v.length) ⟨p, v, hp, lv, rfl, hu⟩
/-- two places with the same pair -/
theorem Mach.Walk.round (ok : M.Ok) {w : List ((Nat × Nat) × Nat)} (h : M.Walk w) {i j : Nat} {p : Nat × Nat} {a b : Nat} (hp : M.Pr p) (hij : i < j) (hi : w[i]? = some (p, a)) (hj : w[j]? = some (p, b)) :
    M.Letters (wordOf ((w.drop i).take (j - i))) ∧ wordOf ((w.drop i).take (j - i)) ≠ [] ∧ M.led p.1 (wordOf ((w.drop i).take (j - i))) = p.1 ∧ M.led p.2 (wordOf ((w.drop i).take (j - i))) = p.2 ∧ M.Letters (wordOf (w.drop j)) ∧ M.Unl p.1 p.2 (wordOf (w.drop j)) := by
  have hjl := (List.getElem?_eq_some_iff.mp hj).1
  have e := h.led hi (j - i) (by rw [show i + (j - i) = j by omega]; exact hj)
  have hd : w.drop j = (p, b) :: w.drop (j + 1) := by
    have g := (List.getElem?_eq_some_iff.mp hj).2
    rw [List.drop_eq_getElem_cons hjl, g]
  have hw := h.drop j
  rw [hd] at hw
  have hl := hw.word
  rw [← hd] at hl
  refine ⟨fun x hx => ?_, ?_, (Prod.mk.inj e).1.symm, (Prod.mk.inj e).2.symm, hl.1, hl.2⟩
  · unfold wordOf at hx
    obtain ⟨y, hy, rfl⟩ := List.mem_map.mp hx
    obtain ⟨k, hk⟩ := List.mem_iff_getElem?.mp (List.mem_of_mem_take hy)
    rw [List.getElem?_drop] at hk
    exact h.letter (p := y.1) (a := y.2) hk
  · intro z
    have : (wordOf ((w.drop i).take (j - i))).length = j - i := by
      unfold wordOf
      rw [List.length_map, List.length_take, List.length_drop]
      omega
    rw [z] at this
    simp at this
    omega
theorem Mach.Walk.endless (ok : M.Ok) {w : List ((Nat × Nat) × Nat)} (h : M.Walk w) {i j : Nat} {p : Nat × Nat} {a b : Nat} (hp : M.Pr p) (hij : i < j) (hi : w[i]? = some (p, a)) (hj : w[j]? = some (p, b)) : ∀ n, 1 ≤ n → M.Late n := by
  obtain ⟨h1, h2, h3, h4, h5, h6⟩ := h.round ok hp hij hi hj
  exact M.pump ok hp h2 h1 h3 h4 h5 h6
theorem Mach.Walk.pr (ok : M.Ok) : ∀ {w : List ((Nat × Nat) × Nat)}, M.Walk w → (∀ x, w.head? = some x → M.Pr x.1) → ∀ x ∈ w, M.Pr x.1
  | [], _, _, x, hx => by simp at hx
  | [(p, a)], _, h0, x, hx => by
    rw [List.mem_singleton] at hx
    subst hx
    exact h0 _ rfl
  | (p, a) :: (q, b) :: r, h, h0, x, hx => by
    rcases List.mem_cons.mp hx with e | hx
    · subst e; exact h0 _ rfl
    · refine Mach.Walk.pr ok (w := (q, b) :: r) h.2.2 (fun y hy => ?_) x hx
      simp at hy
      subst hy
      show M.Pr q
      rw [h.2.1]
      exact (h0 _ rfl).go ok h.1
/-- more pairs than there are: one comes twice -/
theorem twice {α : Type} [DecidableEq α] : ∀ {l m : List α}, (∀ x ∈ l, x ∈ m) → m.length < l.length → ∃ (i j : Nat) (x : α), i < j ∧ l[i]? = some x ∧ l[j]? = some x := by
  intro l m hs hl
  refine Classical.byContradiction fun hn => ?_
  have nd : l.Nodup := by
    refine List.pairwise_iff_getElem.mpr fun i j hi hj hij e => hn ⟨i, j, l[j], hij, ?_, List.getElem?_eq_getElem hj⟩
    rw [List.getElem?_eq_getElem hi, e]
  have := nodup_le nd hs
  omega
/-- what late tells: the greatest length, or none -/
def Mach.LateIs (M : Mach) (o : Option Nat) : Prop := match o with
  | some n => (∀ m, 1 ≤ m → (M.Late m ↔ m ≤ n))
  | none => ∀ m, 1 ≤ m → M.Late m
theorem Mach.LateIs.only {o u : Option Nat} (h : M.LateIs o) (h' : M.LateIs u) : o = u := by
  cases o with
  | none => cases u with
    | none => rfl
    | some n => exact absurd ((h' (n + 1) (by omega)).mp (h (n + 1) (by omega))) (by omega)
  | some n => cases u with
    | none => exact absurd ((h (n + 1) (by omega)).mp (h' (n + 1) (by omega))) (by omega)
    | some m =>
      congr 1
      rcases Nat.lt_trichotomy n m with q | q | q
      · exact absurd ((h m (by omega)).mp ((h' m (by omega)).mpr (Nat.le_refl _))) (by omega)
      · exact q
      · exact absurd ((h' n (by omega)).mp ((h n (by omega)).mpr (Nat.le_refl _))) (by omega)
end
end M1
namespace M1
/-! ### pairs with a letter: the dicts of a layer -/
abbrev PL := List ((Nat × Nat) × Nat)
def addF (f : PL) (p : Nat × Nat) (a : Nat) : PL := if p ∈ f.map (·.1) then f else f ++ [(p, a)]
structure Lay (G : Nat × Nat → Nat → Prop) (k : Nat) (ps : List (Nat × Nat)) (f : PL) : Prop where
  nd : (f.map (·.1)).Nodup
  sound : ∀ x ∈ f, x.1 ∈ ps ∧ x.2 < k ∧ G x.1 x.2
  full : ∀ p ∈ ps, ∀ a, a < k → G p a → p ∈ f.map (·.1)
structure LayIn (G : Nat × Nat → Nat → Prop) (k : Nat) (ps : List (Nat × Nat)) (i j : Nat) (f : PL) : Prop where
  nd : (f.map (·.1)).Nodup
  sound : ∀ x ∈ f, x.1 ∈ ps ∧ x.2 < k ∧ G x.1 x.2
  full : ∀ (n : Nat) p, ps[n]? = some p → ∀ a, a < k → (n < i ∨ n = i ∧ a < j) → G p a → p ∈ f.map (·.1)
section
variable {G : Nat × Nat → Nat → Prop} {k i j : Nat} {ps : List (Nat × Nat)} {f : PL} {p : Nat × Nat} {a : Nat}
theorem LayIn.nil : LayIn G k ps 0 0 [] := ⟨by simp, fun _ h => by simp at h, fun _ _ _ _ _ h => by omega⟩
theorem addF_mem : ∀ q, q ∈ (addF f p a).map (·.1) ↔ q ∈ f.map (·.1) ∨ q = p := fun q => by
  unfold addF
  by_cases h : p ∈ f.map (·.1)
  · rw [if_pos h]
    refine ⟨.inl, fun z => ?_⟩
    rcases z with z | z
    · exact z
    · rw [z]; exact h
  · rw [if_neg h, List.map_append, List.mem_append]
    simp
theorem LayIn.add (L : LayIn G k ps i j f) (hp : ps[i]? = some p) (hj : j < k) (g : G p j) : LayIn G k ps i (j + 1) (addF f p j) := by
  refine ⟨?_, fun x hx => ?_, fun n q hn b hb hc hg => ?_⟩
  · unfold addF
    by_cases h : p ∈ f.map (·.1)
    · rw [if_pos h]; exact L.nd
    · rw [if_neg h, List.map_append, List.nodup_append]
      refine ⟨L.nd, by simp, fun y hy z hz e => ?_⟩
      have hz' : z = p := by simpa using hz
      subst e
      exact h (hz' ▸ hy)
  · unfold addF at hx
    by_cases h : p ∈ f.map (·.1)
    · rw [if_pos h] at hx; exact L.sound x hx
    · rw [if_neg h] at hx
      rcases List.mem_append.mp hx with hx | hx
      · exact L.sound x hx
      · rw [List.mem_singleton] at hx
        subst hx
        exact ⟨List.mem_of_getElem? hp, hj, g⟩
  · rw [addF_mem]
    by_cases e : n = i ∧ b = j
    · obtain ⟨rfl, rfl⟩ := e
      rw [hp] at hn
      exact .inr (Option.some.inj hn).symm
    · exact .inl (L.full n q hn b hb (by omega) hg)
theorem LayIn.skip (L : LayIn G k ps i j f) (hp : ps[i]? = some p) (g : ¬ G p j) : LayIn G k ps i (j + 1) f := by
  refine ⟨L.nd, L.sound, fun n q hn b hb hc hg => ?_⟩
  by_cases e : n = i ∧ b = j
  · obtain ⟨rfl, rfl⟩ := e
    rw [hp] at hn
    exact absurd ((Option.some.inj hn) ▸ hg) g
  · exact L.full n q hn b hb (by omega) hg
theorem LayIn.row (L : LayIn G k ps i k f) : LayIn G k ps (i + 1) 0 f := ⟨L.nd, L.sound, fun n q hn b hb hc hg => L.full n q hn b hb (by omega) hg⟩
theorem LayIn.done (L : LayIn G k ps ps.length 0 f) : Lay G k ps f := ⟨L.nd, L.sound, fun p hp a ha hg => by
  obtain ⟨n, hn⟩ := List.mem_iff_getElem?.mp hp
  exact L.full n p hn a ha (.inl (List.getElem?_eq_some_iff.mp hn).1) hg⟩
theorem LayIn.len (L : LayIn G k ps i j f) : f.length ≤ ps.length := by
  have h := nodup_le L.nd (m := ps) fun q hq => by
    obtain ⟨x, hx, rfl⟩ := List.mem_map.mp hq
    exact (L.sound x hx).1
  rwa [List.length_map] at h
end
section
variable {M : Mach}
/-- all pairs whose first state comes -/
def Mach.AllP (M : Mach) (ps : List (Nat × Nat)) : Prop := ∀ p, p ∈ ps ↔ M.Pr p
/-- a layer: the pairs that have a late word of n letters, each with a first letter of one -/
structure Mach.LayAt (M : Mach) (n : Nat) (f : PL) : Prop where
  keys : ∀ p, p ∈ f.map (·.1) ↔ M.Pr p ∧ M.LateAt p n
  lt : ∀ x ∈ f, x.2 < M.k
theorem Mach.layAt_one {ps : List (Nat × Nat)} (hp : M.AllP ps) {f : PL} (L : Lay (fun p a => M.out p.1 a ≠ M.out p.2 a) M.k ps f) : M.LayAt 1 f ∧ ∀ x ∈ f, M.out x.1.1 x.2 ≠ M.out x.1.2 x.2 := by
  refine ⟨⟨fun p => ⟨fun h => ?_, fun ⟨h1, h2⟩ => ?_⟩, fun x hx => (L.sound x hx).2.1⟩, fun x hx => (L.sound x hx).2.2⟩
  · obtain ⟨x, hx, rfl⟩ := List.mem_map.mp h
    obtain ⟨a, b, c⟩ := L.sound x hx
    exact ⟨(hp _).mp a, M.lateAt_one.mpr ⟨_, b, c⟩⟩
  · obtain ⟨a, ha, h⟩ := M.lateAt_one.mp h2
    exact L.full p ((hp p).mpr h1) a ha h
theorem Mach.layAt_succ (ok : M.Ok) {ps : List (Nat × Nat)} (hp : M.AllP ps) {n : Nat} {e f : PL} (Le : M.LayAt (n + 1) e) (L : Lay (fun p a => (M.go p.1 a, M.go p.2 a) ∈ e.map (·.1)) M.k ps f) : M.LayAt (n + 2) f ∧ ∀ x ∈ f, (M.go x.1.1 x.2, M.go x.1.2 x.2) ∈ e.map (·.1) := by
  refine ⟨⟨fun p => ⟨fun h => ?_, fun ⟨h1, h2⟩ => ?_⟩, fun x hx => (L.sound x hx).2.1⟩, fun x hx => (L.sound x hx).2.2⟩
  · obtain ⟨x, hx, rfl⟩ := List.mem_map.mp h
    obtain ⟨a, b, c⟩ := L.sound x hx
    exact ⟨(hp _).mp a, M.lateAt_succ.mpr ⟨_, b, ((Le.keys _).mp c).2⟩⟩
  · obtain ⟨a, ha, h⟩ := M.lateAt_succ.mp h2
    exact L.full p ((hp p).mpr h1) a ha ((Le.keys _).mpr ⟨h1.go ok ha, h⟩)
/-- the layers from one letter on -/
structure Mach.Layers (M : Mach) (fs : List PL) : Prop where
  at_ : ∀ (n : Nat) f, fs[n]? = some f → M.LayAt (n + 1) f ∧ f ≠ []
  first : ∀ f, fs[0]? = some f → ∀ x ∈ f, M.out x.1.1 x.2 ≠ M.out x.1.2 x.2
  step : ∀ (n : Nat) e f, fs[n]? = some e → fs[n + 1]? = some f → ∀ x ∈ f, (M.go x.1.1 x.2, M.go x.1.2 x.2) ∈ e.map (·.1)
theorem Mach.LayAt.none {n : Nat} {f : PL} (h : M.LayAt n f) (e : f = []) : ¬ M.Late n := fun q => by
  obtain ⟨p, hp, hl⟩ := M.late_iff.mp q
  have := (h.keys p).mpr ⟨hp, hl⟩
  rw [e] at this
  simp at this
theorem Mach.LayAt.some {n : Nat} {f : PL} (h : M.LayAt n f) (e : f ≠ []) : M.Late n := by
  cases f with
  | nil => exact absurd rfl e
  | cons x f => exact M.late_iff.mpr ⟨x.1, (h.keys x.1).mp (by simp)⟩
/-- how the layers end: no late word of one letter more, or more layers than pairs -/
def Mach.Ends (M : Mach) (ps : List (Nat × Nat)) (fs : List PL) : Prop := ¬ M.Late (fs.length + 1) ∨ ps.length < fs.length
/-- what a walk is worth -/
structure Mach.Wk (M : Mach) (w : PL) : Prop where
  walk : M.Walk w
  pr : ∀ x ∈ w, M.Pr x.1
  late : (w.map (·.1)).Nodup → M.LateIs (some w.length)
theorem Mach.Wk.endless (ok : M.Ok) {w : PL} (W : M.Wk w) {i j : Nat} {p : Nat × Nat} {a b : Nat} (hij : i < j) (hi : w[i]? = some (p, a)) (hj : w[j]? = some (p, b)) : M.LateIs none :=
  W.walk.endless ok (W.pr _ (List.mem_of_getElem? hi)) hij hi hj
theorem Mach.lateIs_of (ok : M.Ok) {n : Nat} (h1 : n = 0 ∨ M.Late n) (h2 : ¬ M.Late (n + 1)) : M.LateIs (some n) := fun m hm => by
  constructor
  · intro h
    refine Classical.byContradiction fun q => h2 (M.late_mono ok (by omega) (by omega) h)
  · intro h
    rcases h1 with z | z
    · omega
    · exact M.late_mono ok hm h z
end
end M1
namespace M1
section
variable {M : Mach}
theorem Mach.Layers.nil : M.Layers [] := ⟨fun _ _ h => by simp at h, fun _ h => by simp at h, fun _ _ _ h => by simp at h⟩
theorem Mach.Layers.one {f : PL} (h : M.LayAt 1 f) (hf : ∀ x ∈ f, M.out x.1.1 x.2 ≠ M.out x.1.2 x.2) (hn : f ≠ []) : M.Layers [f] := by
  refine ⟨fun n g hg => ?_, fun g hg => ?_, fun n e g he hg => ?_⟩
  · cases n with
    | zero => simp at hg; subst hg; exact ⟨h, hn⟩
    | succ n => simp at hg
  · simp at hg; subst hg; exact hf
  · simp at hg
theorem Mach.Layers.snoc {fs : List PL} {f g : PL} (L : M.Layers (fs ++ [f])) (h : M.LayAt (fs.length + 2) g) (hs : ∀ x ∈ g, (M.go x.1.1 x.2, M.go x.1.2 x.2) ∈ f.map (·.1)) (hn : g ≠ []) : M.Layers ((fs ++ [f]) ++ [g]) := by
  have hl : (fs ++ [f]).length = fs.length + 1 := by rw [List.length_append]; rfl
  have at_ : ∀ {n : Nat} {u : PL}, ((fs ++ [f]) ++ [g])[n]? = some u → n < fs.length + 1 ∧ (fs ++ [f])[n]? = some u ∨ n = fs.length + 1 ∧ u = g := by
    intro n u hu
    by_cases h1 : n < (fs ++ [f]).length
    · rw [List.getElem?_append_left h1] at hu
      exact .inl ⟨by omega, hu⟩
    · rw [List.getElem?_append_right (by omega)] at hu
      have h2 := (List.getElem?_eq_some_iff.mp hu).1
      simp at h2
      have h3 : n = fs.length + 1 := by omega
      subst h3
      simp at hu
      exact .inr ⟨rfl, hu.symm⟩
  refine ⟨fun n u hu => ?_, fun u hu => ?_, fun n e u he hu => ?_⟩
  · rcases at_ hu with ⟨_, q⟩ | ⟨rfl, rfl⟩
    · exact L.at_ n u q
    · exact ⟨h, hn⟩
  · rcases at_ hu with ⟨_, q⟩ | ⟨z, _⟩
    · exact L.first u q
    · omega
  · rcases at_ hu with ⟨z, q⟩ | ⟨z, rfl⟩
    · rcases at_ he with ⟨_, q2⟩ | ⟨y, _⟩
      · exact L.step n e u q2 q
      · omega
    · have hn' : n = fs.length := by omega
      subst hn'
      rcases at_ he with ⟨_, q2⟩ | ⟨y, _⟩
      · rw [List.getElem?_append_right (Nat.le_refl _)] at q2
        simp at q2
        subst q2
        exact hs
      · omega
theorem Mach.walk_of : ∀ {w : PL}, w ≠ [] → (∀ (i : Nat) p a, w[i]? = some (p, a) → a < M.k) → (∀ (i : Nat) p q a b, w[i]? = some (p, a) → w[i + 1]? = some (q, b) → q = (M.go p.1 a, M.go p.2 a)) → (∀ p a, w.getLast? = some (p, a) → M.out p.1 a ≠ M.out p.2 a) → M.Walk w
  | [], h, _, _, _ => absurd rfl h
  | [(p, a)], _, h1, _, h3 => ⟨h1 0 p a rfl, h3 p a rfl⟩
  | (p, a) :: (q, b) :: r, _, h1, h2, h3 => ⟨h1 0 p a rfl, h2 0 p q a b rfl rfl, Mach.walk_of (w := (q, b) :: r) (by simp) (fun i u c h => h1 (i + 1) u c (by simpa using h)) (fun i u v c d h h' => h2 (i + 1) u v c d (by simpa using h) (by simpa using h')) fun u c h => h3 u c (by rw [List.getLast?_cons_cons]; exact h)⟩
/-- the walk through the layers, its first i steps; p: where it goes on -/
structure Mach.WkIn (M : Mach) (fs : List PL) (i : Nat) (w : PL) (p : Nat × Nat) : Prop where
  len : w.length = i
  lt : ∀ (j : Nat) q a, w[j]? = some (q, a) → a < M.k ∧ M.Pr q
  next : ∀ (j : Nat) q u a b, w[j]? = some (q, a) → w[j + 1]? = some (u, b) → u = (M.go q.1 a, M.go q.2 a)
  last : ∀ q a, w.getLast? = some (q, a) → p = (M.go q.1 a, M.go q.2 a) ∧ (i = fs.length → M.out q.1 a ≠ M.out q.2 a)
  key : i < fs.length → ∃ f, fs[fs.length - 1 - i]? = some f ∧ p ∈ f.map (·.1)
theorem Mach.WkIn.start {fs : List PL} {p : Nat × Nat} {f : PL} (h : fs.getLast? = some f) (hp : p ∈ f.map (·.1)) : M.WkIn fs 0 [] p :=
  ⟨rfl, fun _ _ _ h => by simp at h, fun _ _ _ _ _ h => by simp at h, fun _ _ h => by simp at h, fun _ => ⟨f, by rw [List.getLast?_eq_getElem?] at h; exact h, hp⟩⟩
theorem Mach.WkIn.go {fs : List PL} (L : M.Layers fs) {i : Nat} {w : PL} {p : Nat × Nat} (W : M.WkIn fs i w p) {f : PL} (hf : fs[fs.length - 1 - i]? = some f) (hi : i < fs.length) {a : Nat} (ha : (p, a) ∈ f) : M.WkIn fs (i + 1) (w ++ [(p, a)]) (M.go p.1 a, M.go p.2 a) := by
  have hL := (L.at_ _ f hf).1
  have hk := hL.lt _ ha
  have hpr := ((hL.keys p).mp (List.mem_map_of_mem (f := (·.1)) ha)).1
  have at_ : ∀ {n : Nat} {u : (Nat × Nat) × Nat}, (w ++ [(p, a)])[n]? = some u → n < i ∧ w[n]? = some u ∨ n = i ∧ u = (p, a) := by
    intro n u hu
    by_cases h1 : n < w.length
    · rw [List.getElem?_append_left h1] at hu
      exact .inl ⟨by have := W.len; omega, hu⟩
    · rw [List.getElem?_append_right (by omega)] at hu
      have h2 := (List.getElem?_eq_some_iff.mp hu).1
      simp at h2
      have h3 : n = w.length := by have := W.len; omega
      subst h3
      simp at hu
      exact .inr ⟨W.len, hu.symm⟩
  refine ⟨by rw [List.length_append, W.len]; rfl, fun j q b h => ?_, fun j q u b c h h' => ?_, fun q b h => ?_, fun h => ?_⟩
  · rcases at_ h with ⟨_, h⟩ | ⟨_, h⟩
    · exact W.lt j q b h
    · injection h with h1 h2
      subst h1 h2
      exact ⟨hk, hpr⟩
  · rcases at_ h' with ⟨z', h'⟩ | ⟨z', h'⟩
    · rcases at_ h with ⟨_, h⟩ | ⟨z, _⟩
      · exact W.next j q u b c h h'
      · omega
    · injection h' with h1 h2
      subst h1 h2
      rcases at_ h with ⟨z, h⟩ | ⟨z, _⟩
      · refine (W.last q b ?_).1
        rw [List.getLast?_eq_getElem?, W.len, show i - 1 = j by omega]
        exact h
      · omega
  · rw [List.getLast?_append] at h
    simp at h
    obtain ⟨rfl, rfl⟩ := h
    refine ⟨rfl, fun e => ?_⟩
    rw [show fs.length - 1 - i = 0 by omega] at hf
    exact L.first f hf _ ha
  · refine ⟨_, List.getElem?_eq_getElem (by omega : fs.length - 1 - (i + 1) < fs.length), ?_⟩
    exact L.step (fs.length - 1 - (i + 1)) _ f (List.getElem?_eq_getElem _) (by rw [show fs.length - 1 - (i + 1) + 1 = fs.length - 1 - i by omega]; exact hf) _ ha
theorem Mach.Layers.wk (ok : M.Ok) {ps : List (Nat × Nat)} (hp : M.AllP ps) {fs : List PL} (L : M.Layers fs) (hE : M.Ends ps fs) {w : PL} {p : Nat × Nat} (W : fs = [] ∧ w = [] ∨ fs ≠ [] ∧ M.WkIn fs fs.length w p) : M.Wk w := by
  have hpr : ∀ x ∈ w, M.Pr x.1 := fun x hx => by
    rcases W with ⟨_, e⟩ | ⟨_, W⟩
    · rw [e] at hx; simp at hx
    · obtain ⟨j, hj⟩ := List.mem_iff_getElem?.mp hx
      exact (W.lt j x.1 x.2 hj).2
  have hlen : w.length = fs.length := by
    rcases W with ⟨e, e'⟩ | ⟨_, W⟩
    · rw [e, e']; rfl
    · exact W.len
  refine ⟨?_, hpr, fun nd => ?_⟩
  · rcases W with ⟨_, e⟩ | ⟨hn, W⟩
    · rw [e]; exact True.intro
    · refine M.walk_of (fun e => ?_) (fun i p a h => (W.lt i p a h).1) (fun i p q a b => W.next i p q a b) fun q a h => (W.last q a h).2 rfl
      rw [e] at hlen
      exact hn (List.length_eq_zero_iff.mp hlen.symm)
  · rw [hlen]
    have hle : fs.length ≤ ps.length := by
      have := nodup_le nd (m := ps) fun q hq => by
        obtain ⟨x, hx, rfl⟩ := List.mem_map.mp hq
        exact (hp _).mpr (hpr x hx)
      rw [List.length_map] at this
      omega
    refine M.lateIs_of ok ?_ (hE.resolve_right (by omega))
    cases h : fs.length with
    | zero => exact .inl rfl
    | succ n =>
      refine .inr ?_
      have hlt : n < fs.length := by omega
      obtain ⟨h1, h2⟩ := L.at_ n _ (List.getElem?_eq_getElem hlt)
      exact h1.some h2
end
end M1
namespace M1
section
variable {M : Mach}
/-! ### the states that come, by turns -/
structure Mach.ComeIn (M : Mach) (t : Nat) (r : List Nat) : Prop where
  nd : r.Nodup
  zero : 0 ∈ r
  sound : ∀ i ∈ r, M.Rch i
  grow : (∀ i ∈ r, ∀ a, a < M.k → M.go i a ∈ r) ∨ t + 1 ≤ r.length
theorem Mach.ComeIn.start : M.ComeIn 0 [0] := ⟨by simp, by simp, fun i h => by
  rw [List.mem_singleton] at h
  subst h
  exact Mach.Rch.zero, .inr (Nat.le_refl _)⟩
theorem Mach.row_iff (ok : M.Ok) {i : Nat} (hi : i < M.st.length) {x : Nat} : x ∈ M.row i ↔ ∃ a, a < M.k ∧ M.go i a = x := by
  constructor
  · intro h
    obtain ⟨a, ha⟩ := List.mem_iff_getElem?.mp h
    have hl := (List.getElem?_eq_some_iff.mp ha).1
    rw [M.row_len ok hi] at hl
    refine ⟨a, hl, ?_⟩
    have := M.go_at ok hi hl
    rw [ha] at this
    exact (Option.some.inj this).symm
  · rintro ⟨a, ha, rfl⟩
    exact List.mem_of_getElem? (M.go_at ok hi ha)
theorem Mach.ComeIn.go (ok : M.Ok) {t : Nat} {r s : List Nat} (C : M.ComeIn t r) (nd : s.Nodup) (hs : ∀ x, x ∈ s ↔ x ∈ r ∨ ∃ i ∈ r, x ∈ M.row i) : M.ComeIn (t + 1) s := by
  have lt : ∀ i ∈ r, i < M.st.length := fun i hi => (C.sound i hi).lt ok
  refine ⟨nd, (hs 0).mpr (.inl C.zero), fun x hx => ?_, ?_⟩
  · rcases (hs x).mp hx with h | ⟨i, hi, h⟩
    · exact C.sound x h
    · obtain ⟨a, ha, rfl⟩ := (M.row_iff ok (lt i hi)).mp h
      exact (C.sound i hi).go ha
  · by_cases hc : ∀ i ∈ r, ∀ a, a < M.k → M.go i a ∈ r
    · refine .inl fun i hi a ha => (hs _).mpr (.inl ?_)
      rcases (hs i).mp hi with h | ⟨j, hj, h⟩
      · exact hc i h a ha
      · obtain ⟨b, hb, rfl⟩ := (M.row_iff ok (lt j hj)).mp h
        exact hc _ (hc j hj b hb) a ha
    · refine .inr ?_
      have hr := C.grow.resolve_left hc
      obtain ⟨i, hi, a, ha, hn⟩ : ∃ i, i ∈ r ∧ ∃ a, a < M.k ∧ M.go i a ∉ r := Classical.byContradiction fun z => hc fun i hi a ha => Classical.byContradiction fun q => z ⟨i, hi, a, ha, q⟩
      have h1 : (M.go i a :: r).Nodup := List.nodup_cons.mpr ⟨hn, C.nd⟩
      have := nodup_le h1 (m := s) fun x hx => by
        rcases List.mem_cons.mp hx with e | hx
        · subst e
          exact (hs _).mpr (.inr ⟨i, hi, (M.row_iff ok (lt i hi)).mpr ⟨a, ha, rfl⟩⟩)
        · exact (hs _).mpr (.inl hx)
      rw [List.length_cons] at this
      omega
theorem Mach.ComeIn.len (ok : M.Ok) {t : Nat} {r : List Nat} (C : M.ComeIn t r) : r.length ≤ M.st.length := by
  have := nodup_le C.nd (m := List.range M.st.length) fun x hx => List.mem_range.mpr ((C.sound x hx).lt ok)
  rwa [List.length_range] at this
theorem Mach.ComeIn.done (ok : M.Ok) {r : List Nat} (C : M.ComeIn M.st.length r) : ∀ i, i ∈ r ↔ M.Rch i := fun i => by
  refine ⟨C.sound i, ?_⟩
  have hc := C.grow.resolve_right (by have := C.len ok; omega)
  rintro ⟨u, hu, rfl⟩
  have gen : ∀ (u : List Nat) (i : Nat), i ∈ r → M.Letters u → M.led i u ∈ r := by
    intro u
    induction u with
    | nil => exact fun i hi _ => hi
    | cons a u ih => exact fun i hi hu => ih (M.go i a) (hc i hi a (hu a List.mem_cons_self)) fun x hx => hu x (List.mem_cons_of_mem _ hx)
  exact gen u 0 C.zero hu
/-! ### the lots of pairs -/
/-- words of n letters lead to p from a pair whose first state comes -/
def Mach.At (M : Mach) (n : Nat) (p : Nat × Nat) : Prop := ∃ q u, M.Pr q ∧ M.Letters u ∧ u.length = n ∧ p = (M.led q.1 u, M.led q.2 u)
theorem Mach.at_zero {p : Nat × Nat} : M.At 0 p ↔ M.Pr p := by
  constructor
  · rintro ⟨q, u, hq, _, hl, rfl⟩
    obtain rfl := List.length_eq_zero_iff.mp hl
    exact hq
  · exact fun h => ⟨p, [], h, fun _ h => by simp at h, rfl, rfl⟩
theorem Mach.at_succ {n : Nat} {p : Nat × Nat} : M.At (n + 1) p ↔ ∃ q a, M.At n q ∧ a < M.k ∧ p = (M.go q.1 a, M.go q.2 a) := by
  constructor
  · rintro ⟨q, u, hq, hu, hl, rfl⟩
    rcases List.eq_nil_or_concat u with z | ⟨v, a, z⟩
    · subst z; simp at hl
    · rw [List.concat_eq_append] at z
      subst z
      rw [List.length_append, List.length_singleton] at hl
      refine ⟨(M.led q.1 v, M.led q.2 v), a, ⟨q, v, hq, fun x hx => hu x (List.mem_append_left _ hx), by omega, rfl⟩, hu a (List.mem_append_right _ (List.mem_singleton.mpr rfl)), ?_⟩
      rw [M.led_append, M.led_append]
      rfl
  · rintro ⟨_, a, ⟨q, u, hq, hu, hl, rfl⟩, ha, rfl⟩
    refine ⟨q, u ++ [a], hq, fun x hx => ?_, by rw [List.length_append, hl]; rfl, by rw [M.led_append, M.led_append]; rfl⟩
    rcases List.mem_append.mp hx with h | h
    · exact hu x h
    · rw [List.mem_singleton] at h; subst h; exact ha
theorem Mach.At.pr (ok : M.Ok) {n : Nat} {p : Nat × Nat} (h : M.At n p) : M.Pr p := by
  obtain ⟨q, u, hq, hu, _, rfl⟩ := h
  exact ⟨hq.1.led hu, M.led_lt ok hq.2 hu⟩
/-- unlike answers somewhere -/
theorem Mach.late_at (ok : M.Ok) {n : Nat} : M.Late (n + 1) ↔ ∃ p, M.At n p ∧ M.ans p.1 ≠ M.ans p.2 := by
  constructor
  · rintro ⟨p, w, hp, hw, hl, u, a, rfl, h⟩
    rw [List.length_append, List.length_singleton] at hl
    have hu : M.Letters u := fun x hx => hw x (List.mem_append_left _ hx)
    refine ⟨(M.led p.1 u, M.led p.2 u), ⟨p, u, hp, hu, by omega, rfl⟩, fun z => h ?_⟩
    have ha := hw a (List.mem_append_right _ (List.mem_singleton.mpr rfl))
    have h1 := M.out_at ok (M.led_lt ok (hp.1.lt ok) hu) ha
    have h2 := M.out_at ok (M.led_lt ok hp.2 hu) ha
    have z' : M.ans (M.led p.1 u) = M.ans (M.led p.2 u) := z
    rw [z', h2] at h1
    exact (Option.some.inj h1).symm
  · rintro ⟨_, ⟨p, u, hp, hu, hl, rfl⟩, h⟩
    have l1 := M.led_lt ok (hp.1.lt ok) hu
    have l2 := M.led_lt ok hp.2 hu
    obtain ⟨a, ha, hne⟩ : ∃ a, a < M.k ∧ M.out (M.led p.1 u) a ≠ M.out (M.led p.2 u) a := Classical.byContradiction fun z => h (List.ext_getElem? fun a => by
      show (M.ans (M.led p.1 u))[a]? = (M.ans (M.led p.2 u))[a]?
      by_cases ha : a < M.k
      · rw [M.out_at ok l1 ha, M.out_at ok l2 ha]
        congr 1
        exact Classical.byContradiction fun q => z ⟨a, ha, q⟩
      · rw [List.getElem?_eq_none (by rw [M.ans_len ok l1]; omega), List.getElem?_eq_none (by rw [M.ans_len ok l2]; omega)])
    refine ⟨p, u ++ [a], hp, fun x hx => ?_, by rw [List.length_append, hl]; rfl, u, a, rfl, hne⟩
    rcases List.mem_append.mp hx with q | q
    · exact hu x q
    · rw [List.mem_singleton] at q; subst q; exact ha
/-! ### more letters than pairs: any length -/
def Mach.walkOf (M : Mach) : Nat × Nat → List Nat → PL
  | _, [] => []
  | p, a :: u => (p, a) :: Mach.walkOf M (M.go p.1 a, M.go p.2 a) u
theorem Mach.walkOf_len : ∀ (u : List Nat) (p : Nat × Nat), (M.walkOf p u).length = u.length
  | [], _ => rfl
  | a :: u, p => by
    show (M.walkOf _ u).length + 1 = u.length + 1
    rw [Mach.walkOf_len u]
theorem Mach.walkOf_walk : ∀ (u : List Nat) (p : Nat × Nat), M.Letters u → M.Unl p.1 p.2 u → M.Walk (M.walkOf p u)
  | [], _, _, h => by obtain ⟨_, _, e, _⟩ := h; simp at e
  | [a], p, hu, h => ⟨hu a (by simp), M.unl_one.mp h⟩
  | a :: b :: u, p, hu, h => ⟨hu a (by simp), rfl, Mach.walkOf_walk (b :: u) _ (fun x hx => hu x (List.mem_cons_of_mem _ hx)) ((M.unl_cons (by simp)).mp h)⟩
theorem Mach.late_big (ok : M.Ok) {n : Nat} (hn : 36 < n) (h : M.Late n) : M.LateIs none := by
  obtain ⟨p, u, hp, hu, hl, hU⟩ := h
  have hW := M.walkOf_walk u p hu hU
  have hpr : ∀ x ∈ M.walkOf p u, M.Pr x.1 := hW.pr ok fun x hx => by
    cases u with
    | nil => simp [Mach.walkOf] at hx
    | cons a u =>
      have : x = (p, a) := by simpa [Mach.walkOf] using hx.symm
      rw [this]
      exact hp
  have n6 := ok.n6
  have hm : (pairsN M.st.length).length ≤ 36 := by
    rw [pairsN_len]
    exact Nat.mul_le_mul n6 n6
  obtain ⟨i, j, q, hij, hi, hj⟩ := twice (l := (M.walkOf p u).map (·.1)) (m := pairsN M.st.length) (fun q hq => by
    obtain ⟨x, hx, rfl⟩ := List.mem_map.mp hq
    exact mem_pairsN.mpr ⟨(hpr x hx).1.lt ok, (hpr x hx).2⟩) (by rw [List.length_map, M.walkOf_len]; omega)
  rw [List.getElem?_map] at hi hj
  cases ei : (M.walkOf p u)[i]? with
  | none => rw [ei] at hi; cases hi
  | some x => cases ej : (M.walkOf p u)[j]? with
    | none => rw [ej] at hj; cases hj
    | some y =>
      rw [ei] at hi
      rw [ej] at hj
      have e1 : x.1 = q := Option.some.inj hi
      have e2 : y.1 = q := Option.some.inj hj
      obtain ⟨x1, x2⟩ := x
      obtain ⟨y1, y2⟩ := y
      dsimp only at e1 e2
      subst e1
      subst e2
      exact hW.endless ok (hpr _ (List.mem_of_getElem? ei)) hij ei ej
end
end M1
namespace M1
section
variable {M : Mach}
/-! ### a greatest length is less than the number of states -/
/-- alike behind m letters or more -/
def Mach.Rm (M : Mach) (m i j : Nat) : Prop := ∀ n, m < n → ¬ M.LateAt (i, j) n
theorem Mach.rm_refl (m i : Nat) : M.Rm m i i := fun _ _ ⟨_, _, _, _, _, _, h⟩ => h rfl
theorem Mach.lateAt_symm {i j n : Nat} (h : M.LateAt (i, j) n) : M.LateAt (j, i) n := by
  obtain ⟨w, h1, h2, u, a, e, h⟩ := h
  exact ⟨w, h1, h2, u, a, e, fun z => h z.symm⟩
theorem Mach.rm_symm {m i j : Nat} (h : M.Rm m i j) : M.Rm m j i := fun n hn q => h n hn (M.lateAt_symm q)
theorem Mach.lateAt_trans {i j l n : Nat} (h : M.LateAt (i, l) n) : M.LateAt (i, j) n ∨ M.LateAt (j, l) n := by
  obtain ⟨w, h1, h2, u, a, e, h⟩ := h
  by_cases z : M.out (M.led i u) a = M.out (M.led j u) a
  · exact .inr ⟨w, h1, h2, u, a, e, fun q => h (z.trans q)⟩
  · exact .inl ⟨w, h1, h2, u, a, e, z⟩
theorem Mach.rm_trans {m i j l : Nat} (h : M.Rm m i j) (h' : M.Rm m j l) : M.Rm m i l := fun n hn q => (M.lateAt_trans q).elim (h n hn) (h' n hn)
theorem Mach.rm_mono {m n i j : Nat} (h : m ≤ n) (q : M.Rm m i j) : M.Rm n i j := fun l hl => q l (by omega)
theorem Mach.rm_succ {m i j : Nat} : M.Rm (m + 1) i j ↔ ∀ a, a < M.k → M.Rm m (M.go i a) (M.go j a) := by
  constructor
  · intro h a ha n hn q
    obtain ⟨n, rfl⟩ : ∃ l, n = l + 1 := ⟨n - 1, by omega⟩
    exact h (n + 2) (by omega) (M.lateAt_succ.mpr ⟨a, ha, q⟩)
  · intro h n hn q
    obtain ⟨n, rfl⟩ : ∃ l, n = l + 2 := ⟨n - 2, by omega⟩
    obtain ⟨a, ha, q⟩ := M.lateAt_succ.mp q
    exact h a ha (n + 1) (by omega) q
/-- no finer at one turn: never finer again -/
theorem Mach.rm_stop (ok : M.Ok) {m : Nat} (h : ∀ i j, i < M.st.length → j < M.st.length → M.Rm (m + 1) i j → M.Rm m i j) : ∀ d i j, i < M.st.length → j < M.st.length → M.Rm (m + d) i j → M.Rm m i j
  | 0, _, _, _, _, q => q
  | d + 1, i, j, hi, hj, q => h i j hi hj (M.rm_succ.mpr fun a ha => Mach.rm_stop ok h d _ _ (M.go_lt ok hi ha) (M.go_lt ok hj ha) (M.rm_succ.mp q a ha))
open Classical in
noncomputable def Mach.reps (M : Mach) (m : Nat) : List Nat := (List.range M.st.length).filter fun i => decide (∀ j, j < i → ¬ M.Rm m i j)
open Classical in
theorem Mach.mem_reps {m i : Nat} : i ∈ M.reps m ↔ i < M.st.length ∧ ∀ j, j < i → ¬ M.Rm m i j := by
  unfold Mach.reps
  rw [List.mem_filter, List.mem_range, decide_eq_true_iff]
open Classical in
theorem Mach.reps_nodup (m : Nat) : (M.reps m).Nodup := by
  unfold Mach.reps
  exact List.nodup_range.filter _
theorem Mach.rep_of (m : Nat) : ∀ i, i < M.st.length → ∃ r, r ∈ M.reps m ∧ M.Rm m i r ∧ r ≤ i := fun i => by
  induction i using Nat.strongRecOn with
  | _ i ih =>
    intro hi
    by_cases h : ∀ j, j < i → ¬ M.Rm m i j
    · exact ⟨i, M.mem_reps.mpr ⟨hi, h⟩, M.rm_refl m i, Nat.le_refl _⟩
    · obtain ⟨j, hj⟩ := Classical.not_forall.mp h
      obtain ⟨hj, hR⟩ := Classical.not_imp.mp hj
      obtain ⟨r, h1, h2, h3⟩ := ih j hj (by omega)
      exact ⟨r, h1, M.rm_trans (Classical.not_not.mp hR) h2, by omega⟩
theorem Mach.reps_sub {m n : Nat} (h : m ≤ n) : ∀ i ∈ M.reps n, i ∈ M.reps m := fun i hi => by
  obtain ⟨h1, h2⟩ := M.mem_reps.mp hi
  exact M.mem_reps.mpr ⟨h1, fun j hj q => h2 j hj (M.rm_mono h q)⟩
theorem Mach.reps_less {m i j : Nat} (hi : i < M.st.length) (hj : j < M.st.length) (h1 : M.Rm (m + 1) i j) (h2 : ¬ M.Rm m i j) : (M.reps (m + 1)).length < (M.reps m).length := by
  obtain ⟨r, a1, a2, _⟩ := M.rep_of m i hi
  obtain ⟨s, b1, b2, _⟩ := M.rep_of m j hj
  have hne : r ≠ s := fun e => by
    subst e
    exact h2 (M.rm_trans a2 (M.rm_symm b2))
  have hrs : M.Rm (m + 1) r s := M.rm_trans (M.rm_symm (M.rm_mono (by omega) a2)) (M.rm_trans h1 (M.rm_mono (by omega) b2))
  obtain ⟨x, hx, hx'⟩ : ∃ x, x ∈ M.reps m ∧ x ∉ M.reps (m + 1) := by
    rcases Nat.lt_trichotomy r s with q | q | q
    · exact ⟨s, b1, fun z => (M.mem_reps.mp z).2 r q (M.rm_symm hrs)⟩
    · exact absurd q hne
    · exact ⟨r, a1, fun z => (M.mem_reps.mp z).2 s q hrs⟩
  have hnd : (x :: M.reps (m + 1)).Nodup := List.nodup_cons.mpr ⟨hx', M.reps_nodup _⟩
  have := nodup_le hnd (m := M.reps m) fun y hy => by
    rcases List.mem_cons.mp hy with e | h
    · exact e ▸ hx
    · exact M.reps_sub (by omega) y h
  rw [List.length_cons] at this
  omega
theorem Mach.late_lt (ok : M.Ok) {n : Nat} (h : M.LateIs (some n)) : n < M.st.length := by
  by_cases h0 : n = 0
  · rw [h0]; exact ok.n1
  have all : ∀ i j, i < M.st.length → j < M.st.length → M.Rm n i j := by
    have z : ∀ i, i < M.st.length → M.Rm n 0 i := fun i hi l hl q => by
      have := (h l (by omega)).mp (M.late_iff.mpr ⟨(0, i), ⟨.zero, hi⟩, q⟩)
      omega
    exact fun i j hi hj => M.rm_trans (M.rm_symm (z i hi)) (z j hj)
  obtain ⟨p, hp, hL⟩ := M.late_iff.mp ((h n (by omega)).mpr (Nat.le_refl _))
  have less : ∀ m, m < n → (M.reps (m + 1)).length < (M.reps m).length := fun m hm => by
    apply Classical.byContradiction
    intro hne
    have hst : ∀ i j, i < M.st.length → j < M.st.length → M.Rm (m + 1) i j → M.Rm m i j := fun i j hi hj q => Classical.byContradiction fun z => hne (M.reps_less hi hj q z)
    have := M.rm_stop ok hst (n - m) p.1 p.2 (hp.1.lt ok) hp.2 (by rw [show m + (n - m) = n by omega]; exact all _ _ (hp.1.lt ok) hp.2)
    exact this n hm hL
  have down : ∀ d, d ≤ n → (M.reps d).length + d ≤ (M.reps 0).length := fun d => by
    induction d with
    | zero => intro _; omega
    | succ d ih =>
      intro hd
      have := ih (by omega)
      have := less d (by omega)
      omega
  have h1 := down n (Nat.le_refl _)
  have h2 : 0 < (M.reps n).length := List.length_pos_of_mem (M.mem_reps.mpr ⟨ok.n1, fun j hj => by omega⟩)
  have h3 : (M.reps 0).length ≤ M.st.length := by
    have := nodup_le (M.reps_nodup 0) (m := List.range M.st.length) fun y hy => List.mem_range.mpr (M.mem_reps.mp hy).1
    rwa [List.length_range] at this
  omega
/-- behind more letters than the greatest late word has, all states answer as the first one does -/
theorem Mach.LateIs.alike {n : Nat} (h : M.LateIs (some n)) {i j : Nat} (hi : i < M.st.length) (hj : j < M.st.length) {u : List Nat} {a : Nat} (hu : M.Letters (u ++ [a])) (hl : n ≤ u.length) : M.out (M.led i u) a = M.out (M.led j u) a := by
  have z : ∀ i, i < M.st.length → M.out (M.led 0 u) a = M.out (M.led i u) a := fun i hi => Classical.byContradiction fun q => by
    have := (h (u.length + 1) (by omega)).mp ⟨(0, i), u ++ [a], ⟨.zero, hi⟩, hu, by simp, u, a, rfl, q⟩
    omega
  exact (z i hi).symm.trans (z j hj)
end
end M1
namespace M1
section
variable {M : Mach}
/-! ### late words of the least machine -/
theorem Mach.all_ord (ok : M.Ok) {i s : Nat} (h : M.all[i]? = some s) : (M.ord i)[i]? = some s := by
  obtain ⟨m, e⟩ := M.all_pre ok i
  have hl : i < (M.ord i).length := by
    apply Classical.byContradiction
    intro z
    have := M.all_of ok (i := i) (by omega)
    rw [← this] at h
    have := (List.getElem?_eq_some_iff.mp h).1
    omega
  rw [e, List.getElem?_append_left hl] at h
  exact h
theorem Mach.all_apart (ok : M.Ok) : M.Apart M.all := M.ord_apart ok 6
theorem Mach.all_has (ok : M.Ok) {i s x : Nat} (h : M.all[i]? = some s) (hx : x ∈ M.row s) : ∃ y ∈ M.all, M.eqv y x = true := by
  have ho := M.all_ord ok h
  obtain ⟨m, e⟩ := M.all_pre ok (i + 1)
  obtain ⟨y, hy, q⟩ := M.grow_has (o := M.ord i) (fun z hz => M.row_mem ok (M.ord_lt ok ho) hz) ok hx
  rw [← M.ord_step ho] at hy
  exact ⟨y, by rw [e]; exact List.mem_append_left _ hy, q⟩
theorem Mach.all_zero (ok : M.Ok) : M.all[0]? = some 0 := by
  obtain ⟨m, e⟩ := M.all_pre ok 0
  rw [e]
  rfl
theorem Mach.least_row {i s : Nat} (h : M.all[i]? = some s) : M.least.row i = (M.row s).map (M.num M.all) := by
  unfold Mach.row
  rw [List.getD_eq_getElem?_getD]
  show ((M.all.map fun s => (M.row s).map (M.num M.all))[i]?).getD [] = _
  rw [List.getElem?_map, h]
  rfl
theorem Mach.least_ans {i s : Nat} (h : M.all[i]? = some s) : M.least.ans i = M.ans s := by
  show ((M.all.map M.ans).getD i []) = _
  rw [List.getD_eq_getElem?_getD, List.getElem?_map, h]
  rfl
theorem Mach.least_k (ok : M.Ok) : M.least.k = M.k := by
  show (M.least.row 0).length = _
  rw [M.least_row (M.all_zero ok), List.length_map, M.row_len ok ok.n1]
theorem Mach.least_n (ok : M.Ok) : M.least.st.length = M.all.length := by
  show (M.all.map _).length = _
  rw [List.length_map]
theorem Mach.least_go (ok : M.Ok) {i s a : Nat} (h : M.all[i]? = some s) (ha : a < M.k) : M.least.go i a = M.num M.all (M.go s a) := by
  have hs := M.ord_lt ok (M.all_ord ok h)
  unfold Mach.go
  rw [M.least_row h, List.getD_eq_getElem?_getD, List.getElem?_map, M.go_at ok hs ha]
  rfl
theorem Mach.least_ok (ok : M.Ok) : M.least.Ok where
  n1 := by
    rw [M.least_n ok]
    exact Nat.lt_of_le_of_lt (Nat.zero_le _) (List.getElem?_eq_some_iff.mp (M.all_zero ok)).1
  n6 := by
    rw [M.least_n ok]
    exact Nat.le_trans ((M.all_apart ok).le ok) ok.n6
  k1 := by rw [M.least_k ok]; exact ok.k1
  k3 := by rw [M.least_k ok]; exact ok.k3
  la := by rw [M.least_n ok]; show (M.all.map M.ans).length = _; rw [List.length_map]
  rs := fun r hr => by
    rw [M.least_k ok, M.least_n ok]
    obtain ⟨s, hs, rfl⟩ := List.mem_map.mp (show r ∈ M.all.map fun s => (M.row s).map (M.num M.all) from hr)
    obtain ⟨i, hi, e⟩ := List.getElem_of_mem hs
    have hg : M.all[i]? = some s := by rw [List.getElem?_eq_getElem hi, e]
    refine ⟨by rw [List.length_map, M.row_len ok ((M.all_apart ok).lt s hs)], fun x hx => ?_⟩
    obtain ⟨y, hy, rfl⟩ := List.mem_map.mp hx
    exact M.num_lt (M.all_has ok hg hy)
  ra := fun r hr => by
    rw [M.least_k ok]
    obtain ⟨s, hs, rfl⟩ := List.mem_map.mp (show r ∈ M.all.map M.ans from hr)
    exact ok.ra _ (List.mem_of_getElem? (M.ans_at ok ((M.all_apart ok).lt s hs)))
/-- a state of the least machine stands for one of the machine's -/
def Mach.Stands (M : Mach) (i s : Nat) : Prop := ∃ s', M.all[i]? = some s' ∧ M.Eqv s' s
theorem Mach.Stands.go (ok : M.Ok) {i s a : Nat} (h : M.Stands i s) (ha : a < M.k) : M.Stands (M.least.go i a) (M.go s a) := by
  obtain ⟨s', h1, h2⟩ := h
  have hs' := M.ord_lt ok (M.all_ord ok h1)
  rw [M.least_go ok h1 ha]
  obtain ⟨y, hy, q⟩ := M.num_at (M.all_has ok h1 (List.mem_of_getElem? (M.go_at ok hs' ha)))
  exact ⟨y, hy, (Mach.eqv_iff.mp q).trans ((Mach.Eqv.bis s' s h2).2.2.2 a ha)⟩
theorem Mach.Stands.led (ok : M.Ok) : ∀ {w : List Nat} {i s : Nat}, M.Stands i s → M.Letters w → M.Stands (M.least.led i w) (M.led s w)
  | [], _, _, h, _ => h
  | a :: w, _, _, h, hw => Mach.Stands.led ok (w := w) (h.go ok (hw a List.mem_cons_self)) fun x hx => hw x (List.mem_cons_of_mem _ hx)
theorem Mach.Stands.out {i s a : Nat} (h : M.Stands i s) : M.least.out i a = M.out s a := by
  obtain ⟨s', h1, h2⟩ := h
  unfold Mach.out
  rw [M.least_ans h1, (Mach.Eqv.bis s' s h2).2.2.1]
theorem Mach.Stands.zero (ok : M.Ok) : M.Stands 0 0 := ⟨0, M.all_zero ok, Mach.Eqv.refl ok ok.n1⟩
theorem Mach.least_late (ok : M.Ok) {n : Nat} (h : M.least.Late n) : M.Late n := by
  obtain ⟨p, w, ⟨⟨u, hu, e⟩, hp2⟩, hw, hl, x, a, rfl, hne⟩ := h
  have kk := M.least_k ok
  have hu' : M.Letters u := fun y hy => by rw [← kk]; exact hu y hy
  have hw' : M.Letters (x ++ [a]) := fun y hy => by rw [← kk]; exact hw y hy
  have hx : M.Letters x := fun y hy => hw' y (List.mem_append_left _ hy)
  rw [M.least_n ok] at hp2
  obtain ⟨s, hs⟩ : ∃ s, M.all[p.2]? = some s := ⟨_, List.getElem?_eq_getElem hp2⟩
  have hsl := M.ord_lt ok (M.all_ord ok hs)
  have s1 : M.Stands p.1 (M.led 0 u) := by
    rw [← e]
    exact Mach.Stands.led ok (Mach.Stands.zero ok) hu'
  have s2 : M.Stands p.2 s := ⟨s, hs, Mach.Eqv.refl ok hsl⟩
  refine ⟨(M.led 0 u, s), x ++ [a], ⟨⟨u, hu', rfl⟩, hsl⟩, hw', hl, x, a, rfl, fun z => hne ?_⟩
  rw [(s1.led ok hx).out, (s2.led ok hx).out]
  exact z
theorem Mach.late_some (ok : M.Ok) : ∃ o, M.LateIs o := by
  by_cases h : M.Late 37
  · exact ⟨none, M.late_big ok (n := 37) (by omega) h⟩
  · have fall : ∀ d, ¬ M.Late (d + 1) → ∃ o, M.LateIs o := fun d => by
      induction d with
      | zero => exact fun h => ⟨some 0, M.lateIs_of ok (.inl rfl) h⟩
      | succ d ih =>
        intro h
        by_cases h1 : M.Late (d + 1)
        · exact ⟨some (d + 1), M.lateIs_of ok (.inr h1) h⟩
        · exact ih h1
    exact fall 36 h
/-! ### how many copies -/
/-- rounded up -/
def up (a b : Nat) : Nat := (a + b - 1) / b
theorem up_le {a b m : Nat} (hb : 1 ≤ b) : up a b ≤ m ↔ a ≤ m * b := by
  unfold up
  rw [← Nat.lt_succ_iff, Nat.div_lt_iff_lt_mul (by omega), Nat.succ_mul]
  omega
theorem up_zero {b : Nat} (hb : 1 ≤ b) : up 0 b = 0 := by
  have := (up_le (a := 0) (b := b) (m := 0) hb).mpr (by omega)
  omega
theorem up_pos {a b : Nat} (ha : 1 ≤ a) (hb : 1 ≤ b) : 1 ≤ up a b := by
  apply Classical.byContradiction
  intro z
  have := (up_le (a := a) (b := b) (m := 0) hb).mp (by omega)
  omega
theorem up_mono {a c b : Nat} (h : a ≤ c) (hb : 1 ≤ b) : up a b ≤ up c b := (up_le hb).mpr (Nat.le_trans h ((up_le hb).mp (Nat.le_refl _)))
theorem up_self {a b : Nat} (hb : 1 ≤ b) : a ≤ up a b * b := (up_le hb).mp (Nat.le_refl _)
theorem up_bound {a b : Nat} (hb : 1 ≤ b) : up a b ≤ a := (up_le hb).mpr (by
  have : a * 1 ≤ a * b := Nat.mul_le_mul_left a hb
  omega)
/-- the least number that is enough -/
def needed (o : Option Nat) (p g : Nat) : Option Nat := if p = 0 then some 1 else o.map fun d => 2 * p * up d g + 1
end
end M1
namespace M1
/-! ### courses: copies that strikes push -/
abbrev Strk := Nat × List (Nat × Nat)
def setAll (st : List Nat) (ps : List (Nat × Nat)) : List Nat := ps.foldl (fun s p => s.set p.1 p.2) st
theorem setAll_len (ps : List (Nat × Nat)) : ∀ st : List Nat, (setAll st ps).length = st.length := by
  induction ps with
  | nil => exact fun _ => rfl
  | cons p ps ih =>
    intro st
    show (setAll (st.set p.1 p.2) ps).length = _
    rw [ih, List.length_set]
theorem setAll_snoc (st : List Nat) (ps : List (Nat × Nat)) (p : Nat × Nat) : setAll st (ps ++ [p]) = (setAll st ps).set p.1 p.2 := by
  unfold setAll
  rw [List.foldl_append]
  rfl
theorem setAll_get (ps : List (Nat × Nat)) : ∀ (st : List Nat) (i : Nat) (q : Nat), (setAll st ps)[i]? = some q → st[i]? = some q ∨ ∃ p ∈ ps, p.1 = i ∧ p.2 = q := by
  induction ps with
  | nil => exact fun st i q h => .inl h
  | cons p ps ih =>
    intro st i q h
    rcases ih (st.set p.1 p.2) i q h with h | ⟨r, hr, h⟩
    · by_cases e : p.1 = i
      · subst e
        by_cases hl : p.1 < st.length
        · rw [List.getElem?_set_self hl] at h
          exact .inr ⟨p, List.mem_cons_self, rfl, Option.some.inj h⟩
        · rw [List.getElem?_eq_none (by rw [List.length_set]; omega)] at h
          cases h
      · rw [List.getElem?_set_ne e] at h
        exact .inl h
    · exact .inr ⟨r, List.mem_cons_of_mem _ hr, h⟩
theorem setAll_same (ps : List (Nat × Nat)) : ∀ (st : List Nat) (i : Nat), (∀ p ∈ ps, p.1 ≠ i) → (setAll st ps)[i]? = st[i]? := by
  induction ps with
  | nil => exact fun st i h => rfl
  | cons p ps ih =>
    intro st i h
    show (setAll (st.set p.1 p.2) ps)[i]? = _
    rw [ih _ _ fun q hq => h q (List.mem_cons_of_mem _ hq), List.getElem?_set_ne (h p List.mem_cons_self)]
def atPl (S : List Strk) (j : Nat) : List (Nat × Nat) := match S.find? (fun s => decide (s.1 = j)) with
  | some s => s.2
  | none => []
theorem atPl_mem {S : List Strk} {j : Nat} {p : Nat × Nat} (h : p ∈ atPl S j) : ∃ s ∈ S, s.1 = j ∧ p ∈ s.2 := by
  unfold atPl at h
  cases e : S.find? (fun s => decide (s.1 = j)) with
  | none => rw [e] at h; simp at h
  | some s =>
    rw [e] at h
    exact ⟨s, List.mem_of_find?_eq_some e, by simpa using List.find?_some e, h⟩
/-- one strike behind the other -/
theorem atPl_fold {S : List Strk} (j : Nat) (hS : S.Pairwise fun a b => a.1 < b.1) : ∀ st : List Nat, S.foldl (fun s x => if x.1 = j then setAll s x.2 else s) st = setAll st (atPl S j) := by
  induction S with
  | nil => exact fun _ => rfl
  | cons x S ih =>
    intro st
    have hx := List.pairwise_cons.mp hS
    rw [List.foldl_cons]
    by_cases e : x.1 = j
    · rw [if_pos e]
      have none_ : ∀ (l : List Strk) (st : List Nat), (∀ y ∈ l, y.1 ≠ j) → l.foldl (fun s x => if x.1 = j then setAll s x.2 else s) st = st := by
        intro l
        induction l with
        | nil => exact fun _ _ => rfl
        | cons y l ih =>
          intro st h
          rw [List.foldl_cons, if_neg (h y List.mem_cons_self)]
          exact ih st fun z hz => h z (List.mem_cons_of_mem _ hz)
      rw [none_ S _ fun y hy => by
        have := hx.1 y hy
        omega]
      unfold atPl
      rw [List.find?_cons_of_pos (by simpa using e)]
    · rw [if_neg e, ih hx.2]
      unfold atPl
      rw [List.find?_cons_of_neg (by simpa using e)]
/-- the answer of more than half -/
def voteOf (l : List Nat) : Option Nat := l.find? fun a => decide (l.length < 2 * l.count a)
theorem voteOf_of {l : List Nat} {a : Nat} (h : l.length < 2 * l.count a) : voteOf l = some a := by
  unfold voteOf
  have hm : a ∈ l := List.count_pos_iff.mp (by omega)
  cases e : l.find? (fun a => decide (l.length < 2 * l.count a)) with
  | none =>
    have := List.find?_eq_none.mp e a hm
    exact absurd (decide_eq_true h) this
  | some b =>
    have hb : l.length < 2 * l.count b := by simpa using List.find?_some e
    by_cases hab : a = b
    · rw [hab]
    · have h2 : l.count a + l.count b ≤ l.length := by
        clear e h hb hm
        induction l with
        | nil => simp
        | cons x l ih =>
          rw [List.count_cons, List.count_cons, List.length_cons]
          have : (if x == a then 1 else 0) + (if x == b then 1 else 0) ≤ 1 := by
            by_cases h1 : x = a
            · subst h1
              simp [hab]
            · by_cases h2 : x = b
              · subst h2
                simp [Ne.symm hab]
              · simp [h1, h2]
          omega
      omega
theorem voteOf_some {l : List Nat} {a : Nat} (h : voteOf l = some a) : l.length < 2 * l.count a := by
  unfold voteOf at h
  simpa using List.find?_some h
theorem voteOf_none {l : List Nat} (h : ∀ a, ¬ l.length < 2 * l.count a) : voteOf l = none := by
  unfold voteOf
  rw [List.find?_eq_none]
  exact fun a _ z => h a (of_decide_eq_true z)
/-- what more than half are stands in the middle -/
theorem middle {l : List Nat} {s : List Nat} (hp : s.Perm l) (hs : s.Pairwise (· ≤ ·)) {a : Nat} (h : l.length < 2 * l.count a) {m : Nat} (hm : s[l.length / 2]? = some m) : m = a := by
  have hl := hp.length_eq
  rw [← hp.count_eq] at h
  have cut : s.count a = (s.take (l.length / 2)).count a + (s.drop (l.length / 2)).count a := by rw [← List.count_append, List.take_append_drop]
  have cut2 : s.count a = (s.take (l.length / 2 + 1)).count a + (s.drop (l.length / 2 + 1)).count a := by rw [← List.count_append, List.take_append_drop]
  have ge : ∀ x ∈ s.drop (l.length / 2), m ≤ x := fun x hx => by
    obtain ⟨i, hi⟩ := List.mem_iff_getElem?.mp hx
    rw [List.getElem?_drop] at hi
    by_cases h0 : i = 0
    · subst h0
      rw [Nat.add_zero, hm] at hi
      exact Nat.le_of_eq (Option.some.inj hi)
    · have h1 := List.getElem?_eq_some_iff.mp hm
      have h2 := List.getElem?_eq_some_iff.mp hi
      have := List.pairwise_iff_getElem.mp hs _ _ h1.1 h2.1 (by omega)
      rw [h1.2, h2.2] at this
      exact this
  have le : ∀ x ∈ s.take (l.length / 2 + 1), x ≤ m := fun x hx => by
    obtain ⟨i, hi⟩ := List.mem_iff_getElem?.mp hx
    have hil : i < l.length / 2 + 1 := by
      have := (List.getElem?_eq_some_iff.mp hi).1
      rw [List.length_take] at this
      omega
    rw [List.getElem?_take_of_lt hil] at hi
    by_cases h0 : i = l.length / 2
    · subst h0
      rw [hm] at hi
      exact Nat.le_of_eq (Option.some.inj hi).symm
    · have h1 := List.getElem?_eq_some_iff.mp hm
      have h2 := List.getElem?_eq_some_iff.mp hi
      have := List.pairwise_iff_getElem.mp hs _ _ h2.1 h1.1 (by omega)
      rw [h1.2, h2.2] at this
      exact this
  rcases Nat.lt_trichotomy m a with q | q | q
  · have : (s.take (l.length / 2 + 1)).count a = 0 := List.count_eq_zero.mpr fun z => by
      have := le a z
      omega
    have h3 := List.count_le_length (a := a) (l := s.drop (l.length / 2 + 1))
    rw [List.length_drop] at h3
    omega
  · exact q
  · have : (s.drop (l.length / 2)).count a = 0 := List.count_eq_zero.mpr fun z => by
      have := ge a z
      omega
    have h3 := List.count_le_length (a := a) (l := s.take (l.length / 2))
    rw [List.length_take] at h3
    omega
section
variable {M : Mach}
/-- the copies' states behind j letters -/
def Mach.sts (M : Mach) (c : Nat) (w : List Nat) (S : List Strk) : Nat → List Nat
  | 0 => List.replicate c 0
  | j + 1 => (setAll (M.sts c w S j) (atPl S j)).map fun s => M.go s (w.getD j 0)
def Mach.hit (M : Mach) (c : Nat) (w : List Nat) (S : List Strk) (j : Nat) : List Nat := setAll (M.sts c w S j) (atPl S j)
def Mach.rgt (M : Mach) (w : List Nat) (j : Nat) : Nat := M.led 0 (w.take j)
def Mach.giv (M : Mach) (c : Nat) (w : List Nat) (S : List Strk) (j : Nat) : List Nat := (M.hit c w S j).map fun s => M.out s (w.getD j 0)
theorem Mach.sts_len (c : Nat) (w : List Nat) (S : List Strk) : ∀ j, (M.sts c w S j).length = c
  | 0 => by unfold Mach.sts; rw [List.length_replicate]
  | j + 1 => by
    unfold Mach.sts
    rw [List.length_map, setAll_len, Mach.sts_len]
theorem Mach.hit_len (c : Nat) (w : List Nat) (S : List Strk) (j : Nat) : (M.hit c w S j).length = c := by
  unfold Mach.hit
  rw [setAll_len, M.sts_len]
theorem Mach.giv_len (c : Nat) (w : List Nat) (S : List Strk) (j : Nat) : (M.giv c w S j).length = c := by
  unfold Mach.giv
  rw [List.length_map, M.hit_len]
theorem Mach.rgt_succ {w : List Nat} {j a : Nat} (h : w[j]? = some a) : M.rgt w (j + 1) = M.go (M.rgt w j) a := by
  unfold Mach.rgt
  rw [take_succ' h, M.led_append]
  rfl
structure Mach.Strs (M : Mach) (c : Nat) (S : List Strk) : Prop where
  asc : S.Pairwise fun a b => a.1 < b.1
  pl : ∀ s ∈ S, s.1 ≤ 4000
  ne : ∀ s ∈ S, s.2 ≠ []
  pu : ∀ s ∈ S, s.2.Pairwise fun a b => a.1 < b.1
  ok : ∀ s ∈ S, ∀ p ∈ s.2, p.1 < c ∧ p.2 < M.st.length
theorem Mach.Strs.at_ok {c : Nat} {S : List Strk} (T : M.Strs c S) {j : Nat} : ∀ p ∈ atPl S j, p.1 < c ∧ p.2 < M.st.length := fun p hp => by
  obtain ⟨s, hs, _, h⟩ := atPl_mem hp
  exact T.ok s hs p h
theorem Mach.sts_lt (ok : M.Ok) {c : Nat} {w : List Nat} {S : List Strk} (T : M.Strs c S) : ∀ j, (∀ i a, i < j → w[i]? = some a → a < M.k) → j ≤ w.length → (∀ x ∈ M.sts c w S j, x < M.st.length) ∧ ∀ x ∈ M.hit c w S j, x < M.st.length := fun j => by
  have hitl : ∀ st : List Nat, (∀ x ∈ st, x < M.st.length) → ∀ x ∈ setAll st (atPl S j), x < M.st.length := fun st h x hx => by
    obtain ⟨i, hi⟩ := List.mem_iff_getElem?.mp hx
    rcases setAll_get _ _ _ _ hi with h1 | ⟨p, hp, _, rfl⟩
    · exact h x (List.mem_of_getElem? h1)
    · exact (T.at_ok p hp).2
  induction j with
  | zero =>
    intro _ _
    have h0 : ∀ x ∈ M.sts c w S 0, x < M.st.length := fun x hx => by
      have : x = 0 := List.eq_of_mem_replicate hx
      have := ok.n1
      omega
    exact ⟨h0, hitl _ h0⟩
  | succ j ih =>
    intro hw hl
    have hj : j < w.length := by omega
    have wj : w[j]? = some w[j] := List.getElem?_eq_getElem hj
    have ha := hw j _ (by omega) wj
    have hitl' : ∀ x ∈ M.hit c w S j, x < M.st.length := by
      have h1 := (ih (fun st h x hx => by
        obtain ⟨i, hi⟩ := List.mem_iff_getElem?.mp hx
        rcases setAll_get _ _ _ _ hi with h1 | ⟨p, hp, _, rfl⟩
        · exact h x (List.mem_of_getElem? h1)
        · exact (T.at_ok p hp).2) (fun i a hi => hw i a (by omega)) (by omega))
      exact h1.2
    have h0 : ∀ x ∈ M.sts c w S (j + 1), x < M.st.length := fun x hx => by
      unfold Mach.sts at hx
      obtain ⟨s, hs, rfl⟩ := List.mem_map.mp hx
      rw [getD_of wj]
      exact M.go_lt ok (hitl' s hs) ha
    exact ⟨h0, hitl _ h0⟩
/-- whence a copy's state comes -/
def Mach.Whence (M : Mach) (w : List Nat) (S : List Strk) (j i q : Nat) : Prop := ∃ t z, t ≤ j ∧ z < M.st.length ∧ q = M.led z ((w.drop t).take (j - t)) ∧ (z = M.rgt w t ∨ ∃ s ∈ S, s.1 = t ∧ ∃ p ∈ s.2, p.1 = i)
theorem Mach.rgt_lt (ok : M.Ok) {w : List Nat} (hw : M.Letters w) (j : Nat) : M.rgt w j < M.st.length := M.led_lt ok ok.n1 fun x hx => hw x (List.mem_of_mem_take hx)
theorem Mach.whence (ok : M.Ok) {c : Nat} {w : List Nat} {S : List Strk} (T : M.Strs c S) (hw : M.Letters w) : ∀ j, j ≤ w.length → (∀ i q, (M.sts c w S j)[i]? = some q → M.Whence w S j i q) ∧ ∀ i q, (M.hit c w S j)[i]? = some q → M.Whence w S j i q := fun j => by
  have up_ : ∀ j, (∀ i q, (M.sts c w S j)[i]? = some q → M.Whence w S j i q) → ∀ i q, (M.hit c w S j)[i]? = some q → M.Whence w S j i q := fun j h i q hq => by
    rcases setAll_get _ _ _ _ hq with h1 | ⟨p, hp, rfl, rfl⟩
    · exact h i q h1
    · obtain ⟨s, hs, e, hp'⟩ := atPl_mem hp
      exact ⟨j, p.2, Nat.le_refl _, (T.at_ok p hp).2, by rw [Nat.sub_self]; rfl, .inr ⟨s, hs, e, p, hp', rfl⟩⟩
  induction j with
  | zero =>
    intro _
    have h0 : ∀ i q, (M.sts c w S 0)[i]? = some q → M.Whence w S 0 i q := fun i q hq => by
      have : q = 0 := List.eq_of_mem_replicate (List.mem_of_getElem? hq)
      subst this
      exact ⟨0, 0, Nat.le_refl _, ok.n1, rfl, .inl rfl⟩
    exact ⟨h0, up_ 0 h0⟩
  | succ j ih =>
    intro hl
    have hj : j < w.length := by omega
    have wj : w[j]? = some w[j] := List.getElem?_eq_getElem hj
    have h0 : ∀ i q, (M.sts c w S (j + 1))[i]? = some q → M.Whence w S (j + 1) i q := fun i q hq => by
      unfold Mach.sts at hq
      rw [List.getElem?_map] at hq
      cases e : (setAll (M.sts c w S j) (atPl S j))[i]? with
      | none => rw [e] at hq; cases hq
      | some q0 =>
        rw [e] at hq
        have hq' : M.go q0 (w.getD j 0) = q := Option.some.inj hq
        rw [getD_of wj] at hq'
        obtain ⟨t, z, ht, hz, e1, hh⟩ := (ih (by omega)).2 i q0 e
        refine ⟨t, z, by omega, hz, ?_, hh⟩
        rw [← hq', e1, show j + 1 - t = (j - t) + 1 by omega, take_succ' (x := w[j]) (by rw [List.getElem?_drop, show t + (j - t) = j by omega]; exact wj), M.led_append]
        rfl
    exact ⟨h0, up_ _ h0⟩
theorem Mach.led_rgt {w : List Nat} {t j : Nat} (h : t ≤ j) (hj : j ≤ w.length) : M.led (M.rgt w t) ((w.drop t).take (j - t)) = M.rgt w j := by
  unfold Mach.rgt
  rw [← M.led_append]
  congr 1
  rw [List.take_drop, show t + (j - t) = j by omega]
  have : w.take t = (w.take j).take t := by rw [List.take_take, Nat.min_eq_left h]
  rw [this, List.take_append_drop]
/-- the copies pushed of late -/
def recent (S : List Strk) (d j : Nat) : List Strk := S.filter fun s => decide (s.1 ≤ j) && decide (j < s.1 + d)
theorem Mach.fair (ok : M.Ok) {c d : Nat} {w : List Nat} {S : List Strk} (T : M.Strs c S) (hw : M.Letters w) (hL : M.LateIs (some d)) {j i q : Nat} (hj : j < w.length) (hq : (M.hit c w S j)[i]? = some q) (hi : i ∉ (recent S d j).flatMap fun s => s.2.map (·.1)) : M.out q (w.getD j 0) = M.out (M.rgt w j) (w.getD j 0) := by
  have wj : w[j]? = some w[j] := List.getElem?_eq_getElem hj
  rw [getD_of wj]
  obtain ⟨t, z, ht, hz, rfl, hh⟩ := (M.whence ok T hw j (by omega)).2 i q hq
  rcases hh with rfl | ⟨s, hs, e, p, hp, rfl⟩
  · rw [M.led_rgt ht (by omega)]
  · rw [← M.led_rgt ht (by omega)]
    have hd : ¬ j < t + d := fun z => hi (List.mem_flatMap.mpr ⟨s, List.mem_filter.mpr ⟨hs, by rw [e, decide_eq_true ht, decide_eq_true z]; rfl⟩, List.mem_map.mpr ⟨p, hp, rfl⟩⟩)
    refine hL.alike hz (M.rgt_lt ok hw t) (u := (w.drop t).take (j - t)) (a := w[j]) (fun x hx => ?_) ?_
    · rcases List.mem_append.mp hx with h | h
      · exact hw x (List.mem_of_mem_drop (List.mem_of_mem_take h))
      · rw [List.mem_singleton] at h
        rw [h]
        exact hw _ (List.getElem_mem hj)
    · rw [List.length_take, List.length_drop]
      omega
theorem count_bad {l : List Nat} {a : Nat} {B : List Nat} (h : ∀ i x, l[i]? = some x → i ∉ B → x = a) : l.length ≤ l.count a + B.length := by
  have key : ∀ (l : List Nat) (f : Nat → Bool), (∀ i x, l[i]? = some x → f i = false → x = a) → l.length ≤ l.count a + ((List.range l.length).filter f).length := fun l => by
    refine snoc_ind (P := fun l => ∀ f : Nat → Bool, (∀ i x, l[i]? = some x → f i = false → x = a) → l.length ≤ l.count a + ((List.range l.length).filter f).length) (fun f _ => by simp) (fun l x ih f h => ?_) l
    have h1 := ih f fun i y hy => h i y (by rw [List.getElem?_append_left (List.getElem?_eq_some_iff.mp hy).1]; exact hy)
    have h2 := h l.length x (by rw [List.getElem?_append_right (Nat.le_refl _)]; simp)
    rw [List.length_append, List.length_singleton, List.range_succ, List.filter_append, List.length_append, List.count_append]
    cases hf : f l.length with
    | true =>
      rw [List.filter_cons, if_pos hf]
      simp only [List.filter_nil, List.length_singleton]
      omega
    | false =>
      rw [h2 hf]
      simp
      omega
  have h1 := key l (fun i => decide (i ∈ B)) fun i x hx hf => h i x hx (of_decide_eq_false hf)
  have h2 : ((List.range l.length).filter fun i => decide (i ∈ B)).length ≤ B.length := nodup_le (List.nodup_range.filter _) fun i hi => of_decide_eq_true (List.mem_filter.mp hi).2
  omega
theorem gaps {S : List Strk} {g d j : Nat} (hg : 1 ≤ g) (hS : S.Pairwise fun a b => a.1 + g ≤ b.1) : (recent S d j).length ≤ up d g := by
  have hF : (recent S d j).Pairwise fun a b => a.1 + g ≤ b.1 := hS.filter _
  have hm : ∀ s ∈ recent S d j, s.1 ≤ j ∧ j < s.1 + d := fun s hs => by
    have := (List.mem_filter.mp hs).2
    rw [Bool.and_eq_true] at this
    exact ⟨of_decide_eq_true this.1, of_decide_eq_true this.2⟩
  generalize recent S d j = F at hF hm
  cases F with
  | nil => exact Nat.zero_le _
  | cons x F =>
    have far : ∀ (F : List Strk) (x : Strk), (x :: F).Pairwise (fun a b => a.1 + g ≤ b.1) → ∃ y ∈ x :: F, x.1 + F.length * g ≤ y.1 := fun F => by
      induction F with
      | nil => exact fun x _ => ⟨x, List.mem_cons_self, by simp⟩
      | cons z F ih =>
        intro x h
        have hx := List.pairwise_cons.mp h
        obtain ⟨y, hy, h2⟩ := ih z hx.2
        have := hx.1 z List.mem_cons_self
        refine ⟨y, List.mem_cons_of_mem _ hy, ?_⟩
        rw [List.length_cons, Nat.succ_mul]
        omega
    obtain ⟨y, hy, h2⟩ := far F x hF
    have h3 := hm x List.mem_cons_self
    have h4 := hm y hy
    rw [List.length_cons]
    apply Classical.byContradiction
    intro z
    have := (up_le (a := d) (b := g) (m := F.length) hg).mp (by omega)
    omega
/-- where the copies are enough, the vote is right -/
theorem Mach.vote_right (ok : M.Ok) {c p g : Nat} {o : Option Nat} {w : List Nat} {S : List Strk} (T : M.Strs c S) (hw : M.Letters w) (hL : M.LateIs o) (hg : 1 ≤ g) (hp : ∀ s ∈ S, s.2.length ≤ p) (hS : S.Pairwise fun a b => a.1 + g ≤ b.1) {m : Nat} (hm : needed o p g = some m) (hc : m ≤ c) {j : Nat} (hj : j < w.length) :
    voteOf (M.giv c w S j) = some (M.out (M.rgt w j) (w.getD j 0)) := by
  have hb : ∃ B : List Nat, 2 * B.length < c ∧ ∀ i q, (M.hit c w S j)[i]? = some q → i ∉ B → M.out q (w.getD j 0) = M.out (M.rgt w j) (w.getD j 0) := by
    unfold needed at hm
    by_cases h0 : p = 0
    · rw [if_pos h0] at hm
      have := Option.some.inj hm
      refine ⟨[], by show 2 * 0 < c; omega, fun i q hq _ => ?_⟩
      obtain ⟨t, z, ht, hz, rfl, hh⟩ := (M.whence ok T hw j (by omega)).2 i q hq
      rcases hh with rfl | ⟨s, hs, e, x, hx, rfl⟩
      · rw [M.led_rgt ht (by omega)]
      · have := hp s hs
        have : s.2 = [] := List.length_eq_zero_iff.mp (by omega)
        rw [this] at hx
        simp at hx
    · rw [if_neg h0] at hm
      cases o with
      | none => cases hm
      | some d =>
        have hm' : 2 * p * up d g + 1 = m := Option.some.inj hm
        refine ⟨(recent S d j).flatMap fun s => s.2.map (·.1), ?_, fun i q hq hi => M.fair ok T hw hL hj hq hi⟩
        have hr := gaps (d := d) (j := j) hg hS
        have hsub : ∀ s ∈ recent S d j, s.2.length ≤ p := fun s hs => hp s (List.mem_filter.mp hs).1
        have hlen : ((recent S d j).flatMap fun s => s.2.map (·.1)).length ≤ (recent S d j).length * p := by
          generalize recent S d j = F at hsub
          induction F with
          | nil => simp
          | cons x F ih =>
            rw [List.flatMap_cons, List.length_append, List.length_map, List.length_cons, Nat.succ_mul]
            have := ih fun s hs => hsub s (List.mem_cons_of_mem _ hs)
            have := hsub x List.mem_cons_self
            omega
        have : (recent S d j).length * p ≤ up d g * p := Nat.mul_le_mul_right p hr
        have e : 2 * p * up d g = 2 * (up d g * p) := by rw [Nat.mul_assoc, Nat.mul_comm p]
        omega
  obtain ⟨B, h1, h2⟩ := hb
  refine voteOf_of ?_
  have h3 := count_bad (l := M.giv c w S j) (a := M.out (M.rgt w j) (w.getD j 0)) (B := B) fun i x hx hi => by
    unfold Mach.giv at hx
    rw [List.getElem?_map] at hx
    cases e : (M.hit c w S j)[i]? with
    | none => rw [e] at hx; cases hx
    | some q =>
      rw [e] at hx
      rw [← Option.some.inj hx]
      exact h2 i q e hi
  rw [M.giv_len] at h3 ⊢
  omega
end
end M1
namespace M1
/-! ### stories: letters and strikes by which the vote isn't right -/
section
variable {M : Mach}
theorem setAll_put (ps : List (Nat × Nat)) : ∀ (st : List Nat) (q : Nat × Nat), q ∈ ps → (∀ r ∈ ps, r.1 = q.1 → r.2 = q.2) → q.1 < st.length → (setAll st ps)[q.1]? = some q.2 := by
  refine snoc_ind (P := fun ps => ∀ (st : List Nat) (q : Nat × Nat), q ∈ ps → (∀ r ∈ ps, r.1 = q.1 → r.2 = q.2) → q.1 < st.length → (setAll st ps)[q.1]? = some q.2) (fun _ _ h => by simp at h) (fun ps p ih st q hq hf hl => ?_) ps
  rw [setAll_snoc]
  have hlen := setAll_len ps st
  by_cases e : p.1 = q.1
  · have := hf p (List.mem_append_right _ (List.mem_singleton.mpr rfl)) e
    rw [← e, ← this, List.getElem?_set_self (by omega)]
  · rw [List.getElem?_set_ne e]
    rcases List.mem_append.mp hq with h | h
    · exact ih st q h (fun r hr => hf r (List.mem_append_left _ hr)) hl
    · rw [List.mem_singleton] at h
      rw [h] at e
      exact absurd rfl e
theorem atPl_of {S : List Strk} {s : Strk} (hS : S.Pairwise fun a b => a.1 < b.1) (hs : s ∈ S) : atPl S s.1 = s.2 := by
  induction S with
  | nil => simp at hs
  | cons x S ih =>
    have hx := List.pairwise_cons.mp hS
    rcases List.mem_cons.mp hs with rfl | h
    · unfold atPl
      rw [List.find?_cons_of_pos (by simp)]
    · have : x.1 ≠ s.1 := by
        have := hx.1 s h
        omega
      have e : atPl (x :: S) s.1 = atPl S s.1 := by
        unfold atPl
        rw [List.find?_cons_of_neg (by simpa using this)]
      rw [e]
      exact ih hx.2 h
/-- a copy that nobody pushes goes on by the letters -/
theorem Mach.stay {c : Nat} {w : List Nat} {S : List Strk} {i t z : Nat} (h0 : (M.hit c w S t)[i]? = some z) : ∀ d, t + d < w.length → (∀ s ∈ S, t < s.1 → s.1 ≤ t + d → ∀ p ∈ s.2, p.1 ≠ i) → (M.hit c w S (t + d))[i]? = some (M.led z ((w.drop t).take d)) := fun d => by
  induction d with
  | zero => intro _ _; exact h0
  | succ d ih =>
    intro hl hn
    have h1 := ih (by omega) fun s hs a b => hn s hs a (by omega)
    have wj : w[t + d]? = some w[t + d] := List.getElem?_eq_getElem (by omega)
    have h2 : (M.sts c w S (t + d + 1))[i]? = some (M.go (M.led z ((w.drop t).take d)) w[t + d]) := by
      show ((M.hit c w S (t + d)).map fun s => M.go s (w.getD (t + d) 0))[i]? = _
      rw [List.getElem?_map, h1, getD_of wj]
      rfl
    show (setAll (M.sts c w S (t + d + 1)) (atPl S (t + d + 1)))[i]? = _
    rw [setAll_same _ _ _ fun p hp => by
      obtain ⟨s, hs, e, hp'⟩ := atPl_mem hp
      exact hn s hs (by omega) (by omega) p hp', h2, take_succ' (x := w[t + d]) (by rw [List.getElem?_drop]; exact wj), M.led_append]
    rfl
/-- a copy that nobody pushes is where the right one is -/
theorem Mach.untouched (ok : M.Ok) {c : Nat} {w : List Nat} {S : List Strk} (T : M.Strs c S) (hw : M.Letters w) {i j : Nat} (hi : i < c) (hj : j ≤ w.length) (hn : ∀ s ∈ S, ∀ p ∈ s.2, p.1 ≠ i) : (M.hit c w S j)[i]? = some (M.rgt w j) := by
  have hl := M.hit_len c w S j
  obtain ⟨q, hq⟩ : ∃ q, (M.hit c w S j)[i]? = some q := ⟨_, List.getElem?_eq_getElem (by omega)⟩
  obtain ⟨t, z, ht, hz, rfl, hh⟩ := (M.whence ok T hw j hj).2 i q hq
  rcases hh with rfl | ⟨s, hs, e, p, hp, he⟩
  · rw [hq, M.led_rgt ht hj]
  · exact absurd he (hn s hs p hp)
def chunk (cs : List Nat) (p b : Nat) : List Nat := (cs.drop (b * p)).take p
theorem mem_chunk {cs : List Nat} {p b i : Nat} : i ∈ chunk cs p b ↔ ∃ j, cs[j]? = some i ∧ b * p ≤ j ∧ j < b * p + p := by
  unfold chunk
  rw [List.mem_iff_getElem?]
  constructor
  · rintro ⟨n, hn⟩
    have hlt : n < p := by
      have := (List.getElem?_eq_some_iff.mp hn).1
      rw [List.length_take] at this
      omega
    rw [List.getElem?_take_of_lt hlt, List.getElem?_drop] at hn
    exact ⟨_, hn, by omega, by omega⟩
  · rintro ⟨j, hj, h1, h2⟩
    refine ⟨j - b * p, ?_⟩
    rw [List.getElem?_take_of_lt (by omega), List.getElem?_drop, show b * p + (j - b * p) = j by omega]
    exact hj
/-- what a story is -/
structure Mach.Story (M : Mach) (cs : List Nat) (p g : Nat) (u : List Nat) (s : Nat) (wd : List Nat) (S : List Strk) : Prop where
  len : S.length = up cs.length p
  at_ : ∀ b, b < up cs.length p → ∃ ps, S[up cs.length p - 1 - b]? = some (u.length + (wd.length - 1 - b * g), ps) ∧ (ps.map (·.1)).Perm (chunk cs p b) ∧ ps.Pairwise (fun x y => x.1 < y.1) ∧ ∀ q ∈ ps, q.2 = M.led s (wd.take (wd.length - 1 - b * g))
variable {cs u wd : List Nat} {p g s c : Nat} {S : List Strk}
theorem Mach.Story.mem (h : M.Story cs p g u s wd S) {x : Strk} (hx : x ∈ S) : ∃ b, b < up cs.length p ∧ S[up cs.length p - 1 - b]? = some x ∧ x.1 = u.length + (wd.length - 1 - b * g) ∧ (x.2.map (·.1)).Perm (chunk cs p b) ∧ x.2.Pairwise (fun x y => x.1 < y.1) ∧ ∀ q ∈ x.2, q.2 = M.led s (wd.take (wd.length - 1 - b * g)) := by
  obtain ⟨n, hn⟩ := List.mem_iff_getElem?.mp hx
  have hlt := (List.getElem?_eq_some_iff.mp hn).1
  rw [h.len] at hlt
  obtain ⟨ps, h1, h2, h3, h4⟩ := h.at_ (up cs.length p - 1 - n) (by omega)
  rw [show up cs.length p - 1 - (up cs.length p - 1 - n) = n by omega] at h1
  have e := hn.symm.trans h1
  refine ⟨up cs.length p - 1 - n, by omega, by rw [show up cs.length p - 1 - (up cs.length p - 1 - n) = n by omega]; exact hn, ?_⟩
  rw [Option.some.inj e]
  exact ⟨rfl, h2, h3, h4⟩
theorem Mach.Story.gap (h : M.Story cs p g u s wd S) (hl : (up cs.length p - 1) * g + 1 ≤ wd.length) : S.Pairwise fun a b => a.1 + g ≤ b.1 := by
  rw [List.pairwise_iff_getElem]
  intro i j hi hj hij
  rw [h.len] at hi hj
  obtain ⟨ps, h1, _⟩ := h.at_ (up cs.length p - 1 - i) (by omega)
  obtain ⟨qs, h2, _⟩ := h.at_ (up cs.length p - 1 - j) (by omega)
  rw [show up cs.length p - 1 - (up cs.length p - 1 - i) = i by omega] at h1
  rw [show up cs.length p - 1 - (up cs.length p - 1 - j) = j by omega] at h2
  rw [(List.getElem?_eq_some_iff.mp h1).2, (List.getElem?_eq_some_iff.mp h2).2]
  show u.length + _ + g ≤ u.length + _
  have a1 : (up cs.length p - 1 - j) * g + g ≤ (up cs.length p - 1 - i) * g := by
    rw [← Nat.succ_mul]
    exact Nat.mul_le_mul_right g (by omega)
  have a2 : (up cs.length p - 1 - i) * g ≤ (up cs.length p - 1) * g := Nat.mul_le_mul_right g (by omega)
  omega
theorem Mach.Story.few (h : M.Story cs p g u s wd S) : ∀ x ∈ S, x.2.length ≤ p := fun x hx => by
  obtain ⟨b, _, _, _, h2, _⟩ := h.mem hx
  have := h2.length_eq
  rw [List.length_map] at this
  rw [this]
  unfold chunk
  rw [List.length_take]
  omega
theorem up_mul {a b : Nat} (hb : 1 ≤ b) : a ≤ up a b * b := (up_le hb).mp (Nat.le_refl _)
theorem up_lt {a b n : Nat} (hb : 1 ≤ b) (h : n < up a b) : n * b < a := Classical.byContradiction fun z => by
  have := (up_le (a := a) (m := n) hb).mpr (by omega)
  omega
theorem Mach.Story.strs (ok : M.Ok) (h : M.Story cs p g u s wd S) (hp : 1 ≤ p) (hg : 1 ≤ g) (hl : (up cs.length p - 1) * g + 1 ≤ wd.length) (hw : u.length + wd.length ≤ 4001) (hc : ∀ i ∈ cs, i < c) (hs : s < M.st.length) (lw : M.Letters wd) : M.Strs c S where
  asc := (h.gap hl).imp fun q => by omega
  pl := fun x hx => by
    obtain ⟨b, _, _, e, _⟩ := h.mem hx
    omega
  ne := fun x hx => by
    obtain ⟨b, hb, _, _, h2, _⟩ := h.mem hx
    intro e
    have := h2.length_eq
    rw [e] at this
    unfold chunk at this
    rw [List.length_take, List.length_drop] at this
    have := up_lt hp hb
    simp at *
    omega
  pu := fun x hx => by
    obtain ⟨b, _, _, _, _, h3, _⟩ := h.mem hx
    exact h3
  ok := fun x hx q hq => by
    obtain ⟨b, _, _, _, h2, _, h4⟩ := h.mem hx
    have m : q.1 ∈ chunk cs p b := h2.mem_iff.mp (List.mem_map.mpr ⟨q, hq, rfl⟩)
    obtain ⟨j, hj, _⟩ := mem_chunk.mp m
    refine ⟨hc _ (List.mem_of_getElem? hj), ?_⟩
    rw [h4 q hq]
    exact M.led_lt ok hs fun y hy => lw y (List.mem_of_mem_take hy)
/-- the listed copies are led as the state told, the others as the right one -/
theorem Mach.Story.ends (ok : M.Ok) (h : M.Story cs p g u s wd S) (hp : 1 ≤ p) (hg : 1 ≤ g) (hl : (up cs.length p - 1) * g + 1 ≤ wd.length) (hw : u.length + wd.length ≤ 4001) (hc : ∀ i ∈ cs, i < c) (hnd : cs.Nodup) (hs : s < M.st.length) (lu : M.Letters u) (lw : M.Letters wd) {i : Nat} (hi : i < c) :
    (M.hit c (u ++ wd) S (u.length + (wd.length - 1)))[i]? = some (if i ∈ cs then M.led s (wd.take (wd.length - 1)) else M.led (M.led 0 u) (wd.take (wd.length - 1))) := by
  have T := h.strs (c := c) ok hp hg hl hw hc hs lw
  have hlen : (u ++ wd).length = u.length + wd.length := List.length_append
  by_cases m : i ∈ cs
  · rw [if_pos m]
    obtain ⟨j, hj⟩ := List.mem_iff_getElem?.mp m
    have hjl := (List.getElem?_eq_some_iff.mp hj).1
    have hp0 : 0 < p := hp
    have hd := Nat.div_add_mod j p
    have hm := Nat.mod_lt j hp0
    have hbp : j / p * p = p * (j / p) := Nat.mul_comm _ _
    have hb : j / p < up cs.length p := Classical.byContradiction fun z => by
      have := (up_le (a := cs.length) (b := p) (m := j / p) hp).mp (by omega)
      omega
    obtain ⟨ps, h1, h2, h3, h4⟩ := h.at_ (j / p) hb
    have mi : i ∈ chunk cs p (j / p) := mem_chunk.mpr ⟨j, hj, by omega, by omega⟩
    obtain ⟨q, hq, hqi⟩ := List.mem_map.mp (h2.mem_iff.mpr mi)
    have hbg : (j / p) * g ≤ (up cs.length p - 1) * g := Nat.mul_le_mul_right g (by omega)
    generalize hpl : wd.length - 1 - j / p * g = pl at h1 h4
    have hat : atPl S (u.length + pl) = ps := atPl_of (s := (u.length + pl, ps)) T.asc (List.mem_of_getElem? h1)
    have hq2 := h4 q hq
    have h0 : (M.hit c (u ++ wd) S (u.length + pl))[i]? = some (M.led s (wd.take pl)) := by
      show (setAll _ (atPl S (u.length + pl)))[i]? = _
      have := setAll_put ps (M.sts c (u ++ wd) S (u.length + pl)) q hq (fun r hr _ => by rw [h4 r hr, hq2]) (by rw [M.sts_len, hqi]; exact hi)
      rw [hat, ← hq2, ← this, hqi]
    have hst := M.stay h0 (wd.length - 1 - pl) (by rw [hlen]; omega) fun x hx g1 g2 r hr e => by
      obtain ⟨b', hb', _, e1, k2, _⟩ := h.mem hx
      have mr : i ∈ chunk cs p b' := k2.mem_iff.mp (List.mem_map.mpr ⟨r, hr, e⟩)
      obtain ⟨j', hj', a1, a2⟩ := mem_chunk.mp mr
      have ej : j' = j := by
        have x1 := List.getElem?_eq_some_iff.mp hj
        have x2 := List.getElem?_eq_some_iff.mp hj'
        have pw := List.pairwise_iff_getElem.mp hnd
        rcases Nat.lt_trichotomy j' j with q | q | q
        · exact absurd (x2.2.trans x1.2.symm) (pw j' j x2.1 x1.1 q)
        · exact q
        · exact absurd (x1.2.trans x2.2.symm) (pw j j' x1.1 x2.1 q)
      have : b' = j / p := by
        rw [ej] at a1 a2
        exact (Nat.div_eq_of_lt_le (by omega) (by rw [Nat.succ_mul]; omega)).symm
      rw [this, hpl] at e1
      omega
    rw [show u.length + pl + (wd.length - 1 - pl) = u.length + (wd.length - 1) by omega] at hst
    rw [hst]
    congr 1
    rw [← M.led_append]
    congr 1
    rw [List.drop_append, List.drop_eq_nil_of_le (show u.length ≤ u.length + pl by omega), List.nil_append, show u.length + pl - u.length = pl by omega]
    rw [show wd.length - 1 = pl + (wd.length - 1 - pl) by omega, List.take_add]
    congr 2
    omega
  · rw [if_neg m, M.untouched ok T (fun x hx => (List.mem_append.mp hx).elim (lu x) (lw x)) hi (by rw [hlen]; omega) fun x hx r hr e => by
      obtain ⟨b', hb', _, e1, k2, _⟩ := h.mem hx
      have mr : i ∈ chunk cs p b' := k2.mem_iff.mp (List.mem_map.mpr ⟨r, hr, e⟩)
      obtain ⟨j', hj', _⟩ := mem_chunk.mp mr
      exact m (List.mem_of_getElem? hj')]
    unfold Mach.rgt
    rw [← M.led_append]
    congr 2
    rw [List.take_append, List.take_of_length_le (by omega), show u.length + (wd.length - 1) - u.length = wd.length - 1 by omega]
theorem count_idx (l : List Nat) (a : Nat) : l.count a = ((List.range l.length).filter fun i => l[i]? == some a).length := by
  refine snoc_ind (P := fun l => l.count a = ((List.range l.length).filter fun i => l[i]? == some a).length) rfl (fun l x ih => ?_) l
  rw [List.count_append, List.length_append, List.length_singleton, List.range_succ, List.filter_append, List.length_append]
  have e1 : (List.range l.length).filter (fun i => (l ++ [x])[i]? == some a) = (List.range l.length).filter (fun i => l[i]? == some a) := by
    refine List.filter_congr fun i hi => ?_
    rw [List.getElem?_append_left (List.mem_range.mp hi)]
  rw [e1, ← ih]
  congr 1
  by_cases h : x = a
  · subst h; simp
  · simp [h]
theorem count_out {l : List Nat} {a : Nat} {cs : List Nat} (hn : cs.Nodup) (hl : ∀ i ∈ cs, i < l.length) (h : ∀ i ∈ cs, l[i]? ≠ some a) : l.count a + cs.length ≤ l.length := by
  rw [count_idx, ← List.length_append]
  have := nodup_le (l := ((List.range l.length).filter fun i => l[i]? == some a) ++ cs) (m := List.range l.length) ?_ ?_
  · rw [List.length_range] at this
    exact this
  · rw [List.nodup_append]
    refine ⟨List.Pairwise.filter _ List.nodup_range, hn, fun x hx y hy e => ?_⟩
    subst e
    have := (List.mem_filter.mp hx).2
    exact h x hy (by simpa using this)
  · intro x hx
    rcases List.mem_append.mp hx with q | q
    · exact (List.mem_filter.mp q).1
    · exact List.mem_range.mpr (hl x q)
/-- at the last letter the vote isn't right -/
theorem Mach.Story.wrong (ok : M.Ok) (h : M.Story cs p g u s wd S) (hp : 1 ≤ p) (hg : 1 ≤ g) (hl : (up cs.length p - 1) * g + 1 ≤ wd.length) (hw : u.length + wd.length ≤ 4001) (hc : ∀ i ∈ cs, i < c) (hnd : cs.Nodup) (hs : s < M.st.length) (lu : M.Letters u) (lw : M.Letters wd) (hu : M.Unl (M.led 0 u) s wd) (hm : c ≤ 2 * cs.length) :
    voteOf (M.giv c (u ++ wd) S ((u ++ wd).length - 1)) ≠ some (M.out (M.rgt (u ++ wd) ((u ++ wd).length - 1)) ((u ++ wd).getD ((u ++ wd).length - 1) 0)) := by
  obtain ⟨v, a, rfl, ha⟩ := hu
  have e0 : (u ++ (v ++ [a])).length - 1 = u.length + ((v ++ [a]).length - 1) := by
    simp only [List.length_append, List.length_singleton]
    omega
  have e1 : (v ++ [a]).length - 1 = v.length := by simp
  have e2 : (v ++ [a]).take v.length = v := by rw [List.take_append_of_le_length (Nat.le_refl _), List.take_length]
  have e3 : (u ++ (v ++ [a])).getD (u.length + v.length) 0 = a := by
    rw [List.getD_eq_getElem?_getD, List.getElem?_append_right (by omega), show u.length + v.length - u.length = v.length by omega, List.getElem?_append_right (Nat.le_refl _), Nat.sub_self]
    rfl
  have e4 : M.rgt (u ++ (v ++ [a])) (u.length + v.length) = M.led (M.led 0 u) v := by
    unfold Mach.rgt
    rw [← M.led_append, List.take_append, List.take_of_length_le (by omega), show u.length + v.length - u.length = v.length by omega, e2]
  have hE := fun i hi => h.ends (c := c) ok hp hg hl hw hc hnd hs lu lw (i := i) hi
  rw [e1] at hE
  rw [e2] at hE
  rw [e0, e1, e3, e4]
  intro z
  have hv := voteOf_some z
  have hg' : ∀ i ∈ cs, (M.giv c (u ++ (v ++ [a])) S (u.length + v.length))[i]? ≠ some (M.out (M.led (M.led 0 u) v) a) := fun i hi q => by
    unfold Mach.giv at q
    rw [List.getElem?_map, hE i (hc i hi), if_pos hi, e3] at q
    exact ha (Option.some.inj q).symm
  have hgl := M.giv_len c (u ++ (v ++ [a])) S (u.length + v.length)
  have := count_out hnd (fun i hi => by rw [hgl]; exact hc i hi) hg'
  omega
/-- where copies are too few, the late word is long enough -/
theorem few_room {d c p g : Nat} (hp : 1 ≤ p) (hg : 1 ≤ g) (hc : 1 ≤ c) (h : c < 2 * p * up d g + 1) : (up (up c 2) p - 1) * g + 1 ≤ d := by
  have h1 : up c 2 ≤ p * up d g := (up_le (by omega)).mpr (by
    have : 2 * p * up d g = p * up d g * 2 := by rw [Nat.mul_assoc, Nat.mul_comm 2]
    omega)
  have h2 : up (up c 2) p ≤ up d g := (up_le hp).mpr (by rw [Nat.mul_comm]; exact h1)
  have h3 : 1 ≤ up c 2 := Nat.pos_of_ne_zero fun z => by
    have := (up_le (a := c) (b := 2) (m := 0) (by omega)).mp (by omega)
    omega
  have h4 : 1 ≤ up (up c 2) p := Nat.pos_of_ne_zero fun z => by
    have := (up_le (a := up c 2) (b := p) (m := 0) hp).mp (by omega)
    omega
  have := up_lt (a := d) (b := g) (n := up (up c 2) p - 1) hg (by omega)
  omega
theorem Mach.led_rep {q : Nat} {ag : List Nat} (h : M.led q ag = q) : ∀ n, M.led q (List.replicate n ag).flatten = q
  | 0 => rfl
  | n + 1 => by rw [List.replicate_succ, List.flatten_cons, M.led_append, h]; exact Mach.led_rep h n
theorem Mach.unl_rep {i j : Nat} {ag ls : List Nat} (h1 : M.led i ag = i) (h2 : M.led j ag = j) (h : M.Unl i j ls) (n : Nat) : M.Unl i j ((List.replicate n ag).flatten ++ ls) := by
  obtain ⟨u, a, rfl, ha⟩ := h
  refine ⟨(List.replicate n ag).flatten ++ u, a, by rw [List.append_assoc], ?_⟩
  rw [M.led_append, M.led_append, Mach.led_rep h1, Mach.led_rep h2]
  exact ha
end
end M1
namespace M1
/-! ### the least machine is its own least one (k09) -/
section
variable {M : Mach}
theorem Mach.least_apart (ok : M.Ok) {i j : Nat} (h : M.least.Eqv i j) : i = j := by
  have lok := Mach.least_ok (M := M) ok
  have hb := Mach.Eqv.bis _ _ h
  have hi : i < M.all.length := Mach.least_n ok ▸ hb.1
  have hj : j < M.all.length := Mach.least_n ok ▸ hb.2.1
  have ap := Mach.all_apart (M := M) ok
  obtain ⟨x, hx⟩ : ∃ x, M.all[i]? = some x := ⟨_, List.getElem?_eq_getElem hi⟩
  obtain ⟨y, hy⟩ : ∃ y, M.all[j]? = some y := ⟨_, List.getElem?_eq_getElem hj⟩
  have lx := ap.lt x (List.mem_of_getElem? hx)
  have ly := ap.lt y (List.mem_of_getElem? hy)
  have e : M.Eqv x y := by
    refine ⟨fun x y => ∃ i j, M.least.Eqv i j ∧ M.Stands i x ∧ M.Stands j y, ⟨i, j, h, ⟨x, hx, Mach.Eqv.refl ok lx⟩, ⟨y, hy, Mach.Eqv.refl ok ly⟩⟩, ?_⟩
    rintro x y ⟨i, j, hE, ⟨s, hs, es⟩, ⟨t, ht, et⟩⟩
    obtain ⟨b1, b2, b3, b4⟩ := Mach.Eqv.bis _ _ hE
    obtain ⟨s1, s2, s3, s4⟩ := Mach.Eqv.bis _ _ es
    obtain ⟨t1, t2, t3, t4⟩ := Mach.Eqv.bis _ _ et
    refine ⟨s2, t2, ?_, fun a ha => ⟨M.least.go i a, M.least.go j a, b4 a (by rw [Mach.least_k ok]; exact ha), Mach.Stands.go ok ⟨s, hs, es⟩ ha, Mach.Stands.go ok ⟨t, ht, et⟩ ha⟩⟩
    rw [← s3, ← t3, ← Mach.least_ans hs, ← Mach.least_ans ht]
    exact b3
  exact ap.only hx hy e (Mach.Eqv.refl ok ly)
theorem Mach.least_eqv (ok : M.Ok) {i j : Nat} (hj : j < M.all.length) : M.least.eqv i j = decide (i = j) := by
  have lok := Mach.least_ok (M := M) ok
  by_cases h : i = j
  · subst h
    rw [decide_eq_true rfl]
    exact Mach.eqv_iff.mpr (Mach.Eqv.refl lok (by rw [Mach.least_n ok]; exact hj))
  · rw [decide_eq_false h]
    cases e : M.least.eqv i j with
    | false => rfl
    | true => exact absurd (Mach.least_apart ok (Mach.eqv_iff.mp e)) h
theorem Mach.grow_cons (o : List Nat) (x : Nat) (r : List Nat) : M.grow o (x :: r) = M.grow (M.grow1 o x) r := rfl
theorem Mach.least_grow (ok : M.Ok) : ∀ (r o : List Nat), (∃ m, M.all = M.grow o r ++ m) → (∀ x ∈ r, x < M.st.length) → M.least.grow (List.range o.length) (r.map (M.num M.all)) = List.range (M.grow o r).length
  | [], o, _, _ => rfl
  | x :: r, o, ⟨m, e⟩, hr => by
    rw [Mach.grow_cons] at e ⊢
    rw [List.map_cons, Mach.grow_cons]
    obtain ⟨m1, e1⟩ := M.grow_pre r (M.grow1 o x)
    have ih := Mach.least_grow ok r (M.grow1 o x) ⟨m, e⟩ fun y hy => hr y (List.mem_cons_of_mem _ hy)
    by_cases h : (o.any fun y => M.eqv y x) = true
    · have g : M.grow1 o x = o := by unfold Mach.grow1; rw [if_pos h]
      rw [g] at ih e1 e ⊢
      obtain ⟨y, hy, q⟩ := List.any_eq_true.mp h
      have hex : ∃ y ∈ o, M.eqv y x = true := ⟨y, hy, q⟩
      have hn : M.num M.all x = M.num o x := by rw [e, e1, List.append_assoc]; exact M.num_pre hex
      have hl := M.num_lt hex
      have hal : o.length ≤ M.all.length := by rw [e, e1, List.append_assoc, List.length_append]; omega
      have g2 : M.least.grow1 (List.range o.length) (M.num M.all x) = List.range o.length := by
        unfold Mach.grow1
        rw [if_pos]
        refine List.any_eq_true.mpr ⟨M.num M.all x, List.mem_range.mpr (by omega), ?_⟩
        rw [Mach.least_eqv ok (by omega)]
        exact decide_eq_true rfl
      rw [g2]
      exact ih
    · have g : M.grow1 o x = o ++ [x] := by unfold Mach.grow1; rw [if_neg h]
      rw [g] at ih e1 e ⊢
      have hx := hr x List.mem_cons_self
      have hex : ∃ y ∈ o ++ [x], M.eqv y x = true := ⟨x, List.mem_append_right _ (List.mem_singleton.mpr rfl), Mach.eqv_iff.mpr (Mach.Eqv.refl ok hx)⟩
      have hn : M.num M.all x = o.length := by
        rw [e, e1, List.append_assoc, M.num_pre hex]
        have h0 : ¬ ∃ y ∈ o, M.eqv y x = true := fun ⟨y, hy, q⟩ => h (List.any_eq_true.mpr ⟨y, hy, q⟩)
        obtain ⟨y, hy, q⟩ := M.num_at hex
        have hl := M.num_lt hex
        rw [List.length_append, List.length_singleton] at hl
        by_cases hlt : M.num (o ++ [x]) x < o.length
        · rw [List.getElem?_append_left hlt] at hy
          exact absurd ⟨y, List.mem_of_getElem? hy, q⟩ h0
        · omega
      have hal : o.length + 1 ≤ M.all.length := by rw [e, e1, List.append_assoc, List.length_append, List.length_append, List.length_singleton]; omega
      have g2 : M.least.grow1 (List.range o.length) (M.num M.all x) = List.range (o ++ [x]).length := by
        rw [hn, List.length_append, List.length_singleton, List.range_succ]
        unfold Mach.grow1
        rw [if_neg]
        intro z
        obtain ⟨y, hy, q⟩ := List.any_eq_true.mp z
        rw [Mach.least_eqv ok (by omega)] at q
        have := of_decide_eq_true q
        have := List.mem_range.mp hy
        omega
      rw [g2]
      exact ih
theorem Mach.least_ord (ok : M.Ok) : ∀ i, M.least.ord i = List.range (M.ord i).length
  | 0 => rfl
  | i + 1 => by
    have ih := Mach.least_ord ok i
    cases h : (M.ord i)[i]? with
    | none =>
      have hl : (M.ord i).length ≤ i := List.getElem?_eq_none_iff.mp h
      have h1 : M.ord (i + 1) = M.ord i := Mach.ord_stop hl 1
      have h2 : M.least.ord (i + 1) = M.least.ord i := Mach.ord_stop (M := M.least) (by rw [ih, List.length_range]; exact hl) 1
      rw [h1, h2]
      exact ih
    | some s =>
      have hi : i < (M.ord i).length := (List.getElem?_eq_some_iff.mp h).1
      have h2 : (M.least.ord i)[i]? = some i := by rw [ih]; exact List.getElem?_range hi
      rw [Mach.ord_step h, Mach.ord_step h2, ih, Mach.least_row (Mach.all_at ok h)]
      refine Mach.least_grow ok (M.row s) (M.ord i) ?_ fun x hx => M.row_mem ok (Mach.ord_lt ok h) hx
      obtain ⟨m, e⟩ := Mach.all_pre (M := M) ok (i + 1)
      exact ⟨m, by rw [e, Mach.ord_step h]⟩
theorem Mach.least_all (ok : M.Ok) : M.least.all = List.range M.all.length := Mach.least_ord ok 6
theorem Mach.least_num (ok : M.Ok) {x : Nat} (hx : x < M.all.length) : M.least.num (List.range M.all.length) x = x := by
  have hex : ∃ y ∈ List.range M.all.length, M.least.eqv y x = true := ⟨x, List.mem_range.mpr hx, by rw [Mach.least_eqv ok hx]; exact decide_eq_true rfl⟩
  obtain ⟨y, hy, q⟩ := M.least.num_at hex
  have hl := M.least.num_lt hex
  rw [List.length_range] at hl
  rw [List.getElem?_range hl] at hy
  rw [Mach.least_eqv ok hx] at q
  have h1 := of_decide_eq_true q
  have h2 := Option.some.inj hy
  omega
theorem Mach.st_rows (M : Mach) : M.st = (List.range M.st.length).map M.row := by
  refine List.ext_getElem? fun i => ?_
  rw [List.getElem?_map]
  by_cases h : i < M.st.length
  · rw [List.getElem?_range h]
    exact M.row_at h
  · rw [List.getElem?_eq_none (by omega), List.getElem?_eq_none (by rw [List.length_range]; omega)]
    rfl
theorem Mach.an_rows (ok : M.Ok) : M.an = (List.range M.st.length).map M.ans := by
  refine List.ext_getElem? fun i => ?_
  rw [List.getElem?_map]
  by_cases h : i < M.st.length
  · rw [List.getElem?_range h]
    exact M.ans_at ok h
  · rw [List.getElem?_eq_none (by rw [ok.la]; omega), List.getElem?_eq_none (by rw [List.length_range]; omega)]
    rfl
theorem Mach.least_least (ok : M.Ok) : M.least.least = M.least := by
  have lok := Mach.least_ok (M := M) ok
  have h1 : M.least.least = ⟨M.least.all.map fun s => (M.least.row s).map (M.least.num M.least.all), M.least.all.map M.least.ans⟩ := rfl
  rw [h1, Mach.least_all ok]
  have e1 : (List.range M.all.length).map (fun s => (M.least.row s).map (M.least.num (List.range M.all.length))) = M.least.st := by
    rw [Mach.st_rows M.least, Mach.least_n ok]
    refine List.map_congr_left fun i hi => ?_
    have hi' := List.mem_range.mp hi
    have : ∀ x ∈ M.least.row i, M.least.num (List.range M.all.length) x = x := fun x hx => Mach.least_num ok (by rw [← Mach.least_n ok]; exact M.least.row_mem lok (by rw [Mach.least_n ok]; exact hi') hx)
    rw [List.map_congr_left this, List.map_id']
  have e2 : (List.range M.all.length).map M.least.ans = M.least.an := by
    rw [Mach.an_rows lok, Mach.least_n ok]
  rw [e1, e2]
theorem Mach.least_lateIs (ok : M.Ok) {n : Nat} {o : Option Nat} (h : M.LateIs (some n)) (h' : M.least.LateIs o) : ∃ m, o = some m ∧ m ≤ n := by
  cases o with
  | none =>
    have := (h (n + 1) (by omega)).mp (Mach.least_late ok (h' (n + 1) (by omega)))
    omega
  | some m =>
    refine ⟨m, rfl, ?_⟩
    by_cases h0 : m = 0
    · omega
    · exact (h m (by omega)).mp (Mach.least_late ok ((h' m (by omega)).mpr (Nat.le_refl _)))
theorem Mach.least_tld (ok : M.Ok) {r : List Nat} (hr : M.Letters r) {j : Nat} : M.least.tld 0 r j = M.tld 0 r j := by
  have := Mach.Stands.led ok (w := r.take j) (Mach.Stands.zero ok) fun x hx => hr x (List.mem_of_mem_take hx)
  unfold Mach.tld
  exact this.out
theorem Mach.least_le (ok : M.Ok) : M.least.st.length ≤ M.st.length := by
  rw [Mach.least_n ok]
  exact (Mach.all_apart ok).le ok
end
end M1
namespace M1
/-! ### sums, choices (k63) -/
def cho : Nat → Nat → Nat
  | _, 0 => 1
  | 0, _ + 1 => 0
  | n + 1, k + 1 => cho n k + cho n (k + 1)
theorem cho_big : ∀ {n k : Nat}, n < k → cho n k = 0
  | 0, k + 1, _ => rfl
  | n + 1, k + 1, h => by
    show cho n k + cho n (k + 1) = 0
    rw [cho_big (n := n) (k := k) (by omega), cho_big (n := n) (k := k + 1) (by omega)]
theorem cho_zero : ∀ n, cho n 0 = 1
  | 0 => rfl
  | _ + 1 => rfl
def sumTo : Nat → (Nat → Nat) → Nat
  | 0, _ => 0
  | n + 1, f => sumTo n f + f n
theorem sumTo_congr : ∀ {n : Nat} {f g : Nat → Nat}, (∀ k, k < n → f k = g k) → sumTo n f = sumTo n g
  | 0, _, _, _ => rfl
  | n + 1, f, g, h => by
    show sumTo n f + f n = sumTo n g + g n
    rw [sumTo_congr (n := n) fun k hk => h k (by omega), h n (by omega)]
theorem sumTo_add (n : Nat) (f g : Nat → Nat) : sumTo n (fun k => f k + g k) = sumTo n f + sumTo n g := by
  induction n with
  | zero => rfl
  | succ n ih =>
    show sumTo n (fun k => f k + g k) + (f n + g n) = (sumTo n f + f n) + (sumTo n g + g n)
    rw [ih]
    omega
theorem sumTo_mul (n a : Nat) (f : Nat → Nat) : sumTo n (fun k => a * f k) = a * sumTo n f := by
  induction n with
  | zero => rfl
  | succ n ih =>
    show sumTo n (fun k => a * f k) + a * f n = a * (sumTo n f + f n)
    rw [ih, Nat.mul_add]
theorem sumTo_front (n : Nat) (f : Nat → Nat) : sumTo (n + 1) f = f 0 + sumTo n (fun k => f (k + 1)) := by
  induction n with
  | zero => show 0 + f 0 = f 0 + 0; omega
  | succ n ih =>
    show sumTo (n + 1) f + f (n + 1) = f 0 + (sumTo n (fun k => f (k + 1)) + f (n + 1))
    rw [ih]
    omega
theorem sumTo_split (a n : Nat) (f : Nat → Nat) : sumTo (a + n) f = sumTo a f + sumTo n (fun k => f (a + k)) := by
  induction n with
  | zero => rfl
  | succ n ih =>
    show sumTo (a + n) f + f (a + n) = sumTo a f + (sumTo n (fun k => f (a + k)) + f (a + n))
    rw [ih]
    omega
theorem sumTo_zero {n : Nat} {f : Nat → Nat} (h : ∀ k, k < n → f k = 0) : sumTo n f = 0 := by
  induction n with
  | zero => rfl
  | succ n ih =>
    show sumTo n f + f n = 0
    rw [ih fun k hk => h k (by omega), h n (by omega)]
theorem sumTo_list (n : Nat) (f : Nat → Nat) : ((List.range n).map f).sum = sumTo n f := by
  induction n with
  | zero => rfl
  | succ n ih =>
    rw [List.range_succ, List.map_append, List.sum_append, ih]
    show sumTo n f + (f n + 0) = sumTo n f + f n
    omega
/-- over all choices, each copy R ways right and W ways wrong -/
def binS (R W c : Nat) (f : Nat → Nat) : Nat := sumTo (c + 1) fun k => cho c k * R ^ k * W ^ (c - k) * f k
theorem binS_zero (R W : Nat) (f : Nat → Nat) : binS R W 0 f = f 0 := by
  show 0 + cho 0 0 * R ^ 0 * W ^ 0 * f 0 = f 0
  simp [cho]
theorem binS_succ (R W c : Nat) (f : Nat → Nat) : binS R W (c + 1) f = binS R W c (fun k => R * f (k + 1) + W * f k) := by
  have h1 : binS R W (c + 1) f = (sumTo (c + 1) fun k => cho c k * R ^ (k + 1) * W ^ (c - k) * f (k + 1)) + (W ^ (c + 1) * f 0 + sumTo (c + 1) fun k => cho c (k + 1) * R ^ (k + 1) * W ^ (c - k) * f (k + 1)) := by
    unfold binS
    rw [sumTo_front (c + 1)]
    have e0 : cho (c + 1) 0 * R ^ 0 * W ^ (c + 1 - 0) * f 0 = W ^ (c + 1) * f 0 := by
      rw [cho_zero, Nat.pow_zero, Nat.sub_zero, Nat.one_mul]
    rw [e0]
    have e1 : (sumTo (c + 1) fun k => cho (c + 1) (k + 1) * R ^ (k + 1) * W ^ (c + 1 - (k + 1)) * f (k + 1)) = sumTo (c + 1) fun k => cho c k * R ^ (k + 1) * W ^ (c - k) * f (k + 1) + cho c (k + 1) * R ^ (k + 1) * W ^ (c - k) * f (k + 1) := by
      refine sumTo_congr fun k _ => ?_
      show (cho c k + cho c (k + 1)) * R ^ (k + 1) * W ^ (c + 1 - (k + 1)) * f (k + 1) = _
      rw [Nat.add_sub_add_right, Nat.add_mul, Nat.add_mul, Nat.add_mul]
    rw [e1, sumTo_add]
    omega
  have h2 : (W ^ (c + 1) * f 0 + sumTo (c + 1) fun k => cho c (k + 1) * R ^ (k + 1) * W ^ (c - k) * f (k + 1)) = sumTo (c + 1) fun k => cho c k * R ^ k * W ^ (c - k) * (W * f k) := by
    rw [sumTo_front c (fun k => cho c k * R ^ k * W ^ (c - k) * (W * f k))]
    have e0 : cho c 0 * R ^ 0 * W ^ (c - 0) * (W * f 0) = W ^ (c + 1) * f 0 := by
      rw [cho_zero, Nat.pow_zero, Nat.sub_zero, Nat.one_mul, Nat.pow_succ, Nat.mul_assoc]
    rw [e0]
    congr 1
    show (sumTo c fun k => cho c (k + 1) * R ^ (k + 1) * W ^ (c - k) * f (k + 1)) + cho c (c + 1) * R ^ (c + 1) * W ^ (c - c) * f (c + 1) = _
    rw [cho_big (show c < c + 1 by omega), Nat.zero_mul, Nat.zero_mul, Nat.zero_mul, Nat.add_zero]
    refine sumTo_congr fun k hk => ?_
    have e3 : W ^ (c - k) = W ^ (c - (k + 1)) * W := by rw [show c - k = (c - (k + 1)) + 1 by omega, Nat.pow_succ]
    rw [e3]
    simp only [Nat.mul_assoc]
  rw [h1, h2, ← sumTo_add]
  unfold binS
  refine sumTo_congr fun k _ => ?_
  rw [Nat.mul_add, Nat.pow_succ]
  have a1 : cho c k * (R ^ k * R) * W ^ (c - k) * f (k + 1) = cho c k * R ^ k * W ^ (c - k) * (R * f (k + 1)) := by
    simp only [Nat.mul_assoc, Nat.mul_comm, Nat.mul_left_comm]
  rw [a1]
theorem binS_const (R W : Nat) : ∀ c v, binS R W c (fun _ => v) = (R + W) ^ c * v
  | 0, v => by rw [binS_zero, Nat.pow_zero, Nat.one_mul]
  | c + 1, v => by
    rw [binS_succ, binS_const R W c (R * v + W * v), Nat.pow_succ, ← Nat.add_mul, Nat.mul_assoc]
theorem binS_none (R c : Nat) (f : Nat → Nat) : binS R 0 c f = R ^ c * f c := by
  induction c generalizing f with
  | zero => rw [binS_zero, Nat.pow_zero, Nat.one_mul]
  | succ c ih =>
    rw [binS_succ, ih, Nat.pow_succ]
    simp only [Nat.zero_mul, Nat.add_zero, Nat.mul_assoc]
/-- more than half -/
def thr (c : Nat) (k : Nat) : Nat := if c < 2 * k then 1 else 0
def tom (R W c : Nat) : Nat := binS R W c (thr c)
theorem tom_sum (R W c : Nat) : tom R W c = sumTo (c + 1 - (c / 2 + 1)) fun i => cho c (c / 2 + 1 + i) * R ^ (c / 2 + 1 + i) * W ^ (c - (c / 2 + 1 + i)) := by
  unfold tom binS
  have h : c + 1 = (c / 2 + 1) + (c + 1 - (c / 2 + 1)) := by omega
  conv => lhs; rw [h]
  rw [sumTo_split, sumTo_zero (n := c / 2 + 1), Nat.zero_add]
  · refine sumTo_congr fun i _ => ?_
    unfold thr
    rw [if_pos (by omega), Nat.mul_one]
  · intro k hk
    unfold thr
    rw [if_neg (by omega), Nat.mul_zero]
theorem thr_le (c k : Nat) : thr c k ≤ 1 := by unfold thr; split <;> omega
theorem binS_mono {R W c : Nat} {f g : Nat → Nat} (h : ∀ k, f k ≤ g k) : binS R W c f ≤ binS R W c g := by
  unfold binS
  generalize c + 1 = n
  induction n with
  | zero => exact Nat.le_refl _
  | succ n ih => exact Nat.add_le_add ih (Nat.mul_le_mul_left _ (h n))
theorem tom_le (R W c : Nat) : tom R W c ≤ (R + W) ^ c := by
  have := binS_mono (R := R) (W := W) (c := c) (thr_le c)
  rw [binS_const R W c 1, Nat.mul_one] at this
  exact this
/-! ### all rows of states, with their weights -/
abbrev Rw := List Nat × Nat
def grow (m r b t : Nat) (x : Rw) : List Rw := (x.1 ++ [r], x.2 * (b - t) * m) :: (List.range m).map fun s => (x.1 ++ [s], x.2 * t)
def rws (m r b t : Nat) : Nat → List Rw
  | 0 => [([], 1)]
  | c + 1 => (rws m r b t c).flatMap (grow m r b t)
def wsum (L : List Rw) (F : List Nat → Nat) : Nat := (L.map fun x => x.2 * F x.1).sum
theorem wsum_append (L L' : List Rw) (F : List Nat → Nat) : wsum (L ++ L') F = wsum L F + wsum L' F := by
  unfold wsum
  rw [List.map_append, List.sum_append]
theorem wsum_flat (L : List Rw) (g : Rw → List Rw) (F : List Nat → Nat) (G : List Nat → Nat) (h : ∀ x ∈ L, wsum (g x) F = x.2 * G x.1) : wsum (L.flatMap g) F = wsum L G := by
  induction L with
  | nil => rfl
  | cons x L ih =>
    rw [List.flatMap_cons, wsum_append, h x List.mem_cons_self, ih fun y hy => h y (List.mem_cons_of_mem _ hy)]
    unfold wsum
    rw [List.map_cons, List.sum_cons]
theorem rws_len {m r b t c : Nat} : ∀ x ∈ rws m r b t c, x.1.length = c := by
  induction c with
  | zero => intro x hx; rw [List.mem_singleton.mp hx]; rfl
  | succ c ih =>
    intro x hx
    obtain ⟨y, hy, hx⟩ := List.mem_flatMap.mp hx
    have := ih y hy
    rcases List.mem_cons.mp hx with e | hx
    · subst e; rw [List.length_append, this]; rfl
    · obtain ⟨s, _, rfl⟩ := List.mem_map.mp hx
      rw [List.length_append, this]; rfl
theorem rws_lt {m r b t c : Nat} (hr : r < m) : ∀ x ∈ rws m r b t c, ∀ s ∈ x.1, s < m := by
  induction c with
  | zero => intro x hx s hs; rw [List.mem_singleton.mp hx] at hs; simp at hs
  | succ c ih =>
    intro x hx s hs
    obtain ⟨y, hy, hx⟩ := List.mem_flatMap.mp hx
    rcases List.mem_cons.mp hx with e | hx
    · subst e
      rcases List.mem_append.mp hs with hs | hs
      · exact ih y hy s hs
      · rw [List.mem_singleton.mp hs]; exact hr
    · obtain ⟨z, hz, rfl⟩ := List.mem_map.mp hx
      rcases List.mem_append.mp hs with hs | hs
      · exact ih y hy s hs
      · rw [List.mem_singleton.mp hs]; exact List.mem_range.mp hz
theorem grow_len (m r b t : Nat) (x : Rw) : (grow m r b t x).length = m + 1 := by
  unfold grow
  rw [List.length_cons, List.length_map, List.length_range]
theorem flat_len {L : List Rw} {g : Rw → List Rw} {k : Nat} (h : ∀ x, (g x).length = k) : (L.flatMap g).length = L.length * k := by
  induction L with
  | nil => simp
  | cons x L ih => rw [List.flatMap_cons, List.length_append, h, ih, List.length_cons, Nat.succ_mul]; omega
theorem rws_length {m r b t : Nat} : ∀ c, (rws m r b t c).length = (m + 1) ^ c
  | 0 => rfl
  | c + 1 => by
    show ((rws m r b t c).flatMap (grow m r b t)).length = _
    rw [flat_len (grow_len m r b t), rws_length c, Nat.pow_succ]
theorem states_sum (g : Nat → Bool) (a f1 f0 : Nat) (m : Nat) : ((List.range m).map fun s => a * (if g s then f1 else f0)).sum = a * ((List.range m).countP g * f1 + (m - (List.range m).countP g) * f0) := by
  induction m with
  | zero => simp
  | succ m ih =>
    have hle : (List.range m).countP g ≤ m := by
      have := List.countP_le_length (p := g) (l := List.range m)
      rwa [List.length_range] at this
    rw [List.range_succ, List.map_append, List.sum_append, ih, List.countP_append, List.map_singleton, List.sum_singleton, List.countP_singleton, ← Nat.mul_add]
    congr 1
    cases hg : g m with
    | true =>
      simp only [if_true]
      rw [show m + 1 - ((List.range m).countP g + 1) = m - (List.range m).countP g by omega, Nat.add_mul]
      omega
    | false =>
      simp only [Bool.false_eq_true, if_false, Nat.add_zero]
      rw [show m + 1 - (List.range m).countP g = (m - (List.range m).countP g) + 1 by omega, Nat.add_mul]
      omega
theorem rws_sum {m r b t : Nat} {g : Nat → Bool} (hr : g r = true) : ∀ (c : Nat) (f : Nat → Nat), wsum (rws m r b t c) (fun s => f (s.countP g)) = binS ((b - t) * m + t * (List.range m).countP g) (t * (m - (List.range m).countP g)) c f
  | 0, f => by
    rw [binS_zero]
    show 1 * f 0 + 0 = f 0
    omega
  | c + 1, f => by
    rw [binS_succ, ← rws_sum (m := m) (r := r) (b := b) (t := t) hr c]
    show wsum ((rws m r b t c).flatMap (grow m r b t)) _ = _
    refine wsum_flat _ _ _ _ fun x _ => ?_
    unfold wsum grow
    rw [List.map_cons, List.sum_cons, List.map_map]
    have e1 : ((fun x : Rw => x.2 * f (x.1.countP g)) ∘ fun s => (x.1 ++ [s], x.2 * t)) = fun s => (x.2 * t) * (if g s then f (x.1.countP g + 1) else f (x.1.countP g)) := by
      funext s
      show x.2 * t * f ((x.1 ++ [s]).countP g) = _
      rw [List.countP_append, List.countP_singleton]
      cases g s <;> simp
    rw [e1, states_sum]
    show x.2 * (b - t) * m * f ((x.1 ++ [r]).countP g) + _ = _
    rw [List.countP_append, List.countP_singleton, hr, if_pos rfl]
    generalize (List.range m).countP g = N
    generalize m - N = W
    generalize f (x.1.countP g + 1) = f1
    generalize f (x.1.countP g) = f0
    generalize b - t = d
    generalize x.2 = w
    simp only [Nat.mul_add, Nat.add_mul, Nat.mul_assoc]
    omega
theorem rws_good {m r b t c : Nat} {g : Nat → Bool} (hr : g r = true) : ((rws m r b t c).map fun x => if c < 2 * x.1.countP g then x.2 else 0).sum = tom ((b - t) * m + t * (List.range m).countP g) (t * (m - (List.range m).countP g)) c := by
  have := rws_sum (m := m) (r := r) (b := b) (t := t) hr c (thr c)
  rw [show tom _ _ _ = binS _ _ _ (thr c) from rfl, ← this]
  unfold wsum
  congr 1
  refine List.map_congr_left fun x _ => ?_
  unfold thr
  show _ = x.2 * (if c < 2 * x.1.countP g then 1 else 0)
  by_cases h : c < 2 * x.1.countP g
  · rw [if_pos h, if_pos h, Nat.mul_one]
  · rw [if_neg h, if_neg h, Nat.mul_zero]
theorem rw_sum {b t m N : Nat} (ht : t ≤ b) (hN : N ≤ m) : ((b - t) * m + t * N) + t * (m - N) = b * m := by
  obtain ⟨d, rfl⟩ : ∃ d, b = t + d := ⟨b - t, by omega⟩
  obtain ⟨e, rfl⟩ : ∃ e, m = N + e := ⟨m - N, by omega⟩
  rw [Nat.add_sub_cancel_left, Nat.add_sub_cancel_left]
  simp only [Nat.mul_add, Nat.add_mul]
  omega
theorem rws_whole {m r b t c : Nat} (ht : t ≤ b) : ((rws m r b t c).map fun x => x.2).sum = (b * m) ^ c := by
  have := rws_sum (m := m) (r := r) (b := b) (t := t) (g := fun _ => true) rfl c (fun _ => 1)
  rw [binS_const, Nat.mul_one, rw_sum ht (by have := List.countP_le_length (p := fun _ => true) (l := List.range m); rwa [List.length_range] at this)] at this
  rw [← this]
  unfold wsum
  congr 1
  refine List.map_congr_left fun x _ => ?_
  rw [Nat.mul_one]
/-! ### lowest terms -/
def low (a b : Nat) : Nat × Nat := (a / Nat.gcd a b, b / Nat.gcd a b)
theorem low_eq {a b c d : Nat} (hb : 0 < b) (hd : 0 < d) (h : a * d = c * b) : low a b = low c d := by
  have g1 : 0 < Nat.gcd a b := Nat.gcd_pos_of_pos_right _ hb
  have g2 : 0 < Nat.gcd c d := Nat.gcd_pos_of_pos_right _ hd
  obtain ⟨a', ha⟩ := Nat.gcd_dvd_left a b
  obtain ⟨b', hb'⟩ := Nat.gcd_dvd_right a b
  obtain ⟨c', hc⟩ := Nat.gcd_dvd_left c d
  obtain ⟨d', hd'⟩ := Nat.gcd_dvd_right c d
  have ea : a / Nat.gcd a b = a' := Nat.div_eq_of_eq_mul_right g1 ha
  have eb : b / Nat.gcd a b = b' := Nat.div_eq_of_eq_mul_right g1 hb'
  have ec : c / Nat.gcd c d = c' := Nat.div_eq_of_eq_mul_right g2 hc
  have ed : d / Nat.gcd c d = d' := Nat.div_eq_of_eq_mul_right g2 hd'
  have cop1 : Nat.Coprime a' b' := by rw [← ea, ← eb]; exact Nat.coprime_div_gcd_div_gcd g1
  have cop2 : Nat.Coprime c' d' := by rw [← ec, ← ed]; exact Nat.coprime_div_gcd_div_gcd g2
  have key : a' * d' = c' * b' := by
    have h2 : (Nat.gcd a b * Nat.gcd c d) * (a' * d') = (Nat.gcd a b * Nat.gcd c d) * (c' * b') := by
      calc (Nat.gcd a b * Nat.gcd c d) * (a' * d') = (Nat.gcd a b * a') * (Nat.gcd c d * d') := by simp only [Nat.mul_assoc, Nat.mul_comm, Nat.mul_left_comm]
        _ = a * d := by rw [← ha, ← hd']
        _ = c * b := h
        _ = (Nat.gcd c d * c') * (Nat.gcd a b * b') := by rw [← hc, ← hb']
        _ = (Nat.gcd a b * Nat.gcd c d) * (c' * b') := by simp only [Nat.mul_assoc, Nat.mul_comm, Nat.mul_left_comm]
    exact Nat.eq_of_mul_eq_mul_left (Nat.mul_pos g1 g2) h2
  have hbd : b' = d' := by
    refine Nat.dvd_antisymm ?_ ?_
    · exact (Nat.Coprime.symm cop1).dvd_of_dvd_mul_left (by rw [key]; exact Nat.dvd_mul_left _ _)
    · exact (Nat.Coprime.symm cop2).dvd_of_dvd_mul_left (by rw [← key]; exact Nat.dvd_mul_left _ _)
  have hbp : 0 < b' := by
    rcases Nat.eq_zero_or_pos b' with z | z
    · rw [z, Nat.mul_zero] at hb'; omega
    · exact z
  have hac : a' = c' := by
    rw [← hbd] at key
    exact Nat.eq_of_mul_eq_mul_right hbp key
  unfold low
  rw [ea, eb, ec, ed, hac, hbd]
theorem low_self {a : Nat} (h : 0 < a) : low a a = (1, 1) := by
  unfold low
  rw [Nat.gcd_self, Nat.div_self h]
theorem low_none {a : Nat} (h : 0 < a) : low 0 a = (0, 1) := by
  unfold low
  rw [Nat.gcd_zero_left, Nat.zero_div, Nat.div_self h]
end M1
namespace M1
/-! ### all rows of letters and strikes: the search (k00) -/
def ins (x : Nat) : List Nat → List Nat
  | [] => [x]
  | y :: l => if x ≤ y then x :: y :: l else y :: ins x l
def srt (l : List Nat) : List Nat := l.foldr ins []
theorem ins_perm (x : Nat) : ∀ l, (ins x l).Perm (x :: l)
  | [] => .refl _
  | y :: l => by
    unfold ins
    split
    · exact .refl _
    · exact ((ins_perm x l).cons y).trans (.swap x y l)
theorem srt_perm : ∀ l, (srt l).Perm l
  | [] => .refl _
  | x :: l => (ins_perm x (srt l)).trans ((srt_perm l).cons x)
theorem ins_srt (x : Nat) : ∀ l : List Nat, l.Pairwise (· ≤ ·) → (ins x l).Pairwise (· ≤ ·)
  | [], _ => by simp [ins]
  | y :: l, h => by
    rw [List.pairwise_cons] at h
    unfold ins
    split
    · rename_i hxy
      rw [List.pairwise_cons, List.pairwise_cons]
      refine ⟨fun z hz => ?_, h⟩
      rcases List.mem_cons.mp hz with e | hz
      · subst e; exact hxy
      · exact Nat.le_trans hxy (h.1 z hz)
    · rename_i hxy
      rw [List.pairwise_cons]
      refine ⟨fun z hz => ?_, ins_srt x l h.2⟩
      rcases List.mem_cons.mp ((ins_perm x l).mem_iff.mp hz) with e | hz
      · subst e; omega
      · exact h.1 z hz
theorem srt_srt : ∀ l, (srt l).Pairwise (· ≤ ·)
  | [] => List.Pairwise.nil
  | x :: l => ins_srt x _ (srt_srt l)
theorem sorted_eq : ∀ {a b : List Nat}, a.Perm b → a.Pairwise (· ≤ ·) → b.Pairwise (· ≤ ·) → a = b
  | [], b, h, _, _ => (List.Perm.nil_eq h)
  | x :: a, [], h, _, _ => by have := h.length_eq; simp at this
  | x :: a, y :: b, h, ha, hb => by
    have ha' := List.pairwise_cons.mp ha
    have hb' := List.pairwise_cons.mp hb
    have h1 : y ≤ x := by
      rcases List.mem_cons.mp (h.mem_iff.mp List.mem_cons_self) with e | e
      · omega
      · exact hb'.1 x e
    have h2 : x ≤ y := by
      rcases List.mem_cons.mp (h.symm.mem_iff.mp List.mem_cons_self) with e | e
      · omega
      · exact ha'.1 y e
    have e : x = y := by omega
    subst e
    rw [sorted_eq h.cons_inv ha'.2 hb'.2]
theorem srt_eq {a b : List Nat} (h : a.Perm b) : srt a = srt b := sorted_eq (((srt_perm a).trans h).trans (srt_perm b).symm) (srt_srt a) (srt_srt b)
theorem srt_of {a b : List Nat} (h : a.Perm b) (hs : a.Pairwise (· ≤ ·)) : a = srt b := sorted_eq (h.trans (srt_perm b).symm) hs (srt_srt b)
theorem srt_len (l : List Nat) : (srt l).length = l.length := (srt_perm l).length_eq
theorem srt_mem {l : List Nat} {x : Nat} : x ∈ srt l ↔ x ∈ l := (srt_perm l).mem_iff
theorem srt_rep (c x : Nat) : srt (List.replicate c x) = List.replicate c x := (srt_of (.refl _) (by
  rw [List.pairwise_iff_getElem]
  intro i j hi hj _
  rw [List.getElem_replicate, List.getElem_replicate]
  exact Nat.le_refl _)).symm
theorem set_perm {l : List Nat} {i : Nat} (h : i < l.length) (a : Nat) : (l.set i a).Perm (a :: l.eraseIdx i) := by
  rw [List.set_eq_take_append_cons_drop, if_pos h, List.eraseIdx_eq_take_drop_succ]
  exact List.perm_middle
theorem self_perm {l : List Nat} {i x : Nat} (h : l[i]? = some x) : l.Perm (x :: l.eraseIdx i) := by
  have hl := (List.getElem?_eq_some_iff.mp h).1
  have e : l.set i x = l := by
    refine List.ext_getElem? fun j => ?_
    rw [List.getElem?_set]
    split
    · rename_i hj
      subst hj
      rw [h]
    · rfl
  have := set_perm hl x
  rwa [e] at this
/-- one thing put into another's place, in another order -/
theorem perm_set {a b : List Nat} (h : a.Perm b) {i : Nat} (hi : i < a.length) (x : Nat) : ∃ j, j < b.length ∧ (a.set i x).Perm (b.set j x) := by
  obtain ⟨y, hy⟩ : ∃ y, a[i]? = some y := ⟨_, List.getElem?_eq_getElem hi⟩
  obtain ⟨j, hj⟩ := List.mem_iff_getElem?.mp (h.mem_iff.mp (List.mem_of_getElem? hy))
  have hjl := (List.getElem?_eq_some_iff.mp hj).1
  refine ⟨j, hjl, (set_perm hi x).trans (.trans (.cons x ?_) (set_perm hjl x).symm)⟩
  exact (((self_perm hy).symm.trans h).trans (self_perm hj)).cons_inv
/-! ### what strikes make of a row of states, the sequence left aside -/
/-- t pushes or fewer -/
def Rea (m : Nat) : Nat → List Nat → List Nat → Prop
  | 0, A, B => B = A
  | t + 1, A, B => Rea m t A B ∨ ∃ C i s, Rea m t A C ∧ i < C.length ∧ s < m ∧ B = srt (C.set i s)
theorem Rea.mono {m : Nat} {A B : List Nat} : ∀ {t u : Nat}, t ≤ u → Rea m t A B → Rea m u A B := by
  intro t u h
  induction u with
  | zero => intro r; have : t = 0 := by omega
            subst this; exact r
  | succ u ih =>
    intro r
    by_cases e : t = u + 1
    · subst e; exact r
    · exact .inl (ih (by omega) r)
theorem Rea.len {m : Nat} {A B : List Nat} : ∀ {t : Nat}, Rea m t A B → B.length = A.length
  | 0, h => by rw [show B = A from h]
  | t + 1, h => by
    rcases h with h | ⟨C, i, s, h, _, _, rfl⟩
    · exact h.len
    · rw [srt_len, List.length_set, h.len]
theorem Rea.lt {m : Nat} {A B : List Nat} (hA : ∀ x ∈ A, x < m) : ∀ {t : Nat}, Rea m t A B → ∀ x ∈ B, x < m
  | 0, h => by rw [show B = A from h]; exact hA
  | t + 1, h => by
    rcases h with h | ⟨C, i, s, h, _, hs, rfl⟩
    · exact h.lt hA
    · intro x hx
      rcases List.mem_or_eq_of_mem_set (srt_mem.mp hx) with h' | h'
      · exact h.lt hA x h'
      · rw [h']; exact hs
theorem Rea.srtd {m : Nat} {A B : List Nat} (hA : A.Pairwise (· ≤ ·)) : ∀ {t : Nat}, Rea m t A B → B.Pairwise (· ≤ ·)
  | 0, h => by rw [show B = A from h]; exact hA
  | t + 1, h => by
    rcases h with h | ⟨C, i, s, h, _, hs, rfl⟩
    · exact h.srtd hA
    · exact srt_srt _
/-- so many pushes of a sorted row are pushes of the row -/
theorem Rea.down {m : Nat} {st : List Nat} : ∀ {t : Nat} {B : List Nat}, Rea m t (srt st) B → ∃ (I : List Nat) (st' : List Nat), I.length ≤ t ∧ st'.length = st.length ∧ (∀ j, j ∉ I → st'[j]? = st[j]?) ∧ (∀ x ∈ st', x ∈ st ∨ x < m) ∧ st'.Perm B
  | 0, B, h => ⟨[], st, Nat.le_refl _, rfl, fun _ _ => rfl, fun x hx => .inl hx, by rw [show B = M1.srt st from h]; exact (srt_perm st).symm⟩
  | t + 1, B, h => by
    rcases h with h | ⟨C, i, s, h, hi, hs, rfl⟩
    · obtain ⟨I, st', h1, h2⟩ := h.down
      exact ⟨I, st', by omega, h2⟩
    · obtain ⟨I, st', h1, h2, h3, h4, h5⟩ := h.down
      obtain ⟨j, hj, hp⟩ := perm_set h5.symm hi s
      refine ⟨j :: I, st'.set j s, by rw [List.length_cons]; omega, by rw [List.length_set]; exact h2, fun k hk => ?_, fun x hx => ?_, (hp.symm.trans (srt_perm _).symm)⟩
      · rw [List.mem_cons, not_or] at hk
        rw [List.getElem?_set, if_neg (fun e => hk.1 e.symm)]
        exact h3 k hk.2
      · rcases List.mem_or_eq_of_mem_set hx with h' | h'
        · exact h4 x h'
        · rw [h']; exact .inr hs
/-- the pushes by which two rows differ -/
def dif (st st' : List Nat) : List (Nat × Nat) := ((List.range st.length).filter fun j => decide (st'[j]? ≠ st[j]?)).map fun j => (j, st'.getD j 0)
theorem dif_asc (st st' : List Nat) : (dif st st').Pairwise fun x y => x.1 < y.1 := by
  unfold dif
  rw [List.pairwise_map]
  exact (List.pairwise_lt_range).filter _
theorem dif_len {st st' I : List Nat} (h : ∀ j, j ∉ I → st'[j]? = st[j]?) : (dif st st').length ≤ I.length := by
  unfold dif
  rw [List.length_map]
  refine nodup_le (List.nodup_range.filter _) fun j hj => ?_
  rw [List.mem_filter] at hj
  refine Classical.byContradiction fun hn => ?_
  exact (of_decide_eq_true hj.2) (h j hn)
theorem dif_ok {st st' : List Nat} {m : Nat} (hl : st'.length = st.length) (hm : ∀ x ∈ st', x < m) : ∀ q ∈ dif st st', q.1 < st.length ∧ q.2 < m := by
  intro q hq
  unfold dif at hq
  obtain ⟨j, hj, rfl⟩ := List.mem_map.mp hq
  have hj' := List.mem_range.mp (List.mem_filter.mp hj).1
  refine ⟨hj', hm _ ?_⟩
  rw [List.getD_eq_getElem?_getD, List.getElem?_eq_getElem (by omega)]
  exact List.getElem_mem _
theorem dif_set {st st' : List Nat} (hl : st'.length = st.length) : setAll st (dif st st') = st' := by
  refine List.ext_getElem? fun j => ?_
  by_cases hj : j < st.length
  · by_cases e : st'[j]? = st[j]?
    · rw [setAll_same, e]
      intro p hp z
      unfold dif at hp
      obtain ⟨i, hi, rfl⟩ := List.mem_map.mp hp
      have := of_decide_eq_true (List.mem_filter.mp hi).2
      have z' : i = j := z
      subst z'
      exact this e
    · have hq : (j, st'.getD j 0) ∈ dif st st' := by
        unfold dif
        exact List.mem_map.mpr ⟨j, List.mem_filter.mpr ⟨List.mem_range.mpr hj, decide_eq_true e⟩, rfl⟩
      have := setAll_put (dif st st') st (j, st'.getD j 0) hq (fun r hr e' => ?_) hj
      · rw [this, List.getD_eq_getElem?_getD, List.getElem?_eq_getElem (by omega)]
        rfl
      · unfold dif at hr
        obtain ⟨i, _, rfl⟩ := List.mem_map.mp hr
        have z' : i = j := e'
        subst z'
        rfl
  · rw [List.getElem?_eq_none (by rw [setAll_len]; omega), List.getElem?_eq_none (by omega)]
/-- pushes of a row are so many pushes of the sorted row -/
theorem Rea.up {m : Nat} {st : List Nat} (ps : List (Nat × Nat)) : (∀ q ∈ ps, q.1 < st.length ∧ q.2 < m) → Rea m ps.length (M1.srt st) (M1.srt (setAll st ps)) := by
  induction ps using snoc_ind with
  | h0 => intro _; exact rfl
  | h1 ps q ih =>
    intro h
    have hq := h q (List.mem_append_right _ (List.mem_singleton.mpr rfl))
    have r := ih fun x hx => h x (List.mem_append_left _ hx)
    rw [List.length_append, List.length_singleton, setAll_snoc]
    obtain ⟨j, hj, hp⟩ := perm_set (srt_perm (setAll st ps)).symm (i := q.1) (by rw [setAll_len]; exact hq.1) q.2
    exact .inr ⟨_, j, q.2, r, hj, hq.2, srt_eq hp⟩
/-! ### the search -/
abbrev Cfg := Nat × List Nat × Nat
/-- a strike or none ahead of a letter -/
def Opt (p g m : Nat) (A : List Nat) (n : Nat) (B : List Nat) (l : Nat) : Prop := (B = A ∧ l = min g (n + 1)) ∨ (g ≤ n ∧ Rea m p A B ∧ l = 1)
def Mach.bad (M : Mach) (c r : Nat) (B : List Nat) (a : Nat) : Prop := 2 * (B.countP fun s => decide (M.out s a = M.out r a)) ≤ c
def Mach.nxt (M : Mach) (r : Nat) (B : List Nat) (l a : Nat) : Cfg := (M.go r a, M1.srt (B.map fun s => M.go s a), l)
section
variable {M : Mach}
theorem Mach.sts_congr {c : Nat} {w w' : List Nat} {S S' : List Strk} : ∀ j, (∀ i, i < j → w.getD i 0 = w'.getD i 0) → (∀ i, i < j → atPl S i = atPl S' i) → M.sts c w S j = M.sts c w' S' j
  | 0, _, _ => rfl
  | j + 1, h1, h2 => by
    show (setAll (M.sts c w S j) (atPl S j)).map (fun s => M.go s (w.getD j 0)) = (setAll (M.sts c w' S' j) (atPl S' j)).map fun s => M.go s (w'.getD j 0)
    rw [Mach.sts_congr j (fun i hi => h1 i (by omega)) (fun i hi => h2 i (by omega)), h1 j (by omega), h2 j (by omega)]
theorem atPl_none {S : List Strk} {j : Nat} (h : ∀ s ∈ S, s.1 ≠ j) : atPl S j = [] := by
  unfold atPl
  rw [List.find?_eq_none.mpr fun s hs => by have := h s hs; simpa using this]
theorem atPl_snoc {S : List Strk} {n j : Nat} {ps : List (Nat × Nat)} (h : ∀ s ∈ S, s.1 < n) : atPl (S ++ [(n, ps)]) j = if j = n then ps else atPl S j := by
  by_cases e : j = n
  · subst e
    rw [if_pos rfl]
    unfold atPl
    rw [List.find?_append, List.find?_eq_none.mpr fun s hs => by have := h s hs; simp; omega]
    simp
  · rw [if_neg e]
    unfold atPl
    rw [List.find?_append]
    have : List.find? (fun s : Strk => decide (s.1 = j)) [(n, ps)] = none := by
      simp
      omega
    rw [this, Option.or_none]
/-- a state of the search stands for a row of letters and strikes -/
structure Mach.Snd (M : Mach) (c p g N : Nat) (x : Cfg) (w : List Nat) (S : List Strk) : Prop where
  lw : M.Letters w
  wl : w.length ≤ N
  str : M.Strs c S
  few : ∀ s ∈ S, s.2.length ≤ p
  gap : S.Pairwise fun a b => a.1 + g ≤ b.1
  far : ∀ s ∈ S, s.1 + x.2.2 ≤ w.length
  n1 : 1 ≤ x.2.2
  ng : x.2.2 ≤ g
  r : x.1 = M.led 0 w
  A : x.2.1 = srt (M.sts c w S w.length)
theorem Mach.Snd.start (g1 : 1 ≤ g) {c p : Nat} : M.Snd c p g 0 (0, List.replicate c 0, g) [] [] :=
  ⟨fun x hx => by simp at hx, Nat.le_refl _, ⟨.nil, fun _ h => by simp at h, fun _ h => by simp at h, fun _ h => by simp at h, fun _ h => by simp at h⟩, fun _ h => by simp at h, .nil, fun _ h => by simp at h, g1, Nat.le_refl _, rfl, (srt_rep c 0).symm⟩
theorem Mach.Snd.lts (ok : M.Ok) {c p g N : Nat} {x : Cfg} {w : List Nat} {S : List Strk} (h : M.Snd c p g N x w S) : x.1 < M.st.length ∧ x.2.1.length = c ∧ (∀ s ∈ x.2.1, s < M.st.length) ∧ x.2.1.Pairwise (· ≤ ·) := by
  refine ⟨by rw [h.r]; exact M.led_lt ok ok.n1 h.lw, by rw [h.A, srt_len, M.sts_len], fun s hs => ?_, by rw [h.A]; exact srt_srt _⟩
  rw [h.A, srt_mem] at hs
  exact (M.sts_lt ok h.str w.length (fun i x _ hx => h.lw x (List.mem_of_getElem? hx)) (Nat.le_refl _)).1 s hs
/-- a step of the search -/
theorem Mach.Snd.step (ok : M.Ok) {c p g N : Nat} (g1 : 1 ≤ g) (hN : N ≤ 4000) {x : Cfg} {w : List Nat} {S : List Strk} (h : M.Snd c p g N x w S) {B : List Nat} {l a : Nat} (ho : Opt p g M.st.length x.2.1 x.2.2 B l) (ha : a < M.k) :
    ∃ S', M.Snd c p g (N + 1) (M.nxt x.1 B l a) (w ++ [a]) S' ∧ (M.hit c (w ++ [a]) S' w.length).Perm B := by
  have lts := (M.sts_lt ok h.str w.length (fun i x _ hx => h.lw x (List.mem_of_getElem? hx)) (Nat.le_refl _)).1
  have lw' : M.Letters (w ++ [a]) := fun y hy => (List.mem_append.mp hy).elim (h.lw y) fun hy => by rw [List.mem_singleton.mp hy]; exact ha
  have wl' : (w ++ [a]).length ≤ N + 1 := by rw [List.length_append, List.length_singleton]; have := h.wl; omega
  have hget : ∀ i, i < w.length → w.getD i 0 = (w ++ [a]).getD i 0 := fun i hi => by
    rw [List.getD_eq_getElem?_getD, List.getD_eq_getElem?_getD, List.getElem?_append_left hi]
  have hlast : (w ++ [a]).getD w.length 0 = a := getD_of (by rw [List.getElem?_append_right (Nat.le_refl _), Nat.sub_self]; rfl)
  have hrgt : M.led 0 (w ++ [a]) = M.go (M.led 0 w) a := by rw [M.led_append]; rfl
  have hbef : ∀ s ∈ S, s.1 < w.length := fun s hs => by have := h.far s hs; have := h.n1; omega
  -- what is left to be shown, from the strikes
  have fin : ∀ S' : List Strk, M.Strs c S' → (∀ s ∈ S', s.2.length ≤ p) → S'.Pairwise (fun a b => a.1 + g ≤ b.1) → (∀ s ∈ S', s.1 + l ≤ w.length + 1) → 1 ≤ l → l ≤ g → (M.hit c (w ++ [a]) S' w.length).Perm B →
      ∃ S', M.Snd c p g (N + 1) (M.nxt x.1 B l a) (w ++ [a]) S' ∧ (M.hit c (w ++ [a]) S' w.length).Perm B := fun S' s1 s2 s3 s4 s5 s6 s7 => by
    refine ⟨S', ⟨lw', wl', s1, s2, s3, fun s hs => by rw [List.length_append, List.length_singleton]; exact s4 s hs, s5, s6, ?_, ?_⟩, s7⟩
    · show M.go x.1 a = _
      rw [h.r, hrgt]
    · show srt (B.map fun s => M.go s a) = srt (M.sts c (w ++ [a]) S' (w ++ [a]).length)
      rw [List.length_append, List.length_singleton]
      refine srt_eq ?_
      show (B.map fun s => M.go s a).Perm ((M.hit c (w ++ [a]) S' w.length).map fun s => M.go s ((w ++ [a]).getD w.length 0))
      rw [hlast]
      exact s7.symm.map _
  have sts0 : ∀ S' : List Strk, (∀ i, i < w.length → atPl S i = atPl S' i) → M.sts c (w ++ [a]) S' w.length = M.sts c w S w.length := fun S' hS => (M.sts_congr w.length hget hS).symm
  have noS : (M.hit c (w ++ [a]) S w.length) = M.sts c w S w.length := by
    show setAll (M.sts c (w ++ [a]) S w.length) (atPl S w.length) = _
    rw [atPl_none fun s hs => by have := hbef s hs; omega, sts0 S fun _ _ => rfl]
    rfl
  rcases ho with ⟨hB, hl⟩ | ⟨hgn, hR, hl⟩
  · refine fin S h.str h.few h.gap (fun s hs => ?_) (by omega) (by omega) ?_
    · have := h.far s hs
      omega
    · rw [noS, hB, h.A]
      exact (srt_perm _).symm
  · rw [h.A] at hR
    obtain ⟨I, st', h1, h2, h3, h4, h5⟩ := hR.down
    have h4' : ∀ x ∈ st', x < M.st.length := fun x hx => (h4 x hx).elim (lts x) id
    have hdl : (dif (M.sts c w S w.length) st').length ≤ p := Nat.le_trans (dif_len h3) h1
    by_cases hd : dif (M.sts c w S w.length) st' = []
    · have e : st' = M.sts c w S w.length := by rw [← dif_set h2, hd]; rfl
      refine fin S h.str h.few h.gap (fun s hs => ?_) (by omega) (by omega) ?_
      · have := hbef s hs
        omega
      · rw [noS, ← e]
        exact h5
    · have hat : ∀ j, atPl (S ++ [(w.length, dif (M.sts c w S w.length) st')]) j = if j = w.length then dif (M.sts c w S w.length) st' else atPl S j := fun j => atPl_snoc hbef
      have hok := dif_ok (st := M.sts c w S w.length) h2 h4'
      rw [M.sts_len] at hok
      have hgap : ∀ s ∈ S, s.1 + g ≤ w.length := fun s hs => by have := h.far s hs; omega
      refine fin (S ++ [(w.length, dif (M.sts c w S w.length) st')]) ⟨?_, ?_, ?_, ?_, ?_⟩ ?_ ?_ ?_ (by omega) (by omega) ?_
      · rw [List.pairwise_append]
        exact ⟨h.str.asc, List.pairwise_singleton _ _, fun x hx y hy => by rw [List.mem_singleton.mp hy]; exact hbef x hx⟩
      · intro s hs
        rcases List.mem_append.mp hs with hs | hs
        · exact h.str.pl s hs
        · rw [List.mem_singleton.mp hs]; have := h.wl; show w.length ≤ 4000; omega
      · intro s hs
        rcases List.mem_append.mp hs with hs | hs
        · exact h.str.ne s hs
        · rw [List.mem_singleton.mp hs]; exact hd
      · intro s hs
        rcases List.mem_append.mp hs with hs | hs
        · exact h.str.pu s hs
        · rw [List.mem_singleton.mp hs]; exact dif_asc _ _
      · intro s hs
        rcases List.mem_append.mp hs with hs | hs
        · exact h.str.ok s hs
        · rw [List.mem_singleton.mp hs]; exact hok
      · intro s hs
        rcases List.mem_append.mp hs with hs | hs
        · exact h.few s hs
        · rw [List.mem_singleton.mp hs]; exact hdl
      · rw [List.pairwise_append]
        exact ⟨h.gap, List.pairwise_singleton _ _, fun x hx y hy => by rw [List.mem_singleton.mp hy]; exact hgap x hx⟩
      · intro s hs
        rcases List.mem_append.mp hs with hs | hs
        · have := hbef s hs; omega
        · rw [List.mem_singleton.mp hs]; show w.length + l ≤ w.length + 1; omega
      · show (setAll (M.sts c (w ++ [a]) _ w.length) (atPl _ w.length)).Perm B
        rw [hat, if_pos rfl, sts0 _ (fun i hi => by rw [hat, if_neg (by omega)]), dif_set h2]
        exact h5
/-- where copies are enough, no step is bad -/
theorem Mach.Snd.good (ok : M.Ok) {c p g N : Nat} (g1 : 1 ≤ g) (hN : N ≤ 4000) {o : Option Nat} (hL : M.LateIs o) {m : Nat} (hm : needed o p g = some m) (hc : m ≤ c) {x : Cfg} {w : List Nat} {S : List Strk} (h : M.Snd c p g N x w S) {B : List Nat} {l a : Nat} (ho : Opt p g M.st.length x.2.1 x.2.2 B l) (ha : a < M.k) : ¬ M.bad c x.1 B a := by
  obtain ⟨S', h', hp⟩ := h.step ok g1 hN ho ha
  have hj : w.length < (w ++ [a]).length := by rw [List.length_append, List.length_singleton]; omega
  have hv := M.vote_right ok h'.str h'.lw hL g1 h'.few h'.gap hm hc hj
  have hlast : (w ++ [a]).getD w.length 0 = a := getD_of (by rw [List.getElem?_append_right (Nat.le_refl _), Nat.sub_self]; rfl)
  have hr : M.rgt (w ++ [a]) w.length = x.1 := by
    unfold Mach.rgt
    rw [List.take_left, h.r]
  rw [hr, hlast] at hv
  have hs := voteOf_some hv
  rw [M.giv_len] at hs
  unfold Mach.giv at hs
  rw [hlast, List.count, List.countP_map] at hs
  intro hb
  unfold Mach.bad at hb
  rw [← hp.countP_eq] at hb
  have e : ((fun x_1 => x_1 == M.out x.1 a) ∘ fun s => M.out s a) = fun s => decide (M.out s a = M.out x.1 a) := by
    funext s
    show (M.out s a == M.out x.1 a) = _
    rw [Bool.beq_eq_decide_eq]
  rw [e] at hs
  omega
/-- what is closed under the steps, none of them bad, holds each row of letters and strikes -/
theorem Mach.closed_right (ok : M.Ok) {c p g : Nat} (g1 : 1 ≤ g) {F : Cfg → Prop} (h0 : F (0, List.replicate c 0, g)) (hF : ∀ x, F x → ∀ B l a, Opt p g M.st.length x.2.1 x.2.2 B l → a < M.k → ¬ M.bad c x.1 B a ∧ F (M.nxt x.1 B l a))
    {wd : List Nat} {S : List Strk} (hw : M.Letters wd) (T : M.Strs c S) (hf : ∀ s ∈ S, s.2.length ≤ p) (hg : S.Pairwise fun a b => a.1 + g ≤ b.1) {j : Nat} (hj : j < wd.length) : voteOf (M.giv c wd S j) = some (M.out (M.rgt wd j) (wd.getD j 0)) := by
  -- the step ahead of letter j
  have opt : ∀ j n, (g ≤ n ∨ ∃ s ∈ S, s.1 < j ∧ j ≤ s.1 + n) → ∃ l, Opt p g M.st.length (srt (M.sts c wd S j)) n (srt (M.hit c wd S j)) l ∧ (g ≤ l ∨ ∃ s ∈ S, s.1 < j + 1 ∧ j + 1 ≤ s.1 + l) := fun j n hn => by
    by_cases hs : ∃ s ∈ S, s.1 = j
    · obtain ⟨s, hs, hsj⟩ := hs
      have hgn : g ≤ n := by
        rcases hn with h | ⟨t, ht, h1, h2⟩
        · exact h
        · have hne : t ≠ s := fun e => by rw [e] at h1; omega
          obtain ⟨i, hi, ei⟩ := List.getElem_of_mem ht
          obtain ⟨k, hk, ek⟩ := List.getElem_of_mem hs
          have pw := List.pairwise_iff_getElem.mp hg
          rcases Nat.lt_trichotomy i k with h | h | h
          · have := pw i k hi hk h
            rw [ei, ek] at this
            omega
          · subst h
            exact absurd (ei.symm.trans ek) hne
          · have := pw k i hk hi h
            rw [ei, ek] at this
            omega
      refine ⟨1, .inr ⟨hgn, ?_, rfl⟩, .inr ⟨s, hs, by omega, by omega⟩⟩
      have hok := T.at_ok (j := j)
      have hat : atPl S j = s.2 := by rw [← hsj]; exact atPl_of T.asc hs
      refine Rea.mono ?_ (Rea.up (atPl S j) fun q hq => ?_)
      · rw [hat]; exact hf s hs
      · rw [M.sts_len]; exact hok q hq
    · have hno : atPl S j = [] := atPl_none fun s hs' e => hs ⟨s, hs', e⟩
      refine ⟨min g (n + 1), .inl ⟨?_, rfl⟩, ?_⟩
      · show srt (setAll _ (atPl S j)) = _
        rw [hno]
        rfl
      · rcases hn with h | ⟨t, ht, h1, h2⟩
        · exact .inl (by omega)
        · by_cases h3 : g ≤ n + 1
          · exact .inl (by omega)
          · exact .inr ⟨t, ht, by omega, by omega⟩
  have reach : ∀ j, j ≤ wd.length → ∃ n, F (M.rgt wd j, srt (M.sts c wd S j), n) ∧ (g ≤ n ∨ ∃ s ∈ S, s.1 < j ∧ j ≤ s.1 + n) := fun j => by
    induction j with
    | zero => exact fun _ => ⟨g, by rw [show M.sts c wd S 0 = List.replicate c 0 from rfl, srt_rep]; exact h0, .inl (Nat.le_refl _)⟩
    | succ j ih =>
      intro hj
      obtain ⟨n, h1, h2⟩ := ih (by omega)
      obtain ⟨a, ha⟩ : ∃ a, wd[j]? = some a := ⟨_, List.getElem?_eq_getElem (by omega)⟩
      obtain ⟨l, h3, h4⟩ := opt j n h2
      have h5 := (hF _ h1 _ _ a h3 (hw a (List.mem_of_getElem? ha))).2
      refine ⟨l, ?_, h4⟩
      have e1 : M.rgt wd (j + 1) = M.go (M.rgt wd j) a := M.rgt_succ ha
      have e2 : srt (M.sts c wd S (j + 1)) = srt ((srt (M.hit c wd S j)).map fun s => M.go s a) := by
        refine srt_eq ?_
        show ((M.hit c wd S j).map fun s => M.go s (wd.getD j 0)).Perm _
        rw [getD_of ha]
        exact (srt_perm _).symm.map _
      rw [e1, e2]
      exact h5
  obtain ⟨n, h1, h2⟩ := reach j (by omega)
  obtain ⟨a, ha⟩ : ∃ a, wd[j]? = some a := ⟨_, List.getElem?_eq_getElem (by omega)⟩
  obtain ⟨l, h3, h4⟩ := opt j n h2
  have h5 := (hF _ h1 _ _ a h3 (hw a (List.mem_of_getElem? ha))).1
  unfold Mach.bad at h5
  rw [getD_of ha]
  refine voteOf_of ?_
  rw [M.giv_len]
  unfold Mach.giv
  rw [getD_of ha, List.count, List.countP_map]
  have e : ((fun x_1 => x_1 == M.out (M.rgt wd j) a) ∘ fun s => M.out s a) = fun s => decide (M.out s a = M.out (M.rgt wd j) a) := by
    funext s
    show (M.out s a == M.out (M.rgt wd j) a) = _
    rw [Bool.beq_eq_decide_eq]
  rw [e]
  rw [(srt_perm (M.hit c wd S j)).countP_eq] at h5
  exact Nat.lt_of_not_le h5
end
end M1
namespace M1
/-! ### where copies aren't enough, some row of letters and strikes leads to a wrong vote (k00) -/
section
variable {M : Mach}
theorem Mach.rch_short (ok : M.Ok) : ∀ (n : Nat) (w : List Nat), w.length ≤ n → M.Letters w → ∃ u, M.Letters u ∧ M.led 0 u = M.led 0 w ∧ u.length < M.st.length
  | 0, w, h, lw => ⟨w, lw, rfl, by have := ok.n1; omega⟩
  | n + 1, w, h, lw => by
    by_cases hl : w.length < M.st.length
    · exact ⟨w, lw, rfl, hl⟩
    · have hmem : ∀ x ∈ (List.range (w.length + 1)).map (fun j => M.led 0 (w.take j)), x ∈ List.range M.st.length := fun x hx => by
        obtain ⟨j, _, rfl⟩ := List.mem_map.mp hx
        exact List.mem_range.mpr (M.led_lt ok ok.n1 fun y hy => lw y (List.mem_of_mem_take hy))
      obtain ⟨i, j, x, hij, h1, h2⟩ := twice hmem (by rw [List.length_range, List.length_map, List.length_range]; omega)
      have hj : j < w.length + 1 := by
        have := (List.getElem?_eq_some_iff.mp h2).1
        rw [List.length_map, List.length_range] at this
        exact this
      rw [List.getElem?_map, List.getElem?_range (by omega)] at h1 h2
      have e1 : M.led 0 (w.take i) = x := Option.some.inj h1
      have e2 : M.led 0 (w.take j) = x := Option.some.inj h2
      have lw' : M.Letters (w.take i ++ w.drop j) := fun y hy => (List.mem_append.mp hy).elim (fun h => lw y (List.mem_of_mem_take h)) fun h => lw y (List.mem_of_mem_drop h)
      have hled : M.led 0 (w.take i ++ w.drop j) = M.led 0 w := by
        rw [M.led_append, e1, ← e2, ← M.led_append, List.take_append_drop]
      obtain ⟨u, hu1, hu2, hu3⟩ := Mach.rch_short ok n (w.take i ++ w.drop j) (by rw [List.length_append, List.length_take, List.length_drop]; omega) lw'
      exact ⟨u, hu1, hu2.trans hled, hu3⟩
theorem Mach.wrong_row (ok : M.Ok) {o : Option Nat} (hL : M.LateIs o) {c p g : Nat} (c1 : 1 ≤ c) (c2 : c ≤ 99) (p1 : 1 ≤ p) (g1 : 1 ≤ g) (g2 : g ≤ 60) (hne : ∀ m, needed o p g = some m → c < m) :
    ∃ wd S j, M.Letters wd ∧ M.Strs c S ∧ (∀ s ∈ S, s.2.length ≤ p) ∧ S.Pairwise (fun a b => a.1 + g ≤ b.1) ∧ j < wd.length ∧ voteOf (M.giv c wd S j) ≠ some (M.out (M.rgt wd j) (wd.getD j 0)) := by
  have hup : up c 2 ≤ 50 := (up_le (by omega)).mpr (by omega)
  have hup2 : up (up c 2) p ≤ 50 := (up_le p1).mpr (by have := Nat.mul_le_mul_left 50 p1; omega)
  have hd : M.Late ((up (up c 2) p - 1) * g + 1) := by
    cases o with
    | none => exact hL _ (by omega)
    | some d =>
      have h1 := hne (2 * p * up d g + 1) (by unfold needed; rw [if_neg (by omega)]; rfl)
      exact (hL _ (by omega)).mpr (few_room p1 g1 c1 h1)
  obtain ⟨⟨i, s⟩, wd, ⟨⟨w0, lw0, e0⟩, hs⟩, lw, wl, un⟩ := hd
  obtain ⟨u, lu, eu, ul⟩ := Mach.rch_short ok w0.length w0 (Nat.le_refl _) lw0
  have e0' : M.led 0 u = i := eu.trans e0
  have n6 := ok.n6
  obtain ⟨cs, hcs⟩ : ∃ cs, cs = List.range (up c 2) := ⟨_, rfl⟩
  have hcl : cs.length = up c 2 := by rw [hcs, List.length_range]
  have hlen : (up cs.length p - 1) * g + 1 ≤ wd.length := by rw [hcl, wl]; exact Nat.le_refl _
  have hbound : (up (up c 2) p - 1) * g + 1 ≤ 3001 := by
    have h1 : (up (up c 2) p - 1) * g ≤ 50 * 60 := Nat.mul_le_mul (by omega) g2
    omega
  have st : M.Story cs p g u s wd ((List.range (up cs.length p)).map fun n => (u.length + (wd.length - 1 - (up cs.length p - 1 - n) * g), (chunk cs p (up cs.length p - 1 - n)).map fun i => (i, M.led s (wd.take (wd.length - 1 - (up cs.length p - 1 - n) * g))))) := by
    refine ⟨by rw [List.length_map, List.length_range], fun b hb => ?_⟩
    refine ⟨(chunk cs p b).map fun i => (i, M.led s (wd.take (wd.length - 1 - b * g))), ?_, ?_, ?_, ?_⟩
    · rw [List.getElem?_map, List.getElem?_range (by omega)]
      have e : up cs.length p - 1 - (up cs.length p - 1 - b) = b := by omega
      simp only [Option.map_some, e]
    · rw [List.map_map]
      have : ((fun q : Nat × Nat => q.1) ∘ fun i => (i, M.led s (wd.take (wd.length - 1 - b * g)))) = id := rfl
      rw [this, List.map_id]
    · rw [List.pairwise_map]
      show (chunk cs p b).Pairwise fun x y => x < y
      unfold chunk
      rw [hcs]
      exact (List.pairwise_lt_range.sublist (List.drop_sublist _ _)).sublist (List.take_sublist _ _)
    · intro q hq
      obtain ⟨i, _, rfl⟩ := List.mem_map.mp hq
      rfl
  generalize ((List.range (up cs.length p)).map fun n => (u.length + (wd.length - 1 - (up cs.length p - 1 - n) * g), (chunk cs p (up cs.length p - 1 - n)).map fun i => (i, M.led s (wd.take (wd.length - 1 - (up cs.length p - 1 - n) * g))))) = S at st
  have hcc : ∀ i ∈ cs, i < c := fun i hi => by
    rw [hcs] at hi
    have h2 := up_lt (a := c) (b := 2) (n := i) (by omega) (List.mem_range.mp hi)
    omega
  have hnd : cs.Nodup := by rw [hcs]; exact List.nodup_range
  have hm : c ≤ 2 * cs.length := by
    rw [hcl]
    have := up_mul (a := c) (b := 2) (by omega)
    omega
  refine ⟨u ++ wd, S, (u ++ wd).length - 1, fun x hx => (List.mem_append.mp hx).elim (lu x) (lw x), st.strs ok p1 g1 hlen (by omega) hcc hs lw, st.few, st.gap hlen, ?_, st.wrong ok p1 g1 hlen (by omega) hcc hnd hs lu lw (by rw [e0']; exact un) hm⟩
  rw [List.length_append]
  omega
end
end M1
namespace M1
/-! ### how many sorted rows there are (k00) -/
def cd (A : List Nat) : Nat := A.count 0 * 6 + A.count 1
theorem cnt_sum {A : List Nat} (h : ∀ x ∈ A, x < 3) : A.count 0 + A.count 1 + A.count 2 = A.length := by
  induction A with
  | nil => rfl
  | cons x A ih =>
    have := ih fun y hy => h y (List.mem_cons_of_mem _ hy)
    have hx := h x List.mem_cons_self
    rw [List.count_cons, List.count_cons, List.count_cons, List.length_cons]
    have : x = 0 ∨ x = 1 ∨ x = 2 := by omega
    rcases this with e | e | e <;> subst e <;> simp <;> omega
theorem cd_lt {A : List Nat} (h : ∀ x ∈ A, x < 3) (hl : A.length ≤ 5) : cd A < 36 := by
  have := cnt_sum h
  unfold cd
  omega
theorem cd_inj {A B : List Nat} (hA : ∀ x ∈ A, x < 3) (hB : ∀ x ∈ B, x < 3) (la : A.length ≤ 5) (hl : A.length = B.length) (sA : A.Pairwise (· ≤ ·)) (sB : B.Pairwise (· ≤ ·)) (h : cd A = cd B) : A = B := by
  have h1 := cnt_sum hA
  have h2 := cnt_sum hB
  unfold cd at h
  have c0 : A.count 0 = B.count 0 := by omega
  have c1 : A.count 1 = B.count 1 := by omega
  have c2 : A.count 2 = B.count 2 := by omega
  refine sorted_eq (List.perm_iff_count.mpr fun a => ?_) sA sB
  by_cases ha : a < 3
  · have : a = 0 ∨ a = 1 ∨ a = 2 := by omega
    rcases this with e | e | e <;> subst e <;> assumption
  · rw [List.count_eq_zero.mpr fun z => ha (hA a z), List.count_eq_zero.mpr fun z => ha (hB a z)]
structure Row3 (c : Nat) (A : List Nat) : Prop where
  lt : ∀ x ∈ A, x < 3
  len : A.length = c
  srt : A.Pairwise (· ≤ ·)
theorem rows_few {c : Nat} (hc : c ≤ 5) {Bs : List (List Nat)} (hn : Bs.Nodup) (h : ∀ B ∈ Bs, Row3 c B) : Bs.length ≤ 36 := by
  have hnd : (Bs.map cd).Nodup := by
    rw [List.nodup_iff_pairwise_ne, List.pairwise_map]
    refine hn.imp_of_mem fun {a b} ha hb hne e => hne ?_
    exact cd_inj (h a ha).lt (h b hb).lt (by rw [(h a ha).len]; exact hc) (by rw [(h a ha).len, (h b hb).len]) (h a ha).srt (h b hb).srt e
  have := nodup_le hnd (m := List.range 36) fun x hx => by
    obtain ⟨B, hB, rfl⟩ := List.mem_map.mp hx
    exact List.mem_range.mpr (cd_lt (h B hB).lt (by rw [(h B hB).len]; exact hc))
  rwa [List.length_map, List.length_range] at this
structure Cfg3 (c : Nat) (x : Cfg) : Prop where
  r : x.1 < 3
  A : Row3 c x.2.1
  n : x.2.2 ≤ 3
theorem cfgs_few {c : Nat} (hc : c ≤ 5) {fs : List Cfg} (hn : fs.Nodup) (h : ∀ x ∈ fs, Cfg3 c x) : fs.length ≤ 432 := by
  have lt : ∀ x ∈ fs, cd x.2.1 < 36 := fun x hx => cd_lt (h x hx).A.lt (by rw [(h x hx).A.len]; exact hc)
  have hnd : (fs.map fun x => (x.1 * 36 + cd x.2.1) * 4 + x.2.2).Nodup := by
    rw [List.nodup_iff_pairwise_ne, List.pairwise_map]
    refine hn.imp_of_mem fun {a b} ha hb hne e => hne ?_
    have h1 := lt a ha
    have h2 := lt b hb
    have h3 := (h a ha).n
    have h4 := (h b hb).n
    have e1 : a.2.2 = b.2.2 := by omega
    have e2 : cd a.2.1 = cd b.2.1 := by omega
    have e3 : a.1 = b.1 := by omega
    have e4 := cd_inj (h a ha).A.lt (h b hb).A.lt (by rw [(h a ha).A.len]; exact hc) (by rw [(h a ha).A.len, (h b hb).A.len]) (h a ha).A.srt (h b hb).A.srt e2
    exact Prod.ext e3 (Prod.ext e4 e1)
  have := nodup_le hnd (m := List.range 432) fun y hy => by
    obtain ⟨x, hx, rfl⟩ := List.mem_map.mp hy
    have h1 := lt x hx
    have h2 := (h x hx).r
    have h3 := (h x hx).n
    exact List.mem_range.mpr (by omega)
  rwa [List.length_map, List.length_range] at this
theorem Mach.Snd.up {M : Mach} {c p g N N' : Nat} {x : Cfg} {w : List Nat} {S : List Strk} (h : M.Snd c p g N x w S) (hN : N ≤ N') : M.Snd c p g N' x w S := ⟨h.lw, Nat.le_trans h.wl hN, h.str, h.few, h.gap, h.far, h.n1, h.ng, h.r, h.A⟩
theorem Mach.Snd.cfg3 {M : Mach} (ok : M.Ok) (h3 : M.st.length ≤ 3) {c p g N : Nat} (hg : g ≤ 3) {x : Cfg} {w : List Nat} {S : List Strk} (h : M.Snd c p g N x w S) : Cfg3 c x := by
  obtain ⟨a1, a2, a3, a4⟩ := h.lts ok
  exact ⟨by omega, ⟨fun y hy => by have := a3 y hy; omega, a2, a4⟩, by have := h.ng; omega⟩
end M1
/-! math.comb of small numbers; a tuple as often as one likes, none too. -/
namespace L2
open PySem PySem.Spec PyProof.Rows
def rComb : List V → Hp → VK → Prop := fun vs H Q => ∃ a b : Nat, vs = [.int (a : Int), .int (b : Int)] ∧ a ≤ 25 ∧ b ≤ 25 ∧ Q (.int ((M1.cho a b : Nat) : Int)) H
theorem comb_cho : ∀ a : Nat, a < 26 → ∀ b : Nat, b < 26 → PySem.W.mcComb (a : Int) (b : Int) = ((M1.cho a b : Nat) : Int) := by decide +kernel
theorem cr_comb {X : Cx} : CallR X (.builtin "math.comb") rComb := by
  intro pins s σ H vs us Q I r h
  obtain ⟨a, b, rfl, ha, hb, q⟩ := h
  obtain ⟨t, u, rfl⟩ := Vals.int2 r
  refine PySem.W.mc_comb_v (c := ((M1.cho a b : Nat) : Int)) (by omega) (by omega) (by omega) (.inl (by omega)) (comb_cho a (by omega) b (by omega)) ⟨.int _, H, I.tok _, ⟨_, rfl⟩, q⟩
theorem cho_max : ∀ a, a < 26 → ∀ b, b < 26 → M1.cho a b ≤ 33554432 := by decide +kernel
theorem cr_sumK {X : Cx} {K : PySem.W.Frag} (hK : X.K = K) (hc : X.calm = true) : CallR X (.builtin "sum") (rSum K) := by
  subst hK
  exact cr_sum hc
theorem tuple_zero (l : Addr) (items : Array Value) (n : Nat) (dd : Option Addr) (sl : Array (Option Value)) (u : Tok) (c1 : items.isEmpty = false) : Meets (Builtin.«tuple.__mul__» ⟨[.ref l, .int 0 u], []⟩) (fun _ R s =>
      s.heap.get? l = some { cls := .type "tuple", dict := dd, data := .seq items n, slots := sl } ∧ R (.ok (.ret (Value.ref s.heap.objs.size))) { s with heap := s.heap.push { cls := Value.type "tuple", data := Data.seq #[] }, toks := s.toks }) :=
  .of_wp fun prog w A R s h => by
    obtain ⟨hp, g, d, tk, os⟩ := s
    obtain ⟨hl, h⟩ := h
    have f1 := AutoSeq1.idx_int
    wp_walk using wpAny_loadPart' hl
    all_goals exact ⟨_, rfl, h⟩
def rRepV (K : PySem.W.Frag) : R2 := fun x y H Q => ∃ l k xs, x = .ref l ∧ y = .int k ∧ SqT K H l xs ∧ xs ≠ [] ∧ 0 ≤ k ∧ k ≤ 4000 ∧ xs.length ≤ 100 ∧ ∀ p H2, Evl.Ex H H2 → SqT K H2 p (List.replicate k.toNat xs).flatten → Q (.ref p) H2
theorem op_repV {X : Cx} {K : PySem.W.Frag} (hK : X.K = K) : OpR X (binaryOp .Mult) (rRepV K) := by
  subst hK
  intro pins s σ H x y v u Q I rx ry h
  obtain ⟨l, k, xs, rfl, rfl, hT, hne, h1, h2, hz, q⟩ := h
  by_cases h0 : k = 0
  · subst h0
    cases rx
    obtain ⟨t, rfl⟩ := ry
    obtain ⟨its, r, ⟨⟨cls, dd, data, sl⟩, ho, hc, n, hd⟩, hs⟩ := I.tuple hT
    simp only at hc hd
    subst hc hd
    have hle : xs.length = its.length := r.length
    have hn : its.toArray.isEmpty = false := by
      cases its with
      | nil => exact absurd (List.eq_nil_of_length_eq_zero hle) hne
      | cons _ _ => rfl
    refine wpAny_binaryOp_repeat_ref (T := "tuple") (U := "int") (by decide) ⟨_, ho, rfl⟩ (fun s' => typeIs_int s' 0 t) noFill_tuple_mul F.fills_int_mul F.slot_int_rmul repeat_tuple F.slot_int_index.lookup
      (call_meets F.slot_int_rmul (typeIs_int s _ t) F.entry_int_rmul (F.args_int_rmul_2 _ _) (int_rmul_tuple _ t l its.toArray n dd sl) ⟨ho, rfl, ⟨_, ho, rfl⟩, call_meets F.slot_tuple_mul ⟨_, ho, rfl⟩ F.entry_tuple_mul (F.args_tuple_mul_2 _ _) (tuple_zero l its.toArray n dd sl t hn) ⟨ho, ?_⟩⟩)
    have fn := I.hok.fresh (Nat.le_refl s.heap.objs.size)
    refine ⟨.ref s.heap.objs.size, _, I.laid (t' := s.toks) (o := .tup []) (fun b ob q => Heap.get?_push_of_some _ q) (Nat.le_refl _) ?_, rfl, q _ _ (Evl.Ex.new fn) (SqT.of upd_same)⟩
    exact ⟨Nat.zero_le _, [], .nil, IsTup.new _ _⟩
  · exact op_repU rfl pins s σ H _ _ v u Q I rx ry ⟨l, k, xs, rfl, rfl, hT, hne, by omega, h2, hz, q⟩
end L2
/-! dicts with nested tuples as keys: a display of one pair, in, a new key's store; a display of one pair whose key is a tuple. -/
namespace L2
open PySem PySem.Spec PyProof.Rows
def DKN (K : PySem.W.Frag) (H : Hp) (kvs : List (NestedKey × Addr × V)) : Prop := ∀ q ∈ kvs, NKey K H (.ref q.2.1) q.1 ∧ q.1.depth ≤ 8
section
variable {X : Cx} {pinz : List (Addr × Obj)} {σ : St} {H : Hp} {s : Shared} {a b : Addr} {A : Around} {E : Value → Shared → Prop}
theorem dn_notIn {kvs : List (NestedKey × Addr × V)} {k : NestedKey} {Q : Value → Shared → Prop} (hu : A.units + 9 < cLine) (I : Inv X pinz σ H s) (e : H a = some (DictN X.prog X.w a kvs)) (hk : DKN X.K H kvs) (ky : NKey X.K H (.ref b) k) (kd : k.depth ≤ 8)
    (h : ∀ s', Inv X pinz σ H s' → Q (.bool (!(atN kvs k).isSome)) s') : wpAny (model X.prog X.w) A (compareOp .NotIn (.ref b) (.ref a)) Q E s := by
  obtain ⟨hd, z, xs, rel, dd⟩ := dictN_get I e hk
  have rl := atN_rel rel k
  refine PyProof.Rows.wpAny_notIn_heap (knd := nestedKind X.prog X.w) (show A.in1.units + 8 < cLine from by show A.units + 1 + 8 < cLine; omega) ⟨NKey.is I _ _ _ ky rfl, kd⟩ hd dd ?_
  have e2 : (atKey xs k).isSome = (atN kvs k).isSome := by
    cases h1 : atKey xs k with
    | none => rw [h1] at rl; cases q0 : atN kvs k with
      | none => rfl
      | some v => rw [q0] at rl; exact (show False from rl).elim
    | some p => rw [h1] at rl; cases q0 : atN kvs k with
      | some v => rfl
      | none => rw [q0] at rl; exact (show False from rl).elim
  rw [e2]
  exact h _ (I.tok _)
theorem dn_put {kvs : List (NestedKey × Addr × V)} {k : NestedKey} {d : V} {r : Value} {Q : Unit → Shared → Prop} (hu : A.units + 9 < cLine) (I : Inv X pinz σ H s) (e : H a = some (DictN X.prog X.w a kvs)) (hk : DKN X.K H kvs) (ky : NKey X.K H (.ref b) k) (kd : k.depth ≤ 8) (rd : RelV d r) (hn : atN kvs k = none) (hl : kvs.length < sizeLine)
    (h : ∀ s', Inv X pinz σ (upd H a (DictN X.prog X.w a (kvs ++ [(k, b, d)]))) s' → Q () s') : wpAny (model X.prog X.w) A (setItem (.ref a) (.ref b) r) Q E s := by
  obtain ⟨hd, z, xs, rel, dd⟩ := dictN_get I e hk
  have wz : xs.length ≤ sizeLine := by rw [← Paired.length rel]; exact z
  have rl := atN_rel rel k
  refine wpAny_setItem_heap (hsz := wz) (knd := nestedKind X.prog X.w) (show A.in1.units + 8 < cLine from by show A.units + 1 + 8 < cLine; omega) ⟨NKey.is I _ _ _ ky rfl, kd⟩ dd fun h' dd' hs => ?_
  have hn2 : atKey xs k = none := by
    cases h1 : atKey xs k with
    | none => rfl
    | some p => rw [h1, hn] at rl; exact (show False from rl).elim
  rw [storedH_new hn2] at dd'
  have he : ∃ q, h'.get? a = some q := let ⟨q, _, _, wq, _⟩ := dd'; ⟨q, wq⟩
  refine h _ (d_write (t' := s.toks + (nestedKind X.prog X.w).draws k) I (by rw [e]; exact True.intro) hs he (dictN_ok hd ?_ (Paired.snoc rel ⟨rfl, rfl, rd⟩) dd'))
  rw [List.length_append]
  exact hl
end
def tDNotInNk (K : PySem.W.Frag) (P : Program) (w : World) (ty td : TE) : TE := fun σ H Q => ty σ H fun y H1 => td σ H1 fun x H2 => ∃ (a b : Addr) (kvs : List (NestedKey × Addr × V)) (k : NestedKey), x = .ref a ∧ y = .ref b ∧ H2 a = some (DictN P w a kvs) ∧ DKN K H2 kvs ∧ NKey K H2 (.ref b) k ∧ k.depth ≤ 8 ∧ Q (.bl (!(atN kvs k).isSome)) H2
theorem pc_dnotinNk {X : Cx} {i o : Expr} {ty td : TE} (hu : X.A.units + 9 < cLine) (hi : PE X i ty) (ho : PE X o td) : PC X .NotIn i o (tDNotInNk X.K X.prog X.w ty td) := by
  refine ⟨fun pins s σ H Q I h => ?_⟩
  refine thn (hi.run pins s σ H _ I h) fun iv s1 ⟨y, H1, I1, ry, q1⟩ => thn (ho.run pins s1 σ H1 _ I1 q1) fun u s2 ⟨x, H2, I2, rx, a, b, kvs, k, ex, ey, e, hk, ky, kd, q2⟩ => ?_
  subst ex ey
  obtain rfl : u = Value.ref a := rx
  obtain rfl : iv = Value.ref b := ry
  exact dn_notIn hu I2 e hk ky kd fun s3 I3 => ⟨.bl (!(atN kvs k).isSome), H2, I3, rfl, q2⟩
def sDPutN (K : PySem.W.Frag) (P : Program) (w : World) (td ty tv : TE) : TS := fun D σ H => tv σ H fun v H1 => td σ H1 fun x H2 => ty σ H2 fun y H3 => ∃ (a b : Addr) (kvs : List (NestedKey × Addr × V)) (k : NestedKey), x = .ref a ∧ y = .ref b ∧ H3 a = some (DictN P w a kvs) ∧ DKN K H3 kvs ∧ NKey K H3 (.ref b) k ∧ k.depth ≤ 8 ∧ atN kvs k = none ∧ kvs.length < sizeLine ∧ D.nx σ (upd H3 a (DictN P w a (kvs ++ [(k, b, v)])))
theorem ps_dputN {X : Cx} {o i value : Expr} {td ty tv : TE} {pos' pos : Pos} (hu : X.A.units + 9 < cLine) (ho : PE X o td) (hi : PE X i ty) (hv : PE X value tv) (hs : swapsWith value (some (.Subscript o i pos')) pos.line X.env = pure false) :
    PS X (.Assign [.Subscript o i pos'] value pos) (sDPutN X.K X.prog X.w td ty tv) := by
  refine ⟨fun pins s σ H D I h => ?_⟩
  refine wpAny_Assign_Subscript (thn (hv.run pins s σ H _ I h) fun r s1 ⟨v, H1, I1, rv, q1⟩ => thn (ho.run pins s1 σ H1 _ I1 q1) fun u s2 ⟨x, H2, I2, rx, q2⟩ => thn (hi.run pins s2 σ H2 _ I2 q2) fun iv s3 ⟨y, H3, I3, ry, a, b, kvs, k, ex, ey, e, hk, ky, kd, hn, hl, q3⟩ => ?_) hs
  subst ex ey
  obtain rfl : u = Value.ref a := rx
  obtain rfl : iv = Value.ref b := ry
  exact dn_put hu I3 e hk ky kd rv hn hl fun s4 I4 => ⟨σ, _, I4, q3⟩
/-- {k: v}, k a nested tuple -/
def tDispN (K : PySem.W.Frag) (P : Program) (w : World) (tk tv : TE) : TE := fun σ H Q => ∀ p, H p = none → tk σ (upd H p (DictN P w p [])) fun y H1 => tv σ H1 fun z H2 => ∃ (b : Addr) (k : NestedKey), y = .ref b ∧ H2 p = some (DictN P w p []) ∧ NKey K H2 (.ref b) k ∧ k.depth ≤ 8 ∧ Q (.ref p) (upd H2 p (DictN P w p [(k, b, z)]))
theorem wp_disp1 {prog : Program} {w : World} {κ : Type} [DecidableEq κ] {knd : HeapKind prog w κ} {A : Around} {E : Value → Shared → Prop} {s : Shared} {k v : Expr} {env : Env} {pos : Pos} {Q : Value → Shared → Prop} (hu : knd.room A)
    (h : wpAny (model prog w) A (eval k env) (fun kv s₁ => wpAny (model prog w) A (eval v env) (fun vv s₂ => ∃ x b, kv = .ref b ∧ knd.is s₂.heap x b ∧ s₂.heap.DictOfH knd s.heap.objs.size [] ∧
      ∀ h' tk, h'.DictOfH knd s.heap.objs.size [(x, b, vv)] → Heap.SameBut s.heap.objs.size s₂.heap h' → Q (.ref s.heap.objs.size) { s₂ with heap := h', toks := tk }) E s₁) E
      { s with heap := s.heap.push { cls := .type "dict", data := .dict #[] } }) : wpAny (model prog w) A (eval (.Dict [some k] [v] pos) env) Q E s := by
  have hshape : (evalEachOpt [some k] env).zip ((evalEach [v] env).map fun v => do let x ← v; standAt pos; pure x) = [(eval k env, (do let x ← eval v env; standAt pos; pure x : Sem Value))].map fun p => (some p.1, p.2) := by
    rfl
  rw [arm_eval_Dict, hshape, dictDisplay_pairs _ (by simp) (by simp)]
  refine wpAny_bind (wpAny_standAt (wpAny_bind (wpAny_subDictH (knd := knd) (Q := fun d s' => wpAny (model prog w) A (pure (Value.ref d)) Q E s') hu (by simp) ?_)))
  refine evalPairs_cons (wpAny_mono h (fun kv s₁ h₁ => wpAny_bind (wpAny_mono h₁ (fun vv s₂ h₂ => wpAny_bind (wpAny_standAt (wpAny_pure (evalPairs_nil ?_)))) fun _ _ e => e)) fun _ _ e => e)
  obtain ⟨x, b, rfl, h1, h2, h3⟩ := h₂
  exact ⟨[(x, b, vv)], ⟨rfl, rfl, h1, trivial⟩, h2, fun h' tk dd hs => wpAny_pure (h3 h' tk dd hs)⟩
theorem pe_dispN {X : Cx} {pos : Pos} {k v : Expr} {tk tv : TE} (hu : X.A.units + 9 < cLine) (hk : PE X k tk) (hv : PE X v tv) : PE X (.Dict [some k] [v] pos) (tDispN X.K X.prog X.w tk tv) := by
  refine ⟨fun pins s σ H Q I q => ?_⟩
  have hn := I.hok.fresh (Nat.le_refl s.heap.objs.size)
  have hb : (s.heap.objs.size == sysModules) = false := by have := I.big; exact beq_eq_false_iff_ne.mpr (Nat.ne_of_gt this)
  have I1 := I.laid (a := s.heap.objs.size) (o := DictN X.prog X.w s.heap.objs.size []) (h' := s.heap.push { cls := .type "dict", data := .dict #[] }) (t' := s.toks) (fun _ _ q => Heap.get?_push_of_some _ q) (Nat.le_refl _) (dictN_ok hb (Nat.zero_le _) .nil (Heap.DictOfH.new s.heap))
  refine wp_disp1 (knd := nestedKind X.prog X.w) (show X.A.units + 8 < cLine by omega) (thn (hk.run pins _ σ _ _ I1 (q _ hn)) fun kv s1 ⟨y, H1, J1, ry, q1⟩ => thn (hv.run pins s1 σ H1 _ J1 q1) fun vv s2 ⟨z, H2, J2, rz, b, x, ey, e, ky, kd, q2⟩ => ?_)
  subst ey
  obtain rfl : kv = Value.ref b := ry
  obtain ⟨hd, _, xs, rel, dd⟩ := dictN_get J2 e (fun _ h => by simp at h)
  cases rel
  refine ⟨x, b, rfl, ⟨NKey.is J2 _ _ _ ky rfl, kd⟩, dd, fun h' tk dd' hs => ⟨.ref s.heap.objs.size, _, ?_, rfl, q2⟩⟩
  have he : ∃ q, h'.get? s.heap.objs.size = some q := let ⟨q, _, _, hq, _⟩ := dd'; ⟨q, hq⟩
  exact d_write J2 (by rw [e]; exact True.intro) hs he (dictN_ok hd (by rw [sizeLine_eq]; show 1 ≤ _; omega) (.cons ⟨rfl, rfl, rz⟩ .nil) dd')
/-- {k: v}, k a tuple -/
def tDispT (tk tv : TE) : TE := fun σ H Q => ∀ p, H p = none → tk σ (upd H p (.dT [])) fun y H1 => tv σ H1 fun z H2 => ∃ (b : Addr) (k : List Key), y = .ref b ∧ H2 p = some (.dT []) ∧ H2 b = some (.tup (k.map kV)) ∧ Q (.ref p) (upd H2 p (.dT [(k, z)]))
theorem pe_dispT {X : Cx} {pos : Pos} {k v : Expr} {tk tv : TE} (hu : X.A.units + 1 < cLine) (hk : PE X k tk) (hv : PE X v tv) : PE X (.Dict [some k] [v] pos) (tDispT tk tv) := by
  refine ⟨fun pins s σ H Q I q => ?_⟩
  have hn := I.hok.fresh (Nat.le_refl s.heap.objs.size)
  have I1 := I.laid (a := s.heap.objs.size) (o := .dT []) (h' := s.heap.push { cls := .type "dict", data := .dict #[] }) (t' := s.toks) (fun _ _ q => Heap.get?_push_of_some _ q) (Nat.le_refl _) (dt_empty s.heap I.big)
  refine wp_disp1 (knd := tupleKind (mixKind X.prog X.w)) (show X.A.units < cLine by omega) (thn (hk.run pins _ σ _ _ I1 (q _ hn)) fun kv s1 ⟨y, H1, J1, ry, q1⟩ => thn (hv.run pins s1 σ H1 _ J1 q1) fun vv s2 ⟨z, H2, J2, rz, b, x, ey, e, ky, q2⟩ => ?_)
  subst ey
  obtain rfl : kv = Value.ref b := ry
  obtain ⟨_, hd, xs, rel, dd⟩ := dt_of J2.hok e
  cases rel
  refine ⟨x, b, rfl, key_of J2.hok ky, dd, fun h' tk dd' hs => ⟨.ref s.heap.objs.size, _, ?_, rfl, q2⟩⟩
  obtain ⟨o, es, ep, ho, c2, c3, c4, _, c5⟩ := dd'
  refine d_write J2 (by rw [e]; exact True.intro) hs ⟨o, ho⟩ ⟨by rw [sizeLine_eq]; show 1 ≤ _; omega, hd, [(x, b, vv)], .cons ⟨rfl, ?_, rz⟩ .nil, o, es, ep, ho, c2, c3, c4, c5⟩
  show upd H2 _ _ b = _
  rw [upd_ne (ne_of ky e (fun z => nomatch z))]
  exact ky
def rRepX (K : PySem.W.Frag) : R2 := fun x y H Q => ∃ l k xs, x = .ref l ∧ y = .int k ∧ H l = some (.tup xs) ∧ xs ≠ [] ∧ 1 ≤ k ∧ k ≤ 4000 ∧ xs.length ≤ 100 ∧ ∀ p H2, Evl.Ex H H2 → H2 p = some (.tup (List.replicate k.toNat xs).flatten) → Q (.ref p) H2
section
variable {X : Cx} {K : PySem.W.Frag}
theorem op_repX (hK : X.K = K) : OpR X (binaryOp .Mult) (rRepX K) := by
  subst hK
  intro pins s σ H x y v u Q I rx ry h
  obtain ⟨l, k, xs, rfl, rfl, hTx, hne, h1, h2, hz, q⟩ := h
  have hT : SqT X.K H l xs := SqT.of hTx
  cases rx
  obtain ⟨t, rfl⟩ := ry
  obtain ⟨its, r, ⟨⟨cls, dd, data, sl⟩, ho, hc, n, hd⟩, hs⟩ := I.tuple hT
  simp only at hc hd
  subst hc hd
  have hle : xs.length = its.length := r.length
  have hn : its.toArray.isEmpty = false := by
    cases its with
    | nil => exact absurd (List.eq_nil_of_length_eq_zero hle) hne
    | cons _ _ => rfl
  have big : k.toNat * its.length ≤ 4000 * 100 := Nat.mul_le_mul (by omega) (by omega)
  have flen : (List.replicate k.toNat its).flatten.length ≤ sizeLine := by rw [PyProof.Rows.lm_len_rep_flat, sizeLine_eq]; omega
  have prod : ((its.toArray.size : Nat) : Int) * k ≤ 400000 := by
    rw [List.size_toArray]
    have : ((k.toNat * its.length : Nat) : Int) ≤ 400000 := Int.ofNat_le.mpr big
    rw [Int.natCast_mul, Int.toNat_of_nonneg (by omega), Int.mul_comm] at this
    exact this
  by_cases e : k = 1
  · subst e
    refine wpAny_binaryOp_repeat_ref (T := "tuple") (U := "int") (by decide) ⟨_, ho, rfl⟩ (fun s' => typeIs_int s' 1 t) noFill_tuple_mul F.fills_int_mul F.slot_int_rmul repeat_tuple F.slot_int_index.lookup
      (call_meets F.slot_int_rmul (typeIs_int s _ t) F.entry_int_rmul (F.args_int_rmul_2 _ _) (int_rmul_tuple _ t l its.toArray n dd sl) ⟨ho, rfl, ⟨_, ho, rfl⟩, call_meets F.slot_tuple_mul ⟨_, ho, rfl⟩ F.entry_tuple_mul (F.args_tuple_mul_2 _ _) (tuple_once l its.toArray n dd sl t) ⟨ho, ?_⟩⟩)
    refine ⟨.ref l, H, I, rfl, q l H (fun _ _ q => q) ?_⟩
    rw [show (List.replicate (1 : Int).toNat xs).flatten = xs by simp]
    exact hTx
  · have c0 : (decide (k < -(2 ^ 63)) || decide (k ≥ 2 ^ 63)) = false := by
      rw [Bool.or_eq_false_iff]
      exact ⟨decide_eq_false (by omega), decide_eq_false (by omega)⟩
    have c1 : (its.toArray.isEmpty || k == 1) = false := by rw [hn, Bool.false_or]; exact beq_eq_false_iff_ne.mpr e
    have c2 : (decide (k ≤ 0) || its.toArray.isEmpty) = false := by rw [hn, Bool.or_false]; exact decide_eq_false (by omega)
    have c4 : Builtin.Tuple.tupleTooMany (((its.toArray.size : Nat) : Int) * k) = false := by unfold Builtin.Tuple.tupleTooMany; rw [sizeLine_eq]; exact decide_eq_false (by omega)
    refine wpAny_binaryOp_repeat_ref (T := "tuple") (U := "int") (by decide) ⟨_, ho, rfl⟩ (fun s' => typeIs_int s' k t) noFill_tuple_mul F.fills_int_mul F.slot_int_rmul repeat_tuple F.slot_int_index.lookup
      (call_meets F.slot_int_rmul (typeIs_int s _ t) F.entry_int_rmul (F.args_int_rmul_2 _ _) (int_rmul_tuple _ t l its.toArray n dd sl) ⟨ho, rfl, ⟨_, ho, rfl⟩, call_meets F.slot_tuple_mul ⟨_, ho, rfl⟩ F.entry_tuple_mul (F.args_tuple_mul_2 _ _) (tuple_mulW l its.toArray n dd sl k t c0 c1 c2 (by omega) c4 (by rw [size_rep, List.size_toArray]; exact flen)) ⟨ho, ?_⟩⟩)
    rw [size_rep]
    have fn := I.hok.fresh (Nat.le_refl s.heap.objs.size)
    refine ⟨.ref s.heap.objs.size, _, I.laid (t' := s.toks) (o := .tup (List.replicate k.toNat xs).flatten) (fun b ob q => Heap.get?_push_of_some _ q) (Nat.le_refl _) ?_, rfl, q _ _ (Evl.Ex.new fn) upd_same⟩
    exact ⟨by rw [PyProof.Rows.lm_len_rep_flat, sizeLine_eq, hle]; omega, _, r.rep k.toNat, IsTup.new _ _⟩
end
theorem cr_sortTK {X : Cx} {K : PySem.W.Frag} {d : Nat} {B : Int} (hK : X.K = K) (hd : 1 ≤ d) : CallR X (.builtin "sorted") (rSortU K d B) := by
  subst hK
  exact cr_sortT hd
end L2
namespace Kx
open PySem PySem.Spec PyProof.Rows L2

def top (i : Nat) : Stmt := PySem.Challenge.pw_pushedclerks_k00_whole_law.main.body.getD i (.Pass ⟨0, 0, 0, 0⟩)
abbrev s_is_integer : Stmt := top 11
abbrev N_is_integer : List Str := ["value", "low", "high"]
theorem sc_is_integer : FnScope N_is_integer ["value", "low", "high"] (defScope s_is_integer) := ⟨rfl, rfl, rfl, by decide +kernel, rfl, by decide +kernel, by decide +kernel⟩
abbrev s_is_tuple : Stmt := top 12
abbrev N_is_tuple : List Str := ["value", "low", "high"]
theorem sc_is_tuple : FnScope N_is_tuple ["value", "low", "high"] (defScope s_is_tuple) := ⟨rfl, rfl, rfl, by decide +kernel, rfl, by decide +kernel, by decide +kernel⟩
abbrev s_is_row : Stmt := top 13
abbrev N_is_row : List Str := ["value", "greatest", "item"]
theorem sc_is_row : FnScope N_is_row ["value", "greatest"] (defScope s_is_row) := ⟨rfl, rfl, rfl, by decide +kernel, rfl, by decide +kernel, by decide +kernel⟩
abbrev s_is_table : Stmt := top 14
abbrev N_is_table : List Str := ["value", "height", "width", "greatest", "row"]
theorem sc_is_table : FnScope N_is_table ["value", "height", "width", "greatest"] (defScope s_is_table) := ⟨rfl, rfl, rfl, by decide +kernel, rfl, by decide +kernel, by decide +kernel⟩
abbrev s_is_steps : Stmt := top 15
abbrev N_is_steps : List Str := ["value"]
theorem sc_is_steps : FnScope N_is_steps ["value"] (defScope s_is_steps) := ⟨rfl, rfl, rfl, by decide +kernel, rfl, by decide +kernel, by decide +kernel⟩
abbrev s_check_machine : Stmt := top 16
abbrev N_check_machine : List Str := ["machine", "steps", "told"]
theorem sc_check_machine : FnScope N_check_machine ["machine"] (defScope s_check_machine) := ⟨rfl, rfl, rfl, by decide +kernel, rfl, by decide +kernel, by decide +kernel⟩
abbrev s_check_number : Stmt := top 17
abbrev N_check_number : List Str := ["value", "low", "high"]
theorem sc_check_number : FnScope N_check_number ["value", "low", "high"] (defScope s_check_number) := ⟨rfl, rfl, rfl, by decide +kernel, rfl, by decide +kernel, by decide +kernel⟩
abbrev s_check_copies : Stmt := top 18
abbrev N_check_copies : List Str := ["copies"]
theorem sc_check_copies : FnScope N_check_copies ["copies"] (defScope s_check_copies) := ⟨rfl, rfl, rfl, by decide +kernel, rfl, by decide +kernel, by decide +kernel⟩
abbrev s_check_pushed : Stmt := top 19
abbrev N_check_pushed : List Str := ["pushed"]
theorem sc_check_pushed : FnScope N_check_pushed ["pushed"] (defScope s_check_pushed) := ⟨rfl, rfl, rfl, by decide +kernel, rfl, by decide +kernel, by decide +kernel⟩
abbrev s_check_room : Stmt := top 20
abbrev N_check_room : List Str := ["room"]
theorem sc_check_room : FnScope N_check_room ["room"] (defScope s_check_room) := ⟨rfl, rfl, rfl, by decide +kernel, rfl, by decide +kernel, by decide +kernel⟩
abbrev s_ways_to_states : Stmt := top 22
abbrev N_ways_to_states : List Str := ["machine", "ways", "waiting", "state", "letter", "after"]
theorem sc_ways_to_states : FnScope N_ways_to_states ["machine"] (defScope s_ways_to_states) := ⟨rfl, rfl, rfl, by decide +kernel, rfl, by decide +kernel, by decide +kernel⟩
abbrev s_unlike_letters : Stmt := top 23
abbrev N_unlike_letters : List Str := ["machine", "pairs", "told", "found", "one", "other", "letter", "answer"]
theorem sc_unlike_letters : FnScope N_unlike_letters ["machine", "pairs"] (defScope s_unlike_letters) := ⟨rfl, rfl, rfl, by decide +kernel, rfl, by decide +kernel, by decide +kernel⟩
abbrev s_pair_behind : Stmt := top 24
abbrev N_pair_behind : List Str := ["machine", "pair", "letter", "steps"]
theorem sc_pair_behind : FnScope N_pair_behind ["machine", "pair", "letter"] (defScope s_pair_behind) := ⟨rfl, rfl, rfl, by decide +kernel, rfl, by decide +kernel, by decide +kernel⟩
abbrev s_letters_into : Stmt := top 25
abbrev N_letters_into : List Str := ["machine", "pairs", "ends", "found", "pair", "letter"]
theorem sc_letters_into : FnScope N_letters_into ["machine", "pairs", "ends"] (defScope s_letters_into) := ⟨rfl, rfl, rfl, by decide +kernel, rfl, by decide +kernel, by decide +kernel⟩
abbrev s_late_layers : Stmt := top 26
abbrev N_late_layers : List Str := ["machine", "pairs", "layers", "layer", "one", "other"]
theorem sc_late_layers : FnScope N_late_layers ["machine"] (defScope s_late_layers) := ⟨rfl, rfl, rfl, by decide +kernel, rfl, by decide +kernel, by decide +kernel⟩
abbrev s_late_walk : Stmt := top 27
abbrev N_late_walk : List Str := ["machine", "layers", "walk", "pair", "layer"]
theorem sc_late_walk : FnScope N_late_walk ["machine"] (defScope s_late_walk) := ⟨rfl, rfl, rfl, by decide +kernel, rfl, by decide +kernel, by decide +kernel⟩
abbrev s_round_on : Stmt := top 28
abbrev N_round_on : List Str := ["walk", "places", "place", "pair", "_"]
theorem sc_round_on : FnScope N_round_on ["walk"] (defScope s_round_on) := ⟨rfl, rfl, rfl, by decide +kernel, rfl, by decide +kernel, by decide +kernel⟩
abbrev s_late : Stmt := top 29
abbrev N_late : List Str := ["machine", "walk"]
theorem sc_late : FnScope N_late ["machine"] (defScope s_late) := ⟨rfl, rfl, rfl, by decide +kernel, rfl, by decide +kernel, by decide +kernel⟩
abbrev s_forgets : Stmt := top 30
abbrev N_forgets : List Str := ["machine"]
theorem sc_forgets : FnScope N_forgets ["machine"] (defScope s_forgets) := ⟨rfl, rfl, rfl, by decide +kernel, rfl, by decide +kernel, by decide +kernel⟩
abbrev s_rounded_up : Stmt := top 32
abbrev N_rounded_up : List Str := ["top", "bottom"]
theorem sc_rounded_up : FnScope N_rounded_up ["top", "bottom"] (defScope s_rounded_up) := ⟨rfl, rfl, rfl, by decide +kernel, rfl, by decide +kernel, by decide +kernel⟩
abbrev s_copies_needed : Stmt := top 33
abbrev N_copies_needed : List Str := ["machine", "pushed", "room", "length"]
theorem sc_copies_needed : FnScope N_copies_needed ["machine", "pushed", "room"] (defScope s_copies_needed) := ⟨rfl, rfl, rfl, by decide +kernel, rfl, by decide +kernel, by decide +kernel⟩
abbrev s_are_enough : Stmt := top 34
abbrev N_are_enough : List Str := ["machine", "copies", "pushed", "room", "needed"]
theorem sc_are_enough : FnScope N_are_enough ["machine", "copies", "pushed", "room"] (defScope s_are_enough) := ⟨rfl, rfl, rfl, by decide +kernel, rfl, by decide +kernel, by decide +kernel⟩
abbrev s_law_taken : Stmt := top 36
abbrev N_law_taken : List Str := ["row", "many", "found", "cell"]
theorem sc_law_taken : FnScope N_law_taken ["row", "many"] (defScope s_law_taken) := ⟨rfl, rfl, rfl, by decide +kernel, rfl, by decide +kernel, by decide +kernel⟩
abbrev s_law_machine : Stmt := top 37
abbrev N_law_machine : List Str := ["row", "states", "letters", "many", "some", "kind", "steps", "told", "table", "state", "line", "letter", "there"]
theorem sc_law_machine : FnScope N_law_machine ["row", "states", "letters"] (defScope s_law_machine) := ⟨rfl, rfl, rfl, by decide +kernel, rfl, by decide +kernel, by decide +kernel⟩
abbrev s_law_comes : Stmt := top 38
abbrev N_law_comes : List Str := ["machine", "found", "turn", "more", "state"]
theorem sc_law_comes : FnScope N_law_comes ["machine"] (defScope s_law_comes) := ⟨rfl, rfl, rfl, by decide +kernel, rfl, by decide +kernel, by decide +kernel⟩
abbrev s_law_sets : Stmt := top 39
abbrev N_law_sets : List Str := ["machine", "here", "found", "right", "length", "later", "one", "other", "letter"]
theorem sc_law_sets : FnScope N_law_sets ["machine"] (defScope s_law_sets) := ⟨rfl, rfl, rfl, by decide +kernel, rfl, by decide +kernel, by decide +kernel⟩
abbrev s_law_late : Stmt := top 40
abbrev N_law_late : List Str := ["machine", "lengths", "at", "here", "one", "other"]
theorem sc_law_late : FnScope N_law_late ["machine"] (defScope s_law_late) := ⟨rfl, rfl, rfl, by decide +kernel, rfl, by decide +kernel, by decide +kernel⟩
abbrev s_law_needed : Stmt := top 41
abbrev N_law_needed : List Str := ["machine", "pushed", "room", "far", "times"]
theorem sc_law_needed : FnScope N_law_needed ["machine", "pushed", "room"] (defScope s_law_needed) := ⟨rfl, rfl, rfl, by decide +kernel, rfl, by decide +kernel, by decide +kernel⟩
abbrev s_law_alike : Stmt := top 42
abbrev N_law_alike : List Str := ["found", "due", "k"]
theorem sc_law_alike : FnScope N_law_alike ["found", "due"] (defScope s_law_alike) := ⟨rfl, rfl, rfl, by decide +kernel, rfl, by decide +kernel, by decide +kernel⟩
abbrev s_law_pushed : Stmt := top 43
abbrev N_law_pushed : List Str := ["states", "pushed", "many", "found", "turn", "some", "copy", "state"]
theorem sc_law_pushed : FnScope N_law_pushed ["states", "pushed", "many"] (defScope s_law_pushed) := ⟨rfl, rfl, rfl, by decide +kernel, rfl, by decide +kernel, by decide +kernel⟩
abbrev s_law_fails : Stmt := top 44
abbrev N_law_fails : List Str := ["machine", "copies", "pushed", "room", "many", "start", "found", "waits", "right", "states", "since", "some", "other", "later", "letter", "good", "there", "key", "state"]
theorem sc_law_fails : FnScope N_law_fails ["machine", "copies", "pushed", "room"] (defScope s_law_fails) := ⟨rfl, rfl, rfl, by decide +kernel, rfl, by decide +kernel, by decide +kernel⟩
abbrev s_law : Stmt := top 45
abbrev N_law : List Str := ["script", "row", "machine", "pushed", "room", "due", "copies", "enough"]
theorem sc_law : FnScope N_law ["script"] (defScope s_law) := ⟨rfl, rfl, rfl, by decide +kernel, rfl, by decide +kernel, by decide +kernel⟩
structure Txt (K : PySem.W.Frag) (mg : Str → Option Value) : Prop where
  b_all : mg "all" = none
  b_bool : mg "bool" = none
  b_enumerate : mg "enumerate" = none
  b_int : mg "int" = none
  b_isinstance : mg "isinstance" = none
  b_len : mg "len" = none
  b_list : mg "list" = none
  b_max : mg "max" = none
  b_min : mg "min" = none
  b_range : mg "range" = none
  b_reversed : mg "reversed" = none
  b_set : mg "set" = none
  b_sorted : mg "sorted" = none
  b_str : mg "str" = none
  b_tuple : mg "tuple" = none
  c_MOST_STATES : ∃ t, mg "MOST_STATES" = some (.int 6 t)
  c_MOST_LETTERS : ∃ t, mg "MOST_LETTERS" = some (.int 3 t)
  c_MOST_ANSWER : ∃ t, mg "MOST_ANSWER" = some (.int 9 t)
  c_MOST_COPIES : ∃ t, mg "MOST_COPIES" = some (.int 99 t)
  c_MOST_PUSHED : ∃ t, mg "MOST_PUSHED" = some (.int 9 t)
  c_GREATEST_ROOM : ∃ t, mg "GREATEST_ROOM" = some (.int 60 t)
theorem bt_all : bootBuiltins "all" = some (.builtin "all") := by decide +kernel
theorem bt_bool : bootBuiltins "bool" = some (.type "bool") := by decide +kernel
theorem bt_enumerate : bootBuiltins "enumerate" = some (.type "enumerate") := by decide +kernel
theorem bt_int : bootBuiltins "int" = some (.type "int") := by decide +kernel
theorem bt_isinstance : bootBuiltins "isinstance" = some (.builtin "isinstance") := by decide +kernel
theorem bt_len : bootBuiltins "len" = some (.builtin "len") := by decide +kernel
theorem bt_list : bootBuiltins "list" = some (.type "list") := by decide +kernel
theorem bt_max : bootBuiltins "max" = some (.builtin "max") := by decide +kernel
theorem bt_min : bootBuiltins "min" = some (.builtin "min") := by decide +kernel
theorem bt_range : bootBuiltins "range" = some (.type "range") := by decide +kernel
theorem bt_reversed : bootBuiltins "reversed" = some (.type "reversed") := by decide +kernel
theorem bt_set : bootBuiltins "set" = some (.type "set") := by decide +kernel
theorem bt_sorted : bootBuiltins "sorted" = some (.builtin "sorted") := by decide +kernel
theorem bt_str : bootBuiltins "str" = some (.type "str") := by decide +kernel
theorem bt_tuple : bootBuiltins "tuple" = some (.type "tuple") := by decide +kernel
open Evl
section
variable {P : Program} {w : World} {K : PySem.W.Frag} {mg : Str → Option Value} {base : Heap}
/-! ### the promises of the checks -/
def sp_is_integer : Sp := fun vs H Q _ => ∃ v lo hi : Int, vs = [.int v, .int lo, .int hi] ∧ ∀ H2, Ex H H2 → Q (.bl (decide (lo ≤ v) && decide (v ≤ hi))) H2
def sp_is_tuple (K : PySem.W.Frag) : Sp := fun vs H Q _ => ∃ (a : Addr) (xs : List V) (lo hi : Int), vs = [.ref a, .int lo, .int hi] ∧ SqT K H a xs ∧ lo ≤ xs.length ∧ xs.length ≤ hi ∧ ∀ H2, Ex H H2 → Q (.bl true) H2
def sp_is_row (K : PySem.W.Frag) : Sp := fun vs H Q _ => ∃ (a : Addr) (r : List Nat) (g : Int), vs = [.ref a, .int g] ∧ SqT K H a (rowV r) ∧ r.length ≤ 40000 ∧ (∀ x ∈ r, (x : Int) ≤ g) ∧ ∀ H2, Ex H H2 → Q (.bl true) H2
def sp_is_table (K : PySem.W.Frag) : Sp := fun vs H Q _ => ∃ (v : V) (t : List (List Nat)) (hg wd : Nat) (g : Int), vs = [v, .int hg, .int wd, .int g] ∧ TabAt K H v t ∧ t.length = hg ∧ hg ≤ 1000 ∧ wd ≤ 1000 ∧ (∀ r ∈ t, r.length = wd ∧ ∀ x ∈ r, (x : Int) ≤ g) ∧ ∀ H2, Ex H H2 → Q (.bl true) H2
def sp_is_steps (K : PySem.W.Frag) : Sp := fun vs H Q _ => ∃ (v : V) (M : M1.Mach), vs = [v] ∧ TabAt K H v M.st ∧ M.Ok ∧ ∀ H2, Ex H H2 → Q (.bl true) H2
def sp_check_machine (K : PySem.W.Frag) : Sp := fun vs H Q _ => ∃ (v : V) (M : M1.Mach), vs = [v] ∧ MacAt K H v M.st M.an ∧ M.Ok ∧ ∀ H2, Ex H H2 → Q .non H2
def sp_is_state (K : PySem.W.Frag) : Sp := fun vs H Q _ => ∃ (v : V) (M : M1.Mach) (i : Nat), vs = [v, .int i] ∧ MacAt K H v M.st M.an ∧ i < M.st.length ∧ ∀ H2, Ex H H2 → Q (.bl true) H2
def sp_check_state (K : PySem.W.Frag) : Sp := fun vs H Q _ => ∃ (v : V) (M : M1.Mach) (i : Nat), vs = [v, .int i] ∧ MacAt K H v M.st M.an ∧ i < M.st.length ∧ ∀ H2, Ex H H2 → Q .non H2
def sp_is_word (K : PySem.W.Frag) : Sp := fun vs H Q _ => ∃ (v : V) (M : M1.Mach) (a : Addr) (r : List Nat), vs = [v, .ref a] ∧ MacAt K H v M.st M.an ∧ M.Ok ∧ SqT K H a (rowV r) ∧ r.length ≤ 4000 ∧ (∀ x ∈ r, x < M.k) ∧ ∀ H2, Ex H H2 → Q (.bl true) H2
def sp_check_word (K : PySem.W.Frag) : Sp := fun vs H Q _ => ∃ (v : V) (M : M1.Mach) (a : Addr) (r : List Nat), vs = [v, .ref a] ∧ MacAt K H v M.st M.an ∧ M.Ok ∧ SqT K H a (rowV r) ∧ r.length ≤ 4000 ∧ (∀ x ∈ r, x < M.k) ∧ ∀ H2, Ex H H2 → Q .non H2

theorem has_is_integer (T : Txt K mg) {f : Addr} {fd : FuncData} (F : Fun K "is_integer" "is_integer" s_is_integer f fd) (g : mg "is_integer" = some (.ref f)) (B : Binds K fd ["value", "low", "high"] []) : Has P w K mg base "is_integer" 1 ["value", "low", "high"] sp_is_integer := by
  refine Has.mk' g F.kp B (F.ok sc_is_integer (fun vs H Q E h => ?_) (fun cdv A outer s H vs Q E hr h => ?_))
  · obtain ⟨v, lo, hi, rfl, _⟩ := h
    rfl
  · obtain ⟨v, lo, hi, rfl, k⟩ := h
    refine ⟨_, (pss_one (ps_ret (pe_and (pe_callB (call_isi1 (K := K) rfl) (by rfl) T.b_isinstance bt_isinstance (pa_cons (pv 0) (pa_cons (pe_bltn (v := .ty "int") (by rfl) T.b_int bt_int rfl) pa_nil))) (pe_and (pe_not (pe_callB (call_isi1 (K := K) rfl) (by rfl) T.b_isinstance bt_isinstance (pa_cons (pv 0) (pa_cons (pe_bltn (v := .ty "bool") (by rfl) T.b_bool bt_bool rfl) pa_nil)))) (pe_one (pe_chain op_le op_le (pv 1) (pv 0) (pv 2))))))), ?_⟩
    refine s_ret (ev_andV (a := true) (ev_isi (T := "int") (ev_var rfl) (fun _ _ => .base (.int _)) (by decide +kernel)) fun _ => ev_andV (a := true) (ev_notV (a := false) (ev_isi (T := "int") (ev_var rfl) (fun _ _ => .base (.int _)) (by decide +kernel))) fun _ =>
      ev_chainLe (ev_var rfl) (ev_var rfl) (ev_var rfl)) fun H1 e => ?_
    rw [Bool.true_and, Bool.true_and]
    exact k H1 e
theorem has_is_tuple (T : Txt K mg) {f : Addr} {fd : FuncData} (F : Fun K "is_tuple" "is_tuple" s_is_tuple f fd) (g : mg "is_tuple" = some (.ref f)) (B : Binds K fd ["value", "low", "high"] []) : Has P w K mg base "is_tuple" 1 ["value", "low", "high"] (sp_is_tuple K) := by
  refine Has.mk' g F.kp B (F.ok sc_is_tuple (fun vs H Q E h => ?_) (fun cdv A outer s H vs Q E hr h => ?_))
  · obtain ⟨a, xs, lo, hi, rfl, _⟩ := h
    rfl
  · obtain ⟨a, xs, lo, hi, rfl, hS, h1, h2, k⟩ := h
    refine ⟨_, (pss_one (ps_ret (pe_and (pe_callB (call_isi1 (K := K) rfl) (by rfl) T.b_isinstance bt_isinstance (pa_cons (pv 0) (pa_cons (pe_bltn (v := .ty "tuple") (by rfl) T.b_tuple bt_tuple rfl) pa_nil))) (pe_one (pe_chain op_le op_le (pv 1) (pe_callB (call_lenK (K := K) rfl) (by rfl) T.b_len bt_len (pa_cons (pv 0) pa_nil)) (pv 2)))))), ?_⟩
    refine s_ret (ev_andV (a := true) (ev_isi (T := "tuple") (ev_var rfl) (fun _ e => sqT_ty (ex_t e hS)) (by decide +kernel)) fun _ => ev_chainLe (ev_var rfl) (ev_lenT (ev_var rfl) hS) (ev_var rfl)) fun H1 e => ?_
    rw [decide_eq_true h1, decide_eq_true h2]
    exact k H1 e
theorem has_is_row (T : Txt K mg) (h_is_integer : Has P w K mg base "is_integer" 1 ["value", "low", "high"] sp_is_integer) {f : Addr} {fd : FuncData} (F : Fun K "is_row" "is_row" s_is_row f fd) (g : mg "is_row" = some (.ref f)) (B : Binds K fd ["value", "greatest"] []) : Has P w K mg base "is_row" 2 ["value", "greatest"] (sp_is_row K) := by
  refine Has.mk' g F.kp B (F.ok sc_is_row (fun vs H Q E h => ?_) (fun cdv A outer s H vs Q E hr h => ?_))
  · obtain ⟨a, r, g, rfl, _⟩ := h
    rfl
  · obtain ⟨a, r, g, rfl, hS, hl, hg, k⟩ := h
    refine ⟨_, (pss_one (ps_ret (pe_and (pe_callB (call_isi1 (K := K) rfl) (by rfl) T.b_isinstance bt_isinstance (pa_cons (pv 0) (pa_cons (pe_bltn (v := .ty "tuple") (by rfl) T.b_tuple bt_tuple rfl) pa_nil))) (pe_one (pe_callB (cr_all rfl) (by rfl) T.b_all bt_all (pa_cons (pe_lc (own := [("item", 2)]) (g := gName 2) (tt := tYes) (by rfl) sc_is_row.nd (pi_tupK (K := K) rfl (pv 0)) (blkOk_by (N := N_is_row) (sc := defScope s_is_row) (by decide +kernel)) (fun _ _ _ _ _ => pg_name (i := 2) sc_is_row.nd rfl (Or.inl rfl)) (fun _ _ _ _ _ => pts_nil) (fun _ _ _ _ _ => (pe_has h_is_integer (hr.mono (by first | decide | exact Nat.le_refl _)) (by rfl) (pa_cons (pv 2) (pa_cons pe_int (pa_cons (pv 1) pa_nil)))))) pa_nil)))))), ?_⟩
    refine s_ret (ev_andV (a := true) (b := true) (ev_isi (T := "tuple") (ev_var rfl) (fun _ e => sqT_ty (ex_t e hS)) (by decide +kernel)) fun _ =>
      ev_allN (n := (rowV r).length) (el_lcT (fun _ => .bl true) (ev_var rfl) hS (by rw [rowV_len]; exact hl) (fun _ => rfl) fun i x H1 e1 hx => ev_callV (ea_cons (ev_var rfl) (ea_cons ev_c (ea_cons (ev_var rfl) ea_nil))) fun H2 e2 Q q => ?_)) fun H1 e => k H1 e
    obtain ⟨n, hn, rfl⟩ : ∃ n, r[i]? = some n ∧ x = nV n := by
      unfold rowV at hx
      rw [List.getElem?_map] at hx
      cases e : r[i]? with
      | none => rw [e] at hx; cases hx
      | some n => rw [e] at hx; exact ⟨n, rfl, (Option.some.inj hx).symm⟩
    refine ⟨n, 0, g, rfl, fun H3 e3 => ?_⟩
    have h1 : (0 : Int) ≤ n := Int.natCast_nonneg n
    have h2 := hg n (List.mem_of_getElem? hn)
    rw [decide_eq_true h1, decide_eq_true h2]
    exact q H3 e3
theorem row0 {M : M1.Mach} (ok : M.Ok) : M.st[0]? = some (M.row 0) ∧ (M.row 0).length = M.k := ⟨M.row_at ok.n1, M.row_len ok ok.n1⟩
theorem has_is_table (T : Txt K mg) (h_is_tuple : Has P w K mg base "is_tuple" 1 ["value", "low", "high"] (sp_is_tuple K)) (h_is_row : Has P w K mg base "is_row" 2 ["value", "greatest"] (sp_is_row K)) {f : Addr} {fd : FuncData} (F : Fun K "is_table" "is_table" s_is_table f fd) (g : mg "is_table" = some (.ref f)) (B : Binds K fd ["value", "height", "width", "greatest"] []) :
    Has P w K mg base "is_table" 3 ["value", "height", "width", "greatest"] (sp_is_table K) := by
  refine Has.mk' g F.kp B (F.ok sc_is_table (fun vs H Q E h => ?_) (fun cdv A outer s H vs Q E hr h => ?_))
  · obtain ⟨v, t, hg, wd, g, rfl, _⟩ := h
    rfl
  · obtain ⟨v, t, hg, wd, g, rfl, ⟨a, vs, rfl, hS, hP⟩, hl, h1, h2, hx, k⟩ := h
    have hvl : vs.length = t.length := Paired.length hP
    refine ⟨_, (pss_cons (ps_if (pt_not (pt_val (pe_has h_is_tuple (hr.mono (by first | decide | exact Nat.le_refl _)) (by rfl) (pa_cons (pv 0) (pa_cons (pv 1) (pa_cons (pv 1) pa_nil))))))
      (pss_one (ps_ret pe_bl))
      pss_nil)
      (pss_one (ps_ret (pe_callB (cr_all rfl) (by rfl) T.b_all bt_all (pa_cons (pe_lc (own := [("row", 4)]) (g := gName 4) (tt := tYes) (by rfl) sc_is_table.nd (pi_tupK (K := K) rfl (pv 0)) (blkOk_by (N := N_is_table) (sc := defScope s_is_table) (by decide +kernel)) (fun _ _ _ _ _ => pg_name (i := 4) sc_is_table.nd rfl (Or.inl rfl)) (fun _ _ _ _ _ => pts_nil) (fun _ _ _ _ _ => (pe_and (pe_has h_is_row (hr.mono (by first | decide | exact Nat.le_refl _)) (by rfl) (pa_cons (pv 4) (pa_cons (pv 3) pa_nil))) (pe_one (pe_cmpR op_eq (pe_callB (call_lenK (K := K) rfl) (by rfl) T.b_len bt_len (pa_cons (pv 4) pa_nil)) (pv 2) (nomark _)))))) pa_nil))))), ?_⟩
    refine q_when (b := false) (et_not (a := true) (et_B (ev_callV (ea_cons (ev_var rfl) (ea_cons (ev_var rfl) (ea_cons (ev_var rfl) ea_nil))) fun H1 e1 Q q => ⟨a, vs, _, _, rfl, ex_t e1 hS, by omega, by omega, q⟩))) (fun z => by cases z) fun _ H1 e1 => ?_
    refine s_ret (ev_allN (n := vs.length) (el_lcT (fun _ => .bl true) (ev_var rfl) (ex_t e1 hS) (by omega) (fun _ => rfl) fun i x H2 e2 hx' => ?_)) fun H2 e2 => k H2 (e1.trans e2)
    obtain ⟨r, hr', b, rfl, hb⟩ := Paired.get' hP hx'
    have hm := hx r (List.mem_of_getElem? hr')
    have hb2 := ex_t (e1.trans e2) hb
    refine ev_is (ev_andV (a := true) (ev_callV (ea_cons (ev_var rfl) (ea_cons (ev_var rfl) ea_nil)) fun H3 e3 Q q => ⟨b, r, g, rfl, ex_t e3 hb2, by omega, hm.2, q⟩) fun _ => ev_op (ev_lenT (ev_var rfl) hb2) (ev_var rfl) (rv_eq rfl)) ?_
    rw [rowV_len, hm.1, decide_eq_true rfl]
    rfl
theorem has_is_steps (T : Txt K mg) (h_is_tuple : Has P w K mg base "is_tuple" 1 ["value", "low", "high"] (sp_is_tuple K)) (h_is_table : Has P w K mg base "is_table" 3 ["value", "height", "width", "greatest"] (sp_is_table K)) {f : Addr} {fd : FuncData} (F : Fun K "is_steps" "is_steps" s_is_steps f fd) (g : mg "is_steps" = some (.ref f)) (B : Binds K fd ["value"] []) :
    Has P w K mg base "is_steps" 4 ["value"] (sp_is_steps K) := by
  refine Has.mk' g F.kp B (F.ok sc_is_steps (fun vs H Q E h => ?_) (fun cdv A outer s H vs Q E hr h => ?_))
  · obtain ⟨v, M, rfl, _⟩ := h
    rfl
  · obtain ⟨v, M, rfl, ⟨a, vs, rfl, hS, hP⟩, ok, k⟩ := h
    have hvl : vs.length = M.st.length := Paired.length hP
    have n1 := ok.n1
    have n6 := ok.n6
    have k1 := ok.k1
    have k3 := ok.k3
    obtain ⟨r0, hr0⟩ := row0 ok
    obtain ⟨x0, g0, a0, rfl, hS0⟩ := Paired.get hP r0
    refine ⟨_, (pss_cons (ps_if (PW.pt (pw_or (pt_not (pt_val (pe_has h_is_tuple (hr.mono (by first | decide | exact Nat.le_refl _)) (by rfl) (pa_cons (pv 0) (pa_cons pe_int (pa_cons (pe_globI (by rfl) T.c_MOST_STATES) pa_nil)))))) (pw_or1 (pt_not (pt_val (pe_has h_is_tuple (hr.mono (by first | decide | exact Nat.le_refl _)) (by rfl) (pa_cons (pe_ix (ix_tupK (K := K) rfl) (pv 0) pe_int (fun _ _ => rfl)) (pa_cons pe_int (pa_cons (pe_globI (by rfl) T.c_MOST_LETTERS) pa_nil)))))))))
      (pss_one (ps_ret pe_bl))
      pss_nil)
      (pss_one (ps_ret (pe_has h_is_table (hr.mono (by first | decide | exact Nat.le_refl _)) (by rfl) (pa_cons (pv 0) (pa_cons (pe_callB (call_lenK (K := K) rfl) (by rfl) T.b_len bt_len (pa_cons (pv 0) pa_nil)) (pa_cons (pe_callB (call_lenK (K := K) rfl) (by rfl) T.b_len bt_len (pa_cons (pe_ix (ix_tupK (K := K) rfl) (pv 0) pe_int (fun _ _ => rfl)) pa_nil)) (pa_cons (pe_op op_sub (pe_callB (call_lenK (K := K) rfl) (by rfl) T.b_len bt_len (pa_cons (pv 0) pa_nil)) pe_int) pa_nil)))))))), ?_⟩
    have v0 : ∀ H1, Ex H H1 → Ev (tOp (rIxT K) (tVar 0) (tC (.int 0))) (start N_is_steps [V.ref a]) H1 (.ref a0) := fun H1 e1 => ev_op (ev_var rfl) ev_c (rv_ixT (ex_t e1 hS) (atI_nat (j := 0) g0))
    refine q_when (b := false) (et_or (a := false) (et_not (a := true) (et_B (ev_callV (ea_cons (ev_var rfl) (ea_cons ev_c (ea_cons ev_c ea_nil))) fun H1 e1 Q q => ⟨a, vs, _, _, rfl, ex_t e1 hS, by omega, by omega, q⟩))) fun _ =>
      et_not (a := true) (et_B (ev_callV (ea_cons (v0 H (Ex.refl H)) (ea_cons ev_c (ea_cons ev_c ea_nil))) fun H1 e1 Q q => ⟨a0, rowV (M.row 0), _, _, rfl, ex_t e1 hS0, by rw [rowV_len]; omega, by rw [rowV_len]; omega, q⟩))) (fun z => by cases z) fun _ H1 e1 => ?_
    refine s_ret (ev_callV (ea_cons (ev_var rfl) (ea_cons (ev_lenT (ev_var rfl) (ex_t e1 hS)) (ea_cons (ev_lenT (v0 H1 e1) (ex_t e1 hS0)) (ea_cons (ev_op (ev_lenT (ev_var rfl) (ex_t e1 hS)) ev_c rv_I0) ea_nil)))) fun H2 e2 Q q => ?_) fun H2 e2 => k H2 (e1.trans e2)
    rw [rowV_len, hr0, hvl]
    refine ⟨.ref a, M.st, M.st.length, M.k, _, rfl, ⟨a, vs, rfl, ex_t (e1.trans e2) hS, Paired.mapP hP fun _ _ z => z.keep (TKp.ex (e1.trans e2))⟩, rfl, by omega, by omega, fun r hr => ⟨(ok.rs r hr).1, fun x hx => ?_⟩, q⟩
    have := (ok.rs r hr).2 x hx
    omega
theorem has_check_machine (T : Txt K mg) (h_is_tuple : Has P w K mg base "is_tuple" 1 ["value", "low", "high"] (sp_is_tuple K)) (h_is_table : Has P w K mg base "is_table" 3 ["value", "height", "width", "greatest"] (sp_is_table K)) (h_is_steps : Has P w K mg base "is_steps" 4 ["value"] (sp_is_steps K))
    {f : Addr} {fd : FuncData} (F : Fun K "check_machine" "check_machine" s_check_machine f fd) (g : mg "check_machine" = some (.ref f)) (B : Binds K fd ["machine"] []) : Has P w K mg base "check_machine" 5 ["machine"] (sp_check_machine K) := by
  refine Has.mk' g F.kp B (F.ok sc_check_machine (fun vs H Q E h => ?_) (fun cdv A outer s H vs Q E hr h => ?_))
  · obtain ⟨v, M, rfl, _⟩ := h
    rfl
  · obtain ⟨v, M, rfl, ⟨a, x, y, rfl, hS, hx, hy⟩, ok, k⟩ := h
    have k3 := ok.k3
    have n6 := ok.n6
    obtain ⟨ax, vx, rfl, hSx, hPx⟩ := hx
    have hvl : vx.length = M.st.length := Paired.length hPx
    obtain ⟨r0, hr0⟩ := row0 ok
    obtain ⟨x0, g0, a0, rfl, hS0⟩ := Paired.get hPx r0
    refine ⟨_, (pss_cons (ps_if (pt_not (pt_val (pe_has h_is_tuple (hr.mono (by first | decide | exact Nat.le_refl _)) (by rfl) (pa_cons (pv 0) (pa_cons pe_int (pa_cons pe_int pa_nil))))))
      (pss_one (ps_never))
      pss_nil)
      (pss_cons (ps_asg (pv 0) (pg_tupK (K := K) (n := 2) rfl (by rfl) (pgs_cons (pg_name (i := 1) sc_check_machine.nd rfl (.inl rfl)) (pgs_cons (pg_name (i := 2) sc_check_machine.nd rfl (.inl rfl)) pgs_nil))))
      (pss_cons (ps_if (pt_not (pt_val (pe_has h_is_steps (hr.mono (by first | decide | exact Nat.le_refl _)) (by rfl) (pa_cons (pv 1) pa_nil))))
      (pss_one (ps_never))
      pss_nil)
      (pss_one (ps_if (pt_not (pt_val (pe_has h_is_table (hr.mono (by first | decide | exact Nat.le_refl _)) (by rfl) (pa_cons (pv 2) (pa_cons (pe_callB (call_lenK (K := K) rfl) (by rfl) T.b_len bt_len (pa_cons (pv 1) pa_nil)) (pa_cons (pe_callB (call_lenK (K := K) rfl) (by rfl) T.b_len bt_len (pa_cons (pe_ix (ix_tupK (K := K) rfl) (pv 1) pe_int (fun _ _ => rfl)) pa_nil)) (pa_cons (pe_globI (by rfl) T.c_MOST_ANSWER) pa_nil)))))))
      (pss_one (ps_never))
      pss_nil))))), ?_⟩
    refine q_when (b := false) (et_not (a := true) (et_B (ev_callV (ea_cons (ev_var rfl) (ea_cons ev_c (ea_cons ev_c ea_nil))) fun H1 e1 Q q => ⟨a, _, _, _, rfl, ex_t e1 hS, by show (2 : Int) ≤ 2; decide, by show (2 : Int) ≤ 2; decide, q⟩))) (fun z => by cases z) fun _ H1 e1 => ?_
    refine ⟨.ref a, rfl, a, _, rfl, ex_t e1 hS, rfl, _, _, rfl, _, _, rfl, rfl, ?_⟩
    refine q_when (b := false) (et_not (a := true) (et_B (ev_callV (ea_cons (ev_var rfl) ea_nil) fun H2 e2 Q q => ⟨.ref ax, M, rfl, ⟨ax, vx, rfl, ex_t (e1.trans e2) hSx, Paired.mapP hPx fun _ _ z => z.keep (TKp.ex (e1.trans e2))⟩, ok, q⟩))) (fun z => by cases z) fun _ H2 e2 => ?_
    have e3 := e1.trans e2
    refine s_when (b := false) (et_not (a := true) (et_B (ev_callV (ea_cons (ev_var rfl) (ea_cons (ev_lenT (ev_var rfl) (ex_t e3 hSx)) (ea_cons (ev_lenT (ev_op (ev_var rfl) ev_c (rv_ixT (ex_t e3 hSx) (atI_nat (j := 0) g0))) (ex_t e3 hS0)) (ea_cons ev_c ea_nil)))) fun H4 e4 Q q => ?_))) (fun z => by cases z) fun _ H4 e4 => k H4 (e3.trans e4)
    rw [rowV_len, hr0, hvl]
    exact ⟨y, M.an, M.st.length, M.k, _, rfl, hy.keep (TKp.ex (e3.trans e4)), ok.la, by omega, by omega, fun r hr => ⟨(ok.ra r hr).1, fun x hx => by have := (ok.ra r hr).2 x hx; omega⟩, q⟩
end

end Kx
namespace Kx
open PySem PySem.Spec PyProof.Rows L2

open Evl
section
variable {P : Program} {w : World} {K : PySem.W.Frag} {mg : Str → Option Value} {base : Heap}
def oV (o : Option Nat) : V := match o with | some n => nV n | none => .non
/-- the answers to a word -/
def tldV (M : M1.Mach) (i : Nat) (r : List Nat) : List V := gvn r.length fun j => nV (M.tld i r j)
/-- an item of a table -/
theorem tab_get {K : PySem.W.Frag} {H : Hp} {vx : List V} {t : List (List Nat)} (h : Paired (RowAt K H) vx t) {i : Nat} {r : List Nat} (e : t[i]? = some r) : ∃ a, vx[i]? = some (.ref a) ∧ SqT K H a (rowV r) := by
  obtain ⟨x, g, a, rfl, hS⟩ := Paired.get h e
  exact ⟨a, g, hS⟩
theorem paired_keep {K : PySem.W.Frag} {H H' : Hp} {vx : List V} {t : List (List Nat)} (h : Paired (RowAt K H) vx t) (e : TKp K H H') : Paired (RowAt K H') vx t := Paired.mapP h fun _ _ z => z.keep e
def sp_led (K : PySem.W.Frag) : Sp := fun vs H Q _ => ∃ (v : V) (M : M1.Mach) (i : Nat) (b : Addr) (r : List Nat), vs = [v, .int (i : Int), .ref b] ∧ MacAt K H v M.st M.an ∧ M.Ok ∧ i < M.st.length ∧ SqT K H b (rowV r) ∧ (∀ x ∈ r, x < M.k) ∧ ∀ H2, Ex H H2 → Q (nV (M.led i r)) H2
def sp_told (K : PySem.W.Frag) : Sp := fun vs H Q _ => ∃ (v : V) (M : M1.Mach) (i : Nat) (b : Addr) (r : List Nat), vs = [v, .int (i : Int), .ref b] ∧ MacAt K H v M.st M.an ∧ M.Ok ∧ i < M.st.length ∧ SqT K H b (rowV r) ∧ r.length ≤ 4000 ∧ (∀ x ∈ r, x < M.k) ∧
  ∀ p H2, H p = none → Ex H H2 → H2 p = some (.tup (tldV M i r)) → Q (.ref p) H2
theorem rv_isN {H : Hp} {x : V} : RV (fun x y H Q => y = V.non ∧ Q (V.bl (decide (x = V.non))) H) x .non H (.bl (decide (x = .non))) := fun H1 _ Q q => ⟨rfl, q H1 (Ex.refl _)⟩
theorem rv_notN {H : Hp} {x : V} : RV (fun x y H Q => y = V.non ∧ Q (V.bl (!decide (x = V.non))) H) x .non H (.bl (!decide (x = .non))) := fun H1 _ Q q => ⟨rfl, q H1 (Ex.refl _)⟩
theorem et_isN {σ : L2.St} {H : Hp} {i : Nat} {v : V} (h : σ[i]? = some (some v)) : EvT (tTest (tOp (fun x y H Q => y = V.non ∧ Q (V.bl (decide (x = V.non))) H) (tVar i) (tC V.non))) σ H (decide (v = .non)) := fun H1 e1 Q q => ⟨v, h, rfl, _, rfl, q H1 (Ex.refl _)⟩
theorem et_notN {σ : L2.St} {H : Hp} {i : Nat} {v : V} (h : σ[i]? = some (some v)) : EvT (tTest (tOp (fun x y H Q => y = V.non ∧ Q (V.bl (!decide (x = V.non))) H) (tVar i) (tC V.non))) σ H (!decide (v = .non)) := fun H1 e1 Q q => ⟨v, h, rfl, _, rfl, q H1 (Ex.refl _)⟩
end

end Kx
namespace Kx
open PySem PySem.Spec PyProof.Rows L2

open Evl
section
variable {P : Program} {w : World} {K : PySem.W.Frag} {mg : Str → Option Value} {base : Heap}
theorem cut_row {r : List Nat} {j : Nat} (h : j ≤ r.length) : cutV (rowV r) none (some (j : Int)) = rowV (r.take j) := by
  unfold cutV
  rw [HT.sIx_none, HT.sIx_nat, rowV_len, Nat.min_eq_left h]
  unfold rowV
  rw [List.drop_zero, List.map_take]
  rfl
end

end Kx
namespace Kx
open PySem PySem.Spec PyProof.Rows L2

open Evl
section
variable {P : Program} {w : World} {K : PySem.W.Frag} {mg : Str → Option Value} {base : Heap}
/-! ### the states that come, each with a way -/
/-- the dict kvs tells the ways ws -/
structure Ways (K : PySem.W.Frag) (H : Hp) (M : M1.Mach) (kvs : List (Key × V)) (ws : List (Nat × List Nat)) : Prop where
  at_ : Paired (fun (kv : Key × V) (iw : Nat × List Nat) => kv.1 = Sum.inl (iw.1 : Int) ∧ RowAt K H kv.2 iw.2) kvs ws
  way : ∀ iw ∈ ws, M.Letters iw.2 ∧ M.led 0 iw.2 = iw.1
  nd : (ws.map (·.1)).Nodup
  ln : ∀ iw ∈ ws, iw.2.length ≤ ws.length
theorem Ways.keep {H H' : Hp} {M : M1.Mach} {kvs : List (Key × V)} {ws : List (Nat × List Nat)} (W : Ways K H M kvs ws) (e : TKp K H H') : Ways K H' M kvs ws := ⟨Paired.mapP W.at_ fun _ _ z => ⟨z.1, z.2.keep e⟩, W.way, W.nd, W.ln⟩
theorem ways_val {H : Hp} : ∀ {kvs : List (Key × V)} {ws : List (Nat × List Nat)}, Paired (fun (kv : Key × V) (iw : Nat × List Nat) => kv.1 = Sum.inl (iw.1 : Int) ∧ RowAt K H kv.2 iw.2) kvs ws → ∀ i : Nat, (i ∈ ws.map (·.1) → ∃ v u, valV kvs (Sum.inl (i : Int)) = some v ∧ (i, u) ∈ ws ∧ RowAt K H v u) ∧ (i ∉ ws.map (·.1) → valV kvs (Sum.inl (i : Int)) = none)
  | _, _, .nil, i => ⟨fun h => by simp at h, fun _ => rfl⟩
  | _, _, .cons (a := kv) (b := iw) ⟨e, hr⟩ t, i => by
    have ih := ways_val t i
    by_cases h : iw.1 = i
    · subst h
      refine ⟨fun _ => ⟨kv.2, iw.2, valV_pos e, List.mem_cons_self, hr⟩, fun hn => absurd List.mem_cons_self hn⟩
    · have hne : ¬ kv.1 = Sum.inl (i : Int) := fun z => by
        rw [e] at z
        exact h (Int.ofNat_inj.mp (Sum.inl.inj z))
      rw [valV_neg hne]
      refine ⟨fun hm => ?_, fun hn => ih.2 fun z => hn (List.mem_cons_of_mem _ z)⟩
      rcases List.mem_cons.mp hm with z | z
      · exact absurd z.symm h
      · obtain ⟨v, u, a, b, c⟩ := ih.1 z
        exact ⟨v, u, a, List.mem_cons_of_mem _ b, c⟩
theorem Ways.lt {H : Hp} {M : M1.Mach} (ok : M.Ok) {kvs : List (Key × V)} {ws : List (Nat × List Nat)} (W : Ways K H M kvs ws) : ∀ i ∈ ws.map (·.1), i < M.st.length := fun i hi => by
  obtain ⟨iw, hm, rfl⟩ := List.mem_map.mp hi
  have h := W.way iw hm
  rw [← h.2]
  exact M.led_lt ok ok.n1 h.1
theorem Ways.len {H : Hp} {M : M1.Mach} (ok : M.Ok) {kvs : List (Key × V)} {ws : List (Nat × List Nat)} (W : Ways K H M kvs ws) : ws.length ≤ M.st.length := by
  have h := M1.nodup_le W.nd (m := List.range M.st.length) fun i hi => List.mem_range.mpr (W.lt ok i hi)
  rw [List.length_map, List.length_range] at h
  exact h
/-- all states that come are among them -/
def AllCome (M : M1.Mach) (ws : List (Nat × List Nat)) : Prop := ∀ i, M.Rch i → i ∈ ws.map (·.1)
theorem allCome_of {M : M1.Mach} {ws : List (Nat × List Nat)} (h0 : 0 ∈ ws.map (·.1)) (hc : ∀ i ∈ ws.map (·.1), ∀ a, a < M.k → M.go i a ∈ ws.map (·.1)) : AllCome M ws := by
  rintro i ⟨u, hu, rfl⟩
  have gen : ∀ (u : List Nat) (i : Nat), i ∈ ws.map (·.1) → M.Letters u → M.led i u ∈ ws.map (·.1) := by
    intro u
    induction u with
    | nil => exact fun i hi _ => hi
    | cons a u ih => exact fun i hi hu => ih (M.go i a) (hc i hi a (hu a List.mem_cons_self)) fun x hx => hu x (List.mem_cons_of_mem _ hx)
  exact gen u 0 h0 hu
theorem seq0 {n : Nat} (h : 0 < n) : seqIndex? 0 n = some 0 := by
  unfold seqIndex?
  have h' : (0 : Int) < (n : Int) := by omega
  simp
  omega
def sp_ways (K : PySem.W.Frag) : Sp := fun vs H Q _ => ∃ (v : V) (M : M1.Mach), vs = [v] ∧ MacAt K H v M.st M.an ∧ M.Ok ∧ ∀ p H2 kvs ws, H p = none → Ex H H2 → H2 p = some (.dK kvs) → Ways K H2 M kvs ws → AllCome M ws → Q (.ref p) H2
theorem has_ways_to_states (T : Txt K mg) {f : Addr} {fd : FuncData} (F : Fun K "ways_to_states" "ways_to_states" s_ways_to_states f fd) (g : mg "ways_to_states" = some (.ref f)) (B : Binds K fd ["machine"] []) : Has P w K mg base "ways_to_states" 1 ["machine"] (sp_ways K) := by
  refine Has.mk' g F.kp B (F.ok sc_ways_to_states (fun vs H Q E h => ?_) (fun cdv A outer s H vs Q E hr h => ?_))
  · obtain ⟨v, M, rfl, _⟩ := h
    rfl
  · obtain ⟨v, M, rfl, ⟨a, x, y, rfl, hS, ⟨ax, vx, rfl, hSx, hPx⟩, hy⟩, ok, k⟩ := h
    have n6 := ok.n6
    have n1 := ok.n1
    refine ⟨_, (pss_cons (ps_set (i := 1) sc_ways_to_states.nd rfl (.inl rfl) (pe_disp (pps_cons pe_int (pe_tup pa_nil) pps_nil) (by rfl) (by rfl) (fun z => by cases z) (by decide)))
      (pss_cons (ps_set (i := 2) sc_ways_to_states.nd rfl (.inl rfl) (pe_lst (pa_cons pe_int pa_nil)))
      (pss_cons (ps_while PassesOwn.never (pt_tru (K := K) rfl (pv 2))
      (pss_cons (ps_set (i := 3) sc_ways_to_states.nd rfl (.inl rfl) (pe_bm PySem.F.plainAttrs_list PySem.F.slot_list_pop PySem.F.type_list_pop mt_popAt (pv 2) (pa_cons pe_int pa_nil)))
      (pss_one (ps_for PassesOwn.never rfl (pi_enumT (by rfl) T.b_enumerate (pa_cons (pe_ix (ix_tupK (K := K) rfl) (pe_ix (ix_tupK (K := K) rfl) (pv 0) pe_int (fun _ _ => rfl)) (pv 3) (fun _ _ => rfl)) pa_nil)) (pg_tupK (K := K) (n := 2) rfl (by rfl) (pgs_cons (pg_name (i := 4) sc_ways_to_states.nd rfl (.inl rfl)) (pgs_cons (pg_name (i := 5) sc_ways_to_states.nd rfl (.inl rfl)) pgs_nil)))
      (pss_one (ps_if (pt_cmp (pc_dnotin (hu_of hr) (pv 5) (pv 1)))
      (pss_cons (ps_dput (hu_of hr) (pv 1) (pv 5) (pe_op (op_catK (K := K) rfl) (pe_dget (hu_of hr) (pv 1) (pv 3) (fun _ _ => rfl)) (pe_tup (pa_cons (pv 4) pa_nil))) rfl)
      (pss_one (ps_expr (pe_bm PySem.F.plainAttrs_list PySem.F.slot_list_append PySem.F.type_list_append mt_append (pv 2) (pa_cons (pv 5) pa_nil)))))
      pss_nil))))))
      (pss_one (ps_ret (pv 1)))))), ?_⟩
    refine fun pw hpw => ⟨Nat.zero_le _, fun t0 ht0 => ?_⟩
    have nwt : pw ≠ t0 := fun z => by subst z; rw [upd_same] at ht0; cases ht0
    refine ⟨by rw [upd_ne nwt, upd_same], [(Sum.inl 0, .ref t0)], rfl, (by show 1 ≤ 15; decide), ?_⟩
    have nt0 : H t0 = none := by rw [upd_ne nwt.symm] at ht0; exact ht0
    have e0 : Ex H (upd (upd (upd H pw (.dK [])) t0 (.tup [])) pw (.dK (mergeK [] [(Sum.inl 0, .ref t0)]))) := Ex.mut ((Ex.new hpw).trans (Ex.new ht0)) hpw
    refine q_asgL (el_lst (ea_cons ev_c ea_nil) (by decide)) fun pq H1 hpq e1 h1 => ?_
    have hw1 : H1 pw = some (.dK [(Sum.inl 0, .ref t0)]) := e1 _ _ upd_same
    have ht1 : H1 t0 = some (.tup (rowV [])) := e1 _ _ (by rw [upd_ne nwt.symm, upd_same]; rfl)
    have nq : H pq = none := fresh_back e0 hpq
    have nqw : pq ≠ pw := fun z => by subst z; rw [upd_same] at hpq; cases hpq
    have W1 : Ways K H1 M [(Sum.inl 0, .ref t0)] [(0, [])] := ⟨.cons ⟨rfl, t0, rfl, SqT.of ht1⟩ .nil, fun iw h => by rw [List.mem_singleton] at h; subst h; exact ⟨fun _ h => by simp at h, rfl⟩, by simp, fun iw h => by rw [List.mem_singleton] at h; subst h; decide⟩
    refine q_while (fun m σ' H' => ∃ (q : List Nat) (kvs : List (Key × V)) (ws : List (Nat × List Nat)) (l3 l4 l5 : Option V), σ' = [some (.ref a), some (.ref pw), some (.ref pq), l3, l4, l5] ∧ Ex H H' ∧ H' pw = some (.dK kvs) ∧ H' pq = some (.lst (rowV q)) ∧ Ways K H' M kvs ws ∧ (∀ i ∈ q, i ∈ ws.map (·.1)) ∧ 0 ∈ ws.map (·.1) ∧
      (∀ i ∈ ws.map (·.1), i ∉ q → ∀ a, a < M.k → M.go i a ∈ ws.map (·.1)) ∧ 2 * (M.st.length - ws.length) + q.length ≤ 12 ∧ m = 2 * (M.st.length - ws.length) + q.length) _
      ⟨[0], _, [(0, [])], none, none, none, rfl, e0.trans e1, hw1, h1, W1, fun i h => by simpa using h, by simp, fun i h hn => absurd (by simpa using h) (by simpa using hn), by show 2 * (M.st.length - 1) + 1 ≤ 12; omega, rfl⟩ ?_
    rintro m σ' H2 ⟨q, kvs, ws, l3, l4, l5, rfl, e2, hw2, hq2, W2, hqs, h02, hc2, h12, rfl⟩
    refine ⟨!(rowV q).isEmpty, et_tru (ev_var rfl) (fun H3 e3 => tru_list (sq_of (e3 _ _ hq2))), fun b H3 e3 => ?_, fun b H3 e3 => ?_⟩
    · obtain ⟨s0, q', rfl⟩ : ∃ s0 q', q = s0 :: q' := by
        cases q with
        | nil => simp [rowV] at b
        | cons s0 q' => exact ⟨s0, q', rfl⟩
      have e23 := e2.trans e3
      have hw3 := e3 _ _ hw2
      have hq3 := e3 _ _ hq2
      have W3 := W2.keep (TKp.ex e3)
      have hs0 := hqs s0 List.mem_cons_self
      rw [List.length_cons] at h12
      have hs0l := W2.lt ok s0 hs0
      have wl := W2.len ok
      obtain ⟨ar, gr, hSr⟩ := tab_get hPx (M.row_at hs0l)
      refine ⟨fun σ2 H' => ∃ m', m' < 2 * (M.st.length - ws.length) + (s0 :: q').length ∧ ∃ (q : List Nat) (kvs : List (Key × V)) (ws : List (Nat × List Nat)) (l3 l4 l5 : Option V), σ2 = [some (.ref a), some (.ref pw), some (.ref pq), l3, l4, l5] ∧ Ex H H' ∧ H' pw = some (.dK kvs) ∧ H' pq = some (.lst (rowV q)) ∧ Ways K H' M kvs ws ∧ (∀ i ∈ q, i ∈ ws.map (·.1)) ∧ 0 ∈ ws.map (·.1) ∧
        (∀ i ∈ ws.map (·.1), i ∉ q → ∀ a, a < M.k → M.go i a ∈ ws.map (·.1)) ∧ 2 * (M.st.length - ws.length) + q.length ≤ 12 ∧ m' = 2 * (M.st.length - ws.length) + q.length, fun σ2 H' h => h, ?_⟩
      refine ⟨.ref pq, rfl, Or.inl ⟨rfl, _, sq_of hq3⟩, pq, _, 0, 0, nV s0, rfl, rfl, hq3, by decide, by decide, seq0 (by simp [rowV]), rfl, ?_⟩
      have e4 : Ex H (upd H3 pq (.lst (rowV q'))) := Ex.mut e23 nq
      have tk4 : TKp K H3 (upd H3 pq (.lst (rowV q'))) := TKp.lst hq3
      refine ⟨.ref a, rfl, a, _, 0, .ref ax, rfl, rfl, ex_t e4 hS, atI_nat (j := 0) rfl, nV s0, rfl, ax, vx, _, .ref ar, rfl, rfl, ex_t e4 hSx, atI_nat gr, ar, rowV (M.row s0), rfl, ex_t e4 hSr, for_enumT (fun j σ' H' => ∃ (q : List Nat) (kvs : List (Key × V)) (ws' : List (Nat × List Nat)) (l4 l5 : Option V), σ' = [some (.ref a), some (.ref pw), some (.ref pq), some (nV s0), l4, l5] ∧ Ex H H' ∧ H' pw = some (.dK kvs) ∧ H' pq = some (.lst (rowV q)) ∧ Ways K H' M kvs ws' ∧ (∀ i ∈ q, i ∈ ws'.map (·.1)) ∧ 0 ∈ ws'.map (·.1) ∧ s0 ∈ ws'.map (·.1) ∧
        (∀ i ∈ ws'.map (·.1), i ∉ q → i ≠ s0 → ∀ a, a < M.k → M.go i a ∈ ws'.map (·.1)) ∧ (∀ b, b < j → M.go s0 b ∈ ws'.map (·.1)) ∧ 2 * (M.st.length - ws'.length) + q.length ≤ 2 * (M.st.length - ws.length) + q'.length) ?_ (fun j σ' H' _ ⟨_, _, _, _, _, _, e, _⟩ => ex_t e hSr) ?_ ?_⟩
      · refine ⟨q', kvs, ws, l4, l5, rfl, e4, by rw [upd_ne nqw.symm]; exact hw3, upd_same, W3.keep tk4, fun i hi => hqs i (List.mem_cons_of_mem _ hi), h02, hs0, fun i hi hn hne b hb => hc2 i hi (fun z => ?_) b hb, fun b hb => by omega, Nat.le_refl _⟩
        rcases List.mem_cons.mp z with z | z
        · exact hne z
        · exact hn z
      · rintro j z t σ' H5 hz ⟨q5, kvs5, ws5, m4, m5, rfl, e5, hw5, hq5, W5, a1, a2, a3, a4, a5, a6⟩ nt
        obtain ⟨xx, hxx, rfl⟩ := map_of hz
        have hjl : j < (M.row s0).length := (List.getElem?_eq_some_iff.mp hxx).1
        have hjk : j < M.k := by rw [M.row_len ok hs0l] at hjl; exact hjl
        have exx : M.go s0 j = xx := by
          have := M.go_at ok hs0l hjk
          rw [hxx] at this
          exact (Option.some.inj this).symm
        have e6 : Ex H5 (upd H5 t (.tup [.int (j : Nat), nV xx])) := Ex.new nt
        have hw6 := e6 _ _ hw5
        have hq6 := e6 _ _ hq5
        have W6 := W5.keep (TKp.ex e6)
        have e56 := e5.trans e6
        refine ⟨t, _, rfl, SqT.of upd_same, rfl, _, _, rfl, _, _, rfl, rfl, ?_⟩
        refine ⟨nV xx, rfl, .ref pw, rfl, pw, _, rfl, DGet.k (k := Sum.inl (xx : Int)) hw6, _, rfl, ?_⟩
        by_cases hx : xx ∈ ws5.map (·.1)
        · obtain ⟨v, u, hv, _⟩ := (ways_val W6.at_ xx).1 hx
          rw [hv]
          refine iteF ⟨q5, kvs5, ws5, _, _, rfl, e56, hw6, hq6, W6, a1, a2, a3, a4, fun b hb => ?_, a6⟩
          by_cases z : b = j
          · rw [z, exx]; exact hx
          · exact a5 b (by omega)
        · have hv := (ways_val W6.at_ xx).2 hx
          rw [hv]
          refine iteT ?_
          obtain ⟨v, u, hu, hm, av, rfl, hru⟩ := (ways_val W6.at_ s0).1 a3
          have lw := W6.ln _ hm
          have wl5 := W6.len ok
          have ul : u.length ≤ 6 := by
            have : u.length ≤ ws5.length := lw
            omega
          obtain ⟨hul, hue⟩ := W6.way _ hm
          -- ways[after] = ways[state] + (letter,)
          have put : ∀ (v2 : Addr) H7, Ex (upd H5 t (.tup [.int (j : Nat), nV xx])) H7 → SqT K H7 v2 (rowV (u ++ [j])) → ∃ a_1 H4, V.ref pw = .ref a_1 ∧ DPut H7 a_1 (nV xx) (.ref v2) H4 ∧ (tDrop (tBM K "list" rAppend (tVar 2) (tCons (tVar 5) tNil)))
            { nx := (fun σ' H' => ∃ (q : List Nat) (kvs : List (Key × V)) (ws' : List (Nat × List Nat)) (l4 l5 : Option V), σ' = [some (.ref a), some (.ref pw), some (.ref pq), some (nV s0), l4, l5] ∧ Ex H H' ∧ H' pw = some (.dK kvs) ∧ H' pq = some (.lst (rowV q)) ∧ Ways K H' M kvs ws' ∧ (∀ i ∈ q, i ∈ ws'.map (·.1)) ∧ 0 ∈ ws'.map (·.1) ∧ s0 ∈ ws'.map (·.1) ∧
              (∀ i ∈ ws'.map (·.1), i ∉ q → i ≠ s0 → ∀ a, a < M.k → M.go i a ∈ ws'.map (·.1)) ∧ (∀ b, b < j + 1 → M.go s0 b ∈ ws'.map (·.1)) ∧ 2 * (M.st.length - ws'.length) + q.length ≤ 2 * (M.st.length - ws.length) + q'.length), rt := fun _ _ => True, bk := fun _ _ => True, ct := fun _ _ => True } [some (.ref a), some (.ref pw), some (.ref pq), some (nV s0), some (.int (j : Int)), some (nV xx)] H4 := by
            intro v2 H7 e7 hv2
            have hw7 := e7 _ _ hw6
            have hq7 := e7 _ _ hq6
            have W7 := W6.keep (TKp.ex e7)
            have kl : kvs5.length = ws5.length := Paired.length W7.at_
            have hv7 : valV kvs5 (Sum.inl (xx : Int)) = none := hv
            refine ⟨pw, _, rfl, DPut.k (k := Sum.inl (xx : Int)) hw7 (by rw [kl]; exact small1000 (by omega)), ?_⟩
            rw [putK_new _ hv7]
            have t8 : TKp K H7 (upd H7 pw (.dK (kvs5 ++ [(Sum.inl (xx : Int), .ref v2)]))) := TKp.upd hw7 (fun _ z => by cases z) (fun _ _ z => by cases z)
            have hq8 : (upd H7 pw (.dK (kvs5 ++ [(Sum.inl (xx : Int), .ref v2)]))) pq = some (.lst (rowV q5)) := by rw [upd_ne nqw]; exact hq7
            have t9 : TKp K (upd H7 pw (.dK (kvs5 ++ [(Sum.inl (xx : Int), .ref v2)]))) (upd (upd H7 pw (.dK (kvs5 ++ [(Sum.inl (xx : Int), .ref v2)]))) pq (.lst (rowV q5 ++ [nV xx]))) := TKp.lst hq8
            have t79 := t8.trans t9
            refine ⟨.ref pq, rfl, Or.inl ⟨rfl, _, sq_of hq8⟩, nV xx, rfl, pq, _, _, rfl, rfl, hq8, by rw [rowV_len]; exact small1000 (by omega), ?_⟩
            have wlen : (ws5 ++ [(xx, u ++ [j])]).length = ws5.length + 1 := by rw [List.length_append]; rfl
            have mems : ∀ i, i ∈ (ws5 ++ [(xx, u ++ [j])]).map (·.1) ↔ i ∈ ws5.map (·.1) ∨ i = xx := fun i => by rw [List.map_append, List.mem_append]; simp
            have W9 : Ways K (upd (upd H7 pw (.dK (kvs5 ++ [(Sum.inl (xx : Int), .ref v2)]))) pq (.lst (rowV q5 ++ [nV xx]))) M (kvs5 ++ [(Sum.inl (xx : Int), .ref v2)]) (ws5 ++ [(xx, u ++ [j])]) := by
              refine ⟨Paired.snoc (W7.keep t79).at_ ⟨rfl, v2, rfl, t79 _ _ hv2⟩, fun iw hi => ?_, ?_, fun iw hi => ?_⟩
              · rcases List.mem_append.mp hi with hi | hi
                · exact W7.way iw hi
                · rw [List.mem_singleton] at hi
                  subst hi
                  refine ⟨fun y hy => ?_, ?_⟩
                  · rcases List.mem_append.mp hy with hy | hy
                    · exact hul y hy
                    · rw [List.mem_singleton] at hy; subst hy; exact hjk
                  · show M.led 0 (u ++ [j]) = xx
                    rw [M.led_append, hue]
                    exact exx
              · rw [List.map_append, List.nodup_append]
                refine ⟨W7.nd, by simp, fun y hy z hzz e => ?_⟩
                have hz' : z = xx := by simpa using hzz
                subst e
                exact hx (hz' ▸ hy)
              · rcases List.mem_append.mp hi with hi | hi
                · have := W7.ln iw hi
                  rw [wlen]
                  omega
                · rw [List.mem_singleton] at hi
                  subst hi
                  rw [wlen, List.length_append]
                  have : u.length ≤ ws5.length := lw
                  show u.length + 1 ≤ ws5.length + 1
                  omega
            have wl9 := W9.len ok
            rw [wlen] at wl9
            refine ⟨q5 ++ [xx], _, ws5 ++ [(xx, u ++ [j])], _, _, rfl, Ex.mut (Ex.mut (e56.trans e7) hpw) nq, by rw [upd_ne nqw.symm]; exact upd_same, by rw [rowV_snoc]; exact upd_same, W9, fun i hi => ?_, (mems 0).mpr (.inl a2), (mems s0).mpr (.inl a3), fun i hi hn hne b hb => ?_, fun b hb => ?_, ?_⟩
            · rcases List.mem_append.mp hi with hi | hi
              · exact (mems i).mpr (.inl (a1 i hi))
              · rw [List.mem_singleton] at hi
                exact (mems i).mpr (.inr hi)
            · rcases (mems i).mp hi with hi | hi
              · exact (mems _).mpr (.inl (a4 i hi (fun z => hn (List.mem_append_left _ z)) hne b hb))
              · exact absurd (List.mem_append_right _ (List.mem_singleton.mpr hi)) hn
            · by_cases z : b = j
              · rw [z, exx]; exact (mems xx).mpr (.inr rfl)
              · exact (mems _).mpr (.inl (a5 b (by omega)))
            · rw [wlen, List.length_append, List.length_singleton]
              omega
          refine ⟨.ref pw, rfl, nV s0, rfl, pw, .ref av, rfl, ?_, .int (j : Nat), rfl, by show 1 ≤ sizeLine; decide, fun t2 ht2 => ⟨av, t2, rowV u, [nV j], rfl, rfl, ?_, SqT.of upd_same, ?_, fun hu0 => ?_, fun _ h => (by cases h), fun hu0 _ p hp => ?_⟩⟩
          · rw [← hu]
            exact DGet.k (k := Sum.inl (s0 : Int)) hw6
          · exact ex_t (Ex.new ht2) hru
          · rw [rowV_len]
            exact Nat.le_of_lt (small1000 (by show u.length + 1 ≤ 1000; omega))
          · have hu1 : u = [] := by
              cases u with
              | nil => rfl
              | cons _ _ => simp [rowV] at hu0
            subst hu1
            exact ⟨.ref pw, rfl, nV xx, rfl, put t2 _ (Ex.new ht2) (SqT.of upd_same)⟩
          · refine ⟨.ref pw, rfl, nV xx, rfl, put p _ ((Ex.new ht2).trans (Ex.new hp)) (SqT.of ?_)⟩
            rw [upd_same, rowV_snoc]
      · rintro σ' H5 ⟨q5, kvs5, ws5, m4, m5, rfl, e5, hw5, hq5, W5, a1, a2, a3, a4, a5, a6⟩
        refine ⟨2 * (M.st.length - ws5.length) + q5.length, by rw [List.length_cons]; omega, q5, kvs5, ws5, _, _, _, rfl, e5, hw5, hq5, W5, a1, a2, fun i hi hn c hcc => ?_, by omega, rfl⟩
        by_cases z : i = s0
        · subst z
          exact a5 c (by rw [rowV_len, M.row_len ok hs0l]; exact hcc)
        · exact a4 i hi hn z c hcc
    · have hq0 : q = [] := by
        cases q with
        | nil => rfl
        | cons s0 q' => simp [rowV] at b
      subst hq0
      exact s_ret (ev_var rfl) fun H4 e4 => k pw H4 kvs ws hpw (e2.trans (e3.trans e4)) (e4 _ _ (e3 _ _ hw2)) (W2.keep (TKp.ex (e3.trans e4))) (allCome_of h02 fun i hi b hb => hc2 i hi (by simp) b hb)
end

end Kx
namespace Kx
open PySem PySem.Spec PyProof.Rows L2

open Evl
section
variable {P : Program} {w : World} {K : PySem.W.Frag} {mg : Str → Option Value} {base : Heap}
/-! ### pairs -/
def PairAt (H : Hp) (v : V) (p : Nat × Nat) : Prop := ∃ t, v = .ref t ∧ H t = some (.tup [nV p.1, nV p.2])
def TT (H H' : Hp) : Prop := ∀ b xs, H b = some (.tup xs) → H' b = some (.tup xs)
theorem TT.ex {H H' : Hp} (e : Ex H H') : TT H H' := fun b xs h => e b _ h
theorem TT.upd {H : Hp} {a : Addr} {o o' : HO} (h : H a = some o) (hn : ∀ xs, o ≠ .tup xs) : TT H (L2.upd H a o') := fun b xs q => by
  rw [upd_ne fun e => by subst e; rw [h] at q; exact hn _ (Option.some.inj q)]
  exact q
theorem PairAt.keep {H H' : Hp} (e : TT H H') {v : V} {p : Nat × Nat} (h : PairAt H v p) : PairAt H' v p := let ⟨t, a, b⟩ := h; ⟨t, a, e _ _ b⟩
theorem pairs_keep {H H' : Hp} (e : TT H H') {vs : List V} {ps : List (Nat × Nat)} (h : Paired (PairAt H) vs ps) : Paired (PairAt H') vs ps := Paired.mapP h fun _ _ z => z.keep e
def keyOf (p : Nat × Nat) : List Key := [Sum.inl (p.1 : Int), Sum.inl (p.2 : Int)]
theorem keyOf_inj {p q : Nat × Nat} : keyOf p = keyOf q ↔ p = q := by
  constructor
  · intro h
    unfold keyOf at h
    injection h with h1 h2
    injection h2 with h2 _
    injection h1 with h1
    injection h2 with h2
    exact Prod.ext (Int.ofNat_inj.mp h1) (Int.ofNat_inj.mp h2)
  · intro h
    rw [h]
/-- the dict of a layer -/
def layV (f : M1.PL) : List (List Key × V) := f.map fun x => (keyOf x.1, nV x.2)
theorem layV_len (f : M1.PL) : (layV f).length = f.length := by unfold layV; rw [List.length_map]
theorem lay_none : ∀ (f : M1.PL) (p : Nat × Nat), p ∉ f.map (·.1) → valV (layV f) (keyOf p) = none
  | [], _, _ => rfl
  | x :: f, p, h => by
    show valV ((keyOf x.1, nV x.2) :: layV f) (keyOf p) = none
    rw [valV_neg fun z => h (by rw [List.map_cons, ← keyOf_inj.mp z]; exact List.mem_cons_self)]
    exact lay_none f p fun z => h (List.mem_cons_of_mem _ z)
theorem lay_some : ∀ (f : M1.PL) (p : Nat × Nat), p ∈ f.map (·.1) → ∃ a, valV (layV f) (keyOf p) = some (nV a) ∧ (p, a) ∈ f
  | x :: f, p, h => by
    show ∃ a, valV ((keyOf x.1, nV x.2) :: layV f) (keyOf p) = some (nV a) ∧ (p, a) ∈ x :: f
    by_cases e : x.1 = p
    · subst e
      exact ⟨x.2, valV_pos rfl, List.mem_cons_self⟩
    · rcases List.mem_cons.mp h with z | z
      · exact absurd z.symm e
      · obtain ⟨a, h1, h2⟩ := lay_some f p z
        exact ⟨a, by rw [valV_neg fun z => e (keyOf_inj.mp z)]; exact h1, List.mem_cons_of_mem _ h2⟩
/-- found.setdefault(p, a) -/
theorem lay_add (f : M1.PL) (p : Nat × Nat) (a : Nat) (h : valV (layV f) (keyOf p) = none) : putK (layV f) (keyOf p) (nV a) = layV (M1.addF f p a) := by
  have hn : p ∉ f.map (·.1) := fun z => by
    obtain ⟨b, hb, _⟩ := lay_some f p z
    rw [h] at hb
    cases hb
  rw [putK_new _ h]
  unfold M1.addF layV
  rw [if_neg hn, List.map_append]
  rfl
theorem lay_old (f : M1.PL) (p : Nat × Nat) (a : Nat) {v : V} (h : valV (layV f) (keyOf p) = some v) : f = M1.addF f p a := by
  have hm : p ∈ f.map (·.1) := Classical.byContradiction fun z => by rw [lay_none f p z] at h; cases h
  unfold M1.addF
  rw [if_pos hm]
/-- d.setdefault(pair, letter) as a statement -/
theorem s_layset {σ : L2.St} {H : Hp} {D : Ends} {i : Nat} {ty tx : TE} {d t : Addr} {f : M1.PL} {p : Nat × Nat} {a : Nat} (sd : σ[i]? = some (some (.ref d))) (hd : H d = some (.dT (layV f))) (hl : f.length ≤ 1000)
    (hy : ∀ Q : VK, (∀ t H2, Ex H H2 → H2 t = some (.tup [nV p.1, nV p.2]) → Q (.ref t) H2) → ty σ H Q) (hx : ∀ H2, Ex H H2 → Ev tx σ H2 (nV a)) (k : ∀ H2, Ex H H2 → D.nx σ (upd H2 d (.dT (layV (M1.addF f p a))))) (k2 : ∀ H2, Ex H H2 → H2 d = some (.dT (layV (M1.addF f p a))) → D.nx σ H2) :
    tDrop (tDSetdT (tVar i) ty tx) D σ H :=
  ⟨.ref d, sd, d, rfl, Or.inr ⟨_, Or.inl hd⟩, hy _ fun t H2 e2 ht => hx H2 e2 H2 (Ex.refl H2) _ fun H3 e3 => ⟨layV f, keyOf p, t, (e2.trans e3) _ _ hd, rfl, e3 _ _ ht, by rw [layV_len]; exact small1000 hl,
    fun v hv => k2 H3 (e2.trans e3) (by rw [← lay_old f p a hv]; exact (e2.trans e3) _ _ hd), fun hv => by rw [lay_add f p a hv]; exact k H3 (e2.trans e3)⟩⟩
def sp_unl (K : PySem.W.Frag) : Sp := fun vs H Q _ => ∃ (v : V) (M : M1.Mach) (b : Addr) (refs : List V) (ps : List (Nat × Nat)), vs = [v, .ref b] ∧ MacAt K H v M.st M.an ∧ M.Ok ∧ SqL K H b refs ∧ Paired (PairAt H) refs ps ∧ ps.length ≤ 100 ∧ (∀ p ∈ ps, p.1 < M.st.length ∧ p.2 < M.st.length) ∧
  ∀ p H2 f, H p = none → Ex H H2 → H2 p = some (.dT (layV f)) → M1.Lay (fun p a => M.out p.1 a ≠ M.out p.2 a) M.k ps f → Q (.ref p) H2
theorem has_unlike_letters (T : Txt K mg) {f : Addr} {fd : FuncData} (F : Fun K "unlike_letters" "unlike_letters" s_unlike_letters f fd) (g : mg "unlike_letters" = some (.ref f)) (B : Binds K fd ["machine", "pairs"] []) : Has P w K mg base "unlike_letters" 1 ["machine", "pairs"] (sp_unl K) := by
  refine Has.mk' g F.kp B (F.ok sc_unlike_letters (fun vs H Q E h => ?_) (fun cdv A outer s H vs Q E hr h => ?_))
  · obtain ⟨v, M, b, refs, ps, rfl, _⟩ := h
    rfl
  · obtain ⟨v, M, b, refs, ps, rfl, ⟨a, x, y, rfl, hS, hx, ⟨ay, vy, rfl, hSy, hPy⟩⟩, ok, hb, hP, hl, hlt, k⟩ := h
    have k3 := ok.k3
    have hrl : refs.length = ps.length := Paired.length hP
    refine ⟨_, (pss_cons (ps_set (i := 2) sc_unlike_letters.nd rfl (.inl rfl) (pe_ix (ix_tupK (K := K) rfl) (pv 0) pe_int (fun _ _ => rfl)))
      (pss_cons (ps_set (i := 3) sc_unlike_letters.nd rfl (.inl rfl) pe_dnewT)
      (pss_cons (ps_for PassesOwn.never rfl (pi_listK (K := K) rfl (pv 1)) (pg_tupK (K := K) (n := 2) rfl (by rfl) (pgs_cons (pg_name (i := 4) sc_unlike_letters.nd rfl (.inl rfl)) (pgs_cons (pg_name (i := 5) sc_unlike_letters.nd rfl (.inl rfl)) pgs_nil)))
      (pss_one (ps_for PassesOwn.never rfl (pi_enumT (by rfl) T.b_enumerate (pa_cons (pe_ix (ix_tupK (K := K) rfl) (pv 2) (pv 4) (fun _ _ => rfl)) pa_nil)) (pg_tupK (K := K) (n := 2) rfl (by rfl) (pgs_cons (pg_name (i := 6) sc_unlike_letters.nd rfl (.inl rfl)) (pgs_cons (pg_name (i := 7) sc_unlike_letters.nd rfl (.inl rfl)) pgs_nil)))
      (pss_one (ps_if (pt_cmpR op_ne (pv 7) (pe_ix (ix_tupK (K := K) rfl) (pe_ix (ix_tupK (K := K) rfl) (pv 2) (pv 5) (fun _ _ => rfl)) (pv 6) (fun _ _ => rfl)) (nomark _))
      (pss_one (ps_expr (pe_dsetdT (hu_of hr) (pv 3) (pe_tup (pa_cons (pv 4) (pa_cons (pv 5) pa_nil))) (pv 6) ⟨rfl, rfl, rfl, rfl⟩)))
      pss_nil)))))
      (pss_one (ps_ret (pv 3)))))), ?_⟩
    refine q_asg (ev_op (ev_var rfl) ev_c (rv_ixT hS (atI_nat (j := 1) rfl))) fun H1 e1 => ?_
    refine fun pf hpf => ?_
    have e2 : Ex H (upd H1 pf (.dT [])) := e1.trans (Ex.new hpf)
    have npf : H pf = none := fresh_back e1 hpf
    refine q_forL (ev_var rfl) (ex_l e2 hb) (fun i σ' H' => ∃ (f : M1.PL) (l4 l5 l6 l7 : Option V), σ' = [some (.ref a), some (.ref b), some (.ref ay), some (.ref pf), l4, l5, l6, l7] ∧ Ex H H' ∧ H' pf = some (.dT (layV f)) ∧ M1.LayIn (fun p a => M.out p.1 a ≠ M.out p.2 a) M.k ps i 0 f)
      (fun H3 e3 => ⟨[], none, none, none, none, rfl, e2.trans e3, e3 _ _ upd_same, M1.LayIn.nil⟩) (fun i σ' H' _ ⟨_, _, _, _, _, _, e, _⟩ => ex_l e hb) ?_ ?_
    · rintro i z σ' H3 hz ⟨f, l4, l5, l6, l7, rfl, e3, hf3, L3⟩
      obtain ⟨p, hp, t, rfl, ht⟩ := Paired.get' hP hz
      obtain ⟨h1, h2⟩ := hlt p (List.mem_of_getElem? hp)
      obtain ⟨b1, g1, hB1⟩ := tab_get hPy (M.ans_at ok h1)
      obtain ⟨b2, g2, hB2⟩ := tab_get hPy (M.ans_at ok h2)
      refine ⟨t, _, rfl, SqT.of (e3 _ _ ht), rfl, _, _, rfl, _, _, rfl, rfl, ?_⟩
      refine ⟨.ref ay, rfl, nV p.1, rfl, ay, vy, _, .ref b1, rfl, rfl, ex_t e3 hSy, atI_nat g1, b1, rowV (M.ans p.1), rfl, ex_t e3 hB1, for_enumT (fun j σ' H' => ∃ (f : M1.PL) (l6 l7 : Option V), σ' = [some (.ref a), some (.ref b), some (.ref ay), some (.ref pf), some (nV p.1), some (nV p.2), l6, l7] ∧ Ex H H' ∧ H' pf = some (.dT (layV f)) ∧ M1.LayIn (fun p a => M.out p.1 a ≠ M.out p.2 a) M.k ps i j f)
        ⟨f, l6, l7, rfl, e3, hf3, L3⟩ (fun j σ' H' _ ⟨_, _, _, _, e, _⟩ => ex_t e hB1) ?_ ?_⟩
      · rintro j z t2 σ' H4 hz2 ⟨f4, m6, m7, rfl, e4, hf4, L4⟩ nt
        obtain ⟨c, hc, rfl⟩ := map_of hz2
        have hjk : j < M.k := by
          have := (List.getElem?_eq_some_iff.mp hc).1
          rwa [M.ans_len ok h1] at this
        have ec : c = M.out p.1 j := by
          have := M.out_at ok h1 hjk
          rw [hc] at this
          exact Option.some.inj this
        have e5 : Ex H4 (upd H4 t2 (.tup [.int (j : Nat), nV c])) := Ex.new nt
        have e45 := e4.trans e5
        have hf5 := e5 _ _ hf4
        refine ⟨t2, _, rfl, SqT.of upd_same, rfl, _, _, rfl, _, _, rfl, rfl, ?_⟩
        refine s_when (b := !decide (nV c = nV (M.out p.2 j))) (et_test (ev_op (ev_var rfl) (ev_op (ev_op (ev_var rfl) (ev_var rfl) (rv_ixT (ex_t e45 hSy) (atI_nat g2))) (ev_var rfl) (rv_ixT (ex_t e45 hB2) (atI_nat (rowV_at (M.out_at ok h2 hjk))))) (rv_ne rfl))) (fun bb H6 e6 => ?_) (fun bb H6 e6 => ?_)
        · have gd : M.out p.1 j ≠ M.out p.2 j := fun z => by
            rw [ec, z, decide_eq_true rfl] at bb
            cases bb
          have fl := L4.len
          refine s_layset (t := t) (p := p) (a := j) rfl (e6 _ _ hf5) (by omega) (fun Q q => ⟨nV p.1, rfl, nV p.2, rfl, by show 2 ≤ sizeLine; decide, fun t3 ht3 => q t3 _ (Ex.new ht3) upd_same⟩) (fun _ _ => ev_var rfl) (fun H7 e7 => ?_) (fun H7 e7 h7 => ?_)
          · exact ⟨_, _, _, rfl, Ex.mut ((e45.trans e6).trans e7) npf, upd_same, L4.add hp hjk gd⟩
          · exact ⟨_, _, _, rfl, (e45.trans e6).trans e7, h7, L4.add hp hjk gd⟩
        · have gd : ¬ M.out p.1 j ≠ M.out p.2 j := fun z => by
            have : nV c ≠ nV (M.out p.2 j) := fun q => z (by rw [← ec]; exact Int.ofNat_inj.mp (V.int.inj q))
            rw [decide_eq_false this] at bb
            cases bb
          exact ⟨f4, _, _, rfl, e45.trans e6, e6 _ _ hf5, L4.skip hp gd⟩
      · rintro σ' H4 ⟨f4, m6, m7, rfl, e4, hf4, L4⟩
        rw [rowV_len, M.ans_len ok h1] at L4
        exact ⟨f4, _, _, _, _, rfl, e4, hf4, L4.row⟩
    · rintro σ' H3 ⟨f, l4, l5, l6, l7, rfl, e3, hf3, L3⟩
      rw [hrl] at L3
      exact s_ret (ev_var rfl) fun H4 e4 => k pf H4 f npf (e3.trans e4) (e4 _ _ hf3) L3.done
/-! ### one letter on -/
def sp_behind (K : PySem.W.Frag) : Sp := fun vs H Q _ => ∃ (v : V) (M : M1.Mach) (t : Addr) (p : Nat × Nat) (a : Nat), vs = [v, .ref t, .int (a : Int)] ∧ MacAt K H v M.st M.an ∧ M.Ok ∧ H t = some (.tup [nV p.1, nV p.2]) ∧ p.1 < M.st.length ∧ p.2 < M.st.length ∧ a < M.k ∧
  ∀ q H2, H q = none → Ex H H2 → H2 q = some (.tup [nV (M.go p.1 a), nV (M.go p.2 a)]) → Q (.ref q) H2
theorem has_pair_behind (T : Txt K mg) {f : Addr} {fd : FuncData} (F : Fun K "pair_behind" "pair_behind" s_pair_behind f fd) (g : mg "pair_behind" = some (.ref f)) (B : Binds K fd ["machine", "pair", "letter"] []) : Has P w K mg base "pair_behind" 1 ["machine", "pair", "letter"] (sp_behind K) := by
  refine Has.mk' g F.kp B (F.ok sc_pair_behind (fun vs H Q E h => ?_) (fun cdv A outer s H vs Q E hr h => ?_))
  · obtain ⟨v, M, t, p, c, rfl, _⟩ := h
    rfl
  · obtain ⟨v, M, t, p, c, rfl, ⟨a, x, y, rfl, hS, ⟨ax, vx, rfl, hSx, hPx⟩, hy⟩, ok, ht, h1, h2, hc, k⟩ := h
    obtain ⟨b1, g1, hB1⟩ := tab_get hPx (M.row_at h1)
    obtain ⟨b2, g2, hB2⟩ := tab_get hPx (M.row_at h2)
    refine ⟨_, (pss_cons (ps_set (i := 3) sc_pair_behind.nd rfl (.inl rfl) (pe_ix (ix_tupK (K := K) rfl) (pv 0) pe_int (fun _ _ => rfl)))
      (pss_one (ps_ret (pe_tup (pa_cons (pe_ix (ix_tupK (K := K) rfl) (pe_ix (ix_tupK (K := K) rfl) (pv 3) (pe_ix (ix_tupK (K := K) rfl) (pv 1) pe_int (fun _ _ => rfl)) (fun _ _ => rfl)) (pv 2) (fun _ _ => rfl)) (pa_cons (pe_ix (ix_tupK (K := K) rfl) (pe_ix (ix_tupK (K := K) rfl) (pv 3) (pe_ix (ix_tupK (K := K) rfl) (pv 1) pe_int (fun _ _ => rfl)) (fun _ _ => rfl)) (pv 2) (fun _ _ => rfl)) pa_nil)))))), ?_⟩
    refine q_asg (ev_op (ev_var rfl) ev_c (rv_ixT hS (atI_nat (j := 0) rfl))) fun H1 e1 => ?_
    have ht1 : SqT K H1 t [nV p.1, nV p.2] := SqT.of (e1 _ _ ht)
    exact s_retU (eu_tup (ea_cons (ev_op (ev_op (ev_var rfl) (ev_op (ev_var rfl) ev_c (rv_ixT ht1 (atI_nat (j := 0) rfl))) (rv_ixT (ex_t e1 hSx) (atI_nat g1))) (ev_var rfl) (rv_ixT (ex_t e1 hB1) (atI_nat (rowV_at (M.go_at ok h1 hc)))))
      (ea_cons (ev_op (ev_op (ev_var rfl) (ev_op (ev_var rfl) ev_c (rv_ixT ht1 (atI_nat (j := 1) rfl))) (rv_ixT (ex_t e1 hSx) (atI_nat g2))) (ev_var rfl) (rv_ixT (ex_t e1 hB2) (atI_nat (rowV_at (M.go_at ok h2 hc))))) ea_nil)) (by show 2 ≤ 100000; decide)) fun q H2 hq e2 h2' => k q H2 (fresh_back e1 hq) (e1.trans e2) h2'
def sp_into (K : PySem.W.Frag) : Sp := fun vs H Q _ => ∃ (v : V) (M : M1.Mach) (b d : Addr) (refs : List V) (ps : List (Nat × Nat)) (e : M1.PL), vs = [v, .ref b, .ref d] ∧ MacAt K H v M.st M.an ∧ M.Ok ∧ SqL K H b refs ∧ Paired (PairAt H) refs ps ∧ ps.length ≤ 100 ∧ (∀ p ∈ ps, p.1 < M.st.length ∧ p.2 < M.st.length) ∧ H d = some (.dT (layV e)) ∧
  ∀ p H2 f, H p = none → Ex H H2 → H2 p = some (.dT (layV f)) → M1.Lay (fun p a => (M.go p.1 a, M.go p.2 a) ∈ e.map (·.1)) M.k ps f → Q (.ref p) H2
theorem lay_get {H : Hp} {d t : Addr} {f : M1.PL} {p : Nat × Nat} (hd : H d = some (.dT (layV f))) (ht : H t = some (.tup [nV p.1, nV p.2])) : DGet H d (.ref t) (valV (layV f) (keyOf p)) := DGet.t hd ht
theorem lay_isSome (f : M1.PL) (p : Nat × Nat) : (valV (layV f) (keyOf p)).isSome = decide (p ∈ f.map (·.1)) := by
  by_cases h : p ∈ f.map (·.1)
  · obtain ⟨a, e, _⟩ := lay_some f p h
    rw [e, decide_eq_true h]
    rfl
  · rw [lay_none f p h, decide_eq_false h]
    rfl
theorem has_letters_into (T : Txt K mg) (h_pair_behind : Has P w K mg base "pair_behind" 1 ["machine", "pair", "letter"] (sp_behind K)) {f : Addr} {fd : FuncData} (F : Fun K "letters_into" "letters_into" s_letters_into f fd) (g : mg "letters_into" = some (.ref f)) (B : Binds K fd ["machine", "pairs", "ends"] []) :
    Has P w K mg base "letters_into" 2 ["machine", "pairs", "ends"] (sp_into K) := by
  refine Has.mk' g F.kp B (F.ok sc_letters_into (fun vs H Q E h => ?_) (fun cdv A outer s H vs Q E hr h => ?_))
  · obtain ⟨v, M, b, d, refs, ps, e, rfl, _⟩ := h
    rfl
  · obtain ⟨v, M, b, d, refs, ps, eL, rfl, hM, ok, hb, hP, hl, hlt, hd, k⟩ := h
    obtain ⟨a, x, y, rfl, hS, ⟨ax, vx, rfl, hSx, hPx⟩, hy⟩ := id hM
    have k3 := ok.k3
    have hrl : refs.length = ps.length := Paired.length hP
    obtain ⟨r0, hr0⟩ := row0 ok
    obtain ⟨a0, g0, hS0⟩ := tab_get hPx r0
    refine ⟨_, (pss_cons (ps_set (i := 3) sc_letters_into.nd rfl (.inl rfl) pe_dnewT)
      (pss_cons (ps_for PassesOwn.never rfl (pi_listK (K := K) rfl (pv 1)) (pg_name (i := 4) sc_letters_into.nd rfl (.inl rfl))
      (pss_one (ps_for PassesOwn.never rfl (pi_range1 (by rfl) T.b_range (pa_cons (pe_callB (call_lenK (K := K) rfl) (by rfl) T.b_len bt_len (pa_cons (pe_ix (ix_tupK (K := K) rfl) (pe_ix (ix_tupK (K := K) rfl) (pv 0) pe_int (fun _ _ => rfl)) pe_int (fun _ _ => rfl)) pa_nil)) pa_nil)) (pg_name (i := 5) sc_letters_into.nd rfl (.inl rfl))
      (pss_one (ps_if (pt_cmp (pc_din (hu_of hr) (pe_has h_pair_behind (hr.mono (by first | decide | exact Nat.le_refl _)) (by rfl) (pa_cons (pv 0) (pa_cons (pv 4) (pa_cons (pv 5) pa_nil)))) (pv 2)))
      (pss_one (ps_expr (pe_dsetdT (hu_of hr) (pv 3) (pv 4) (pv 5) ⟨rfl, rfl, rfl, rfl⟩)))
      pss_nil)))))
      (pss_one (ps_ret (pv 3))))), ?_⟩
    refine fun pf hpf => ?_
    have e2 : Ex H (upd H pf (.dT [])) := Ex.new hpf
    refine q_forL (ev_var rfl) (ex_l e2 hb) (fun i σ' H' => ∃ (f : M1.PL) (l4 l5 : Option V), σ' = [some (.ref a), some (.ref b), some (.ref d), some (.ref pf), l4, l5] ∧ Ex H H' ∧ H' pf = some (.dT (layV f)) ∧ M1.LayIn (fun p a => (M.go p.1 a, M.go p.2 a) ∈ eL.map (·.1)) M.k ps i 0 f)
      (fun H3 e3 => ⟨[], none, none, rfl, e2.trans e3, e3 _ _ upd_same, M1.LayIn.nil⟩) (fun i σ' H' _ ⟨_, _, _, _, e, _⟩ => ex_l e hb) ?_ ?_
    · rintro i z σ' H3 hz ⟨f, l4, l5, rfl, e3, hf3, L3⟩
      obtain ⟨p, hp, t, rfl, ht⟩ := Paired.get' hP hz
      obtain ⟨h1, h2⟩ := hlt p (List.mem_of_getElem? hp)
      refine s_forR1 (D := { nx := _, rt := _, bk := _, ct := _ }) (n := ((rowV (M.row 0)).length : Int)) (ea_cons (ev_lenT (ev_op (ev_op (ev_var rfl) ev_c (rv_ixT (ex_t e3 hS) (atI_nat (j := 0) rfl))) ev_c (rv_ixT (ex_t e3 hSx) (atI_nat (j := 0) g0))) (ex_t e3 hS0)) ea_nil) ⟨by omega, by rw [rowV_len]; omega⟩
        (fun j σ' H' => ∃ (f : M1.PL) (l5 : Option V), σ' = [some (.ref a), some (.ref b), some (.ref d), some (.ref pf), some (.ref t), l5] ∧ Ex H H' ∧ H' pf = some (.dT (layV f)) ∧ M1.LayIn (fun p a => (M.go p.1 a, M.go p.2 a) ∈ eL.map (·.1)) M.k ps i j f)
        (fun H4 e4 => ⟨f, l5, rfl, e3.trans e4, e4 _ _ hf3, L3⟩) ?_ ?_
      · rintro j σ' H4 hj ⟨f4, m5, rfl, e4, hf4, L4⟩
        have hjk : j < M.k := by rw [rowV_len, hr0] at hj; omega
        refine s_when (b := decide ((M.go p.1 j, M.go p.2 j) ∈ eL.map (·.1))) (fun H5 e5 Q q => ?_) (fun bb H6 e6 => ?_) (fun bb H6 e6 => ?_)
        · have e45 := e4.trans e5
          refine ⟨.ref a, rfl, .ref t, rfl, .int (j : Int), rfl, .ref a, M, t, p, j, rfl, hM.keep (TKp.ex e45), ok, e45 _ _ ht, h1, h2, hjk, fun q2 H6 hq2 e6 h6 => ⟨.ref d, rfl, d, _, rfl, lay_get (p := (M.go p.1 j, M.go p.2 j)) ((e45.trans e6) _ _ hd) h6, _, rfl, ?_⟩⟩
          rw [lay_isSome]
          exact q H6 e6
        · have fl := L4.len
          have gd := of_decide_eq_true bb
          refine s_layset (t := t) (p := p) (a := j) rfl (e6 _ _ hf4) (by omega) (fun Q q => ⟨.ref t, rfl, q t _ (Ex.refl _) ((e4.trans e6) _ _ ht)⟩) (fun _ _ => ev_var rfl) (fun H7 e7 => ?_) (fun H7 e7 h7 => ?_)
          · exact ⟨_, _, rfl, Ex.mut ((e4.trans e6).trans e7) hpf, upd_same, L4.add hp hjk gd⟩
          · exact ⟨_, _, rfl, (e4.trans e6).trans e7, h7, L4.add hp hjk gd⟩
        · exact ⟨f4, _, rfl, e4.trans e6, e6 _ _ hf4, L4.skip hp (of_decide_eq_false bb)⟩
      · rintro σ' H4 ⟨f4, m5, rfl, e4, hf4, L4⟩
        rw [Int.toNat_natCast, rowV_len, hr0] at L4
        exact ⟨f4, _, _, rfl, e4, hf4, L4.row⟩
    · rintro σ' H3 ⟨f, l4, l5, rfl, e3, hf3, L3⟩
      rw [hrl] at L3
      exact s_ret (ev_var rfl) fun H4 e4 => k pf H4 f hpf (e3.trans e4) (e4 _ _ hf3) L3.done
end

end Kx
namespace Kx
open PySem PySem.Spec PyProof.Rows L2

open Evl
section
variable {P : Program} {w : World} {K : PySem.W.Frag} {mg : Str → Option Value} {base : Heap}
/-! ### the layers -/
theorem yesT {σ : L2.St} {H : Hp} {A B : Hp → Prop} (h : A H) : tYes σ H fun b H3 => if b = true then A H3 else B H3 := by
  show if true = true then A H else B H
  rw [if_pos rfl]
  exact h
def DicAt (H : Hp) (v : V) (f : M1.PL) : Prop := ∃ d, v = .ref d ∧ H d = some (.dT (layV f))
theorem dics_keep {H H' : Hp} (e : Ex H H') {vs : List V} {fs : List M1.PL} (h : Paired (DicAt H) vs fs) : Paired (DicAt H') vs fs := Paired.mapP h fun _ _ ⟨d, a, b⟩ => ⟨d, a, e _ _ b⟩
/-- all pairs, the first states is -/
def pairsOf (is : List Nat) (n : Nat) : List (Nat × Nat) := is.flatMap fun i => (List.range n).map fun j => (i, j)
theorem pairsOf_snoc (is : List Nat) (i n : Nat) : pairsOf (is ++ [i]) n = pairsOf is n ++ (List.range n).map fun j => (i, j) := by unfold pairsOf; rw [List.flatMap_append]; simp
theorem pairsOf_mem {is : List Nat} {n : Nat} {p : Nat × Nat} : p ∈ pairsOf is n ↔ p.1 ∈ is ∧ p.2 < n := by
  unfold pairsOf
  rw [List.mem_flatMap]
  constructor
  · rintro ⟨i, hi, h⟩
    obtain ⟨j, hj, rfl⟩ := List.mem_map.mp h
    exact ⟨hi, List.mem_range.mp hj⟩
  · rintro ⟨h1, h2⟩
    exact ⟨p.1, h1, List.mem_map.mpr ⟨p.2, List.mem_range.mpr h2, rfl⟩⟩
theorem pairsOf_len (is : List Nat) (n : Nat) : (pairsOf is n).length = is.length * n := by
  induction is with
  | nil => simp [pairsOf]
  | cons i is ih =>
    show ((i :: is).flatMap _).length = _
    rw [List.flatMap_cons, List.length_append, List.length_map, List.length_range, List.length_cons, Nat.succ_mul]
    unfold pairsOf at ih
    omega
def sp_layers (K : PySem.W.Frag) : Sp := fun vs H Q _ => ∃ (v : V) (M : M1.Mach), vs = [v] ∧ MacAt K H v M.st M.an ∧ M.Ok ∧
  ∀ p H2 refs fs ps, H p = none → Ex H H2 → H2 p = some (.lst refs) → Paired (DicAt H2) refs fs → M.Layers fs → M.Ends ps fs → M.AllP ps → fs.length ≤ 37 → Q (.ref p) H2
theorem has_late_layers (T : Txt K mg) (h_ways_to_states : Has P w K mg base "ways_to_states" 1 ["machine"] (sp_ways K)) (h_unlike_letters : Has P w K mg base "unlike_letters" 1 ["machine", "pairs"] (sp_unl K)) (h_letters_into : Has P w K mg base "letters_into" 2 ["machine", "pairs", "ends"] (sp_into K)) {f : Addr} {fd : FuncData} (F : Fun K "late_layers" "late_layers" s_late_layers f fd) (g : mg "late_layers" = some (.ref f)) (B : Binds K fd ["machine"] []) : Has P w K mg base "late_layers" 3 ["machine"] (sp_layers K) := by
  refine Has.mk' g F.kp B (F.ok sc_late_layers (fun vs H Q E h => ?_) (fun cdv A outer s H vs Q E hr h => ?_))
  · obtain ⟨v, M, rfl, _⟩ := h
    rfl
  · obtain ⟨v, M, rfl, hM, ok, k⟩ := h
    obtain ⟨a, x, y, rfl, hS, ⟨ax, vx, rfl, hSx, hPx⟩, hy⟩ := id hM
    have n6 := ok.n6
    have n1 := ok.n1
    have hvl : vx.length = M.st.length := Paired.length hPx
    refine ⟨_, (pss_cons (ps_setLc2 (i := 1) (own := [("one", 4), ("other", 5)]) (vs1 := [5]) (by rfl) sc_late_layers.nd rfl rfl (sw_true rfl rfl rfl (by decide +kernel)) (pi_keys (pe_frz (pe_has h_ways_to_states (hr.mono (by first | decide | exact Nat.le_refl _)) (by rfl) (pa_cons (pv 0) pa_nil)))) (blkOk_by (N := N_late_layers) (sc := defScope s_late_layers) (by decide +kernel)) (by decide) (fun _ _ _ _ _ => (pg_name (i := 4) sc_late_layers.nd rfl (.inl rfl))) (fun _ _ _ _ _ => pts_nil) (fun _ _ _ _ _ => (pi_range1 (by rfl) T.b_range (pa_cons (pe_callB (call_lenK (K := K) rfl) (by rfl) T.b_len bt_len (pa_cons (pe_ix (ix_tupK (K := K) rfl) (pv 0) pe_int (fun _ _ => rfl)) pa_nil)) pa_nil))) (fun _ _ _ _ _ => (pg_name (i := 5) sc_late_layers.nd rfl (.inl rfl))) (fun _ _ _ _ _ => pts_nil) (fun _ _ _ _ _ => (pe_tup (pa_cons (pv 4) (pa_cons (pv 5) pa_nil)))))
      (pss_cons (ps_set (i := 2) sc_late_layers.nd rfl (.inl rfl) (pe_lst pa_nil))
      (pss_cons (ps_set (i := 3) sc_late_layers.nd rfl (.inl rfl) (pe_has h_unlike_letters (hr.mono (by first | decide | exact Nat.le_refl _)) (by rfl) (pa_cons (pv 0) (pa_cons (pv 1) pa_nil))))
      (pss_cons (ps_while PassesOwn.never (PW.pt (pw_and (pt_truthT (pv 3)) (pw_and1 (pt_cmpR op_le (pe_callB (call_lenK (K := K) rfl) (by rfl) T.b_len bt_len (pa_cons (pv 2) pa_nil)) (pe_callB (call_lenK (K := K) rfl) (by rfl) T.b_len bt_len (pa_cons (pv 1) pa_nil)) (nomark _)))))
      (pss_cons (ps_expr (pe_bm PySem.F.plainAttrs_list PySem.F.slot_list_append PySem.F.type_list_append mt_append (pv 2) (pa_cons (pv 3) pa_nil)))
      (pss_one (ps_set (i := 3) sc_late_layers.nd rfl (.inl rfl) (pe_has h_letters_into (hr.mono (by first | decide | exact Nat.le_refl _)) (by rfl) (pa_cons (pv 0) (pa_cons (pv 1) (pa_cons (pv 3) pa_nil))))))))
      (pss_one (ps_ret (pv 2))))))), ?_⟩
    refine ⟨.ref a, rfl, .ref a, M, rfl, hM, ok, fun d H1 kvs ws hd e1 h1 W1 A1 => ⟨d, _, rfl, h1, trivial, fun od => ⟨d, od, rfl, .inl ⟨kvs, upd_same, fun D hD => ?_⟩⟩⟩⟩
    have wl := W1.len ok
    have kl : kvs.length = ws.length := Paired.length W1.at_
    have e2 : Ex H (upd H1 d (.frz od (.dK kvs))) := Ex.mut e1 hd
    refine ⟨fun i m H' => i ≤ kvs.length ∧ m = kvs.length - i ∧ Ex (upd H1 d (.frz od (.dK kvs))) H' ∧ ∃ refs, H' D = some (.lst refs) ∧ Paired (PairAt H') refs (pairsOf ((ws.map (·.1)).take i) M.st.length), ⟨_, Nat.zero_le _, rfl, Ex.new hD, [], upd_same, .nil⟩, ?_⟩
    rintro i m H2 ⟨hi, rfl, e3, refs, hD2, hR⟩
    have e23 := e2.trans e3
    by_cases hi2 : i < kvs.length
    · refine .inr ⟨⟨e3 _ _ upd_same, hi2⟩, fun H' => ∃ m', m' < kvs.length - i ∧ i + 1 ≤ kvs.length ∧ m' = kvs.length - (i + 1) ∧ Ex (upd H1 d (.frz od (.dK kvs))) H' ∧ ∃ refs, H' D = some (.lst refs) ∧ Paired (PairAt H') refs (pairsOf ((ws.map (·.1)).take (i + 1)) M.st.length), fun H' h => h, ?_⟩
      rintro x H3 ⟨rfl, kx, vv, hkv, rfl⟩
      obtain ⟨iw, hiw, hkey, _⟩ := Paired.get' W1.at_ hkv
      obtain ⟨i0, u0⟩ := iw
      have hkey' : kx = Sum.inl (i0 : Int) := hkey
      subst hkey'
      refine ⟨rfl, yesT ?_⟩
      refine (ea_cons (ev_lenT (K := K) (ev_op (ev_var rfl) ev_c (rv_ixT (K := K) (ex_t e23 hS) (atI_nat (j := 0) rfl))) (ex_t e23 hSx)) ea_nil) _ (Ex.refl _) _ fun H4 e4 => ⟨_, rfl, by omega, by omega, ?_⟩
      have e34 := e3.trans e4
      have hR4 := pairs_keep (TT.ex e4) hR
      have tk : ((ws.map (·.1)).take (i + 1)) = (ws.map (·.1)).take i ++ [i0] := M1.take_succ' (by rw [List.getElem?_map, hiw]; rfl)
      refine ⟨fun j k H' => j ≤ M.st.length ∧ k = M.st.length - j ∧ Ex (upd H1 d (.frz od (.dK kvs))) H' ∧ ∃ refs, H' D = some (.lst refs) ∧ Paired (PairAt H') refs (pairsOf ((ws.map (·.1)).take i) M.st.length ++ (List.range j).map fun j => (i0, j)), ⟨_, Nat.zero_le _, rfl, e34, refs, e4 _ _ hD2, by simpa using hR4⟩, ?_⟩
      rintro j k H5 ⟨hj, rfl, e5, refs5, hD5, hR5⟩
      by_cases hj2 : j < M.st.length
      · refine .inr ⟨by show j < _; omega, fun H' => ∃ k', k' < M.st.length - j ∧ j + 1 ≤ M.st.length ∧ k' = M.st.length - (j + 1) ∧ Ex (upd H1 d (.frz od (.dK kvs))) H' ∧ ∃ refs, H' D = some (.lst refs) ∧ Paired (PairAt H') refs (pairsOf ((ws.map (·.1)).take i) M.st.length ++ (List.range (j + 1)).map fun j => (i0, j)), fun H' h => h, ?_⟩
        rintro x H6 ⟨rfl, rfl⟩
        refine ⟨rfl, yesT ?_⟩
        refine eu_tup (ea_cons (x := .int (i0 : Int)) (ev_var rfl) (ea_cons (x := .int (0 + (j : Int))) (ev_var rfl) ea_nil)) (by show 2 ≤ 100000; decide) _ (Ex.refl _) _ fun t H7 ht e7 h7 => ⟨refs5, e7 _ _ hD5, ?_, _, by omega, by omega, rfl, Ex.mut (e5.trans e7) hD, _, upd_same, ?_⟩
        · have hl := Paired.length hR5
          rw [List.length_append, pairsOf_len, List.length_map, List.length_range, List.length_take, List.length_map] at hl
          have hm : min i ws.length * M.st.length ≤ 6 * 6 := Nat.mul_le_mul (by omega) n6
          exact small1000 (by omega)
        · have h7' : H7 t = some (.tup [nV i0, nV j]) := by rw [h7, Int.zero_add]; rfl
          have t8 : TT H7 (upd H7 D (.lst (refs5 ++ [.ref t]))) := TT.upd (e7 _ _ hD5) (fun _ z => by cases z)
          rw [List.range_succ, List.map_append, ← List.append_assoc]
          exact Paired.snoc (pairs_keep t8 (pairs_keep (TT.ex e7) hR5)) ⟨t, rfl, t8 _ _ h7'⟩
      · refine .inl ⟨by show _ ≤ j; omega, _, by omega, by omega, rfl, e5, refs5, hD5, ?_⟩
        rw [tk, pairsOf_snoc]
        rw [show j = M.st.length by omega] at hR5
        exact hR5
    · refine .inl ⟨⟨e3 _ _ upd_same, by omega⟩, ?_⟩
      rw [List.take_of_length_le (by rw [List.length_map]; omega)] at hR
      -- the pairs
      have hA : M.AllP (pairsOf (ws.map (·.1)) M.st.length) := fun p => by
        rw [pairsOf_mem]
        refine ⟨fun ⟨h1, h2⟩ => ⟨?_, h2⟩, fun ⟨h1, h2⟩ => ⟨A1 _ h1, h2⟩⟩
        obtain ⟨iw, hm, he⟩ := List.mem_map.mp h1
        obtain ⟨h3, h4⟩ := W1.way iw hm
        exact ⟨iw.2, h3, h4.trans he⟩
      have hPl : (pairsOf (ws.map (·.1)) M.st.length).length ≤ 36 := by
        rw [pairsOf_len, List.length_map]
        exact Nat.mul_le_mul (show ws.length ≤ 6 by omega) n6
      have hlt : ∀ p ∈ pairsOf (ws.map (·.1)) M.st.length, p.1 < M.st.length ∧ p.2 < M.st.length := fun p hp => by
        obtain ⟨h1, h2⟩ := (hA p).mp hp
        exact ⟨h1.lt ok, h2⟩
      generalize pairsOf (ws.map (·.1)) M.st.length = ps at hR hA hPl hlt
      have hrl : refs.length = ps.length := Paired.length hR
      have nD : H D = none := fresh_back e2 hD
      refine q_asgL (el_lst ea_nil (by show 0 ≤ 100000; decide)) fun L H4 hL e4 h4 => ?_
      have e24 := e23.trans e4
      have nL : H L = none := fresh_back e23 hL
      refine ⟨.ref a, rfl, .ref D, rfl, .ref a, M, D, refs, ps, rfl, hM.keep (TKp.ex e24), ok, sq_of (e4 _ _ hD2), pairs_keep (TT.ex e4) hR, by omega, hlt, fun q H5 f hq e5 h5 L5 => ?_⟩
      have e25 := e24.trans e5
      obtain ⟨L1, F1⟩ := M.layAt_one hA L5
      refine q_while (fun m σ' H' => ∃ (fs : List M1.PL) (f : M1.PL) (lrefs : List V) (q : Addr), σ' = [some (.ref a), some (.ref D), some (.ref L), some (.ref q), none, none] ∧ Ex H H' ∧ H' D = some (.lst refs) ∧ Paired (PairAt H') refs ps ∧ H' L = some (.lst lrefs) ∧ Paired (DicAt H') lrefs fs ∧ H' q = some (.dT (layV f)) ∧ M.LayAt (fs.length + 1) f ∧ M.Layers fs ∧ (f ≠ [] → M.Layers (fs ++ [f])) ∧ fs.length ≤ ps.length + 1 ∧ m = ps.length + 1 - fs.length) _
        ⟨[], f, [], q, rfl, e25, e5 _ _ (e4 _ _ hD2), pairs_keep (TT.ex (e4.trans e5)) hR, e5 _ _ h4, .nil, h5, L1, M1.Mach.Layers.nil, fun hn => M1.Mach.Layers.one L1 F1 hn, Nat.zero_le _, rfl⟩ ?_
      rintro m σ' H6 ⟨fs, f, lrefs, q, rfl, e6, hD6, hR6, hL6, hF6, hq6, LA, LS, LN, hfl, rfl⟩
      have hll : lrefs.length = fs.length := Paired.length hF6
      refine ⟨!(layV f).isEmpty && decide ((lrefs.length : Int) ≤ (refs.length : Int)), et_and (fun H7 e7 Q q' => ⟨.ref q, rfl, q, _, rfl, e7 _ _ hq6, q' H7 (Ex.refl _)⟩) (fun _ => et_test (ev_op (ev_len (K := K) (ev_var rfl) (sq_of hL6)) (ev_len (K := K) (ev_var rfl) (sq_of hD6)) rv_I0)), fun bb H7 e7 => ?_, fun bb H7 e7 => ?_⟩
      · rw [Bool.and_eq_true] at bb
        have hlen : fs.length ≤ ps.length := by
          have := of_decide_eq_true bb.2
          omega
        have hfn : f ≠ [] := fun z => by subst z; exact absurd bb.1 (by decide)
        have e67 := e6.trans e7
        refine ⟨fun σ2 H' => ∃ m', m' < ps.length + 1 - fs.length ∧ ∃ (fs : List M1.PL) (f : M1.PL) (lrefs : List V) (q : Addr), σ2 = [some (.ref a), some (.ref D), some (.ref L), some (.ref q), none, none] ∧ Ex H H' ∧ H' D = some (.lst refs) ∧ Paired (PairAt H') refs ps ∧ H' L = some (.lst lrefs) ∧ Paired (DicAt H') lrefs fs ∧ H' q = some (.dT (layV f)) ∧ M.LayAt (fs.length + 1) f ∧ M.Layers fs ∧ (f ≠ [] → M.Layers (fs ++ [f])) ∧ fs.length ≤ ps.length + 1 ∧ m' = ps.length + 1 - fs.length, fun σ2 H' h => h, ?_⟩
        have hL7 := e7 _ _ hL6
        have hq7 := e7 _ _ hq6
        have hD7 := e7 _ _ hD6
        refine ⟨.ref L, rfl, Or.inl ⟨rfl, _, sq_of hL7⟩, .ref q, rfl, L, _, _, rfl, rfl, hL7, small1000 (by omega), ?_⟩
        have nqL : q ≠ L := fun z => by subst z; rw [hL7] at hq7; cases hq7
        have nDL : D ≠ L := fun z => by subst z; exact absurd hL (by rw [hD2]; exact fun w => by cases w)
        have e8 : Ex H (upd H7 L (.lst (lrefs ++ [.ref q]))) := Ex.mut e67 nL
        have t8 : TT H7 (upd H7 L (.lst (lrefs ++ [.ref q]))) := TT.upd hL7 (fun _ z => by cases z)
        have hq8 : (upd H7 L (.lst (lrefs ++ [.ref q]))) q = some (.dT (layV f)) := by rw [upd_ne nqL]; exact hq7
        have hD8 : (upd H7 L (.lst (lrefs ++ [.ref q]))) D = some (.lst refs) := by rw [upd_ne nDL]; exact hD7
        have hF8 : Paired (DicAt (upd H7 L (.lst (lrefs ++ [.ref q])))) lrefs fs := Paired.mapP (dics_keep e7 hF6) fun v f ⟨d, hd, h⟩ => ⟨d, hd, by rw [upd_ne (fun z => by subst z; rw [hL7] at h; cases h)]; exact h⟩
        have hR8 := pairs_keep t8 (pairs_keep (TT.ex e7) hR6)
        refine ⟨.ref a, rfl, .ref D, rfl, .ref q, rfl, .ref a, M, D, q, refs, ps, f, rfl, hM.keep (TKp.ex e8), ok, sq_of hD8, hR8, by omega, hlt, hq8, fun q9 H9 f9 hq9 e9 h9 L9 => ?_⟩
        obtain ⟨L10, S10⟩ := M.layAt_succ ok hA LA L9
        refine ⟨_, ?_, fs ++ [f], f9, lrefs ++ [.ref q], q9, rfl, e8.trans e9, e9 _ _ hD8, pairs_keep (TT.ex e9) hR8, e9 _ _ upd_same, Paired.snoc (dics_keep e9 hF8) ⟨q, rfl, e9 _ _ hq8⟩, h9, ?_, LN hfn, fun hn => (LN hfn).snoc L10 S10 hn, ?_, rfl⟩
        · rw [List.length_append, List.length_singleton]; omega
        · rw [List.length_append, List.length_singleton]; exact L10
        · rw [List.length_append, List.length_singleton]; omega
      · have hE : M.Ends ps fs := by
          by_cases hf : f = []
          · exact .inl (LA.none hf)
          · refine .inr ?_
            have h1 : (layV f).isEmpty = false := by
              cases f with
              | nil => exact absurd rfl hf
              | cons _ _ => rfl
            rw [h1, Bool.not_false, Bool.true_and] at bb
            have := of_decide_eq_false bb
            omega
        exact s_ret (ev_var rfl) fun H8 e8 => k L H8 lrefs fs ps nL (e6.trans (e7.trans e8)) (e8 _ _ (e7 _ _ hL6)) (dics_keep (e7.trans e8) hF6) LS hE hA (by omega)
end

end Kx
namespace Kx
open PySem PySem.Spec PyProof.Rows L2

open Evl
section
variable {P : Program} {w : World} {K : PySem.W.Frag} {mg : Str → Option Value} {base : Heap}
/-! ### the walk -/
def StepAt (H : Hp) (v : V) (x : (Nat × Nat) × Nat) : Prop := ∃ t u, v = .ref t ∧ H t = some (.tup [.ref u, nV x.2]) ∧ H u = some (.tup [nV x.1.1, nV x.1.2])
theorem steps_keep {H H' : Hp} (e : TT H H') {vs : List V} {ps : M1.PL} (h : Paired (StepAt H) vs ps) : Paired (StepAt H') vs ps := Paired.mapP h fun _ _ ⟨t, u, a, b, c⟩ => ⟨t, u, a, e _ _ b, e _ _ c⟩
def sp_walk (K : PySem.W.Frag) : Sp := fun vs H Q _ => ∃ (v : V) (M : M1.Mach), vs = [v] ∧ MacAt K H v M.st M.an ∧ M.Ok ∧
  ∀ p H2 refs w, H p = none → Ex H H2 → H2 p = some (.lst refs) → Paired (StepAt H2) refs w → M.Wk w → w.length ≤ 37 → Q (.ref p) H2
theorem has_late_walk (T : Txt K mg) (h_pair_behind : Has P w K mg base "pair_behind" 1 ["machine", "pair", "letter"] (sp_behind K)) (h_late_layers : Has P w K mg base "late_layers" 3 ["machine"] (sp_layers K)) {f : Addr} {fd : FuncData} (F : Fun K "late_walk" "late_walk" s_late_walk f fd) (g : mg "late_walk" = some (.ref f)) (B : Binds K fd ["machine"] []) : Has P w K mg base "late_walk" 4 ["machine"] (sp_walk K) := by
  refine Has.mk' g F.kp B (F.ok sc_late_walk (fun vs H Q E h => ?_) (fun cdv A outer s H vs Q E hr h => ?_))
  · obtain ⟨v, M, rfl, _⟩ := h
    rfl
  · obtain ⟨v, M, rfl, hM, ok, k⟩ := h
    obtain ⟨a, x, y, rfl, hS, ⟨ax, vx, rfl, hSx, hPx⟩, hy⟩ := id hM
    refine ⟨_, (pss_cons (ps_set (i := 1) sc_late_walk.nd rfl (.inl rfl) (pe_has h_late_layers (hr.mono (by first | decide | exact Nat.le_refl _)) (by rfl) (pa_cons (pv 0) pa_nil)))
      (pss_cons (ps_set (i := 2) sc_late_walk.nd rfl (.inl rfl) (pe_lst pa_nil))
      (pss_cons (ps_if (pt_tru (K := K) rfl (pv 1))
      (pss_cons (ps_set (i := 3) sc_late_walk.nd rfl (.inl rfl) (pe_ix (ix_listK (K := K) rfl) (pe_callTy (call_list_dT rfl) (by rfl) T.b_list bt_list (pa_cons (pe_ix (ix_listK (K := K) rfl) (pv 1) (pe_un un_neg pe_int) (fun _ _ => rfl)) pa_nil)) pe_int (fun _ _ => rfl)))
      (pss_one (ps_for PassesOwn.never rfl (pi_reversed (by rfl) T.b_reversed (pa_cons (pv 1) pa_nil)) (pg_name (i := 4) sc_late_walk.nd rfl (.inl rfl))
      (pss_cons (ps_expr (pe_bm PySem.F.plainAttrs_list PySem.F.slot_list_append PySem.F.type_list_append mt_append (pv 2) (pa_cons (pe_tup (pa_cons (pv 3) (pa_cons (pe_dget (hu_of hr) (pv 4) (pv 3) (fun _ _ => rfl)) pa_nil))) pa_nil)))
      (pss_one (ps_set (i := 3) sc_late_walk.nd rfl (.inl rfl) (pe_has h_pair_behind (hr.mono (by first | decide | exact Nat.le_refl _)) (by rfl) (pa_cons (pv 0) (pa_cons (pv 3) (pa_cons (pe_dget (hu_of hr) (pv 4) (pv 3) (fun _ _ => rfl)) pa_nil))))))))))
      pss_nil)
      (pss_one (ps_ret (pv 2)))))), ?_⟩
    refine ⟨.ref a, rfl, .ref a, M, rfl, hM, ok, fun L H1 lrefs fs ps hL e1 hL1 hF1 LS hE hA hl => ?_⟩
    refine q_asgL (el_lst ea_nil (by show 0 ≤ 100000; decide)) fun W H2 hW e2 hW2 => ?_
    have hL2 := e2 _ _ hL1
    have hF2 := dics_keep e2 hF1
    refine q_when (b := !lrefs.isEmpty) (et_tru (ev_var rfl) (fun H3 e3 => tru_list (sq_of (e3 _ _ hL2)))) (fun bb H3 e3 => ?_) (fun bb H3 e3 => ?_)
    · have hfn : fs ≠ [] := fun z => by
        subst z
        cases hF1
        exact absurd bb (by decide)
      have hll : lrefs.length = fs.length := Paired.length hF2
      have hpos : 0 < fs.length := List.length_pos_iff.mpr hfn
      have hlt : fs.length - 1 < fs.length := by omega
      have hlast : fs[fs.length - 1]? = some (fs[fs.length - 1]) := List.getElem?_eq_getElem hlt
      obtain ⟨x0, g0, d0, rfl, hd0⟩ := Paired.get hF2 hlast
      have e23 := (e1.trans e2).trans e3
      obtain ⟨hA0, hN0⟩ := LS.at_ _ _ hlast
      have hlast' : fs.getLast? = some (fs[fs.length - 1]) := by rw [List.getLast?_eq_getElem?]; exact hlast
      generalize fs[fs.length - 1] = f0 at hlast hlast' hd0 hA0 hN0
      have nW : H W = none := fresh_back e1 hW
      have hlast2 : atI lrefs (-1) = some (.ref d0) := by
        have e : lrefs = lrefs.take (lrefs.length - 1) ++ [.ref d0] := by
          rw [← M1.take_succ' (i := lrefs.length - 1) (x := V.ref d0) (by rw [hll]; exact g0), show lrefs.length - 1 + 1 = lrefs.length by omega, List.take_length]
        rw [e]
        exact atI_last _ _
      obtain ⟨x1, f1, rfl⟩ : ∃ x1 f1, f0 = x1 :: f1 := by
        cases f0 with
        | nil => exact absurd rfl hN0
        | cons x1 f1 => exact ⟨x1, f1, rfl⟩
      refine ⟨.ref L, rfl, 1, rfl, L, lrefs, -1, .ref d0, rfl, rfl, sq_of (e3 _ _ hL2), hlast2, d0, layV (x1 :: f1), rfl, .inl (e3 _ _ hd0), fun c bs hc hbs => ?_⟩
      obtain ⟨u, bs, rfl, hu⟩ : ∃ u bs', bs = u :: bs' ∧ H3 u = some (.tup [nV x1.1.1, nV x1.1.2]) := by
        cases hbs with
        | cons h _ => exact ⟨_, _, rfl, h⟩
      refine ⟨c, _, 0, .ref u, rfl, rfl, sq_of upd_same, atI_nat (j := 0) rfl, ?_⟩
      have ec : Ex H3 (upd H3 c (.lst ((u :: bs).map V.ref))) := Ex.new hc
      refine ⟨.ref L, rfl, L, lrefs, rfl, sq_of (ec _ _ (e3 _ _ hL2)), RT.for_Itv (fun i σ' H' => ∃ (wk : M1.PL) (wr : List V) (u : Addr) (p : Nat × Nat) (l4 : Option V), σ' = [some (.ref a), some (.ref L), some (.ref W), some (.ref u), l4] ∧ Ex H H' ∧ H' L = some (.lst lrefs) ∧ Paired (DicAt H') lrefs fs ∧ H' W = some (.lst wr) ∧ Paired (StepAt H') wr wk ∧ H' u = some (.tup [nV p.1, nV p.2]) ∧ M.WkIn fs i wk p)
        ⟨[], [], u, x1.1, none, rfl, e23.trans ec, ec _ _ (e3 _ _ hL2), dics_keep (e3.trans ec) hF2, ec _ _ (e3 _ _ hW2), .nil, ec _ _ hu, M1.Mach.WkIn.start hlast' (by simp)⟩ (fun i σ' H' ⟨_, _, _, _, _, _, _, h, _⟩ => sq_of h) ?_ ?_⟩
      · rintro i z σ' H' hi hz ⟨wk, wr, u, p, l4, rfl, e4, hL4, hF4, hW4, hR4, hu4, WI⟩
        obtain ⟨f, hf, d, rfl, hd⟩ := Paired.get' hF4 hz
        rw [hll] at hf hi
        obtain ⟨f', hf', hp⟩ := WI.key hi
        rw [hf] at hf'
        cases hf'
        obtain ⟨b, hb, hm⟩ := lay_some f p hp
        obtain ⟨hAf, _⟩ := LS.at_ _ _ hf
        have hpr := ((hAf.keys p).mp hp).1
        have hbk := hAf.lt _ hm
        have hwl : wr.length ≤ 36 := by
          have := Paired.length hR4
          have := WI.len
          omega
        have dg : ∀ {H7 : Hp}, TT H' H7 → H7 d = some (.dT (layV f)) → DGet H7 d (.ref u) (some (nV b)) := fun t h => by
          rw [← hb]
          exact lay_get h (t _ _ hu4)
        refine ⟨.ref W, rfl, Or.inl ⟨rfl, _, sq_of hW4⟩, .ref u, rfl, .ref d, rfl, .ref u, rfl, d, nV b, rfl, dg (TT.ex (Ex.refl _)) hd, by show 2 ≤ sizeLine; decide, fun t ht => ⟨W, wr, .ref t, rfl, rfl, Ex.new ht _ _ hW4, small1000 (by omega), ?_⟩⟩
        have e5 : Ex H' (upd H' t (.tup [.ref u, nV b])) := Ex.new ht
        have e6 : Ex H (upd (upd H' t (.tup [.ref u, nV b])) W (.lst (wr ++ [.ref t]))) := Ex.mut (e4.trans e5) nW
        have t6 : TT H' (upd (upd H' t (.tup [.ref u, nV b])) W (.lst (wr ++ [.ref t]))) := fun b xs q => TT.upd (e5 _ _ hW4) (fun _ z => by cases z) _ _ (e5 _ _ q)
        have nLW : L ≠ W := fun z => by subst z; rw [hL1] at hW; cases hW
        have hL6 : (upd (upd H' t (.tup [.ref u, nV b])) W (.lst (wr ++ [.ref t]))) L = some (.lst lrefs) := by rw [upd_ne nLW]; exact e5 _ _ hL4
        have keepD : ∀ {v : V} {f : M1.PL}, DicAt H' v f → DicAt (upd (upd H' t (.tup [.ref u, nV b])) W (.lst (wr ++ [.ref t]))) v f := fun ⟨d, hd, h⟩ => ⟨d, hd, by rw [upd_ne (fun z => by subst z; rw [hW4] at h; cases h)]; exact e5 _ _ h⟩
        obtain ⟨d', hd', hd6⟩ := keepD ⟨d, rfl, hd⟩
        cases hd'
        have ht6 : (upd (upd H' t (.tup [.ref u, nV b])) W (.lst (wr ++ [.ref t]))) t = some (.tup [.ref u, nV b]) := by
          rw [upd_ne (fun z => by subst z; rw [hW4] at ht; cases ht)]
          exact upd_same
        refine ⟨.ref a, rfl, .ref u, rfl, .ref d, rfl, .ref u, rfl, d, nV b, rfl, dg t6 hd6, .ref a, M, u, p, b, rfl, hM.keep (TKp.ex e6), ok, t6 _ _ hu4, hpr.1.lt ok, hpr.2, hbk, fun q H9 hq e9 h9 => ?_⟩
        exact ⟨wk ++ [(p, b)], wr ++ [.ref t], q, (M.go p.1 b, M.go p.2 b), _, rfl, e6.trans e9, e9 _ _ hL6, dics_keep e9 (Paired.mapP hF4 fun _ _ h => keepD h), e9 _ _ upd_same, steps_keep (TT.ex e9) (Paired.snoc (steps_keep t6 hR4) ⟨t, u, rfl, ht6, t6 _ _ hu4⟩), h9, WI.go LS hf hi hm⟩
      · rintro σ' H' ⟨wk, wr, u, p, l4, rfl, e4, hL4, hF4, hW4, hR4, hu4, WI⟩
        rw [hll] at WI
        exact s_ret (ev_var rfl) fun H5 e5 => k W H5 wr wk nW (e4.trans e5) (e5 _ _ hW4) (steps_keep (TT.ex e5) hR4) (LS.wk ok hA hE (.inr ⟨hfn, WI⟩)) (by rw [WI.len]; exact hl)
    · have hfs : fs = [] := by
        cases hF2 with
        | nil => rfl
        | cons _ _ => cases bb
      exact s_ret (ev_var rfl) fun H4 e4 => k W H4 [] [] (fresh_back e1 hW) ((e1.trans e2).trans (e3.trans e4)) (e4 _ _ (e3 _ _ hW2)) .nil (LS.wk (p := (0, 0)) ok hA hE (.inl ⟨hfs, rfl⟩)) (Nat.zero_le _)
end

end Kx
namespace Kx
open PySem PySem.Spec PyProof.Rows L2

open Evl
section
variable {P : Program} {w : World} {K : PySem.W.Frag} {mg : Str → Option Value} {base : Heap}
/-! ### the round -/
/-- the pairs so far, each with its place -/
def placesOf (w : M1.PL) : M1.PL := (w.map (·.1)).zipIdx
theorem placesOf_keys (w : M1.PL) : (placesOf w).map (·.1) = w.map (·.1) := by unfold placesOf; rw [List.zipIdx_map_fst]
theorem placesOf_mem {w : M1.PL} {p : Nat × Nat} {a : Nat} (h : (p, a) ∈ placesOf w) : ∃ c, w[a]? = some (p, c) := by
  unfold placesOf at h
  rw [List.mem_zipIdx_iff_getElem?] at h
  rw [List.getElem?_map] at h
  cases e : w[a]? with
  | none => rw [e] at h; cases h
  | some x => rw [e] at h; cases h; exact ⟨x.2, rfl⟩
theorem placesOf_snoc {w : M1.PL} {i : Nat} {x : (Nat × Nat) × Nat} (h : w[i]? = some x) : placesOf (w.take (i + 1)) = placesOf (w.take i) ++ [(x.1, i)] := by
  have hl : (w.take i).length = i := by rw [List.length_take]; have := (List.getElem?_eq_some_iff.mp h).1; omega
  unfold placesOf
  rw [M1.take_succ' h, List.map_append, List.zipIdx_append]
  congr 1
  show [(x.1, 0 + ((w.take i).map (·.1)).length)] = _
  rw [List.length_map, hl, Nat.zero_add]
def sp_round (K : PySem.W.Frag) : Sp := fun vs H Q _ => ∃ (b : Addr) (refs : List V) (w : M1.PL), vs = [.ref b] ∧ SqL K H b refs ∧ Paired (StepAt H) refs w ∧ w.length ≤ 37 ∧ ((w.map (·.1)).Nodup → ∀ H2, Ex H H2 → Q .non H2) ∧
  ∀ (i j : Nat) p a c t H2, i < j → w[i]? = some (p, a) → w[j]? = some (p, c) → H t = none → Ex H H2 → H2 t = some (.tup [nV i, nV j]) → Q (.ref t) H2
theorem has_round_on (T : Txt K mg) {f : Addr} {fd : FuncData} (F : Fun K "round_on" "round_on" s_round_on f fd) (g : mg "round_on" = some (.ref f)) (B : Binds K fd ["walk"] []) : Has P w K mg base "round_on" 1 ["walk"] (sp_round K) := by
  refine Has.mk' g F.kp B (F.ok sc_round_on (fun vs H Q E h => ?_) (fun cdv A outer s H vs Q E hr h => ?_))
  · obtain ⟨b, refs, w, rfl, _⟩ := h
    rfl
  · obtain ⟨b, refs, w, rfl, hb, hR, hl, kN, kS⟩ := h
    have hrl : refs.length = w.length := Paired.length hR
    refine ⟨_, (pss_cons (ps_set (i := 1) sc_round_on.nd rfl (.inl rfl) pe_dnewT)
      (pss_cons (ps_for PassesOwn.never rfl (pi_enum (by rfl) T.b_enumerate (pa_cons (pv 0) pa_nil)) (pg_tupK (K := K) (n := 2) rfl (by rfl) (pgs_cons (pg_name (i := 2) sc_round_on.nd rfl (.inl rfl)) (pgs_cons (pg_tupK (K := K) (n := 2) rfl (by rfl) (pgs_cons (pg_name (i := 3) sc_round_on.nd rfl (.inl rfl)) (pgs_cons (pg_name (i := 4) sc_round_on.nd rfl (.inl rfl)) pgs_nil))) pgs_nil)))
      (pss_cons (ps_if (pt_cmp (pc_din (hu_of hr) (pv 3) (pv 1)))
      (pss_one (ps_ret (pe_tup (pa_cons (pe_dget (hu_of hr) (pv 1) (pv 3) (fun _ _ => rfl)) (pa_cons (pv 2) pa_nil)))))
      pss_nil)
      (pss_one (ps_dput (hu_of hr) (pv 1) (pv 3) (pv 2) rfl))))
      (pss_one (ps_ret pe_non)))), ?_⟩
    refine fun d hd => ?_
    have e1 : Ex H (upd H d (.dT [])) := Ex.new hd
    refine ⟨.ref b, rfl, b, refs, rfl, ex_l e1 hb, for_enumL (fun i σ' H' => ∃ (l2 l3 l4 : Option V), σ' = [some (.ref b), some (.ref d), l2, l3, l4] ∧ Ex H H' ∧ H' d = some (.dT (layV (placesOf (w.take i)))) ∧ ((w.take i).map (·.1)).Nodup)
      ⟨none, none, none, rfl, e1, upd_same, by simp⟩ (fun i σ' H' _ ⟨_, _, _, _, e, _⟩ => ex_l e hb) ?_ ?_⟩
    · rintro i z t σ' H2 hz ⟨l2, l3, l4, rfl, e2, hd2, nd⟩ ht
      obtain ⟨x, hx, t1, u, rfl, ht1, hu⟩ := Paired.get' hR hz
      have e3 : Ex H2 (upd H2 t (.tup [.int (i : Nat), .ref t1])) := Ex.new ht
      have e23 := e2.trans e3
      have hd3 := e3 _ _ hd2
      have hu3 := e23 _ _ hu
      have hi : i < w.length := (List.getElem?_eq_some_iff.mp hx).1
      refine ⟨t, _, rfl, SqT.of upd_same, rfl, _, _, rfl, _, _, rfl, ⟨t1, _, rfl, SqT.of (e23 _ _ ht1), rfl, _, _, rfl, _, _, rfl, rfl, rfl, ?_⟩⟩
      refine q_when (b := decide (x.1 ∈ (placesOf (w.take i)).map (·.1))) (fun H4 e4 Q q => ⟨.ref u, rfl, .ref d, rfl, d, _, rfl, lay_get (e4 _ _ hd3) (e4 _ _ hu3), _, rfl, ?_⟩) (fun bb H4 e4 => ?_) (fun bb H4 e4 => ?_)
      · rw [lay_isSome]
        exact q H4 (Ex.refl _)
      · obtain ⟨a, ha, hm⟩ := lay_some _ _ (of_decide_eq_true bb)
        obtain ⟨c, hc⟩ := placesOf_mem hm
        have hai : a < i := by
          have := (List.getElem?_eq_some_iff.mp hc).1
          rw [List.length_take] at this
          omega
        rw [List.getElem?_take, if_pos hai] at hc
        refine ⟨.ref d, rfl, .ref u, rfl, d, nV a, rfl, ?_, .int (i : Nat), rfl, by show 2 ≤ sizeLine; decide, fun t5 ht5 => ?_⟩
        · rw [← ha]; exact lay_get (e4 _ _ hd3) (e4 _ _ hu3)
        · exact kS a i x.1 c x.2 t5 _ hai hc hx (fresh_back (e23.trans e4) ht5) ((e23.trans e4).trans (Ex.new ht5)) upd_same
      · have hn := of_decide_eq_false bb
        have hv := lay_none _ _ hn
        have hll : (layV (placesOf (w.take i))).length ≤ 37 := by
          rw [layV_len, ← List.length_map (f := fun x : (Nat × Nat) × Nat => x.1), placesOf_keys, List.length_map, List.length_take]
          omega
        refine ⟨.int (i : Nat), rfl, .ref d, rfl, .ref u, rfl, d, _, rfl, .inr ⟨_, keyOf x.1, u, e4 _ _ hd3, rfl, e4 _ _ hu3, small1000 (by omega), rfl⟩, ?_⟩
        have hput : putK (layV (placesOf (w.take i))) (keyOf x.1) (.int (i : Nat)) = layV (placesOf (w.take (i + 1))) := by
          show putK _ _ (nV i) = _
          rw [lay_add _ _ _ hv, placesOf_snoc hx]
          unfold M1.addF
          rw [if_neg hn]
        rw [hput]
        refine ⟨_, _, _, rfl, Ex.mut (e23.trans e4) hd, upd_same, ?_⟩
        rw [← placesOf_keys, placesOf_snoc hx, List.map_append, placesOf_keys, List.nodup_append]
        refine ⟨nd, by simp, fun y hy z hzz e => ?_⟩
        have hz' : z = x.1 := by simpa using hzz
        subst e
        rw [placesOf_keys] at hn
        exact hn (hz' ▸ hy)
    · rintro σ' H2 ⟨l2, l3, l4, rfl, e2, hd2, nd⟩
      rw [hrl, List.take_length] at nd
      exact kN nd H2 e2
def sp_on (K : PySem.W.Frag) : Sp := fun vs H Q _ => ∃ (b : Addr) (refs : List V) (w : M1.PL), vs = [.ref b] ∧ SqL K H b refs ∧ Paired (StepAt H) refs w ∧ w.length ≤ 37 ∧
  ∀ t H2, H t = none → Ex H H2 → H2 t = some (.tup (rowV (M1.wordOf w))) → Q (.ref t) H2
end

end Kx
namespace Kx
open PySem PySem.Spec PyProof.Rows L2

open Evl
section
variable {P : Program} {w : World} {K : PySem.W.Frag} {mg : Str → Option Value} {base : Heap}
/-! ### late, late_word -/
def sp_late (K : PySem.W.Frag) : Sp := fun vs H Q _ => ∃ (v : V) (M : M1.Mach), vs = [v] ∧ MacAt K H v M.st M.an ∧ M.Ok ∧ ∀ o H2, M.LateIs o → (∀ n, o = some n → n ≤ 37) → Ex H H2 → Q (oV o) H2
theorem nodup_or (w : M1.PL) : (w.map (·.1)).Nodup ∨ ∃ (i j : Nat) (p : Nat × Nat) (a c : Nat), i < j ∧ w[i]? = some (p, a) ∧ w[j]? = some (p, c) := by
  by_cases h : (w.map (·.1)).Nodup
  · exact .inl h
  · refine .inr (Classical.byContradiction fun hn => h ?_)
    refine List.pairwise_iff_getElem.mpr fun i j hi hj hij e => hn ?_
    rw [List.length_map] at hi hj
    refine ⟨i, j, (w[i]).1, (w[i]).2, (w[j]).2, hij, List.getElem?_eq_getElem hi, ?_⟩
    rw [List.getElem_map, List.getElem_map] at e
    rw [List.getElem?_eq_getElem hj, e]
theorem nodup_not {w : M1.PL} (h : (w.map (·.1)).Nodup) {i j : Nat} {p : Nat × Nat} {a c : Nat} (hij : i < j) (hi : w[i]? = some (p, a)) (hj : w[j]? = some (p, c)) : False := by
  have h1 := (List.getElem?_eq_some_iff.mp hi).1
  have h2 := (List.getElem?_eq_some_iff.mp hj).1
  have := List.pairwise_iff_getElem.mp h i j (by rw [List.length_map]; exact h1) (by rw [List.length_map]; exact h2) hij
  rw [List.getElem_map, List.getElem_map, (List.getElem?_eq_some_iff.mp hi).2, (List.getElem?_eq_some_iff.mp hj).2] at this
  exact this rfl
/-- round_on(walk) is not None -/
theorem et_round {σ : L2.St} {H : Hp} {i : Nat} {b : Addr} {refs : List V} {wk : M1.PL} (hs : σ[i]? = some (some (.ref b))) (hb : SqL K H b refs) (hR : Paired (StepAt H) refs wk) (hl : wk.length ≤ 37) :
    EvT (tTest (tOp (fun x y H Q => y = V.non ∧ Q (V.bl !decide (x = V.non)) H) (tCall (sp_round K) [] E0 (tCons (tVar i) tNil)) (tC V.non))) σ H (!decide (wk.map (·.1)).Nodup) := fun H1 e1 Q q =>
  ⟨.ref b, hs, b, refs, wk, rfl, ex_l e1 hb, steps_keep (TT.ex e1) hR, hl, fun nd H2 e2 => ⟨rfl, false, rfl, by rw [decide_eq_true nd] at q; exact q H2 e2⟩, fun i j p a c t H2 hij hi hj _ e2 _ => ⟨rfl, true, rfl, by
    rw [decide_eq_false (fun nd => nodup_not nd hij hi hj)] at q; exact q H2 e2⟩⟩
theorem has_late (T : Txt K mg) (h_check_machine : Has P w K mg base "check_machine" 5 ["machine"] (sp_check_machine K)) (h_late_walk : Has P w K mg base "late_walk" 4 ["machine"] (sp_walk K)) (h_round_on : Has P w K mg base "round_on" 1 ["walk"] (sp_round K)) {f : Addr} {fd : FuncData} (F : Fun K "late" "late" s_late f fd) (g : mg "late" = some (.ref f)) (B : Binds K fd ["machine"] []) : Has P w K mg base "late" 6 ["machine"] (sp_late K) := by
  refine Has.mk' g F.kp B (F.ok sc_late (fun vs H Q E h => ?_) (fun cdv A outer s H vs Q E hr h => ?_))
  · obtain ⟨v, M, rfl, _⟩ := h
    rfl
  · obtain ⟨v, M, rfl, hM, ok, k⟩ := h
    refine ⟨_, (pss_cons (ps_expr (pe_has h_check_machine (hr.mono (by first | decide | exact Nat.le_refl _)) (by rfl) (pa_cons (pv 0) pa_nil)))
      (pss_cons (ps_set (i := 1) sc_late.nd rfl (.inl rfl) (pe_has h_late_walk (hr.mono (by first | decide | exact Nat.le_refl _)) (by rfl) (pa_cons (pv 0) pa_nil)))
      (pss_cons (ps_if (pt_cmpR op_notN (pe_has h_round_on (hr.mono (by first | decide | exact Nat.le_refl _)) (by rfl) (pa_cons (pv 1) pa_nil)) pe_non (nomark _))
      (pss_one (ps_ret pe_non))
      pss_nil)
      (pss_one (ps_ret (pe_callB (call_lenK (K := K) rfl) (by rfl) T.b_len bt_len (pa_cons (pv 1) pa_nil))))))), ?_⟩
    refine ⟨v, rfl, v, M, rfl, hM, ok, fun H1 e1 => ?_⟩
    refine ⟨v, rfl, v, M, rfl, hM.keep (TKp.ex e1), ok, fun p H2 refs wk hp e2 hp2 hR W hl => ?_⟩
    have e12 := e1.trans e2
    refine q_when (et_round (i := 1) rfl (sq_of hp2) hR hl) (fun bb H3 e3 => ?_) (fun bb H3 e3 => ?_)
    · have nd : ¬ (wk.map (·.1)).Nodup := fun z => by rw [decide_eq_true z] at bb; cases bb
      obtain ⟨i, j, p, a, c, hij, hi, hj⟩ := (nodup_or wk).resolve_left nd
      exact s_ret ev_c fun H4 e4 => k none H4 (W.endless ok hij hi hj) (fun _ z => by cases z) (e12.trans (e3.trans e4))
    · have nd : (wk.map (·.1)).Nodup := Classical.byContradiction fun z => by rw [decide_eq_false z] at bb; cases bb
      refine s_ret (ev_len (K := K) (ev_var rfl) (sq_of (e3 _ _ hp2))) fun H4 e4 => ?_
      rw [Paired.length hR]
      exact k (some wk.length) H4 (W.late nd) (fun n z => by cases z; exact hl) (e12.trans (e3.trans e4))
/-- what late_word gives -/
structure LWord (K : PySem.W.Frag) (H : Hp) (M : M1.Mach) (v : V) (n : Nat) (u : List Nat) (s : Nat) (wd : List Nat) : Prop where
  at_ : ∃ t a1 a2, v = .ref t ∧ H t = some (.tup [.ref a1, nV s, .ref a2]) ∧ SqT K H a1 (rowV u) ∧ SqT K H a2 (rowV wd)
  lu : M.Letters u
  ul : u.length ≤ 6
  lw : M.Letters wd
  wl : wd.length = n
  n37 : n ≤ 37
  st : s < M.st.length
  unl : M.Unl (M.led 0 u) s wd
def sp_lword (K : PySem.W.Frag) : Sp := fun vs H Q _ => ∃ (v : V) (M : M1.Mach), vs = [v] ∧ MacAt K H v M.st M.an ∧ M.Ok ∧ (∀ H2, M.LateIs none ∨ M.LateIs (some 0) → Ex H H2 → Q .non H2) ∧ ∀ n r u s wd H2, M.LateIs (some n) → 1 ≤ n → Ex H H2 → LWord K H2 M r n u s wd → Q r H2
end

end Kx
namespace Kx
open PySem PySem.Spec PyProof.Rows L2

open Evl
section
variable {P : Program} {w : World} {K : PySem.W.Frag} {mg : Str → Option Value} {base : Heap}
def sp_forg (K : PySem.W.Frag) : Sp := fun vs H Q _ => ∃ (v : V) (M : M1.Mach), vs = [v] ∧ MacAt K H v M.st M.an ∧ M.Ok ∧ ∀ (o : Option Nat) H2, M.LateIs o → Ex H H2 → Q (.bl o.isSome) H2
theorem has_forgets (T : Txt K mg) (h_late : Has P w K mg base "late" 6 ["machine"] (sp_late K)) {f : Addr} {fd : FuncData} (F : Fun K "forgets" "forgets" s_forgets f fd) (g : mg "forgets" = some (.ref f)) (B : Binds K fd ["machine"] []) : Has P w K mg base "forgets" 7 ["machine"] (sp_forg K) := by
  refine Has.mk' g F.kp B (F.ok sc_forgets (fun vs H Q E h => ?_) (fun cdv A outer s H vs Q E hr h => ?_))
  · obtain ⟨v, M, rfl, _⟩ := h
    rfl
  · obtain ⟨v, M, rfl, hM, ok, k⟩ := h
    refine ⟨_, (pss_one (ps_ret (pe_cmpR op_notN (pe_has h_late (hr.mono (by first | decide | exact Nat.le_refl _)) (by rfl) (pa_cons (pv 0) pa_nil)) pe_non (nomark _)))), ?_⟩
    refine ⟨v, rfl, v, M, rfl, hM, ok, fun o H1 hL hn e1 => ⟨rfl, ?_⟩⟩
    have := k o H1 hL e1
    cases o with
    | none => exact this
    | some n => exact this
end

end Kx
namespace Kx
open PySem PySem.Spec PyProof.Rows L2

open Evl
section
variable {P : Program} {w : World} {K : PySem.W.Frag} {mg : Str → Option Value} {base : Heap}
/-! ### the table of pairs -/
def tabV (ps : List (Nat × Nat)) : List (List Key × V) := ps.map fun p => ([Sum.inl (p.1 : Int), Sum.inl (p.2 : Int)], V.bl true)
theorem key_eq {p q : Nat × Nat} : ([Sum.inl (p.1 : Int), Sum.inl (p.2 : Int)] : List Key) = [Sum.inl (q.1 : Int), Sum.inl (q.2 : Int)] ↔ p = q := by
  constructor
  · intro h
    injection h with h1 h2
    injection h2 with h2 _
    injection h1 with h1
    injection h2 with h2
    exact Prod.ext (Int.ofNat_inj.mp h1) (Int.ofNat_inj.mp h2)
  · intro h
    rw [h]
theorem tab_val : ∀ (ps : List (Nat × Nat)) (p : Nat × Nat), valV (tabV ps) [Sum.inl (p.1 : Int), Sum.inl (p.2 : Int)] = if p ∈ ps then some (.bl true) else none
  | [], p => rfl
  | q :: ps, p => by
    have ih := tab_val ps p
    show valV (([Sum.inl (q.1 : Int), Sum.inl (q.2 : Int)], V.bl true) :: tabV ps) _ = _
    by_cases h : q = p
    · subst h
      rw [valV_pos rfl, if_pos List.mem_cons_self]
    · rw [valV_neg (fun z => h (key_eq.mp z)), ih]
      by_cases hm : p ∈ ps
      · rw [if_pos hm, if_pos (List.mem_cons_of_mem _ hm)]
      · rw [if_neg hm, if_neg fun z => by
          rcases List.mem_cons.mp z with z | z
          · exact h z.symm
          · exact hm z]
theorem tab_put (ps : List (Nat × Nat)) (p : Nat × Nat) : putK (tabV ps) [Sum.inl (p.1 : Int), Sum.inl (p.2 : Int)] (.bl true) = tabV (M1.addP ps p) := by
  unfold M1.addP
  by_cases hm : p ∈ ps
  · rw [if_pos hm]
    unfold putK
    rw [valV_any, tab_val, if_pos hm]
    rw [if_pos (by rfl)]
    unfold tabV
    rw [List.map_map]
    refine List.map_congr_left fun q _ => ?_
    show (if ([Sum.inl (q.1 : Int), Sum.inl (q.2 : Int)] : List Key) = [Sum.inl (p.1 : Int), Sum.inl (p.2 : Int)] then _ else _) = _
    split <;> rfl
  · rw [if_neg hm, putK_new _ (by rw [tab_val, if_neg hm])]
    unfold tabV
    rw [List.map_append]
    rfl
theorem tabV_len (ps : List (Nat × Nat)) : (tabV ps).length = ps.length := by unfold tabV; rw [List.length_map]
end

end Kx
namespace Kx
open PySem PySem.Spec PyProof.Rows L2

open Evl
section
variable {P : Program} {w : World} {K : PySem.W.Frag} {mg : Str → Option Value} {base : Heap}
theorem ev_ne_rows {ta tb : TE} {σ : L2.St} {H : Hp} {p q : Addr} {r s : List Nat} (ha : Ev ta σ H (.ref p)) (hb : Ev tb σ H (.ref q)) (hp : SqT K H p (rowV r)) (hq : SqT K H q (rowV s)) : Ev (tOp (rNeD K) ta tb) σ H (.bl (!decide (r = s))) :=
  ev_op ha hb fun H1 e Q k => ⟨.tuple (rowD r), .tuple (rowD s), .tup (ex_t e hp) (dp_row r), .tup (ex_t e hq) (dp_row s), by
    unfold SeqAt.shaped
    simp only [PyData.canLay0, PyData.depth, canLay_row, depth_row]
    decide, by
    unfold SeqAt.shaped
    simp only [PyData.canLay0, PyData.depth, canLay_row, depth_row]
    decide, by
    rw [show PyData.eqv (.tuple (rowD r)) (.tuple (rowD s)) = decide (r = s) by rw [PyData.eqv]; exact eqv_rows r s]
    exact k H1 (Ex.refl H1)⟩
theorem rv_neRows {H : Hp} {p q : Addr} {r s : List Nat} (hp : SqL K H p (rowV r)) (hq : SqL K H q (rowV s)) : Evl.RV (rNeD K) (.ref p) (.ref q) H (.bl (!decide (r = s))) := fun H1 e Q k =>
  ⟨_, _, .lst (ex_l e hp) (dp_row r), .lst (ex_l e hq) (dp_row s), shaped_rowL r, shaped_rowL s, by
    rw [show PyData.eqv (.list (rowD r)) (.list (rowD s)) = decide (r = s) by rw [PyData.eqv]; exact eqv_rows r s]
    exact k H1 (Ex.refl H1)⟩
end

end Kx
namespace Kx
open PySem PySem.Spec PyProof.Rows L2

open Evl
section
variable {P : Program} {w : World} {K : PySem.W.Frag} {mg : Str → Option Value} {base : Heap}
/-! ### the law's own: the states that come -/
def sp_comes (K : PySem.W.Frag) : Sp := fun vs H Q _ => ∃ (v : V) (M : M1.Mach), vs = [v] ∧ MacAt K H v M.st M.an ∧ M.Ok ∧ ∀ p H2 r, H p = none → Ex H H2 → H2 p = some (.lst (rowV r)) → r.Nodup → (∀ i, i ∈ r ↔ M.Rch i) → Q (.ref p) H2
theorem has_law_comes (T : Txt K mg) {f : Addr} {fd : FuncData} (F : Fun K "_law_comes" "_law_comes" s_law_comes f fd) (g : mg "_law_comes" = some (.ref f)) (B : Binds K fd ["machine"] []) : Has P w K mg base "_law_comes" 1 ["machine"] (sp_comes K) := by
  refine Has.mk' g F.kp B (F.ok sc_law_comes (fun vs H Q E h => ?_) (fun cdv A outer s H vs Q E hr h => ?_))
  · obtain ⟨v, M, rfl, _⟩ := h
    rfl
  · obtain ⟨v, M, rfl, hM, ok, k⟩ := h
    refine ⟨_, (pss_cons (ps_set (i := 1) sc_law_comes.nd rfl (.inl rfl) (pe_lst (pa_cons pe_int pa_nil)))
      (pss_cons (ps_for PassesOwn.never rfl (pi_range1 (by rfl) T.b_range (pa_cons (pe_callB (call_lenK (K := K) rfl) (by rfl) T.b_len bt_len (pa_cons (pe_ix (ix_tupK (K := K) rfl) (pv 0) pe_int (fun _ _ => rfl)) pa_nil)) pa_nil)) (pg_name (i := 2) sc_law_comes.nd rfl (.inl rfl))
      (pss_cons (ps_set (i := 3) sc_law_comes.nd rfl (.inl rfl) (pe_lst pa_nil))
      (pss_cons (ps_for PassesOwn.never rfl (pi_listK (K := K) rfl (pv 1)) (pg_name (i := 4) sc_law_comes.nd rfl (.inl rfl))
      (pss_one (ps_set (i := 3) sc_law_comes.nd rfl (.inl rfl) (pe_op op_cat (pv 3) (pe_callTy (call_listK (K := K) rfl) (by rfl) T.b_list bt_list (pa_cons (pe_ix (ix_tupK (K := K) rfl) (pe_ix (ix_tupK (K := K) rfl) (pv 0) pe_int (fun _ _ => rfl)) (pv 4) (fun _ _ => rfl)) pa_nil))))))
      (pss_one (ps_set (i := 1) sc_law_comes.nd rfl (.inl rfl) (pe_callB (cr_sortedSet rfl) (by rfl) T.b_sorted bt_sorted (pa_cons (pe_callTy (cr_setL1 (K := K) rfl rfl) (by rfl) T.b_set bt_set (pa_cons (pe_op op_cat (pv 1) (pv 3)) pa_nil)) pa_nil)))))))
      (pss_one (ps_ret (pv 1))))), ?_⟩
    obtain ⟨a, x, y, rfl, hS, ⟨ax, vx, rfl, hSx, hPx⟩, hy⟩ := id hM
    have hvl : vx.length = M.st.length := Paired.length hPx
    have n6 := ok.n6
    have k3 := ok.k3
    refine q_asgL (el_lst (ea_cons ev_c ea_nil) (by show 1 ≤ 100000; decide)) fun p1 H1 hp1 e1 h1 => ?_
    refine q_forR1 (n := (vx.length : Int)) (ea_cons (ev_lenT (ev_op (ev_var rfl) ev_c (rv_ixT (ex_t e1 hS) (atI_nat (j := 0) rfl))) (ex_t e1 hSx)) ea_nil) ⟨by omega, by omega⟩ (fun t σ' H' => ∃ (r : List Nat) (p : Addr) (l2 l3 l4 : Option V), σ' = [some (.ref a), some (.ref p), l2, l3, l4] ∧ Ex H H' ∧ H p = none ∧ H' p = some (.lst (rowV r)) ∧ M.ComeIn t r)
      (fun H2 e2 => ⟨[0], p1, none, none, none, rfl, e1.trans e2, hp1, e2 _ _ h1, M1.Mach.ComeIn.start⟩) ?_ ?_
    · rintro t σ' H2 ht ⟨r, p, l2, l3, l4, rfl, e2, hp, hp2, C⟩
      have rl := C.len ok
      refine q_asgL (el_lst ea_nil (by show 0 ≤ 100000; decide)) fun m0 H3 hm0 e3 h3 => ?_
      refine q_forL (ev_var rfl) (sq_of (e3 _ _ hp2)) (fun j σ' H' => ∃ (q : Addr) (l4 : Option V), σ' = [some (.ref a), some (.ref p), some (.int (t : Int)), some (.ref q), l4] ∧ Ex H3 H' ∧ H' q = some (.lst (rowV ((r.take j).flatMap M.row))) ∧ H2 q = none)
        (fun H4 e4 => ⟨m0, l4, rfl, e4, e4 _ _ h3, hm0⟩) (fun j σ' H' _ ⟨_, _, _, e, _⟩ => sq_of (e _ _ (e3 _ _ hp2))) ?_ ?_
      · rintro j z σ' H4 hz ⟨q, m4, rfl, e4, hq4, hq2⟩
        obtain ⟨i, hi, rfl⟩ := map_of hz
        have hil : i < M.st.length := (C.sound i (List.mem_of_getElem? hi)).lt ok
        obtain ⟨b, g, hb⟩ := tab_get hPx (M.row_at hil)
        have e24 := (e2.trans e3).trans e4
        have hj : j < r.length := (List.getElem?_eq_some_iff.mp hi).1
        have hfl : ∀ (l : List Nat), (∀ i ∈ l, i < M.st.length) → (l.flatMap M.row).length ≤ l.length * 3 := by
          intro l
          induction l with
          | nil => intro _; exact Nat.le_refl _
          | cons i l ih =>
            intro h
            have := ih fun x hx => h x (List.mem_cons_of_mem _ hx)
            have h2 := M.row_len ok (h i List.mem_cons_self)
            rw [List.flatMap_cons, List.length_append, List.length_cons]
            omega
        have hf := hfl (r.take j) fun i hi => (C.sound i (List.mem_of_mem_take hi)).lt ok
        rw [List.length_take] at hf
        have hrow := M.row_len ok hil
        refine ⟨.ref q, rfl, .ref a, rfl, a, _, 0, .ref ax, rfl, rfl, ex_t e24 hS, atI_nat (j := 0) rfl, nV i, rfl, ax, vx, _, .ref b, rfl, rfl, ex_t e24 hSx, atI_nat g, b, rowV (M.row i), rfl, .inr (ex_t e24 hb), fun l5 h5 => ?_⟩
        refine ⟨q, l5, rowV ((r.take j).flatMap M.row), rowV (M.row i), rfl, rfl, Ex.new h5 _ _ hq4, upd_same, Nat.le_of_lt (small1000 (by rw [rowV_len, rowV_len]; omega)), fun p6 hp6 => ?_⟩
        refine ⟨p6, _, rfl, (e4.trans (Ex.new h5)).trans (Ex.new hp6), ?_, fresh_back ((e3.trans e4).trans (Ex.new h5)) hp6⟩
        rw [upd_same, M1.take_succ' hi, List.flatMap_append]
        unfold rowV
        rw [List.map_append]
        simp
      · rintro σ' H4 ⟨q, m4, rfl, e4, hq4, hq2⟩
        rw [rowV_len, List.take_length] at hq4
        have hfl : (r.flatMap M.row).length ≤ r.length * 3 := by
          have : ∀ (l : List Nat), (∀ i ∈ l, i < M.st.length) → (l.flatMap M.row).length ≤ l.length * 3 := by
            intro l
            induction l with
            | nil => intro _; exact Nat.le_refl _
            | cons i l ih =>
              intro h
              have := ih fun x hx => h x (List.mem_cons_of_mem _ hx)
              have h2 := M.row_len ok (h i List.mem_cons_self)
              rw [List.flatMap_cons, List.length_append, List.length_cons]
              omega
          exact this r fun i hi => (C.sound i hi).lt ok
        have hp4 := (e3.trans e4) _ _ hp2
        refine ⟨.ref p, rfl, .ref q, rfl, p, q, _, _, rfl, rfl, hp4, hq4, Nat.le_of_lt (small1000 (by rw [rowV_len, rowV_len]; omega)), fun p5 hp5 => ?_⟩
        refine ⟨p5, ((r ++ r.flatMap M.row).map fun (n : Nat) => (n : Int)), rfl, sq_of (by rw [upd_same]; unfold rowV; rw [← List.map_append, List.map_map]; rfl), ?_, fun c p6 hc hp6 => ?_⟩
        · rw [List.length_map, List.length_append]
          unfold scanBound
          omega
        rw [List.length_map, List.length_append] at hc
        refine ⟨p6, _, c, rfl, upd_same, by omega, fun ns p7 hpw hmem hlen hp7 => ?_⟩
        have hall : ∀ x ∈ ns, ∃ n : Nat, x = (n : Int) ∧ n ∈ r ++ r.flatMap M.row := fun x hx => by
          have := of_decide_eq_true ((hmem x).mp hx)
          obtain ⟨n, hn, e⟩ := List.mem_map.mp this
          exact ⟨n, e.symm, hn⟩
        have hns : ns = (ns.map Int.toNat).map fun (n : Nat) => (n : Int) := by
          rw [List.map_map]
          conv => lhs; rw [← List.map_id ns]
          refine List.map_congr_left fun x hx => ?_
          obtain ⟨n, rfl, _⟩ := hall x hx
          rfl
        have hnd : (ns.map Int.toNat).Nodup := by
          have h1 : ns.Nodup := hpw.imp fun h => Int.ne_of_lt h
          rw [hns] at h1
          exact List.Pairwise.of_map _ (fun a b h e => h (congrArg _ e)) h1
        have e56 := ((Ex.new hp5).trans (Ex.new hp6)).trans (Ex.new (o := .lst (ns.map V.int)) hp7)
        refine ⟨ns.map Int.toNat, p7, _, _, _, rfl, ((e2.trans e3).trans e4).trans e56, fresh_back (((e2.trans e3).trans e4).trans ((Ex.new hp5).trans (Ex.new hp6))) hp7, ?_, C.go ok hnd fun x => ?_⟩
        · rw [upd_same]
          conv => lhs; rw [hns]
          unfold rowV
          rw [List.map_map]
          rfl
        · constructor
          · intro hx
            obtain ⟨z, hz, rfl⟩ := List.mem_map.mp hx
            obtain ⟨n, rfl, hn⟩ := hall z hz
            rw [Int.toNat_natCast]
            rcases List.mem_append.mp hn with h | h
            · exact .inl h
            · exact .inr (List.mem_flatMap.mp h)
          · intro hx
            refine List.mem_map.mpr ⟨(x : Int), (hmem _).mpr (decide_eq_true (List.mem_map.mpr ⟨x, ?_, rfl⟩)), Int.toNat_natCast x⟩
            rcases hx with h | h
            · exact List.mem_append_left _ h
            · exact List.mem_append_right _ (List.mem_flatMap.mpr h)
    · rintro σ' H2 ⟨r, p, l2, l3, l4, rfl, e2, hp, hp2, C⟩
      rw [Int.toNat_natCast, hvl] at C
      exact s_ret (ev_var rfl) fun H3 e3 => k p H3 r hp (e2.trans e3) (e3 _ _ hp2) C.nd (C.done ok)
end

end Kx
namespace Kx
open PySem PySem.Spec PyProof.Rows L2

open Evl
section
variable {P : Program} {w : World} {K : PySem.W.Frag} {mg : Str → Option Value} {base : Heap}
/-! ### the law's own: the lots of pairs -/
theorem paired_app {α β : Type} {F : α → β → Prop} {l l2 : List α} {m m2 : List β} (h : Paired F l m) (h2 : Paired F l2 m2) : Paired F (l ++ l2) (m ++ m2) := by
  induction h with
  | nil => exact h2
  | cons h _ ih => exact .cons h ih
theorem paired_perm {α β : Type} {F : α → β → Prop} {l l' : List α} (h : l'.Perm l) : ∀ {m : List β}, Paired F l m → ∃ m', m'.Perm m ∧ Paired F l' m' := by
  induction h with
  | nil => exact fun h => ⟨_, .refl _, h⟩
  | cons x _ ih =>
    intro m h
    cases h with
    | cons hx t =>
      obtain ⟨m', p, q⟩ := ih t
      exact ⟨_ :: m', p.cons _, .cons hx q⟩
  | swap x y l =>
    intro m h
    cases h with
    | cons hx t => cases t with
      | cons hy t => exact ⟨_, .swap _ _ _, .cons hy (.cons hx t)⟩
  | trans _ _ ih1 ih2 =>
    intro m h
    obtain ⟨m1, p1, q1⟩ := ih2 h
    obtain ⟨m2, p2, q2⟩ := ih1 q1
    exact ⟨m2, p2.trans p1, q2⟩
def LotAt (H : Hp) (v : V) (l : List (Nat × Nat)) : Prop := ∃ p refs, v = .ref p ∧ H p = some (.lst refs) ∧ Paired (PairAt H) refs l
theorem LotAt.keep {H H' : Hp} (e : Ex H H') {v : V} {l : List (Nat × Nat)} (h : LotAt H v l) : LotAt H' v l := let ⟨p, refs, a, b, c⟩ := h; ⟨p, refs, a, e _ _ b, pairs_keep (TT.ex e) c⟩
/-- a lot of the pairs that words of n letters lead to -/
def IsLot (M : M1.Mach) (n : Nat) (l : List (Nat × Nat)) : Prop := (∀ x, x ∈ l ↔ M.At n x) ∧ l.length ≤ 36
structure LotIn (M : M1.Mach) (t : Nat) (ps : List (Nat × Nat)) (i j : Nat) (qs : List (Nat × Nat)) : Prop where
  nd : qs.Nodup
  sound : ∀ x ∈ qs, M.At (t + 1) x
  full : ∀ (n : Nat) p, ps[n]? = some p → ∀ a, a < M.k → (n < i ∨ n = i ∧ a < j) → (M.go p.1 a, M.go p.2 a) ∈ qs
theorem LotIn.len {M : M1.Mach} (ok : M.Ok) {t : Nat} {ps : List (Nat × Nat)} {i j : Nat} {qs : List (Nat × Nat)} (L : LotIn M t ps i j qs) : qs.length ≤ 36 := by
  have n6 := ok.n6
  have h := M1.nodup_le L.nd (m := M1.pairsN M.st.length) fun q hq => by
    have := (L.sound q hq).pr ok
    exact M1.mem_pairsN.mpr ⟨this.1.lt ok, this.2⟩
  rw [M1.pairsN_len] at h
  have : M.st.length * M.st.length ≤ 6 * 6 := Nat.mul_le_mul n6 n6
  omega
theorem LotIn.add {M : M1.Mach} {t : Nat} {ps : List (Nat × Nat)} {i j : Nat} {qs : List (Nat × Nat)} (L : LotIn M t ps i j qs) {p : Nat × Nat} (hp : ps[i]? = some p) (hA : M.At t p) (hj : j < M.k) : LotIn M t ps i (j + 1) (M1.addP qs (M.go p.1 j, M.go p.2 j)) := by
  have hm : ∀ x, x ∈ M1.addP qs (M.go p.1 j, M.go p.2 j) ↔ x ∈ qs ∨ x = (M.go p.1 j, M.go p.2 j) := fun x => by
    unfold M1.addP
    by_cases h : (M.go p.1 j, M.go p.2 j) ∈ qs
    · rw [if_pos h]
      exact ⟨.inl, fun z => z.elim id fun e => e ▸ h⟩
    · rw [if_neg h, List.mem_append, List.mem_singleton]
  refine ⟨?_, fun x hx => ?_, fun n q hn b hb hc => (hm _).mpr ?_⟩
  · unfold M1.addP
    by_cases h : (M.go p.1 j, M.go p.2 j) ∈ qs
    · rw [if_pos h]; exact L.nd
    · rw [if_neg h, List.nodup_append]
      refine ⟨L.nd, by simp, fun y hy z hz e => ?_⟩
      rw [List.mem_singleton] at hz
      exact h (by rw [← hz, ← e]; exact hy)
  · rcases (hm x).mp hx with h | rfl
    · exact L.sound x h
    · exact M1.Mach.at_succ.mpr ⟨p, j, hA, hj, rfl⟩
  · by_cases e : n = i ∧ b = j
    · obtain ⟨rfl, rfl⟩ := e
      rw [hp] at hn
      cases hn
      exact .inr rfl
    · exact .inl (L.full n q hn b hb (by omega))
theorem LotIn.row {M : M1.Mach} {t : Nat} {ps : List (Nat × Nat)} {i : Nat} {qs : List (Nat × Nat)} (L : LotIn M t ps i M.k qs) : LotIn M t ps (i + 1) 0 qs := ⟨L.nd, L.sound, fun n p hn a ha hc => L.full n p hn a ha (by omega)⟩
theorem LotIn.done {M : M1.Mach} (ok : M.Ok) {t : Nat} {ps qs qs' : List (Nat × Nat)} (L : LotIn M t ps ps.length 0 qs) (hp : IsLot M t ps) (h : qs'.Perm qs) : IsLot M (t + 1) qs' := by
  refine ⟨fun x => ?_, by rw [h.length_eq]; exact L.len ok⟩
  rw [h.mem_iff]
  refine ⟨L.sound x, fun hx => ?_⟩
  obtain ⟨q, a, hq, ha, rfl⟩ := M1.Mach.at_succ.mp hx
  obtain ⟨n, hn⟩ := List.mem_iff_getElem?.mp ((hp.1 q).mpr hq)
  exact L.full n q hn a ha (.inl (List.getElem?_eq_some_iff.mp hn).1)
theorem keys_pairs {H : Hp} : ∀ {qs : List (Nat × Nat)} {bs : List Addr}, IsKeys H (tabV qs) bs → Paired (PairAt H) (bs.map V.ref) qs
  | [], _, h => by cases h; exact .nil
  | q :: qs, _, h => by
    cases h with
    | cons h1 h2 => exact .cons ⟨_, rfl, h1⟩ (keys_pairs h2)
def sp_sets (K : PySem.W.Frag) : Sp := fun vs H Q _ => ∃ (v : V) (M : M1.Mach), vs = [v] ∧ MacAt K H v M.st M.an ∧ M.Ok ∧ ∀ p H2 refs lots, H p = none → Ex H H2 → H2 p = some (.lst refs) → Paired (LotAt H2) refs lots → lots.length = 40 → (∀ (i : Nat) l, lots[i]? = some l → IsLot M i l) → Q (.ref p) H2
theorem has_law_sets (T : Txt K mg) (h_law_comes : Has P w K mg base "_law_comes" 1 ["machine"] (sp_comes K)) {f : Addr} {fd : FuncData} (F : Fun K "_law_sets" "_law_sets" s_law_sets f fd) (g : mg "_law_sets" = some (.ref f)) (B : Binds K fd ["machine"] []) : Has P w K mg base "_law_sets" 2 ["machine"] (sp_sets K) := by
  refine Has.mk' g F.kp B (F.ok sc_law_sets (fun vs H Q E h => ?_) (fun cdv A outer s H vs Q E hr h => ?_))
  · obtain ⟨v, M, rfl, _⟩ := h
    rfl
  · obtain ⟨v, M, rfl, hM, ok, k⟩ := h
    obtain ⟨a, x, y, rfl, hS, ⟨ax, vx, rfl, hSx, hPx⟩, hy⟩ := id hM
    have hvl : vx.length = M.st.length := Paired.length hPx
    have n6 := ok.n6
    have k3 := ok.k3
    obtain ⟨r0, hr0⟩ := row0 ok
    obtain ⟨a0, g0, hS0⟩ := tab_get hPx r0
    refine ⟨_, (pss_cons (ps_par (i := 1) (j := 2) (by rfl) sc_law_sets.nd rfl rfl (by decide) rfl rfl (pa_cons (pe_lst pa_nil) (pa_cons (pe_lst pa_nil) pa_nil)) (by rfl))
      (pss_cons (ps_for PassesOwn.never rfl (pi_listK (K := K) rfl (pe_has h_law_comes (hr.mono (by first | decide | exact Nat.le_refl _)) (by rfl) (pa_cons (pv 0) pa_nil))) (pg_name (i := 3) sc_law_sets.nd rfl (.inr rfl))
      (pss_one (ps_set (i := 1) sc_law_sets.nd rfl (.inl rfl) (pe_op op_cat (pv 1) (pe_lc (own := [("other", 7)]) (g := gName 7) (tt := tYes) (by rfl) sc_law_sets.nd (pi_range1 (by rfl) T.b_range (pa_cons (pe_callB (call_lenK (K := K) rfl) (by rfl) T.b_len bt_len (pa_cons (pe_ix (ix_tupK (K := K) rfl) (pv 0) pe_int (fun _ _ => rfl)) pa_nil)) pa_nil)) (blkOk_by (N := N_law_sets) (sc := defScope s_law_sets) (by decide +kernel)) (fun _ _ _ _ _ => pg_name (i := 7) sc_law_sets.nd rfl (Or.inl rfl)) (fun _ _ _ _ _ => pts_nil) (fun _ _ _ _ _ => (pe_tup (pa_cons (pv 3) (pa_cons (pv 7) pa_nil)))))))))
      (pss_cons (ps_for PassesOwn.never rfl (pi_range1 (by rfl) T.b_range (pa_cons pe_int pa_nil)) (pg_name (i := 4) sc_law_sets.nd rfl (.inl rfl))
      (pss_cons (ps_expr (pe_bm PySem.F.plainAttrs_list PySem.F.slot_list_append PySem.F.type_list_append mt_append (pv 2) (pa_cons (pv 1) pa_nil)))
      (pss_cons (ps_set (i := 5) sc_law_sets.nd rfl (.inl rfl) pe_dnewT)
      (pss_cons (ps_for PassesOwn.never rfl (pi_listK (K := K) rfl (pv 1)) (pg_tupK (K := K) (n := 2) rfl (by rfl) (pgs_cons (pg_name (i := 6) sc_law_sets.nd rfl (.inl rfl)) (pgs_cons (pg_name (i := 7) sc_law_sets.nd rfl (.inl rfl)) pgs_nil)))
      (pss_one (ps_for PassesOwn.never rfl (pi_range1 (by rfl) T.b_range (pa_cons (pe_callB (call_lenK (K := K) rfl) (by rfl) T.b_len bt_len (pa_cons (pe_ix (ix_tupK (K := K) rfl) (pe_ix (ix_tupK (K := K) rfl) (pv 0) pe_int (fun _ _ => rfl)) pe_int (fun _ _ => rfl)) pa_nil)) pa_nil)) (pg_name (i := 8) sc_law_sets.nd rfl (.inl rfl))
      (pss_one (ps_dput (hu_of hr) (pv 5) (pe_tup (pa_cons (pe_ix (ix_tupK (K := K) rfl) (pe_ix (ix_tupK (K := K) rfl) (pe_ix (ix_tupK (K := K) rfl) (pv 0) pe_int (fun _ _ => rfl)) (pv 6) (fun _ _ => rfl)) (pv 8) (fun _ _ => rfl)) (pa_cons (pe_ix (ix_tupK (K := K) rfl) (pe_ix (ix_tupK (K := K) rfl) (pe_ix (ix_tupK (K := K) rfl) (pv 0) pe_int (fun _ _ => rfl)) (pv 7) (fun _ _ => rfl)) (pv 8) (fun _ _ => rfl)) pa_nil))) pe_bl rfl)))))
      (pss_one (ps_set (i := 1) sc_law_sets.nd rfl (.inl rfl) (pe_callB (cr_sortedPK (K := K) rfl) (by rfl) T.b_sorted bt_sorted (pa_cons (pe_callTy (call_list_dT rfl) (by rfl) T.b_list bt_list (pa_cons (pv 5) pa_nil)) pa_nil))))))))
      (pss_one (ps_ret (pv 2)))))), ?_⟩
    refine ⟨by show 0 ≤ sizeLine; decide, fun p0 hp0 => ⟨by show 0 ≤ sizeLine; decide, fun q0 hq0 => ⟨_, _, rfl, ?_⟩⟩⟩
    have e0 : Ex H (upd (upd H p0 (.lst [])) q0 (.lst [])) := (Ex.new hp0).trans (Ex.new hq0)
    have npq : p0 ≠ q0 := fun z => by subst z; rw [upd_same] at hq0; cases hq0
    have hp0' : (upd (upd H p0 (.lst [])) q0 (.lst [])) p0 = some (.lst []) := by rw [upd_ne npq]; exact upd_same
    have nq : H q0 = none := by rw [upd_ne npq.symm] at hq0; exact hq0
    refine ⟨.ref a, rfl, .ref a, M, rfl, hM.keep (TKp.ex e0), ok, fun pc H1 r hpc e1 h1 nd hmem => ⟨pc, rfl, ⟨_, sq_of h1⟩, ?_⟩⟩
    have rl : r.length ≤ 6 := by
      have := M1.nodup_le nd (m := List.range M.st.length) fun i hi => List.mem_range.mpr (((hmem i).mp hi).lt ok)
      rw [List.length_range] at this
      omega
    have e01 := e0.trans e1
    refine for_list (xs := rowV r) (fun j σ' H' => ∃ (p : Addr) (refs : List V) (l3 : Option V), σ' = [some (.ref a), some (.ref p), some (.ref q0), l3, none, none, none, none, none] ∧ Ex H1 H' ∧ H' p = some (.lst refs) ∧ Paired (PairAt H') refs (pairsOf (r.take j) M.st.length) ∧ p ≠ q0 ∧ H p = none)
      ⟨p0, [], none, rfl, Ex.refl _, e1 _ _ hp0', .nil, npq, hp0⟩ (fun j σ' H' _ ⟨_, _, _, _, e, _⟩ => sq_of (e _ _ h1)) ?_ ?_
    · rintro j z σ' H2 hz ⟨p, refs, l3, rfl, e2, hp2, hR, hpq, hpn⟩
      obtain ⟨i, hi, rfl⟩ := map_of hz
      have hj : j < r.length := (List.getElem?_eq_some_iff.mp hi).1
      have e02 := e01.trans e2
      have key : ∀ Q : VK, (∀ l H3, H2 l = none → Ex H2 H3 → (∃ rs, H3 l = some (.lst rs) ∧ Paired (PairAt H3) rs ((List.range M.st.length).map fun o => (i, o))) → Q (.ref l) H3) →
          tLc (iRng1 (tCons (tCB (rLenS K) (tCons (tOp (rIxT K) (tVar 0) (tC (V.int 0))) tNil)) tNil)) (gName 7) tYes (tTup (tCons (tVar 3) (tCons (tVar 7) tNil))) [7] [some (.ref a), some (.ref p), some (.ref q0), some (nV i), none, none, none, none, none] H2 Q := by
        intro Q q
        unfold tLc iRng1
        refine (ea_cons (ev_lenT (K := K) (ev_op (ev_var rfl) ev_c (rv_ixT (K := K) (ex_t e02 hS) (atI_nat (j := 0) rfl))) (ex_t e02 hSx)) ea_nil) _ (Ex.refl _) _ fun H4 e4 => ⟨_, rfl, by omega, by omega, fun D hD => ?_⟩
        refine lc_range (lo := 0) (n := ((vx.length : Int)).toNat) (fun o H' => Ex H4 H' ∧ ∃ rs, H' D = some (.lst rs) ∧ Paired (PairAt H') rs ((List.range o).map fun o => (i, o))) ⟨Ex.new hD, [], upd_same, .nil⟩ (fun o H' ho p => ?_) (fun H' p => ?_)
        · obtain ⟨p1, rs, p2, p3⟩ := p
          refine ⟨rfl, yesT ?_⟩
          refine eu_tup (ea_cons (x := nV i) (ev_var rfl) (ea_cons (x := .int (0 + (o : Int))) (ev_var rfl) ea_nil)) (by show 2 ≤ 100000; decide) _ (Ex.refl _) _ fun t H7 ht e7 h7 => ⟨rs, e7 _ _ p2, ?_, Ex.mut (p1.trans e7) hD, _, upd_same, ?_⟩
          · have hl := Paired.length p3
            rw [List.length_map, List.length_range] at hl
            exact small1000 (by omega)
          · have h7' : H7 t = some (.tup [nV i, nV o]) := by rw [h7, Int.zero_add]; rfl
            have t8 : TT H7 (upd H7 D (.lst (rs ++ [.ref t]))) := TT.upd (e7 _ _ p2) (fun _ z => by cases z)
            rw [List.range_succ, List.map_append]
            exact Paired.snoc (pairs_keep t8 (pairs_keep (TT.ex e7) p3)) ⟨t, rfl, t8 _ _ h7'⟩
        · obtain ⟨p1, rs, p2, p3⟩ := p
          rw [Int.toNat_natCast, hvl] at p3
          exact q D H' (fresh_back e4 hD) (e4.trans p1) ⟨rs, p2, p3⟩
      refine ⟨.ref p, rfl, key _ fun l H3 hl e3 ⟨rs, hrs, hPr⟩ => ⟨p, l, refs, rs, rfl, rfl, e3 _ _ hp2, hrs, ?_, fun p6 hp6 => ?_⟩⟩
      · have h1 := Paired.length hR
        have h2 := Paired.length hPr
        rw [pairsOf_len, List.length_take] at h1
        rw [List.length_map, List.length_range] at h2
        have : min j r.length * M.st.length ≤ 6 * 6 := Nat.mul_le_mul (by omega) n6
        exact Nat.le_of_lt (small1000 (by omega))
      · refine ⟨p6, _, _, rfl, (e2.trans e3).trans (Ex.new hp6), upd_same, ?_⟩
        rw [M1.take_succ' hi, pairsOf_snoc]
        have t6 := TT.ex (Ex.new (o := .lst (refs ++ rs)) hp6)
        refine ⟨paired_app (pairs_keep t6 (pairs_keep (TT.ex e3) hR)) (pairs_keep t6 hPr), fun z => ?_, fresh_back (e02.trans e3) hp6⟩
        subst z
        rw [(e2.trans e3) _ _ (e1 _ _ upd_same)] at hp6
        cases hp6
    · rintro σ' H2 ⟨p, refs, l3, rfl, e2, hp2, hR, hpq, hpn⟩
      rw [rowV_len, List.take_length] at hR
      have L0 : IsLot M 0 (pairsOf r M.st.length) := by
        refine ⟨fun x => by rw [pairsOf_mem, M1.Mach.at_zero, hmem]; rfl, ?_⟩
        rw [pairsOf_len]
        exact Nat.mul_le_mul rl n6
      generalize pairsOf r M.st.length = ps at hR L0
      refine q_forR1 (D := { nx := fun x H' => Q V.non H', rt := Q }) (n := 40) (ea_cons ev_c ea_nil) ⟨by omega, by omega⟩ (fun t σ' H' => ∃ (p : Addr) (refs : List V) (ps : List (Nat × Nat)) (fr : List V) (lots : List (List (Nat × Nat))) (l3 l4 l5 l6 l7 l8 : Option V), σ' = [some (.ref a), some (.ref p), some (.ref q0), l3, l4, l5, l6, l7, l8] ∧ Ex H H' ∧ p ≠ q0 ∧ H p = none ∧ H' p = some (.lst refs) ∧ Paired (PairAt H') refs ps ∧ IsLot M t ps ∧ H' q0 = some (.lst fr) ∧ Paired (fun v l => LotAt H' v l ∧ v ≠ .ref q0) fr lots ∧ lots.length = t ∧ ∀ (i : Nat) l, lots[i]? = some l → IsLot M i l)
        (fun H3 e3 => ⟨p, refs, ps, [], [], l3, none, none, none, none, none, rfl, e01.trans (e2.trans e3), hpq, hpn, e3 _ _ hp2, pairs_keep (TT.ex e3) hR, L0, (e2.trans e3) _ _ (e1 _ _ upd_same), .nil, rfl, fun _ _ h => by simp at h⟩) ?_ ?_
      · rintro t σ' H3 ht ⟨p, refs, ps, fr, lots, l3, l4, l5, l6, l7, l8, rfl, e3, hpq, hpn, hp3, hR3, hL3, hq3, hF3, hlen, hlots⟩
        have hfl : fr.length = lots.length := Paired.length hF3
        refine ⟨.ref q0, rfl, Or.inl ⟨rfl, _, sq_of hq3⟩, .ref p, rfl, q0, _, _, rfl, rfl, hq3, small1000 (by omega), fun d hd => ?_⟩
        have t4 : TT H3 (upd H3 q0 (.lst (fr ++ [.ref p]))) := TT.upd hq3 (fun _ z => by cases z)
        have e4 : Ex H (upd H3 q0 (.lst (fr ++ [.ref p]))) := Ex.mut e3 nq
        have hp4 : (upd H3 q0 (.lst (fr ++ [.ref p]))) p = some (.lst refs) := by rw [upd_ne hpq]; exact hp3
        have hF4 : Paired (fun v l => LotAt (upd H3 q0 (.lst (fr ++ [.ref p]))) v l ∧ v ≠ .ref q0) (fr ++ [.ref p]) (lots ++ [ps]) := by
          refine Paired.snoc (Paired.mapP hF3 fun v l ⟨⟨p, refs, h1, h2, h3⟩, h4⟩ => ⟨⟨p, refs, h1, ?_, pairs_keep t4 h3⟩, h4⟩) ⟨⟨p, refs, rfl, hp4, pairs_keep t4 hR3⟩, fun z => hpq (V.ref.inj z)⟩
          rw [upd_ne fun z => h4 (by rw [h1, z])]
          exact h2
        have hq4 : (upd H3 q0 (.lst (fr ++ [.ref p]))) q0 = some (.lst (fr ++ [.ref p])) := upd_same
        have hlots4 : ∀ (i : Nat) l, (lots ++ [ps])[i]? = some l → IsLot M i l := fun i l h => by
          by_cases hi : i < lots.length
          · rw [List.getElem?_append_left hi] at h
            exact hlots i l h
          · rw [List.getElem?_append_right (by omega)] at h
            have h2 := (List.getElem?_eq_some_iff.mp h).1
            rw [List.length_singleton] at h2
            have h3 : i = t := by omega
            subst h3
            rw [hlen, Nat.sub_self] at h
            cases h
            exact hL3
        have hR4 := pairs_keep t4 hR3
        generalize upd H3 q0 (.lst (fr ++ [.ref p])) = H4 at *
        have e5 : Ex H4 (upd H4 d (.dT (tabV []))) := Ex.new hd
        have hrl : refs.length = ps.length := Paired.length hR4
        refine q_forL (ev_var rfl) (sq_of (e5 _ _ hp4)) (fun i σ' H' => ∃ (qs : List (Nat × Nat)) (l6 l7 l8 : Option V), σ' = [some (.ref a), some (.ref p), some (.ref q0), l3, some (.int (t : Int)), some (.ref d), l6, l7, l8] ∧ Ex H4 H' ∧ H' d = some (.dT (tabV qs)) ∧ LotIn M t ps i 0 qs)
          (fun H6 e6 => ⟨[], l6, l7, l8, rfl, e5.trans e6, e6 _ _ upd_same, ⟨by simp, fun _ h => by simp at h, fun _ _ _ _ _ h => by omega⟩⟩) (fun i σ' H' _ ⟨_, _, _, _, _, e, _⟩ => sq_of (e _ _ hp4)) ?_ ?_
        · rintro i z σ' H6 hz ⟨qs, m6, m7, m8, rfl, e6, hd6, LI⟩
          obtain ⟨pp, hpp, tt, rfl, htt⟩ := Paired.get' hR4 hz
          have hA := (hL3.1 pp).mp (List.mem_of_getElem? hpp)
          have hpr := hA.pr ok
          have h1l := hpr.1.lt ok
          have h2l := hpr.2
          obtain ⟨b1, g1, hB1⟩ := tab_get hPx (M.row_at h1l)
          obtain ⟨b2, g2, hB2⟩ := tab_get hPx (M.row_at h2l)
          refine ⟨tt, _, rfl, SqT.of (e6 _ _ htt), rfl, _, _, rfl, _, _, rfl, rfl, ?_⟩
          have e46 := e4.trans e6
          refine s_forR1 (D := { nx := _, rt := _, bk := _, ct := _ }) (n := ((rowV (M.row 0)).length : Int)) (ea_cons (ev_lenT (ev_op (ev_op (ev_var rfl) ev_c (rv_ixT (ex_t e46 hS) (atI_nat (j := 0) rfl))) ev_c (rv_ixT (ex_t e46 hSx) (atI_nat (j := 0) g0))) (ex_t e46 hS0)) ea_nil) ⟨by omega, by rw [rowV_len]; omega⟩
            (fun j σ' H' => ∃ (qs : List (Nat × Nat)) (l8 : Option V), σ' = [some (.ref a), some (.ref p), some (.ref q0), l3, some (.int (t : Int)), some (.ref d), some (nV pp.1), some (nV pp.2), l8] ∧ Ex H4 H' ∧ H' d = some (.dT (tabV qs)) ∧ LotIn M t ps i j qs)
            (fun H7 e7 => ⟨qs, m8, rfl, e6.trans e7, e7 _ _ hd6, LI⟩) ?_ ?_
          · rintro j σ' H7 hj ⟨q7, n8, rfl, e7, hd7, L7⟩
            have hjk : j < M.k := by rw [rowV_len, hr0] at hj; omega
            have e47 := e4.trans e7
            have hl7 := L7.len ok
            refine ⟨.ref d, rfl, ?_⟩
            refine eu_tup (ea_cons (ev_op (ev_op (ev_op (ev_var rfl) ev_c (rv_ixT (ex_t e47 hS) (atI_nat (j := 0) rfl))) (ev_var rfl) (rv_ixT (ex_t e47 hSx) (atI_nat g1))) (ev_var rfl) (rv_ixT (ex_t e47 hB1) (atI_nat (rowV_at (M.go_at ok h1l hjk)))))
              (ea_cons (ev_op (ev_op (ev_op (ev_var rfl) ev_c (rv_ixT (ex_t e47 hS) (atI_nat (j := 0) rfl))) (ev_var rfl) (rv_ixT (ex_t e47 hSx) (atI_nat g2))) (ev_var rfl) (rv_ixT (ex_t e47 hB2) (atI_nat (rowV_at (M.go_at ok h2l hjk))))) ea_nil)) (by show 2 ≤ 100000; decide) _ (Ex.refl _) _ fun t8 H8 ht8 e8 h8 => ?_
            refine ⟨d, _, rfl, .inr ⟨tabV q7, [Sum.inl (M.go pp.1 j : Int), Sum.inl (M.go pp.2 j : Int)], t8, e8 _ _ hd7, rfl, h8, by rw [tabV_len]; exact small1000 (by omega), rfl⟩, ?_⟩
            have := tab_put q7 (M.go pp.1 j, M.go pp.2 j)
            refine ⟨M1.addP q7 (M.go pp.1 j, M.go pp.2 j), _, rfl, Ex.mut (e7.trans e8) hd, ?_, L7.add hpp hA hjk⟩
            rw [upd_same, ← this]
          · rintro σ' H7 ⟨q7, n8, rfl, e7, hd7, L7⟩
            rw [Int.toNat_natCast, rowV_len, hr0] at L7
            exact ⟨q7, _, _, _, rfl, e7, hd7, L7.row⟩
        · rintro σ' H6 ⟨qs, m6, m7, m8, rfl, e6, hd6, LI⟩
          rw [hrl] at LI
          refine ⟨.ref d, rfl, d, tabV qs, rfl, .inl hd6, fun c bs hc hbs => ⟨c, bs.map V.ref, rfl, sq_of upd_same, fun x hx => ?_, fun ys p7 perm hp7 => ?_⟩⟩
          · obtain ⟨n, hn⟩ := List.mem_iff_getElem?.mp hx
            obtain ⟨q, _, tq, rfl, htq⟩ := Paired.get' (keys_pairs hbs) hn
            exact ⟨tq, _, _, rfl, Ex.new hc _ _ htq⟩
          · obtain ⟨qs', hperm, hPq⟩ := paired_perm perm (pairs_keep (TT.ex (Ex.new (o := .lst (bs.map V.ref)) hc)) (keys_pairs hbs))
            have e7 := (Ex.new (o := .lst (bs.map V.ref)) hc).trans (Ex.new (o := .lst ys) hp7)
            have e67 := e6.trans e7
            refine ⟨p7, ys, qs', fr ++ [.ref p], lots ++ [ps], _, _, _, _, _, _, rfl, e4.trans e67, fun z => ?_, fresh_back (e4.trans (e6.trans (Ex.new hc))) hp7, upd_same, pairs_keep (TT.ex (Ex.new hp7)) hPq, LI.done ok hL3 hperm, e67 _ _ hq4, Paired.mapP hF4 fun v l h => ⟨h.1.keep e67, h.2⟩, by rw [List.length_append, hlen]; rfl, hlots4⟩
            subst z
            rw [(e6.trans (Ex.new hc)) _ _ hq4] at hp7
            cases hp7
      · rintro σ' H3 ⟨p, refs, ps, fr, lots, l3, l4, l5, l6, l7, l8, rfl, e3, hpq, hpn, hp3, hR3, hL3, hq3, hF3, hlen, hlots⟩
        exact s_ret (ev_var rfl) fun H4 e4 => k q0 H4 fr lots nq (e3.trans e4) (e4 _ _ hq3) (Paired.mapP hF3 fun v l h => h.1.keep e4) hlen hlots
end

end Kx
namespace Kx
open PySem PySem.Spec PyProof.Rows L2

open Evl
section
variable {P : Program} {w : World} {K : PySem.W.Frag} {mg : Str → Option Value} {base : Heap}
/-! ### the law's own: the greatest length of a late word -/
def sp_llate (K : PySem.W.Frag) : Sp := fun vs H Q _ => ∃ (v : V) (M : M1.Mach), vs = [v] ∧ MacAt K H v M.st M.an ∧ M.Ok ∧ ∀ o H2, M.LateIs o → (∀ n, o = some n → n ≤ 36) → Ex H H2 → Q (oV o) H2
def Lens (M : M1.Mach) (i : Nat) (ls : List Nat) : Prop := ls.length ≤ i ∧ ∀ m, m ∈ ls ↔ 1 ≤ m ∧ m ≤ i ∧ M.Late m
theorem Lens.yes {M : M1.Mach} {i : Nat} {ls : List Nat} (h : Lens M i ls) (hl : M.Late (i + 1)) : Lens M (i + 1) (ls ++ [i + 1]) := by
  refine ⟨by rw [List.length_append]; exact Nat.succ_le_succ h.1, fun m => ?_⟩
  rw [List.mem_append, List.mem_singleton, h.2]
  constructor
  · rintro (⟨a, b, c⟩ | rfl)
    · exact ⟨a, by omega, c⟩
    · exact ⟨by omega, Nat.le_refl _, hl⟩
  · rintro ⟨a, b, c⟩
    by_cases e : m = i + 1
    · exact .inr e
    · exact .inl ⟨a, by omega, c⟩
theorem Lens.no {M : M1.Mach} {i : Nat} {ls : List Nat} (h : Lens M i ls) (hl : ¬ M.Late (i + 1)) : Lens M (i + 1) ls := by
  refine ⟨Nat.le_succ_of_le h.1, fun m => ?_⟩
  rw [h.2]
  constructor
  · rintro ⟨a, b, c⟩
    exact ⟨a, by omega, c⟩
  · rintro ⟨a, b, c⟩
    refine ⟨a, ?_, c⟩
    by_cases e : m = i + 1
    · subst e; exact absurd c hl
    · omega
theorem has_law_late (T : Txt K mg) (h_law_sets : Has P w K mg base "_law_sets" 2 ["machine"] (sp_sets K)) {f : Addr} {fd : FuncData} (F : Fun K "_law_late" "_law_late" s_law_late f fd) (g : mg "_law_late" = some (.ref f)) (B : Binds K fd ["machine"] []) : Has P w K mg base "_law_late" 3 ["machine"] (sp_llate K) := by
  refine Has.mk' g F.kp B (F.ok sc_law_late (fun vs H Q E h => ?_) (fun cdv A outer s H vs Q E hr h => ?_))
  · obtain ⟨v, M, rfl, _⟩ := h
    rfl
  · obtain ⟨v, M, rfl, hM, ok, k⟩ := h
    obtain ⟨a, x, y, rfl, hS, hx, ⟨ay, vy, rfl, hSy, hPy⟩⟩ := id hM
    refine ⟨_, (pss_cons (ps_set (i := 1) sc_law_late.nd rfl (.inl rfl) (pe_lst pa_nil))
      (pss_cons (ps_for PassesOwn.never rfl (pi_enum (by rfl) T.b_enumerate (pa_cons (pe_has h_law_sets (hr.mono (by first | decide | exact Nat.le_refl _)) (by rfl) (pa_cons (pv 0) pa_nil)) pa_nil)) (pg_tupK (K := K) (n := 2) rfl (by rfl) (pgs_cons (pg_name (i := 2) sc_law_late.nd rfl (.inl rfl)) (pgs_cons (pg_name (i := 3) sc_law_late.nd rfl (.inl rfl)) pgs_nil)))
      (pss_one (ps_if (pt_cmpR (op_neDK (K := K) rfl hr.units) (pe_lc (own := [("one", 4), ("other", 5)]) (by rfl) sc_law_late.nd (pi_listK (K := K) rfl (pv 3)) (blkOk_by (N := N_law_late) (sc := defScope s_law_late) (by decide +kernel)) (fun _ _ _ _ _ => (pg_tupK (K := K) (n := 2) rfl (by rfl) (pgs_cons (pg_name (i := 4) sc_law_late.nd rfl (.inl rfl)) (pgs_cons (pg_name (i := 5) sc_law_late.nd rfl (.inl rfl)) pgs_nil)))) (fun _ _ _ _ _ => pts_one (pt_cmpR (op_neDK (K := K) rfl hr.units) (pe_ix (ix_tupK (K := K) rfl) (pe_ix (ix_tupK (K := K) rfl) (pv 0) pe_int (fun _ _ => rfl)) (pv 4) (fun _ _ => rfl)) (pe_ix (ix_tupK (K := K) rfl) (pe_ix (ix_tupK (K := K) rfl) (pv 0) pe_int (fun _ _ => rfl)) (pv 5) (fun _ _ => rfl)) (nomark _))) (fun _ _ _ _ _ => pe_int)) (pe_lst pa_nil) (nomark _))
      (pss_one (ps_expr (pe_bm PySem.F.plainAttrs_list PySem.F.slot_list_append PySem.F.type_list_append mt_append (pv 1) (pa_cons (pe_op op_add (pv 2) pe_int) pa_nil))))
      pss_nil)))
      (pss_cons (ps_if (PW.pt (pw_and (pt_cmpR (op_neDK (K := K) rfl hr.units) (pv 1) (pe_lst pa_nil) (nomark _)) (pw_and1 (pt_cmpR op_gt (pe_callB (cr_maxK (K := K) rfl rfl) (by rfl) T.b_max bt_max (pa_cons (pv 1) pa_nil)) pe_int (nomark _)))))
      (pss_one (ps_ret pe_non))
      pss_nil)
      (pss_one (ps_ret (pe_callB (cr_maxK (K := K) rfl rfl) (by rfl) T.b_max bt_max (pa_cons (pe_op op_cat (pe_lst (pa_cons pe_int pa_nil)) (pv 1)) pa_nil))))))), ?_⟩
    refine q_asgL (el_lst ea_nil (by show 0 ≤ 100000; decide)) fun pl H1 hpl e1 h1 => ?_
    refine ⟨.ref a, rfl, .ref a, M, rfl, hM.keep (TKp.ex e1), ok, fun q H2 fr lots hq e2 hq2 hF hlen hlots => ⟨q, fr, rfl, sq_of hq2, ?_⟩⟩
    have e12 := e1.trans e2
    have hfl : fr.length = lots.length := Paired.length hF
    have some1 : ∀ n, ∃ x, M.At n x := fun n => by
      induction n with
      | zero => exact ⟨(0, 0), M1.Mach.at_zero.mpr ⟨M1.Mach.Rch.zero, ok.n1⟩⟩
      | succ n ih =>
        obtain ⟨x, hx⟩ := ih
        exact ⟨_, M1.Mach.at_succ.mpr ⟨x, 0, hx, ok.k1, rfl⟩⟩
    refine for_enumL (fun i σ' H' => ∃ (ls : List Nat) (l2 l3 : Option V), σ' = [some (.ref a), some (.ref pl), l2, l3, none, none] ∧ ExB pl H2 H' ∧ Ex H H' ∧ H' pl = some (.lst (rowV ls)) ∧ Lens M i ls)
      ⟨[], none, none, rfl, ExB.refl _ _, e12, e2 _ _ h1, Nat.le_refl _, fun m => ⟨fun h => by simp at h, fun h => by omega⟩⟩ (fun i σ' H' _ ⟨_, _, _, _, e, _⟩ => sq_of (e _ _ (fun z => by subst z; rw [h1] at hq; cases hq) hq2)) ?_ ?_
    · rintro i z t σ' H3 hz ⟨ls, l2, l3, rfl, eb, e3, hl3, hL⟩ ht
      obtain ⟨l, hl, p, refs, rfl, hp, hR⟩ := Paired.get' hF hz
      have hlot := hlots i l hl
      have hi : i < 40 := by
        have := (List.getElem?_eq_some_iff.mp hl).1
        omega
      refine ⟨t, _, rfl, SqT.of upd_same, rfl, _, _, rfl, _, _, rfl, rfl, ?_⟩
      have et : Ex H3 (upd H3 t (.tup [.int (i : Nat), .ref p])) := Ex.new ht
      have e3t := e3.trans et
      have npl : p ≠ pl := fun z => by
        subst z
        rw [e2 _ _ h1] at hp
        cases hp
        cases hR
        obtain ⟨x, hx⟩ := some1 i
        have := (hlot.1 x).mpr hx
        simp at this
      have hp3 : (upd H3 t (.tup [.int (i : Nat), .ref p])) p = some (.lst refs) := et _ _ (eb _ _ npl hp)
      have hR3 : Paired (PairAt (upd H3 t (.tup [.int (i : Nat), .ref p]))) refs l := pairs_keep (fun b xs q => et _ _ (eb b _ (fun z => by subst z; rw [e2 _ _ h1] at q; cases q) q)) hR
      have hl3' := et _ _ hl3
      generalize upd H3 t (.tup [.int (i : Nat), .ref p]) = H4 at *
      have hrl : refs.length = l.length := Paired.length hR3
      obtain ⟨b, hb⟩ : ∃ b : Bool, (b = true ↔ M.Late (i + 1)) := by
        by_cases h : M.Late (i + 1)
        · exact ⟨true, fun _ => h, fun _ => rfl⟩
        · exact ⟨false, fun z => (by cases z), fun z => absurd z h⟩
      refine s_when (b := b) (fun H0 e0 Q q => ?_) (fun bb H6 e6 => ?_) (fun bb H6 e6 => ?_)
      · refine ⟨.ref p, rfl, p, rfl, ⟨refs, sq_of (e0 _ _ hp3)⟩, fun D hD => ?_⟩
        refine lc_list (xs := refs) (fun m H' => ∃ c : Nat, Ex H0 H' ∧ H' D = some (.lst (rowV (List.replicate c 1))) ∧ c ≤ m ∧ (0 < c ↔ ∃ (n : Nat) (x : Nat × Nat), n < m ∧ l[n]? = some x ∧ M.ans x.1 ≠ M.ans x.2)) ⟨0, Ex.new hD, upd_same, Nat.le_refl _, ⟨fun z => by omega, fun ⟨_, _, z, _⟩ => by omega⟩⟩ (fun m H' _ ⟨c, p, _⟩ => sq_of ((e0.trans p) _ _ hp3)) (fun m z H' hz2 ⟨c, p1, p2, p3, p4⟩ => ?_) (fun H' ⟨c, p1, p2, p3, p4⟩ => ?_)
        · obtain ⟨xx, hxx, tt, rfl, htt⟩ := Paired.get' hR3 hz2
          have hpr := ((hlot.1 xx).mp (List.mem_of_getElem? hxx)).pr ok
          have h1l := hpr.1.lt ok
          have h2l := hpr.2
          obtain ⟨b1, g1, hB1⟩ := tab_get hPy (M.ans_at ok h1l)
          obtain ⟨b2, g2, hB2⟩ := tab_get hPy (M.ans_at ok h2l)
          have e04 := e0.trans p1
          have eH := e3t.trans e04
          have hm : m < l.length := (List.getElem?_eq_some_iff.mp hxx).1
          refine ⟨tt, _, rfl, SqT.of (e04 _ _ htt), rfl, _, _, rfl, _, _, rfl, rfl, rfl, ?_⟩
          refine (et_test (ev_ne_rows (K := K) (ev_op (ev_op (ev_var rfl) ev_c (rv_ixT (K := K) (ex_t eH hS) (atI_nat (j := 1) rfl))) (ev_var rfl) (rv_ixT (K := K) (ex_t eH hSy) (atI_nat g1))) (ev_op (ev_op (ev_var rfl) ev_c (rv_ixT (K := K) (ex_t eH hS) (atI_nat (j := 1) rfl))) (ev_var rfl) (rv_ixT (K := K) (ex_t eH hSy) (atI_nat g2))) (ex_t eH hB1) (ex_t eH hB2))) _ (Ex.refl _) _ fun H7 e7 => ?_
          by_cases hne : M.ans xx.1 = M.ans xx.2
          · rw [decide_eq_true hne]
            refine (if_neg (by decide)).mpr ⟨c, p1.trans e7, e7 _ _ p2, by omega, p4.trans ⟨fun ⟨n, x, a1, a2, a3⟩ => ⟨n, x, by omega, a2, a3⟩, fun ⟨n, x, a1, a2, a3⟩ => ?_⟩⟩
            by_cases hn : n = m
            · subst hn
              rw [hxx] at a2
              cases a2
              exact absurd hne a3
            · exact ⟨n, x, by omega, a2, a3⟩
          · rw [decide_eq_false hne]
            refine (if_pos rfl).mpr ⟨rowV (List.replicate c 1), e7 _ _ p2, ?_, c + 1, Ex.mut (p1.trans e7) hD, ?_, by omega, fun _ => ⟨m, xx, by omega, hxx, hne⟩, fun _ => by omega⟩
            · rw [rowV_len, List.length_replicate]
              exact small1000 (by have := hlot.2; omega)
            · rw [upd_same, List.replicate_succ', rowV_snoc]
              rfl
        · have hev : (!decide (List.replicate c 1 = ([] : List Nat))) = b := by
            have key : 0 < c ↔ M.Late (i + 1) := by
              rw [p4, M1.Mach.late_at ok]
              constructor
              · rintro ⟨n, x, _, hx, hne⟩
                exact ⟨x, (hlot.1 x).mp (List.mem_of_getElem? hx), hne⟩
              · rintro ⟨x, hx, hne⟩
                obtain ⟨n, hn⟩ := List.mem_iff_getElem?.mp ((hlot.1 x).mpr hx)
                exact ⟨n, x, by rw [hrl]; exact (List.getElem?_eq_some_iff.mp hn).1, hn, hne⟩
            cases c with
            | zero =>
              have : ¬ b = true := fun z => by have := key.mpr (hb.mp z); omega
              cases b with
              | true => exact absurd rfl this
              | false => rfl
            | succ c =>
              have : b = true := hb.mpr (key.mp (by omega))
              rw [this]
              rfl
          have first := (el_lst (σ := [some (V.ref a), some (.ref pl), some (.int (i : Int)), some (.ref p), none, none]) (H := H') (ea_nil) (by show 0 ≤ 100000; decide)) H' (Ex.refl _)
          refine first _ fun p5 H5 hp5 e5 h5 => ?_
          refine rv_neRows (K := K) (r := List.replicate c 1) (s := []) (sq_of (e5 _ _ p2)) (sq_of h5) H5 (Ex.refl _) _ fun H6 e6 => ⟨b, ?_, q H6 (p1.trans (e5.trans e6))⟩
          exact congrArg V.bl hev
      · have hlen1 := hL.1
        refine ⟨.ref pl, rfl, Or.inl ⟨rfl, _, sq_of (e6 _ _ hl3')⟩, .int (i : Int), rfl, (i : Int), 1, rfl, rfl, pl, _, _, rfl, rfl, e6 _ _ hl3', by rw [rowV_len]; exact small1000 (by omega), ?_⟩
        refine ⟨ls ++ [i + 1], _, _, rfl, ((eb.trans (ExB.of et)).trans (ExB.of e6)).trans ExB.upd, Ex.mut (e3t.trans e6) hpl, ?_, hL.yes (hb.mp bb)⟩
        rw [upd_same, rowV_snoc]
        rfl
      · exact ⟨ls, _, _, rfl, (eb.trans (ExB.of et)).trans (ExB.of e6), e3t.trans e6, e6 _ _ hl3', hL.no fun z => by rw [hb.mpr z] at bb; cases bb⟩
    · rintro σ' H3 ⟨ls, l2, l3, rfl, eb, e3, hl3, hL⟩
      rw [hfl, hlen] at hL
      have hll := hL.1
      have hne : ∀ H4, Ex H3 H4 → EvT (tTest (tOp (rNeD K) (tVar 1) (tLst tNil))) [some (.ref a), some (.ref pl), l2, l3, none, none] H4 (!decide (ls = [])) := fun H4 e4 => et_test (ev_opL (xs := []) (ev_var rfl) (el_lst ea_nil (by show 0 ≤ 100000; decide)) fun p H5 h5 e5 => rv_neRows (s := []) (sq_of (e5 _ _ (e4 _ _ hl3))) (sq_of h5))
      have rowI : rowV ls = (ls.map fun (n : Nat) => (n : Int)).map V.int := by unfold rowV; rw [List.map_map]; rfl
      have tail : ∀ H4, Ex H3 H4 → (∀ m ∈ ls, m ≤ 36) → tRet (tCB (rMax K) (tCons (tOp rCat (tLst (tCons (tC (V.int 0)) tNil)) (tVar 1)) tNil)) { nx := fun x H' => Q V.non H', rt := Q } [some (.ref a), some (.ref pl), l2, l3, none, none] H4 := by
        intro H4 e4 hle
        have first := (el_lst (σ := [some (.ref a), some (.ref pl), l2, l3, none, none]) (H := H4) (ea_cons (ev_c (v := V.int 0)) ea_nil) (by show 1 ≤ 100000; decide)) H4 (Ex.refl _)
        unfold tRet tCB tCons tOp
        refine first _ fun p5 H5 hp5 e5 h5 => ?_
        refine ⟨.ref pl, rfl, p5, pl, _, _, rfl, rfl, h5, e5 _ _ (e4 _ _ hl3), Nat.le_of_lt (small1000 (by rw [rowV_len]; show 1 + ls.length ≤ 1000; omega)), fun p6 hp6 => ⟨p6, 0 :: ls.map fun (n : Nat) => (n : Int), rfl, sq_of (by rw [upd_same, rowI]; rfl), by simp, fun m hm hmax => ?_⟩⟩
        have e36 := (e4.trans e5).trans (Ex.new (o := .lst ([V.int 0] ++ rowV ls)) hp6)
        obtain ⟨n, rfl, hn⟩ : ∃ n : Nat, m = (n : Int) ∧ (n = 0 ∨ n ∈ ls) := by
          rcases List.mem_cons.mp hm with e | e
          · exact ⟨0, e, .inl rfl⟩
          · obtain ⟨n, hn, e⟩ := List.mem_map.mp e
            exact ⟨n, e.symm, .inr hn⟩
        have hn36 : n ≤ 36 := by
          rcases hn with e | h
          · omega
          · exact hle n h
        refine k (some n) _ (M.lateIs_of ok ?_ fun hL1 => ?_) (fun m hm => by cases hm; exact hn36) (e3.trans e36)
        · rcases hn with e | h
          · exact .inl e
          · exact .inr ((hL.2 n).mp h).2.2
        · have : n + 1 ∈ ls := (hL.2 _).mpr ⟨by omega, by omega, hL1⟩
          have := hmax ((n + 1 : Nat) : Int) (List.mem_cons_of_mem _ (List.mem_map.mpr ⟨n + 1, this, rfl⟩))
          omega
      by_cases h0 : ls = []
      · refine q_when (b := false) (et_is (et_and (hne H3 (Ex.refl _)) (b := true) fun z => ?_) (by rw [decide_eq_true h0]; rfl)) (fun z => by cases z) (fun _ H4 e4 => tail H4 e4 fun m hm => by rw [h0] at hm; simp at hm)
        rw [decide_eq_true h0] at z
        cases z
      · have hmx : ∃ m, m ∈ ls ∧ ∀ y ∈ ls, y ≤ m := by
          clear hne rowI tail hll hL hl3
          induction ls with
          | nil => exact absurd rfl h0
          | cons x ls ih =>
            by_cases hz : ls = []
            · subst hz
              exact ⟨x, by simp, fun y hy => by rw [List.mem_singleton] at hy; omega⟩
            · obtain ⟨m, hm, hy⟩ := ih hz
              by_cases hxm : x ≤ m
              · refine ⟨m, List.mem_cons_of_mem _ hm, fun y hy' => ?_⟩
                rcases List.mem_cons.mp hy' with e | h
                · omega
                · exact hy y h
              · refine ⟨x, List.mem_cons_self, fun y hy' => ?_⟩
                rcases List.mem_cons.mp hy' with e | h
                · omega
                · have := hy y h
                  omega
        obtain ⟨m, hm, hmax⟩ := hmx
        have gt : ∀ H4, Ex H3 H4 → EvT (tTest (tOp (rI0 fun i j => V.bl (decide (j < i))) (tCB (rMax K) (tCons (tVar 1) tNil)) (tC (V.int 36)))) [some (.ref a), some (.ref pl), l2, l3, none, none] H4 (decide ((36 : Int) < (m : Int))) := fun H4 e4 => et_test (ev_op (x := .int (m : Int)) (fun H5 e5 Q q => ⟨.ref pl, rfl, pl, ls.map fun (n : Nat) => (n : Int), rfl, sq_of (by rw [← rowI]; exact e5 _ _ (e4 _ _ hl3)), by rw [List.length_map]; exact List.length_pos_iff.mpr h0, fun m' hm' hmax' => by
          obtain ⟨n, hn, rfl⟩ := List.mem_map.mp hm'
          have h1 := hmax n hn
          have h2 := hmax' (m : Int) (List.mem_map.mpr ⟨m, hm, rfl⟩)
          have : n = m := by omega
          subst this
          exact q H5 (Ex.refl _)⟩) ev_c rv_I0)
        refine q_when (et_and (hne H3 (Ex.refl _)) fun _ => gt H3 (Ex.refl _)) (fun bb H4 e4 => ?_) (fun bb H4 e4 => tail H4 e4 fun y hy => ?_)
        · rw [decide_eq_false h0, Bool.not_false, Bool.true_and] at bb
          have := of_decide_eq_true bb
          exact s_ret ev_c fun H5 e5 => k none H5 (M1.Mach.late_big ok (n := m) (by omega) ((hL.2 m).mp hm).2.2) (fun _ z => by cases z) (e3.trans (e4.trans e5))
        · rw [decide_eq_false h0, Bool.not_false, Bool.true_and] at bb
          have := of_decide_eq_false bb
          have := hmax y hy
          omega
end

end Kx
namespace Kx
open PySem PySem.Spec PyProof.Rows L2

open Evl
section
variable {P : Program} {w : World} {K : PySem.W.Frag} {mg : Str → Option Value} {base : Heap}
/-! ### the numbers are let -/
def sp_chknum : Sp := fun vs H Q _ => ∃ v lo hi : Int, vs = [.int v, .int lo, .int hi] ∧ lo ≤ v ∧ v ≤ hi ∧ ∀ H2, Ex H H2 → Q .non H2
def sp_chk (lo hi : Int) : Sp := fun vs H Q _ => ∃ v : Int, vs = [.int v] ∧ lo ≤ v ∧ v ≤ hi ∧ ∀ H2, Ex H H2 → Q .non H2
theorem has_check_number (T : Txt K mg) (h_is_integer : Has P w K mg base "is_integer" 1 ["value", "low", "high"] sp_is_integer) {f : Addr} {fd : FuncData} (F : Fun K "check_number" "check_number" s_check_number f fd) (g : mg "check_number" = some (.ref f)) (B : Binds K fd ["value", "low", "high"] []) : Has P w K mg base "check_number" 2 ["value", "low", "high"] sp_chknum := by
  refine Has.mk' g F.kp B (F.ok sc_check_number (fun vs H Q E h => ?_) (fun cdv A outer s H vs Q E hr h => ?_))
  · obtain ⟨v, lo, hi, rfl, _⟩ := h
    rfl
  · obtain ⟨v, lo, hi, rfl, h1, h2, k⟩ := h
    refine ⟨_, (pss_one (ps_if (pt_not (pt_val (pe_has h_is_integer (hr.mono (by first | decide | exact Nat.le_refl _)) (by rfl) (pa_cons (pv 0) (pa_cons (pv 1) (pa_cons (pv 2) pa_nil))))))
      (pss_one (ps_never))
      pss_nil)), ?_⟩
    refine s_when (b := false) (et_not (a := true) (et_B (ev_callV (ea_cons (ev_var rfl) (ea_cons (ev_var rfl) (ea_cons (ev_var rfl) ea_nil))) fun H1 e1 Q q => ⟨v, lo, hi, rfl, fun H2 e2 => ?_⟩))) (fun z => by cases z) fun _ H1 e1 => k H1 e1
    rw [decide_eq_true h1, decide_eq_true h2]
    exact q H2 e2
theorem has_check_copies (T : Txt K mg) (h_check_number : Has P w K mg base "check_number" 2 ["value", "low", "high"] sp_chknum) {f : Addr} {fd : FuncData} (F : Fun K "check_copies" "check_copies" s_check_copies f fd) (g : mg "check_copies" = some (.ref f)) (B : Binds K fd ["copies"] []) : Has P w K mg base "check_copies" 3 ["copies"] (sp_chk 1 99) := by
  refine Has.mk' g F.kp B (F.ok sc_check_copies (fun vs H Q E h => ?_) (fun cdv A outer s H vs Q E hr h => ?_))
  · obtain ⟨v, rfl, _⟩ := h
    rfl
  · obtain ⟨v, rfl, h1, h2, k⟩ := h
    refine ⟨_, (pss_one (ps_expr (pe_has h_check_number (hr.mono (by first | decide | exact Nat.le_refl _)) (by rfl) (pa_cons (pv 0) (pa_cons pe_int (pa_cons (pe_globI (by rfl) T.c_MOST_COPIES) pa_nil)))))), ?_⟩
    exact ⟨.int v, rfl, v, 1, 99, rfl, h1, h2, fun H2 e2 => k H2 e2⟩
theorem has_check_pushed (T : Txt K mg) (h_check_number : Has P w K mg base "check_number" 2 ["value", "low", "high"] sp_chknum) {f : Addr} {fd : FuncData} (F : Fun K "check_pushed" "check_pushed" s_check_pushed f fd) (g : mg "check_pushed" = some (.ref f)) (B : Binds K fd ["pushed"] []) : Has P w K mg base "check_pushed" 3 ["pushed"] (sp_chk 0 9) := by
  refine Has.mk' g F.kp B (F.ok sc_check_pushed (fun vs H Q E h => ?_) (fun cdv A outer s H vs Q E hr h => ?_))
  · obtain ⟨v, rfl, _⟩ := h
    rfl
  · obtain ⟨v, rfl, h1, h2, k⟩ := h
    refine ⟨_, (pss_one (ps_expr (pe_has h_check_number (hr.mono (by first | decide | exact Nat.le_refl _)) (by rfl) (pa_cons (pv 0) (pa_cons pe_int (pa_cons (pe_globI (by rfl) T.c_MOST_PUSHED) pa_nil)))))), ?_⟩
    exact ⟨.int v, rfl, v, 0, 9, rfl, h1, h2, fun H2 e2 => k H2 e2⟩
theorem has_check_room (T : Txt K mg) (h_check_number : Has P w K mg base "check_number" 2 ["value", "low", "high"] sp_chknum) {f : Addr} {fd : FuncData} (F : Fun K "check_room" "check_room" s_check_room f fd) (g : mg "check_room" = some (.ref f)) (B : Binds K fd ["room"] []) : Has P w K mg base "check_room" 3 ["room"] (sp_chk 1 60) := by
  refine Has.mk' g F.kp B (F.ok sc_check_room (fun vs H Q E h => ?_) (fun cdv A outer s H vs Q E hr h => ?_))
  · obtain ⟨v, rfl, _⟩ := h
    rfl
  · obtain ⟨v, rfl, h1, h2, k⟩ := h
    refine ⟨_, (pss_one (ps_expr (pe_has h_check_number (hr.mono (by first | decide | exact Nat.le_refl _)) (by rfl) (pa_cons (pv 0) (pa_cons pe_int (pa_cons (pe_globI (by rfl) T.c_GREATEST_ROOM) pa_nil)))))), ?_⟩
    exact ⟨.int v, rfl, v, 1, 60, rfl, h1, h2, fun H2 e2 => k H2 e2⟩
end

end Kx
namespace Kx
open PySem PySem.Spec PyProof.Rows L2

open Evl
theorem nV_dec (a b : Nat) : decide (nV a = nV b) = decide (a = b) := by
  by_cases h : a = b
  · rw [h, decide_eq_true rfl, decide_eq_true rfl]
  · rw [decide_eq_false h]
    exact decide_eq_false fun z => h (Int.ofNat_inj.mp (V.int.inj z))

end Kx
namespace Kx
open PySem PySem.Spec PyProof.Rows L2

open Evl
section
variable {P : Program} {w : World} {K : PySem.W.Frag} {mg : Str → Option Value} {base : Heap}
/-! ### how many copies -/
def sp_up : Sp := fun vs H Q _ => ∃ a b : Nat, vs = [.int (a : Int), .int (b : Int)] ∧ 1 ≤ b ∧ b ≤ 10000 ∧ ∀ H2, Ex H H2 → Q (nV (M1.up a b)) H2
theorem up_int {a b : Nat} (hb : 1 ≤ b) : ((a : Int) + (b : Int) - 1) / (b : Int) = ((M1.up a b : Nat) : Int) := by
  unfold M1.up
  rw [show (a : Int) + (b : Int) - 1 = ((a + b - 1 : Nat) : Int) by omega]
  exact (Int.natCast_ediv _ _).symm
theorem has_rounded_up (T : Txt K mg) {f : Addr} {fd : FuncData} (F : Fun K "rounded_up" "rounded_up" s_rounded_up f fd) (g : mg "rounded_up" = some (.ref f)) (B : Binds K fd ["top", "bottom"] []) : Has P w K mg base "rounded_up" 1 ["top", "bottom"] sp_up := by
  refine Has.mk' g F.kp B (F.ok sc_rounded_up (fun vs H Q E h => ?_) (fun cdv A outer s H vs Q E hr h => ?_))
  · obtain ⟨a, b, rfl, _⟩ := h
    rfl
  · obtain ⟨a, b, rfl, h1, h2, k⟩ := h
    refine ⟨_, (pss_one (ps_ret (pe_op op_fdiv (pe_op op_sub (pe_op op_add (pv 0) (pv 1)) pe_int) (pv 1)))), ?_⟩
    refine s_ret (ev_is (ev_op (ev_op (ev_op (ev_var rfl) (ev_var rfl) rv_I0) ev_c rv_I0) (ev_var rfl) (rv_I (show CDiv _ _ from ⟨by omega, by omega⟩))) (w := nV (M1.up a b)) (congrArg V.int (up_int h1))) fun H1 e1 => k H1 e1
theorem ev_up {σ : L2.St} {H : Hp} {E : XK} {ta tb : TE} {a b : Nat} (ha : Ev ta σ H (.int (a : Int))) (hb : Ev tb σ H (.int (b : Int))) (h1 : 1 ≤ b) (h2 : b ≤ 10000) : Ev (tCall sp_up [] E (tCons ta (tCons tb tNil))) σ H (nV (M1.up a b)) :=
  ev_callV (ea_cons ha (ea_cons hb ea_nil)) fun H1 e Q q => ⟨a, b, rfl, h1, h2, q⟩
def sp_needed (K : PySem.W.Frag) : Sp := fun vs H Q _ => ∃ (v : V) (M : M1.Mach) (p r : Nat) (o : Option Nat), vs = [v, .int (p : Int), .int (r : Int)] ∧ MacAt K H v M.st M.an ∧ M.Ok ∧ M.LateIs o ∧ p ≤ 9 ∧ 1 ≤ r ∧ r ≤ 60 ∧ ∀ H2, Ex H H2 → Q (oV (M1.needed o p r)) H2
theorem has_copies_needed (T : Txt K mg) (h_check_machine : Has P w K mg base "check_machine" 5 ["machine"] (sp_check_machine K)) (h_check_pushed : Has P w K mg base "check_pushed" 3 ["pushed"] (sp_chk 0 9)) (h_check_room : Has P w K mg base "check_room" 3 ["room"] (sp_chk 1 60)) (h_late : Has P w K mg base "late" 6 ["machine"] (sp_late K)) (h_rounded_up : Has P w K mg base "rounded_up" 1 ["top", "bottom"] sp_up)
    {f : Addr} {fd : FuncData} (F : Fun K "copies_needed" "copies_needed" s_copies_needed f fd) (g : mg "copies_needed" = some (.ref f)) (B : Binds K fd ["machine", "pushed", "room"] []) : Has P w K mg base "copies_needed" 7 ["machine", "pushed", "room"] (sp_needed K) := by
  refine Has.mk' g F.kp B (F.ok sc_copies_needed (fun vs H Q E h => ?_) (fun cdv A outer s H vs Q E hr h => ?_))
  · obtain ⟨v, M, p, r, o, rfl, _⟩ := h
    rfl
  · obtain ⟨v, M, p, r, o, rfl, hM, ok, hL, hp, hr1, hr2, k⟩ := h
    refine ⟨_, (pss_cons (ps_expr (pe_has h_check_machine (hr.mono (by first | decide | exact Nat.le_refl _)) (by rfl) (pa_cons (pv 0) pa_nil)))
      (pss_cons (ps_expr (pe_has h_check_pushed (hr.mono (by first | decide | exact Nat.le_refl _)) (by rfl) (pa_cons (pv 1) pa_nil)))
      (pss_cons (ps_expr (pe_has h_check_room (hr.mono (by first | decide | exact Nat.le_refl _)) (by rfl) (pa_cons (pv 2) pa_nil)))
      (pss_cons (ps_if (pt_cmpR op_eq (pv 1) pe_int (nomark _))
      (pss_one (ps_ret pe_int))
      pss_nil)
      (pss_cons (ps_set (i := 3) sc_copies_needed.nd rfl (.inl rfl) (pe_has h_late (hr.mono (by first | decide | exact Nat.le_refl _)) (by rfl) (pa_cons (pv 0) pa_nil)))
      (pss_cons (ps_if (pt_cmpR op_isN (pv 3) pe_non (nomark _))
      (pss_one (ps_ret pe_non))
      pss_nil)
      (pss_one (ps_ret (pe_op op_add (pe_op op_mul (pe_op op_mul pe_int (pv 1)) (pe_has h_rounded_up (hr.mono (by first | decide | exact Nat.le_refl _)) (by rfl) (pa_cons (pv 3) (pa_cons (pv 2) pa_nil)))) pe_int))))))))), ?_⟩
    refine ⟨v, rfl, v, M, rfl, hM, ok, fun H1 e1 => ⟨.int (p : Int), rfl, (p : Int), rfl, by omega, by omega, fun H2 e2 => ⟨.int (r : Int), rfl, (r : Int), rfl, by omega, by omega, fun H3 e3 => ?_⟩⟩⟩
    have e13 := (e1.trans e2).trans e3
    refine q_when (b := decide (p = 0)) (et_is (et_test (ev_op (ev_var rfl) ev_c (rv_eq rfl))) (nV_dec p 0)) (fun bb H4 e4 => ?_) (fun bb H4 e4 => ?_)
    · have h0 := of_decide_eq_true bb
      refine s_ret (v := .int 1) ev_c fun H5 e5 => ?_
      have z := k H5 (e13.trans (e4.trans e5))
      rw [show M1.needed o p r = some 1 by unfold M1.needed; rw [if_pos h0]] at z
      exact z
    · have h0 := of_decide_eq_false bb
      have e14 := e13.trans e4
      refine ⟨v, rfl, v, M, rfl, hM.keep (TKp.ex e14), ok, fun o' H5 hL' _ e5 => ?_⟩
      have := hL'.only hL
      subst this
      have e15 := e14.trans e5
      cases o' with
      | none =>
        refine q_when (b := true) (et_isN (i := 3) (v := .non) rfl) (fun _ H6 e6 => s_ret (v := .non) ev_c fun H7 e7 => ?_) (fun z => by cases z)
        have z := k H7 (e15.trans (e6.trans e7))
        rw [show M1.needed none p r = none by unfold M1.needed; rw [if_neg h0]; rfl] at z
        exact z
      | some d =>
        have hd := M.late_lt ok hL
        have n6 := ok.n6
        have hu := M1.up_bound (a := d) hr1
        refine q_when (b := false) (et_isN (i := 3) (v := nV d) rfl) (fun z => by cases z) (fun _ H6 e6 => ?_)
        refine s_ret (ev_is (ev_op (ev_op (ev_op ev_c (ev_var rfl) (rv_I (i := 2) (j := (p : Int)) (.inl ⟨by decide, by decide⟩))) (ev_up (ev_var rfl) (ev_var rfl) hr1 (by omega)) (rv_I (i := 2 * (p : Int)) (j := ((M1.up d r : Nat) : Int)) (.inl ⟨by omega, by omega⟩))) ev_c rv_I0) (w := nV (2 * p * M1.up d r + 1)) ?_) fun H7 e7 => ?_
        · show V.int (2 * (p : Int) * ((M1.up d r : Nat) : Int) + 1) = V.int ((2 * p * M1.up d r + 1 : Nat) : Int)
          congr 1
        · have z := k H7 (e15.trans (e6.trans e7))
          rw [show M1.needed (some d) p r = some (2 * p * M1.up d r + 1) by unfold M1.needed; rw [if_neg h0]; rfl] at z
          exact z
def enough (o : Option Nat) (c p r : Nat) : Bool := match M1.needed o p r with
  | some m => decide (m ≤ c)
  | none => false
def sp_enough (K : PySem.W.Frag) : Sp := fun vs H Q _ => ∃ (v : V) (M : M1.Mach) (c p r : Nat) (o : Option Nat), vs = [v, .int (c : Int), .int (p : Int), .int (r : Int)] ∧ MacAt K H v M.st M.an ∧ M.Ok ∧ M.LateIs o ∧ 1 ≤ c ∧ c ≤ 99 ∧ p ≤ 9 ∧ 1 ≤ r ∧ r ≤ 60 ∧ ∀ H2, Ex H H2 → Q (.bl (enough o c p r)) H2
theorem has_are_enough (T : Txt K mg) (h_check_machine : Has P w K mg base "check_machine" 5 ["machine"] (sp_check_machine K)) (h_check_copies : Has P w K mg base "check_copies" 3 ["copies"] (sp_chk 1 99)) (h_copies_needed : Has P w K mg base "copies_needed" 7 ["machine", "pushed", "room"] (sp_needed K))
    {f : Addr} {fd : FuncData} (F : Fun K "are_enough" "are_enough" s_are_enough f fd) (g : mg "are_enough" = some (.ref f)) (B : Binds K fd ["machine", "copies", "pushed", "room"] []) : Has P w K mg base "are_enough" 8 ["machine", "copies", "pushed", "room"] (sp_enough K) := by
  refine Has.mk' g F.kp B (F.ok sc_are_enough (fun vs H Q E h => ?_) (fun cdv A outer s H vs Q E hr h => ?_))
  · obtain ⟨v, M, c, p, r, o, rfl, _⟩ := h
    rfl
  · obtain ⟨v, M, c, p, r, o, rfl, hM, ok, hL, hc1, hc2, hp, hr1, hr2, k⟩ := h
    refine ⟨_, (pss_cons (ps_expr (pe_has h_check_machine (hr.mono (by first | decide | exact Nat.le_refl _)) (by rfl) (pa_cons (pv 0) pa_nil)))
      (pss_cons (ps_expr (pe_has h_check_copies (hr.mono (by first | decide | exact Nat.le_refl _)) (by rfl) (pa_cons (pv 1) pa_nil)))
      (pss_cons (ps_set (i := 4) sc_are_enough.nd rfl (.inl rfl) (pe_has h_copies_needed (hr.mono (by first | decide | exact Nat.le_refl _)) (by rfl) (pa_cons (pv 0) (pa_cons (pv 2) (pa_cons (pv 3) pa_nil)))))
      (pss_one (ps_ret (pe_and (pe_cmpR op_notN (pv 4) pe_non (nomark _)) (pe_one (pe_cmpR op_ge (pv 1) (pv 4) (nomark _))))))))), ?_⟩
    refine ⟨v, rfl, v, M, rfl, hM, ok, fun H1 e1 => ⟨.int (c : Int), rfl, (c : Int), rfl, by omega, by omega, fun H2 e2 => ?_⟩⟩
    have e12 := e1.trans e2
    refine ⟨v, rfl, .int (p : Int), rfl, .int (r : Int), rfl, v, M, p, r, o, rfl, hM.keep (TKp.ex e12), ok, hL, hp, hr1, hr2, fun H3 e3 => ?_⟩
    have e13 := e12.trans e3
    cases hn : M1.needed o p r with
    | none =>
      rw [show enough o c p r = false by unfold enough; rw [hn]] at k
      dsimp only
      refine s_ret (v := .bl false) (ev_andV (a := false) (b := true) (ev_op (x := .non) (ev_var rfl) ev_c rv_notN) fun z => by cases z) fun H4 e4 => ?_
      exact k H4 (e13.trans e4)
    | some m =>
      rw [show enough o c p r = decide (m ≤ c) by unfold enough; rw [hn]] at k
      dsimp only
      refine s_ret (v := .bl (decide (m ≤ c))) (ev_is (ev_andV (a := true) (b := decide ((m : Int) ≤ (c : Int))) (ev_op (x := nV m) (ev_var rfl) ev_c rv_notN) fun _ => ev_op (x := .int (c : Int)) (y := nV m) (ev_var rfl) (ev_var rfl) rv_I0) ?_) fun H4 e4 => ?_
      · rw [Bool.true_and]
        exact congrArg V.bl (decide_eq_decide.mpr Int.ofNat_le)
      · exact k H4 (e13.trans e4)
def mostOf (o : Option Nat) (c r : Nat) : Option Nat := match o with
  | none => some 0
  | some d => if d = 0 then none else some ((c - 1) / (2 * M1.up d r))
def sp_most (K : PySem.W.Frag) : Sp := fun vs H Q _ => ∃ (v : V) (M : M1.Mach) (c r : Nat) (o : Option Nat), vs = [v, .int (c : Int), .int (r : Int)] ∧ MacAt K H v M.st M.an ∧ M.Ok ∧ M.LateIs o ∧ 1 ≤ c ∧ c ≤ 99 ∧ 1 ≤ r ∧ r ≤ 60 ∧ ∀ H2, Ex H H2 → Q (oV (mostOf o c r)) H2
def lroom (o : Option Nat) (c p : Nat) : Option Nat := ((List.range 60).map (· + 1)).find? fun r => enough o c p r
def sp_lroom (K : PySem.W.Frag) : Sp := fun vs H Q _ => ∃ (v : V) (M : M1.Mach) (c p : Nat) (o : Option Nat), vs = [v, .int (c : Int), .int (p : Int)] ∧ MacAt K H v M.st M.an ∧ M.Ok ∧ M.LateIs o ∧ 1 ≤ c ∧ c ≤ 99 ∧ p ≤ 9 ∧ ∀ H2, Ex H H2 → Q (oV (lroom o c p)) H2
theorem find_upto {f : Nat → Bool} (n m : Nat) : (∀ i, i < n → f (i + 1) = false) → n < m → f (n + 1) = true → ((List.range m).map (· + 1)).find? f = some (n + 1) := fun h hn hf => by
  rw [List.find?_map, Option.map_eq_some_iff]
  refine ⟨n, ?_, rfl⟩
  rw [List.find?_range_eq_some]
  exact ⟨hf, List.mem_range.mpr hn, fun j hj => by show (!f (j + 1)) = true; rw [h j hj]; rfl⟩
def sp_fewest (K : PySem.W.Frag) : Sp := fun vs H Q _ => ∃ (v : V) (M : M1.Mach) (p r : Nat) (o : Option Nat), vs = [v, .int (p : Int), .int (r : Int)] ∧ MacAt K H v M.st M.an ∧ M.Ok ∧ M.least.LateIs o ∧ p ≤ 9 ∧ 1 ≤ r ∧ r ≤ 60 ∧ ∀ H2, Ex H H2 → Q (oV (M1.needed o p r)) H2
end

end Kx
namespace Kx
open PySem PySem.Spec PyProof.Rows L2

open Evl
section
variable {P : Program} {w : World} {K : PySem.W.Frag} {mg : Str → Option Value} {base : Heap}
/-! ### the law's draws -/
def sp_taken (K : PySem.W.Frag) : Sp := fun vs H Q _ => ∃ (a scr : Addr) (ns : List Int) (m : Nat), vs = [.ref a, .int (m : Int)] ∧ 1 ≤ m ∧ m ≤ 1000 ∧ RowOk K H a scr ns ∧ ∀ (r : Nat) H2, r < m → ExB a H H2 → RowOk K H2 a scr ns → Q (nV r) H2
theorem int_mod {x : Int} {m : Nat} (h : 1 ≤ m) : ∃ r : Nat, r < m ∧ x % (m : Int) = (r : Int) := by
  have h0 : (0 : Int) ≤ x % (m : Int) := Int.emod_nonneg x (by omega)
  have h1 : x % (m : Int) < (m : Int) := Int.emod_lt_of_pos x (by omega)
  exact ⟨(x % (m : Int)).toNat, by omega, by omega⟩
theorem ix4 (j : Nat) (h : j < 4) {v0 v1 v2 v3 : V} : ixN ([v0, v1, v2, v3] : List V).length (j : Int) = some j := ixN_nat h
theorem lt4 {j : Nat} {a b c d : V} (h : j < 4) : j < [a, b, c, d].length := h
theorem rv_modN {H : Hp} {i : Int} {m : Nat} (h : 1 ≤ m) : RV (rI (fun _ j => 0 < j) fun i j => .int (i % j)) (.int i) (.int (m : Int)) H (.int (i % (m : Int))) := rv_I (C := fun _ j => 0 < j) (by omega)
theorem ev_int {ta : TE} {σ : L2.St} {H : Hp} {i : Int} (ha : Ev ta σ H (.int i)) : Ev (tCB (fun xs H Q => (∃ i, xs = [.int i] ∧ Q (.int i) H) ∨ ∃ k, xs = [.bl k] ∧ Q (.int (if k then 1 else 0)) H) (tCons ta tNil)) σ H (.int i) := fun H1 e Q q =>
  ha H1 e _ fun H2 e2 => .inl ⟨i, rfl, q H2 e2⟩
theorem has_law_taken (T : Txt K mg) {f : Addr} {fd : FuncData} (F : Fun K "_law_taken" "_law_taken" s_law_taken f fd) (g : mg "_law_taken" = some (.ref f)) (B : Binds K fd ["row", "many"] []) : Has P w K mg base "_law_taken" 1 ["row", "many"] (sp_taken K) := by
  refine Has.mk' g F.kp B (F.ok sc_law_taken (fun vs H Q E h => ?_) (fun cdv A outer s H vs Q E hr h => ?_))
  · obtain ⟨a, scr, ns, m, rfl, _⟩ := h
    rfl
  · obtain ⟨a, scr, ns, m, rfl, h1, hm, ⟨⟨i, z, q, hA, i0, z0, z1⟩, hS, hl⟩, k⟩ := h
    refine ⟨_, (pss_cons (ps_if (pt_cmpR op_gt (pe_ix (ix_listK (K := K) rfl) (pv 0) pe_int (fun _ _ => rfl)) pe_int (nomark _))
      (pss_cons (ps_set (i := 2) sc_law_taken.nd rfl (.inl rfl) (pe_op op_mod (pe_callTy call_int1 (by rfl) T.b_int bt_int (pa_cons (pe_ix (ix_listK (K := K) rfl) (pv 0) pe_int (fun _ _ => rfl)) pa_nil)) (pv 1)))
      (pss_cons (ps_asg (pe_op op_fdiv (pe_ix (ix_listK (K := K) rfl) (pv 0) pe_int (fun _ _ => rfl)) (pv 1)) (pg_sub (pv 0) pe_int set_list))
      (pss_one (ps_ret (pv 2)))))
      pss_nil)
      (pss_cons (ps_asg (pe_op op_add (pe_ix (ix_listK (K := K) rfl) (pv 0) pe_int (fun _ _ => rfl)) pe_int) (pg_sub (pv 0) pe_int set_list))
      (pss_cons (ps_if (pt_cmpR op_gt (pe_ix (ix_listK (K := K) rfl) (pv 0) pe_int (fun _ _ => rfl)) (pe_callB (call_lenK (K := K) rfl) (by rfl) T.b_len bt_len (pa_cons (pe_ix (ix_listK (K := K) rfl) (pv 0) pe_int (fun _ _ => rfl)) pa_nil)) (nomark _))
      (pss_cons (ps_asg (pe_op op_mod (pe_callTy call_int1 (by rfl) T.b_int bt_int (pa_cons (pe_op op_add (pe_op op_mul (pe_ix (ix_listK (K := K) rfl) (pv 0) pe_int (fun _ _ => rfl)) pe_int) pe_int) pa_nil)) pe_int) (pg_sub (pv 0) pe_int set_list))
      (pss_one (ps_ret (pe_op op_mod (pe_callTy call_int1 (by rfl) T.b_int bt_int (pa_cons (pe_op op_fdiv (pe_ix (ix_listK (K := K) rfl) (pv 0) pe_int (fun _ _ => rfl)) pe_int) pa_nil)) (pv 1)))))
      pss_nil)
      (pss_cons (ps_set (i := 3) sc_law_taken.nd rfl (.inl rfl) (pe_ix (ix_listK (K := K) rfl) (pe_ix (ix_listK (K := K) rfl) (pv 0) pe_int (fun _ _ => rfl)) (pe_op op_sub (pe_ix (ix_listK (K := K) rfl) (pv 0) pe_int (fun _ _ => rfl)) pe_int) (fun _ _ => rfl)))
      (pss_cons (ps_asg (pe_op op_mod (pe_callTy call_int1 (by rfl) T.b_int bt_int (pa_cons (pe_op op_add (pe_op op_add (pe_op op_mul (pe_ix (ix_listK (K := K) rfl) (pv 0) pe_int (fun _ _ => rfl)) pe_int) (pv 3)) pe_int) pa_nil)) pe_int) (pg_sub (pv 0) pe_int set_list))
      (pss_cons (ps_if (pt_cmpR op_ge (pv 3) (pe_op op_pow pe_int pe_int) (nomark _))
      (pss_one (ps_asg (pe_op op_fdiv (pv 3) (pv 1)) (pg_sub (pv 0) pe_int set_list)))
      pss_nil)
      (pss_one (ps_ret (pe_op op_mod (pe_callTy call_int1 (by rfl) T.b_int bt_int (pa_cons (pv 3) pa_nil)) (pv 1)))))))))), ?_⟩
    have fin : ∀ (x : Int) (H2 : Hp) (i z q : Int), H2 a = some (.lst [.ref scr, .int i, .int z, .int q]) → 0 ≤ i → 0 ≤ z → z < 2147483647 → ExB a H H2 → Q (.int (x % (m : Int))) H2 := fun x H2 i z q hA i0 z0 z1 e => by
      obtain ⟨r, hr, er⟩ := int_mod (x := x) h1
      rw [er]
      exact k r H2 hr e ⟨⟨i, z, q, hA, i0, z0, z1⟩, fun H' x => hS H' (e.trans x), hl⟩
    refine q_when (b := decide ((0 : Int) < q)) (et_test (ev_op (ev_op (ev_var rfl) ev_c (rv_ixL (sq_of hA) (atI_nat (j := 3) rfl))) ev_c rv_I0)) (fun _ H1 e1 => ?_) (fun _ H1 e1 => ?_)
    · have hA1 := e1 _ _ hA
      refine q_asg (ev_op (ev_int (ev_op (ev_var rfl) ev_c (rv_ixL (sq_of hA1) (atI_nat (j := 3) rfl)))) (ev_var rfl) (rv_modN h1)) fun H2 e2 => ?_
      have hA2 := e2 _ _ hA1
      refine q_setL (j := 3) hA2 (ev_op (ev_op (ev_var rfl) ev_c (rv_ixL (sq_of hA2) (atI_nat (j := 3) rfl))) (ev_var rfl) (rv_I (C := CDiv) ⟨by omega, by omega⟩)) (ev_var rfl) ev_c (lt4 (by decide)) fun H3 e3 => ?_
      refine s_ret (ev_var rfl) fun H4 e4 => ?_
      exact fin q H4 i z _ (e4 _ _ upd_same) i0 z0 z1 ((((ExB.of (e1.trans e2)).trans (ExB.of e3)).trans ExB.upd).trans (ExB.of e4))
    · have hA1 := e1 _ _ hA
      refine q_setL (j := 1) hA1 (ev_op (ev_op (ev_var rfl) ev_c (rv_ixL (sq_of hA1) (atI_nat (j := 1) rfl))) ev_c rv_I0) (ev_var rfl) ev_c (lt4 (by decide)) fun H2 e2 => ?_
      have hA2 : (upd H2 a (.lst [.ref scr, .int (i + 1), .int z, .int q])) a = some (.lst [.ref scr, .int (i + 1), .int z, .int q]) := upd_same
      have x2 : ExB a H (upd H2 a (.lst [.ref scr, .int (i + 1), .int z, .int q])) := (ExB.of (e1.trans e2)).trans ExB.upd
      have hS2 := hS _ x2
      refine q_when (b := decide (((ns.map V.int).length : Int) < i + 1)) (et_test (ev_op (ev_op (ev_var rfl) ev_c (rv_ixL (sq_of hA2) (atI_nat (j := 1) rfl))) (ev_len (ev_op (ev_var rfl) ev_c (rv_ixL (sq_of hA2) (atI_nat (j := 0) rfl))) hS2) rv_I0)) (fun _ H3 e3 => ?_) (fun b H3 e3 => ?_)
      · have hA3 := e3 _ _ hA2
        refine q_setL (j := 2) hA3 (ev_op (ev_int (ev_op (ev_op (ev_op (ev_var rfl) ev_c (rv_ixL (sq_of hA3) (atI_nat (j := 2) rfl))) ev_c (rv_I (C := CMul) (.inl ⟨by omega, by omega⟩))) ev_c rv_I0)) ev_c (rv_I (C := fun _ j => (0 : Int) < j) (by decide))) (ev_var rfl) ev_c (lt4 (by decide)) fun H4 e4 => ?_
        have hA4 : (upd H4 a (.lst [.ref scr, .int (i + 1), .int ((z * 48271 + 11) % 2147483647), .int q])) a = some (.lst [.ref scr, .int (i + 1), .int ((z * 48271 + 11) % 2147483647), .int q]) := upd_same
        refine s_ret (ev_op (ev_int (ev_op (ev_op (ev_var rfl) ev_c (rv_ixL (sq_of hA4) (atI_nat (j := 2) rfl))) ev_c (rv_I (C := CDiv) ⟨by decide, by decide⟩))) (ev_var rfl) (rv_modN h1)) fun H5 e5 => ?_
        exact fin _ H5 _ _ _ (e5 _ _ hA4) (by omega) (Int.emod_nonneg _ (by decide)) (Int.emod_lt_of_pos _ (by decide)) (((x2.trans (ExB.of (e3.trans e4))).trans ExB.upd).trans (ExB.of e5))
      · have hA3 := e3 _ _ hA2
        have x3 := x2.trans (ExB.of e3)
        have hS3 := hS _ x3
        have hle : i + 1 ≤ (ns.length : Int) := by
          have := of_decide_eq_false b
          rw [List.length_map] at this
          omega
        obtain ⟨j, hj⟩ : ∃ j : Nat, i = (j : Int) := ⟨i.toNat, by omega⟩
        subst hj
        have hjl : j < ns.length := by omega
        have hget : (ns.map V.int)[j]? = some (.int ns[j]) := by rw [List.getElem?_map, List.getElem?_eq_getElem hjl]; rfl
        refine q_asg (ev_op (ev_op (ev_var rfl) ev_c (rv_ixL (sq_of hA3) (atI_nat (j := 0) rfl))) (ev_op (ev_op (ev_var rfl) ev_c (rv_ixL (sq_of hA3) (atI_nat (j := 1) rfl))) ev_c rv_I0) (rv_ixL hS3 (by rw [show (j : Int) + 1 - 1 = (j : Int) by omega]; exact atI_nat hget))) fun H4 e4 => ?_
        have hA4 := e4 _ _ hA3
        refine q_setL (j := 2) hA4 (ev_op (ev_int (ev_op (ev_op (ev_op (ev_op (ev_var rfl) ev_c (rv_ixL (sq_of hA4) (atI_nat (j := 2) rfl))) ev_c (rv_I (C := CMul) (.inl ⟨by omega, by omega⟩))) (ev_var rfl) rv_I0) ev_c rv_I0)) ev_c (rv_I (C := fun _ j => (0 : Int) < j) (by decide))) (ev_var rfl) ev_c (lt4 (by decide)) fun H5 e5 => ?_
        have hA5 : (upd H5 a (.lst [.ref scr, .int ((j : Int) + 1), .int ((z * 48271 + ns[j] + 11) % 2147483647), .int q])) a = some (.lst [.ref scr, .int ((j : Int) + 1), .int ((z * 48271 + ns[j] + 11) % 2147483647), .int q]) := upd_same
        have x5 := (x3.trans (ExB.of (e4.trans e5))).trans (ExB.upd (a := a) (o := .lst [.ref scr, .int ((j : Int) + 1), .int ((z * 48271 + ns[j] + 11) % 2147483647), .int q]))
        have zz : 0 ≤ (z * 48271 + ns[j] + 11) % 2147483647 ∧ (z * 48271 + ns[j] + 11) % 2147483647 < 2147483647 := ⟨Int.emod_nonneg _ (by decide), Int.emod_lt_of_pos _ (by decide)⟩
        refine q_when (b := decide ((10 : Int) ^ (18 : Int).toNat ≤ ns[j])) (et_test (ev_op (ev_var rfl) (ev_op ev_c ev_c (rv_I (C := CPow) ⟨by decide, by decide, by decide⟩)) rv_I0)) (fun _ H6 e6 => ?_) (fun _ H6 e6 => ?_)
        · refine s_setL (D := { nx := _, rt := _, bk := _, ct := _ }) (j := 3) (e6 _ _ hA5) (ev_op (ev_var rfl) (ev_var rfl) (rv_I (C := CDiv) ⟨by omega, by omega⟩)) (ev_var rfl) ev_c (lt4 (by decide)) fun H7 e7 => ?_
          refine s_ret (ev_op (ev_int (ev_var rfl)) (ev_var rfl) (rv_modN h1)) fun H8 e8 => ?_
          exact fin _ H8 _ _ _ (e8 _ _ upd_same) (by omega) zz.1 zz.2 (((x5.trans (ExB.of (e6.trans e7))).trans ExB.upd).trans (ExB.of e8))
        · refine s_ret (ev_op (ev_int (ev_var rfl)) (ev_var rfl) (rv_modN h1)) fun H8 e8 => ?_
          exact fin _ H8 _ _ _ (e8 _ _ (e6 _ _ hA5)) (by omega) zz.1 zz.2 (x5.trans (ExB.of (e6.trans e8)))
end

end Kx
namespace Kx
open PySem PySem.Spec PyProof.Rows L2

open Evl
section
variable {P : Program} {w : World} {K : PySem.W.Frag} {mg : Str → Option Value} {base : Heap}
def sp_lawmac (K : PySem.W.Frag) : Sp := fun vs H Q _ => ∃ (a scr : Addr) (ns : List Int) (s l : Nat), vs = [.ref a, .int (s : Int), .int (l : Int)] ∧ 1 ≤ s ∧ s ≤ 6 ∧ 1 ≤ l ∧ l ≤ 3 ∧ RowOk K H a scr ns ∧
  ∀ v (M : M1.Mach) H2, M.Ok → M.st.length ≤ s → M.k ≤ l → MacAt K H2 v M.st M.an → ExB a H H2 → RowOk K H2 a scr ns → Q v H2
/-- what stands while the machine is drawn -/
structure Dw (K : PySem.W.Frag) (H0 H : Hp) (a scr : Addr) (ns : List Int) (ps pt pb : Addr) (tab : List Nat) (ls lt : List V) (rows anss : List (List Nat)) : Prop where
  x : ExB a H0 H
  r : RowOk K H a scr ns
  hs : H ps = some (.lst ls)
  ht : H pt = some (.lst lt)
  hb : H pb = some (.lst (rowV tab))
  ps_ : Paired (RowAt K H) ls rows
  pt_ : Paired (RowAt K H) lt anss
theorem Dw.keep {K : PySem.W.Frag} {H0 H H' : Hp} {a scr : Addr} {ns : List Int} {ps pt pb : Addr} {tab : List Nat} {ls lt : List V} {rows anss : List (List Nat)} (D : Dw K H0 H a scr ns ps pt pb tab ls lt rows anss) (n1 : ps ≠ a) (n2 : pt ≠ a) (n3 : pb ≠ a) (e : ExB a H H') (R : RowOk K H' a scr ns) :
    Dw K H0 H' a scr ns ps pt pb tab ls lt rows anss := by
  obtain ⟨xs, hx⟩ := D.r.lst
  exact ⟨D.x.trans e, R, e _ _ n1 D.hs, e _ _ n2 D.ht, e _ _ n3 D.hb, paired_keep D.ps_ (e.tk hx), paired_keep D.pt_ (e.tk hx)⟩
theorem Dw.ex {K : PySem.W.Frag} {H0 H H' : Hp} {a scr : Addr} {ns : List Int} {ps pt pb : Addr} {tab : List Nat} {ls lt : List V} {rows anss : List (List Nat)} (D : Dw K H0 H a scr ns ps pt pb tab ls lt rows anss) (n1 : ps ≠ a) (n2 : pt ≠ a) (n3 : pb ≠ a) (e : Ex H H') : Dw K H0 H' a scr ns ps pt pb tab ls lt rows anss :=
  D.keep n1 n2 n3 (ExB.of e) (D.r.ex e)
/-- a fresh list is written -/
theorem Dw.put {K : PySem.W.Frag} {H0 H : Hp} {a scr p : Addr} {ns : List Int} {ps pt pb : Addr} {tab : List Nat} {ls lt xs ys : List V} {rows anss : List (List Nat)} (D : Dw K H0 H a scr ns ps pt pb tab ls lt rows anss) (R0 : RowOk K H0 a scr ns) (h0 : H0 p = none) (hp : H p = some (.lst xs)) (na : p ≠ a) (n1 : p ≠ ps) (n2 : p ≠ pt) (n3 : p ≠ pb) :
    Dw K H0 (upd H p (.lst ys)) a scr ns ps pt pb tab ls lt rows anss :=
  ⟨D.x.mut h0, R0.join D.r (D.x.mut h0) (upd_ne na.symm), by rw [upd_ne n1.symm]; exact D.hs, by rw [upd_ne n2.symm]; exact D.ht, by rw [upd_ne n3.symm]; exact D.hb, paired_keep D.ps_ (TKp.lst hp), paired_keep D.pt_ (TKp.lst hp)⟩
theorem draw_ok {σ : L2.St} {H : Hp} {a scr : Addr} {ns : List Int} {m : Nat} {te : TE} {i : Nat} (h1 : 1 ≤ m) (h2 : m ≤ 1000) (s0 : σ[i]? = some (some (.ref a))) (hmx : ∀ H1, ExB a H H1 → Ev te σ H1 (.int (m : Int))) :
    EvR K (tCall (sp_taken K) [] E0 (tCons (tVar i) (tCons te tNil))) σ H a scr ns m := fun H1 x1 R1 Q q => by
  refine ⟨.ref a, s0, hmx H1 x1 H1 (Ex.refl H1) _ fun H2 e2 => ⟨a, scr, ns, m, rfl, h1, h2, R1.ex e2, fun r H3 hr x3 R3 => q r H3 hr ((ExB.of e2).trans x3) R3⟩⟩
/-- name = [draw for x in range(n)] -/
theorem q_draws {ta : TA} {te : TE} {tz : TS} {D : Ends} {σ : L2.St} {H : Hp} {a scr : Addr} {ns : List Int} {i j n m : Nat} {vs : List Nat} (h : EvA ta σ H [.int (n : Int)]) (hn : n ≤ 1000) (R : RowOk K H a scr ns) (hw : ∀ x, wipe ((wipe σ vs).set j (some x)) vs = wipe σ vs)
    (he : ∀ i : Nat, i < 1000 → EvR K te ((wipe σ vs).set j (some (.int (i : Int)))) H a scr ns m)
    (q : ∀ p l H2, H p = none → p ≠ a → ExB a H H2 → RowOk K H2 a scr ns → H2 p = some (.lst (rowV l)) → l.length = n → (∀ x ∈ l, x < m) → tz D (σ.set i (some (.ref p))) H2) : tSeq (tAsg (tLc (iRng1 ta) (gName j) tYes te vs) (gName i)) tz D σ H :=
  er_lcR h hn R hw he (fun x H1 => gName i x σ H1 (tz D)) q
/-- tuple([draw for x in range(n)]), the only argument -/
theorem a_draws {ta : TA} {te : TE} {σ : L2.St} {H : Hp} {a scr : Addr} {ns : List Int} {j n m : Nat} {vs : List Nat} {Q : List V → Hp → Prop} (h : EvA ta σ H [.int (n : Int)]) (hn : n ≤ 1000) (R : RowOk K H a scr ns) (hw : ∀ x, wipe ((wipe σ vs).set j (some x)) vs = wipe σ vs)
    (he : ∀ i : Nat, i < 1000 → EvR K te ((wipe σ vs).set j (some (.int (i : Int)))) H a scr ns m)
    (q : ∀ p l H2, H p = none → p ≠ a → ExB a H H2 → RowOk K H2 a scr ns → H2 p = some (.tup (rowV l)) → l.length = n → (∀ x ∈ l, x < m) → Q [.ref p] H2) : tCons (tCB (rTupOf K) (tCons (tLc (iRng1 ta) (gName j) tYes te vs) tNil)) tNil σ H Q :=
  er_lcR h hn R hw he (fun x H1 => rTupOf K [x] H1 fun y H2 => Q [y] H2) fun p l H2 hp na x2 R2 h2 hl hm => ⟨p, _, rfl, Or.inl ⟨sq_of h2, fun p2 hp2 => by
    have np2 : p2 ≠ a := fun z => by
      subst z
      obtain ⟨xs, hx⟩ := R2.lst
      rw [hx] at hp2
      cases hp2
    exact q p2 l _ (x2.fresh np2 hp2) np2 (x2.trans (ExB.of (Ex.new hp2))) (R2.ex (Ex.new hp2)) upd_same hl hm⟩⟩
theorem has_law_machine (T : Txt K mg) (h_law_taken : Has P w K mg base "_law_taken" 1 ["row", "many"] (sp_taken K)) {f : Addr} {fd : FuncData} (F : Fun K "_law_machine" "_law_machine" s_law_machine f fd) (g : mg "_law_machine" = some (.ref f)) (B : Binds K fd ["row", "states", "letters"] []) :
    Has P w K mg base "_law_machine" 2 ["row", "states", "letters"] (sp_lawmac K) := by
  refine Has.mk' g F.kp B (F.ok sc_law_machine (fun vs H Q E h => ?_) (fun cdv A outer s H vs Q E hr h => ?_))
  · obtain ⟨a, scr, ns, s, l, rfl, _⟩ := h
    rfl
  · obtain ⟨a, scr, ns, s, l, rfl, s1, s6, l1, l3, R, k⟩ := h
    refine ⟨_, (pss_cons (ps_asg (pe_tup (pa_cons (pe_op op_add pe_int (pe_has h_law_taken (hr.mono (by first | decide | exact Nat.le_refl _)) (by rfl) (pa_cons (pv 0) (pa_cons (pv 1) pa_nil)))) (pa_cons (pe_op op_add pe_int (pe_has h_law_taken (hr.mono (by first | decide | exact Nat.le_refl _)) (by rfl) (pa_cons (pv 0) (pa_cons (pv 2) pa_nil)))) (pa_cons (pe_has h_law_taken (hr.mono (by first | decide | exact Nat.le_refl _)) (by rfl) (pa_cons (pv 0) (pa_cons pe_int pa_nil))) pa_nil)))) (pg_tupK (K := K) (n := 3) rfl (by rfl) (pgs_cons (pg_name (i := 3) sc_law_machine.nd rfl (.inr rfl)) (pgs_cons (pg_name (i := 4) sc_law_machine.nd rfl (.inl rfl)) (pgs_cons (pg_name (i := 5) sc_law_machine.nd rfl (.inl rfl)) pgs_nil)))))
      (pss_cons (ps_par (i := 6) (j := 7) (by rfl) sc_law_machine.nd rfl rfl (by decide) rfl rfl (pa_cons (pe_lst pa_nil) (pa_cons (pe_lst pa_nil) pa_nil)) (by rfl))
      (pss_cons (ps_setLc (i := 8) (own := [("letter", 11)]) (g := gName 11) (tt := tYes) (by rfl) sc_law_machine.nd rfl rfl (sw_true rfl rfl rfl (by decide +kernel)) (pi_range1 (by rfl) T.b_range (pa_cons (pv 4) pa_nil)) (blkOk_by (N := N_law_machine) (sc := defScope s_law_machine) (by decide +kernel)) (fun _ _ _ _ _ => pg_name (i := 11) sc_law_machine.nd rfl (Or.inl rfl)) (fun _ _ _ _ _ => pts_nil) (fun _ _ _ _ _ => (pe_has h_law_taken (hr.mono (by first | decide | exact Nat.le_refl _)) (by rfl) (pa_cons (pv 0) (pa_cons (pv 3) pa_nil)))))
      (pss_cons (ps_for PassesOwn.never rfl (pi_range1 (by rfl) T.b_range (pa_cons (pv 3) pa_nil)) (pg_name (i := 9) sc_law_machine.nd rfl (.inl rfl))
      (pss_cons (ps_set (i := 10) sc_law_machine.nd rfl (.inl rfl) (pe_lst pa_nil))
      (pss_cons (ps_for PassesOwn.never rfl (pi_range1 (by rfl) T.b_range (pa_cons (pv 4) pa_nil)) (pg_name (i := 11) sc_law_machine.nd rfl (.inl rfl))
      (pss_cons (ps_set (i := 12) sc_law_machine.nd rfl (.inl rfl) (pe_ifExp (pt_cmpR op_eq (pv 5) pe_int (nomark _)) (pe_has h_law_taken (hr.mono (by first | decide | exact Nat.le_refl _)) (by rfl) (pa_cons (pv 0) (pa_cons (pv 3) pa_nil))) (pe_callB (call_min2 rfl) (by rfl) T.b_min bt_min (pa_cons (pe_op op_sub (pv 3) pe_int) (pa_cons (pe_op op_add (pv 9) (pe_has h_law_taken (hr.mono (by first | decide | exact Nat.le_refl _)) (by rfl) (pa_cons (pv 0) (pa_cons pe_int pa_nil)))) pa_nil)))))
      (pss_one (ps_expr (pe_bm PySem.F.plainAttrs_list PySem.F.slot_list_append PySem.F.type_list_append mt_append (pv 10) (pa_cons (pe_ifExp (PW.pt (pw_and (pt_cmpR op_gt (pv 5) pe_int (nomark _)) (pw_and1 (pt_cmpR op_gt (pe_has h_law_taken (hr.mono (by first | decide | exact Nat.le_refl _)) (by rfl) (pa_cons (pv 0) (pa_cons pe_int pa_nil))) pe_int (nomark _))))) (pe_ix (ix_listK (K := K) rfl) (pv 8) (pv 11) (fun _ _ => rfl)) (pv 12)) pa_nil))))))
      (pss_cons (ps_expr (pe_bm PySem.F.plainAttrs_list PySem.F.slot_list_append PySem.F.type_list_append mt_append (pv 6) (pa_cons (pe_callTy (call_tupleK (K := K) rfl) (by rfl) T.b_tuple bt_tuple (pa_cons (pv 10) pa_nil)) pa_nil)))
      (pss_one (ps_expr (pe_bm PySem.F.plainAttrs_list PySem.F.slot_list_append PySem.F.type_list_append mt_append (pv 7) (pa_cons (pe_callTy (call_tupleK (K := K) rfl) (by rfl) T.b_tuple bt_tuple (pa_cons (pe_lc (own := [("letter", 11)]) (g := gName 11) (tt := tYes) (by rfl) sc_law_machine.nd (pi_range1 (by rfl) T.b_range (pa_cons (pv 4) pa_nil)) (blkOk_by (N := N_law_machine) (sc := defScope s_law_machine) (by decide +kernel)) (fun _ _ _ _ _ => pg_name (i := 11) sc_law_machine.nd rfl (Or.inl rfl)) (fun _ _ _ _ _ => pts_nil) (fun _ _ _ _ _ => (pe_has h_law_taken (hr.mono (by first | decide | exact Nat.le_refl _)) (by rfl) (pa_cons (pv 0) (pa_cons pe_int pa_nil))))) pa_nil)) pa_nil))))))))
      (pss_one (ps_ret (pe_tup (pa_cons (pe_callTy (call_tupleK (K := K) rfl) (by rfl) T.b_tuple bt_tuple (pa_cons (pv 6) pa_nil)) (pa_cons (pe_callTy (call_tupleK (K := K) rfl) (by rfl) T.b_tuple bt_tuple (pa_cons (pv 7) pa_nil)) pa_nil))))))))), ?_⟩
    -- many, some, kind = ..
    refine ⟨.ref a, rfl, .int (s : Int), rfl, a, scr, ns, s, rfl, s1, by omega, R, fun r1 H1 hr1 x1 R1 => ⟨1, (r1 : Int), rfl, rfl, .ref a, rfl, .int (l : Int), rfl, a, scr, ns, l, rfl, l1, by omega, R1, fun r2 H2 hr2 x2 R2 => ⟨1, (r2 : Int), rfl, rfl, .ref a, rfl, a, scr, ns, 3, rfl, by decide, by decide, R2, fun kd H3 hkd x3 R3 => ⟨by show 3 ≤ sizeLine; decide, fun Tp hTp => ⟨Tp, _, rfl, SqT.of upd_same, rfl, _, _, rfl, _, _, rfl, _, _, rfl, rfl, ?_⟩⟩⟩⟩⟩
    obtain ⟨n, hn⟩ : ∃ n : Nat, n = 1 + r1 := ⟨_, rfl⟩
    obtain ⟨m, hm⟩ : ∃ m : Nat, m = 1 + r2 := ⟨_, rfl⟩
    have en : (1 : Int) + (r1 : Int) = (n : Int) := by omega
    have em : (1 : Int) + (r2 : Int) = (m : Int) := by omega
    dsimp only
    rw [en, em]
    have x4 : ExB a H (upd H3 Tp (.tup [.int (n : Int), .int (m : Int), nV kd])) := ((x1.trans x2).trans x3).trans (ExB.of (Ex.new hTp))
    have R4 : RowOk K (upd H3 Tp (.tup [.int (n : Int), .int (m : Int), nV kd])) a scr ns := R3.ex (Ex.new hTp)
    refine ⟨Nat.zero_le _, fun ps hps => ⟨Nat.zero_le _, fun pt hpt => ⟨_, _, rfl, ?_⟩⟩⟩
    obtain ⟨xa, hxa⟩ := R4.lst
    have nsa : ps ≠ a := fun z => by subst z; rw [hxa] at hps; cases hps
    have hpt' := hpt
    have nts : pt ≠ ps := fun z => by subst z; rw [upd_same] at hpt; cases hpt
    rw [upd_ne nts] at hpt'
    have nta : pt ≠ a := fun z => by subst z; rw [hxa] at hpt'; cases hpt'
    have e5 : Ex (upd H3 Tp (.tup [.int (n : Int), .int (m : Int), nV kd])) (upd (upd (upd H3 Tp (.tup [.int (n : Int), .int (m : Int), nV kd])) ps (.lst [])) pt (.lst [])) := (Ex.new hps).trans (Ex.new hpt)
    have R5 := R4.ex e5
    have x5 := x4.trans (ExB.of e5)
    have nps : H ps = none := x4.fresh nsa hps
    have npt : H pt = none := x4.fresh nta hpt'
    refine q_draws (n := m) (m := n) (ea_cons (ev_var rfl) ea_nil) (by omega) R5 (fun _ => rfl) (fun i hi => draw_ok (by omega) (by omega) (by exact rfl) fun _ _ => by exact ev_var rfl) fun pb tab H6 hpb nba x6 R6 h6 tl tlt => ?_
    have npb : H pb = none := x5.fresh nba hpb
    have nbs : pb ≠ ps := fun z => by subst z; rw [upd_ne nts.symm, upd_same] at hpb; cases hpb
    have nbt : pb ≠ pt := fun z => by subst z; rw [upd_same] at hpb; cases hpb
    have hs6 : H6 ps = some (.lst []) := x6 _ _ nsa (by rw [upd_ne nts.symm, upd_same])
    have ht6 : H6 pt = some (.lst []) := x6 _ _ nta upd_same
    have D6 : Dw K H H6 a scr ns ps pt pb tab [] [] [] [] := ⟨x5.trans x6, R6, hs6, ht6, h6, .nil, .nil⟩
    refine q_forR1 (n := (n : Int)) (ea_cons (ev_var rfl) ea_nil) ⟨by omega, by omega⟩ (fun i σ' H' => ∃ l9 l10 l11 l12 ls lt rows anss, σ' = [some (.ref a), some (.int (s : Int)), some (.int (l : Int)), some (.int (n : Int)), some (.int (m : Int)), some (nV kd), some (.ref ps), some (.ref pt), some (.ref pb), l9, l10, l11, l12] ∧
      Dw K H H' a scr ns ps pt pb tab ls lt rows anss ∧ rows.length = i ∧ anss.length = i ∧ (∀ r ∈ rows, r.length = m ∧ ∀ x ∈ r, x < n) ∧ ∀ r ∈ anss, r.length = m ∧ ∀ x ∈ r, x ≤ 9)
      (fun H7 e7 => ⟨none, none, none, none, [], [], [], [], rfl, D6.ex nsa nta nba e7, rfl, rfl, fun _ h => by simp at h, fun _ h => by simp at h⟩) ?_ ?_
    · rintro i σ' H' hi ⟨l9, l10, l11, l12, ls, lt, rows, anss, rfl, D, lr, la, ar, aa⟩
      have hls : ls.length = i := by rw [Paired.length D.ps_, lr]
      have hlt : lt.length = i := by rw [Paired.length D.pt_, la]
      refine q_asgL (el_lst ea_nil (by decide)) fun pl H7 hpl e7 h7 => ?_
      have D7 := D.ex nsa nta nba e7
      obtain ⟨xa', hxa'⟩ := D.r.lst
      have nla : pl ≠ a := fun z => by subst z; rw [hxa'] at hpl; cases hpl
      have npl : H pl = none := D.x.fresh nla hpl
      have nls : pl ≠ ps := fun z => by subst z; rw [D.hs] at hpl; cases hpl
      have nlt : pl ≠ pt := fun z => by subst z; rw [D.ht] at hpl; cases hpl
      have nlb : pl ≠ pb := fun z => by subst z; rw [D.hb] at hpl; cases hpl
      refine q_forR1 (n := (m : Int)) (ea_cons (ev_var rfl) ea_nil) ⟨by omega, by omega⟩ (fun j σ' H' => ∃ l11 l12 ln, σ' = [some (.ref a), some (.int (s : Int)), some (.int (l : Int)), some (.int (n : Int)), some (.int (m : Int)), some (nV kd), some (.ref ps), some (.ref pt), some (.ref pb), some (.int (i : Int)), some (.ref pl), l11, l12] ∧
        Dw K H H' a scr ns ps pt pb tab ls lt rows anss ∧ H' pl = some (.lst (rowV ln)) ∧ ln.length = j ∧ ∀ x ∈ ln, x < n)
        (fun H8 e8 => ⟨l11, l12, [], rfl, D7.ex nsa nta nba e8, e8 _ _ h7, rfl, fun _ h => by simp at h⟩) ?_ ?_
      · rintro j σ' H8 hj ⟨m11, m12, ln, rfl, D8, h8, l8, a8⟩
        have hjm : j < m := by omega
        -- line.append(..): what is left once the value is known
        have app : ∀ (x : Nat) H9, x < n → Dw K H H9 a scr ns ps pt pb tab ls lt rows anss → H9 pl = some (.lst (rowV ln)) → ∀ y12, rAppend (.ref pl) [nV x] H9 fun _ H10 => ∃ l11 l12 ln, [some (.ref a), some (.int (s : Int)), some (.int (l : Int)), some (.int (n : Int)), some (.int (m : Int)), some (nV kd), some (.ref ps), some (.ref pt), some (.ref pb), some (.int (i : Int)), some (.ref pl), some (.int (j : Int)), y12] = [some (.ref a), some (.int (s : Int)), some (.int (l : Int)), some (.int (n : Int)), some (.int (m : Int)), some (nV kd), some (.ref ps), some (.ref pt), some (.ref pb), some (.int (i : Int)), some (.ref pl), l11, l12] ∧
            Dw K H H10 a scr ns ps pt pb tab ls lt rows anss ∧ H10 pl = some (.lst (rowV ln)) ∧ ln.length = j + 1 ∧ ∀ x ∈ ln, x < n := by
          intro x H9 hx D9 h9 y12
          refine ⟨pl, _, _, rfl, rfl, h9, by rw [rowV_len]; exact small1000 (by omega), _, y12, ln ++ [x], rfl, D9.put R npl h9 nla nls nlt nlb, by rw [rowV_snoc]; exact upd_same, by rw [List.length_append, List.length_singleton, l8], fun y hy => ?_⟩
          rcases List.mem_append.mp hy with hy | hy
          · exact a8 y hy
          · rw [List.mem_singleton] at hy
            subst hy
            exact hx
        -- there = ..
        have rest : ∀ (x : Nat) H9, x < n → Dw K H H9 a scr ns ps pt pb tab ls lt rows anss → H9 pl = some (.lst (rowV ln)) → (tDrop (tBM K "list" rAppend (tVar 10) (tCons (tIf (tAnd (tTest (tOp (rI0 fun i j => .bl (decide (j < i))) (tVar 5) (tC (.int 0)))) (tTest (tOp (rI0 fun i j => .bl (decide (j < i))) (tCall (sp_taken K) [] E0 (tCons (tVar 0) (tCons (tC (.int 3)) tNil))) (tC (.int 0))))) (tOp (rIxL K) (tVar 8) (tVar 11)) (tVar 12)) tNil)))
            { nx := (fun σ' H' => ∃ l11 l12 ln, σ' = [some (.ref a), some (.int (s : Int)), some (.int (l : Int)), some (.int (n : Int)), some (.int (m : Int)), some (nV kd), some (.ref ps), some (.ref pt), some (.ref pb), some (.int (i : Int)), some (.ref pl), l11, l12] ∧ Dw K H H' a scr ns ps pt pb tab ls lt rows anss ∧ H' pl = some (.lst (rowV ln)) ∧ ln.length = j + 1 ∧ ∀ x ∈ ln, x < n), rt := fun _ _ => True, bk := fun _ _ => True, ct := fun _ _ => True }
            [some (.ref a), some (.int (s : Int)), some (.int (l : Int)), some (.int (n : Int)), some (.int (m : Int)), some (nV kd), some (.ref ps), some (.ref pt), some (.ref pb), some (.int (i : Int)), some (.ref pl), some (.int (j : Int)), some (nV x)] H9 := by
          intro x H9 hx D9 h9
          refine ⟨.ref pl, rfl, Or.inl ⟨rfl, _, sq_of h9⟩, nV kd, rfl, (kd : Int), 0, rfl, rfl, _, rfl, ?_⟩
          by_cases c : (0 : Int) < (kd : Int)
          · rw [decide_eq_true c]
            refine iteT ⟨.ref a, rfl, a, scr, ns, 3, rfl, by decide, by decide, D9.r, fun r9 H10 hr9 x10 R10 => ⟨(r9 : Int), 0, rfl, rfl, _, rfl, ?_⟩⟩
            have D10 := D9.keep nsa nta nba x10 R10
            have h10 := x10 _ _ nla h9
            by_cases c2 : (0 : Int) < (r9 : Int)
            · rw [decide_eq_true c2]
              have gt : tab[j]? = some (tab.getD j 0) := M1.getD_at (by omega)
              refine iteT ⟨.ref pb, rfl, .int (j : Int), rfl, pb, _, _, nV (tab.getD j 0), rfl, rfl, sq_of D10.hb, atI_nat (rowV_at gt), ?_⟩
              exact app _ H10 (tlt _ (List.mem_of_getElem? gt)) D10 h10 _
            · rw [decide_eq_false c2]
              exact iteF ⟨nV x, rfl, app x H10 hx D10 h10 _⟩
          · rw [decide_eq_false c]
            exact iteF ⟨nV x, rfl, app x H9 hx D9 h9 _⟩
        refine ⟨nV kd, rfl, rfl, _, rfl, ?_⟩
        by_cases c : V.int (kd : Int) = V.int 0
        · rw [show decide (nV kd = V.int 0) = true from decide_eq_true c]
          exact iteT ⟨.ref a, rfl, .int (n : Int), rfl, a, scr, ns, n, rfl, by omega, by omega, D8.r, fun r9 H9 hr9 x9 R9 => rest r9 H9 hr9 (D8.keep nsa nta nba x9 R9) (x9 _ _ nla h8)⟩
        · rw [show decide (nV kd = V.int 0) = false from decide_eq_false c]
          refine iteF ⟨.int (n : Int), rfl, (n : Int), 1, rfl, rfl, .int (i : Int), rfl, .ref a, rfl, a, scr, ns, 2, rfl, by decide, by decide, D8.r, fun r9 H9 hr9 x9 R9 => ⟨(i : Int), (r9 : Int), rfl, rfl, (n : Int) - 1, (i : Int) + (r9 : Int), rfl, ?_⟩⟩
          obtain ⟨z, hz, ez⟩ : ∃ z : Nat, z < n ∧ (if (i : Int) + (r9 : Int) < (n : Int) - 1 then (i : Int) + (r9 : Int) else (n : Int) - 1) = (z : Int) := by
            by_cases c3 : (i : Int) + (r9 : Int) < (n : Int) - 1
            · rw [if_pos c3]
              exact ⟨i + r9, by omega, by omega⟩
            · rw [if_neg c3]
              exact ⟨n - 1, by omega, by omega⟩
          rw [ez]
          exact rest z H9 hz (D8.keep nsa nta nba x9 R9) (x9 _ _ nla h8)
      · rintro σ' H8 ⟨m11, m12, ln, rfl, D8, h8, l8, a8⟩
        have l8' : ln.length = m := by omega
        refine q_appU D8.hs (ev_var rfl) (eu_tupL (ev_var rfl) (sq_of h8)) (by omega) fun q H9 hq e9 h9 => ?_
        have D9 := D8.ex nsa nta nba e9
        have tk9 : TKp K H9 (upd H9 ps (.lst (ls ++ [.ref q]))) := TKp.lst D9.hs
        have D10 : Dw K H (upd H9 ps (.lst (ls ++ [.ref q]))) a scr ns ps pt pb tab (ls ++ [.ref q]) lt (rows ++ [ln]) anss :=
          ⟨D9.x.mut nps, R.join D9.r (D9.x.mut nps) (upd_ne nsa.symm), upd_same, by rw [upd_ne nts]; exact D9.ht, by rw [upd_ne nbs]; exact D9.hb, Paired.snoc (paired_keep D9.ps_ tk9) ⟨q, rfl, tk9 _ _ (SqT.of h9)⟩, paired_keep D9.pt_ tk9⟩
        -- told.append(tuple([..]))
        refine ⟨.ref pt, rfl, Or.inl ⟨rfl, _, sq_of D10.ht⟩, ?_⟩
        refine a_draws (n := m) (m := 2) (ea_cons (ev_var rfl) ea_nil) (by omega) D10.r (fun _ => rfl) (fun i hi => draw_ok (by decide) (by decide) (by exact rfl) fun _ _ => by exact ev_c) fun q2 an H11 hq2 nda x11 R11 h11 dl da => ?_
        have D12 := D10.keep nsa nta nba x11 R11
        refine ⟨pt, _, _, rfl, rfl, D12.ht, small1000 (by omega), ?_⟩
        have tk12 : TKp K H11 (upd H11 pt (.lst (lt ++ [.ref q2]))) := TKp.lst D12.ht
        refine ⟨_, _, _, _, ls ++ [.ref q], lt ++ [.ref q2], rows ++ [ln], anss ++ [an], rfl, ⟨D12.x.mut npt, R.join D12.r (D12.x.mut npt) (upd_ne nta.symm), by rw [upd_ne nts.symm]; exact D12.hs, upd_same, by rw [upd_ne nbt]; exact D12.hb, paired_keep D12.ps_ tk12, Paired.snoc (paired_keep D12.pt_ tk12) ⟨q2, rfl, tk12 _ _ (SqT.of h11)⟩⟩,
          by rw [List.length_append, List.length_singleton, lr], by rw [List.length_append, List.length_singleton, la], fun r hr => ?_, fun r hr => ?_⟩
        · rcases List.mem_append.mp hr with hr | hr
          · exact ar r hr
          · rw [List.mem_singleton] at hr
            subst hr
            exact ⟨l8', a8⟩
        · rcases List.mem_append.mp hr with hr | hr
          · exact aa r hr
          · rw [List.mem_singleton] at hr
            subst hr
            exact ⟨dl, fun x hx => by have := da x hx; omega⟩
    · rintro σ' H' ⟨l9, l10, l11, l12, ls, lt, rows, anss, rfl, D, lr, la, ar, aa⟩
      have lr' : rows.length = n := by omega
      have la' : anss.length = n := by omega
      refine eu_tupL (ev_var rfl) (sq_of D.hs) _ (Ex.refl _) _ fun q1 H7 hq1 e7 h7 => ?_
      refine eu_tupL (ev_var rfl) (sq_of (e7 _ _ D.ht)) _ (Ex.refl _) _ fun q2 H8 hq2 e8 h8 => ⟨by show 2 ≤ sizeLine; decide, fun q3 hq3 => ?_⟩
      have e9 : Ex H8 (upd H8 q3 (.tup [.ref q1, .ref q2])) := Ex.new hq3
      have e79 := (e7.trans e8).trans e9
      have D9 := D.ex nsa nta nba e79
      have hk0 : (⟨rows, anss⟩ : M1.Mach).k = m := by
        show (rows.getD 0 []).length = m
        have g0 : rows[0]? = some (rows.getD 0 []) := M1.getD_at (by omega)
        exact (ar _ (List.mem_of_getElem? g0)).1
      refine k _ ⟨rows, anss⟩ _ ⟨by show 1 ≤ rows.length; omega, by show rows.length ≤ 6; omega, by rw [hk0]; omega, by rw [hk0]; omega, by show anss.length = rows.length; omega, fun r hr => ?_, fun r hr => ?_⟩ (by show rows.length ≤ s; omega) (by rw [hk0]; omega)
        ⟨q3, .ref q1, .ref q2, rfl, SqT.of upd_same, ⟨q1, ls, rfl, SqT.of ((e8.trans e9) _ _ h7), D9.ps_⟩, ⟨q2, lt, rfl, SqT.of (e9 _ _ h8), D9.pt_⟩⟩ D9.x D9.r
      · rw [hk0]
        refine ⟨(ar r hr).1, fun x hx => ?_⟩
        have := (ar r hr).2 x hx
        show x < rows.length
        omega
      · rw [hk0]
        exact aa r hr
end

end Kx
namespace Kx
open PySem PySem.Spec PyProof.Rows L2

open Evl
section
variable {P : Program} {w : World} {K : PySem.W.Frag} {mg : Str → Option Value} {base : Heap}
/-! ### data in the heap, kept -/
mutual
theorem dp_ex {H H' : Hp} (e : Ex H H') : ∀ (d : PyData) (v : V), Dp K H v d → Dp K H' v d
  | .none, _, h => by cases h; exact .non
  | .bool b, _, h => by cases h; exact .bl b
  | .int i, _, h => by cases h; exact .int i
  | .str x, _, h => by cases h; exact .str x
  | .list ds, _, h => by
    cases h with
    | lst h1 h2 => exact .lst (ex_l e h1) (dps_ex e ds _ h2)
  | .tuple ds, _, h => by
    cases h with
    | tup h1 h2 => exact .tup (ex_t e h1) (dps_ex e ds _ h2)
  | .dict _, _, h => by cases h
theorem dps_ex {H H' : Hp} (e : Ex H H') : ∀ (ds : List PyData) (vs : List V), DpAll K H vs ds → DpAll K H' vs ds
  | [], _, h => by cases h; exact .nil
  | d :: ds, _, h => by
    cases h with
    | cons h1 h2 => exact .cons (dp_ex e d _ h1) (dps_ex e ds _ h2)
end
theorem dps_len {H : Hp} : ∀ {ds : List PyData} {vs : List V}, DpAll K H vs ds → vs.length = ds.length
  | [], _, h => by cases h; rfl
  | _ :: ds, _, h => by
    cases h with
    | cons _ h2 => rw [List.length_cons, List.length_cons, dps_len h2]
theorem dps_get {H : Hp} : ∀ {ds : List PyData} {vs : List V} {i : Nat}, DpAll K H vs ds → i < ds.length → ∃ v d, vs[i]? = some v ∧ ds[i]? = some d ∧ Dp K H v d
  | [], _, _, _, hi => by simp at hi
  | d :: ds, _, i, h, hi => by
    cases h with
    | cons h1 h2 =>
      cases i with
      | zero => exact ⟨_, _, rfl, rfl, h1⟩
      | succ i =>
        obtain ⟨v, d', a, b, c⟩ := dps_get (i := i) h2 (by simpa using hi)
        exact ⟨v, d', by simpa using a, by simpa using b, c⟩
/-- data of a bounded depth -/
def Fine : Nat → PyData → Prop
  | _, .none | _, .bool _ | _, .int _ | _, .str _ => True
  | _, .dict _ => False
  | 0, .list _ | 0, .tuple _ => False
  | d + 1, .list xs | d + 1, .tuple xs => xs.length ≤ 40000 ∧ ∀ x ∈ xs, Fine d x
def sp_la (K : PySem.W.Frag) (n : Nat) : Sp := fun vs H Q _ => ∃ (x y : V) (d : PyData), vs = [x, y] ∧ Dp K H x d ∧ Dp K H y d ∧ Fine n d ∧ ∀ H2, Ex H H2 → Q (.bl true) H2
theorem kit_tl {T : String} {b1 b2 : Bool} (h1 : kitB T "tuple" = some b1) (h2 : kitB T "list" = some b2) : PySem.W.kitAny K (.type T) [.type "tuple", .type "list"] = some (b1 || b2) :=
  kitAny_cons (kit_ty h1) (fun e => by subst e; exact kitAny_cons (kit_ty h2) (fun e => by subst e; exact kitAny_nil) fun e => by subst e; rfl) fun e => by subst e; rfl
theorem ev_tl {ta : TE} {σ : L2.St} {H : Hp} {x : V} {T : String} {b1 b2 : Bool} (ha : Ev ta σ H x) (hy : ∀ H1, Ex H H1 → TyX K H1 x (.type T)) (h1 : kitB T "tuple" = some b1) (h2 : kitB T "list" = some b2) :
    Ev (tCB (rIsiT K) (tCons ta (tCons (tTup (tCons (tC (.ty "tuple")) (tCons (tC (.ty "list")) tNil))) tNil))) σ H (.bl (b1 || b2)) := fun H1 e Q q =>
  ha H1 e _ fun H2 e2 => ⟨by show 2 ≤ sizeLine; decide, fun p hp => ⟨x, p, _, _, _, _, rfl, upd_same, .cons (.ty _) (.cons (.ty _) .nil), hy _ ((e.trans e2).trans (Ex.new hp)), kit_tl h1 h2, q _ (e2.trans (Ex.new hp))⟩⟩
theorem ev_lenS {ta : TE} {σ : L2.St} {H : Hp} {p : Addr} {xs : List V} (ha : Ev ta σ H (.ref p)) (h : SqL K H p xs ∨ SqT K H p xs) : Ev (tCB (rLenS K) (tCons ta tNil)) σ H (.int (xs.length : Int)) := by
  rcases h with h | h
  · exact ev_len ha h
  · exact ev_lenT ha h
theorem rv_ixA {H : Hp} {p : Addr} {xs : List V} {i : Int} {v : V} (h : SqL K H p xs ∨ SqT K H p xs) (ha : atI xs i = some v) : RV (rIx K) (.ref p) (.int i) H v := fun H1 e Q q => by
  rcases h with h | h
  · exact .inl (rv_ixL h ha H1 e Q q)
  · exact .inr (.inl (rv_ixT h ha H1 e Q q))
theorem given_none {n : Nat} {v : Nat → V} : given n (fun _ => false) v = rowV [] := by
  unfold given
  rw [List.filter_eq_nil_iff.mpr (fun _ _ => by decide)]
  rfl
theorem alike_all (T : Txt K mg) {f : Addr} {fd : FuncData} (F : Fun K "_law_alike" "_law_alike" s_law_alike f fd) (g : mg "_law_alike" = some (.ref f)) (B : Binds K fd ["found", "due"] []) : ∀ n, Has P w K mg base "_law_alike" (n + 1) ["found", "due"] (sp_la K n) := by
  -- the scalars
  have tyI : ∀ (H : Hp) (i : Int), TyX K H (.int i) (.type "int") := fun _ _ => .base (.int _)
  have tyB : ∀ (H : Hp) (b : Bool), TyX K H (.bl b) (.type "bool") := fun _ _ => .base (.bl _)
  have tyN : ∀ (H : Hp), TyX K H .non (.type "NoneType") := fun _ => .base .non
  have tyS : ∀ (H : Hp) (z : Str), TyX K H (.str z) (.type "str") := fun _ _ => .base (.str _)
  have tail : ∀ (x : V) (d : PyData) (H : Hp) (Q : VK) (X : TS), (d = .none ∨ (∃ b, d = .bool b) ∨ (∃ i, d = .int i) ∨ ∃ z, d = .str z) → Dp K H x d → (∀ H2, Ex H H2 → Q (.bl true) H2) →
      tSeq (tIfS (tB (tCB (rIsiT K) (tCons (tVar 1) (tCons (tTup (tCons (tC (.ty "tuple")) (tCons (tC (.ty "list")) tNil))) tNil)))) X tNext)
        (tSeq (tIfS (tOr (tTest (tOp (fun x y H Q => y = .non ∧ Q (.bl (decide (x = .non))) H) (tVar 1) (tC .non))) (tB (tCB (rIsi K) (tCons (tVar 1) (tCons (tC (.ty "str")) tNil))))) (tRet (tAndV (tOp rEq (tVar 0) (tVar 1)) (tOp rEq (tCB (rIsi K) (tCons (tVar 0) (tCons (tC (.ty "str")) tNil))) (tCB (rIsi K) (tCons (tVar 1) (tCons (tC (.ty "str")) tNil)))))) tNext)
          (tRet (tAndV (tCB (rIsi K) (tCons (tVar 0) (tCons (tC (.ty "int")) tNil))) (tAndV (tOp rEq (tCB (rIsi K) (tCons (tVar 0) (tCons (tC (.ty "bool")) tNil))) (tCB (rIsi K) (tCons (tVar 1) (tCons (tC (.ty "bool")) tNil)))) (tOp rEq (tVar 0) (tVar 1))))))
        { nx := fun _ H' => Q .non H', rt := Q } [some x, some x, none] H := by
    intro x d H Q X hd hx q
    have isn : ∀ H1, Ev (tOp (fun x y H Q => y = .non ∧ Q (.bl (decide (x = .non))) H) (tVar 1) (tC .non)) [some x, some x, none] H1 (.bl (decide (x = .non))) := fun H1 => ev_op (ev_var rfl) ev_c fun H2 _ Q q => ⟨rfl, q H2 (Ex.refl H2)⟩
    rcases hd with rfl | ⟨b, rfl⟩ | ⟨i, rfl⟩ | ⟨z, rfl⟩
    · cases hx
      refine q_when (b := false) (et_B (ev_tl (T := "NoneType") (b1 := false) (b2 := false) (ev_var rfl) (fun _ _ => tyN _) (by decide +kernel) (by decide +kernel))) (fun z => by cases z) fun _ H1 e1 => ?_
      refine q_when (b := true) (et_is (et_or (b := true) (et_test (isn H1)) fun h => by cases h) rfl) (fun _ H2 e2 => ?_) (fun z => by cases z)
      exact s_ret (ev_is (ev_andV (a := true) (ev_is (ev_op (ev_var rfl) (ev_var rfl) (rv_eq rfl)) rfl) fun _ => ev_op (ev_isi (T := "NoneType") (b := false) (ev_var rfl) (fun _ _ => tyN _) (by decide +kernel)) (ev_isi (T := "NoneType") (b := false) (ev_var rfl) (fun _ _ => tyN _) (by decide +kernel)) (rv_eq rfl)) rfl) fun H3 e3 => q H3 ((e1.trans e2).trans e3)
    · cases hx
      refine q_when (b := false) (et_B (ev_tl (T := "bool") (b1 := false) (b2 := false) (ev_var rfl) (fun _ _ => tyB _ _) (by decide +kernel) (by decide +kernel))) (fun z => by cases z) fun _ H1 e1 => ?_
      refine q_when (b := false) (et_or (a := false) (b := false) (et_test (isn H1)) fun _ => et_B (ev_isi (T := "bool") (ev_var rfl) (fun _ _ => tyB _ _) (by decide +kernel))) (fun z => by cases z) fun _ H2 e2 => ?_
      exact s_ret (ev_is (ev_andV (a := true) (ev_isi (T := "bool") (ev_var rfl) (fun _ _ => tyB _ _) (by decide +kernel)) fun _ => ev_andV (ev_op (ev_isi (T := "bool") (b := true) (ev_var rfl) (fun _ _ => tyB _ _) (by decide +kernel)) (ev_isi (T := "bool") (b := true) (ev_var rfl) (fun _ _ => tyB _ _) (by decide +kernel)) (rv_eq rfl)) fun _ => ev_op (ev_var rfl) (ev_var rfl) (rv_eq rfl)) (by cases b <;> rfl)) fun H3 e3 => q H3 ((e1.trans e2).trans e3)
    · cases hx
      refine q_when (b := false) (et_B (ev_tl (T := "int") (b1 := false) (b2 := false) (ev_var rfl) (fun _ _ => tyI _ _) (by decide +kernel) (by decide +kernel))) (fun z => by cases z) fun _ H1 e1 => ?_
      refine q_when (b := false) (et_or (a := false) (b := false) (et_test (isn H1)) fun _ => et_B (ev_isi (T := "int") (ev_var rfl) (fun _ _ => tyI _ _) (by decide +kernel))) (fun z => by cases z) fun _ H2 e2 => ?_
      exact s_ret (ev_is (ev_andV (a := true) (ev_isi (T := "int") (ev_var rfl) (fun _ _ => tyI _ _) (by decide +kernel)) fun _ => ev_andV (ev_op (ev_isi (T := "int") (b := false) (ev_var rfl) (fun _ _ => tyI _ _) (by decide +kernel)) (ev_isi (T := "int") (b := false) (ev_var rfl) (fun _ _ => tyI _ _) (by decide +kernel)) (rv_eq rfl)) fun _ => ev_op (ev_var rfl) (ev_var rfl) (rv_eq rfl)) (by rw [decide_eq_true (rfl : V.int i = V.int i)]; rfl)) fun H3 e3 => q H3 ((e1.trans e2).trans e3)
    · cases hx
      refine q_when (b := false) (et_B (ev_tl (T := "str") (b1 := false) (b2 := false) (ev_var rfl) (fun _ _ => tyS _ _) (by decide +kernel) (by decide +kernel))) (fun z => by cases z) fun _ H1 e1 => ?_
      refine q_when (b := true) (et_is (et_or (a := false) (b := true) (et_test (isn H1)) fun _ => et_B (ev_isi (T := "str") (ev_var rfl) (fun _ _ => tyS _ _) (by decide +kernel))) rfl) (fun _ H2 e2 => ?_) (fun z => by cases z)
      exact s_ret (ev_is (ev_andV (ev_op (ev_var rfl) (ev_var rfl) (rv_eq rfl)) fun _ => ev_op (ev_isi (T := "str") (b := true) (ev_var rfl) (fun _ _ => tyS _ _) (by decide +kernel)) (ev_isi (T := "str") (b := true) (ev_var rfl) (fun _ _ => tyS _ _) (by decide +kernel)) (rv_eq rfl)) (by rw [decide_eq_true (rfl : V.str z = V.str z)]; rfl)) fun H3 e3 => q H3 ((e1.trans e2).trans e3)
  have same : ∀ (x y : V) (d : PyData) (H : Hp), (d = .none ∨ (∃ b, d = .bool b) ∨ (∃ i, d = .int i) ∨ ∃ z, d = .str z) → Dp K H x d → Dp K H y d → y = x := by
    intro x y d H hd hx hy
    rcases hd with rfl | ⟨b, rfl⟩ | ⟨i, rfl⟩ | ⟨z, rfl⟩ <;> (cases hx; cases hy; rfl)
  intro n
  induction n with
  | zero =>
    refine Has.mk' g F.kp B (F.ok sc_law_alike (fun vs H Q E h => ?_) (fun cdv A outer s H vs Q E hr h => ?_))
    · obtain ⟨x, y, d, rfl, _⟩ := h
      rfl
    · obtain ⟨x, y, d, rfl, hx, hy, hf, q⟩ := h
      have hd : d = .none ∨ (∃ b, d = .bool b) ∨ (∃ i, d = .int i) ∨ ∃ z, d = .str z := by
        cases d with
        | none => exact .inl rfl
        | bool b => exact .inr (.inl ⟨b, rfl⟩)
        | int i => exact .inr (.inr (.inl ⟨i, rfl⟩))
        | str z => exact .inr (.inr (.inr ⟨z, rfl⟩))
        | list xs => simp [Fine] at hf
        | tuple xs => simp [Fine] at hf
        | dict xs => simp [Fine] at hf
      have exy := same x y d H hd hx hy
      subst exy
      refine ⟨_, (pss_cons (ps_if (pt_val (pe_callB (call_isiTu (K := K) rfl) (by rfl) T.b_isinstance bt_isinstance (pa_cons (pv 1) (pa_cons (pe_tup (pa_cons (pe_bltn (v := .ty "tuple") (by rfl) T.b_tuple bt_tuple rfl) (pa_cons (pe_bltn (v := .ty "list") (by rfl) T.b_list bt_list rfl) pa_nil))) pa_nil))))
      pss_never
      pss_nil)
      (pss_cons (ps_if (PW.pt (pw_or (pt_cmpR op_isN (pv 1) pe_non (nomark _)) (pw_or1 (pt_val (pe_callB (call_isi1 (K := K) rfl) (by rfl) T.b_isinstance bt_isinstance (pa_cons (pv 1) (pa_cons (pe_bltn (v := .ty "str") (by rfl) T.b_str bt_str rfl) pa_nil)))))))
      (pss_one (ps_ret (pe_and (pe_cmpR op_eq (pv 0) (pv 1) (nomark _)) (pe_one (pe_cmpR op_eq (pe_callB (call_isi1 (K := K) rfl) (by rfl) T.b_isinstance bt_isinstance (pa_cons (pv 0) (pa_cons (pe_bltn (v := .ty "str") (by rfl) T.b_str bt_str rfl) pa_nil))) (pe_callB (call_isi1 (K := K) rfl) (by rfl) T.b_isinstance bt_isinstance (pa_cons (pv 1) (pa_cons (pe_bltn (v := .ty "str") (by rfl) T.b_str bt_str rfl) pa_nil))) (nomark _))))))
      pss_nil)
      (pss_one (ps_ret (pe_and (pe_callB (call_isi1 (K := K) rfl) (by rfl) T.b_isinstance bt_isinstance (pa_cons (pv 0) (pa_cons (pe_bltn (v := .ty "int") (by rfl) T.b_int bt_int rfl) pa_nil))) (pe_and (pe_cmpR op_eq (pe_callB (call_isi1 (K := K) rfl) (by rfl) T.b_isinstance bt_isinstance (pa_cons (pv 0) (pa_cons (pe_bltn (v := .ty "bool") (by rfl) T.b_bool bt_bool rfl) pa_nil))) (pe_callB (call_isi1 (K := K) rfl) (by rfl) T.b_isinstance bt_isinstance (pa_cons (pv 1) (pa_cons (pe_bltn (v := .ty "bool") (by rfl) T.b_bool bt_bool rfl) pa_nil))) (nomark _)) (pe_one (pe_cmpR op_eq (pv 0) (pv 1) (nomark _))))))))), ?_⟩
      exact tail y d H Q _ hd hx q
  | succ n ih =>
    have h_law_alike := ih
    refine Has.mk' g F.kp B (F.ok sc_law_alike (fun vs H Q E h => ?_) (fun cdv A outer s H vs Q E hr h => ?_))
    · obtain ⟨x, y, d, rfl, _⟩ := h
      rfl
    · obtain ⟨x, y, d, rfl, hx, hy, hf, q⟩ := h
      refine ⟨_, (pss_cons (ps_if (pt_val (pe_callB (call_isiTu (K := K) rfl) (by rfl) T.b_isinstance bt_isinstance (pa_cons (pv 1) (pa_cons (pe_tup (pa_cons (pe_bltn (v := .ty "tuple") (by rfl) T.b_tuple bt_tuple rfl) (pa_cons (pe_bltn (v := .ty "list") (by rfl) T.b_list bt_list rfl) pa_nil))) pa_nil))))
      (pss_cons (ps_if (PW.pt (pw_or (pt_not (pt_val (pe_callB (call_isiTu (K := K) rfl) (by rfl) T.b_isinstance bt_isinstance (pa_cons (pv 0) (pa_cons (pe_tup (pa_cons (pe_bltn (v := .ty "tuple") (by rfl) T.b_tuple bt_tuple rfl) (pa_cons (pe_bltn (v := .ty "list") (by rfl) T.b_list bt_list rfl) pa_nil))) pa_nil))))) (pw_or1 (pt_cmpR op_ne (pe_callB (call_isi1 (K := K) rfl) (by rfl) T.b_isinstance bt_isinstance (pa_cons (pv 0) (pa_cons (pe_bltn (v := .ty "list") (by rfl) T.b_list bt_list rfl) pa_nil))) (pe_callB (call_isi1 (K := K) rfl) (by rfl) T.b_isinstance bt_isinstance (pa_cons (pv 1) (pa_cons (pe_bltn (v := .ty "list") (by rfl) T.b_list bt_list rfl) pa_nil))) (nomark _)))))
      (pss_one (ps_ret pe_bl))
      pss_nil)
      (pss_cons (ps_if (pt_cmpR op_ne (pe_callB (call_lenK (K := K) rfl) (by rfl) T.b_len bt_len (pa_cons (pv 0) pa_nil)) (pe_callB (call_lenK (K := K) rfl) (by rfl) T.b_len bt_len (pa_cons (pv 1) pa_nil)) (nomark _))
      (pss_one (ps_ret pe_bl))
      pss_nil)
      (pss_one (ps_ret (pe_cmpR (op_eqDK (K := K) rfl hr.units) (pe_lc (own := [("k", 2)]) (g := gName 2) (by rfl) sc_law_alike.nd (pi_range1 (by rfl) T.b_range (pa_cons (pe_callB (call_lenK (K := K) rfl) (by rfl) T.b_len bt_len (pa_cons (pv 1) pa_nil)) pa_nil)) (blkOk_by (N := N_law_alike) (sc := defScope s_law_alike) (by decide +kernel)) (fun _ _ _ _ _ => pg_name (i := 2) sc_law_alike.nd rfl (Or.inl rfl)) (fun _ _ _ _ _ => pts_one (pt_not (pt_val (pe_has h_law_alike (hr.mono (by first | decide | exact Nat.le_refl _)) (by rfl) (pa_cons (pe_ix (ix_seqK (K := K) rfl) (pv 0) (pv 2) (fun _ _ => rfl)) (pa_cons (pe_ix (ix_seqK (K := K) rfl) (pv 1) (pv 2) (fun _ _ => rfl)) pa_nil)))))) (fun _ _ _ _ _ => (pv 2))) (pe_lst pa_nil) (nomark _))))))
      pss_nil)
      (pss_cons (ps_if (PW.pt (pw_or (pt_cmpR op_isN (pv 1) pe_non (nomark _)) (pw_or1 (pt_val (pe_callB (call_isi1 (K := K) rfl) (by rfl) T.b_isinstance bt_isinstance (pa_cons (pv 1) (pa_cons (pe_bltn (v := .ty "str") (by rfl) T.b_str bt_str rfl) pa_nil)))))))
      (pss_one (ps_ret (pe_and (pe_cmpR op_eq (pv 0) (pv 1) (nomark _)) (pe_one (pe_cmpR op_eq (pe_callB (call_isi1 (K := K) rfl) (by rfl) T.b_isinstance bt_isinstance (pa_cons (pv 0) (pa_cons (pe_bltn (v := .ty "str") (by rfl) T.b_str bt_str rfl) pa_nil))) (pe_callB (call_isi1 (K := K) rfl) (by rfl) T.b_isinstance bt_isinstance (pa_cons (pv 1) (pa_cons (pe_bltn (v := .ty "str") (by rfl) T.b_str bt_str rfl) pa_nil))) (nomark _))))))
      pss_nil)
      (pss_one (ps_ret (pe_and (pe_callB (call_isi1 (K := K) rfl) (by rfl) T.b_isinstance bt_isinstance (pa_cons (pv 0) (pa_cons (pe_bltn (v := .ty "int") (by rfl) T.b_int bt_int rfl) pa_nil))) (pe_and (pe_cmpR op_eq (pe_callB (call_isi1 (K := K) rfl) (by rfl) T.b_isinstance bt_isinstance (pa_cons (pv 0) (pa_cons (pe_bltn (v := .ty "bool") (by rfl) T.b_bool bt_bool rfl) pa_nil))) (pe_callB (call_isi1 (K := K) rfl) (by rfl) T.b_isinstance bt_isinstance (pa_cons (pv 1) (pa_cons (pe_bltn (v := .ty "bool") (by rfl) T.b_bool bt_bool rfl) pa_nil))) (nomark _)) (pe_one (pe_cmpR op_eq (pv 0) (pv 1) (nomark _))))))))), ?_⟩
      have seq : ∀ (H : Hp) (D : Ends) (p r : Addr) (xs ys : List V) (ds : List PyData) (T : String), x = .ref p → y = .ref r → (SqL K H p xs ∨ SqT K H p xs) → (SqL K H r ys ∨ SqT K H r ys) → DpAll K H xs ds → DpAll K H ys ds → (∀ H1, Ex H H1 → TyX K H1 (.ref p) (.type T)) → (∀ H1, Ex H H1 → TyX K H1 (.ref r) (.type T)) → (T = "list" ∨ T = "tuple") → ds.length ≤ 40000 → (∀ d ∈ ds, Fine n d) → (∀ H2, Ex H H2 → D.rt (.bl true) H2) →
          tSeq (tIfS (tOr (tNot (tB (tCB (rIsiT K) (tCons (tVar 0) (tCons (tTup (tCons (tC (.ty "tuple")) (tCons (tC (.ty "list")) tNil))) tNil))))) (tTest (tOp rNe (tCB (rIsi K) (tCons (tVar 0) (tCons (tC (.ty "list")) tNil))) (tCB (rIsi K) (tCons (tVar 1) (tCons (tC (.ty "list")) tNil)))))) (tRet (tC (.bl false))) tNext)
            (tSeq (tIfS (tTest (tOp rNe (tCB (rLenS K) (tCons (tVar 0) tNil)) (tCB (rLenS K) (tCons (tVar 1) tNil)))) (tRet (tC (.bl false))) tNext)
              (tRet (tOp (rEqD K) (tLc (iRng1 (tCons (tCB (rLenS K) (tCons (tVar 1) tNil)) tNil)) (gName 2) (tNot (tB (tCall (sp_la K n) [] E0 (tCons (tOp (rIx K) (tVar 0) (tVar 2)) (tCons (tOp (rIx K) (tVar 1) (tVar 2)) tNil))))) (tVar 2) [2]) (tLst tNil))))
            D [some x, some y, none] H := by
        intro H D p r xs ys ds T ex ey hp hr' dx dy tp tr hT hl hF q
        subst ex ey
        have lx := dps_len dx
        have ly := dps_len dy
        have tl : ∃ b1 b2 : Bool, kitB T "tuple" = some b1 ∧ kitB T "list" = some b2 ∧ (b1 || b2) = true := by
          rcases hT with rfl | rfl
          · exact ⟨false, true, by decide +kernel, by decide +kernel, rfl⟩
          · exact ⟨true, false, by decide +kernel, by decide +kernel, rfl⟩
        obtain ⟨b1, b2, k1, k2, kk⟩ := tl
        have keep : ∀ {a : Addr} {zs : List V} {H1 : Hp}, Ex H H1 → (SqL K H a zs ∨ SqT K H a zs) → (SqL K H1 a zs ∨ SqT K H1 a zs) := fun e h => by
          rcases h with h | h
          · exact .inl (ex_l e h)
          · exact .inr (ex_t e h)
        refine q_when (b := false) (et_is (et_or (a := false) (b := false) (et_is (et_not (et_B (ev_tl (ev_var rfl) tp k1 k2))) (by rw [kk]; rfl)) fun _ => et_test (ev_is (ev_op (ev_isi (ev_var rfl) tp k2) (ev_isi (ev_var rfl) tr k2) (rv_ne rfl)) (by cases b2 <;> rfl))) rfl) (fun z => by cases z) fun _ H1 e1 => ?_
        refine q_when (b := false) (et_test (ev_is (ev_op (ev_lenS (ev_var rfl) (keep e1 hp)) (ev_lenS (ev_var rfl) (keep e1 hr')) (rv_ne rfl)) (by rw [lx, ly, decide_eq_true (rfl : V.int (ds.length : Int) = V.int (ds.length : Int))]; rfl))) (fun z => by cases z) fun _ H2 e2 => ?_
        have e12 := e1.trans e2
        refine s_ret (ev_is (ev_opLL (xs := rowV []) (ys := rowV []) (fun H3 e3 Q q => ?_) (el_lst ea_nil (by decide)) fun p q H3 hp hq e3 => rv_eqRows (sq_of hp) (sq_of hq)) rfl) fun H3 e3 => q H3 (e12.trans e3)
        have big := el_lcR1 (σ := [some (V.ref p), some (V.ref r), none]) (H := H2) (ta := tCons (tCB (rLenS K) (tCons (tVar 1) tNil)) tNil) (t := tNot (tB (tCall (sp_la K n) [] E0 (tCons (tOp (rIx K) (tVar 0) (tVar 2)) (tCons (tOp (rIx K) (tVar 1) (tVar 2)) tNil))))) (te := tVar 2) (j := 2) (vs := [2]) (n := (ys.length : Int)) (fun _ => false) (fun _ => .non) (ea_cons (ev_lenS (ev_var rfl) (keep e12 hr')) ea_nil) ⟨by omega, by omega⟩ (fun _ => rfl)
          (fun i H4 e4 hi => ?_) (fun _ _ _ _ h => by cases h)
        · rw [given_none] at big
          exact big H3 e3 Q q
        · have hi' : i < ds.length := by omega
          obtain ⟨v1, d1, g1, gd1, hd1⟩ := dps_get dx hi'
          obtain ⟨v2, d2, g2, gd2, hd2⟩ := dps_get dy hi'
          have ed : d2 = d1 := by rw [gd1] at gd2; exact (Option.some.inj gd2).symm
          subst ed
          have e5 := e12.trans e4
          exact et_is (et_not (a := true) (et_B (ev_callV (ea_cons (ev_op (ev_var rfl) (ev_var rfl) (rv_ixA (keep e5 hp) (atI_nat g1))) (ea_cons (ev_op (ev_var rfl) (ev_var rfl) (rv_ixA (keep e5 hr') (atI_nat g2))) ea_nil)) fun H6 e6 Q q => ⟨v1, v2, d2, rfl, dp_ex (e5.trans e6) _ _ hd1, dp_ex (e5.trans e6) _ _ hd2, hF _ (List.mem_of_getElem? gd1), q⟩))) rfl
      cases d with
      | list ds =>
        cases hx with
        | lst hx1 hx2 =>
          cases hy with
          | lst hy1 hy2 =>
            exact q_when (b := true) (et_B (ev_tl (T := "list") (b1 := false) (b2 := true) (ev_var rfl) (fun _ e => sqL_ty (ex_l e hy1)) (by decide +kernel) (by decide +kernel))) (fun _ H1 e1 => seq H1 _ _ _ _ _ ds "list" rfl rfl (.inl (ex_l e1 hx1)) (.inl (ex_l e1 hy1)) (dps_ex e1 _ _ hx2) (dps_ex e1 _ _ hy2)
              (fun H2 e2 => sqL_ty (ex_l (e1.trans e2) hx1)) (fun H2 e2 => sqL_ty (ex_l (e1.trans e2) hy1)) (.inl rfl) hf.1 hf.2 fun H2 e2 => q H2 (e1.trans e2)) (fun z => by cases z)
      | tuple ds =>
        cases hx with
        | tup hx1 hx2 =>
          cases hy with
          | tup hy1 hy2 =>
            exact q_when (b := true) (et_B (ev_tl (T := "tuple") (b1 := true) (b2 := false) (ev_var rfl) (fun _ e => sqT_ty (ex_t e hy1)) (by decide +kernel) (by decide +kernel))) (fun _ H1 e1 => seq H1 _ _ _ _ _ ds "tuple" rfl rfl (.inr (ex_t e1 hx1)) (.inr (ex_t e1 hy1)) (dps_ex e1 _ _ hx2) (dps_ex e1 _ _ hy2)
              (fun H2 e2 => sqT_ty (ex_t (e1.trans e2) hx1)) (fun H2 e2 => sqT_ty (ex_t (e1.trans e2) hy1)) (.inr rfl) hf.1 hf.2 fun H2 e2 => q H2 (e1.trans e2)) (fun z => by cases z)
      | none =>
        have e := same x y _ H (.inl rfl) hx hy
        subst e
        exact tail _ _ H Q _ (.inl rfl) hx q
      | bool b =>
        have e := same x y _ H (.inr (.inl ⟨b, rfl⟩)) hx hy
        subst e
        exact tail _ _ H Q _ (.inr (.inl ⟨b, rfl⟩)) hx q
      | int i =>
        have e := same x y _ H (.inr (.inr (.inl ⟨i, rfl⟩))) hx hy
        subst e
        exact tail _ _ H Q _ (.inr (.inr (.inl ⟨i, rfl⟩))) hx q
      | str z =>
        have e := same x y _ H (.inr (.inr (.inr ⟨z, rfl⟩))) hx hy
        subst e
        exact tail _ _ H Q _ (.inr (.inr (.inr ⟨z, rfl⟩))) hx q
      | dict ds => simp [Fine] at hf
end

end Kx
namespace Kx
open PySem PySem.Spec PyProof.Rows L2

open Evl
section
variable {P : Program} {w : World} {K : PySem.W.Frag} {mg : Str → Option Value} {base : Heap}
theorem has_law_alike (T : Txt K mg) {f : Addr} {fd : FuncData} (F : Fun K "_law_alike" "_law_alike" s_law_alike f fd) (g : mg "_law_alike" = some (.ref f)) (B : Binds K fd ["found", "due"] []) : Has P w K mg base "_law_alike" 4 ["found", "due"] (sp_la K 3) := alike_all T F g B 3
/-! ### data -/
def rowP (r : List Nat) : PyData := .tuple (rowD r)
def macP (M : M1.Mach) : PyData := .tuple [.tuple (M.st.map rowP), .tuple (M.an.map rowP)]
theorem dp_tab {H : Hp} : ∀ {vx : List V} {t : List (List Nat)}, Paired (RowAt K H) vx t → DpAll K H vx (t.map rowP)
  | _, _, .nil => .nil
  | _, _, .cons ⟨a, e, hS⟩ t => .cons (by rw [e]; exact .tup hS (dp_row _)) (dp_tab t)
theorem dp_mac {H : Hp} {v : V} {M : M1.Mach} (h : MacAt K H v M.st M.an) : Dp K H v (macP M) := by
  obtain ⟨a, x, y, rfl, hS, ⟨ax, vx, rfl, hSx, hPx⟩, ⟨ay, vy, rfl, hSy, hPy⟩⟩ := h
  exact .tup hS (.cons (.tup hSx (dp_tab hPx)) (.cons (.tup hSy (dp_tab hPy)) .nil))
theorem fine_int (n : Nat) (i : Int) : Fine n (.int i) := by cases n <;> trivial
theorem fine_row {n : Nat} {r : List Nat} (h : r.length ≤ 40000) : Fine (n + 1) (rowP r) := by
  refine ⟨by unfold rowD; rw [List.length_map]; exact h, fun x hx => ?_⟩
  obtain ⟨i, _, rfl⟩ := List.mem_map.mp hx
  exact fine_int n _
theorem fine_tab {n : Nat} {t : List (List Nat)} (h : t.length ≤ 40000) (hr : ∀ r ∈ t, r.length ≤ 40000) : Fine (n + 2) (.tuple (t.map rowP)) := by
  refine ⟨by rw [List.length_map]; exact h, fun x hx => ?_⟩
  obtain ⟨r, hm, rfl⟩ := List.mem_map.mp hx
  exact fine_row (hr r hm)
theorem fine_mac {M : M1.Mach} (h1 : M.st.length ≤ 40000) (h2 : M.an.length ≤ 40000) (h3 : ∀ r ∈ M.st, r.length ≤ 40000) (h4 : ∀ r ∈ M.an, r.length ≤ 40000) : Fine 3 (macP M) := by
  refine ⟨by show 2 ≤ 40000; decide, fun x hx => ?_⟩
  rcases List.mem_cons.mp hx with e | hx
  · subst e
    exact fine_tab (n := 0) h1 h3
  · rcases List.mem_cons.mp hx with e | hx
    · subst e
      exact fine_tab (n := 0) h2 h4
    · simp at hx
/-! ### lists that a comprehension gives -/
theorem given_map {o : List Nat} {f : Nat → Bool} : given o.length f (fun i => nV (o.getD i 0)) = rowV (((List.range o.length).filter f).map fun i => o.getD i 0) := by
  unfold given rowV
  rw [List.map_map]
  rfl
theorem none_iff {o : List Nat} {p : Nat → Bool} : (((List.range o.length).filter fun i => p (o.getD i 0)).map fun i => o.getD i 0) = [] ↔ o.any p = false := by
  rw [List.map_eq_nil_iff, List.filter_eq_nil_iff]
  constructor
  · intro h
    rw [List.any_eq_false]
    intro x hx
    obtain ⟨i, hi, e⟩ := List.getElem_of_mem hx
    have q := h i (List.mem_range.mpr hi)
    rw [M1.getD_of (List.getElem?_eq_getElem hi), e] at q
    exact q
  · intro h i hi
    have hi' := List.mem_range.mp hi
    rw [List.any_eq_false] at h
    rw [M1.getD_of (List.getElem?_eq_getElem hi')]
    exact h _ (List.getElem_mem hi')
theorem first_of {o : List Nat} {p : Nat → Bool} (h : ∃ x ∈ o, p x = true) : ((List.range o.length).filter fun i => p (o.getD i 0))[0]? = some (o.findIdx p) := by
  have hl := List.findIdx_lt_length_of_exists h
  rw [← List.head?_eq_getElem?, List.head?_filter, List.find?_range_eq_some]
  refine ⟨?_, List.mem_range.mpr hl, fun j hj => ?_⟩
  · rw [M1.getD_of (List.getElem?_eq_getElem hl)]
    exact List.findIdx_getElem (w := hl)
  · have hj' : j < o.length := by omega
    rw [M1.getD_of (List.getElem?_eq_getElem hj')]
    have := List.not_of_lt_findIdx hj
    simpa using this
theorem a_drawsX {ta : TA} {te : TE} {σ : L2.St} {H : Hp} {a scr : Addr} {ns : List Int} {j m : Nat} {vs : List Nat} {Q : List V → Hp → Prop} (Pn : Nat → Prop) (h : ∀ R : List V → Hp → Prop, (∀ n H1, n ≤ 1000 → Pn n → ExB a H H1 → RowOk K H1 a scr ns → R [.int (n : Int)] H1) → ta σ H R) (hw : ∀ x, wipe ((wipe σ vs).set j (some x)) vs = wipe σ vs)
    (he : ∀ i : Nat, i < 1000 → EvR K te ((wipe σ vs).set j (some (.int (i : Int)))) H a scr ns m)
    (q : ∀ p l H2, H p = none → p ≠ a → ExB a H H2 → RowOk K H2 a scr ns → H2 p = some (.tup (rowV l)) → Pn l.length → (∀ x ∈ l, x < m) → Q [.ref p] H2) : tCons (tCB (rTupOf K) (tCons (tLc (iRng1 ta) (gName j) tYes te vs) tNil)) tNil σ H Q :=
  er_lcX Pn h hw he (fun x H1 => rTupOf K [x] H1 fun y H2 => Q [y] H2) fun p l H2 hp na x2 R2 h2 _ hl hm => ⟨p, _, rfl, Or.inl ⟨sq_of h2, fun p2 hp2 => by
    have np2 : p2 ≠ a := fun z => by
      subst z
      obtain ⟨xs, hx⟩ := R2.lst
      rw [hx] at hp2
      cases hp2
    exact q p2 l _ (x2.fresh np2 hp2) np2 (x2.trans (ExB.of (Ex.new hp2))) (R2.ex (Ex.new hp2)) upd_same hl hm⟩⟩
theorem tldV_row (M : M1.Mach) (i : Nat) (r : List Nat) : tldV M i r = rowV ((List.range r.length).map (M.tld i r)) := by
  unfold tldV gvn rowV
  rw [List.map_map]
  rfl
theorem ev_alike {σ : L2.St} {H : Hp} {E : XK} {ta tb : TE} {x y : V} {d : PyData} (ha : Ev ta σ H x) (hb : Ev tb σ H y) (h : ∀ H1, Ex H H1 → Dp K H1 x d ∧ Dp K H1 y d) (hf : Fine 3 d) : Ev (tCall (sp_la K 3) [] E (tCons ta (tCons tb tNil))) σ H (.bl true) :=
  ev_callV (ea_cons ha (ea_cons hb ea_nil)) fun H1 e Q q => ⟨x, y, d, rfl, (h H1 e).1, (h H1 e).2, hf, q⟩
def oD (o : Option Nat) : PyData := match o with | some n => .int (n : Int) | none => .none
theorem dp_o {H : Hp} (o : Option Nat) : Dp K H (oV o) (oD o) := by
  cases o with
  | none => exact .non
  | some n => exact .int _
theorem fine_o {k : Nat} (o : Option Nat) : Fine k (oD o) := by
  cases o with
  | none => cases k <;> trivial
  | some n => cases k <;> trivial
theorem fine_b {k : Nat} (b : Bool) : Fine k (.bool b) := by cases k <;> trivial
theorem q_drawsT {ta : TA} {te : TE} {tz : TS} {D : Ends} {σ : L2.St} {H : Hp} {a scr : Addr} {ns : List Int} {i j m : Nat} {vs : List Nat} (Pn : Nat → Prop) (h : ∀ R : List V → Hp → Prop, (∀ n H1, n ≤ 1000 → Pn n → ExB a H H1 → RowOk K H1 a scr ns → R [.int (n : Int)] H1) → ta σ H R) (hw : ∀ x, wipe ((wipe σ vs).set j (some x)) vs = wipe σ vs)
    (he : ∀ i : Nat, i < 1000 → EvR K te ((wipe σ vs).set j (some (.int (i : Int)))) H a scr ns m)
    (q : ∀ p l H2, H p = none → p ≠ a → ExB a H H2 → RowOk K H2 a scr ns → H2 p = some (.tup (rowV l)) → Pn l.length → (∀ x ∈ l, x < m) → tz D (σ.set i (some (.ref p))) H2) : tSeq (tAsg (tCB (rTupOf K) (tCons (tLc (iRng1 ta) (gName j) tYes te vs) tNil)) (gName i)) tz D σ H :=
  er_lcX Pn h hw he (fun x H1 => rTupOf K [x] H1 fun y H2 => gName i y σ H2 (tz D)) fun p l H2 hp na x2 R2 h2 _ hl hm => ⟨p, _, rfl, Or.inl ⟨sq_of h2, fun p2 hp2 => by
    have np2 : p2 ≠ a := fun z => by
      subst z
      obtain ⟨xs, hx⟩ := R2.lst
      rw [hx] at hp2
      cases hp2
    exact q p2 l _ (x2.fresh np2 hp2) np2 (x2.trans (ExB.of (Ex.new hp2))) (R2.ex (Ex.new hp2)) upd_same hl hm⟩⟩
end

end Kx
namespace Kx
open PySem PySem.Spec PyProof.Rows L2

open Evl
section
variable {P : Program} {w : World} {K : PySem.W.Frag} {mg : Str → Option Value} {base : Heap}
theorem ev_late {σ : L2.St} {H : Hp} {E : XK} {ta : TE} {v : V} {M : M1.Mach} {o : Option Nat} (ha : Ev ta σ H v) (hM : MacAt K H v M.st M.an) (ok : M.Ok) (hL : M.LateIs o) : Ev (tCall (sp_late K) [] E (tCons ta tNil)) σ H (oV o) :=
  ev_callV (ea_cons ha ea_nil) fun H1 e Q q => ⟨v, M, rfl, hM.keep (TKp.ex e), ok, fun o' H2 h _ e2 => by
    have := h.only hL
    subst this
    exact q H2 e2⟩
theorem ev_llate {σ : L2.St} {H : Hp} {E : XK} {ta : TE} {v : V} {M : M1.Mach} {o : Option Nat} (ha : Ev ta σ H v) (hM : MacAt K H v M.st M.an) (ok : M.Ok) (hL : M.LateIs o) : Ev (tCall (sp_llate K) [] E (tCons ta tNil)) σ H (oV o) :=
  ev_callV (ea_cons ha ea_nil) fun H1 e Q q => ⟨v, M, rfl, hM.keep (TKp.ex e), ok, fun o' H2 h _ e2 => by
    have := h.only hL
    subst this
    exact q H2 e2⟩
theorem iteNe {x : V} {A B : Prop} (h : B) : if (!decide (x = x)) = true then A else B := by
  rw [decide_eq_true rfl]
  exact h
theorem iteFF {A B : Prop} (h : B) : if false = true then A else B := by
  rw [if_neg Bool.false_ne_true]
  exact h
end

end Kx
namespace Kx
open PySem PySem.Spec PyProof.Rows L2

open Evl
section
variable {P : Program} {w : World} {K : PySem.W.Frag} {mg : Str → Option Value} {base : Heap}
/-! ### the law's own: one of some things, what is needed -/
def sp_pick (K : PySem.W.Frag) : Sp := fun vs H Q _ => ∃ (a scr t : Addr) (ns : List Int) (xs : List Nat), vs = [.ref a, .ref t] ∧ t ≠ a ∧ H t = some (.lst (rowV xs)) ∧ 1 ≤ xs.length ∧ xs.length ≤ 1000 ∧ RowOk K H a scr ns ∧ ∀ (r : Nat) H2, r ∈ xs → ExB a H H2 → RowOk K H2 a scr ns → Q (nV r) H2
def sp_lneeded (K : PySem.W.Frag) : Sp := fun vs H Q _ => ∃ (v : V) (M : M1.Mach) (p r : Nat) (o : Option Nat), vs = [v, .int (p : Int), .int (r : Int)] ∧ MacAt K H v M.st M.an ∧ M.Ok ∧ M.LateIs o ∧ p ≤ 1000 ∧ 1 ≤ r ∧ r ≤ 60 ∧ ∀ H2, Ex H H2 → Q (oV (M1.needed o p r)) H2
theorem has_law_needed (T : Txt K mg) (h_law_late : Has P w K mg base "_law_late" 3 ["machine"] (sp_llate K)) {f : Addr} {fd : FuncData} (F : Fun K "_law_needed" "_law_needed" s_law_needed f fd) (g : mg "_law_needed" = some (.ref f)) (B : Binds K fd ["machine", "pushed", "room"] []) : Has P w K mg base "_law_needed" 4 ["machine", "pushed", "room"] (sp_lneeded K) := by
  refine Has.mk' g F.kp B (F.ok sc_law_needed (fun vs H Q E h => ?_) (fun cdv A outer s H vs Q E hr h => ?_))
  · obtain ⟨v, M, p, r, o, rfl, _⟩ := h
    rfl
  · obtain ⟨v, M, p, r, o, rfl, hM, ok, hL, hp, hr1, hr2, k⟩ := h
    refine ⟨_, (pss_cons (ps_par (i := 3) (j := 4) (by rfl) sc_law_needed.nd rfl rfl (by decide) rfl rfl (pa_cons (pe_has h_law_late (hr.mono (by first | decide | exact Nat.le_refl _)) (by rfl) (pa_cons (pv 0) pa_nil)) (pa_cons pe_int pa_nil)) (by rfl))
      (pss_cons (ps_if (pt_cmpR op_eq (pv 1) pe_int (nomark _))
      (pss_one (ps_ret pe_int))
      pss_nil)
      (pss_cons (ps_if (pt_cmpR op_isN (pv 3) pe_non (nomark _))
      (pss_one (ps_ret pe_non))
      pss_nil)
      (pss_cons (ps_while PassesOwn.never (pt_cmpR op_lt (pe_op op_mul (pv 4) (pv 2)) (pv 3) (nomark _))
      (pss_one (ps_set (i := 4) sc_law_needed.nd rfl (.inl rfl) (pe_op op_add (pv 4) pe_int))))
      (pss_one (ps_ret (pe_op op_add (pe_op op_mul (pe_op op_mul pe_int (pv 1)) (pv 4)) pe_int))))))), ?_⟩
    refine ⟨v, rfl, v, M, rfl, hM, ok, fun o' H1 hL' _ e1 => ⟨_, _, rfl, ?_⟩⟩
    have := hL'.only hL
    subst this
    refine q_when (b := decide (p = 0)) (et_is (et_test (ev_op (ev_var rfl) ev_c (rv_eq rfl))) (nV_dec p 0)) (fun bb H4 e4 => ?_) (fun bb H4 e4 => ?_)
    · have h0 := of_decide_eq_true bb
      refine s_ret (v := .int 1) ev_c fun H5 e5 => ?_
      have z := k H5 (e1.trans (e4.trans e5))
      rw [show M1.needed o' p r = some 1 by unfold M1.needed; rw [if_pos h0]] at z
      exact z
    · have h0 := of_decide_eq_false bb
      have e14 := e1.trans e4
      cases o' with
      | none =>
        refine q_when (b := true) (et_isN (i := 3) (v := .non) rfl) (fun _ H6 e6 => s_ret (v := .non) ev_c fun H7 e7 => ?_) (fun z => by cases z)
        have z := k H7 (e14.trans (e6.trans e7))
        rw [show M1.needed none p r = none by unfold M1.needed; rw [if_neg h0]; rfl] at z
        exact z
      | some d =>
        have hd := M.late_lt ok hL
        have n6 := ok.n6
        have hu := M1.up_bound (a := d) hr1
        refine q_when (b := false) (et_isN (i := 3) (v := nV d) rfl) (fun z => by cases z) (fun _ H6 e6 => ?_)
        refine q_while (fun m σ' H' => ∃ t : Nat, σ' = [some v, some (.int (p : Int)), some (.int (r : Int)), some (nV d), some (.int (t : Int))] ∧ Ex H6 H' ∧ t ≤ M1.up d r ∧ m = M1.up d r - t) _ ⟨0, rfl, Ex.refl _, Nat.zero_le _, rfl⟩ ?_
        rintro m σ' H' ⟨t, rfl, e', ht, rfl⟩
        refine ⟨decide ((t : Int) * (r : Int) < (d : Int)), et_test (ev_op (y := nV d) (ev_op (ev_var rfl) (ev_var rfl) (rv_I (i := (t : Int)) (j := (r : Int)) (.inl ⟨by omega, by omega⟩))) (ev_var rfl) rv_I0), fun b H7 e7 => ?_, fun b H7 e7 => ?_⟩
        · have hb := of_decide_eq_true b
          have hlt : t < M1.up d r := by
            apply Classical.byContradiction
            intro z
            have := (M1.up_le (a := d) (m := t) hr1).mp (by omega)
            have : (d : Int) ≤ ((t * r : Nat) : Int) := Int.ofNat_le.mpr this
            rw [Int.natCast_mul] at this
            omega
          refine ⟨fun σ2 H2' => ∃ m', m' < M1.up d r - t ∧ ∃ t : Nat, σ2 = [some v, some (.int (p : Int)), some (.int (r : Int)), some (nV d), some (.int (t : Int))] ∧ Ex H6 H2' ∧ t ≤ M1.up d r ∧ m' = M1.up d r - t, fun σ2 H2' h => h, ?_⟩
          refine s_asg (v := .int ((t + 1 : Nat) : Int)) (ev_is (ev_op (ev_var rfl) ev_c rv_I0) rfl) fun H8 e8 => ⟨_, ?_, t + 1, rfl, e'.trans (e7.trans e8), by omega, rfl⟩
          omega
        · have hb := of_decide_eq_false b
          have heq : t = M1.up d r := by
            apply Classical.byContradiction
            intro z
            have h2 : ¬ M1.up d r ≤ t := by omega
            rw [M1.up_le hr1] at h2
            have : ((t * r : Nat) : Int) < (d : Int) := Int.ofNat_lt.mpr (by omega)
            rw [Int.natCast_mul] at this
            exact hb this
          subst heq
          refine s_ret (v := nV (2 * p * M1.up d r + 1)) (ev_is (ev_op (ev_op (ev_op ev_c (ev_var rfl) (rv_I (i := 2) (j := (p : Int)) (.inl ⟨by decide, by decide⟩))) (ev_var rfl) (rv_I (i := 2 * (p : Int)) (j := ((M1.up d r : Nat) : Int)) (.inl ⟨by omega, by omega⟩))) ev_c rv_I0) ?_) fun H8 e8 => ?_
          · show V.int (2 * (p : Int) * ((M1.up d r : Nat) : Int) + 1) = V.int ((2 * p * M1.up d r + 1 : Nat) : Int)
            congr 1
          · have z := k H8 (e14.trans (e6.trans (e'.trans (e7.trans e8))))
            rw [show M1.needed (some d) p r = some (2 * p * M1.up d r + 1) by unfold M1.needed; rw [if_neg h0]; rfl] at z
            exact z
end

end Kx
namespace Kx
open PySem PySem.Spec PyProof.Rows L2

open Evl
section
variable {P : Program} {w : World} {K : PySem.W.Frag} {mg : Str → Option Value} {base : Heap}
theorem st_lit {tz : TS} {D : Ends} {H : Hp} {σ σ' : L2.St} (h : σ = σ') (k : tz D σ' H) : tz D σ H := h ▸ k
theorem g_lit {j : Nat} {x : V} {H : Hp} {σ σ' : L2.St} {kk : L2.St → Hp → Prop} (h : σ.set j (some x) = σ') (k : kk σ' H) : gName j x σ H kk := by
  unfold gName
  rw [h]
  exact k
end

end Kx
namespace Kx
open PySem PySem.Spec PyProof.Rows L2

open Evl RZ
section
variable {P : Program} {w : World} {K : PySem.W.Frag} {mg : Str → Option Value} {base : Heap}
/-! ### what strikes leave -/
def EvS (K : PySem.W.Frag) (te : TE) (σ : L2.St) (H : Hp) (xs : List V) : Prop := ∀ H1, Ex H H1 → ∀ Q : VK, (∀ p H2, Ex H1 H2 → SqT K H2 p xs → Q (.ref p) H2) → te σ H1 Q
theorem es_cat {ta tb : TE} {σ : L2.St} {H : Hp} {xs ys : List V} (ha : EvS K ta σ H xs) (hb : EvS K tb σ H ys) (hz : xs.length + ys.length ≤ 90000) : EvS K (tOp (rCatA K) ta tb) σ H (xs ++ ys) := fun H1 e Q q =>
  ha H1 e _ fun pa H2 e2 h2 => hb H2 (e.trans e2) _ fun pb H3 e3 h3 => ⟨pa, pb, xs, ys, rfl, rfl, ex_t e3 h2, h3, by rw [sizeLine_eq]; omega, fun z => q pb H3 (e2.trans e3) (by rw [z, List.nil_append]; exact h3), fun _ z => q pa H3 (e2.trans e3) (by rw [z, List.append_nil]; exact ex_t e3 h2), fun _ _ p hp => q p _ ((e2.trans e3).trans (Ex.new hp)) (SqT.of upd_same)⟩
theorem es_tupX {ta : TA} {σ : L2.St} {H : Hp} {xs : List V} (h : EvA ta σ H xs) (hl : xs.length ≤ 100000) : EvS K (tTup ta) σ H xs := fun H1 e Q q => (eu_tup h hl) H1 e Q fun p H2 hp e2 h2 => q p H2 e2 (SqT.of h2)
theorem cut_fromX {xs : List V} {j : Nat} (hj : j ≤ xs.length) : cutV xs (some (j : Int)) none = xs.drop j := by
  unfold cutV
  rw [show HT.sIx xs.length 0 (some (j : Int)) = j by rw [HT.sIx_nat]; omega]
  show (xs.drop j).take (xs.length - j) = xs.drop j
  exact List.take_of_length_le (by rw [List.length_drop]; exact Nat.le_refl _)
/-- t[:j] -/
theorem es_head {te tj : TE} {σ : L2.St} {H : Hp} {a : Addr} {C : List Nat} {j : Nat} (h : Ev te σ H (.ref a)) (hS : SqT K H a (rowV C)) (hj : Ev tj σ H (nV j)) (hl : j < C.length) : EvS K (tSl (rSlT K) te tNoPart (tPart tj)) σ H (rowV (C.take j)) := fun H1 e Q q =>
  h H1 e _ fun H2 e2 => hj H2 (e.trans e2) _ fun H3 e3 => ⟨(j : Int), rfl, a, _, rfl, ex_t ((e.trans e2).trans e3) hS, (fun z => by have := z.2; rw [HT.sIx_nat, rowV_len] at this; omega), fun p hp => q p _ ((e2.trans e3).trans (Ex.new hp)) (by rw [cut_row (by omega)]; exact SqT.of upd_same)⟩
/-- t[j + 1:] -/
theorem es_tail {te tj : TE} {σ : L2.St} {H : Hp} {a : Addr} {C : List Nat} {j : Nat} (h : Ev te σ H (.ref a)) (hS : SqT K H a (rowV C)) (hj : Ev tj σ H (nV (j + 1))) (hl : j < C.length) : EvS K (tSl (rSlT K) te (tPart tj) tNoPart) σ H (rowV (C.drop (j + 1))) := fun H1 e Q q =>
  h H1 e _ fun H2 e2 => hj H2 (e.trans e2) _ fun H3 e3 => ⟨((j + 1 : Nat) : Int), rfl, a, _, rfl, ex_t ((e.trans e2).trans e3) hS, (fun z => by have := z.1; rw [HT.sIx_nat, rowV_len] at this; omega), fun p hp => q p _ ((e2.trans e3).trans (Ex.new hp)) (by
    rw [cut_fromX (by rw [rowV_len]; omega)]
    unfold rowV
    rw [← List.map_drop]
    exact SqT.of upd_same)⟩
theorem set_cutX (ss : List Nat) {i s : Nat} (hi : i < ss.length) : (ss.take i ++ [s]) ++ ss.drop (i + 1) = ss.set i s := by
  rw [List.set_eq_take_append_cons_drop, if_pos hi, List.append_assoc]
  rfl
theorem rowV_app (a b : List Nat) : rowV a ++ rowV b = rowV (a ++ b) := by unfold rowV; rw [List.map_append]
theorem rowIX (l : List Nat) : rowV l = (l.map fun (n : Nat) => (n : Int)).map V.int := by unfold rowV; rw [List.map_map]; rfl
theorem nat_sortedX {l : List Nat} {ns : List Int} (hp : ns.Perm (l.map fun (n : Nat) => (n : Int))) (hs : ns.Pairwise (· ≤ ·)) : ns = (M1.srt l).map fun (n : Nat) => (n : Int) := by
  have hpos : ∀ x ∈ ns, ∃ n : Nat, x = (n : Int) := fun x hx => by
    obtain ⟨n, _, e⟩ := List.mem_map.mp (hp.mem_iff.mp hx)
    exact ⟨n, e.symm⟩
  have e1 : ns = (ns.map Int.toNat).map fun (n : Nat) => (n : Int) := by
    rw [List.map_map]
    conv => lhs; rw [← List.map_id ns]
    refine List.map_congr_left fun x hx => ?_
    obtain ⟨n, rfl⟩ := hpos x hx
    simp
  have hp2 : (ns.map Int.toNat).Perm l := by
    have := hp.map Int.toNat
    rw [List.map_map] at this
    have e : (Int.toNat ∘ fun (n : Nat) => (n : Int)) = id := by funext n; simp
    rw [e, List.map_id] at this
    exact this
  have hs2 : (ns.map Int.toNat).Pairwise (· ≤ ·) := by
    rw [List.pairwise_map]
    exact hs.imp fun h => Int.toNat_le_toNat h
  rw [e1, M1.srt_of hp2 hs2]
/-- a tuple, as it stands -/
def EvX (te : TE) (σ : L2.St) (H : Hp) (B : List Nat) : Prop := ∀ H1, Ex H H1 → ∀ Q : VK, (∀ b H2, Ex H1 H2 → H2 b = some (.tup (rowV B)) → Q (.ref b) H2) → te σ H1 Q
theorem ex_sortT {te : TE} {σ : L2.St} {H : Hp} {C : List Nat} (h : EvS K te σ H (rowV C)) : EvX (tCB (rTupOf K) (tCons (tCB (rSortedTI K) (tCons te tNil)) tNil)) σ H (M1.srt C) := fun H1 e Q q =>
  h H1 e _ fun p H2 e2 h2 => ⟨p, C.map fun (n : Nat) => (n : Int), rfl, by rw [← rowIX]; exact h2, fun ns' pl hperm hs hpl => ⟨pl, _, rfl, .inl ⟨sq_of upd_same, fun l hl => q l _ ((e2.trans (Ex.new hpl)).trans (Ex.new hl)) (by rw [upd_same, nat_sortedX hperm hs, ← rowIX])⟩⟩⟩
theorem ex_sortL {te : TE} {σ : L2.St} {H : Hp} {C : List Nat} (h : EvL te σ H (rowV C)) : EvX (tCB (rTupOf K) (tCons (tCB (rSortedI K) (tCons te tNil)) tNil)) σ H (M1.srt C) := fun H1 e Q q =>
  h H1 e _ fun p H2 hp e2 h2 => ⟨p, C.map fun (n : Nat) => (n : Int), rfl, by rw [← rowIX]; exact sq_of h2, fun ns' pl hperm hs hpl => ⟨pl, _, rfl, .inl ⟨sq_of upd_same, fun l hl => q l _ ((e2.trans (Ex.new hpl)).trans (Ex.new hl)) (by rw [upd_same, nat_sortedX hperm hs, ← rowIX])⟩⟩⟩
def TupAt (H : Hp) (v : V) (B : List Nat) : Prop := ∃ b, v = .ref b ∧ H b = some (.tup (rowV B))
theorem TupAt.ex {H H' : Hp} (e : Ex H H') {v : V} {B : List Nat} (h : TupAt H v B) : TupAt H' v B := let ⟨b, h1, h2⟩ := h; ⟨b, h1, e _ _ h2⟩
def keyB (B : List Nat) : List Key := B.map fun (n : Nat) => Sum.inl (n : Int)
theorem keyB_V (B : List Nat) : (keyB B).map kV = rowV B := by unfold keyB rowV; rw [List.map_map]; rfl
theorem keyB_inj : ∀ {A B : List Nat}, keyB A = keyB B → A = B
  | [], [], _ => rfl
  | [], _ :: _, h => by cases h
  | _ :: _, [], h => by cases h
  | x :: A, y :: B, h => by
    unfold keyB at h
    rw [List.map_cons, List.map_cons] at h
    injection h with h1 h2
    injection h1 with h1
    rw [Int.ofNat_inj.mp h1, keyB_inj (A := A) (B := B) h2]
def rowsK (Bs : List (List Nat)) : List (List Key × V) := Bs.map fun B => (keyB B, V.bl true)
def addB (Bs : List (List Nat)) (B : List Nat) : List (List Nat) := if B ∈ Bs then Bs else Bs ++ [B]
theorem addB_mem {Bs : List (List Nat)} {B C : List Nat} : C ∈ addB Bs B ↔ C ∈ Bs ∨ C = B := by
  unfold addB
  split
  · rename_i h
    exact ⟨fun z => .inl z, fun z => z.elim id fun e => e ▸ h⟩
  · rw [List.mem_append, List.mem_singleton]
theorem addB_nodup {Bs : List (List Nat)} {B : List Nat} (h : Bs.Nodup) : (addB Bs B).Nodup := by
  unfold addB
  split
  · exact h
  · rename_i hn
    rw [List.nodup_append]
    exact ⟨h, by simp, fun x hx y hy e => by rw [List.mem_singleton] at hy; subst hy e; exact hn hx⟩
theorem rows_val : ∀ (Bs : List (List Nat)) (B : List Nat), valV (rowsK Bs) (keyB B) = if B ∈ Bs then some (.bl true) else none
  | [], B => rfl
  | C :: Bs, B => by
    have ih := rows_val Bs B
    show valV ((keyB C, V.bl true) :: rowsK Bs) _ = _
    by_cases h : C = B
    · subst h
      rw [valV_pos rfl, if_pos List.mem_cons_self]
    · rw [valV_neg (fun z => h (keyB_inj z)), ih]
      by_cases hm : B ∈ Bs
      · rw [if_pos hm, if_pos (List.mem_cons_of_mem _ hm)]
      · rw [if_neg hm, if_neg fun z => by
          rcases List.mem_cons.mp z with z | z
          · exact h z.symm
          · exact hm z]
theorem rows_put (Bs : List (List Nat)) (B : List Nat) : putK (rowsK Bs) (keyB B) (.bl true) = rowsK (addB Bs B) := by
  unfold addB
  by_cases hm : B ∈ Bs
  · rw [if_pos hm]
    unfold putK
    rw [valV_any, rows_val, if_pos hm]
    rw [if_pos (by rfl)]
    unfold rowsK
    rw [List.map_map]
    refine List.map_congr_left fun C _ => ?_
    show (if keyB C = keyB B then (keyB C, V.bl true) else (keyB C, V.bl true)) = (keyB C, V.bl true)
    split <;> rfl
  · rw [if_neg hm]
    unfold putK
    rw [valV_any, rows_val, if_neg hm]
    rw [if_neg (by decide)]
    unfold rowsK
    rw [List.map_append]
    rfl
theorem rowsK_len (Bs : List (List Nat)) : (rowsK Bs).length = Bs.length := by unfold rowsK; rw [List.length_map]
/-- what is pushed so far: the rows ahead of i, of row i the copies ahead of j, of copy j the states ahead of k -/
def Dn (m : Nat) (Bs : List (List Nat)) (i j k : Nat) (B : List Nat) : Prop := ∃ a C x s, Bs[a]? = some C ∧ x < C.length ∧ s < m ∧ B = M1.srt (C.set x s) ∧ (a < i ∨ (a = i ∧ (x < j ∨ (x = j ∧ s < k))))
theorem dn_zero {m : Nat} {Bs : List (List Nat)} {B : List Nat} : ¬ Dn m Bs 0 0 0 B := fun ⟨a, C, x, s, _, _, _, _, h⟩ => by omega
theorem dn_state {m : Nat} {Bs : List (List Nat)} {i j k : Nat} {C B : List Nat} (hC : Bs[i]? = some C) (hj : j < C.length) (hk : k < m) : Dn m Bs i j (k + 1) B ↔ Dn m Bs i j k B ∨ B = M1.srt (C.set j k) := by
  constructor
  · rintro ⟨a, D, x, s, h1, h2, h3, h4, h5⟩
    by_cases e : a = i ∧ x = j ∧ s = k
    · obtain ⟨rfl, rfl, rfl⟩ := e
      rw [hC] at h1
      cases h1
      exact .inr h4
    · exact .inl ⟨a, D, x, s, h1, h2, h3, h4, by omega⟩
  · rintro (⟨a, D, x, s, h1, h2, h3, h4, h5⟩ | h)
    · exact ⟨a, D, x, s, h1, h2, h3, h4, by omega⟩
    · exact ⟨i, C, j, k, hC, hj, hk, h, by omega⟩
theorem dn_copy {m : Nat} {Bs : List (List Nat)} {i j : Nat} {B : List Nat} : Dn m Bs i (j + 1) 0 B ↔ Dn m Bs i j m B := by
  constructor
  · rintro ⟨a, D, x, s, h1, h2, h3, h4, h5⟩
    exact ⟨a, D, x, s, h1, h2, h3, h4, by omega⟩
  · rintro ⟨a, D, x, s, h1, h2, h3, h4, h5⟩
    exact ⟨a, D, x, s, h1, h2, h3, h4, by omega⟩
theorem dn_row {m : Nat} {Bs : List (List Nat)} {i : Nat} {C B : List Nat} (hC : Bs[i]? = some C) : Dn m Bs (i + 1) 0 0 B ↔ Dn m Bs i C.length 0 B := by
  constructor
  · rintro ⟨a, D, x, s, h1, h2, h3, h4, h5⟩
    refine ⟨a, D, x, s, h1, h2, h3, h4, ?_⟩
    by_cases e : a = i
    · subst e
      rw [hC] at h1
      cases h1
      omega
    · omega
  · rintro ⟨a, D, x, s, h1, h2, h3, h4, h5⟩
    exact ⟨a, D, x, s, h1, h2, h3, h4, by omega⟩
theorem dn_all {m : Nat} {Bs : List (List Nat)} {B : List Nat} : Dn m Bs Bs.length 0 0 B ↔ ∃ C x s, C ∈ Bs ∧ x < C.length ∧ s < m ∧ B = M1.srt (C.set x s) := by
  constructor
  · rintro ⟨a, D, x, s, h1, h2, h3, h4, h5⟩
    exact ⟨D, x, s, List.mem_of_getElem? h1, h2, h3, h4⟩
  · rintro ⟨D, x, s, h1, h2, h3, h4⟩
    obtain ⟨a, ha⟩ := List.mem_iff_getElem?.mp h1
    exact ⟨a, D, x, s, ha, h2, h3, h4, .inl (List.getElem?_eq_some_iff.mp ha).1⟩
theorem rea_row {m t c : Nat} {A B : List Nat} (m3 : m ≤ 3) (rA : M1.Row3 c A) (lA : ∀ x ∈ A, x < m) (h : M1.Rea m t A B) : M1.Row3 c B := ⟨fun x hx => by have := h.lt lA x hx; omega, by rw [h.len]; exact rA.len, h.srtd rA.srt⟩
theorem dn_rea {m t i j k : Nat} {A B : List Nat} {Bs : List (List Nat)} (hB : ∀ B, B ∈ Bs ↔ M1.Rea m t A B) (h : B ∈ Bs ∨ Dn m Bs i j k B) : M1.Rea m (t + 1) A B := by
  rcases h with h | ⟨a, C, x, s, h1, h2, h3, h4, _⟩
  · exact .inl ((hB B).mp h)
  · exact .inr ⟨C, x, s, (hB C).mp (List.mem_of_getElem? h1), h2, h3, h4⟩
theorem rows_keep {H H' : Hp} (t : TT H H') : ∀ {refs : List V} {Bs : List (List Nat)}, Paired (TupAt H) refs Bs → Paired (TupAt H') refs Bs
  | _, _, .nil => .nil
  | _, _, .cons ⟨b, h1, h2⟩ r => .cons ⟨b, h1, t _ _ h2⟩ (rows_keep t r)
theorem keys_rows {H : Hp} : ∀ {Bs : List (List Nat)} {bs : List Addr}, IsKeys H (rowsK Bs) bs → Paired (TupAt H) (bs.map V.ref) Bs
  | [], _, h => by cases h; exact .nil
  | B :: Bs, _, h => by
    cases h with
    | cons h1 h2 => exact .cons ⟨_, rfl, by rw [← keyB_V]; exact h1⟩ (keys_rows h2)
def sp_lpushed : Sp := fun vs H Q _ => ∃ (st : Addr) (p m c : Nat) (A : List Nat), vs = [.ref st, .int (p : Int), .int (m : Int)] ∧ H st = some (.tup (rowV A)) ∧ 1 ≤ c ∧ c ≤ 5 ∧ m ≤ 3 ∧ p ≤ 100 ∧ M1.Row3 c A ∧ (∀ x ∈ A, x < m) ∧
  ∀ pl H2 refs Bs, H pl = none → Ex H H2 → H2 pl = some (.lst refs) → Paired (TupAt H2) refs Bs → (∀ B, B ∈ Bs ↔ M1.Rea m p A B) → Bs.length ≤ 36 → Q (.ref pl) H2
theorem has_law_pushed (T : Txt K mg) {f : Addr} {fd : FuncData} (F : Fun K "_law_pushed" "_law_pushed" s_law_pushed f fd) (g : mg "_law_pushed" = some (.ref f)) (B : Binds K fd ["states", "pushed", "many"] []) : Has P w K mg base "_law_pushed" 1 ["states", "pushed", "many"] sp_lpushed := by
  refine Has.mk' g F.kp B (F.ok sc_law_pushed (fun vs H Q E h => ?_) (fun cdv A0 outer s H vs Q E hr h => ?_))
  · obtain ⟨st, p, m, c, A, rfl, _⟩ := h
    rfl
  · obtain ⟨st, p, m, c, A, rfl, hst, c1, c5, m3, hp, rA, lA, k⟩ := h
    refine ⟨_, (pss_cons (ps_set (i := 3) sc_law_pushed.nd rfl (.inl rfl) (pe_dispT (hu_of hr) (pv 0) pe_bl))
      (pss_cons (ps_for PassesOwn.never rfl (pi_range1 (by rfl) T.b_range (pa_cons (pv 1) pa_nil)) (pg_name (i := 4) sc_law_pushed.nd rfl (.inl rfl))
      (pss_one (ps_for PassesOwn.never rfl (pi_listK (K := K) rfl (pe_callTy (call_list_dT rfl) (by rfl) T.b_list bt_list (pa_cons (pv 3) pa_nil))) (pg_name (i := 5) sc_law_pushed.nd rfl (.inl rfl))
      (pss_one (ps_for PassesOwn.never rfl (pi_range1 (by rfl) T.b_range (pa_cons (pe_callB (call_lenK (K := K) rfl) (by rfl) T.b_len bt_len (pa_cons (pv 5) pa_nil)) pa_nil)) (pg_name (i := 6) sc_law_pushed.nd rfl (.inl rfl))
      (pss_one (ps_for PassesOwn.never rfl (pi_range1 (by rfl) T.b_range (pa_cons (pv 2) pa_nil)) (pg_name (i := 7) sc_law_pushed.nd rfl (.inl rfl))
      (pss_one (ps_dput (hu_of hr) (pv 3) (pe_callTy (call_tupleK (K := K) rfl) (by rfl) T.b_tuple bt_tuple (pa_cons (pe_callB (cr_sortedTI (K := K) rfl) (by rfl) T.b_sorted bt_sorted (pa_cons (pe_op (op_catK (K := K) rfl) (pe_op (op_catK (K := K) rfl) (pe_slice (sl_tupK (K := K) rfl) (pv 5) po_none (po_some (pv 6))) (pe_tup (pa_cons (pv 7) pa_nil))) (pe_slice (sl_tupK (K := K) rfl) (pv 5) (po_some (pe_op op_add (pv 6) pe_int)) po_none)) pa_nil)) pa_nil)) pe_bl rfl)))))))))
      (pss_one (ps_ret (pe_callB (cr_sortTK (K := K) (d := c) (B := 6) rfl c1) (by rfl) T.b_sorted bt_sorted (pa_cons (pe_callTy (call_list_dT rfl) (by rfl) T.b_list bt_list (pa_cons (pv 3) pa_nil)) pa_nil)))))), ?_⟩
    refine fun pf hpf => ⟨.ref st, rfl, st, keyB A, rfl, upd_same, ?_, ?_⟩
    · rw [upd_ne (fun z => by subst z; rw [hpf] at hst; cases hst), keyB_V]
      exact hst
    refine q_forR1 (D := { nx := fun x H' => Q V.non H', rt := Q }) (n := (p : Int)) (ea_cons (ev_var rfl) ea_nil) ⟨by omega, by omega⟩ (fun t σ' H' => ∃ (Bs : List (List Nat)) (l4 l5 l6 l7 : Option V), σ' = [some (.ref st), some (.int (p : Int)), some (.int (m : Int)), some (.ref pf), l4, l5, l6, l7] ∧ Ex H H' ∧ H' pf = some (.dT (rowsK Bs)) ∧ Bs.Nodup ∧ ∀ B, B ∈ Bs ↔ M1.Rea m t A B)
      (fun H1 e1 => ⟨[A], none, none, none, none, rfl, (Ex.mut (Ex.new hpf) hpf).trans e1, e1 _ _ upd_same, by simp, fun B => by rw [List.mem_singleton]; exact Iff.rfl⟩) ?_ ?_
    · rintro t σ' H1 ht ⟨Bs, l4, l5, l6, l7, rfl, e1, hd, nd, hB⟩
      have b36 := M1.rows_few c5 nd fun B h => rea_row m3 rA lA ((hB B).mp h)
      refine ⟨.ref pf, rfl, pf, rowsK Bs, rfl, .inl hd, fun pl bs hpl hbs => ⟨pl, rfl, ⟨_, sq_of upd_same⟩, ?_⟩⟩
      have npl : pl ≠ pf := fun z => by subst z; rw [hd] at hpl; cases hpl
      have hP : Paired (TupAt (upd H1 pl (.lst (bs.map V.ref)))) (bs.map V.ref) Bs := rows_keep (TT.ex (Ex.new hpl)) (keys_rows hbs)
      have eL : Ex H1 (upd H1 pl (.lst (bs.map V.ref))) := Ex.new hpl
      have hl0 : (upd H1 pl (.lst (bs.map V.ref))) pl = some (.lst (bs.map V.ref)) := upd_same
      generalize upd H1 pl (.lst (bs.map V.ref)) = H2 at *
      have hd2 := eL _ _ hd
      have tupB : ∀ {H3 : Hp} {b : Addr} {o : List V}, ExB pf H2 H3 → H2 b = some (.tup o) → H3 b = some (.tup o) := fun eb h => eb _ _ (fun z => by subst z; rw [hd2] at h; cases h) h
      have hbl : (bs.map V.ref).length = Bs.length := Paired.length hP
      refine for_list (xs := bs.map V.ref) (fun i σ' H' => ∃ (Cs : List (List Nat)) (l5 l6 l7 : Option V), σ' = [some (.ref st), some (.int (p : Int)), some (.int (m : Int)), some (.ref pf), some (.int (t : Int)), l5, l6, l7] ∧ Ex H H' ∧ ExB pf H2 H' ∧ H' pf = some (.dT (rowsK Cs)) ∧ Cs.Nodup ∧ ∀ B, B ∈ Cs ↔ B ∈ Bs ∨ Dn m Bs i 0 0 B)
        ⟨Bs, l5, l6, l7, rfl, e1.trans eL, ExB.refl _ _, hd2, nd, fun B => ⟨.inl, fun h => h.elim id fun z => absurd z dn_zero⟩⟩ (fun i σ' H' _ ⟨_, _, _, _, _, _, eb, _⟩ => sq_of (eb _ _ npl hl0)) ?_ ?_
      · rintro i z σ' H3 hz ⟨Cs, m5, m6, m7, rfl, e3, eb3, hd3, nd3, hC3⟩
        obtain ⟨C, hC, tt, rfl, htt⟩ := Paired.get' hP hz
        have rC := rea_row m3 rA lA ((hB C).mp (List.mem_of_getElem? hC))
        have hCl := rC.len
        refine s_forR1 (D := { nx := _, rt := _, bk := _, ct := _ }) (n := ((rowV C).length : Int)) (ea_cons (ev_lenT (ev_var rfl) (SqT.of (tupB eb3 htt))) ea_nil) ⟨by omega, by rw [rowV_len]; omega⟩
          (fun j σ' H' => ∃ (Cs : List (List Nat)) (l6 l7 : Option V), σ' = [some (.ref st), some (.int (p : Int)), some (.int (m : Int)), some (.ref pf), some (.int (t : Int)), some (.ref tt), l6, l7] ∧ Ex H H' ∧ ExB pf H2 H' ∧ H' pf = some (.dT (rowsK Cs)) ∧ Cs.Nodup ∧ ∀ B, B ∈ Cs ↔ B ∈ Bs ∨ Dn m Bs i j 0 B)
          (fun H4 e4 => ⟨Cs, m6, m7, rfl, e3.trans e4, eb3.trans (ExB.of e4), e4 _ _ hd3, nd3, hC3⟩) ?_ ?_
        · rintro j σ' H4 hj ⟨C4, n6, n7, rfl, e4, eb4, hd4, nd4, hC4⟩
          have hjl : j < C.length := by rw [rowV_len] at hj; omega
          refine s_forR1 (D := { nx := _, rt := _, bk := _, ct := _ }) (n := (m : Int)) (ea_cons (ev_var rfl) ea_nil) ⟨by omega, by omega⟩
            (fun k σ' H' => ∃ (Cs : List (List Nat)) (l7 : Option V), σ' = [some (.ref st), some (.int (p : Int)), some (.int (m : Int)), some (.ref pf), some (.int (t : Int)), some (.ref tt), some (.int (j : Int)), l7] ∧ Ex H H' ∧ ExB pf H2 H' ∧ H' pf = some (.dT (rowsK Cs)) ∧ Cs.Nodup ∧ ∀ B, B ∈ Cs ↔ B ∈ Bs ∨ Dn m Bs i j k B)
            (fun H5 e5 => ⟨C4, n7, rfl, e4.trans e5, eb4.trans (ExB.of e5), e5 _ _ hd4, nd4, hC4⟩) ?_ ?_
          · rintro k σ' H5 hk ⟨C5, o7, rfl, e5, eb5, hd5, nd5, hC5⟩
            have hkm : k < m := by omega
            have hT5 := tupB eb5 htt
            have c36 := M1.rows_few c5 nd5 fun B h => rea_row m3 rA lA (dn_rea hB ((hC5 B).mp h))
            refine ⟨.ref pf, rfl, ?_⟩
            have hS5 : SqT K H5 tt (rowV C) := SqT.of hT5
            refine ex_sortT (C := C.set j k) (K := K) (by
              have h1 := es_cat (K := K) (es_cat (K := K) (es_head (H := H5) (σ := [some (V.ref st), some (.int (p : Int)), some (.int (m : Int)), some (.ref pf), some (.int (t : Int)), some (.ref tt), some (.int (j : Int)), some (.int (k : Int))]) (te := tVar 5) (tj := tVar 6) (ev_var rfl) hS5 (ev_var rfl) hjl) (es_tupX (ta := tCons (tVar 7) tNil) (xs := rowV [k]) (ea_cons (ev_var rfl) ea_nil) (by show 1 ≤ 100000; decide)) (by rw [rowV_len, rowV_len, List.length_take]; show min j C.length + 1 ≤ 90000; omega))
                (es_tail (te := tVar 5) (tj := tOp (rI0 fun i j => V.int (i + j)) (tVar 6) (tC (.int 1))) (ev_var rfl) hS5 (ev_op (ev_var rfl) ev_c rv_I0) hjl) (by rw [rowV_app, rowV_len, rowV_len, List.length_append, List.length_take, List.length_drop]; show min j C.length + 1 + _ ≤ 90000; omega)
              rw [rowV_app, rowV_app, set_cutX C hjl] at h1
              exact h1) _ (Ex.refl _) _ fun b H6 e6 h6 => ?_
            refine ⟨pf, _, rfl, DPut.t (k := keyB (M1.srt (C.set j k))) (e6 _ _ hd5) (by rw [keyB_V]; exact h6) (by rw [rowsK_len]; exact small1000 (by omega)), ?_⟩
            refine ⟨addB C5 (M1.srt (C.set j k)), _, rfl, Ex.mut (e5.trans e6) hpf, (eb5.trans (ExB.of e6)).trans ExB.upd, ?_, addB_nodup nd5, fun B => ?_⟩
            · rw [upd_same, rows_put]
            · rw [addB_mem, hC5, dn_state hC hjl hkm, or_assoc]
          · rintro σ' H5 ⟨C5, o7, rfl, e5, eb5, hd5, nd5, hC5⟩
            exact ⟨C5, _, _, rfl, e5, eb5, hd5, nd5, fun B => by rw [hC5, dn_copy, Int.toNat_natCast]⟩
        · rintro σ' H4 ⟨C4, n6, n7, rfl, e4, eb4, hd4, nd4, hC4⟩
          exact ⟨C4, _, _, _, rfl, e4, eb4, hd4, nd4, fun B => by rw [hC4, dn_row hC, Int.toNat_natCast, rowV_len]⟩
      · rintro σ' H3 ⟨Cs, m5, m6, m7, rfl, e3, eb3, hd3, nd3, hC3⟩
        refine ⟨Cs, _, _, _, _, rfl, e3, hd3, nd3, fun B => ?_⟩
        rw [hC3, hbl, dn_all, hB]
        refine or_congr Iff.rfl ⟨fun ⟨C, x, s, h1, h2⟩ => ⟨C, x, s, (hB C).mp h1, h2⟩, fun ⟨C, x, s, h1, h2⟩ => ⟨C, x, s, (hB C).mpr h1, h2⟩⟩
    · rintro σ' H1 ⟨Bs, l4, l5, l6, l7, rfl, e1, hd, nd, hB⟩
      rw [Int.toNat_natCast] at hB
      have row := fun B h => rea_row m3 rA lA ((hB B).mp h)
      have b36 := M1.rows_few c5 nd row
      refine ⟨.ref pf, rfl, pf, rowsK Bs, rfl, .inl hd, fun pl bs hpl hbs => ⟨pl, bs.map V.ref, rfl, sq_of upd_same, ?_, fun x hx => ?_, fun ys p7 perm _ hp7 => ?_⟩⟩
      · have := Paired.length (keys_rows hbs)
        omega
      · obtain ⟨n, hn⟩ := List.mem_iff_getElem?.mp hx
        obtain ⟨B, hBn, tq, rfl, htq⟩ := Paired.get' (keys_rows hbs) hn
        have rB := row B (List.mem_of_getElem? hBn)
        refine ⟨B.map fun (n : Nat) => (n : Int), ⟨tq, rfl, SqT.of (by rw [← rowIX]; exact Ex.new hpl _ _ htq)⟩, by rw [List.length_map]; exact rB.len, fun y hy => ?_⟩
        obtain ⟨n, hn, rfl⟩ := List.mem_map.mp hy
        have := rB.lt n hn
        omega
      · obtain ⟨Bs', hperm, hPq⟩ := paired_perm perm (rows_keep (TT.ex (Ex.new (o := .lst (bs.map V.ref)) hpl)) (keys_rows hbs))
        have e7 := (Ex.new (o := .lst (bs.map V.ref)) hpl).trans (Ex.new (o := .lst ys) hp7)
        exact k p7 _ ys Bs' (fresh_back (e1.trans (Ex.new hpl)) hp7) (e1.trans e7) upd_same (rows_keep (TT.ex (Ex.new hp7)) hPq) (fun B => by rw [hperm.mem_iff, hB]) (by rw [hperm.length_eq]; exact b36)
end

end Kx
namespace Kx
open PySem PySem.Spec PyProof.Rows L2

open Evl RZ
section
variable {P : Program} {w : World} {K : PySem.W.Frag} {mg : Str → Option Value} {base : Heap}
/-! ### the search: its states in the heap -/
def nk (A : List Nat) : List NestedKey := A.map fun (n : Nat) => NestedKey.num (n : Int)
def cfgK (x : M1.Cfg) : NestedKey := .tup [.num (x.1 : Int), .tup (nk x.2.1), .num (x.2.2 : Int)]
theorem nk_inj : ∀ {A B : List Nat}, nk A = nk B → A = B
  | [], [], _ => rfl
  | [], _ :: _, h => by cases h
  | _ :: _, [], h => by cases h
  | x :: A, y :: B, h => by
    unfold nk at h
    rw [List.map_cons, List.map_cons] at h
    injection h with h1 h2
    injection h1 with h1
    rw [Int.ofNat_inj.mp h1, nk_inj (A := A) (B := B) h2]
theorem cfgK_inj {x y : M1.Cfg} (h : cfgK x = cfgK y) : x = y := by
  obtain ⟨r, A, n⟩ := x
  obtain ⟨s, B, k⟩ := y
  unfold cfgK at h
  injection h with h
  injection h with h1 h
  injection h with h2 h
  injection h with h3 _
  injection h1 with h1
  injection h2 with h2
  injection h3 with h3
  have e1 : r = s := Int.ofNat_inj.mp h1
  have e2 : A = B := nk_inj h2
  have e3 : n = k := Int.ofNat_inj.mp h3
  rw [e1, e2, e3]
theorem nk_depth : ∀ A : List Nat, NestedKey.depthAll (nk A) = 0
  | [] => rfl
  | x :: A => by
    show max 0 (NestedKey.depthAll (nk A)) = 0
    rw [nk_depth A]
    rfl
theorem cfgK_depth (x : M1.Cfg) : (cfgK x).depth ≤ 8 := by
  unfold cfgK
  simp only [NestedKey.depth, NestedKey.depthAll, nk_depth]
  decide
def CfgAt (H : Hp) (v : V) (x : M1.Cfg) : Prop := ∃ a b, v = .ref a ∧ H a = some (.tup [.int (x.1 : Int), .ref b, .int (x.2.2 : Int)]) ∧ H b = some (.tup (rowV x.2.1))
theorem CfgAt.tt {H H' : Hp} (t : TT H H') {v : V} {x : M1.Cfg} (h : CfgAt H v x) : CfgAt H' v x := let ⟨a, b, h1, h2, h3⟩ := h; ⟨a, b, h1, t _ _ h2, t _ _ h3⟩
theorem cfgs_keep {H H' : Hp} (t : TT H H') : ∀ {refs : List V} {ws : List M1.Cfg}, Paired (CfgAt H) refs ws → Paired (CfgAt H') refs ws
  | _, _, .nil => .nil
  | _, _, .cons h r => .cons (h.tt t) (cfgs_keep t r)
theorem nkeys_row {H : Hp} : ∀ A : List Nat, NKeys K H (rowV A) (nk A)
  | [] => .nil
  | _ :: A => .cons (.int _) (nkeys_row A)
theorem CfgAt.key {H : Hp} {v : V} {x : M1.Cfg} (h : CfgAt H v x) : NKey K H v (cfgK x) := by
  obtain ⟨a, b, rfl, h1, h2⟩ := h
  exact .tup (SqT.of h1) (.cons (.int _) (.cons (.tup (SqT.of h2) (nkeys_row _)) (.cons (.int _) .nil)))
def cfgD (x : M1.Cfg) : PyData := .tuple [.int (x.1 : Int), .tuple (rowD x.2.1), .int (x.2.2 : Int)]
theorem dp_cfgs {H : Hp} : ∀ {vs : List V} {l : List M1.Cfg}, Paired (CfgAt H) vs l → DpAll K H vs (l.map cfgD)
  | _, _, .nil => .nil
  | _, _, .cons h t => by
    obtain ⟨a, b, rfl, h1, h2⟩ := h
    exact .cons (.tup (SqT.of h1) (.cons (.int _) (.cons (.tup (SqT.of h2) (dp_row _)) (.cons (.int _) .nil)))) (dp_cfgs t)
theorem canLay_cfgs : ∀ l : List M1.Cfg, PyData.canLayAll0 (l.map cfgD) = true
  | [] => by simp [PyData.canLayAll0]
  | p :: l => by
    show (PyData.canLay0 (cfgD p) && PyData.canLayAll0 (l.map cfgD)) = true
    rw [canLay_cfgs l]
    simp [cfgD, PyData.canLay0, PyData.canLayAll0, canLay_row]
theorem depth_cfgs : ∀ l : List M1.Cfg, PyData.depthAll (l.map cfgD) ≤ 2
  | [] => by simp [PyData.depthAll]
  | p :: l => by
    show max (PyData.depth (cfgD p)) (PyData.depthAll (l.map cfgD)) ≤ 2
    have := depth_cfgs l
    have h2 : PyData.depth (cfgD p) ≤ 2 := by simp [cfgD, PyData.depth, PyData.depthAll, depth_row]
    omega
theorem shaped_cfgs (l : List M1.Cfg) : SeqAt.shaped (.list (l.map cfgD)) = true := by
  unfold SeqAt.shaped
  have := depth_cfgs l
  simp only [PyData.canLay0, PyData.depth, canLay_cfgs]
  simp
  omega
theorem rv_neC {H : Hp} {p q : Addr} {refs : List V} {ws : List M1.Cfg} (hp : H p = some (.lst refs)) (hP : Paired (CfgAt H) refs ws) (hq : H q = some (.lst [])) : Evl.RV (rNeD K) (.ref p) (.ref q) H (.bl (!decide (ws = []))) := fun H1 e Q k =>
  ⟨.list (ws.map cfgD), .list [], .lst (sq_of (e _ _ hp)) (dp_cfgs (cfgs_keep (TT.ex e) hP)), .lst (sq_of (e _ _ hq)) .nil, shaped_cfgs ws, by decide, by
    rw [show PyData.eqv (.list (ws.map cfgD)) (.list []) = decide (ws = []) by
      cases ws with
      | nil => simp [PyData.eqv, PyData.eqvAll]
      | cons x ws => simp [PyData.eqv, PyData.eqvAll]]
    exact k H1 (Ex.refl H1)⟩
theorem atN_mem : ∀ (kvs : List (NestedKey × Addr × V)) (k : NestedKey), (atN kvs k).isSome = decide (k ∈ kvs.map (·.1))
  | [], k => by simp [atN]
  | e :: kvs, k => by
    have ih := atN_mem kvs k
    by_cases h : e.1 = k
    · have : atN (e :: kvs) k = some e.2.2 := by simp [atN, List.find?_cons, h]
      rw [this, List.map_cons, h]
      simp
    · have : atN (e :: kvs) k = atN kvs k := by simp [atN, List.find?_cons, h]
      rw [this, ih, List.map_cons]
      have h' : ¬ k = e.1 := fun z => h z.symm
      simp only [List.mem_cons, h', false_or]
theorem fnd_mem {kvs : List (NestedKey × Addr × V)} {fs : List M1.Cfg} (h : kvs.map (·.1) = fs.map cfgK) (x : M1.Cfg) : (atN kvs (cfgK x)).isSome = decide (x ∈ fs) := by
  rw [atN_mem, h]
  refine decide_eq_decide.mpr ⟨fun z => ?_, fun z => List.mem_map.mpr ⟨x, z, rfl⟩⟩
  obtain ⟨y, hy, e⟩ := List.mem_map.mp z
  rw [← cfgK_inj e]
  exact hy
theorem dkn_keep {H H' : Hp} (e : TKp K H H') {kvs : List (NestedKey × Addr × V)} (h : DKN K H kvs) : DKN K H' kvs := fun q hq => ⟨NKey.keep e _ _ (h q hq).1, (h q hq).2⟩
/-- what the search has found and what waits -/
structure Stt (K : PySem.W.Frag) (P : Program) (w : World) (M : M1.Mach) (c p g : Nat) (pf pw : Addr) (H : Hp) (kvs : List (NestedKey × Addr × V)) (refs : List V) (fs ws : List M1.Cfg) : Prop where
  fnd : H pf = some (DictN P w pf kvs)
  dk : DKN K H kvs
  fk : kvs.map (·.1) = fs.map cfgK
  wts : H pw = some (.lst refs)
  wp : Paired (CfgAt H) refs ws
  nd : fs.Nodup
  snd : ∀ x ∈ fs, ∃ wd S, M.Snd c p g fs.length x wd S
  sub : ∀ x ∈ ws, x ∈ fs
section
variable {M : M1.Mach} {c p g : Nat} {pf pw : Addr} {H : Hp} {kvs : List (NestedKey × Addr × V)} {refs : List V} {fs ws : List M1.Cfg}
theorem Stt.ex {H' : Hp} (S : Stt K P w M c p g pf pw H kvs refs fs ws) (e : Ex H H') : Stt K P w M c p g pf pw H' kvs refs fs ws := ⟨e _ _ S.fnd, dkn_keep (TKp.ex e) S.dk, S.fk, e _ _ S.wts, cfgs_keep (TT.ex e) S.wp, S.nd, S.snd, S.sub⟩
theorem Stt.ne (S : Stt K P w M c p g pf pw H kvs refs fs ws) : pf ≠ pw := fun z => by
  have := S.fnd
  rw [z, S.wts] at this
  unfold DictN at this
  cases this
theorem Stt.len (S : Stt K P w M c p g pf pw H kvs refs fs ws) (ok : M.Ok) (m3 : M.st.length ≤ 3) (c5 : c ≤ 5) (g3 : g ≤ 3) : fs.length ≤ 432 := M1.cfgs_few c5 S.nd fun x hx => let ⟨_, _, h⟩ := S.snd x hx; h.cfg3 ok m3 g3
theorem Stt.kl (S : Stt K P w M c p g pf pw H kvs refs fs ws) : kvs.length = fs.length := by
  have := congrArg List.length S.fk
  rwa [List.length_map, List.length_map] at this
theorem paired_unsnoc {α β : Type} {F : α → β → Prop} {b : β} : ∀ {l : List α} {m : List β}, Paired F l (m ++ [b]) → ∃ l0 a, l = l0 ++ [a] ∧ Paired F l0 m ∧ F a b
  | _, [], h => by
    cases h with
    | cons h1 h2 => cases h2; exact ⟨[], _, rfl, .nil, h1⟩
  | _, _ :: m, h => by
    cases h with
    | cons h1 h2 =>
      obtain ⟨l0, a, rfl, h3, h4⟩ := paired_unsnoc h2
      exact ⟨_ :: l0, a, rfl, .cons h1 h3, h4⟩
theorem Stt.pop {v : V} {x : M1.Cfg} (S : Stt K P w M c p g pf pw H kvs (refs ++ [v]) fs (ws ++ [x])) (hp : Paired (CfgAt H) refs ws) : Stt K P w M c p g pf pw (upd H pw (.lst refs)) kvs refs fs ws :=
  have t : TT H (upd H pw (.lst refs)) := TT.upd S.wts fun _ z => by cases z
  ⟨by rw [upd_ne S.ne]; exact S.fnd, dkn_keep (TKp.lst S.wts) S.dk, S.fk, upd_same, cfgs_keep t hp, S.nd, S.snd, fun y hy => S.sub y (List.mem_append_left _ hy)⟩
theorem Stt.put {b : Addr} {x : M1.Cfg} (S : Stt K P w M c p g pf pw H kvs refs fs ws) (hv : CfgAt H (.ref b) x) (hn : x ∉ fs) (hs : ∃ wd S, M.Snd c p g (fs.length + 1) x wd S) :
    Stt K P w M c p g pf pw (upd (upd H pf (DictN P w pf (kvs ++ [(cfgK x, b, .bl true)]))) pw (.lst (refs ++ [.ref b]))) (kvs ++ [(cfgK x, b, .bl true)]) (refs ++ [.ref b]) (fs ++ [x]) (ws ++ [x]) := by
  have hw1 : (upd H pf (DictN P w pf (kvs ++ [(cfgK x, b, .bl true)]))) pw = some (.lst refs) := by rw [upd_ne S.ne.symm]; exact S.wts
  have k1 : TKp K H (upd H pf (DictN P w pf (kvs ++ [(cfgK x, b, .bl true)]))) := TKp.upd S.fnd (fun _ z => by unfold DictN at z; cases z) (fun _ _ z => by unfold DictN at z; cases z)
  have t1 : TT H (upd H pf (DictN P w pf (kvs ++ [(cfgK x, b, .bl true)]))) := TT.upd S.fnd (fun _ z => by unfold DictN at z; cases z)
  generalize hH1 : upd H pf (DictN P w pf (kvs ++ [(cfgK x, b, .bl true)])) = H1 at *
  have hf1 : H1 pf = some (DictN P w pf (kvs ++ [(cfgK x, b, .bl true)])) := by rw [← hH1]; exact upd_same
  have k2 : TKp K H (upd H1 pw (.lst (refs ++ [.ref b]))) := k1.trans (TKp.lst hw1)
  have t2 : TT H (upd H1 pw (.lst (refs ++ [.ref b]))) := fun a xs h => TT.upd hw1 (fun _ z => by cases z) _ _ (t1 a xs h)
  refine ⟨by rw [upd_ne S.ne]; exact hf1, fun q hq => ?_, by rw [List.map_append, List.map_append, S.fk]; rfl, upd_same, Paired.snoc (cfgs_keep t2 S.wp) (hv.tt t2), ?_, fun y hy => ?_, fun y hy => ?_⟩
  · rcases List.mem_append.mp hq with h | h
    · exact dkn_keep k2 S.dk q h
    · rw [List.mem_singleton.mp h]
      exact ⟨(hv.tt t2).key, cfgK_depth x⟩
  · rw [List.nodup_append]
    exact ⟨S.nd, by simp, fun y hy z hz e => by rw [List.mem_singleton] at hz; subst hz e; exact hn hy⟩
  · rw [List.length_append, List.length_singleton]
    rcases List.mem_append.mp hy with h | h
    · obtain ⟨wd, T, hT⟩ := S.snd y h
      exact ⟨wd, T, hT.up (Nat.le_succ _)⟩
    · rw [List.mem_singleton.mp h]
      exact hs
  · rcases List.mem_append.mp hy with h | h
    · exact List.mem_append_left _ (S.sub y h)
    · exact List.mem_append_right _ h
end
def Ex2 (p q : Addr) (H H' : Hp) : Prop := ∀ b o, b ≠ p → b ≠ q → H b = some o → H' b = some o
theorem Ex2.refl (p q : Addr) (H : Hp) : Ex2 p q H H := fun _ _ _ _ h => h
theorem Ex2.trans {p q : Addr} {H H1 H2 : Hp} (x : Ex2 p q H H1) (y : Ex2 p q H1 H2) : Ex2 p q H H2 := fun b o n m h => y b o n m (x b o n m h)
theorem Ex2.of {p q : Addr} {H H' : Hp} (e : Ex H H') : Ex2 p q H H' := fun b o _ _ h => e b o h
theorem Ex2.up1 {p q : Addr} {H : Hp} {o : HO} : Ex2 p q H (L2.upd H p o) := fun b u n _ h => by rw [upd_ne n]; exact h
theorem Ex2.up2 {p q : Addr} {H : Hp} {o : HO} : Ex2 p q H (L2.upd H q o) := fun b u _ n h => by rw [upd_ne n]; exact h
theorem Stt.tt {M : M1.Mach} {c p g : Nat} {pf pw : Addr} {H H' : Hp} {kvs : List (NestedKey × Addr × V)} {refs : List V} {fs ws : List M1.Cfg} (S : Stt K P w M c p g pf pw H kvs refs fs ws) (e : Ex2 pf pw H H') : TT H H' := fun b xs h => e b _ (fun z => by subst z; rw [S.fnd] at h; unfold DictN at h; cases h) (fun z => by subst z; rw [S.wts] at h; cases h) h
/-- all steps of a state are found, none of them bad -/
def Dne (M : M1.Mach) (c p g : Nat) (fs : List M1.Cfg) (x : M1.Cfg) : Prop := ∀ B l a, M1.Opt p g M.st.length x.2.1 x.2.2 B l → a < M.k → ¬ M.bad c x.1 B a ∧ M.nxt x.1 B l a ∈ fs
theorem Dne.mono {M : M1.Mach} {c p g : Nat} {fs fs' : List M1.Cfg} {x : M1.Cfg} (h : ∀ y ∈ fs, y ∈ fs') (d : Dne M c p g fs x) : Dne M c p g fs' x := fun B l a ho ha => ⟨(d B l a ho ha).1, h _ (d B l a ho ha).2⟩
/-! ### rules -/
def EvC (te : TE) (σ : L2.St) (H : Hp) (x : M1.Cfg) : Prop := ∀ H1, Ex H H1 → ∀ Q : VK, (∀ v H2, Ex H1 H2 → CfgAt H2 v x → Q v H2) → te σ H1 Q
theorem ec_mk {ta tb tc : TE} {σ : L2.St} {H : Hp} {r n : Nat} {A : List Nat} (ha : Ev ta σ H (.int (r : Int))) (hb : EvX tb σ H A) (hc : Ev tc σ H (.int (n : Int))) : EvC (tTup (tCons ta (tCons tb (tCons tc tNil)))) σ H (r, A, n) := fun H1 e Q q =>
  ha H1 e _ fun H2 e2 => hb H2 (e.trans e2) _ fun b H3 e3 h3 => hc H3 ((e.trans e2).trans e3) _ fun H4 e4 => ⟨by show 3 ≤ sizeLine; decide, fun t ht => q (.ref t) _ (((e2.trans e3).trans e4).trans (Ex.new ht)) ⟨t, b, rfl, upd_same, Ex.new ht _ _ (e4 _ _ h3)⟩⟩
theorem ex_var {σ : L2.St} {H : Hp} {i : Nat} {b : Addr} {A : List Nat} (h : σ[i]? = some (some (.ref b))) (hA : H b = some (.tup (rowV A))) : EvX (tVar i) σ H A := fun H1 e Q q => ⟨.ref b, h, q b H1 (Ex.refl H1) (e _ _ hA)⟩
theorem rep_flat (c : Nat) : (List.replicate c [V.int (0 : Int)]).flatten = rowV (List.replicate c 0) := by
  induction c with
  | zero => rfl
  | succ c ih =>
    rw [List.replicate_succ, List.flatten_cons, ih, List.replicate_succ]
    rfl
theorem ex_rep {σ : L2.St} {H : Hp} {i c : Nat} (h : σ[i]? = some (some (.int (c : Int)))) (c1 : 1 ≤ c) (c5 : c ≤ 5) : EvX (tOp (rRepX K) (tTup (tCons (tC (.int 0)) tNil)) (tVar i)) σ H (List.replicate c 0) := fun H1 e Q q =>
  ⟨by show 1 ≤ sizeLine; decide, fun t ht => ⟨.int (c : Int), h, t, (c : Int), [.int 0], rfl, rfl, upd_same, by simp, by omega, by omega, by show 1 ≤ 100; decide, fun b H2 e2 hb => q b H2 ((Ex.new ht).trans e2) (by rw [hb, Int.toNat_natCast, rep_flat])⟩⟩
def OptAt (H : Hp) (v : V) (q : List Nat × Nat) : Prop := ∃ a b, v = .ref a ∧ H a = some (.tup [.ref b, .int (q.2 : Int)]) ∧ H b = some (.tup (rowV q.1))
theorem opts_keep {H H' : Hp} (t : TT H H') : ∀ {refs : List V} {os : List (List Nat × Nat)}, Paired (OptAt H) refs os → Paired (OptAt H') refs os
  | _, _, .nil => .nil
  | _, _, .cons ⟨a, b, h1, h2, h3⟩ r => .cons ⟨a, b, h1, t _ _ h2, t _ _ h3⟩ (opts_keep t r)
/-- [x for x in t if ..] -/
theorem el_lcF {a : Addr} {B : List Nat} {tl : TE} {j : Nat} {vs : List Nat} {tt : L2.TT} {te : TE} {σ : L2.St} {H : Hp} (f : Nat → Bool) (h : Ev tl σ H (.ref a)) (hx : SqT K H a (rowV B)) (wz : B.length ≤ 40000) (hw : ∀ x, wipe ((wipe σ vs).set j (some x)) vs = wipe σ vs)
    (he : ∀ (i x : Nat) H1, Ex H H1 → B[i]? = some x → EvT tt ((wipe σ vs).set j (some (nV x))) H1 (f x)) (hv : ∀ (x : Nat) H1, Ev te ((wipe σ vs).set j (some (nV x))) H1 (nV x)) :
    EvL (tLc (iTup K tl) (gName j) tt te vs) σ H (rowV (B.filter f)) := fun H0 e Q q => h H0 e _ fun H1 e1 => ⟨a, rfl, ⟨_, ex_t (e.trans e1) hx⟩, fun D hD =>
  lc_tup (xs := rowV B) (fun i H' => Ex H1 H' ∧ H' D = some (.lst (rowV ((B.take i).filter f)))) ⟨Ex.new hD, upd_same⟩ (fun i H' _ p => ex_t ((e.trans e1).trans p.1) hx) (fun i z H' hi p => by
    obtain ⟨x, hx', rfl⟩ := map_of hi
    refine ⟨hw _, he i x H' ((e.trans e1).trans p.1) hx' H' (Ex.refl _) _ fun H3 e3 => ?_⟩
    cases hf : f x with
    | true =>
      refine (if_pos rfl).mpr (hv x H3 H3 (Ex.refl _) _ fun H4 e4 => ⟨_, (e3.trans e4) _ _ p.2, sz_lt ?_, Ex.mut (p.1.trans (e3.trans e4)) hD, ?_⟩)
      · rw [rowV_len]
        have := List.length_filter_le f (B.take i)
        rw [List.length_take] at this
        omega
      · rw [upd_same, M1.take_succ' hx', List.filter_append, List.filter_cons, if_pos hf, List.filter_nil, rowV_snoc]
    | false =>
      refine (if_neg (by decide)).mpr ⟨p.1.trans e3, ?_⟩
      rw [e3 _ _ p.2, M1.take_succ' hx', List.filter_append, List.filter_cons, if_neg (by rw [hf]; decide), List.filter_nil, List.append_nil]) (fun H' p => q D H' (fresh_back e1 hD) (e1.trans p.1) (by
    have z := p.2
    rwa [rowV_len, List.take_length] at z))⟩
/-- [f(x) for x in t] -/
theorem el_lcM {a : Addr} {B : List Nat} {tl : TE} {j : Nat} {vs : List Nat} {te : TE} {σ : L2.St} {H : Hp} (f : Nat → Nat) (h : Ev tl σ H (.ref a)) (hx : SqT K H a (rowV B)) (wz : B.length ≤ 40000) (hw : ∀ x, wipe ((wipe σ vs).set j (some x)) vs = wipe σ vs)
    (hv : ∀ (i x : Nat) H1, Ex H H1 → B[i]? = some x → Ev te ((wipe σ vs).set j (some (nV x))) H1 (nV (f x))) :
    EvL (tLc (iTup K tl) (gName j) tYes te vs) σ H (rowV (B.map f)) := fun H0 e Q q => h H0 e _ fun H1 e1 => ⟨a, rfl, ⟨_, ex_t (e.trans e1) hx⟩, fun D hD =>
  lc_tup (xs := rowV B) (fun i H' => Ex H1 H' ∧ H' D = some (.lst (rowV ((B.take i).map f)))) ⟨Ex.new hD, upd_same⟩ (fun i H' _ p => ex_t ((e.trans e1).trans p.1) hx) (fun i z H' hi p => by
    obtain ⟨x, hx', rfl⟩ := map_of hi
    refine ⟨hw _, yesT ?_⟩
    refine hv i x H' ((e.trans e1).trans p.1) hx' H' (Ex.refl _) _ fun H4 e4 => ⟨_, e4 _ _ p.2, sz_lt ?_, Ex.mut (p.1.trans e4) hD, ?_⟩
    · rw [rowV_len, List.length_map, List.length_take]
      omega
    · rw [upd_same, M1.take_succ' hx', List.map_append, List.map_singleton, rowV_snoc]) (fun H' p => q D H' (fresh_back e1 hD) (e1.trans p.1) (by
    have z := p.2
    rwa [rowV_len, List.take_length] at z))⟩
end

end Kx
namespace Kx
open PySem PySem.Spec PyProof.Rows L2

open Evl RZ
section
variable {P : Program} {w : World} {K : PySem.W.Frag} {mg : Str → Option Value} {base : Heap}
theorem ev_min2 {ta tb : TE} {σ : L2.St} {H : Hp} {i j : Int} (ha : Ev ta σ H (.int i)) (hb : Ev tb σ H (.int j)) : Ev (tCB (fun xs H Q => ∃ i j, xs = [V.int i, V.int j] ∧ Q (.int (if j < i then j else i)) H) (tCons ta (tCons tb tNil))) σ H (.int (if j < i then j else i)) := fun H1 e Q q =>
  ha H1 e _ fun H2 e2 => hb H2 (e.trans e2) _ fun H3 e3 => ⟨i, j, rfl, q H3 (e2.trans e3)⟩
theorem q_asgE {te : TE} {tz : TS} {D : Ends} {σ : L2.St} {H : Hp} {i : Nat} (P : V → Hp → Prop) (h : ∀ Q : VK, (∀ v H1, Ex H H1 → P v H1 → Q v H1) → te σ H Q) (k : ∀ v H1, Ex H H1 → P v H1 → tz D (σ.set i (some v)) H1) : tSeq (tAsg te (gName i)) tz D σ H := h _ k
theorem eo_one {te : TE} {σ : L2.St} {H : Hp} {q : List Nat × Nat} (h : ∀ Q : VK, (∀ v H1, Ex H H1 → OptAt H1 v q → Q v H1) → te σ H Q) (Q : VK) (k : ∀ v H1, Ex H H1 → (∃ p u, v = .ref p ∧ H p = none ∧ H1 p = some (.lst [u]) ∧ Paired (OptAt H1) [u] [q]) → Q v H1) : tLst (tCons te tNil) σ H Q :=
  h _ fun v H1 e1 h1 => ⟨by show 1 ≤ sizeLine; decide, fun p hp => k _ _ (e1.trans (Ex.new hp)) ⟨p, v, rfl, fresh_back e1 hp, upd_same, opts_keep (TT.ex (Ex.new hp)) (.cons h1 .nil)⟩⟩
theorem eo_mk {ta tb : TE} {σ : L2.St} {H : Hp} {A : List Nat} {l : Nat} (ha : EvX ta σ H A) (hb : Ev tb σ H (.int (l : Int))) (Q : VK) (k : ∀ v H1, Ex H H1 → OptAt H1 v (A, l) → Q v H1) : tTup (tCons ta (tCons tb tNil)) σ H Q :=
  ha H (Ex.refl _) _ fun b H2 e2 h2 => hb H2 e2 _ fun H3 e3 => ⟨by show 2 ≤ sizeLine; decide, fun t ht => k _ _ ((e2.trans e3).trans (Ex.new ht)) ⟨t, b, rfl, upd_same, Ex.new ht _ _ (e3 _ _ h2)⟩⟩
def sp_lfails (K : PySem.W.Frag) : Sp := fun vs H Q _ => ∃ (v : V) (M : M1.Mach) (c p g : Nat) (o : Option Nat), vs = [v, .int (c : Int), .int (p : Int), .int (g : Int)] ∧ MacAt K H v M.st M.an ∧ M.Ok ∧ M.st.length ≤ 3 ∧ M.LateIs o ∧ 1 ≤ c ∧ c ≤ 5 ∧ p ≤ 100 ∧ 1 ≤ g ∧ g ≤ 3 ∧
  ∀ b H2, Ex H H2 → (b = true ↔ ¬ ∃ m, M1.needed o p g = some m ∧ m ≤ c) → Q (.bl b) H2
theorem has_law_fails (T : Txt K mg) (h_law_pushed : Has P w K mg base "_law_pushed" 1 ["states", "pushed", "many"] sp_lpushed) {f : Addr} {fd : FuncData} (F : Fun K "_law_fails" "_law_fails" s_law_fails f fd) (g : mg "_law_fails" = some (.ref f)) (B : Binds K fd ["machine", "copies", "pushed", "room"] []) : Has P w K mg base "_law_fails" 2 ["machine", "copies", "pushed", "room"] (sp_lfails K) := by
  refine Has.mk' g F.kp B (F.ok sc_law_fails (fun vs H Q E h => ?_) (fun cdv A0 outer s H vs Q E hr h => ?_))
  · obtain ⟨v, M, c, p, g, o, rfl, _⟩ := h
    rfl
  · obtain ⟨v, M, c, p, gg, o, rfl, hM, ok, m3, hL, c1, c5, hp, g1, g3, k⟩ := h
    obtain ⟨a, x, y, rfl, hS, ⟨ax, vx, rfl, hSx, hPx⟩, ⟨ay, vy, rfl, hSy, hPy⟩⟩ := id hM
    have hvl : vx.length = M.st.length := Paired.length hPx
    have k3 := ok.k3
    have k1 := ok.k1
    obtain ⟨r0, hr0⟩ := row0 ok
    obtain ⟨a0, g0, hS0⟩ := tab_get hPx r0
    refine ⟨_, (pss_cons (ps_par (i := 4) (j := 5) (by rfl) sc_law_fails.nd rfl rfl (by decide) rfl rfl (pa_cons (pe_callB (call_lenK (K := K) rfl) (by rfl) T.b_len bt_len (pa_cons (pe_ix (ix_tupK (K := K) rfl) (pv 0) pe_int (fun _ _ => rfl)) pa_nil)) (pa_cons (pe_tup (pa_cons pe_int (pa_cons (pe_op (op_repX (K := K) rfl) (pe_tup (pa_cons pe_int pa_nil)) (pv 1)) (pa_cons (pv 3) pa_nil)))) pa_nil)) (by rfl))
      (pss_cons (ps_par (i := 6) (j := 7) (by rfl) sc_law_fails.nd rfl rfl (by decide) rfl rfl (pa_cons (pe_dispN (hu9_of hr) (pv 5) pe_bl) (pa_cons (pe_lst (pa_cons (pv 5) pa_nil)) pa_nil)) (by rfl))
      (pss_cons (ps_while PassesOwn.never (pt_cmpR (op_neDK (K := K) rfl hr.units) (pv 7) (pe_lst pa_nil) (nomark _))
      (pss_cons (ps_asg (pe_bm0 PySem.F.plainAttrs_list PySem.F.slot_list_pop PySem.F.type_list_pop mt_pop (pv 7)) (pg_tupK (K := K) (n := 3) rfl (by rfl) (pgs_cons (pg_name (i := 8) sc_law_fails.nd rfl (.inr rfl)) (pgs_cons (pg_name (i := 9) sc_law_fails.nd rfl (.inl rfl)) (pgs_cons (pg_name (i := 10) sc_law_fails.nd rfl (.inl rfl)) pgs_nil)))))
      (pss_cons (ps_set (i := 11) sc_law_fails.nd rfl (.inl rfl) (pe_lst (pa_cons (pe_tup (pa_cons (pv 9) (pa_cons (pe_callB (call_min2 rfl) (by rfl) T.b_min bt_min (pa_cons (pv 3) (pa_cons (pe_op op_add (pv 10) pe_int) pa_nil))) pa_nil))) pa_nil)))
      (pss_cut (ps_if (pt_cmpR op_ge (pv 10) (pv 3) (nomark _))
      (pss_one (ps_set (i := 11) sc_law_fails.nd rfl (.inl rfl) (pe_op op_cat (pv 11) (pe_lc (own := [("other", 12)]) (g := gName 12) (tt := tYes) (by rfl) sc_law_fails.nd (pi_listK (K := K) rfl (pe_has h_law_pushed (hr.mono (by first | decide | exact Nat.le_refl _)) (by rfl) (pa_cons (pv 9) (pa_cons (pv 2) (pa_cons (pv 4) pa_nil))))) (blkOk_by (N := N_law_fails) (sc := defScope s_law_fails) (by decide +kernel)) (fun _ _ _ _ _ => pg_name (i := 12) sc_law_fails.nd rfl (Or.inl rfl)) (fun _ _ _ _ _ => pts_nil) (fun _ _ _ _ _ => (pe_tup (pa_cons (pv 12) (pa_cons pe_int pa_nil))))))))
      pss_nil)
      (pss_one (ps_for PassesOwn.never rfl (pi_listK (K := K) rfl (pv 11)) (pg_tupK (K := K) (n := 2) rfl (by rfl) (pgs_cons (pg_name (i := 12) sc_law_fails.nd rfl (.inl rfl)) (pgs_cons (pg_name (i := 13) sc_law_fails.nd rfl (.inl rfl)) pgs_nil)))
      (pss_one (ps_for PassesOwn.never rfl (pi_range1 (by rfl) T.b_range (pa_cons (pe_callB (call_lenK (K := K) rfl) (by rfl) T.b_len bt_len (pa_cons (pe_ix (ix_tupK (K := K) rfl) (pe_ix (ix_tupK (K := K) rfl) (pv 0) pe_int (fun _ _ => rfl)) pe_int (fun _ _ => rfl)) pa_nil)) pa_nil)) (pg_name (i := 14) sc_law_fails.nd rfl (.inr rfl))
      (pss_cons (ps_setLc (i := 15) (own := [("state", 18)]) (g := gName 18) (by rfl) sc_law_fails.nd rfl rfl (sw_true rfl rfl rfl (by decide +kernel)) (pi_tupK (K := K) rfl (pv 12)) (blkOk_by (N := N_law_fails) (sc := defScope s_law_fails) (by decide +kernel)) (fun _ _ _ _ _ => pg_name (i := 18) sc_law_fails.nd rfl (Or.inl rfl)) (fun _ _ _ _ _ => pts_one (pt_cmpR op_eq (pe_ix (ix_tupK (K := K) rfl) (pe_ix (ix_tupK (K := K) rfl) (pe_ix (ix_tupK (K := K) rfl) (pv 0) pe_int (fun _ _ => rfl)) (pv 18) (fun _ _ => rfl)) (pv 14) (fun _ _ => rfl)) (pe_ix (ix_tupK (K := K) rfl) (pe_ix (ix_tupK (K := K) rfl) (pe_ix (ix_tupK (K := K) rfl) (pv 0) pe_int (fun _ _ => rfl)) (pv 8) (fun _ _ => rfl)) (pv 14) (fun _ _ => rfl)) (nomark _))) (fun _ _ _ _ _ => (pv 18)))
      (pss_cons (ps_if (pt_cmpR op_le (pe_op op_mul pe_int (pe_callB (call_lenK (K := K) rfl) (by rfl) T.b_len bt_len (pa_cons (pv 15) pa_nil))) (pv 1) (nomark _))
      (pss_one (ps_ret pe_bl))
      pss_nil)
      (pss_cut (ps_set (i := 16) sc_law_fails.nd rfl (.inl rfl) (pe_callTy (call_tupleK (K := K) rfl) (by rfl) T.b_tuple bt_tuple (pa_cons (pe_callB (cr_sortedIK (K := K) rfl) (by rfl) T.b_sorted bt_sorted (pa_cons (pe_lc (own := [("state", 18)]) (g := gName 18) (tt := tYes) (by rfl) sc_law_fails.nd (pi_tupK (K := K) rfl (pv 12)) (blkOk_by (N := N_law_fails) (sc := defScope s_law_fails) (by decide +kernel)) (fun _ _ _ _ _ => pg_name (i := 18) sc_law_fails.nd rfl (Or.inl rfl)) (fun _ _ _ _ _ => pts_nil) (fun _ _ _ _ _ => (pe_ix (ix_tupK (K := K) rfl) (pe_ix (ix_tupK (K := K) rfl) (pe_ix (ix_tupK (K := K) rfl) (pv 0) pe_int (fun _ _ => rfl)) (pv 18) (fun _ _ => rfl)) (pv 14) (fun _ _ => rfl)))) pa_nil)) pa_nil)))
      (pss_cons (ps_set (i := 17) sc_law_fails.nd rfl (.inl rfl) (pe_tup (pa_cons (pe_ix (ix_tupK (K := K) rfl) (pe_ix (ix_tupK (K := K) rfl) (pe_ix (ix_tupK (K := K) rfl) (pv 0) pe_int (fun _ _ => rfl)) (pv 8) (fun _ _ => rfl)) (pv 14) (fun _ _ => rfl)) (pa_cons (pv 16) (pa_cons (pv 13) pa_nil)))))
      (pss_one (ps_if (pt_cmp (pc_dnotinNk (hu9_of hr) (pv 17) (pv 6)))
      (pss_cons (ps_dputN (hu9_of hr) (pv 6) (pv 17) pe_bl rfl)
      (pss_one (ps_expr (pe_bm PySem.F.plainAttrs_list PySem.F.slot_list_append PySem.F.type_list_append mt_append (pv 7) (pa_cons (pv 17) pa_nil)))))
      pss_nil))))))))))))))
      (pss_one (ps_ret pe_bl))))), ?_⟩
    refine (ev_lenT (K := K) (ev_op (ev_var rfl) ev_c (rv_ixT (K := K) hS (atI_nat (j := 0) rfl))) hSx) _ (Ex.refl _) _ fun H1 e1 => ?_
    refine ec_mk (r := 0) (n := gg) ev_c (ex_rep (c := c) rfl c1 c5) (ev_var rfl) _ (Ex.refl _) _ fun vs H2 e2 hst => ?_
    obtain ⟨ps, bs, rfl, h1, h2⟩ := id hst
    refine ⟨_, _, rfl, ?_⟩
    refine fun pf hpf => ⟨.ref ps, rfl, ps, cfgK (0, List.replicate c 0, gg), rfl, upd_same, (hst.tt (TT.ex (Ex.new hpf))).key, cfgK_depth _, ?_⟩
    have e12 := e1.trans e2
    have e3 : Ex H2 (upd (upd H2 pf (DictN P w pf [])) pf (DictN P w pf [(cfgK (0, List.replicate c 0, gg), ps, .bl true)])) := Ex.mut (Ex.new hpf) hpf
    have hf3 : (upd (upd H2 pf (DictN P w pf [])) pf (DictN P w pf [(cfgK (0, List.replicate c 0, gg), ps, .bl true)])) pf = some (DictN P w pf [(cfgK (0, List.replicate c 0, gg), ps, .bl true)]) := upd_same
    refine ⟨.ref ps, rfl, by show 1 ≤ sizeLine; decide, fun pw hpw => ⟨_, _, rfl, ?_⟩⟩
    have nf : H pf = none := fresh_back e12 hpf
    have e13 := e12.trans e3
    have nw : H pw = none := fresh_back e13 hpw
    have e4 : Ex (upd (upd H2 pf (DictN P w pf [])) pf (DictN P w pf [(cfgK (0, List.replicate c 0, gg), ps, .bl true)])) (upd (upd (upd H2 pf (DictN P w pf [])) pf (DictN P w pf [(cfgK (0, List.replicate c 0, gg), ps, .bl true)])) pw (.lst [.ref ps])) := Ex.new hpw
    have S4 : Stt K P w M c p gg pf pw (upd (upd (upd H2 pf (DictN P w pf [])) pf (DictN P w pf [(cfgK (0, List.replicate c 0, gg), ps, .bl true)])) pw (.lst [.ref ps])) [(cfgK (0, List.replicate c 0, gg), ps, .bl true)] [.ref ps] [(0, List.replicate c 0, gg)] [(0, List.replicate c 0, gg)] := by
      have hc := (hst.tt (TT.ex (e3.trans e4)))
      refine ⟨e4 _ _ hf3, fun q hq => ?_, rfl, upd_same, .cons hc .nil, by simp, fun x hx => ?_, fun x hx => hx⟩
      · rw [List.mem_singleton.mp hq]
        exact ⟨hc.key, cfgK_depth _⟩
      · rw [List.mem_singleton.mp hx]
        exact ⟨[], [], (M1.Mach.Snd.start g1).up (Nat.zero_le _)⟩
    have e14 := e13.trans e4
    refine st_lit (σ' := [some (.ref a), some (.int (c : Int)), some (.int (p : Int)), some (.int (gg : Int)), some (.int (M.st.length : Int)), some (.ref ps), some (.ref pf), some (.ref pw), none, none, none, none, none, none, none, none, none, none, none]) (by rw [← hvl]; rfl) ?_
    refine q_while (fun m σ' H' => ∃ (kvs : List (NestedKey × Addr × V)) (refs : List V) (fs ws : List M1.Cfg) (l8 l9 l10 l11 l12 l13 l14 l15 l16 l17 l18 : Option V), σ' = [some (.ref a), some (.int (c : Int)), some (.int (p : Int)), some (.int (gg : Int)), some (.int (M.st.length : Int)), some (.ref ps), some (.ref pf), some (.ref pw), l8, l9, l10, l11, l12, l13, l14, l15, l16, l17, l18] ∧ Ex H H' ∧ Stt K P w M c p gg pf pw H' kvs refs fs ws ∧ (0, List.replicate c 0, gg) ∈ fs ∧ (∀ y ∈ fs, y ∈ ws ∨ Dne M c p gg fs y) ∧ 2 * (433 - fs.length) + ws.length ≤ 865 ∧ m = 2 * (433 - fs.length) + ws.length) _
      ⟨_, _, _, _, none, none, none, none, none, none, none, none, none, none, none, rfl, e14, S4, List.mem_singleton.mpr rfl, fun y hy => .inl hy, by show 2 * (433 - 1) + 1 ≤ 865; decide, rfl⟩ ?_
    rintro m σ' H5 ⟨kvs, refs, fs0, ws, l8, l9, l10, l11, l12, l13, l14, l15, l16, l17, l18, rfl, e5, S5, st5, dn5, m5, rfl⟩
    refine ⟨!decide (ws = []), et_test (ev_opL (xs := []) (ev_var rfl) (el_lst ea_nil (by show 0 ≤ 100000; decide)) fun p H6 h6 e6 => rv_neC (e6 _ _ S5.wts) (cfgs_keep (TT.ex e6) S5.wp) h6), fun bb H6 e6 => ?_, fun bb H6 e6 => ?_⟩
    · have hne : ws ≠ [] := fun z => by rw [z] at bb; cases bb
      obtain ⟨ws0, x, rfl⟩ : ∃ ws0 x, ws = ws0 ++ [x] := ⟨ws.dropLast, ws.getLast hne, (List.dropLast_concat_getLast hne).symm⟩
      obtain ⟨refs0, v, rfl, hP0, hv⟩ := paired_unsnoc S5.wp
      have S6 := S5.ex e6
      have S7 := S6.pop (cfgs_keep (TT.ex e6) hP0)
      have hv6 := hv.tt (TT.ex e6)
      have hxf := S5.sub x (List.mem_append_right _ (List.mem_singleton.mpr rfl))
      have l0 := S5.len ok m3 c5 g3
      have m5' : 2 * (433 - fs0.length) + ws0.length ≤ 864 := by rw [List.length_append, List.length_singleton] at m5; omega
      refine ⟨fun σ2 H' => ∃ m', m' < 2 * (433 - fs0.length) + (ws0 ++ [x]).length ∧ ∃ (kvs : List (NestedKey × Addr × V)) (refs : List V) (fs ws : List M1.Cfg) (l8 l9 l10 l11 l12 l13 l14 l15 l16 l17 l18 : Option V), σ2 = [some (.ref a), some (.int (c : Int)), some (.int (p : Int)), some (.int (gg : Int)), some (.int (M.st.length : Int)), some (.ref ps), some (.ref pf), some (.ref pw), l8, l9, l10, l11, l12, l13, l14, l15, l16, l17, l18] ∧ Ex H H' ∧ Stt K P w M c p gg pf pw H' kvs refs fs ws ∧ (0, List.replicate c 0, gg) ∈ fs ∧ (∀ y ∈ fs, y ∈ ws ∨ Dne M c p gg fs y) ∧ 2 * (433 - fs.length) + ws.length ≤ 865 ∧ m' = 2 * (433 - fs.length) + ws.length, fun σ2 H' h => h, ?_⟩
      refine ⟨.ref pw, rfl, Or.inl ⟨rfl, _, sq_of S6.wts⟩, pw, _, v, rfl, rfl, S6.wts, by simp, ?_⟩
      rw [show (refs0 ++ [v]).dropLast = refs0 by simp]
      have t7 : TT H6 (upd H6 pw (.lst refs0)) := TT.upd S6.wts fun _ z => by cases z
      have hv7 := hv6.tt t7
      have e7 : Ex H (upd H6 pw (.lst refs0)) := Ex.mut (e5.trans e6) nw
      generalize upd H6 pw (.lst refs0) = H7 at *
      obtain ⟨r, A, n⟩ := x
      obtain ⟨ta, tb, rfl, h7a, h7b⟩ := id hv7
      refine ⟨ta, _, rfl, SqT.of h7a, rfl, _, _, rfl, _, _, rfl, _, _, rfl, rfl, ?_⟩
      obtain ⟨wd, S, hSnd⟩ := S5.snd _ hxf
      obtain ⟨lr, lA, ltA, sA⟩ := hSnd.lts ok
      have rowA : M1.Row3 c A := (hSnd.cfg3 ok m3 g3).A
      have lt1 : Ev (tOp (rI0 fun i j => V.int (i + j)) (tVar 10) (tC (.int 1))) [some (.ref a), some (.int (c : Int)), some (.int (p : Int)), some (.int (gg : Int)), some (.int (M.st.length : Int)), some (.ref ps), some (.ref pf), some (.ref pw), some (.int (r : Int)), some (.ref tb), some (.int (n : Int)), l11, l12, l13, l14, l15, l16, l17, l18] H7 (.int ((n : Int) + 1)) := ev_op (ev_var rfl) ev_c rv_I0
      dsimp only
      refine st_lit (σ' := [some (.ref a), some (.int (c : Int)), some (.int (p : Int)), some (.int (gg : Int)), some (.int (M.st.length : Int)), some (.ref ps), some (.ref pf), some (.ref pw), some (.int (r : Int)), some (.ref tb), some (.int (n : Int)), l11, l12, l13, l14, l15, l16, l17, l18]) rfl ?_
      have lmin : Ev (tCB (fun xs H Q => ∃ i j, xs = [V.int i, V.int j] ∧ Q (V.int (if j < i then j else i)) H) (tCons (tVar 3) (tCons (tOp (rI0 fun i j => V.int (i + j)) (tVar 10) (tC (.int 1))) tNil))) [some (.ref a), some (.int (c : Int)), some (.int (p : Int)), some (.int (gg : Int)), some (.int (M.st.length : Int)), some (.ref ps), some (.ref pf), some (.ref pw), some (.int (r : Int)), some (.ref tb), some (.int (n : Int)), l11, l12, l13, l14, l15, l16, l17, l18] H7 (.int ((min gg (n + 1) : Nat) : Int)) := by
        have := ev_min2 (i := (gg : Int)) (j := (n : Int) + 1) (ev_var (i := 3) rfl) lt1
        rwa [show (if (n : Int) + 1 < (gg : Int) then (n : Int) + 1 else (gg : Int)) = ((min gg (n + 1) : Nat) : Int) by split <;> omega] at this
      refine q_asgE (i := 11) _ (eo_one (q := (A, min gg (n + 1))) (eo_mk (ex_var (i := 9) rfl h7b) lmin)) ?_
      rintro _ H9 e79 ⟨p1, u1, rfl, np1, h9, O9⟩
      refine st_lit (σ' := [some (.ref a), some (.int (c : Int)), some (.int (p : Int)), some (.int (gg : Int)), some (.int (M.st.length : Int)), some (.ref ps), some (.ref pf), some (.ref pw), some (.int (r : Int)), some (.ref tb), some (.int (n : Int)), some (.ref p1), l12, l13, l14, l15, l16, l17, l18]) rfl ?_
      refine ⟨fun σ' H' => ∃ (po : Addr) (ors : List V) (opts : List (List Nat × Nat)) (l12 l13 l14 l15 l16 l17 l18 : Option V), σ' = [some (.ref a), some (.int (c : Int)), some (.int (p : Int)), some (.int (gg : Int)), some (.int (M.st.length : Int)), some (.ref ps), some (.ref pf), some (.ref pw), some (.int (r : Int)), some (.ref tb), some (.int (n : Int)), some (.ref po), l12, l13, l14, l15, l16, l17, l18] ∧ Ex H7 H' ∧ H7 po = none ∧ H' po = some (.lst ors) ∧ Paired (OptAt H') ors opts ∧ ∀ B l, (B, l) ∈ opts ↔ M1.Opt p gg M.st.length A n B l, ?_, ?_⟩
      · refine s_when (b := decide ((gg : Int) ≤ (n : Int))) (et_test (ev_op (ev_var rfl) (ev_var rfl) rv_I0)) (fun bb H10 e10 => ?_) (fun bb H10 e10 => ?_)
        · have hgn : gg ≤ n := by have := of_decide_eq_true bb; omega
          refine ⟨.ref p1, rfl, ?_⟩
          refine ⟨.ref tb, rfl, .int (p : Int), rfl, .int (M.st.length : Int), rfl, tb, p, M.st.length, c, A, rfl, e10 _ _ (e79 _ _ h7b), c1, c5, m3, hp, rowA, ltA, fun pl H11 rs Bs hpl e11 hl11 hP11 hB11 h36 => ?_⟩
          refine ⟨pl, rfl, ⟨_, sq_of hl11⟩, fun D hD => lc_list (xs := rs) (fun i H' => Ex H11 H' ∧ ∃ os, H' D = some (.lst os) ∧ Paired (OptAt H') os ((Bs.take i).map fun B => (B, 1))) ⟨Ex.new hD, [], upd_same, .nil⟩ (fun i H' _ q => sq_of (q.1 _ _ hl11)) (fun i z H' hz q => ?_) (fun H' q => ?_)⟩
          · obtain ⟨B, hB, tB, rfl, htB⟩ := Paired.get' hP11 hz
            obtain ⟨q1, os, q2, q3⟩ := q
            refine ⟨rfl, yesT ?_⟩
            refine eu_tup (ea_cons (ev_var rfl) (ea_cons ev_c ea_nil)) (by show 2 ≤ 100000; decide) _ (Ex.refl _) _ fun t H12 ht e12' h12 => ⟨os, e12' _ _ q2, ?_, Ex.mut (q1.trans e12') hD, _, upd_same, ?_⟩
            · have := Paired.length q3
              rw [List.length_map, List.length_take] at this
              exact small1000 (by omega)
            · have t13 : TT H12 (upd H12 D (.lst (os ++ [.ref t]))) := TT.upd (e12' _ _ q2) (fun _ z => by cases z)
              rw [M1.take_succ' hB, List.map_append]
              exact Paired.snoc (opts_keep t13 (opts_keep (TT.ex e12') q3)) ⟨t, tB, rfl, t13 _ _ h12, t13 _ _ (e12' _ _ (q1 _ _ htB))⟩
          · obtain ⟨q1, os, q2, q3⟩ := q
            rw [Paired.length hP11, List.take_length] at q3
            have e9f := (e10.trans e11).trans q1
            refine ⟨p1, D, _, _, rfl, rfl, e9f _ _ h9, q2, ?_, fun p6 hp6 => ?_⟩
            · have := Paired.length q3
              rw [List.length_map] at this
              exact Nat.le_of_lt (small1000 (by rw [List.length_singleton]; omega))
            · have e7f := e79.trans e9f
              refine ⟨p6, _, [(A, min gg (n + 1))] ++ Bs.map fun B => (B, 1), _, _, _, _, _, _, _, rfl, e7f.trans (Ex.new hp6), fresh_back e7f hp6, upd_same, paired_app (opts_keep (TT.ex (e9f.trans (Ex.new hp6))) O9) (opts_keep (TT.ex (Ex.new hp6)) q3), fun B l => ?_⟩
              rw [List.mem_append, List.mem_singleton, List.mem_map]
              unfold M1.Opt
              constructor
              · rintro (h | ⟨B', hB', h⟩)
                · exact .inl ⟨congrArg Prod.fst h, congrArg Prod.snd h⟩
                · obtain ⟨h1, h2⟩ := Prod.mk.inj h
                  subst h1
                  exact .inr ⟨hgn, (hB11 _).mp hB', h2.symm⟩
              · rintro (⟨h1, h2⟩ | ⟨_, h1, h2⟩)
                · exact .inl (by rw [h1, h2])
                · exact .inr ⟨B, (hB11 _).mpr h1, by rw [h2]⟩
        · have hgn : ¬ gg ≤ n := fun z => (of_decide_eq_false bb) (by omega)
          refine ⟨p1, _, _, _, _, _, _, _, _, _, rfl, e79.trans e10, np1, e10 _ _ h9, opts_keep (TT.ex e10) O9, fun B l => ?_⟩
          rw [List.mem_singleton]
          unfold M1.Opt
          constructor
          · exact fun h => .inl ⟨congrArg Prod.fst h, congrArg Prod.snd h⟩
          · rintro (⟨h1, h2⟩ | ⟨h1, _⟩)
            · rw [h1, h2]
            · exact absurd h1 hgn
      · rintro σ' Hb ⟨po, ors, opts, l12, l13, l14, l15, l16, l17, l18, rfl, eb, npo, hpo, hO, hopt⟩
        have Sb := S7.ex eb
        have npf : po ≠ pf := fun z => by subst z; rw [S7.fnd] at npo; cases npo
        have npw : po ≠ pw := fun z => by subst z; rw [S7.wts] at npo; cases npo
        refine ⟨.ref po, rfl, po, rfl, ⟨_, sq_of hpo⟩, for_list (xs := ors) (fun i σ' H' => ∃ (kvs : List (NestedKey × Addr × V)) (refs : List V) (fs ws : List M1.Cfg) (l12 l13 l14 l15 l16 l17 l18 : Option V), σ' = [some (.ref a), some (.int (c : Int)), some (.int (p : Int)), some (.int (gg : Int)), some (.int (M.st.length : Int)), some (.ref ps), some (.ref pf), some (.ref pw), some (.int (r : Int)), some (.ref tb), some (.int (n : Int)), some (.ref po), l12, l13, l14, l15, l16, l17, l18] ∧ Ex H H' ∧ Ex2 pf pw Hb H' ∧ Stt K P w M c p gg pf pw H' kvs refs fs ws ∧ (∀ y ∈ fs0, y ∈ fs) ∧ (∀ y ∈ fs, y ∈ ws ∨ Dne M c p gg fs y ∨ y = (r, A, n)) ∧ (∀ (q : Nat) (B : List Nat) (l : Nat), opts[q]? = some (B, l) → q < i → ∀ b, b < M.k → ¬ M.bad c r B b ∧ M.nxt r B l b ∈ fs) ∧ 2 * (433 - fs.length) + ws.length ≤ 2 * (433 - fs0.length) + ws0.length)
          ⟨_, _, fs0, ws0, l12, l13, l14, l15, l16, l17, l18, rfl, e7.trans eb, Ex2.refl _ _ _, Sb, fun _ h => h, fun y hy => ?_, fun q B l _ h => by omega, Nat.le_refl _⟩ (fun i σ' H' _ ⟨_, _, _, _, _, _, _, _, _, _, _, _, _, e2', _⟩ => sq_of (e2' _ _ npf npw hpo)) ?_ ?_⟩
        · rcases dn5 y hy with h | h
          · rcases List.mem_append.mp h with h | h
            · exact .inl h
            · exact .inr (.inr (List.mem_singleton.mp h))
          · exact .inr (.inl h)
        · rintro i z σ' H10 hz ⟨kvs, refs, fs, ws, l12, l13, l14, l15, l16, l17, l18, rfl, e10, x10, S10, sub10, dn10, op10, m10⟩
          obtain ⟨⟨BB, l⟩, hBB, tq, tB, rfl, htq, htB⟩ := Paired.get' hO hz
          have hoB := (hopt BB l).mp (List.mem_of_getElem? hBB)
          have ltB : ∀ s ∈ BB, s < M.st.length := by
            rcases hoB with ⟨h, _⟩ | ⟨_, h, _⟩
            · rw [h]; exact ltA
            · exact h.lt ltA
          have lB : BB.length = c := by
            rcases hoB with ⟨h, _⟩ | ⟨_, h, _⟩
            · rw [h]; exact lA
            · rw [h.len]; exact lA
          refine ⟨tq, _, rfl, SqT.of (Sb.tt x10 _ _ htq), rfl, _, _, rfl, _, _, rfl, rfl, ?_⟩
          have eH10 : Ex H H10 := e10
          refine s_forR1 (D := { nx := _, rt := _, bk := _, ct := _ }) (n := ((rowV (M.row 0)).length : Int)) (ea_cons (ev_lenT (ev_op (ev_op (ev_var rfl) ev_c (rv_ixT (ex_t e10 hS) (atI_nat (j := 0) rfl))) ev_c (rv_ixT (ex_t e10 hSx) (atI_nat (j := 0) g0))) (ex_t e10 hS0)) ea_nil) ⟨by omega, by rw [rowV_len]; omega⟩
            (fun j σ' H' => ∃ (kvs : List (NestedKey × Addr × V)) (refs : List V) (fs ws : List M1.Cfg) (l14 l15 l16 l17 l18 : Option V), σ' = [some (.ref a), some (.int (c : Int)), some (.int (p : Int)), some (.int (gg : Int)), some (.int (M.st.length : Int)), some (.ref ps), some (.ref pf), some (.ref pw), some (.int (r : Int)), some (.ref tb), some (.int (n : Int)), some (.ref po), some (.ref tB), some (.int (l : Int)), l14, l15, l16, l17, l18] ∧ Ex H H' ∧ Ex2 pf pw Hb H' ∧ Stt K P w M c p gg pf pw H' kvs refs fs ws ∧ (∀ y ∈ fs0, y ∈ fs) ∧ (∀ y ∈ fs, y ∈ ws ∨ Dne M c p gg fs y ∨ y = (r, A, n)) ∧ (∀ (q : Nat) (B : List Nat) (l : Nat), opts[q]? = some (B, l) → q < i → ∀ b, b < M.k → ¬ M.bad c r B b ∧ M.nxt r B l b ∈ fs) ∧ 2 * (433 - fs.length) + ws.length ≤ 2 * (433 - fs0.length) + ws0.length ∧ (∀ b, b < j → ¬ M.bad c r BB b ∧ M.nxt r BB l b ∈ fs))
            (fun H11 e11 => ⟨_, _, fs, ws, l14, l15, l16, l17, l18, rfl, e10.trans e11, x10.trans (Ex2.of e11), S10.ex e11, sub10, dn10, op10, m10, fun b h => by omega⟩) ?_ ?_
          · rintro j σ' H11 hj ⟨kvs, refs, fs, ws, l14, l15, l16, l17, l18, rfl, e11, x11, S11, sub11, dn11, op11, m11, lt11⟩
            have hjk : j < M.k := by rw [rowV_len, hr0] at hj; omega
            have hS11 : SqT K H11 tB (rowV BB) := SqT.of (Sb.tt x11 _ _ htB)
            obtain ⟨b2, g2, hB2⟩ := tab_get hPy (M.ans_at ok lr)
            obtain ⟨b3, g3', hB3⟩ := tab_get hPx (M.row_at lr)
            have x11l := S11.len ok m3 c5 g3
            refine q_asgL (el_lcF (f := fun s => decide (M.out s j = M.out r j)) (ev_var rfl) hS11 (by omega) (fun _ => rfl) (fun i s H12 e12 hs => by
              have ls := ltB s (List.mem_of_getElem? hs)
              obtain ⟨b1, g1', hB1⟩ := tab_get hPy (M.ans_at ok ls)
              have eH := e11.trans e12
              exact et_is (et_test (ev_op (x := nV (M.out s j)) (y := nV (M.out r j)) (ev_op (ev_op (ev_op (ev_var rfl) ev_c (rv_ixT (ex_t eH hS) (atI_nat (j := 1) rfl))) (ev_var rfl) (rv_ixT (ex_t eH hSy) (atI_nat g1'))) (ev_var rfl) (rv_ixT (ex_t eH hB1) (atI_nat (rowV_at (M.out_at ok ls hjk))))) (ev_op (ev_op (ev_op (ev_var rfl) ev_c (rv_ixT (ex_t eH hS) (atI_nat (j := 1) rfl))) (ev_var rfl) (rv_ixT (ex_t eH hSy) (atI_nat g2))) (ev_var rfl) (rv_ixT (ex_t eH hB2) (atI_nat (rowV_at (M.out_at ok lr hjk))))) (rv_eq rfl))) (nV_dec _ _)) (fun s H12 => ev_var rfl)) fun pg H12 hpg e12 h12 => ?_
            refine q_when (et_test (ev_op (ev_op ev_c (ev_len (ev_var rfl) (sq_of h12)) (rv_I (C := CMul) (.inl (by decide)))) (ev_var rfl) rv_I0)) (fun bb H13 e13 => ?_) (fun bb H13 e13 => ?_)
            · have hb := of_decide_eq_true bb
              rw [rowV_len] at hb
              refine s_ret ev_c fun H14 e14' => k true H14 (((e11.trans e12).trans e13).trans e14') ⟨fun _ => ?_, fun _ => rfl⟩
              rintro ⟨mm, hm, hmc⟩
              refine hSnd.good ok g1 (by omega) hL hm hmc hoB hjk ?_
              show 2 * (BB.countP fun s => decide (M.out s j = M.out r j)) ≤ c
              rw [List.countP_eq_length_filter]
              omega
            · have hb := of_decide_eq_false bb
              rw [rowV_len] at hb
              have nb : ¬ M.bad c r BB j := fun z => by
                unfold M1.Mach.bad at z
                rw [List.countP_eq_length_filter] at z
                omega
              have e113 := e12.trans e13
              have eH13 := e11.trans e113
              refine ⟨fun σ' H' => ∃ bt, σ' = [some (.ref a), some (.int (c : Int)), some (.int (p : Int)), some (.int (gg : Int)), some (.int (M.st.length : Int)), some (.ref ps), some (.ref pf), some (.ref pw), some (.int (r : Int)), some (.ref tb), some (.int (n : Int)), some (.ref po), some (.ref tB), some (.int (l : Int)), some (.int (j : Int)), some (.ref pg), some (.ref bt), l17, l18] ∧ Ex H13 H' ∧ H' bt = some (.tup (rowV (M1.srt (BB.map fun s => M.go s j)))), ?_, ?_⟩
              · refine ex_sortL (el_lcM (fun s => M.go s j) (ev_var rfl) (ex_t e113 hS11) (by omega) (fun _ => rfl) (fun i s H14 e14' hs => by
                  have ls := ltB s (List.mem_of_getElem? hs)
                  obtain ⟨b1, g1', hB1⟩ := tab_get hPx (M.row_at ls)
                  have eH := eH13.trans e14'
                  exact ev_op (ev_op (ev_op (ev_var rfl) ev_c (rv_ixT (ex_t eH hS) (atI_nat (j := 0) rfl))) (ev_var rfl) (rv_ixT (ex_t eH hSx) (atI_nat g1'))) (ev_var rfl) (rv_ixT (ex_t eH hB1) (atI_nat (rowV_at (M.go_at ok ls hjk)))))) _ (Ex.refl _) _ fun bt H14 e14' h14 => ⟨bt, rfl, e14', h14⟩
              · rintro σ' H14 ⟨bt, rfl, e14', hbt⟩
                have eH14 := eH13.trans e14'
                refine q_asgE (i := 17) (fun v H' => CfgAt H' v (M.nxt r BB l j)) (ec_mk (r := M.go r j) (n := l) (A := M1.srt (BB.map fun s => M.go s j)) (ev_op (ev_op (ev_op (ev_var rfl) ev_c (rv_ixT (ex_t eH14 hS) (atI_nat (j := 0) rfl))) (ev_var rfl) (rv_ixT (ex_t eH14 hSx) (atI_nat g3'))) (ev_var rfl) (rv_ixT (ex_t eH14 hB3) (atI_nat (rowV_at (M.go_at ok lr hjk))))) (ex_var rfl hbt) (ev_var rfl) _ (Ex.refl _)) fun vk H15 e15 hk => ?_
                obtain ⟨kb, kb2, rfl, hk1, hk2⟩ := id hk
                have hkn : CfgAt H15 (.ref kb) (M.nxt r BB l j) := hk
                refine st_lit (σ' := [some (.ref a), some (.int (c : Int)), some (.int (p : Int)), some (.int (gg : Int)), some (.int (M.st.length : Int)), some (.ref ps), some (.ref pf), some (.ref pw), some (.int (r : Int)), some (.ref tb), some (.int (n : Int)), some (.ref po), some (.ref tB), some (.int (l : Int)), some (.int (j : Int)), some (.ref pg), some (.ref bt), some (.ref kb), l18]) rfl ?_
                have e1115 := (e113.trans e14').trans e15
                have eH15 := eH14.trans e15
                have S15 := S11.ex e1115
                refine s_when (b := !decide (M.nxt r BB l j ∈ fs)) (fun H0 e0 Q q => ⟨.ref kb, rfl, .ref pf, rfl, pf, kb, kvs, cfgK (M.nxt r BB l j), rfl, rfl, e0 _ _ S15.fnd, dkn_keep (TKp.ex e0) S15.dk, (hkn.tt (TT.ex e0)).key, cfgK_depth _, _, rfl, ?_⟩) (fun bb H16 e16 => ?_) (fun bb H16 e16 => ?_)
                · rw [fnd_mem S15.fk]
                  exact q H0 (Ex.refl _)
                · have hnf : M.nxt r BB l j ∉ fs := fun z => by rw [decide_eq_true z] at bb; cases bb
                  have S16 := S15.ex e16
                  have hk16 := hkn.tt (TT.ex e16)
                  have hnone : atN kvs (cfgK (M.nxt r BB l j)) = none := by
                    have := fnd_mem S16.fk (M.nxt r BB l j)
                    rw [decide_eq_false hnf] at this
                    cases h : atN kvs (cfgK (M.nxt r BB l j)) with
                    | none => rfl
                    | some u => rw [h] at this; cases this
                  have hkl := S16.kl
                  have hrl := Paired.length S16.wp
                  obtain ⟨wd2, T2, hT2⟩ := S16.snd _ (sub11 _ hxf)
                  obtain ⟨T3, hT3, _⟩ := hT2.step ok g1 (by omega) hoB hjk
                  have S17 := S16.put hk16 hnf ⟨_, T3, hT3⟩
                  refine ⟨.ref pf, rfl, .ref kb, rfl, pf, kb, kvs, cfgK (M.nxt r BB l j), rfl, rfl, S16.fnd, S16.dk, hk16.key, cfgK_depth _, hnone, small1000 (by omega), ?_⟩
                  refine ⟨.ref pw, rfl, Or.inl ⟨rfl, _, sq_of (show upd _ _ _ pw = _ by rw [upd_ne S16.ne.symm]; exact S16.wts)⟩, .ref kb, rfl, pw, _, _, rfl, rfl, (show upd _ _ _ pw = _ by rw [upd_ne S16.ne.symm]; exact S16.wts), small1000 (by omega), ?_⟩
                  have inn : ∀ y ∈ fs, y ∈ fs ++ [M.nxt r BB l j] := fun y hy => List.mem_append_left _ hy
                  refine ⟨_, _, fs ++ [M.nxt r BB l j], ws ++ [M.nxt r BB l j], _, _, _, _, _, rfl, Ex.mut (Ex.mut (eH15.trans e16) nf) nw, ((x11.trans (Ex2.of (e1115.trans e16))).trans Ex2.up1).trans Ex2.up2, S17, fun y hy => inn y (sub11 y hy), fun y hy => ?_, fun q B l' hq hi b hb => ⟨(op11 q B l' hq hi b hb).1, inn _ (op11 q B l' hq hi b hb).2⟩, ?_, fun b hb => ?_⟩
                  · rcases List.mem_append.mp hy with h | h
                    · rcases dn11 y h with h | h | h
                      · exact .inl (List.mem_append_left _ h)
                      · exact .inr (.inl (h.mono inn))
                      · exact .inr (.inr h)
                    · exact .inl (List.mem_append_right _ h)
                  · rw [List.length_append, List.length_append, List.length_singleton]
                    omega
                  · by_cases e : b = j
                    · subst e
                      exact ⟨nb, List.mem_append_right _ (List.mem_singleton.mpr rfl)⟩
                    · exact ⟨(lt11 b (by omega)).1, inn _ (lt11 b (by omega)).2⟩
                · have hin : M.nxt r BB l j ∈ fs := by
                    refine Classical.byContradiction fun z => ?_
                    rw [decide_eq_false z] at bb
                    cases bb
                  refine ⟨_, _, fs, ws, _, _, _, _, _, rfl, eH15.trans e16, x11.trans (Ex2.of (e1115.trans e16)), S15.ex e16, sub11, dn11, op11, m11, fun b hb => ?_⟩
                  by_cases e : b = j
                  · subst e
                    exact ⟨nb, hin⟩
                  · exact lt11 b (by omega)
          · rintro σ' H11 ⟨kvs, refs, fs, ws, l14, l15, l16, l17, l18, rfl, e11, x11, S11, sub11, dn11, op11, m11, lt11⟩
            rw [Int.toNat_natCast, rowV_len, hr0] at lt11
            refine ⟨_, _, fs, ws, _, _, _, _, _, _, _, rfl, e11, x11, S11, sub11, dn11, fun q B l' hq hi b hb => ?_, m11⟩
            by_cases e : q = i
            · subst e
              rw [hBB] at hq
              cases hq
              exact lt11 b hb
            · exact op11 q B l' hq (by omega) b hb
        · rintro σ' H10 ⟨kvs, refs, fs, ws, l12, l13, l14, l15, l16, l17, l18, rfl, e10, x10, S10, sub10, dn10, op10, m10⟩
          refine ⟨2 * (433 - fs.length) + ws.length, by rw [List.length_append, List.length_singleton]; omega, _, _, fs, ws, _, _, _, _, _, _, _, _, _, _, _, rfl, e10, S10, sub10 _ st5, fun y hy => ?_, ?_, rfl⟩
          · rcases dn10 y hy with h | h | h
            · exact .inl h
            · exact .inr h
            · subst h
              refine .inr fun B l b ho hb => ?_
              obtain ⟨q, hq⟩ := List.mem_iff_getElem?.mp ((hopt B l).mpr ho)
              exact op10 q B l hq (by rw [Paired.length hO]; exact (List.getElem?_eq_some_iff.mp hq).1) b hb
          · rw [List.length_append, List.length_singleton] at m5
            omega
    · have hw0 : ws = [] := by
        refine Classical.byContradiction fun z => ?_
        rw [decide_eq_false z] at bb
        cases bb
      refine s_ret ev_c fun H7 e7 => k false H7 ((e5.trans e6).trans e7) ⟨fun z => (by cases z), fun h => ?_⟩
      exfalso
      have done : ∀ y ∈ fs0, Dne M c p gg fs0 y := fun y hy => by
        rcases dn5 y hy with z | z
        · rw [hw0] at z
          simp at z
        · exact z
      have hne : ∀ m, M1.needed o p gg = some m → c < m := fun m hm => Nat.lt_of_not_le fun z => h ⟨m, hm, z⟩
      have p1 : 1 ≤ p := by
        refine Nat.pos_of_ne_zero fun z => h ⟨1, ?_, c1⟩
        unfold M1.needed
        rw [if_pos z]
      obtain ⟨wd, S, j, hwd, hSt, hfew, hgap, hj, hv⟩ := M1.Mach.wrong_row ok hL c1 (by omega) p1 g1 (by omega) hne
      exact hv (M1.Mach.closed_right ok g1 (F := fun y => y ∈ fs0) st5 (fun y hy B l b ho hb => done y hy B l b ho hb) hwd hSt hfew hgap hj)
end

end Kx
namespace Kx
open PySem PySem.Spec PyProof.Rows L2

open Evl
section
variable {P : Program} {w : World} {K : PySem.W.Frag} {mg : Str → Option Value} {base : Heap}
def spLaw (K : PySem.W.Frag) : Sp := fun vs H Q _ => ∃ (a : Addr) (ns : List Int), vs = [.ref a] ∧ SqL K H a (ns.map V.int) ∧ ns.length ≤ 63 ∧ ∀ H', Q (.bl true) H'
theorem q_par {ta : TA} {tz : TS} {D : Ends} {σ : L2.St} {H : Hp} {i j : Nat} {x y : V} (h : EvA ta σ H [x, y]) (k : ∀ H1, Ex H H1 → tz D ((σ.set i (some x)).set j (some y)) H1) : tSeq (tPar i j ta) tz D σ H := h H (Ex.refl H) _ fun H1 e => ⟨x, y, rfl, k H1 e⟩
theorem ev_lneeded {σ : L2.St} {H : Hp} {E : XK} {ta tb tc : TE} {v : V} {M : M1.Mach} {o : Option Nat} {p r : Nat} (ha : Ev ta σ H v) (hb : Ev tb σ H (.int (p : Int))) (hc : Ev tc σ H (.int (r : Int))) (hM : MacAt K H v M.st M.an) (ok : M.Ok) (hL : M.LateIs o) (hp : p ≤ 1000) (h1 : 1 ≤ r) (h2 : r ≤ 60) : Ev (tCall (sp_lneeded K) [] E (tCons ta (tCons tb (tCons tc tNil)))) σ H (oV (M1.needed o p r)) :=
  ev_callV (ea_cons ha (ea_cons hb (ea_cons hc ea_nil))) fun H1 e Q q => ⟨v, M, p, r, o, rfl, hM.keep (TKp.ex e), ok, hL, hp, h1, h2, q⟩
theorem ev_enough {σ : L2.St} {H : Hp} {o : Option Nat} {c p r i j : Nat} (h1 : σ[i]? = some (some (oV (M1.needed o p r)))) (h2 : σ[j]? = some (some (.int (c : Int)))) : Ev (tAndV (tOp (fun x y H Q => y = V.non ∧ Q (V.bl (!decide (x = V.non))) H) (tVar i) (tC V.non)) (tOp (rI0 fun i j => V.bl (decide (j ≤ i))) (tVar j) (tVar i))) σ H (.bl (enough o c p r)) := by
  cases hn : M1.needed o p r with
  | none =>
    rw [show enough o c p r = false by unfold enough; rw [hn]]
    rw [hn] at h1
    exact ev_andV (a := false) (b := true) (ev_op (x := .non) (ev_var h1) ev_c rv_notN) fun z => by cases z
  | some m =>
    rw [show enough o c p r = (true && decide (m ≤ c)) by unfold enough; rw [hn]; rfl]
    rw [hn] at h1
    refine ev_andV (a := true) (ev_op (x := nV m) (ev_var h1) ev_c rv_notN) fun _ => ev_is (ev_op (x := .int (c : Int)) (y := nV m) (ev_var h2) (ev_var h1) rv_I0) (congrArg V.bl (decide_eq_decide.mpr Int.ofNat_le))
theorem ev_forg {σ : L2.St} {H : Hp} {E : XK} {ta : TE} {v : V} {M : M1.Mach} {o : Option Nat} (ha : Ev ta σ H v) (hM : MacAt K H v M.st M.an) (ok : M.Ok) (hL : M.LateIs o) : Ev (tCall (sp_forg K) [] E (tCons ta tNil)) σ H (.bl o.isSome) :=
  ev_callV (ea_cons ha ea_nil) fun H1 e Q q => ⟨v, M, rfl, hM.keep (TKp.ex e), ok, fun o' H2 h e2 => by
    have := h.only hL
    subst this
    exact q H2 e2⟩
theorem ev_alikeL {σ : L2.St} {H : Hp} {E : XK} {ta tb : TE} {xs ys : List V} {ds : List PyData} (ha : EvL ta σ H xs) (hb : EvL tb σ H ys) (hx : ∀ H1, DpAll K H1 xs ds) (hy : ∀ H1, DpAll K H1 ys ds) (hf : Fine 3 (.list ds)) : Ev (tCall (sp_la K 3) [] E (tCons ta (tCons tb tNil))) σ H (.bl true) := fun H1 e Q q =>
  ha H1 e _ fun p H2 _ e2 h2 => hb H2 (e.trans e2) _ fun p' H3 _ e3 h3 => ⟨.ref p, .ref p', .list ds, rfl, .lst (sq_of (e3 _ _ h2)) (hx _), .lst (sq_of h3) (hy _), hf, fun H4 e4 => q H4 ((e2.trans e3).trans e4)⟩
theorem fine_lf (o : Option Nat) (b : Bool) : Fine 3 (.list [oD o, .bool b]) := by
  refine ⟨by show 2 ≤ 40000; decide, fun y hy => ?_⟩
  rcases List.mem_cons.mp hy with e | hy
  · subst e; exact fine_o _
  · rw [List.mem_singleton.mp hy]; exact fine_b _
theorem enough_iff {o : Option Nat} {c p g : Nat} : enough o c p g = true ↔ ∃ m, M1.needed o p g = some m ∧ m ≤ c := by
  unfold enough
  cases hn : M1.needed o p g with
  | none => exact ⟨fun z => (by cases z), fun ⟨m, h, _⟩ => (by cases h)⟩
  | some m => exact ⟨fun z => ⟨m, rfl, of_decide_eq_true z⟩, fun ⟨m', h, h2⟩ => by cases h; exact decide_eq_true h2⟩
theorem ev_lfails {σ : L2.St} {H : Hp} {E : XK} {v : V} {M : M1.Mach} {o : Option Nat} {c p g : Nat} {ta tb tc td : TE} (ha : Ev ta σ H v) (hb : Ev tb σ H (.int (c : Int))) (hc : Ev tc σ H (.int (p : Int))) (hd : Ev td σ H (.int (g : Int))) (hM : MacAt K H v M.st M.an) (ok : M.Ok) (m3 : M.st.length ≤ 3) (hL : M.LateIs o) (c1 : 1 ≤ c) (c5 : c ≤ 5) (hp : p ≤ 100) (g1 : 1 ≤ g) (g3 : g ≤ 3) :
    Ev (tCall (sp_lfails K) [] E (tCons ta (tCons tb (tCons tc (tCons td tNil))))) σ H (.bl (!enough o c p g)) :=
  ev_callV (ea_cons ha (ea_cons hb (ea_cons hc (ea_cons hd ea_nil)))) fun H1 e Q q => ⟨v, M, c, p, g, o, rfl, hM.keep (TKp.ex e), ok, m3, hL, c1, c5, hp, g1, g3, fun b H2 e2 hb => by
    have : b = !enough o c p g := by
      rw [← enough_iff] at hb
      cases b with
      | true => rw [Bool.eq_false_iff.mpr (hb.mp rfl)]; rfl
      | false =>
        cases h : enough o c p g with
        | true => rfl
        | false => exact absurd (hb.mpr (by rw [h]; decide)) (by decide)
    rw [this]
    exact q H2 e2⟩
theorem ok_law (T : Txt K mg) (h_late : Has P w K mg base "late" 6 ["machine"] (sp_late K)) (h_forgets : Has P w K mg base "forgets" 7 ["machine"] (sp_forg K)) (h_copies_needed : Has P w K mg base "copies_needed" 7 ["machine", "pushed", "room"] (sp_needed K)) (h_are_enough : Has P w K mg base "are_enough" 8 ["machine", "copies", "pushed", "room"] (sp_enough K))
    (h_law_taken : Has P w K mg base "_law_taken" 1 ["row", "many"] (sp_taken K)) (h_law_machine : Has P w K mg base "_law_machine" 2 ["row", "states", "letters"] (sp_lawmac K)) (h_law_late : Has P w K mg base "_law_late" 3 ["machine"] (sp_llate K)) (h_law_needed : Has P w K mg base "_law_needed" 4 ["machine", "pushed", "room"] (sp_lneeded K)) (h_law_alike : Has P w K mg base "_law_alike" 4 ["found", "due"] (sp_la K 3)) (h_law_fails : Has P w K mg base "_law_fails" 2 ["machine", "copies", "pushed", "room"] (sp_lfails K))
    {f : Addr} {fd : FuncData} (F : Fun K "law" "law" s_law f fd) : FnOk P w K mg base CX0 11 f fd ["script"] (spLaw K) := by
  refine F.ok sc_law (fun vs H Q E h => ?_) (fun cdv A outer s H vs Q E hr h => ?_)
  · obtain ⟨a, ns, rfl, _⟩ := h
    rfl
  · obtain ⟨scr, ns, rfl, hS, hl, q⟩ := h
    refine ⟨_, (pss_cons (ps_set (i := 1) sc_law.nd rfl (.inl rfl) (pe_lst (pa_cons (pv 0) (pa_cons pe_int (pa_cons pe_int (pa_cons pe_int pa_nil))))))
      (pss_cons (ps_set (i := 2) sc_law.nd rfl (.inl rfl) (pe_has h_law_machine (hr.mono (by first | decide | exact Nat.le_refl _)) (by rfl) (pa_cons (pv 1) (pa_cons pe_int (pa_cons pe_int pa_nil)))))
      (pss_cons (ps_par (i := 3) (j := 4) (by rfl) sc_law.nd rfl rfl (by decide) rfl rfl (pa_cons (pe_has h_law_taken (hr.mono (by first | decide | exact Nat.le_refl _)) (by rfl) (pa_cons (pv 1) (pa_cons pe_int pa_nil))) (pa_cons (pe_op op_add pe_int (pe_has h_law_taken (hr.mono (by first | decide | exact Nat.le_refl _)) (by rfl) (pa_cons (pv 1) (pa_cons pe_int pa_nil)))) pa_nil)) (by rfl))
      (pss_cons (ps_set (i := 5) sc_law.nd rfl (.inl rfl) (pe_has h_law_needed (hr.mono (by first | decide | exact Nat.le_refl _)) (by rfl) (pa_cons (pv 2) (pa_cons (pv 3) (pa_cons (pv 4) pa_nil)))))
      (pss_cons (ps_if (pt_not (pt_val (pe_has h_law_alike (hr.mono (by first | decide | exact Nat.le_refl _)) (by rfl) (pa_cons (pe_has h_copies_needed (hr.mono (by first | decide | exact Nat.le_refl _)) (by rfl) (pa_cons (pv 2) (pa_cons (pv 3) (pa_cons (pv 4) pa_nil)))) (pa_cons (pv 5) pa_nil)))))
      (pss_one (ps_ret pe_bl))
      pss_nil)
      (pss_cons (ps_if (pt_not (pt_val (pe_has h_law_alike (hr.mono (by first | decide | exact Nat.le_refl _)) (by rfl) (pa_cons (pe_lst (pa_cons (pe_has h_late (hr.mono (by first | decide | exact Nat.le_refl _)) (by rfl) (pa_cons (pv 2) pa_nil)) (pa_cons (pe_has h_forgets (hr.mono (by first | decide | exact Nat.le_refl _)) (by rfl) (pa_cons (pv 2) pa_nil)) pa_nil))) (pa_cons (pe_lst (pa_cons (pe_has h_law_late (hr.mono (by first | decide | exact Nat.le_refl _)) (by rfl) (pa_cons (pv 2) pa_nil)) (pa_cons (pe_cmpR op_notN (pe_has h_law_late (hr.mono (by first | decide | exact Nat.le_refl _)) (by rfl) (pa_cons (pv 2) pa_nil)) pe_non (nomark _)) pa_nil))) pa_nil)))))
      (pss_one (ps_ret pe_bl))
      pss_nil)
      (pss_cons (ps_for PassesOwn.never rfl (pi_range2 (by rfl) T.b_range (pa_cons pe_int (pa_cons (pe_ifExp (pt_cmpR op_lt (pv 3) pe_int (nomark _)) pe_int pe_int) pa_nil))) (pg_name (i := 6) sc_law.nd rfl (.inl rfl))
      (pss_cons (ps_set (i := 7) sc_law.nd rfl (.inl rfl) (pe_and (pe_cmpR op_notN (pv 5) pe_non (nomark _)) (pe_one (pe_cmpR op_ge (pv 6) (pv 5) (nomark _)))))
      (pss_cons (ps_if (pt_not (pt_val (pe_has h_law_alike (hr.mono (by first | decide | exact Nat.le_refl _)) (by rfl) (pa_cons (pe_has h_are_enough (hr.mono (by first | decide | exact Nat.le_refl _)) (by rfl) (pa_cons (pv 2) (pa_cons (pv 6) (pa_cons (pv 3) (pa_cons (pv 4) pa_nil))))) (pa_cons (pv 7) pa_nil)))))
      (pss_one (ps_ret pe_bl))
      pss_nil)
      (pss_one (ps_if (pt_cmpR op_eq (pe_has h_law_fails (hr.mono (by first | decide | exact Nat.le_refl _)) (by rfl) (pa_cons (pv 2) (pa_cons (pv 6) (pa_cons (pv 3) (pa_cons (pv 4) pa_nil))))) (pv 7) (nomark _))
      (pss_one (ps_ret pe_bl))
      pss_nil)))))
      (pss_one (ps_ret pe_bl))))))))), ?_⟩
    refine ⟨.ref scr, rfl, by show 4 ≤ sizeLine; decide, fun row hrow => ?_⟩
    have R0 : RowOk K (upd H row (.lst [.ref scr, .int 0, .int 1800, .int 0])) row scr ns := by
      refine ⟨⟨0, 1800, 0, upd_same, by decide, by decide, by decide⟩, fun H' x => ?_, hl⟩
      rcases hS with (hS | ⟨o, hS⟩) | hS
      · exact .inl (.inl (x _ _ (ne_of_none hS hrow) (by rw [upd_ne (ne_of_none hS hrow)]; exact hS)))
      · exact .inl (.inr ⟨o, x _ _ (ne_of_none hS hrow) (by rw [upd_ne (ne_of_none hS hrow)]; exact hS)⟩)
      · exact .inr hS
    refine ⟨.ref row, rfl, row, scr, ns, 3, 2, rfl, by decide, by decide, by decide, by decide, R0, fun v M H1 ok m3 hk2 hM x1 R1 => ?_⟩
    clear R0 x1 hS hrow
    have tkx : ∀ {H' H'' : Hp}, RowOk K H' row scr ns → ExB row H' H'' → TKp K H' H'' := fun R x => by
      obtain ⟨xs, hx⟩ := R.lst
      exact x.tk hx
    refine ⟨.ref row, rfl, row, scr, ns, 3, rfl, by decide, by decide, R1, fun p H2 hp x2 R2 => ?_⟩
    have hM2 := hM.keep (tkx R1 x2)
    refine ⟨.ref row, rfl, row, scr, ns, 3, rfl, by decide, by decide, R2, fun g0 H3 hg0 x3 R3 => ⟨1, (g0 : Int), rfl, rfl, ⟨_, _, rfl, ?_⟩⟩⟩
    have hM3 := hM2.keep (tkx R2 x3)
    obtain ⟨g, hg⟩ : ∃ g : Nat, g = 1 + g0 := ⟨_, rfl⟩
    have eg : (1 : Int) + (g0 : Int) = (g : Int) := by omega
    dsimp only
    rw [eg]
    have g1 : 1 ≤ g := by omega
    have g3 : g ≤ 3 := by omega
    clear hM hM2 R1 R2 R3 x2 x3 eg hg hg0 hk2
    obtain ⟨o, hL⟩ := M.late_some ok
    refine q_asg (v := oV (M1.needed o p g)) (ev_lneeded (ev_var rfl) (ev_var rfl) (ev_var rfl) hM3 ok hL (by omega) g1 (by omega)) fun H4 e4 => ?_
    have hM4 := hM3.keep (TKp.ex e4)
    refine q_when (b := false) (et_not (a := true) (et_B (ev_alike (ev_callV (z := oV (M1.needed o p g)) (ea_cons (ev_var rfl) (ea_cons (ev_var rfl) (ea_cons (ev_var rfl) ea_nil))) fun H' e' Q' q' => ⟨v, M, p, g, o, rfl, hM4.keep (TKp.ex e'), ok, hL, by omega, g1, by omega, q'⟩) (ev_var rfl) (fun H' e => ⟨dp_o _, dp_o _⟩) (fine_o _)))) (fun z => by cases z) fun _ H5 e5 => ?_
    have hM5 := hM4.keep (TKp.ex e5)
    refine q_when (b := false) (et_not (a := true) (et_B (ev_alikeL (xs := [oV o, .bl o.isSome]) (ys := [oV o, .bl o.isSome]) (ds := [oD o, .bool o.isSome]) (el_lst (ea_cons (ev_late (ev_var rfl) hM5 ok hL) (ea_cons (ev_forg (ev_var rfl) hM5 ok hL) ea_nil)) (by show 2 ≤ 100000; decide)) (el_lst (ea_cons (ev_llate (ev_var rfl) hM5 ok hL) (ea_cons (ev_is (ev_op (x := oV o) (ev_llate (ev_var rfl) hM5 ok hL) ev_c rv_notN) (by cases o <;> rfl)) ea_nil)) (by show 2 ≤ 100000; decide)) (fun H1 => .cons (dp_o _) (.cons (.bl _) .nil)) (fun H1 => .cons (dp_o _) (.cons (.bl _) .nil)) (fine_lf _ _)))) (fun z => by cases z) fun _ H6 e6 => ?_
    have hM6 := hM5.keep (TKp.ex e6)
    obtain ⟨top, htop, ht5⟩ : ∃ top : Nat, (if p < 2 then (6 : Int) else 5) = (top : Int) ∧ top ≤ 6 := by
      by_cases h : p < 2
      · exact ⟨6, by rw [if_pos h]; rfl, by omega⟩
      · exact ⟨5, by rw [if_neg h]; rfl, by omega⟩
    refine q_forR2 (lo := 1) (n := (top : Int)) (ea_cons ev_c (ea_cons (ev_if (b := decide ((p : Int) < 2)) (et_test (ev_op (ev_var rfl) ev_c rv_I0)) (fun bb => ?_) (fun bb => ?_)) ea_nil)) ⟨by decide, by decide, by omega, by omega⟩
      (fun t σ' H' => ∃ l6 l7, σ' = [some (.ref scr), some (.ref row), some v, some (.int (p : Int)), some (.int (g : Int)), some (oV (M1.needed o p g)), l6, l7] ∧ Ex H6 H')
      (fun H7 e7 => ⟨none, none, rfl, e7⟩) ?_ ?_
    · have h := of_decide_eq_true bb
      rw [if_pos (by omega)] at htop
      rw [← htop]
      exact ev_c
    · have h := of_decide_eq_false bb
      rw [if_neg (by omega)] at htop
      rw [← htop]
      exact ev_c
    · rintro t σ' H7 ht ⟨l6, l7, rfl, e7⟩
      have et : (1 : Int) + (t : Int) = ((t + 1 : Nat) : Int) := by omega
      rw [et]
      have hM7 := hM6.keep (TKp.ex e7)
      have c5 : t + 1 ≤ 5 := by omega
      refine q_asg (v := .bl (enough o (t + 1) p g)) (ev_enough (i := 5) (j := 6) rfl rfl) fun H8 e8 => ?_
      have hM8 := hM7.keep (TKp.ex e8)
      refine q_when (b := false) (et_not (a := true) (et_B (ev_alike (x := .bl (enough o (t + 1) p g)) (y := .bl (enough o (t + 1) p g)) (ev_callV (ea_cons (ev_var rfl) (ea_cons (ev_var rfl) (ea_cons (ev_var rfl) (ea_cons (ev_var rfl) ea_nil)))) fun H' e' Q' q' => ⟨v, M, t + 1, p, g, o, rfl, hM8.keep (TKp.ex e'), ok, hL, by omega, by omega, by omega, g1, by omega, q'⟩) (ev_var rfl) (fun H' e => ⟨.bl _, .bl _⟩) (fine_b _)))) (fun z => by cases z) fun _ H9 e9 => ?_
      have hM9 := hM8.keep (TKp.ex e9)
      dsimp only
      refine s_when (b := false) (et_is (et_test (ev_op (x := .bl (!enough o (t + 1) p g)) (y := .bl (enough o (t + 1) p g)) (ev_lfails (ev_var rfl) (ev_var rfl) (ev_var rfl) (ev_var rfl) hM9 ok m3 hL (by omega) c5 (by omega) g1 g3) (ev_var rfl) (rv_eq rfl))) (by cases enough o (t + 1) p g <;> rfl)) (fun z => by cases z) fun _ H10 e10 => ?_
      exact ⟨_, _, rfl, ((e7.trans e8).trans e9).trans e10⟩
    · rintro σ' H7 ⟨l6, l7, rfl, e7⟩
      exact s_ret ev_c fun H8 e8 => q H8
end

end Kx

namespace Kx
open PySem PySem.Spec PyProof.Rows L2
theorem all_mk {l : PySem.W.OpenLaw} {w : World} {K : PySem.W.Frag} {h : Heap} {mg : Str → Option Value} {fa : Addr} (X : K.In h) (G : h.Ns mainGlobals mg) (hfa : mg "law" = some (.ref fa))
    {f_is_integer : Addr} {od_is_integer an_is_integer : Option Addr} {sl_is_integer : Array (Option Value)} {oc_is_integer kV_is_integer dc_is_integer pm_is_integer cd_is_integer ct_is_integer : Value}
    {f_is_tuple : Addr} {od_is_tuple an_is_tuple : Option Addr} {sl_is_tuple : Array (Option Value)} {oc_is_tuple kV_is_tuple dc_is_tuple pm_is_tuple cd_is_tuple ct_is_tuple : Value}
    {f_is_row : Addr} {od_is_row an_is_row : Option Addr} {sl_is_row : Array (Option Value)} {oc_is_row kV_is_row dc_is_row pm_is_row cd_is_row ct_is_row : Value}
    {f_is_table : Addr} {od_is_table an_is_table : Option Addr} {sl_is_table : Array (Option Value)} {oc_is_table kV_is_table dc_is_table pm_is_table cd_is_table ct_is_table : Value}
    {f_is_steps : Addr} {od_is_steps an_is_steps : Option Addr} {sl_is_steps : Array (Option Value)} {oc_is_steps kV_is_steps dc_is_steps pm_is_steps cd_is_steps ct_is_steps : Value}
    {f_check_machine : Addr} {od_check_machine an_check_machine : Option Addr} {sl_check_machine : Array (Option Value)} {oc_check_machine kV_check_machine dc_check_machine pm_check_machine cd_check_machine ct_check_machine : Value}
    {f_check_number : Addr} {od_check_number an_check_number : Option Addr} {sl_check_number : Array (Option Value)} {oc_check_number kV_check_number dc_check_number pm_check_number cd_check_number ct_check_number : Value}
    {f_check_copies : Addr} {od_check_copies an_check_copies : Option Addr} {sl_check_copies : Array (Option Value)} {oc_check_copies kV_check_copies dc_check_copies pm_check_copies cd_check_copies ct_check_copies : Value}
    {f_check_pushed : Addr} {od_check_pushed an_check_pushed : Option Addr} {sl_check_pushed : Array (Option Value)} {oc_check_pushed kV_check_pushed dc_check_pushed pm_check_pushed cd_check_pushed ct_check_pushed : Value}
    {f_check_room : Addr} {od_check_room an_check_room : Option Addr} {sl_check_room : Array (Option Value)} {oc_check_room kV_check_room dc_check_room pm_check_room cd_check_room ct_check_room : Value}
    {f_ways_to_states : Addr} {od_ways_to_states an_ways_to_states : Option Addr} {sl_ways_to_states : Array (Option Value)} {oc_ways_to_states kV_ways_to_states dc_ways_to_states pm_ways_to_states cd_ways_to_states ct_ways_to_states : Value}
    {f_unlike_letters : Addr} {od_unlike_letters an_unlike_letters : Option Addr} {sl_unlike_letters : Array (Option Value)} {oc_unlike_letters kV_unlike_letters dc_unlike_letters pm_unlike_letters cd_unlike_letters ct_unlike_letters : Value}
    {f_pair_behind : Addr} {od_pair_behind an_pair_behind : Option Addr} {sl_pair_behind : Array (Option Value)} {oc_pair_behind kV_pair_behind dc_pair_behind pm_pair_behind cd_pair_behind ct_pair_behind : Value}
    {f_letters_into : Addr} {od_letters_into an_letters_into : Option Addr} {sl_letters_into : Array (Option Value)} {oc_letters_into kV_letters_into dc_letters_into pm_letters_into cd_letters_into ct_letters_into : Value}
    {f_late_layers : Addr} {od_late_layers an_late_layers : Option Addr} {sl_late_layers : Array (Option Value)} {oc_late_layers kV_late_layers dc_late_layers pm_late_layers cd_late_layers ct_late_layers : Value}
    {f_late_walk : Addr} {od_late_walk an_late_walk : Option Addr} {sl_late_walk : Array (Option Value)} {oc_late_walk kV_late_walk dc_late_walk pm_late_walk cd_late_walk ct_late_walk : Value}
    {f_round_on : Addr} {od_round_on an_round_on : Option Addr} {sl_round_on : Array (Option Value)} {oc_round_on kV_round_on dc_round_on pm_round_on cd_round_on ct_round_on : Value}
    {f_late : Addr} {od_late an_late : Option Addr} {sl_late : Array (Option Value)} {oc_late kV_late dc_late pm_late cd_late ct_late : Value}
    {f_forgets : Addr} {od_forgets an_forgets : Option Addr} {sl_forgets : Array (Option Value)} {oc_forgets kV_forgets dc_forgets pm_forgets cd_forgets ct_forgets : Value}
    {f_rounded_up : Addr} {od_rounded_up an_rounded_up : Option Addr} {sl_rounded_up : Array (Option Value)} {oc_rounded_up kV_rounded_up dc_rounded_up pm_rounded_up cd_rounded_up ct_rounded_up : Value}
    {f_copies_needed : Addr} {od_copies_needed an_copies_needed : Option Addr} {sl_copies_needed : Array (Option Value)} {oc_copies_needed kV_copies_needed dc_copies_needed pm_copies_needed cd_copies_needed ct_copies_needed : Value}
    {f_are_enough : Addr} {od_are_enough an_are_enough : Option Addr} {sl_are_enough : Array (Option Value)} {oc_are_enough kV_are_enough dc_are_enough pm_are_enough cd_are_enough ct_are_enough : Value}
    {f_law_taken : Addr} {od_law_taken an_law_taken : Option Addr} {sl_law_taken : Array (Option Value)} {oc_law_taken kV_law_taken dc_law_taken pm_law_taken cd_law_taken ct_law_taken : Value}
    {f_law_machine : Addr} {od_law_machine an_law_machine : Option Addr} {sl_law_machine : Array (Option Value)} {oc_law_machine kV_law_machine dc_law_machine pm_law_machine cd_law_machine ct_law_machine : Value}
    {f_law_comes : Addr} {od_law_comes an_law_comes : Option Addr} {sl_law_comes : Array (Option Value)} {oc_law_comes kV_law_comes dc_law_comes pm_law_comes cd_law_comes ct_law_comes : Value}
    {f_law_sets : Addr} {od_law_sets an_law_sets : Option Addr} {sl_law_sets : Array (Option Value)} {oc_law_sets kV_law_sets dc_law_sets pm_law_sets cd_law_sets ct_law_sets : Value}
    {f_law_late : Addr} {od_law_late an_law_late : Option Addr} {sl_law_late : Array (Option Value)} {oc_law_late kV_law_late dc_law_late pm_law_late cd_law_late ct_law_late : Value}
    {f_law_needed : Addr} {od_law_needed an_law_needed : Option Addr} {sl_law_needed : Array (Option Value)} {oc_law_needed kV_law_needed dc_law_needed pm_law_needed cd_law_needed ct_law_needed : Value}
    {f_law_alike : Addr} {od_law_alike an_law_alike : Option Addr} {sl_law_alike : Array (Option Value)} {oc_law_alike kV_law_alike dc_law_alike pm_law_alike cd_law_alike ct_law_alike : Value}
    {f_law_pushed : Addr} {od_law_pushed an_law_pushed : Option Addr} {sl_law_pushed : Array (Option Value)} {oc_law_pushed kV_law_pushed dc_law_pushed pm_law_pushed cd_law_pushed ct_law_pushed : Value}
    {f_law_fails : Addr} {od_law_fails an_law_fails : Option Addr} {sl_law_fails : Array (Option Value)} {oc_law_fails kV_law_fails dc_law_fails pm_law_fails cd_law_fails ct_law_fails : Value}
    {f_law : Addr} {od_law an_law : Option Addr} {sl_law : Array (Option Value)} {oc_law kV_law dc_law pm_law cd_law ct_law : Value}
    (a_is_integer : PySem.W.nsIn K mainGlobals "is_integer" = some (some (.ref f_is_integer))) (l_is_integer : K.lookup f_is_integer = some ⟨oc_is_integer, od_is_integer, .func (PySem.W.fnOf "is_integer" "is_integer" (defArgs s_is_integer) (defBody s_is_integer) (defScope s_is_integer) .none kV_is_integer dc_is_integer pm_is_integer an_is_integer cd_is_integer ct_is_integer), sl_is_integer⟩) (c_is_integer : PySem.W.codeIn K cd_is_integer "is_integer" = true) (k_is_integer : PySem.W.keepIn K (.ref f_is_integer) = true)
    (a_is_tuple : PySem.W.nsIn K mainGlobals "is_tuple" = some (some (.ref f_is_tuple))) (l_is_tuple : K.lookup f_is_tuple = some ⟨oc_is_tuple, od_is_tuple, .func (PySem.W.fnOf "is_tuple" "is_tuple" (defArgs s_is_tuple) (defBody s_is_tuple) (defScope s_is_tuple) .none kV_is_tuple dc_is_tuple pm_is_tuple an_is_tuple cd_is_tuple ct_is_tuple), sl_is_tuple⟩) (c_is_tuple : PySem.W.codeIn K cd_is_tuple "is_tuple" = true) (k_is_tuple : PySem.W.keepIn K (.ref f_is_tuple) = true)
    (a_is_row : PySem.W.nsIn K mainGlobals "is_row" = some (some (.ref f_is_row))) (l_is_row : K.lookup f_is_row = some ⟨oc_is_row, od_is_row, .func (PySem.W.fnOf "is_row" "is_row" (defArgs s_is_row) (defBody s_is_row) (defScope s_is_row) .none kV_is_row dc_is_row pm_is_row an_is_row cd_is_row ct_is_row), sl_is_row⟩) (c_is_row : PySem.W.codeIn K cd_is_row "is_row" = true) (k_is_row : PySem.W.keepIn K (.ref f_is_row) = true)
    (a_is_table : PySem.W.nsIn K mainGlobals "is_table" = some (some (.ref f_is_table))) (l_is_table : K.lookup f_is_table = some ⟨oc_is_table, od_is_table, .func (PySem.W.fnOf "is_table" "is_table" (defArgs s_is_table) (defBody s_is_table) (defScope s_is_table) .none kV_is_table dc_is_table pm_is_table an_is_table cd_is_table ct_is_table), sl_is_table⟩) (c_is_table : PySem.W.codeIn K cd_is_table "is_table" = true) (k_is_table : PySem.W.keepIn K (.ref f_is_table) = true)
    (a_is_steps : PySem.W.nsIn K mainGlobals "is_steps" = some (some (.ref f_is_steps))) (l_is_steps : K.lookup f_is_steps = some ⟨oc_is_steps, od_is_steps, .func (PySem.W.fnOf "is_steps" "is_steps" (defArgs s_is_steps) (defBody s_is_steps) (defScope s_is_steps) .none kV_is_steps dc_is_steps pm_is_steps an_is_steps cd_is_steps ct_is_steps), sl_is_steps⟩) (c_is_steps : PySem.W.codeIn K cd_is_steps "is_steps" = true) (k_is_steps : PySem.W.keepIn K (.ref f_is_steps) = true)
    (a_check_machine : PySem.W.nsIn K mainGlobals "check_machine" = some (some (.ref f_check_machine))) (l_check_machine : K.lookup f_check_machine = some ⟨oc_check_machine, od_check_machine, .func (PySem.W.fnOf "check_machine" "check_machine" (defArgs s_check_machine) (defBody s_check_machine) (defScope s_check_machine) .none kV_check_machine dc_check_machine pm_check_machine an_check_machine cd_check_machine ct_check_machine), sl_check_machine⟩) (c_check_machine : PySem.W.codeIn K cd_check_machine "check_machine" = true) (k_check_machine : PySem.W.keepIn K (.ref f_check_machine) = true)
    (a_check_number : PySem.W.nsIn K mainGlobals "check_number" = some (some (.ref f_check_number))) (l_check_number : K.lookup f_check_number = some ⟨oc_check_number, od_check_number, .func (PySem.W.fnOf "check_number" "check_number" (defArgs s_check_number) (defBody s_check_number) (defScope s_check_number) .none kV_check_number dc_check_number pm_check_number an_check_number cd_check_number ct_check_number), sl_check_number⟩) (c_check_number : PySem.W.codeIn K cd_check_number "check_number" = true) (k_check_number : PySem.W.keepIn K (.ref f_check_number) = true)
    (a_check_copies : PySem.W.nsIn K mainGlobals "check_copies" = some (some (.ref f_check_copies))) (l_check_copies : K.lookup f_check_copies = some ⟨oc_check_copies, od_check_copies, .func (PySem.W.fnOf "check_copies" "check_copies" (defArgs s_check_copies) (defBody s_check_copies) (defScope s_check_copies) .none kV_check_copies dc_check_copies pm_check_copies an_check_copies cd_check_copies ct_check_copies), sl_check_copies⟩) (c_check_copies : PySem.W.codeIn K cd_check_copies "check_copies" = true) (k_check_copies : PySem.W.keepIn K (.ref f_check_copies) = true)
    (a_check_pushed : PySem.W.nsIn K mainGlobals "check_pushed" = some (some (.ref f_check_pushed))) (l_check_pushed : K.lookup f_check_pushed = some ⟨oc_check_pushed, od_check_pushed, .func (PySem.W.fnOf "check_pushed" "check_pushed" (defArgs s_check_pushed) (defBody s_check_pushed) (defScope s_check_pushed) .none kV_check_pushed dc_check_pushed pm_check_pushed an_check_pushed cd_check_pushed ct_check_pushed), sl_check_pushed⟩) (c_check_pushed : PySem.W.codeIn K cd_check_pushed "check_pushed" = true) (k_check_pushed : PySem.W.keepIn K (.ref f_check_pushed) = true)
    (a_check_room : PySem.W.nsIn K mainGlobals "check_room" = some (some (.ref f_check_room))) (l_check_room : K.lookup f_check_room = some ⟨oc_check_room, od_check_room, .func (PySem.W.fnOf "check_room" "check_room" (defArgs s_check_room) (defBody s_check_room) (defScope s_check_room) .none kV_check_room dc_check_room pm_check_room an_check_room cd_check_room ct_check_room), sl_check_room⟩) (c_check_room : PySem.W.codeIn K cd_check_room "check_room" = true) (k_check_room : PySem.W.keepIn K (.ref f_check_room) = true)
    (a_ways_to_states : PySem.W.nsIn K mainGlobals "ways_to_states" = some (some (.ref f_ways_to_states))) (l_ways_to_states : K.lookup f_ways_to_states = some ⟨oc_ways_to_states, od_ways_to_states, .func (PySem.W.fnOf "ways_to_states" "ways_to_states" (defArgs s_ways_to_states) (defBody s_ways_to_states) (defScope s_ways_to_states) .none kV_ways_to_states dc_ways_to_states pm_ways_to_states an_ways_to_states cd_ways_to_states ct_ways_to_states), sl_ways_to_states⟩) (c_ways_to_states : PySem.W.codeIn K cd_ways_to_states "ways_to_states" = true) (k_ways_to_states : PySem.W.keepIn K (.ref f_ways_to_states) = true)
    (a_unlike_letters : PySem.W.nsIn K mainGlobals "unlike_letters" = some (some (.ref f_unlike_letters))) (l_unlike_letters : K.lookup f_unlike_letters = some ⟨oc_unlike_letters, od_unlike_letters, .func (PySem.W.fnOf "unlike_letters" "unlike_letters" (defArgs s_unlike_letters) (defBody s_unlike_letters) (defScope s_unlike_letters) .none kV_unlike_letters dc_unlike_letters pm_unlike_letters an_unlike_letters cd_unlike_letters ct_unlike_letters), sl_unlike_letters⟩) (c_unlike_letters : PySem.W.codeIn K cd_unlike_letters "unlike_letters" = true) (k_unlike_letters : PySem.W.keepIn K (.ref f_unlike_letters) = true)
    (a_pair_behind : PySem.W.nsIn K mainGlobals "pair_behind" = some (some (.ref f_pair_behind))) (l_pair_behind : K.lookup f_pair_behind = some ⟨oc_pair_behind, od_pair_behind, .func (PySem.W.fnOf "pair_behind" "pair_behind" (defArgs s_pair_behind) (defBody s_pair_behind) (defScope s_pair_behind) .none kV_pair_behind dc_pair_behind pm_pair_behind an_pair_behind cd_pair_behind ct_pair_behind), sl_pair_behind⟩) (c_pair_behind : PySem.W.codeIn K cd_pair_behind "pair_behind" = true) (k_pair_behind : PySem.W.keepIn K (.ref f_pair_behind) = true)
    (a_letters_into : PySem.W.nsIn K mainGlobals "letters_into" = some (some (.ref f_letters_into))) (l_letters_into : K.lookup f_letters_into = some ⟨oc_letters_into, od_letters_into, .func (PySem.W.fnOf "letters_into" "letters_into" (defArgs s_letters_into) (defBody s_letters_into) (defScope s_letters_into) .none kV_letters_into dc_letters_into pm_letters_into an_letters_into cd_letters_into ct_letters_into), sl_letters_into⟩) (c_letters_into : PySem.W.codeIn K cd_letters_into "letters_into" = true) (k_letters_into : PySem.W.keepIn K (.ref f_letters_into) = true)
    (a_late_layers : PySem.W.nsIn K mainGlobals "late_layers" = some (some (.ref f_late_layers))) (l_late_layers : K.lookup f_late_layers = some ⟨oc_late_layers, od_late_layers, .func (PySem.W.fnOf "late_layers" "late_layers" (defArgs s_late_layers) (defBody s_late_layers) (defScope s_late_layers) .none kV_late_layers dc_late_layers pm_late_layers an_late_layers cd_late_layers ct_late_layers), sl_late_layers⟩) (c_late_layers : PySem.W.codeIn K cd_late_layers "late_layers" = true) (k_late_layers : PySem.W.keepIn K (.ref f_late_layers) = true)
    (a_late_walk : PySem.W.nsIn K mainGlobals "late_walk" = some (some (.ref f_late_walk))) (l_late_walk : K.lookup f_late_walk = some ⟨oc_late_walk, od_late_walk, .func (PySem.W.fnOf "late_walk" "late_walk" (defArgs s_late_walk) (defBody s_late_walk) (defScope s_late_walk) .none kV_late_walk dc_late_walk pm_late_walk an_late_walk cd_late_walk ct_late_walk), sl_late_walk⟩) (c_late_walk : PySem.W.codeIn K cd_late_walk "late_walk" = true) (k_late_walk : PySem.W.keepIn K (.ref f_late_walk) = true)
    (a_round_on : PySem.W.nsIn K mainGlobals "round_on" = some (some (.ref f_round_on))) (l_round_on : K.lookup f_round_on = some ⟨oc_round_on, od_round_on, .func (PySem.W.fnOf "round_on" "round_on" (defArgs s_round_on) (defBody s_round_on) (defScope s_round_on) .none kV_round_on dc_round_on pm_round_on an_round_on cd_round_on ct_round_on), sl_round_on⟩) (c_round_on : PySem.W.codeIn K cd_round_on "round_on" = true) (k_round_on : PySem.W.keepIn K (.ref f_round_on) = true)
    (a_late : PySem.W.nsIn K mainGlobals "late" = some (some (.ref f_late))) (l_late : K.lookup f_late = some ⟨oc_late, od_late, .func (PySem.W.fnOf "late" "late" (defArgs s_late) (defBody s_late) (defScope s_late) .none kV_late dc_late pm_late an_late cd_late ct_late), sl_late⟩) (c_late : PySem.W.codeIn K cd_late "late" = true) (k_late : PySem.W.keepIn K (.ref f_late) = true)
    (a_forgets : PySem.W.nsIn K mainGlobals "forgets" = some (some (.ref f_forgets))) (l_forgets : K.lookup f_forgets = some ⟨oc_forgets, od_forgets, .func (PySem.W.fnOf "forgets" "forgets" (defArgs s_forgets) (defBody s_forgets) (defScope s_forgets) .none kV_forgets dc_forgets pm_forgets an_forgets cd_forgets ct_forgets), sl_forgets⟩) (c_forgets : PySem.W.codeIn K cd_forgets "forgets" = true) (k_forgets : PySem.W.keepIn K (.ref f_forgets) = true)
    (a_rounded_up : PySem.W.nsIn K mainGlobals "rounded_up" = some (some (.ref f_rounded_up))) (l_rounded_up : K.lookup f_rounded_up = some ⟨oc_rounded_up, od_rounded_up, .func (PySem.W.fnOf "rounded_up" "rounded_up" (defArgs s_rounded_up) (defBody s_rounded_up) (defScope s_rounded_up) .none kV_rounded_up dc_rounded_up pm_rounded_up an_rounded_up cd_rounded_up ct_rounded_up), sl_rounded_up⟩) (c_rounded_up : PySem.W.codeIn K cd_rounded_up "rounded_up" = true) (k_rounded_up : PySem.W.keepIn K (.ref f_rounded_up) = true)
    (a_copies_needed : PySem.W.nsIn K mainGlobals "copies_needed" = some (some (.ref f_copies_needed))) (l_copies_needed : K.lookup f_copies_needed = some ⟨oc_copies_needed, od_copies_needed, .func (PySem.W.fnOf "copies_needed" "copies_needed" (defArgs s_copies_needed) (defBody s_copies_needed) (defScope s_copies_needed) .none kV_copies_needed dc_copies_needed pm_copies_needed an_copies_needed cd_copies_needed ct_copies_needed), sl_copies_needed⟩) (c_copies_needed : PySem.W.codeIn K cd_copies_needed "copies_needed" = true) (k_copies_needed : PySem.W.keepIn K (.ref f_copies_needed) = true)
    (a_are_enough : PySem.W.nsIn K mainGlobals "are_enough" = some (some (.ref f_are_enough))) (l_are_enough : K.lookup f_are_enough = some ⟨oc_are_enough, od_are_enough, .func (PySem.W.fnOf "are_enough" "are_enough" (defArgs s_are_enough) (defBody s_are_enough) (defScope s_are_enough) .none kV_are_enough dc_are_enough pm_are_enough an_are_enough cd_are_enough ct_are_enough), sl_are_enough⟩) (c_are_enough : PySem.W.codeIn K cd_are_enough "are_enough" = true) (k_are_enough : PySem.W.keepIn K (.ref f_are_enough) = true)
    (a_law_taken : PySem.W.nsIn K mainGlobals "_law_taken" = some (some (.ref f_law_taken))) (l_law_taken : K.lookup f_law_taken = some ⟨oc_law_taken, od_law_taken, .func (PySem.W.fnOf "_law_taken" "_law_taken" (defArgs s_law_taken) (defBody s_law_taken) (defScope s_law_taken) .none kV_law_taken dc_law_taken pm_law_taken an_law_taken cd_law_taken ct_law_taken), sl_law_taken⟩) (c_law_taken : PySem.W.codeIn K cd_law_taken "_law_taken" = true) (k_law_taken : PySem.W.keepIn K (.ref f_law_taken) = true)
    (a_law_machine : PySem.W.nsIn K mainGlobals "_law_machine" = some (some (.ref f_law_machine))) (l_law_machine : K.lookup f_law_machine = some ⟨oc_law_machine, od_law_machine, .func (PySem.W.fnOf "_law_machine" "_law_machine" (defArgs s_law_machine) (defBody s_law_machine) (defScope s_law_machine) .none kV_law_machine dc_law_machine pm_law_machine an_law_machine cd_law_machine ct_law_machine), sl_law_machine⟩) (c_law_machine : PySem.W.codeIn K cd_law_machine "_law_machine" = true) (k_law_machine : PySem.W.keepIn K (.ref f_law_machine) = true)
    (a_law_comes : PySem.W.nsIn K mainGlobals "_law_comes" = some (some (.ref f_law_comes))) (l_law_comes : K.lookup f_law_comes = some ⟨oc_law_comes, od_law_comes, .func (PySem.W.fnOf "_law_comes" "_law_comes" (defArgs s_law_comes) (defBody s_law_comes) (defScope s_law_comes) .none kV_law_comes dc_law_comes pm_law_comes an_law_comes cd_law_comes ct_law_comes), sl_law_comes⟩) (c_law_comes : PySem.W.codeIn K cd_law_comes "_law_comes" = true) (k_law_comes : PySem.W.keepIn K (.ref f_law_comes) = true)
    (a_law_sets : PySem.W.nsIn K mainGlobals "_law_sets" = some (some (.ref f_law_sets))) (l_law_sets : K.lookup f_law_sets = some ⟨oc_law_sets, od_law_sets, .func (PySem.W.fnOf "_law_sets" "_law_sets" (defArgs s_law_sets) (defBody s_law_sets) (defScope s_law_sets) .none kV_law_sets dc_law_sets pm_law_sets an_law_sets cd_law_sets ct_law_sets), sl_law_sets⟩) (c_law_sets : PySem.W.codeIn K cd_law_sets "_law_sets" = true) (k_law_sets : PySem.W.keepIn K (.ref f_law_sets) = true)
    (a_law_late : PySem.W.nsIn K mainGlobals "_law_late" = some (some (.ref f_law_late))) (l_law_late : K.lookup f_law_late = some ⟨oc_law_late, od_law_late, .func (PySem.W.fnOf "_law_late" "_law_late" (defArgs s_law_late) (defBody s_law_late) (defScope s_law_late) .none kV_law_late dc_law_late pm_law_late an_law_late cd_law_late ct_law_late), sl_law_late⟩) (c_law_late : PySem.W.codeIn K cd_law_late "_law_late" = true) (k_law_late : PySem.W.keepIn K (.ref f_law_late) = true)
    (a_law_needed : PySem.W.nsIn K mainGlobals "_law_needed" = some (some (.ref f_law_needed))) (l_law_needed : K.lookup f_law_needed = some ⟨oc_law_needed, od_law_needed, .func (PySem.W.fnOf "_law_needed" "_law_needed" (defArgs s_law_needed) (defBody s_law_needed) (defScope s_law_needed) .none kV_law_needed dc_law_needed pm_law_needed an_law_needed cd_law_needed ct_law_needed), sl_law_needed⟩) (c_law_needed : PySem.W.codeIn K cd_law_needed "_law_needed" = true) (k_law_needed : PySem.W.keepIn K (.ref f_law_needed) = true)
    (a_law_alike : PySem.W.nsIn K mainGlobals "_law_alike" = some (some (.ref f_law_alike))) (l_law_alike : K.lookup f_law_alike = some ⟨oc_law_alike, od_law_alike, .func (PySem.W.fnOf "_law_alike" "_law_alike" (defArgs s_law_alike) (defBody s_law_alike) (defScope s_law_alike) .none kV_law_alike dc_law_alike pm_law_alike an_law_alike cd_law_alike ct_law_alike), sl_law_alike⟩) (c_law_alike : PySem.W.codeIn K cd_law_alike "_law_alike" = true) (k_law_alike : PySem.W.keepIn K (.ref f_law_alike) = true)
    (a_law_pushed : PySem.W.nsIn K mainGlobals "_law_pushed" = some (some (.ref f_law_pushed))) (l_law_pushed : K.lookup f_law_pushed = some ⟨oc_law_pushed, od_law_pushed, .func (PySem.W.fnOf "_law_pushed" "_law_pushed" (defArgs s_law_pushed) (defBody s_law_pushed) (defScope s_law_pushed) .none kV_law_pushed dc_law_pushed pm_law_pushed an_law_pushed cd_law_pushed ct_law_pushed), sl_law_pushed⟩) (c_law_pushed : PySem.W.codeIn K cd_law_pushed "_law_pushed" = true) (k_law_pushed : PySem.W.keepIn K (.ref f_law_pushed) = true)
    (a_law_fails : PySem.W.nsIn K mainGlobals "_law_fails" = some (some (.ref f_law_fails))) (l_law_fails : K.lookup f_law_fails = some ⟨oc_law_fails, od_law_fails, .func (PySem.W.fnOf "_law_fails" "_law_fails" (defArgs s_law_fails) (defBody s_law_fails) (defScope s_law_fails) .none kV_law_fails dc_law_fails pm_law_fails an_law_fails cd_law_fails ct_law_fails), sl_law_fails⟩) (c_law_fails : PySem.W.codeIn K cd_law_fails "_law_fails" = true) (k_law_fails : PySem.W.keepIn K (.ref f_law_fails) = true)
    (a_law : PySem.W.nsIn K mainGlobals "law" = some (some (.ref f_law))) (l_law : K.lookup f_law = some ⟨oc_law, od_law, .func (PySem.W.fnOf "law" "law" (defArgs s_law) (defBody s_law) (defScope s_law) .none kV_law dc_law pm_law an_law cd_law ct_law), sl_law⟩) (c_law : PySem.W.codeIn K cd_law "law" = true) (k_law : PySem.W.keepIn K (.ref f_law) = true)
    (z_all : PySem.W.nsIn K mainGlobals "all" = some none)
    (z_bool : PySem.W.nsIn K mainGlobals "bool" = some none)
    (z_enumerate : PySem.W.nsIn K mainGlobals "enumerate" = some none)
    (z_int : PySem.W.nsIn K mainGlobals "int" = some none)
    (z_isinstance : PySem.W.nsIn K mainGlobals "isinstance" = some none)
    (z_len : PySem.W.nsIn K mainGlobals "len" = some none)
    (z_list : PySem.W.nsIn K mainGlobals "list" = some none)
    (z_max : PySem.W.nsIn K mainGlobals "max" = some none)
    (z_min : PySem.W.nsIn K mainGlobals "min" = some none)
    (z_range : PySem.W.nsIn K mainGlobals "range" = some none)
    (z_reversed : PySem.W.nsIn K mainGlobals "reversed" = some none)
    (z_set : PySem.W.nsIn K mainGlobals "set" = some none)
    (z_sorted : PySem.W.nsIn K mainGlobals "sorted" = some none)
    (z_str : PySem.W.nsIn K mainGlobals "str" = some none)
    (z_tuple : PySem.W.nsIn K mainGlobals "tuple" = some none)
    {t_MOST_STATES : Tok} (n_MOST_STATES : PySem.W.nsIn K mainGlobals "MOST_STATES" = some (some (.int 6 t_MOST_STATES)))
    {t_MOST_LETTERS : Tok} (n_MOST_LETTERS : PySem.W.nsIn K mainGlobals "MOST_LETTERS" = some (some (.int 3 t_MOST_LETTERS)))
    {t_MOST_ANSWER : Tok} (n_MOST_ANSWER : PySem.W.nsIn K mainGlobals "MOST_ANSWER" = some (some (.int 9 t_MOST_ANSWER)))
    {t_MOST_COPIES : Tok} (n_MOST_COPIES : PySem.W.nsIn K mainGlobals "MOST_COPIES" = some (some (.int 99 t_MOST_COPIES)))
    {t_MOST_PUSHED : Tok} (n_MOST_PUSHED : PySem.W.nsIn K mainGlobals "MOST_PUSHED" = some (some (.int 9 t_MOST_PUSHED)))
    {t_GREATEST_ROOM : Tok} (n_GREATEST_ROOM : PySem.W.nsIn K mainGlobals "GREATEST_ROOM" = some (some (.int 60 t_GREATEST_ROOM))) :
    ∃ fd : FuncData, (∀ (s : Shared) (v : Value), BindsTo s fd ⟨[v], []⟩ [("script", v)]) ∧ ∀ base : Heap, K.In base → base.Ns mainGlobals mg → FnOk l.prog w K mg base CX0 11 fa fd ["script"] (spLaw K) := by
  have e := hfa.symm.trans (PySem.W.mg_of X G a_law)
  cases e
  have T : Txt K mg := ⟨PySem.W.mg_none_of X G z_all, PySem.W.mg_none_of X G z_bool, PySem.W.mg_none_of X G z_enumerate, PySem.W.mg_none_of X G z_int, PySem.W.mg_none_of X G z_isinstance, PySem.W.mg_none_of X G z_len, PySem.W.mg_none_of X G z_list, PySem.W.mg_none_of X G z_max, PySem.W.mg_none_of X G z_min, PySem.W.mg_none_of X G z_range, PySem.W.mg_none_of X G z_reversed, PySem.W.mg_none_of X G z_set, PySem.W.mg_none_of X G z_sorted, PySem.W.mg_none_of X G z_str, PySem.W.mg_none_of X G z_tuple, ⟨_, PySem.W.mg_of X G n_MOST_STATES⟩, ⟨_, PySem.W.mg_of X G n_MOST_LETTERS⟩, ⟨_, PySem.W.mg_of X G n_MOST_ANSWER⟩, ⟨_, PySem.W.mg_of X G n_MOST_COPIES⟩, ⟨_, PySem.W.mg_of X G n_MOST_PUSHED⟩, ⟨_, PySem.W.mg_of X G n_GREATEST_ROOM⟩⟩
  have F_is_integer := fun_mk (st := s_is_integer) l_is_integer c_is_integer k_is_integer
  have B_is_integer := F_is_integer.binds (ps := ["value", "low", "high"]) fun _ _ _ _ _ _ us hl => match us, hl with | [_, _, _], _ => rfl
  have F_is_tuple := fun_mk (st := s_is_tuple) l_is_tuple c_is_tuple k_is_tuple
  have B_is_tuple := F_is_tuple.binds (ps := ["value", "low", "high"]) fun _ _ _ _ _ _ us hl => match us, hl with | [_, _, _], _ => rfl
  have F_is_row := fun_mk (st := s_is_row) l_is_row c_is_row k_is_row
  have B_is_row := F_is_row.binds (ps := ["value", "greatest"]) fun _ _ _ _ _ _ us hl => match us, hl with | [_, _], _ => rfl
  have F_is_table := fun_mk (st := s_is_table) l_is_table c_is_table k_is_table
  have B_is_table := F_is_table.binds (ps := ["value", "height", "width", "greatest"]) fun _ _ _ _ _ _ us hl => match us, hl with | [_, _, _, _], _ => rfl
  have F_is_steps := fun_mk (st := s_is_steps) l_is_steps c_is_steps k_is_steps
  have B_is_steps := F_is_steps.binds (ps := ["value"]) fun _ _ _ _ _ _ us hl => match us, hl with | [_], _ => rfl
  have F_check_machine := fun_mk (st := s_check_machine) l_check_machine c_check_machine k_check_machine
  have B_check_machine := F_check_machine.binds (ps := ["machine"]) fun _ _ _ _ _ _ us hl => match us, hl with | [_], _ => rfl
  have F_check_number := fun_mk (st := s_check_number) l_check_number c_check_number k_check_number
  have B_check_number := F_check_number.binds (ps := ["value", "low", "high"]) fun _ _ _ _ _ _ us hl => match us, hl with | [_, _, _], _ => rfl
  have F_check_copies := fun_mk (st := s_check_copies) l_check_copies c_check_copies k_check_copies
  have B_check_copies := F_check_copies.binds (ps := ["copies"]) fun _ _ _ _ _ _ us hl => match us, hl with | [_], _ => rfl
  have F_check_pushed := fun_mk (st := s_check_pushed) l_check_pushed c_check_pushed k_check_pushed
  have B_check_pushed := F_check_pushed.binds (ps := ["pushed"]) fun _ _ _ _ _ _ us hl => match us, hl with | [_], _ => rfl
  have F_check_room := fun_mk (st := s_check_room) l_check_room c_check_room k_check_room
  have B_check_room := F_check_room.binds (ps := ["room"]) fun _ _ _ _ _ _ us hl => match us, hl with | [_], _ => rfl
  have F_ways_to_states := fun_mk (st := s_ways_to_states) l_ways_to_states c_ways_to_states k_ways_to_states
  have B_ways_to_states := F_ways_to_states.binds (ps := ["machine"]) fun _ _ _ _ _ _ us hl => match us, hl with | [_], _ => rfl
  have F_unlike_letters := fun_mk (st := s_unlike_letters) l_unlike_letters c_unlike_letters k_unlike_letters
  have B_unlike_letters := F_unlike_letters.binds (ps := ["machine", "pairs"]) fun _ _ _ _ _ _ us hl => match us, hl with | [_, _], _ => rfl
  have F_pair_behind := fun_mk (st := s_pair_behind) l_pair_behind c_pair_behind k_pair_behind
  have B_pair_behind := F_pair_behind.binds (ps := ["machine", "pair", "letter"]) fun _ _ _ _ _ _ us hl => match us, hl with | [_, _, _], _ => rfl
  have F_letters_into := fun_mk (st := s_letters_into) l_letters_into c_letters_into k_letters_into
  have B_letters_into := F_letters_into.binds (ps := ["machine", "pairs", "ends"]) fun _ _ _ _ _ _ us hl => match us, hl with | [_, _, _], _ => rfl
  have F_late_layers := fun_mk (st := s_late_layers) l_late_layers c_late_layers k_late_layers
  have B_late_layers := F_late_layers.binds (ps := ["machine"]) fun _ _ _ _ _ _ us hl => match us, hl with | [_], _ => rfl
  have F_late_walk := fun_mk (st := s_late_walk) l_late_walk c_late_walk k_late_walk
  have B_late_walk := F_late_walk.binds (ps := ["machine"]) fun _ _ _ _ _ _ us hl => match us, hl with | [_], _ => rfl
  have F_round_on := fun_mk (st := s_round_on) l_round_on c_round_on k_round_on
  have B_round_on := F_round_on.binds (ps := ["walk"]) fun _ _ _ _ _ _ us hl => match us, hl with | [_], _ => rfl
  have F_late := fun_mk (st := s_late) l_late c_late k_late
  have B_late := F_late.binds (ps := ["machine"]) fun _ _ _ _ _ _ us hl => match us, hl with | [_], _ => rfl
  have F_forgets := fun_mk (st := s_forgets) l_forgets c_forgets k_forgets
  have B_forgets := F_forgets.binds (ps := ["machine"]) fun _ _ _ _ _ _ us hl => match us, hl with | [_], _ => rfl
  have F_rounded_up := fun_mk (st := s_rounded_up) l_rounded_up c_rounded_up k_rounded_up
  have B_rounded_up := F_rounded_up.binds (ps := ["top", "bottom"]) fun _ _ _ _ _ _ us hl => match us, hl with | [_, _], _ => rfl
  have F_copies_needed := fun_mk (st := s_copies_needed) l_copies_needed c_copies_needed k_copies_needed
  have B_copies_needed := F_copies_needed.binds (ps := ["machine", "pushed", "room"]) fun _ _ _ _ _ _ us hl => match us, hl with | [_, _, _], _ => rfl
  have F_are_enough := fun_mk (st := s_are_enough) l_are_enough c_are_enough k_are_enough
  have B_are_enough := F_are_enough.binds (ps := ["machine", "copies", "pushed", "room"]) fun _ _ _ _ _ _ us hl => match us, hl with | [_, _, _, _], _ => rfl
  have F_law_taken := fun_mk (st := s_law_taken) l_law_taken c_law_taken k_law_taken
  have B_law_taken := F_law_taken.binds (ps := ["row", "many"]) fun _ _ _ _ _ _ us hl => match us, hl with | [_, _], _ => rfl
  have F_law_machine := fun_mk (st := s_law_machine) l_law_machine c_law_machine k_law_machine
  have B_law_machine := F_law_machine.binds (ps := ["row", "states", "letters"]) fun _ _ _ _ _ _ us hl => match us, hl with | [_, _, _], _ => rfl
  have F_law_comes := fun_mk (st := s_law_comes) l_law_comes c_law_comes k_law_comes
  have B_law_comes := F_law_comes.binds (ps := ["machine"]) fun _ _ _ _ _ _ us hl => match us, hl with | [_], _ => rfl
  have F_law_sets := fun_mk (st := s_law_sets) l_law_sets c_law_sets k_law_sets
  have B_law_sets := F_law_sets.binds (ps := ["machine"]) fun _ _ _ _ _ _ us hl => match us, hl with | [_], _ => rfl
  have F_law_late := fun_mk (st := s_law_late) l_law_late c_law_late k_law_late
  have B_law_late := F_law_late.binds (ps := ["machine"]) fun _ _ _ _ _ _ us hl => match us, hl with | [_], _ => rfl
  have F_law_needed := fun_mk (st := s_law_needed) l_law_needed c_law_needed k_law_needed
  have B_law_needed := F_law_needed.binds (ps := ["machine", "pushed", "room"]) fun _ _ _ _ _ _ us hl => match us, hl with | [_, _, _], _ => rfl
  have F_law_alike := fun_mk (st := s_law_alike) l_law_alike c_law_alike k_law_alike
  have B_law_alike := F_law_alike.binds (ps := ["found", "due"]) fun _ _ _ _ _ _ us hl => match us, hl with | [_, _], _ => rfl
  have F_law_pushed := fun_mk (st := s_law_pushed) l_law_pushed c_law_pushed k_law_pushed
  have B_law_pushed := F_law_pushed.binds (ps := ["states", "pushed", "many"]) fun _ _ _ _ _ _ us hl => match us, hl with | [_, _, _], _ => rfl
  have F_law_fails := fun_mk (st := s_law_fails) l_law_fails c_law_fails k_law_fails
  have B_law_fails := F_law_fails.binds (ps := ["machine", "copies", "pushed", "room"]) fun _ _ _ _ _ _ us hl => match us, hl with | [_, _, _, _], _ => rfl
  refine ⟨PySem.W.fnOf "law" "law" (defArgs s_law) (defBody s_law) (defScope s_law) .none kV_law dc_law pm_law an_law cd_law ct_law, fun s v => .of_eq rfl, fun base _ _ => ?_⟩
  have h_is_integer := has_is_integer (P := l.prog) (w := w) (base := base) T  F_is_integer (PySem.W.mg_of X G a_is_integer) B_is_integer
  have h_is_tuple := has_is_tuple (P := l.prog) (w := w) (base := base) T  F_is_tuple (PySem.W.mg_of X G a_is_tuple) B_is_tuple
  have h_is_row := has_is_row (P := l.prog) (w := w) (base := base) T h_is_integer F_is_row (PySem.W.mg_of X G a_is_row) B_is_row
  have h_is_table := has_is_table (P := l.prog) (w := w) (base := base) T h_is_tuple h_is_row F_is_table (PySem.W.mg_of X G a_is_table) B_is_table
  have h_is_steps := has_is_steps (P := l.prog) (w := w) (base := base) T h_is_tuple h_is_table F_is_steps (PySem.W.mg_of X G a_is_steps) B_is_steps
  have h_check_machine := has_check_machine (P := l.prog) (w := w) (base := base) T h_is_tuple h_is_table h_is_steps F_check_machine (PySem.W.mg_of X G a_check_machine) B_check_machine
  have h_ways_to_states := has_ways_to_states (P := l.prog) (w := w) (base := base) T  F_ways_to_states (PySem.W.mg_of X G a_ways_to_states) B_ways_to_states
  have h_unlike_letters := has_unlike_letters (P := l.prog) (w := w) (base := base) T  F_unlike_letters (PySem.W.mg_of X G a_unlike_letters) B_unlike_letters
  have h_pair_behind := has_pair_behind (P := l.prog) (w := w) (base := base) T  F_pair_behind (PySem.W.mg_of X G a_pair_behind) B_pair_behind
  have h_letters_into := has_letters_into (P := l.prog) (w := w) (base := base) T h_pair_behind F_letters_into (PySem.W.mg_of X G a_letters_into) B_letters_into
  have h_late_layers := has_late_layers (P := l.prog) (w := w) (base := base) T h_ways_to_states h_unlike_letters h_letters_into F_late_layers (PySem.W.mg_of X G a_late_layers) B_late_layers
  have h_late_walk := has_late_walk (P := l.prog) (w := w) (base := base) T h_pair_behind h_late_layers F_late_walk (PySem.W.mg_of X G a_late_walk) B_late_walk
  have h_round_on := has_round_on (P := l.prog) (w := w) (base := base) T  F_round_on (PySem.W.mg_of X G a_round_on) B_round_on
  have h_late := has_late (P := l.prog) (w := w) (base := base) T h_check_machine h_late_walk h_round_on F_late (PySem.W.mg_of X G a_late) B_late
  have h_forgets := has_forgets (P := l.prog) (w := w) (base := base) T h_late F_forgets (PySem.W.mg_of X G a_forgets) B_forgets
  have h_law_comes := has_law_comes (P := l.prog) (w := w) (base := base) T  F_law_comes (PySem.W.mg_of X G a_law_comes) B_law_comes
  have h_law_sets := has_law_sets (P := l.prog) (w := w) (base := base) T h_law_comes F_law_sets (PySem.W.mg_of X G a_law_sets) B_law_sets
  have h_law_late := has_law_late (P := l.prog) (w := w) (base := base) T h_law_sets F_law_late (PySem.W.mg_of X G a_law_late) B_law_late
  have h_check_number := has_check_number (P := l.prog) (w := w) (base := base) T h_is_integer F_check_number (PySem.W.mg_of X G a_check_number) B_check_number
  have h_check_copies := has_check_copies (P := l.prog) (w := w) (base := base) T h_check_number F_check_copies (PySem.W.mg_of X G a_check_copies) B_check_copies
  have h_check_pushed := has_check_pushed (P := l.prog) (w := w) (base := base) T h_check_number F_check_pushed (PySem.W.mg_of X G a_check_pushed) B_check_pushed
  have h_check_room := has_check_room (P := l.prog) (w := w) (base := base) T h_check_number F_check_room (PySem.W.mg_of X G a_check_room) B_check_room
  have h_rounded_up := has_rounded_up (P := l.prog) (w := w) (base := base) T  F_rounded_up (PySem.W.mg_of X G a_rounded_up) B_rounded_up
  have h_copies_needed := has_copies_needed (P := l.prog) (w := w) (base := base) T h_check_machine h_check_pushed h_check_room h_late h_rounded_up F_copies_needed (PySem.W.mg_of X G a_copies_needed) B_copies_needed
  have h_are_enough := has_are_enough (P := l.prog) (w := w) (base := base) T h_check_machine h_check_copies h_copies_needed F_are_enough (PySem.W.mg_of X G a_are_enough) B_are_enough
  have h_law_taken := has_law_taken (P := l.prog) (w := w) (base := base) T  F_law_taken (PySem.W.mg_of X G a_law_taken) B_law_taken
  have h_law_machine := has_law_machine (P := l.prog) (w := w) (base := base) T h_law_taken F_law_machine (PySem.W.mg_of X G a_law_machine) B_law_machine
  have h_law_alike := has_law_alike (P := l.prog) (w := w) (base := base) T  F_law_alike (PySem.W.mg_of X G a_law_alike) B_law_alike
  have h_law_needed := has_law_needed (P := l.prog) (w := w) (base := base) T h_law_late F_law_needed (PySem.W.mg_of X G a_law_needed) B_law_needed
  have h_law_pushed := has_law_pushed (P := l.prog) (w := w) (base := base) T  F_law_pushed (PySem.W.mg_of X G a_law_pushed) B_law_pushed
  have h_law_fails := has_law_fails (P := l.prog) (w := w) (base := base) T h_law_pushed F_law_fails (PySem.W.mg_of X G a_law_fails) B_law_fails
  exact ok_law T h_late h_forgets h_copies_needed h_are_enough h_law_taken h_law_machine h_law_late h_law_needed h_law_alike h_law_fails (fun_mk (st := s_law) l_law c_law k_law)
end Kx
open PySem PySem.W PyProof.Rows
set_option maxHeartbeats 0 in
theorem PySem.Challenge.cw_pushedclerks_k00_whole_law_holds : PySem.Challenge.rw_pushedclerks_k00_whole_law.Holds := by
  w_on; o_law; k_head; (case hw => w_witness2)
  k_fill
  refine L2.walk_of (l := PySem.Challenge.rw_pushedclerks_k00_whole_law) (n := 63) (k := 11) (x := "script") (CX := fun _ => L2.CX0) (sp := fun w => Kx.spLaw _) rfl (by decide) rfl ⟨rfl, by decide, by decide⟩ (fun w h Y => PySem.W.kIn_of Y) ?F (fun _ _ a ns hl _ hS => ⟨a, ns, rfl, hS, hl, fun _ => rfl⟩) (fun _ _ _ _ _ h => h)
  case F =>
    intro w mg fa h KX G hmg
    refine' Kx.all_mk KX G hmg ?a_is_integer ?l_is_integer ?c_is_integer ?k_is_integer ?a_is_tuple ?l_is_tuple ?c_is_tuple ?k_is_tuple ?a_is_row ?l_is_row ?c_is_row ?k_is_row ?a_is_table ?l_is_table ?c_is_table ?k_is_table ?a_is_steps ?l_is_steps ?c_is_steps ?k_is_steps ?a_check_machine ?l_check_machine ?c_check_machine ?k_check_machine ?a_check_number ?l_check_number ?c_check_number ?k_check_number ?a_check_copies ?l_check_copies ?c_check_copies ?k_check_copies ?a_check_pushed ?l_check_pushed ?c_check_pushed ?k_check_pushed ?a_check_room ?l_check_room ?c_check_room ?k_check_room ?a_ways_to_states ?l_ways_to_states ?c_ways_to_states ?k_ways_to_states ?a_unlike_letters ?l_unlike_letters ?c_unlike_letters ?k_unlike_letters ?a_pair_behind ?l_pair_behind ?c_pair_behind ?k_pair_behind ?a_letters_into ?l_letters_into ?c_letters_into ?k_letters_into ?a_late_layers ?l_late_layers ?c_late_layers ?k_late_layers ?a_late_walk ?l_late_walk ?c_late_walk ?k_late_walk ?a_round_on ?l_round_on ?c_round_on ?k_round_on ?a_late ?l_late ?c_late ?k_late ?a_forgets ?l_forgets ?c_forgets ?k_forgets ?a_rounded_up ?l_rounded_up ?c_rounded_up ?k_rounded_up ?a_copies_needed ?l_copies_needed ?c_copies_needed ?k_copies_needed ?a_are_enough ?l_are_enough ?c_are_enough ?k_are_enough ?a_law_taken ?l_law_taken ?c_law_taken ?k_law_taken ?a_law_machine ?l_law_machine ?c_law_machine ?k_law_machine ?a_law_comes ?l_law_comes ?c_law_comes ?k_law_comes ?a_law_sets ?l_law_sets ?c_law_sets ?k_law_sets ?a_law_late ?l_law_late ?c_law_late ?k_law_late ?a_law_needed ?l_law_needed ?c_law_needed ?k_law_needed ?a_law_alike ?l_law_alike ?c_law_alike ?k_law_alike ?a_law_pushed ?l_law_pushed ?c_law_pushed ?k_law_pushed ?a_law_fails ?l_law_fails ?c_law_fails ?k_law_fails ?a_law ?l_law ?c_law ?k_law ?z_all ?z_bool ?z_enumerate ?z_int ?z_isinstance ?z_len ?z_list ?z_max ?z_min ?z_range ?z_reversed ?z_set ?z_sorted ?z_str ?z_tuple ?n_MOST_STATES ?n_MOST_LETTERS ?n_MOST_ANSWER ?n_MOST_COPIES ?n_MOST_PUSHED ?n_GREATEST_ROOM
    (case a_is_integer => k_is)
    (case l_is_integer => k_is)
    (case c_is_integer => k_is)
    (case k_is_integer => k_is)
    (case a_is_tuple => k_is)
    (case l_is_tuple => k_is)
    (case c_is_tuple => k_is)
    (case k_is_tuple => k_is)
    (case a_is_row => k_is)
    (case l_is_row => k_is)
    (case c_is_row => k_is)
    (case k_is_row => k_is)
    (case a_is_table => k_is)
    (case l_is_table => k_is)
    (case c_is_table => k_is)
    (case k_is_table => k_is)
    (case a_is_steps => k_is)
    (case l_is_steps => k_is)
    (case c_is_steps => k_is)
    (case k_is_steps => k_is)
    (case a_check_machine => k_is)
    (case l_check_machine => k_is)
    (case c_check_machine => k_is)
    (case k_check_machine => k_is)
    (case a_check_number => k_is)
    (case l_check_number => k_is)
    (case c_check_number => k_is)
    (case k_check_number => k_is)
    (case a_check_copies => k_is)
    (case l_check_copies => k_is)
    (case c_check_copies => k_is)
    (case k_check_copies => k_is)
    (case a_check_pushed => k_is)
    (case l_check_pushed => k_is)
    (case c_check_pushed => k_is)
    (case k_check_pushed => k_is)
    (case a_check_room => k_is)
    (case l_check_room => k_is)
    (case c_check_room => k_is)
    (case k_check_room => k_is)
    (case a_ways_to_states => k_is)
    (case l_ways_to_states => k_is)
    (case c_ways_to_states => k_is)
    (case k_ways_to_states => k_is)
    (case a_unlike_letters => k_is)
    (case l_unlike_letters => k_is)
    (case c_unlike_letters => k_is)
    (case k_unlike_letters => k_is)
    (case a_pair_behind => k_is)
    (case l_pair_behind => k_is)
    (case c_pair_behind => k_is)
    (case k_pair_behind => k_is)
    (case a_letters_into => k_is)
    (case l_letters_into => k_is)
    (case c_letters_into => k_is)
    (case k_letters_into => k_is)
    (case a_late_layers => k_is)
    (case l_late_layers => k_is)
    (case c_late_layers => k_is)
    (case k_late_layers => k_is)
    (case a_late_walk => k_is)
    (case l_late_walk => k_is)
    (case c_late_walk => k_is)
    (case k_late_walk => k_is)
    (case a_round_on => k_is)
    (case l_round_on => k_is)
    (case c_round_on => k_is)
    (case k_round_on => k_is)
    (case a_late => k_is)
    (case l_late => k_is)
    (case c_late => k_is)
    (case k_late => k_is)
    (case a_forgets => k_is)
    (case l_forgets => k_is)
    (case c_forgets => k_is)
    (case k_forgets => k_is)
    (case a_rounded_up => k_is)
    (case l_rounded_up => k_is)
    (case c_rounded_up => k_is)
    (case k_rounded_up => k_is)
    (case a_copies_needed => k_is)
    (case l_copies_needed => k_is)
    (case c_copies_needed => k_is)
    (case k_copies_needed => k_is)
    (case a_are_enough => k_is)
    (case l_are_enough => k_is)
    (case c_are_enough => k_is)
    (case k_are_enough => k_is)
    (case a_law_taken => k_is)
    (case l_law_taken => k_is)
    (case c_law_taken => k_is)
    (case k_law_taken => k_is)
    (case a_law_machine => k_is)
    (case l_law_machine => k_is)
    (case c_law_machine => k_is)
    (case k_law_machine => k_is)
    (case a_law_comes => k_is)
    (case l_law_comes => k_is)
    (case c_law_comes => k_is)
    (case k_law_comes => k_is)
    (case a_law_sets => k_is)
    (case l_law_sets => k_is)
    (case c_law_sets => k_is)
    (case k_law_sets => k_is)
    (case a_law_late => k_is)
    (case l_law_late => k_is)
    (case c_law_late => k_is)
    (case k_law_late => k_is)
    (case a_law_needed => k_is)
    (case l_law_needed => k_is)
    (case c_law_needed => k_is)
    (case k_law_needed => k_is)
    (case a_law_alike => k_is)
    (case l_law_alike => k_is)
    (case c_law_alike => k_is)
    (case k_law_alike => k_is)
    (case a_law_pushed => k_is)
    (case l_law_pushed => k_is)
    (case c_law_pushed => k_is)
    (case k_law_pushed => k_is)
    (case a_law_fails => k_is)
    (case l_law_fails => k_is)
    (case c_law_fails => k_is)
    (case k_law_fails => k_is)
    (case a_law => k_is)
    (case l_law => k_is)
    (case c_law => k_is)
    (case k_law => k_is)
    (case z_all => k_is)
    (case z_bool => k_is)
    (case z_enumerate => k_is)
    (case z_int => k_is)
    (case z_isinstance => k_is)
    (case z_len => k_is)
    (case z_list => k_is)
    (case z_max => k_is)
    (case z_min => k_is)
    (case z_range => k_is)
    (case z_reversed => k_is)
    (case z_set => k_is)
    (case z_sorted => k_is)
    (case z_str => k_is)
    (case z_tuple => k_is)
    (case n_MOST_STATES => k_is)
    (case n_MOST_LETTERS => k_is)
    (case n_MOST_ANSWER => k_is)
    (case n_MOST_COPIES => k_is)
    (case n_MOST_PUSHED => k_is)
    (case n_GREATEST_ROOM => k_is)
