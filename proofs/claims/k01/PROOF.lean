import PyProof.Rows.All
import Wide.All
import OpenK.AllK
import Wide.FinOn
import HandS.ForMost
import HandS.IsInst
import HandS.Zip
import HandS.Walk
import HandS.Defaults
import HandS.FStr
import HandS.TupLe
import HandS.Evl
import HandS.Style
import HandS.StrMore
import HandS.Deep
import HandS.ExcInit
import HandS.ExcField
import HandS.ExcIs
import HandS.ExcValue
import KE.KExcIs
import KE.KExcInit
import PySem.Challenge.RW_tiedmoments_k01_errors_by_themselves
set_option Elab.async false
set_option linter.all false
set_option maxRecDepth 100000
/-! Own ground: rules that lacked, data in the heap, the bag of the laws. -/
namespace My
open PySem PySem.Spec PyProof.Rows L2

/-! ### a call by keywords alone -/
section
variable {X : Cx} {CX : CXT} {k n : Nat} {f : Addr} {fd : FuncData} {ps ks : List Str} {sp : Sp} {E : XK} {x : Str} {p pos : Pos} {kws : List Keyword} {tk : TA} {g : List Value → List Value → List Value} {gV : List V → List V → List V}
theorem pe_callN0 (F : FnOk X.prog X.w X.K X.mg X.base CX k f fd ps sp) (hr : Room k X.A) (hg : Gl X x) (hm : X.mg x = some (.ref f)) (hk : PySem.W.keepIn X.K (.ref f) = true) (hb : KBn X.K fd ps 0 ks g gV) (hx : Passes CX X E)
    (hkw : PK X kws tk) (plain : ((backTo pos (starEach [] X.env)).any (·.1) || (backToKw pos (keywordEach kws X.env)).any (·.1.isNone)) = false := by rfl) (named : (backToKw pos (keywordEach kws X.env)).all (·.1.isSome) = true := by rfl)
    (names : (backToKw pos (keywordEach kws X.env)).filterMap (·.1) = ks := by rfl) (nodebug : (x == ("__debug__" : Str)) = false := by decide) : PE X (.Call (.Name x p) [] kws pos) (tCallN 0 ks.length sp gV E tNil tk) := ⟨fun pins s σ H Q I h => by
  have go := hkw.run pos pins s σ H _ I h
  refine wpAny_Call_Name_kw (ld_glob I hg hm (PySem.W.callWith_KW0 (h₀ := X.base) I.ok.mod.kin hk named (thn go fun vals s' ⟨vs, H', J, rv, n1, n2, want⟩ => ⟨J.kIn, ?_⟩) plain) nodebug)
  rw [names]
  exact run_fnN (us := []) (vs := []) F hr hb hx J .nil rv n1 n2 want⟩
end

/-! ### is not True, of an int -/
theorem op_isnot_ib {X : Cx} : OpR X (compareOp .IsNot) (fun x y H Q => ∃ (a : Int) (b : Bool), x = .int a ∧ y = .bl b ∧ Q (.bl true) H) := fun pins s σ H x y v u Q I rx ry ⟨a, b, e1, e2, q⟩ => by
  subst e1 e2
  obtain ⟨t, e3⟩ := rx
  have e4 : u = Value.bool b := ry
  subst e3 e4
  exact wpAny_isNot_other rfl (fun z => by cases z) ⟨.bl true, H, I, rfl, q⟩

/-! ### heaps -/
/-- all but what stands at p is as it was -/
def Ext (p : Addr) (H H' : Hp) : Prop := ∀ b o, H b = some o → b ≠ p → H' b = some o
theorem Ext.refl (p : Addr) (H : Hp) : Ext p H H := fun _ _ h _ => h
theorem Ext.trans {p : Addr} {H H1 H2 : Hp} (a : Ext p H H1) (b : Ext p H1 H2) : Ext p H H2 := fun c o h n => b c o (a c o h n) n
theorem Ext.of {p : Addr} {H H' : Hp} (a : Same H H') : Ext p H H' := fun c o h _ => a c o h
theorem same_upd {o : HO} {p : Addr} {H : Hp} (h : H p = none) : Same H (upd H p o) := fun b x e => by
  rw [upd_ne (ne_of_none e h)]
  exact e
theorem Same.at {H H' : Hp} (s : Same H H') {a : Addr} {o : HO} (h : H a = some o) : H' a = some o := s a o h
theorem Rd.same {H H' : Hp} (s : Same H H') {a : Addr} {o : HO} (h : Rd H a o) : Rd H' a o := by
  rcases h with h | ⟨u, h⟩
  · exact .inl (s _ _ h)
  · exact .inr ⟨u, s _ _ h⟩
theorem Rd.ext {p : Addr} {H H' : Hp} (s : Ext p H H') {a : Addr} {o : HO} (n : a ≠ p) (h : Rd H a o) : Rd H' a o := by
  rcases h with h | ⟨u, h⟩
  · exact .inl (s _ _ h n)
  · exact .inr ⟨u, s _ _ h n⟩
theorem SqL.same {K : PySem.W.Frag} {H H' : Hp} (s : Same H H') {a : Addr} {xs : List V} (h : SqL K H a xs) : SqL K H' a xs := by
  rcases h with h | h
  · exact .inl (Rd.same s h)
  · exact .inr h
theorem SqT.same {K : PySem.W.Frag} {H H' : Hp} (s : Same H H') {a : Addr} {xs : List V} (h : SqT K H a xs) : SqT K H' a xs := by
  rcases h with h | h
  · exact .inl (Rd.same s h)
  · exact .inr h
theorem SqL.ext {K : PySem.W.Frag} {p : Addr} {H H' : Hp} (s : Ext p H H') {a : Addr} {xs : List V} (n : a ≠ p) (h : SqL K H a xs) : SqL K H' a xs := by
  rcases h with h | h
  · exact .inl (Rd.ext s n h)
  · exact .inr h
theorem SqT.ext {K : PySem.W.Frag} {p : Addr} {H H' : Hp} (s : Ext p H H') {a : Addr} {xs : List V} (n : a ≠ p) (h : SqT K H a xs) : SqT K H' a xs := by
  rcases h with h | h
  · exact .inl (Rd.ext s n h)
  · exact .inr h
theorem lsq {K : PySem.W.Frag} {H : Hp} {a : Addr} {xs : List V} (h : H a = some (.lst xs)) : SqL K H a xs := .inl (.inl h)
theorem tsq {K : PySem.W.Frag} {H : Hp} {a : Addr} {xs : List V} (h : H a = some (.tup xs)) : SqT K H a xs := .inl (.inl h)
theorem sz {n : Nat} (h : n ≤ 100000) : n ≤ sizeLine := Nat.le_trans h (by decide)
theorem szl {n : Nat} (h : n < 100000) : n < sizeLine := Nat.lt_of_lt_of_le h (by decide)

/-! ### data in the heap, away from p -/
mutual
inductive Dd (K : PySem.W.Frag) (p : Addr) (H : Hp) : V → PyData → Prop
  | non : Dd K p H .non .none
  | bl (b : Bool) : Dd K p H (.bl b) (.bool b)
  | int (i : Int) : Dd K p H (.int i) (.int i)
  | str (x : Str) : Dd K p H (.str x) (.str x)
  | lst {a : Addr} {xs : List V} {ds : List PyData} : a ≠ p → SqL K H a xs → DdAll K p H xs ds → Dd K p H (.ref a) (.list ds)
  | tup {a : Addr} {xs : List V} {ds : List PyData} : a ≠ p → SqT K H a xs → DdAll K p H xs ds → Dd K p H (.ref a) (.tuple ds)
inductive DdAll (K : PySem.W.Frag) (p : Addr) (H : Hp) : List V → List PyData → Prop
  | nil : DdAll K p H [] []
  | cons {v : V} {vs : List V} {d : PyData} {ds : List PyData} : Dd K p H v d → DdAll K p H vs ds → DdAll K p H (v :: vs) (d :: ds)
end
section
variable {K : PySem.W.Frag} {p : Addr} {H H' : Hp}
mutual
theorem Dd.ext (s : Ext p H H') : ∀ (d : PyData) (v : V), Dd K p H v d → Dd K p H' v d
  | .none, _, h => by cases h; exact .non
  | .bool _, _, h => by cases h; exact .bl _
  | .int _, _, h => by cases h; exact .int _
  | .str _, _, h => by cases h; exact .str _
  | .list ds, _, h => by
    cases h with
    | lst n a b => exact .lst n (SqL.ext s n a) (DdAll.ext s ds _ b)
  | .tuple ds, _, h => by
    cases h with
    | tup n a b => exact .tup n (SqT.ext s n a) (DdAll.ext s ds _ b)
  | .dict _, _, h => by cases h
theorem DdAll.ext (s : Ext p H H') : ∀ (ds : List PyData) (vs : List V), DdAll K p H vs ds → DdAll K p H' vs ds
  | [], _, h => by cases h; exact .nil
  | d :: ds, _, h => by
    cases h with
    | cons a b => exact .cons (Dd.ext s d _ a) (DdAll.ext s ds _ b)
end
mutual
theorem Dd.dp : ∀ (d : PyData) (v : V), Dd K p H v d → Dp K H v d
  | .none, _, h => by cases h; exact .non
  | .bool _, _, h => by cases h; exact .bl _
  | .int _, _, h => by cases h; exact .int _
  | .str _, _, h => by cases h; exact .str _
  | .list ds, _, h => by
    cases h with
    | lst n a b => exact .lst a (DdAll.dp ds _ b)
  | .tuple ds, _, h => by
    cases h with
    | tup n a b => exact .tup a (DdAll.dp ds _ b)
  | .dict _, _, h => by cases h
theorem DdAll.dp : ∀ (ds : List PyData) (vs : List V), DdAll K p H vs ds → DpAll K H vs ds
  | [], _, h => by cases h; exact .nil
  | d :: ds, _, h => by
    cases h with
    | cons a b => exact .cons (Dd.dp d _ a) (DdAll.dp ds _ b)
end
mutual
theorem Dp.same (s : Same H H') : ∀ (d : PyData) (v : V), Dp K H v d → Dp K H' v d
  | .none, _, h => by cases h; exact .non
  | .bool _, _, h => by cases h; exact .bl _
  | .int _, _, h => by cases h; exact .int _
  | .str _, _, h => by cases h; exact .str _
  | .list ds, _, h => by
    cases h with
    | lst a b => exact .lst (SqL.same s a) (DpAll.same s ds _ b)
  | .tuple ds, _, h => by
    cases h with
    | tup a b => exact .tup (SqT.same s a) (DpAll.same s ds _ b)
  | .dict _, _, h => by cases h
theorem DpAll.same (s : Same H H') : ∀ (ds : List PyData) (vs : List V), DpAll K H vs ds → DpAll K H' vs ds
  | [], _, h => by cases h; exact .nil
  | d :: ds, _, h => by
    cases h with
    | cons a b => exact .cons (Dp.same s d _ a) (DpAll.same s ds _ b)
end
theorem DpAll.length : ∀ {ds : List PyData} {vs : List V}, DpAll K H vs ds → vs.length = ds.length
  | [], _, h => by cases h; rfl
  | d :: ds, _, h => by
    cases h with
    | cons a b => exact congrArg Nat.succ (DpAll.length b)
theorem DpAll.get : ∀ {ds : List PyData} {vs : List V} {i : Nat} {v : V}, DpAll K H vs ds → vs[i]? = some v → ∃ d, ds[i]? = some d ∧ Dp K H v d
  | [], _, _, _, h, e => by cases h; simp at e
  | d :: ds, _, 0, _, h, e => by
    cases h with
    | cons a b => simp at e; subst e; exact ⟨d, rfl, a⟩
  | d :: ds, _, i + 1, _, h, e => by
    cases h with
    | cons a b =>
      obtain ⟨d', e1, e2⟩ := DpAll.get (i := i) b (by simpa using e)
      exact ⟨d', by simpa using e1, e2⟩
end

/-! ### the bag of the laws -/
/-- where a bag stands: its list, its list of cells, the cells -/
structure BagId where
  p : Addr
  l : Addr
  ns : List Int
def Bag (B : BagId) (H : Hp) : Prop := ∃ (i g m c : Int), H B.p = some (.lst [.ref B.l, .int i, .int g, .int m, .int c]) ∧ H B.l = some (.lst (B.ns.map V.int)) ∧ B.l ≠ B.p ∧ 0 ≤ i ∧ i ≤ B.ns.length ∧ B.ns.length ≤ 63 ∧ 0 ≤ g ∧ 0 ≤ m ∧ m < 2147483549
theorem Bag.ext {B : BagId} {H H' : Hp} (b : Bag B H) (s : Same H H') : Bag B H' := by
  obtain ⟨i, g, m, c, h1, h2, r⟩ := b
  exact ⟨i, g, m, c, s _ _ h1, s _ _ h2, r⟩
theorem Bag.there {B : BagId} {H : Hp} (b : Bag B H) : ∃ o, H B.p = some o := by
  obtain ⟨i, g, m, c, h1, _⟩ := b
  exact ⟨_, h1⟩
theorem Bag.thereL {B : BagId} {H : Hp} (b : Bag B H) : ∃ o, H B.l = some o := by
  obtain ⟨i, g, m, c, h1, h2, _⟩ := b
  exact ⟨_, h2⟩
theorem Bag.ne {B : BagId} {a : Addr} {H : Hp} (b : Bag B H) (h : H a = none) : a ≠ B.p := by
  obtain ⟨o, e⟩ := b.there
  exact (ne_of_none e h).symm
theorem Bag.neL {B : BagId} {a : Addr} {H : Hp} (b : Bag B H) (h : H a = none) : a ≠ B.l := by
  obtain ⟨o, e⟩ := b.thereL
  exact (ne_of_none e h).symm
theorem Bag.upd {B : BagId} {a : Addr} {o : HO} {H : Hp} (b : Bag B H) (h1 : a ≠ B.p) (h2 : a ≠ B.l) : Bag B (upd H a o) := by
  obtain ⟨i, g, m, c, e1, e2, r⟩ := b
  exact ⟨i, g, m, c, by rw [upd_ne h1.symm]; exact e1, by rw [upd_ne h2.symm]; exact e2, r⟩
def spBag (K : PySem.W.Frag) : Sp := fun vs H Q _ => ∃ (a : Addr) (ns : List Int), vs = [.ref a] ∧ SqL K H a (ns.map V.int) ∧ ns.length ≤ 63 ∧ ∀ (B : BagId) (H' : Hp), H B.p = none → Bag B H' → Same H H' → Q (.ref B.p) H'
def spDraw : Sp := fun vs H Q _ => ∃ (B : BagId) (n : Int), vs = [.ref B.p, .int n] ∧ Bag B H ∧ 0 < n ∧ n < 1073741824 ∧ ∀ (r : Int) (H' : Hp), 0 ≤ r → r < n → Bag B H' → Ext B.p H H' → Q (.int r) H'
def spOf (K : PySem.W.Frag) : Sp := fun vs H Q _ => ∃ (B : BagId) (y : V), vs = [.ref B.p, y] ∧ Bag B H ∧
  ((∃ (q : Addr) (xs : List V), y = .ref q ∧ q ≠ B.p ∧ (SqL K H q xs ∨ SqT K H q xs) ∧ 0 < xs.length ∧ xs.length < 1073741824 ∧ ∀ (v : V) (H' : Hp), v ∈ xs → Bag B H' → Ext B.p H H' → Q v H') ∨
   (∃ z : Str, y = .str z ∧ 0 < z.length ∧ z.length ≤ sizeLine ∧ ∀ (c : Nat) (H' : Hp), c ∈ z.cps.toList → Bag B H' → Ext B.p H H' → Q (.str ⟨#[c]⟩) H'))
mutual
/-- no list in it is long -/
def small : PyData → Bool
  | .list ds => decide (ds.length ≤ 5000) && smallAll ds
  | .tuple ds => decide (ds.length ≤ 5000) && smallAll ds
  | .dict _ => false
  | .none => true
  | .bool _ => true
  | .int _ => true
  | .str x => decide (x.length ≤ 5000)
def smallAll : List PyData → Bool
  | [] => true
  | d :: ds => small d && smallAll ds
end
theorem smallAll_get : ∀ {ds : List PyData} {i : Nat} {d : PyData}, smallAll ds = true → ds[i]? = some d → small d = true
  | [], _, _, _, e => by simp at e
  | x :: ds, 0, d, h, e => by
    simp at e; subst e
    unfold smallAll at h
    exact (Bool.and_eq_true_iff.mp h).1
  | x :: ds, i + 1, d, h, e => by
    unfold smallAll at h
    exact smallAll_get (i := i) (Bool.and_eq_true_iff.mp h).2 (by simpa using e)
theorem depthAll_get : ∀ {ds : List PyData} {i : Nat} {d : PyData}, ds[i]? = some d → d.depth ≤ PyData.depthAll ds
  | [], _, _, e => by simp at e
  | x :: ds, 0, d, e => by
    simp at e; subst e
    unfold PyData.depthAll
    exact Nat.le_max_left _ _
  | x :: ds, i + 1, d, e => by
    unfold PyData.depthAll
    exact Nat.le_trans (depthAll_get (i := i) (by simpa using e)) (Nat.le_max_right _ _)
def spSame (K : PySem.W.Frag) (n : Nat) : Sp := fun vs H Q _ => ∃ (v w : V) (d : PyData), vs = [v, w] ∧ Dp K H v d ∧ Dp K H w d ∧ d.depth ≤ n ∧ small d = true ∧ ∀ H', Same H H' → Q (.bl true) H'
/-- the promise one depth less; none of depth nought -/
def spSameLt (K : PySem.W.Frag) : Nat → Sp
  | 0 => fun _ _ _ _ => False
  | n + 1 => spSame K n
/-! ### rules whose sides are read off -/
section
variable {X : Cx}
theorem CallR.imp {f : Value} {r r' : List V → Hp → VK → Prop} (h : CallR X f r) (i : ∀ xs H Q, r' xs H Q → r xs H Q) : CallR X f r' := fun pins s σ H xs us Q I rv q => h pins s σ H xs us Q I rv (i _ _ _ q)
theorem OpR.imp {f : Value → Value → Sem Value} {r r' : R2} (h : OpR X f r) (i : ∀ x y H Q, r' x y H Q → r x y H Q) : OpR X f r' := fun pins s σ H x y v u Q I rx ry q => h pins s σ H x y v u Q I rx ry (i _ _ _ _ q)
theorem IxR.imp {r r' : R2} (h : IxR X r) (i : ∀ x y H Q, r' x y H Q → r x y H Q) : IxR X r' := by
  intro value slice pins s σ H x y v u Q I rx ry q hs
  exact h _ _ _ _ _ _ _ _ _ _ _ I rx ry (i _ _ _ _ q) hs
theorem call_intI : CallR X (.type "int") (fun xs H Q => ∃ i, xs = [.int i] ∧ Q (.int i) H) := CallR.imp call_int1 fun _ _ _ h => .inl h
def CMulC (_ j : Int) : Prop := decide (-(2 ^ 64) < j ∧ j < 2 ^ 64) = true
theorem op_mulC : OpR X (binaryOp .Mult) (rI CMulC fun i j => .int (i * j)) := OpR.imp op_mul fun _ _ _ _ ⟨i, j, a, b, c, q⟩ => ⟨i, j, a, b, .inr (of_decide_eq_true c), q⟩
def CModC (_ j : Int) : Prop := decide (0 < j) = true
theorem op_modC : OpR X (binaryOp .Mod) (rI CModC fun i j => .int (i % j)) := OpR.imp op_mod fun _ _ _ _ ⟨i, j, a, b, c, q⟩ => ⟨i, j, a, b, of_decide_eq_true c, q⟩
def CDivC (_ j : Int) : Prop := decide (0 < j ∧ j < 1073741824) = true
theorem op_fdivC : OpR X (binaryOp .FloorDiv) (rI CDivC fun i j => .int (i / j)) := OpR.imp op_fdiv fun _ _ _ _ ⟨i, j, a, b, c, q⟩ => ⟨i, j, a, b, (of_decide_eq_true c : 0 < j ∧ j < 1073741824), q⟩
/-- the k-th item of a written place in a tracked list -/
def rIxB (K : PySem.W.Frag) : R2 := fun x y H Q => ∃ p i xs v, x = .ref p ∧ y = .int i ∧ H p = some (.lst xs) ∧ atI xs i = some v ∧ Q v H
theorem ix_bag : IxR X (rIxB X.K) := IxR.imp ix_list fun _ _ _ _ ⟨p, i, xs, v, a, b, c, d, q⟩ => ⟨p, xs, i, v, a, b, lsq c, d, q⟩
theorem call_lenL : CallR X (.builtin "len") (fun xs H Q => ∃ p ys, xs = [.ref p] ∧ SqL X.K H p ys ∧ Q (.int ys.length) H) := CallR.imp call_len_seq fun _ _ _ ⟨p, ys, a, b, q⟩ => ⟨p, ys, a, .inl b, q⟩
theorem call_listL : CallR X (.type "list") (fun xs H Q => ∃ p ys, xs = [.ref p] ∧ SqL X.K H p ys ∧ ∀ l, H l = none → Q (.ref l) (upd H l (.lst ys))) := CallR.imp call_list_of fun _ _ _ ⟨p, ys, a, b, q⟩ => ⟨p, ys, a, .inl b, q⟩

/-! ### isinstance of data -/
def tyName : PyData → String
  | .none => "NoneType"
  | .bool _ => "bool"
  | .int _ => "int"
  | .str _ => "str"
  | .list _ => "list"
  | .tuple _ => "tuple"
  | .dict _ => "dict"
def isT (t n : String) : Bool := t == n || (t == "bool" && n == "int")
def okT (n : String) : Bool := n == "int" || n == "bool" || n == "str" || n == "list" || n == "tuple"
theorem tyx {K : PySem.W.Frag} {H : Hp} {x : V} {d : PyData} (h : Dp K H x d) : TyX K H x (.type (tyName d)) := by
  cases h with
  | non => exact .base .non
  | bl b => exact .base (.bl b)
  | int i => exact .base (.int i)
  | str z => exact .base (.str z)
  | lst a b =>
    rcases a with (a | ⟨o, a⟩) | ⟨o, its, n, a, c, _⟩
    · exact .base (.lst a)
    · exact .base (.frz a)
    · exact .kList a c
  | tup a b =>
    rcases a with (a | ⟨o, a⟩) | ⟨o, its, n, a, c, _⟩
    · exact .base (.tup a)
    · exact .fTuple a
    · exact .kTuple a c
theorem kitB_ok (d : PyData) (n : String) (h : okT n = true) (hd : ∀ kvs, d ≠ .dict kvs) : kitB (tyName d) n = some (isT (tyName d) n) := by
  have e : n = "int" ∨ n = "bool" ∨ n = "str" ∨ n = "list" ∨ n = "tuple" := by
    unfold okT at h
    simpa [or_assoc] using h
  rcases e with rfl | rfl | rfl | rfl | rfl <;> cases d <;> first | exact absurd rfl (hd _) | (dsimp only [tyName]; decide +kernel)
def isD (n : String) (d : PyData) : Bool := isT (tyName d) n
theorem call_isD : CallR X (.builtin "isinstance") (fun xs H Q => ∃ x n d, xs = [x, .ty n] ∧ okT n = true ∧ Dp X.K H x d ∧ Q (.bl (isD n d)) H) := CallR.imp call_isi fun xs H Q ⟨x, n, d, a, b, c, q⟩ =>
  ⟨x, .ty n, _, _, isD n d, a, .ty n, tyx c, kit_ty (kitB_ok d n b fun kvs e => by subst e; cases c), q⟩
/-- of two classes, the tuple made on the way -/
theorem call_isD2 : CallR X (.builtin "isinstance") (fun xs H Q => ∃ x t m n d, xs = [x, .ref t] ∧ H t = some (.tup [.ty m, .ty n]) ∧ okT m = true ∧ okT n = true ∧ Dp X.K H x d ∧ Q (.bl (isD m d || isD n d)) H) := CallR.imp call_isiT fun xs H Q ⟨x, t, m, n, d, a, ht, b, b', c, q⟩ => by
  have hd : ∀ kvs, d ≠ .dict kvs := fun kvs e => by subst e; cases c
  refine ⟨x, t, _, _, [.type m, .type n], isD m d || isD n d, a, ht, .cons (.ty m) (.cons (.ty n) .nil), tyx c, ?_, q⟩
  refine kitAny_cons (kit_ty (kitB_ok d m b hd)) (fun e => ?_) (fun e => ?_)
  · refine kitAny_cons (kit_ty (kitB_ok d n b' hd)) (fun e' => ?_) (fun e' => ?_)
    · rw [show isD m d = false from e, show isD n d = false from e']; exact kitAny_nil
    · rw [show isD n d = true from e']; exact Bool.or_true _
  · rw [show isD m d = true from e]; rfl
end
theorem Dp.lenL {K : PySem.W.Frag} {H : Hp} {x : V} {ds : List PyData} (h : Dp K H x (.list ds)) : ∃ a xs, x = .ref a ∧ SqL K H a xs ∧ DpAll K H xs ds := by
  cases h with
  | lst a b => exact ⟨_, _, rfl, a, b⟩
theorem Dp.lenT {K : PySem.W.Frag} {H : Hp} {x : V} {ds : List PyData} (h : Dp K H x (.tuple ds)) : ∃ a xs, x = .ref a ∧ SqT K H a xs ∧ DpAll K H xs ds := by
  cases h with
  | tup a b => exact ⟨_, _, rfl, a, b⟩

/-! ### the comprehension of _law_same -/
theorem walk_zipT {K : PySem.W.Frag} {a b : Addr} {xs ys : List V} {n : Nat} (hn : n = min xs.length ys.length) : Walk (RZ.ItzT K a b) n (fun H => SqT K H a xs ∧ SqT K H b ys) (YPair (fun i => xs[i]?) (fun i => ys[i]?)) := by
  subst hn
  constructor
  · intro i H hi q
    exact ⟨xs, ys, xs[i]'(by omega), ys[i]'(by omega), q.1, q.2, List.getElem?_eq_getElem _, List.getElem?_eq_getElem _⟩
  · intro H q
    exact ⟨xs, ys, q.1, q.2, by omega⟩
  · intro i H v H' hi q y
    obtain ⟨T, a', b', e1, e2, e3, e4, e5⟩ := y
    exact ⟨T, a', b', e1, e2, e3, e4 _ q.1, e5 _ q.2⟩
theorem same_all {K : PySem.W.Frag} {J : It} {xs ys : List V} {ds : List PyData} {G : Hp → Prop} {H0 : Hp} {n : Nat} {D : Addr} {Qd : Hp → Prop} {σ : L2.St} {E : XK} (w : Walk J ds.length G (YPair (fun i => xs[i]?) (fun i => ys[i]?)))
    (hx : DpAll K H0 xs ds) (hy : DpAll K H0 ys ds) (hG : ∀ H, Same H0 H → G H) (hD : H0 D = none) (hsz : ds.length ≤ 5000) (hsm : smallAll ds = true) (hdp : PyData.depthAll ds + 1 ≤ n) (hσ : ∃ a b, σ = [a, b, none, none])
    (hq : ∀ H', Same H0 H' → H' D = some (.lst (List.replicate ds.length (.bl true))) → Qd H') :
    ∃ W : Nat → Nat → Hp → Prop, (∃ m, W 0 m (upd H0 D (.lst []))) ∧ ∀ i m H, W i m H →
      (J.stop i H ∧ Qd H) ∨ (J.go i H ∧ ∃ Nx : Hp → Prop, (∀ H', Nx H' → ∃ m', m' < m ∧ W (i + 1) m' H') ∧ ∀ x H', J.yld i H x H' → (gTup K 2 (gCons (gName 2) (gCons (gName 3) gNil))) x (wipe σ [2, 3]) H' fun σ2 H2 => wipe σ2 [2, 3] = wipe σ [2, 3] ∧ tYes σ2 H2 fun b H3 =>
        if b = true then (tCall (spSameLt K n) [] E (tCons (tVar 2) (tCons (tVar 3) tNil))) σ2 H3 fun y H4 => ∃ acc, H4 D = some (.lst acc) ∧ acc.length < sizeLine ∧ Nx (upd H4 D (.lst (acc ++ [y]))) else Nx H3) := by
  obtain ⟨a, b, rfl⟩ := hσ
  refine lc_it w (fun i H => Same H0 H ∧ H D = some (.lst (List.replicate i (.bl true)))) ⟨same_upd hD, upd_same⟩ (fun i H _ h => hG H h.1) (fun i x H H' hi h y => ?_) fun H h => hq H h.1 h.2
  obtain ⟨s1, h1⟩ := h
  obtain ⟨T, v, u, rfl, nT, rfl, ev, eu⟩ := y
  obtain ⟨d, ed, dv⟩ := DpAll.get hx ev
  obtain ⟨d', ed', du⟩ := DpAll.get hy eu
  have e1 : d' = d := Option.some.inj (ed'.symm.trans ed)
  subst e1
  have s2 : Same H0 (upd H T (.tup [v, u])) := s1.trans (same_upd nT)
  refine ⟨T, [v, u], rfl, .inl (.inl upd_same), rfl, v, [u], rfl, u, [], rfl, rfl, rfl, ?_⟩
  cases n with
  | zero => omega
  | succ n =>
    refine ⟨_, rfl, _, rfl, v, u, d', rfl, Dp.same s2 _ _ dv, Dp.same s2 _ _ du, ?_, smallAll_get hsm ed, fun H2 s3 => ?_⟩
    · have := depthAll_get ed
      omega
    · have hD2 : H2 D = some (.lst (List.replicate i (.bl true))) := s3 _ _ (same_upd nT _ _ h1)
      refine ⟨_, hD2, ?_, fun c o hc => ?_, ?_⟩
      · rw [List.length_replicate]; exact szl (by omega)
      · rw [upd_ne (ne_of_none hc hD)]
        exact s3 _ _ (s2 _ _ hc)
      · rw [upd_same, List.replicate_succ']
theorem hu65 {k : Nat} {A : Around} (hr : Room k A) : A.units + 65 < cLine := by
  have := hr.un
  omega
theorem hu64 {k : Nat} {A : Around} (hr : Room k A) : A.units + 64 < cLine := by
  have := hr.un
  omega
/-- data that the rules may compare -/
def fine (d : PyData) : Bool := small d && SeqAt.shaped d
theorem fine_small {d : PyData} (h : fine d = true) : small d = true := (Bool.and_eq_true_iff.mp h).1
theorem fine_shaped {d : PyData} (h : fine d = true) : SeqAt.shaped d = true := (Bool.and_eq_true_iff.mp h).2
/-- the signs of a text, each asked: is it one of z's -/
theorem str_all {x : Str} {H0 : Hp} {D : Addr} {Qd : Hp → Prop} {σ : L2.St} {vs : List Nat} {j : Nat} {te : TE} (hD : H0 D = none) (hl : x.length ≤ 5000) (f : Nat → Bool) (hw : ∀ v, wipe ((wipe σ vs).set j (some v)) vs = wipe σ vs)
    (he : ∀ (c : Nat) (H : Hp) (Q : VK), Q (.bl (f c)) H → te ((wipe σ vs).set j (some (.str ⟨#[c]⟩))) H Q)
    (hq : ∀ H', Same H0 H' → H' D = some (.lst ((x.cps.toList.map f).map V.bl)) → Qd H') :
    ∃ W : Nat → Nat → Hp → Prop, (∃ m, W 0 m (upd H0 D (.lst []))) ∧ ∀ i m H, W i m H →
      ((Its x).stop i H ∧ Qd H) ∨ ((Its x).go i H ∧ ∃ Nx : Hp → Prop, (∀ H', Nx H' → ∃ m', m' < m ∧ W (i + 1) m' H') ∧ ∀ v H', (Its x).yld i H v H' → (gName j) v (wipe σ vs) H' fun σ2 H2 => wipe σ2 vs = wipe σ vs ∧ tYes σ2 H2 fun b H3 =>
        if b = true then te σ2 H3 fun y H4 => ∃ acc, H4 D = some (.lst acc) ∧ acc.length < sizeLine ∧ Nx (upd H4 D (.lst (acc ++ [y]))) else Nx H3) := by
  have hlen : x.length = x.cps.toList.length := by simp [Str.length]
  refine lc_it walk_str (fun i H => Same H0 H ∧ H D = some (.lst (((x.cps.toList.take i).map f).map V.bl))) ⟨same_upd hD, upd_same⟩ (fun _ _ _ _ => trivial) (fun i v H H' hi h y => ?_) fun H h => hq H h.1 ?_
  · obtain ⟨s1, h1⟩ := h
    obtain ⟨rfl, c, ec, rfl⟩ := y
    refine ⟨hw _, ?_⟩
    refine he c H' _ ⟨_, h1, ?_, fun b o hb => ?_, ?_⟩
    · rw [List.length_map, List.length_map]
      exact szl (Nat.lt_of_le_of_lt (List.length_take_le' _ _) (by omega))
    · rw [upd_ne (ne_of_none hb hD)]
      exact s1 _ _ hb
    · rw [upd_same, List.take_add_one, show x.cps.toList[i]? = some c by rw [Array.getElem?_toList]; exact ec]
      simp
  · have h2 := h.2
    rw [List.take_of_length_le (by simp)] at h2
    exact h2
/-- what stands in the written part stands at every heap -/
theorem SqT.static {K : PySem.W.Frag} {a : Addr} {xs : List V} (h : SqT K (fun _ => none) a xs) (H : Hp) : SqT K H a xs := by
  rcases h with (h | ⟨o, h⟩) | h
  · cases h
  · cases h
  · exact .inr h
theorem SqL.static {K : PySem.W.Frag} {a : Addr} {xs : List V} (h : SqL K (fun _ => none) a xs) (H : Hp) : SqL K H a xs := by
  rcases h with (h | ⟨o, h⟩) | h
  · cases h
  · cases h
  · exact .inr h
/-- how a call with keywords binds, no defaults -/
theorem kb_mk {K : PySem.W.Frag} {x qual : Str} {st : Stmt} {f : Addr} {fd : FuncData} {ps ks : List Str} {n : Nat} {g : List Value → List Value → List Value} {gV : List V → List V → List V} (F : Fun K x qual st f fd)
    (h : ∀ (kV doc pm : Value) (an : Option Addr) (cdv ct : Value) (us ws : List Value), us.length = n → ws.length = ks.length → bindArgs (PySem.W.fnOf x qual (defArgs st) (defBody st) (defScope st) .none kV doc pm an cdv ct) ⟨us, ks.zip ws⟩ = pure (ps.zip (g us ws)))
    (hr : ∀ {vs : List V} {us : List Value} {zs : List V} {ws : List Value}, Vals vs us → Vals zs ws → Vals (gV vs zs) (g us ws)) : KBn K fd ps n ks g gV := by
  obtain ⟨_, _, kV, doc, pm, an, cdv, ct, _, e, _⟩ := F.ex
  subst e
  exact ⟨fun s us ws _ h1 h2 => .of_eq (h kV doc pm an cdv ct us ws h1 h2), hr⟩
/-- a tuple of the written part -/
theorem tup_k {K : PySem.W.Frag} {H : Hp} {a : Addr} {dd : Option Addr} {its : Array Value} {n : Nat} {sl : Array (Option Value)} {xs : List V} {ds : List PyData} (h : K.lookup a = some ⟨.type "tuple", dd, .seq its n, sl⟩) (hz : its.size ≤ sizeLine) (hv : Vals xs its.toList) (hd : DpAll K H xs ds) :
    Dp K H (.ref a) (.tuple ds) := .tup (.inr ⟨_, _, _, h, rfl, rfl, hz, hv⟩) hd
end My

set_option Elab.async false
set_option linter.all false
set_option maxRecDepth 100000
/-! What an expression that changes nothing is worth, as data away from p (DV, DA): by its parts. -/
namespace My
open PySem PySem.Spec PyProof.Rows L2
def spD (K : PySem.W.Frag) (f : PyData → Bool) : Sp := fun vs H Q _ => ∃ (v : V) (d : PyData), vs = [v] ∧ Dp K H v d ∧ fine d = true ∧ ∀ H', Same H H' → Q (.bl (f d)) H'
/-- te gives a value of the data d, at any heap that keeps H -/
def DV (K : PySem.W.Frag) (p : Addr) (te : TE) (σ : L2.St) (H : Hp) (d : PyData) : Prop := ∀ H1, Same H H1 → ∀ Q : VK, (∀ v H2, Same H1 H2 → Dd K p H2 v d → Q v H2) → te σ H1 Q
def DA (K : PySem.W.Frag) (p : Addr) (ta : TA) (σ : L2.St) (H : Hp) (ds : List PyData) : Prop := ∀ H1, Same H H1 → ∀ Q : List V → Hp → Prop, (∀ vs H2, Same H1 H2 → DdAll K p H2 vs ds → Q vs H2) → ta σ H1 Q
section
variable {K : PySem.W.Frag} {p : Addr} {σ : L2.St} {H H' : Hp} {ta tb te tc : TE} {tr tk : TA} {d e : PyData} {ds : List PyData} {v : V}
theorem DV.mono (s : Same H H') (h : DV K p te σ H d) : DV K p te σ H' d := fun H1 a Q q => h H1 (s.trans a) Q q
theorem DdAll.length : ∀ {ds : List PyData} {vs : List V}, DdAll K p H vs ds → vs.length = ds.length
  | [], _, h => by cases h; rfl
  | d :: ds, _, h => by
    cases h with
    | cons a b => exact congrArg Nat.succ (DdAll.length b)
theorem DdAll.mem : ∀ {ds : List PyData} {vs : List V} {v : V}, DdAll K p H vs ds → v ∈ vs → ∃ d, d ∈ ds ∧ Dd K p H v d
  | [], _, v, h, m => by cases h; cases m
  | d :: ds, _, v, h, m => by
    cases h with
    | cons a b =>
      rcases List.mem_cons.mp m with rfl | m
      · exact ⟨d, List.mem_cons_self .., a⟩
      · obtain ⟨d', m', h'⟩ := DdAll.mem b m
        exact ⟨d', List.mem_cons_of_mem _ m', h'⟩
theorem DdAll.take : ∀ (n : Nat) {ds : List PyData} {vs : List V}, DdAll K p H vs ds → DdAll K p H (vs.take n) (ds.take n)
  | 0, _, _, _ => .nil
  | n + 1, [], _, h => by cases h; exact .nil
  | n + 1, d :: ds, _, h => by
    cases h with
    | cons a b => exact .cons a (DdAll.take n b)
theorem DdAll.app : ∀ {ds es : List PyData} {vs ws : List V}, DdAll K p H vs ds → DdAll K p H ws es → DdAll K p H (vs ++ ws) (ds ++ es)
  | [], _, _, _, h, g => by cases h; exact g
  | d :: ds, _, _, _, h, g => by
    cases h with
    | cons a b => exact .cons a (DdAll.app b g)
theorem dv_int {i : Int} : DV K p (tC (.int i)) σ H (.int i) := fun H1 _ Q q => q _ _ (Same.refl _) (.int i)
theorem dv_bl {b : Bool} : DV K p (tC (.bl b)) σ H (.bool b) := fun H1 _ Q q => q _ _ (Same.refl _) (.bl b)
theorem dv_str {x : Str} : DV K p (tC (.str x)) σ H (.str x) := fun H1 _ Q q => q _ _ (Same.refl _) (.str x)
theorem dv_non : DV K p (tC .non) σ H .none := fun H1 _ Q q => q _ _ (Same.refl _) .non
theorem dv_var {i : Nat} (h : σ[i]? = some (some v)) (hd : Dd K p H v d) : DV K p (tVar i) σ H d := fun H1 s Q q => ⟨v, h, q _ _ (Same.refl _) (Dd.ext (Ext.of s) _ _ hd)⟩
theorem dv_vi {i : Nat} {j : Int} (h : σ[i]? = some (some (.int j))) : DV K p (tVar i) σ H (.int j) := dv_var h (.int j)
theorem dv_vs {i : Nat} {j : Str} (h : σ[i]? = some (some (.str j))) : DV K p (tVar i) σ H (.str j) := dv_var h (.str j)
theorem da_nil : DA K p tNil σ H [] := fun H1 _ Q q => q _ _ (Same.refl _) .nil
theorem da_cons (h : DV K p ta σ H d) (hr : DA K p tr σ H ds) : DA K p (tCons ta tr) σ H (d :: ds) := fun H1 s Q q =>
  h H1 s _ fun v H2 s2 hv => hr H2 (s.trans s2) _ fun vs H3 s3 hs => q _ _ (s2.trans s3) (.cons (Dd.ext (Ext.of s3) _ _ hv) hs)
theorem ne_fresh (hp : ∃ o, H p = some o) {H1 : Hp} (s : Same H H1) {a : Addr} (h : H1 a = none) : a ≠ p := by
  obtain ⟨o, e⟩ := hp
  exact (ne_of_none (s _ _ e) h).symm
theorem dv_tup (hp : ∃ o, H p = some o) (h : DA K p tr σ H ds) (hl : decide (ds.length ≤ 5000) = true) : DV K p (tTup tr) σ H (.tuple ds) := fun H1 s Q q =>
  h H1 s _ fun vs H2 s2 hs => ⟨by rw [DdAll.length hs]; exact sz (by have := of_decide_eq_true hl; omega), fun a na =>
    q _ _ (s2.trans (same_upd na)) (.tup (ne_fresh hp (s.trans s2) na) (tsq upd_same) (DdAll.ext (Ext.of (same_upd na)) _ _ hs))⟩
theorem dv_lst (hp : ∃ o, H p = some o) (h : DA K p tr σ H ds) (hl : decide (ds.length ≤ 5000) = true) : DV K p (tLst tr) σ H (.list ds) := fun H1 s Q q =>
  h H1 s _ fun vs H2 s2 hs => ⟨by rw [DdAll.length hs]; exact sz (by have := of_decide_eq_true hl; omega), fun a na =>
    q _ _ (s2.trans (same_upd na)) (.lst (ne_fresh hp (s.trans s2) na) (lsq upd_same) (DdAll.ext (Ext.of (same_upd na)) _ _ hs))⟩
theorem DdAll.one (h : DdAll K p H vs [d]) : ∃ v, vs = [v] ∧ Dd K p H v d := by
  cases h with
  | cons a b => cases b; exact ⟨_, rfl, a⟩
theorem dv_spD {f : PyData → Bool} {E : XK} (h : DA K p tr σ H [d]) (hf : fine d = true) : DV K p (tCall (spD K f) [] E tr) σ H (.bool (f d)) := fun H1 s Q q =>
  h H1 s _ fun vs H2 s2 hs => by
    obtain ⟨v, rfl, hv⟩ := DdAll.one hs
    exact ⟨v, d, rfl, Dd.dp _ _ hv, hf, fun H3 s3 => q _ _ (s2.trans s3) (.bl _)⟩
theorem dv_spDk {f : PyData → Bool} {E : XK} {gV : List V → List V → List V} (h : DA K p tk σ H [d]) (hg : ∀ v, gV [] [v] = [v]) (hf : fine d = true) : DV K p (tCallN 0 1 (spD K f) gV E tNil tk) σ H (.bool (f d)) := fun H1 s Q q =>
  h H1 s _ fun vs H2 s2 hs => by
    obtain ⟨v, rfl, hv⟩ := DdAll.one hs
    exact ⟨rfl, rfl, v, d, hg v, Dd.dp _ _ hv, hf, fun H3 s3 => q _ _ (s2.trans s3) (.bl _)⟩
theorem Dd.i {i : Int} (h : Dd K p H v (.int i)) : v = .int i := by cases h; rfl
theorem Dd.s {i : Str} (h : Dd K p H v (.str i)) : v = .str i := by cases h; rfl
theorem Dd.b {i : Bool} (h : Dd K p H v (.bool i)) : v = .bl i := by cases h; rfl
theorem Dd.n (h : Dd K p H v .none) : v = .non := by cases h; rfl
theorem dv_I0 {g : Int → Int → V} {i j : Int} (ha : DV K p ta σ H (.int i)) (hb : DV K p tb σ H (.int j)) (hg : ∀ H, Dd K p H (g i j) d) : DV K p (tOp (rI0 g) ta tb) σ H d := fun H1 s Q q =>
  ha H1 s _ fun x H2 s2 hx => hb H2 (s.trans s2) _ fun y H3 s3 hy => ⟨i, j, Dd.i hx, Dd.i hy, q _ _ (s2.trans s3) (hg _)⟩
theorem dv_add {i j : Int} (ha : DV K p ta σ H (.int i)) (hb : DV K p tb σ H (.int j)) : DV K p (tOp (rI0 fun i j => .int (i + j)) ta tb) σ H (.int (i + j)) := dv_I0 ha hb fun _ => .int _
theorem dv_sub {i j : Int} (ha : DV K p ta σ H (.int i)) (hb : DV K p tb σ H (.int j)) : DV K p (tOp (rI0 fun i j => .int (i - j)) ta tb) σ H (.int (i - j)) := dv_I0 ha hb fun _ => .int _
theorem dv_pow {i j : Int} (ha : DV K p ta σ H (.int i)) (hb : DV K p tb σ H (.int j)) (hc : decide (0 ≤ j ∧ j ≤ 1000000 ∧ i.natAbs < 2 ^ 64) = true) : DV K p (tOp (rI CPow fun i j => .int (i ^ j.toNat)) ta tb) σ H (.int (i ^ j.toNat)) := fun H1 s Q q =>
  ha H1 s _ fun x H2 s2 hx => hb H2 (s.trans s2) _ fun y H3 s3 hy => ⟨i, j, Dd.i hx, Dd.i hy, (of_decide_eq_true hc : 0 ≤ j ∧ j ≤ 1000000 ∧ i.natAbs < 2 ^ 64), q _ _ (s2.trans s3) (.int _)⟩
theorem dv_neg {i : Int} (ha : DV K p ta σ H (.int i)) : DV K p (tUn (rU fun i => .int (-i)) ta) σ H (.int (-i)) := fun H1 s Q q =>
  ha H1 s _ fun x H2 s2 hx => ⟨i, Dd.i hx, q _ _ s2 (.int _)⟩
theorem dv_chain {i j k : Int} (ha : DV K p ta σ H (.int i)) (hb : DV K p tb σ H (.int j)) (hc : DV K p tc σ H (.int k)) :
    DV K p (tChain (rI0 fun i j => .bl (decide (i ≤ j))) (rI0 fun i j => .bl (decide (i ≤ j))) ta tb tc) σ H (.bool (decide (i ≤ j) && decide (j ≤ k))) := fun H1 s Q q =>
  ha H1 s _ fun x H2 s2 hx => hb H2 (s.trans s2) _ fun y H3 s3 hy => ⟨i, j, Dd.i hx, Dd.i hy, _, rfl, ite2 (fun e => by
    rw [e, Bool.true_and] at q
    exact hc H3 ((s.trans s2).trans s3) _ fun z H4 s4 hz => ⟨j, k, Dd.i hy, Dd.i hz, q _ _ ((s2.trans s3).trans s4) (.bl _)⟩) fun e => by
    rw [Bool.eq_false_iff.mpr e, Bool.false_and] at q
    exact q _ _ (s2.trans s3) (.bl _)⟩
theorem dv_eqD (ha : DV K p ta σ H d) (hb : DV K p tb σ H e) (hd : fine d = true) (he : fine e = true) : DV K p (tOp (rEqD K) ta tb) σ H (.bool (PyData.eqv d e)) := fun H1 s Q q =>
  ha H1 s _ fun x H2 s2 hx => hb H2 (s.trans s2) _ fun y H3 s3 hy => ⟨d, e, Dd.dp _ _ (Dd.ext (Ext.of s3) _ _ hx), Dd.dp _ _ hy, fine_shaped hd, fine_shaped he, q _ _ (s2.trans s3) (.bl _)⟩
theorem dv_and {a b : Bool} (ha : DV K p ta σ H (.bool a)) (hb : a = true → DV K p tb σ H (.bool b)) : DV K p (tAndV ta tb) σ H (.bool (a && b)) := fun H1 s Q q =>
  ha H1 s _ fun x H2 s2 hx => ⟨a, Dd.b hx, by
    cases a with
    | true => exact iteT (hb rfl H2 (s.trans s2) _ fun z H3 s3 hz => q _ _ (s2.trans s3) hz)
    | false => exact iteF (q _ _ s2 (.bl _))⟩
theorem dv_is {d' : PyData} (h : DV K p te σ H d) (e : d = d') : DV K p te σ H d' := e ▸ h
/-- the items of a list or a tuple by a written slice's end -/
theorem dv_slT {n : Nat} (hp : ∃ o, H p = some o) (h : DV K p ta σ H (.tuple ds)) (hn : n < ds.length) (hz : ds.length ≤ 5000) : DV K p (tSl (rSlT K) ta tNoPart (tPart (tC (.int (n : Int))))) σ H (.tuple (ds.take n)) := fun H1 s Q q =>
  h H1 s _ fun x H2 s2 hx => ⟨(n : Int), rfl, by
    cases hx with
    | @tup a xs _ ne sx dx =>
      have lx := DdAll.length dx
      have e1 : HT.sIx xs.length xs.length (some (n : Int)) = n := by rw [HT.sIx_nat]; omega
      have e2 : cutV xs none (some (n : Int)) = xs.take n := by
        unfold cutV
        rw [HT.sIx_none, e1, Nat.sub_zero, List.drop_zero]
      refine ⟨a, xs, rfl, sx, fun z => ?_, fun b nb => ?_⟩
      · rw [e1] at z; omega
      · rw [e2]
        exact q _ _ (s2.trans (same_upd nb)) (.tup (ne_fresh hp (s.trans s2) nb) (tsq upd_same) (DdAll.ext (Ext.of (same_upd nb)) _ _ (DdAll.take n dx)))⟩
/-- list(t) of a tuple -/
theorem dv_listT (hp : ∃ o, H p = some o) (h : DV K p ta σ H (.tuple ds)) : DV K p (tCB (fun xs H Q => ∃ p ys, xs = [.ref p] ∧ (SqL K H p ys ∨ SqT K H p ys) ∧ ∀ l, H l = none → Q (.ref l) (upd H l (.lst ys))) (tCons ta tNil)) σ H (.list ds) := fun H1 s Q q =>
  h H1 s _ fun x H2 s2 hx => by
    cases hx with
    | @tup a xs _ ne sx dx =>
      exact ⟨a, xs, rfl, .inr sx, fun b nb => q _ _ (s2.trans (same_upd nb)) (.lst (ne_fresh hp (s.trans s2) nb) (lsq upd_same) (DdAll.ext (Ext.of (same_upd nb)) _ _ dx))⟩
/-- two tuples, one behind the other -/
theorem dv_catT {es : List PyData} (hp : ∃ o, H p = some o) (ha : DV K p ta σ H (.tuple ds)) (hb : DV K p tb σ H (.tuple es)) (h1 : ds ≠ []) (h2 : es ≠ []) (hz : ds.length + es.length ≤ 5000) : DV K p (tOp (rCatT K) ta tb) σ H (.tuple (ds ++ es)) := fun H1 s Q q =>
  ha H1 s _ fun x H2 s2 hx => hb H2 (s.trans s2) _ fun y H3 s3 hy => by
    have hx' := Dd.ext (Ext.of s3) _ _ hx
    cases hx' with
    | @tup a xs _ ne sx dx =>
      cases hy with
      | @tup b ys _ ne' sy dy =>
        have lx := DdAll.length dx
        have ly := DdAll.length dy
        refine ⟨a, b, xs, ys, rfl, rfl, sx, sy, fun z => h1 ?_, by rw [lx, ly]; exact sz (by omega), fun z => absurd ?_ h2, fun _ c nc => ?_⟩
        · exact List.eq_nil_of_length_eq_zero (by rw [← lx, z]; rfl)
        · exact List.eq_nil_of_length_eq_zero (by rw [← ly, z]; rfl)
        · exact q _ _ ((s2.trans s3).trans (same_upd nc)) (.tup (ne_fresh hp ((s.trans s2).trans s3) nc) (tsq upd_same) (DdAll.ext (Ext.of (same_upd nc)) _ _ (DdAll.app dx dy)))
/-- return same(found, due); if not same(found, due): return False -/
theorem same_dv {E : XK} {n : Nat} {Q : VK} (ha : DV K p ta σ H d) (hb : DV K p tb σ H d) (hn : d.depth ≤ n) (hs : small d = true) (k : ∀ H', Same H H' → Q (.bl true) H') : tCall (spSameLt K (n + 1)) [] E (tCons ta (tCons tb tNil)) σ H Q :=
  ha H (Same.refl _) _ fun x H2 s2 hx => hb H2 s2 _ fun y H3 s3 hy => ⟨x, y, d, rfl, Dd.dp _ _ (Dd.ext (Ext.of s3) _ _ hx), Dd.dp _ _ hy, hn, hs, fun H4 s4 => k _ ((s2.trans s3).trans s4)⟩
theorem if_same {E : XK} {n : Nat} {D : Ends} {tt tz : TS} (ha : DV K p ta σ H d) (hb : DV K p tb σ H d) (hn : d.depth ≤ n) (hs : small d = true) (k : ∀ H', Same H H' → tz D σ H') :
    tSeq (tIfS (tNot (tB (tCall (spSameLt K (n + 1)) [] E (tCons ta (tCons tb tNil))))) tt tNext) tz D σ H :=
  same_dv ha hb hn hs fun H' s => ⟨true, rfl, iteF (k H' s)⟩
theorem if_same1 {E : XK} {n : Nat} {D : Ends} {tt : TS} (ha : DV K p ta σ H d) (hb : DV K p tb σ H d) (hn : d.depth ≤ n) (hs : small d = true) (k : ∀ H', Same H H' → D.nx σ H') :
    tIfS (tNot (tB (tCall (spSameLt K (n + 1)) [] E (tCons ta (tCons tb tNil))))) tt tNext D σ H :=
  same_dv ha hb hn hs fun H' s => ⟨true, rfl, iteF (k H' s)⟩
/-- an assignment of such a worth -/
theorem set_dv {i : Nat} {D : Ends} {tz : TS} (h : DV K p te σ H d) (k : ∀ v H', Same H H' → Dd K p H' v d → tz D (σ.set i (some v)) H') : tSeq (tAsg te (gName i)) tz D σ H := h H (Same.refl _) _ k
end
/-- a choice out of data -/
theorem of_data {K : PySem.W.Frag} {B : BagId} {q : Addr} {H : Hp} {Q : VK} {E : XK} {ds : List PyData} (hB : Bag B H) (h : Dd K B.p H (.ref q) (.list ds)) (h0 : 0 < ds.length) (h1 : ds.length ≤ 5000)
    (k : ∀ v d H', d ∈ ds → Dd K B.p H' v d → Bag B H' → Ext B.p H H' → Q v H') : spOf K [.ref B.p, .ref q] H Q E := by
  cases h with
  | @lst _ xs _ ne sx dx =>
    have lx := DdAll.length dx
    refine ⟨B, .ref q, rfl, hB, .inl ⟨q, xs, rfl, ne, .inl sx, by omega, by omega, fun v H' hm hB' ex => ?_⟩⟩
    obtain ⟨d, hd, hv⟩ := DdAll.mem dx hm
    exact k v d H' hd (Dd.ext ex _ _ hv) hB' ex
section
variable {K : PySem.W.Frag} {B : BagId} {σ : L2.St} {H : Hp} {te : TE} {ds : List PyData} {E : XK} {Q : VK} {i : Nat}
/-- _law_of(bag, [..]) -/
theorem of_dv (hv : σ[i]? = some (some (.ref B.p))) (hB : Bag B H) (h : DV K B.p te σ H (.list ds)) (h0 : 0 < ds.length) (h1 : ds.length ≤ 5000)
    (k : ∀ v d H', d ∈ ds → Dd K B.p H' v d → Bag B H' → Ext B.p H H' → Q v H') : tCall (spOf K) [] E (tCons (tVar i) (tCons te tNil)) σ H Q :=
  ⟨_, hv, h H (Same.refl _) _ fun v H2 s2 hd => by
    cases hd with
    | lst ne sx dx => exact of_data (E := E) (Bag.ext hB s2) (.lst ne sx dx) h0 h1 fun v d H' hm hd' hB' ex => k v d H' hm hd' hB' ((Ext.of s2).trans ex)⟩
/-- _law_draw(bag, n) -/
theorem draw_dv {n : Int} (hv : σ[i]? = some (some (.ref B.p))) (hB : Bag B H) (h : DV K B.p te σ H (.int n)) (n0 : 0 < n) (n1 : n < 1073741824)
    (k : ∀ r H', 0 ≤ r → r < n → Bag B H' → Ext B.p H H' → Q (.int r) H') : tCall spDraw [] E (tCons (tVar i) (tCons te tNil)) σ H Q :=
  ⟨_, hv, h H (Same.refl _) _ fun v H2 s2 hd => ⟨B, n, by rw [Dd.i hd]; rfl, Bag.ext hB s2, n0, n1, fun r H' r0 r1 hB' ex => k r H' r0 r1 hB' ((Ext.of s2).trans ex)⟩⟩
end
/-- signs drawn out of a text, one for each turn of a range -/
theorem text_lc {B : BagId} {D : Addr} {H0 : Hp} {Qd : Hp → Prop} {σ : L2.St} {vs : List Nat} {j n : Nat} {lo : Int} {te : TE} {z : Str} (hB : Bag B H0) (hD : H0 D = none) (hn : n ≤ 5000) (hw : ∀ v, wipe ((wipe σ vs).set j (some v)) vs = wipe σ vs)
    (he : ∀ (x : V) (H : Hp) (Q : VK), Bag B H → (∀ (c : Nat) (H' : Hp), c ∈ z.cps.toList → Bag B H' → Ext B.p H H' → Q (.str ⟨#[c]⟩) H') → te ((wipe σ vs).set j (some x)) H Q)
    (hq : ∀ (cs : List Nat) (H' : Hp), cs.length = n → (∀ c ∈ cs, c ∈ z.cps.toList) → Bag B H' → Ext B.p H0 H' → H' D = some (.lst ((cs.map fun c => (⟨#[c]⟩ : Str)).map V.str)) → Qd H') :
    ∃ W : Nat → Nat → Hp → Prop, (∃ m, W 0 m (upd H0 D (.lst []))) ∧ ∀ i m H, W i m H →
      ((Itr lo n).stop i H ∧ Qd H) ∨ ((Itr lo n).go i H ∧ ∃ Nx : Hp → Prop, (∀ H', Nx H' → ∃ m', m' < m ∧ W (i + 1) m' H') ∧ ∀ v H', (Itr lo n).yld i H v H' → (gName j) v (wipe σ vs) H' fun σ2 H2 => wipe σ2 vs = wipe σ vs ∧ tYes σ2 H2 fun b H3 =>
        if b = true then te σ2 H3 fun y H4 => ∃ acc, H4 D = some (.lst acc) ∧ acc.length < sizeLine ∧ Nx (upd H4 D (.lst (acc ++ [y]))) else Nx H3) := by
  have nDp : D ≠ B.p := hB.ne hD
  have nDl : D ≠ B.l := hB.neL hD
  refine lc_it walk_range (fun i H => ∃ cs : List Nat, cs.length = i ∧ (∀ c ∈ cs, c ∈ z.cps.toList) ∧ Bag B H ∧ Ext B.p H0 H ∧ H D = some (.lst ((cs.map fun c => (⟨#[c]⟩ : Str)).map V.str)))
    ⟨[], rfl, fun c h => absurd h (by simp), Bag.ext hB (same_upd hD), Ext.of (same_upd hD), upd_same⟩ (fun _ _ _ _ => trivial) (fun i v H H' hi h y => ?_) fun H ⟨cs, h1, h2, h3, h4, h5⟩ => hq cs H h1 h2 h3 h4 h5
  obtain ⟨cs, h1, h2, h3, h4, h5⟩ := h
  obtain ⟨rfl, rfl⟩ := y
  refine ⟨hw _, he _ H' _ h3 fun c H2 hc hB2 ex => ⟨_, ex _ _ h5 nDp, ?_, cs ++ [c], by rw [List.length_append, h1]; rfl, fun c' h => ?_, ?_, fun b o hb nb => ?_, ?_⟩⟩
  · rw [List.length_map, List.length_map, h1]; exact szl (by omega)
  · rcases List.mem_append.mp h with h | h
    · exact h2 _ h
    · rw [List.mem_singleton.mp h]; exact hc
  · exact Bag.upd hB2 nDp nDl
  · rw [upd_ne (ne_of_none hb hD)]
    exact ex _ _ (h4 _ _ hb nb) nb
  · rw [upd_same, List.map_append, List.map_append]
    rfl
end My

set_option Elab.async false
set_option linter.all false
set_option maxRecDepth 100000
set_option maxHeartbeats 2000000
/-! Exceptions as values: an own class over any built-in one, with an own __init__: the call with keywords, and the stores. -/
namespace My
open PySem PySem.Spec

/-! ### the class called with keywords too -/
section
variable {B newId initId nm : String} {prog : Program} {w : World} {A : Around} {hp : Heap} {gs : Array GenState} {dr : Drawn} {tk : Nat} {o : OsState} {C N : Addr} {n1 n2 : Str} {l1 l2 l3 l5 : List Value} {l4 : List Str} {b1 b2 : Bool} {co : Option Bool} {da : Option Addr} {y0 y1 y2 y3 y5 : Option Value} {vs : List Value} {kw : List (Str × Value)}
/-- what stands at C; the built-in names of its chain -/
structure AtC (hp : Heap) (C : Addr) (newId : String) (l3 : List Value) (n1 n2 : Str) (N : Addr) (l1 l2 l5 : List Value) (l4 : List Str) (b1 b2 : Bool) (co : Option Bool) (da : Option Addr) (y0 y1 y2 y3 y5 : Option Value) : Prop where
  here : hp.get? C = some (excClassObj n1 n2 C N l1 l2 b1 l4 l5 b2 co da y0 y1 y2 y3 y5 newId)
  names : ∀ T : String, l2.contains (.type T) = l3.contains (.type T)
theorem AtC.isB (c : AtC hp C newId l3 n1 n2 N l1 l2 l5 l4 b1 b2 co da y0 y1 y2 y3 y5) (T : String) : (Value.ref C :: l2).contains (.type T) = l3.contains (.type T) := by
  rw [List.contains_cons, c.names]
  rfl
theorem AtC.born (c : AtC hp C newId l3 n1 n2 N l1 l2 l5 l4 b1 b2 co da y0 y1 y2 y3 y5) (F : ExcBaseFacts B newId initId l3) {M : Model} {Q : Unit → Shared → Prop} {E : Value → Shared → Prop} (q : Q () ⟨hp, gs, dr, tk, o⟩) :
    wpAny M A (checkBuiltinCall newId ⟨.ref C :: vs, kw⟩) Q E ⟨hp, gs, dr, tk, o⟩ := by
  have here := c.here
  have star := F.noStar
  simp only [checkBuiltinCall, F.newKind, F.newRow, F.newSplit]
  repeat (first
    | refine wpAny_isSubtype_exc here ?_; rw [c.isB, F.hasB]
    | refine wpAny_staticBase_exc here ?_
    | refine wpAny_madeBy_exc here ?_
    | refine wpAny_loadPart_at here ?_
    | simp only [bne_self_eq_false, Bool.false_eq_true, if_false]
    | wp_step)
  exact q
theorem AtC.newborn (c : AtC hp C newId l3 n1 n2 N l1 l2 l5 l4 b1 b2 co da y0 y1 y2 y3 y5) (F : ExcBaseFacts B newId initId l3) (z : vs.length ≤ sizeLine) {R : Result → Shared → Prop}
    (q : R (.ok (.ret (.ref (hp.objs.size + 1)))) ⟨(hp.push (W.kdv_tup vs)).push (HandSPX.excO C hp.objs.size), gs, dr, tk, o⟩) : codeAny (model prog w) A (.builtin newId ⟨.ref C :: vs, kw⟩) R ⟨hp, gs, dr, tk, o⟩ := by
  have here := c.here
  have ends := F.ends
  apply codeAny_builtinAt F.entry
  delta Builtin.«BaseException.__new__»
  apply wpAt_bind
  apply wpAt_bind
  refine wpAt_stack fun _ _ => ?_
  apply wpAt_of_wpAny
  wp_walk
  apply wpAt_of_wpAny
  rw [F.owner]
  repeat (first
    | with_reducible refine wpAny_isSubtype_exc here ?_; rw [c.isB]; first | rw [F.hasB] | rw [F.noAttr] | rw [F.noName]
    | with_reducible refine wpAny_madeHere_exc F.canon here ?_
    | with_reducible refine wpAny_loadPart_at here ?_
    | wp_step)
  show R (.ok (.ret (.ref (Heap.push _ _).objs.size))) _
  rw [Heap.size_push]
  exact q
theorem AtC.typed (c : AtC hp C newId l3 n1 n2 N l1 l2 l5 l4 b1 b2 co da y0 y1 y2 y3 y5) {M : Model} {Q : Unit → Shared → Prop} {E : Value → Shared → Prop} (q : Q () ⟨hp, gs, dr, tk, o⟩) :
    wpAny M A (checkBuiltinCall "type.__call__" ⟨.ref C :: vs, kw⟩) Q E ⟨hp, gs, dr, tk, o⟩ := by
  have here := c.here
  have sub := tc_sub
  have ty : Shared.TypeIs ⟨hp, gs, dr, tk, o⟩ (.ref C) "type" := ⟨_, c.here, rfl⟩
  simp only [checkBuiltinCall, tc_split, tc_kind]
  repeat (any_goals (first | with_reducible refine wpAny_map ?_ | with_reducible refine wpAny_onRaise ?_ | with_reducible refine wpAny_loadPart_at here ?_ | assumption | wp_step))
/-- what is wished of __init__'s end -/
abbrev InitEnds (e : Addr) (Q : Fin → Shared → Prop) (E : Value → Shared → Prop) : Result → Shared → Prop := fun r s' => match r with
  | .ok (.ret v) => v = .none ∧ Q (.done (.ret (.ref e))) s'
  | .ok _ => False
  | .error x => E x s'
theorem AtC.calls (c : AtC hp C newId l3 n1 n2 N l1 l2 l5 l4 b1 b2 co da y0 y1 y2 y3 y5) (F : ExcBaseFacts B newId initId l3) (z : vs.length ≤ sizeLine) {fI : Addr} {Q : Fin → Shared → Prop} {E : Value → Shared → Prop}
    (li : W.Looks (model prog w) hp (typeLookup (.ref C) "__init__") (some (.ref fI))) (lb : ∀ self, W.Looks (model prog w) hp (bindSpecial (.ref fI) self) (.ref fI, [self]))
    (q : codeAny (model prog w) A (.call (.ref fI) ⟨.ref (hp.objs.size + 1) :: vs, kw⟩) (InitEnds (hp.objs.size + 1) Q E) ⟨(hp.push (W.kdv_tup vs)).push (HandSPX.excO C hp.objs.size), gs, dr, tk, o⟩) :
    wpAny (model prog w) A (Builtin.«type.__call__» ⟨.ref C :: vs, kw⟩) Q E ⟨hp, gs, dr, tk, o⟩ := by
  have here := c.here
  repeat (first | with_reducible refine wpAny_madeBy_exc here ?_ | with_reducible refine wpAny_loadPart_at here ?_ | wp_step)
  apply codeAny_call_builtin_code (Code.quiet_builtin _ F.quiet)
  apply c.born F
  apply c.newborn F z
  show wpAny (model prog w) A _ Q E _
  have kept : ∀ b u, hp.get? b = some u → ((hp.push (W.kdv_tup vs)).push (HandSPX.excO C hp.objs.size)).get? b = some u := fun b u e => (Heap.get?_push_of_some _ ∘ Heap.get?_push_of_some _) e
  have c' : AtC ((hp.push (W.kdv_tup vs)).push (HandSPX.excO C hp.objs.size)) C newId l3 n1 n2 N l1 l2 l5 l4 b1 b2 co da y0 y1 y2 y3 y5 := ⟨kept _ _ c.here, c.names⟩
  have here' := c'.here
  have at_e : ((hp.push (W.kdv_tup vs)).push (HandSPX.excO C hp.objs.size)).get? (hp.objs.size + 1) = some (HandSPX.excO C hp.objs.size) := by heap_get
  have self : (Value.ref C :: l2).contains (.ref C) = true := by simp
  delta isInstance
  repeat (first | with_reducible refine wpAny_loadPart_at at_e ?_ | (with_reducible refine wpAny_isSubtype_exc here' ?_); rw [self] | wp_step)
  show wpAny (model prog w) A (typeLookup (.ref C) "__init__") _ E _
  apply (li.keeps kept).at
  apply wpAny_holding
  apply wpAny_bind
  apply ((lb (.ref (hp.objs.size + 1))).keeps kept).at
  apply wpAny_bind
  apply wpAny_call
  refine codeAny_mono q fun r s' h => ?_
  match r, h with
  | .ok (.ret _), ⟨rfl, h⟩ => first | exact wpAny_pure (wpAny_pure h) | (wp_walk; exact h)
  | .error _, h => exact h
theorem AtC.call (c : AtC hp C newId l3 n1 n2 N l1 l2 l5 l4 b1 b2 co da y0 y1 y2 y3 y5) (F : ExcBaseFacts B newId initId l3) (z : vs.length ≤ sizeLine) {fI : Addr} {R : Result → Shared → Prop}
    (li : W.Looks (model prog w) hp (typeLookup (.ref C) "__init__") (some (.ref fI))) (lb : ∀ self, W.Looks (model prog w) hp (bindSpecial (.ref fI) self) (.ref fI, [self]))
    (q : codeAny (model prog w) (A.under (.builtin "type.__call__" ⟨.ref C :: vs, kw⟩)) (.call (.ref fI) ⟨.ref (hp.objs.size + 1) :: vs, kw⟩) (W.InitBack (hp.objs.size + 1) R) ⟨(hp.push (W.kdv_tup vs)).push (HandSPX.excO C hp.objs.size), gs, dr, tk, o⟩) :
    codeAny (model prog w) A (.call (.ref C) ⟨vs, kw⟩) R ⟨hp, gs, dr, tk, o⟩ := by
  have here := c.here
  have look := tc_lookup
  have bnd := tc_bind (.ref C)
  have ty : Shared.TypeIs ⟨hp, gs, dr, tk, o⟩ (.ref C) "type" := ⟨_, c.here, rfl⟩
  apply codeAny_of_tree
  show wpAny (model prog w) _ (callAny (.ref C) ⟨vs, kw⟩) _ _ _
  repeat (any_goals (first | with_reducible refine wpAny_loadPart_at here ?_ | assumption | wp_step))
  refine ⟨rfl, codeAny_call_builtin_at (Code.quiet_builtin _ (by decide +kernel)) entry_typeCall (c.typed (c.calls F z li lb (codeAny_mono q fun r s' h => ?_)))⟩
  match r, h with
  | .ok (.ret _), h => exact h
  | .error _, h => exact h
end
end My

set_option Elab.async false
set_option linter.all false
set_option maxRecDepth 100000
set_option maxHeartbeats 2000000
/-! Exceptions as values: what an own class says (OxC), an error made (ErrAt), its fields stored and read, its kinds asked. -/
namespace L2
open PySem PySem.Spec PyProof.Rows My

/-- an own exception class with an own __init__, over any built-in one -/
structure OxC (K : PySem.W.Frag) (C : Addr) : Prop where
  base : ∃ (B newId initId : String) (l : List Value), ExcBaseFacts B newId initId l ∧ StoreFacts B l "object.__setattr__" "object" ∧ PySem.W.excInitIn K C l newId = true ∧ PySem.W.excOver K C l = true
  field : XfC K C
  kind : ExcC K C
  store : (PySem.W.findIn K (.ref C) "__setattr__") = some (some (.builtin "object.__setattr__"))
  keep : (PySem.W.keepIn K (.ref C)) = true
/-- no such name in the class -/
def noB (K : PySem.W.Frag) (C : Addr) (l : List Str) : Bool := l.all fun f => decide (PySem.W.findIn K (.ref C) f = some none)
theorem noB_at {K : PySem.W.Frag} {C : Addr} {l : List Str} (h : noB K C l = true) {f : Str} (m : f ∈ l) : PySem.W.findIn K (.ref C) f = some none := of_decide_eq_true (List.all_eq_true.mp h f m)
/-- what isinstance says of its instances -/
def kitXB (K : PySem.W.Frag) (C : Addr) (l : List (Value × Bool)) : Bool := l.all fun p => decide (PySem.W.kitOne K (.ref C) p.1 = some p.2)
theorem kitXB_at {K : PySem.W.Frag} {C : Addr} {l : List (Value × Bool)} (h : kitXB K C l = true) {c : Value} {b : Bool} (m : (c, b) ∈ l) : PySem.W.kitOne K (.ref C) c = some b := of_decide_eq_true (List.all_eq_true.mp h (c, b) m)
theorem noTaker {K : PySem.W.Frag} {C : Addr} {f : Str} (h : PySem.W.findIn K (.ref C) f = some none) : PySem.W.takerIn K C f = some none := by
  unfold PySem.W.takerIn
  rw [h]
  rfl

/-! ### stores -/
section
variable {X : Cx} {pins : List (Addr × Obj)} {σ : St} {H : Hp} {s : Shared} {e C d : Addr} {f : Str} {y : V} {u : Value} {l : List (Str × V)} {A : Around} {Q : Unit → Shared → Prop} {E : Value → Shared → Prop}
/-- the first field: the error gets its dict -/
theorem oxt_first (T : OxC X.K C) (I : Inv X pins σ H s) (he : H e = some (exo e C none)) (hno : PySem.W.findIn X.K (.ref C) f = some none) (ry : RelV y u)
    (k : ∀ d s', H d = none → d ≠ e → Inv X pins σ (upd (upd H e (exo e C (some d))) d (exd d [(f, y)])) s' → Q () s') : wpAny (model X.prog X.w) A (setAttr (.ref e) f u) Q E s := by
  obtain ⟨B, newId, initId, bl, _, SF, _, over⟩ := T.base
  obtain ⟨cd, hcd, hdict⟩ := PySem.W.any_some T.field.hdC
  obtain ⟨t1, ho⟩ := exo_at I.hok he
  obtain ⟨hp, gs, dr, tk, os⟩ := s
  have J : PySem.W.InstAt hp e _ C none := ⟨ho, rfl, rfl, trivial⟩
  refine PySem.W.set_plain I.kIn J T.store (PySem.W.osa_openX (r := none) SF I.kIn J over (noTaker hno) fun b => ?_)
  have look : PySem.W.Looks (model X.prog X.w) hp (classData C) cd := PySem.W.looks_clsIn I.kIn hcd
  have new : e ≠ hp.objs.size := Nat.ne_of_lt (Heap.lt_size ho)
  have at_e := Heap.get?_push_of_some ({ cls := .type "dict", data := .dict #[] } : Obj) ho
  dsimp only
  delta Builtin.ObjectAttr.storeInOwnDict Builtin.ObjectAttr.ownDictForStores
  cases cd with
  | mk c1 c2 c3 c4 c5 c6 c7 c8 c9 c10 c11 =>
    obtain rfl : c6 = true := hdict
    repeat (first | with_reducible refine look.at ?_ | with_reducible refine wpAny_loadPart_at ho ?_ | with_reducible refine HandSPX.store_in_new ?_ ?_ | wp_step)
    · exact ⟨_, #[], _, Eq.trans (Heap.get?_update_ne _ _ _ _ new.symm) (Heap.get?_push_at rfl rfl), rfl, (fun z hz => absurd hz (by simp)), fun _ => rfl⟩
    · intro h' tk' ns same
      have obj : h'.get? e = some { cls := .ref C, dict := some hp.objs.size, data := .fields #[.ref t1, .none, .none, .none, .bool false, .none] } := by
        rw [same.2 e new]
        exact Heap.get?_update_self _ at_e rfl
      have old : ∀ b v, b ≠ e → hp.get? b = some v → h'.get? b = some v := fun b v n z => by
        rw [same.2 b (Nat.ne_of_lt (Heap.lt_size z)), Heap.get?_update_ne _ _ _ _ n]
        exact Heap.get?_push_of_some _ z
      have free : H hp.objs.size = none := I.hok.fresh (Nat.le_refl _)
      -- without the dict first, then the dict
      obtain ⟨G, g1, g2⟩ := restrict h' fun b => decide (b ≠ hp.objs.size)
      have gk : ∀ b, b ≠ hp.objs.size → G.get? b = h'.get? b := fun b n => g1 b (decide_eq_true n)
      have gd : G.get? hp.objs.size = none := g2 _ (by simp)
      have up : ∀ b v, G.get? b = some v → h'.get? b = some v := fun b v z => by
        rw [← gk b fun n => by rw [n, gd] at z; cases z]
        exact z
      have J1 := I.write (t' := tk') (x := e) (e := e) (o := exo e C (some hp.objs.size)) (h' := G) (by rw [he]; exact trivial) (.inl rfl) (fun b v n z => by rw [gk b (Nat.ne_of_lt (Heap.lt_size z))]; exact old b v n z)
        ⟨_, by rw [gk e new]; exact obj⟩ (exo_ok (by rw [gk e new]; exact obj))
      have J2 := Inv.laidN (t' := tk') (o := exd hp.objs.size [(f, y)]) J1 up gd (by rw [upd_ne new.symm]; exact free) (exd_ok ns (relO_put (fs := []) ry fun _ => trivial))
      exact k _ _ free new.symm J2
/-- a further field -/
theorem oxt_more (T : OxC X.K C) (I : Inv X pins σ H s) (he : H e = some (exo e C (some d))) (hd : H d = some (exd d l)) (hl : l.length ≤ 900) (hno : PySem.W.findIn X.K (.ref C) f = some none) (ry : RelV y u)
    (k : ∀ s', Inv X pins σ (upd H d (exd d ((f, y) :: l))) s' → Q () s') : wpAny (model X.prog X.w) A (setAttr (.ref e) f u) Q E s := by
  obtain ⟨B, newId, initId, bl, _, SF, _, over⟩ := T.base
  obtain ⟨cd, hcd, hdict⟩ := PySem.W.any_some T.field.hdC
  obtain ⟨t1, ho⟩ := exo_at I.hok he
  obtain ⟨m, ns, rel⟩ := exd_at I.hok hd
  have within := within_of rel
  have short : (l.map (·.1)).length ≤ 1000 := by rw [List.length_map]; omega
  obtain ⟨hp, gs, dr, tk, os⟩ := s
  obtain ⟨od, _, _, hod, _⟩ := ns.count within
  have J : PySem.W.InstAt hp e _ C (some od) := ⟨ho, rfl, rfl, hod⟩
  refine PySem.W.set_plain I.kIn J T.store (PySem.W.osa_openX (r := none) SF I.kIn J over (noTaker hno) fun b => ?_)
  have look : PySem.W.Looks (model X.prog X.w) hp (classData C) cd := PySem.W.looks_clsIn I.kIn hcd
  dsimp only
  delta Builtin.ObjectAttr.storeInOwnDict Builtin.ObjectAttr.ownDictForStores
  cases cd with
  | mk c1 c2 c3 c4 c5 c6 c7 c8 c9 c10 c11 =>
    obtain rfl : c6 = true := hdict
    repeat (first | with_reducible refine look.at ?_ | with_reducible refine wpAny_loadPart_at ho ?_ | with_reducible refine OEX.store_in_old ns within short ?_ | wp_step)
    intro h' tk' ns' same
    have there : ∃ v, h'.get? d = some v := by
      obtain ⟨v, _, _, z, _⟩ := ns'
      exact ⟨v, z⟩
    exact k _ (I.write (t' := tk') (x := d) (e := d) (by rw [hd]; exact trivial) (.inl rfl) (fun b v n z => (same.2 b n).trans z) there (exd_ok ns' (relO_put ry rel)))
end
/-- self.f = value, self an error: its first field, or a further one -/
def tOxt (K : PySem.W.Frag) (f : Str) (to te : TE) : TS := fun D σ H => te σ H fun y H1 => to σ H1 fun x H2 => ∃ e C : Addr, x = .ref e ∧ OxC K C ∧ PySem.W.findIn K (.ref C) f = some none ∧
  ((H2 e = some (exo e C none) ∧ ∀ d, H2 d = none → d ≠ e → D.nx σ (upd (upd H2 e (exo e C (some d))) d (exd d [(f, y)]))) ∨
    ∃ (d : Addr) (l : List (Str × V)), H2 e = some (exo e C (some d)) ∧ H2 d = some (exd d l) ∧ l.length ≤ 900 ∧ D.nx σ (upd H2 d (exd d ((f, y) :: l))))
/-- the fields of a made error -/
def flds (code : Str) (names : List Str) (ws : List V) : List (Str × V) := (names.zip ws).reverse ++ [(("code" : Str), V.str code)]
/-- at e: an error of the class at C, made with ws -/
def ErrAt (K : PySem.W.Frag) (H : Hp) (e C : Addr) (code : Str) (names : List Str) (ws : List V) : Prop :=
  OxC K C ∧ noB K C ("code" :: names) = true ∧ ws.length = names.length ∧ ∃ dx, H e = some (exo e C (some dx)) ∧ H dx = some (exd dx (flds code names ws))
theorem ErrAt.same {K : PySem.W.Frag} {H H' : Hp} {e C : Addr} {code : Str} {names : List Str} {ws : List V} (s : Same H H') (h : ErrAt K H e C code names ws) : ErrAt K H' e C code names ws := by
  obtain ⟨h1, h2, h3, dx, h4, h5⟩ := h
  exact ⟨h1, h2, h3, dx, s _ _ h4, s _ _ h5⟩
/-- C.__init__(self, ..) -/
def spInit (C : Addr) (code : Str) (names : List Str) : Sp := fun vs H Q _ => ∃ (a : Addr) (ws : List V), vs = .ref a :: ws ∧ ws.length = names.length ∧ H a = some (exo a C none) ∧
  ∀ (H' : Hp) (dx : Addr), H dx = none → dx ≠ a → H' a = some (exo a C (some dx)) → H' dx = some (exd dx (flds code names ws)) → (∀ b, b ≠ a → b ≠ dx → H' b = H b) → Q .non H'
/-- C(e, ..) -/
def tMkX (K : PySem.W.Frag) (C : Addr) (code : Str) (names : List Str) (ta : TA) : TE := fun σ H Q => ta σ H fun vs H1 => vs.length = names.length ∧
  ∀ (e : Addr) (H2 : Hp), Same H1 H2 → H1 e = none → ErrAt K H2 e C code names vs → Q (.ref e) H2
/-- C(k = v, ..) -/
def tMkK (K : PySem.W.Frag) (C : Addr) (code : Str) (names ks : List Str) (gV : List V → List V → List V) (tk : TA) : TE := fun σ H Q => tk σ H fun zs H1 => zs.length = ks.length ∧ ∃ ws : List V, (∀ e, gV [.ref e] zs = .ref e :: ws) ∧ ws.length = names.length ∧
  ∀ (e : Addr) (H2 : Hp), Same H1 H2 → H1 e = none → ErrAt K H2 e C code names ws → Q (.ref e) H2
section
variable {X : Cx} {CX : CXT} {o e : Expr} {es : List Expr} {kws : List Keyword} {to te : TE} {ta tk : TA} {f x : Str} {p p' pos : Pos} {C fI : Addr} {fd : FuncData} {ps ks names : List Str} {code : Str} {k : Nat}
theorem ps_oxt (ho : PE X o to) (he : PE X e te) (hs : swapsWith e (some (.Attribute o f p')) pos.line X.env = pure false := by rfl) : PS X (.Assign [.Attribute o f p'] e pos) (tOxt X.K f to te) := ⟨fun pins s σ H D I h => by
  refine plainObj_wpAny_Assign_Attribute (thn (he.run pins s σ H _ I h) fun v s1 ⟨y, H1, I1, ry, q1⟩ => ?_) hs
  refine thn (ho.run pins s1 σ H1 _ I1 q1) fun u s2 ⟨x, H2, I2, rx, a, C, ex, T, hno, q⟩ => ?_
  cases ex
  cases (show u = Value.ref a from rx)
  exact match q with
  | .inl ⟨ea, q⟩ => oxt_first T I2 ea hno ry fun d s' n ne J => ⟨σ, _, J, q d n ne⟩
  | .inr ⟨d, l, ea, ed, hl, q⟩ => oxt_more T I2 ea ed hl hno ry fun s' J => ⟨σ, _, J, q⟩⟩
/-- the class called: us by position, kw by name, all bound as us' -/
theorem run_mkX {pins : List (Addr × Obj)} {σ : St} {H : Hp} {s : Shared} {Q : VK} {us us' : List Value} {kw : List (Str × Value)} {ws : List V} (T : OxC X.K C) (hno : noB X.K C ("code" :: names) = true)
    (iC : PySem.W.findIn X.K (.ref C) "__init__" = some (some (.ref fI))) (tI : PySem.W.typeIn X.K (.ref fI) = some (.type "function")) (F : FnOk X.prog X.w X.K X.mg X.base CX k fI fd ps (spInit C code names)) (hr : Room (k + 1) X.A)
    (hb : ∀ (s' : Shared) (e : Addr), X.K.In s'.heap → BindsTo s' fd ⟨.ref e :: us, kw⟩ (ps.zip (.ref e :: us'))) (hus : us.length ≤ sizeLine) (hx : Passes CX X (fun _ _ _ => False)) (I : Inv X pins σ H s) (r : Vals ws us') (hl : ws.length = names.length)
    (h : ∀ (e : Addr) (H2 : Hp), Same H H2 → H e = none → ErrAt X.K H2 e C code names ws → Q (.ref e) H2) : wpAny (model X.prog X.w) X.A (call (.ref C) us kw) (EP X pins σ Q) X.xe s := by
  obtain ⟨B, newId, initId, bl, EF, _, init, _⟩ := T.base
  obtain ⟨hp, gs, dr, tk, os⟩ := s
  obtain ⟨n1, N, n2, l1, l2, b1, l4, l5, b2, co, da, y0, y1, y2, y3, y5, at_C, nms⟩ := PySem.W.excInit_of I.kIn init
  have c : AtC hp C newId bl n1 n2 N l1 l2 l5 l4 b1 b2 co da y0 y1 y2 y3 y5 := ⟨at_C, nms⟩
  have fresh : H (hp.objs.size + 1) = none := I.hok.fresh (Nat.le_succ _)
  have at_e : ((hp.push (PySem.W.kdv_tup us)).push (HandSPX.excO C hp.objs.size)).get? (hp.objs.size + 1) = some (HandSPX.excO C hp.objs.size) := by heap_get
  have I2 := I.laid (t' := tk) (a := hp.objs.size + 1) (o := exo (hp.objs.size + 1) C none) (h' := (hp.push (PySem.W.kdv_tup us)).push (HandSPX.excO C hp.objs.size)) (fun b v z => (Heap.get?_push_of_some _ ∘ Heap.get?_push_of_some _) z) (Nat.le_succ _) (exo_ok at_e)
  have want : spInit C code names (.ref (hp.objs.size + 1) :: ws) (upd H (hp.objs.size + 1) (exo (hp.objs.size + 1) C none)) (fun v H2 => v = .non ∧ Q (.ref (hp.objs.size + 1)) H2) (fun _ _ _ => False) := by
    refine ⟨_, ws, rfl, hl, upd_same, fun H' dx nd ne ha hd hot => ⟨rfl, ?_⟩⟩
    rw [upd_ne ne] at nd
    refine h _ H' (fun b v z => ?_) fresh ⟨T, hno, hl, dx, ha, hd⟩
    have b1 : b ≠ hp.objs.size + 1 := ne_of_none z fresh
    rw [hot b b1 (ne_of_none z nd), upd_ne b1]
    exact z
  refine wpAny_call (c.call EF hus (PySem.W.looks_findIn I.kIn iC) (fun self => PySem.W.bind_fn I.kIn self tI) (codeAny_mono (F.run _ X.stack _ _ ⟨.ref (hp.objs.size + 1) :: us, kw⟩ (.ref (hp.objs.size + 1) :: us') _ _ (fun _ _ _ => False) (hr.make C us kw) (I2.env0.make C us kw) (hb _ _ I2.kIn) (show Vals (V.ref (hp.objs.size + 1) :: ws) (Value.ref (hp.objs.size + 1) :: us') from .cons rfl r) want) fun z s' hz => ?_))
  match z, hz with
  | .error er, hz => exact hx pins σ _ _ er s' I2 hz
  | .ok (.ret u), hz =>
    obtain ⟨v, H', I3, rv, ev, q⟩ := I2.after hz
    cases ev
    exact ⟨rv, V.ref (hp.objs.size + 1), H', I3, rfl, q⟩
theorem pe_mkX (T : OxC X.K C) (hno : noB X.K C ("code" :: names) = true) (iC : PySem.W.findIn X.K (.ref C) "__init__" = some (some (.ref fI))) (tI : PySem.W.typeIn X.K (.ref fI) = some (.type "function"))
    (F : FnOk X.prog X.w X.K X.mg X.base CX k fI fd ps (spInit C code names)) (hr : Room (k + 1) X.A) (hb : Binds X.K fd ps []) (hpn : ps.length = names.length + 1) (hn9 : names.length ≤ 9) (hx : Passes CX X (fun _ _ _ => False)) (hg : Gl X x) (hm : X.mg x = some (.ref C)) (ha : PA X (e :: es) ta)
    (hdb : (x == ("__debug__" : Str)) = false := by decide) (hpl : (backTo pos (starEach es X.env)).any (·.1) = false := by rfl) (he : starEach (e :: es) X.env = (false, eval e X.env) :: starEach es X.env := by rfl) :
    PE X (.Call (.Name x p) (e :: es) [] pos) (tMkX X.K C code names ta) := ⟨fun pins s σ H Q I h => by
  refine wpAny_Call_Name_kw (ld_glob I hg hm (PySem.W.callWith_K (h₀ := X.base) I.ok.mod.kin T.keep (thn (ha.run pos pins s σ H _ I h) fun us s1 ⟨vs, H1, I1, r1, hl, q1⟩ => ⟨I1.kIn, ?_⟩) he hpl) hdb)
  have hul : us.length = names.length := r1.length.symm.trans hl
  refine run_mkX (us' := us) T hno iC tI F hr (fun s' e' hk => ?_) (by show us.length ≤ sizeLine; exact sz (by omega)) hx I1 r1 hl q1
  have z := hb s' (.ref e' :: us) hk (by rw [List.append_nil, List.length_cons, hul, hpn])
  rw [List.append_nil] at z
  exact z⟩
theorem pe_mkX0 (T : OxC X.K C) (hno : noB X.K C ["code"] = true) (iC : PySem.W.findIn X.K (.ref C) "__init__" = some (some (.ref fI))) (tI : PySem.W.typeIn X.K (.ref fI) = some (.type "function"))
    (F : FnOk X.prog X.w X.K X.mg X.base CX k fI fd ps (spInit C code [])) (hr : Room (k + 1) X.A) (hb : Binds X.K fd ps []) (hpn : ps.length = 1) (hx : Passes CX X (fun _ _ _ => False)) (hg : Gl X x) (hm : X.mg x = some (.ref C))
    (hdb : (x == ("__debug__" : Str)) = false := by decide) :
    PE X (.Call (.Name x p) [] [] pos) (tMkX X.K C code [] tNil) := ⟨fun pins s σ H Q I h => by
  obtain ⟨_, q1⟩ : ([] : List V).length = ([] : List Str).length ∧ ∀ (e : Addr) (H2 : Hp), Same H H2 → H e = none → ErrAt X.K H2 e C code [] [] → Q (.ref e) H2 := h
  refine wpAny_Call_Name_kw (ld_glob I hg hm (PySem.W.callWith_K0 I.kIn T.keep (run_mkX (us := []) (us' := []) T hno iC tI F hr (fun s' e' hk => ?_) (Nat.zero_le _) hx I .nil rfl q1)) hdb)
  have z := hb s' [.ref e'] hk (by rw [List.append_nil, hpn]; rfl)
  rw [List.append_nil] at z
  exact z⟩
theorem pe_mkK {g : List Value → List Value → List Value} {gV : List V → List V → List V} (T : OxC X.K C) (hno : noB X.K C ("code" :: names) = true) (iC : PySem.W.findIn X.K (.ref C) "__init__" = some (some (.ref fI))) (tI : PySem.W.typeIn X.K (.ref fI) = some (.type "function"))
    (F : FnOk X.prog X.w X.K X.mg X.base CX k fI fd ps (spInit C code names)) (hr : Room (k + 1) X.A) (hb : KBn X.K fd ps 1 ks g gV) (hgu : ∀ (e : Value) (ws : List Value), ws.length = ks.length → g [e] ws = e :: (g [e] ws).tail) (hgt : ∀ (e e' : Value) (ws : List Value), (g [e] ws).tail = (g [e'] ws).tail) (hx : Passes CX X (fun _ _ _ => False)) (hg : Gl X x) (hm : X.mg x = some (.ref C)) (hkw : PK X kws tk)
    (hks : (backToKw pos (keywordEach kws X.env)).filterMap (·.1) = ks := by rfl) (hall : (backToKw pos (keywordEach kws X.env)).all (·.1.isSome) = true := by rfl)
    (hpl : ((backTo pos (starEach [] X.env)).any (·.1) || (backToKw pos (keywordEach kws X.env)).any (·.1.isNone)) = false := by rfl) (hdb : (x == ("__debug__" : Str)) = false := by decide) :
    PE X (.Call (.Name x p) [] kws pos) (tMkK X.K C code names ks gV tk) := ⟨fun pins s σ H Q I h => by
  refine wpAny_Call_Name_kw (ld_glob I hg hm (PySem.W.callWith_KW0 (h₀ := X.base) I.ok.mod.kin T.keep hall (thn (hkw.run pos pins s σ H _ I h) fun us s2 ⟨zs, H2, I2, rz, l1, ws, eg, hl, q2⟩ => ⟨I2.kIn, ?_⟩) hpl) hdb)
  rw [hks]
  have hul : us.length = ks.length := rz.length.symm.trans l1
  have rr : Vals ws (g [.none] us).tail := by
    have z : Vals (gV [.ref 0] zs) (g [.ref 0] us) := hb.rel (vs := [.ref 0]) (us := [.ref 0]) (.cons rfl .nil) rz
    rw [eg 0, hgu _ _ hul, hgt _ .none] at z
    cases z with
    | cons _ z => exact z
  refine run_mkX (us := []) (us' := (g [.none] us).tail) T hno iC tI F hr (fun s' e' hk => ?_) (Nat.zero_le _) hx I2 rr hl q2
  have z := hb.to s' [.ref e'] us hk rfl hul
  rw [hgu _ _ hul, hgt _ .none] at z
  exact z⟩
/-! ### reads -/
/-- an error as an instance -/
theorem inst_of {pins : List (Addr × Obj)} {σ : St} {H : Hp} {s : Shared} {a C d : Addr} {l : List (Str × V)} (I : Inv X pins σ H s) (ea : H a = some (exo a C (some d))) (ed : H d = some (exd d l)) :
    ∃ (ox od : Obj) (m : Str → Option Value), PySem.W.InstAt s.heap a ox C (some od) ∧ (∀ n, PySem.W.lookIn n od = some (m n)) ∧ ∀ n, RelO (l.lookup n) (m n) := by
  obtain ⟨t1, ho⟩ := exo_at I.hok ea
  obtain ⟨m, ns, rel⟩ := exd_at I.hok ed
  obtain ⟨od, hod, hm⟩ := lookIn_ns ns
  exact ⟨_, od, m, ⟨ho, rfl, rfl, hod⟩, hm, rel⟩
/-- e.n, e an error -/
def tOxf (K : PySem.W.Frag) (n : Str) (te : TE) : TE := fun σ H Q => te σ H fun x H1 => ∃ (a C dx : Addr) (fs : List (Str × V)) (v : V), x = .ref a ∧ OxC K C ∧ PySem.W.findIn K (.ref C) n = some none ∧ H1 a = some (exo a C (some dx)) ∧ H1 dx = some (exd dx fs) ∧ fs.lookup n = some v ∧ Q v H1
theorem pe_oxf {n : Str} (he : PE X e te) (hb : attributeBase e n X.env (eval e X.env) = eval e X.env := by rfl) : PE X (.Attribute e n pos) (tOxf X.K n te) := ⟨fun pins s σ H Q I h => attr_of hb (thn (he.run pins s σ H _ I h) fun u s1 ⟨x, H1, I1, rx, a, C, d, l, v, ex, T, hno, ea, ed, lv, q⟩ => by
  cases ex
  cases (show u = Value.ref a from rx)
  obtain ⟨ox, od, m, J, hm, rel⟩ := inst_of I1 ea ed
  obtain ⟨u, hu, ru⟩ := RelO.some_of (v := v) (o := m n) (lv ▸ rel n)
  refine HandSPX.exc_get I1.kIn J T.field.ga T.field.gg T.field.exC (PySem.W.findObj_own T.field.hdC hno rfl ?_) (handed_of ru) ⟨v, H1, I1.tok _, ru, q⟩
  rw [hm, hu])⟩
/-- isinstance(e, c), e an error -/
def rIsX (K : PySem.W.Frag) : List V → Hp → VK → Prop := fun xs H Q => ∃ (a C dx : Addr) (fs : List (Str × V)) (c : V) (cv : Value) (b : Bool), xs = [.ref a, c] ∧ OxC K C ∧ H a = some (exo a C (some dx)) ∧ H dx = some (exd dx fs) ∧ (∀ u, RelV c u → u = cv) ∧ PySem.W.kitOne K (.ref C) cv = some b ∧ Q (.bl b) H
theorem call_isX : CallR X (.builtin "isinstance") (rIsX X.K) := fun pins s σ H xs us Q I r ⟨a, C, d, l, c, cv, b, ex, T, ea, ed, hcv, hk, q⟩ => by
  subst ex
  match us, r with
  | [_, u], .cons (rfl : _ = Value.ref a) (.cons rc .nil) =>
    cases hcv u rc
    obtain ⟨ox, od, m, J, _, _⟩ := inst_of I ea ed
    have some_C : (PySem.W.clsIn X.K C).isSome = true := by
      obtain ⟨cd, z, _⟩ := PySem.W.any_some T.field.hdC
      rw [z]
      rfl
    exact PySem.W.kia_one (PySem.W.kitx_exc some_C T.kind.hg T.kind.hk T.kind.hs T.kind.ha T.kind.hn T.kind.ht T.kind.hm) I.kIn J hk (by simp) fun tk => ⟨.bl b, H, I.kept (t' := tk) fun _ _ z => z, rfl, q⟩
end
/-! ### the class's facts as one question -/
def kindB (K : PySem.W.Frag) (C : Addr) : Bool := [PySem.W.findIn K (.ref C) "__class__" == some (some (.builtin "object.__class__")), PySem.W.specialIn K (.builtin "object.__class__") "__get__" == some (some (.builtin "getset_descriptor.__get__")),
  PySem.W.takesIn K (.builtin "object.__class__") == some true, PySem.W.mroIn K C (.type "object") == some true].all id
def oxB (K : PySem.W.Frag) (C : Addr) (newId : String) (l : List Value) (names : List Str) (fI : Addr) : Bool :=
  [PySem.W.excInitIn K C l newId, PySem.W.excOver K C l, xfB K C, kindB K C, PySem.W.findIn K (.ref C) "__setattr__" == some (some (.builtin "object.__setattr__")), PySem.W.keepIn K (.ref C), noB K C names, PySem.W.typeIn K (.ref fI) == some (.type "function")].all id
theorem oxB_ok {K : PySem.W.Frag} {C fI : Addr} {B newId initId : String} {l : List Value} {names : List Str} (G : ExcBaseFacts B newId initId l ∧ StoreFacts B l "object.__setattr__" "object") (h : oxB K C newId l names fI = true) :
    OxC K C ∧ noB K C names = true ∧ PySem.W.typeIn K (.ref fI) = some (.type "function") := by
  simp only [oxB, kindB, List.all_cons, List.all_nil, id, Bool.and_true, Bool.and_eq_true, beq_iff_eq] at h
  obtain ⟨i1, i2, i3, ⟨k1, k2, k3, k4⟩, i4, i5, i6, i7⟩ := h
  have T := xfB_ok i3
  exact ⟨⟨⟨B, newId, initId, l, G.1, G.2, i1, i2⟩, T, ⟨T.ga, T.gg, T.exC, T.hdC, k1, k2, k3, k4⟩, i4, i5⟩, i6, i7⟩
theorem gVE : ExcBaseFacts "ValueError" "ValueError.__new__" "ValueError.__init__" [.type "ValueError", .type "Exception", .type "BaseException", .type "object"] ∧ StoreFacts "ValueError" [.type "ValueError", .type "Exception", .type "BaseException", .type "object"] "object.__setattr__" "object" := ⟨PySem.F.excBase_ValueError, PySem.F.store_ValueError⟩
theorem gLE : ExcBaseFacts "LookupError" "LookupError.__new__" "LookupError.__init__" [.type "LookupError", .type "Exception", .type "BaseException", .type "object"] ∧ StoreFacts "LookupError" [.type "LookupError", .type "Exception", .type "BaseException", .type "object"] "object.__setattr__" "object" := ⟨PySem.F.excBase_LookupError, PySem.F.store_LookupError⟩
theorem gIE : ExcBaseFacts "IndexError" "IndexError.__new__" "IndexError.__init__" [.type "IndexError", .type "LookupError", .type "Exception", .type "BaseException", .type "object"] ∧ StoreFacts "IndexError" [.type "IndexError", .type "LookupError", .type "Exception", .type "BaseException", .type "object"] "object.__setattr__" "object" := ⟨PySem.F.excBase_IndexError, PySem.F.store_IndexError⟩
end L2

set_option Elab.async false
set_option linter.all false
set_option maxRecDepth 100000
namespace My
open PySem PySem.Spec PyProof.Rows L2
def topS (i : Nat) : Stmt := PySem.Challenge.pw_tiedmoments_k01_errors_by_themselves.main.body.getD i (.Pass ⟨0, 0, 0, 0⟩)
abbrev s_i_InvalidName : Stmt := inClass (topS 2) 0
abbrev N_i_InvalidName : List Str := ["self", "value"]
abbrev P_i_InvalidName : List Str := ["self", "value"]
abbrev s_i_InvalidRow : Stmt := inClass (topS 3) 0
abbrev N_i_InvalidRow : List Str := ["self", "at"]
abbrev P_i_InvalidRow : List Str := ["self", "at"]
abbrev s_i_DuplicateName : Stmt := inClass (topS 4) 0
abbrev N_i_DuplicateName : List Str := ["self", "name"]
abbrev P_i_DuplicateName : List Str := ["self", "name"]
abbrev s_i_InvalidStep : Stmt := inClass (topS 5) 0
abbrev N_i_InvalidStep : List Str := ["self", "process", "index"]
abbrev P_i_InvalidStep : List Str := ["self", "process", "index"]
abbrev s_i_DuplicateMessage : Stmt := inClass (topS 6) 0
abbrev N_i_DuplicateMessage : List Str := ["self", "message"]
abbrev P_i_DuplicateMessage : List Str := ["self", "message"]
abbrev s_i_Unsent : Stmt := inClass (topS 7) 0
abbrev N_i_Unsent : List Str := ["self", "message"]
abbrev P_i_Unsent : List Str := ["self", "message"]
abbrev s_i_Ring : Stmt := inClass (topS 8) 0
abbrev N_i_Ring : List Str := ["self", "process"]
abbrev P_i_Ring : List Str := ["self", "process"]
abbrev s_i_TooMany : Stmt := inClass (topS 9) 0
abbrev N_i_TooMany : List Str := ["self", "subject", "most"]
abbrev P_i_TooMany : List Str := ["self", "subject", "most"]
abbrev s_i_InvalidPoint : Stmt := inClass (topS 10) 0
abbrev N_i_InvalidPoint : List Str := ["self", "value"]
abbrev P_i_InvalidPoint : List Str := ["self", "value"]
abbrev s_i_InvalidMoment : Stmt := inClass (topS 11) 0
abbrev N_i_InvalidMoment : List Str := ["self", "value"]
abbrev P_i_InvalidMoment : List Str := ["self", "value"]
abbrev s_i_InvalidClause : Stmt := inClass (topS 12) 0
abbrev N_i_InvalidClause : List Str := ["self", "at"]
abbrev P_i_InvalidClause : List Str := ["self", "at"]
abbrev s_i_Parted : Stmt := inClass (topS 13) 0
abbrev N_i_Parted : List Str := ["self", "at", "one", "other"]
abbrev P_i_Parted : List Str := ["self", "at", "one", "other"]
abbrev s_i_UnlikeLogs : Stmt := inClass (topS 14) 0
abbrev N_i_UnlikeLogs : List Str := ["self"]
abbrev P_i_UnlikeLogs : List Str := ["self"]
abbrev s_i_EmptyLot : Stmt := inClass (topS 15) 0
abbrev N_i_EmptyLot : List Str := ["self"]
abbrev P_i_EmptyLot : List Str := ["self"]
abbrev s_i_InvalidNumber : Stmt := inClass (topS 16) 0
abbrev N_i_InvalidNumber : List Str := ["self", "value"]
abbrev P_i_InvalidNumber : List Str := ["self", "value"]
abbrev s_i_InvalidWeights : Stmt := inClass (topS 17) 0
abbrev N_i_InvalidWeights : List Str := ["self"]
abbrev P_i_InvalidWeights : List Str := ["self"]
abbrev s_i_Uneven : Stmt := inClass (topS 18) 0
abbrev N_i_Uneven : List Str := ["self", "block"]
abbrev P_i_Uneven : List Str := ["self", "block"]
abbrev s_i_InvalidTests : Stmt := inClass (topS 19) 0
abbrev N_i_InvalidTests : List Str := ["self", "at"]
abbrev P_i_InvalidTests : List Str := ["self", "at"]
abbrev s_i_InvalidText : Stmt := inClass (topS 20) 0
abbrev N_i_InvalidText : List Str := ["self", "at"]
abbrev P_i_InvalidText : List Str := ["self", "at"]
abbrev s_i_InvalidCommand : Stmt := inClass (topS 21) 0
abbrev N_i_InvalidCommand : List Str := ["self", "at"]
abbrev P_i_InvalidCommand : List Str := ["self", "at"]
abbrev s_i_Full : Stmt := inClass (topS 22) 0
abbrev N_i_Full : List Str := ["self", "limit"]
abbrev P_i_Full : List Str := ["self", "limit"]
abbrev s_i_InvalidLimit : Stmt := inClass (topS 23) 0
abbrev N_i_InvalidLimit : List Str := ["self", "value"]
abbrev P_i_InvalidLimit : List Str := ["self", "value"]
abbrev s_i_InvalidPage : Stmt := inClass (topS 24) 0
abbrev N_i_InvalidPage : List Str := ["self", "line"]
abbrev P_i_InvalidPage : List Str := ["self", "line"]
abbrev s_i_UnknownProcess : Stmt := inClass (topS 26) 0
abbrev N_i_UnknownProcess : List Str := ["self", "name"]
abbrev P_i_UnknownProcess : List Str := ["self", "name"]
abbrev s_i_UnknownStep : Stmt := inClass (topS 27) 0
abbrev N_i_UnknownStep : List Str := ["self", "step"]
abbrev P_i_UnknownStep : List Str := ["self", "step"]
abbrev s_i_UnknownName : Stmt := inClass (topS 28) 0
abbrev N_i_UnknownName : List Str := ["self", "name"]
abbrev P_i_UnknownName : List Str := ["self", "name"]
abbrev s_i_NothingLeft : Stmt := inClass (topS 29) 0
abbrev N_i_NothingLeft : List Str := ["self"]
abbrev P_i_NothingLeft : List Str := ["self"]
abbrev s_Lbag : Stmt := topS 31
abbrev N_Lbag : List Str := ["_law_script", "_law_mixed", "_law_cell"]
abbrev P_Lbag : List Str := ["_law_script"]
abbrev s_Ldraw : Stmt := topS 32
abbrev N_Ldraw : List Str := ["_law_bag_here", "_law_many", "_law_own", "_law_cell", "_law_digit"]
abbrev P_Ldraw : List Str := ["_law_bag_here", "_law_many"]
abbrev s_Lof : Stmt := topS 33
abbrev N_Lof : List Str := ["_law_bag_here", "_law_some"]
abbrev P_Lof : List Str := ["_law_bag_here", "_law_some"]
abbrev s_Lsame : Stmt := topS 34
abbrev N_Lsame : List Str := ["_law_found", "_law_due", "_law_one_y", "_law_two"]
abbrev P_Lsame : List Str := ["_law_found", "_law_due"]
abbrev s_Lfield : Stmt := topS 35
abbrev N_Lfield : List Str := ["_law_e"]
abbrev P_Lfield : List Str := ["_law_e"]
abbrev s_Lother_field : Stmt := topS 36
abbrev N_Lother_field : List Str := ["_law_e"]
abbrev P_Lother_field : List Str := ["_law_e"]
abbrev s_Lodd : Stmt := topS 37
abbrev N_Lodd : List Str := ["_law_bag_here", "_law_others"]
abbrev P_Lodd : List Str := ["_law_bag_here", "_law_others"]
abbrev s_Lmade_errors : Stmt := topS 38
abbrev N_Lmade_errors : List Str := ["_law_a", "_law_b", "_law_c", "_law_found"]
abbrev P_Lmade_errors : List Str := ["_law_a", "_law_b", "_law_c"]
abbrev s_Lnamed_errors : Stmt := topS 39
abbrev N_Lnamed_errors : List Str := ["_law_a", "_law_b", "_law_c", "_law_found"]
abbrev P_Lnamed_errors : List Str := ["_law_a", "_law_b", "_law_c"]
abbrev s_Lkinds_of : Stmt := topS 40
abbrev N_Lkinds_of : List Str := ["_law_e", "_law_found"]
abbrev P_Lkinds_of : List Str := ["_law_e"]
abbrev s_Lcodes : Stmt := topS 41
abbrev N_Lcodes : List Str := ["_law_found"]
abbrev P_Lcodes : List Str := []
abbrev s_law : Stmt := topS 42
abbrev N_law : List Str := ["_law_script", "_law_bag_here", "_law_a", "_law_b", "_law_c", "_law_codes_here", "_law_place", "_law_e", "_law_due", "_law_above", "_law_k"]
abbrev P_law : List Str := ["_law_script"]
theorem sc_i_InvalidName : FnScope N_i_InvalidName P_i_InvalidName (defScope s_i_InvalidName) := ⟨rfl, rfl, rfl, by decide +kernel, rfl, by decide +kernel, by decide +kernel⟩
theorem sc_i_InvalidRow : FnScope N_i_InvalidRow P_i_InvalidRow (defScope s_i_InvalidRow) := ⟨rfl, rfl, rfl, by decide +kernel, rfl, by decide +kernel, by decide +kernel⟩
theorem sc_i_DuplicateName : FnScope N_i_DuplicateName P_i_DuplicateName (defScope s_i_DuplicateName) := ⟨rfl, rfl, rfl, by decide +kernel, rfl, by decide +kernel, by decide +kernel⟩
theorem sc_i_InvalidStep : FnScope N_i_InvalidStep P_i_InvalidStep (defScope s_i_InvalidStep) := ⟨rfl, rfl, rfl, by decide +kernel, rfl, by decide +kernel, by decide +kernel⟩
theorem sc_i_DuplicateMessage : FnScope N_i_DuplicateMessage P_i_DuplicateMessage (defScope s_i_DuplicateMessage) := ⟨rfl, rfl, rfl, by decide +kernel, rfl, by decide +kernel, by decide +kernel⟩
theorem sc_i_Unsent : FnScope N_i_Unsent P_i_Unsent (defScope s_i_Unsent) := ⟨rfl, rfl, rfl, by decide +kernel, rfl, by decide +kernel, by decide +kernel⟩
theorem sc_i_Ring : FnScope N_i_Ring P_i_Ring (defScope s_i_Ring) := ⟨rfl, rfl, rfl, by decide +kernel, rfl, by decide +kernel, by decide +kernel⟩
theorem sc_i_TooMany : FnScope N_i_TooMany P_i_TooMany (defScope s_i_TooMany) := ⟨rfl, rfl, rfl, by decide +kernel, rfl, by decide +kernel, by decide +kernel⟩
theorem sc_i_InvalidPoint : FnScope N_i_InvalidPoint P_i_InvalidPoint (defScope s_i_InvalidPoint) := ⟨rfl, rfl, rfl, by decide +kernel, rfl, by decide +kernel, by decide +kernel⟩
theorem sc_i_InvalidMoment : FnScope N_i_InvalidMoment P_i_InvalidMoment (defScope s_i_InvalidMoment) := ⟨rfl, rfl, rfl, by decide +kernel, rfl, by decide +kernel, by decide +kernel⟩
theorem sc_i_InvalidClause : FnScope N_i_InvalidClause P_i_InvalidClause (defScope s_i_InvalidClause) := ⟨rfl, rfl, rfl, by decide +kernel, rfl, by decide +kernel, by decide +kernel⟩
theorem sc_i_Parted : FnScope N_i_Parted P_i_Parted (defScope s_i_Parted) := ⟨rfl, rfl, rfl, by decide +kernel, rfl, by decide +kernel, by decide +kernel⟩
theorem sc_i_UnlikeLogs : FnScope N_i_UnlikeLogs P_i_UnlikeLogs (defScope s_i_UnlikeLogs) := ⟨rfl, rfl, rfl, by decide +kernel, rfl, by decide +kernel, by decide +kernel⟩
theorem sc_i_EmptyLot : FnScope N_i_EmptyLot P_i_EmptyLot (defScope s_i_EmptyLot) := ⟨rfl, rfl, rfl, by decide +kernel, rfl, by decide +kernel, by decide +kernel⟩
theorem sc_i_InvalidNumber : FnScope N_i_InvalidNumber P_i_InvalidNumber (defScope s_i_InvalidNumber) := ⟨rfl, rfl, rfl, by decide +kernel, rfl, by decide +kernel, by decide +kernel⟩
theorem sc_i_InvalidWeights : FnScope N_i_InvalidWeights P_i_InvalidWeights (defScope s_i_InvalidWeights) := ⟨rfl, rfl, rfl, by decide +kernel, rfl, by decide +kernel, by decide +kernel⟩
theorem sc_i_Uneven : FnScope N_i_Uneven P_i_Uneven (defScope s_i_Uneven) := ⟨rfl, rfl, rfl, by decide +kernel, rfl, by decide +kernel, by decide +kernel⟩
theorem sc_i_InvalidTests : FnScope N_i_InvalidTests P_i_InvalidTests (defScope s_i_InvalidTests) := ⟨rfl, rfl, rfl, by decide +kernel, rfl, by decide +kernel, by decide +kernel⟩
theorem sc_i_InvalidText : FnScope N_i_InvalidText P_i_InvalidText (defScope s_i_InvalidText) := ⟨rfl, rfl, rfl, by decide +kernel, rfl, by decide +kernel, by decide +kernel⟩
theorem sc_i_InvalidCommand : FnScope N_i_InvalidCommand P_i_InvalidCommand (defScope s_i_InvalidCommand) := ⟨rfl, rfl, rfl, by decide +kernel, rfl, by decide +kernel, by decide +kernel⟩
theorem sc_i_Full : FnScope N_i_Full P_i_Full (defScope s_i_Full) := ⟨rfl, rfl, rfl, by decide +kernel, rfl, by decide +kernel, by decide +kernel⟩
theorem sc_i_InvalidLimit : FnScope N_i_InvalidLimit P_i_InvalidLimit (defScope s_i_InvalidLimit) := ⟨rfl, rfl, rfl, by decide +kernel, rfl, by decide +kernel, by decide +kernel⟩
theorem sc_i_InvalidPage : FnScope N_i_InvalidPage P_i_InvalidPage (defScope s_i_InvalidPage) := ⟨rfl, rfl, rfl, by decide +kernel, rfl, by decide +kernel, by decide +kernel⟩
theorem sc_i_UnknownProcess : FnScope N_i_UnknownProcess P_i_UnknownProcess (defScope s_i_UnknownProcess) := ⟨rfl, rfl, rfl, by decide +kernel, rfl, by decide +kernel, by decide +kernel⟩
theorem sc_i_UnknownStep : FnScope N_i_UnknownStep P_i_UnknownStep (defScope s_i_UnknownStep) := ⟨rfl, rfl, rfl, by decide +kernel, rfl, by decide +kernel, by decide +kernel⟩
theorem sc_i_UnknownName : FnScope N_i_UnknownName P_i_UnknownName (defScope s_i_UnknownName) := ⟨rfl, rfl, rfl, by decide +kernel, rfl, by decide +kernel, by decide +kernel⟩
theorem sc_i_NothingLeft : FnScope N_i_NothingLeft P_i_NothingLeft (defScope s_i_NothingLeft) := ⟨rfl, rfl, rfl, by decide +kernel, rfl, by decide +kernel, by decide +kernel⟩
theorem sc_Lbag : FnScope N_Lbag P_Lbag (defScope s_Lbag) := ⟨rfl, rfl, rfl, by decide +kernel, rfl, by decide +kernel, by decide +kernel⟩
theorem sc_Ldraw : FnScope N_Ldraw P_Ldraw (defScope s_Ldraw) := ⟨rfl, rfl, rfl, by decide +kernel, rfl, by decide +kernel, by decide +kernel⟩
theorem sc_Lof : FnScope N_Lof P_Lof (defScope s_Lof) := ⟨rfl, rfl, rfl, by decide +kernel, rfl, by decide +kernel, by decide +kernel⟩
theorem sc_Lsame : FnScope N_Lsame P_Lsame (defScope s_Lsame) := ⟨rfl, rfl, rfl, by decide +kernel, rfl, by decide +kernel, by decide +kernel⟩
theorem sc_Lfield : FnScope N_Lfield P_Lfield (defScope s_Lfield) := ⟨rfl, rfl, rfl, by decide +kernel, rfl, by decide +kernel, by decide +kernel⟩
theorem sc_Lother_field : FnScope N_Lother_field P_Lother_field (defScope s_Lother_field) := ⟨rfl, rfl, rfl, by decide +kernel, rfl, by decide +kernel, by decide +kernel⟩
theorem sc_Lodd : FnScope N_Lodd P_Lodd (defScope s_Lodd) := ⟨rfl, rfl, rfl, by decide +kernel, rfl, by decide +kernel, by decide +kernel⟩
theorem sc_Lmade_errors : FnScope N_Lmade_errors P_Lmade_errors (defScope s_Lmade_errors) := ⟨rfl, rfl, rfl, by decide +kernel, rfl, by decide +kernel, by decide +kernel⟩
theorem sc_Lnamed_errors : FnScope N_Lnamed_errors P_Lnamed_errors (defScope s_Lnamed_errors) := ⟨rfl, rfl, rfl, by decide +kernel, rfl, by decide +kernel, by decide +kernel⟩
theorem sc_Lkinds_of : FnScope N_Lkinds_of P_Lkinds_of (defScope s_Lkinds_of) := ⟨rfl, rfl, rfl, by decide +kernel, rfl, by decide +kernel, by decide +kernel⟩
theorem sc_Lcodes : FnScope N_Lcodes P_Lcodes (defScope s_Lcodes) := ⟨rfl, rfl, rfl, by decide +kernel, rfl, by decide +kernel, by decide +kernel⟩
theorem sc_law : FnScope N_law P_law (defScope s_law) := ⟨rfl, rfl, rfl, by decide +kernel, rfl, by decide +kernel, by decide +kernel⟩
structure Top where
  c_DuplicateMessage : Addr
  c_DuplicateName : Addr
  c_EmptyLot : Addr
  c_Full : Addr
  c_InvalidClause : Addr
  c_InvalidCommand : Addr
  c_InvalidLimit : Addr
  c_InvalidMoment : Addr
  c_InvalidName : Addr
  c_InvalidNumber : Addr
  c_InvalidPage : Addr
  c_InvalidPoint : Addr
  c_InvalidRow : Addr
  c_InvalidStep : Addr
  c_InvalidTests : Addr
  c_InvalidText : Addr
  c_InvalidWeights : Addr
  c_LogError : Addr
  c_Missing : Addr
  c_NothingLeft : Addr
  c_Parted : Addr
  c_Ring : Addr
  c_TooMany : Addr
  c_Uneven : Addr
  c_UnknownName : Addr
  c_UnknownProcess : Addr
  c_UnknownStep : Addr
  c_UnlikeLogs : Addr
  c_Unsent : Addr
  f_i_InvalidName : Addr
  d_i_InvalidName : FuncData
  f_i_InvalidRow : Addr
  d_i_InvalidRow : FuncData
  f_i_DuplicateName : Addr
  d_i_DuplicateName : FuncData
  f_i_InvalidStep : Addr
  d_i_InvalidStep : FuncData
  f_i_DuplicateMessage : Addr
  d_i_DuplicateMessage : FuncData
  f_i_Unsent : Addr
  d_i_Unsent : FuncData
  f_i_Ring : Addr
  d_i_Ring : FuncData
  f_i_TooMany : Addr
  d_i_TooMany : FuncData
  f_i_InvalidPoint : Addr
  d_i_InvalidPoint : FuncData
  f_i_InvalidMoment : Addr
  d_i_InvalidMoment : FuncData
  f_i_InvalidClause : Addr
  d_i_InvalidClause : FuncData
  f_i_Parted : Addr
  d_i_Parted : FuncData
  f_i_UnlikeLogs : Addr
  d_i_UnlikeLogs : FuncData
  f_i_EmptyLot : Addr
  d_i_EmptyLot : FuncData
  f_i_InvalidNumber : Addr
  d_i_InvalidNumber : FuncData
  f_i_InvalidWeights : Addr
  d_i_InvalidWeights : FuncData
  f_i_Uneven : Addr
  d_i_Uneven : FuncData
  f_i_InvalidTests : Addr
  d_i_InvalidTests : FuncData
  f_i_InvalidText : Addr
  d_i_InvalidText : FuncData
  f_i_InvalidCommand : Addr
  d_i_InvalidCommand : FuncData
  f_i_Full : Addr
  d_i_Full : FuncData
  f_i_InvalidLimit : Addr
  d_i_InvalidLimit : FuncData
  f_i_InvalidPage : Addr
  d_i_InvalidPage : FuncData
  f_i_UnknownProcess : Addr
  d_i_UnknownProcess : FuncData
  f_i_UnknownStep : Addr
  d_i_UnknownStep : FuncData
  f_i_UnknownName : Addr
  d_i_UnknownName : FuncData
  f_i_NothingLeft : Addr
  d_i_NothingLeft : FuncData
  f_Lbag : Addr
  d_Lbag : FuncData
  f_Ldraw : Addr
  d_Ldraw : FuncData
  f_Lof : Addr
  d_Lof : FuncData
  f_Lsame : Addr
  d_Lsame : FuncData
  f_Lfield : Addr
  d_Lfield : FuncData
  f_Lother_field : Addr
  d_Lother_field : FuncData
  f_Lodd : Addr
  d_Lodd : FuncData
  f_Lmade_errors : Addr
  d_Lmade_errors : FuncData
  f_Lnamed_errors : Addr
  d_Lnamed_errors : FuncData
  f_Lkinds_of : Addr
  d_Lkinds_of : FuncData
  f_Lcodes : Addr
  d_Lcodes : FuncData
  f_law : Addr
  d_law : FuncData
structure TopOk (K : PySem.W.Frag) (mg : Str → Option Value) (A : Top) : Prop where
  m_DuplicateMessage : mg "DuplicateMessage" = some (.ref A.c_DuplicateMessage)
  m_DuplicateName : mg "DuplicateName" = some (.ref A.c_DuplicateName)
  m_EmptyLot : mg "EmptyLot" = some (.ref A.c_EmptyLot)
  m_Full : mg "Full" = some (.ref A.c_Full)
  m_InvalidClause : mg "InvalidClause" = some (.ref A.c_InvalidClause)
  m_InvalidCommand : mg "InvalidCommand" = some (.ref A.c_InvalidCommand)
  m_InvalidLimit : mg "InvalidLimit" = some (.ref A.c_InvalidLimit)
  m_InvalidMoment : mg "InvalidMoment" = some (.ref A.c_InvalidMoment)
  m_InvalidName : mg "InvalidName" = some (.ref A.c_InvalidName)
  m_InvalidNumber : mg "InvalidNumber" = some (.ref A.c_InvalidNumber)
  m_InvalidPage : mg "InvalidPage" = some (.ref A.c_InvalidPage)
  m_InvalidPoint : mg "InvalidPoint" = some (.ref A.c_InvalidPoint)
  m_InvalidRow : mg "InvalidRow" = some (.ref A.c_InvalidRow)
  m_InvalidStep : mg "InvalidStep" = some (.ref A.c_InvalidStep)
  m_InvalidTests : mg "InvalidTests" = some (.ref A.c_InvalidTests)
  m_InvalidText : mg "InvalidText" = some (.ref A.c_InvalidText)
  m_InvalidWeights : mg "InvalidWeights" = some (.ref A.c_InvalidWeights)
  m_LogError : mg "LogError" = some (.ref A.c_LogError)
  m_Missing : mg "Missing" = some (.ref A.c_Missing)
  m_NothingLeft : mg "NothingLeft" = some (.ref A.c_NothingLeft)
  m_Parted : mg "Parted" = some (.ref A.c_Parted)
  m_Ring : mg "Ring" = some (.ref A.c_Ring)
  m_TooMany : mg "TooMany" = some (.ref A.c_TooMany)
  m_Uneven : mg "Uneven" = some (.ref A.c_Uneven)
  m_UnknownName : mg "UnknownName" = some (.ref A.c_UnknownName)
  m_UnknownProcess : mg "UnknownProcess" = some (.ref A.c_UnknownProcess)
  m_UnknownStep : mg "UnknownStep" = some (.ref A.c_UnknownStep)
  m_UnlikeLogs : mg "UnlikeLogs" = some (.ref A.c_UnlikeLogs)
  m_Unsent : mg "Unsent" = some (.ref A.c_Unsent)
  X_InvalidName : OxC K A.c_InvalidName
  no_InvalidName : noB K A.c_InvalidName ("code" :: ["value"]) = true
  i_InvalidName : PySem.W.findIn K (.ref A.c_InvalidName) "__init__" = some (some (.ref A.f_i_InvalidName))
  t_InvalidName : PySem.W.typeIn K (.ref A.f_i_InvalidName) = some (.type "function")
  F_i_InvalidName : Fun K "__init__" "InvalidName.__init__" s_i_InvalidName A.f_i_InvalidName A.d_i_InvalidName
  a_i_InvalidName : Binds K A.d_i_InvalidName P_i_InvalidName []
  k_InvalidName : kitXB K A.c_InvalidName [(.ref A.c_InvalidName, true), (.ref A.c_InvalidRow, false), (.ref A.c_DuplicateName, false), (.ref A.c_InvalidStep, false), (.ref A.c_DuplicateMessage, false), (.ref A.c_Unsent, false), (.ref A.c_Ring, false), (.ref A.c_TooMany, false), (.ref A.c_InvalidPoint, false), (.ref A.c_InvalidMoment, false), (.ref A.c_InvalidClause, false), (.ref A.c_Parted, false), (.ref A.c_UnlikeLogs, false), (.ref A.c_EmptyLot, false), (.ref A.c_InvalidNumber, false), (.ref A.c_InvalidWeights, false), (.ref A.c_Uneven, false), (.ref A.c_InvalidTests, false), (.ref A.c_InvalidText, false), (.ref A.c_InvalidCommand, false), (.ref A.c_Full, false), (.ref A.c_InvalidLimit, false), (.ref A.c_InvalidPage, false), (.ref A.c_UnknownProcess, false), (.ref A.c_UnknownStep, false), (.ref A.c_UnknownName, false), (.ref A.c_NothingLeft, false), (.ref A.c_LogError, true), (.ref A.c_Missing, false), (.type "ValueError", true), (.type "LookupError", false), (.type "IndexError", false)] = true
  X_InvalidRow : OxC K A.c_InvalidRow
  no_InvalidRow : noB K A.c_InvalidRow ("code" :: ["at"]) = true
  i_InvalidRow : PySem.W.findIn K (.ref A.c_InvalidRow) "__init__" = some (some (.ref A.f_i_InvalidRow))
  t_InvalidRow : PySem.W.typeIn K (.ref A.f_i_InvalidRow) = some (.type "function")
  F_i_InvalidRow : Fun K "__init__" "InvalidRow.__init__" s_i_InvalidRow A.f_i_InvalidRow A.d_i_InvalidRow
  a_i_InvalidRow : Binds K A.d_i_InvalidRow P_i_InvalidRow []
  k_InvalidRow : kitXB K A.c_InvalidRow [(.ref A.c_InvalidName, false), (.ref A.c_InvalidRow, true), (.ref A.c_DuplicateName, false), (.ref A.c_InvalidStep, false), (.ref A.c_DuplicateMessage, false), (.ref A.c_Unsent, false), (.ref A.c_Ring, false), (.ref A.c_TooMany, false), (.ref A.c_InvalidPoint, false), (.ref A.c_InvalidMoment, false), (.ref A.c_InvalidClause, false), (.ref A.c_Parted, false), (.ref A.c_UnlikeLogs, false), (.ref A.c_EmptyLot, false), (.ref A.c_InvalidNumber, false), (.ref A.c_InvalidWeights, false), (.ref A.c_Uneven, false), (.ref A.c_InvalidTests, false), (.ref A.c_InvalidText, false), (.ref A.c_InvalidCommand, false), (.ref A.c_Full, false), (.ref A.c_InvalidLimit, false), (.ref A.c_InvalidPage, false), (.ref A.c_UnknownProcess, false), (.ref A.c_UnknownStep, false), (.ref A.c_UnknownName, false), (.ref A.c_NothingLeft, false), (.ref A.c_LogError, true), (.ref A.c_Missing, false), (.type "ValueError", true), (.type "LookupError", false), (.type "IndexError", false)] = true
  X_DuplicateName : OxC K A.c_DuplicateName
  no_DuplicateName : noB K A.c_DuplicateName ("code" :: ["name"]) = true
  i_DuplicateName : PySem.W.findIn K (.ref A.c_DuplicateName) "__init__" = some (some (.ref A.f_i_DuplicateName))
  t_DuplicateName : PySem.W.typeIn K (.ref A.f_i_DuplicateName) = some (.type "function")
  F_i_DuplicateName : Fun K "__init__" "DuplicateName.__init__" s_i_DuplicateName A.f_i_DuplicateName A.d_i_DuplicateName
  a_i_DuplicateName : Binds K A.d_i_DuplicateName P_i_DuplicateName []
  k_DuplicateName : kitXB K A.c_DuplicateName [(.ref A.c_InvalidName, false), (.ref A.c_InvalidRow, false), (.ref A.c_DuplicateName, true), (.ref A.c_InvalidStep, false), (.ref A.c_DuplicateMessage, false), (.ref A.c_Unsent, false), (.ref A.c_Ring, false), (.ref A.c_TooMany, false), (.ref A.c_InvalidPoint, false), (.ref A.c_InvalidMoment, false), (.ref A.c_InvalidClause, false), (.ref A.c_Parted, false), (.ref A.c_UnlikeLogs, false), (.ref A.c_EmptyLot, false), (.ref A.c_InvalidNumber, false), (.ref A.c_InvalidWeights, false), (.ref A.c_Uneven, false), (.ref A.c_InvalidTests, false), (.ref A.c_InvalidText, false), (.ref A.c_InvalidCommand, false), (.ref A.c_Full, false), (.ref A.c_InvalidLimit, false), (.ref A.c_InvalidPage, false), (.ref A.c_UnknownProcess, false), (.ref A.c_UnknownStep, false), (.ref A.c_UnknownName, false), (.ref A.c_NothingLeft, false), (.ref A.c_LogError, true), (.ref A.c_Missing, false), (.type "ValueError", true), (.type "LookupError", false), (.type "IndexError", false)] = true
  X_InvalidStep : OxC K A.c_InvalidStep
  no_InvalidStep : noB K A.c_InvalidStep ("code" :: ["process", "index"]) = true
  i_InvalidStep : PySem.W.findIn K (.ref A.c_InvalidStep) "__init__" = some (some (.ref A.f_i_InvalidStep))
  t_InvalidStep : PySem.W.typeIn K (.ref A.f_i_InvalidStep) = some (.type "function")
  F_i_InvalidStep : Fun K "__init__" "InvalidStep.__init__" s_i_InvalidStep A.f_i_InvalidStep A.d_i_InvalidStep
  a_i_InvalidStep : Binds K A.d_i_InvalidStep P_i_InvalidStep []
  k_InvalidStep : kitXB K A.c_InvalidStep [(.ref A.c_InvalidName, false), (.ref A.c_InvalidRow, false), (.ref A.c_DuplicateName, false), (.ref A.c_InvalidStep, true), (.ref A.c_DuplicateMessage, false), (.ref A.c_Unsent, false), (.ref A.c_Ring, false), (.ref A.c_TooMany, false), (.ref A.c_InvalidPoint, false), (.ref A.c_InvalidMoment, false), (.ref A.c_InvalidClause, false), (.ref A.c_Parted, false), (.ref A.c_UnlikeLogs, false), (.ref A.c_EmptyLot, false), (.ref A.c_InvalidNumber, false), (.ref A.c_InvalidWeights, false), (.ref A.c_Uneven, false), (.ref A.c_InvalidTests, false), (.ref A.c_InvalidText, false), (.ref A.c_InvalidCommand, false), (.ref A.c_Full, false), (.ref A.c_InvalidLimit, false), (.ref A.c_InvalidPage, false), (.ref A.c_UnknownProcess, false), (.ref A.c_UnknownStep, false), (.ref A.c_UnknownName, false), (.ref A.c_NothingLeft, false), (.ref A.c_LogError, true), (.ref A.c_Missing, false), (.type "ValueError", true), (.type "LookupError", false), (.type "IndexError", false)] = true
  X_DuplicateMessage : OxC K A.c_DuplicateMessage
  no_DuplicateMessage : noB K A.c_DuplicateMessage ("code" :: ["message"]) = true
  i_DuplicateMessage : PySem.W.findIn K (.ref A.c_DuplicateMessage) "__init__" = some (some (.ref A.f_i_DuplicateMessage))
  t_DuplicateMessage : PySem.W.typeIn K (.ref A.f_i_DuplicateMessage) = some (.type "function")
  F_i_DuplicateMessage : Fun K "__init__" "DuplicateMessage.__init__" s_i_DuplicateMessage A.f_i_DuplicateMessage A.d_i_DuplicateMessage
  a_i_DuplicateMessage : Binds K A.d_i_DuplicateMessage P_i_DuplicateMessage []
  k_DuplicateMessage : kitXB K A.c_DuplicateMessage [(.ref A.c_InvalidName, false), (.ref A.c_InvalidRow, false), (.ref A.c_DuplicateName, false), (.ref A.c_InvalidStep, false), (.ref A.c_DuplicateMessage, true), (.ref A.c_Unsent, false), (.ref A.c_Ring, false), (.ref A.c_TooMany, false), (.ref A.c_InvalidPoint, false), (.ref A.c_InvalidMoment, false), (.ref A.c_InvalidClause, false), (.ref A.c_Parted, false), (.ref A.c_UnlikeLogs, false), (.ref A.c_EmptyLot, false), (.ref A.c_InvalidNumber, false), (.ref A.c_InvalidWeights, false), (.ref A.c_Uneven, false), (.ref A.c_InvalidTests, false), (.ref A.c_InvalidText, false), (.ref A.c_InvalidCommand, false), (.ref A.c_Full, false), (.ref A.c_InvalidLimit, false), (.ref A.c_InvalidPage, false), (.ref A.c_UnknownProcess, false), (.ref A.c_UnknownStep, false), (.ref A.c_UnknownName, false), (.ref A.c_NothingLeft, false), (.ref A.c_LogError, true), (.ref A.c_Missing, false), (.type "ValueError", true), (.type "LookupError", false), (.type "IndexError", false)] = true
  X_Unsent : OxC K A.c_Unsent
  no_Unsent : noB K A.c_Unsent ("code" :: ["message"]) = true
  i_Unsent : PySem.W.findIn K (.ref A.c_Unsent) "__init__" = some (some (.ref A.f_i_Unsent))
  t_Unsent : PySem.W.typeIn K (.ref A.f_i_Unsent) = some (.type "function")
  F_i_Unsent : Fun K "__init__" "Unsent.__init__" s_i_Unsent A.f_i_Unsent A.d_i_Unsent
  a_i_Unsent : Binds K A.d_i_Unsent P_i_Unsent []
  k_Unsent : kitXB K A.c_Unsent [(.ref A.c_InvalidName, false), (.ref A.c_InvalidRow, false), (.ref A.c_DuplicateName, false), (.ref A.c_InvalidStep, false), (.ref A.c_DuplicateMessage, false), (.ref A.c_Unsent, true), (.ref A.c_Ring, false), (.ref A.c_TooMany, false), (.ref A.c_InvalidPoint, false), (.ref A.c_InvalidMoment, false), (.ref A.c_InvalidClause, false), (.ref A.c_Parted, false), (.ref A.c_UnlikeLogs, false), (.ref A.c_EmptyLot, false), (.ref A.c_InvalidNumber, false), (.ref A.c_InvalidWeights, false), (.ref A.c_Uneven, false), (.ref A.c_InvalidTests, false), (.ref A.c_InvalidText, false), (.ref A.c_InvalidCommand, false), (.ref A.c_Full, false), (.ref A.c_InvalidLimit, false), (.ref A.c_InvalidPage, false), (.ref A.c_UnknownProcess, false), (.ref A.c_UnknownStep, false), (.ref A.c_UnknownName, false), (.ref A.c_NothingLeft, false), (.ref A.c_LogError, true), (.ref A.c_Missing, false), (.type "ValueError", true), (.type "LookupError", false), (.type "IndexError", false)] = true
  X_Ring : OxC K A.c_Ring
  no_Ring : noB K A.c_Ring ("code" :: ["process"]) = true
  i_Ring : PySem.W.findIn K (.ref A.c_Ring) "__init__" = some (some (.ref A.f_i_Ring))
  t_Ring : PySem.W.typeIn K (.ref A.f_i_Ring) = some (.type "function")
  F_i_Ring : Fun K "__init__" "Ring.__init__" s_i_Ring A.f_i_Ring A.d_i_Ring
  a_i_Ring : Binds K A.d_i_Ring P_i_Ring []
  k_Ring : kitXB K A.c_Ring [(.ref A.c_InvalidName, false), (.ref A.c_InvalidRow, false), (.ref A.c_DuplicateName, false), (.ref A.c_InvalidStep, false), (.ref A.c_DuplicateMessage, false), (.ref A.c_Unsent, false), (.ref A.c_Ring, true), (.ref A.c_TooMany, false), (.ref A.c_InvalidPoint, false), (.ref A.c_InvalidMoment, false), (.ref A.c_InvalidClause, false), (.ref A.c_Parted, false), (.ref A.c_UnlikeLogs, false), (.ref A.c_EmptyLot, false), (.ref A.c_InvalidNumber, false), (.ref A.c_InvalidWeights, false), (.ref A.c_Uneven, false), (.ref A.c_InvalidTests, false), (.ref A.c_InvalidText, false), (.ref A.c_InvalidCommand, false), (.ref A.c_Full, false), (.ref A.c_InvalidLimit, false), (.ref A.c_InvalidPage, false), (.ref A.c_UnknownProcess, false), (.ref A.c_UnknownStep, false), (.ref A.c_UnknownName, false), (.ref A.c_NothingLeft, false), (.ref A.c_LogError, true), (.ref A.c_Missing, false), (.type "ValueError", true), (.type "LookupError", false), (.type "IndexError", false)] = true
  X_TooMany : OxC K A.c_TooMany
  no_TooMany : noB K A.c_TooMany ("code" :: ["subject", "most"]) = true
  i_TooMany : PySem.W.findIn K (.ref A.c_TooMany) "__init__" = some (some (.ref A.f_i_TooMany))
  t_TooMany : PySem.W.typeIn K (.ref A.f_i_TooMany) = some (.type "function")
  F_i_TooMany : Fun K "__init__" "TooMany.__init__" s_i_TooMany A.f_i_TooMany A.d_i_TooMany
  a_i_TooMany : Binds K A.d_i_TooMany P_i_TooMany []
  k_TooMany : kitXB K A.c_TooMany [(.ref A.c_InvalidName, false), (.ref A.c_InvalidRow, false), (.ref A.c_DuplicateName, false), (.ref A.c_InvalidStep, false), (.ref A.c_DuplicateMessage, false), (.ref A.c_Unsent, false), (.ref A.c_Ring, false), (.ref A.c_TooMany, true), (.ref A.c_InvalidPoint, false), (.ref A.c_InvalidMoment, false), (.ref A.c_InvalidClause, false), (.ref A.c_Parted, false), (.ref A.c_UnlikeLogs, false), (.ref A.c_EmptyLot, false), (.ref A.c_InvalidNumber, false), (.ref A.c_InvalidWeights, false), (.ref A.c_Uneven, false), (.ref A.c_InvalidTests, false), (.ref A.c_InvalidText, false), (.ref A.c_InvalidCommand, false), (.ref A.c_Full, false), (.ref A.c_InvalidLimit, false), (.ref A.c_InvalidPage, false), (.ref A.c_UnknownProcess, false), (.ref A.c_UnknownStep, false), (.ref A.c_UnknownName, false), (.ref A.c_NothingLeft, false), (.ref A.c_LogError, true), (.ref A.c_Missing, false), (.type "ValueError", true), (.type "LookupError", false), (.type "IndexError", false)] = true
  X_InvalidPoint : OxC K A.c_InvalidPoint
  no_InvalidPoint : noB K A.c_InvalidPoint ("code" :: ["value"]) = true
  i_InvalidPoint : PySem.W.findIn K (.ref A.c_InvalidPoint) "__init__" = some (some (.ref A.f_i_InvalidPoint))
  t_InvalidPoint : PySem.W.typeIn K (.ref A.f_i_InvalidPoint) = some (.type "function")
  F_i_InvalidPoint : Fun K "__init__" "InvalidPoint.__init__" s_i_InvalidPoint A.f_i_InvalidPoint A.d_i_InvalidPoint
  a_i_InvalidPoint : Binds K A.d_i_InvalidPoint P_i_InvalidPoint []
  k_InvalidPoint : kitXB K A.c_InvalidPoint [(.ref A.c_InvalidName, false), (.ref A.c_InvalidRow, false), (.ref A.c_DuplicateName, false), (.ref A.c_InvalidStep, false), (.ref A.c_DuplicateMessage, false), (.ref A.c_Unsent, false), (.ref A.c_Ring, false), (.ref A.c_TooMany, false), (.ref A.c_InvalidPoint, true), (.ref A.c_InvalidMoment, false), (.ref A.c_InvalidClause, false), (.ref A.c_Parted, false), (.ref A.c_UnlikeLogs, false), (.ref A.c_EmptyLot, false), (.ref A.c_InvalidNumber, false), (.ref A.c_InvalidWeights, false), (.ref A.c_Uneven, false), (.ref A.c_InvalidTests, false), (.ref A.c_InvalidText, false), (.ref A.c_InvalidCommand, false), (.ref A.c_Full, false), (.ref A.c_InvalidLimit, false), (.ref A.c_InvalidPage, false), (.ref A.c_UnknownProcess, false), (.ref A.c_UnknownStep, false), (.ref A.c_UnknownName, false), (.ref A.c_NothingLeft, false), (.ref A.c_LogError, true), (.ref A.c_Missing, false), (.type "ValueError", true), (.type "LookupError", false), (.type "IndexError", false)] = true
  X_InvalidMoment : OxC K A.c_InvalidMoment
  no_InvalidMoment : noB K A.c_InvalidMoment ("code" :: ["value"]) = true
  i_InvalidMoment : PySem.W.findIn K (.ref A.c_InvalidMoment) "__init__" = some (some (.ref A.f_i_InvalidMoment))
  t_InvalidMoment : PySem.W.typeIn K (.ref A.f_i_InvalidMoment) = some (.type "function")
  F_i_InvalidMoment : Fun K "__init__" "InvalidMoment.__init__" s_i_InvalidMoment A.f_i_InvalidMoment A.d_i_InvalidMoment
  a_i_InvalidMoment : Binds K A.d_i_InvalidMoment P_i_InvalidMoment []
  k_InvalidMoment : kitXB K A.c_InvalidMoment [(.ref A.c_InvalidName, false), (.ref A.c_InvalidRow, false), (.ref A.c_DuplicateName, false), (.ref A.c_InvalidStep, false), (.ref A.c_DuplicateMessage, false), (.ref A.c_Unsent, false), (.ref A.c_Ring, false), (.ref A.c_TooMany, false), (.ref A.c_InvalidPoint, false), (.ref A.c_InvalidMoment, true), (.ref A.c_InvalidClause, false), (.ref A.c_Parted, false), (.ref A.c_UnlikeLogs, false), (.ref A.c_EmptyLot, false), (.ref A.c_InvalidNumber, false), (.ref A.c_InvalidWeights, false), (.ref A.c_Uneven, false), (.ref A.c_InvalidTests, false), (.ref A.c_InvalidText, false), (.ref A.c_InvalidCommand, false), (.ref A.c_Full, false), (.ref A.c_InvalidLimit, false), (.ref A.c_InvalidPage, false), (.ref A.c_UnknownProcess, false), (.ref A.c_UnknownStep, false), (.ref A.c_UnknownName, false), (.ref A.c_NothingLeft, false), (.ref A.c_LogError, true), (.ref A.c_Missing, false), (.type "ValueError", true), (.type "LookupError", false), (.type "IndexError", false)] = true
  X_InvalidClause : OxC K A.c_InvalidClause
  no_InvalidClause : noB K A.c_InvalidClause ("code" :: ["at"]) = true
  i_InvalidClause : PySem.W.findIn K (.ref A.c_InvalidClause) "__init__" = some (some (.ref A.f_i_InvalidClause))
  t_InvalidClause : PySem.W.typeIn K (.ref A.f_i_InvalidClause) = some (.type "function")
  F_i_InvalidClause : Fun K "__init__" "InvalidClause.__init__" s_i_InvalidClause A.f_i_InvalidClause A.d_i_InvalidClause
  a_i_InvalidClause : Binds K A.d_i_InvalidClause P_i_InvalidClause []
  k_InvalidClause : kitXB K A.c_InvalidClause [(.ref A.c_InvalidName, false), (.ref A.c_InvalidRow, false), (.ref A.c_DuplicateName, false), (.ref A.c_InvalidStep, false), (.ref A.c_DuplicateMessage, false), (.ref A.c_Unsent, false), (.ref A.c_Ring, false), (.ref A.c_TooMany, false), (.ref A.c_InvalidPoint, false), (.ref A.c_InvalidMoment, false), (.ref A.c_InvalidClause, true), (.ref A.c_Parted, false), (.ref A.c_UnlikeLogs, false), (.ref A.c_EmptyLot, false), (.ref A.c_InvalidNumber, false), (.ref A.c_InvalidWeights, false), (.ref A.c_Uneven, false), (.ref A.c_InvalidTests, false), (.ref A.c_InvalidText, false), (.ref A.c_InvalidCommand, false), (.ref A.c_Full, false), (.ref A.c_InvalidLimit, false), (.ref A.c_InvalidPage, false), (.ref A.c_UnknownProcess, false), (.ref A.c_UnknownStep, false), (.ref A.c_UnknownName, false), (.ref A.c_NothingLeft, false), (.ref A.c_LogError, true), (.ref A.c_Missing, false), (.type "ValueError", true), (.type "LookupError", false), (.type "IndexError", false)] = true
  X_Parted : OxC K A.c_Parted
  no_Parted : noB K A.c_Parted ("code" :: ["at", "one", "other"]) = true
  i_Parted : PySem.W.findIn K (.ref A.c_Parted) "__init__" = some (some (.ref A.f_i_Parted))
  t_Parted : PySem.W.typeIn K (.ref A.f_i_Parted) = some (.type "function")
  F_i_Parted : Fun K "__init__" "Parted.__init__" s_i_Parted A.f_i_Parted A.d_i_Parted
  a_i_Parted : Binds K A.d_i_Parted P_i_Parted []
  k_Parted : kitXB K A.c_Parted [(.ref A.c_InvalidName, false), (.ref A.c_InvalidRow, false), (.ref A.c_DuplicateName, false), (.ref A.c_InvalidStep, false), (.ref A.c_DuplicateMessage, false), (.ref A.c_Unsent, false), (.ref A.c_Ring, false), (.ref A.c_TooMany, false), (.ref A.c_InvalidPoint, false), (.ref A.c_InvalidMoment, false), (.ref A.c_InvalidClause, false), (.ref A.c_Parted, true), (.ref A.c_UnlikeLogs, false), (.ref A.c_EmptyLot, false), (.ref A.c_InvalidNumber, false), (.ref A.c_InvalidWeights, false), (.ref A.c_Uneven, false), (.ref A.c_InvalidTests, false), (.ref A.c_InvalidText, false), (.ref A.c_InvalidCommand, false), (.ref A.c_Full, false), (.ref A.c_InvalidLimit, false), (.ref A.c_InvalidPage, false), (.ref A.c_UnknownProcess, false), (.ref A.c_UnknownStep, false), (.ref A.c_UnknownName, false), (.ref A.c_NothingLeft, false), (.ref A.c_LogError, true), (.ref A.c_Missing, false), (.type "ValueError", true), (.type "LookupError", false), (.type "IndexError", false)] = true
  X_UnlikeLogs : OxC K A.c_UnlikeLogs
  no_UnlikeLogs : noB K A.c_UnlikeLogs ("code" :: []) = true
  i_UnlikeLogs : PySem.W.findIn K (.ref A.c_UnlikeLogs) "__init__" = some (some (.ref A.f_i_UnlikeLogs))
  t_UnlikeLogs : PySem.W.typeIn K (.ref A.f_i_UnlikeLogs) = some (.type "function")
  F_i_UnlikeLogs : Fun K "__init__" "UnlikeLogs.__init__" s_i_UnlikeLogs A.f_i_UnlikeLogs A.d_i_UnlikeLogs
  a_i_UnlikeLogs : Binds K A.d_i_UnlikeLogs P_i_UnlikeLogs []
  k_UnlikeLogs : kitXB K A.c_UnlikeLogs [(.ref A.c_InvalidName, false), (.ref A.c_InvalidRow, false), (.ref A.c_DuplicateName, false), (.ref A.c_InvalidStep, false), (.ref A.c_DuplicateMessage, false), (.ref A.c_Unsent, false), (.ref A.c_Ring, false), (.ref A.c_TooMany, false), (.ref A.c_InvalidPoint, false), (.ref A.c_InvalidMoment, false), (.ref A.c_InvalidClause, false), (.ref A.c_Parted, false), (.ref A.c_UnlikeLogs, true), (.ref A.c_EmptyLot, false), (.ref A.c_InvalidNumber, false), (.ref A.c_InvalidWeights, false), (.ref A.c_Uneven, false), (.ref A.c_InvalidTests, false), (.ref A.c_InvalidText, false), (.ref A.c_InvalidCommand, false), (.ref A.c_Full, false), (.ref A.c_InvalidLimit, false), (.ref A.c_InvalidPage, false), (.ref A.c_UnknownProcess, false), (.ref A.c_UnknownStep, false), (.ref A.c_UnknownName, false), (.ref A.c_NothingLeft, false), (.ref A.c_LogError, true), (.ref A.c_Missing, false), (.type "ValueError", true), (.type "LookupError", false), (.type "IndexError", false)] = true
  X_EmptyLot : OxC K A.c_EmptyLot
  no_EmptyLot : noB K A.c_EmptyLot ("code" :: []) = true
  i_EmptyLot : PySem.W.findIn K (.ref A.c_EmptyLot) "__init__" = some (some (.ref A.f_i_EmptyLot))
  t_EmptyLot : PySem.W.typeIn K (.ref A.f_i_EmptyLot) = some (.type "function")
  F_i_EmptyLot : Fun K "__init__" "EmptyLot.__init__" s_i_EmptyLot A.f_i_EmptyLot A.d_i_EmptyLot
  a_i_EmptyLot : Binds K A.d_i_EmptyLot P_i_EmptyLot []
  k_EmptyLot : kitXB K A.c_EmptyLot [(.ref A.c_InvalidName, false), (.ref A.c_InvalidRow, false), (.ref A.c_DuplicateName, false), (.ref A.c_InvalidStep, false), (.ref A.c_DuplicateMessage, false), (.ref A.c_Unsent, false), (.ref A.c_Ring, false), (.ref A.c_TooMany, false), (.ref A.c_InvalidPoint, false), (.ref A.c_InvalidMoment, false), (.ref A.c_InvalidClause, false), (.ref A.c_Parted, false), (.ref A.c_UnlikeLogs, false), (.ref A.c_EmptyLot, true), (.ref A.c_InvalidNumber, false), (.ref A.c_InvalidWeights, false), (.ref A.c_Uneven, false), (.ref A.c_InvalidTests, false), (.ref A.c_InvalidText, false), (.ref A.c_InvalidCommand, false), (.ref A.c_Full, false), (.ref A.c_InvalidLimit, false), (.ref A.c_InvalidPage, false), (.ref A.c_UnknownProcess, false), (.ref A.c_UnknownStep, false), (.ref A.c_UnknownName, false), (.ref A.c_NothingLeft, false), (.ref A.c_LogError, true), (.ref A.c_Missing, false), (.type "ValueError", true), (.type "LookupError", false), (.type "IndexError", false)] = true
  X_InvalidNumber : OxC K A.c_InvalidNumber
  no_InvalidNumber : noB K A.c_InvalidNumber ("code" :: ["value"]) = true
  i_InvalidNumber : PySem.W.findIn K (.ref A.c_InvalidNumber) "__init__" = some (some (.ref A.f_i_InvalidNumber))
  t_InvalidNumber : PySem.W.typeIn K (.ref A.f_i_InvalidNumber) = some (.type "function")
  F_i_InvalidNumber : Fun K "__init__" "InvalidNumber.__init__" s_i_InvalidNumber A.f_i_InvalidNumber A.d_i_InvalidNumber
  a_i_InvalidNumber : Binds K A.d_i_InvalidNumber P_i_InvalidNumber []
  k_InvalidNumber : kitXB K A.c_InvalidNumber [(.ref A.c_InvalidName, false), (.ref A.c_InvalidRow, false), (.ref A.c_DuplicateName, false), (.ref A.c_InvalidStep, false), (.ref A.c_DuplicateMessage, false), (.ref A.c_Unsent, false), (.ref A.c_Ring, false), (.ref A.c_TooMany, false), (.ref A.c_InvalidPoint, false), (.ref A.c_InvalidMoment, false), (.ref A.c_InvalidClause, false), (.ref A.c_Parted, false), (.ref A.c_UnlikeLogs, false), (.ref A.c_EmptyLot, false), (.ref A.c_InvalidNumber, true), (.ref A.c_InvalidWeights, false), (.ref A.c_Uneven, false), (.ref A.c_InvalidTests, false), (.ref A.c_InvalidText, false), (.ref A.c_InvalidCommand, false), (.ref A.c_Full, false), (.ref A.c_InvalidLimit, false), (.ref A.c_InvalidPage, false), (.ref A.c_UnknownProcess, false), (.ref A.c_UnknownStep, false), (.ref A.c_UnknownName, false), (.ref A.c_NothingLeft, false), (.ref A.c_LogError, true), (.ref A.c_Missing, false), (.type "ValueError", true), (.type "LookupError", false), (.type "IndexError", false)] = true
  X_InvalidWeights : OxC K A.c_InvalidWeights
  no_InvalidWeights : noB K A.c_InvalidWeights ("code" :: []) = true
  i_InvalidWeights : PySem.W.findIn K (.ref A.c_InvalidWeights) "__init__" = some (some (.ref A.f_i_InvalidWeights))
  t_InvalidWeights : PySem.W.typeIn K (.ref A.f_i_InvalidWeights) = some (.type "function")
  F_i_InvalidWeights : Fun K "__init__" "InvalidWeights.__init__" s_i_InvalidWeights A.f_i_InvalidWeights A.d_i_InvalidWeights
  a_i_InvalidWeights : Binds K A.d_i_InvalidWeights P_i_InvalidWeights []
  k_InvalidWeights : kitXB K A.c_InvalidWeights [(.ref A.c_InvalidName, false), (.ref A.c_InvalidRow, false), (.ref A.c_DuplicateName, false), (.ref A.c_InvalidStep, false), (.ref A.c_DuplicateMessage, false), (.ref A.c_Unsent, false), (.ref A.c_Ring, false), (.ref A.c_TooMany, false), (.ref A.c_InvalidPoint, false), (.ref A.c_InvalidMoment, false), (.ref A.c_InvalidClause, false), (.ref A.c_Parted, false), (.ref A.c_UnlikeLogs, false), (.ref A.c_EmptyLot, false), (.ref A.c_InvalidNumber, false), (.ref A.c_InvalidWeights, true), (.ref A.c_Uneven, false), (.ref A.c_InvalidTests, false), (.ref A.c_InvalidText, false), (.ref A.c_InvalidCommand, false), (.ref A.c_Full, false), (.ref A.c_InvalidLimit, false), (.ref A.c_InvalidPage, false), (.ref A.c_UnknownProcess, false), (.ref A.c_UnknownStep, false), (.ref A.c_UnknownName, false), (.ref A.c_NothingLeft, false), (.ref A.c_LogError, true), (.ref A.c_Missing, false), (.type "ValueError", true), (.type "LookupError", false), (.type "IndexError", false)] = true
  X_Uneven : OxC K A.c_Uneven
  no_Uneven : noB K A.c_Uneven ("code" :: ["block"]) = true
  i_Uneven : PySem.W.findIn K (.ref A.c_Uneven) "__init__" = some (some (.ref A.f_i_Uneven))
  t_Uneven : PySem.W.typeIn K (.ref A.f_i_Uneven) = some (.type "function")
  F_i_Uneven : Fun K "__init__" "Uneven.__init__" s_i_Uneven A.f_i_Uneven A.d_i_Uneven
  a_i_Uneven : Binds K A.d_i_Uneven P_i_Uneven []
  k_Uneven : kitXB K A.c_Uneven [(.ref A.c_InvalidName, false), (.ref A.c_InvalidRow, false), (.ref A.c_DuplicateName, false), (.ref A.c_InvalidStep, false), (.ref A.c_DuplicateMessage, false), (.ref A.c_Unsent, false), (.ref A.c_Ring, false), (.ref A.c_TooMany, false), (.ref A.c_InvalidPoint, false), (.ref A.c_InvalidMoment, false), (.ref A.c_InvalidClause, false), (.ref A.c_Parted, false), (.ref A.c_UnlikeLogs, false), (.ref A.c_EmptyLot, false), (.ref A.c_InvalidNumber, false), (.ref A.c_InvalidWeights, false), (.ref A.c_Uneven, true), (.ref A.c_InvalidTests, false), (.ref A.c_InvalidText, false), (.ref A.c_InvalidCommand, false), (.ref A.c_Full, false), (.ref A.c_InvalidLimit, false), (.ref A.c_InvalidPage, false), (.ref A.c_UnknownProcess, false), (.ref A.c_UnknownStep, false), (.ref A.c_UnknownName, false), (.ref A.c_NothingLeft, false), (.ref A.c_LogError, true), (.ref A.c_Missing, false), (.type "ValueError", true), (.type "LookupError", false), (.type "IndexError", false)] = true
  X_InvalidTests : OxC K A.c_InvalidTests
  no_InvalidTests : noB K A.c_InvalidTests ("code" :: ["at"]) = true
  i_InvalidTests : PySem.W.findIn K (.ref A.c_InvalidTests) "__init__" = some (some (.ref A.f_i_InvalidTests))
  t_InvalidTests : PySem.W.typeIn K (.ref A.f_i_InvalidTests) = some (.type "function")
  F_i_InvalidTests : Fun K "__init__" "InvalidTests.__init__" s_i_InvalidTests A.f_i_InvalidTests A.d_i_InvalidTests
  a_i_InvalidTests : Binds K A.d_i_InvalidTests P_i_InvalidTests []
  k_InvalidTests : kitXB K A.c_InvalidTests [(.ref A.c_InvalidName, false), (.ref A.c_InvalidRow, false), (.ref A.c_DuplicateName, false), (.ref A.c_InvalidStep, false), (.ref A.c_DuplicateMessage, false), (.ref A.c_Unsent, false), (.ref A.c_Ring, false), (.ref A.c_TooMany, false), (.ref A.c_InvalidPoint, false), (.ref A.c_InvalidMoment, false), (.ref A.c_InvalidClause, false), (.ref A.c_Parted, false), (.ref A.c_UnlikeLogs, false), (.ref A.c_EmptyLot, false), (.ref A.c_InvalidNumber, false), (.ref A.c_InvalidWeights, false), (.ref A.c_Uneven, false), (.ref A.c_InvalidTests, true), (.ref A.c_InvalidText, false), (.ref A.c_InvalidCommand, false), (.ref A.c_Full, false), (.ref A.c_InvalidLimit, false), (.ref A.c_InvalidPage, false), (.ref A.c_UnknownProcess, false), (.ref A.c_UnknownStep, false), (.ref A.c_UnknownName, false), (.ref A.c_NothingLeft, false), (.ref A.c_LogError, true), (.ref A.c_Missing, false), (.type "ValueError", true), (.type "LookupError", false), (.type "IndexError", false)] = true
  X_InvalidText : OxC K A.c_InvalidText
  no_InvalidText : noB K A.c_InvalidText ("code" :: ["at"]) = true
  i_InvalidText : PySem.W.findIn K (.ref A.c_InvalidText) "__init__" = some (some (.ref A.f_i_InvalidText))
  t_InvalidText : PySem.W.typeIn K (.ref A.f_i_InvalidText) = some (.type "function")
  F_i_InvalidText : Fun K "__init__" "InvalidText.__init__" s_i_InvalidText A.f_i_InvalidText A.d_i_InvalidText
  a_i_InvalidText : Binds K A.d_i_InvalidText P_i_InvalidText []
  k_InvalidText : kitXB K A.c_InvalidText [(.ref A.c_InvalidName, false), (.ref A.c_InvalidRow, false), (.ref A.c_DuplicateName, false), (.ref A.c_InvalidStep, false), (.ref A.c_DuplicateMessage, false), (.ref A.c_Unsent, false), (.ref A.c_Ring, false), (.ref A.c_TooMany, false), (.ref A.c_InvalidPoint, false), (.ref A.c_InvalidMoment, false), (.ref A.c_InvalidClause, false), (.ref A.c_Parted, false), (.ref A.c_UnlikeLogs, false), (.ref A.c_EmptyLot, false), (.ref A.c_InvalidNumber, false), (.ref A.c_InvalidWeights, false), (.ref A.c_Uneven, false), (.ref A.c_InvalidTests, false), (.ref A.c_InvalidText, true), (.ref A.c_InvalidCommand, false), (.ref A.c_Full, false), (.ref A.c_InvalidLimit, false), (.ref A.c_InvalidPage, false), (.ref A.c_UnknownProcess, false), (.ref A.c_UnknownStep, false), (.ref A.c_UnknownName, false), (.ref A.c_NothingLeft, false), (.ref A.c_LogError, true), (.ref A.c_Missing, false), (.type "ValueError", true), (.type "LookupError", false), (.type "IndexError", false)] = true
  X_InvalidCommand : OxC K A.c_InvalidCommand
  no_InvalidCommand : noB K A.c_InvalidCommand ("code" :: ["at"]) = true
  i_InvalidCommand : PySem.W.findIn K (.ref A.c_InvalidCommand) "__init__" = some (some (.ref A.f_i_InvalidCommand))
  t_InvalidCommand : PySem.W.typeIn K (.ref A.f_i_InvalidCommand) = some (.type "function")
  F_i_InvalidCommand : Fun K "__init__" "InvalidCommand.__init__" s_i_InvalidCommand A.f_i_InvalidCommand A.d_i_InvalidCommand
  a_i_InvalidCommand : Binds K A.d_i_InvalidCommand P_i_InvalidCommand []
  k_InvalidCommand : kitXB K A.c_InvalidCommand [(.ref A.c_InvalidName, false), (.ref A.c_InvalidRow, false), (.ref A.c_DuplicateName, false), (.ref A.c_InvalidStep, false), (.ref A.c_DuplicateMessage, false), (.ref A.c_Unsent, false), (.ref A.c_Ring, false), (.ref A.c_TooMany, false), (.ref A.c_InvalidPoint, false), (.ref A.c_InvalidMoment, false), (.ref A.c_InvalidClause, false), (.ref A.c_Parted, false), (.ref A.c_UnlikeLogs, false), (.ref A.c_EmptyLot, false), (.ref A.c_InvalidNumber, false), (.ref A.c_InvalidWeights, false), (.ref A.c_Uneven, false), (.ref A.c_InvalidTests, false), (.ref A.c_InvalidText, false), (.ref A.c_InvalidCommand, true), (.ref A.c_Full, false), (.ref A.c_InvalidLimit, false), (.ref A.c_InvalidPage, false), (.ref A.c_UnknownProcess, false), (.ref A.c_UnknownStep, false), (.ref A.c_UnknownName, false), (.ref A.c_NothingLeft, false), (.ref A.c_LogError, true), (.ref A.c_Missing, false), (.type "ValueError", true), (.type "LookupError", false), (.type "IndexError", false)] = true
  X_Full : OxC K A.c_Full
  no_Full : noB K A.c_Full ("code" :: ["limit"]) = true
  i_Full : PySem.W.findIn K (.ref A.c_Full) "__init__" = some (some (.ref A.f_i_Full))
  t_Full : PySem.W.typeIn K (.ref A.f_i_Full) = some (.type "function")
  F_i_Full : Fun K "__init__" "Full.__init__" s_i_Full A.f_i_Full A.d_i_Full
  a_i_Full : Binds K A.d_i_Full P_i_Full []
  k_Full : kitXB K A.c_Full [(.ref A.c_InvalidName, false), (.ref A.c_InvalidRow, false), (.ref A.c_DuplicateName, false), (.ref A.c_InvalidStep, false), (.ref A.c_DuplicateMessage, false), (.ref A.c_Unsent, false), (.ref A.c_Ring, false), (.ref A.c_TooMany, false), (.ref A.c_InvalidPoint, false), (.ref A.c_InvalidMoment, false), (.ref A.c_InvalidClause, false), (.ref A.c_Parted, false), (.ref A.c_UnlikeLogs, false), (.ref A.c_EmptyLot, false), (.ref A.c_InvalidNumber, false), (.ref A.c_InvalidWeights, false), (.ref A.c_Uneven, false), (.ref A.c_InvalidTests, false), (.ref A.c_InvalidText, false), (.ref A.c_InvalidCommand, false), (.ref A.c_Full, true), (.ref A.c_InvalidLimit, false), (.ref A.c_InvalidPage, false), (.ref A.c_UnknownProcess, false), (.ref A.c_UnknownStep, false), (.ref A.c_UnknownName, false), (.ref A.c_NothingLeft, false), (.ref A.c_LogError, true), (.ref A.c_Missing, false), (.type "ValueError", true), (.type "LookupError", false), (.type "IndexError", false)] = true
  X_InvalidLimit : OxC K A.c_InvalidLimit
  no_InvalidLimit : noB K A.c_InvalidLimit ("code" :: ["value"]) = true
  i_InvalidLimit : PySem.W.findIn K (.ref A.c_InvalidLimit) "__init__" = some (some (.ref A.f_i_InvalidLimit))
  t_InvalidLimit : PySem.W.typeIn K (.ref A.f_i_InvalidLimit) = some (.type "function")
  F_i_InvalidLimit : Fun K "__init__" "InvalidLimit.__init__" s_i_InvalidLimit A.f_i_InvalidLimit A.d_i_InvalidLimit
  a_i_InvalidLimit : Binds K A.d_i_InvalidLimit P_i_InvalidLimit []
  k_InvalidLimit : kitXB K A.c_InvalidLimit [(.ref A.c_InvalidName, false), (.ref A.c_InvalidRow, false), (.ref A.c_DuplicateName, false), (.ref A.c_InvalidStep, false), (.ref A.c_DuplicateMessage, false), (.ref A.c_Unsent, false), (.ref A.c_Ring, false), (.ref A.c_TooMany, false), (.ref A.c_InvalidPoint, false), (.ref A.c_InvalidMoment, false), (.ref A.c_InvalidClause, false), (.ref A.c_Parted, false), (.ref A.c_UnlikeLogs, false), (.ref A.c_EmptyLot, false), (.ref A.c_InvalidNumber, false), (.ref A.c_InvalidWeights, false), (.ref A.c_Uneven, false), (.ref A.c_InvalidTests, false), (.ref A.c_InvalidText, false), (.ref A.c_InvalidCommand, false), (.ref A.c_Full, false), (.ref A.c_InvalidLimit, true), (.ref A.c_InvalidPage, false), (.ref A.c_UnknownProcess, false), (.ref A.c_UnknownStep, false), (.ref A.c_UnknownName, false), (.ref A.c_NothingLeft, false), (.ref A.c_LogError, true), (.ref A.c_Missing, false), (.type "ValueError", true), (.type "LookupError", false), (.type "IndexError", false)] = true
  X_InvalidPage : OxC K A.c_InvalidPage
  no_InvalidPage : noB K A.c_InvalidPage ("code" :: ["line"]) = true
  i_InvalidPage : PySem.W.findIn K (.ref A.c_InvalidPage) "__init__" = some (some (.ref A.f_i_InvalidPage))
  t_InvalidPage : PySem.W.typeIn K (.ref A.f_i_InvalidPage) = some (.type "function")
  F_i_InvalidPage : Fun K "__init__" "InvalidPage.__init__" s_i_InvalidPage A.f_i_InvalidPage A.d_i_InvalidPage
  a_i_InvalidPage : Binds K A.d_i_InvalidPage P_i_InvalidPage []
  k_InvalidPage : kitXB K A.c_InvalidPage [(.ref A.c_InvalidName, false), (.ref A.c_InvalidRow, false), (.ref A.c_DuplicateName, false), (.ref A.c_InvalidStep, false), (.ref A.c_DuplicateMessage, false), (.ref A.c_Unsent, false), (.ref A.c_Ring, false), (.ref A.c_TooMany, false), (.ref A.c_InvalidPoint, false), (.ref A.c_InvalidMoment, false), (.ref A.c_InvalidClause, false), (.ref A.c_Parted, false), (.ref A.c_UnlikeLogs, false), (.ref A.c_EmptyLot, false), (.ref A.c_InvalidNumber, false), (.ref A.c_InvalidWeights, false), (.ref A.c_Uneven, false), (.ref A.c_InvalidTests, false), (.ref A.c_InvalidText, false), (.ref A.c_InvalidCommand, false), (.ref A.c_Full, false), (.ref A.c_InvalidLimit, false), (.ref A.c_InvalidPage, true), (.ref A.c_UnknownProcess, false), (.ref A.c_UnknownStep, false), (.ref A.c_UnknownName, false), (.ref A.c_NothingLeft, false), (.ref A.c_LogError, true), (.ref A.c_Missing, false), (.type "ValueError", true), (.type "LookupError", false), (.type "IndexError", false)] = true
  X_UnknownProcess : OxC K A.c_UnknownProcess
  no_UnknownProcess : noB K A.c_UnknownProcess ("code" :: ["name"]) = true
  i_UnknownProcess : PySem.W.findIn K (.ref A.c_UnknownProcess) "__init__" = some (some (.ref A.f_i_UnknownProcess))
  t_UnknownProcess : PySem.W.typeIn K (.ref A.f_i_UnknownProcess) = some (.type "function")
  F_i_UnknownProcess : Fun K "__init__" "UnknownProcess.__init__" s_i_UnknownProcess A.f_i_UnknownProcess A.d_i_UnknownProcess
  a_i_UnknownProcess : Binds K A.d_i_UnknownProcess P_i_UnknownProcess []
  k_UnknownProcess : kitXB K A.c_UnknownProcess [(.ref A.c_InvalidName, false), (.ref A.c_InvalidRow, false), (.ref A.c_DuplicateName, false), (.ref A.c_InvalidStep, false), (.ref A.c_DuplicateMessage, false), (.ref A.c_Unsent, false), (.ref A.c_Ring, false), (.ref A.c_TooMany, false), (.ref A.c_InvalidPoint, false), (.ref A.c_InvalidMoment, false), (.ref A.c_InvalidClause, false), (.ref A.c_Parted, false), (.ref A.c_UnlikeLogs, false), (.ref A.c_EmptyLot, false), (.ref A.c_InvalidNumber, false), (.ref A.c_InvalidWeights, false), (.ref A.c_Uneven, false), (.ref A.c_InvalidTests, false), (.ref A.c_InvalidText, false), (.ref A.c_InvalidCommand, false), (.ref A.c_Full, false), (.ref A.c_InvalidLimit, false), (.ref A.c_InvalidPage, false), (.ref A.c_UnknownProcess, true), (.ref A.c_UnknownStep, false), (.ref A.c_UnknownName, false), (.ref A.c_NothingLeft, false), (.ref A.c_LogError, false), (.ref A.c_Missing, true), (.type "ValueError", false), (.type "LookupError", true), (.type "IndexError", false)] = true
  X_UnknownStep : OxC K A.c_UnknownStep
  no_UnknownStep : noB K A.c_UnknownStep ("code" :: ["step"]) = true
  i_UnknownStep : PySem.W.findIn K (.ref A.c_UnknownStep) "__init__" = some (some (.ref A.f_i_UnknownStep))
  t_UnknownStep : PySem.W.typeIn K (.ref A.f_i_UnknownStep) = some (.type "function")
  F_i_UnknownStep : Fun K "__init__" "UnknownStep.__init__" s_i_UnknownStep A.f_i_UnknownStep A.d_i_UnknownStep
  a_i_UnknownStep : Binds K A.d_i_UnknownStep P_i_UnknownStep []
  k_UnknownStep : kitXB K A.c_UnknownStep [(.ref A.c_InvalidName, false), (.ref A.c_InvalidRow, false), (.ref A.c_DuplicateName, false), (.ref A.c_InvalidStep, false), (.ref A.c_DuplicateMessage, false), (.ref A.c_Unsent, false), (.ref A.c_Ring, false), (.ref A.c_TooMany, false), (.ref A.c_InvalidPoint, false), (.ref A.c_InvalidMoment, false), (.ref A.c_InvalidClause, false), (.ref A.c_Parted, false), (.ref A.c_UnlikeLogs, false), (.ref A.c_EmptyLot, false), (.ref A.c_InvalidNumber, false), (.ref A.c_InvalidWeights, false), (.ref A.c_Uneven, false), (.ref A.c_InvalidTests, false), (.ref A.c_InvalidText, false), (.ref A.c_InvalidCommand, false), (.ref A.c_Full, false), (.ref A.c_InvalidLimit, false), (.ref A.c_InvalidPage, false), (.ref A.c_UnknownProcess, false), (.ref A.c_UnknownStep, true), (.ref A.c_UnknownName, false), (.ref A.c_NothingLeft, false), (.ref A.c_LogError, false), (.ref A.c_Missing, true), (.type "ValueError", false), (.type "LookupError", true), (.type "IndexError", false)] = true
  X_UnknownName : OxC K A.c_UnknownName
  no_UnknownName : noB K A.c_UnknownName ("code" :: ["name"]) = true
  i_UnknownName : PySem.W.findIn K (.ref A.c_UnknownName) "__init__" = some (some (.ref A.f_i_UnknownName))
  t_UnknownName : PySem.W.typeIn K (.ref A.f_i_UnknownName) = some (.type "function")
  F_i_UnknownName : Fun K "__init__" "UnknownName.__init__" s_i_UnknownName A.f_i_UnknownName A.d_i_UnknownName
  a_i_UnknownName : Binds K A.d_i_UnknownName P_i_UnknownName []
  k_UnknownName : kitXB K A.c_UnknownName [(.ref A.c_InvalidName, false), (.ref A.c_InvalidRow, false), (.ref A.c_DuplicateName, false), (.ref A.c_InvalidStep, false), (.ref A.c_DuplicateMessage, false), (.ref A.c_Unsent, false), (.ref A.c_Ring, false), (.ref A.c_TooMany, false), (.ref A.c_InvalidPoint, false), (.ref A.c_InvalidMoment, false), (.ref A.c_InvalidClause, false), (.ref A.c_Parted, false), (.ref A.c_UnlikeLogs, false), (.ref A.c_EmptyLot, false), (.ref A.c_InvalidNumber, false), (.ref A.c_InvalidWeights, false), (.ref A.c_Uneven, false), (.ref A.c_InvalidTests, false), (.ref A.c_InvalidText, false), (.ref A.c_InvalidCommand, false), (.ref A.c_Full, false), (.ref A.c_InvalidLimit, false), (.ref A.c_InvalidPage, false), (.ref A.c_UnknownProcess, false), (.ref A.c_UnknownStep, false), (.ref A.c_UnknownName, true), (.ref A.c_NothingLeft, false), (.ref A.c_LogError, false), (.ref A.c_Missing, true), (.type "ValueError", false), (.type "LookupError", true), (.type "IndexError", false)] = true
  X_NothingLeft : OxC K A.c_NothingLeft
  no_NothingLeft : noB K A.c_NothingLeft ("code" :: []) = true
  i_NothingLeft : PySem.W.findIn K (.ref A.c_NothingLeft) "__init__" = some (some (.ref A.f_i_NothingLeft))
  t_NothingLeft : PySem.W.typeIn K (.ref A.f_i_NothingLeft) = some (.type "function")
  F_i_NothingLeft : Fun K "__init__" "NothingLeft.__init__" s_i_NothingLeft A.f_i_NothingLeft A.d_i_NothingLeft
  a_i_NothingLeft : Binds K A.d_i_NothingLeft P_i_NothingLeft []
  k_NothingLeft : kitXB K A.c_NothingLeft [(.ref A.c_InvalidName, false), (.ref A.c_InvalidRow, false), (.ref A.c_DuplicateName, false), (.ref A.c_InvalidStep, false), (.ref A.c_DuplicateMessage, false), (.ref A.c_Unsent, false), (.ref A.c_Ring, false), (.ref A.c_TooMany, false), (.ref A.c_InvalidPoint, false), (.ref A.c_InvalidMoment, false), (.ref A.c_InvalidClause, false), (.ref A.c_Parted, false), (.ref A.c_UnlikeLogs, false), (.ref A.c_EmptyLot, false), (.ref A.c_InvalidNumber, false), (.ref A.c_InvalidWeights, false), (.ref A.c_Uneven, false), (.ref A.c_InvalidTests, false), (.ref A.c_InvalidText, false), (.ref A.c_InvalidCommand, false), (.ref A.c_Full, false), (.ref A.c_InvalidLimit, false), (.ref A.c_InvalidPage, false), (.ref A.c_UnknownProcess, false), (.ref A.c_UnknownStep, false), (.ref A.c_UnknownName, false), (.ref A.c_NothingLeft, true), (.ref A.c_LogError, false), (.ref A.c_Missing, false), (.type "ValueError", false), (.type "LookupError", true), (.type "IndexError", true)] = true
  F_Lbag : Fun K "_law_bag" "_law_bag" s_Lbag A.f_Lbag A.d_Lbag
  g_Lbag : mg "_law_bag" = some (.ref A.f_Lbag)
  a_Lbag : Binds K A.d_Lbag P_Lbag []
  F_Ldraw : Fun K "_law_draw" "_law_draw" s_Ldraw A.f_Ldraw A.d_Ldraw
  g_Ldraw : mg "_law_draw" = some (.ref A.f_Ldraw)
  a_Ldraw : Binds K A.d_Ldraw P_Ldraw []
  F_Lof : Fun K "_law_of" "_law_of" s_Lof A.f_Lof A.d_Lof
  g_Lof : mg "_law_of" = some (.ref A.f_Lof)
  a_Lof : Binds K A.d_Lof P_Lof []
  F_Lsame : Fun K "_law_same" "_law_same" s_Lsame A.f_Lsame A.d_Lsame
  g_Lsame : mg "_law_same" = some (.ref A.f_Lsame)
  a_Lsame : Binds K A.d_Lsame P_Lsame []
  F_Lfield : Fun K "_law_field" "_law_field" s_Lfield A.f_Lfield A.d_Lfield
  g_Lfield : mg "_law_field" = some (.ref A.f_Lfield)
  a_Lfield : Binds K A.d_Lfield P_Lfield []
  F_Lother_field : Fun K "_law_other_field" "_law_other_field" s_Lother_field A.f_Lother_field A.d_Lother_field
  g_Lother_field : mg "_law_other_field" = some (.ref A.f_Lother_field)
  a_Lother_field : Binds K A.d_Lother_field P_Lother_field []
  F_Lodd : Fun K "_law_odd" "_law_odd" s_Lodd A.f_Lodd A.d_Lodd
  g_Lodd : mg "_law_odd" = some (.ref A.f_Lodd)
  a_Lodd : Binds K A.d_Lodd P_Lodd []
  F_Lmade_errors : Fun K "_law_made_errors" "_law_made_errors" s_Lmade_errors A.f_Lmade_errors A.d_Lmade_errors
  g_Lmade_errors : mg "_law_made_errors" = some (.ref A.f_Lmade_errors)
  a_Lmade_errors : Binds K A.d_Lmade_errors P_Lmade_errors []
  F_Lnamed_errors : Fun K "_law_named_errors" "_law_named_errors" s_Lnamed_errors A.f_Lnamed_errors A.d_Lnamed_errors
  g_Lnamed_errors : mg "_law_named_errors" = some (.ref A.f_Lnamed_errors)
  a_Lnamed_errors : Binds K A.d_Lnamed_errors P_Lnamed_errors []
  F_Lkinds_of : Fun K "_law_kinds_of" "_law_kinds_of" s_Lkinds_of A.f_Lkinds_of A.d_Lkinds_of
  g_Lkinds_of : mg "_law_kinds_of" = some (.ref A.f_Lkinds_of)
  a_Lkinds_of : Binds K A.d_Lkinds_of P_Lkinds_of []
  F_Lcodes : Fun K "_law_codes" "_law_codes" s_Lcodes A.f_Lcodes A.d_Lcodes
  g_Lcodes : mg "_law_codes" = some (.ref A.f_Lcodes)
  a_Lcodes : Binds K A.d_Lcodes P_Lcodes []
  F_law : Fun K "law" "law" s_law A.f_law A.d_law
  g_law : mg "law" = some (.ref A.f_law)
  a_law : Binds K A.d_law P_law []
  b_IndexError : mg "IndexError" = none
  b_LookupError : mg "LookupError" = none
  b_ValueError : mg "ValueError" = none
  b_all : mg "all" = none
  b_bool : mg "bool" = none
  b_enumerate : mg "enumerate" = none
  b_int : mg "int" = none
  b_isinstance : mg "isinstance" = none
  b_len : mg "len" = none
  b_list : mg "list" = none
  b_range : mg "range" = none
  b_str : mg "str" = none
  b_tuple : mg "tuple" = none
  b_zip : mg "zip" = none
  kb_i_UnknownName_0_name : KBn K A.d_i_UnknownName P_i_UnknownName 1 ["name"] (fun us ws => (us.drop 0).take 1 ++ (ws.drop 0).take 1) (fun us ws => (us.drop 0).take 1 ++ (ws.drop 0).take 1)
  kb_i_UnknownStep_0_step : KBn K A.d_i_UnknownStep P_i_UnknownStep 1 ["step"] (fun us ws => (us.drop 0).take 1 ++ (ws.drop 0).take 1) (fun us ws => (us.drop 0).take 1 ++ (ws.drop 0).take 1)
  kb_i_UnknownProcess_0_name : KBn K A.d_i_UnknownProcess P_i_UnknownProcess 1 ["name"] (fun us ws => (us.drop 0).take 1 ++ (ws.drop 0).take 1) (fun us ws => (us.drop 0).take 1 ++ (ws.drop 0).take 1)
  kb_i_InvalidPage_0_line : KBn K A.d_i_InvalidPage P_i_InvalidPage 1 ["line"] (fun us ws => (us.drop 0).take 1 ++ (ws.drop 0).take 1) (fun us ws => (us.drop 0).take 1 ++ (ws.drop 0).take 1)
  kb_i_InvalidLimit_0_value : KBn K A.d_i_InvalidLimit P_i_InvalidLimit 1 ["value"] (fun us ws => (us.drop 0).take 1 ++ (ws.drop 0).take 1) (fun us ws => (us.drop 0).take 1 ++ (ws.drop 0).take 1)
  kb_i_Full_0_limit : KBn K A.d_i_Full P_i_Full 1 ["limit"] (fun us ws => (us.drop 0).take 1 ++ (ws.drop 0).take 1) (fun us ws => (us.drop 0).take 1 ++ (ws.drop 0).take 1)
  kb_i_InvalidCommand_0_at : KBn K A.d_i_InvalidCommand P_i_InvalidCommand 1 ["at"] (fun us ws => (us.drop 0).take 1 ++ (ws.drop 0).take 1) (fun us ws => (us.drop 0).take 1 ++ (ws.drop 0).take 1)
  kb_i_InvalidText_0_at : KBn K A.d_i_InvalidText P_i_InvalidText 1 ["at"] (fun us ws => (us.drop 0).take 1 ++ (ws.drop 0).take 1) (fun us ws => (us.drop 0).take 1 ++ (ws.drop 0).take 1)
  kb_i_InvalidTests_0_at : KBn K A.d_i_InvalidTests P_i_InvalidTests 1 ["at"] (fun us ws => (us.drop 0).take 1 ++ (ws.drop 0).take 1) (fun us ws => (us.drop 0).take 1 ++ (ws.drop 0).take 1)
  kb_i_Uneven_0_block : KBn K A.d_i_Uneven P_i_Uneven 1 ["block"] (fun us ws => (us.drop 0).take 1 ++ (ws.drop 0).take 1) (fun us ws => (us.drop 0).take 1 ++ (ws.drop 0).take 1)
  kb_i_InvalidNumber_0_value : KBn K A.d_i_InvalidNumber P_i_InvalidNumber 1 ["value"] (fun us ws => (us.drop 0).take 1 ++ (ws.drop 0).take 1) (fun us ws => (us.drop 0).take 1 ++ (ws.drop 0).take 1)
  kb_i_Parted_0_other_one_at : KBn K A.d_i_Parted P_i_Parted 1 ["other", "one", "at"] (fun us ws => (us.drop 0).take 1 ++ (ws.drop 2).take 1 ++ (ws.drop 1).take 1 ++ (ws.drop 0).take 1) (fun us ws => (us.drop 0).take 1 ++ (ws.drop 2).take 1 ++ (ws.drop 1).take 1 ++ (ws.drop 0).take 1)
  kb_i_InvalidClause_0_at : KBn K A.d_i_InvalidClause P_i_InvalidClause 1 ["at"] (fun us ws => (us.drop 0).take 1 ++ (ws.drop 0).take 1) (fun us ws => (us.drop 0).take 1 ++ (ws.drop 0).take 1)
  kb_i_InvalidMoment_0_value : KBn K A.d_i_InvalidMoment P_i_InvalidMoment 1 ["value"] (fun us ws => (us.drop 0).take 1 ++ (ws.drop 0).take 1) (fun us ws => (us.drop 0).take 1 ++ (ws.drop 0).take 1)
  kb_i_InvalidPoint_0_value : KBn K A.d_i_InvalidPoint P_i_InvalidPoint 1 ["value"] (fun us ws => (us.drop 0).take 1 ++ (ws.drop 0).take 1) (fun us ws => (us.drop 0).take 1 ++ (ws.drop 0).take 1)
  kb_i_TooMany_0_most_subject : KBn K A.d_i_TooMany P_i_TooMany 1 ["most", "subject"] (fun us ws => (us.drop 0).take 1 ++ (ws.drop 1).take 1 ++ (ws.drop 0).take 1) (fun us ws => (us.drop 0).take 1 ++ (ws.drop 1).take 1 ++ (ws.drop 0).take 1)
  kb_i_Ring_0_process : KBn K A.d_i_Ring P_i_Ring 1 ["process"] (fun us ws => (us.drop 0).take 1 ++ (ws.drop 0).take 1) (fun us ws => (us.drop 0).take 1 ++ (ws.drop 0).take 1)
  kb_i_Unsent_0_message : KBn K A.d_i_Unsent P_i_Unsent 1 ["message"] (fun us ws => (us.drop 0).take 1 ++ (ws.drop 0).take 1) (fun us ws => (us.drop 0).take 1 ++ (ws.drop 0).take 1)
  kb_i_DuplicateMessage_0_message : KBn K A.d_i_DuplicateMessage P_i_DuplicateMessage 1 ["message"] (fun us ws => (us.drop 0).take 1 ++ (ws.drop 0).take 1) (fun us ws => (us.drop 0).take 1 ++ (ws.drop 0).take 1)
  kb_i_InvalidStep_0_index_process : KBn K A.d_i_InvalidStep P_i_InvalidStep 1 ["index", "process"] (fun us ws => (us.drop 0).take 1 ++ (ws.drop 1).take 1 ++ (ws.drop 0).take 1) (fun us ws => (us.drop 0).take 1 ++ (ws.drop 1).take 1 ++ (ws.drop 0).take 1)
  kb_i_DuplicateName_0_name : KBn K A.d_i_DuplicateName P_i_DuplicateName 1 ["name"] (fun us ws => (us.drop 0).take 1 ++ (ws.drop 0).take 1) (fun us ws => (us.drop 0).take 1 ++ (ws.drop 0).take 1)
  kb_i_InvalidRow_0_at : KBn K A.d_i_InvalidRow P_i_InvalidRow 1 ["at"] (fun us ws => (us.drop 0).take 1 ++ (ws.drop 0).take 1) (fun us ws => (us.drop 0).take 1 ++ (ws.drop 0).take 1)
  kb_i_InvalidName_0_value : KBn K A.d_i_InvalidName P_i_InvalidName 1 ["value"] (fun us ws => (us.drop 0).take 1 ++ (ws.drop 0).take 1) (fun us ws => (us.drop 0).take 1 ++ (ws.drop 0).take 1)
end My

set_option Elab.async false
set_option linter.all false
set_option maxRecDepth 100000
namespace My
open PySem PySem.Spec PyProof.Rows L2
section
variable {P : Program} {w : World} {K : PySem.W.Frag} {mg : Str → Option Value} {base : Heap} {A : Top}
theorem len_0 {ws : List V} (h : ws.length = 0) : ws = [] := List.length_eq_zero_iff.mp h
theorem len_1 {ws : List V} (h : ws.length = 1) : ∃ a, ws = [a] := by
  match ws, h with
  | [a], _ => exact ⟨a, rfl⟩
theorem len_2 {ws : List V} (h : ws.length = 2) : ∃ a b, ws = [a, b] := by
  match ws, h with
  | [a, b], _ => exact ⟨a, b, rfl⟩
theorem len_3 {ws : List V} (h : ws.length = 3) : ∃ a b c, ws = [a, b, c] := by
  match ws, h with
  | [a, b, c], _ => exact ⟨a, b, c, rfl⟩
theorem ok_i_InvalidName (T : TopOk K mg A) : FnOk P w K mg base CX0 1 A.f_i_InvalidName A.d_i_InvalidName P_i_InvalidName (spInit A.c_InvalidName "InvalidName" ["value"]) := by
  refine T.F_i_InvalidName.ok sc_i_InvalidName (fun vs H Q E h => ?_) (fun cdv Ar outer s H vs Q E hr h => ?_)
  · obtain ⟨a, ws, rfl, hl, _⟩ := h
    obtain ⟨w0, rfl⟩ := len_1 hl
    rfl
  · obtain ⟨a, ws, rfl, hl, ha, q⟩ := h
    obtain ⟨w0, rfl⟩ := len_1 hl
    refine ⟨_, (pss_cons (ps_oxt (pv 0) pe_str)
      (pss_one (ps_oxt (pv 0) (pv 1)))), ?_⟩
    refine ⟨_, rfl, _, _, rfl, T.X_InvalidName, noB_at T.no_InvalidName (by decide), .inl ⟨ha, fun dx nd ne => ?_⟩⟩
    refine ⟨_, rfl, _, rfl, _, _, rfl, T.X_InvalidName, noB_at T.no_InvalidName (by decide), .inr ⟨dx, _, by simp only [upd_ne (Ne.symm ne), upd_same], by first | exact upd_same | (rw [upd_ne ne]; exact upd_same), by show 1 ≤ 900; decide, ?_⟩⟩
    exact q _ dx nd ne (by simp only [upd_ne (Ne.symm ne), upd_same]) (by first | exact upd_same | (rw [upd_ne ne]; exact upd_same)) (fun b h1 h2 => by simp only [upd_ne h1, upd_ne h2])
theorem ok_i_InvalidRow (T : TopOk K mg A) : FnOk P w K mg base CX0 1 A.f_i_InvalidRow A.d_i_InvalidRow P_i_InvalidRow (spInit A.c_InvalidRow "InvalidRow" ["at"]) := by
  refine T.F_i_InvalidRow.ok sc_i_InvalidRow (fun vs H Q E h => ?_) (fun cdv Ar outer s H vs Q E hr h => ?_)
  · obtain ⟨a, ws, rfl, hl, _⟩ := h
    obtain ⟨w0, rfl⟩ := len_1 hl
    rfl
  · obtain ⟨a, ws, rfl, hl, ha, q⟩ := h
    obtain ⟨w0, rfl⟩ := len_1 hl
    refine ⟨_, (pss_cons (ps_oxt (pv 0) pe_str)
      (pss_one (ps_oxt (pv 0) (pv 1)))), ?_⟩
    refine ⟨_, rfl, _, _, rfl, T.X_InvalidRow, noB_at T.no_InvalidRow (by decide), .inl ⟨ha, fun dx nd ne => ?_⟩⟩
    refine ⟨_, rfl, _, rfl, _, _, rfl, T.X_InvalidRow, noB_at T.no_InvalidRow (by decide), .inr ⟨dx, _, by simp only [upd_ne (Ne.symm ne), upd_same], by first | exact upd_same | (rw [upd_ne ne]; exact upd_same), by show 1 ≤ 900; decide, ?_⟩⟩
    exact q _ dx nd ne (by simp only [upd_ne (Ne.symm ne), upd_same]) (by first | exact upd_same | (rw [upd_ne ne]; exact upd_same)) (fun b h1 h2 => by simp only [upd_ne h1, upd_ne h2])
theorem ok_i_DuplicateName (T : TopOk K mg A) : FnOk P w K mg base CX0 1 A.f_i_DuplicateName A.d_i_DuplicateName P_i_DuplicateName (spInit A.c_DuplicateName "DuplicateName" ["name"]) := by
  refine T.F_i_DuplicateName.ok sc_i_DuplicateName (fun vs H Q E h => ?_) (fun cdv Ar outer s H vs Q E hr h => ?_)
  · obtain ⟨a, ws, rfl, hl, _⟩ := h
    obtain ⟨w0, rfl⟩ := len_1 hl
    rfl
  · obtain ⟨a, ws, rfl, hl, ha, q⟩ := h
    obtain ⟨w0, rfl⟩ := len_1 hl
    refine ⟨_, (pss_cons (ps_oxt (pv 0) pe_str)
      (pss_one (ps_oxt (pv 0) (pv 1)))), ?_⟩
    refine ⟨_, rfl, _, _, rfl, T.X_DuplicateName, noB_at T.no_DuplicateName (by decide), .inl ⟨ha, fun dx nd ne => ?_⟩⟩
    refine ⟨_, rfl, _, rfl, _, _, rfl, T.X_DuplicateName, noB_at T.no_DuplicateName (by decide), .inr ⟨dx, _, by simp only [upd_ne (Ne.symm ne), upd_same], by first | exact upd_same | (rw [upd_ne ne]; exact upd_same), by show 1 ≤ 900; decide, ?_⟩⟩
    exact q _ dx nd ne (by simp only [upd_ne (Ne.symm ne), upd_same]) (by first | exact upd_same | (rw [upd_ne ne]; exact upd_same)) (fun b h1 h2 => by simp only [upd_ne h1, upd_ne h2])
theorem ok_i_InvalidStep (T : TopOk K mg A) : FnOk P w K mg base CX0 1 A.f_i_InvalidStep A.d_i_InvalidStep P_i_InvalidStep (spInit A.c_InvalidStep "InvalidStep" ["process", "index"]) := by
  refine T.F_i_InvalidStep.ok sc_i_InvalidStep (fun vs H Q E h => ?_) (fun cdv Ar outer s H vs Q E hr h => ?_)
  · obtain ⟨a, ws, rfl, hl, _⟩ := h
    obtain ⟨w0, w1, rfl⟩ := len_2 hl
    rfl
  · obtain ⟨a, ws, rfl, hl, ha, q⟩ := h
    obtain ⟨w0, w1, rfl⟩ := len_2 hl
    refine ⟨_, (pss_cons (ps_oxt (pv 0) pe_str)
      (pss_cons (ps_oxt (pv 0) (pv 1))
      (pss_one (ps_oxt (pv 0) (pv 2))))), ?_⟩
    refine ⟨_, rfl, _, _, rfl, T.X_InvalidStep, noB_at T.no_InvalidStep (by decide), .inl ⟨ha, fun dx nd ne => ?_⟩⟩
    refine ⟨_, rfl, _, rfl, _, _, rfl, T.X_InvalidStep, noB_at T.no_InvalidStep (by decide), .inr ⟨dx, _, by simp only [upd_ne (Ne.symm ne), upd_same], by first | exact upd_same | (rw [upd_ne ne]; exact upd_same), by show 1 ≤ 900; decide, ?_⟩⟩
    refine ⟨_, rfl, _, rfl, _, _, rfl, T.X_InvalidStep, noB_at T.no_InvalidStep (by decide), .inr ⟨dx, _, by simp only [upd_ne (Ne.symm ne), upd_same], by first | exact upd_same | (rw [upd_ne ne]; exact upd_same), by show 2 ≤ 900; decide, ?_⟩⟩
    exact q _ dx nd ne (by simp only [upd_ne (Ne.symm ne), upd_same]) (by first | exact upd_same | (rw [upd_ne ne]; exact upd_same)) (fun b h1 h2 => by simp only [upd_ne h1, upd_ne h2])
theorem ok_i_DuplicateMessage (T : TopOk K mg A) : FnOk P w K mg base CX0 1 A.f_i_DuplicateMessage A.d_i_DuplicateMessage P_i_DuplicateMessage (spInit A.c_DuplicateMessage "DuplicateMessage" ["message"]) := by
  refine T.F_i_DuplicateMessage.ok sc_i_DuplicateMessage (fun vs H Q E h => ?_) (fun cdv Ar outer s H vs Q E hr h => ?_)
  · obtain ⟨a, ws, rfl, hl, _⟩ := h
    obtain ⟨w0, rfl⟩ := len_1 hl
    rfl
  · obtain ⟨a, ws, rfl, hl, ha, q⟩ := h
    obtain ⟨w0, rfl⟩ := len_1 hl
    refine ⟨_, (pss_cons (ps_oxt (pv 0) pe_str)
      (pss_one (ps_oxt (pv 0) (pv 1)))), ?_⟩
    refine ⟨_, rfl, _, _, rfl, T.X_DuplicateMessage, noB_at T.no_DuplicateMessage (by decide), .inl ⟨ha, fun dx nd ne => ?_⟩⟩
    refine ⟨_, rfl, _, rfl, _, _, rfl, T.X_DuplicateMessage, noB_at T.no_DuplicateMessage (by decide), .inr ⟨dx, _, by simp only [upd_ne (Ne.symm ne), upd_same], by first | exact upd_same | (rw [upd_ne ne]; exact upd_same), by show 1 ≤ 900; decide, ?_⟩⟩
    exact q _ dx nd ne (by simp only [upd_ne (Ne.symm ne), upd_same]) (by first | exact upd_same | (rw [upd_ne ne]; exact upd_same)) (fun b h1 h2 => by simp only [upd_ne h1, upd_ne h2])
theorem ok_i_Unsent (T : TopOk K mg A) : FnOk P w K mg base CX0 1 A.f_i_Unsent A.d_i_Unsent P_i_Unsent (spInit A.c_Unsent "Unsent" ["message"]) := by
  refine T.F_i_Unsent.ok sc_i_Unsent (fun vs H Q E h => ?_) (fun cdv Ar outer s H vs Q E hr h => ?_)
  · obtain ⟨a, ws, rfl, hl, _⟩ := h
    obtain ⟨w0, rfl⟩ := len_1 hl
    rfl
  · obtain ⟨a, ws, rfl, hl, ha, q⟩ := h
    obtain ⟨w0, rfl⟩ := len_1 hl
    refine ⟨_, (pss_cons (ps_oxt (pv 0) pe_str)
      (pss_one (ps_oxt (pv 0) (pv 1)))), ?_⟩
    refine ⟨_, rfl, _, _, rfl, T.X_Unsent, noB_at T.no_Unsent (by decide), .inl ⟨ha, fun dx nd ne => ?_⟩⟩
    refine ⟨_, rfl, _, rfl, _, _, rfl, T.X_Unsent, noB_at T.no_Unsent (by decide), .inr ⟨dx, _, by simp only [upd_ne (Ne.symm ne), upd_same], by first | exact upd_same | (rw [upd_ne ne]; exact upd_same), by show 1 ≤ 900; decide, ?_⟩⟩
    exact q _ dx nd ne (by simp only [upd_ne (Ne.symm ne), upd_same]) (by first | exact upd_same | (rw [upd_ne ne]; exact upd_same)) (fun b h1 h2 => by simp only [upd_ne h1, upd_ne h2])
theorem ok_i_Ring (T : TopOk K mg A) : FnOk P w K mg base CX0 1 A.f_i_Ring A.d_i_Ring P_i_Ring (spInit A.c_Ring "Ring" ["process"]) := by
  refine T.F_i_Ring.ok sc_i_Ring (fun vs H Q E h => ?_) (fun cdv Ar outer s H vs Q E hr h => ?_)
  · obtain ⟨a, ws, rfl, hl, _⟩ := h
    obtain ⟨w0, rfl⟩ := len_1 hl
    rfl
  · obtain ⟨a, ws, rfl, hl, ha, q⟩ := h
    obtain ⟨w0, rfl⟩ := len_1 hl
    refine ⟨_, (pss_cons (ps_oxt (pv 0) pe_str)
      (pss_one (ps_oxt (pv 0) (pv 1)))), ?_⟩
    refine ⟨_, rfl, _, _, rfl, T.X_Ring, noB_at T.no_Ring (by decide), .inl ⟨ha, fun dx nd ne => ?_⟩⟩
    refine ⟨_, rfl, _, rfl, _, _, rfl, T.X_Ring, noB_at T.no_Ring (by decide), .inr ⟨dx, _, by simp only [upd_ne (Ne.symm ne), upd_same], by first | exact upd_same | (rw [upd_ne ne]; exact upd_same), by show 1 ≤ 900; decide, ?_⟩⟩
    exact q _ dx nd ne (by simp only [upd_ne (Ne.symm ne), upd_same]) (by first | exact upd_same | (rw [upd_ne ne]; exact upd_same)) (fun b h1 h2 => by simp only [upd_ne h1, upd_ne h2])
theorem ok_i_TooMany (T : TopOk K mg A) : FnOk P w K mg base CX0 1 A.f_i_TooMany A.d_i_TooMany P_i_TooMany (spInit A.c_TooMany "TooMany" ["subject", "most"]) := by
  refine T.F_i_TooMany.ok sc_i_TooMany (fun vs H Q E h => ?_) (fun cdv Ar outer s H vs Q E hr h => ?_)
  · obtain ⟨a, ws, rfl, hl, _⟩ := h
    obtain ⟨w0, w1, rfl⟩ := len_2 hl
    rfl
  · obtain ⟨a, ws, rfl, hl, ha, q⟩ := h
    obtain ⟨w0, w1, rfl⟩ := len_2 hl
    refine ⟨_, (pss_cons (ps_oxt (pv 0) pe_str)
      (pss_cons (ps_oxt (pv 0) (pv 1))
      (pss_one (ps_oxt (pv 0) (pv 2))))), ?_⟩
    refine ⟨_, rfl, _, _, rfl, T.X_TooMany, noB_at T.no_TooMany (by decide), .inl ⟨ha, fun dx nd ne => ?_⟩⟩
    refine ⟨_, rfl, _, rfl, _, _, rfl, T.X_TooMany, noB_at T.no_TooMany (by decide), .inr ⟨dx, _, by simp only [upd_ne (Ne.symm ne), upd_same], by first | exact upd_same | (rw [upd_ne ne]; exact upd_same), by show 1 ≤ 900; decide, ?_⟩⟩
    refine ⟨_, rfl, _, rfl, _, _, rfl, T.X_TooMany, noB_at T.no_TooMany (by decide), .inr ⟨dx, _, by simp only [upd_ne (Ne.symm ne), upd_same], by first | exact upd_same | (rw [upd_ne ne]; exact upd_same), by show 2 ≤ 900; decide, ?_⟩⟩
    exact q _ dx nd ne (by simp only [upd_ne (Ne.symm ne), upd_same]) (by first | exact upd_same | (rw [upd_ne ne]; exact upd_same)) (fun b h1 h2 => by simp only [upd_ne h1, upd_ne h2])
theorem ok_i_InvalidPoint (T : TopOk K mg A) : FnOk P w K mg base CX0 1 A.f_i_InvalidPoint A.d_i_InvalidPoint P_i_InvalidPoint (spInit A.c_InvalidPoint "InvalidPoint" ["value"]) := by
  refine T.F_i_InvalidPoint.ok sc_i_InvalidPoint (fun vs H Q E h => ?_) (fun cdv Ar outer s H vs Q E hr h => ?_)
  · obtain ⟨a, ws, rfl, hl, _⟩ := h
    obtain ⟨w0, rfl⟩ := len_1 hl
    rfl
  · obtain ⟨a, ws, rfl, hl, ha, q⟩ := h
    obtain ⟨w0, rfl⟩ := len_1 hl
    refine ⟨_, (pss_cons (ps_oxt (pv 0) pe_str)
      (pss_one (ps_oxt (pv 0) (pv 1)))), ?_⟩
    refine ⟨_, rfl, _, _, rfl, T.X_InvalidPoint, noB_at T.no_InvalidPoint (by decide), .inl ⟨ha, fun dx nd ne => ?_⟩⟩
    refine ⟨_, rfl, _, rfl, _, _, rfl, T.X_InvalidPoint, noB_at T.no_InvalidPoint (by decide), .inr ⟨dx, _, by simp only [upd_ne (Ne.symm ne), upd_same], by first | exact upd_same | (rw [upd_ne ne]; exact upd_same), by show 1 ≤ 900; decide, ?_⟩⟩
    exact q _ dx nd ne (by simp only [upd_ne (Ne.symm ne), upd_same]) (by first | exact upd_same | (rw [upd_ne ne]; exact upd_same)) (fun b h1 h2 => by simp only [upd_ne h1, upd_ne h2])
theorem ok_i_InvalidMoment (T : TopOk K mg A) : FnOk P w K mg base CX0 1 A.f_i_InvalidMoment A.d_i_InvalidMoment P_i_InvalidMoment (spInit A.c_InvalidMoment "InvalidMoment" ["value"]) := by
  refine T.F_i_InvalidMoment.ok sc_i_InvalidMoment (fun vs H Q E h => ?_) (fun cdv Ar outer s H vs Q E hr h => ?_)
  · obtain ⟨a, ws, rfl, hl, _⟩ := h
    obtain ⟨w0, rfl⟩ := len_1 hl
    rfl
  · obtain ⟨a, ws, rfl, hl, ha, q⟩ := h
    obtain ⟨w0, rfl⟩ := len_1 hl
    refine ⟨_, (pss_cons (ps_oxt (pv 0) pe_str)
      (pss_one (ps_oxt (pv 0) (pv 1)))), ?_⟩
    refine ⟨_, rfl, _, _, rfl, T.X_InvalidMoment, noB_at T.no_InvalidMoment (by decide), .inl ⟨ha, fun dx nd ne => ?_⟩⟩
    refine ⟨_, rfl, _, rfl, _, _, rfl, T.X_InvalidMoment, noB_at T.no_InvalidMoment (by decide), .inr ⟨dx, _, by simp only [upd_ne (Ne.symm ne), upd_same], by first | exact upd_same | (rw [upd_ne ne]; exact upd_same), by show 1 ≤ 900; decide, ?_⟩⟩
    exact q _ dx nd ne (by simp only [upd_ne (Ne.symm ne), upd_same]) (by first | exact upd_same | (rw [upd_ne ne]; exact upd_same)) (fun b h1 h2 => by simp only [upd_ne h1, upd_ne h2])
theorem ok_i_InvalidClause (T : TopOk K mg A) : FnOk P w K mg base CX0 1 A.f_i_InvalidClause A.d_i_InvalidClause P_i_InvalidClause (spInit A.c_InvalidClause "InvalidClause" ["at"]) := by
  refine T.F_i_InvalidClause.ok sc_i_InvalidClause (fun vs H Q E h => ?_) (fun cdv Ar outer s H vs Q E hr h => ?_)
  · obtain ⟨a, ws, rfl, hl, _⟩ := h
    obtain ⟨w0, rfl⟩ := len_1 hl
    rfl
  · obtain ⟨a, ws, rfl, hl, ha, q⟩ := h
    obtain ⟨w0, rfl⟩ := len_1 hl
    refine ⟨_, (pss_cons (ps_oxt (pv 0) pe_str)
      (pss_one (ps_oxt (pv 0) (pv 1)))), ?_⟩
    refine ⟨_, rfl, _, _, rfl, T.X_InvalidClause, noB_at T.no_InvalidClause (by decide), .inl ⟨ha, fun dx nd ne => ?_⟩⟩
    refine ⟨_, rfl, _, rfl, _, _, rfl, T.X_InvalidClause, noB_at T.no_InvalidClause (by decide), .inr ⟨dx, _, by simp only [upd_ne (Ne.symm ne), upd_same], by first | exact upd_same | (rw [upd_ne ne]; exact upd_same), by show 1 ≤ 900; decide, ?_⟩⟩
    exact q _ dx nd ne (by simp only [upd_ne (Ne.symm ne), upd_same]) (by first | exact upd_same | (rw [upd_ne ne]; exact upd_same)) (fun b h1 h2 => by simp only [upd_ne h1, upd_ne h2])
theorem ok_i_Parted (T : TopOk K mg A) : FnOk P w K mg base CX0 1 A.f_i_Parted A.d_i_Parted P_i_Parted (spInit A.c_Parted "Parted" ["at", "one", "other"]) := by
  refine T.F_i_Parted.ok sc_i_Parted (fun vs H Q E h => ?_) (fun cdv Ar outer s H vs Q E hr h => ?_)
  · obtain ⟨a, ws, rfl, hl, _⟩ := h
    obtain ⟨w0, w1, w2, rfl⟩ := len_3 hl
    rfl
  · obtain ⟨a, ws, rfl, hl, ha, q⟩ := h
    obtain ⟨w0, w1, w2, rfl⟩ := len_3 hl
    refine ⟨_, (pss_cons (ps_oxt (pv 0) pe_str)
      (pss_cons (ps_oxt (pv 0) (pv 1))
      (pss_cons (ps_oxt (pv 0) (pv 2))
      (pss_one (ps_oxt (pv 0) (pv 3)))))), ?_⟩
    refine ⟨_, rfl, _, _, rfl, T.X_Parted, noB_at T.no_Parted (by decide), .inl ⟨ha, fun dx nd ne => ?_⟩⟩
    refine ⟨_, rfl, _, rfl, _, _, rfl, T.X_Parted, noB_at T.no_Parted (by decide), .inr ⟨dx, _, by simp only [upd_ne (Ne.symm ne), upd_same], by first | exact upd_same | (rw [upd_ne ne]; exact upd_same), by show 1 ≤ 900; decide, ?_⟩⟩
    refine ⟨_, rfl, _, rfl, _, _, rfl, T.X_Parted, noB_at T.no_Parted (by decide), .inr ⟨dx, _, by simp only [upd_ne (Ne.symm ne), upd_same], by first | exact upd_same | (rw [upd_ne ne]; exact upd_same), by show 2 ≤ 900; decide, ?_⟩⟩
    refine ⟨_, rfl, _, rfl, _, _, rfl, T.X_Parted, noB_at T.no_Parted (by decide), .inr ⟨dx, _, by simp only [upd_ne (Ne.symm ne), upd_same], by first | exact upd_same | (rw [upd_ne ne]; exact upd_same), by show 3 ≤ 900; decide, ?_⟩⟩
    exact q _ dx nd ne (by simp only [upd_ne (Ne.symm ne), upd_same]) (by first | exact upd_same | (rw [upd_ne ne]; exact upd_same)) (fun b h1 h2 => by simp only [upd_ne h1, upd_ne h2])
theorem ok_i_UnlikeLogs (T : TopOk K mg A) : FnOk P w K mg base CX0 1 A.f_i_UnlikeLogs A.d_i_UnlikeLogs P_i_UnlikeLogs (spInit A.c_UnlikeLogs "UnlikeLogs" []) := by
  refine T.F_i_UnlikeLogs.ok sc_i_UnlikeLogs (fun vs H Q E h => ?_) (fun cdv Ar outer s H vs Q E hr h => ?_)
  · obtain ⟨a, ws, rfl, hl, _⟩ := h
    obtain rfl := len_0 hl
    rfl
  · obtain ⟨a, ws, rfl, hl, ha, q⟩ := h
    obtain rfl := len_0 hl
    refine ⟨_, (pss_one (ps_oxt (pv 0) pe_str)), ?_⟩
    refine ⟨_, rfl, _, _, rfl, T.X_UnlikeLogs, noB_at T.no_UnlikeLogs (by decide), .inl ⟨ha, fun dx nd ne => ?_⟩⟩
    exact q _ dx nd ne (by simp only [upd_ne (Ne.symm ne), upd_same]) (by first | exact upd_same | (rw [upd_ne ne]; exact upd_same)) (fun b h1 h2 => by simp only [upd_ne h1, upd_ne h2])
theorem ok_i_EmptyLot (T : TopOk K mg A) : FnOk P w K mg base CX0 1 A.f_i_EmptyLot A.d_i_EmptyLot P_i_EmptyLot (spInit A.c_EmptyLot "EmptyLot" []) := by
  refine T.F_i_EmptyLot.ok sc_i_EmptyLot (fun vs H Q E h => ?_) (fun cdv Ar outer s H vs Q E hr h => ?_)
  · obtain ⟨a, ws, rfl, hl, _⟩ := h
    obtain rfl := len_0 hl
    rfl
  · obtain ⟨a, ws, rfl, hl, ha, q⟩ := h
    obtain rfl := len_0 hl
    refine ⟨_, (pss_one (ps_oxt (pv 0) pe_str)), ?_⟩
    refine ⟨_, rfl, _, _, rfl, T.X_EmptyLot, noB_at T.no_EmptyLot (by decide), .inl ⟨ha, fun dx nd ne => ?_⟩⟩
    exact q _ dx nd ne (by simp only [upd_ne (Ne.symm ne), upd_same]) (by first | exact upd_same | (rw [upd_ne ne]; exact upd_same)) (fun b h1 h2 => by simp only [upd_ne h1, upd_ne h2])
theorem ok_i_InvalidNumber (T : TopOk K mg A) : FnOk P w K mg base CX0 1 A.f_i_InvalidNumber A.d_i_InvalidNumber P_i_InvalidNumber (spInit A.c_InvalidNumber "InvalidNumber" ["value"]) := by
  refine T.F_i_InvalidNumber.ok sc_i_InvalidNumber (fun vs H Q E h => ?_) (fun cdv Ar outer s H vs Q E hr h => ?_)
  · obtain ⟨a, ws, rfl, hl, _⟩ := h
    obtain ⟨w0, rfl⟩ := len_1 hl
    rfl
  · obtain ⟨a, ws, rfl, hl, ha, q⟩ := h
    obtain ⟨w0, rfl⟩ := len_1 hl
    refine ⟨_, (pss_cons (ps_oxt (pv 0) pe_str)
      (pss_one (ps_oxt (pv 0) (pv 1)))), ?_⟩
    refine ⟨_, rfl, _, _, rfl, T.X_InvalidNumber, noB_at T.no_InvalidNumber (by decide), .inl ⟨ha, fun dx nd ne => ?_⟩⟩
    refine ⟨_, rfl, _, rfl, _, _, rfl, T.X_InvalidNumber, noB_at T.no_InvalidNumber (by decide), .inr ⟨dx, _, by simp only [upd_ne (Ne.symm ne), upd_same], by first | exact upd_same | (rw [upd_ne ne]; exact upd_same), by show 1 ≤ 900; decide, ?_⟩⟩
    exact q _ dx nd ne (by simp only [upd_ne (Ne.symm ne), upd_same]) (by first | exact upd_same | (rw [upd_ne ne]; exact upd_same)) (fun b h1 h2 => by simp only [upd_ne h1, upd_ne h2])
theorem ok_i_InvalidWeights (T : TopOk K mg A) : FnOk P w K mg base CX0 1 A.f_i_InvalidWeights A.d_i_InvalidWeights P_i_InvalidWeights (spInit A.c_InvalidWeights "InvalidWeights" []) := by
  refine T.F_i_InvalidWeights.ok sc_i_InvalidWeights (fun vs H Q E h => ?_) (fun cdv Ar outer s H vs Q E hr h => ?_)
  · obtain ⟨a, ws, rfl, hl, _⟩ := h
    obtain rfl := len_0 hl
    rfl
  · obtain ⟨a, ws, rfl, hl, ha, q⟩ := h
    obtain rfl := len_0 hl
    refine ⟨_, (pss_one (ps_oxt (pv 0) pe_str)), ?_⟩
    refine ⟨_, rfl, _, _, rfl, T.X_InvalidWeights, noB_at T.no_InvalidWeights (by decide), .inl ⟨ha, fun dx nd ne => ?_⟩⟩
    exact q _ dx nd ne (by simp only [upd_ne (Ne.symm ne), upd_same]) (by first | exact upd_same | (rw [upd_ne ne]; exact upd_same)) (fun b h1 h2 => by simp only [upd_ne h1, upd_ne h2])
theorem ok_i_Uneven (T : TopOk K mg A) : FnOk P w K mg base CX0 1 A.f_i_Uneven A.d_i_Uneven P_i_Uneven (spInit A.c_Uneven "Uneven" ["block"]) := by
  refine T.F_i_Uneven.ok sc_i_Uneven (fun vs H Q E h => ?_) (fun cdv Ar outer s H vs Q E hr h => ?_)
  · obtain ⟨a, ws, rfl, hl, _⟩ := h
    obtain ⟨w0, rfl⟩ := len_1 hl
    rfl
  · obtain ⟨a, ws, rfl, hl, ha, q⟩ := h
    obtain ⟨w0, rfl⟩ := len_1 hl
    refine ⟨_, (pss_cons (ps_oxt (pv 0) pe_str)
      (pss_one (ps_oxt (pv 0) (pv 1)))), ?_⟩
    refine ⟨_, rfl, _, _, rfl, T.X_Uneven, noB_at T.no_Uneven (by decide), .inl ⟨ha, fun dx nd ne => ?_⟩⟩
    refine ⟨_, rfl, _, rfl, _, _, rfl, T.X_Uneven, noB_at T.no_Uneven (by decide), .inr ⟨dx, _, by simp only [upd_ne (Ne.symm ne), upd_same], by first | exact upd_same | (rw [upd_ne ne]; exact upd_same), by show 1 ≤ 900; decide, ?_⟩⟩
    exact q _ dx nd ne (by simp only [upd_ne (Ne.symm ne), upd_same]) (by first | exact upd_same | (rw [upd_ne ne]; exact upd_same)) (fun b h1 h2 => by simp only [upd_ne h1, upd_ne h2])
theorem ok_i_InvalidTests (T : TopOk K mg A) : FnOk P w K mg base CX0 1 A.f_i_InvalidTests A.d_i_InvalidTests P_i_InvalidTests (spInit A.c_InvalidTests "InvalidTests" ["at"]) := by
  refine T.F_i_InvalidTests.ok sc_i_InvalidTests (fun vs H Q E h => ?_) (fun cdv Ar outer s H vs Q E hr h => ?_)
  · obtain ⟨a, ws, rfl, hl, _⟩ := h
    obtain ⟨w0, rfl⟩ := len_1 hl
    rfl
  · obtain ⟨a, ws, rfl, hl, ha, q⟩ := h
    obtain ⟨w0, rfl⟩ := len_1 hl
    refine ⟨_, (pss_cons (ps_oxt (pv 0) pe_str)
      (pss_one (ps_oxt (pv 0) (pv 1)))), ?_⟩
    refine ⟨_, rfl, _, _, rfl, T.X_InvalidTests, noB_at T.no_InvalidTests (by decide), .inl ⟨ha, fun dx nd ne => ?_⟩⟩
    refine ⟨_, rfl, _, rfl, _, _, rfl, T.X_InvalidTests, noB_at T.no_InvalidTests (by decide), .inr ⟨dx, _, by simp only [upd_ne (Ne.symm ne), upd_same], by first | exact upd_same | (rw [upd_ne ne]; exact upd_same), by show 1 ≤ 900; decide, ?_⟩⟩
    exact q _ dx nd ne (by simp only [upd_ne (Ne.symm ne), upd_same]) (by first | exact upd_same | (rw [upd_ne ne]; exact upd_same)) (fun b h1 h2 => by simp only [upd_ne h1, upd_ne h2])
theorem ok_i_InvalidText (T : TopOk K mg A) : FnOk P w K mg base CX0 1 A.f_i_InvalidText A.d_i_InvalidText P_i_InvalidText (spInit A.c_InvalidText "InvalidText" ["at"]) := by
  refine T.F_i_InvalidText.ok sc_i_InvalidText (fun vs H Q E h => ?_) (fun cdv Ar outer s H vs Q E hr h => ?_)
  · obtain ⟨a, ws, rfl, hl, _⟩ := h
    obtain ⟨w0, rfl⟩ := len_1 hl
    rfl
  · obtain ⟨a, ws, rfl, hl, ha, q⟩ := h
    obtain ⟨w0, rfl⟩ := len_1 hl
    refine ⟨_, (pss_cons (ps_oxt (pv 0) pe_str)
      (pss_one (ps_oxt (pv 0) (pv 1)))), ?_⟩
    refine ⟨_, rfl, _, _, rfl, T.X_InvalidText, noB_at T.no_InvalidText (by decide), .inl ⟨ha, fun dx nd ne => ?_⟩⟩
    refine ⟨_, rfl, _, rfl, _, _, rfl, T.X_InvalidText, noB_at T.no_InvalidText (by decide), .inr ⟨dx, _, by simp only [upd_ne (Ne.symm ne), upd_same], by first | exact upd_same | (rw [upd_ne ne]; exact upd_same), by show 1 ≤ 900; decide, ?_⟩⟩
    exact q _ dx nd ne (by simp only [upd_ne (Ne.symm ne), upd_same]) (by first | exact upd_same | (rw [upd_ne ne]; exact upd_same)) (fun b h1 h2 => by simp only [upd_ne h1, upd_ne h2])
theorem ok_i_InvalidCommand (T : TopOk K mg A) : FnOk P w K mg base CX0 1 A.f_i_InvalidCommand A.d_i_InvalidCommand P_i_InvalidCommand (spInit A.c_InvalidCommand "InvalidCommand" ["at"]) := by
  refine T.F_i_InvalidCommand.ok sc_i_InvalidCommand (fun vs H Q E h => ?_) (fun cdv Ar outer s H vs Q E hr h => ?_)
  · obtain ⟨a, ws, rfl, hl, _⟩ := h
    obtain ⟨w0, rfl⟩ := len_1 hl
    rfl
  · obtain ⟨a, ws, rfl, hl, ha, q⟩ := h
    obtain ⟨w0, rfl⟩ := len_1 hl
    refine ⟨_, (pss_cons (ps_oxt (pv 0) pe_str)
      (pss_one (ps_oxt (pv 0) (pv 1)))), ?_⟩
    refine ⟨_, rfl, _, _, rfl, T.X_InvalidCommand, noB_at T.no_InvalidCommand (by decide), .inl ⟨ha, fun dx nd ne => ?_⟩⟩
    refine ⟨_, rfl, _, rfl, _, _, rfl, T.X_InvalidCommand, noB_at T.no_InvalidCommand (by decide), .inr ⟨dx, _, by simp only [upd_ne (Ne.symm ne), upd_same], by first | exact upd_same | (rw [upd_ne ne]; exact upd_same), by show 1 ≤ 900; decide, ?_⟩⟩
    exact q _ dx nd ne (by simp only [upd_ne (Ne.symm ne), upd_same]) (by first | exact upd_same | (rw [upd_ne ne]; exact upd_same)) (fun b h1 h2 => by simp only [upd_ne h1, upd_ne h2])
theorem ok_i_Full (T : TopOk K mg A) : FnOk P w K mg base CX0 1 A.f_i_Full A.d_i_Full P_i_Full (spInit A.c_Full "Full" ["limit"]) := by
  refine T.F_i_Full.ok sc_i_Full (fun vs H Q E h => ?_) (fun cdv Ar outer s H vs Q E hr h => ?_)
  · obtain ⟨a, ws, rfl, hl, _⟩ := h
    obtain ⟨w0, rfl⟩ := len_1 hl
    rfl
  · obtain ⟨a, ws, rfl, hl, ha, q⟩ := h
    obtain ⟨w0, rfl⟩ := len_1 hl
    refine ⟨_, (pss_cons (ps_oxt (pv 0) pe_str)
      (pss_one (ps_oxt (pv 0) (pv 1)))), ?_⟩
    refine ⟨_, rfl, _, _, rfl, T.X_Full, noB_at T.no_Full (by decide), .inl ⟨ha, fun dx nd ne => ?_⟩⟩
    refine ⟨_, rfl, _, rfl, _, _, rfl, T.X_Full, noB_at T.no_Full (by decide), .inr ⟨dx, _, by simp only [upd_ne (Ne.symm ne), upd_same], by first | exact upd_same | (rw [upd_ne ne]; exact upd_same), by show 1 ≤ 900; decide, ?_⟩⟩
    exact q _ dx nd ne (by simp only [upd_ne (Ne.symm ne), upd_same]) (by first | exact upd_same | (rw [upd_ne ne]; exact upd_same)) (fun b h1 h2 => by simp only [upd_ne h1, upd_ne h2])
theorem ok_i_InvalidLimit (T : TopOk K mg A) : FnOk P w K mg base CX0 1 A.f_i_InvalidLimit A.d_i_InvalidLimit P_i_InvalidLimit (spInit A.c_InvalidLimit "InvalidLimit" ["value"]) := by
  refine T.F_i_InvalidLimit.ok sc_i_InvalidLimit (fun vs H Q E h => ?_) (fun cdv Ar outer s H vs Q E hr h => ?_)
  · obtain ⟨a, ws, rfl, hl, _⟩ := h
    obtain ⟨w0, rfl⟩ := len_1 hl
    rfl
  · obtain ⟨a, ws, rfl, hl, ha, q⟩ := h
    obtain ⟨w0, rfl⟩ := len_1 hl
    refine ⟨_, (pss_cons (ps_oxt (pv 0) pe_str)
      (pss_one (ps_oxt (pv 0) (pv 1)))), ?_⟩
    refine ⟨_, rfl, _, _, rfl, T.X_InvalidLimit, noB_at T.no_InvalidLimit (by decide), .inl ⟨ha, fun dx nd ne => ?_⟩⟩
    refine ⟨_, rfl, _, rfl, _, _, rfl, T.X_InvalidLimit, noB_at T.no_InvalidLimit (by decide), .inr ⟨dx, _, by simp only [upd_ne (Ne.symm ne), upd_same], by first | exact upd_same | (rw [upd_ne ne]; exact upd_same), by show 1 ≤ 900; decide, ?_⟩⟩
    exact q _ dx nd ne (by simp only [upd_ne (Ne.symm ne), upd_same]) (by first | exact upd_same | (rw [upd_ne ne]; exact upd_same)) (fun b h1 h2 => by simp only [upd_ne h1, upd_ne h2])
theorem ok_i_InvalidPage (T : TopOk K mg A) : FnOk P w K mg base CX0 1 A.f_i_InvalidPage A.d_i_InvalidPage P_i_InvalidPage (spInit A.c_InvalidPage "InvalidPage" ["line"]) := by
  refine T.F_i_InvalidPage.ok sc_i_InvalidPage (fun vs H Q E h => ?_) (fun cdv Ar outer s H vs Q E hr h => ?_)
  · obtain ⟨a, ws, rfl, hl, _⟩ := h
    obtain ⟨w0, rfl⟩ := len_1 hl
    rfl
  · obtain ⟨a, ws, rfl, hl, ha, q⟩ := h
    obtain ⟨w0, rfl⟩ := len_1 hl
    refine ⟨_, (pss_cons (ps_oxt (pv 0) pe_str)
      (pss_one (ps_oxt (pv 0) (pv 1)))), ?_⟩
    refine ⟨_, rfl, _, _, rfl, T.X_InvalidPage, noB_at T.no_InvalidPage (by decide), .inl ⟨ha, fun dx nd ne => ?_⟩⟩
    refine ⟨_, rfl, _, rfl, _, _, rfl, T.X_InvalidPage, noB_at T.no_InvalidPage (by decide), .inr ⟨dx, _, by simp only [upd_ne (Ne.symm ne), upd_same], by first | exact upd_same | (rw [upd_ne ne]; exact upd_same), by show 1 ≤ 900; decide, ?_⟩⟩
    exact q _ dx nd ne (by simp only [upd_ne (Ne.symm ne), upd_same]) (by first | exact upd_same | (rw [upd_ne ne]; exact upd_same)) (fun b h1 h2 => by simp only [upd_ne h1, upd_ne h2])
theorem ok_i_UnknownProcess (T : TopOk K mg A) : FnOk P w K mg base CX0 1 A.f_i_UnknownProcess A.d_i_UnknownProcess P_i_UnknownProcess (spInit A.c_UnknownProcess "UnknownProcess" ["name"]) := by
  refine T.F_i_UnknownProcess.ok sc_i_UnknownProcess (fun vs H Q E h => ?_) (fun cdv Ar outer s H vs Q E hr h => ?_)
  · obtain ⟨a, ws, rfl, hl, _⟩ := h
    obtain ⟨w0, rfl⟩ := len_1 hl
    rfl
  · obtain ⟨a, ws, rfl, hl, ha, q⟩ := h
    obtain ⟨w0, rfl⟩ := len_1 hl
    refine ⟨_, (pss_cons (ps_oxt (pv 0) pe_str)
      (pss_one (ps_oxt (pv 0) (pv 1)))), ?_⟩
    refine ⟨_, rfl, _, _, rfl, T.X_UnknownProcess, noB_at T.no_UnknownProcess (by decide), .inl ⟨ha, fun dx nd ne => ?_⟩⟩
    refine ⟨_, rfl, _, rfl, _, _, rfl, T.X_UnknownProcess, noB_at T.no_UnknownProcess (by decide), .inr ⟨dx, _, by simp only [upd_ne (Ne.symm ne), upd_same], by first | exact upd_same | (rw [upd_ne ne]; exact upd_same), by show 1 ≤ 900; decide, ?_⟩⟩
    exact q _ dx nd ne (by simp only [upd_ne (Ne.symm ne), upd_same]) (by first | exact upd_same | (rw [upd_ne ne]; exact upd_same)) (fun b h1 h2 => by simp only [upd_ne h1, upd_ne h2])
theorem ok_i_UnknownStep (T : TopOk K mg A) : FnOk P w K mg base CX0 1 A.f_i_UnknownStep A.d_i_UnknownStep P_i_UnknownStep (spInit A.c_UnknownStep "UnknownStep" ["step"]) := by
  refine T.F_i_UnknownStep.ok sc_i_UnknownStep (fun vs H Q E h => ?_) (fun cdv Ar outer s H vs Q E hr h => ?_)
  · obtain ⟨a, ws, rfl, hl, _⟩ := h
    obtain ⟨w0, rfl⟩ := len_1 hl
    rfl
  · obtain ⟨a, ws, rfl, hl, ha, q⟩ := h
    obtain ⟨w0, rfl⟩ := len_1 hl
    refine ⟨_, (pss_cons (ps_oxt (pv 0) pe_str)
      (pss_one (ps_oxt (pv 0) (pv 1)))), ?_⟩
    refine ⟨_, rfl, _, _, rfl, T.X_UnknownStep, noB_at T.no_UnknownStep (by decide), .inl ⟨ha, fun dx nd ne => ?_⟩⟩
    refine ⟨_, rfl, _, rfl, _, _, rfl, T.X_UnknownStep, noB_at T.no_UnknownStep (by decide), .inr ⟨dx, _, by simp only [upd_ne (Ne.symm ne), upd_same], by first | exact upd_same | (rw [upd_ne ne]; exact upd_same), by show 1 ≤ 900; decide, ?_⟩⟩
    exact q _ dx nd ne (by simp only [upd_ne (Ne.symm ne), upd_same]) (by first | exact upd_same | (rw [upd_ne ne]; exact upd_same)) (fun b h1 h2 => by simp only [upd_ne h1, upd_ne h2])
theorem ok_i_UnknownName (T : TopOk K mg A) : FnOk P w K mg base CX0 1 A.f_i_UnknownName A.d_i_UnknownName P_i_UnknownName (spInit A.c_UnknownName "UnknownName" ["name"]) := by
  refine T.F_i_UnknownName.ok sc_i_UnknownName (fun vs H Q E h => ?_) (fun cdv Ar outer s H vs Q E hr h => ?_)
  · obtain ⟨a, ws, rfl, hl, _⟩ := h
    obtain ⟨w0, rfl⟩ := len_1 hl
    rfl
  · obtain ⟨a, ws, rfl, hl, ha, q⟩ := h
    obtain ⟨w0, rfl⟩ := len_1 hl
    refine ⟨_, (pss_cons (ps_oxt (pv 0) pe_str)
      (pss_one (ps_oxt (pv 0) (pv 1)))), ?_⟩
    refine ⟨_, rfl, _, _, rfl, T.X_UnknownName, noB_at T.no_UnknownName (by decide), .inl ⟨ha, fun dx nd ne => ?_⟩⟩
    refine ⟨_, rfl, _, rfl, _, _, rfl, T.X_UnknownName, noB_at T.no_UnknownName (by decide), .inr ⟨dx, _, by simp only [upd_ne (Ne.symm ne), upd_same], by first | exact upd_same | (rw [upd_ne ne]; exact upd_same), by show 1 ≤ 900; decide, ?_⟩⟩
    exact q _ dx nd ne (by simp only [upd_ne (Ne.symm ne), upd_same]) (by first | exact upd_same | (rw [upd_ne ne]; exact upd_same)) (fun b h1 h2 => by simp only [upd_ne h1, upd_ne h2])
theorem ok_i_NothingLeft (T : TopOk K mg A) : FnOk P w K mg base CX0 1 A.f_i_NothingLeft A.d_i_NothingLeft P_i_NothingLeft (spInit A.c_NothingLeft "NothingLeft" []) := by
  refine T.F_i_NothingLeft.ok sc_i_NothingLeft (fun vs H Q E h => ?_) (fun cdv Ar outer s H vs Q E hr h => ?_)
  · obtain ⟨a, ws, rfl, hl, _⟩ := h
    obtain rfl := len_0 hl
    rfl
  · obtain ⟨a, ws, rfl, hl, ha, q⟩ := h
    obtain rfl := len_0 hl
    refine ⟨_, (pss_one (ps_oxt (pv 0) pe_str)), ?_⟩
    refine ⟨_, rfl, _, _, rfl, T.X_NothingLeft, noB_at T.no_NothingLeft (by decide), .inl ⟨ha, fun dx nd ne => ?_⟩⟩
    exact q _ dx nd ne (by simp only [upd_ne (Ne.symm ne), upd_same]) (by first | exact upd_same | (rw [upd_ne ne]; exact upd_same)) (fun b h1 h2 => by simp only [upd_ne h1, upd_ne h2])
end
end My

set_option Elab.async false
set_option linter.all false
set_option maxRecDepth 100000
local macro_rules | `(tactic| walk_at "st") => `(tactic| repeat (first | refine ⟨_, _, rfl, rfl, rfl, ?_⟩ | refine ⟨_, _, rfl, rfl, ?_⟩ | refine ⟨_, rfl, ?_⟩))
namespace My
open PySem PySem.Spec PyProof.Rows L2
section
variable {P : Program} {w : World} {K : PySem.W.Frag} {mg : Str → Option Value} {base : Heap} {A : Top}
theorem cut63 {xs : List V} (h : xs.length ≤ 63) : cutV xs none (some 63) = xs := by
  unfold cutV
  rw [HT.sIx_none, show HT.sIx xs.length xs.length (some 63) = min 63 xs.length from HT.sIx_nat xs.length xs.length 63, Nat.min_eq_right h]
  show (xs.drop 0).take (xs.length - 0) = xs
  rw [List.drop_zero, Nat.sub_zero, List.take_length]
theorem ok_Lbag (T : TopOk K mg A) : FnOk P w K mg base CX0 1 A.f_Lbag A.d_Lbag P_Lbag (spBag K) := by
  refine T.F_Lbag.ok sc_Lbag (fun vs H Q E h => ?_) (fun cdv Ar outer s H vs Q E hr h => ?_)
  · obtain ⟨a, ns, rfl, _⟩ := h
    rfl
  · obtain ⟨a, ns, rfl, hS, hl, q⟩ := h
    have hl' : (ns.map V.int).length ≤ 63 := by rw [List.length_map]; exact hl
    refine ⟨_, (pss_cons (ps_set (i := 1) sc_Lbag.nd rfl (by first | exact Or.inl rfl | exact Or.inr rfl) pe_int)
      (pss_cons (ps_for PassesOwn.never rfl (pi_list (pe_slice sl_list (pv 0) po_none (po_some pe_int))) (pg_name (i := 2) sc_Lbag.nd rfl (by first | exact Or.inl rfl | exact Or.inr rfl))
      (pss_one (ps_set (i := 1) sc_Lbag.nd rfl (by first | exact Or.inl rfl | exact Or.inr rfl) (pe_op op_modC (pe_callTy call_intI (by rfl) T.b_int (by decide +kernel) (pa_cons (pe_op op_add (pe_op op_add (pe_op op_mulC (pv 1) pe_int) (pe_op op_modC (pe_callTy call_intI (by rfl) T.b_int (by decide +kernel) (pa_cons (pv 2) pa_nil)) pe_int)) pe_int) pa_nil)) pe_int))))
      (pss_one (ps_ret (pe_lst (pa_cons (pe_callTy call_listL (by rfl) T.b_list (by decide +kernel) (pa_cons (pe_slice sl_list (pv 0) po_none (po_some pe_int)) pa_nil)) (pa_cons pe_int (pa_cons pe_int (pa_cons (pv 1) (pa_cons pe_int pa_nil)))))))))), ?_⟩
    refine ⟨_, rfl, 63, rfl, a, _, rfl, hS, fun u nu => ?_⟩
    rw [cut63 hl']
    refine ⟨u, rfl, ⟨_, lsq upd_same⟩, for_list (K := K) (a := u) (xs := ns.map V.int)
      (fun i σ H2 => ∃ (m : Int) (c : Option V), σ = [some (.ref a), some (.int m), c] ∧ 0 ≤ m ∧ m < 2147483549 ∧ Same H H2 ∧ H2 u = some (.lst (ns.map V.int)))
      ⟨12001, none, rfl, by decide, by decide, same_upd nu, upd_same⟩ (fun i σ H2 _ ⟨_, _, _, _, _, _, h2⟩ => lsq h2) ?_ ?_⟩
    · rintro i y σ H2 hi ⟨m, c, rfl, m0, m1, s2, h2⟩
      obtain ⟨z, rfl⟩ : ∃ z, y = V.int z := by
        obtain ⟨z, _, e⟩ := List.mem_map.mp (List.mem_of_getElem? hi)
        exact ⟨z, e.symm⟩
      walk_at "st"
      exact ⟨_, _, rfl, Int.emod_nonneg _ (by decide), Int.emod_lt_of_pos _ (by decide), s2, h2⟩
    · rintro σ H2 ⟨m, c, rfl, m0, m1, s2, h2⟩
      refine ⟨_, rfl, 63, rfl, a, _, rfl, SqL.same s2 hS, fun v nv => ?_⟩
      rw [cut63 hl']
      refine ⟨v, _, rfl, lsq upd_same, fun x nx => ⟨_, rfl, by show 5 ≤ sizeLine; decide, fun p np => ?_⟩⟩
      have s3 : Same H2 (upd H2 v (.lst (ns.map V.int))) := same_upd nv
      have s4 := s3.trans (same_upd (o := .lst (ns.map V.int)) nx)
      have s5 := s4.trans (same_upd (o := .lst [.ref x, .int 0, .int 0, .int m, .int 0]) np)
      refine q ⟨p, x, ns⟩ _ (Same.free (s2.trans s4) np) ⟨0, 0, m, 0, upd_same, ?_, ?_, by decide, by omega, hl, by decide, m0, m1⟩ (s2.trans s5)
      · rw [upd_ne (ne_of_none upd_same np)]
        exact upd_same
      · exact ne_of_none upd_same np
theorem ok_Ldraw (T : TopOk K mg A) : FnOk P w K mg base CX0 1 A.f_Ldraw A.d_Ldraw P_Ldraw spDraw := by
  refine T.F_Ldraw.ok sc_Ldraw (fun vs H Q E h => ?_) (fun cdv Ar outer s H vs Q E hr h => ?_)
  · obtain ⟨p, n, rfl, _⟩ := h
    rfl
  · obtain ⟨⟨p, l, ns⟩, n, rfl, ⟨i, g, m, c, hp, hl, nlp, i0, i1, n63, g0, m0, m1⟩, n0, n1, q⟩ := h
    dsimp only at hp hl nlp i1 n63 q ⊢
    refine ⟨_, (pss_cons (ps_asg (pe_op op_add (pe_ix ix_bag (pv 0) pe_int (fun _ _ => rfl)) pe_int) (pg_sub (pv 0) pe_int set_list))
      (Evl.pss_cut (ps_if (PW.pt (pw_and (pt_cmpR op_eq (pe_ix ix_bag (pv 0) pe_int (fun _ _ => rfl)) pe_int (nomark _)) (pw_and1 (pt_cmpR op_lt (pe_ix ix_bag (pv 0) pe_int (fun _ _ => rfl)) (pe_callB call_lenL (by rfl) T.b_len (by decide +kernel) (pa_cons (pe_ix ix_bag (pv 0) pe_int (fun _ _ => rfl)) pa_nil)) (nomark _)))))
      (pss_cons (ps_set (i := 3) sc_Ldraw.nd rfl (by first | exact Or.inl rfl | exact Or.inr rfl) (pe_ix ix_bag (pe_ix ix_bag (pv 0) pe_int (fun _ _ => rfl)) (pe_ix ix_bag (pv 0) pe_int (fun _ _ => rfl)) (fun _ _ => rfl)))
      (pss_cons (ps_asg (pe_op op_add (pe_ix ix_bag (pv 0) pe_int (fun _ _ => rfl)) pe_int) (pg_sub (pv 0) pe_int set_list))
      (pss_one (ps_if (pt_cmpR op_ge (pv 3) (pe_op op_pow pe_int pe_int) (nomark _))
      (pss_one (ps_asg (pv 3) (pg_sub (pv 0) pe_int set_list)))
      (pss_one (ps_asg (pe_op op_modC (pe_callTy call_intI (by rfl) T.b_int (by decide +kernel) (pa_cons (pe_op op_add (pe_op op_add (pe_op op_mulC (pe_ix ix_bag (pv 0) pe_int (fun _ _ => rfl)) pe_int) (pe_op op_mulC (pe_op op_modC (pe_callTy call_intI (by rfl) T.b_int (by decide +kernel) (pa_cons (pv 3) pa_nil)) pe_int) pe_int)) pe_int) pa_nil)) pe_int) (pg_sub (pv 0) pe_int set_list)))))))
      pss_nil)
      (pss_cons (ps_if (pt_cmpR op_gt (pe_ix ix_bag (pv 0) pe_int (fun _ _ => rfl)) pe_int (nomark _))
      (pss_cons (ps_set (i := 4) sc_Ldraw.nd rfl (by first | exact Or.inl rfl | exact Or.inr rfl) (pe_op op_mod (pe_callTy call_intI (by rfl) T.b_int (by decide +kernel) (pa_cons (pe_ix ix_bag (pv 0) pe_int (fun _ _ => rfl)) pa_nil)) (pv 1)))
      (pss_cons (ps_asg (pe_op op_fdiv (pe_ix ix_bag (pv 0) pe_int (fun _ _ => rfl)) (pv 1)) (pg_sub (pv 0) pe_int set_list))
      (pss_one (ps_ret (pv 4)))))
      pss_nil)
      (pss_cons (ps_set (i := 2) sc_Ldraw.nd rfl (by first | exact Or.inl rfl | exact Or.inr rfl) (pe_callTy call_intI (by rfl) T.b_int (by decide +kernel) (pa_cons (pe_ix ix_bag (pv 0) pe_int (fun _ _ => rfl)) pa_nil)))
      (pss_cons (ps_asg (pe_op op_modC (pe_callTy call_intI (by rfl) T.b_int (by decide +kernel) (pa_cons (pe_op op_add (pe_op op_add (pe_op op_add (pe_op op_pow (pv 2) pe_int) (pe_op op_mulC (pv 2) pe_int)) (pe_op op_mulC (pe_ix ix_bag (pv 0) pe_int (fun _ _ => rfl)) pe_int)) pe_int) pa_nil)) pe_int) (pg_sub (pv 0) pe_int set_list))
      (pss_one (ps_ret (pe_op op_mod (pe_callTy call_intI (by rfl) T.b_int (by decide +kernel) (pa_cons (pe_op op_add (pe_op op_fdivC (pe_ix ix_bag (pv 0) pe_int (fun _ _ => rfl)) pe_int) (pe_op op_mulC (pe_op op_modC (pe_callTy call_intI (by rfl) T.b_int (by decide +kernel) (pa_cons (pe_ix ix_bag (pv 0) pe_int (fun _ _ => rfl)) pa_nil)) pe_int) pe_int)) pa_nil)) (pv 1))))))))), ?_⟩
    -- bag[4] = bag[4] + 1
    refine ⟨_, rfl, _, _, _, _, rfl, rfl, hp, rfl, _, _, rfl, rfl, _, rfl, p, _, 4, 4, rfl, rfl, hp, rfl, ?_⟩
    have hp1 : (upd H p (.lst [.ref l, .int i, .int g, .int m, .int (c + 1)])) p = some (.lst [.ref l, .int i, .int g, .int m, .int (c + 1)]) := upd_same
    have hl1 : (upd H p (.lst [.ref l, .int i, .int g, .int m, .int (c + 1)])) l = some (.lst (ns.map V.int)) := by rw [upd_ne nlp]; exact hl
    -- the mixing of the next cell
    refine ⟨fun σ' H' => ∃ (i g m c : Int) (x3 : Option V), σ' = [some (.ref p), some (.int n), none, x3, none] ∧ H' p = some (.lst [.ref l, .int i, .int g, .int m, .int c]) ∧ H' l = some (.lst (ns.map V.int)) ∧ 0 ≤ i ∧ i ≤ ns.length ∧ 0 ≤ g ∧ 0 ≤ m ∧ m < 2147483549 ∧ Ext p H H', ?_, ?_⟩
    · have ex1 : Ext p H (upd H p (.lst [.ref l, .int i, .int g, .int m, .int (c + 1)])) := fun b o hb nb => by rw [upd_ne nb]; exact hb
      refine ⟨_, rfl, _, _, _, _, rfl, rfl, hp1, rfl, rfl, _, rfl, ite2 (fun e => ?_) (fun e => ?_)⟩
      · have e0 : g = 0 := V.int.inj (of_decide_eq_true e)
        subst e0
        refine ⟨_, rfl, _, _, _, _, rfl, rfl, hp1, rfl, _, rfl, _, _, _, _, rfl, rfl, hp1, rfl, l, _, rfl, lsq hl1, _, _, rfl, rfl, _, rfl, ite2 (fun e => ?_) (fun e => ?_)⟩
        · have e1 : i < ((ns.map V.int).length : Int) := of_decide_eq_true e
          rw [List.length_map] at e1
          obtain ⟨j, rfl⟩ := Int.eq_ofNat_of_zero_le i0
          have hj : j < ns.length := by omega
          have hat : atI (ns.map V.int) (j : Int) = some (V.int ns[j]) := atI_nat (by rw [List.getElem?_map, List.getElem?_eq_getElem hj]; rfl)
          refine ⟨_, rfl, _, _, _, _, rfl, rfl, hp1, rfl, _, rfl, _, _, _, _, rfl, rfl, hp1, rfl, l, _, _, _, rfl, rfl, hl1, hat, ?_⟩
          refine ⟨_, rfl, _, _, _, _, rfl, rfl, hp1, rfl, _, _, rfl, rfl, _, rfl, p, _, 1, 1, rfl, rfl, hp1, rfl, ?_⟩
          have ex2 : Ext p H (upd (upd H p (.lst [.ref l, .int j, .int 0, .int m, .int (c + 1)])) p (.lst [.ref l, .int (j + 1), .int 0, .int m, .int (c + 1)])) := fun b o hb nb => by rw [upd_ne nb, upd_ne nb]; exact hb
          have hp2 : (upd (upd H p (.lst [.ref l, .int j, .int 0, .int m, .int (c + 1)])) p (.lst [.ref l, .int (j + 1), .int 0, .int m, .int (c + 1)])) p = some (.lst [.ref l, .int (j + 1), .int 0, .int m, .int (c + 1)]) := upd_same
          have hl2 : (upd (upd H p (.lst [.ref l, .int j, .int 0, .int m, .int (c + 1)])) p (.lst [.ref l, .int (j + 1), .int 0, .int m, .int (c + 1)])) l = some (.lst (ns.map V.int)) := by rw [upd_ne nlp]; exact hl1
          refine ⟨_, rfl, _, _, rfl, rfl, ⟨by decide, by decide, by decide⟩, _, _, rfl, rfl, _, rfl, ite2 (fun e => ?_) (fun e => ?_)⟩
          · have e2 : (10 ^ (18 : Int).toNat : Int) ≤ ns[j] := of_decide_eq_true e
            have e3 : (0 : Int) ≤ ns[j] := Int.le_trans (by decide) e2
            refine ⟨_, rfl, _, rfl, p, _, 2, 2, rfl, rfl, hp2, rfl, ?_⟩
            refine ⟨(j : Int) + 1, ns[j], m, c + 1, some (V.int ns[j]), rfl, upd_same, ?_, by omega, by omega, e3, m0, m1, fun b o hb nb => ?_⟩
            · rw [upd_ne nlp]; exact hl2
            · rw [upd_ne nb]; exact ex2 b o hb nb
          · refine ⟨_, rfl, _, _, _, _, rfl, rfl, hp2, rfl, _, _, rfl, rfl, rfl, _, rfl, _, rfl, _, _, rfl, rfl, rfl, _, _, rfl, rfl, rfl, _, _, rfl, rfl, _, _, rfl, rfl, _, rfl, _, _, rfl, rfl, rfl, _, rfl, p, _, 3, 3, rfl, rfl, hp2, rfl, ?_⟩
            refine ⟨(j : Int) + 1, 0, _, c + 1, some (V.int ns[j]), rfl, upd_same, ?_, by omega, by omega, by decide, Int.emod_nonneg _ (by decide), Int.emod_lt_of_pos _ (by decide), fun b o hb nb => ?_⟩
            · rw [upd_ne nlp]; exact hl2
            · rw [upd_ne nb]; exact ex2 b o hb nb
        · exact ⟨i, 0, m, c + 1, none, rfl, hp1, hl1, i0, i1, g0, m0, m1, ex1⟩
      · refine iteF ?_
        exact ⟨i, g, m, c + 1, none, rfl, hp1, hl1, i0, i1, g0, m0, m1, ex1⟩
    · rintro σ' H' ⟨i, g, m, c, x3, rfl, hp1, hl1, i0, i1, g0, m0, m1, ex1⟩
      -- if bag[2] > 0
      refine ⟨_, rfl, _, _, _, _, rfl, rfl, hp1, rfl, _, _, rfl, rfl, _, rfl, ite2 (fun e => ?_) (fun e => ?_)⟩
      · refine ⟨_, rfl, _, _, _, _, rfl, rfl, hp1, rfl, _, rfl, _, rfl, _, _, rfl, rfl, n0, ?_⟩
        refine ⟨_, rfl, _, _, _, _, rfl, rfl, hp1, rfl, _, rfl, _, _, rfl, rfl, ⟨n0, n1⟩, _, rfl, p, _, 2, 2, rfl, rfl, hp1, rfl, _, rfl, ?_⟩
        refine q _ _ (Int.emod_nonneg _ (by omega)) (Int.emod_lt_of_pos _ n0) ⟨i, g / n, m, c, upd_same, ?_, nlp, i0, i1, n63, Int.ediv_nonneg g0 (by omega), m0, m1⟩ fun b o hb nb => ?_
        · rw [upd_ne nlp]; exact hl1
        · rw [upd_ne nb]; exact ex1 b o hb nb
      · refine ⟨_, rfl, _, _, _, _, rfl, rfl, hp1, rfl, _, rfl, ?_⟩
        refine ⟨_, rfl, _, _, rfl, rfl, ⟨by decide, by decide, by omega⟩, _, rfl, _, _, rfl, rfl, rfl, _, _, rfl, rfl, _, rfl, _, _, _, _, rfl, rfl, hp1, rfl, _, _, rfl, rfl, rfl, _, _, rfl, rfl, _, _, rfl, rfl, _, rfl, _, _, rfl, rfl, rfl, _, rfl, p, _, 3, 3, rfl, rfl, hp1, rfl, ?_⟩
        refine ⟨_, rfl, _, _, _, _, rfl, rfl, upd_same, rfl, _, _, rfl, rfl, rfl, _, rfl, _, _, _, _, rfl, rfl, upd_same, rfl, _, rfl, _, _, rfl, rfl, rfl, _, _, rfl, rfl, rfl, _, _, rfl, rfl, _, rfl, _, rfl, _, _, rfl, rfl, n0, ?_⟩
        refine q _ _ (Int.emod_nonneg _ (by omega)) (Int.emod_lt_of_pos _ n0) ⟨i, g, _, c, upd_same, ?_, nlp, i0, i1, n63, g0, Int.emod_nonneg _ (by decide), Int.emod_lt_of_pos _ (by decide)⟩ fun b o hb nb => ?_
        · rw [upd_ne nlp]; exact hl1
        · rw [upd_ne nb]; exact ex1 b o hb nb
theorem ok_Lof (T : TopOk K mg A) : FnOk P w K mg base CX0 2 A.f_Lof A.d_Lof P_Lof (spOf K) := by
  have G_Ldraw : FnOk P w K mg base CX0 1 A.f_Ldraw A.d_Ldraw P_Ldraw spDraw := ok_Ldraw T
  refine T.F_Lof.ok sc_Lof (fun vs H Q E h => ?_) (fun cdv Ar outer s H vs Q E hr h => ?_)
  · obtain ⟨p, y, rfl, _⟩ := h
    rfl
  · obtain ⟨B, y, rfl, hB, h⟩ := h
    refine ⟨_, (pss_one (ps_ret (pe_ix ix_seq (pv 1) (pe_call G_Ldraw (hr.mono (by decide)) (by rfl) T.g_Ldraw T.F_Ldraw.kp T.a_Ldraw .nil pass0 (pa_cons (pv 0) (pa_cons (pe_callB call_len (by rfl) T.b_len (by decide +kernel) (pa_cons (pv 1) pa_nil)) pa_nil))) (fun _ _ => rfl)))), ?_⟩
    rcases h with ⟨q, xs, rfl, nq, hS, h0, h1, k⟩ | ⟨z, rfl, h0, h1, k⟩
    · refine ⟨_, rfl, _, rfl, _, rfl, V.ref q, xs.length, rfl, ?_, B, _, rfl, hB, by omega, by omega, fun r H' r0 r1 hB' ex => ?_⟩
      · rcases hS with hS | hS
        · exact .inl ⟨_, hS, rfl⟩
        · exact .inr ⟨_, hS, rfl⟩
      · obtain ⟨j, rfl⟩ := Int.eq_ofNat_of_zero_le r0
        have hj : j < xs.length := by omega
        have hat : atI xs (j : Int) = some xs[j] := atI_nat (List.getElem?_eq_getElem hj)
        have kk := k xs[j] H' (List.getElem_mem hj) hB' ex
        rcases hS with hS | hS
        · exact .inl ⟨q, xs, _, _, rfl, rfl, SqL.ext ex nq hS, hat, kk⟩
        · exact .inr (.inl ⟨q, xs, _, _, rfl, rfl, SqT.ext ex nq hS, hat, kk⟩)
    · refine ⟨_, rfl, _, rfl, _, rfl, V.str z, z.length, rfl, ⟨h1, rfl⟩, B, _, rfl, hB, by omega, ?_, fun r H' r0 r1 hB' ex => ?_⟩
      · have : (sizeLine : Nat) = 16777216 := by decide
        omega
      · obtain ⟨j, rfl⟩ := Int.eq_ofNat_of_zero_le r0
        have hj : j < z.cps.toList.length := by
          have : z.length = z.cps.toList.length := by simp [Str.length]
          omega
        exact .inr (.inr ⟨z, _, _, rfl, rfl, h1, atI_nat (List.getElem?_eq_getElem hj), k _ H' (List.getElem_mem hj) hB' ex⟩)
theorem ok_Lsame (T : TopOk K mg A) : ∀ n, FnOk P w K mg base CX0 n A.f_Lsame A.d_Lsame P_Lsame (spSameLt K n)
  | 0 => ⟨fun _ _ _ _ h => h.elim, fun _ _ _ _ _ _ _ _ _ _ _ _ _ h => h.elim⟩
  | n + 1 => by
    have G_Lsame : FnOk P w K mg base CX0 n A.f_Lsame A.d_Lsame P_Lsame (spSameLt K n) := ok_Lsame T n
    refine T.F_Lsame.ok sc_Lsame (fun vs H Q E h => ?_) (fun cdv Ar outer s H vs Q E hr h => ?_)
    · obtain ⟨v, w, d, rfl, _⟩ := h
      rfl
    · obtain ⟨v, u, d, rfl, hv, hu, hd, hs, k⟩ := h
      refine ⟨_, (pss_cons (ps_if (PW.pt (pw_or (pt_cmpR op_isN (pv 1) pe_non (nomark _)) (pw_or1 (pt_cmpR op_isN (pv 0) pe_non (nomark _)))))
      (pss_one (ps_ret (pe_and (pe_cmpR op_isN (pv 1) pe_non (nomark _)) (pe_one (pe_cmpR op_isN (pv 0) pe_non (nomark _))))))
      pss_nil)
      (pss_cons (ps_if (pt_val (pe_callB call_isD2 (by rfl) T.b_isinstance (by decide +kernel) (pa_cons (pv 1) (pa_cons (pe_tup (pa_cons (pe_bltn (v := .ty "list") (by rfl) T.b_list (by decide +kernel) rfl) (pa_cons (pe_bltn (v := .ty "tuple") (by rfl) T.b_tuple (by decide +kernel) rfl) pa_nil))) pa_nil))))
      (pss_cons (ps_if (PW.pt (pw_or (pt_cmpR op_ne (pe_callB call_isD (by rfl) T.b_isinstance (by decide +kernel) (pa_cons (pv 0) (pa_cons (pe_bltn (v := .ty "list") (by rfl) T.b_list (by decide +kernel) rfl) pa_nil))) (pe_callB call_isD (by rfl) T.b_isinstance (by decide +kernel) (pa_cons (pv 1) (pa_cons (pe_bltn (v := .ty "list") (by rfl) T.b_list (by decide +kernel) rfl) pa_nil))) (nomark _)) (pw_or1 (pt_cmpR op_ne (pe_callB call_isD (by rfl) T.b_isinstance (by decide +kernel) (pa_cons (pv 0) (pa_cons (pe_bltn (v := .ty "tuple") (by rfl) T.b_tuple (by decide +kernel) rfl) pa_nil))) (pe_callB call_isD (by rfl) T.b_isinstance (by decide +kernel) (pa_cons (pv 1) (pa_cons (pe_bltn (v := .ty "tuple") (by rfl) T.b_tuple (by decide +kernel) rfl) pa_nil))) (nomark _)))))
      (pss_one (ps_ret pe_bl))
      pss_nil)
      (pss_one (ps_ret (pe_and (pe_cmpR op_eq (pe_callB call_len (by rfl) T.b_len (by decide +kernel) (pa_cons (pv 0) pa_nil)) (pe_callB call_len (by rfl) T.b_len (by decide +kernel) (pa_cons (pv 1) pa_nil)) (nomark _)) (pe_one (pe_callB (cr_all rfl) (by rfl) T.b_all (by decide +kernel) (pa_cons (pe_lc (own := [("_law_one_y", 2), ("_law_two", 3)]) (g := gTup K 2 (gCons (gName 2) (gCons (gName 3) gNil))) (by rfl) sc_Lsame.nd (RZ.pi_zipA (by rfl) T.b_zip (pa_cons (pv 0) (pa_cons (pv 1) pa_nil))) (blkOk_by (own := [("_law_one_y", 2), ("_law_two", 3)]) (N := N_Lsame) (sc := defScope s_Lsame) (by decide +kernel)) (fun _ _ _ _ _ => (pg_tup rfl (pgs_cons (pg_name (i := 2) sc_Lsame.nd rfl (by first | exact Or.inl rfl | exact Or.inr rfl)) (pgs_cons (pg_name (i := 3) sc_Lsame.nd rfl (by first | exact Or.inl rfl | exact Or.inr rfl)) pgs_nil)))) (fun _ _ _ _ _ => pts_nil) (fun _ _ _ _ _ => (pe_call G_Lsame hr (by rfl) T.g_Lsame T.F_Lsame.kp T.a_Lsame .nil pass0 (pa_cons (pv 2) (pa_cons (pv 3) pa_nil))))) pa_nil)))))))
      pss_nil)
      (pss_cons (ps_if (PW.pt (pw_or (pt_cmpR op_ne (pe_callB call_isD (by rfl) T.b_isinstance (by decide +kernel) (pa_cons (pv 0) (pa_cons (pe_bltn (v := .ty "bool") (by rfl) T.b_bool (by decide +kernel) rfl) pa_nil))) (pe_callB call_isD (by rfl) T.b_isinstance (by decide +kernel) (pa_cons (pv 1) (pa_cons (pe_bltn (v := .ty "bool") (by rfl) T.b_bool (by decide +kernel) rfl) pa_nil))) (nomark _)) (pw_or1 (pt_cmpR op_ne (pe_callB call_isD (by rfl) T.b_isinstance (by decide +kernel) (pa_cons (pv 0) (pa_cons (pe_bltn (v := .ty "int") (by rfl) T.b_int (by decide +kernel) rfl) pa_nil))) (pe_callB call_isD (by rfl) T.b_isinstance (by decide +kernel) (pa_cons (pv 1) (pa_cons (pe_bltn (v := .ty "int") (by rfl) T.b_int (by decide +kernel) rfl) pa_nil))) (nomark _)))))
      (pss_one (ps_ret pe_bl))
      pss_nil)
      (pss_one (ps_ret (pe_and (pe_cmpR op_eq (pe_callB call_isD (by rfl) T.b_isinstance (by decide +kernel) (pa_cons (pv 0) (pa_cons (pe_bltn (v := .ty "str") (by rfl) T.b_str (by decide +kernel) rfl) pa_nil))) (pe_callB call_isD (by rfl) T.b_isinstance (by decide +kernel) (pa_cons (pv 1) (pa_cons (pe_bltn (v := .ty "str") (by rfl) T.b_str (by decide +kernel) rfl) pa_nil))) (nomark _)) (pe_one (pe_cmpR op_eq (pv 0) (pv 1) (nomark _))))))))), ?_⟩
      cases d with
      | none =>
        cases hv
        cases hu
        exact ⟨_, rfl, rfl, _, rfl, iteT (iteT ⟨_, rfl, rfl, true, rfl, iteT ⟨_, rfl, rfl, k _ (Same.refl _)⟩⟩)⟩
      | bool b =>
        cases hv
        cases hu
        have hb : ∀ H', Dp K H' (V.bl b) (.bool b) := fun _ => .bl b
        refine ⟨_, rfl, rfl, _, rfl, iteF ⟨_, rfl, rfl, _, rfl, iteF ?_⟩⟩
        refine ⟨_, rfl, by show 2 ≤ sizeLine; decide, fun t nt => ⟨_, t, _, _, _, rfl, upd_same, rfl, rfl, hb _, _, rfl, iteF ?_⟩⟩
        refine ⟨_, rfl, _, _, _, rfl, rfl, hb _, _, rfl, _, _, _, rfl, rfl, hb _, rfl, _, rfl, iteF ?_⟩
        refine ⟨_, rfl, _, _, _, rfl, rfl, hb _, _, rfl, _, _, _, rfl, rfl, hb _, rfl, _, rfl, iteF ?_⟩
        refine ⟨_, rfl, _, _, _, rfl, rfl, hb _, _, rfl, _, _, _, rfl, rfl, hb _, rfl, _, rfl, iteT ?_⟩
        refine ⟨_, rfl, _, rfl, rfl, ?_⟩
        rw [decide_eq_true rfl]
        exact k _ (same_upd nt)
      | int b =>
        cases hv
        cases hu
        have hb : ∀ H', Dp K H' (V.int b) (.int b) := fun _ => .int b
        refine ⟨_, rfl, rfl, _, rfl, iteF ⟨_, rfl, rfl, _, rfl, iteF ?_⟩⟩
        refine ⟨_, rfl, by show 2 ≤ sizeLine; decide, fun t nt => ⟨_, t, _, _, _, rfl, upd_same, rfl, rfl, hb _, _, rfl, iteF ?_⟩⟩
        refine ⟨_, rfl, _, _, _, rfl, rfl, hb _, _, rfl, _, _, _, rfl, rfl, hb _, rfl, _, rfl, iteF ?_⟩
        refine ⟨_, rfl, _, _, _, rfl, rfl, hb _, _, rfl, _, _, _, rfl, rfl, hb _, rfl, _, rfl, iteF ?_⟩
        refine ⟨_, rfl, _, _, _, rfl, rfl, hb _, _, rfl, _, _, _, rfl, rfl, hb _, rfl, _, rfl, iteT ?_⟩
        refine ⟨_, rfl, _, rfl, rfl, ?_⟩
        rw [decide_eq_true rfl]
        exact k _ (same_upd nt)
      | str b =>
        cases hv
        cases hu
        have hb : ∀ H', Dp K H' (V.str b) (.str b) := fun _ => .str b
        refine ⟨_, rfl, rfl, _, rfl, iteF ⟨_, rfl, rfl, _, rfl, iteF ?_⟩⟩
        refine ⟨_, rfl, by show 2 ≤ sizeLine; decide, fun t nt => ⟨_, t, _, _, _, rfl, upd_same, rfl, rfl, hb _, _, rfl, iteF ?_⟩⟩
        refine ⟨_, rfl, _, _, _, rfl, rfl, hb _, _, rfl, _, _, _, rfl, rfl, hb _, rfl, _, rfl, iteF ?_⟩
        refine ⟨_, rfl, _, _, _, rfl, rfl, hb _, _, rfl, _, _, _, rfl, rfl, hb _, rfl, _, rfl, iteF ?_⟩
        refine ⟨_, rfl, _, _, _, rfl, rfl, hb _, _, rfl, _, _, _, rfl, rfl, hb _, rfl, _, rfl, iteT ?_⟩
        refine ⟨_, rfl, _, rfl, rfl, ?_⟩
        rw [decide_eq_true rfl]
        exact k _ (same_upd nt)
      | list ds =>
        obtain ⟨a, xs, rfl, sx, dx⟩ := Dp.lenL hv
        obtain ⟨b, ys, rfl, sy, dy⟩ := Dp.lenL hu
        have hsm : decide (ds.length ≤ 5000) = true ∧ smallAll ds = true := by
          unfold small at hs
          exact Bool.and_eq_true_iff.mp hs
        have hsz : ds.length ≤ 5000 := of_decide_eq_true hsm.1
        have lx := DpAll.length dx
        have ly := DpAll.length dy
        refine ⟨_, rfl, rfl, _, rfl, iteF ⟨_, rfl, rfl, _, rfl, iteF ?_⟩⟩
        refine ⟨_, rfl, by show 2 ≤ sizeLine; decide, fun t nt => ?_⟩
        have s1 : Same H (upd H t (.tup [.ty "list", .ty "tuple"])) := same_upd nt
        have hv1 := Dp.same s1 _ _ hv
        have hu1 := Dp.same s1 _ _ hu
        refine ⟨_, t, _, _, _, rfl, upd_same, rfl, rfl, hu1, _, rfl, iteT ?_⟩
        refine ⟨_, rfl, _, _, _, rfl, rfl, hv1, _, rfl, _, _, _, rfl, rfl, hu1, rfl, _, rfl, iteF ?_⟩
        refine ⟨_, rfl, _, _, _, rfl, rfl, hv1, _, rfl, _, _, _, rfl, rfl, hu1, rfl, _, rfl, iteF ?_⟩
        refine ⟨_, rfl, .ref a, xs.length, rfl, .inl ⟨xs, SqL.same s1 sx, rfl⟩, _, rfl, .ref b, ys.length, rfl, .inl ⟨ys, SqL.same s1 sy, rfl⟩, rfl, _, rfl, ?_⟩
        rw [lx, ly, decide_eq_true rfl]
        refine iteT ?_
        refine ⟨_, rfl, _, rfl, a, b, xs, ys, rfl, .inl ⟨SqL.same s1 sx, SqL.same s1 sy, fun D nD => ?_⟩⟩
        refine same_all (walk_zip (K := K) (xs := xs) (ys := ys) (by rw [lx, ly, Nat.min_self])) (DpAll.same s1 _ _ dx) (DpAll.same s1 _ _ dy) (fun H2 s2 => ⟨SqL.same (s1.trans s2) sx, SqL.same (s1.trans s2) sy⟩) nD hsz hsm.2 hd ⟨_, _, rfl⟩ fun H2 s2 h2 => ?_
        refine ⟨D, List.replicate ds.length true, rfl, lsq ?_, ?_⟩
        · rw [h2, List.map_replicate]
        · rw [show (List.replicate ds.length true).all id = true by simp]
          exact k _ (s1.trans s2)
      | tuple ds =>
        obtain ⟨a, xs, rfl, sx, dx⟩ := Dp.lenT hv
        obtain ⟨b, ys, rfl, sy, dy⟩ := Dp.lenT hu
        have hsm : decide (ds.length ≤ 5000) = true ∧ smallAll ds = true := by
          unfold small at hs
          exact Bool.and_eq_true_iff.mp hs
        have hsz : ds.length ≤ 5000 := of_decide_eq_true hsm.1
        have lx := DpAll.length dx
        have ly := DpAll.length dy
        refine ⟨_, rfl, rfl, _, rfl, iteF ⟨_, rfl, rfl, _, rfl, iteF ?_⟩⟩
        refine ⟨_, rfl, by show 2 ≤ sizeLine; decide, fun t nt => ?_⟩
        have s1 : Same H (upd H t (.tup [.ty "list", .ty "tuple"])) := same_upd nt
        have hv1 := Dp.same s1 _ _ hv
        have hu1 := Dp.same s1 _ _ hu
        refine ⟨_, t, _, _, _, rfl, upd_same, rfl, rfl, hu1, _, rfl, iteT ?_⟩
        refine ⟨_, rfl, _, _, _, rfl, rfl, hv1, _, rfl, _, _, _, rfl, rfl, hu1, rfl, _, rfl, iteF ?_⟩
        refine ⟨_, rfl, _, _, _, rfl, rfl, hv1, _, rfl, _, _, _, rfl, rfl, hu1, rfl, _, rfl, iteF ?_⟩
        refine ⟨_, rfl, .ref a, xs.length, rfl, .inr ⟨xs, SqT.same s1 sx, rfl⟩, _, rfl, .ref b, ys.length, rfl, .inr ⟨ys, SqT.same s1 sy, rfl⟩, rfl, _, rfl, ?_⟩
        rw [lx, ly, decide_eq_true rfl]
        refine iteT ?_
        refine ⟨_, rfl, _, rfl, a, b, xs, ys, rfl, .inr ⟨SqT.same s1 sx, SqT.same s1 sy, fun D nD => ?_⟩⟩
        refine same_all (walk_zipT (K := K) (xs := xs) (ys := ys) (by rw [lx, ly, Nat.min_self])) (DpAll.same s1 _ _ dx) (DpAll.same s1 _ _ dy) (fun H2 s2 => ⟨SqT.same (s1.trans s2) sx, SqT.same (s1.trans s2) sy⟩) nD hsz hsm.2 hd ⟨_, _, rfl⟩ fun H2 s2 h2 => ?_
        refine ⟨D, List.replicate ds.length true, rfl, lsq ?_, ?_⟩
        · rw [h2, List.map_replicate]
        · rw [show (List.replicate ds.length true).all id = true by simp]
          exact k _ (s1.trans s2)
      | dict ds => cases hv
end
end My

set_option Elab.async false
set_option linter.all false
set_option maxRecDepth 100000
namespace My
open PySem PySem.Spec PyProof.Rows L2
def tab : List (Str × List Str) := [("InvalidName", ["value"]), ("InvalidRow", ["at"]), ("DuplicateName", ["name"]), ("InvalidStep", ["process", "index"]), ("DuplicateMessage", ["message"]), ("Unsent", ["message"]), ("Ring", ["process"]), ("TooMany", ["subject", "most"]),
  ("InvalidPoint", ["value"]), ("InvalidMoment", ["value"]), ("InvalidClause", ["at"]), ("Parted", ["at", "one", "other"]), ("UnlikeLogs", []), ("EmptyLot", []), ("InvalidNumber", ["value"]), ("InvalidWeights", []), ("Uneven", ["block"]), ("InvalidTests", ["at"]), ("InvalidText", ["at"]),
  ("InvalidCommand", ["at"]), ("Full", ["limit"]), ("InvalidLimit", ["value"]), ("InvalidPage", ["line"]), ("UnknownProcess", ["name"]), ("UnknownStep", ["step"]), ("UnknownName", ["name"]), ("NothingLeft", [])]
def codeL : List Str := tab.map (·.1)
abbrev sCode : Str := "code"
def tabO : List (Str × List Str) := [("Ring", ["process"]), ("TooMany", ["subject", "most"]), ("UnlikeLogs", []), ("EmptyLot", []), ("InvalidWeights", []), ("Uneven", ["block"]), ("Full", ["limit"]), ("InvalidPage", ["line"]), ("UnknownStep", ["step"]), ("NothingLeft", [])]
def spField (K : PySem.W.Frag) (tb : List (Str × List Str)) : Sp := fun vs H Q _ => ∃ (e C : Addr) (code : Str) (names : List Str) (ws : List V), vs = [.ref e] ∧ (code, names) ∈ tb ∧ ErrAt K H e C code names ws ∧ ∀ (H' : Hp) (t : Addr), H t = none → Same H H' → SqT K H' t ws → Q (.ref t) H'
section
variable {K : PySem.W.Frag} {σ : L2.St} {H : Hp} {Q : VK} {e C : Addr} {code : Str} {names : List Str} {ws : List V} {i : Nat}
theorem oxf_code (hE : ErrAt K H e C code names ws) (hv : σ[i]? = some (some (.ref e))) (hn : sCode ∉ names) (q : Q (.str code) H) : tOxf K sCode (tVar i) σ H Q := by
  obtain ⟨h1, h2, h3, dx, h4, h5⟩ := hE
  refine ⟨_, hv, e, C, dx, _, _, rfl, h1, noB_at h2 List.mem_cons_self, h4, h5, ?_, q⟩
  have key : ∀ (l : List (Str × V)), (∀ p ∈ l, p.1 ≠ sCode) → (l ++ [(sCode, V.str code)]).lookup sCode = some (V.str code) := by
    intro l
    induction l with
    | nil =>
      intro _
      show ((sCode, V.str code) :: ([] : List (Str × V))).lookup sCode = _
      rw [lookup_put, if_pos rfl]
    | cons p l ih =>
      intro h
      obtain ⟨f, z⟩ := p
      show ((f, z) :: (l ++ [(sCode, V.str code)])).lookup sCode = _
      rw [lookup_put, if_neg (fun z => h _ List.mem_cons_self z.symm)]
      exact ih fun p hp => h p (List.mem_cons_of_mem _ hp)
  refine key _ fun p hp e => hn ?_
  rw [← e]
  exact (List.of_mem_zip (List.mem_reverse.mp hp : (p.1, p.2) ∈ names.zip ws)).1
end
section
variable {K : PySem.W.Frag} {σ : L2.St} {H : Hp} {Q : VK} {e C : Addr} {code : Str} {names : List Str} {ws : List V} {i : Nat} {v : V} {n m l : Str} {v1 v2 v3 : V}
theorem flds1 : flds code [n] [v] = [(n, v), (sCode, .str code)] := rfl
theorem flds2 : flds code [n, m] [v, v1] = [(m, v1), (n, v), (sCode, .str code)] := rfl
theorem flds3 : flds code [n, m, l] [v, v1, v2] = [(l, v2), (m, v1), (n, v), (sCode, .str code)] := rfl
theorem oxf_arg (hE : ErrAt K H e C code names ws) (hv : σ[i]? = some (some (.ref e))) (hm : n ∈ names) (hl : (flds code names ws).lookup n = some v) (q : Q v H) : tOxf K n (tVar i) σ H Q := by
  obtain ⟨h1, h2, h3, dx, h4, h5⟩ := hE
  exact ⟨_, hv, e, C, dx, _, _, rfl, h1, noB_at h2 (List.mem_cons_of_mem _ hm), h4, h5, hl, q⟩
theorem ifc {D : Ends} {ta tz : TS} {z : Str} (hE : ErrAt K H e C code names ws) (hv : σ[i]? = some (some (.ref e))) (hn : sCode ∉ names) (yes : code = z → ∀ D' : Ends, D'.rt = D.rt → ta D' σ H) (no : code ≠ z → tz D σ H) :
    tSeq (tIfS (tTest (tOp rEq (tOxf K sCode (tVar i)) (tC (.str z)))) ta tNext) tz D σ H := by
  dsimp only [tSeq, tIfS, tTest, tOp]
  refine oxf_code hE hv hn ?_
  refine ⟨rfl, _, rfl, ite2 (fun c => ?_) (fun c => ?_)⟩
  · exact yes (V.str.inj (of_decide_eq_true c)) _ rfl
  · exact no fun z => c (decide_eq_true (congrArg V.str z))
theorem ifin {D : Ends} {ta tz : TS} {tr : TA} {zs : List Str} (hE : ErrAt K H e C code names ws) (hv : σ[i]? = some (some (.ref e))) (hn : sCode ∉ names) (hr : ∀ Q' : List V → Hp → Prop, Q' (zs.map V.str) H → tr σ H Q') (hl : zs.length ≤ 100)
    (yes : code ∈ zs → ∀ (D' : Ends) (H' : Hp), Same H H' → D'.rt = D.rt → ta D' σ H') (no : ∀ H', Same H H' → code ∉ zs → tz D σ H') :
    tSeq (tIfS (tTest (tOp (rIn K false) (tOxf K sCode (tVar i)) (tTup tr))) ta tNext) tz D σ H := by
  dsimp only [tSeq, tIfS, tTest, tOp]
  refine oxf_code hE hv hn ?_
  refine hr _ ?_
  refine ⟨by rw [List.length_map]; exact sz (by omega), fun p np => ?_⟩
  have s : Same H (upd H p (.tup (zs.map V.str))) := same_upd np
  have key : inV (.str code) (zs.map V.str) = decide (code ∈ zs) := by
    clear hr yes no s
    induction zs with
    | nil => rfl
    | cons z zs ih =>
      show ((z == code) || inV (.str code) (zs.map V.str)) = _
      rw [ih (by simp only [List.length_cons] at hl; omega), Bool.eq_iff_iff, Bool.or_eq_true, beq_iff_eq, decide_eq_true_iff, decide_eq_true_iff, List.mem_cons]
      exact or_congr_left eq_comm
  refine ⟨p, _, rfl, .inr (tsq upd_same), rfl, ?_, _, rfl, ite2 (fun c => ?_) (fun c => ?_)⟩
  · rw [List.all_eq_true]
    intro x hx
    obtain ⟨z, _, rfl⟩ := List.mem_map.mp hx
    rfl
  · exact yes (of_decide_eq_true (key ▸ c)) _ _ s rfl
  · exact no _ s fun z => c (key ▸ decide_eq_true z)
theorem ret1 {D : Ends} (hE : ErrAt K H e C code [n] [v]) (hv : σ[i]? = some (some (.ref e))) (hD : D.rt = Q) (q : ∀ (H' : Hp) (t : Addr), H t = none → Same H H' → SqT K H' t [v] → Q (V.ref t) H') : tRet (tTup (tCons (tOxf K n (tVar i)) tNil)) D σ H := by
  dsimp only [tRet, tTup, tCons, tNil]
  refine oxf_arg (v := v) hE hv (by simp) (by rw [flds1, lookup_put, if_pos rfl]) ?_
  refine ⟨by show 1 ≤ sizeLine; decide, fun p np => ?_⟩
  rw [hD]
  exact q _ _ np (same_upd np) (tsq upd_same)
theorem ret2 {D : Ends} (hE : ErrAt K H e C code [n, m] [v, v1]) (hv : σ[i]? = some (some (.ref e))) (h1 : n ≠ m) (hD : D.rt = Q) (q : ∀ (H' : Hp) (t : Addr), H t = none → Same H H' → SqT K H' t [v, v1] → Q (V.ref t) H') : tRet (tTup (tCons (tOxf K n (tVar i)) (tCons (tOxf K m (tVar i)) tNil))) D σ H := by
  dsimp only [tRet, tTup, tCons, tNil]
  refine oxf_arg (v := v) hE hv (by simp) (by rw [flds2, lookup_put, if_neg h1, lookup_put, if_pos rfl]) ?_
  refine oxf_arg (v := v1) hE hv (by simp) (by rw [flds2, lookup_put, if_pos rfl]) ?_
  refine ⟨by show 2 ≤ sizeLine; decide, fun p np => ?_⟩
  rw [hD]
  exact q _ _ np (same_upd np) (tsq upd_same)
theorem ret3 {D : Ends} (hE : ErrAt K H e C code [n, m, l] [v, v1, v2]) (hv : σ[i]? = some (some (.ref e))) (h1 : n ≠ m) (h2 : n ≠ l) (h3 : m ≠ l) (hD : D.rt = Q) (q : ∀ (H' : Hp) (t : Addr), H t = none → Same H H' → SqT K H' t [v, v1, v2] → Q (V.ref t) H') :
    tRet (tTup (tCons (tOxf K n (tVar i)) (tCons (tOxf K m (tVar i)) (tCons (tOxf K l (tVar i)) tNil)))) D σ H := by
  dsimp only [tRet, tTup, tCons, tNil]
  refine oxf_arg (v := v) hE hv (by simp) (by rw [flds3, lookup_put, if_neg h2, lookup_put, if_neg h1, lookup_put, if_pos rfl]) ?_
  refine oxf_arg (v := v1) hE hv (by simp) (by rw [flds3, lookup_put, if_neg h3, lookup_put, if_pos rfl]) ?_
  refine oxf_arg (v := v2) hE hv (by simp) (by rw [flds3, lookup_put, if_pos rfl]) ?_
  refine ⟨by show 3 ≤ sizeLine; decide, fun p np => ?_⟩
  rw [hD]
  exact q _ _ np (same_upd np) (tsq upd_same)
end
section
variable {P : Program} {w : World} {K : PySem.W.Frag} {mg : Str → Option Value} {base : Heap} {A : Top}
theorem ok_Lother_field (T : TopOk K mg A) : FnOk P w K mg base CX0 1 A.f_Lother_field A.d_Lother_field P_Lother_field (spField K tabO) := by
  refine T.F_Lother_field.ok sc_Lother_field (fun vs H Q E h => ?_) (fun cdv Ar outer s H vs Q E hr h => ?_)
  · obtain ⟨e, C, code, names, ws, rfl, _⟩ := h
    rfl
  · obtain ⟨e, C, code, names, ws, rfl, hm, hE, q⟩ := h
    have hl := hE.2.2.1
    refine ⟨_, (pss_cons (ps_if (pt_cmpR op_eq (pe_oxf (pv 0)) pe_str (nomark _))
      (pss_one (ps_ret (pe_tup (pa_cons (pe_oxf (pv 0)) pa_nil))))
      pss_nil)
      (pss_cons (ps_if (pt_cmpR op_eq (pe_oxf (pv 0)) pe_str (nomark _))
      (pss_one (ps_ret (pe_tup (pa_cons (pe_oxf (pv 0)) (pa_cons (pe_oxf (pv 0)) pa_nil)))))
      pss_nil)
      (pss_cons (ps_if (pt_cmpR op_eq (pe_oxf (pv 0)) pe_str (nomark _))
      (pss_one (ps_ret (pe_tup (pa_cons (pe_oxf (pv 0)) pa_nil))))
      pss_nil)
      (pss_cons (ps_if (pt_cmpR op_eq (pe_oxf (pv 0)) pe_str (nomark _))
      (pss_one (ps_ret (pe_tup (pa_cons (pe_oxf (pv 0)) pa_nil))))
      pss_nil)
      (pss_cons (ps_if (pt_cmpR op_eq (pe_oxf (pv 0)) pe_str (nomark _))
      (pss_one (ps_ret (pe_tup (pa_cons (pe_oxf (pv 0)) pa_nil))))
      pss_nil)
      (pss_one (ps_ret (pe_ifExp (pt_cmpR op_eq (pe_oxf (pv 0)) pe_str (nomark _)) (pe_tup (pa_cons (pe_oxf (pv 0)) pa_nil)) (pe_tup pa_nil))))))))), ?_⟩
    have hc : sCode ∉ names := (by decide +kernel : ∀ p ∈ tabO, sCode ∉ p.2) _ hm
    have hv : (L2.start N_Lother_field [V.ref e])[0]? = some (some (V.ref e)) := rfl
    refine ifc hE hv hc (fun z D' hD => ?_) (fun c1 => ?_)
    · obtain rfl : names = [("process" : Str)] := (by decide +kernel : ∀ p ∈ tabO, p.1 = ("Ring" : Str) → p.2 = [("process" : Str)]) _ hm z
      obtain ⟨w0, rfl⟩ := len_1 hl
      exact ret1 hE hv hD q
    refine ifc hE hv hc (fun z D' hD => ?_) (fun c2 => ?_)
    · obtain rfl : names = [("subject" : Str), "most"] := (by decide +kernel : ∀ p ∈ tabO, p.1 = ("TooMany" : Str) → p.2 = [("subject" : Str), "most"]) _ hm z
      obtain ⟨w0, w1, rfl⟩ := len_2 hl
      exact ret2 hE hv (by decide) hD q
    refine ifc hE hv hc (fun z D' hD => ?_) (fun c3 => ?_)
    · obtain rfl : names = [("block" : Str)] := (by decide +kernel : ∀ p ∈ tabO, p.1 = ("Uneven" : Str) → p.2 = [("block" : Str)]) _ hm z
      obtain ⟨w0, rfl⟩ := len_1 hl
      exact ret1 hE hv hD q
    refine ifc hE hv hc (fun z D' hD => ?_) (fun c4 => ?_)
    · obtain rfl : names = [("step" : Str)] := (by decide +kernel : ∀ p ∈ tabO, p.1 = ("UnknownStep" : Str) → p.2 = [("step" : Str)]) _ hm z
      obtain ⟨w0, rfl⟩ := len_1 hl
      exact ret1 hE hv hD q
    refine ifc hE hv hc (fun z D' hD => ?_) (fun c5 => ?_)
    · obtain rfl : names = [("limit" : Str)] := (by decide +kernel : ∀ p ∈ tabO, p.1 = ("Full" : Str) → p.2 = [("limit" : Str)]) _ hm z
      obtain ⟨w0, rfl⟩ := len_1 hl
      exact ret1 hE hv hD q
    dsimp only [tRet, tIf, tTest, tOp]
    refine oxf_code hE hv hc ?_
    refine ⟨rfl, _, rfl, ite2 (fun c => ?_) (fun c => ?_)⟩
    · obtain rfl : names = [("line" : Str)] := (by decide +kernel : ∀ p ∈ tabO, p.1 = ("InvalidPage" : Str) → p.2 = [("line" : Str)]) _ hm (V.str.inj (of_decide_eq_true c))
      obtain ⟨w0, rfl⟩ := len_1 hl
      exact ret1 (D := { nx := fun _ _ => True, rt := Q }) hE hv rfl q
    · obtain rfl : names = [] := (by decide +kernel : ∀ p ∈ tabO, p.1 ∉ (["Ring", "TooMany", "Uneven", "UnknownStep", "Full", "InvalidPage"] : List Str) → p.2 = []) _ hm (by
        simp only [List.mem_cons, List.not_mem_nil, or_false, not_or]
        exact ⟨c1, c2, c3, c4, c5, fun z => c (decide_eq_true (congrArg V.str z))⟩)
      obtain rfl := len_0 hl
      exact ⟨Nat.zero_le _, fun p np => q _ _ np (same_upd np) (tsq upd_same)⟩
theorem ok_Lfield (T : TopOk K mg A) : FnOk P w K mg base CX0 2 A.f_Lfield A.d_Lfield P_Lfield (spField K tab) := by
  refine T.F_Lfield.ok sc_Lfield (fun vs H Q E h => ?_) (fun cdv Ar outer s H vs Q E hr h => ?_)
  · obtain ⟨e, C, code, names, ws, rfl, _⟩ := h
    rfl
  · obtain ⟨e, C, code, names, ws, rfl, hm, hE, q⟩ := h
    have hl := hE.2.2.1
    have G_Lother_field := ok_Lother_field (P := P) (w := w) (base := base) T
    refine ⟨_, (pss_cons (ps_if (pt_cmpR op_in_seq (pe_oxf (pv 0)) (pe_tup (pa_cons pe_str (pa_cons pe_str (pa_cons pe_str (pa_cons pe_str (pa_cons pe_str pa_nil)))))) (by rfl))
      (pss_one (ps_ret (pe_tup (pa_cons (pe_oxf (pv 0)) pa_nil))))
      pss_nil)
      (pss_cons (ps_if (pt_cmpR op_in_seq (pe_oxf (pv 0)) (pe_tup (pa_cons pe_str (pa_cons pe_str (pa_cons pe_str (pa_cons pe_str (pa_cons pe_str pa_nil)))))) (by rfl))
      (pss_one (ps_ret (pe_tup (pa_cons (pe_oxf (pv 0)) pa_nil))))
      pss_nil)
      (pss_cons (ps_if (pt_cmpR op_in_seq (pe_oxf (pv 0)) (pe_tup (pa_cons pe_str (pa_cons pe_str (pa_cons pe_str pa_nil)))) (by rfl))
      (pss_one (ps_ret (pe_tup (pa_cons (pe_oxf (pv 0)) pa_nil))))
      pss_nil)
      (pss_cons (ps_if (pt_cmpR op_in_seq (pe_oxf (pv 0)) (pe_tup (pa_cons pe_str (pa_cons pe_str pa_nil))) (by rfl))
      (pss_one (ps_ret (pe_tup (pa_cons (pe_oxf (pv 0)) pa_nil))))
      pss_nil)
      (pss_cons (ps_if (pt_cmpR op_eq (pe_oxf (pv 0)) pe_str (nomark _))
      (pss_one (ps_ret (pe_tup (pa_cons (pe_oxf (pv 0)) (pa_cons (pe_oxf (pv 0)) pa_nil)))))
      pss_nil)
      (pss_cons (ps_if (pt_cmpR op_eq (pe_oxf (pv 0)) pe_str (nomark _))
      (pss_one (ps_ret (pe_tup (pa_cons (pe_oxf (pv 0)) (pa_cons (pe_oxf (pv 0)) (pa_cons (pe_oxf (pv 0)) pa_nil))))))
      pss_nil)
      (pss_one (ps_ret (pe_call G_Lother_field (hr.mono (by decide)) (by rfl) T.g_Lother_field T.F_Lother_field.kp T.a_Lother_field .nil pass0 (pa_cons (pv 0) pa_nil)))))))))), ?_⟩
    have hc : sCode ∉ names := (by decide +kernel : ∀ p ∈ tab, sCode ∉ p.2) _ hm
    have hv : (L2.start N_Lfield [V.ref e])[0]? = some (some (V.ref e)) := rfl
    refine ifin (zs := ["InvalidName", "InvalidPoint", "InvalidMoment", "InvalidNumber", "InvalidLimit"]) hE hv hc (fun _ q => q) (by decide) (fun z D' H1 s1 hD => ?_) (fun H1 s1 c1 => ?_)
    · obtain rfl : names = [("value" : Str)] := (by decide +kernel : ∀ p ∈ tab, p.1 ∈ (["InvalidName", "InvalidPoint", "InvalidMoment", "InvalidNumber", "InvalidLimit"] : List Str) → p.2 = [("value" : Str)]) _ hm z
      obtain ⟨w0, rfl⟩ := len_1 hl
      exact ret1 (hE.same s1) hv hD fun H' t n s => q H' t (Same.free s1 n) (s1.trans s)
    replace hE := hE.same s1
    replace q : ∀ (H' : Hp) (t : Addr), H1 t = none → Same H1 H' → SqT K H' t ws → Q (V.ref t) H' := fun H' t n s => q H' t (Same.free s1 n) (s1.trans s)
    refine ifin (zs := ["InvalidRow", "InvalidClause", "InvalidTests", "InvalidText", "InvalidCommand"]) hE hv hc (fun _ q => q) (by decide) (fun z D' H2 s2 hD => ?_) (fun H2 s2 c2 => ?_)
    · obtain rfl : names = [("at" : Str)] := (by decide +kernel : ∀ p ∈ tab, p.1 ∈ (["InvalidRow", "InvalidClause", "InvalidTests", "InvalidText", "InvalidCommand"] : List Str) → p.2 = [("at" : Str)]) _ hm z
      obtain ⟨w0, rfl⟩ := len_1 hl
      exact ret1 (hE.same s2) hv hD fun H' t n s => q H' t (Same.free s2 n) (s2.trans s)
    replace hE := hE.same s2
    replace q : ∀ (H' : Hp) (t : Addr), H2 t = none → Same H2 H' → SqT K H' t ws → Q (V.ref t) H' := fun H' t n s => q H' t (Same.free s2 n) (s2.trans s)
    refine ifin (zs := ["DuplicateName", "UnknownProcess", "UnknownName"]) hE hv hc (fun _ q => q) (by decide) (fun z D' H3 s3 hD => ?_) (fun H3 s3 c3 => ?_)
    · obtain rfl : names = [("name" : Str)] := (by decide +kernel : ∀ p ∈ tab, p.1 ∈ (["DuplicateName", "UnknownProcess", "UnknownName"] : List Str) → p.2 = [("name" : Str)]) _ hm z
      obtain ⟨w0, rfl⟩ := len_1 hl
      exact ret1 (hE.same s3) hv hD fun H' t n s => q H' t (Same.free s3 n) (s3.trans s)
    replace hE := hE.same s3
    replace q : ∀ (H' : Hp) (t : Addr), H3 t = none → Same H3 H' → SqT K H' t ws → Q (V.ref t) H' := fun H' t n s => q H' t (Same.free s3 n) (s3.trans s)
    refine ifin (zs := ["DuplicateMessage", "Unsent"]) hE hv hc (fun _ q => q) (by decide) (fun z D' H4 s4 hD => ?_) (fun H4 s4 c4 => ?_)
    · obtain rfl : names = [("message" : Str)] := (by decide +kernel : ∀ p ∈ tab, p.1 ∈ (["DuplicateMessage", "Unsent"] : List Str) → p.2 = [("message" : Str)]) _ hm z
      obtain ⟨w0, rfl⟩ := len_1 hl
      exact ret1 (hE.same s4) hv hD fun H' t n s => q H' t (Same.free s4 n) (s4.trans s)
    replace hE := hE.same s4
    replace q : ∀ (H' : Hp) (t : Addr), H4 t = none → Same H4 H' → SqT K H' t ws → Q (V.ref t) H' := fun H' t n s => q H' t (Same.free s4 n) (s4.trans s)
    refine ifc hE hv hc (fun z D' hD => ?_) (fun c5 => ?_)
    · obtain rfl : names = [("process" : Str), "index"] := (by decide +kernel : ∀ p ∈ tab, p.1 = ("InvalidStep" : Str) → p.2 = [("process" : Str), "index"]) _ hm z
      obtain ⟨w0, w1, rfl⟩ := len_2 hl
      exact ret2 hE hv (by decide) hD q
    refine ifc hE hv hc (fun z D' hD => ?_) (fun c6 => ?_)
    · obtain rfl : names = [("at" : Str), "one", "other"] := (by decide +kernel : ∀ p ∈ tab, p.1 = ("Parted" : Str) → p.2 = [("at" : Str), "one", "other"]) _ hm z
      obtain ⟨w0, w1, w2, rfl⟩ := len_3 hl
      exact ret3 hE hv (by decide) (by decide) (by decide) hD q
    refine ⟨_, hv, e, C, code, names, ws, rfl, ?_, hE, q⟩
    exact (by decide +kernel : ∀ p ∈ tab, p.1 ∉ (["InvalidName", "InvalidPoint", "InvalidMoment", "InvalidNumber", "InvalidLimit"] : List Str) → p.1 ∉ (["InvalidRow", "InvalidClause", "InvalidTests", "InvalidText", "InvalidCommand"] : List Str) → p.1 ∉ (["DuplicateName", "UnknownProcess", "UnknownName"] : List Str) →
      p.1 ∉ (["DuplicateMessage", "Unsent"] : List Str) → p.1 ≠ ("InvalidStep" : Str) → p.1 ≠ ("Parted" : Str) → p ∈ tabO) _ hm c1 c2 c3 c4 c5 c6
end
end My

set_option Elab.async false
set_option linter.all false
set_option maxRecDepth 100000
namespace My
open PySem PySem.Spec PyProof.Rows L2
local macro_rules | `(tactic| walk_at "dv") => `(tactic| repeat (first | exact dv_int | exact dv_bl | exact dv_non | exact dv_str | exact da_nil | exact dv_vi rfl | exact dv_vs rfl | exact dv_var rfl (by assumption) | apply da_cons | (refine dv_tup (by assumption) ?_ ?_) | (refine dv_lst (by assumption) ?_ ?_) | apply dv_chain | apply dv_add | apply dv_sub | apply dv_neg | (refine dv_pow ?_ ?_ ?_) | assumption | rfl))
def kitsL (A : Top) (i : Nat) : List (Value × Bool) := [(.ref A.c_InvalidName, decide (0 = i)), (.ref A.c_InvalidRow, decide (1 = i)), (.ref A.c_DuplicateName, decide (2 = i)), (.ref A.c_InvalidStep, decide (3 = i)), (.ref A.c_DuplicateMessage, decide (4 = i)), (.ref A.c_Unsent, decide (5 = i)), (.ref A.c_Ring, decide (6 = i)),
  (.ref A.c_TooMany, decide (7 = i)), (.ref A.c_InvalidPoint, decide (8 = i)), (.ref A.c_InvalidMoment, decide (9 = i)), (.ref A.c_InvalidClause, decide (10 = i)), (.ref A.c_Parted, decide (11 = i)), (.ref A.c_UnlikeLogs, decide (12 = i)), (.ref A.c_EmptyLot, decide (13 = i)), (.ref A.c_InvalidNumber, decide (14 = i)),
  (.ref A.c_InvalidWeights, decide (15 = i)), (.ref A.c_Uneven, decide (16 = i)), (.ref A.c_InvalidTests, decide (17 = i)), (.ref A.c_InvalidText, decide (18 = i)), (.ref A.c_InvalidCommand, decide (19 = i)), (.ref A.c_Full, decide (20 = i)), (.ref A.c_InvalidLimit, decide (21 = i)), (.ref A.c_InvalidPage, decide (22 = i)),
  (.ref A.c_UnknownProcess, decide (23 = i)), (.ref A.c_UnknownStep, decide (24 = i)), (.ref A.c_UnknownName, decide (25 = i)), (.ref A.c_NothingLeft, decide (26 = i)), (.ref A.c_LogError, decide (i < 23)), (.ref A.c_Missing, decide (23 ≤ i) && decide (i < 26)), (.type "ValueError", decide (i < 23)), (.type "LookupError", decide (i ≥ 23)), (.type "IndexError", decide (i = 26))]
def spCodes : Sp := fun vs H Q _ => vs = [] ∧ ∀ (H' : Hp) (p : Addr), Same H H' → H' p = some (.lst (codeL.map V.str)) → Q (.ref p) H'
def spKinds (K : PySem.W.Frag) (A : Top) : Sp := fun vs H Q _ => ∃ (e C : Addr) (code : Str) (names : List Str) (ws : List V) (i : Nat), vs = [.ref e] ∧ ErrAt K H e C code names ws ∧ kitXB K C (kitsL A i) = true ∧
  ∀ (H' : Hp) (p : Addr), H p = none → Same H H' → H' p = some (.lst ((List.range 27).map fun j => V.bl (decide (j = i)))) → Q (.ref p) H'
def oddL : List PyData := [.none, .bool true, .bool false, .str "", .str "A", .int (-(1 : Int)), .int ((10 : Int) ^ (6 : Int).toNat), .tuple [.int 1], .list [.int 1], .tuple [], .tuple [.int 0, .bool true], .str "1"]
def spOdd (K : PySem.W.Frag) : Sp := fun vs H Q _ => ∃ (B : BagId) (q : Addr) (ys : List V) (es : List PyData), vs = [.ref B.p, .ref q] ∧ Bag B H ∧ q ≠ B.p ∧ H q = some (.lst ys) ∧ DdAll K B.p H ys es ∧ es.length ≤ 100 ∧
  ∀ (v : V) (d : PyData) (H' : Hp), d ∈ oddL ++ es → Dd K B.p H' v d → Bag B H' → Ext B.p H H' → Q v H'
section
variable {K : PySem.W.Frag} {p : Addr} {σ : L2.St} {H : Hp} {tr : TA} {ds es : List PyData} {j : Nat} {q : Addr} {ys : List V} {Q : VK} {e C : Addr} {code : Str} {names : List Str} {ws : List V} {i : Nat} {c : V} {cv : Value} {b : Bool}
theorem dv_catL (hp : ∃ o, H p = some o) (h : DA K p tr σ H ds) (hv : σ[j]? = some (some (.ref q))) (hq : H q = some (.lst ys)) (hd : DdAll K p H ys es) (hl : ds.length + es.length ≤ 5000) : DV K p (tOp rCat (tLst tr) (tVar j)) σ H (.list (ds ++ es)) := fun H1 s Q qq =>
  h H1 s _ fun vs H2 s2 hs => ⟨by rw [DdAll.length hs]; exact sz (by omega), fun a na => ⟨_, hv, a, q, vs, ys, rfl, rfl, upd_same, by rw [upd_ne (ne_of_none (s2 _ _ (s _ _ hq)) na)]; exact s2 _ _ (s _ _ hq), by rw [DdAll.length hs, DdAll.length hd]; exact sz (by omega), fun b nb => by
    have s3 : Same H2 (upd H2 a (.lst vs)) := same_upd na
    have s4 : Same (upd H2 a (.lst vs)) (upd (upd H2 a (.lst vs)) b (.lst (vs ++ ys))) := same_upd nb
    exact qq _ _ ((s2.trans s3).trans s4) (.lst (ne_fresh hp ((s.trans s2).trans s3) nb) (lsq upd_same) (DdAll.app (DdAll.ext (Ext.of (s3.trans s4)) _ _ hs) (DdAll.ext (Ext.of (((s.trans s2).trans s3).trans s4)) _ _ hd)))⟩⟩
theorem isx (hE : ErrAt K H e C code names ws) (hv : σ[i]? = some (some (.ref e))) (hc : ∀ u, RelV c u → u = cv) (hk : PySem.W.kitOne K (.ref C) cv = some b) (q : Q (.bl b) H) : tCB (rIsX K) (tCons (tVar i) (tCons (tC c) tNil)) σ H Q := by
  obtain ⟨h1, h2, h3, dx, h4, h5⟩ := hE
  exact ⟨_, hv, e, C, dx, _, c, cv, b, rfl, h1, h4, h5, hc, hk, q⟩
end
section
variable {P : Program} {w : World} {K : PySem.W.Frag} {mg : Str → Option Value} {base : Heap} {A : Top}
theorem ok_Lcodes (T : TopOk K mg A) : FnOk P w K mg base CX0 1 A.f_Lcodes A.d_Lcodes P_Lcodes spCodes := by
  refine T.F_Lcodes.ok sc_Lcodes (fun vs H Q E h => ?_) (fun cdv Ar outer s H vs Q E hr h => ?_)
  · obtain ⟨rfl, _⟩ := h
    rfl
  · obtain ⟨rfl, q⟩ := h
    refine ⟨_, (pss_cons (ps_set (i := 0) sc_Lcodes.nd rfl (by first | exact Or.inl rfl | exact Or.inr rfl) (pe_lst (pa_cons pe_str (pa_cons pe_str (pa_cons pe_str (pa_cons pe_str (pa_cons pe_str (pa_cons pe_str (pa_cons pe_str (pa_cons pe_str (pa_cons pe_str pa_nil)))))))))))
      (pss_cons (ps_set (i := 0) sc_Lcodes.nd rfl (by first | exact Or.inl rfl | exact Or.inr rfl) (pe_op op_cat (pv 0) (pe_lst (pa_cons pe_str (pa_cons pe_str (pa_cons pe_str (pa_cons pe_str (pa_cons pe_str (pa_cons pe_str (pa_cons pe_str (pa_cons pe_str pa_nil)))))))))))
      (pss_cons (ps_set (i := 0) sc_Lcodes.nd rfl (by first | exact Or.inl rfl | exact Or.inr rfl) (pe_op op_cat (pv 0) (pe_lst (pa_cons pe_str (pa_cons pe_str (pa_cons pe_str (pa_cons pe_str (pa_cons pe_str (pa_cons pe_str (pa_cons pe_str pa_nil))))))))))
      (pss_one (ps_ret (pe_op op_cat (pv 0) (pe_lst (pa_cons pe_str (pa_cons pe_str (pa_cons pe_str pa_nil)))))))))), ?_⟩
    refine ⟨by show 9 ≤ sizeLine; decide, fun p1 n1 => ?_⟩
    refine ⟨_, rfl, by show 8 ≤ sizeLine; decide, fun p2 n2 => ⟨p1, p2, _, _, rfl, rfl, by rw [upd_ne (ne_of_none upd_same n2)]; exact upd_same, upd_same, by show 17 ≤ sizeLine; decide, fun p3 n3 => ?_⟩⟩
    refine ⟨_, rfl, by show 7 ≤ sizeLine; decide, fun p4 n4 => ⟨p3, p4, _, _, rfl, rfl, by rw [upd_ne (ne_of_none upd_same n4)]; exact upd_same, upd_same, by show 24 ≤ sizeLine; decide, fun p5 n5 => ?_⟩⟩
    refine ⟨_, rfl, by show 3 ≤ sizeLine; decide, fun p6 n6 => ⟨p5, p6, _, _, rfl, rfl, by rw [upd_ne (ne_of_none upd_same n6)]; exact upd_same, upd_same, by show 27 ≤ sizeLine; decide, fun p7 n7 => ?_⟩⟩
    exact q _ p7 (((((((same_upd n1).trans (same_upd n2)).trans (same_upd n3)).trans (same_upd n4)).trans (same_upd n5)).trans (same_upd n6)).trans (same_upd n7)) upd_same
theorem ok_Lodd (T : TopOk K mg A) : FnOk P w K mg base CX0 3 A.f_Lodd A.d_Lodd P_Lodd (spOdd K) := by
  refine T.F_Lodd.ok sc_Lodd (fun vs H Q E h => ?_) (fun cdv Ar outer s H vs Q E hr h => ?_)
  · obtain ⟨B, q, ys, es, rfl, _⟩ := h
    rfl
  · obtain ⟨B, q, ys, es, rfl, hB, nq, hq, hd, hl, k⟩ := h
    have G_Lof := ok_Lof (P := P) (w := w) (base := base) T
    have hp : ∃ o, H B.p = some o := hB.there
    refine ⟨_, (pss_one (ps_ret (pe_call G_Lof (hr.mono (by decide)) (by rfl) T.g_Lof T.F_Lof.kp T.a_Lof .nil pass0 (pa_cons (pv 0) (pa_cons (pe_op op_cat (pe_lst (pa_cons pe_non (pa_cons pe_bl (pa_cons pe_bl (pa_cons pe_str (pa_cons pe_str (pa_cons (pe_un un_neg pe_int) (pa_cons (pe_op op_pow pe_int pe_int) (pa_cons (pe_tup (pa_cons pe_int pa_nil)) (pa_cons (pe_lst (pa_cons pe_int pa_nil)) (pa_cons (pe_tup pa_nil) (pa_cons (pe_tup (pa_cons pe_int (pa_cons pe_bl pa_nil))) (pa_cons pe_str pa_nil))))))))))))) (pv 1)) pa_nil))))), ?_⟩
    dsimp only [tRet]
    refine of_dv (K := K) (B := B) (ds := oddL ++ es) rfl hB (dv_catL (ds := oddL) hp ?_ rfl hq hd (by show 12 + es.length ≤ 5000; omega)) (by simp [oddL]) (by simp [oddL]; omega) k
    walk_at "dv"
theorem ok_Lkinds_of (T : TopOk K mg A) : FnOk P w K mg base CX0 1 A.f_Lkinds_of A.d_Lkinds_of P_Lkinds_of (spKinds K A) := by
  refine T.F_Lkinds_of.ok sc_Lkinds_of (fun vs H Q E h => ?_) (fun cdv Ar outer s H vs Q E hr h => ?_)
  · obtain ⟨e, C, code, names, ws, i, rfl, _⟩ := h
    rfl
  · obtain ⟨e, C, code, names, ws, i, rfl, hE, hk, q⟩ := h
    refine ⟨_, (pss_cons (ps_set (i := 1) sc_Lkinds_of.nd rfl (by first | exact Or.inl rfl | exact Or.inr rfl) (pe_lst (pa_cons (pe_callB call_isX (by rfl) T.b_isinstance (by decide +kernel) (pa_cons (pv 0) (pa_cons (pe_glob (v := .ref A.c_InvalidName) (by rfl) T.m_InvalidName rfl) pa_nil))) (pa_cons (pe_callB call_isX (by rfl) T.b_isinstance (by decide +kernel) (pa_cons (pv 0) (pa_cons (pe_glob (v := .ref A.c_InvalidRow) (by rfl) T.m_InvalidRow rfl) pa_nil))) (pa_cons (pe_callB call_isX (by rfl) T.b_isinstance (by decide +kernel) (pa_cons (pv 0) (pa_cons (pe_glob (v := .ref A.c_DuplicateName) (by rfl) T.m_DuplicateName rfl) pa_nil))) (pa_cons (pe_callB call_isX (by rfl) T.b_isinstance (by decide +kernel) (pa_cons (pv 0) (pa_cons (pe_glob (v := .ref A.c_InvalidStep) (by rfl) T.m_InvalidStep rfl) pa_nil))) pa_nil))))))
      (pss_cons (ps_set (i := 1) sc_Lkinds_of.nd rfl (by first | exact Or.inl rfl | exact Or.inr rfl) (pe_op op_cat (pv 1) (pe_lst (pa_cons (pe_callB call_isX (by rfl) T.b_isinstance (by decide +kernel) (pa_cons (pv 0) (pa_cons (pe_glob (v := .ref A.c_DuplicateMessage) (by rfl) T.m_DuplicateMessage rfl) pa_nil))) (pa_cons (pe_callB call_isX (by rfl) T.b_isinstance (by decide +kernel) (pa_cons (pv 0) (pa_cons (pe_glob (v := .ref A.c_Unsent) (by rfl) T.m_Unsent rfl) pa_nil))) (pa_cons (pe_callB call_isX (by rfl) T.b_isinstance (by decide +kernel) (pa_cons (pv 0) (pa_cons (pe_glob (v := .ref A.c_Ring) (by rfl) T.m_Ring rfl) pa_nil))) (pa_cons (pe_callB call_isX (by rfl) T.b_isinstance (by decide +kernel) (pa_cons (pv 0) (pa_cons (pe_glob (v := .ref A.c_TooMany) (by rfl) T.m_TooMany rfl) pa_nil))) pa_nil)))))))
      (pss_cons (ps_set (i := 1) sc_Lkinds_of.nd rfl (by first | exact Or.inl rfl | exact Or.inr rfl) (pe_op op_cat (pv 1) (pe_lst (pa_cons (pe_callB call_isX (by rfl) T.b_isinstance (by decide +kernel) (pa_cons (pv 0) (pa_cons (pe_glob (v := .ref A.c_InvalidPoint) (by rfl) T.m_InvalidPoint rfl) pa_nil))) (pa_cons (pe_callB call_isX (by rfl) T.b_isinstance (by decide +kernel) (pa_cons (pv 0) (pa_cons (pe_glob (v := .ref A.c_InvalidMoment) (by rfl) T.m_InvalidMoment rfl) pa_nil))) (pa_cons (pe_callB call_isX (by rfl) T.b_isinstance (by decide +kernel) (pa_cons (pv 0) (pa_cons (pe_glob (v := .ref A.c_InvalidClause) (by rfl) T.m_InvalidClause rfl) pa_nil))) (pa_cons (pe_callB call_isX (by rfl) T.b_isinstance (by decide +kernel) (pa_cons (pv 0) (pa_cons (pe_glob (v := .ref A.c_Parted) (by rfl) T.m_Parted rfl) pa_nil))) pa_nil)))))))
      (pss_cons (ps_set (i := 1) sc_Lkinds_of.nd rfl (by first | exact Or.inl rfl | exact Or.inr rfl) (pe_op op_cat (pv 1) (pe_lst (pa_cons (pe_callB call_isX (by rfl) T.b_isinstance (by decide +kernel) (pa_cons (pv 0) (pa_cons (pe_glob (v := .ref A.c_UnlikeLogs) (by rfl) T.m_UnlikeLogs rfl) pa_nil))) (pa_cons (pe_callB call_isX (by rfl) T.b_isinstance (by decide +kernel) (pa_cons (pv 0) (pa_cons (pe_glob (v := .ref A.c_EmptyLot) (by rfl) T.m_EmptyLot rfl) pa_nil))) (pa_cons (pe_callB call_isX (by rfl) T.b_isinstance (by decide +kernel) (pa_cons (pv 0) (pa_cons (pe_glob (v := .ref A.c_InvalidNumber) (by rfl) T.m_InvalidNumber rfl) pa_nil))) (pa_cons (pe_callB call_isX (by rfl) T.b_isinstance (by decide +kernel) (pa_cons (pv 0) (pa_cons (pe_glob (v := .ref A.c_InvalidWeights) (by rfl) T.m_InvalidWeights rfl) pa_nil))) pa_nil)))))))
      (pss_cons (ps_set (i := 1) sc_Lkinds_of.nd rfl (by first | exact Or.inl rfl | exact Or.inr rfl) (pe_op op_cat (pv 1) (pe_lst (pa_cons (pe_callB call_isX (by rfl) T.b_isinstance (by decide +kernel) (pa_cons (pv 0) (pa_cons (pe_glob (v := .ref A.c_Uneven) (by rfl) T.m_Uneven rfl) pa_nil))) (pa_cons (pe_callB call_isX (by rfl) T.b_isinstance (by decide +kernel) (pa_cons (pv 0) (pa_cons (pe_glob (v := .ref A.c_InvalidTests) (by rfl) T.m_InvalidTests rfl) pa_nil))) (pa_cons (pe_callB call_isX (by rfl) T.b_isinstance (by decide +kernel) (pa_cons (pv 0) (pa_cons (pe_glob (v := .ref A.c_InvalidText) (by rfl) T.m_InvalidText rfl) pa_nil))) (pa_cons (pe_callB call_isX (by rfl) T.b_isinstance (by decide +kernel) (pa_cons (pv 0) (pa_cons (pe_glob (v := .ref A.c_InvalidCommand) (by rfl) T.m_InvalidCommand rfl) pa_nil))) pa_nil)))))))
      (pss_cons (ps_set (i := 1) sc_Lkinds_of.nd rfl (by first | exact Or.inl rfl | exact Or.inr rfl) (pe_op op_cat (pv 1) (pe_lst (pa_cons (pe_callB call_isX (by rfl) T.b_isinstance (by decide +kernel) (pa_cons (pv 0) (pa_cons (pe_glob (v := .ref A.c_Full) (by rfl) T.m_Full rfl) pa_nil))) (pa_cons (pe_callB call_isX (by rfl) T.b_isinstance (by decide +kernel) (pa_cons (pv 0) (pa_cons (pe_glob (v := .ref A.c_InvalidLimit) (by rfl) T.m_InvalidLimit rfl) pa_nil))) (pa_cons (pe_callB call_isX (by rfl) T.b_isinstance (by decide +kernel) (pa_cons (pv 0) (pa_cons (pe_glob (v := .ref A.c_InvalidPage) (by rfl) T.m_InvalidPage rfl) pa_nil))) (pa_cons (pe_callB call_isX (by rfl) T.b_isinstance (by decide +kernel) (pa_cons (pv 0) (pa_cons (pe_glob (v := .ref A.c_UnknownProcess) (by rfl) T.m_UnknownProcess rfl) pa_nil))) pa_nil)))))))
      (pss_one (ps_ret (pe_op op_cat (pv 1) (pe_lst (pa_cons (pe_callB call_isX (by rfl) T.b_isinstance (by decide +kernel) (pa_cons (pv 0) (pa_cons (pe_glob (v := .ref A.c_UnknownStep) (by rfl) T.m_UnknownStep rfl) pa_nil))) (pa_cons (pe_callB call_isX (by rfl) T.b_isinstance (by decide +kernel) (pa_cons (pv 0) (pa_cons (pe_glob (v := .ref A.c_UnknownName) (by rfl) T.m_UnknownName rfl) pa_nil))) (pa_cons (pe_callB call_isX (by rfl) T.b_isinstance (by decide +kernel) (pa_cons (pv 0) (pa_cons (pe_glob (v := .ref A.c_NothingLeft) (by rfl) T.m_NothingLeft rfl) pa_nil))) pa_nil))))))))))))), ?_⟩
    dsimp only [tSeq, tAsg, gName, tRet, tOp, tLst, tCons, tNil]
    refine isx (i := 0) hE rfl (fun _ h => h) (kitXB_at hk (List.mem_of_getElem? (i := 0) rfl)) ?_
    refine isx (i := 0) hE rfl (fun _ h => h) (kitXB_at hk (List.mem_of_getElem? (i := 1) rfl)) ?_
    refine isx (i := 0) hE rfl (fun _ h => h) (kitXB_at hk (List.mem_of_getElem? (i := 2) rfl)) ?_
    refine isx (i := 0) hE rfl (fun _ h => h) (kitXB_at hk (List.mem_of_getElem? (i := 3) rfl)) ?_
    refine ⟨by show 4 ≤ sizeLine; decide, fun p0 n0 => ?_⟩
    have s0 := same_upd (o := .lst [V.bl (decide (0 = i)), V.bl (decide (1 = i)), V.bl (decide (2 = i)), V.bl (decide (3 = i))]) n0
    replace hE := hE.same s0
    have e0 : (upd H p0 (.lst [V.bl (decide (0 = i)), V.bl (decide (1 = i)), V.bl (decide (2 = i)), V.bl (decide (3 = i))])) p0 = some (.lst [V.bl (decide (0 = i)), V.bl (decide (1 = i)), V.bl (decide (2 = i)), V.bl (decide (3 = i))]) := upd_same
    generalize upd H p0 (.lst [V.bl (decide (0 = i)), V.bl (decide (1 = i)), V.bl (decide (2 = i)), V.bl (decide (3 = i))]) = H1 at s0 hE e0 ⊢
    try dsimp only [List.set]
    refine ⟨_, rfl, ?_⟩
    refine isx (i := 0) hE rfl (fun _ h => h) (kitXB_at hk (List.mem_of_getElem? (i := 4) rfl)) ?_
    refine isx (i := 0) hE rfl (fun _ h => h) (kitXB_at hk (List.mem_of_getElem? (i := 5) rfl)) ?_
    refine isx (i := 0) hE rfl (fun _ h => h) (kitXB_at hk (List.mem_of_getElem? (i := 6) rfl)) ?_
    refine isx (i := 0) hE rfl (fun _ h => h) (kitXB_at hk (List.mem_of_getElem? (i := 7) rfl)) ?_
    refine ⟨by show 4 ≤ sizeLine; decide, fun q1 m1 => ⟨p0, q1, _, _, rfl, rfl, by rw [upd_ne (ne_of_none e0 m1)]; exact e0, upd_same, by show 8 ≤ sizeLine; decide, fun p1 n1 => ?_⟩⟩
    have s1 := (s0.trans (same_upd (o := .lst [V.bl (decide (4 = i)), V.bl (decide (5 = i)), V.bl (decide (6 = i)), V.bl (decide (7 = i))]) m1)).trans (same_upd (o := .lst ([V.bl (decide (0 = i)), V.bl (decide (1 = i)), V.bl (decide (2 = i)), V.bl (decide (3 = i))] ++ [V.bl (decide (4 = i)), V.bl (decide (5 = i)), V.bl (decide (6 = i)), V.bl (decide (7 = i))])) n1)
    replace hE := (hE.same (same_upd (o := .lst [V.bl (decide (4 = i)), V.bl (decide (5 = i)), V.bl (decide (6 = i)), V.bl (decide (7 = i))]) m1)).same (same_upd (o := .lst ([V.bl (decide (0 = i)), V.bl (decide (1 = i)), V.bl (decide (2 = i)), V.bl (decide (3 = i))] ++ [V.bl (decide (4 = i)), V.bl (decide (5 = i)), V.bl (decide (6 = i)), V.bl (decide (7 = i))])) n1)
    have e1 : (upd (upd H1 q1 (.lst [V.bl (decide (4 = i)), V.bl (decide (5 = i)), V.bl (decide (6 = i)), V.bl (decide (7 = i))])) p1 (.lst ([V.bl (decide (0 = i)), V.bl (decide (1 = i)), V.bl (decide (2 = i)), V.bl (decide (3 = i))] ++ [V.bl (decide (4 = i)), V.bl (decide (5 = i)), V.bl (decide (6 = i)), V.bl (decide (7 = i))]))) p1 = some (.lst ([V.bl (decide (0 = i)), V.bl (decide (1 = i)), V.bl (decide (2 = i)), V.bl (decide (3 = i))] ++ [V.bl (decide (4 = i)), V.bl (decide (5 = i)), V.bl (decide (6 = i)), V.bl (decide (7 = i))])) := upd_same
    generalize upd (upd H1 q1 (.lst [V.bl (decide (4 = i)), V.bl (decide (5 = i)), V.bl (decide (6 = i)), V.bl (decide (7 = i))])) p1 (.lst ([V.bl (decide (0 = i)), V.bl (decide (1 = i)), V.bl (decide (2 = i)), V.bl (decide (3 = i))] ++ [V.bl (decide (4 = i)), V.bl (decide (5 = i)), V.bl (decide (6 = i)), V.bl (decide (7 = i))])) = H2 at s1 hE e1 ⊢
    try dsimp only [List.set]
    refine ⟨_, rfl, ?_⟩
    refine isx (i := 0) hE rfl (fun _ h => h) (kitXB_at hk (List.mem_of_getElem? (i := 8) rfl)) ?_
    refine isx (i := 0) hE rfl (fun _ h => h) (kitXB_at hk (List.mem_of_getElem? (i := 9) rfl)) ?_
    refine isx (i := 0) hE rfl (fun _ h => h) (kitXB_at hk (List.mem_of_getElem? (i := 10) rfl)) ?_
    refine isx (i := 0) hE rfl (fun _ h => h) (kitXB_at hk (List.mem_of_getElem? (i := 11) rfl)) ?_
    refine ⟨by show 4 ≤ sizeLine; decide, fun q2 m2 => ⟨p1, q2, _, _, rfl, rfl, by rw [upd_ne (ne_of_none e1 m2)]; exact e1, upd_same, by show 12 ≤ sizeLine; decide, fun p2 n2 => ?_⟩⟩
    have s2 := (s1.trans (same_upd (o := .lst [V.bl (decide (8 = i)), V.bl (decide (9 = i)), V.bl (decide (10 = i)), V.bl (decide (11 = i))]) m2)).trans (same_upd (o := .lst (([V.bl (decide (0 = i)), V.bl (decide (1 = i)), V.bl (decide (2 = i)), V.bl (decide (3 = i))] ++ [V.bl (decide (4 = i)), V.bl (decide (5 = i)), V.bl (decide (6 = i)), V.bl (decide (7 = i))]) ++ [V.bl (decide (8 = i)), V.bl (decide (9 = i)), V.bl (decide (10 = i)), V.bl (decide (11 = i))])) n2)
    replace hE := (hE.same (same_upd (o := .lst [V.bl (decide (8 = i)), V.bl (decide (9 = i)), V.bl (decide (10 = i)), V.bl (decide (11 = i))]) m2)).same (same_upd (o := .lst (([V.bl (decide (0 = i)), V.bl (decide (1 = i)), V.bl (decide (2 = i)), V.bl (decide (3 = i))] ++ [V.bl (decide (4 = i)), V.bl (decide (5 = i)), V.bl (decide (6 = i)), V.bl (decide (7 = i))]) ++ [V.bl (decide (8 = i)), V.bl (decide (9 = i)), V.bl (decide (10 = i)), V.bl (decide (11 = i))])) n2)
    have e2 : (upd (upd H2 q2 (.lst [V.bl (decide (8 = i)), V.bl (decide (9 = i)), V.bl (decide (10 = i)), V.bl (decide (11 = i))])) p2 (.lst (([V.bl (decide (0 = i)), V.bl (decide (1 = i)), V.bl (decide (2 = i)), V.bl (decide (3 = i))] ++ [V.bl (decide (4 = i)), V.bl (decide (5 = i)), V.bl (decide (6 = i)), V.bl (decide (7 = i))]) ++ [V.bl (decide (8 = i)), V.bl (decide (9 = i)), V.bl (decide (10 = i)), V.bl (decide (11 = i))]))) p2 = some (.lst (([V.bl (decide (0 = i)), V.bl (decide (1 = i)), V.bl (decide (2 = i)), V.bl (decide (3 = i))] ++ [V.bl (decide (4 = i)), V.bl (decide (5 = i)), V.bl (decide (6 = i)), V.bl (decide (7 = i))]) ++ [V.bl (decide (8 = i)), V.bl (decide (9 = i)), V.bl (decide (10 = i)), V.bl (decide (11 = i))])) := upd_same
    generalize upd (upd H2 q2 (.lst [V.bl (decide (8 = i)), V.bl (decide (9 = i)), V.bl (decide (10 = i)), V.bl (decide (11 = i))])) p2 (.lst (([V.bl (decide (0 = i)), V.bl (decide (1 = i)), V.bl (decide (2 = i)), V.bl (decide (3 = i))] ++ [V.bl (decide (4 = i)), V.bl (decide (5 = i)), V.bl (decide (6 = i)), V.bl (decide (7 = i))]) ++ [V.bl (decide (8 = i)), V.bl (decide (9 = i)), V.bl (decide (10 = i)), V.bl (decide (11 = i))])) = H3 at s2 hE e2 ⊢
    try dsimp only [List.set]
    refine ⟨_, rfl, ?_⟩
    refine isx (i := 0) hE rfl (fun _ h => h) (kitXB_at hk (List.mem_of_getElem? (i := 12) rfl)) ?_
    refine isx (i := 0) hE rfl (fun _ h => h) (kitXB_at hk (List.mem_of_getElem? (i := 13) rfl)) ?_
    refine isx (i := 0) hE rfl (fun _ h => h) (kitXB_at hk (List.mem_of_getElem? (i := 14) rfl)) ?_
    refine isx (i := 0) hE rfl (fun _ h => h) (kitXB_at hk (List.mem_of_getElem? (i := 15) rfl)) ?_
    refine ⟨by show 4 ≤ sizeLine; decide, fun q3 m3 => ⟨p2, q3, _, _, rfl, rfl, by rw [upd_ne (ne_of_none e2 m3)]; exact e2, upd_same, by show 16 ≤ sizeLine; decide, fun p3 n3 => ?_⟩⟩
    have s3 := (s2.trans (same_upd (o := .lst [V.bl (decide (12 = i)), V.bl (decide (13 = i)), V.bl (decide (14 = i)), V.bl (decide (15 = i))]) m3)).trans (same_upd (o := .lst ((([V.bl (decide (0 = i)), V.bl (decide (1 = i)), V.bl (decide (2 = i)), V.bl (decide (3 = i))] ++ [V.bl (decide (4 = i)), V.bl (decide (5 = i)), V.bl (decide (6 = i)), V.bl (decide (7 = i))]) ++ [V.bl (decide (8 = i)), V.bl (decide (9 = i)), V.bl (decide (10 = i)), V.bl (decide (11 = i))]) ++ [V.bl (decide (12 = i)), V.bl (decide (13 = i)), V.bl (decide (14 = i)), V.bl (decide (15 = i))])) n3)
    replace hE := (hE.same (same_upd (o := .lst [V.bl (decide (12 = i)), V.bl (decide (13 = i)), V.bl (decide (14 = i)), V.bl (decide (15 = i))]) m3)).same (same_upd (o := .lst ((([V.bl (decide (0 = i)), V.bl (decide (1 = i)), V.bl (decide (2 = i)), V.bl (decide (3 = i))] ++ [V.bl (decide (4 = i)), V.bl (decide (5 = i)), V.bl (decide (6 = i)), V.bl (decide (7 = i))]) ++ [V.bl (decide (8 = i)), V.bl (decide (9 = i)), V.bl (decide (10 = i)), V.bl (decide (11 = i))]) ++ [V.bl (decide (12 = i)), V.bl (decide (13 = i)), V.bl (decide (14 = i)), V.bl (decide (15 = i))])) n3)
    have e3 : (upd (upd H3 q3 (.lst [V.bl (decide (12 = i)), V.bl (decide (13 = i)), V.bl (decide (14 = i)), V.bl (decide (15 = i))])) p3 (.lst ((([V.bl (decide (0 = i)), V.bl (decide (1 = i)), V.bl (decide (2 = i)), V.bl (decide (3 = i))] ++ [V.bl (decide (4 = i)), V.bl (decide (5 = i)), V.bl (decide (6 = i)), V.bl (decide (7 = i))]) ++ [V.bl (decide (8 = i)), V.bl (decide (9 = i)), V.bl (decide (10 = i)), V.bl (decide (11 = i))]) ++ [V.bl (decide (12 = i)), V.bl (decide (13 = i)), V.bl (decide (14 = i)), V.bl (decide (15 = i))]))) p3 = some (.lst ((([V.bl (decide (0 = i)), V.bl (decide (1 = i)), V.bl (decide (2 = i)), V.bl (decide (3 = i))] ++ [V.bl (decide (4 = i)), V.bl (decide (5 = i)), V.bl (decide (6 = i)), V.bl (decide (7 = i))]) ++ [V.bl (decide (8 = i)), V.bl (decide (9 = i)), V.bl (decide (10 = i)), V.bl (decide (11 = i))]) ++ [V.bl (decide (12 = i)), V.bl (decide (13 = i)), V.bl (decide (14 = i)), V.bl (decide (15 = i))])) := upd_same
    generalize upd (upd H3 q3 (.lst [V.bl (decide (12 = i)), V.bl (decide (13 = i)), V.bl (decide (14 = i)), V.bl (decide (15 = i))])) p3 (.lst ((([V.bl (decide (0 = i)), V.bl (decide (1 = i)), V.bl (decide (2 = i)), V.bl (decide (3 = i))] ++ [V.bl (decide (4 = i)), V.bl (decide (5 = i)), V.bl (decide (6 = i)), V.bl (decide (7 = i))]) ++ [V.bl (decide (8 = i)), V.bl (decide (9 = i)), V.bl (decide (10 = i)), V.bl (decide (11 = i))]) ++ [V.bl (decide (12 = i)), V.bl (decide (13 = i)), V.bl (decide (14 = i)), V.bl (decide (15 = i))])) = H4 at s3 hE e3 ⊢
    try dsimp only [List.set]
    refine ⟨_, rfl, ?_⟩
    refine isx (i := 0) hE rfl (fun _ h => h) (kitXB_at hk (List.mem_of_getElem? (i := 16) rfl)) ?_
    refine isx (i := 0) hE rfl (fun _ h => h) (kitXB_at hk (List.mem_of_getElem? (i := 17) rfl)) ?_
    refine isx (i := 0) hE rfl (fun _ h => h) (kitXB_at hk (List.mem_of_getElem? (i := 18) rfl)) ?_
    refine isx (i := 0) hE rfl (fun _ h => h) (kitXB_at hk (List.mem_of_getElem? (i := 19) rfl)) ?_
    refine ⟨by show 4 ≤ sizeLine; decide, fun q4 m4 => ⟨p3, q4, _, _, rfl, rfl, by rw [upd_ne (ne_of_none e3 m4)]; exact e3, upd_same, by show 20 ≤ sizeLine; decide, fun p4 n4 => ?_⟩⟩
    have s4 := (s3.trans (same_upd (o := .lst [V.bl (decide (16 = i)), V.bl (decide (17 = i)), V.bl (decide (18 = i)), V.bl (decide (19 = i))]) m4)).trans (same_upd (o := .lst (((([V.bl (decide (0 = i)), V.bl (decide (1 = i)), V.bl (decide (2 = i)), V.bl (decide (3 = i))] ++ [V.bl (decide (4 = i)), V.bl (decide (5 = i)), V.bl (decide (6 = i)), V.bl (decide (7 = i))]) ++ [V.bl (decide (8 = i)), V.bl (decide (9 = i)), V.bl (decide (10 = i)), V.bl (decide (11 = i))]) ++ [V.bl (decide (12 = i)), V.bl (decide (13 = i)), V.bl (decide (14 = i)), V.bl (decide (15 = i))]) ++ [V.bl (decide (16 = i)), V.bl (decide (17 = i)), V.bl (decide (18 = i)), V.bl (decide (19 = i))])) n4)
    replace hE := (hE.same (same_upd (o := .lst [V.bl (decide (16 = i)), V.bl (decide (17 = i)), V.bl (decide (18 = i)), V.bl (decide (19 = i))]) m4)).same (same_upd (o := .lst (((([V.bl (decide (0 = i)), V.bl (decide (1 = i)), V.bl (decide (2 = i)), V.bl (decide (3 = i))] ++ [V.bl (decide (4 = i)), V.bl (decide (5 = i)), V.bl (decide (6 = i)), V.bl (decide (7 = i))]) ++ [V.bl (decide (8 = i)), V.bl (decide (9 = i)), V.bl (decide (10 = i)), V.bl (decide (11 = i))]) ++ [V.bl (decide (12 = i)), V.bl (decide (13 = i)), V.bl (decide (14 = i)), V.bl (decide (15 = i))]) ++ [V.bl (decide (16 = i)), V.bl (decide (17 = i)), V.bl (decide (18 = i)), V.bl (decide (19 = i))])) n4)
    have e4 : (upd (upd H4 q4 (.lst [V.bl (decide (16 = i)), V.bl (decide (17 = i)), V.bl (decide (18 = i)), V.bl (decide (19 = i))])) p4 (.lst (((([V.bl (decide (0 = i)), V.bl (decide (1 = i)), V.bl (decide (2 = i)), V.bl (decide (3 = i))] ++ [V.bl (decide (4 = i)), V.bl (decide (5 = i)), V.bl (decide (6 = i)), V.bl (decide (7 = i))]) ++ [V.bl (decide (8 = i)), V.bl (decide (9 = i)), V.bl (decide (10 = i)), V.bl (decide (11 = i))]) ++ [V.bl (decide (12 = i)), V.bl (decide (13 = i)), V.bl (decide (14 = i)), V.bl (decide (15 = i))]) ++ [V.bl (decide (16 = i)), V.bl (decide (17 = i)), V.bl (decide (18 = i)), V.bl (decide (19 = i))]))) p4 = some (.lst (((([V.bl (decide (0 = i)), V.bl (decide (1 = i)), V.bl (decide (2 = i)), V.bl (decide (3 = i))] ++ [V.bl (decide (4 = i)), V.bl (decide (5 = i)), V.bl (decide (6 = i)), V.bl (decide (7 = i))]) ++ [V.bl (decide (8 = i)), V.bl (decide (9 = i)), V.bl (decide (10 = i)), V.bl (decide (11 = i))]) ++ [V.bl (decide (12 = i)), V.bl (decide (13 = i)), V.bl (decide (14 = i)), V.bl (decide (15 = i))]) ++ [V.bl (decide (16 = i)), V.bl (decide (17 = i)), V.bl (decide (18 = i)), V.bl (decide (19 = i))])) := upd_same
    generalize upd (upd H4 q4 (.lst [V.bl (decide (16 = i)), V.bl (decide (17 = i)), V.bl (decide (18 = i)), V.bl (decide (19 = i))])) p4 (.lst (((([V.bl (decide (0 = i)), V.bl (decide (1 = i)), V.bl (decide (2 = i)), V.bl (decide (3 = i))] ++ [V.bl (decide (4 = i)), V.bl (decide (5 = i)), V.bl (decide (6 = i)), V.bl (decide (7 = i))]) ++ [V.bl (decide (8 = i)), V.bl (decide (9 = i)), V.bl (decide (10 = i)), V.bl (decide (11 = i))]) ++ [V.bl (decide (12 = i)), V.bl (decide (13 = i)), V.bl (decide (14 = i)), V.bl (decide (15 = i))]) ++ [V.bl (decide (16 = i)), V.bl (decide (17 = i)), V.bl (decide (18 = i)), V.bl (decide (19 = i))])) = H5 at s4 hE e4 ⊢
    try dsimp only [List.set]
    refine ⟨_, rfl, ?_⟩
    refine isx (i := 0) hE rfl (fun _ h => h) (kitXB_at hk (List.mem_of_getElem? (i := 20) rfl)) ?_
    refine isx (i := 0) hE rfl (fun _ h => h) (kitXB_at hk (List.mem_of_getElem? (i := 21) rfl)) ?_
    refine isx (i := 0) hE rfl (fun _ h => h) (kitXB_at hk (List.mem_of_getElem? (i := 22) rfl)) ?_
    refine isx (i := 0) hE rfl (fun _ h => h) (kitXB_at hk (List.mem_of_getElem? (i := 23) rfl)) ?_
    refine ⟨by show 4 ≤ sizeLine; decide, fun q5 m5 => ⟨p4, q5, _, _, rfl, rfl, by rw [upd_ne (ne_of_none e4 m5)]; exact e4, upd_same, by show 24 ≤ sizeLine; decide, fun p5 n5 => ?_⟩⟩
    have s5 := (s4.trans (same_upd (o := .lst [V.bl (decide (20 = i)), V.bl (decide (21 = i)), V.bl (decide (22 = i)), V.bl (decide (23 = i))]) m5)).trans (same_upd (o := .lst ((((([V.bl (decide (0 = i)), V.bl (decide (1 = i)), V.bl (decide (2 = i)), V.bl (decide (3 = i))] ++ [V.bl (decide (4 = i)), V.bl (decide (5 = i)), V.bl (decide (6 = i)), V.bl (decide (7 = i))]) ++ [V.bl (decide (8 = i)), V.bl (decide (9 = i)), V.bl (decide (10 = i)), V.bl (decide (11 = i))]) ++ [V.bl (decide (12 = i)), V.bl (decide (13 = i)), V.bl (decide (14 = i)), V.bl (decide (15 = i))]) ++ [V.bl (decide (16 = i)), V.bl (decide (17 = i)), V.bl (decide (18 = i)), V.bl (decide (19 = i))]) ++ [V.bl (decide (20 = i)), V.bl (decide (21 = i)), V.bl (decide (22 = i)), V.bl (decide (23 = i))])) n5)
    replace hE := (hE.same (same_upd (o := .lst [V.bl (decide (20 = i)), V.bl (decide (21 = i)), V.bl (decide (22 = i)), V.bl (decide (23 = i))]) m5)).same (same_upd (o := .lst ((((([V.bl (decide (0 = i)), V.bl (decide (1 = i)), V.bl (decide (2 = i)), V.bl (decide (3 = i))] ++ [V.bl (decide (4 = i)), V.bl (decide (5 = i)), V.bl (decide (6 = i)), V.bl (decide (7 = i))]) ++ [V.bl (decide (8 = i)), V.bl (decide (9 = i)), V.bl (decide (10 = i)), V.bl (decide (11 = i))]) ++ [V.bl (decide (12 = i)), V.bl (decide (13 = i)), V.bl (decide (14 = i)), V.bl (decide (15 = i))]) ++ [V.bl (decide (16 = i)), V.bl (decide (17 = i)), V.bl (decide (18 = i)), V.bl (decide (19 = i))]) ++ [V.bl (decide (20 = i)), V.bl (decide (21 = i)), V.bl (decide (22 = i)), V.bl (decide (23 = i))])) n5)
    have e5 : (upd (upd H5 q5 (.lst [V.bl (decide (20 = i)), V.bl (decide (21 = i)), V.bl (decide (22 = i)), V.bl (decide (23 = i))])) p5 (.lst ((((([V.bl (decide (0 = i)), V.bl (decide (1 = i)), V.bl (decide (2 = i)), V.bl (decide (3 = i))] ++ [V.bl (decide (4 = i)), V.bl (decide (5 = i)), V.bl (decide (6 = i)), V.bl (decide (7 = i))]) ++ [V.bl (decide (8 = i)), V.bl (decide (9 = i)), V.bl (decide (10 = i)), V.bl (decide (11 = i))]) ++ [V.bl (decide (12 = i)), V.bl (decide (13 = i)), V.bl (decide (14 = i)), V.bl (decide (15 = i))]) ++ [V.bl (decide (16 = i)), V.bl (decide (17 = i)), V.bl (decide (18 = i)), V.bl (decide (19 = i))]) ++ [V.bl (decide (20 = i)), V.bl (decide (21 = i)), V.bl (decide (22 = i)), V.bl (decide (23 = i))]))) p5 = some (.lst ((((([V.bl (decide (0 = i)), V.bl (decide (1 = i)), V.bl (decide (2 = i)), V.bl (decide (3 = i))] ++ [V.bl (decide (4 = i)), V.bl (decide (5 = i)), V.bl (decide (6 = i)), V.bl (decide (7 = i))]) ++ [V.bl (decide (8 = i)), V.bl (decide (9 = i)), V.bl (decide (10 = i)), V.bl (decide (11 = i))]) ++ [V.bl (decide (12 = i)), V.bl (decide (13 = i)), V.bl (decide (14 = i)), V.bl (decide (15 = i))]) ++ [V.bl (decide (16 = i)), V.bl (decide (17 = i)), V.bl (decide (18 = i)), V.bl (decide (19 = i))]) ++ [V.bl (decide (20 = i)), V.bl (decide (21 = i)), V.bl (decide (22 = i)), V.bl (decide (23 = i))])) := upd_same
    generalize upd (upd H5 q5 (.lst [V.bl (decide (20 = i)), V.bl (decide (21 = i)), V.bl (decide (22 = i)), V.bl (decide (23 = i))])) p5 (.lst ((((([V.bl (decide (0 = i)), V.bl (decide (1 = i)), V.bl (decide (2 = i)), V.bl (decide (3 = i))] ++ [V.bl (decide (4 = i)), V.bl (decide (5 = i)), V.bl (decide (6 = i)), V.bl (decide (7 = i))]) ++ [V.bl (decide (8 = i)), V.bl (decide (9 = i)), V.bl (decide (10 = i)), V.bl (decide (11 = i))]) ++ [V.bl (decide (12 = i)), V.bl (decide (13 = i)), V.bl (decide (14 = i)), V.bl (decide (15 = i))]) ++ [V.bl (decide (16 = i)), V.bl (decide (17 = i)), V.bl (decide (18 = i)), V.bl (decide (19 = i))]) ++ [V.bl (decide (20 = i)), V.bl (decide (21 = i)), V.bl (decide (22 = i)), V.bl (decide (23 = i))])) = H6 at s5 hE e5 ⊢
    try dsimp only [List.set]
    refine ⟨_, rfl, ?_⟩
    refine isx (i := 0) hE rfl (fun _ h => h) (kitXB_at hk (List.mem_of_getElem? (i := 24) rfl)) ?_
    refine isx (i := 0) hE rfl (fun _ h => h) (kitXB_at hk (List.mem_of_getElem? (i := 25) rfl)) ?_
    refine isx (i := 0) hE rfl (fun _ h => h) (kitXB_at hk (List.mem_of_getElem? (i := 26) rfl)) ?_
    refine ⟨by show 3 ≤ sizeLine; decide, fun q6 m6 => ⟨p5, q6, _, _, rfl, rfl, by rw [upd_ne (ne_of_none e5 m6)]; exact e5, upd_same, by show 27 ≤ sizeLine; decide, fun p6 n6 => ?_⟩⟩
    exact q _ p6 (Same.free (s5.trans (same_upd m6)) n6) ((s5.trans (same_upd m6)).trans (same_upd n6)) upd_same
end
end My

set_option Elab.async false
set_option linter.all false
set_option maxRecDepth 100000
namespace My
open PySem PySem.Spec PyProof.Rows L2
def tabA (A : Top) : List (Addr × Str × List Str) := [(A.c_InvalidName, "InvalidName", ["value"]), (A.c_InvalidRow, "InvalidRow", ["at"]), (A.c_DuplicateName, "DuplicateName", ["name"]), (A.c_InvalidStep, "InvalidStep", ["process", "index"]), (A.c_DuplicateMessage, "DuplicateMessage", ["message"]), (A.c_Unsent, "Unsent", ["message"]), (A.c_Ring, "Ring", ["process"]), (A.c_TooMany, "TooMany", ["subject", "most"]), (A.c_InvalidPoint, "InvalidPoint", ["value"]), (A.c_InvalidMoment, "InvalidMoment", ["value"]), (A.c_InvalidClause, "InvalidClause", ["at"]), (A.c_Parted, "Parted", ["at", "one", "other"]), (A.c_UnlikeLogs, "UnlikeLogs", []), (A.c_EmptyLot, "EmptyLot", []), (A.c_InvalidNumber, "InvalidNumber", ["value"]), (A.c_InvalidWeights, "InvalidWeights", []), (A.c_Uneven, "Uneven", ["block"]), (A.c_InvalidTests, "InvalidTests", ["at"]), (A.c_InvalidText, "InvalidText", ["at"]), (A.c_InvalidCommand, "InvalidCommand", ["at"]), (A.c_Full, "Full", ["limit"]), (A.c_InvalidLimit, "InvalidLimit", ["value"]), (A.c_InvalidPage, "InvalidPage", ["line"]), (A.c_UnknownProcess, "UnknownProcess", ["name"]), (A.c_UnknownStep, "UnknownStep", ["step"]), (A.c_UnknownName, "UnknownName", ["name"]), (A.c_NothingLeft, "NothingLeft", [])]
def Errs (K : PySem.W.Frag) (H : Hp) (a b c : V) : List Addr → List (Addr × Str × List Str) → Prop
  | [], [] => True
  | e :: es, (C, code, names) :: r => ErrAt K H e C code names ([a, b, c].take names.length) ∧ Errs K H a b c es r
  | [], _ :: _ => False
  | _ :: _, [] => False
theorem Errs.same {K : PySem.W.Frag} {H H' : Hp} {a b c : V} (s : Same H H') : ∀ {es : List Addr} {r : List (Addr × Str × List Str)}, Errs K H a b c es r → Errs K H' a b c es r
  | [], [], _ => trivial
  | e :: es, (C, code, names) :: r, h => ⟨h.1.same s, Errs.same s h.2⟩
  | [], _ :: _, h => h.elim
  | _ :: _, [], h => h.elim
theorem Errs.length {K : PySem.W.Frag} {H : Hp} {a b c : V} : ∀ {es : List Addr} {r : List (Addr × Str × List Str)}, Errs K H a b c es r → es.length = r.length
  | [], [], _ => rfl
  | e :: es, (C, code, names) :: r, h => congrArg Nat.succ (Errs.length h.2)
  | [], _ :: _, h => h.elim
  | _ :: _, [], h => h.elim
theorem Errs.get {K : PySem.W.Frag} {H : Hp} {a b c : V} : ∀ {es : List Addr} {r : List (Addr × Str × List Str)} {i : Nat} {e : Addr}, Errs K H a b c es r → es[i]? = some e → ∃ C code names, r[i]? = some (C, code, names) ∧ ErrAt K H e C code names ([a, b, c].take names.length)
  | [], [], _, _, _, e => by simp at e
  | e :: es, (C, code, names) :: r, 0, _, h, q => by
    simp at q
    subst q
    exact ⟨C, code, names, rfl, h.1⟩
  | e :: es, (C, code, names) :: r, i + 1, _, h, q => by
    obtain ⟨C', code', names', e1, e2⟩ := Errs.get (i := i) h.2 (by simpa using q)
    exact ⟨C', code', names', by simpa using e1, e2⟩
  | [], _ :: _, _, _, h, _ => h.elim
  | _ :: _, [], _, _, h, _ => h.elim
def spMade (K : PySem.W.Frag) (A : Top) : Sp := fun vs H Q _ => ∃ (a b c : V), vs = [a, b, c] ∧ ∀ (H' : Hp) (p : Addr) (es : List Addr), Same H H' → H' p = some (.lst (es.map V.ref)) → Errs K H' a b c es (tabA A) → Q (.ref p) H'
section
variable {P : Program} {w : World} {K : PySem.W.Frag} {mg : Str → Option Value} {base : Heap} {A : Top}
theorem ok_Lmade_errors (T : TopOk K mg A) : FnOk P w K mg base CX0 3 A.f_Lmade_errors A.d_Lmade_errors P_Lmade_errors (spMade K A) := by
  refine T.F_Lmade_errors.ok sc_Lmade_errors (fun vs H Q E h => ?_) (fun cdv Ar outer s H vs Q E hr h => ?_)
  · obtain ⟨a, b, c, rfl, _⟩ := h
    rfl
  · obtain ⟨a, b, c, rfl, q⟩ := h
    refine ⟨_, (pss_cons (ps_set (i := 3) sc_Lmade_errors.nd rfl (by first | exact Or.inl rfl | exact Or.inr rfl) (pe_lst (pa_cons (pe_mkX (names := ["value"]) T.X_InvalidName T.no_InvalidName T.i_InvalidName T.t_InvalidName (ok_i_InvalidName T) (hr.mono (by decide)) T.a_i_InvalidName rfl (by decide) pass0 (by rfl) T.m_InvalidName (pa_cons (pv 0) pa_nil)) (pa_cons (pe_mkX (names := ["at"]) T.X_InvalidRow T.no_InvalidRow T.i_InvalidRow T.t_InvalidRow (ok_i_InvalidRow T) (hr.mono (by decide)) T.a_i_InvalidRow rfl (by decide) pass0 (by rfl) T.m_InvalidRow (pa_cons (pv 0) pa_nil)) (pa_cons (pe_mkX (names := ["name"]) T.X_DuplicateName T.no_DuplicateName T.i_DuplicateName T.t_DuplicateName (ok_i_DuplicateName T) (hr.mono (by decide)) T.a_i_DuplicateName rfl (by decide) pass0 (by rfl) T.m_DuplicateName (pa_cons (pv 0) pa_nil)) (pa_cons (pe_mkX (names := ["process", "index"]) T.X_InvalidStep T.no_InvalidStep T.i_InvalidStep T.t_InvalidStep (ok_i_InvalidStep T) (hr.mono (by decide)) T.a_i_InvalidStep rfl (by decide) pass0 (by rfl) T.m_InvalidStep (pa_cons (pv 0) (pa_cons (pv 1) pa_nil))) (pa_cons (pe_mkX (names := ["message"]) T.X_DuplicateMessage T.no_DuplicateMessage T.i_DuplicateMessage T.t_DuplicateMessage (ok_i_DuplicateMessage T) (hr.mono (by decide)) T.a_i_DuplicateMessage rfl (by decide) pass0 (by rfl) T.m_DuplicateMessage (pa_cons (pv 0) pa_nil)) (pa_cons (pe_mkX (names := ["message"]) T.X_Unsent T.no_Unsent T.i_Unsent T.t_Unsent (ok_i_Unsent T) (hr.mono (by decide)) T.a_i_Unsent rfl (by decide) pass0 (by rfl) T.m_Unsent (pa_cons (pv 0) pa_nil)) (pa_cons (pe_mkX (names := ["process"]) T.X_Ring T.no_Ring T.i_Ring T.t_Ring (ok_i_Ring T) (hr.mono (by decide)) T.a_i_Ring rfl (by decide) pass0 (by rfl) T.m_Ring (pa_cons (pv 0) pa_nil)) (pa_cons (pe_mkX (names := ["subject", "most"]) T.X_TooMany T.no_TooMany T.i_TooMany T.t_TooMany (ok_i_TooMany T) (hr.mono (by decide)) T.a_i_TooMany rfl (by decide) pass0 (by rfl) T.m_TooMany (pa_cons (pv 0) (pa_cons (pv 1) pa_nil))) pa_nil))))))))))
      (pss_cons (ps_set (i := 3) sc_Lmade_errors.nd rfl (by first | exact Or.inl rfl | exact Or.inr rfl) (pe_op op_cat (pv 3) (pe_lst (pa_cons (pe_mkX (names := ["value"]) T.X_InvalidPoint T.no_InvalidPoint T.i_InvalidPoint T.t_InvalidPoint (ok_i_InvalidPoint T) (hr.mono (by decide)) T.a_i_InvalidPoint rfl (by decide) pass0 (by rfl) T.m_InvalidPoint (pa_cons (pv 0) pa_nil)) (pa_cons (pe_mkX (names := ["value"]) T.X_InvalidMoment T.no_InvalidMoment T.i_InvalidMoment T.t_InvalidMoment (ok_i_InvalidMoment T) (hr.mono (by decide)) T.a_i_InvalidMoment rfl (by decide) pass0 (by rfl) T.m_InvalidMoment (pa_cons (pv 0) pa_nil)) (pa_cons (pe_mkX (names := ["at"]) T.X_InvalidClause T.no_InvalidClause T.i_InvalidClause T.t_InvalidClause (ok_i_InvalidClause T) (hr.mono (by decide)) T.a_i_InvalidClause rfl (by decide) pass0 (by rfl) T.m_InvalidClause (pa_cons (pv 0) pa_nil)) (pa_cons (pe_mkX (names := ["at", "one", "other"]) T.X_Parted T.no_Parted T.i_Parted T.t_Parted (ok_i_Parted T) (hr.mono (by decide)) T.a_i_Parted rfl (by decide) pass0 (by rfl) T.m_Parted (pa_cons (pv 0) (pa_cons (pv 1) (pa_cons (pv 2) pa_nil)))) (pa_cons (pe_mkX0 T.X_UnlikeLogs T.no_UnlikeLogs T.i_UnlikeLogs T.t_UnlikeLogs (ok_i_UnlikeLogs T) (hr.mono (by decide)) T.a_i_UnlikeLogs rfl pass0 (by rfl) T.m_UnlikeLogs) (pa_cons (pe_mkX0 T.X_EmptyLot T.no_EmptyLot T.i_EmptyLot T.t_EmptyLot (ok_i_EmptyLot T) (hr.mono (by decide)) T.a_i_EmptyLot rfl pass0 (by rfl) T.m_EmptyLot) (pa_cons (pe_mkX (names := ["value"]) T.X_InvalidNumber T.no_InvalidNumber T.i_InvalidNumber T.t_InvalidNumber (ok_i_InvalidNumber T) (hr.mono (by decide)) T.a_i_InvalidNumber rfl (by decide) pass0 (by rfl) T.m_InvalidNumber (pa_cons (pv 0) pa_nil)) pa_nil))))))))))
      (pss_cons (ps_set (i := 3) sc_Lmade_errors.nd rfl (by first | exact Or.inl rfl | exact Or.inr rfl) (pe_op op_cat (pv 3) (pe_lst (pa_cons (pe_mkX0 T.X_InvalidWeights T.no_InvalidWeights T.i_InvalidWeights T.t_InvalidWeights (ok_i_InvalidWeights T) (hr.mono (by decide)) T.a_i_InvalidWeights rfl pass0 (by rfl) T.m_InvalidWeights) (pa_cons (pe_mkX (names := ["block"]) T.X_Uneven T.no_Uneven T.i_Uneven T.t_Uneven (ok_i_Uneven T) (hr.mono (by decide)) T.a_i_Uneven rfl (by decide) pass0 (by rfl) T.m_Uneven (pa_cons (pv 0) pa_nil)) (pa_cons (pe_mkX (names := ["at"]) T.X_InvalidTests T.no_InvalidTests T.i_InvalidTests T.t_InvalidTests (ok_i_InvalidTests T) (hr.mono (by decide)) T.a_i_InvalidTests rfl (by decide) pass0 (by rfl) T.m_InvalidTests (pa_cons (pv 0) pa_nil)) (pa_cons (pe_mkX (names := ["at"]) T.X_InvalidText T.no_InvalidText T.i_InvalidText T.t_InvalidText (ok_i_InvalidText T) (hr.mono (by decide)) T.a_i_InvalidText rfl (by decide) pass0 (by rfl) T.m_InvalidText (pa_cons (pv 0) pa_nil)) (pa_cons (pe_mkX (names := ["at"]) T.X_InvalidCommand T.no_InvalidCommand T.i_InvalidCommand T.t_InvalidCommand (ok_i_InvalidCommand T) (hr.mono (by decide)) T.a_i_InvalidCommand rfl (by decide) pass0 (by rfl) T.m_InvalidCommand (pa_cons (pv 0) pa_nil)) (pa_cons (pe_mkX (names := ["limit"]) T.X_Full T.no_Full T.i_Full T.t_Full (ok_i_Full T) (hr.mono (by decide)) T.a_i_Full rfl (by decide) pass0 (by rfl) T.m_Full (pa_cons (pv 0) pa_nil)) (pa_cons (pe_mkX (names := ["value"]) T.X_InvalidLimit T.no_InvalidLimit T.i_InvalidLimit T.t_InvalidLimit (ok_i_InvalidLimit T) (hr.mono (by decide)) T.a_i_InvalidLimit rfl (by decide) pass0 (by rfl) T.m_InvalidLimit (pa_cons (pv 0) pa_nil)) (pa_cons (pe_mkX (names := ["line"]) T.X_InvalidPage T.no_InvalidPage T.i_InvalidPage T.t_InvalidPage (ok_i_InvalidPage T) (hr.mono (by decide)) T.a_i_InvalidPage rfl (by decide) pass0 (by rfl) T.m_InvalidPage (pa_cons (pv 0) pa_nil)) pa_nil)))))))))))
      (pss_one (ps_ret (pe_op op_cat (pv 3) (pe_lst (pa_cons (pe_mkX (names := ["name"]) T.X_UnknownProcess T.no_UnknownProcess T.i_UnknownProcess T.t_UnknownProcess (ok_i_UnknownProcess T) (hr.mono (by decide)) T.a_i_UnknownProcess rfl (by decide) pass0 (by rfl) T.m_UnknownProcess (pa_cons (pv 0) pa_nil)) (pa_cons (pe_mkX (names := ["step"]) T.X_UnknownStep T.no_UnknownStep T.i_UnknownStep T.t_UnknownStep (ok_i_UnknownStep T) (hr.mono (by decide)) T.a_i_UnknownStep rfl (by decide) pass0 (by rfl) T.m_UnknownStep (pa_cons (pv 0) pa_nil)) (pa_cons (pe_mkX (names := ["name"]) T.X_UnknownName T.no_UnknownName T.i_UnknownName T.t_UnknownName (ok_i_UnknownName T) (hr.mono (by decide)) T.a_i_UnknownName rfl (by decide) pass0 (by rfl) T.m_UnknownName (pa_cons (pv 0) pa_nil)) (pa_cons (pe_mkX0 T.X_NothingLeft T.no_NothingLeft T.i_NothingLeft T.t_NothingLeft (ok_i_NothingLeft T) (hr.mono (by decide)) T.a_i_NothingLeft rfl pass0 (by rfl) T.m_NothingLeft) pa_nil))))))))))), ?_⟩
    dsimp only [tSeq, tAsg, gName, tRet, tOp, tLst]
    refine ⟨_, rfl, rfl, fun e0 H1 s1 _ hE0 => ?_⟩
    refine ⟨_, rfl, rfl, fun e1 H2 s2 _ hE1 => ?_⟩
    refine ⟨_, rfl, rfl, fun e2 H3 s3 _ hE2 => ?_⟩
    refine ⟨_, rfl, _, rfl, rfl, fun e3 H4 s4 _ hE3 => ?_⟩
    refine ⟨_, rfl, rfl, fun e4 H5 s5 _ hE4 => ?_⟩
    refine ⟨_, rfl, rfl, fun e5 H6 s6 _ hE5 => ?_⟩
    refine ⟨_, rfl, rfl, fun e6 H7 s7 _ hE6 => ?_⟩
    refine ⟨_, rfl, _, rfl, rfl, fun e7 H8 s8 _ hE7 => ?_⟩
    refine ⟨by show 8 ≤ sizeLine; decide, fun p0 n0 => ?_⟩
    have s9 := same_upd (o := .lst [V.ref e0, V.ref e1, V.ref e2, V.ref e3, V.ref e4, V.ref e5, V.ref e6, V.ref e7]) n0
    have r0 : (upd H8 p0 (.lst [V.ref e0, V.ref e1, V.ref e2, V.ref e3, V.ref e4, V.ref e5, V.ref e6, V.ref e7])) p0 = some (.lst [V.ref e0, V.ref e1, V.ref e2, V.ref e3, V.ref e4, V.ref e5, V.ref e6, V.ref e7]) := upd_same
    generalize upd H8 p0 (.lst [V.ref e0, V.ref e1, V.ref e2, V.ref e3, V.ref e4, V.ref e5, V.ref e6, V.ref e7]) = H9 at s9 r0 ⊢
    try dsimp only [List.set]
    refine ⟨_, rfl, ?_⟩
    refine ⟨_, rfl, rfl, fun e8 H10 s10 _ hE8 => ?_⟩
    refine ⟨_, rfl, rfl, fun e9 H11 s11 _ hE9 => ?_⟩
    refine ⟨_, rfl, rfl, fun e10 H12 s12 _ hE10 => ?_⟩
    refine ⟨_, rfl, _, rfl, _, rfl, rfl, fun e11 H13 s13 _ hE11 => ?_⟩
    refine ⟨rfl, fun e12 H14 s14 _ hE12 => ?_⟩
    refine ⟨rfl, fun e13 H15 s15 _ hE13 => ?_⟩
    refine ⟨_, rfl, rfl, fun e14 H16 s16 _ hE14 => ?_⟩
    have u1 := (s16 _ _ (s15 _ _ (s14 _ _ (s13 _ _ (s12 _ _ (s11 _ _ (s10 _ _ r0)))))))
    refine ⟨by show 7 ≤ sizeLine; decide, fun q1 m1 => ⟨p0, q1, _, _, rfl, rfl, by rw [upd_ne (ne_of_none u1 m1)]; exact u1, upd_same, by show 15 ≤ sizeLine; decide, fun p1 n1 => ?_⟩⟩
    have s17 := (same_upd (o := .lst [V.ref e8, V.ref e9, V.ref e10, V.ref e11, V.ref e12, V.ref e13, V.ref e14]) m1).trans (same_upd (o := .lst ([V.ref e0, V.ref e1, V.ref e2, V.ref e3, V.ref e4, V.ref e5, V.ref e6, V.ref e7] ++ [V.ref e8, V.ref e9, V.ref e10, V.ref e11, V.ref e12, V.ref e13, V.ref e14])) n1)
    have r1 : (upd (upd H16 q1 (.lst [V.ref e8, V.ref e9, V.ref e10, V.ref e11, V.ref e12, V.ref e13, V.ref e14])) p1 (.lst ([V.ref e0, V.ref e1, V.ref e2, V.ref e3, V.ref e4, V.ref e5, V.ref e6, V.ref e7] ++ [V.ref e8, V.ref e9, V.ref e10, V.ref e11, V.ref e12, V.ref e13, V.ref e14]))) p1 = some (.lst ([V.ref e0, V.ref e1, V.ref e2, V.ref e3, V.ref e4, V.ref e5, V.ref e6, V.ref e7] ++ [V.ref e8, V.ref e9, V.ref e10, V.ref e11, V.ref e12, V.ref e13, V.ref e14])) := upd_same
    generalize upd (upd H16 q1 (.lst [V.ref e8, V.ref e9, V.ref e10, V.ref e11, V.ref e12, V.ref e13, V.ref e14])) p1 (.lst ([V.ref e0, V.ref e1, V.ref e2, V.ref e3, V.ref e4, V.ref e5, V.ref e6, V.ref e7] ++ [V.ref e8, V.ref e9, V.ref e10, V.ref e11, V.ref e12, V.ref e13, V.ref e14])) = H17 at s17 r1 ⊢
    try dsimp only [List.set]
    refine ⟨_, rfl, ?_⟩
    refine ⟨rfl, fun e15 H18 s18 _ hE15 => ?_⟩
    refine ⟨_, rfl, rfl, fun e16 H19 s19 _ hE16 => ?_⟩
    refine ⟨_, rfl, rfl, fun e17 H20 s20 _ hE17 => ?_⟩
    refine ⟨_, rfl, rfl, fun e18 H21 s21 _ hE18 => ?_⟩
    refine ⟨_, rfl, rfl, fun e19 H22 s22 _ hE19 => ?_⟩
    refine ⟨_, rfl, rfl, fun e20 H23 s23 _ hE20 => ?_⟩
    refine ⟨_, rfl, rfl, fun e21 H24 s24 _ hE21 => ?_⟩
    refine ⟨_, rfl, rfl, fun e22 H25 s25 _ hE22 => ?_⟩
    have u2 := (s25 _ _ (s24 _ _ (s23 _ _ (s22 _ _ (s21 _ _ (s20 _ _ (s19 _ _ (s18 _ _ r1))))))))
    refine ⟨by show 8 ≤ sizeLine; decide, fun q2 m2 => ⟨p1, q2, _, _, rfl, rfl, by rw [upd_ne (ne_of_none u2 m2)]; exact u2, upd_same, by show 23 ≤ sizeLine; decide, fun p2 n2 => ?_⟩⟩
    have s26 := (same_upd (o := .lst [V.ref e15, V.ref e16, V.ref e17, V.ref e18, V.ref e19, V.ref e20, V.ref e21, V.ref e22]) m2).trans (same_upd (o := .lst (([V.ref e0, V.ref e1, V.ref e2, V.ref e3, V.ref e4, V.ref e5, V.ref e6, V.ref e7] ++ [V.ref e8, V.ref e9, V.ref e10, V.ref e11, V.ref e12, V.ref e13, V.ref e14]) ++ [V.ref e15, V.ref e16, V.ref e17, V.ref e18, V.ref e19, V.ref e20, V.ref e21, V.ref e22])) n2)
    have r2 : (upd (upd H25 q2 (.lst [V.ref e15, V.ref e16, V.ref e17, V.ref e18, V.ref e19, V.ref e20, V.ref e21, V.ref e22])) p2 (.lst (([V.ref e0, V.ref e1, V.ref e2, V.ref e3, V.ref e4, V.ref e5, V.ref e6, V.ref e7] ++ [V.ref e8, V.ref e9, V.ref e10, V.ref e11, V.ref e12, V.ref e13, V.ref e14]) ++ [V.ref e15, V.ref e16, V.ref e17, V.ref e18, V.ref e19, V.ref e20, V.ref e21, V.ref e22]))) p2 = some (.lst (([V.ref e0, V.ref e1, V.ref e2, V.ref e3, V.ref e4, V.ref e5, V.ref e6, V.ref e7] ++ [V.ref e8, V.ref e9, V.ref e10, V.ref e11, V.ref e12, V.ref e13, V.ref e14]) ++ [V.ref e15, V.ref e16, V.ref e17, V.ref e18, V.ref e19, V.ref e20, V.ref e21, V.ref e22])) := upd_same
    generalize upd (upd H25 q2 (.lst [V.ref e15, V.ref e16, V.ref e17, V.ref e18, V.ref e19, V.ref e20, V.ref e21, V.ref e22])) p2 (.lst (([V.ref e0, V.ref e1, V.ref e2, V.ref e3, V.ref e4, V.ref e5, V.ref e6, V.ref e7] ++ [V.ref e8, V.ref e9, V.ref e10, V.ref e11, V.ref e12, V.ref e13, V.ref e14]) ++ [V.ref e15, V.ref e16, V.ref e17, V.ref e18, V.ref e19, V.ref e20, V.ref e21, V.ref e22])) = H26 at s26 r2 ⊢
    try dsimp only [List.set]
    refine ⟨_, rfl, ?_⟩
    refine ⟨_, rfl, rfl, fun e23 H27 s27 _ hE23 => ?_⟩
    refine ⟨_, rfl, rfl, fun e24 H28 s28 _ hE24 => ?_⟩
    refine ⟨_, rfl, rfl, fun e25 H29 s29 _ hE25 => ?_⟩
    refine ⟨rfl, fun e26 H30 s30 _ hE26 => ?_⟩
    have u3 := (s30 _ _ (s29 _ _ (s28 _ _ (s27 _ _ r2))))
    refine ⟨by show 4 ≤ sizeLine; decide, fun q3 m3 => ⟨p2, q3, _, _, rfl, rfl, by rw [upd_ne (ne_of_none u3 m3)]; exact u3, upd_same, by show 27 ≤ sizeLine; decide, fun p3 n3 => ?_⟩⟩
    have s31 := (same_upd (o := .lst [V.ref e23, V.ref e24, V.ref e25, V.ref e26]) m3).trans (same_upd (o := .lst ((([V.ref e0, V.ref e1, V.ref e2, V.ref e3, V.ref e4, V.ref e5, V.ref e6, V.ref e7] ++ [V.ref e8, V.ref e9, V.ref e10, V.ref e11, V.ref e12, V.ref e13, V.ref e14]) ++ [V.ref e15, V.ref e16, V.ref e17, V.ref e18, V.ref e19, V.ref e20, V.ref e21, V.ref e22]) ++ [V.ref e23, V.ref e24, V.ref e25, V.ref e26])) n3)
    have r3 : (upd (upd H30 q3 (.lst [V.ref e23, V.ref e24, V.ref e25, V.ref e26])) p3 (.lst ((([V.ref e0, V.ref e1, V.ref e2, V.ref e3, V.ref e4, V.ref e5, V.ref e6, V.ref e7] ++ [V.ref e8, V.ref e9, V.ref e10, V.ref e11, V.ref e12, V.ref e13, V.ref e14]) ++ [V.ref e15, V.ref e16, V.ref e17, V.ref e18, V.ref e19, V.ref e20, V.ref e21, V.ref e22]) ++ [V.ref e23, V.ref e24, V.ref e25, V.ref e26]))) p3 = some (.lst ((([V.ref e0, V.ref e1, V.ref e2, V.ref e3, V.ref e4, V.ref e5, V.ref e6, V.ref e7] ++ [V.ref e8, V.ref e9, V.ref e10, V.ref e11, V.ref e12, V.ref e13, V.ref e14]) ++ [V.ref e15, V.ref e16, V.ref e17, V.ref e18, V.ref e19, V.ref e20, V.ref e21, V.ref e22]) ++ [V.ref e23, V.ref e24, V.ref e25, V.ref e26])) := upd_same
    generalize upd (upd H30 q3 (.lst [V.ref e23, V.ref e24, V.ref e25, V.ref e26])) p3 (.lst ((([V.ref e0, V.ref e1, V.ref e2, V.ref e3, V.ref e4, V.ref e5, V.ref e6, V.ref e7] ++ [V.ref e8, V.ref e9, V.ref e10, V.ref e11, V.ref e12, V.ref e13, V.ref e14]) ++ [V.ref e15, V.ref e16, V.ref e17, V.ref e18, V.ref e19, V.ref e20, V.ref e21, V.ref e22]) ++ [V.ref e23, V.ref e24, V.ref e25, V.ref e26])) = H31 at s31 r3 ⊢
    try dsimp only [List.set]
    have t31 := Same.refl H31
    have t30 := s31.trans t31
    have t29 := s30.trans t30
    have t28 := s29.trans t29
    have t27 := s28.trans t28
    have t26 := s27.trans t27
    have t25 := s26.trans t26
    have t24 := s25.trans t25
    have t23 := s24.trans t24
    have t22 := s23.trans t23
    have t21 := s22.trans t22
    have t20 := s21.trans t21
    have t19 := s20.trans t20
    have t18 := s19.trans t19
    have t17 := s18.trans t18
    have t16 := s17.trans t17
    have t15 := s16.trans t16
    have t14 := s15.trans t15
    have t13 := s14.trans t14
    have t12 := s13.trans t13
    have t11 := s12.trans t12
    have t10 := s11.trans t11
    have t9 := s10.trans t10
    have t8 := s9.trans t9
    have t7 := s8.trans t8
    have t6 := s7.trans t7
    have t5 := s6.trans t6
    have t4 := s5.trans t5
    have t3 := s4.trans t4
    have t2 := s3.trans t3
    have t1 := s2.trans t2
    refine q _ p3 [e0, e1, e2, e3, e4, e5, e6, e7, e8, e9, e10, e11, e12, e13, e14, e15, e16, e17, e18, e19, e20, e21, e22, e23, e24, e25, e26] (s1.trans t1) r3 ?_
    exact ⟨hE0.same t1, hE1.same t2, hE2.same t3, hE3.same t4, hE4.same t5, hE5.same t6, hE6.same t7, hE7.same t8, hE8.same t10, hE9.same t11, hE10.same t12, hE11.same t13, hE12.same t14, hE13.same t15, hE14.same t16, hE15.same t18, hE16.same t19, hE17.same t20, hE18.same t21, hE19.same t22, hE20.same t23, hE21.same t24, hE22.same t25, hE23.same t27, hE24.same t28, hE25.same t29, hE26.same t30, trivial⟩
theorem ok_Lnamed_errors (T : TopOk K mg A) : FnOk P w K mg base CX0 3 A.f_Lnamed_errors A.d_Lnamed_errors P_Lnamed_errors (spMade K A) := by
  refine T.F_Lnamed_errors.ok sc_Lnamed_errors (fun vs H Q E h => ?_) (fun cdv Ar outer s H vs Q E hr h => ?_)
  · obtain ⟨a, b, c, rfl, _⟩ := h
    rfl
  · obtain ⟨a, b, c, rfl, q⟩ := h
    refine ⟨_, (pss_cons (ps_set (i := 3) sc_Lnamed_errors.nd rfl (by first | exact Or.inl rfl | exact Or.inr rfl) (pe_lst (pa_cons (pe_mkK (names := ["value"]) T.X_InvalidName T.no_InvalidName T.i_InvalidName T.t_InvalidName (ok_i_InvalidName T) (hr.mono (by decide)) T.kb_i_InvalidName_0_value (fun _ _ _ => rfl) (fun _ _ _ => rfl) pass0 (by rfl) T.m_InvalidName (pk_cons (pv 0) pk_nil)) (pa_cons (pe_mkK (names := ["at"]) T.X_InvalidRow T.no_InvalidRow T.i_InvalidRow T.t_InvalidRow (ok_i_InvalidRow T) (hr.mono (by decide)) T.kb_i_InvalidRow_0_at (fun _ _ _ => rfl) (fun _ _ _ => rfl) pass0 (by rfl) T.m_InvalidRow (pk_cons (pv 0) pk_nil)) (pa_cons (pe_mkK (names := ["name"]) T.X_DuplicateName T.no_DuplicateName T.i_DuplicateName T.t_DuplicateName (ok_i_DuplicateName T) (hr.mono (by decide)) T.kb_i_DuplicateName_0_name (fun _ _ _ => rfl) (fun _ _ _ => rfl) pass0 (by rfl) T.m_DuplicateName (pk_cons (pv 0) pk_nil)) (pa_cons (pe_mkK (names := ["process", "index"]) T.X_InvalidStep T.no_InvalidStep T.i_InvalidStep T.t_InvalidStep (ok_i_InvalidStep T) (hr.mono (by decide)) T.kb_i_InvalidStep_0_index_process (fun _ _ _ => rfl) (fun _ _ _ => rfl) pass0 (by rfl) T.m_InvalidStep (pk_cons (pv 1) (pk_cons (pv 0) pk_nil))) (pa_cons (pe_mkK (names := ["message"]) T.X_DuplicateMessage T.no_DuplicateMessage T.i_DuplicateMessage T.t_DuplicateMessage (ok_i_DuplicateMessage T) (hr.mono (by decide)) T.kb_i_DuplicateMessage_0_message (fun _ _ _ => rfl) (fun _ _ _ => rfl) pass0 (by rfl) T.m_DuplicateMessage (pk_cons (pv 0) pk_nil)) pa_nil)))))))
      (pss_cons (ps_set (i := 3) sc_Lnamed_errors.nd rfl (by first | exact Or.inl rfl | exact Or.inr rfl) (pe_op op_cat (pv 3) (pe_lst (pa_cons (pe_mkK (names := ["message"]) T.X_Unsent T.no_Unsent T.i_Unsent T.t_Unsent (ok_i_Unsent T) (hr.mono (by decide)) T.kb_i_Unsent_0_message (fun _ _ _ => rfl) (fun _ _ _ => rfl) pass0 (by rfl) T.m_Unsent (pk_cons (pv 0) pk_nil)) (pa_cons (pe_mkK (names := ["process"]) T.X_Ring T.no_Ring T.i_Ring T.t_Ring (ok_i_Ring T) (hr.mono (by decide)) T.kb_i_Ring_0_process (fun _ _ _ => rfl) (fun _ _ _ => rfl) pass0 (by rfl) T.m_Ring (pk_cons (pv 0) pk_nil)) (pa_cons (pe_mkK (names := ["subject", "most"]) T.X_TooMany T.no_TooMany T.i_TooMany T.t_TooMany (ok_i_TooMany T) (hr.mono (by decide)) T.kb_i_TooMany_0_most_subject (fun _ _ _ => rfl) (fun _ _ _ => rfl) pass0 (by rfl) T.m_TooMany (pk_cons (pv 1) (pk_cons (pv 0) pk_nil))) (pa_cons (pe_mkK (names := ["value"]) T.X_InvalidPoint T.no_InvalidPoint T.i_InvalidPoint T.t_InvalidPoint (ok_i_InvalidPoint T) (hr.mono (by decide)) T.kb_i_InvalidPoint_0_value (fun _ _ _ => rfl) (fun _ _ _ => rfl) pass0 (by rfl) T.m_InvalidPoint (pk_cons (pv 0) pk_nil)) (pa_cons (pe_mkK (names := ["value"]) T.X_InvalidMoment T.no_InvalidMoment T.i_InvalidMoment T.t_InvalidMoment (ok_i_InvalidMoment T) (hr.mono (by decide)) T.kb_i_InvalidMoment_0_value (fun _ _ _ => rfl) (fun _ _ _ => rfl) pass0 (by rfl) T.m_InvalidMoment (pk_cons (pv 0) pk_nil)) pa_nil))))))))
      (pss_cons (ps_set (i := 3) sc_Lnamed_errors.nd rfl (by first | exact Or.inl rfl | exact Or.inr rfl) (pe_op op_cat (pv 3) (pe_lst (pa_cons (pe_mkK (names := ["at"]) T.X_InvalidClause T.no_InvalidClause T.i_InvalidClause T.t_InvalidClause (ok_i_InvalidClause T) (hr.mono (by decide)) T.kb_i_InvalidClause_0_at (fun _ _ _ => rfl) (fun _ _ _ => rfl) pass0 (by rfl) T.m_InvalidClause (pk_cons (pv 0) pk_nil)) (pa_cons (pe_mkK (names := ["at", "one", "other"]) T.X_Parted T.no_Parted T.i_Parted T.t_Parted (ok_i_Parted T) (hr.mono (by decide)) T.kb_i_Parted_0_other_one_at (fun _ _ _ => rfl) (fun _ _ _ => rfl) pass0 (by rfl) T.m_Parted (pk_cons (pv 2) (pk_cons (pv 1) (pk_cons (pv 0) pk_nil)))) (pa_cons (pe_mkX0 T.X_UnlikeLogs T.no_UnlikeLogs T.i_UnlikeLogs T.t_UnlikeLogs (ok_i_UnlikeLogs T) (hr.mono (by decide)) T.a_i_UnlikeLogs rfl pass0 (by rfl) T.m_UnlikeLogs) (pa_cons (pe_mkX0 T.X_EmptyLot T.no_EmptyLot T.i_EmptyLot T.t_EmptyLot (ok_i_EmptyLot T) (hr.mono (by decide)) T.a_i_EmptyLot rfl pass0 (by rfl) T.m_EmptyLot) (pa_cons (pe_mkK (names := ["value"]) T.X_InvalidNumber T.no_InvalidNumber T.i_InvalidNumber T.t_InvalidNumber (ok_i_InvalidNumber T) (hr.mono (by decide)) T.kb_i_InvalidNumber_0_value (fun _ _ _ => rfl) (fun _ _ _ => rfl) pass0 (by rfl) T.m_InvalidNumber (pk_cons (pv 0) pk_nil)) (pa_cons (pe_mkX0 T.X_InvalidWeights T.no_InvalidWeights T.i_InvalidWeights T.t_InvalidWeights (ok_i_InvalidWeights T) (hr.mono (by decide)) T.a_i_InvalidWeights rfl pass0 (by rfl) T.m_InvalidWeights) pa_nil)))))))))
      (pss_cons (ps_set (i := 3) sc_Lnamed_errors.nd rfl (by first | exact Or.inl rfl | exact Or.inr rfl) (pe_op op_cat (pv 3) (pe_lst (pa_cons (pe_mkK (names := ["block"]) T.X_Uneven T.no_Uneven T.i_Uneven T.t_Uneven (ok_i_Uneven T) (hr.mono (by decide)) T.kb_i_Uneven_0_block (fun _ _ _ => rfl) (fun _ _ _ => rfl) pass0 (by rfl) T.m_Uneven (pk_cons (pv 0) pk_nil)) (pa_cons (pe_mkK (names := ["at"]) T.X_InvalidTests T.no_InvalidTests T.i_InvalidTests T.t_InvalidTests (ok_i_InvalidTests T) (hr.mono (by decide)) T.kb_i_InvalidTests_0_at (fun _ _ _ => rfl) (fun _ _ _ => rfl) pass0 (by rfl) T.m_InvalidTests (pk_cons (pv 0) pk_nil)) (pa_cons (pe_mkK (names := ["at"]) T.X_InvalidText T.no_InvalidText T.i_InvalidText T.t_InvalidText (ok_i_InvalidText T) (hr.mono (by decide)) T.kb_i_InvalidText_0_at (fun _ _ _ => rfl) (fun _ _ _ => rfl) pass0 (by rfl) T.m_InvalidText (pk_cons (pv 0) pk_nil)) (pa_cons (pe_mkK (names := ["at"]) T.X_InvalidCommand T.no_InvalidCommand T.i_InvalidCommand T.t_InvalidCommand (ok_i_InvalidCommand T) (hr.mono (by decide)) T.kb_i_InvalidCommand_0_at (fun _ _ _ => rfl) (fun _ _ _ => rfl) pass0 (by rfl) T.m_InvalidCommand (pk_cons (pv 0) pk_nil)) (pa_cons (pe_mkK (names := ["limit"]) T.X_Full T.no_Full T.i_Full T.t_Full (ok_i_Full T) (hr.mono (by decide)) T.kb_i_Full_0_limit (fun _ _ _ => rfl) (fun _ _ _ => rfl) pass0 (by rfl) T.m_Full (pk_cons (pv 0) pk_nil)) (pa_cons (pe_mkK (names := ["value"]) T.X_InvalidLimit T.no_InvalidLimit T.i_InvalidLimit T.t_InvalidLimit (ok_i_InvalidLimit T) (hr.mono (by decide)) T.kb_i_InvalidLimit_0_value (fun _ _ _ => rfl) (fun _ _ _ => rfl) pass0 (by rfl) T.m_InvalidLimit (pk_cons (pv 0) pk_nil)) pa_nil)))))))))
      (pss_one (ps_ret (pe_op op_cat (pv 3) (pe_lst (pa_cons (pe_mkK (names := ["line"]) T.X_InvalidPage T.no_InvalidPage T.i_InvalidPage T.t_InvalidPage (ok_i_InvalidPage T) (hr.mono (by decide)) T.kb_i_InvalidPage_0_line (fun _ _ _ => rfl) (fun _ _ _ => rfl) pass0 (by rfl) T.m_InvalidPage (pk_cons (pv 0) pk_nil)) (pa_cons (pe_mkK (names := ["name"]) T.X_UnknownProcess T.no_UnknownProcess T.i_UnknownProcess T.t_UnknownProcess (ok_i_UnknownProcess T) (hr.mono (by decide)) T.kb_i_UnknownProcess_0_name (fun _ _ _ => rfl) (fun _ _ _ => rfl) pass0 (by rfl) T.m_UnknownProcess (pk_cons (pv 0) pk_nil)) (pa_cons (pe_mkK (names := ["step"]) T.X_UnknownStep T.no_UnknownStep T.i_UnknownStep T.t_UnknownStep (ok_i_UnknownStep T) (hr.mono (by decide)) T.kb_i_UnknownStep_0_step (fun _ _ _ => rfl) (fun _ _ _ => rfl) pass0 (by rfl) T.m_UnknownStep (pk_cons (pv 0) pk_nil)) (pa_cons (pe_mkK (names := ["name"]) T.X_UnknownName T.no_UnknownName T.i_UnknownName T.t_UnknownName (ok_i_UnknownName T) (hr.mono (by decide)) T.kb_i_UnknownName_0_name (fun _ _ _ => rfl) (fun _ _ _ => rfl) pass0 (by rfl) T.m_UnknownName (pk_cons (pv 0) pk_nil)) (pa_cons (pe_mkX0 T.X_NothingLeft T.no_NothingLeft T.i_NothingLeft T.t_NothingLeft (ok_i_NothingLeft T) (hr.mono (by decide)) T.a_i_NothingLeft rfl pass0 (by rfl) T.m_NothingLeft) pa_nil))))))))))))), ?_⟩
    dsimp only [tSeq, tAsg, gName, tRet, tOp, tLst]
    refine ⟨_, rfl, rfl, [a], fun _ => rfl, rfl, fun e0 H1 s1 _ hE0 => ?_⟩
    refine ⟨_, rfl, rfl, [a], fun _ => rfl, rfl, fun e1 H2 s2 _ hE1 => ?_⟩
    refine ⟨_, rfl, rfl, [a], fun _ => rfl, rfl, fun e2 H3 s3 _ hE2 => ?_⟩
    refine ⟨_, rfl, _, rfl, rfl, [a, b], fun _ => rfl, rfl, fun e3 H4 s4 _ hE3 => ?_⟩
    refine ⟨_, rfl, rfl, [a], fun _ => rfl, rfl, fun e4 H5 s5 _ hE4 => ?_⟩
    refine ⟨by show 5 ≤ sizeLine; decide, fun p0 n0 => ?_⟩
    have s6 := same_upd (o := .lst [V.ref e0, V.ref e1, V.ref e2, V.ref e3, V.ref e4]) n0
    have r0 : (upd H5 p0 (.lst [V.ref e0, V.ref e1, V.ref e2, V.ref e3, V.ref e4])) p0 = some (.lst [V.ref e0, V.ref e1, V.ref e2, V.ref e3, V.ref e4]) := upd_same
    generalize upd H5 p0 (.lst [V.ref e0, V.ref e1, V.ref e2, V.ref e3, V.ref e4]) = H6 at s6 r0 ⊢
    try dsimp only [List.set]
    refine ⟨_, rfl, ?_⟩
    refine ⟨_, rfl, rfl, [a], fun _ => rfl, rfl, fun e5 H7 s7 _ hE5 => ?_⟩
    refine ⟨_, rfl, rfl, [a], fun _ => rfl, rfl, fun e6 H8 s8 _ hE6 => ?_⟩
    refine ⟨_, rfl, _, rfl, rfl, [a, b], fun _ => rfl, rfl, fun e7 H9 s9 _ hE7 => ?_⟩
    refine ⟨_, rfl, rfl, [a], fun _ => rfl, rfl, fun e8 H10 s10 _ hE8 => ?_⟩
    refine ⟨_, rfl, rfl, [a], fun _ => rfl, rfl, fun e9 H11 s11 _ hE9 => ?_⟩
    have u1 := (s11 _ _ (s10 _ _ (s9 _ _ (s8 _ _ (s7 _ _ r0)))))
    refine ⟨by show 5 ≤ sizeLine; decide, fun q1 m1 => ⟨p0, q1, _, _, rfl, rfl, by rw [upd_ne (ne_of_none u1 m1)]; exact u1, upd_same, by show 10 ≤ sizeLine; decide, fun p1 n1 => ?_⟩⟩
    have s12 := (same_upd (o := .lst [V.ref e5, V.ref e6, V.ref e7, V.ref e8, V.ref e9]) m1).trans (same_upd (o := .lst ([V.ref e0, V.ref e1, V.ref e2, V.ref e3, V.ref e4] ++ [V.ref e5, V.ref e6, V.ref e7, V.ref e8, V.ref e9])) n1)
    have r1 : (upd (upd H11 q1 (.lst [V.ref e5, V.ref e6, V.ref e7, V.ref e8, V.ref e9])) p1 (.lst ([V.ref e0, V.ref e1, V.ref e2, V.ref e3, V.ref e4] ++ [V.ref e5, V.ref e6, V.ref e7, V.ref e8, V.ref e9]))) p1 = some (.lst ([V.ref e0, V.ref e1, V.ref e2, V.ref e3, V.ref e4] ++ [V.ref e5, V.ref e6, V.ref e7, V.ref e8, V.ref e9])) := upd_same
    generalize upd (upd H11 q1 (.lst [V.ref e5, V.ref e6, V.ref e7, V.ref e8, V.ref e9])) p1 (.lst ([V.ref e0, V.ref e1, V.ref e2, V.ref e3, V.ref e4] ++ [V.ref e5, V.ref e6, V.ref e7, V.ref e8, V.ref e9])) = H12 at s12 r1 ⊢
    try dsimp only [List.set]
    refine ⟨_, rfl, ?_⟩
    refine ⟨_, rfl, rfl, [a], fun _ => rfl, rfl, fun e10 H13 s13 _ hE10 => ?_⟩
    refine ⟨_, rfl, _, rfl, _, rfl, rfl, [a, b, c], fun _ => rfl, rfl, fun e11 H14 s14 _ hE11 => ?_⟩
    refine ⟨rfl, fun e12 H15 s15 _ hE12 => ?_⟩
    refine ⟨rfl, fun e13 H16 s16 _ hE13 => ?_⟩
    refine ⟨_, rfl, rfl, [a], fun _ => rfl, rfl, fun e14 H17 s17 _ hE14 => ?_⟩
    refine ⟨rfl, fun e15 H18 s18 _ hE15 => ?_⟩
    have u2 := (s18 _ _ (s17 _ _ (s16 _ _ (s15 _ _ (s14 _ _ (s13 _ _ r1))))))
    refine ⟨by show 6 ≤ sizeLine; decide, fun q2 m2 => ⟨p1, q2, _, _, rfl, rfl, by rw [upd_ne (ne_of_none u2 m2)]; exact u2, upd_same, by show 16 ≤ sizeLine; decide, fun p2 n2 => ?_⟩⟩
    have s19 := (same_upd (o := .lst [V.ref e10, V.ref e11, V.ref e12, V.ref e13, V.ref e14, V.ref e15]) m2).trans (same_upd (o := .lst (([V.ref e0, V.ref e1, V.ref e2, V.ref e3, V.ref e4] ++ [V.ref e5, V.ref e6, V.ref e7, V.ref e8, V.ref e9]) ++ [V.ref e10, V.ref e11, V.ref e12, V.ref e13, V.ref e14, V.ref e15])) n2)
    have r2 : (upd (upd H18 q2 (.lst [V.ref e10, V.ref e11, V.ref e12, V.ref e13, V.ref e14, V.ref e15])) p2 (.lst (([V.ref e0, V.ref e1, V.ref e2, V.ref e3, V.ref e4] ++ [V.ref e5, V.ref e6, V.ref e7, V.ref e8, V.ref e9]) ++ [V.ref e10, V.ref e11, V.ref e12, V.ref e13, V.ref e14, V.ref e15]))) p2 = some (.lst (([V.ref e0, V.ref e1, V.ref e2, V.ref e3, V.ref e4] ++ [V.ref e5, V.ref e6, V.ref e7, V.ref e8, V.ref e9]) ++ [V.ref e10, V.ref e11, V.ref e12, V.ref e13, V.ref e14, V.ref e15])) := upd_same
    generalize upd (upd H18 q2 (.lst [V.ref e10, V.ref e11, V.ref e12, V.ref e13, V.ref e14, V.ref e15])) p2 (.lst (([V.ref e0, V.ref e1, V.ref e2, V.ref e3, V.ref e4] ++ [V.ref e5, V.ref e6, V.ref e7, V.ref e8, V.ref e9]) ++ [V.ref e10, V.ref e11, V.ref e12, V.ref e13, V.ref e14, V.ref e15])) = H19 at s19 r2 ⊢
    try dsimp only [List.set]
    refine ⟨_, rfl, ?_⟩
    refine ⟨_, rfl, rfl, [a], fun _ => rfl, rfl, fun e16 H20 s20 _ hE16 => ?_⟩
    refine ⟨_, rfl, rfl, [a], fun _ => rfl, rfl, fun e17 H21 s21 _ hE17 => ?_⟩
    refine ⟨_, rfl, rfl, [a], fun _ => rfl, rfl, fun e18 H22 s22 _ hE18 => ?_⟩
    refine ⟨_, rfl, rfl, [a], fun _ => rfl, rfl, fun e19 H23 s23 _ hE19 => ?_⟩
    refine ⟨_, rfl, rfl, [a], fun _ => rfl, rfl, fun e20 H24 s24 _ hE20 => ?_⟩
    refine ⟨_, rfl, rfl, [a], fun _ => rfl, rfl, fun e21 H25 s25 _ hE21 => ?_⟩
    have u3 := (s25 _ _ (s24 _ _ (s23 _ _ (s22 _ _ (s21 _ _ (s20 _ _ r2))))))
    refine ⟨by show 6 ≤ sizeLine; decide, fun q3 m3 => ⟨p2, q3, _, _, rfl, rfl, by rw [upd_ne (ne_of_none u3 m3)]; exact u3, upd_same, by show 22 ≤ sizeLine; decide, fun p3 n3 => ?_⟩⟩
    have s26 := (same_upd (o := .lst [V.ref e16, V.ref e17, V.ref e18, V.ref e19, V.ref e20, V.ref e21]) m3).trans (same_upd (o := .lst ((([V.ref e0, V.ref e1, V.ref e2, V.ref e3, V.ref e4] ++ [V.ref e5, V.ref e6, V.ref e7, V.ref e8, V.ref e9]) ++ [V.ref e10, V.ref e11, V.ref e12, V.ref e13, V.ref e14, V.ref e15]) ++ [V.ref e16, V.ref e17, V.ref e18, V.ref e19, V.ref e20, V.ref e21])) n3)
    have r3 : (upd (upd H25 q3 (.lst [V.ref e16, V.ref e17, V.ref e18, V.ref e19, V.ref e20, V.ref e21])) p3 (.lst ((([V.ref e0, V.ref e1, V.ref e2, V.ref e3, V.ref e4] ++ [V.ref e5, V.ref e6, V.ref e7, V.ref e8, V.ref e9]) ++ [V.ref e10, V.ref e11, V.ref e12, V.ref e13, V.ref e14, V.ref e15]) ++ [V.ref e16, V.ref e17, V.ref e18, V.ref e19, V.ref e20, V.ref e21]))) p3 = some (.lst ((([V.ref e0, V.ref e1, V.ref e2, V.ref e3, V.ref e4] ++ [V.ref e5, V.ref e6, V.ref e7, V.ref e8, V.ref e9]) ++ [V.ref e10, V.ref e11, V.ref e12, V.ref e13, V.ref e14, V.ref e15]) ++ [V.ref e16, V.ref e17, V.ref e18, V.ref e19, V.ref e20, V.ref e21])) := upd_same
    generalize upd (upd H25 q3 (.lst [V.ref e16, V.ref e17, V.ref e18, V.ref e19, V.ref e20, V.ref e21])) p3 (.lst ((([V.ref e0, V.ref e1, V.ref e2, V.ref e3, V.ref e4] ++ [V.ref e5, V.ref e6, V.ref e7, V.ref e8, V.ref e9]) ++ [V.ref e10, V.ref e11, V.ref e12, V.ref e13, V.ref e14, V.ref e15]) ++ [V.ref e16, V.ref e17, V.ref e18, V.ref e19, V.ref e20, V.ref e21])) = H26 at s26 r3 ⊢
    try dsimp only [List.set]
    refine ⟨_, rfl, ?_⟩
    refine ⟨_, rfl, rfl, [a], fun _ => rfl, rfl, fun e22 H27 s27 _ hE22 => ?_⟩
    refine ⟨_, rfl, rfl, [a], fun _ => rfl, rfl, fun e23 H28 s28 _ hE23 => ?_⟩
    refine ⟨_, rfl, rfl, [a], fun _ => rfl, rfl, fun e24 H29 s29 _ hE24 => ?_⟩
    refine ⟨_, rfl, rfl, [a], fun _ => rfl, rfl, fun e25 H30 s30 _ hE25 => ?_⟩
    refine ⟨rfl, fun e26 H31 s31 _ hE26 => ?_⟩
    have u4 := (s31 _ _ (s30 _ _ (s29 _ _ (s28 _ _ (s27 _ _ r3)))))
    refine ⟨by show 5 ≤ sizeLine; decide, fun q4 m4 => ⟨p3, q4, _, _, rfl, rfl, by rw [upd_ne (ne_of_none u4 m4)]; exact u4, upd_same, by show 27 ≤ sizeLine; decide, fun p4 n4 => ?_⟩⟩
    have s32 := (same_upd (o := .lst [V.ref e22, V.ref e23, V.ref e24, V.ref e25, V.ref e26]) m4).trans (same_upd (o := .lst (((([V.ref e0, V.ref e1, V.ref e2, V.ref e3, V.ref e4] ++ [V.ref e5, V.ref e6, V.ref e7, V.ref e8, V.ref e9]) ++ [V.ref e10, V.ref e11, V.ref e12, V.ref e13, V.ref e14, V.ref e15]) ++ [V.ref e16, V.ref e17, V.ref e18, V.ref e19, V.ref e20, V.ref e21]) ++ [V.ref e22, V.ref e23, V.ref e24, V.ref e25, V.ref e26])) n4)
    have r4 : (upd (upd H31 q4 (.lst [V.ref e22, V.ref e23, V.ref e24, V.ref e25, V.ref e26])) p4 (.lst (((([V.ref e0, V.ref e1, V.ref e2, V.ref e3, V.ref e4] ++ [V.ref e5, V.ref e6, V.ref e7, V.ref e8, V.ref e9]) ++ [V.ref e10, V.ref e11, V.ref e12, V.ref e13, V.ref e14, V.ref e15]) ++ [V.ref e16, V.ref e17, V.ref e18, V.ref e19, V.ref e20, V.ref e21]) ++ [V.ref e22, V.ref e23, V.ref e24, V.ref e25, V.ref e26]))) p4 = some (.lst (((([V.ref e0, V.ref e1, V.ref e2, V.ref e3, V.ref e4] ++ [V.ref e5, V.ref e6, V.ref e7, V.ref e8, V.ref e9]) ++ [V.ref e10, V.ref e11, V.ref e12, V.ref e13, V.ref e14, V.ref e15]) ++ [V.ref e16, V.ref e17, V.ref e18, V.ref e19, V.ref e20, V.ref e21]) ++ [V.ref e22, V.ref e23, V.ref e24, V.ref e25, V.ref e26])) := upd_same
    generalize upd (upd H31 q4 (.lst [V.ref e22, V.ref e23, V.ref e24, V.ref e25, V.ref e26])) p4 (.lst (((([V.ref e0, V.ref e1, V.ref e2, V.ref e3, V.ref e4] ++ [V.ref e5, V.ref e6, V.ref e7, V.ref e8, V.ref e9]) ++ [V.ref e10, V.ref e11, V.ref e12, V.ref e13, V.ref e14, V.ref e15]) ++ [V.ref e16, V.ref e17, V.ref e18, V.ref e19, V.ref e20, V.ref e21]) ++ [V.ref e22, V.ref e23, V.ref e24, V.ref e25, V.ref e26])) = H32 at s32 r4 ⊢
    try dsimp only [List.set]
    have t32 := Same.refl H32
    have t31 := s32.trans t32
    have t30 := s31.trans t31
    have t29 := s30.trans t30
    have t28 := s29.trans t29
    have t27 := s28.trans t28
    have t26 := s27.trans t27
    have t25 := s26.trans t26
    have t24 := s25.trans t25
    have t23 := s24.trans t24
    have t22 := s23.trans t23
    have t21 := s22.trans t22
    have t20 := s21.trans t21
    have t19 := s20.trans t20
    have t18 := s19.trans t19
    have t17 := s18.trans t18
    have t16 := s17.trans t17
    have t15 := s16.trans t16
    have t14 := s15.trans t15
    have t13 := s14.trans t14
    have t12 := s13.trans t13
    have t11 := s12.trans t12
    have t10 := s11.trans t11
    have t9 := s10.trans t10
    have t8 := s9.trans t9
    have t7 := s8.trans t8
    have t6 := s7.trans t7
    have t5 := s6.trans t6
    have t4 := s5.trans t5
    have t3 := s4.trans t4
    have t2 := s3.trans t3
    have t1 := s2.trans t2
    refine q _ p4 [e0, e1, e2, e3, e4, e5, e6, e7, e8, e9, e10, e11, e12, e13, e14, e15, e16, e17, e18, e19, e20, e21, e22, e23, e24, e25, e26] (s1.trans t1) r4 ?_
    exact ⟨hE0.same t1, hE1.same t2, hE2.same t3, hE3.same t4, hE4.same t5, hE5.same t7, hE6.same t8, hE7.same t9, hE8.same t10, hE9.same t11, hE10.same t13, hE11.same t14, hE12.same t15, hE13.same t16, hE14.same t17, hE15.same t18, hE16.same t20, hE17.same t21, hE18.same t22, hE19.same t23, hE20.same t24, hE21.same t25, hE22.same t27, hE23.same t28, hE24.same t29, hE25.same t30, hE26.same t31, trivial⟩
end
end My

set_option Elab.async false
set_option linter.all false
set_option maxRecDepth 100000
namespace My
open PySem PySem.Spec PyProof.Rows L2
theorem inV_str (code : Str) : ∀ zs : List Str, inV (.str code) (zs.map V.str) = decide (code ∈ zs)
  | [] => rfl
  | z :: zs => by
    show ((z == code) || inV (.str code) (zs.map V.str)) = _
    rw [inV_str code zs, Bool.eq_iff_iff, Bool.or_eq_true, beq_iff_eq, decide_eq_true_iff, decide_eq_true_iff, List.mem_cons]
    exact or_congr_left eq_comm
section
variable {K : PySem.W.Frag} {p : Addr} {σ : L2.St} {H : Hp} {ta tb te tc : TE} {tr : TA} {d d' e' : PyData} {ds : List PyData} {e C : Addr} {code z : Str} {names : List Str} {ws : List V} {i j n : Nat} {E : XK} {zs : List Str} {b : Bool}
theorem dv_code (hE : ErrAt K H e C code names ws) (hv : σ[i]? = some (some (.ref e))) (hn : sCode ∉ names) : DV K p (tOxf K sCode (tVar i)) σ H (.str code) := fun H1 s Q q => oxf_code (hE.same s) hv hn (q _ _ (Same.refl _) (.str _))
theorem dv_field (hE : ErrAt K H e C code names ws) (hv : σ[i]? = some (some (.ref e))) (hm : (code, names) ∈ tab) (hp : ∃ o, H p = some o) (hd : DdAll K p H ws ds) : DV K p (tCall (spField K tab) [] E (tCons (tVar i) tNil)) σ H (.tuple ds) := fun H1 s Q q =>
  ⟨_, hv, e, C, code, names, ws, rfl, hm, hE.same s, fun H' t nt s' st => q _ _ s' (.tup (ne_fresh hp s nt) st (DdAll.ext (Ext.of (s.trans s')) _ _ hd))⟩
theorem dv_ixS {r : Addr} {xs : List V} (hv : σ[i]? = some (some (.ref r))) (hr : H r = some (.lst xs)) (hj : σ[j]? = some (some (.int (n : Int)))) (hx : xs[n]? = some (.str z)) : DV K p (tOp (rIx K) (tVar i) (tVar j)) σ H (.str z) := fun H1 s Q q =>
  ⟨_, hv, _, hj, .inl ⟨r, xs, _, _, rfl, rfl, lsq (s _ _ hr), atI_nat hx, q _ _ (Same.refl _) (.str _)⟩⟩
theorem dv_inS (h : DV K p te σ H (.str code)) (hr : ∀ (H' : Hp) (Q' : List V → Hp → Prop), Q' (zs.map V.str) H' → tr σ H' Q') (hl : zs.length ≤ 100) : DV K p (tOp (rIn K false) te (tTup tr)) σ H (.bool (decide (code ∈ zs))) := fun H1 s Q q =>
  h H1 s _ fun v H2 s2 hv => by
    have e := Dd.s hv
    subst e
    refine hr H2 _ ⟨by rw [List.length_map]; exact sz (by omega), fun a na => ?_⟩
    refine ⟨a, _, rfl, .inr (tsq upd_same), rfl, ?_, ?_⟩
    · rw [List.all_eq_true]
      intro x hx
      obtain ⟨z, _, rfl⟩ := List.mem_map.mp hx
      rfl
    · show Q (.bl (inV (.str code) (zs.map V.str))) _
      rw [inV_str]
      exact q _ _ (s2.trans (same_upd na)) (.bl _)
theorem dv_eqS (h : DV K p te σ H (.str code)) : DV K p (tOp rEq te (tC (.str z))) σ H (.bool (decide (code = z))) := fun H1 s Q q =>
  h H1 s _ fun v H2 s2 hv => by
    have e := Dd.s hv
    subst e
    refine ⟨rfl, ?_⟩
    have k : decide (V.str code = V.str z) = decide (code = z) := by
      rw [Bool.eq_iff_iff, decide_eq_true_iff, decide_eq_true_iff]
      exact ⟨fun h => V.str.inj h, fun h => congrArg _ h⟩
    rw [k]
    exact q _ _ s2 (.bl _)
theorem dv_eqI {a c : Int} (ha : DV K p ta σ H (.int a)) (hb : DV K p tb σ H (.int c)) : DV K p (tOp rEq ta tb) σ H (.bool (decide (a = c))) := fun H1 s Q q =>
  ha H1 s _ fun v H2 s2 hv => hb H2 (s.trans s2) _ fun w H3 s3 hw => by
    have e := Dd.i hv
    subst e
    have e := Dd.i hw
    subst e
    refine ⟨rfl, ?_⟩
    have k : decide (V.int a = V.int c) = decide (a = c) := by
      rw [Bool.eq_iff_iff, decide_eq_true_iff, decide_eq_true_iff]
      exact ⟨fun h => V.int.inj h, fun h => congrArg _ h⟩
    rw [k]
    exact q _ _ (s2.trans s3) (.bl _)
theorem dv_if (hc : DV K p tc σ H (.bool b)) (h1 : b = true → DV K p ta σ H d) (h2 : b = false → DV K p tb σ H d) : DV K p (tIf (tTest tc) ta tb) σ H d := fun H1 s Q q =>
  hc H1 s _ fun v H2 s2 hv => ⟨b, Dd.b hv, by
    cases b with
    | true => exact iteT (h1 rfl H2 (s.trans s2) _ fun v H3 s3 hv => q _ _ (s2.trans s3) hv)
    | false => exact iteF (h2 rfl H2 (s.trans s2) _ fun v H3 s3 hv => q _ _ (s2.trans s3) hv)⟩
theorem dv_lt {a c : Int} (ha : DV K p ta σ H (.int a)) (hb : DV K p tb σ H (.int c)) : DV K p (tOp (rI0 fun i j => .bl (decide (i < j))) ta tb) σ H (.bool (decide (a < c))) := dv_I0 ha hb fun _ => .bl _
theorem dv_ge {a c : Int} (ha : DV K p ta σ H (.int a)) (hb : DV K p tb σ H (.int c)) : DV K p (tOp (rI0 fun i j => .bl (decide (j ≤ i))) ta tb) σ H (.bool (decide (c ≤ a))) := dv_I0 (g := fun i j => .bl (decide (j ≤ i))) ha hb fun _ => .bl _
theorem dv_chainL {i j k : Int} (ha : DV K p ta σ H (.int i)) (hb : DV K p tb σ H (.int j)) (hc : DV K p tc σ H (.int k)) :
    DV K p (tChain (rI0 fun i j => .bl (decide (i ≤ j))) (rI0 fun i j => .bl (decide (i < j))) ta tb tc) σ H (.bool (decide (i ≤ j) && decide (j < k))) := fun H1 s Q q =>
  ha H1 s _ fun x H2 s2 hx => hb H2 (s.trans s2) _ fun y H3 s3 hy => ⟨i, j, Dd.i hx, Dd.i hy, _, rfl, ite2 (fun e => by
    rw [e, Bool.true_and] at q
    exact hc H3 ((s.trans s2).trans s3) _ fun z H4 s4 hz => ⟨j, k, Dd.i hy, Dd.i hz, q _ _ ((s2.trans s3).trans s4) (.bl _)⟩) fun e => by
    rw [Bool.eq_false_iff.mpr e, Bool.false_and] at q
    exact q _ _ (s2.trans s3) (.bl _)⟩
theorem dv_neD (ha : DV K p ta σ H d) (hb : DV K p tb σ H d') (hd : fine d = true) (he : fine d' = true) : DV K p (tOp (rNeD K) ta tb) σ H (.bool (!PyData.eqv d d')) := fun H1 s Q q =>
  ha H1 s _ fun x H2 s2 hx => hb H2 (s.trans s2) _ fun y H3 s3 hy => ⟨d, d', Dd.dp _ _ (Dd.ext (Ext.of s3) _ _ hx), Dd.dp _ _ hy, fine_shaped hd, fine_shaped he, q _ _ (s2.trans s3) (.bl _)⟩
theorem dv_isx {c : V} {cv : Value} (hE : ErrAt K H e C code names ws) (hv : σ[i]? = some (some (.ref e))) (hc : ∀ u, RelV c u → u = cv) (hk : PySem.W.kitOne K (.ref C) cv = some b) : DV K p (tCB (rIsX K) (tCons (tVar i) (tCons (tC c) tNil))) σ H (.bool b) := fun H1 s Q q =>
  isx (hE.same s) hv hc hk (q _ _ (Same.refl _) (.bl _))
theorem if_no {D : Ends} {tt tz : TS} (h : DV K p tc σ H (.bool false)) (k : ∀ H', Same H H' → tz D σ H') : tSeq (tIfS (tTest tc) tt tNext) tz D σ H :=
  h H (Same.refl _) _ fun v H2 s2 hv => ⟨false, Dd.b hv, iteF (k H2 s2)⟩
theorem if_no2 {D : Ends} {tt : TS} {tc2 : TE} (h : DV K p tc σ H (.bool false)) (h2 : DV K p tc2 σ H (.bool false)) (k : ∀ H', Same H H' → D.nx σ H') : tIfS (tOr (tTest tc) (tTest tc2)) tt tNext D σ H :=
  h H (Same.refl _) _ fun v H2 s2 hv => ⟨false, Dd.b hv, iteF (h2 H2 s2 _ fun v H3 s3 hv => ⟨false, Dd.b hv, iteF (k H3 (s2.trans s3))⟩)⟩
/-- _law_odd(bag, [..]) -/
theorem odd_of {B : BagId} {Q : VK} {q : Addr} {ys : List V} {es : List PyData} (hv : σ[i]? = some (some (.ref B.p))) (hB : Bag B H) (hq : H q = some (.lst ys)) (nq : q ≠ B.p) (hd : DdAll K B.p H ys es) (hl : es.length ≤ 100)
    (k : ∀ v d H', d ∈ oddL ++ es → Dd K B.p H' v d → Bag B H' → Ext B.p H H' → Q v H') : spOdd K [.ref B.p, .ref q] H Q E := ⟨B, q, ys, es, rfl, hB, nq, hq, hd, hl, k⟩
theorem odd_dv {B : BagId} {Q : VK} {es : List PyData} (hv : σ[i]? = some (some (.ref B.p))) (hB : Bag B H) (h : DA K B.p tr σ H es) (hl : es.length ≤ 100)
    (k : ∀ v d H', d ∈ oddL ++ es → Dd K B.p H' v d → Bag B H' → Ext B.p H H' → Q v H') : tCall (spOdd K) [] E (tCons (tVar i) (tCons (tLst tr) tNil)) σ H Q :=
  ⟨_, hv, h H (Same.refl _) _ fun vs H2 s2 hs => ⟨by rw [DdAll.length hs]; exact sz (by omega), fun a na => by
    have s3 : Same H2 (upd H2 a (.lst vs)) := same_upd na
    exact ⟨B, a, vs, es, rfl, hB.ext (s2.trans s3), ne_fresh hB.there s2 na, upd_same, DdAll.ext (Ext.of s3) _ _ hs, hl, fun v d H' m hv hB' ex => k v d H' m hv hB' ((Ext.of (s2.trans s3)).trans ex)⟩⟩⟩
end
/-! ### bools -/
def bools (i : Nat) : List PyData := (List.range 27).map fun j => .bool (decide (j = i))
theorem dd_bools {K : PySem.W.Frag} {p : Addr} {H : Hp} {i : Nat} : ∀ l : List Nat, DdAll K p H (l.map fun j => V.bl (decide (j = i))) (l.map fun j => PyData.bool (decide (j = i)))
  | [] => .nil
  | _ :: l => .cons (.bl _) (dd_bools l)
section
variable {K : PySem.W.Frag} {A : Top} {p : Addr} {σ : L2.St} {H : Hp} {e C : Addr} {code : Str} {names : List Str} {ws : List V} {i n r : Nat} {E : XK}
theorem dv_kinds (hE : ErrAt K H e C code names ws) (hv : σ[r]? = some (some (.ref e))) (hk : kitXB K C (kitsL A i) = true) (hp : ∃ o, H p = some o) : DV K p (tCall (spKinds K A) [] E (tCons (tVar r) tNil)) σ H (.list (bools i)) := fun H1 s Q q =>
  ⟨_, hv, e, C, code, names, ws, i, rfl, hE.same s, hk, fun H' t nt s' ht => q _ _ s' (.lst (ne_fresh hp s nt) (lsq ht) (dd_bools _))⟩
theorem dv_rng {vs : List Nat} (hp : ∃ o, H p = some o) (hw : ∀ v, wipe ((wipe σ vs).set 10 (some v)) vs = wipe σ vs) (h10 : ∀ v, ((wipe σ vs).set 10 (some v))[10]? = some (some v)) (h6 : ∀ v, ((wipe σ vs).set 10 (some v))[6]? = some (some (.int (i : Int)))) :
    DV K p (tLc (iRng1 (tCons (tC (V.int 27)) tNil)) (gName 10) tYes (tOp rEq (tVar 10) (tVar 6)) vs) σ H (.list (bools i)) := fun H1 s Q q => by
  refine ⟨27, rfl, by decide, by decide, fun D nD => ?_⟩
  refine lc_it (walk_range (n := 27)) (fun k H' => Same H1 H' ∧ H' D = some (.lst ((List.range k).map fun j => V.bl (decide (j = i))))) ⟨same_upd nD, upd_same⟩ (fun _ _ _ _ => trivial) (fun k v H2 H' hk h y => ?_) fun H' h => q _ _ h.1 (.lst (ne_fresh hp s nD) (lsq h.2) (dd_bools _))
  obtain ⟨s1, h1⟩ := h
  obtain ⟨rfl, rfl⟩ := y
  refine ⟨hw _, ?_⟩
  refine ⟨_, h10 _, _, h6 _, rfl, ?_⟩
  have e : decide (V.int (0 + (k : Int)) = V.int (i : Int)) = decide (k = i) := by
    rw [Bool.eq_iff_iff, decide_eq_true_iff, decide_eq_true_iff, Int.zero_add]
    exact ⟨fun h => Int.ofNat.inj (V.int.inj h), fun h => by rw [h]⟩
  rw [e]
  refine ⟨_, h1, ?_, fun b o hb => ?_, ?_⟩
  · rw [List.length_map, List.length_range]; exact szl (by omega)
  · rw [upd_ne (ne_of_none hb nD)]
    exact s1 _ _ hb
  · rw [upd_same, List.range_succ, List.map_append]
    rfl
/-! ### the fields of many errors -/
theorem tab_at {A : Top} {i : Nat} {C : Addr} {code : Str} {names : List Str} (h : (tabA A)[i]? = some (C, code, names)) : tab[i]? = some (code, names) := by
  have e : (tabA A).map (·.2) = tab := rfl
  rw [← e, List.getElem?_map, h]
  rfl
theorem dd_of {H : Hp} {vs : List V} {ds : List PyData} : ∀ {ts : List Addr} {tb : List (Str × List Str)}, ts.length = tb.length → (∀ (j : Nat) (t : Addr) (x : Str × List Str), ts[j]? = some t → tb[j]? = some x → Dd K p H (.ref t) (.tuple (ds.take x.2.length))) →
    DdAll K p H (ts.map V.ref) (tb.map fun x => PyData.tuple (ds.take x.2.length))
  | [], [], _, _ => .nil
  | t :: ts, x :: tb, h, k => .cons (k 0 t x rfl rfl) (dd_of (vs := vs) (by simpa using h) fun j t' x' h1 h2 => k (j + 1) t' x' (by simpa using h1) (by simpa using h2))
  | [], _ :: _, h, _ => by simp at h
  | _ :: _, [], h, _ => by simp at h
theorem dv_fields {va vb vc : V} {da db dc : PyData} {vs : List Nat} (hp : ∃ o, H p = some o) (ha : σ[2]? = some (some va)) (hb : σ[3]? = some (some vb)) (hc : σ[4]? = some (some vc)) (hd : DdAll K p H [va, vb, vc] [da, db, dc])
    (hw : ∀ v, wipe ((wipe σ vs).set 7 (some v)) vs = wipe σ vs) (h7 : ∀ v, ((wipe σ vs).set 7 (some v))[7]? = some (some v)) :
    DV K p (tLc (iList K (tCall (spMade K A) [] E (tCons (tVar 2) (tCons (tVar 3) (tCons (tVar 4) tNil))))) (gName 7) tYes (tCall (spField K tab) [] E (tCons (tVar 7) tNil)) vs) σ H (.list (tab.map fun x => PyData.tuple ([da, db, dc].take x.2.length))) := fun H1 s Q q => by
  refine ⟨va, ha, vb, hb, vc, hc, va, vb, vc, rfl, fun H2 pl es s2 hl hE => ⟨pl, rfl, ⟨_, lsq hl⟩, fun D nD => ?_⟩⟩
  have he : es.length = 27 := hE.length
  have lD : D ≠ pl := (ne_of_none hl nD).symm
  refine lc_it (walk_list (K := K) (a := pl) (xs := es.map V.ref)) (fun k H' => Same H2 H' ∧ ∃ ts : List Addr, H' D = some (.lst (ts.map V.ref)) ∧ ts.length = k ∧ ∀ (j : Nat) (t : Addr) (x : Str × List Str), ts[j]? = some t → tab[j]? = some x → t ≠ p ∧ t ≠ D ∧ SqT K H' t ([va, vb, vc].take x.2.length))
    ⟨same_upd nD, [], upd_same, rfl, fun j t x h _ => by simp at h⟩ (fun _ H' _ h => lsq (h.1 _ _ hl)) (fun k v H3 H' hk h y => ?_) fun H' h => ?_
  · obtain ⟨s1, ts, h1, hlen, hts⟩ := h
    obtain ⟨rfl, ev⟩ := y
    rw [List.getElem?_map] at ev
    cases hek : es[k]? with
    | none => rw [hek] at ev; cases ev
    | some e =>
      rw [hek] at ev
      cases ev
      obtain ⟨C, code, names, e1, e2⟩ := hE.get hek
      have e3 := tab_at e1
      have e2' := e2.same s1
      refine ⟨hw _, ?_⟩
      refine ⟨_, h7 _, e, C, code, names, _, rfl, List.mem_of_getElem? e3, e2', fun H4 t nt s4 st => ?_⟩
      refine ⟨_, s4 _ _ h1, ?_, fun b o hb => ?_, ts ++ [t], ?_, ?_, fun j t' x hj hx => ?_⟩
      · rw [List.length_map, hlen]
        rw [List.length_map, he] at hk
        exact szl (by omega)
      · rw [upd_ne (ne_of_none hb nD)]
        exact s4 _ _ (s1 _ _ hb)
      · rw [upd_same, List.map_append]
        rfl
      · rw [List.length_append, hlen]
        rfl
      · have tD : t ≠ D := (ne_of_none h1 nt).symm
        have tp : t ≠ p := ne_fresh hp (s.trans (s2.trans s1)) nt
        have up : ∀ {a : Addr} {xs : List V}, a ≠ D → SqT K H4 a xs → SqT K (upd H4 D (.lst (ts.map V.ref ++ [V.ref t]))) a xs := fun n h => SqT.ext (p := D) (fun c o hc nc => by rw [upd_ne nc]; exact hc) n h
        by_cases hjl : j < ts.length
        · rw [List.getElem?_append_left hjl] at hj
          obtain ⟨a1, a2, a3⟩ := hts j t' x hj hx
          exact ⟨a1, a2, up a2 (SqT.same s4 a3)⟩
        · have ej : j = ts.length := by
            have := (List.getElem?_eq_some_iff.mp hj).1
            rw [List.length_append] at this
            simp at this
            omega
          subst ej
          rw [List.getElem?_append_right (Nat.le_refl _), Nat.sub_self] at hj
          cases hj
          rw [hlen, e3] at hx
          cases hx
          exact ⟨tp, tD, up tD st⟩
  · obtain ⟨s1, ts, h1, hlen, hts⟩ := h
    rw [List.length_map, he] at hlen
    have s3 := s2.trans s1
    refine q _ _ s3 (.lst (ne_fresh hp (s.trans s2) nD) (lsq h1) (dd_of (vs := [va, vb, vc]) (hlen.trans rfl) fun j t x hj hx => ?_))
    obtain ⟨a1, a2, a3⟩ := hts j t x hj hx
    exact .tup a1 a3 (DdAll.ext (Ext.of (s.trans s3)) _ _ (DdAll.take _ hd))
end
theorem smallAll_of : ∀ {ds : List PyData}, (∀ d ∈ ds, small d = true) → smallAll ds = true
  | [], _ => rfl
  | d :: ds, h => by
    unfold smallAll
    rw [h d List.mem_cons_self, smallAll_of fun d' m => h d' (List.mem_cons_of_mem _ m)]
    rfl
theorem depthAll_le {n : Nat} : ∀ {ds : List PyData}, (∀ d ∈ ds, d.depth ≤ n) → PyData.depthAll ds ≤ n
  | [], _ => by unfold PyData.depthAll; exact Nat.zero_le _
  | d :: ds, h => by
    unfold PyData.depthAll
    exact Nat.max_le.mpr ⟨h d List.mem_cons_self, depthAll_le fun d' m => h d' (List.mem_cons_of_mem _ m)⟩
end My

set_option Elab.async false
set_option linter.all false
set_option maxRecDepth 100000
namespace My
open PySem PySem.Spec PyProof.Rows L2
local macro_rules | `(tactic| walk_at "dv") => `(tactic| repeat (first | exact dv_int | exact dv_bl | exact dv_non | exact dv_str | exact da_nil | exact dv_vi rfl | exact dv_vs rfl | exact dv_var rfl (by assumption) | apply da_cons | (refine dv_tup (by assumption) ?_ ?_) | (refine dv_lst (by assumption) ?_ ?_) | apply dv_chain | apply dv_add | apply dv_sub | apply dv_neg | (refine dv_pow ?_ ?_ ?_) | assumption | rfl))
section
variable {P : Program} {w : World} {K : PySem.W.Frag} {mg : Str → Option Value} {base : Heap} {A : Top}
theorem kits_at (T : TopOk K mg A) : ∀ {i : Nat} {C : Addr} {code : Str} {names : List Str}, (tabA A)[i]? = some (C, code, names) → kitXB K C (kitsL A i) = true
  | 0, _, _, _, h => by cases h; exact T.k_InvalidName
  | 1, _, _, _, h => by cases h; exact T.k_InvalidRow
  | 2, _, _, _, h => by cases h; exact T.k_DuplicateName
  | 3, _, _, _, h => by cases h; exact T.k_InvalidStep
  | 4, _, _, _, h => by cases h; exact T.k_DuplicateMessage
  | 5, _, _, _, h => by cases h; exact T.k_Unsent
  | 6, _, _, _, h => by cases h; exact T.k_Ring
  | 7, _, _, _, h => by cases h; exact T.k_TooMany
  | 8, _, _, _, h => by cases h; exact T.k_InvalidPoint
  | 9, _, _, _, h => by cases h; exact T.k_InvalidMoment
  | 10, _, _, _, h => by cases h; exact T.k_InvalidClause
  | 11, _, _, _, h => by cases h; exact T.k_Parted
  | 12, _, _, _, h => by cases h; exact T.k_UnlikeLogs
  | 13, _, _, _, h => by cases h; exact T.k_EmptyLot
  | 14, _, _, _, h => by cases h; exact T.k_InvalidNumber
  | 15, _, _, _, h => by cases h; exact T.k_InvalidWeights
  | 16, _, _, _, h => by cases h; exact T.k_Uneven
  | 17, _, _, _, h => by cases h; exact T.k_InvalidTests
  | 18, _, _, _, h => by cases h; exact T.k_InvalidText
  | 19, _, _, _, h => by cases h; exact T.k_InvalidCommand
  | 20, _, _, _, h => by cases h; exact T.k_Full
  | 21, _, _, _, h => by cases h; exact T.k_InvalidLimit
  | 22, _, _, _, h => by cases h; exact T.k_InvalidPage
  | 23, _, _, _, h => by cases h; exact T.k_UnknownProcess
  | 24, _, _, _, h => by cases h; exact T.k_UnknownStep
  | 25, _, _, _, h => by cases h; exact T.k_UnknownName
  | 26, _, _, _, h => by cases h; exact T.k_NothingLeft
  | n + 27, _, _, _, h => by cases h
/-- what is due at place i, by its code -/
theorem due_facts : ∀ x ∈ tab, (x.1 ∈ (["InvalidStep", "TooMany"] : List Str) → x.2.length = 2) ∧ (x.1 ∉ (["InvalidStep", "TooMany"] : List Str) → x.1 = ("Parted" : Str) → x.2.length = 3) ∧
    (x.1 ∉ (["InvalidStep", "TooMany"] : List Str) → x.1 ≠ ("Parted" : Str) → x.2.length = if x.1 ∈ (["UnlikeLogs", "EmptyLot", "InvalidWeights", "NothingLeft"] : List Str) then 0 else 1) ∧ sCode ∉ x.2 ∧ small (.str x.1) = true := by decide +kernel
theorem bools_facts : ∀ i < 27, fine (.list (bools i)) = true ∧ PyData.eqv (.list (bools i)) (.list (bools i)) = true := by decide +kernel
def aboveN (i : Nat) : PyData := .list [.bool (decide (i < 23)), .bool (decide (23 ≤ i) && decide (i < 26)), .bool (decide (i < 23)), .bool (decide (i ≥ 23))]
def aboveI (i : Int) : PyData := .list [.bool (decide (i < 23)), .bool (decide (23 ≤ i) && decide (i < 26)), .bool (decide (i < 23)), .bool (decide (23 ≤ i))]
theorem above_facts : ∀ i < 27, fine (aboveN i) = true ∧ fine (aboveI (i : Nat)) = true ∧ PyData.eqv (aboveN i) (aboveI (i : Nat)) = true ∧ fine (.bool (decide (i = 26))) = true ∧ fine (.bool (decide (((i : Nat) : Int) = 26))) = true ∧ PyData.eqv (.bool (decide (i = 26))) (.bool (decide (((i : Nat) : Int) = 26))) = true := by decide +kernel
def othersL : List PyData := [.str "x", .tuple [.int 3, .str "y"], .list [.int 4]]
theorem odd_facts : ∀ d ∈ oddL ++ othersL, small d = true ∧ d.depth ≤ 2 := by decide +kernel
theorem odd_fact {es : List PyData} (h : ∀ d ∈ es, small d = true ∧ d.depth ≤ 2) : ∀ d ∈ oddL ++ es, small d = true ∧ d.depth ≤ 2 := fun d m => by
  rcases List.mem_append.mp m with m | m
  · exact odd_facts d (List.mem_append_left _ m)
  · exact h d m
def spLaw (K : PySem.W.Frag) : Sp := fun vs H Q _ => ∃ (a : Addr) (ns : List Int), vs = [.ref a] ∧ SqL K H a (ns.map V.int) ∧ ns.length ≤ 63 ∧ ∀ H', Q (.bl true) H'
set_option maxHeartbeats 0 in
theorem ok_law (T : TopOk K mg A) : FnOk P w K mg base CX0 10 A.f_law A.d_law P_law (spLaw K) := by
  have G_Lbag := ok_Lbag (P := P) (w := w) (base := base) T
  have G_Ldraw := ok_Ldraw (P := P) (w := w) (base := base) T
  have G_Lof := ok_Lof (P := P) (w := w) (base := base) T
  have G_Lsame := ok_Lsame (P := P) (w := w) (base := base) T 7
  have G_Lfield := ok_Lfield (P := P) (w := w) (base := base) T
  have G_Lodd := ok_Lodd (P := P) (w := w) (base := base) T
  have G_Lcodes := ok_Lcodes (P := P) (w := w) (base := base) T
  have G_Lkinds_of := ok_Lkinds_of (P := P) (w := w) (base := base) T
  have G_Lmade_errors := ok_Lmade_errors (P := P) (w := w) (base := base) T
  have G_Lnamed_errors := ok_Lnamed_errors (P := P) (w := w) (base := base) T
  refine T.F_law.ok sc_law (fun vs H Q E h => ?_) (fun cdv Ar outer s H vs Q E hr h => ?_)
  · obtain ⟨a, ns, rfl, _⟩ := h
    rfl
  · obtain ⟨a, ns, rfl, hS, hl, q⟩ := h
    refine ⟨_, (pss_cons (ps_set (i := 1) sc_law.nd rfl (by first | exact Or.inl rfl | exact Or.inr rfl) (pe_call G_Lbag (hr.mono (by decide)) (by rfl) T.g_Lbag T.F_Lbag.kp T.a_Lbag .nil pass0 (pa_cons (pv 0) pa_nil)))
      (pss_cons (ps_par (i := 2) (j := 3) (by rfl) sc_law.nd rfl rfl (by decide) rfl rfl (pa_cons (pe_call G_Lodd (hr.mono (by decide)) (by rfl) T.g_Lodd T.F_Lodd.kp T.a_Lodd .nil pass0 (pa_cons (pv 1) (pa_cons (pe_lst (pa_cons (pe_call G_Ldraw (hr.mono (by decide)) (by rfl) T.g_Ldraw T.F_Ldraw.kp T.a_Ldraw .nil pass0 (pa_cons (pv 1) (pa_cons (pe_op op_pow pe_int pe_int) pa_nil))) pa_nil)) pa_nil))) (pa_cons (pe_call G_Lodd (hr.mono (by decide)) (by rfl) T.g_Lodd T.F_Lodd.kp T.a_Lodd .nil pass0 (pa_cons (pv 1) (pa_cons (pe_lst (pa_cons pe_str (pa_cons (pe_tup (pa_cons pe_int (pa_cons pe_str pa_nil))) pa_nil))) pa_nil))) pa_nil)) (by rfl))
      (pss_cons (ps_par (i := 4) (j := 5) (by rfl) sc_law.nd rfl rfl (by decide) rfl rfl (pa_cons (pe_call G_Lodd (hr.mono (by decide)) (by rfl) T.g_Lodd T.F_Lodd.kp T.a_Lodd .nil pass0 (pa_cons (pv 1) (pa_cons (pe_lst (pa_cons (pe_lst (pa_cons pe_int pa_nil)) pa_nil)) pa_nil))) (pa_cons (pe_call0 G_Lcodes (hr.mono (by decide)) (by rfl) T.g_Lcodes T.F_Lcodes.kp T.a_Lcodes .nil pass0) pa_nil)) (by rfl))
      (pss_cons (ps_for PassesOwn.never rfl (pi_enum (by rfl) T.b_enumerate (pa_cons (pe_call G_Lmade_errors (hr.mono (by decide)) (by rfl) T.g_Lmade_errors T.F_Lmade_errors.kp T.a_Lmade_errors .nil pass0 (pa_cons (pv 2) (pa_cons (pv 3) (pa_cons (pv 4) pa_nil)))) pa_nil)) (pg_tup rfl (pgs_cons (pg_name (i := 6) sc_law.nd rfl (by first | exact Or.inl rfl | exact Or.inr rfl)) (pgs_cons (pg_name (i := 7) sc_law.nd rfl (by first | exact Or.inl rfl | exact Or.inr rfl)) pgs_nil)))
      (pss_cons (ps_set (i := 8) sc_law.nd rfl (by first | exact Or.inl rfl | exact Or.inr rfl) (pe_ifExp (pt_cmpR op_in_seq (pe_ix ix_seq (pv 5) (pv 6) (fun _ _ => rfl)) (pe_tup (pa_cons pe_str (pa_cons pe_str (pa_cons pe_str (pa_cons pe_str pa_nil))))) (by rfl)) (pe_tup pa_nil) (pe_tup (pa_cons (pv 2) pa_nil))))
      (pss_cons (ps_set (i := 8) sc_law.nd rfl (by first | exact Or.inl rfl | exact Or.inr rfl) (pe_ifExp (pt_cmpR op_in_seq (pe_ix ix_seq (pv 5) (pv 6) (fun _ _ => rfl)) (pe_tup (pa_cons pe_str (pa_cons pe_str pa_nil))) (by rfl)) (pe_tup (pa_cons (pv 2) (pa_cons (pv 3) pa_nil))) (pe_ifExp (pt_cmpR op_eq (pe_ix ix_seq (pv 5) (pv 6) (fun _ _ => rfl)) pe_str (nomark _)) (pe_tup (pa_cons (pv 2) (pa_cons (pv 3) (pa_cons (pv 4) pa_nil)))) (pv 8))))
      (pss_cons (ps_if (pt_not (pt_val (pe_call G_Lsame (hr.mono (by decide)) (by rfl) T.g_Lsame T.F_Lsame.kp T.a_Lsame .nil pass0 (pa_cons (pe_lst (pa_cons (pe_oxf (pv 7)) (pa_cons (pe_call G_Lfield (hr.mono (by decide)) (by rfl) T.g_Lfield T.F_Lfield.kp T.a_Lfield .nil pass0 (pa_cons (pv 7) pa_nil)) pa_nil))) (pa_cons (pe_lst (pa_cons (pe_ix ix_seq (pv 5) (pv 6) (fun _ _ => rfl)) (pa_cons (pv 8) pa_nil))) pa_nil)))))
      (pss_one (ps_ret pe_bl))
      pss_nil)
      (pss_cons (ps_if (pt_cmpR (L2.op_neD (hu64 hr)) (pe_call G_Lkinds_of (hr.mono (by decide)) (by rfl) T.g_Lkinds_of T.F_Lkinds_of.kp T.a_Lkinds_of .nil pass0 (pa_cons (pv 7) pa_nil)) (pe_lc (own := [("_law_k", 10)]) (g := gName 10) (by rfl) sc_law.nd (pi_range1 (by rfl) T.b_range (pa_cons pe_int pa_nil)) (blkOk_by (own := [("_law_k", 10)]) (N := N_law) (sc := defScope s_law) (by decide +kernel)) (fun _ _ _ _ _ => (pg_name (i := 10) sc_law.nd rfl (by first | exact Or.inl rfl | exact Or.inr rfl))) (fun _ _ _ _ _ => pts_nil) (fun _ _ _ _ _ => (pe_cmpR op_eq (pv 10) (pv 6) (nomark _)))) (nomark _))
      (pss_one (ps_ret pe_bl))
      pss_nil)
      (pss_cons (ps_set (i := 9) sc_law.nd rfl (by first | exact Or.inl rfl | exact Or.inr rfl) (pe_lst (pa_cons (pe_callB call_isX (by rfl) T.b_isinstance (by decide +kernel) (pa_cons (pv 7) (pa_cons (pe_glob (v := .ref A.c_LogError) (by rfl) T.m_LogError rfl) pa_nil))) (pa_cons (pe_callB call_isX (by rfl) T.b_isinstance (by decide +kernel) (pa_cons (pv 7) (pa_cons (pe_glob (v := .ref A.c_Missing) (by rfl) T.m_Missing rfl) pa_nil))) (pa_cons (pe_callB call_isX (by rfl) T.b_isinstance (by decide +kernel) (pa_cons (pv 7) (pa_cons (pe_bltn (v := .ty "ValueError") (by rfl) T.b_ValueError (by decide +kernel) rfl) pa_nil))) (pa_cons (pe_callB call_isX (by rfl) T.b_isinstance (by decide +kernel) (pa_cons (pv 7) (pa_cons (pe_bltn (v := .ty "LookupError") (by rfl) T.b_LookupError (by decide +kernel) rfl) pa_nil))) pa_nil))))))
      (pss_one (ps_if (PW.pt (pw_or (pt_cmpR (L2.op_neD (hu64 hr)) (pv 9) (pe_lst (pa_cons (pe_cmpR op_lt (pv 6) pe_int (nomark _)) (pa_cons (pe_chain op_le op_lt pe_int (pv 6) pe_int) (pa_cons (pe_cmpR op_lt (pv 6) pe_int (nomark _)) (pa_cons (pe_cmpR op_ge (pv 6) pe_int (nomark _)) pa_nil))))) (nomark _)) (pw_or1 (pt_cmpR (L2.op_neD (hu64 hr)) (pe_callB call_isX (by rfl) T.b_isinstance (by decide +kernel) (pa_cons (pv 7) (pa_cons (pe_bltn (v := .ty "IndexError") (by rfl) T.b_IndexError (by decide +kernel) rfl) pa_nil))) (pe_cmpR op_eq (pv 6) pe_int (nomark _)) (nomark _)))))
      (pss_one (ps_ret pe_bl))
      pss_nil))))))))
      (pss_one (ps_ret (pe_call G_Lsame (hr.mono (by decide)) (by rfl) T.g_Lsame T.F_Lsame.kp T.a_Lsame .nil pass0 (pa_cons (pe_lc (own := [("_law_e", 7)]) (g := gName 7) (by rfl) sc_law.nd (pi_list (pe_call G_Lnamed_errors (hr.mono (by decide)) (by rfl) T.g_Lnamed_errors T.F_Lnamed_errors.kp T.a_Lnamed_errors .nil pass0 (pa_cons (pv 2) (pa_cons (pv 3) (pa_cons (pv 4) pa_nil))))) (blkOk_by (own := [("_law_e", 7)]) (N := N_law) (sc := defScope s_law) (by decide +kernel)) (fun _ _ _ _ _ => (pg_name (i := 7) sc_law.nd rfl (by first | exact Or.inl rfl | exact Or.inr rfl))) (fun _ _ _ _ _ => pts_nil) (fun _ _ _ _ _ => (pe_call G_Lfield (hr.mono (by decide)) (by rfl) T.g_Lfield T.F_Lfield.kp T.a_Lfield .nil pass0 (pa_cons (pv 7) pa_nil)))) (pa_cons (pe_lc (own := [("_law_e", 7)]) (g := gName 7) (by rfl) sc_law.nd (pi_list (pe_call G_Lmade_errors (hr.mono (by decide)) (by rfl) T.g_Lmade_errors T.F_Lmade_errors.kp T.a_Lmade_errors .nil pass0 (pa_cons (pv 2) (pa_cons (pv 3) (pa_cons (pv 4) pa_nil))))) (blkOk_by (own := [("_law_e", 7)]) (N := N_law) (sc := defScope s_law) (by decide +kernel)) (fun _ _ _ _ _ => (pg_name (i := 7) sc_law.nd rfl (by first | exact Or.inl rfl | exact Or.inr rfl))) (fun _ _ _ _ _ => pts_nil) (fun _ _ _ _ _ => (pe_call G_Lfield (hr.mono (by decide)) (by rfl) T.g_Lfield T.F_Lfield.kp T.a_Lfield .nil pass0 (pa_cons (pv 7) pa_nil)))) pa_nil))))))))), ?_⟩
    refine ⟨_, rfl, a, ns, rfl, hS, hl, fun B H1 nB hB s1 => ?_⟩
    -- a, b, c
    refine ⟨_, rfl, draw_dv (K := K) (B := B) (n := (10 : Int) ^ (9 : Int).toNat) rfl hB (dv_pow dv_int dv_int (by decide)) (by decide) (by decide) fun r H2 _ _ hB2 e2 => ⟨by show 1 ≤ sizeLine; decide, fun q1 nq1 => ?_⟩⟩
    have s2 : Same H2 (upd H2 q1 (.lst [.int r])) := same_upd nq1
    refine odd_of (E := E0) (σ := [some (.ref a), some (.ref B.p)]) (i := 1) (es := [.int r]) rfl (hB2.ext s2) upd_same (hB2.ne nq1) (.cons (.int _) .nil) (by simp) fun va da H3 ma hva hB3 e3 => ?_
    refine odd_dv (K := K) (B := B) (es := [.str "x", .tuple [.int 3, .str "y"]]) rfl hB3 ?_ (by simp) fun vb db H4 mb hvb hB4 e4 => ?_
    · have hp3 : ∃ o, H3 B.p = some o := hB3.there
      walk_at "dv"
    refine ⟨va, vb, rfl, ?_⟩
    refine odd_dv (K := K) (B := B) (es := [.list [.int 4]]) rfl hB4 ?_ (by simp) fun vc dc H5 mc hvc hB5 e5 => ?_
    · have hp4 : ∃ o, H4 B.p = some o := hB4.there
      walk_at "dv"
    refine ⟨rfl, fun H6 pc s6 hpc => ⟨vc, .ref pc, rfl, ?_⟩⟩
    have hB6 := hB5.ext s6
    have hp6 : ∃ o, H6 B.p = some o := hB6.there
    have hva6 : Dd K B.p H6 va da := Dd.ext (Ext.of s6) _ _ (Dd.ext e5 _ _ (Dd.ext e4 _ _ hva))
    have hvb6 : Dd K B.p H6 vb db := Dd.ext (Ext.of s6) _ _ (Dd.ext e5 _ _ hvb)
    have hvc6 : Dd K B.p H6 vc dc := Dd.ext (Ext.of s6) _ _ hvc
    have habc : DdAll K B.p H6 [va, vb, vc] [da, db, dc] := .cons hva6 (.cons hvb6 (.cons hvc6 .nil))
    obtain ⟨sa, pa⟩ := odd_fact (es := [.int r]) (by simp [small, PyData.depth]) da ma
    obtain ⟨sb, pb⟩ := odd_fact (es := [.str "x", .tuple [.int 3, .str "y"]]) (by decide +kernel) db mb
    obtain ⟨sc, pc'⟩ := odd_fact (es := [.list [.int 4]]) (by decide +kernel) dc mc
    have sabc : ∀ n, ∀ d ∈ [da, db, dc].take n, small d = true ∧ d.depth ≤ 2 := fun n d m => by
      have m := List.mem_of_mem_take m
      simp only [List.mem_cons, List.not_mem_nil, or_false] at m
      rcases m with rfl | rfl | rfl
      · exact ⟨sa, pa⟩
      · exact ⟨sb, pb⟩
      · exact ⟨sc, pc'⟩
    have stup : ∀ n, small (.tuple ([da, db, dc].take n)) = true ∧ (PyData.tuple ([da, db, dc].take n)).depth ≤ 3 := fun n => by
      refine ⟨?_, ?_⟩
      · show (decide (([da, db, dc].take n).length ≤ 5000) && smallAll ([da, db, dc].take n)) = true
        rw [smallAll_of fun d m => (sabc n d m).1, decide_eq_true (by have := List.length_take_le n [da, db, dc]; have := List.length_take_le' n [da, db, dc]; simp at *; omega)]
        rfl
      · show PyData.depthAll ([da, db, dc].take n) + 1 ≤ 3
        have := depthAll_le fun d m => (sabc n d m).2
        omega
    -- the loop
    refine ⟨_, rfl, _, rfl, _, rfl, va, vb, vc, rfl, fun H7 pl es s7 hpl hE => ⟨pl, es.map V.ref, rfl, lsq hpl, ?_⟩⟩
    have he : es.length = 27 := hE.length
    refine for_it (walk_enum (K := K) (a := pl) (xs := es.map V.ref)) (fun i σ H' => (∃ x6 x7 x8 x9 x10, σ = [some (.ref a), some (.ref B.p), some va, some vb, some vc, some (.ref pc), x6, x7, x8, x9, x10]) ∧ Same H7 H')
      ⟨⟨_, _, _, _, _, rfl⟩, Same.refl _⟩ (fun i σ H' _ h => lsq (h.2 _ _ hpl)) ?_ ?_
    · rintro i v σ H8 H9 hi ⟨⟨x6, x7, x8, x9, x10, rfl⟩, s8⟩ y
      obtain ⟨tt, x, e0, rfl, ntt, rfl, ex, ee⟩ := y
      cases ex
      dsimp only at ee
      rw [List.getElem?_map] at ee
      rw [List.length_map, he] at hi
      cases hek : es[i]? with
      | none => rw [hek] at ee; cases ee
      | some e =>
      rw [hek] at ee
      cases ee
      obtain ⟨C, code, names, etab, hEr7⟩ := hE.get hek
      have hk := kits_at T etab
      have htab := tab_at etab
      have hmt := List.mem_of_getElem? htab
      have hcode : (codeL.map V.str)[i]? = some (.str code) := by
        show ((tab.map (·.1)).map V.str)[i]? = _
        rw [List.getElem?_map, List.getElem?_map, htab]
        rfl
      obtain ⟨f1, f2, f3, hnc, fsm⟩ := due_facts _ hmt
      dsimp only at f1 f2 f3 hnc fsm
      have s9 : Same H8 (upd H8 tt (.tup [.int (i : Nat), .ref e])) := same_upd ntt
      have sA : Same H6 (upd H8 tt (.tup [.int (i : Nat), .ref e])) := s7.trans (s8.trans s9)
      have hEr := hEr7.same (s8.trans s9)
      refine ⟨tt, [.int (i : Nat), .ref e], rfl, .inl (.inl upd_same), rfl, .int (i : Nat), [.ref e], rfl, .ref e, [], rfl, rfl, ?_⟩
      have s89 := s8.trans s9
      generalize upd H8 tt (.tup [.int (i : Nat), .ref e]) = H9 at s9 sA hEr s89
      have hp9 : ∃ o, H9 B.p = some o := by
        obtain ⟨o, ho⟩ := hp6
        exact ⟨o, sA _ _ ho⟩
      have habc9 := DdAll.ext (Ext.of sA) _ _ habc
      have hpc9 := sA _ _ hpc
      dsimp only [List.set]
      -- due
      refine set_dv (K := K) (p := B.p) (d := .tuple (if code ∈ (["UnlikeLogs", "EmptyLot", "InvalidWeights", "NothingLeft"] : List Str) then [] else [da])) ?_ fun v1 H10 s10 hv1 => ?_
      · refine dv_if (dv_inS (zs := ["UnlikeLogs", "EmptyLot", "InvalidWeights", "NothingLeft"]) (dv_ixS rfl hpc9 rfl hcode) (fun _ _ h => h) (by decide)) (fun c => ?_) (fun c => ?_)
        · rw [if_pos (of_decide_eq_true c)]
          exact dv_tup hp9 da_nil (by decide)
        · rw [if_neg (of_decide_eq_false c)]
          refine dv_tup hp9 (da_cons (dv_var rfl (Dd.ext (Ext.of sA) _ _ hva6)) da_nil) rfl
      have hp10 : ∃ o, H10 B.p = some o := by
        obtain ⟨o, ho⟩ := hp9
        exact ⟨o, s10 _ _ ho⟩
      have sB := sA.trans s10
      have hpc10 := s10 _ _ hpc9
      have hEr10 := hEr.same s10
      dsimp only [List.set]
      refine set_dv (K := K) (p := B.p) (d := .tuple ([da, db, dc].take names.length)) ?_ fun v2 H11 s11 hv2 => ?_
      · refine dv_if (dv_inS (zs := ["InvalidStep", "TooMany"]) (dv_ixS rfl hpc10 rfl hcode) (fun _ _ h => h) (by decide)) (fun c => ?_) (fun c => ?_)
        · rw [f1 (of_decide_eq_true c)]
          exact dv_tup hp10 (da_cons (dv_var rfl (Dd.ext (Ext.of sB) _ _ hva6)) (da_cons (dv_var rfl (Dd.ext (Ext.of sB) _ _ hvb6)) da_nil)) rfl
        · refine dv_if (dv_eqS (dv_ixS rfl hpc10 rfl hcode)) (fun c2 => ?_) (fun c2 => ?_)
          · rw [f2 (of_decide_eq_false c) (of_decide_eq_true c2)]
            exact dv_tup hp10 (da_cons (dv_var rfl (Dd.ext (Ext.of sB) _ _ hva6)) (da_cons (dv_var rfl (Dd.ext (Ext.of sB) _ _ hvb6)) (da_cons (dv_var rfl (Dd.ext (Ext.of sB) _ _ hvc6)) da_nil))) rfl
          · refine dv_var rfl ?_
            rw [f3 (of_decide_eq_false c) (of_decide_eq_false c2)]
            by_cases c3 : code ∈ (["UnlikeLogs", "EmptyLot", "InvalidWeights", "NothingLeft"] : List Str)
            · rw [if_pos c3] at hv1 ⊢
              exact hv1
            · rw [if_neg c3] at hv1 ⊢
              exact hv1
      have hp11 : ∃ o, H11 B.p = some o := by
        obtain ⟨o, ho⟩ := hp10
        exact ⟨o, s11 _ _ ho⟩
      have sC := sB.trans s11
      have hpc11 := s11 _ _ hpc10
      have hEr11 := hEr10.same s11
      obtain ⟨st1, st2⟩ := stup names.length
      dsimp only [List.set]
      refine if_same (K := K) (p := B.p) (n := 6) (d := .list [.str code, .tuple ([da, db, dc].take names.length)]) ?_ ?_ ?_ ?_ fun H12 s12 => ?_
      · exact dv_lst hp11 (da_cons (dv_code hEr11 rfl hnc) (da_cons (dv_field hEr11 rfl hmt hp11 (DdAll.take _ (DdAll.ext (Ext.of sC) _ _ habc))) da_nil)) rfl
      · exact dv_lst hp11 (da_cons (dv_ixS rfl hpc11 rfl hcode) (da_cons (dv_var rfl hv2) da_nil)) rfl
      · show max 0 (max (PyData.tuple ([da, db, dc].take names.length)).depth 0) + 1 ≤ 6
        omega
      · show (decide (2 ≤ 5000) && (small (.str code) && (small (.tuple ([da, db, dc].take names.length)) && true))) = true
        rw [st1, fsm]
        rfl
      have hp12 : ∃ o, H12 B.p = some o := by
        obtain ⟨o, ho⟩ := hp11
        exact ⟨o, s12 _ _ ho⟩
      have hEr12 := hEr11.same s12
      obtain ⟨b1, b2⟩ := bools_facts i hi
      obtain ⟨g1, g2, g3, g4, g5, g6⟩ := above_facts i hi
      -- kinds
      refine if_no (K := K) (p := B.p) (dv_is (dv_neD (dv_kinds hEr12 rfl hk hp12) (dv_rng hp12 (fun _ => rfl) (fun _ => rfl) (fun _ => rfl)) b1 b1) (by rw [b2]; rfl)) fun H13 s13 => ?_
      have hp13 : ∃ o, H13 B.p = some o := by
        obtain ⟨o, ho⟩ := hp12
        exact ⟨o, s13 _ _ ho⟩
      have hEr13 := hEr12.same s13
      refine set_dv (K := K) (p := B.p) (d := aboveN i) ?_ fun v3 H14 s14 hv3 => ?_
      · exact dv_lst hp13 (da_cons (dv_isx hEr13 rfl (fun _ h => h) (kitXB_at hk (List.mem_of_getElem? (i := 27) rfl))) (da_cons (dv_isx hEr13 rfl (fun _ h => h) (kitXB_at hk (List.mem_of_getElem? (i := 28) rfl)))
          (da_cons (dv_isx hEr13 rfl (fun _ h => h) (kitXB_at hk (List.mem_of_getElem? (i := 29) rfl))) (da_cons (dv_isx hEr13 rfl (fun _ h => h) (kitXB_at hk (List.mem_of_getElem? (i := 30) rfl))) da_nil)))) rfl
      have hp14 : ∃ o, H14 B.p = some o := by
        obtain ⟨o, ho⟩ := hp13
        exact ⟨o, s14 _ _ ho⟩
      have hEr14 := hEr13.same s14
      dsimp only [List.set]
      refine if_no2 (K := K) (p := B.p) (dv_is (dv_neD (d := aboveN i) (d' := aboveI (i : Nat)) (dv_var rfl hv3) ?_ g1 g2) (by rw [g3]; rfl)) (dv_is (dv_neD (dv_isx hEr14 rfl (fun _ h => h) (kitXB_at hk (List.mem_of_getElem? (i := 31) rfl))) (dv_eqI (dv_vi rfl) dv_int) g4 g5) (by rw [g6]; rfl)) fun H15 s15 => ?_
      · exact dv_lst hp14 (da_cons (dv_lt (dv_vi rfl) dv_int) (da_cons (dv_chainL dv_int (dv_vi rfl) dv_int) (da_cons (dv_lt (dv_vi rfl) dv_int) (da_cons (dv_ge (dv_vi rfl) dv_int) da_nil)))) rfl
      exact ⟨⟨_, _, _, _, _, rfl⟩, s89.trans (s10.trans (s11.trans (s12.trans (s13.trans (s14.trans s15)))))⟩
    · rintro σ H8 ⟨⟨x6, x7, x8, x9, x10, rfl⟩, s8⟩
      have sA := s7.trans s8
      have hp8 : ∃ o, H8 B.p = some o := by
        obtain ⟨o, ho⟩ := hp6
        exact ⟨o, sA _ _ ho⟩
      have habc8 := DdAll.ext (Ext.of sA) _ _ habc
      dsimp only [tRet]
      refine same_dv (K := K) (p := B.p) (n := 6) (d := .list (tab.map fun (x : Str × List Str) => PyData.tuple ([da, db, dc].take x.2.length))) (dv_fields hp8 rfl rfl rfl habc8 (fun _ => rfl) (fun _ => rfl)) (dv_fields hp8 rfl rfl rfl habc8 (fun _ => rfl) (fun _ => rfl)) ?_ ?_ fun H9 s9 => q _
      · show PyData.depthAll (tab.map fun (x : Str × List Str) => PyData.tuple ([da, db, dc].take x.2.length)) + 1 ≤ 6
        have := depthAll_le (n := 3) (ds := tab.map fun x => PyData.tuple ([da, db, dc].take x.2.length)) fun d m => by
          obtain ⟨x, _, rfl⟩ := List.mem_map.mp m
          exact (stup _).2
        omega
      · show (decide (27 ≤ 5000) && smallAll (tab.map fun (x : Str × List Str) => PyData.tuple ([da, db, dc].take x.2.length))) = true
        rw [smallAll_of fun d m => by
          obtain ⟨x, _, rfl⟩ := List.mem_map.mp m
          exact (stup _).1]
        rfl
end
end My

set_option Elab.async false
set_option linter.all false
set_option maxRecDepth 100000
set_option maxHeartbeats 0
namespace My
open PySem PySem.Spec PyProof.Rows L2
theorem all_mk {l : PySem.W.OpenLaw} {w : World} {K : PySem.W.Frag} {h : Heap} {mg : Str → Option Value} {fa : Addr} (X : K.In h) (G : h.Ns mainGlobals mg) (hfa : mg "law" = some (.ref fa))
    {c_DuplicateMessage : Addr}
    {c_DuplicateName : Addr}
    {c_EmptyLot : Addr}
    {c_Full : Addr}
    {c_InvalidClause : Addr}
    {c_InvalidCommand : Addr}
    {c_InvalidLimit : Addr}
    {c_InvalidMoment : Addr}
    {c_InvalidName : Addr}
    {c_InvalidNumber : Addr}
    {c_InvalidPage : Addr}
    {c_InvalidPoint : Addr}
    {c_InvalidRow : Addr}
    {c_InvalidStep : Addr}
    {c_InvalidTests : Addr}
    {c_InvalidText : Addr}
    {c_InvalidWeights : Addr}
    {c_LogError : Addr}
    {c_Missing : Addr}
    {c_NothingLeft : Addr}
    {c_Parted : Addr}
    {c_Ring : Addr}
    {c_TooMany : Addr}
    {c_Uneven : Addr}
    {c_UnknownName : Addr}
    {c_UnknownProcess : Addr}
    {c_UnknownStep : Addr}
    {c_UnlikeLogs : Addr}
    {c_Unsent : Addr}
    {f_i_InvalidName : Addr} {od_i_InvalidName an_i_InvalidName : Option Addr} {sl_i_InvalidName : Array (Option Value)} {oc_i_InvalidName kV_i_InvalidName dc_i_InvalidName pm_i_InvalidName cd_i_InvalidName ct_i_InvalidName : Value}
    {f_i_InvalidRow : Addr} {od_i_InvalidRow an_i_InvalidRow : Option Addr} {sl_i_InvalidRow : Array (Option Value)} {oc_i_InvalidRow kV_i_InvalidRow dc_i_InvalidRow pm_i_InvalidRow cd_i_InvalidRow ct_i_InvalidRow : Value}
    {f_i_DuplicateName : Addr} {od_i_DuplicateName an_i_DuplicateName : Option Addr} {sl_i_DuplicateName : Array (Option Value)} {oc_i_DuplicateName kV_i_DuplicateName dc_i_DuplicateName pm_i_DuplicateName cd_i_DuplicateName ct_i_DuplicateName : Value}
    {f_i_InvalidStep : Addr} {od_i_InvalidStep an_i_InvalidStep : Option Addr} {sl_i_InvalidStep : Array (Option Value)} {oc_i_InvalidStep kV_i_InvalidStep dc_i_InvalidStep pm_i_InvalidStep cd_i_InvalidStep ct_i_InvalidStep : Value}
    {f_i_DuplicateMessage : Addr} {od_i_DuplicateMessage an_i_DuplicateMessage : Option Addr} {sl_i_DuplicateMessage : Array (Option Value)} {oc_i_DuplicateMessage kV_i_DuplicateMessage dc_i_DuplicateMessage pm_i_DuplicateMessage cd_i_DuplicateMessage ct_i_DuplicateMessage : Value}
    {f_i_Unsent : Addr} {od_i_Unsent an_i_Unsent : Option Addr} {sl_i_Unsent : Array (Option Value)} {oc_i_Unsent kV_i_Unsent dc_i_Unsent pm_i_Unsent cd_i_Unsent ct_i_Unsent : Value}
    {f_i_Ring : Addr} {od_i_Ring an_i_Ring : Option Addr} {sl_i_Ring : Array (Option Value)} {oc_i_Ring kV_i_Ring dc_i_Ring pm_i_Ring cd_i_Ring ct_i_Ring : Value}
    {f_i_TooMany : Addr} {od_i_TooMany an_i_TooMany : Option Addr} {sl_i_TooMany : Array (Option Value)} {oc_i_TooMany kV_i_TooMany dc_i_TooMany pm_i_TooMany cd_i_TooMany ct_i_TooMany : Value}
    {f_i_InvalidPoint : Addr} {od_i_InvalidPoint an_i_InvalidPoint : Option Addr} {sl_i_InvalidPoint : Array (Option Value)} {oc_i_InvalidPoint kV_i_InvalidPoint dc_i_InvalidPoint pm_i_InvalidPoint cd_i_InvalidPoint ct_i_InvalidPoint : Value}
    {f_i_InvalidMoment : Addr} {od_i_InvalidMoment an_i_InvalidMoment : Option Addr} {sl_i_InvalidMoment : Array (Option Value)} {oc_i_InvalidMoment kV_i_InvalidMoment dc_i_InvalidMoment pm_i_InvalidMoment cd_i_InvalidMoment ct_i_InvalidMoment : Value}
    {f_i_InvalidClause : Addr} {od_i_InvalidClause an_i_InvalidClause : Option Addr} {sl_i_InvalidClause : Array (Option Value)} {oc_i_InvalidClause kV_i_InvalidClause dc_i_InvalidClause pm_i_InvalidClause cd_i_InvalidClause ct_i_InvalidClause : Value}
    {f_i_Parted : Addr} {od_i_Parted an_i_Parted : Option Addr} {sl_i_Parted : Array (Option Value)} {oc_i_Parted kV_i_Parted dc_i_Parted pm_i_Parted cd_i_Parted ct_i_Parted : Value}
    {f_i_UnlikeLogs : Addr} {od_i_UnlikeLogs an_i_UnlikeLogs : Option Addr} {sl_i_UnlikeLogs : Array (Option Value)} {oc_i_UnlikeLogs kV_i_UnlikeLogs dc_i_UnlikeLogs pm_i_UnlikeLogs cd_i_UnlikeLogs ct_i_UnlikeLogs : Value}
    {f_i_EmptyLot : Addr} {od_i_EmptyLot an_i_EmptyLot : Option Addr} {sl_i_EmptyLot : Array (Option Value)} {oc_i_EmptyLot kV_i_EmptyLot dc_i_EmptyLot pm_i_EmptyLot cd_i_EmptyLot ct_i_EmptyLot : Value}
    {f_i_InvalidNumber : Addr} {od_i_InvalidNumber an_i_InvalidNumber : Option Addr} {sl_i_InvalidNumber : Array (Option Value)} {oc_i_InvalidNumber kV_i_InvalidNumber dc_i_InvalidNumber pm_i_InvalidNumber cd_i_InvalidNumber ct_i_InvalidNumber : Value}
    {f_i_InvalidWeights : Addr} {od_i_InvalidWeights an_i_InvalidWeights : Option Addr} {sl_i_InvalidWeights : Array (Option Value)} {oc_i_InvalidWeights kV_i_InvalidWeights dc_i_InvalidWeights pm_i_InvalidWeights cd_i_InvalidWeights ct_i_InvalidWeights : Value}
    {f_i_Uneven : Addr} {od_i_Uneven an_i_Uneven : Option Addr} {sl_i_Uneven : Array (Option Value)} {oc_i_Uneven kV_i_Uneven dc_i_Uneven pm_i_Uneven cd_i_Uneven ct_i_Uneven : Value}
    {f_i_InvalidTests : Addr} {od_i_InvalidTests an_i_InvalidTests : Option Addr} {sl_i_InvalidTests : Array (Option Value)} {oc_i_InvalidTests kV_i_InvalidTests dc_i_InvalidTests pm_i_InvalidTests cd_i_InvalidTests ct_i_InvalidTests : Value}
    {f_i_InvalidText : Addr} {od_i_InvalidText an_i_InvalidText : Option Addr} {sl_i_InvalidText : Array (Option Value)} {oc_i_InvalidText kV_i_InvalidText dc_i_InvalidText pm_i_InvalidText cd_i_InvalidText ct_i_InvalidText : Value}
    {f_i_InvalidCommand : Addr} {od_i_InvalidCommand an_i_InvalidCommand : Option Addr} {sl_i_InvalidCommand : Array (Option Value)} {oc_i_InvalidCommand kV_i_InvalidCommand dc_i_InvalidCommand pm_i_InvalidCommand cd_i_InvalidCommand ct_i_InvalidCommand : Value}
    {f_i_Full : Addr} {od_i_Full an_i_Full : Option Addr} {sl_i_Full : Array (Option Value)} {oc_i_Full kV_i_Full dc_i_Full pm_i_Full cd_i_Full ct_i_Full : Value}
    {f_i_InvalidLimit : Addr} {od_i_InvalidLimit an_i_InvalidLimit : Option Addr} {sl_i_InvalidLimit : Array (Option Value)} {oc_i_InvalidLimit kV_i_InvalidLimit dc_i_InvalidLimit pm_i_InvalidLimit cd_i_InvalidLimit ct_i_InvalidLimit : Value}
    {f_i_InvalidPage : Addr} {od_i_InvalidPage an_i_InvalidPage : Option Addr} {sl_i_InvalidPage : Array (Option Value)} {oc_i_InvalidPage kV_i_InvalidPage dc_i_InvalidPage pm_i_InvalidPage cd_i_InvalidPage ct_i_InvalidPage : Value}
    {f_i_UnknownProcess : Addr} {od_i_UnknownProcess an_i_UnknownProcess : Option Addr} {sl_i_UnknownProcess : Array (Option Value)} {oc_i_UnknownProcess kV_i_UnknownProcess dc_i_UnknownProcess pm_i_UnknownProcess cd_i_UnknownProcess ct_i_UnknownProcess : Value}
    {f_i_UnknownStep : Addr} {od_i_UnknownStep an_i_UnknownStep : Option Addr} {sl_i_UnknownStep : Array (Option Value)} {oc_i_UnknownStep kV_i_UnknownStep dc_i_UnknownStep pm_i_UnknownStep cd_i_UnknownStep ct_i_UnknownStep : Value}
    {f_i_UnknownName : Addr} {od_i_UnknownName an_i_UnknownName : Option Addr} {sl_i_UnknownName : Array (Option Value)} {oc_i_UnknownName kV_i_UnknownName dc_i_UnknownName pm_i_UnknownName cd_i_UnknownName ct_i_UnknownName : Value}
    {f_i_NothingLeft : Addr} {od_i_NothingLeft an_i_NothingLeft : Option Addr} {sl_i_NothingLeft : Array (Option Value)} {oc_i_NothingLeft kV_i_NothingLeft dc_i_NothingLeft pm_i_NothingLeft cd_i_NothingLeft ct_i_NothingLeft : Value}
    {f_Lbag : Addr} {od_Lbag an_Lbag : Option Addr} {sl_Lbag : Array (Option Value)} {oc_Lbag kV_Lbag dc_Lbag pm_Lbag cd_Lbag ct_Lbag : Value}
    {f_Ldraw : Addr} {od_Ldraw an_Ldraw : Option Addr} {sl_Ldraw : Array (Option Value)} {oc_Ldraw kV_Ldraw dc_Ldraw pm_Ldraw cd_Ldraw ct_Ldraw : Value}
    {f_Lof : Addr} {od_Lof an_Lof : Option Addr} {sl_Lof : Array (Option Value)} {oc_Lof kV_Lof dc_Lof pm_Lof cd_Lof ct_Lof : Value}
    {f_Lsame : Addr} {od_Lsame an_Lsame : Option Addr} {sl_Lsame : Array (Option Value)} {oc_Lsame kV_Lsame dc_Lsame pm_Lsame cd_Lsame ct_Lsame : Value}
    {f_Lfield : Addr} {od_Lfield an_Lfield : Option Addr} {sl_Lfield : Array (Option Value)} {oc_Lfield kV_Lfield dc_Lfield pm_Lfield cd_Lfield ct_Lfield : Value}
    {f_Lother_field : Addr} {od_Lother_field an_Lother_field : Option Addr} {sl_Lother_field : Array (Option Value)} {oc_Lother_field kV_Lother_field dc_Lother_field pm_Lother_field cd_Lother_field ct_Lother_field : Value}
    {f_Lodd : Addr} {od_Lodd an_Lodd : Option Addr} {sl_Lodd : Array (Option Value)} {oc_Lodd kV_Lodd dc_Lodd pm_Lodd cd_Lodd ct_Lodd : Value}
    {f_Lmade_errors : Addr} {od_Lmade_errors an_Lmade_errors : Option Addr} {sl_Lmade_errors : Array (Option Value)} {oc_Lmade_errors kV_Lmade_errors dc_Lmade_errors pm_Lmade_errors cd_Lmade_errors ct_Lmade_errors : Value}
    {f_Lnamed_errors : Addr} {od_Lnamed_errors an_Lnamed_errors : Option Addr} {sl_Lnamed_errors : Array (Option Value)} {oc_Lnamed_errors kV_Lnamed_errors dc_Lnamed_errors pm_Lnamed_errors cd_Lnamed_errors ct_Lnamed_errors : Value}
    {f_Lkinds_of : Addr} {od_Lkinds_of an_Lkinds_of : Option Addr} {sl_Lkinds_of : Array (Option Value)} {oc_Lkinds_of kV_Lkinds_of dc_Lkinds_of pm_Lkinds_of cd_Lkinds_of ct_Lkinds_of : Value}
    {f_Lcodes : Addr} {od_Lcodes an_Lcodes : Option Addr} {sl_Lcodes : Array (Option Value)} {oc_Lcodes kV_Lcodes dc_Lcodes pm_Lcodes cd_Lcodes ct_Lcodes : Value}
    {f_law : Addr} {od_law an_law : Option Addr} {sl_law : Array (Option Value)} {oc_law kV_law dc_law pm_law cd_law ct_law : Value}
    (n_DuplicateMessage : PySem.W.nsIn K mainGlobals "DuplicateMessage" = some (some (.ref c_DuplicateMessage)))
    (n_DuplicateName : PySem.W.nsIn K mainGlobals "DuplicateName" = some (some (.ref c_DuplicateName)))
    (n_EmptyLot : PySem.W.nsIn K mainGlobals "EmptyLot" = some (some (.ref c_EmptyLot)))
    (n_Full : PySem.W.nsIn K mainGlobals "Full" = some (some (.ref c_Full)))
    (n_InvalidClause : PySem.W.nsIn K mainGlobals "InvalidClause" = some (some (.ref c_InvalidClause)))
    (n_InvalidCommand : PySem.W.nsIn K mainGlobals "InvalidCommand" = some (some (.ref c_InvalidCommand)))
    (n_InvalidLimit : PySem.W.nsIn K mainGlobals "InvalidLimit" = some (some (.ref c_InvalidLimit)))
    (n_InvalidMoment : PySem.W.nsIn K mainGlobals "InvalidMoment" = some (some (.ref c_InvalidMoment)))
    (n_InvalidName : PySem.W.nsIn K mainGlobals "InvalidName" = some (some (.ref c_InvalidName)))
    (n_InvalidNumber : PySem.W.nsIn K mainGlobals "InvalidNumber" = some (some (.ref c_InvalidNumber)))
    (n_InvalidPage : PySem.W.nsIn K mainGlobals "InvalidPage" = some (some (.ref c_InvalidPage)))
    (n_InvalidPoint : PySem.W.nsIn K mainGlobals "InvalidPoint" = some (some (.ref c_InvalidPoint)))
    (n_InvalidRow : PySem.W.nsIn K mainGlobals "InvalidRow" = some (some (.ref c_InvalidRow)))
    (n_InvalidStep : PySem.W.nsIn K mainGlobals "InvalidStep" = some (some (.ref c_InvalidStep)))
    (n_InvalidTests : PySem.W.nsIn K mainGlobals "InvalidTests" = some (some (.ref c_InvalidTests)))
    (n_InvalidText : PySem.W.nsIn K mainGlobals "InvalidText" = some (some (.ref c_InvalidText)))
    (n_InvalidWeights : PySem.W.nsIn K mainGlobals "InvalidWeights" = some (some (.ref c_InvalidWeights)))
    (n_LogError : PySem.W.nsIn K mainGlobals "LogError" = some (some (.ref c_LogError)))
    (n_Missing : PySem.W.nsIn K mainGlobals "Missing" = some (some (.ref c_Missing)))
    (n_NothingLeft : PySem.W.nsIn K mainGlobals "NothingLeft" = some (some (.ref c_NothingLeft)))
    (n_Parted : PySem.W.nsIn K mainGlobals "Parted" = some (some (.ref c_Parted)))
    (n_Ring : PySem.W.nsIn K mainGlobals "Ring" = some (some (.ref c_Ring)))
    (n_TooMany : PySem.W.nsIn K mainGlobals "TooMany" = some (some (.ref c_TooMany)))
    (n_Uneven : PySem.W.nsIn K mainGlobals "Uneven" = some (some (.ref c_Uneven)))
    (n_UnknownName : PySem.W.nsIn K mainGlobals "UnknownName" = some (some (.ref c_UnknownName)))
    (n_UnknownProcess : PySem.W.nsIn K mainGlobals "UnknownProcess" = some (some (.ref c_UnknownProcess)))
    (n_UnknownStep : PySem.W.nsIn K mainGlobals "UnknownStep" = some (some (.ref c_UnknownStep)))
    (n_UnlikeLogs : PySem.W.nsIn K mainGlobals "UnlikeLogs" = some (some (.ref c_UnlikeLogs)))
    (n_Unsent : PySem.W.nsIn K mainGlobals "Unsent" = some (some (.ref c_Unsent)))
    (i_InvalidName : PySem.W.findIn K (.ref c_InvalidName) "__init__" = some (some (.ref f_i_InvalidName))) (l_i_InvalidName : K.lookup f_i_InvalidName = some ⟨oc_i_InvalidName, od_i_InvalidName, .func (PySem.W.fnOf "__init__" "InvalidName.__init__" (defArgs s_i_InvalidName) (defBody s_i_InvalidName) (defScope s_i_InvalidName) .none kV_i_InvalidName dc_i_InvalidName pm_i_InvalidName an_i_InvalidName cd_i_InvalidName ct_i_InvalidName), sl_i_InvalidName⟩) (cc_i_InvalidName : PySem.W.codeIn K cd_i_InvalidName "InvalidName.__init__" = true) (k_i_InvalidName : PySem.W.keepIn K (.ref f_i_InvalidName) = true)
    (x_InvalidName : oxB K c_InvalidName "ValueError.__new__" [.type "ValueError", .type "Exception", .type "BaseException", .type "object"] ("code" :: ["value"]) f_i_InvalidName = true)
    (kt_InvalidName : kitXB K c_InvalidName [(.ref c_InvalidName, true), (.ref c_InvalidRow, false), (.ref c_DuplicateName, false), (.ref c_InvalidStep, false), (.ref c_DuplicateMessage, false), (.ref c_Unsent, false), (.ref c_Ring, false), (.ref c_TooMany, false), (.ref c_InvalidPoint, false), (.ref c_InvalidMoment, false), (.ref c_InvalidClause, false), (.ref c_Parted, false), (.ref c_UnlikeLogs, false), (.ref c_EmptyLot, false), (.ref c_InvalidNumber, false), (.ref c_InvalidWeights, false), (.ref c_Uneven, false), (.ref c_InvalidTests, false), (.ref c_InvalidText, false), (.ref c_InvalidCommand, false), (.ref c_Full, false), (.ref c_InvalidLimit, false), (.ref c_InvalidPage, false), (.ref c_UnknownProcess, false), (.ref c_UnknownStep, false), (.ref c_UnknownName, false), (.ref c_NothingLeft, false), (.ref c_LogError, true), (.ref c_Missing, false), (.type "ValueError", true), (.type "LookupError", false), (.type "IndexError", false)] = true)
    (i_InvalidRow : PySem.W.findIn K (.ref c_InvalidRow) "__init__" = some (some (.ref f_i_InvalidRow))) (l_i_InvalidRow : K.lookup f_i_InvalidRow = some ⟨oc_i_InvalidRow, od_i_InvalidRow, .func (PySem.W.fnOf "__init__" "InvalidRow.__init__" (defArgs s_i_InvalidRow) (defBody s_i_InvalidRow) (defScope s_i_InvalidRow) .none kV_i_InvalidRow dc_i_InvalidRow pm_i_InvalidRow an_i_InvalidRow cd_i_InvalidRow ct_i_InvalidRow), sl_i_InvalidRow⟩) (cc_i_InvalidRow : PySem.W.codeIn K cd_i_InvalidRow "InvalidRow.__init__" = true) (k_i_InvalidRow : PySem.W.keepIn K (.ref f_i_InvalidRow) = true)
    (x_InvalidRow : oxB K c_InvalidRow "ValueError.__new__" [.type "ValueError", .type "Exception", .type "BaseException", .type "object"] ("code" :: ["at"]) f_i_InvalidRow = true)
    (kt_InvalidRow : kitXB K c_InvalidRow [(.ref c_InvalidName, false), (.ref c_InvalidRow, true), (.ref c_DuplicateName, false), (.ref c_InvalidStep, false), (.ref c_DuplicateMessage, false), (.ref c_Unsent, false), (.ref c_Ring, false), (.ref c_TooMany, false), (.ref c_InvalidPoint, false), (.ref c_InvalidMoment, false), (.ref c_InvalidClause, false), (.ref c_Parted, false), (.ref c_UnlikeLogs, false), (.ref c_EmptyLot, false), (.ref c_InvalidNumber, false), (.ref c_InvalidWeights, false), (.ref c_Uneven, false), (.ref c_InvalidTests, false), (.ref c_InvalidText, false), (.ref c_InvalidCommand, false), (.ref c_Full, false), (.ref c_InvalidLimit, false), (.ref c_InvalidPage, false), (.ref c_UnknownProcess, false), (.ref c_UnknownStep, false), (.ref c_UnknownName, false), (.ref c_NothingLeft, false), (.ref c_LogError, true), (.ref c_Missing, false), (.type "ValueError", true), (.type "LookupError", false), (.type "IndexError", false)] = true)
    (i_DuplicateName : PySem.W.findIn K (.ref c_DuplicateName) "__init__" = some (some (.ref f_i_DuplicateName))) (l_i_DuplicateName : K.lookup f_i_DuplicateName = some ⟨oc_i_DuplicateName, od_i_DuplicateName, .func (PySem.W.fnOf "__init__" "DuplicateName.__init__" (defArgs s_i_DuplicateName) (defBody s_i_DuplicateName) (defScope s_i_DuplicateName) .none kV_i_DuplicateName dc_i_DuplicateName pm_i_DuplicateName an_i_DuplicateName cd_i_DuplicateName ct_i_DuplicateName), sl_i_DuplicateName⟩) (cc_i_DuplicateName : PySem.W.codeIn K cd_i_DuplicateName "DuplicateName.__init__" = true) (k_i_DuplicateName : PySem.W.keepIn K (.ref f_i_DuplicateName) = true)
    (x_DuplicateName : oxB K c_DuplicateName "ValueError.__new__" [.type "ValueError", .type "Exception", .type "BaseException", .type "object"] ("code" :: ["name"]) f_i_DuplicateName = true)
    (kt_DuplicateName : kitXB K c_DuplicateName [(.ref c_InvalidName, false), (.ref c_InvalidRow, false), (.ref c_DuplicateName, true), (.ref c_InvalidStep, false), (.ref c_DuplicateMessage, false), (.ref c_Unsent, false), (.ref c_Ring, false), (.ref c_TooMany, false), (.ref c_InvalidPoint, false), (.ref c_InvalidMoment, false), (.ref c_InvalidClause, false), (.ref c_Parted, false), (.ref c_UnlikeLogs, false), (.ref c_EmptyLot, false), (.ref c_InvalidNumber, false), (.ref c_InvalidWeights, false), (.ref c_Uneven, false), (.ref c_InvalidTests, false), (.ref c_InvalidText, false), (.ref c_InvalidCommand, false), (.ref c_Full, false), (.ref c_InvalidLimit, false), (.ref c_InvalidPage, false), (.ref c_UnknownProcess, false), (.ref c_UnknownStep, false), (.ref c_UnknownName, false), (.ref c_NothingLeft, false), (.ref c_LogError, true), (.ref c_Missing, false), (.type "ValueError", true), (.type "LookupError", false), (.type "IndexError", false)] = true)
    (i_InvalidStep : PySem.W.findIn K (.ref c_InvalidStep) "__init__" = some (some (.ref f_i_InvalidStep))) (l_i_InvalidStep : K.lookup f_i_InvalidStep = some ⟨oc_i_InvalidStep, od_i_InvalidStep, .func (PySem.W.fnOf "__init__" "InvalidStep.__init__" (defArgs s_i_InvalidStep) (defBody s_i_InvalidStep) (defScope s_i_InvalidStep) .none kV_i_InvalidStep dc_i_InvalidStep pm_i_InvalidStep an_i_InvalidStep cd_i_InvalidStep ct_i_InvalidStep), sl_i_InvalidStep⟩) (cc_i_InvalidStep : PySem.W.codeIn K cd_i_InvalidStep "InvalidStep.__init__" = true) (k_i_InvalidStep : PySem.W.keepIn K (.ref f_i_InvalidStep) = true)
    (x_InvalidStep : oxB K c_InvalidStep "ValueError.__new__" [.type "ValueError", .type "Exception", .type "BaseException", .type "object"] ("code" :: ["process", "index"]) f_i_InvalidStep = true)
    (kt_InvalidStep : kitXB K c_InvalidStep [(.ref c_InvalidName, false), (.ref c_InvalidRow, false), (.ref c_DuplicateName, false), (.ref c_InvalidStep, true), (.ref c_DuplicateMessage, false), (.ref c_Unsent, false), (.ref c_Ring, false), (.ref c_TooMany, false), (.ref c_InvalidPoint, false), (.ref c_InvalidMoment, false), (.ref c_InvalidClause, false), (.ref c_Parted, false), (.ref c_UnlikeLogs, false), (.ref c_EmptyLot, false), (.ref c_InvalidNumber, false), (.ref c_InvalidWeights, false), (.ref c_Uneven, false), (.ref c_InvalidTests, false), (.ref c_InvalidText, false), (.ref c_InvalidCommand, false), (.ref c_Full, false), (.ref c_InvalidLimit, false), (.ref c_InvalidPage, false), (.ref c_UnknownProcess, false), (.ref c_UnknownStep, false), (.ref c_UnknownName, false), (.ref c_NothingLeft, false), (.ref c_LogError, true), (.ref c_Missing, false), (.type "ValueError", true), (.type "LookupError", false), (.type "IndexError", false)] = true)
    (i_DuplicateMessage : PySem.W.findIn K (.ref c_DuplicateMessage) "__init__" = some (some (.ref f_i_DuplicateMessage))) (l_i_DuplicateMessage : K.lookup f_i_DuplicateMessage = some ⟨oc_i_DuplicateMessage, od_i_DuplicateMessage, .func (PySem.W.fnOf "__init__" "DuplicateMessage.__init__" (defArgs s_i_DuplicateMessage) (defBody s_i_DuplicateMessage) (defScope s_i_DuplicateMessage) .none kV_i_DuplicateMessage dc_i_DuplicateMessage pm_i_DuplicateMessage an_i_DuplicateMessage cd_i_DuplicateMessage ct_i_DuplicateMessage), sl_i_DuplicateMessage⟩) (cc_i_DuplicateMessage : PySem.W.codeIn K cd_i_DuplicateMessage "DuplicateMessage.__init__" = true) (k_i_DuplicateMessage : PySem.W.keepIn K (.ref f_i_DuplicateMessage) = true)
    (x_DuplicateMessage : oxB K c_DuplicateMessage "ValueError.__new__" [.type "ValueError", .type "Exception", .type "BaseException", .type "object"] ("code" :: ["message"]) f_i_DuplicateMessage = true)
    (kt_DuplicateMessage : kitXB K c_DuplicateMessage [(.ref c_InvalidName, false), (.ref c_InvalidRow, false), (.ref c_DuplicateName, false), (.ref c_InvalidStep, false), (.ref c_DuplicateMessage, true), (.ref c_Unsent, false), (.ref c_Ring, false), (.ref c_TooMany, false), (.ref c_InvalidPoint, false), (.ref c_InvalidMoment, false), (.ref c_InvalidClause, false), (.ref c_Parted, false), (.ref c_UnlikeLogs, false), (.ref c_EmptyLot, false), (.ref c_InvalidNumber, false), (.ref c_InvalidWeights, false), (.ref c_Uneven, false), (.ref c_InvalidTests, false), (.ref c_InvalidText, false), (.ref c_InvalidCommand, false), (.ref c_Full, false), (.ref c_InvalidLimit, false), (.ref c_InvalidPage, false), (.ref c_UnknownProcess, false), (.ref c_UnknownStep, false), (.ref c_UnknownName, false), (.ref c_NothingLeft, false), (.ref c_LogError, true), (.ref c_Missing, false), (.type "ValueError", true), (.type "LookupError", false), (.type "IndexError", false)] = true)
    (i_Unsent : PySem.W.findIn K (.ref c_Unsent) "__init__" = some (some (.ref f_i_Unsent))) (l_i_Unsent : K.lookup f_i_Unsent = some ⟨oc_i_Unsent, od_i_Unsent, .func (PySem.W.fnOf "__init__" "Unsent.__init__" (defArgs s_i_Unsent) (defBody s_i_Unsent) (defScope s_i_Unsent) .none kV_i_Unsent dc_i_Unsent pm_i_Unsent an_i_Unsent cd_i_Unsent ct_i_Unsent), sl_i_Unsent⟩) (cc_i_Unsent : PySem.W.codeIn K cd_i_Unsent "Unsent.__init__" = true) (k_i_Unsent : PySem.W.keepIn K (.ref f_i_Unsent) = true)
    (x_Unsent : oxB K c_Unsent "ValueError.__new__" [.type "ValueError", .type "Exception", .type "BaseException", .type "object"] ("code" :: ["message"]) f_i_Unsent = true)
    (kt_Unsent : kitXB K c_Unsent [(.ref c_InvalidName, false), (.ref c_InvalidRow, false), (.ref c_DuplicateName, false), (.ref c_InvalidStep, false), (.ref c_DuplicateMessage, false), (.ref c_Unsent, true), (.ref c_Ring, false), (.ref c_TooMany, false), (.ref c_InvalidPoint, false), (.ref c_InvalidMoment, false), (.ref c_InvalidClause, false), (.ref c_Parted, false), (.ref c_UnlikeLogs, false), (.ref c_EmptyLot, false), (.ref c_InvalidNumber, false), (.ref c_InvalidWeights, false), (.ref c_Uneven, false), (.ref c_InvalidTests, false), (.ref c_InvalidText, false), (.ref c_InvalidCommand, false), (.ref c_Full, false), (.ref c_InvalidLimit, false), (.ref c_InvalidPage, false), (.ref c_UnknownProcess, false), (.ref c_UnknownStep, false), (.ref c_UnknownName, false), (.ref c_NothingLeft, false), (.ref c_LogError, true), (.ref c_Missing, false), (.type "ValueError", true), (.type "LookupError", false), (.type "IndexError", false)] = true)
    (i_Ring : PySem.W.findIn K (.ref c_Ring) "__init__" = some (some (.ref f_i_Ring))) (l_i_Ring : K.lookup f_i_Ring = some ⟨oc_i_Ring, od_i_Ring, .func (PySem.W.fnOf "__init__" "Ring.__init__" (defArgs s_i_Ring) (defBody s_i_Ring) (defScope s_i_Ring) .none kV_i_Ring dc_i_Ring pm_i_Ring an_i_Ring cd_i_Ring ct_i_Ring), sl_i_Ring⟩) (cc_i_Ring : PySem.W.codeIn K cd_i_Ring "Ring.__init__" = true) (k_i_Ring : PySem.W.keepIn K (.ref f_i_Ring) = true)
    (x_Ring : oxB K c_Ring "ValueError.__new__" [.type "ValueError", .type "Exception", .type "BaseException", .type "object"] ("code" :: ["process"]) f_i_Ring = true)
    (kt_Ring : kitXB K c_Ring [(.ref c_InvalidName, false), (.ref c_InvalidRow, false), (.ref c_DuplicateName, false), (.ref c_InvalidStep, false), (.ref c_DuplicateMessage, false), (.ref c_Unsent, false), (.ref c_Ring, true), (.ref c_TooMany, false), (.ref c_InvalidPoint, false), (.ref c_InvalidMoment, false), (.ref c_InvalidClause, false), (.ref c_Parted, false), (.ref c_UnlikeLogs, false), (.ref c_EmptyLot, false), (.ref c_InvalidNumber, false), (.ref c_InvalidWeights, false), (.ref c_Uneven, false), (.ref c_InvalidTests, false), (.ref c_InvalidText, false), (.ref c_InvalidCommand, false), (.ref c_Full, false), (.ref c_InvalidLimit, false), (.ref c_InvalidPage, false), (.ref c_UnknownProcess, false), (.ref c_UnknownStep, false), (.ref c_UnknownName, false), (.ref c_NothingLeft, false), (.ref c_LogError, true), (.ref c_Missing, false), (.type "ValueError", true), (.type "LookupError", false), (.type "IndexError", false)] = true)
    (i_TooMany : PySem.W.findIn K (.ref c_TooMany) "__init__" = some (some (.ref f_i_TooMany))) (l_i_TooMany : K.lookup f_i_TooMany = some ⟨oc_i_TooMany, od_i_TooMany, .func (PySem.W.fnOf "__init__" "TooMany.__init__" (defArgs s_i_TooMany) (defBody s_i_TooMany) (defScope s_i_TooMany) .none kV_i_TooMany dc_i_TooMany pm_i_TooMany an_i_TooMany cd_i_TooMany ct_i_TooMany), sl_i_TooMany⟩) (cc_i_TooMany : PySem.W.codeIn K cd_i_TooMany "TooMany.__init__" = true) (k_i_TooMany : PySem.W.keepIn K (.ref f_i_TooMany) = true)
    (x_TooMany : oxB K c_TooMany "ValueError.__new__" [.type "ValueError", .type "Exception", .type "BaseException", .type "object"] ("code" :: ["subject", "most"]) f_i_TooMany = true)
    (kt_TooMany : kitXB K c_TooMany [(.ref c_InvalidName, false), (.ref c_InvalidRow, false), (.ref c_DuplicateName, false), (.ref c_InvalidStep, false), (.ref c_DuplicateMessage, false), (.ref c_Unsent, false), (.ref c_Ring, false), (.ref c_TooMany, true), (.ref c_InvalidPoint, false), (.ref c_InvalidMoment, false), (.ref c_InvalidClause, false), (.ref c_Parted, false), (.ref c_UnlikeLogs, false), (.ref c_EmptyLot, false), (.ref c_InvalidNumber, false), (.ref c_InvalidWeights, false), (.ref c_Uneven, false), (.ref c_InvalidTests, false), (.ref c_InvalidText, false), (.ref c_InvalidCommand, false), (.ref c_Full, false), (.ref c_InvalidLimit, false), (.ref c_InvalidPage, false), (.ref c_UnknownProcess, false), (.ref c_UnknownStep, false), (.ref c_UnknownName, false), (.ref c_NothingLeft, false), (.ref c_LogError, true), (.ref c_Missing, false), (.type "ValueError", true), (.type "LookupError", false), (.type "IndexError", false)] = true)
    (i_InvalidPoint : PySem.W.findIn K (.ref c_InvalidPoint) "__init__" = some (some (.ref f_i_InvalidPoint))) (l_i_InvalidPoint : K.lookup f_i_InvalidPoint = some ⟨oc_i_InvalidPoint, od_i_InvalidPoint, .func (PySem.W.fnOf "__init__" "InvalidPoint.__init__" (defArgs s_i_InvalidPoint) (defBody s_i_InvalidPoint) (defScope s_i_InvalidPoint) .none kV_i_InvalidPoint dc_i_InvalidPoint pm_i_InvalidPoint an_i_InvalidPoint cd_i_InvalidPoint ct_i_InvalidPoint), sl_i_InvalidPoint⟩) (cc_i_InvalidPoint : PySem.W.codeIn K cd_i_InvalidPoint "InvalidPoint.__init__" = true) (k_i_InvalidPoint : PySem.W.keepIn K (.ref f_i_InvalidPoint) = true)
    (x_InvalidPoint : oxB K c_InvalidPoint "ValueError.__new__" [.type "ValueError", .type "Exception", .type "BaseException", .type "object"] ("code" :: ["value"]) f_i_InvalidPoint = true)
    (kt_InvalidPoint : kitXB K c_InvalidPoint [(.ref c_InvalidName, false), (.ref c_InvalidRow, false), (.ref c_DuplicateName, false), (.ref c_InvalidStep, false), (.ref c_DuplicateMessage, false), (.ref c_Unsent, false), (.ref c_Ring, false), (.ref c_TooMany, false), (.ref c_InvalidPoint, true), (.ref c_InvalidMoment, false), (.ref c_InvalidClause, false), (.ref c_Parted, false), (.ref c_UnlikeLogs, false), (.ref c_EmptyLot, false), (.ref c_InvalidNumber, false), (.ref c_InvalidWeights, false), (.ref c_Uneven, false), (.ref c_InvalidTests, false), (.ref c_InvalidText, false), (.ref c_InvalidCommand, false), (.ref c_Full, false), (.ref c_InvalidLimit, false), (.ref c_InvalidPage, false), (.ref c_UnknownProcess, false), (.ref c_UnknownStep, false), (.ref c_UnknownName, false), (.ref c_NothingLeft, false), (.ref c_LogError, true), (.ref c_Missing, false), (.type "ValueError", true), (.type "LookupError", false), (.type "IndexError", false)] = true)
    (i_InvalidMoment : PySem.W.findIn K (.ref c_InvalidMoment) "__init__" = some (some (.ref f_i_InvalidMoment))) (l_i_InvalidMoment : K.lookup f_i_InvalidMoment = some ⟨oc_i_InvalidMoment, od_i_InvalidMoment, .func (PySem.W.fnOf "__init__" "InvalidMoment.__init__" (defArgs s_i_InvalidMoment) (defBody s_i_InvalidMoment) (defScope s_i_InvalidMoment) .none kV_i_InvalidMoment dc_i_InvalidMoment pm_i_InvalidMoment an_i_InvalidMoment cd_i_InvalidMoment ct_i_InvalidMoment), sl_i_InvalidMoment⟩) (cc_i_InvalidMoment : PySem.W.codeIn K cd_i_InvalidMoment "InvalidMoment.__init__" = true) (k_i_InvalidMoment : PySem.W.keepIn K (.ref f_i_InvalidMoment) = true)
    (x_InvalidMoment : oxB K c_InvalidMoment "ValueError.__new__" [.type "ValueError", .type "Exception", .type "BaseException", .type "object"] ("code" :: ["value"]) f_i_InvalidMoment = true)
    (kt_InvalidMoment : kitXB K c_InvalidMoment [(.ref c_InvalidName, false), (.ref c_InvalidRow, false), (.ref c_DuplicateName, false), (.ref c_InvalidStep, false), (.ref c_DuplicateMessage, false), (.ref c_Unsent, false), (.ref c_Ring, false), (.ref c_TooMany, false), (.ref c_InvalidPoint, false), (.ref c_InvalidMoment, true), (.ref c_InvalidClause, false), (.ref c_Parted, false), (.ref c_UnlikeLogs, false), (.ref c_EmptyLot, false), (.ref c_InvalidNumber, false), (.ref c_InvalidWeights, false), (.ref c_Uneven, false), (.ref c_InvalidTests, false), (.ref c_InvalidText, false), (.ref c_InvalidCommand, false), (.ref c_Full, false), (.ref c_InvalidLimit, false), (.ref c_InvalidPage, false), (.ref c_UnknownProcess, false), (.ref c_UnknownStep, false), (.ref c_UnknownName, false), (.ref c_NothingLeft, false), (.ref c_LogError, true), (.ref c_Missing, false), (.type "ValueError", true), (.type "LookupError", false), (.type "IndexError", false)] = true)
    (i_InvalidClause : PySem.W.findIn K (.ref c_InvalidClause) "__init__" = some (some (.ref f_i_InvalidClause))) (l_i_InvalidClause : K.lookup f_i_InvalidClause = some ⟨oc_i_InvalidClause, od_i_InvalidClause, .func (PySem.W.fnOf "__init__" "InvalidClause.__init__" (defArgs s_i_InvalidClause) (defBody s_i_InvalidClause) (defScope s_i_InvalidClause) .none kV_i_InvalidClause dc_i_InvalidClause pm_i_InvalidClause an_i_InvalidClause cd_i_InvalidClause ct_i_InvalidClause), sl_i_InvalidClause⟩) (cc_i_InvalidClause : PySem.W.codeIn K cd_i_InvalidClause "InvalidClause.__init__" = true) (k_i_InvalidClause : PySem.W.keepIn K (.ref f_i_InvalidClause) = true)
    (x_InvalidClause : oxB K c_InvalidClause "ValueError.__new__" [.type "ValueError", .type "Exception", .type "BaseException", .type "object"] ("code" :: ["at"]) f_i_InvalidClause = true)
    (kt_InvalidClause : kitXB K c_InvalidClause [(.ref c_InvalidName, false), (.ref c_InvalidRow, false), (.ref c_DuplicateName, false), (.ref c_InvalidStep, false), (.ref c_DuplicateMessage, false), (.ref c_Unsent, false), (.ref c_Ring, false), (.ref c_TooMany, false), (.ref c_InvalidPoint, false), (.ref c_InvalidMoment, false), (.ref c_InvalidClause, true), (.ref c_Parted, false), (.ref c_UnlikeLogs, false), (.ref c_EmptyLot, false), (.ref c_InvalidNumber, false), (.ref c_InvalidWeights, false), (.ref c_Uneven, false), (.ref c_InvalidTests, false), (.ref c_InvalidText, false), (.ref c_InvalidCommand, false), (.ref c_Full, false), (.ref c_InvalidLimit, false), (.ref c_InvalidPage, false), (.ref c_UnknownProcess, false), (.ref c_UnknownStep, false), (.ref c_UnknownName, false), (.ref c_NothingLeft, false), (.ref c_LogError, true), (.ref c_Missing, false), (.type "ValueError", true), (.type "LookupError", false), (.type "IndexError", false)] = true)
    (i_Parted : PySem.W.findIn K (.ref c_Parted) "__init__" = some (some (.ref f_i_Parted))) (l_i_Parted : K.lookup f_i_Parted = some ⟨oc_i_Parted, od_i_Parted, .func (PySem.W.fnOf "__init__" "Parted.__init__" (defArgs s_i_Parted) (defBody s_i_Parted) (defScope s_i_Parted) .none kV_i_Parted dc_i_Parted pm_i_Parted an_i_Parted cd_i_Parted ct_i_Parted), sl_i_Parted⟩) (cc_i_Parted : PySem.W.codeIn K cd_i_Parted "Parted.__init__" = true) (k_i_Parted : PySem.W.keepIn K (.ref f_i_Parted) = true)
    (x_Parted : oxB K c_Parted "ValueError.__new__" [.type "ValueError", .type "Exception", .type "BaseException", .type "object"] ("code" :: ["at", "one", "other"]) f_i_Parted = true)
    (kt_Parted : kitXB K c_Parted [(.ref c_InvalidName, false), (.ref c_InvalidRow, false), (.ref c_DuplicateName, false), (.ref c_InvalidStep, false), (.ref c_DuplicateMessage, false), (.ref c_Unsent, false), (.ref c_Ring, false), (.ref c_TooMany, false), (.ref c_InvalidPoint, false), (.ref c_InvalidMoment, false), (.ref c_InvalidClause, false), (.ref c_Parted, true), (.ref c_UnlikeLogs, false), (.ref c_EmptyLot, false), (.ref c_InvalidNumber, false), (.ref c_InvalidWeights, false), (.ref c_Uneven, false), (.ref c_InvalidTests, false), (.ref c_InvalidText, false), (.ref c_InvalidCommand, false), (.ref c_Full, false), (.ref c_InvalidLimit, false), (.ref c_InvalidPage, false), (.ref c_UnknownProcess, false), (.ref c_UnknownStep, false), (.ref c_UnknownName, false), (.ref c_NothingLeft, false), (.ref c_LogError, true), (.ref c_Missing, false), (.type "ValueError", true), (.type "LookupError", false), (.type "IndexError", false)] = true)
    (i_UnlikeLogs : PySem.W.findIn K (.ref c_UnlikeLogs) "__init__" = some (some (.ref f_i_UnlikeLogs))) (l_i_UnlikeLogs : K.lookup f_i_UnlikeLogs = some ⟨oc_i_UnlikeLogs, od_i_UnlikeLogs, .func (PySem.W.fnOf "__init__" "UnlikeLogs.__init__" (defArgs s_i_UnlikeLogs) (defBody s_i_UnlikeLogs) (defScope s_i_UnlikeLogs) .none kV_i_UnlikeLogs dc_i_UnlikeLogs pm_i_UnlikeLogs an_i_UnlikeLogs cd_i_UnlikeLogs ct_i_UnlikeLogs), sl_i_UnlikeLogs⟩) (cc_i_UnlikeLogs : PySem.W.codeIn K cd_i_UnlikeLogs "UnlikeLogs.__init__" = true) (k_i_UnlikeLogs : PySem.W.keepIn K (.ref f_i_UnlikeLogs) = true)
    (x_UnlikeLogs : oxB K c_UnlikeLogs "ValueError.__new__" [.type "ValueError", .type "Exception", .type "BaseException", .type "object"] ("code" :: []) f_i_UnlikeLogs = true)
    (kt_UnlikeLogs : kitXB K c_UnlikeLogs [(.ref c_InvalidName, false), (.ref c_InvalidRow, false), (.ref c_DuplicateName, false), (.ref c_InvalidStep, false), (.ref c_DuplicateMessage, false), (.ref c_Unsent, false), (.ref c_Ring, false), (.ref c_TooMany, false), (.ref c_InvalidPoint, false), (.ref c_InvalidMoment, false), (.ref c_InvalidClause, false), (.ref c_Parted, false), (.ref c_UnlikeLogs, true), (.ref c_EmptyLot, false), (.ref c_InvalidNumber, false), (.ref c_InvalidWeights, false), (.ref c_Uneven, false), (.ref c_InvalidTests, false), (.ref c_InvalidText, false), (.ref c_InvalidCommand, false), (.ref c_Full, false), (.ref c_InvalidLimit, false), (.ref c_InvalidPage, false), (.ref c_UnknownProcess, false), (.ref c_UnknownStep, false), (.ref c_UnknownName, false), (.ref c_NothingLeft, false), (.ref c_LogError, true), (.ref c_Missing, false), (.type "ValueError", true), (.type "LookupError", false), (.type "IndexError", false)] = true)
    (i_EmptyLot : PySem.W.findIn K (.ref c_EmptyLot) "__init__" = some (some (.ref f_i_EmptyLot))) (l_i_EmptyLot : K.lookup f_i_EmptyLot = some ⟨oc_i_EmptyLot, od_i_EmptyLot, .func (PySem.W.fnOf "__init__" "EmptyLot.__init__" (defArgs s_i_EmptyLot) (defBody s_i_EmptyLot) (defScope s_i_EmptyLot) .none kV_i_EmptyLot dc_i_EmptyLot pm_i_EmptyLot an_i_EmptyLot cd_i_EmptyLot ct_i_EmptyLot), sl_i_EmptyLot⟩) (cc_i_EmptyLot : PySem.W.codeIn K cd_i_EmptyLot "EmptyLot.__init__" = true) (k_i_EmptyLot : PySem.W.keepIn K (.ref f_i_EmptyLot) = true)
    (x_EmptyLot : oxB K c_EmptyLot "ValueError.__new__" [.type "ValueError", .type "Exception", .type "BaseException", .type "object"] ("code" :: []) f_i_EmptyLot = true)
    (kt_EmptyLot : kitXB K c_EmptyLot [(.ref c_InvalidName, false), (.ref c_InvalidRow, false), (.ref c_DuplicateName, false), (.ref c_InvalidStep, false), (.ref c_DuplicateMessage, false), (.ref c_Unsent, false), (.ref c_Ring, false), (.ref c_TooMany, false), (.ref c_InvalidPoint, false), (.ref c_InvalidMoment, false), (.ref c_InvalidClause, false), (.ref c_Parted, false), (.ref c_UnlikeLogs, false), (.ref c_EmptyLot, true), (.ref c_InvalidNumber, false), (.ref c_InvalidWeights, false), (.ref c_Uneven, false), (.ref c_InvalidTests, false), (.ref c_InvalidText, false), (.ref c_InvalidCommand, false), (.ref c_Full, false), (.ref c_InvalidLimit, false), (.ref c_InvalidPage, false), (.ref c_UnknownProcess, false), (.ref c_UnknownStep, false), (.ref c_UnknownName, false), (.ref c_NothingLeft, false), (.ref c_LogError, true), (.ref c_Missing, false), (.type "ValueError", true), (.type "LookupError", false), (.type "IndexError", false)] = true)
    (i_InvalidNumber : PySem.W.findIn K (.ref c_InvalidNumber) "__init__" = some (some (.ref f_i_InvalidNumber))) (l_i_InvalidNumber : K.lookup f_i_InvalidNumber = some ⟨oc_i_InvalidNumber, od_i_InvalidNumber, .func (PySem.W.fnOf "__init__" "InvalidNumber.__init__" (defArgs s_i_InvalidNumber) (defBody s_i_InvalidNumber) (defScope s_i_InvalidNumber) .none kV_i_InvalidNumber dc_i_InvalidNumber pm_i_InvalidNumber an_i_InvalidNumber cd_i_InvalidNumber ct_i_InvalidNumber), sl_i_InvalidNumber⟩) (cc_i_InvalidNumber : PySem.W.codeIn K cd_i_InvalidNumber "InvalidNumber.__init__" = true) (k_i_InvalidNumber : PySem.W.keepIn K (.ref f_i_InvalidNumber) = true)
    (x_InvalidNumber : oxB K c_InvalidNumber "ValueError.__new__" [.type "ValueError", .type "Exception", .type "BaseException", .type "object"] ("code" :: ["value"]) f_i_InvalidNumber = true)
    (kt_InvalidNumber : kitXB K c_InvalidNumber [(.ref c_InvalidName, false), (.ref c_InvalidRow, false), (.ref c_DuplicateName, false), (.ref c_InvalidStep, false), (.ref c_DuplicateMessage, false), (.ref c_Unsent, false), (.ref c_Ring, false), (.ref c_TooMany, false), (.ref c_InvalidPoint, false), (.ref c_InvalidMoment, false), (.ref c_InvalidClause, false), (.ref c_Parted, false), (.ref c_UnlikeLogs, false), (.ref c_EmptyLot, false), (.ref c_InvalidNumber, true), (.ref c_InvalidWeights, false), (.ref c_Uneven, false), (.ref c_InvalidTests, false), (.ref c_InvalidText, false), (.ref c_InvalidCommand, false), (.ref c_Full, false), (.ref c_InvalidLimit, false), (.ref c_InvalidPage, false), (.ref c_UnknownProcess, false), (.ref c_UnknownStep, false), (.ref c_UnknownName, false), (.ref c_NothingLeft, false), (.ref c_LogError, true), (.ref c_Missing, false), (.type "ValueError", true), (.type "LookupError", false), (.type "IndexError", false)] = true)
    (i_InvalidWeights : PySem.W.findIn K (.ref c_InvalidWeights) "__init__" = some (some (.ref f_i_InvalidWeights))) (l_i_InvalidWeights : K.lookup f_i_InvalidWeights = some ⟨oc_i_InvalidWeights, od_i_InvalidWeights, .func (PySem.W.fnOf "__init__" "InvalidWeights.__init__" (defArgs s_i_InvalidWeights) (defBody s_i_InvalidWeights) (defScope s_i_InvalidWeights) .none kV_i_InvalidWeights dc_i_InvalidWeights pm_i_InvalidWeights an_i_InvalidWeights cd_i_InvalidWeights ct_i_InvalidWeights), sl_i_InvalidWeights⟩) (cc_i_InvalidWeights : PySem.W.codeIn K cd_i_InvalidWeights "InvalidWeights.__init__" = true) (k_i_InvalidWeights : PySem.W.keepIn K (.ref f_i_InvalidWeights) = true)
    (x_InvalidWeights : oxB K c_InvalidWeights "ValueError.__new__" [.type "ValueError", .type "Exception", .type "BaseException", .type "object"] ("code" :: []) f_i_InvalidWeights = true)
    (kt_InvalidWeights : kitXB K c_InvalidWeights [(.ref c_InvalidName, false), (.ref c_InvalidRow, false), (.ref c_DuplicateName, false), (.ref c_InvalidStep, false), (.ref c_DuplicateMessage, false), (.ref c_Unsent, false), (.ref c_Ring, false), (.ref c_TooMany, false), (.ref c_InvalidPoint, false), (.ref c_InvalidMoment, false), (.ref c_InvalidClause, false), (.ref c_Parted, false), (.ref c_UnlikeLogs, false), (.ref c_EmptyLot, false), (.ref c_InvalidNumber, false), (.ref c_InvalidWeights, true), (.ref c_Uneven, false), (.ref c_InvalidTests, false), (.ref c_InvalidText, false), (.ref c_InvalidCommand, false), (.ref c_Full, false), (.ref c_InvalidLimit, false), (.ref c_InvalidPage, false), (.ref c_UnknownProcess, false), (.ref c_UnknownStep, false), (.ref c_UnknownName, false), (.ref c_NothingLeft, false), (.ref c_LogError, true), (.ref c_Missing, false), (.type "ValueError", true), (.type "LookupError", false), (.type "IndexError", false)] = true)
    (i_Uneven : PySem.W.findIn K (.ref c_Uneven) "__init__" = some (some (.ref f_i_Uneven))) (l_i_Uneven : K.lookup f_i_Uneven = some ⟨oc_i_Uneven, od_i_Uneven, .func (PySem.W.fnOf "__init__" "Uneven.__init__" (defArgs s_i_Uneven) (defBody s_i_Uneven) (defScope s_i_Uneven) .none kV_i_Uneven dc_i_Uneven pm_i_Uneven an_i_Uneven cd_i_Uneven ct_i_Uneven), sl_i_Uneven⟩) (cc_i_Uneven : PySem.W.codeIn K cd_i_Uneven "Uneven.__init__" = true) (k_i_Uneven : PySem.W.keepIn K (.ref f_i_Uneven) = true)
    (x_Uneven : oxB K c_Uneven "ValueError.__new__" [.type "ValueError", .type "Exception", .type "BaseException", .type "object"] ("code" :: ["block"]) f_i_Uneven = true)
    (kt_Uneven : kitXB K c_Uneven [(.ref c_InvalidName, false), (.ref c_InvalidRow, false), (.ref c_DuplicateName, false), (.ref c_InvalidStep, false), (.ref c_DuplicateMessage, false), (.ref c_Unsent, false), (.ref c_Ring, false), (.ref c_TooMany, false), (.ref c_InvalidPoint, false), (.ref c_InvalidMoment, false), (.ref c_InvalidClause, false), (.ref c_Parted, false), (.ref c_UnlikeLogs, false), (.ref c_EmptyLot, false), (.ref c_InvalidNumber, false), (.ref c_InvalidWeights, false), (.ref c_Uneven, true), (.ref c_InvalidTests, false), (.ref c_InvalidText, false), (.ref c_InvalidCommand, false), (.ref c_Full, false), (.ref c_InvalidLimit, false), (.ref c_InvalidPage, false), (.ref c_UnknownProcess, false), (.ref c_UnknownStep, false), (.ref c_UnknownName, false), (.ref c_NothingLeft, false), (.ref c_LogError, true), (.ref c_Missing, false), (.type "ValueError", true), (.type "LookupError", false), (.type "IndexError", false)] = true)
    (i_InvalidTests : PySem.W.findIn K (.ref c_InvalidTests) "__init__" = some (some (.ref f_i_InvalidTests))) (l_i_InvalidTests : K.lookup f_i_InvalidTests = some ⟨oc_i_InvalidTests, od_i_InvalidTests, .func (PySem.W.fnOf "__init__" "InvalidTests.__init__" (defArgs s_i_InvalidTests) (defBody s_i_InvalidTests) (defScope s_i_InvalidTests) .none kV_i_InvalidTests dc_i_InvalidTests pm_i_InvalidTests an_i_InvalidTests cd_i_InvalidTests ct_i_InvalidTests), sl_i_InvalidTests⟩) (cc_i_InvalidTests : PySem.W.codeIn K cd_i_InvalidTests "InvalidTests.__init__" = true) (k_i_InvalidTests : PySem.W.keepIn K (.ref f_i_InvalidTests) = true)
    (x_InvalidTests : oxB K c_InvalidTests "ValueError.__new__" [.type "ValueError", .type "Exception", .type "BaseException", .type "object"] ("code" :: ["at"]) f_i_InvalidTests = true)
    (kt_InvalidTests : kitXB K c_InvalidTests [(.ref c_InvalidName, false), (.ref c_InvalidRow, false), (.ref c_DuplicateName, false), (.ref c_InvalidStep, false), (.ref c_DuplicateMessage, false), (.ref c_Unsent, false), (.ref c_Ring, false), (.ref c_TooMany, false), (.ref c_InvalidPoint, false), (.ref c_InvalidMoment, false), (.ref c_InvalidClause, false), (.ref c_Parted, false), (.ref c_UnlikeLogs, false), (.ref c_EmptyLot, false), (.ref c_InvalidNumber, false), (.ref c_InvalidWeights, false), (.ref c_Uneven, false), (.ref c_InvalidTests, true), (.ref c_InvalidText, false), (.ref c_InvalidCommand, false), (.ref c_Full, false), (.ref c_InvalidLimit, false), (.ref c_InvalidPage, false), (.ref c_UnknownProcess, false), (.ref c_UnknownStep, false), (.ref c_UnknownName, false), (.ref c_NothingLeft, false), (.ref c_LogError, true), (.ref c_Missing, false), (.type "ValueError", true), (.type "LookupError", false), (.type "IndexError", false)] = true)
    (i_InvalidText : PySem.W.findIn K (.ref c_InvalidText) "__init__" = some (some (.ref f_i_InvalidText))) (l_i_InvalidText : K.lookup f_i_InvalidText = some ⟨oc_i_InvalidText, od_i_InvalidText, .func (PySem.W.fnOf "__init__" "InvalidText.__init__" (defArgs s_i_InvalidText) (defBody s_i_InvalidText) (defScope s_i_InvalidText) .none kV_i_InvalidText dc_i_InvalidText pm_i_InvalidText an_i_InvalidText cd_i_InvalidText ct_i_InvalidText), sl_i_InvalidText⟩) (cc_i_InvalidText : PySem.W.codeIn K cd_i_InvalidText "InvalidText.__init__" = true) (k_i_InvalidText : PySem.W.keepIn K (.ref f_i_InvalidText) = true)
    (x_InvalidText : oxB K c_InvalidText "ValueError.__new__" [.type "ValueError", .type "Exception", .type "BaseException", .type "object"] ("code" :: ["at"]) f_i_InvalidText = true)
    (kt_InvalidText : kitXB K c_InvalidText [(.ref c_InvalidName, false), (.ref c_InvalidRow, false), (.ref c_DuplicateName, false), (.ref c_InvalidStep, false), (.ref c_DuplicateMessage, false), (.ref c_Unsent, false), (.ref c_Ring, false), (.ref c_TooMany, false), (.ref c_InvalidPoint, false), (.ref c_InvalidMoment, false), (.ref c_InvalidClause, false), (.ref c_Parted, false), (.ref c_UnlikeLogs, false), (.ref c_EmptyLot, false), (.ref c_InvalidNumber, false), (.ref c_InvalidWeights, false), (.ref c_Uneven, false), (.ref c_InvalidTests, false), (.ref c_InvalidText, true), (.ref c_InvalidCommand, false), (.ref c_Full, false), (.ref c_InvalidLimit, false), (.ref c_InvalidPage, false), (.ref c_UnknownProcess, false), (.ref c_UnknownStep, false), (.ref c_UnknownName, false), (.ref c_NothingLeft, false), (.ref c_LogError, true), (.ref c_Missing, false), (.type "ValueError", true), (.type "LookupError", false), (.type "IndexError", false)] = true)
    (i_InvalidCommand : PySem.W.findIn K (.ref c_InvalidCommand) "__init__" = some (some (.ref f_i_InvalidCommand))) (l_i_InvalidCommand : K.lookup f_i_InvalidCommand = some ⟨oc_i_InvalidCommand, od_i_InvalidCommand, .func (PySem.W.fnOf "__init__" "InvalidCommand.__init__" (defArgs s_i_InvalidCommand) (defBody s_i_InvalidCommand) (defScope s_i_InvalidCommand) .none kV_i_InvalidCommand dc_i_InvalidCommand pm_i_InvalidCommand an_i_InvalidCommand cd_i_InvalidCommand ct_i_InvalidCommand), sl_i_InvalidCommand⟩) (cc_i_InvalidCommand : PySem.W.codeIn K cd_i_InvalidCommand "InvalidCommand.__init__" = true) (k_i_InvalidCommand : PySem.W.keepIn K (.ref f_i_InvalidCommand) = true)
    (x_InvalidCommand : oxB K c_InvalidCommand "ValueError.__new__" [.type "ValueError", .type "Exception", .type "BaseException", .type "object"] ("code" :: ["at"]) f_i_InvalidCommand = true)
    (kt_InvalidCommand : kitXB K c_InvalidCommand [(.ref c_InvalidName, false), (.ref c_InvalidRow, false), (.ref c_DuplicateName, false), (.ref c_InvalidStep, false), (.ref c_DuplicateMessage, false), (.ref c_Unsent, false), (.ref c_Ring, false), (.ref c_TooMany, false), (.ref c_InvalidPoint, false), (.ref c_InvalidMoment, false), (.ref c_InvalidClause, false), (.ref c_Parted, false), (.ref c_UnlikeLogs, false), (.ref c_EmptyLot, false), (.ref c_InvalidNumber, false), (.ref c_InvalidWeights, false), (.ref c_Uneven, false), (.ref c_InvalidTests, false), (.ref c_InvalidText, false), (.ref c_InvalidCommand, true), (.ref c_Full, false), (.ref c_InvalidLimit, false), (.ref c_InvalidPage, false), (.ref c_UnknownProcess, false), (.ref c_UnknownStep, false), (.ref c_UnknownName, false), (.ref c_NothingLeft, false), (.ref c_LogError, true), (.ref c_Missing, false), (.type "ValueError", true), (.type "LookupError", false), (.type "IndexError", false)] = true)
    (i_Full : PySem.W.findIn K (.ref c_Full) "__init__" = some (some (.ref f_i_Full))) (l_i_Full : K.lookup f_i_Full = some ⟨oc_i_Full, od_i_Full, .func (PySem.W.fnOf "__init__" "Full.__init__" (defArgs s_i_Full) (defBody s_i_Full) (defScope s_i_Full) .none kV_i_Full dc_i_Full pm_i_Full an_i_Full cd_i_Full ct_i_Full), sl_i_Full⟩) (cc_i_Full : PySem.W.codeIn K cd_i_Full "Full.__init__" = true) (k_i_Full : PySem.W.keepIn K (.ref f_i_Full) = true)
    (x_Full : oxB K c_Full "ValueError.__new__" [.type "ValueError", .type "Exception", .type "BaseException", .type "object"] ("code" :: ["limit"]) f_i_Full = true)
    (kt_Full : kitXB K c_Full [(.ref c_InvalidName, false), (.ref c_InvalidRow, false), (.ref c_DuplicateName, false), (.ref c_InvalidStep, false), (.ref c_DuplicateMessage, false), (.ref c_Unsent, false), (.ref c_Ring, false), (.ref c_TooMany, false), (.ref c_InvalidPoint, false), (.ref c_InvalidMoment, false), (.ref c_InvalidClause, false), (.ref c_Parted, false), (.ref c_UnlikeLogs, false), (.ref c_EmptyLot, false), (.ref c_InvalidNumber, false), (.ref c_InvalidWeights, false), (.ref c_Uneven, false), (.ref c_InvalidTests, false), (.ref c_InvalidText, false), (.ref c_InvalidCommand, false), (.ref c_Full, true), (.ref c_InvalidLimit, false), (.ref c_InvalidPage, false), (.ref c_UnknownProcess, false), (.ref c_UnknownStep, false), (.ref c_UnknownName, false), (.ref c_NothingLeft, false), (.ref c_LogError, true), (.ref c_Missing, false), (.type "ValueError", true), (.type "LookupError", false), (.type "IndexError", false)] = true)
    (i_InvalidLimit : PySem.W.findIn K (.ref c_InvalidLimit) "__init__" = some (some (.ref f_i_InvalidLimit))) (l_i_InvalidLimit : K.lookup f_i_InvalidLimit = some ⟨oc_i_InvalidLimit, od_i_InvalidLimit, .func (PySem.W.fnOf "__init__" "InvalidLimit.__init__" (defArgs s_i_InvalidLimit) (defBody s_i_InvalidLimit) (defScope s_i_InvalidLimit) .none kV_i_InvalidLimit dc_i_InvalidLimit pm_i_InvalidLimit an_i_InvalidLimit cd_i_InvalidLimit ct_i_InvalidLimit), sl_i_InvalidLimit⟩) (cc_i_InvalidLimit : PySem.W.codeIn K cd_i_InvalidLimit "InvalidLimit.__init__" = true) (k_i_InvalidLimit : PySem.W.keepIn K (.ref f_i_InvalidLimit) = true)
    (x_InvalidLimit : oxB K c_InvalidLimit "ValueError.__new__" [.type "ValueError", .type "Exception", .type "BaseException", .type "object"] ("code" :: ["value"]) f_i_InvalidLimit = true)
    (kt_InvalidLimit : kitXB K c_InvalidLimit [(.ref c_InvalidName, false), (.ref c_InvalidRow, false), (.ref c_DuplicateName, false), (.ref c_InvalidStep, false), (.ref c_DuplicateMessage, false), (.ref c_Unsent, false), (.ref c_Ring, false), (.ref c_TooMany, false), (.ref c_InvalidPoint, false), (.ref c_InvalidMoment, false), (.ref c_InvalidClause, false), (.ref c_Parted, false), (.ref c_UnlikeLogs, false), (.ref c_EmptyLot, false), (.ref c_InvalidNumber, false), (.ref c_InvalidWeights, false), (.ref c_Uneven, false), (.ref c_InvalidTests, false), (.ref c_InvalidText, false), (.ref c_InvalidCommand, false), (.ref c_Full, false), (.ref c_InvalidLimit, true), (.ref c_InvalidPage, false), (.ref c_UnknownProcess, false), (.ref c_UnknownStep, false), (.ref c_UnknownName, false), (.ref c_NothingLeft, false), (.ref c_LogError, true), (.ref c_Missing, false), (.type "ValueError", true), (.type "LookupError", false), (.type "IndexError", false)] = true)
    (i_InvalidPage : PySem.W.findIn K (.ref c_InvalidPage) "__init__" = some (some (.ref f_i_InvalidPage))) (l_i_InvalidPage : K.lookup f_i_InvalidPage = some ⟨oc_i_InvalidPage, od_i_InvalidPage, .func (PySem.W.fnOf "__init__" "InvalidPage.__init__" (defArgs s_i_InvalidPage) (defBody s_i_InvalidPage) (defScope s_i_InvalidPage) .none kV_i_InvalidPage dc_i_InvalidPage pm_i_InvalidPage an_i_InvalidPage cd_i_InvalidPage ct_i_InvalidPage), sl_i_InvalidPage⟩) (cc_i_InvalidPage : PySem.W.codeIn K cd_i_InvalidPage "InvalidPage.__init__" = true) (k_i_InvalidPage : PySem.W.keepIn K (.ref f_i_InvalidPage) = true)
    (x_InvalidPage : oxB K c_InvalidPage "ValueError.__new__" [.type "ValueError", .type "Exception", .type "BaseException", .type "object"] ("code" :: ["line"]) f_i_InvalidPage = true)
    (kt_InvalidPage : kitXB K c_InvalidPage [(.ref c_InvalidName, false), (.ref c_InvalidRow, false), (.ref c_DuplicateName, false), (.ref c_InvalidStep, false), (.ref c_DuplicateMessage, false), (.ref c_Unsent, false), (.ref c_Ring, false), (.ref c_TooMany, false), (.ref c_InvalidPoint, false), (.ref c_InvalidMoment, false), (.ref c_InvalidClause, false), (.ref c_Parted, false), (.ref c_UnlikeLogs, false), (.ref c_EmptyLot, false), (.ref c_InvalidNumber, false), (.ref c_InvalidWeights, false), (.ref c_Uneven, false), (.ref c_InvalidTests, false), (.ref c_InvalidText, false), (.ref c_InvalidCommand, false), (.ref c_Full, false), (.ref c_InvalidLimit, false), (.ref c_InvalidPage, true), (.ref c_UnknownProcess, false), (.ref c_UnknownStep, false), (.ref c_UnknownName, false), (.ref c_NothingLeft, false), (.ref c_LogError, true), (.ref c_Missing, false), (.type "ValueError", true), (.type "LookupError", false), (.type "IndexError", false)] = true)
    (i_UnknownProcess : PySem.W.findIn K (.ref c_UnknownProcess) "__init__" = some (some (.ref f_i_UnknownProcess))) (l_i_UnknownProcess : K.lookup f_i_UnknownProcess = some ⟨oc_i_UnknownProcess, od_i_UnknownProcess, .func (PySem.W.fnOf "__init__" "UnknownProcess.__init__" (defArgs s_i_UnknownProcess) (defBody s_i_UnknownProcess) (defScope s_i_UnknownProcess) .none kV_i_UnknownProcess dc_i_UnknownProcess pm_i_UnknownProcess an_i_UnknownProcess cd_i_UnknownProcess ct_i_UnknownProcess), sl_i_UnknownProcess⟩) (cc_i_UnknownProcess : PySem.W.codeIn K cd_i_UnknownProcess "UnknownProcess.__init__" = true) (k_i_UnknownProcess : PySem.W.keepIn K (.ref f_i_UnknownProcess) = true)
    (x_UnknownProcess : oxB K c_UnknownProcess "LookupError.__new__" [.type "LookupError", .type "Exception", .type "BaseException", .type "object"] ("code" :: ["name"]) f_i_UnknownProcess = true)
    (kt_UnknownProcess : kitXB K c_UnknownProcess [(.ref c_InvalidName, false), (.ref c_InvalidRow, false), (.ref c_DuplicateName, false), (.ref c_InvalidStep, false), (.ref c_DuplicateMessage, false), (.ref c_Unsent, false), (.ref c_Ring, false), (.ref c_TooMany, false), (.ref c_InvalidPoint, false), (.ref c_InvalidMoment, false), (.ref c_InvalidClause, false), (.ref c_Parted, false), (.ref c_UnlikeLogs, false), (.ref c_EmptyLot, false), (.ref c_InvalidNumber, false), (.ref c_InvalidWeights, false), (.ref c_Uneven, false), (.ref c_InvalidTests, false), (.ref c_InvalidText, false), (.ref c_InvalidCommand, false), (.ref c_Full, false), (.ref c_InvalidLimit, false), (.ref c_InvalidPage, false), (.ref c_UnknownProcess, true), (.ref c_UnknownStep, false), (.ref c_UnknownName, false), (.ref c_NothingLeft, false), (.ref c_LogError, false), (.ref c_Missing, true), (.type "ValueError", false), (.type "LookupError", true), (.type "IndexError", false)] = true)
    (i_UnknownStep : PySem.W.findIn K (.ref c_UnknownStep) "__init__" = some (some (.ref f_i_UnknownStep))) (l_i_UnknownStep : K.lookup f_i_UnknownStep = some ⟨oc_i_UnknownStep, od_i_UnknownStep, .func (PySem.W.fnOf "__init__" "UnknownStep.__init__" (defArgs s_i_UnknownStep) (defBody s_i_UnknownStep) (defScope s_i_UnknownStep) .none kV_i_UnknownStep dc_i_UnknownStep pm_i_UnknownStep an_i_UnknownStep cd_i_UnknownStep ct_i_UnknownStep), sl_i_UnknownStep⟩) (cc_i_UnknownStep : PySem.W.codeIn K cd_i_UnknownStep "UnknownStep.__init__" = true) (k_i_UnknownStep : PySem.W.keepIn K (.ref f_i_UnknownStep) = true)
    (x_UnknownStep : oxB K c_UnknownStep "LookupError.__new__" [.type "LookupError", .type "Exception", .type "BaseException", .type "object"] ("code" :: ["step"]) f_i_UnknownStep = true)
    (kt_UnknownStep : kitXB K c_UnknownStep [(.ref c_InvalidName, false), (.ref c_InvalidRow, false), (.ref c_DuplicateName, false), (.ref c_InvalidStep, false), (.ref c_DuplicateMessage, false), (.ref c_Unsent, false), (.ref c_Ring, false), (.ref c_TooMany, false), (.ref c_InvalidPoint, false), (.ref c_InvalidMoment, false), (.ref c_InvalidClause, false), (.ref c_Parted, false), (.ref c_UnlikeLogs, false), (.ref c_EmptyLot, false), (.ref c_InvalidNumber, false), (.ref c_InvalidWeights, false), (.ref c_Uneven, false), (.ref c_InvalidTests, false), (.ref c_InvalidText, false), (.ref c_InvalidCommand, false), (.ref c_Full, false), (.ref c_InvalidLimit, false), (.ref c_InvalidPage, false), (.ref c_UnknownProcess, false), (.ref c_UnknownStep, true), (.ref c_UnknownName, false), (.ref c_NothingLeft, false), (.ref c_LogError, false), (.ref c_Missing, true), (.type "ValueError", false), (.type "LookupError", true), (.type "IndexError", false)] = true)
    (i_UnknownName : PySem.W.findIn K (.ref c_UnknownName) "__init__" = some (some (.ref f_i_UnknownName))) (l_i_UnknownName : K.lookup f_i_UnknownName = some ⟨oc_i_UnknownName, od_i_UnknownName, .func (PySem.W.fnOf "__init__" "UnknownName.__init__" (defArgs s_i_UnknownName) (defBody s_i_UnknownName) (defScope s_i_UnknownName) .none kV_i_UnknownName dc_i_UnknownName pm_i_UnknownName an_i_UnknownName cd_i_UnknownName ct_i_UnknownName), sl_i_UnknownName⟩) (cc_i_UnknownName : PySem.W.codeIn K cd_i_UnknownName "UnknownName.__init__" = true) (k_i_UnknownName : PySem.W.keepIn K (.ref f_i_UnknownName) = true)
    (x_UnknownName : oxB K c_UnknownName "LookupError.__new__" [.type "LookupError", .type "Exception", .type "BaseException", .type "object"] ("code" :: ["name"]) f_i_UnknownName = true)
    (kt_UnknownName : kitXB K c_UnknownName [(.ref c_InvalidName, false), (.ref c_InvalidRow, false), (.ref c_DuplicateName, false), (.ref c_InvalidStep, false), (.ref c_DuplicateMessage, false), (.ref c_Unsent, false), (.ref c_Ring, false), (.ref c_TooMany, false), (.ref c_InvalidPoint, false), (.ref c_InvalidMoment, false), (.ref c_InvalidClause, false), (.ref c_Parted, false), (.ref c_UnlikeLogs, false), (.ref c_EmptyLot, false), (.ref c_InvalidNumber, false), (.ref c_InvalidWeights, false), (.ref c_Uneven, false), (.ref c_InvalidTests, false), (.ref c_InvalidText, false), (.ref c_InvalidCommand, false), (.ref c_Full, false), (.ref c_InvalidLimit, false), (.ref c_InvalidPage, false), (.ref c_UnknownProcess, false), (.ref c_UnknownStep, false), (.ref c_UnknownName, true), (.ref c_NothingLeft, false), (.ref c_LogError, false), (.ref c_Missing, true), (.type "ValueError", false), (.type "LookupError", true), (.type "IndexError", false)] = true)
    (i_NothingLeft : PySem.W.findIn K (.ref c_NothingLeft) "__init__" = some (some (.ref f_i_NothingLeft))) (l_i_NothingLeft : K.lookup f_i_NothingLeft = some ⟨oc_i_NothingLeft, od_i_NothingLeft, .func (PySem.W.fnOf "__init__" "NothingLeft.__init__" (defArgs s_i_NothingLeft) (defBody s_i_NothingLeft) (defScope s_i_NothingLeft) .none kV_i_NothingLeft dc_i_NothingLeft pm_i_NothingLeft an_i_NothingLeft cd_i_NothingLeft ct_i_NothingLeft), sl_i_NothingLeft⟩) (cc_i_NothingLeft : PySem.W.codeIn K cd_i_NothingLeft "NothingLeft.__init__" = true) (k_i_NothingLeft : PySem.W.keepIn K (.ref f_i_NothingLeft) = true)
    (x_NothingLeft : oxB K c_NothingLeft "IndexError.__new__" [.type "IndexError", .type "LookupError", .type "Exception", .type "BaseException", .type "object"] ("code" :: []) f_i_NothingLeft = true)
    (kt_NothingLeft : kitXB K c_NothingLeft [(.ref c_InvalidName, false), (.ref c_InvalidRow, false), (.ref c_DuplicateName, false), (.ref c_InvalidStep, false), (.ref c_DuplicateMessage, false), (.ref c_Unsent, false), (.ref c_Ring, false), (.ref c_TooMany, false), (.ref c_InvalidPoint, false), (.ref c_InvalidMoment, false), (.ref c_InvalidClause, false), (.ref c_Parted, false), (.ref c_UnlikeLogs, false), (.ref c_EmptyLot, false), (.ref c_InvalidNumber, false), (.ref c_InvalidWeights, false), (.ref c_Uneven, false), (.ref c_InvalidTests, false), (.ref c_InvalidText, false), (.ref c_InvalidCommand, false), (.ref c_Full, false), (.ref c_InvalidLimit, false), (.ref c_InvalidPage, false), (.ref c_UnknownProcess, false), (.ref c_UnknownStep, false), (.ref c_UnknownName, false), (.ref c_NothingLeft, true), (.ref c_LogError, false), (.ref c_Missing, false), (.type "ValueError", false), (.type "LookupError", true), (.type "IndexError", true)] = true)
    (n_Lbag : PySem.W.nsIn K mainGlobals "_law_bag" = some (some (.ref f_Lbag))) (l_Lbag : K.lookup f_Lbag = some ⟨oc_Lbag, od_Lbag, .func (PySem.W.fnOf "_law_bag" "_law_bag" (defArgs s_Lbag) (defBody s_Lbag) (defScope s_Lbag) .none kV_Lbag dc_Lbag pm_Lbag an_Lbag cd_Lbag ct_Lbag), sl_Lbag⟩) (c_Lbag : PySem.W.codeIn K cd_Lbag "_law_bag" = true) (k_Lbag : PySem.W.keepIn K (.ref f_Lbag) = true)
    (n_Ldraw : PySem.W.nsIn K mainGlobals "_law_draw" = some (some (.ref f_Ldraw))) (l_Ldraw : K.lookup f_Ldraw = some ⟨oc_Ldraw, od_Ldraw, .func (PySem.W.fnOf "_law_draw" "_law_draw" (defArgs s_Ldraw) (defBody s_Ldraw) (defScope s_Ldraw) .none kV_Ldraw dc_Ldraw pm_Ldraw an_Ldraw cd_Ldraw ct_Ldraw), sl_Ldraw⟩) (c_Ldraw : PySem.W.codeIn K cd_Ldraw "_law_draw" = true) (k_Ldraw : PySem.W.keepIn K (.ref f_Ldraw) = true)
    (n_Lof : PySem.W.nsIn K mainGlobals "_law_of" = some (some (.ref f_Lof))) (l_Lof : K.lookup f_Lof = some ⟨oc_Lof, od_Lof, .func (PySem.W.fnOf "_law_of" "_law_of" (defArgs s_Lof) (defBody s_Lof) (defScope s_Lof) .none kV_Lof dc_Lof pm_Lof an_Lof cd_Lof ct_Lof), sl_Lof⟩) (c_Lof : PySem.W.codeIn K cd_Lof "_law_of" = true) (k_Lof : PySem.W.keepIn K (.ref f_Lof) = true)
    (n_Lsame : PySem.W.nsIn K mainGlobals "_law_same" = some (some (.ref f_Lsame))) (l_Lsame : K.lookup f_Lsame = some ⟨oc_Lsame, od_Lsame, .func (PySem.W.fnOf "_law_same" "_law_same" (defArgs s_Lsame) (defBody s_Lsame) (defScope s_Lsame) .none kV_Lsame dc_Lsame pm_Lsame an_Lsame cd_Lsame ct_Lsame), sl_Lsame⟩) (c_Lsame : PySem.W.codeIn K cd_Lsame "_law_same" = true) (k_Lsame : PySem.W.keepIn K (.ref f_Lsame) = true)
    (n_Lfield : PySem.W.nsIn K mainGlobals "_law_field" = some (some (.ref f_Lfield))) (l_Lfield : K.lookup f_Lfield = some ⟨oc_Lfield, od_Lfield, .func (PySem.W.fnOf "_law_field" "_law_field" (defArgs s_Lfield) (defBody s_Lfield) (defScope s_Lfield) .none kV_Lfield dc_Lfield pm_Lfield an_Lfield cd_Lfield ct_Lfield), sl_Lfield⟩) (c_Lfield : PySem.W.codeIn K cd_Lfield "_law_field" = true) (k_Lfield : PySem.W.keepIn K (.ref f_Lfield) = true)
    (n_Lother_field : PySem.W.nsIn K mainGlobals "_law_other_field" = some (some (.ref f_Lother_field))) (l_Lother_field : K.lookup f_Lother_field = some ⟨oc_Lother_field, od_Lother_field, .func (PySem.W.fnOf "_law_other_field" "_law_other_field" (defArgs s_Lother_field) (defBody s_Lother_field) (defScope s_Lother_field) .none kV_Lother_field dc_Lother_field pm_Lother_field an_Lother_field cd_Lother_field ct_Lother_field), sl_Lother_field⟩) (c_Lother_field : PySem.W.codeIn K cd_Lother_field "_law_other_field" = true) (k_Lother_field : PySem.W.keepIn K (.ref f_Lother_field) = true)
    (n_Lodd : PySem.W.nsIn K mainGlobals "_law_odd" = some (some (.ref f_Lodd))) (l_Lodd : K.lookup f_Lodd = some ⟨oc_Lodd, od_Lodd, .func (PySem.W.fnOf "_law_odd" "_law_odd" (defArgs s_Lodd) (defBody s_Lodd) (defScope s_Lodd) .none kV_Lodd dc_Lodd pm_Lodd an_Lodd cd_Lodd ct_Lodd), sl_Lodd⟩) (c_Lodd : PySem.W.codeIn K cd_Lodd "_law_odd" = true) (k_Lodd : PySem.W.keepIn K (.ref f_Lodd) = true)
    (n_Lmade_errors : PySem.W.nsIn K mainGlobals "_law_made_errors" = some (some (.ref f_Lmade_errors))) (l_Lmade_errors : K.lookup f_Lmade_errors = some ⟨oc_Lmade_errors, od_Lmade_errors, .func (PySem.W.fnOf "_law_made_errors" "_law_made_errors" (defArgs s_Lmade_errors) (defBody s_Lmade_errors) (defScope s_Lmade_errors) .none kV_Lmade_errors dc_Lmade_errors pm_Lmade_errors an_Lmade_errors cd_Lmade_errors ct_Lmade_errors), sl_Lmade_errors⟩) (c_Lmade_errors : PySem.W.codeIn K cd_Lmade_errors "_law_made_errors" = true) (k_Lmade_errors : PySem.W.keepIn K (.ref f_Lmade_errors) = true)
    (n_Lnamed_errors : PySem.W.nsIn K mainGlobals "_law_named_errors" = some (some (.ref f_Lnamed_errors))) (l_Lnamed_errors : K.lookup f_Lnamed_errors = some ⟨oc_Lnamed_errors, od_Lnamed_errors, .func (PySem.W.fnOf "_law_named_errors" "_law_named_errors" (defArgs s_Lnamed_errors) (defBody s_Lnamed_errors) (defScope s_Lnamed_errors) .none kV_Lnamed_errors dc_Lnamed_errors pm_Lnamed_errors an_Lnamed_errors cd_Lnamed_errors ct_Lnamed_errors), sl_Lnamed_errors⟩) (c_Lnamed_errors : PySem.W.codeIn K cd_Lnamed_errors "_law_named_errors" = true) (k_Lnamed_errors : PySem.W.keepIn K (.ref f_Lnamed_errors) = true)
    (n_Lkinds_of : PySem.W.nsIn K mainGlobals "_law_kinds_of" = some (some (.ref f_Lkinds_of))) (l_Lkinds_of : K.lookup f_Lkinds_of = some ⟨oc_Lkinds_of, od_Lkinds_of, .func (PySem.W.fnOf "_law_kinds_of" "_law_kinds_of" (defArgs s_Lkinds_of) (defBody s_Lkinds_of) (defScope s_Lkinds_of) .none kV_Lkinds_of dc_Lkinds_of pm_Lkinds_of an_Lkinds_of cd_Lkinds_of ct_Lkinds_of), sl_Lkinds_of⟩) (c_Lkinds_of : PySem.W.codeIn K cd_Lkinds_of "_law_kinds_of" = true) (k_Lkinds_of : PySem.W.keepIn K (.ref f_Lkinds_of) = true)
    (n_Lcodes : PySem.W.nsIn K mainGlobals "_law_codes" = some (some (.ref f_Lcodes))) (l_Lcodes : K.lookup f_Lcodes = some ⟨oc_Lcodes, od_Lcodes, .func (PySem.W.fnOf "_law_codes" "_law_codes" (defArgs s_Lcodes) (defBody s_Lcodes) (defScope s_Lcodes) .none kV_Lcodes dc_Lcodes pm_Lcodes an_Lcodes cd_Lcodes ct_Lcodes), sl_Lcodes⟩) (c_Lcodes : PySem.W.codeIn K cd_Lcodes "_law_codes" = true) (k_Lcodes : PySem.W.keepIn K (.ref f_Lcodes) = true)
    (n_law : PySem.W.nsIn K mainGlobals "law" = some (some (.ref f_law))) (l_law : K.lookup f_law = some ⟨oc_law, od_law, .func (PySem.W.fnOf "law" "law" (defArgs s_law) (defBody s_law) (defScope s_law) .none kV_law dc_law pm_law an_law cd_law ct_law), sl_law⟩) (c_law : PySem.W.codeIn K cd_law "law" = true) (k_law : PySem.W.keepIn K (.ref f_law) = true)
    (z_IndexError : PySem.W.nsIn K mainGlobals "IndexError" = some none)
    (z_LookupError : PySem.W.nsIn K mainGlobals "LookupError" = some none)
    (z_ValueError : PySem.W.nsIn K mainGlobals "ValueError" = some none)
    (z_all : PySem.W.nsIn K mainGlobals "all" = some none)
    (z_bool : PySem.W.nsIn K mainGlobals "bool" = some none)
    (z_enumerate : PySem.W.nsIn K mainGlobals "enumerate" = some none)
    (z_int : PySem.W.nsIn K mainGlobals "int" = some none)
    (z_isinstance : PySem.W.nsIn K mainGlobals "isinstance" = some none)
    (z_len : PySem.W.nsIn K mainGlobals "len" = some none)
    (z_list : PySem.W.nsIn K mainGlobals "list" = some none)
    (z_range : PySem.W.nsIn K mainGlobals "range" = some none)
    (z_str : PySem.W.nsIn K mainGlobals "str" = some none)
    (z_tuple : PySem.W.nsIn K mainGlobals "tuple" = some none)
    (z_zip : PySem.W.nsIn K mainGlobals "zip" = some none)
    : ∃ fd : FuncData, (∀ (s : Shared) (v : Value), BindsTo s fd ⟨[v], []⟩ [("_law_script", v)]) ∧ ∀ base : Heap, K.In base → base.Ns mainGlobals mg → FnOk l.prog w K mg base CX0 10 fa fd ["_law_script"] (spLaw K) := by
  have e : f_law = fa := Value.ref.inj (Option.some.inj ((PySem.W.mg_of X G n_law).symm.trans hfa))
  subst e
  have F_i_InvalidName := fun_mk (st := s_i_InvalidName) l_i_InvalidName cc_i_InvalidName k_i_InvalidName
  have O_InvalidName := oxB_ok gVE x_InvalidName
  have F_i_InvalidRow := fun_mk (st := s_i_InvalidRow) l_i_InvalidRow cc_i_InvalidRow k_i_InvalidRow
  have O_InvalidRow := oxB_ok gVE x_InvalidRow
  have F_i_DuplicateName := fun_mk (st := s_i_DuplicateName) l_i_DuplicateName cc_i_DuplicateName k_i_DuplicateName
  have O_DuplicateName := oxB_ok gVE x_DuplicateName
  have F_i_InvalidStep := fun_mk (st := s_i_InvalidStep) l_i_InvalidStep cc_i_InvalidStep k_i_InvalidStep
  have O_InvalidStep := oxB_ok gVE x_InvalidStep
  have F_i_DuplicateMessage := fun_mk (st := s_i_DuplicateMessage) l_i_DuplicateMessage cc_i_DuplicateMessage k_i_DuplicateMessage
  have O_DuplicateMessage := oxB_ok gVE x_DuplicateMessage
  have F_i_Unsent := fun_mk (st := s_i_Unsent) l_i_Unsent cc_i_Unsent k_i_Unsent
  have O_Unsent := oxB_ok gVE x_Unsent
  have F_i_Ring := fun_mk (st := s_i_Ring) l_i_Ring cc_i_Ring k_i_Ring
  have O_Ring := oxB_ok gVE x_Ring
  have F_i_TooMany := fun_mk (st := s_i_TooMany) l_i_TooMany cc_i_TooMany k_i_TooMany
  have O_TooMany := oxB_ok gVE x_TooMany
  have F_i_InvalidPoint := fun_mk (st := s_i_InvalidPoint) l_i_InvalidPoint cc_i_InvalidPoint k_i_InvalidPoint
  have O_InvalidPoint := oxB_ok gVE x_InvalidPoint
  have F_i_InvalidMoment := fun_mk (st := s_i_InvalidMoment) l_i_InvalidMoment cc_i_InvalidMoment k_i_InvalidMoment
  have O_InvalidMoment := oxB_ok gVE x_InvalidMoment
  have F_i_InvalidClause := fun_mk (st := s_i_InvalidClause) l_i_InvalidClause cc_i_InvalidClause k_i_InvalidClause
  have O_InvalidClause := oxB_ok gVE x_InvalidClause
  have F_i_Parted := fun_mk (st := s_i_Parted) l_i_Parted cc_i_Parted k_i_Parted
  have O_Parted := oxB_ok gVE x_Parted
  have F_i_UnlikeLogs := fun_mk (st := s_i_UnlikeLogs) l_i_UnlikeLogs cc_i_UnlikeLogs k_i_UnlikeLogs
  have O_UnlikeLogs := oxB_ok gVE x_UnlikeLogs
  have F_i_EmptyLot := fun_mk (st := s_i_EmptyLot) l_i_EmptyLot cc_i_EmptyLot k_i_EmptyLot
  have O_EmptyLot := oxB_ok gVE x_EmptyLot
  have F_i_InvalidNumber := fun_mk (st := s_i_InvalidNumber) l_i_InvalidNumber cc_i_InvalidNumber k_i_InvalidNumber
  have O_InvalidNumber := oxB_ok gVE x_InvalidNumber
  have F_i_InvalidWeights := fun_mk (st := s_i_InvalidWeights) l_i_InvalidWeights cc_i_InvalidWeights k_i_InvalidWeights
  have O_InvalidWeights := oxB_ok gVE x_InvalidWeights
  have F_i_Uneven := fun_mk (st := s_i_Uneven) l_i_Uneven cc_i_Uneven k_i_Uneven
  have O_Uneven := oxB_ok gVE x_Uneven
  have F_i_InvalidTests := fun_mk (st := s_i_InvalidTests) l_i_InvalidTests cc_i_InvalidTests k_i_InvalidTests
  have O_InvalidTests := oxB_ok gVE x_InvalidTests
  have F_i_InvalidText := fun_mk (st := s_i_InvalidText) l_i_InvalidText cc_i_InvalidText k_i_InvalidText
  have O_InvalidText := oxB_ok gVE x_InvalidText
  have F_i_InvalidCommand := fun_mk (st := s_i_InvalidCommand) l_i_InvalidCommand cc_i_InvalidCommand k_i_InvalidCommand
  have O_InvalidCommand := oxB_ok gVE x_InvalidCommand
  have F_i_Full := fun_mk (st := s_i_Full) l_i_Full cc_i_Full k_i_Full
  have O_Full := oxB_ok gVE x_Full
  have F_i_InvalidLimit := fun_mk (st := s_i_InvalidLimit) l_i_InvalidLimit cc_i_InvalidLimit k_i_InvalidLimit
  have O_InvalidLimit := oxB_ok gVE x_InvalidLimit
  have F_i_InvalidPage := fun_mk (st := s_i_InvalidPage) l_i_InvalidPage cc_i_InvalidPage k_i_InvalidPage
  have O_InvalidPage := oxB_ok gVE x_InvalidPage
  have F_i_UnknownProcess := fun_mk (st := s_i_UnknownProcess) l_i_UnknownProcess cc_i_UnknownProcess k_i_UnknownProcess
  have O_UnknownProcess := oxB_ok gLE x_UnknownProcess
  have F_i_UnknownStep := fun_mk (st := s_i_UnknownStep) l_i_UnknownStep cc_i_UnknownStep k_i_UnknownStep
  have O_UnknownStep := oxB_ok gLE x_UnknownStep
  have F_i_UnknownName := fun_mk (st := s_i_UnknownName) l_i_UnknownName cc_i_UnknownName k_i_UnknownName
  have O_UnknownName := oxB_ok gLE x_UnknownName
  have F_i_NothingLeft := fun_mk (st := s_i_NothingLeft) l_i_NothingLeft cc_i_NothingLeft k_i_NothingLeft
  have O_NothingLeft := oxB_ok gIE x_NothingLeft
  have F_Lbag := fun_mk (st := s_Lbag) l_Lbag c_Lbag k_Lbag
  have F_Ldraw := fun_mk (st := s_Ldraw) l_Ldraw c_Ldraw k_Ldraw
  have F_Lof := fun_mk (st := s_Lof) l_Lof c_Lof k_Lof
  have F_Lsame := fun_mk (st := s_Lsame) l_Lsame c_Lsame k_Lsame
  have F_Lfield := fun_mk (st := s_Lfield) l_Lfield c_Lfield k_Lfield
  have F_Lother_field := fun_mk (st := s_Lother_field) l_Lother_field c_Lother_field k_Lother_field
  have F_Lodd := fun_mk (st := s_Lodd) l_Lodd c_Lodd k_Lodd
  have F_Lmade_errors := fun_mk (st := s_Lmade_errors) l_Lmade_errors c_Lmade_errors k_Lmade_errors
  have F_Lnamed_errors := fun_mk (st := s_Lnamed_errors) l_Lnamed_errors c_Lnamed_errors k_Lnamed_errors
  have F_Lkinds_of := fun_mk (st := s_Lkinds_of) l_Lkinds_of c_Lkinds_of k_Lkinds_of
  have F_Lcodes := fun_mk (st := s_Lcodes) l_Lcodes c_Lcodes k_Lcodes
  have F_law := fun_mk (st := s_law) l_law c_law k_law
  have T : TopOk K mg ⟨c_DuplicateMessage,
    c_DuplicateName,
    c_EmptyLot,
    c_Full,
    c_InvalidClause,
    c_InvalidCommand,
    c_InvalidLimit,
    c_InvalidMoment,
    c_InvalidName,
    c_InvalidNumber,
    c_InvalidPage,
    c_InvalidPoint,
    c_InvalidRow,
    c_InvalidStep,
    c_InvalidTests,
    c_InvalidText,
    c_InvalidWeights,
    c_LogError,
    c_Missing,
    c_NothingLeft,
    c_Parted,
    c_Ring,
    c_TooMany,
    c_Uneven,
    c_UnknownName,
    c_UnknownProcess,
    c_UnknownStep,
    c_UnlikeLogs,
    c_Unsent,
    f_i_InvalidName, PySem.W.fnOf "__init__" "InvalidName.__init__" (defArgs s_i_InvalidName) (defBody s_i_InvalidName) (defScope s_i_InvalidName) Value.none kV_i_InvalidName dc_i_InvalidName pm_i_InvalidName an_i_InvalidName cd_i_InvalidName ct_i_InvalidName,
    f_i_InvalidRow, PySem.W.fnOf "__init__" "InvalidRow.__init__" (defArgs s_i_InvalidRow) (defBody s_i_InvalidRow) (defScope s_i_InvalidRow) Value.none kV_i_InvalidRow dc_i_InvalidRow pm_i_InvalidRow an_i_InvalidRow cd_i_InvalidRow ct_i_InvalidRow,
    f_i_DuplicateName, PySem.W.fnOf "__init__" "DuplicateName.__init__" (defArgs s_i_DuplicateName) (defBody s_i_DuplicateName) (defScope s_i_DuplicateName) Value.none kV_i_DuplicateName dc_i_DuplicateName pm_i_DuplicateName an_i_DuplicateName cd_i_DuplicateName ct_i_DuplicateName,
    f_i_InvalidStep, PySem.W.fnOf "__init__" "InvalidStep.__init__" (defArgs s_i_InvalidStep) (defBody s_i_InvalidStep) (defScope s_i_InvalidStep) Value.none kV_i_InvalidStep dc_i_InvalidStep pm_i_InvalidStep an_i_InvalidStep cd_i_InvalidStep ct_i_InvalidStep,
    f_i_DuplicateMessage, PySem.W.fnOf "__init__" "DuplicateMessage.__init__" (defArgs s_i_DuplicateMessage) (defBody s_i_DuplicateMessage) (defScope s_i_DuplicateMessage) Value.none kV_i_DuplicateMessage dc_i_DuplicateMessage pm_i_DuplicateMessage an_i_DuplicateMessage cd_i_DuplicateMessage ct_i_DuplicateMessage,
    f_i_Unsent, PySem.W.fnOf "__init__" "Unsent.__init__" (defArgs s_i_Unsent) (defBody s_i_Unsent) (defScope s_i_Unsent) Value.none kV_i_Unsent dc_i_Unsent pm_i_Unsent an_i_Unsent cd_i_Unsent ct_i_Unsent,
    f_i_Ring, PySem.W.fnOf "__init__" "Ring.__init__" (defArgs s_i_Ring) (defBody s_i_Ring) (defScope s_i_Ring) Value.none kV_i_Ring dc_i_Ring pm_i_Ring an_i_Ring cd_i_Ring ct_i_Ring,
    f_i_TooMany, PySem.W.fnOf "__init__" "TooMany.__init__" (defArgs s_i_TooMany) (defBody s_i_TooMany) (defScope s_i_TooMany) Value.none kV_i_TooMany dc_i_TooMany pm_i_TooMany an_i_TooMany cd_i_TooMany ct_i_TooMany,
    f_i_InvalidPoint, PySem.W.fnOf "__init__" "InvalidPoint.__init__" (defArgs s_i_InvalidPoint) (defBody s_i_InvalidPoint) (defScope s_i_InvalidPoint) Value.none kV_i_InvalidPoint dc_i_InvalidPoint pm_i_InvalidPoint an_i_InvalidPoint cd_i_InvalidPoint ct_i_InvalidPoint,
    f_i_InvalidMoment, PySem.W.fnOf "__init__" "InvalidMoment.__init__" (defArgs s_i_InvalidMoment) (defBody s_i_InvalidMoment) (defScope s_i_InvalidMoment) Value.none kV_i_InvalidMoment dc_i_InvalidMoment pm_i_InvalidMoment an_i_InvalidMoment cd_i_InvalidMoment ct_i_InvalidMoment,
    f_i_InvalidClause, PySem.W.fnOf "__init__" "InvalidClause.__init__" (defArgs s_i_InvalidClause) (defBody s_i_InvalidClause) (defScope s_i_InvalidClause) Value.none kV_i_InvalidClause dc_i_InvalidClause pm_i_InvalidClause an_i_InvalidClause cd_i_InvalidClause ct_i_InvalidClause,
    f_i_Parted, PySem.W.fnOf "__init__" "Parted.__init__" (defArgs s_i_Parted) (defBody s_i_Parted) (defScope s_i_Parted) Value.none kV_i_Parted dc_i_Parted pm_i_Parted an_i_Parted cd_i_Parted ct_i_Parted,
    f_i_UnlikeLogs, PySem.W.fnOf "__init__" "UnlikeLogs.__init__" (defArgs s_i_UnlikeLogs) (defBody s_i_UnlikeLogs) (defScope s_i_UnlikeLogs) Value.none kV_i_UnlikeLogs dc_i_UnlikeLogs pm_i_UnlikeLogs an_i_UnlikeLogs cd_i_UnlikeLogs ct_i_UnlikeLogs,
    f_i_EmptyLot, PySem.W.fnOf "__init__" "EmptyLot.__init__" (defArgs s_i_EmptyLot) (defBody s_i_EmptyLot) (defScope s_i_EmptyLot) Value.none kV_i_EmptyLot dc_i_EmptyLot pm_i_EmptyLot an_i_EmptyLot cd_i_EmptyLot ct_i_EmptyLot,
    f_i_InvalidNumber, PySem.W.fnOf "__init__" "InvalidNumber.__init__" (defArgs s_i_InvalidNumber) (defBody s_i_InvalidNumber) (defScope s_i_InvalidNumber) Value.none kV_i_InvalidNumber dc_i_InvalidNumber pm_i_InvalidNumber an_i_InvalidNumber cd_i_InvalidNumber ct_i_InvalidNumber,
    f_i_InvalidWeights, PySem.W.fnOf "__init__" "InvalidWeights.__init__" (defArgs s_i_InvalidWeights) (defBody s_i_InvalidWeights) (defScope s_i_InvalidWeights) Value.none kV_i_InvalidWeights dc_i_InvalidWeights pm_i_InvalidWeights an_i_InvalidWeights cd_i_InvalidWeights ct_i_InvalidWeights,
    f_i_Uneven, PySem.W.fnOf "__init__" "Uneven.__init__" (defArgs s_i_Uneven) (defBody s_i_Uneven) (defScope s_i_Uneven) Value.none kV_i_Uneven dc_i_Uneven pm_i_Uneven an_i_Uneven cd_i_Uneven ct_i_Uneven,
    f_i_InvalidTests, PySem.W.fnOf "__init__" "InvalidTests.__init__" (defArgs s_i_InvalidTests) (defBody s_i_InvalidTests) (defScope s_i_InvalidTests) Value.none kV_i_InvalidTests dc_i_InvalidTests pm_i_InvalidTests an_i_InvalidTests cd_i_InvalidTests ct_i_InvalidTests,
    f_i_InvalidText, PySem.W.fnOf "__init__" "InvalidText.__init__" (defArgs s_i_InvalidText) (defBody s_i_InvalidText) (defScope s_i_InvalidText) Value.none kV_i_InvalidText dc_i_InvalidText pm_i_InvalidText an_i_InvalidText cd_i_InvalidText ct_i_InvalidText,
    f_i_InvalidCommand, PySem.W.fnOf "__init__" "InvalidCommand.__init__" (defArgs s_i_InvalidCommand) (defBody s_i_InvalidCommand) (defScope s_i_InvalidCommand) Value.none kV_i_InvalidCommand dc_i_InvalidCommand pm_i_InvalidCommand an_i_InvalidCommand cd_i_InvalidCommand ct_i_InvalidCommand,
    f_i_Full, PySem.W.fnOf "__init__" "Full.__init__" (defArgs s_i_Full) (defBody s_i_Full) (defScope s_i_Full) Value.none kV_i_Full dc_i_Full pm_i_Full an_i_Full cd_i_Full ct_i_Full,
    f_i_InvalidLimit, PySem.W.fnOf "__init__" "InvalidLimit.__init__" (defArgs s_i_InvalidLimit) (defBody s_i_InvalidLimit) (defScope s_i_InvalidLimit) Value.none kV_i_InvalidLimit dc_i_InvalidLimit pm_i_InvalidLimit an_i_InvalidLimit cd_i_InvalidLimit ct_i_InvalidLimit,
    f_i_InvalidPage, PySem.W.fnOf "__init__" "InvalidPage.__init__" (defArgs s_i_InvalidPage) (defBody s_i_InvalidPage) (defScope s_i_InvalidPage) Value.none kV_i_InvalidPage dc_i_InvalidPage pm_i_InvalidPage an_i_InvalidPage cd_i_InvalidPage ct_i_InvalidPage,
    f_i_UnknownProcess, PySem.W.fnOf "__init__" "UnknownProcess.__init__" (defArgs s_i_UnknownProcess) (defBody s_i_UnknownProcess) (defScope s_i_UnknownProcess) Value.none kV_i_UnknownProcess dc_i_UnknownProcess pm_i_UnknownProcess an_i_UnknownProcess cd_i_UnknownProcess ct_i_UnknownProcess,
    f_i_UnknownStep, PySem.W.fnOf "__init__" "UnknownStep.__init__" (defArgs s_i_UnknownStep) (defBody s_i_UnknownStep) (defScope s_i_UnknownStep) Value.none kV_i_UnknownStep dc_i_UnknownStep pm_i_UnknownStep an_i_UnknownStep cd_i_UnknownStep ct_i_UnknownStep,
    f_i_UnknownName, PySem.W.fnOf "__init__" "UnknownName.__init__" (defArgs s_i_UnknownName) (defBody s_i_UnknownName) (defScope s_i_UnknownName) Value.none kV_i_UnknownName dc_i_UnknownName pm_i_UnknownName an_i_UnknownName cd_i_UnknownName ct_i_UnknownName,
    f_i_NothingLeft, PySem.W.fnOf "__init__" "NothingLeft.__init__" (defArgs s_i_NothingLeft) (defBody s_i_NothingLeft) (defScope s_i_NothingLeft) Value.none kV_i_NothingLeft dc_i_NothingLeft pm_i_NothingLeft an_i_NothingLeft cd_i_NothingLeft ct_i_NothingLeft,
    f_Lbag, PySem.W.fnOf "_law_bag" "_law_bag" (defArgs s_Lbag) (defBody s_Lbag) (defScope s_Lbag) Value.none kV_Lbag dc_Lbag pm_Lbag an_Lbag cd_Lbag ct_Lbag,
    f_Ldraw, PySem.W.fnOf "_law_draw" "_law_draw" (defArgs s_Ldraw) (defBody s_Ldraw) (defScope s_Ldraw) Value.none kV_Ldraw dc_Ldraw pm_Ldraw an_Ldraw cd_Ldraw ct_Ldraw,
    f_Lof, PySem.W.fnOf "_law_of" "_law_of" (defArgs s_Lof) (defBody s_Lof) (defScope s_Lof) Value.none kV_Lof dc_Lof pm_Lof an_Lof cd_Lof ct_Lof,
    f_Lsame, PySem.W.fnOf "_law_same" "_law_same" (defArgs s_Lsame) (defBody s_Lsame) (defScope s_Lsame) Value.none kV_Lsame dc_Lsame pm_Lsame an_Lsame cd_Lsame ct_Lsame,
    f_Lfield, PySem.W.fnOf "_law_field" "_law_field" (defArgs s_Lfield) (defBody s_Lfield) (defScope s_Lfield) Value.none kV_Lfield dc_Lfield pm_Lfield an_Lfield cd_Lfield ct_Lfield,
    f_Lother_field, PySem.W.fnOf "_law_other_field" "_law_other_field" (defArgs s_Lother_field) (defBody s_Lother_field) (defScope s_Lother_field) Value.none kV_Lother_field dc_Lother_field pm_Lother_field an_Lother_field cd_Lother_field ct_Lother_field,
    f_Lodd, PySem.W.fnOf "_law_odd" "_law_odd" (defArgs s_Lodd) (defBody s_Lodd) (defScope s_Lodd) Value.none kV_Lodd dc_Lodd pm_Lodd an_Lodd cd_Lodd ct_Lodd,
    f_Lmade_errors, PySem.W.fnOf "_law_made_errors" "_law_made_errors" (defArgs s_Lmade_errors) (defBody s_Lmade_errors) (defScope s_Lmade_errors) Value.none kV_Lmade_errors dc_Lmade_errors pm_Lmade_errors an_Lmade_errors cd_Lmade_errors ct_Lmade_errors,
    f_Lnamed_errors, PySem.W.fnOf "_law_named_errors" "_law_named_errors" (defArgs s_Lnamed_errors) (defBody s_Lnamed_errors) (defScope s_Lnamed_errors) Value.none kV_Lnamed_errors dc_Lnamed_errors pm_Lnamed_errors an_Lnamed_errors cd_Lnamed_errors ct_Lnamed_errors,
    f_Lkinds_of, PySem.W.fnOf "_law_kinds_of" "_law_kinds_of" (defArgs s_Lkinds_of) (defBody s_Lkinds_of) (defScope s_Lkinds_of) Value.none kV_Lkinds_of dc_Lkinds_of pm_Lkinds_of an_Lkinds_of cd_Lkinds_of ct_Lkinds_of,
    f_Lcodes, PySem.W.fnOf "_law_codes" "_law_codes" (defArgs s_Lcodes) (defBody s_Lcodes) (defScope s_Lcodes) Value.none kV_Lcodes dc_Lcodes pm_Lcodes an_Lcodes cd_Lcodes ct_Lcodes,
    f_law, PySem.W.fnOf "law" "law" (defArgs s_law) (defBody s_law) (defScope s_law) Value.none kV_law dc_law pm_law an_law cd_law ct_law⟩ := ⟨PySem.W.mg_of X G n_DuplicateMessage,
    PySem.W.mg_of X G n_DuplicateName,
    PySem.W.mg_of X G n_EmptyLot,
    PySem.W.mg_of X G n_Full,
    PySem.W.mg_of X G n_InvalidClause,
    PySem.W.mg_of X G n_InvalidCommand,
    PySem.W.mg_of X G n_InvalidLimit,
    PySem.W.mg_of X G n_InvalidMoment,
    PySem.W.mg_of X G n_InvalidName,
    PySem.W.mg_of X G n_InvalidNumber,
    PySem.W.mg_of X G n_InvalidPage,
    PySem.W.mg_of X G n_InvalidPoint,
    PySem.W.mg_of X G n_InvalidRow,
    PySem.W.mg_of X G n_InvalidStep,
    PySem.W.mg_of X G n_InvalidTests,
    PySem.W.mg_of X G n_InvalidText,
    PySem.W.mg_of X G n_InvalidWeights,
    PySem.W.mg_of X G n_LogError,
    PySem.W.mg_of X G n_Missing,
    PySem.W.mg_of X G n_NothingLeft,
    PySem.W.mg_of X G n_Parted,
    PySem.W.mg_of X G n_Ring,
    PySem.W.mg_of X G n_TooMany,
    PySem.W.mg_of X G n_Uneven,
    PySem.W.mg_of X G n_UnknownName,
    PySem.W.mg_of X G n_UnknownProcess,
    PySem.W.mg_of X G n_UnknownStep,
    PySem.W.mg_of X G n_UnlikeLogs,
    PySem.W.mg_of X G n_Unsent,
    O_InvalidName.1,
    O_InvalidName.2.1,
    i_InvalidName,
    O_InvalidName.2.2,
    F_i_InvalidName,
    F_i_InvalidName.binds (ps := P_i_InvalidName) fun _ _ _ _ _ _ us hl => match us, hl with | [_, _], _ => rfl,
    kt_InvalidName,
    O_InvalidRow.1,
    O_InvalidRow.2.1,
    i_InvalidRow,
    O_InvalidRow.2.2,
    F_i_InvalidRow,
    F_i_InvalidRow.binds (ps := P_i_InvalidRow) fun _ _ _ _ _ _ us hl => match us, hl with | [_, _], _ => rfl,
    kt_InvalidRow,
    O_DuplicateName.1,
    O_DuplicateName.2.1,
    i_DuplicateName,
    O_DuplicateName.2.2,
    F_i_DuplicateName,
    F_i_DuplicateName.binds (ps := P_i_DuplicateName) fun _ _ _ _ _ _ us hl => match us, hl with | [_, _], _ => rfl,
    kt_DuplicateName,
    O_InvalidStep.1,
    O_InvalidStep.2.1,
    i_InvalidStep,
    O_InvalidStep.2.2,
    F_i_InvalidStep,
    F_i_InvalidStep.binds (ps := P_i_InvalidStep) fun _ _ _ _ _ _ us hl => match us, hl with | [_, _, _], _ => rfl,
    kt_InvalidStep,
    O_DuplicateMessage.1,
    O_DuplicateMessage.2.1,
    i_DuplicateMessage,
    O_DuplicateMessage.2.2,
    F_i_DuplicateMessage,
    F_i_DuplicateMessage.binds (ps := P_i_DuplicateMessage) fun _ _ _ _ _ _ us hl => match us, hl with | [_, _], _ => rfl,
    kt_DuplicateMessage,
    O_Unsent.1,
    O_Unsent.2.1,
    i_Unsent,
    O_Unsent.2.2,
    F_i_Unsent,
    F_i_Unsent.binds (ps := P_i_Unsent) fun _ _ _ _ _ _ us hl => match us, hl with | [_, _], _ => rfl,
    kt_Unsent,
    O_Ring.1,
    O_Ring.2.1,
    i_Ring,
    O_Ring.2.2,
    F_i_Ring,
    F_i_Ring.binds (ps := P_i_Ring) fun _ _ _ _ _ _ us hl => match us, hl with | [_, _], _ => rfl,
    kt_Ring,
    O_TooMany.1,
    O_TooMany.2.1,
    i_TooMany,
    O_TooMany.2.2,
    F_i_TooMany,
    F_i_TooMany.binds (ps := P_i_TooMany) fun _ _ _ _ _ _ us hl => match us, hl with | [_, _, _], _ => rfl,
    kt_TooMany,
    O_InvalidPoint.1,
    O_InvalidPoint.2.1,
    i_InvalidPoint,
    O_InvalidPoint.2.2,
    F_i_InvalidPoint,
    F_i_InvalidPoint.binds (ps := P_i_InvalidPoint) fun _ _ _ _ _ _ us hl => match us, hl with | [_, _], _ => rfl,
    kt_InvalidPoint,
    O_InvalidMoment.1,
    O_InvalidMoment.2.1,
    i_InvalidMoment,
    O_InvalidMoment.2.2,
    F_i_InvalidMoment,
    F_i_InvalidMoment.binds (ps := P_i_InvalidMoment) fun _ _ _ _ _ _ us hl => match us, hl with | [_, _], _ => rfl,
    kt_InvalidMoment,
    O_InvalidClause.1,
    O_InvalidClause.2.1,
    i_InvalidClause,
    O_InvalidClause.2.2,
    F_i_InvalidClause,
    F_i_InvalidClause.binds (ps := P_i_InvalidClause) fun _ _ _ _ _ _ us hl => match us, hl with | [_, _], _ => rfl,
    kt_InvalidClause,
    O_Parted.1,
    O_Parted.2.1,
    i_Parted,
    O_Parted.2.2,
    F_i_Parted,
    F_i_Parted.binds (ps := P_i_Parted) fun _ _ _ _ _ _ us hl => match us, hl with | [_, _, _, _], _ => rfl,
    kt_Parted,
    O_UnlikeLogs.1,
    O_UnlikeLogs.2.1,
    i_UnlikeLogs,
    O_UnlikeLogs.2.2,
    F_i_UnlikeLogs,
    F_i_UnlikeLogs.binds (ps := P_i_UnlikeLogs) fun _ _ _ _ _ _ us hl => match us, hl with | [_], _ => rfl,
    kt_UnlikeLogs,
    O_EmptyLot.1,
    O_EmptyLot.2.1,
    i_EmptyLot,
    O_EmptyLot.2.2,
    F_i_EmptyLot,
    F_i_EmptyLot.binds (ps := P_i_EmptyLot) fun _ _ _ _ _ _ us hl => match us, hl with | [_], _ => rfl,
    kt_EmptyLot,
    O_InvalidNumber.1,
    O_InvalidNumber.2.1,
    i_InvalidNumber,
    O_InvalidNumber.2.2,
    F_i_InvalidNumber,
    F_i_InvalidNumber.binds (ps := P_i_InvalidNumber) fun _ _ _ _ _ _ us hl => match us, hl with | [_, _], _ => rfl,
    kt_InvalidNumber,
    O_InvalidWeights.1,
    O_InvalidWeights.2.1,
    i_InvalidWeights,
    O_InvalidWeights.2.2,
    F_i_InvalidWeights,
    F_i_InvalidWeights.binds (ps := P_i_InvalidWeights) fun _ _ _ _ _ _ us hl => match us, hl with | [_], _ => rfl,
    kt_InvalidWeights,
    O_Uneven.1,
    O_Uneven.2.1,
    i_Uneven,
    O_Uneven.2.2,
    F_i_Uneven,
    F_i_Uneven.binds (ps := P_i_Uneven) fun _ _ _ _ _ _ us hl => match us, hl with | [_, _], _ => rfl,
    kt_Uneven,
    O_InvalidTests.1,
    O_InvalidTests.2.1,
    i_InvalidTests,
    O_InvalidTests.2.2,
    F_i_InvalidTests,
    F_i_InvalidTests.binds (ps := P_i_InvalidTests) fun _ _ _ _ _ _ us hl => match us, hl with | [_, _], _ => rfl,
    kt_InvalidTests,
    O_InvalidText.1,
    O_InvalidText.2.1,
    i_InvalidText,
    O_InvalidText.2.2,
    F_i_InvalidText,
    F_i_InvalidText.binds (ps := P_i_InvalidText) fun _ _ _ _ _ _ us hl => match us, hl with | [_, _], _ => rfl,
    kt_InvalidText,
    O_InvalidCommand.1,
    O_InvalidCommand.2.1,
    i_InvalidCommand,
    O_InvalidCommand.2.2,
    F_i_InvalidCommand,
    F_i_InvalidCommand.binds (ps := P_i_InvalidCommand) fun _ _ _ _ _ _ us hl => match us, hl with | [_, _], _ => rfl,
    kt_InvalidCommand,
    O_Full.1,
    O_Full.2.1,
    i_Full,
    O_Full.2.2,
    F_i_Full,
    F_i_Full.binds (ps := P_i_Full) fun _ _ _ _ _ _ us hl => match us, hl with | [_, _], _ => rfl,
    kt_Full,
    O_InvalidLimit.1,
    O_InvalidLimit.2.1,
    i_InvalidLimit,
    O_InvalidLimit.2.2,
    F_i_InvalidLimit,
    F_i_InvalidLimit.binds (ps := P_i_InvalidLimit) fun _ _ _ _ _ _ us hl => match us, hl with | [_, _], _ => rfl,
    kt_InvalidLimit,
    O_InvalidPage.1,
    O_InvalidPage.2.1,
    i_InvalidPage,
    O_InvalidPage.2.2,
    F_i_InvalidPage,
    F_i_InvalidPage.binds (ps := P_i_InvalidPage) fun _ _ _ _ _ _ us hl => match us, hl with | [_, _], _ => rfl,
    kt_InvalidPage,
    O_UnknownProcess.1,
    O_UnknownProcess.2.1,
    i_UnknownProcess,
    O_UnknownProcess.2.2,
    F_i_UnknownProcess,
    F_i_UnknownProcess.binds (ps := P_i_UnknownProcess) fun _ _ _ _ _ _ us hl => match us, hl with | [_, _], _ => rfl,
    kt_UnknownProcess,
    O_UnknownStep.1,
    O_UnknownStep.2.1,
    i_UnknownStep,
    O_UnknownStep.2.2,
    F_i_UnknownStep,
    F_i_UnknownStep.binds (ps := P_i_UnknownStep) fun _ _ _ _ _ _ us hl => match us, hl with | [_, _], _ => rfl,
    kt_UnknownStep,
    O_UnknownName.1,
    O_UnknownName.2.1,
    i_UnknownName,
    O_UnknownName.2.2,
    F_i_UnknownName,
    F_i_UnknownName.binds (ps := P_i_UnknownName) fun _ _ _ _ _ _ us hl => match us, hl with | [_, _], _ => rfl,
    kt_UnknownName,
    O_NothingLeft.1,
    O_NothingLeft.2.1,
    i_NothingLeft,
    O_NothingLeft.2.2,
    F_i_NothingLeft,
    F_i_NothingLeft.binds (ps := P_i_NothingLeft) fun _ _ _ _ _ _ us hl => match us, hl with | [_], _ => rfl,
    kt_NothingLeft,
    F_Lbag,
    PySem.W.mg_of X G n_Lbag,
    F_Lbag.binds (ps := P_Lbag) fun _ _ _ _ _ _ us hl => match us, hl with | [_], _ => rfl,
    F_Ldraw,
    PySem.W.mg_of X G n_Ldraw,
    F_Ldraw.binds (ps := P_Ldraw) fun _ _ _ _ _ _ us hl => match us, hl with | [_, _], _ => rfl,
    F_Lof,
    PySem.W.mg_of X G n_Lof,
    F_Lof.binds (ps := P_Lof) fun _ _ _ _ _ _ us hl => match us, hl with | [_, _], _ => rfl,
    F_Lsame,
    PySem.W.mg_of X G n_Lsame,
    F_Lsame.binds (ps := P_Lsame) fun _ _ _ _ _ _ us hl => match us, hl with | [_, _], _ => rfl,
    F_Lfield,
    PySem.W.mg_of X G n_Lfield,
    F_Lfield.binds (ps := P_Lfield) fun _ _ _ _ _ _ us hl => match us, hl with | [_], _ => rfl,
    F_Lother_field,
    PySem.W.mg_of X G n_Lother_field,
    F_Lother_field.binds (ps := P_Lother_field) fun _ _ _ _ _ _ us hl => match us, hl with | [_], _ => rfl,
    F_Lodd,
    PySem.W.mg_of X G n_Lodd,
    F_Lodd.binds (ps := P_Lodd) fun _ _ _ _ _ _ us hl => match us, hl with | [_, _], _ => rfl,
    F_Lmade_errors,
    PySem.W.mg_of X G n_Lmade_errors,
    F_Lmade_errors.binds (ps := P_Lmade_errors) fun _ _ _ _ _ _ us hl => match us, hl with | [_, _, _], _ => rfl,
    F_Lnamed_errors,
    PySem.W.mg_of X G n_Lnamed_errors,
    F_Lnamed_errors.binds (ps := P_Lnamed_errors) fun _ _ _ _ _ _ us hl => match us, hl with | [_, _, _], _ => rfl,
    F_Lkinds_of,
    PySem.W.mg_of X G n_Lkinds_of,
    F_Lkinds_of.binds (ps := P_Lkinds_of) fun _ _ _ _ _ _ us hl => match us, hl with | [_], _ => rfl,
    F_Lcodes,
    PySem.W.mg_of X G n_Lcodes,
    F_Lcodes.binds (ps := P_Lcodes) fun _ _ _ _ _ _ us hl => match us, hl with | [], _ => rfl,
    F_law,
    PySem.W.mg_of X G n_law,
    F_law.binds (ps := P_law) fun _ _ _ _ _ _ us hl => match us, hl with | [_], _ => rfl,
    PySem.W.mg_none_of X G z_IndexError,
    PySem.W.mg_none_of X G z_LookupError,
    PySem.W.mg_none_of X G z_ValueError,
    PySem.W.mg_none_of X G z_all,
    PySem.W.mg_none_of X G z_bool,
    PySem.W.mg_none_of X G z_enumerate,
    PySem.W.mg_none_of X G z_int,
    PySem.W.mg_none_of X G z_isinstance,
    PySem.W.mg_none_of X G z_len,
    PySem.W.mg_none_of X G z_list,
    PySem.W.mg_none_of X G z_range,
    PySem.W.mg_none_of X G z_str,
    PySem.W.mg_none_of X G z_tuple,
    PySem.W.mg_none_of X G z_zip,
    kb_mk F_i_UnknownName (fun _ _ _ _ _ _ us ws h1 h2 => match us, ws, h1, h2 with | [_], [_], _, _ => rfl) (fun r1 r2 => (((r1.drop 0).take 1).append ((r2.drop 0).take 1))),
    kb_mk F_i_UnknownStep (fun _ _ _ _ _ _ us ws h1 h2 => match us, ws, h1, h2 with | [_], [_], _, _ => rfl) (fun r1 r2 => (((r1.drop 0).take 1).append ((r2.drop 0).take 1))),
    kb_mk F_i_UnknownProcess (fun _ _ _ _ _ _ us ws h1 h2 => match us, ws, h1, h2 with | [_], [_], _, _ => rfl) (fun r1 r2 => (((r1.drop 0).take 1).append ((r2.drop 0).take 1))),
    kb_mk F_i_InvalidPage (fun _ _ _ _ _ _ us ws h1 h2 => match us, ws, h1, h2 with | [_], [_], _, _ => rfl) (fun r1 r2 => (((r1.drop 0).take 1).append ((r2.drop 0).take 1))),
    kb_mk F_i_InvalidLimit (fun _ _ _ _ _ _ us ws h1 h2 => match us, ws, h1, h2 with | [_], [_], _, _ => rfl) (fun r1 r2 => (((r1.drop 0).take 1).append ((r2.drop 0).take 1))),
    kb_mk F_i_Full (fun _ _ _ _ _ _ us ws h1 h2 => match us, ws, h1, h2 with | [_], [_], _, _ => rfl) (fun r1 r2 => (((r1.drop 0).take 1).append ((r2.drop 0).take 1))),
    kb_mk F_i_InvalidCommand (fun _ _ _ _ _ _ us ws h1 h2 => match us, ws, h1, h2 with | [_], [_], _, _ => rfl) (fun r1 r2 => (((r1.drop 0).take 1).append ((r2.drop 0).take 1))),
    kb_mk F_i_InvalidText (fun _ _ _ _ _ _ us ws h1 h2 => match us, ws, h1, h2 with | [_], [_], _, _ => rfl) (fun r1 r2 => (((r1.drop 0).take 1).append ((r2.drop 0).take 1))),
    kb_mk F_i_InvalidTests (fun _ _ _ _ _ _ us ws h1 h2 => match us, ws, h1, h2 with | [_], [_], _, _ => rfl) (fun r1 r2 => (((r1.drop 0).take 1).append ((r2.drop 0).take 1))),
    kb_mk F_i_Uneven (fun _ _ _ _ _ _ us ws h1 h2 => match us, ws, h1, h2 with | [_], [_], _, _ => rfl) (fun r1 r2 => (((r1.drop 0).take 1).append ((r2.drop 0).take 1))),
    kb_mk F_i_InvalidNumber (fun _ _ _ _ _ _ us ws h1 h2 => match us, ws, h1, h2 with | [_], [_], _, _ => rfl) (fun r1 r2 => (((r1.drop 0).take 1).append ((r2.drop 0).take 1))),
    kb_mk F_i_Parted (fun _ _ _ _ _ _ us ws h1 h2 => match us, ws, h1, h2 with | [_], [_, _, _], _, _ => rfl) (fun r1 r2 => (((((r1.drop 0).take 1).append ((r2.drop 2).take 1)).append ((r2.drop 1).take 1)).append ((r2.drop 0).take 1))),
    kb_mk F_i_InvalidClause (fun _ _ _ _ _ _ us ws h1 h2 => match us, ws, h1, h2 with | [_], [_], _, _ => rfl) (fun r1 r2 => (((r1.drop 0).take 1).append ((r2.drop 0).take 1))),
    kb_mk F_i_InvalidMoment (fun _ _ _ _ _ _ us ws h1 h2 => match us, ws, h1, h2 with | [_], [_], _, _ => rfl) (fun r1 r2 => (((r1.drop 0).take 1).append ((r2.drop 0).take 1))),
    kb_mk F_i_InvalidPoint (fun _ _ _ _ _ _ us ws h1 h2 => match us, ws, h1, h2 with | [_], [_], _, _ => rfl) (fun r1 r2 => (((r1.drop 0).take 1).append ((r2.drop 0).take 1))),
    kb_mk F_i_TooMany (fun _ _ _ _ _ _ us ws h1 h2 => match us, ws, h1, h2 with | [_], [_, _], _, _ => rfl) (fun r1 r2 => ((((r1.drop 0).take 1).append ((r2.drop 1).take 1)).append ((r2.drop 0).take 1))),
    kb_mk F_i_Ring (fun _ _ _ _ _ _ us ws h1 h2 => match us, ws, h1, h2 with | [_], [_], _, _ => rfl) (fun r1 r2 => (((r1.drop 0).take 1).append ((r2.drop 0).take 1))),
    kb_mk F_i_Unsent (fun _ _ _ _ _ _ us ws h1 h2 => match us, ws, h1, h2 with | [_], [_], _, _ => rfl) (fun r1 r2 => (((r1.drop 0).take 1).append ((r2.drop 0).take 1))),
    kb_mk F_i_DuplicateMessage (fun _ _ _ _ _ _ us ws h1 h2 => match us, ws, h1, h2 with | [_], [_], _, _ => rfl) (fun r1 r2 => (((r1.drop 0).take 1).append ((r2.drop 0).take 1))),
    kb_mk F_i_InvalidStep (fun _ _ _ _ _ _ us ws h1 h2 => match us, ws, h1, h2 with | [_], [_, _], _, _ => rfl) (fun r1 r2 => ((((r1.drop 0).take 1).append ((r2.drop 1).take 1)).append ((r2.drop 0).take 1))),
    kb_mk F_i_DuplicateName (fun _ _ _ _ _ _ us ws h1 h2 => match us, ws, h1, h2 with | [_], [_], _, _ => rfl) (fun r1 r2 => (((r1.drop 0).take 1).append ((r2.drop 0).take 1))),
    kb_mk F_i_InvalidRow (fun _ _ _ _ _ _ us ws h1 h2 => match us, ws, h1, h2 with | [_], [_], _, _ => rfl) (fun r1 r2 => (((r1.drop 0).take 1).append ((r2.drop 0).take 1))),
    kb_mk F_i_InvalidName (fun _ _ _ _ _ _ us ws h1 h2 => match us, ws, h1, h2 with | [_], [_], _, _ => rfl) (fun r1 r2 => (((r1.drop 0).take 1).append ((r2.drop 0).take 1)))⟩
  exact ⟨_, fun s v => .of_eq rfl, fun base _ _ => ok_law T⟩
end My

set_option Elab.async false
set_option linter.all false
set_option maxRecDepth 100000
open PySem PySem.W PyProof.Rows
set_option maxRecDepth 100000 in
set_option maxHeartbeats 0 in
theorem PySem.Challenge.cw_tiedmoments_k01_errors_by_themselves_holds : PySem.Challenge.rw_tiedmoments_k01_errors_by_themselves.Holds := by
  w_on; o_law; k_head; (case hw => w_witness2)
  k_fill
  refine L2.walk_of (l := PySem.Challenge.rw_tiedmoments_k01_errors_by_themselves) (n := 63) (k := 10) (x := "_law_script") (CX := fun _ => L2.CX0) (sp := fun w => My.spLaw _) rfl (by decide) rfl ⟨rfl, by decide, by decide⟩ (fun w h Y => PySem.W.kIn_of Y) ?F (fun _ _ a ns hl _ hS => ⟨a, ns, rfl, hS, hl, fun _ => rfl⟩) (fun _ _ _ _ _ h => h)
  case F =>
    intro w mg fa h KX G hmg
    refine' My.all_mk KX G hmg ?n_DuplicateMessage ?n_DuplicateName ?n_EmptyLot ?n_Full ?n_InvalidClause ?n_InvalidCommand ?n_InvalidLimit ?n_InvalidMoment ?n_InvalidName ?n_InvalidNumber ?n_InvalidPage ?n_InvalidPoint ?n_InvalidRow ?n_InvalidStep ?n_InvalidTests ?n_InvalidText ?n_InvalidWeights ?n_LogError ?n_Missing ?n_NothingLeft ?n_Parted ?n_Ring ?n_TooMany ?n_Uneven ?n_UnknownName ?n_UnknownProcess ?n_UnknownStep ?n_UnlikeLogs ?n_Unsent ?i_InvalidName ?l_i_InvalidName ?cc_i_InvalidName ?k_i_InvalidName ?x_InvalidName ?kt_InvalidName ?i_InvalidRow ?l_i_InvalidRow ?cc_i_InvalidRow ?k_i_InvalidRow ?x_InvalidRow ?kt_InvalidRow ?i_DuplicateName ?l_i_DuplicateName ?cc_i_DuplicateName ?k_i_DuplicateName ?x_DuplicateName ?kt_DuplicateName ?i_InvalidStep ?l_i_InvalidStep ?cc_i_InvalidStep ?k_i_InvalidStep ?x_InvalidStep ?kt_InvalidStep ?i_DuplicateMessage ?l_i_DuplicateMessage ?cc_i_DuplicateMessage ?k_i_DuplicateMessage ?x_DuplicateMessage ?kt_DuplicateMessage ?i_Unsent ?l_i_Unsent ?cc_i_Unsent ?k_i_Unsent ?x_Unsent ?kt_Unsent ?i_Ring ?l_i_Ring ?cc_i_Ring ?k_i_Ring ?x_Ring ?kt_Ring ?i_TooMany ?l_i_TooMany ?cc_i_TooMany ?k_i_TooMany ?x_TooMany ?kt_TooMany ?i_InvalidPoint ?l_i_InvalidPoint ?cc_i_InvalidPoint ?k_i_InvalidPoint ?x_InvalidPoint ?kt_InvalidPoint ?i_InvalidMoment ?l_i_InvalidMoment ?cc_i_InvalidMoment ?k_i_InvalidMoment ?x_InvalidMoment ?kt_InvalidMoment ?i_InvalidClause ?l_i_InvalidClause ?cc_i_InvalidClause ?k_i_InvalidClause ?x_InvalidClause ?kt_InvalidClause ?i_Parted ?l_i_Parted ?cc_i_Parted ?k_i_Parted ?x_Parted ?kt_Parted ?i_UnlikeLogs ?l_i_UnlikeLogs ?cc_i_UnlikeLogs ?k_i_UnlikeLogs ?x_UnlikeLogs ?kt_UnlikeLogs ?i_EmptyLot ?l_i_EmptyLot ?cc_i_EmptyLot ?k_i_EmptyLot ?x_EmptyLot ?kt_EmptyLot ?i_InvalidNumber ?l_i_InvalidNumber ?cc_i_InvalidNumber ?k_i_InvalidNumber ?x_InvalidNumber ?kt_InvalidNumber ?i_InvalidWeights ?l_i_InvalidWeights ?cc_i_InvalidWeights ?k_i_InvalidWeights ?x_InvalidWeights ?kt_InvalidWeights ?i_Uneven ?l_i_Uneven ?cc_i_Uneven ?k_i_Uneven ?x_Uneven ?kt_Uneven ?i_InvalidTests ?l_i_InvalidTests ?cc_i_InvalidTests ?k_i_InvalidTests ?x_InvalidTests ?kt_InvalidTests ?i_InvalidText ?l_i_InvalidText ?cc_i_InvalidText ?k_i_InvalidText ?x_InvalidText ?kt_InvalidText ?i_InvalidCommand ?l_i_InvalidCommand ?cc_i_InvalidCommand ?k_i_InvalidCommand ?x_InvalidCommand ?kt_InvalidCommand ?i_Full ?l_i_Full ?cc_i_Full ?k_i_Full ?x_Full ?kt_Full ?i_InvalidLimit ?l_i_InvalidLimit ?cc_i_InvalidLimit ?k_i_InvalidLimit ?x_InvalidLimit ?kt_InvalidLimit ?i_InvalidPage ?l_i_InvalidPage ?cc_i_InvalidPage ?k_i_InvalidPage ?x_InvalidPage ?kt_InvalidPage ?i_UnknownProcess ?l_i_UnknownProcess ?cc_i_UnknownProcess ?k_i_UnknownProcess ?x_UnknownProcess ?kt_UnknownProcess ?i_UnknownStep ?l_i_UnknownStep ?cc_i_UnknownStep ?k_i_UnknownStep ?x_UnknownStep ?kt_UnknownStep ?i_UnknownName ?l_i_UnknownName ?cc_i_UnknownName ?k_i_UnknownName ?x_UnknownName ?kt_UnknownName ?i_NothingLeft ?l_i_NothingLeft ?cc_i_NothingLeft ?k_i_NothingLeft ?x_NothingLeft ?kt_NothingLeft ?n_Lbag ?l_Lbag ?c_Lbag ?k_Lbag ?n_Ldraw ?l_Ldraw ?c_Ldraw ?k_Ldraw ?n_Lof ?l_Lof ?c_Lof ?k_Lof ?n_Lsame ?l_Lsame ?c_Lsame ?k_Lsame ?n_Lfield ?l_Lfield ?c_Lfield ?k_Lfield ?n_Lother_field ?l_Lother_field ?c_Lother_field ?k_Lother_field ?n_Lodd ?l_Lodd ?c_Lodd ?k_Lodd ?n_Lmade_errors ?l_Lmade_errors ?c_Lmade_errors ?k_Lmade_errors ?n_Lnamed_errors ?l_Lnamed_errors ?c_Lnamed_errors ?k_Lnamed_errors ?n_Lkinds_of ?l_Lkinds_of ?c_Lkinds_of ?k_Lkinds_of ?n_Lcodes ?l_Lcodes ?c_Lcodes ?k_Lcodes ?n_law ?l_law ?c_law ?k_law ?z_IndexError ?z_LookupError ?z_ValueError ?z_all ?z_bool ?z_enumerate ?z_int ?z_isinstance ?z_len ?z_list ?z_range ?z_str ?z_tuple ?z_zip
    (case n_DuplicateMessage => k_is)
    (case n_DuplicateName => k_is)
    (case n_EmptyLot => k_is)
    (case n_Full => k_is)
    (case n_InvalidClause => k_is)
    (case n_InvalidCommand => k_is)
    (case n_InvalidLimit => k_is)
    (case n_InvalidMoment => k_is)
    (case n_InvalidName => k_is)
    (case n_InvalidNumber => k_is)
    (case n_InvalidPage => k_is)
    (case n_InvalidPoint => k_is)
    (case n_InvalidRow => k_is)
    (case n_InvalidStep => k_is)
    (case n_InvalidTests => k_is)
    (case n_InvalidText => k_is)
    (case n_InvalidWeights => k_is)
    (case n_LogError => k_is)
    (case n_Missing => k_is)
    (case n_NothingLeft => k_is)
    (case n_Parted => k_is)
    (case n_Ring => k_is)
    (case n_TooMany => k_is)
    (case n_Uneven => k_is)
    (case n_UnknownName => k_is)
    (case n_UnknownProcess => k_is)
    (case n_UnknownStep => k_is)
    (case n_UnlikeLogs => k_is)
    (case n_Unsent => k_is)
    (case i_InvalidName => k_is)
    (case l_i_InvalidName => k_is)
    (case cc_i_InvalidName => k_is)
    (case k_i_InvalidName => k_is)
    (case x_InvalidName => kernel_rfl)
    (case kt_InvalidName => kernel_rfl)
    (case i_InvalidRow => k_is)
    (case l_i_InvalidRow => k_is)
    (case cc_i_InvalidRow => k_is)
    (case k_i_InvalidRow => k_is)
    (case x_InvalidRow => kernel_rfl)
    (case kt_InvalidRow => kernel_rfl)
    (case i_DuplicateName => k_is)
    (case l_i_DuplicateName => k_is)
    (case cc_i_DuplicateName => k_is)
    (case k_i_DuplicateName => k_is)
    (case x_DuplicateName => kernel_rfl)
    (case kt_DuplicateName => kernel_rfl)
    (case i_InvalidStep => k_is)
    (case l_i_InvalidStep => k_is)
    (case cc_i_InvalidStep => k_is)
    (case k_i_InvalidStep => k_is)
    (case x_InvalidStep => kernel_rfl)
    (case kt_InvalidStep => kernel_rfl)
    (case i_DuplicateMessage => k_is)
    (case l_i_DuplicateMessage => k_is)
    (case cc_i_DuplicateMessage => k_is)
    (case k_i_DuplicateMessage => k_is)
    (case x_DuplicateMessage => kernel_rfl)
    (case kt_DuplicateMessage => kernel_rfl)
    (case i_Unsent => k_is)
    (case l_i_Unsent => k_is)
    (case cc_i_Unsent => k_is)
    (case k_i_Unsent => k_is)
    (case x_Unsent => kernel_rfl)
    (case kt_Unsent => kernel_rfl)
    (case i_Ring => k_is)
    (case l_i_Ring => k_is)
    (case cc_i_Ring => k_is)
    (case k_i_Ring => k_is)
    (case x_Ring => kernel_rfl)
    (case kt_Ring => kernel_rfl)
    (case i_TooMany => k_is)
    (case l_i_TooMany => k_is)
    (case cc_i_TooMany => k_is)
    (case k_i_TooMany => k_is)
    (case x_TooMany => kernel_rfl)
    (case kt_TooMany => kernel_rfl)
    (case i_InvalidPoint => k_is)
    (case l_i_InvalidPoint => k_is)
    (case cc_i_InvalidPoint => k_is)
    (case k_i_InvalidPoint => k_is)
    (case x_InvalidPoint => kernel_rfl)
    (case kt_InvalidPoint => kernel_rfl)
    (case i_InvalidMoment => k_is)
    (case l_i_InvalidMoment => k_is)
    (case cc_i_InvalidMoment => k_is)
    (case k_i_InvalidMoment => k_is)
    (case x_InvalidMoment => kernel_rfl)
    (case kt_InvalidMoment => kernel_rfl)
    (case i_InvalidClause => k_is)
    (case l_i_InvalidClause => k_is)
    (case cc_i_InvalidClause => k_is)
    (case k_i_InvalidClause => k_is)
    (case x_InvalidClause => kernel_rfl)
    (case kt_InvalidClause => kernel_rfl)
    (case i_Parted => k_is)
    (case l_i_Parted => k_is)
    (case cc_i_Parted => k_is)
    (case k_i_Parted => k_is)
    (case x_Parted => kernel_rfl)
    (case kt_Parted => kernel_rfl)
    (case i_UnlikeLogs => k_is)
    (case l_i_UnlikeLogs => k_is)
    (case cc_i_UnlikeLogs => k_is)
    (case k_i_UnlikeLogs => k_is)
    (case x_UnlikeLogs => kernel_rfl)
    (case kt_UnlikeLogs => kernel_rfl)
    (case i_EmptyLot => k_is)
    (case l_i_EmptyLot => k_is)
    (case cc_i_EmptyLot => k_is)
    (case k_i_EmptyLot => k_is)
    (case x_EmptyLot => kernel_rfl)
    (case kt_EmptyLot => kernel_rfl)
    (case i_InvalidNumber => k_is)
    (case l_i_InvalidNumber => k_is)
    (case cc_i_InvalidNumber => k_is)
    (case k_i_InvalidNumber => k_is)
    (case x_InvalidNumber => kernel_rfl)
    (case kt_InvalidNumber => kernel_rfl)
    (case i_InvalidWeights => k_is)
    (case l_i_InvalidWeights => k_is)
    (case cc_i_InvalidWeights => k_is)
    (case k_i_InvalidWeights => k_is)
    (case x_InvalidWeights => kernel_rfl)
    (case kt_InvalidWeights => kernel_rfl)
    (case i_Uneven => k_is)
    (case l_i_Uneven => k_is)
    (case cc_i_Uneven => k_is)
    (case k_i_Uneven => k_is)
    (case x_Uneven => kernel_rfl)
    (case kt_Uneven => kernel_rfl)
    (case i_InvalidTests => k_is)
    (case l_i_InvalidTests => k_is)
    (case cc_i_InvalidTests => k_is)
    (case k_i_InvalidTests => k_is)
    (case x_InvalidTests => kernel_rfl)
    (case kt_InvalidTests => kernel_rfl)
    (case i_InvalidText => k_is)
    (case l_i_InvalidText => k_is)
    (case cc_i_InvalidText => k_is)
    (case k_i_InvalidText => k_is)
    (case x_InvalidText => kernel_rfl)
    (case kt_InvalidText => kernel_rfl)
    (case i_InvalidCommand => k_is)
    (case l_i_InvalidCommand => k_is)
    (case cc_i_InvalidCommand => k_is)
    (case k_i_InvalidCommand => k_is)
    (case x_InvalidCommand => kernel_rfl)
    (case kt_InvalidCommand => kernel_rfl)
    (case i_Full => k_is)
    (case l_i_Full => k_is)
    (case cc_i_Full => k_is)
    (case k_i_Full => k_is)
    (case x_Full => kernel_rfl)
    (case kt_Full => kernel_rfl)
    (case i_InvalidLimit => k_is)
    (case l_i_InvalidLimit => k_is)
    (case cc_i_InvalidLimit => k_is)
    (case k_i_InvalidLimit => k_is)
    (case x_InvalidLimit => kernel_rfl)
    (case kt_InvalidLimit => kernel_rfl)
    (case i_InvalidPage => k_is)
    (case l_i_InvalidPage => k_is)
    (case cc_i_InvalidPage => k_is)
    (case k_i_InvalidPage => k_is)
    (case x_InvalidPage => kernel_rfl)
    (case kt_InvalidPage => kernel_rfl)
    (case i_UnknownProcess => k_is)
    (case l_i_UnknownProcess => k_is)
    (case cc_i_UnknownProcess => k_is)
    (case k_i_UnknownProcess => k_is)
    (case x_UnknownProcess => kernel_rfl)
    (case kt_UnknownProcess => kernel_rfl)
    (case i_UnknownStep => k_is)
    (case l_i_UnknownStep => k_is)
    (case cc_i_UnknownStep => k_is)
    (case k_i_UnknownStep => k_is)
    (case x_UnknownStep => kernel_rfl)
    (case kt_UnknownStep => kernel_rfl)
    (case i_UnknownName => k_is)
    (case l_i_UnknownName => k_is)
    (case cc_i_UnknownName => k_is)
    (case k_i_UnknownName => k_is)
    (case x_UnknownName => kernel_rfl)
    (case kt_UnknownName => kernel_rfl)
    (case i_NothingLeft => k_is)
    (case l_i_NothingLeft => k_is)
    (case cc_i_NothingLeft => k_is)
    (case k_i_NothingLeft => k_is)
    (case x_NothingLeft => kernel_rfl)
    (case kt_NothingLeft => kernel_rfl)
    (case n_Lbag => k_is)
    (case l_Lbag => k_is)
    (case c_Lbag => k_is)
    (case k_Lbag => k_is)
    (case n_Ldraw => k_is)
    (case l_Ldraw => k_is)
    (case c_Ldraw => k_is)
    (case k_Ldraw => k_is)
    (case n_Lof => k_is)
    (case l_Lof => k_is)
    (case c_Lof => k_is)
    (case k_Lof => k_is)
    (case n_Lsame => k_is)
    (case l_Lsame => k_is)
    (case c_Lsame => k_is)
    (case k_Lsame => k_is)
    (case n_Lfield => k_is)
    (case l_Lfield => k_is)
    (case c_Lfield => k_is)
    (case k_Lfield => k_is)
    (case n_Lother_field => k_is)
    (case l_Lother_field => k_is)
    (case c_Lother_field => k_is)
    (case k_Lother_field => k_is)
    (case n_Lodd => k_is)
    (case l_Lodd => k_is)
    (case c_Lodd => k_is)
    (case k_Lodd => k_is)
    (case n_Lmade_errors => k_is)
    (case l_Lmade_errors => k_is)
    (case c_Lmade_errors => k_is)
    (case k_Lmade_errors => k_is)
    (case n_Lnamed_errors => k_is)
    (case l_Lnamed_errors => k_is)
    (case c_Lnamed_errors => k_is)
    (case k_Lnamed_errors => k_is)
    (case n_Lkinds_of => k_is)
    (case l_Lkinds_of => k_is)
    (case c_Lkinds_of => k_is)
    (case k_Lkinds_of => k_is)
    (case n_Lcodes => k_is)
    (case l_Lcodes => k_is)
    (case c_Lcodes => k_is)
    (case k_Lcodes => k_is)
    (case n_law => k_is)
    (case l_law => k_is)
    (case c_law => k_is)
    (case k_law => k_is)
    (case z_IndexError => k_is)
    (case z_LookupError => k_is)
    (case z_ValueError => k_is)
    (case z_all => k_is)
    (case z_bool => k_is)
    (case z_enumerate => k_is)
    (case z_int => k_is)
    (case z_isinstance => k_is)
    (case z_len => k_is)
    (case z_list => k_is)
    (case z_range => k_is)
    (case z_str => k_is)
    (case z_tuple => k_is)
    (case z_zip => k_is)
