import PyProof.Rows.All
import Wide.All
import OpenK.AllK
import Wide.FinOn
import HandS.ForMost
import HandS.IsInst
import HandS.Zip
import HandS.Walk
import HandS.Defaults
import HandS.FStr
import HandS.TupLe
import HandS.Evl
import HandS.Style
import HandS.StrMore
import HandS.Deep
import KE.GoesMore
import PyProof.Draws
import HandS.SetFor
import HandS.Star
import HandS.ClsMeth
import HandS.OwnEq
import HandS.Codes
import KE.KCallOwn
import HandS.More
import KE.IntTextLaws
import HandS.RaiseMore
import PySem.Challenge.RW_tiedmoments_k07_whole_texts_of_logs
set_option Elab.async false
set_option linter.all false
set_option maxRecDepth 100000
/-! Own ground: rules that lacked, data in the heap, the bag of the laws. -/
namespace My
open PySem PySem.Spec PyProof.Rows L2

/-! ### a call by keywords alone -/
section
variable {X : Cx} {CX : CXT} {k n : Nat} {f : Addr} {fd : FuncData} {ps ks : List Str} {sp : Sp} {E : XK} {x : Str} {p pos : Pos} {kws : List Keyword} {tk : TA} {g : List Value → List Value → List Value} {gV : List V → List V → List V}
theorem pe_callN0 (F : FnOk X.prog X.w X.K X.mg X.base CX k f fd ps sp) (hr : Room k X.A) (hg : Gl X x) (hm : X.mg x = some (.ref f)) (hk : PySem.W.keepIn X.K (.ref f) = true) (hb : KBn X.K fd ps 0 ks g gV) (hx : Passes CX X E)
    (hkw : PK X kws tk) (plain : ((backTo pos (starEach [] X.env)).any (·.1) || (backToKw pos (keywordEach kws X.env)).any (·.1.isNone)) = false := by rfl) (named : (backToKw pos (keywordEach kws X.env)).all (·.1.isSome) = true := by rfl)
    (names : (backToKw pos (keywordEach kws X.env)).filterMap (·.1) = ks := by rfl) (nodebug : (x == ("__debug__" : Str)) = false := by decide) : PE X (.Call (.Name x p) [] kws pos) (tCallN 0 ks.length sp gV E tNil tk) := ⟨fun pins s σ H Q I h => by
  have go := hkw.run pos pins s σ H _ I h
  refine wpAny_Call_Name_kw (ld_glob I hg hm (PySem.W.callWith_KW0 (h₀ := X.base) I.ok.mod.kin hk named (thn go fun vals s' ⟨vs, H', J, rv, n1, n2, want⟩ => ⟨J.kIn, ?_⟩) plain) nodebug)
  rw [names]
  exact run_fnN (us := []) (vs := []) F hr hb hx J .nil rv n1 n2 want⟩
end

/-! ### is not True, of an int -/
theorem op_isnot_ib {X : Cx} : OpR X (compareOp .IsNot) (fun x y H Q => ∃ (a : Int) (b : Bool), x = .int a ∧ y = .bl b ∧ Q (.bl true) H) := fun pins s σ H x y v u Q I rx ry ⟨a, b, e1, e2, q⟩ => by
  subst e1 e2
  obtain ⟨t, e3⟩ := rx
  have e4 : u = Value.bool b := ry
  subst e3 e4
  exact wpAny_isNot_other rfl (fun z => by cases z) ⟨.bl true, H, I, rfl, q⟩

/-! ### heaps -/
/-- all but what stands at p is as it was -/
def Ext (p : Addr) (H H' : Hp) : Prop := ∀ b o, H b = some o → b ≠ p → H' b = some o
theorem Ext.refl (p : Addr) (H : Hp) : Ext p H H := fun _ _ h _ => h
theorem Ext.trans {p : Addr} {H H1 H2 : Hp} (a : Ext p H H1) (b : Ext p H1 H2) : Ext p H H2 := fun c o h n => b c o (a c o h n) n
theorem Ext.of {p : Addr} {H H' : Hp} (a : Same H H') : Ext p H H' := fun c o h _ => a c o h
theorem same_upd {o : HO} {p : Addr} {H : Hp} (h : H p = none) : Same H (upd H p o) := fun b x e => by
  rw [upd_ne (ne_of_none e h)]
  exact e
theorem Same.at {H H' : Hp} (s : Same H H') {a : Addr} {o : HO} (h : H a = some o) : H' a = some o := s a o h
theorem Rd.same {H H' : Hp} (s : Same H H') {a : Addr} {o : HO} (h : Rd H a o) : Rd H' a o := by
  rcases h with h | ⟨u, h⟩
  · exact .inl (s _ _ h)
  · exact .inr ⟨u, s _ _ h⟩
theorem Rd.ext {p : Addr} {H H' : Hp} (s : Ext p H H') {a : Addr} {o : HO} (n : a ≠ p) (h : Rd H a o) : Rd H' a o := by
  rcases h with h | ⟨u, h⟩
  · exact .inl (s _ _ h n)
  · exact .inr ⟨u, s _ _ h n⟩
theorem SqL.same {K : PySem.W.Frag} {H H' : Hp} (s : Same H H') {a : Addr} {xs : List V} (h : SqL K H a xs) : SqL K H' a xs := by
  rcases h with h | h
  · exact .inl (Rd.same s h)
  · exact .inr h
theorem SqT.same {K : PySem.W.Frag} {H H' : Hp} (s : Same H H') {a : Addr} {xs : List V} (h : SqT K H a xs) : SqT K H' a xs := by
  rcases h with h | h
  · exact .inl (Rd.same s h)
  · exact .inr h
theorem SqL.ext {K : PySem.W.Frag} {p : Addr} {H H' : Hp} (s : Ext p H H') {a : Addr} {xs : List V} (n : a ≠ p) (h : SqL K H a xs) : SqL K H' a xs := by
  rcases h with h | h
  · exact .inl (Rd.ext s n h)
  · exact .inr h
theorem SqT.ext {K : PySem.W.Frag} {p : Addr} {H H' : Hp} (s : Ext p H H') {a : Addr} {xs : List V} (n : a ≠ p) (h : SqT K H a xs) : SqT K H' a xs := by
  rcases h with h | h
  · exact .inl (Rd.ext s n h)
  · exact .inr h
theorem lsq {K : PySem.W.Frag} {H : Hp} {a : Addr} {xs : List V} (h : H a = some (.lst xs)) : SqL K H a xs := .inl (.inl h)
theorem tsq {K : PySem.W.Frag} {H : Hp} {a : Addr} {xs : List V} (h : H a = some (.tup xs)) : SqT K H a xs := .inl (.inl h)
theorem sz {n : Nat} (h : n ≤ 100000) : n ≤ sizeLine := Nat.le_trans h (by decide)
theorem szl {n : Nat} (h : n < 100000) : n < sizeLine := Nat.lt_of_lt_of_le h (by decide)

/-! ### data in the heap, away from p -/
mutual
inductive Dd (K : PySem.W.Frag) (p : Addr) (H : Hp) : V → PyData → Prop
  | non : Dd K p H .non .none
  | bl (b : Bool) : Dd K p H (.bl b) (.bool b)
  | int (i : Int) : Dd K p H (.int i) (.int i)
  | str (x : Str) : Dd K p H (.str x) (.str x)
  | lst {a : Addr} {xs : List V} {ds : List PyData} : a ≠ p → SqL K H a xs → DdAll K p H xs ds → Dd K p H (.ref a) (.list ds)
  | tup {a : Addr} {xs : List V} {ds : List PyData} : a ≠ p → SqT K H a xs → DdAll K p H xs ds → Dd K p H (.ref a) (.tuple ds)
inductive DdAll (K : PySem.W.Frag) (p : Addr) (H : Hp) : List V → List PyData → Prop
  | nil : DdAll K p H [] []
  | cons {v : V} {vs : List V} {d : PyData} {ds : List PyData} : Dd K p H v d → DdAll K p H vs ds → DdAll K p H (v :: vs) (d :: ds)
end
section
variable {K : PySem.W.Frag} {p : Addr} {H H' : Hp}
mutual
theorem Dd.ext (s : Ext p H H') : ∀ (d : PyData) (v : V), Dd K p H v d → Dd K p H' v d
  | .none, _, h => by cases h; exact .non
  | .bool _, _, h => by cases h; exact .bl _
  | .int _, _, h => by cases h; exact .int _
  | .str _, _, h => by cases h; exact .str _
  | .list ds, _, h => by
    cases h with
    | lst n a b => exact .lst n (SqL.ext s n a) (DdAll.ext s ds _ b)
  | .tuple ds, _, h => by
    cases h with
    | tup n a b => exact .tup n (SqT.ext s n a) (DdAll.ext s ds _ b)
  | .dict _, _, h => by cases h
theorem DdAll.ext (s : Ext p H H') : ∀ (ds : List PyData) (vs : List V), DdAll K p H vs ds → DdAll K p H' vs ds
  | [], _, h => by cases h; exact .nil
  | d :: ds, _, h => by
    cases h with
    | cons a b => exact .cons (Dd.ext s d _ a) (DdAll.ext s ds _ b)
end
mutual
theorem Dd.dp : ∀ (d : PyData) (v : V), Dd K p H v d → Dp K H v d
  | .none, _, h => by cases h; exact .non
  | .bool _, _, h => by cases h; exact .bl _
  | .int _, _, h => by cases h; exact .int _
  | .str _, _, h => by cases h; exact .str _
  | .list ds, _, h => by
    cases h with
    | lst n a b => exact .lst a (DdAll.dp ds _ b)
  | .tuple ds, _, h => by
    cases h with
    | tup n a b => exact .tup a (DdAll.dp ds _ b)
  | .dict _, _, h => by cases h
theorem DdAll.dp : ∀ (ds : List PyData) (vs : List V), DdAll K p H vs ds → DpAll K H vs ds
  | [], _, h => by cases h; exact .nil
  | d :: ds, _, h => by
    cases h with
    | cons a b => exact .cons (Dd.dp d _ a) (DdAll.dp ds _ b)
end
mutual
theorem Dp.same (s : Same H H') : ∀ (d : PyData) (v : V), Dp K H v d → Dp K H' v d
  | .none, _, h => by cases h; exact .non
  | .bool _, _, h => by cases h; exact .bl _
  | .int _, _, h => by cases h; exact .int _
  | .str _, _, h => by cases h; exact .str _
  | .list ds, _, h => by
    cases h with
    | lst a b => exact .lst (SqL.same s a) (DpAll.same s ds _ b)
  | .tuple ds, _, h => by
    cases h with
    | tup a b => exact .tup (SqT.same s a) (DpAll.same s ds _ b)
  | .dict _, _, h => by cases h
theorem DpAll.same (s : Same H H') : ∀ (ds : List PyData) (vs : List V), DpAll K H vs ds → DpAll K H' vs ds
  | [], _, h => by cases h; exact .nil
  | d :: ds, _, h => by
    cases h with
    | cons a b => exact .cons (Dp.same s d _ a) (DpAll.same s ds _ b)
end
theorem DpAll.length : ∀ {ds : List PyData} {vs : List V}, DpAll K H vs ds → vs.length = ds.length
  | [], _, h => by cases h; rfl
  | d :: ds, _, h => by
    cases h with
    | cons a b => exact congrArg Nat.succ (DpAll.length b)
theorem DpAll.get : ∀ {ds : List PyData} {vs : List V} {i : Nat} {v : V}, DpAll K H vs ds → vs[i]? = some v → ∃ d, ds[i]? = some d ∧ Dp K H v d
  | [], _, _, _, h, e => by cases h; simp at e
  | d :: ds, _, 0, _, h, e => by
    cases h with
    | cons a b => simp at e; subst e; exact ⟨d, rfl, a⟩
  | d :: ds, _, i + 1, _, h, e => by
    cases h with
    | cons a b =>
      obtain ⟨d', e1, e2⟩ := DpAll.get (i := i) b (by simpa using e)
      exact ⟨d', by simpa using e1, e2⟩
end

/-! ### the bag of the laws -/
/-- where a bag stands: its list, its list of cells, the cells -/
structure BagId where
  p : Addr
  l : Addr
  ns : List Int
def Bag (B : BagId) (H : Hp) : Prop := ∃ (i g m c : Int), H B.p = some (.lst [.ref B.l, .int i, .int g, .int m, .int c]) ∧ H B.l = some (.lst (B.ns.map V.int)) ∧ B.l ≠ B.p ∧ 0 ≤ i ∧ i ≤ B.ns.length ∧ B.ns.length ≤ 63 ∧ 0 ≤ g ∧ 0 ≤ m ∧ m < 2147483549
theorem Bag.ext {B : BagId} {H H' : Hp} (b : Bag B H) (s : Same H H') : Bag B H' := by
  obtain ⟨i, g, m, c, h1, h2, r⟩ := b
  exact ⟨i, g, m, c, s _ _ h1, s _ _ h2, r⟩
theorem Bag.there {B : BagId} {H : Hp} (b : Bag B H) : ∃ o, H B.p = some o := by
  obtain ⟨i, g, m, c, h1, _⟩ := b
  exact ⟨_, h1⟩
theorem Bag.thereL {B : BagId} {H : Hp} (b : Bag B H) : ∃ o, H B.l = some o := by
  obtain ⟨i, g, m, c, h1, h2, _⟩ := b
  exact ⟨_, h2⟩
theorem Bag.ne {B : BagId} {a : Addr} {H : Hp} (b : Bag B H) (h : H a = none) : a ≠ B.p := by
  obtain ⟨o, e⟩ := b.there
  exact (ne_of_none e h).symm
theorem Bag.neL {B : BagId} {a : Addr} {H : Hp} (b : Bag B H) (h : H a = none) : a ≠ B.l := by
  obtain ⟨o, e⟩ := b.thereL
  exact (ne_of_none e h).symm
theorem Bag.upd {B : BagId} {a : Addr} {o : HO} {H : Hp} (b : Bag B H) (h1 : a ≠ B.p) (h2 : a ≠ B.l) : Bag B (upd H a o) := by
  obtain ⟨i, g, m, c, e1, e2, r⟩ := b
  exact ⟨i, g, m, c, by rw [upd_ne h1.symm]; exact e1, by rw [upd_ne h2.symm]; exact e2, r⟩
def spBag (K : PySem.W.Frag) : Sp := fun vs H Q _ => ∃ (a : Addr) (ns : List Int), vs = [.ref a] ∧ SqL K H a (ns.map V.int) ∧ ns.length ≤ 63 ∧ ∀ (B : BagId) (H' : Hp), H B.p = none → Bag B H' → Same H H' → Q (.ref B.p) H'
def spDraw : Sp := fun vs H Q _ => ∃ (B : BagId) (n : Int), vs = [.ref B.p, .int n] ∧ Bag B H ∧ 0 < n ∧ n < 1073741824 ∧ ∀ (r : Int) (H' : Hp), 0 ≤ r → r < n → Bag B H' → Ext B.p H H' → Q (.int r) H'
def spOf (K : PySem.W.Frag) : Sp := fun vs H Q _ => ∃ (B : BagId) (y : V), vs = [.ref B.p, y] ∧ Bag B H ∧
  ((∃ (q : Addr) (xs : List V), y = .ref q ∧ q ≠ B.p ∧ (SqL K H q xs ∨ SqT K H q xs) ∧ 0 < xs.length ∧ xs.length < 1073741824 ∧ ∀ (v : V) (H' : Hp), v ∈ xs → Bag B H' → Ext B.p H H' → Q v H') ∨
   (∃ z : Str, y = .str z ∧ 0 < z.length ∧ z.length ≤ sizeLine ∧ ∀ (c : Nat) (H' : Hp), c ∈ z.cps.toList → Bag B H' → Ext B.p H H' → Q (.str ⟨#[c]⟩) H'))
mutual
/-- no list in it is long -/
def small : PyData → Bool
  | .list ds => decide (ds.length ≤ 5000) && smallAll ds
  | .tuple ds => decide (ds.length ≤ 5000) && smallAll ds
  | .dict _ => false
  | .none => true
  | .bool _ => true
  | .int _ => true
  | .str x => decide (x.length ≤ 5000)
def smallAll : List PyData → Bool
  | [] => true
  | d :: ds => small d && smallAll ds
end
theorem smallAll_get : ∀ {ds : List PyData} {i : Nat} {d : PyData}, smallAll ds = true → ds[i]? = some d → small d = true
  | [], _, _, _, e => by simp at e
  | x :: ds, 0, d, h, e => by
    simp at e; subst e
    unfold smallAll at h
    exact (Bool.and_eq_true_iff.mp h).1
  | x :: ds, i + 1, d, h, e => by
    unfold smallAll at h
    exact smallAll_get (i := i) (Bool.and_eq_true_iff.mp h).2 (by simpa using e)
theorem depthAll_get : ∀ {ds : List PyData} {i : Nat} {d : PyData}, ds[i]? = some d → d.depth ≤ PyData.depthAll ds
  | [], _, _, e => by simp at e
  | x :: ds, 0, d, e => by
    simp at e; subst e
    unfold PyData.depthAll
    exact Nat.le_max_left _ _
  | x :: ds, i + 1, d, e => by
    unfold PyData.depthAll
    exact Nat.le_trans (depthAll_get (i := i) (by simpa using e)) (Nat.le_max_right _ _)
def spSame (K : PySem.W.Frag) (n : Nat) : Sp := fun vs H Q _ => ∃ (v w : V) (d : PyData), vs = [v, w] ∧ Dp K H v d ∧ Dp K H w d ∧ d.depth ≤ n ∧ small d = true ∧ ∀ H', Same H H' → Q (.bl true) H'
/-- the promise one depth less; none of depth nought -/
def spSameLt (K : PySem.W.Frag) : Nat → Sp
  | 0 => fun _ _ _ _ => False
  | n + 1 => spSame K n
/-! ### rules whose sides are read off -/
section
variable {X : Cx}
theorem CallR.imp {f : Value} {r r' : List V → Hp → VK → Prop} (h : CallR X f r) (i : ∀ xs H Q, r' xs H Q → r xs H Q) : CallR X f r' := fun pins s σ H xs us Q I rv q => h pins s σ H xs us Q I rv (i _ _ _ q)
theorem OpR.imp {f : Value → Value → Sem Value} {r r' : R2} (h : OpR X f r) (i : ∀ x y H Q, r' x y H Q → r x y H Q) : OpR X f r' := fun pins s σ H x y v u Q I rx ry q => h pins s σ H x y v u Q I rx ry (i _ _ _ _ q)
theorem IxR.imp {r r' : R2} (h : IxR X r) (i : ∀ x y H Q, r' x y H Q → r x y H Q) : IxR X r' := by
  intro value slice pins s σ H x y v u Q I rx ry q hs
  exact h _ _ _ _ _ _ _ _ _ _ _ I rx ry (i _ _ _ _ q) hs
theorem call_intI : CallR X (.type "int") (fun xs H Q => ∃ i, xs = [.int i] ∧ Q (.int i) H) := CallR.imp call_int1 fun _ _ _ h => .inl h
def CMulC (_ j : Int) : Prop := decide (-(2 ^ 64) < j ∧ j < 2 ^ 64) = true
theorem op_mulC : OpR X (binaryOp .Mult) (rI CMulC fun i j => .int (i * j)) := OpR.imp op_mul fun _ _ _ _ ⟨i, j, a, b, c, q⟩ => ⟨i, j, a, b, .inr (of_decide_eq_true c), q⟩
def CModC (_ j : Int) : Prop := decide (0 < j) = true
theorem op_modC : OpR X (binaryOp .Mod) (rI CModC fun i j => .int (i % j)) := OpR.imp op_mod fun _ _ _ _ ⟨i, j, a, b, c, q⟩ => ⟨i, j, a, b, of_decide_eq_true c, q⟩
def CDivC (_ j : Int) : Prop := decide (0 < j ∧ j < 1073741824) = true
theorem op_fdivC : OpR X (binaryOp .FloorDiv) (rI CDivC fun i j => .int (i / j)) := OpR.imp op_fdiv fun _ _ _ _ ⟨i, j, a, b, c, q⟩ => ⟨i, j, a, b, (of_decide_eq_true c : 0 < j ∧ j < 1073741824), q⟩
/-- the k-th item of a written place in a tracked list -/
def rIxB (K : PySem.W.Frag) : R2 := fun x y H Q => ∃ p i xs v, x = .ref p ∧ y = .int i ∧ H p = some (.lst xs) ∧ atI xs i = some v ∧ Q v H
theorem ix_bag : IxR X (rIxB X.K) := IxR.imp ix_list fun _ _ _ _ ⟨p, i, xs, v, a, b, c, d, q⟩ => ⟨p, xs, i, v, a, b, lsq c, d, q⟩
theorem call_lenL : CallR X (.builtin "len") (fun xs H Q => ∃ p ys, xs = [.ref p] ∧ SqL X.K H p ys ∧ Q (.int ys.length) H) := CallR.imp call_len_seq fun _ _ _ ⟨p, ys, a, b, q⟩ => ⟨p, ys, a, .inl b, q⟩
theorem call_listL : CallR X (.type "list") (fun xs H Q => ∃ p ys, xs = [.ref p] ∧ SqL X.K H p ys ∧ ∀ l, H l = none → Q (.ref l) (upd H l (.lst ys))) := CallR.imp call_list_of fun _ _ _ ⟨p, ys, a, b, q⟩ => ⟨p, ys, a, .inl b, q⟩

/-! ### isinstance of data -/
def tyName : PyData → String
  | .none => "NoneType"
  | .bool _ => "bool"
  | .int _ => "int"
  | .str _ => "str"
  | .list _ => "list"
  | .tuple _ => "tuple"
  | .dict _ => "dict"
def isT (t n : String) : Bool := t == n || (t == "bool" && n == "int")
def okT (n : String) : Bool := n == "int" || n == "bool" || n == "str" || n == "list" || n == "tuple"
theorem tyx {K : PySem.W.Frag} {H : Hp} {x : V} {d : PyData} (h : Dp K H x d) : TyX K H x (.type (tyName d)) := by
  cases h with
  | non => exact .base .non
  | bl b => exact .base (.bl b)
  | int i => exact .base (.int i)
  | str z => exact .base (.str z)
  | lst a b =>
    rcases a with (a | ⟨o, a⟩) | ⟨o, its, n, a, c, _⟩
    · exact .base (.lst a)
    · exact .base (.frz a)
    · exact .kList a c
  | tup a b =>
    rcases a with (a | ⟨o, a⟩) | ⟨o, its, n, a, c, _⟩
    · exact .base (.tup a)
    · exact .fTuple a
    · exact .kTuple a c
theorem kitB_ok (d : PyData) (n : String) (h : okT n = true) (hd : ∀ kvs, d ≠ .dict kvs) : kitB (tyName d) n = some (isT (tyName d) n) := by
  have e : n = "int" ∨ n = "bool" ∨ n = "str" ∨ n = "list" ∨ n = "tuple" := by
    unfold okT at h
    simpa [or_assoc] using h
  rcases e with rfl | rfl | rfl | rfl | rfl <;> cases d <;> first | exact absurd rfl (hd _) | (dsimp only [tyName]; decide +kernel)
def isD (n : String) (d : PyData) : Bool := isT (tyName d) n
theorem call_isD : CallR X (.builtin "isinstance") (fun xs H Q => ∃ x n d, xs = [x, .ty n] ∧ okT n = true ∧ Dp X.K H x d ∧ Q (.bl (isD n d)) H) := CallR.imp call_isi fun xs H Q ⟨x, n, d, a, b, c, q⟩ =>
  ⟨x, .ty n, _, _, isD n d, a, .ty n, tyx c, kit_ty (kitB_ok d n b fun kvs e => by subst e; cases c), q⟩
/-- of two classes, the tuple made on the way -/
theorem call_isD2 : CallR X (.builtin "isinstance") (fun xs H Q => ∃ x t m n d, xs = [x, .ref t] ∧ H t = some (.tup [.ty m, .ty n]) ∧ okT m = true ∧ okT n = true ∧ Dp X.K H x d ∧ Q (.bl (isD m d || isD n d)) H) := CallR.imp call_isiT fun xs H Q ⟨x, t, m, n, d, a, ht, b, b', c, q⟩ => by
  have hd : ∀ kvs, d ≠ .dict kvs := fun kvs e => by subst e; cases c
  refine ⟨x, t, _, _, [.type m, .type n], isD m d || isD n d, a, ht, .cons (.ty m) (.cons (.ty n) .nil), tyx c, ?_, q⟩
  refine kitAny_cons (kit_ty (kitB_ok d m b hd)) (fun e => ?_) (fun e => ?_)
  · refine kitAny_cons (kit_ty (kitB_ok d n b' hd)) (fun e' => ?_) (fun e' => ?_)
    · rw [show isD m d = false from e, show isD n d = false from e']; exact kitAny_nil
    · rw [show isD n d = true from e']; exact Bool.or_true _
  · rw [show isD m d = true from e]; rfl
end
theorem Dp.lenL {K : PySem.W.Frag} {H : Hp} {x : V} {ds : List PyData} (h : Dp K H x (.list ds)) : ∃ a xs, x = .ref a ∧ SqL K H a xs ∧ DpAll K H xs ds := by
  cases h with
  | lst a b => exact ⟨_, _, rfl, a, b⟩
theorem Dp.lenT {K : PySem.W.Frag} {H : Hp} {x : V} {ds : List PyData} (h : Dp K H x (.tuple ds)) : ∃ a xs, x = .ref a ∧ SqT K H a xs ∧ DpAll K H xs ds := by
  cases h with
  | tup a b => exact ⟨_, _, rfl, a, b⟩

/-! ### the comprehension of _law_same -/
theorem walk_zipT {K : PySem.W.Frag} {a b : Addr} {xs ys : List V} {n : Nat} (hn : n = min xs.length ys.length) : Walk (RZ.ItzT K a b) n (fun H => SqT K H a xs ∧ SqT K H b ys) (YPair (fun i => xs[i]?) (fun i => ys[i]?)) := by
  subst hn
  constructor
  · intro i H hi q
    exact ⟨xs, ys, xs[i]'(by omega), ys[i]'(by omega), q.1, q.2, List.getElem?_eq_getElem _, List.getElem?_eq_getElem _⟩
  · intro H q
    exact ⟨xs, ys, q.1, q.2, by omega⟩
  · intro i H v H' hi q y
    obtain ⟨T, a', b', e1, e2, e3, e4, e5⟩ := y
    exact ⟨T, a', b', e1, e2, e3, e4 _ q.1, e5 _ q.2⟩
theorem same_all {K : PySem.W.Frag} {J : It} {xs ys : List V} {ds : List PyData} {G : Hp → Prop} {H0 : Hp} {n : Nat} {D : Addr} {Qd : Hp → Prop} {σ : L2.St} {E : XK} (w : Walk J ds.length G (YPair (fun i => xs[i]?) (fun i => ys[i]?)))
    (hx : DpAll K H0 xs ds) (hy : DpAll K H0 ys ds) (hG : ∀ H, Same H0 H → G H) (hD : H0 D = none) (hsz : ds.length ≤ 5000) (hsm : smallAll ds = true) (hdp : PyData.depthAll ds + 1 ≤ n) (hσ : ∃ a b, σ = [a, b, none, none])
    (hq : ∀ H', Same H0 H' → H' D = some (.lst (List.replicate ds.length (.bl true))) → Qd H') :
    ∃ W : Nat → Nat → Hp → Prop, (∃ m, W 0 m (upd H0 D (.lst []))) ∧ ∀ i m H, W i m H →
      (J.stop i H ∧ Qd H) ∨ (J.go i H ∧ ∃ Nx : Hp → Prop, (∀ H', Nx H' → ∃ m', m' < m ∧ W (i + 1) m' H') ∧ ∀ x H', J.yld i H x H' → (gTup K 2 (gCons (gName 2) (gCons (gName 3) gNil))) x (wipe σ [2, 3]) H' fun σ2 H2 => wipe σ2 [2, 3] = wipe σ [2, 3] ∧ tYes σ2 H2 fun b H3 =>
        if b = true then (tCall (spSameLt K n) [] E (tCons (tVar 2) (tCons (tVar 3) tNil))) σ2 H3 fun y H4 => ∃ acc, H4 D = some (.lst acc) ∧ acc.length < sizeLine ∧ Nx (upd H4 D (.lst (acc ++ [y]))) else Nx H3) := by
  obtain ⟨a, b, rfl⟩ := hσ
  refine lc_it w (fun i H => Same H0 H ∧ H D = some (.lst (List.replicate i (.bl true)))) ⟨same_upd hD, upd_same⟩ (fun i H _ h => hG H h.1) (fun i x H H' hi h y => ?_) fun H h => hq H h.1 h.2
  obtain ⟨s1, h1⟩ := h
  obtain ⟨T, v, u, rfl, nT, rfl, ev, eu⟩ := y
  obtain ⟨d, ed, dv⟩ := DpAll.get hx ev
  obtain ⟨d', ed', du⟩ := DpAll.get hy eu
  have e1 : d' = d := Option.some.inj (ed'.symm.trans ed)
  subst e1
  have s2 : Same H0 (upd H T (.tup [v, u])) := s1.trans (same_upd nT)
  refine ⟨T, [v, u], rfl, .inl (.inl upd_same), rfl, v, [u], rfl, u, [], rfl, rfl, rfl, ?_⟩
  cases n with
  | zero => omega
  | succ n =>
    refine ⟨_, rfl, _, rfl, v, u, d', rfl, Dp.same s2 _ _ dv, Dp.same s2 _ _ du, ?_, smallAll_get hsm ed, fun H2 s3 => ?_⟩
    · have := depthAll_get ed
      omega
    · have hD2 : H2 D = some (.lst (List.replicate i (.bl true))) := s3 _ _ (same_upd nT _ _ h1)
      refine ⟨_, hD2, ?_, fun c o hc => ?_, ?_⟩
      · rw [List.length_replicate]; exact szl (by omega)
      · rw [upd_ne (ne_of_none hc hD)]
        exact s3 _ _ (s2 _ _ hc)
      · rw [upd_same, List.replicate_succ']
theorem hu65 {k : Nat} {A : Around} (hr : Room k A) : A.units + 65 < cLine := by
  have := hr.un
  omega
theorem hu64 {k : Nat} {A : Around} (hr : Room k A) : A.units + 64 < cLine := by
  have := hr.un
  omega
/-- data that the rules may compare -/
def fine (d : PyData) : Bool := small d && SeqAt.shaped d
theorem fine_small {d : PyData} (h : fine d = true) : small d = true := (Bool.and_eq_true_iff.mp h).1
theorem fine_shaped {d : PyData} (h : fine d = true) : SeqAt.shaped d = true := (Bool.and_eq_true_iff.mp h).2
/-- the signs of a text, each asked: is it one of z's -/
theorem str_all {x : Str} {H0 : Hp} {D : Addr} {Qd : Hp → Prop} {σ : L2.St} {vs : List Nat} {j : Nat} {te : TE} (hD : H0 D = none) (hl : x.length ≤ 5000) (f : Nat → Bool) (hw : ∀ v, wipe ((wipe σ vs).set j (some v)) vs = wipe σ vs)
    (he : ∀ (c : Nat) (H : Hp) (Q : VK), Q (.bl (f c)) H → te ((wipe σ vs).set j (some (.str ⟨#[c]⟩))) H Q)
    (hq : ∀ H', Same H0 H' → H' D = some (.lst ((x.cps.toList.map f).map V.bl)) → Qd H') :
    ∃ W : Nat → Nat → Hp → Prop, (∃ m, W 0 m (upd H0 D (.lst []))) ∧ ∀ i m H, W i m H →
      ((Its x).stop i H ∧ Qd H) ∨ ((Its x).go i H ∧ ∃ Nx : Hp → Prop, (∀ H', Nx H' → ∃ m', m' < m ∧ W (i + 1) m' H') ∧ ∀ v H', (Its x).yld i H v H' → (gName j) v (wipe σ vs) H' fun σ2 H2 => wipe σ2 vs = wipe σ vs ∧ tYes σ2 H2 fun b H3 =>
        if b = true then te σ2 H3 fun y H4 => ∃ acc, H4 D = some (.lst acc) ∧ acc.length < sizeLine ∧ Nx (upd H4 D (.lst (acc ++ [y]))) else Nx H3) := by
  have hlen : x.length = x.cps.toList.length := by simp [Str.length]
  refine lc_it walk_str (fun i H => Same H0 H ∧ H D = some (.lst (((x.cps.toList.take i).map f).map V.bl))) ⟨same_upd hD, upd_same⟩ (fun _ _ _ _ => trivial) (fun i v H H' hi h y => ?_) fun H h => hq H h.1 ?_
  · obtain ⟨s1, h1⟩ := h
    obtain ⟨rfl, c, ec, rfl⟩ := y
    refine ⟨hw _, ?_⟩
    refine he c H' _ ⟨_, h1, ?_, fun b o hb => ?_, ?_⟩
    · rw [List.length_map, List.length_map]
      exact szl (Nat.lt_of_le_of_lt (List.length_take_le' _ _) (by omega))
    · rw [upd_ne (ne_of_none hb hD)]
      exact s1 _ _ hb
    · rw [upd_same, List.take_add_one, show x.cps.toList[i]? = some c by rw [Array.getElem?_toList]; exact ec]
      simp
  · have h2 := h.2
    rw [List.take_of_length_le (by simp)] at h2
    exact h2
/-- what stands in the written part stands at every heap -/
theorem SqT.static {K : PySem.W.Frag} {a : Addr} {xs : List V} (h : SqT K (fun _ => none) a xs) (H : Hp) : SqT K H a xs := by
  rcases h with (h | ⟨o, h⟩) | h
  · cases h
  · cases h
  · exact .inr h
theorem SqL.static {K : PySem.W.Frag} {a : Addr} {xs : List V} (h : SqL K (fun _ => none) a xs) (H : Hp) : SqL K H a xs := by
  rcases h with (h | ⟨o, h⟩) | h
  · cases h
  · cases h
  · exact .inr h
/-- how a call with keywords binds, no defaults -/
theorem kb_mk {K : PySem.W.Frag} {x qual : Str} {st : Stmt} {f : Addr} {fd : FuncData} {ps ks : List Str} {n : Nat} {g : List Value → List Value → List Value} {gV : List V → List V → List V} (F : Fun K x qual st f fd)
    (h : ∀ (kV doc pm : Value) (an : Option Addr) (cdv ct : Value) (us ws : List Value), us.length = n → ws.length = ks.length → bindArgs (PySem.W.fnOf x qual (defArgs st) (defBody st) (defScope st) .none kV doc pm an cdv ct) ⟨us, ks.zip ws⟩ = pure (ps.zip (g us ws)))
    (hr : ∀ {vs : List V} {us : List Value} {zs : List V} {ws : List Value}, Vals vs us → Vals zs ws → Vals (gV vs zs) (g us ws)) : KBn K fd ps n ks g gV := by
  obtain ⟨_, _, kV, doc, pm, an, cdv, ct, _, e, _⟩ := F.ex
  subst e
  exact ⟨fun s us ws _ h1 h2 => .of_eq (h kV doc pm an cdv ct us ws h1 h2), hr⟩
/-- a tuple of the written part -/
theorem tup_k {K : PySem.W.Frag} {H : Hp} {a : Addr} {dd : Option Addr} {its : Array Value} {n : Nat} {sl : Array (Option Value)} {xs : List V} {ds : List PyData} (h : K.lookup a = some ⟨.type "tuple", dd, .seq its n, sl⟩) (hz : its.size ≤ sizeLine) (hv : Vals xs its.toList) (hd : DpAll K H xs ds) :
    Dp K H (.ref a) (.tuple ds) := .tup (.inr ⟨_, _, _, h, rfl, rfl, hz, hv⟩) hd
end My

set_option Elab.async false
set_option linter.all false
set_option maxRecDepth 100000
/-! What an expression that changes nothing is worth, as data away from p (DV, DA): by its parts. -/
namespace My
open PySem PySem.Spec PyProof.Rows L2
def spD (K : PySem.W.Frag) (f : PyData → Bool) : Sp := fun vs H Q _ => ∃ (v : V) (d : PyData), vs = [v] ∧ Dp K H v d ∧ fine d = true ∧ ∀ H', Same H H' → Q (.bl (f d)) H'
/-- te gives a value of the data d, at any heap that keeps H -/
def DV (K : PySem.W.Frag) (p : Addr) (te : TE) (σ : L2.St) (H : Hp) (d : PyData) : Prop := ∀ H1, Same H H1 → ∀ Q : VK, (∀ v H2, Same H1 H2 → Dd K p H2 v d → Q v H2) → te σ H1 Q
def DA (K : PySem.W.Frag) (p : Addr) (ta : TA) (σ : L2.St) (H : Hp) (ds : List PyData) : Prop := ∀ H1, Same H H1 → ∀ Q : List V → Hp → Prop, (∀ vs H2, Same H1 H2 → DdAll K p H2 vs ds → Q vs H2) → ta σ H1 Q
section
variable {K : PySem.W.Frag} {p : Addr} {σ : L2.St} {H H' : Hp} {ta tb te tc : TE} {tr tk : TA} {d e : PyData} {ds : List PyData} {v : V}
theorem DV.mono (s : Same H H') (h : DV K p te σ H d) : DV K p te σ H' d := fun H1 a Q q => h H1 (s.trans a) Q q
theorem DdAll.length : ∀ {ds : List PyData} {vs : List V}, DdAll K p H vs ds → vs.length = ds.length
  | [], _, h => by cases h; rfl
  | d :: ds, _, h => by
    cases h with
    | cons a b => exact congrArg Nat.succ (DdAll.length b)
theorem DdAll.mem : ∀ {ds : List PyData} {vs : List V} {v : V}, DdAll K p H vs ds → v ∈ vs → ∃ d, d ∈ ds ∧ Dd K p H v d
  | [], _, v, h, m => by cases h; cases m
  | d :: ds, _, v, h, m => by
    cases h with
    | cons a b =>
      rcases List.mem_cons.mp m with rfl | m
      · exact ⟨d, List.mem_cons_self .., a⟩
      · obtain ⟨d', m', h'⟩ := DdAll.mem b m
        exact ⟨d', List.mem_cons_of_mem _ m', h'⟩
theorem DdAll.take : ∀ (n : Nat) {ds : List PyData} {vs : List V}, DdAll K p H vs ds → DdAll K p H (vs.take n) (ds.take n)
  | 0, _, _, _ => .nil
  | n + 1, [], _, h => by cases h; exact .nil
  | n + 1, d :: ds, _, h => by
    cases h with
    | cons a b => exact .cons a (DdAll.take n b)
theorem DdAll.app : ∀ {ds es : List PyData} {vs ws : List V}, DdAll K p H vs ds → DdAll K p H ws es → DdAll K p H (vs ++ ws) (ds ++ es)
  | [], _, _, _, h, g => by cases h; exact g
  | d :: ds, _, _, _, h, g => by
    cases h with
    | cons a b => exact .cons a (DdAll.app b g)
theorem dv_int {i : Int} : DV K p (tC (.int i)) σ H (.int i) := fun H1 _ Q q => q _ _ (Same.refl _) (.int i)
theorem dv_bl {b : Bool} : DV K p (tC (.bl b)) σ H (.bool b) := fun H1 _ Q q => q _ _ (Same.refl _) (.bl b)
theorem dv_str {x : Str} : DV K p (tC (.str x)) σ H (.str x) := fun H1 _ Q q => q _ _ (Same.refl _) (.str x)
theorem dv_non : DV K p (tC .non) σ H .none := fun H1 _ Q q => q _ _ (Same.refl _) .non
theorem dv_var {i : Nat} (h : σ[i]? = some (some v)) (hd : Dd K p H v d) : DV K p (tVar i) σ H d := fun H1 s Q q => ⟨v, h, q _ _ (Same.refl _) (Dd.ext (Ext.of s) _ _ hd)⟩
theorem dv_vi {i : Nat} {j : Int} (h : σ[i]? = some (some (.int j))) : DV K p (tVar i) σ H (.int j) := dv_var h (.int j)
theorem dv_vs {i : Nat} {j : Str} (h : σ[i]? = some (some (.str j))) : DV K p (tVar i) σ H (.str j) := dv_var h (.str j)
theorem da_nil : DA K p tNil σ H [] := fun H1 _ Q q => q _ _ (Same.refl _) .nil
theorem da_cons (h : DV K p ta σ H d) (hr : DA K p tr σ H ds) : DA K p (tCons ta tr) σ H (d :: ds) := fun H1 s Q q =>
  h H1 s _ fun v H2 s2 hv => hr H2 (s.trans s2) _ fun vs H3 s3 hs => q _ _ (s2.trans s3) (.cons (Dd.ext (Ext.of s3) _ _ hv) hs)
theorem ne_fresh (hp : ∃ o, H p = some o) {H1 : Hp} (s : Same H H1) {a : Addr} (h : H1 a = none) : a ≠ p := by
  obtain ⟨o, e⟩ := hp
  exact (ne_of_none (s _ _ e) h).symm
theorem dv_tup (hp : ∃ o, H p = some o) (h : DA K p tr σ H ds) (hl : decide (ds.length ≤ 5000) = true) : DV K p (tTup tr) σ H (.tuple ds) := fun H1 s Q q =>
  h H1 s _ fun vs H2 s2 hs => ⟨by rw [DdAll.length hs]; exact sz (by have := of_decide_eq_true hl; omega), fun a na =>
    q _ _ (s2.trans (same_upd na)) (.tup (ne_fresh hp (s.trans s2) na) (tsq upd_same) (DdAll.ext (Ext.of (same_upd na)) _ _ hs))⟩
theorem dv_lst (hp : ∃ o, H p = some o) (h : DA K p tr σ H ds) (hl : decide (ds.length ≤ 5000) = true) : DV K p (tLst tr) σ H (.list ds) := fun H1 s Q q =>
  h H1 s _ fun vs H2 s2 hs => ⟨by rw [DdAll.length hs]; exact sz (by have := of_decide_eq_true hl; omega), fun a na =>
    q _ _ (s2.trans (same_upd na)) (.lst (ne_fresh hp (s.trans s2) na) (lsq upd_same) (DdAll.ext (Ext.of (same_upd na)) _ _ hs))⟩
theorem DdAll.one (h : DdAll K p H vs [d]) : ∃ v, vs = [v] ∧ Dd K p H v d := by
  cases h with
  | cons a b => cases b; exact ⟨_, rfl, a⟩
theorem dv_spD {f : PyData → Bool} {E : XK} (h : DA K p tr σ H [d]) (hf : fine d = true) : DV K p (tCall (spD K f) [] E tr) σ H (.bool (f d)) := fun H1 s Q q =>
  h H1 s _ fun vs H2 s2 hs => by
    obtain ⟨v, rfl, hv⟩ := DdAll.one hs
    exact ⟨v, d, rfl, Dd.dp _ _ hv, hf, fun H3 s3 => q _ _ (s2.trans s3) (.bl _)⟩
theorem dv_spDk {f : PyData → Bool} {E : XK} {gV : List V → List V → List V} (h : DA K p tk σ H [d]) (hg : ∀ v, gV [] [v] = [v]) (hf : fine d = true) : DV K p (tCallN 0 1 (spD K f) gV E tNil tk) σ H (.bool (f d)) := fun H1 s Q q =>
  h H1 s _ fun vs H2 s2 hs => by
    obtain ⟨v, rfl, hv⟩ := DdAll.one hs
    exact ⟨rfl, rfl, v, d, hg v, Dd.dp _ _ hv, hf, fun H3 s3 => q _ _ (s2.trans s3) (.bl _)⟩
theorem Dd.i {i : Int} (h : Dd K p H v (.int i)) : v = .int i := by cases h; rfl
theorem Dd.s {i : Str} (h : Dd K p H v (.str i)) : v = .str i := by cases h; rfl
theorem Dd.b {i : Bool} (h : Dd K p H v (.bool i)) : v = .bl i := by cases h; rfl
theorem Dd.n (h : Dd K p H v .none) : v = .non := by cases h; rfl
theorem dv_I0 {g : Int → Int → V} {i j : Int} (ha : DV K p ta σ H (.int i)) (hb : DV K p tb σ H (.int j)) (hg : ∀ H, Dd K p H (g i j) d) : DV K p (tOp (rI0 g) ta tb) σ H d := fun H1 s Q q =>
  ha H1 s _ fun x H2 s2 hx => hb H2 (s.trans s2) _ fun y H3 s3 hy => ⟨i, j, Dd.i hx, Dd.i hy, q _ _ (s2.trans s3) (hg _)⟩
theorem dv_add {i j : Int} (ha : DV K p ta σ H (.int i)) (hb : DV K p tb σ H (.int j)) : DV K p (tOp (rI0 fun i j => .int (i + j)) ta tb) σ H (.int (i + j)) := dv_I0 ha hb fun _ => .int _
theorem dv_sub {i j : Int} (ha : DV K p ta σ H (.int i)) (hb : DV K p tb σ H (.int j)) : DV K p (tOp (rI0 fun i j => .int (i - j)) ta tb) σ H (.int (i - j)) := dv_I0 ha hb fun _ => .int _
theorem dv_pow {i j : Int} (ha : DV K p ta σ H (.int i)) (hb : DV K p tb σ H (.int j)) (hc : decide (0 ≤ j ∧ j ≤ 1000000 ∧ i.natAbs < 2 ^ 64) = true) : DV K p (tOp (rI CPow fun i j => .int (i ^ j.toNat)) ta tb) σ H (.int (i ^ j.toNat)) := fun H1 s Q q =>
  ha H1 s _ fun x H2 s2 hx => hb H2 (s.trans s2) _ fun y H3 s3 hy => ⟨i, j, Dd.i hx, Dd.i hy, (of_decide_eq_true hc : 0 ≤ j ∧ j ≤ 1000000 ∧ i.natAbs < 2 ^ 64), q _ _ (s2.trans s3) (.int _)⟩
theorem dv_neg {i : Int} (ha : DV K p ta σ H (.int i)) : DV K p (tUn (rU fun i => .int (-i)) ta) σ H (.int (-i)) := fun H1 s Q q =>
  ha H1 s _ fun x H2 s2 hx => ⟨i, Dd.i hx, q _ _ s2 (.int _)⟩
theorem dv_chain {i j k : Int} (ha : DV K p ta σ H (.int i)) (hb : DV K p tb σ H (.int j)) (hc : DV K p tc σ H (.int k)) :
    DV K p (tChain (rI0 fun i j => .bl (decide (i ≤ j))) (rI0 fun i j => .bl (decide (i ≤ j))) ta tb tc) σ H (.bool (decide (i ≤ j) && decide (j ≤ k))) := fun H1 s Q q =>
  ha H1 s _ fun x H2 s2 hx => hb H2 (s.trans s2) _ fun y H3 s3 hy => ⟨i, j, Dd.i hx, Dd.i hy, _, rfl, ite2 (fun e => by
    rw [e, Bool.true_and] at q
    exact hc H3 ((s.trans s2).trans s3) _ fun z H4 s4 hz => ⟨j, k, Dd.i hy, Dd.i hz, q _ _ ((s2.trans s3).trans s4) (.bl _)⟩) fun e => by
    rw [Bool.eq_false_iff.mpr e, Bool.false_and] at q
    exact q _ _ (s2.trans s3) (.bl _)⟩
theorem dv_eqD (ha : DV K p ta σ H d) (hb : DV K p tb σ H e) (hd : fine d = true) (he : fine e = true) : DV K p (tOp (rEqD K) ta tb) σ H (.bool (PyData.eqv d e)) := fun H1 s Q q =>
  ha H1 s _ fun x H2 s2 hx => hb H2 (s.trans s2) _ fun y H3 s3 hy => ⟨d, e, Dd.dp _ _ (Dd.ext (Ext.of s3) _ _ hx), Dd.dp _ _ hy, fine_shaped hd, fine_shaped he, q _ _ (s2.trans s3) (.bl _)⟩
theorem dv_and {a b : Bool} (ha : DV K p ta σ H (.bool a)) (hb : a = true → DV K p tb σ H (.bool b)) : DV K p (tAndV ta tb) σ H (.bool (a && b)) := fun H1 s Q q =>
  ha H1 s _ fun x H2 s2 hx => ⟨a, Dd.b hx, by
    cases a with
    | true => exact iteT (hb rfl H2 (s.trans s2) _ fun z H3 s3 hz => q _ _ (s2.trans s3) hz)
    | false => exact iteF (q _ _ s2 (.bl _))⟩
theorem dv_is {d' : PyData} (h : DV K p te σ H d) (e : d = d') : DV K p te σ H d' := e ▸ h
/-- the items of a list or a tuple by a written slice's end -/
theorem dv_slT {n : Nat} (hp : ∃ o, H p = some o) (h : DV K p ta σ H (.tuple ds)) (hn : n < ds.length) (hz : ds.length ≤ 5000) : DV K p (tSl (rSlT K) ta tNoPart (tPart (tC (.int (n : Int))))) σ H (.tuple (ds.take n)) := fun H1 s Q q =>
  h H1 s _ fun x H2 s2 hx => ⟨(n : Int), rfl, by
    cases hx with
    | @tup a xs _ ne sx dx =>
      have lx := DdAll.length dx
      have e1 : HT.sIx xs.length xs.length (some (n : Int)) = n := by rw [HT.sIx_nat]; omega
      have e2 : cutV xs none (some (n : Int)) = xs.take n := by
        unfold cutV
        rw [HT.sIx_none, e1, Nat.sub_zero, List.drop_zero]
      refine ⟨a, xs, rfl, sx, fun z => ?_, fun b nb => ?_⟩
      · rw [e1] at z; omega
      · rw [e2]
        exact q _ _ (s2.trans (same_upd nb)) (.tup (ne_fresh hp (s.trans s2) nb) (tsq upd_same) (DdAll.ext (Ext.of (same_upd nb)) _ _ (DdAll.take n dx)))⟩
/-- list(t) of a tuple -/
theorem dv_listT (hp : ∃ o, H p = some o) (h : DV K p ta σ H (.tuple ds)) : DV K p (tCB (fun xs H Q => ∃ p ys, xs = [.ref p] ∧ (SqL K H p ys ∨ SqT K H p ys) ∧ ∀ l, H l = none → Q (.ref l) (upd H l (.lst ys))) (tCons ta tNil)) σ H (.list ds) := fun H1 s Q q =>
  h H1 s _ fun x H2 s2 hx => by
    cases hx with
    | @tup a xs _ ne sx dx =>
      exact ⟨a, xs, rfl, .inr sx, fun b nb => q _ _ (s2.trans (same_upd nb)) (.lst (ne_fresh hp (s.trans s2) nb) (lsq upd_same) (DdAll.ext (Ext.of (same_upd nb)) _ _ dx))⟩
/-- two tuples, one behind the other -/
theorem dv_catT {es : List PyData} (hp : ∃ o, H p = some o) (ha : DV K p ta σ H (.tuple ds)) (hb : DV K p tb σ H (.tuple es)) (h1 : ds ≠ []) (h2 : es ≠ []) (hz : ds.length + es.length ≤ 5000) : DV K p (tOp (rCatT K) ta tb) σ H (.tuple (ds ++ es)) := fun H1 s Q q =>
  ha H1 s _ fun x H2 s2 hx => hb H2 (s.trans s2) _ fun y H3 s3 hy => by
    have hx' := Dd.ext (Ext.of s3) _ _ hx
    cases hx' with
    | @tup a xs _ ne sx dx =>
      cases hy with
      | @tup b ys _ ne' sy dy =>
        have lx := DdAll.length dx
        have ly := DdAll.length dy
        refine ⟨a, b, xs, ys, rfl, rfl, sx, sy, fun z => h1 ?_, by rw [lx, ly]; exact sz (by omega), fun z => absurd ?_ h2, fun _ c nc => ?_⟩
        · exact List.eq_nil_of_length_eq_zero (by rw [← lx, z]; rfl)
        · exact List.eq_nil_of_length_eq_zero (by rw [← ly, z]; rfl)
        · exact q _ _ ((s2.trans s3).trans (same_upd nc)) (.tup (ne_fresh hp ((s.trans s2).trans s3) nc) (tsq upd_same) (DdAll.ext (Ext.of (same_upd nc)) _ _ (DdAll.app dx dy)))
/-- return same(found, due); if not same(found, due): return False -/
theorem same_dv {E : XK} {n : Nat} {Q : VK} (ha : DV K p ta σ H d) (hb : DV K p tb σ H d) (hn : d.depth ≤ n) (hs : small d = true) (k : ∀ H', Same H H' → Q (.bl true) H') : tCall (spSameLt K (n + 1)) [] E (tCons ta (tCons tb tNil)) σ H Q :=
  ha H (Same.refl _) _ fun x H2 s2 hx => hb H2 s2 _ fun y H3 s3 hy => ⟨x, y, d, rfl, Dd.dp _ _ (Dd.ext (Ext.of s3) _ _ hx), Dd.dp _ _ hy, hn, hs, fun H4 s4 => k _ ((s2.trans s3).trans s4)⟩
theorem if_same {E : XK} {n : Nat} {D : Ends} {tt tz : TS} (ha : DV K p ta σ H d) (hb : DV K p tb σ H d) (hn : d.depth ≤ n) (hs : small d = true) (k : ∀ H', Same H H' → tz D σ H') :
    tSeq (tIfS (tNot (tB (tCall (spSameLt K (n + 1)) [] E (tCons ta (tCons tb tNil))))) tt tNext) tz D σ H :=
  same_dv ha hb hn hs fun H' s => ⟨true, rfl, iteF (k H' s)⟩
theorem if_same1 {E : XK} {n : Nat} {D : Ends} {tt : TS} (ha : DV K p ta σ H d) (hb : DV K p tb σ H d) (hn : d.depth ≤ n) (hs : small d = true) (k : ∀ H', Same H H' → D.nx σ H') :
    tIfS (tNot (tB (tCall (spSameLt K (n + 1)) [] E (tCons ta (tCons tb tNil))))) tt tNext D σ H :=
  same_dv ha hb hn hs fun H' s => ⟨true, rfl, iteF (k H' s)⟩
/-- an assignment of such a worth -/
theorem set_dv {i : Nat} {D : Ends} {tz : TS} (h : DV K p te σ H d) (k : ∀ v H', Same H H' → Dd K p H' v d → tz D (σ.set i (some v)) H') : tSeq (tAsg te (gName i)) tz D σ H := h H (Same.refl _) _ k
end
/-- a choice out of data -/
theorem of_data {K : PySem.W.Frag} {B : BagId} {q : Addr} {H : Hp} {Q : VK} {E : XK} {ds : List PyData} (hB : Bag B H) (h : Dd K B.p H (.ref q) (.list ds)) (h0 : 0 < ds.length) (h1 : ds.length ≤ 5000)
    (k : ∀ v d H', d ∈ ds → Dd K B.p H' v d → Bag B H' → Ext B.p H H' → Q v H') : spOf K [.ref B.p, .ref q] H Q E := by
  cases h with
  | @lst _ xs _ ne sx dx =>
    have lx := DdAll.length dx
    refine ⟨B, .ref q, rfl, hB, .inl ⟨q, xs, rfl, ne, .inl sx, by omega, by omega, fun v H' hm hB' ex => ?_⟩⟩
    obtain ⟨d, hd, hv⟩ := DdAll.mem dx hm
    exact k v d H' hd (Dd.ext ex _ _ hv) hB' ex
section
variable {K : PySem.W.Frag} {B : BagId} {σ : L2.St} {H : Hp} {te : TE} {ds : List PyData} {E : XK} {Q : VK} {i : Nat}
/-- _law_of(bag, [..]) -/
theorem of_dv (hv : σ[i]? = some (some (.ref B.p))) (hB : Bag B H) (h : DV K B.p te σ H (.list ds)) (h0 : 0 < ds.length) (h1 : ds.length ≤ 5000)
    (k : ∀ v d H', d ∈ ds → Dd K B.p H' v d → Bag B H' → Ext B.p H H' → Q v H') : tCall (spOf K) [] E (tCons (tVar i) (tCons te tNil)) σ H Q :=
  ⟨_, hv, h H (Same.refl _) _ fun v H2 s2 hd => by
    cases hd with
    | lst ne sx dx => exact of_data (E := E) (Bag.ext hB s2) (.lst ne sx dx) h0 h1 fun v d H' hm hd' hB' ex => k v d H' hm hd' hB' ((Ext.of s2).trans ex)⟩
/-- _law_draw(bag, n) -/
theorem draw_dv {n : Int} (hv : σ[i]? = some (some (.ref B.p))) (hB : Bag B H) (h : DV K B.p te σ H (.int n)) (n0 : 0 < n) (n1 : n < 1073741824)
    (k : ∀ r H', 0 ≤ r → r < n → Bag B H' → Ext B.p H H' → Q (.int r) H') : tCall spDraw [] E (tCons (tVar i) (tCons te tNil)) σ H Q :=
  ⟨_, hv, h H (Same.refl _) _ fun v H2 s2 hd => ⟨B, n, by rw [Dd.i hd]; rfl, Bag.ext hB s2, n0, n1, fun r H' r0 r1 hB' ex => k r H' r0 r1 hB' ((Ext.of s2).trans ex)⟩⟩
end
/-- signs drawn out of a text, one for each turn of a range -/
theorem text_lc {B : BagId} {D : Addr} {H0 : Hp} {Qd : Hp → Prop} {σ : L2.St} {vs : List Nat} {j n : Nat} {lo : Int} {te : TE} {z : Str} (hB : Bag B H0) (hD : H0 D = none) (hn : n ≤ 5000) (hw : ∀ v, wipe ((wipe σ vs).set j (some v)) vs = wipe σ vs)
    (he : ∀ (x : V) (H : Hp) (Q : VK), Bag B H → (∀ (c : Nat) (H' : Hp), c ∈ z.cps.toList → Bag B H' → Ext B.p H H' → Q (.str ⟨#[c]⟩) H') → te ((wipe σ vs).set j (some x)) H Q)
    (hq : ∀ (cs : List Nat) (H' : Hp), cs.length = n → (∀ c ∈ cs, c ∈ z.cps.toList) → Bag B H' → Ext B.p H0 H' → H' D = some (.lst ((cs.map fun c => (⟨#[c]⟩ : Str)).map V.str)) → Qd H') :
    ∃ W : Nat → Nat → Hp → Prop, (∃ m, W 0 m (upd H0 D (.lst []))) ∧ ∀ i m H, W i m H →
      ((Itr lo n).stop i H ∧ Qd H) ∨ ((Itr lo n).go i H ∧ ∃ Nx : Hp → Prop, (∀ H', Nx H' → ∃ m', m' < m ∧ W (i + 1) m' H') ∧ ∀ v H', (Itr lo n).yld i H v H' → (gName j) v (wipe σ vs) H' fun σ2 H2 => wipe σ2 vs = wipe σ vs ∧ tYes σ2 H2 fun b H3 =>
        if b = true then te σ2 H3 fun y H4 => ∃ acc, H4 D = some (.lst acc) ∧ acc.length < sizeLine ∧ Nx (upd H4 D (.lst (acc ++ [y]))) else Nx H3) := by
  have nDp : D ≠ B.p := hB.ne hD
  have nDl : D ≠ B.l := hB.neL hD
  refine lc_it walk_range (fun i H => ∃ cs : List Nat, cs.length = i ∧ (∀ c ∈ cs, c ∈ z.cps.toList) ∧ Bag B H ∧ Ext B.p H0 H ∧ H D = some (.lst ((cs.map fun c => (⟨#[c]⟩ : Str)).map V.str)))
    ⟨[], rfl, fun c h => absurd h (by simp), Bag.ext hB (same_upd hD), Ext.of (same_upd hD), upd_same⟩ (fun _ _ _ _ => trivial) (fun i v H H' hi h y => ?_) fun H ⟨cs, h1, h2, h3, h4, h5⟩ => hq cs H h1 h2 h3 h4 h5
  obtain ⟨cs, h1, h2, h3, h4, h5⟩ := h
  obtain ⟨rfl, rfl⟩ := y
  refine ⟨hw _, he _ H' _ h3 fun c H2 hc hB2 ex => ⟨_, ex _ _ h5 nDp, ?_, cs ++ [c], by rw [List.length_append, h1]; rfl, fun c' h => ?_, ?_, fun b o hb nb => ?_, ?_⟩⟩
  · rw [List.length_map, List.length_map, h1]; exact szl (by omega)
  · rcases List.mem_append.mp h with h | h
    · exact h2 _ h
    · rw [List.mem_singleton.mp h]; exact hc
  · exact Bag.upd hB2 nDp nDl
  · rw [upd_ne (ne_of_none hb hD)]
    exact ex _ _ (h4 _ _ hb nb) nb
  · rw [upd_same, List.map_append, List.map_append]
    rfl
end My

set_option Elab.async false
set_option linter.all false
set_option maxRecDepth 100000
/-! Data away from a set S of addresses that may change; what an expression is worth (SV), a test (SB), what a walk gives (SI), by their parts. -/
namespace My
open PySem PySem.Spec PyProof.Rows L2
abbrev Sh := Addr → Prop
/-- all that stands outside S is as it was -/
def XS (S : Sh) (H H' : Hp) : Prop := ∀ b o, H b = some o → ¬ S b → H' b = some o
def Live (S : Sh) (H : Hp) : Prop := ∀ a, S a → ∃ o, H a = some o
/-- later: S has grown by new things alone -/
structure Step (S : Sh) (H : Hp) (S' : Sh) (H' : Hp) : Prop where
  keep : XS S H H'
  sub : ∀ a, S a → S' a
  new : ∀ a, S' a → ¬ S a → H a = none
  live : Live S' H'
/-- later, and nothing has changed -/
structure Now (S : Sh) (H : Hp) (S' : Sh) (H' : Hp) : Prop where
  same : Same H H'
  sub : ∀ a, S a → S' a
  new : ∀ a, S' a → ¬ S a → H a = none
  live : Live S' H'
section
variable {S S' S1 S2 : Sh} {H H' H1 H2 : Hp} {p D : Addr} {o : HO}
theorem XS.refl : XS S H H := fun _ _ h _ => h
theorem XS.trans (a : XS S H H1) (b : XS S H1 H2) : XS S H H2 := fun c o h n => b c o (a c o h n) n
theorem XS.of (a : Same H H') : XS S H H' := fun c o h _ => a c o h
theorem XS.ext (a : Ext p H H') (h : S p) : XS S H H' := fun c o e n => a c o e fun z => n (by rw [z]; exact h)
theorem XS.upd (h : S p) : XS S H (upd H p o) := fun b u e n => by rw [upd_ne fun z => n (by rw [z]; exact h)]; exact e
theorem Live.same (l : Live S H) (s : Same H H') : Live S H' := fun a h => let ⟨o, e⟩ := l a h; ⟨o, s _ _ e⟩
theorem Live.upd (l : Live S H) : Live S (upd H p o) := fun a h => by
  by_cases e : a = p
  · rw [e]; exact ⟨_, upd_same⟩
  · rw [upd_ne e]; exact l a h
theorem Live.ne (l : Live S H) {a : Addr} (h : H a = none) : ¬ S a := fun z => by
  obtain ⟨o, e⟩ := l a z
  rw [h] at e
  cases e
theorem Live.one (h : ∃ o, H p = some o) : Live (fun a => a = p) H := fun a e => by rw [e]; exact h
theorem Now.refl (l : Live S H) : Now S H S H := ⟨Same.refl _, fun _ h => h, fun _ a b => absurd a b, l⟩
theorem Now.of (l : Live S H) (s : Same H H') : Now S H S H' := ⟨s, fun _ h => h, fun _ a b => absurd a b, l.same s⟩
theorem Now.trans (a : Now S H S1 H1) (b : Now S1 H1 S2 H2) : Now S H S2 H2 := ⟨a.same.trans b.same, fun x h => b.sub x (a.sub x h), fun x h n => by
  rcases Classical.em (S1 x) with c | c
  · exact a.new x c n
  · exact a.same.free (b.new x h c), b.live⟩
theorem Now.then (a : Now S H S1 H1) (s : Same H1 H2) : Now S H S1 H2 := ⟨a.same.trans s, a.sub, a.new, a.live.same s⟩
/-- one more thing that may change, new -/
theorem Now.add (l : Live S H) (h : H D = none) : Now S H (fun a => S a ∨ a = D) (upd H D o) := ⟨same_upd h, fun _ => .inl, fun a z n => by
  rcases z with z | z
  · exact absurd z n
  · rw [z]; exact h, fun a z => by
  rcases z with z | z
  · exact l.upd a z
  · rw [z]; exact ⟨_, upd_same⟩⟩
theorem Now.put (a : Now S H S1 H1) (h1 : S1 p) (h2 : ¬ S p) : Now S H S1 (upd H1 p o) := ⟨fun b u e => by
  rw [upd_ne fun z => by rw [z, a.new p h1 h2] at e; cases e]
  exact a.same b u e, a.sub, a.new, a.live.upd⟩
/-- one more, just made by what changed nothing else -/
theorem Now.more (l : Live S H) (s : Same H H1) (na : H D = none) (ha : H1 D = some o) : Now S H (fun a => S a ∨ a = D) H1 := ⟨s, fun _ => .inl, fun a z n => by
  rcases z with z | z
  · exact absurd z n
  · rw [z]; exact na, fun a z => by
  rcases z with z | z
  · exact l.same s a z
  · rw [z]; exact ⟨_, ha⟩⟩
theorem Now.step (a : Now S H S1 H1) : Step S H S1 H1 := ⟨XS.of a.same, a.sub, a.new, a.live⟩
theorem Step.refl (l : Live S H) : Step S H S H := (Now.refl l).step
theorem Step.free (a : Step S H S1 H1) (h : H1 D = none) (l : Live S H) : H D = none := by
  cases e : H D with
  | none => rfl
  | some o =>
    rcases Classical.em (S D) with c | c
    · exact absurd (a.sub D c) (a.live.ne h)
    · rw [a.keep D o e c] at h
      cases h
theorem Step.trans (l : Live S H) (a : Step S H S1 H1) (b : Step S1 H1 S2 H2) : Step S H S2 H2 := by
  refine ⟨fun c u e n => b.keep c u (a.keep c u e n) fun z => ?_, fun x h => b.sub x (a.sub x h), fun x h n => ?_, b.live⟩
  · rw [a.new c z n] at e
    cases e
  · rcases Classical.em (S1 x) with c | c
    · exact a.new x c n
    · exact a.free (b.new x h c) l
theorem Step.then (a : Step S H S1 H1) (s : Same H1 H2) : Step S H S1 H2 := ⟨fun b u e n => s _ _ (a.keep b u e n), a.sub, a.new, a.live.same s⟩
theorem Step.put (a : Step S H S1 H1) (h1 : S1 p) : Step S H S1 (upd H1 p o) := by
  refine ⟨fun b u e n => ?_, a.sub, a.new, a.live.upd⟩
  rw [upd_ne fun z => by rw [← z] at h1; rw [a.new b h1 n] at e; cases e]
  exact a.keep b u e n
theorem Step.addS (l : Live S H) (a : Step S H S1 H1) (h : H1 D = none) : Step S H (fun a => S1 a ∨ a = D) (upd H1 D o) := Step.trans l a (Now.add a.live h).step
end

/-! ### data -/
def LS (S : Sh) (H : Hp) (a : Addr) (xs : List V) : Prop := ¬ S a ∧ H a = some (.lst xs)
def TS' (S : Sh) (H : Hp) (a : Addr) (xs : List V) : Prop := ¬ S a ∧ H a = some (.tup xs)
mutual
inductive Ds (K : PySem.W.Frag) (S : Sh) (H : Hp) : V → PyData → Prop
  | non : Ds K S H .non .none
  | bl (b : Bool) : Ds K S H (.bl b) (.bool b)
  | int (i : Int) : Ds K S H (.int i) (.int i)
  | str (x : Str) : Ds K S H (.str x) (.str x)
  | lst {a : Addr} {xs : List V} {ds : List PyData} : LS S H a xs → DsAll K S H xs ds → Ds K S H (.ref a) (.list ds)
  | tup {a : Addr} {xs : List V} {ds : List PyData} : TS' S H a xs → DsAll K S H xs ds → Ds K S H (.ref a) (.tuple ds)
inductive DsAll (K : PySem.W.Frag) (S : Sh) (H : Hp) : List V → List PyData → Prop
  | nil : DsAll K S H [] []
  | cons {v : V} {vs : List V} {d : PyData} {ds : List PyData} : Ds K S H v d → DsAll K S H vs ds → DsAll K S H (v :: vs) (d :: ds)
end
section
variable {K : PySem.W.Frag} {S S' : Sh} {H H' : Hp} {a : Addr} {xs : List V} {v : V} {d : PyData} {ds : List PyData}
theorem LS.sq (h : LS S H a xs) : SqL K H a xs := .inl (.inl h.2)
theorem TS'.sq (h : TS' S H a xs) : SqT K H a xs := .inl (.inl h.2)
theorem at_step {u : HO} (s : Step S H S' H') (n : ¬ S a) (h : H a = some u) : ¬ S' a ∧ H' a = some u := by
  refine ⟨fun z => ?_, s.keep _ _ h n⟩
  rw [s.new a z n] at h
  cases h
mutual
theorem Ds.map (fl : ∀ a xs, LS S H a xs → LS S' H' a xs) (ft : ∀ a xs, TS' S H a xs → TS' S' H' a xs) : ∀ (d : PyData) (v : V), Ds K S H v d → Ds K S' H' v d
  | .none, _, h => by cases h; exact .non
  | .bool _, _, h => by cases h; exact .bl _
  | .int _, _, h => by cases h; exact .int _
  | .str _, _, h => by cases h; exact .str _
  | .list ds, _, h => by
    cases h with
    | lst a b => exact .lst (fl _ _ a) (DsAll.map fl ft ds _ b)
  | .tuple ds, _, h => by
    cases h with
    | tup a b => exact .tup (ft _ _ a) (DsAll.map fl ft ds _ b)
  | .dict _, _, h => by cases h
theorem DsAll.map (fl : ∀ a xs, LS S H a xs → LS S' H' a xs) (ft : ∀ a xs, TS' S H a xs → TS' S' H' a xs) : ∀ (ds : List PyData) (vs : List V), DsAll K S H vs ds → DsAll K S' H' vs ds
  | [], _, h => by cases h; exact .nil
  | d :: ds, _, h => by
    cases h with
    | cons a b => exact .cons (Ds.map fl ft d _ a) (DsAll.map fl ft ds _ b)
end
theorem Ds.step (s : Step S H S' H') (h : Ds K S H v d) : Ds K S' H' v d := Ds.map (fun _ _ l => at_step s l.1 l.2) (fun _ _ l => at_step s l.1 l.2) _ _ h
theorem DsAll.step (s : Step S H S' H') (h : DsAll K S H xs ds) : DsAll K S' H' xs ds := DsAll.map (fun _ _ l => at_step s l.1 l.2) (fun _ _ l => at_step s l.1 l.2) _ _ h
theorem Ds.now (s : Now S H S' H') (h : Ds K S H v d) : Ds K S' H' v d := h.step s.step
theorem DsAll.now (s : Now S H S' H') (h : DsAll K S H xs ds) : DsAll K S' H' xs ds := h.step s.step
theorem Ds.byX (s : XS S H H') (h : Ds K S H v d) : Ds K S H' v d := Ds.map (fun _ _ z => ⟨z.1, s _ _ z.2 z.1⟩) (fun _ _ z => ⟨z.1, s _ _ z.2 z.1⟩) _ _ h
theorem DsAll.byX (s : XS S H H') (h : DsAll K S H xs ds) : DsAll K S H' xs ds := DsAll.map (fun _ _ z => ⟨z.1, s _ _ z.2 z.1⟩) (fun _ _ z => ⟨z.1, s _ _ z.2 z.1⟩) _ _ h
theorem Ds.same (s : Same H H') (h : Ds K S H v d) : Ds K S H' v d := h.byX (XS.of s)
theorem DsAll.same (s : Same H H') (h : DsAll K S H xs ds) : DsAll K S H' xs ds := h.byX (XS.of s)
theorem Ds.less (f : ∀ b, S' b → S b) (h : Ds K S H v d) : Ds K S' H v d := Ds.map (fun _ _ l => ⟨fun z => l.1 (f _ z), l.2⟩) (fun _ _ l => ⟨fun z => l.1 (f _ z), l.2⟩) _ _ h
theorem DsAll.less (f : ∀ b, S' b → S b) (h : DsAll K S H xs ds) : DsAll K S' H xs ds := DsAll.map (fun _ _ l => ⟨fun z => l.1 (f _ z), l.2⟩) (fun _ _ l => ⟨fun z => l.1 (f _ z), l.2⟩) _ _ h
mutual
theorem Ds.dp : ∀ (d : PyData) (v : V), Ds K S H v d → Dp K H v d
  | .none, _, h => by cases h; exact .non
  | .bool _, _, h => by cases h; exact .bl _
  | .int _, _, h => by cases h; exact .int _
  | .str _, _, h => by cases h; exact .str _
  | .list ds, _, h => by
    cases h with
    | lst a b => exact .lst a.sq (DsAll.dp ds _ b)
  | .tuple ds, _, h => by
    cases h with
    | tup a b => exact .tup a.sq (DsAll.dp ds _ b)
  | .dict _, _, h => by cases h
theorem DsAll.dp : ∀ (ds : List PyData) (vs : List V), DsAll K S H vs ds → DpAll K H vs ds
  | [], _, h => by cases h; exact .nil
  | d :: ds, _, h => by
    cases h with
    | cons a b => exact .cons (Ds.dp d _ a) (DsAll.dp ds _ b)
end
theorem DsAll.length : ∀ {ds : List PyData} {vs : List V}, DsAll K S H vs ds → vs.length = ds.length
  | [], _, h => by cases h; rfl
  | d :: ds, _, h => by
    cases h with
    | cons a b => exact congrArg Nat.succ (DsAll.length b)
theorem DsAll.get : ∀ {ds : List PyData} {vs : List V} {i : Nat} {v : V}, DsAll K S H vs ds → vs[i]? = some v → ∃ d, ds[i]? = some d ∧ Ds K S H v d
  | [], _, _, _, h, e => by cases h; simp at e
  | d :: ds, _, 0, _, h, e => by
    cases h with
    | cons a b => simp at e; subst e; exact ⟨d, rfl, a⟩
  | d :: ds, _, i + 1, _, h, e => by
    cases h with
    | cons a b =>
      obtain ⟨d', e1, e2⟩ := DsAll.get (i := i) b (by simpa using e)
      exact ⟨d', by simpa using e1, e2⟩
theorem DsAll.at : ∀ {ds : List PyData} {vs : List V} {i : Nat} {d : PyData}, DsAll K S H vs ds → ds[i]? = some d → ∃ v, vs[i]? = some v ∧ Ds K S H v d
  | [], _, _, _, h, e => by simp at e
  | d :: ds, _, 0, _, h, e => by
    cases h with
    | cons a b => simp at e; subst e; exact ⟨_, rfl, a⟩
  | d :: ds, _, i + 1, _, h, e => by
    cases h with
    | cons a b =>
      obtain ⟨d', e1, e2⟩ := DsAll.at (i := i) b (by simpa using e)
      exact ⟨d', by simpa using e1, e2⟩
theorem DsAll.mem : ∀ {ds : List PyData} {vs : List V} {v : V}, DsAll K S H vs ds → v ∈ vs → ∃ d, d ∈ ds ∧ Ds K S H v d
  | [], _, v, h, m => by cases h; cases m
  | d :: ds, _, v, h, m => by
    cases h with
    | cons a b =>
      rcases List.mem_cons.mp m with rfl | m
      · exact ⟨d, List.mem_cons_self .., a⟩
      · obtain ⟨d', m', h'⟩ := DsAll.mem b m
        exact ⟨d', List.mem_cons_of_mem _ m', h'⟩
theorem DsAll.take : ∀ (n : Nat) {ds : List PyData} {vs : List V}, DsAll K S H vs ds → DsAll K S H (vs.take n) (ds.take n)
  | 0, _, _, _ => .nil
  | n + 1, [], _, h => by cases h; exact .nil
  | n + 1, d :: ds, _, h => by
    cases h with
    | cons a b => exact .cons a (DsAll.take n b)
theorem DsAll.drop : ∀ (n : Nat) {ds : List PyData} {vs : List V}, DsAll K S H vs ds → DsAll K S H (vs.drop n) (ds.drop n)
  | 0, _, _, h => h
  | n + 1, [], _, h => by cases h; exact .nil
  | n + 1, d :: ds, _, h => by
    cases h with
    | cons a b => exact DsAll.drop n b
theorem DsAll.app : ∀ {ds es : List PyData} {vs ws : List V}, DsAll K S H vs ds → DsAll K S H ws es → DsAll K S H (vs ++ ws) (ds ++ es)
  | [], _, _, _, h, g => by cases h; exact g
  | d :: ds, _, _, _, h, g => by
    cases h with
    | cons a b => exact .cons a (DsAll.app b g)
theorem DsAll.one (h : DsAll K S H xs [d]) : ∃ v, xs = [v] ∧ Ds K S H v d := by
  cases h with
  | cons a b => cases b; exact ⟨_, rfl, a⟩
theorem DsAll.two {d e : PyData} (h : DsAll K S H xs [d, e]) : ∃ v w, xs = [v, w] ∧ Ds K S H v d ∧ Ds K S H w e := by
  cases h with
  | cons a b =>
    obtain ⟨w, rfl, c⟩ := b.one
    exact ⟨_, _, rfl, a, c⟩
theorem DsAll.three {d e f : PyData} (h : DsAll K S H xs [d, e, f]) : ∃ v w u, xs = [v, w, u] ∧ Ds K S H v d ∧ Ds K S H w e ∧ Ds K S H u f := by
  cases h with
  | cons a b =>
    obtain ⟨w, u, rfl, c⟩ := b.two
    exact ⟨_, _, _, rfl, a, c⟩
theorem Ds.i {i : Int} (h : Ds K S H v (.int i)) : v = .int i := by cases h; rfl
theorem Ds.s {i : Str} (h : Ds K S H v (.str i)) : v = .str i := by cases h; rfl
theorem Ds.b {i : Bool} (h : Ds K S H v (.bool i)) : v = .bl i := by cases h; rfl
theorem Ds.n (h : Ds K S H v .none) : v = .non := by cases h; rfl
theorem Ds.l (h : Ds K S H v (.list ds)) : ∃ a xs, v = .ref a ∧ LS S H a xs ∧ DsAll K S H xs ds := by
  cases h with
  | lst a b => exact ⟨_, _, rfl, a, b⟩
theorem Ds.t (h : Ds K S H v (.tuple ds)) : ∃ a xs, v = .ref a ∧ TS' S H a xs ∧ DsAll K S H xs ds := by
  cases h with
  | tup a b => exact ⟨_, _, rfl, a, b⟩
theorem Ds.isNon (h : Ds K S H v d) : decide (v = .non) = (match d with | .none => true | _ => false) := by
  cases h <;> rfl
theorem DsAll.strs : ∀ {ys : List Str} {vs : List V}, DsAll K S H vs (ys.map PyData.str) → vs = ys.map V.str
  | [], _, h => by cases h; rfl
  | y :: ys, _, h => by
    cases h with
    | cons a b => rw [a.s, DsAll.strs b]; rfl
theorem DsAll.ints : ∀ {ys : List Int} {vs : List V}, DsAll K S H vs (ys.map PyData.int) → vs = ys.map V.int
  | [], _, h => by cases h; rfl
  | y :: ys, _, h => by
    cases h with
    | cons a b => rw [a.i, DsAll.ints b]; rfl
theorem DsAll.bools : ∀ {ys : List Bool} {vs : List V}, DsAll K S H vs (ys.map PyData.bool) → vs = ys.map V.bl
  | [], _, h => by cases h; rfl
  | y :: ys, _, h => by
    cases h with
    | cons a b => rw [a.b, DsAll.bools b]; rfl
theorem ds_strs : ∀ {ys : List Str}, DsAll K S H (ys.map V.str) (ys.map PyData.str)
  | [] => .nil
  | y :: ys => .cons (.str y) ds_strs
theorem ds_ints : ∀ {ys : List Int}, DsAll K S H (ys.map V.int) (ys.map PyData.int)
  | [] => .nil
  | y :: ys => .cons (.int y) ds_ints
end

/-! ### worths -/
def SV (K : PySem.W.Frag) (S : Sh) (te : TE) (σ : L2.St) (H : Hp) (d : PyData) : Prop := ∀ S' H', Now S H S' H' → ∀ Q : VK, (∀ v H2, Same H' H2 → Ds K S' H2 v d → Q v H2) → te σ H' Q
def SA (K : PySem.W.Frag) (S : Sh) (ta : TA) (σ : L2.St) (H : Hp) (ds : List PyData) : Prop := ∀ S' H', Now S H S' H' → ∀ Q : List V → Hp → Prop, (∀ vs H2, Same H' H2 → DsAll K S' H2 vs ds → Q vs H2) → ta σ H' Q
def SB (S : Sh) (tt : TT) (σ : L2.St) (H : Hp) (b : Bool) : Prop := ∀ S' H', Now S H S' H' → ∀ Q : Bool → Hp → Prop, (∀ H2, Same H' H2 → Q b H2) → tt σ H' Q
section
variable {K : PySem.W.Frag} {S S' : Sh} {σ : L2.St} {H H' : Hp} {ta tb te tc : TE} {tr tk : TA} {tt tu : TT} {d e : PyData} {ds es : List PyData} {v : V} {b c : Bool}
theorem SV.now (n : Now S H S' H') (h : SV K S te σ H d) : SV K S' te σ H' d := fun S2 H2 m => h S2 H2 (n.trans m)
theorem SA.now (n : Now S H S' H') (h : SA K S tr σ H ds) : SA K S' tr σ H' ds := fun S2 H2 m => h S2 H2 (n.trans m)
theorem SB.now (n : Now S H S' H') (h : SB S tt σ H b) : SB S' tt σ H' b := fun S2 H2 m => h S2 H2 (n.trans m)
theorem SV.run (h : SV K S te σ H d) (l : Live S H) {Q : VK} (k : ∀ v H2, Same H H2 → Ds K S H2 v d → Q v H2) : te σ H Q := h S H (Now.refl l) Q k
theorem SA.run (h : SA K S tr σ H ds) (l : Live S H) {Q : List V → Hp → Prop} (k : ∀ v H2, Same H H2 → DsAll K S H2 v ds → Q v H2) : tr σ H Q := h S H (Now.refl l) Q k
theorem SB.run (h : SB S tt σ H b) (l : Live S H) {Q : Bool → Hp → Prop} (k : ∀ H2, Same H H2 → Q b H2) : tt σ H Q := h S H (Now.refl l) Q k
theorem sv_int {i : Int} : SV K S (tC (.int i)) σ H (.int i) := fun _ _ _ Q q => q _ _ (Same.refl _) (.int i)
theorem sv_bl : SV K S (tC (.bl b)) σ H (.bool b) := fun _ _ _ Q q => q _ _ (Same.refl _) (.bl b)
theorem sv_str {x : Str} : SV K S (tC (.str x)) σ H (.str x) := fun _ _ _ Q q => q _ _ (Same.refl _) (.str x)
theorem sv_non : SV K S (tC .non) σ H .none := fun _ _ _ Q q => q _ _ (Same.refl _) .non
theorem sv_con (h : Ds K S H v d) : SV K S (tC v) σ H d := fun _ _ n Q q => q _ _ (Same.refl _) (h.now n)
theorem sv_var {i : Nat} (h : σ[i]? = some (some v)) (hd : Ds K S H v d) : SV K S (tVar i) σ H d := fun _ _ n Q q => ⟨v, h, q _ _ (Same.refl _) (hd.now n)⟩
theorem sv_vi {i : Nat} {j : Int} (h : σ[i]? = some (some (.int j))) : SV K S (tVar i) σ H (.int j) := sv_var h (.int j)
theorem sv_vs {i : Nat} {j : Str} (h : σ[i]? = some (some (.str j))) : SV K S (tVar i) σ H (.str j) := sv_var h (.str j)
theorem sv_vb {i : Nat} {j : Bool} (h : σ[i]? = some (some (.bl j))) : SV K S (tVar i) σ H (.bool j) := sv_var h (.bl j)
theorem sv_vn {i : Nat} (h : σ[i]? = some (some .non)) : SV K S (tVar i) σ H .none := sv_var h .non
theorem sv_is {d' : PyData} (h : SV K S te σ H d) (e : d = d') : SV K S te σ H d' := e ▸ h
theorem sa_nil : SA K S tNil σ H [] := fun _ _ _ Q q => q _ _ (Same.refl _) .nil
theorem sa_cons (h : SV K S ta σ H d) (hr : SA K S tr σ H ds) : SA K S (tCons ta tr) σ H (d :: ds) := fun S1 H1 n Q q =>
  h S1 H1 n _ fun v H2 s2 hv => hr S1 H2 (n.then s2) _ fun vs H3 s3 hs => q _ _ (s2.trans s3) (.cons (hv.same s3) hs)
theorem new_tup {a : Addr} {xs : List V} (l : Live S H) (na : H a = none) (h : DsAll K S H xs ds) : Ds K S (upd H a (.tup xs)) (.ref a) (.tuple ds) := .tup ⟨l.ne na, upd_same⟩ (h.same (same_upd na))
theorem new_lst {a : Addr} {xs : List V} (l : Live S H) (na : H a = none) (h : DsAll K S H xs ds) : Ds K S (upd H a (.lst xs)) (.ref a) (.list ds) := .lst ⟨l.ne na, upd_same⟩ (h.same (same_upd na))
theorem sv_tup (h : SA K S tr σ H ds) (hl : decide (ds.length ≤ 5000) = true) : SV K S (tTup tr) σ H (.tuple ds) := fun S1 H1 n Q q =>
  h S1 H1 n _ fun vs H2 s2 hs => ⟨by rw [DsAll.length hs]; exact sz (by have := of_decide_eq_true hl; omega), fun a na =>
    q _ _ (s2.trans (same_upd na)) (new_tup (n.live.same s2) na hs)⟩
theorem sv_lst (h : SA K S tr σ H ds) (hl : decide (ds.length ≤ 5000) = true) : SV K S (tLst tr) σ H (.list ds) := fun S1 H1 n Q q =>
  h S1 H1 n _ fun vs H2 s2 hs => ⟨by rw [DsAll.length hs]; exact sz (by have := of_decide_eq_true hl; omega), fun a na =>
    q _ _ (s2.trans (same_upd na)) (new_lst (n.live.same s2) na hs)⟩
/-- two values and a rule that changes nothing -/
theorem sv_op {r : R2} (ha : SV K S ta σ H d) (hb : SV K S tb σ H e) {f : PyData} (hr : ∀ S' H1 x y (Q : VK), Live S' H1 → Ds K S' H1 x d → Ds K S' H1 y e → (∀ v H2, Same H1 H2 → Ds K S' H2 v f → Q v H2) → r x y H1 Q) : SV K S (tOp r ta tb) σ H f := fun S1 H1 n Q q =>
  ha S1 H1 n _ fun x H2 s2 hx => hb S1 H2 (n.then s2) _ fun y H3 s3 hy => hr S1 H3 x y Q (n.live.same (s2.trans s3)) (hx.same s3) hy fun v H4 s4 hv => q v H4 ((s2.trans s3).trans s4) hv
theorem sv_I0 {g : Int → Int → V} {i j : Int} (ha : SV K S ta σ H (.int i)) (hb : SV K S tb σ H (.int j)) (hg : ∀ S' H', Ds K S' H' (g i j) d) : SV K S (tOp (rI0 g) ta tb) σ H d := sv_op ha hb fun _ _ _ _ Q _ hx hy q => ⟨i, j, hx.i, hy.i, q _ _ (Same.refl _) (hg _ _)⟩
theorem sv_add {i j : Int} (ha : SV K S ta σ H (.int i)) (hb : SV K S tb σ H (.int j)) : SV K S (tOp (rI0 fun i j => .int (i + j)) ta tb) σ H (.int (i + j)) := sv_I0 ha hb fun _ _ => .int _
theorem sv_sub {i j : Int} (ha : SV K S ta σ H (.int i)) (hb : SV K S tb σ H (.int j)) : SV K S (tOp (rI0 fun i j => .int (i - j)) ta tb) σ H (.int (i - j)) := sv_I0 ha hb fun _ _ => .int _
theorem sv_lt {i j : Int} (ha : SV K S ta σ H (.int i)) (hb : SV K S tb σ H (.int j)) : SV K S (tOp (rI0 fun i j => .bl (decide (i < j))) ta tb) σ H (.bool (decide (i < j))) := sv_I0 ha hb fun _ _ => .bl _
theorem sv_le {i j : Int} (ha : SV K S ta σ H (.int i)) (hb : SV K S tb σ H (.int j)) : SV K S (tOp (rI0 fun i j => .bl (decide (i ≤ j))) ta tb) σ H (.bool (decide (i ≤ j))) := sv_I0 ha hb fun _ _ => .bl _
theorem sv_neg {i : Int} (ha : SV K S ta σ H (.int i)) : SV K S (tUn (rU fun i => .int (-i)) ta) σ H (.int (-i)) := fun S1 H1 n Q q =>
  ha S1 H1 n _ fun x H2 s2 hx => ⟨i, hx.i, q _ _ s2 (.int _)⟩
theorem sv_chain {i j k : Int} (ha : SV K S ta σ H (.int i)) (hb : SV K S tb σ H (.int j)) (hc : SV K S tc σ H (.int k)) :
    SV K S (tChain (rI0 fun i j => .bl (decide (i ≤ j))) (rI0 fun i j => .bl (decide (i ≤ j))) ta tb tc) σ H (.bool (decide (i ≤ j) && decide (j ≤ k))) := fun S1 H1 n Q q =>
  ha S1 H1 n _ fun x H2 s2 hx => hb S1 H2 (n.then s2) _ fun y H3 s3 hy => ⟨i, j, hx.i, hy.i, _, rfl, ite2 (fun e => by
    rw [e, Bool.true_and] at q
    exact hc S1 H3 ((n.then s2).then s3) _ fun z H4 s4 hz => ⟨j, k, hy.i, hz.i, q _ _ ((s2.trans s3).trans s4) (.bl _)⟩) fun e => by
    rw [Bool.eq_false_iff.mpr e, Bool.false_and] at q
    exact q _ _ (s2.trans s3) (.bl _)⟩
theorem sv_eqD (ha : SV K S ta σ H d) (hb : SV K S tb σ H e) (hd : fine d = true) (he : fine e = true) : SV K S (tOp (rEqD K) ta tb) σ H (.bool (PyData.eqv d e)) := sv_op ha hb fun _ _ _ _ Q _ hx hy q =>
  ⟨d, e, Ds.dp _ _ hx, Ds.dp _ _ hy, fine_shaped hd, fine_shaped he, q _ _ (Same.refl _) (.bl _)⟩
theorem sv_inD (ha : SV K S ta σ H d) (hb : SV K S tb σ H (.list ds)) (hd : fine d = true) (he : fine (.list ds) = true) : SV K S (tOp (rInD K) ta tb) σ H (.bool (ds.any fun z => PyData.eqv z d)) := sv_op ha hb fun _ _ _ _ Q _ hx hy q =>
  ⟨d, ds, Ds.dp _ _ hx, Ds.dp _ _ hy, fine_shaped hd, fine_shaped he, q _ _ (Same.refl _) (.bl _)⟩
theorem sv_notInD (ha : SV K S ta σ H d) (hb : SV K S tb σ H (.list ds)) (hd : fine d = true) (he : fine (.list ds) = true) : SV K S (tOp (rNotInD K) ta tb) σ H (.bool (!ds.any fun z => PyData.eqv z d)) := sv_op ha hb fun _ _ _ _ Q _ hx hy q =>
  ⟨d, ds, Ds.dp _ _ hx, Ds.dp _ _ hy, fine_shaped hd, fine_shaped he, q _ _ (Same.refl _) (.bl _)⟩
theorem sv_and {a b : Bool} (ha : SV K S ta σ H (.bool a)) (hb : a = true → SV K S tb σ H (.bool b)) : SV K S (tAndV ta tb) σ H (.bool (a && b)) := fun S1 H1 n Q q =>
  ha S1 H1 n _ fun x H2 s2 hx => ⟨a, hx.b, by
    cases a with
    | true => exact iteT (hb rfl S1 H2 (n.then s2) _ fun z H3 s3 hz => q _ _ (s2.trans s3) hz)
    | false => exact iteF (q _ _ s2 (.bl _))⟩
theorem sv_or {a b : Bool} (ha : SV K S ta σ H (.bool a)) (hb : a = false → SV K S tb σ H (.bool b)) : SV K S (tOrV ta tb) σ H (.bool (a || b)) := fun S1 H1 n Q q =>
  ha S1 H1 n _ fun x H2 s2 hx => ⟨a, hx.b, by
    cases a with
    | true => exact iteT (q _ _ s2 (.bl _))
    | false => exact iteF (hb rfl S1 H2 (n.then s2) _ fun z H3 s3 hz => q _ _ (s2.trans s3) hz)⟩
theorem sv_not {a : Bool} (ha : SV K S ta σ H (.bool a)) : SV K S (tNotV ta) σ H (.bool (!a)) := fun S1 H1 n Q q =>
  ha S1 H1 n _ fun x H2 s2 hx => ⟨a, hx.b, q _ _ s2 (.bl _)⟩
theorem sv_if {a : Bool} (ht : SB S tt σ H a) (h1 : a = true → SV K S ta σ H d) (h2 : a = false → SV K S tb σ H d) : SV K S (tIf tt ta tb) σ H d := fun S1 H1 n Q q =>
  ht S1 H1 n _ fun H2 s2 => by
    cases a with
    | true => exact iteT (h1 rfl S1 H2 (n.then s2) _ fun z H3 s3 hz => q _ _ (s2.trans s3) hz)
    | false => exact iteF (h2 rfl S1 H2 (n.then s2) _ fun z H3 s3 hz => q _ _ (s2.trans s3) hz)
theorem sb_is {b' : Bool} (h : SB S tt σ H b) (e : b = b') : SB S tt σ H b' := e ▸ h
theorem sb_val (h : SV K S te σ H (.bool b)) : SB S (tB te) σ H b := fun S1 H1 n Q q => h S1 H1 n _ fun x H2 s2 hx => ⟨b, hx.b, q _ s2⟩
theorem sb_test (h : SV K S te σ H (.bool b)) : SB S (tTest te) σ H b := fun S1 H1 n Q q => h S1 H1 n _ fun x H2 s2 hx => ⟨b, hx.b, q _ s2⟩
theorem sb_not (h : SB S tt σ H b) : SB S (tNot tt) σ H (!b) := fun S1 H1 n Q q => h S1 H1 n _ q
theorem sb_and (h : SB S tt σ H b) (h2 : b = true → SB S tu σ H c) : SB S (tAnd tt tu) σ H (b && c) := fun S1 H1 n Q q => h S1 H1 n _ fun H2 s2 => by
  cases b with
  | true => exact iteT (h2 rfl S1 H2 (n.then s2) _ fun H3 s3 => q _ (s2.trans s3))
  | false => exact iteF (q _ s2)
theorem sb_or (h : SB S tt σ H b) (h2 : b = false → SB S tu σ H c) : SB S (tOr tt tu) σ H (b || c) := fun S1 H1 n Q q => h S1 H1 n _ fun H2 s2 => by
  cases b with
  | true => exact iteT (q _ s2)
  | false => exact iteF (h2 rfl S1 H2 (n.then s2) _ fun H3 s3 => q _ (s2.trans s3))
theorem sb_yes : SB S tYes σ H true := fun S1 H1 n Q q => q _ (Same.refl _)

/-! ### statements -/
variable {D : Ends} {tz ty : TS}
theorem set_sv {i : Nat} (l : Live S H) (h : SV K S te σ H d) (k : ∀ v H', Same H H' → Live S H' → Ds K S H' v d → tz D (σ.set i (some v)) H') : tSeq (tAsg te (gName i)) tz D σ H := h.run l fun v H' s hv => k v H' s (l.same s) hv
theorem ret_sv (l : Live S H) (h : SV K S te σ H d) (k : ∀ v H', Same H H' → Ds K S H' v d → D.rt v H') : tRet te D σ H := h.run l k
theorem if_sb (l : Live S H) (h : SB S tt σ H b) (k1 : b = true → ∀ H', Same H H' → Live S H' → tz D σ H') (k2 : b = false → ∀ H', Same H H' → Live S H' → ty D σ H') : tIfS tt tz ty D σ H := h.run l fun H' s => by
  cases b with
  | true => exact iteT (k1 rfl H' s (l.same s))
  | false => exact iteF (k2 rfl H' s (l.same s))

/-! ### calls of what promises data of data -/
/-- x: the arguments as they are meant, enc: their data -/
def spT (K : PySem.W.Frag) {α : Type} (enc : α → List PyData) (pre : α → Prop) (f : α → PyData) : Sp := fun vs H Q _ => ∃ (S : Sh) (x : α), Live S H ∧ DsAll K S H vs (enc x) ∧ pre x ∧ ∀ v H', Same H H' → Ds K S H' v (f x) → Q v H'
theorem sv_T {α : Type} {enc : α → List PyData} {pre : α → Prop} {f : α → PyData} {E : XK} (x : α) (h : SA K S tr σ H ds) (e : ds = enc x) (hp : pre x) : SV K S (tCall (spT K enc pre f) [] E tr) σ H (f x) := fun S1 H1 n Q q =>
  h S1 H1 n _ fun vs H2 s2 hs => ⟨S1, x, n.live.same s2, by rw [← e, List.append_nil]; exact hs, hp, fun v H3 s3 hv => q v H3 (s2.trans s3) hv⟩
end

/-! ### walks -/
/-- what is walked gives the data ds -/
def SI (K : PySem.W.Frag) (S : Sh) (wi : TI) (σ : L2.St) (H : Hp) (ds : List PyData) : Prop := ∀ S' H', Now S H S' H' → ∀ R : It → Hp → Prop,
  (∀ J H2, Same H' H2 → Walk J ds.length (fun H3 => ∃ S2, Step S' H2 S2 H3) (fun i H3 v H4 => Same H3 H4 ∧ ∃ d, ds[i]? = some d ∧ ∀ S2, Step S' H2 S2 H3 → Ds K S2 H4 v d) → R J H2) → wi σ H' R
/-- a list or a tuple, walked -/
def iAny (K : PySem.W.Frag) (tl : TE) : TI := fun σ H R => tl σ H fun x H1 => ∃ a, x = .ref a ∧ (((∃ xs, SqL K H1 a xs) ∧ R (Itl K a) H1) ∨ ((∃ xs, SqT K H1 a xs) ∧ R (Itt K a) H1))
theorem pi_any {X : Cx} {tg l : Expr} {tl : TE} (hl : PE X l tl) : PI X tg l (iAny X.K tl) := by
  refine ⟨fun pins s σ H R I h => thn (hl.run pins s σ H _ I h) fun v s1 ⟨x, H1, I1, r1, a, e, q⟩ => ?_⟩
  subst e
  cases r1
  have hfp : ∀ b ∈ [s1.heap.objs.size], FpOk X pins H1 b := fun b hb => by
    rw [List.mem_singleton.mp hb]
    exact I1.fpOk (Nat.le_refl _) (I1.hok.fresh (Nat.le_refl _))
  rcases q with ⟨⟨xs, hq⟩, q⟩ | ⟨⟨xs, hq⟩, q⟩
  · obtain ⟨its, _, p, _⟩ := I1.list hq
    exact wpAny_pyIter_list p.isList ⟨_, _, _, _, H1, rfl, I1.kept (t' := s1.toks) fun b o z => Heap.get?_push_of_some _ z, turn_list a _, ⟨_, Heap.get?_push_size _ rfl, rfl, rfl⟩, hfp, q⟩
  · obtain ⟨its, _, p, _⟩ := I1.tuple hq
    exact wpAny_pyIter_tuple (show s1.heap.IsTuple a its.toArray from p) ⟨_, _, _, _, H1, rfl, I1.kept (t' := s1.toks) fun b o z => Heap.get?_push_of_some _ z, turn_tuple a _, ⟨_, Heap.get?_push_size _ rfl, rfl, rfl⟩, hfp, q⟩
section
variable {K : PySem.W.Frag} {S S' : Sh} {σ : L2.St} {H H' : Hp} {ta tb te tc : TE} {tr tk : TA} {tt tu : TT} {d e : PyData} {ds es : List PyData} {v : V} {b c : Bool} {wi : TI} {g : TG}
/-- a list where k is true, else a tuple -/
def seqD (k : Bool) (ds : List PyData) : PyData := if k = true then .list ds else .tuple ds
theorem walkL {a : Addr} {xs : List V} (h : LS S H a xs) (hs : DsAll K S H xs ds) : Walk (Itl K a) ds.length (fun H3 => ∃ S2, Step S H S2 H3) (fun i H3 v H4 => Same H3 H4 ∧ ∃ d, ds[i]? = some d ∧ ∀ S2, Step S H S2 H3 → Ds K S2 H4 v d) := by
  rw [← hs.length]
  refine (walk_list (xs := xs)).mono (fun H3 ⟨S2, z⟩ => at_step z h.1 h.2 |> fun y => .inl (.inl y.2)) fun i H3 v H4 hi _ y => ?_
  obtain ⟨rfl, e⟩ := y
  obtain ⟨d, e1, e2⟩ := hs.get e
  exact ⟨Same.refl _, d, e1, fun S2 z => e2.step z⟩
theorem walkT {a : Addr} {xs : List V} (h : TS' S H a xs) (hs : DsAll K S H xs ds) : Walk (Itt K a) ds.length (fun H3 => ∃ S2, Step S H S2 H3) (fun i H3 v H4 => Same H3 H4 ∧ ∃ d, ds[i]? = some d ∧ ∀ S2, Step S H S2 H3 → Ds K S2 H4 v d) := by
  rw [← hs.length]
  refine (walk_tup (xs := xs)).mono (fun H3 ⟨S2, z⟩ => at_step z h.1 h.2 |> fun y => .inl (.inl y.2)) fun i H3 v H4 hi _ y => ?_
  obtain ⟨rfl, e⟩ := y
  obtain ⟨d, e1, e2⟩ := hs.get e
  exact ⟨Same.refl _, d, e1, fun S2 z => e2.step z⟩
theorem si_any {k : Bool} (h : SV K S te σ H (seqD k ds)) : SI K S (iAny K te) σ H ds := fun S1 H1 n R q => h S1 H1 n _ fun x H2 s2 hx => by
  cases k with
  | true =>
    obtain ⟨a, xs, rfl, l, hs⟩ := Ds.l hx
    exact ⟨a, rfl, .inl ⟨⟨xs, l.sq⟩, q _ _ s2 (walkL l hs)⟩⟩
  | false =>
    obtain ⟨a, xs, rfl, l, hs⟩ := Ds.t hx
    exact ⟨a, rfl, .inr ⟨⟨xs, l.sq⟩, q _ _ s2 (walkT l hs)⟩⟩
theorem si_l (h : SV K S te σ H (.list ds)) : SI K S (iAny K te) σ H ds := si_any (k := true) h
theorem si_t (h : SV K S te σ H (.tuple ds)) : SI K S (iAny K te) σ H ds := si_any (k := false) h
/-- a for over it -/
theorem for_si {D : Ends} {tb : TS} (l : Live S H) (h : SI K S wi σ H ds)
    (k : ∀ H2, Same H H2 → Live S H2 → ∃ Pv : Nat → L2.St → Hp → Prop, Pv 0 σ H2 ∧ (∀ i σ H3, i ≤ ds.length → Pv i σ H3 → ∃ S2, Step S H2 S2 H3) ∧
      (∀ i d v σ H3 H4, ds[i]? = some d → Pv i σ H3 → Same H3 H4 → (∀ S2, Step S H2 S2 H3 → Ds K S2 H4 v d) → g v σ H4 fun σ2 H5 => tb { D with nx := Pv (i + 1), ct := Pv (i + 1), bk := D.nx } σ2 H5) ∧ ∀ σ H3, Pv ds.length σ H3 → D.nx σ H3) : tFor wi g tb D σ H :=
  h S H (Now.refl l) _ fun J H2 s w => by
    obtain ⟨Pv, k0, kG, kt, kd⟩ := k H2 s (l.same s)
    exact for_it w Pv k0 kG (fun i x σ H3 H4 hi hp ⟨sm, d, ed, hd⟩ => kt i d x σ H3 H4 ed hp sm hd) kd
/-- a comprehension over it, f of each item, of those where t is true -/
def SN (K : PySem.W.Frag) (S : Sh) (te : TE) (σ : L2.St) (H : Hp) (ds : List PyData) : Prop := ∀ S' H', Now S H S' H' → ∀ Q : VK, (∀ a xs H2, Same H' H2 → H' a = none → H2 a = some (.lst xs) → DsAll K S' H2 xs ds → Q (.ref a) H2) → te σ H' Q
theorem SN.sv (h : SN K S te σ H ds) : SV K S te σ H (.list ds) := fun S1 H1 n Q q => h S1 H1 n Q fun a xs H2 s na ha hs => q _ _ s (.lst ⟨n.live.ne na, ha⟩ hs)
theorem SN.is (h : SN K S te σ H ds) (e : ds = es) : SN K S te σ H es := e ▸ h
theorem sn_lc {vs : List Nat} (h : SI K S wi σ H ds) (hl : ds.length ≤ 5000) (t : Nat → PyData → Bool) (f : Nat → PyData → PyData)
    (hs : ∀ i d S' H' v (Q : L2.St → Hp → Prop), ds[i]? = some d → Now S H S' H' → Ds K S' H' v d → (∀ σ2, wipe σ2 vs = wipe σ vs → SB S' tt σ2 H' (t i d) → (t i d = true → SV K S' te σ2 H' (f i d)) → Q σ2 H') → g v (wipe σ vs) H' Q) :
    SN K S (tLc wi g tt te vs) σ H ((ds.zipIdx.filter fun p => t p.2 p.1).map fun p => f p.2 p.1) := fun S1 H1 n Q q =>
  h S1 H1 n _ fun J H2 s2 w D nD => by
    have l2 : Live S1 H2 := n.live.same s2
    refine lc_it w (fun i H3 => ∃ vs, H3 D = some (.lst vs) ∧ Now S1 H2 (fun a => S1 a ∨ a = D) H3 ∧ DsAll K (fun a => S1 a ∨ a = D) H3 vs (((ds.zipIdx.take i).filter fun p => t p.2 p.1).map fun p => f p.2 p.1))
      ⟨[], upd_same, Now.add l2 nD, .nil⟩ (fun i H3 _ ⟨_, _, z, _⟩ => ⟨_, z.step⟩) (fun i x H3 H4 hi ⟨vs3, e3, n3, d3⟩ ⟨s4, d, ed, hd⟩ => ?_) fun H3 ⟨vs3, e3, n3, d3⟩ => ?_
    · have n4 : Now S1 H2 (fun a => S1 a ∨ a = D) H4 := n3.then s4
      refine hs i d _ H4 x _ ed ((n.then s2).trans n4) (hd _ n3.step) fun σ2 ew hb hv => ⟨ew, hb.run n4.live fun H5 s5 => ?_⟩
      have ei : ds.zipIdx[i]? = some (d, i) := by rw [List.getElem?_zipIdx, ed]; simp
      have n5 := n4.then s5
      cases et : t i d with
      | true =>
        refine iteT ((hv et).now (Now.of n4.live s5) |>.run n5.live fun y H6 s6 hy => ⟨vs3, s6 _ _ (s5 _ _ (s4 _ _ e3)), ?_, vs3 ++ [y], upd_same, (n5.then s6).put (.inr rfl) (l2.ne nD), ?_⟩)
        · have h1 := d3.length
          have h2 := List.length_filter_le (fun p : PyData × Nat => t p.2 p.1) (ds.zipIdx.take i)
          have h3 := List.length_take_le i ds.zipIdx
          rw [List.length_map] at h1
          have h4 : (ds.zipIdx.take i).length ≤ ds.length := by rw [List.length_take, List.length_zipIdx]; omega
          exact szl (by omega)
        · have e1 : ((ds.zipIdx.take (i + 1)).filter fun p => t p.2 p.1).map (fun p => f p.2 p.1) = ((ds.zipIdx.take i).filter fun p => t p.2 p.1).map (fun p => f p.2 p.1) ++ [f i d] := by
            rw [List.take_add_one, ei]
            simp [et]
          rw [e1]
          exact ((d3.same s4).same s5 |>.same s6 |>.app (.cons hy .nil)).byX (XS.upd (.inr rfl))
      | false =>
        refine iteF ⟨vs3, s5 _ _ (s4 _ _ e3), n5, ?_⟩
        have e1 : ((ds.zipIdx.take (i + 1)).filter fun p => t p.2 p.1).map (fun p => f p.2 p.1) = ((ds.zipIdx.take i).filter fun p => t p.2 p.1).map (fun p => f p.2 p.1) := by
          rw [List.take_add_one, ei]
          simp [et]
        rw [e1]
        exact (d3.same s4).same s5
    · rw [List.take_of_length_le (by simp)] at d3
      exact q _ _ _ (s2.trans n3.same) (s2.free nD) e3 (d3.less fun _ => .inl)
theorem filter_zipIdx_map (ds : List PyData) (t : PyData → Bool) (f : PyData → PyData) : ((ds.zipIdx.filter fun p => t p.1).map fun p => f p.1) = (ds.filter t).map f := by
  have : ∀ (l : List PyData) (k : Nat), (((l.zipIdx k).filter fun p => t p.1).map fun p => f p.1) = (l.filter t).map f := by
    intro l
    induction l with
    | nil => intro k; rfl
    | cons a l ih =>
      intro k
      rw [List.zipIdx_cons]
      by_cases h : t a = true
      · rw [List.filter_cons_of_pos (by simpa using h), List.filter_cons_of_pos h, List.map_cons, List.map_cons, ih]
      · rw [List.filter_cons_of_neg (by simpa using h), List.filter_cons_of_neg h, ih]
  exact this ds 0
/-- .. by the item alone -/
theorem sn_lcF {vs : List Nat} (h : SI K S wi σ H ds) (hl : ds.length ≤ 5000) (t : PyData → Bool) (f : PyData → PyData)
    (hs : ∀ d S' H' v (Q : L2.St → Hp → Prop), d ∈ ds → Now S H S' H' → Ds K S' H' v d → (∀ σ2, wipe σ2 vs = wipe σ vs → SB S' tt σ2 H' (t d) → (t d = true → SV K S' te σ2 H' (f d)) → Q σ2 H') → g v (wipe σ vs) H' Q) :
    SN K S (tLc wi g tt te vs) σ H ((ds.filter t).map f) := by
  rw [← filter_zipIdx_map]
  exact sn_lc h hl (fun _ d => t d) (fun _ d => f d) fun i d S' H' v Q e n hd k => hs d S' H' v Q (List.mem_of_getElem? e) n hd k
theorem sn_lcM {vs : List Nat} (h : SI K S wi σ H ds) (hl : ds.length ≤ 5000) (f : PyData → PyData)
    (hs : ∀ d S' H' v (Q : L2.St → Hp → Prop), d ∈ ds → Now S H S' H' → Ds K S' H' v d → (∀ σ2, wipe σ2 vs = wipe σ vs → SV K S' te σ2 H' (f d) → Q σ2 H') → g v (wipe σ vs) H' Q) :
    SN K S (tLc wi g tYes te vs) σ H (ds.map f) := by
  have z := sn_lcF (tt := tYes) h hl (fun _ => true) f fun d S' H' v Q m n hd k => hs d S' H' v Q m n hd fun σ2 ew hv => k σ2 ew sb_yes fun _ => hv
  rw [List.filter_eq_self.mpr fun _ _ => rfl] at z
  exact z
theorem sv_lcF {vs : List Nat} (h : SI K S wi σ H ds) (hl : ds.length ≤ 5000) (t : PyData → Bool) (f : PyData → PyData)
    (hs : ∀ d S' H' v (Q : L2.St → Hp → Prop), d ∈ ds → Now S H S' H' → Ds K S' H' v d → (∀ σ2, wipe σ2 vs = wipe σ vs → SB S' tt σ2 H' (t d) → (t d = true → SV K S' te σ2 H' (f d)) → Q σ2 H') → g v (wipe σ vs) H' Q) :
    SV K S (tLc wi g tt te vs) σ H (.list ((ds.filter t).map f)) := (sn_lcF h hl t f hs).sv
theorem sv_lcM {vs : List Nat} (h : SI K S wi σ H ds) (hl : ds.length ≤ 5000) (f : PyData → PyData)
    (hs : ∀ d S' H' v (Q : L2.St → Hp → Prop), d ∈ ds → Now S H S' H' → Ds K S' H' v d → (∀ σ2, wipe σ2 vs = wipe σ vs → SV K S' te σ2 H' (f d) → Q σ2 H') → g v (wipe σ vs) H' Q) :
    SV K S (tLc wi g tYes te vs) σ H (.list (ds.map f)) := (sn_lcM h hl f hs).sv
/-! ### targets -/
theorem g_tup2 {i j : Nat} {d1 d2 : PyData} {Q : L2.St → Hp → Prop} (h : Ds K S H v (.tuple [d1, d2])) (k : ∀ x y, Ds K S H x d1 → Ds K S H y d2 → Q ((σ.set i (some x)).set j (some y)) H) : gTup K 2 (gCons (gName i) (gCons (gName j) gNil)) v σ H Q := by
  obtain ⟨a, xs, rfl, l, hs⟩ := h.t
  obtain ⟨x, y, rfl, hx, hy⟩ := hs.two
  exact ⟨a, _, rfl, l.sq, rfl, x, _, rfl, y, _, rfl, rfl, k x y hx hy⟩
theorem g_tup3 {i j m : Nat} {d1 d2 d3 : PyData} {Q : L2.St → Hp → Prop} (h : Ds K S H v (.tuple [d1, d2, d3])) (k : ∀ x y z, Ds K S H x d1 → Ds K S H y d2 → Ds K S H z d3 → Q (((σ.set i (some x)).set j (some y)).set m (some z)) H) :
    gTup K 3 (gCons (gName i) (gCons (gName j) (gCons (gName m) gNil))) v σ H Q := by
  obtain ⟨a, xs, rfl, l, hs⟩ := h.t
  obtain ⟨x, y, z, rfl, hx, hy, hz⟩ := hs.three
  exact ⟨a, _, rfl, l.sq, rfl, x, _, rfl, y, _, rfl, z, _, rfl, rfl, k x y z hx hy hz⟩
end
end My

set_option Elab.async false
set_option linter.all false
set_option maxRecDepth 100000
/-! enumerate over a tuple or a list; list.count of texts. -/
namespace My
open PySem PySem.Spec PyProof.Rows L2
/-! ### enumerate(v), v anything that begins -/
abbrev enumO (i : Addr) : Obj := { cls := .type "enumerate", data := .fields #[.none, .bool false, .ref i, rawInt 0, .none, .none] }
set_option maxHeartbeats 1000000 in
theorem meets_enumV {v : Value} {o : Obj} {G : Heap → Prop} (B : Begins v o G) : Meets (Builtin.«enumerate.__new__» ⟨[.type "enumerate", v], []⟩)
    (fun _ R s => G s.heap ∧ R (.ok (.ret (.ref (s.heap.push o).objs.size))) { s with heap := (s.heap.push o).push (enumO s.heap.objs.size) }) := by
  refine .of_wp fun prog w A R s h => ?_
  obtain ⟨hp, g, d, tk, os⟩ := s
  obtain ⟨hG, h⟩ := h
  have hsub := sub_enumerate
  have it : ∀ {A' : Around} {E Q : Value → Shared → Prop}, Q (.ref hp.objs.size) ⟨hp.push o, g, d, tk, os⟩ → wpAny (model prog w) A' (pyIter v) Q E ⟨hp, g, d, tk, os⟩ := fun z => B.iter prog w _ _ _ _ hG z
  wp_walk
  refine wpAny_stack_any fun st => wpAny_pure ?_
  split
  · rename_i c _ _ _ _ _
    cases (c == Value.type "enumerate") <;> (wp_walk using it; exact ⟨_, rfl, h⟩)
  · wp_walk using it
    exact ⟨_, rfl, h⟩
theorem call_enumV {prog : Program} {w : World} {A : Around} {E Q : Value → Shared → Prop} {s : Shared} {v : Value} {o : Obj} {G : Heap → Prop} (B : Begins v o G) (hG : G s.heap)
    (h : ∀ h', IsEnum h' (s.heap.objs.size + 1) s.heap.objs.size 0 .none → h'.get? s.heap.objs.size = some o → (∀ b u, s.heap.get? b = some u → h'.get? b = some u) → Q (.ref (s.heap.objs.size + 1)) { s with heap := h' }) :
    wpAny (model prog w) A (call (.type "enumerate") [v]) Q E s := by
  refine callType_new F.called_enumerate (by decide) (F.typeCall_enumerate_1 _) (F.newCall_enumerate_1 _) (fun obj => F.args_object_init_2 obj _) F.entry_enumerate_new (meets_enumV B) ⟨hG, ?_⟩
  have z1 : (s.heap.push o).objs.size = s.heap.objs.size + 1 := Heap.size_push ..
  have e1 : IsEnum ((s.heap.push o).push (enumO s.heap.objs.size)) (s.heap.objs.size + 1) s.heap.objs.size 0 .none := by
    rw [← z1]
    exact Heap.get?_push_size _ rfl
  show _ ∧ _
  rw [z1]
  exact ⟨⟨_, e1, rfl⟩, h _ e1 (Heap.get?_push_of_some _ (Heap.get?_push_size _ B.free)) fun b u z => Heap.get?_push_of_some _ (Heap.get?_push_of_some _ z)⟩
/-- the tuple at a, each item in a new pair -/
def IteT (K : PySem.W.Frag) (a : Addr) : It :=
  ⟨fun i H => ∃ (xs : List V) (x : V), SqT K H a xs ∧ xs[i]? = some x, fun i H v H' => ∃ T x, v = .ref T ∧ H T = none ∧ H' = upd H T (.tup [.int (i : Nat), x]) ∧ ∀ xs, SqT K H a xs → xs[i]? = some x, fun i H => ∃ xs : List V, SqT K H a xs ∧ xs.length ≤ i⟩
theorem turn_enumT {P : Program} {w : World} {K : PySem.W.Frag} {elts : List Expr} {kk : Nat} {tpos : Pos} (a e it : Addr) (h1 : e ≠ it) (h2 : e ≠ a) (h3 : a ≠ it) :
    Turn P w K (.Tuple elts kk tpos) (IteT K a) [e, it] e (fun i h => (∃ old, IsEnum h e it ((i : Nat) : Int) old) ∧ h.IsTupleIter it a i) where
  mem := by simp
  obj := fun i h st b hb => by
    obtain ⟨⟨old, he⟩, o, ho, hc, hd⟩ := st
    rcases List.mem_cons.mp hb with rfl | hb
    · exact ⟨_, he, fun v q => nomatch q⟩
    · rw [List.mem_singleton.mp hb]
      exact ⟨o, ho, fun v q => by rw [hd] at q; cases q⟩
  keep := fun i h h' st k => by
    obtain ⟨⟨old, he⟩, hi⟩ := st
    exact ⟨⟨old, k e (by simp) _ he⟩, hi.at fun o q => k it (by simp) o q⟩
  item := by
    intro X hP hw hK hc i pins s σ H E I hf st hg
    subst hP hw hK
    obtain ⟨⟨old, he⟩, hit⟩ := st
    obtain ⟨xs, x, hq, hx⟩ := hg
    obtain ⟨its, rv, p, hz⟩ := I.tuple hq
    have hlen := rv.length
    have hi : i < its.toArray.size := by
      have := (List.getElem?_eq_some_iff.mp hx).1
      rw [List.size_toArray]
      omega
    have le : e < s.heap.objs.size := Heap.lt_size he
    have li : it < s.heap.objs.size := by obtain ⟨_, q, _⟩ := hit; exact Heap.lt_size q
    have D := Draws.tuple (prog := X.prog) (w := X.w) (A := X.A.in1) (I.ok.hd hc) it a h3 its.toArray
    refine wpAny_pyNext_enum_itemD D he ⟨hit, p⟩ hi h1 (fun m => ?_) fun u h' tk hu ho st' hT hsz hk => ?_
    · rcases List.mem_cons.mp m with m | m
      · exact h1 m
      · exact h2 (List.mem_singleton.mp m)
    have hu2 : its[i]? = some u := by simpa using hu
    obtain ⟨u', hu', ru⟩ := rv.get hx
    have eu : u' = u := Option.some.inj (hu'.symm.trans hu2)
    subst eu
    refine ⟨_, rfl, wpAny_letOwnedTupleGo_enum (s := { s with heap := h', toks := tk + 1 }) ho fun h'' he' sb => ?_⟩
    have new : ObjOk X.prog X.w (upd H s.heap.objs.size (.tup [.int (i : Nat), x])) h'' s.heap.objs.size (.tup [.int (i : Nat), x]) :=
      ⟨by show 2 ≤ sizeLine; decide, [.int i tk, u'], .cons ⟨_, rfl⟩ (.cons ru .nil), _, (sb.2 _ (Nat.ne_of_gt le)).trans hT, rfl, _, rfl⟩
    have kp : ∀ b ob, b ∉ [e, it] → s.heap.get? b = some ob → h''.get? b = some ob := fun b ob hb q => by
      have n1 : b ≠ e := fun z => hb (by simp [z])
      have n2 : b ≠ it := fun z => hb (by simp [z])
      exact (sb.2 b n1).trans (hk b ob n1 n2 q)
    refine ⟨.ref s.heap.objs.size, _, I.turnedNew (t' := tk + 1) kp hf (Nat.le_refl _) new, rfl, ⟨_, x, rfl, I.hok.fresh (Nat.le_refl _), rfl, fun ys hy => by rw [I.tuple_inj hy hq]; exact hx⟩, ⟨⟨u', ?_⟩, st'.1.at fun o q => (sb.2 it h1.symm).trans q⟩, fun b hb => ?_⟩
    · rw [show ((i + 1 : Nat) : Int) = (i : Int) + 1 by omega]
      exact he'
    · have hb' : b < s.heap.objs.size := by
        rcases List.mem_cons.mp hb with rfl | hb
        · exact le
        · rw [List.mem_singleton.mp hb]; exact li
      rw [upd_ne (Nat.ne_of_lt hb')]
      exact (hf b hb).1
  done := by
    intro X hP hw hK hc i pins s σ H E I hf st hg
    subst hP hw hK
    obtain ⟨⟨old, he⟩, hit⟩ := st
    obtain ⟨xs, hq, hx⟩ := hg
    obtain ⟨its, rv, p, hz⟩ := I.tuple hq
    have hlen := rv.length
    obtain ⟨f0, f1, f2, f3, f4, f5⟩ := hf it (by simp)
    obtain ⟨o, ho, hc', hd⟩ := id hit
    have D := Draws.tuple (prog := X.prog) (w := X.w) (A := X.A.in1) (I.ok.hd hc) it a h3 its.toArray
    -- the tuple's iterator stands at its end, or beyond
    unfold pyNext
    have hT : s.TypeIs (.ref e) "enumerate" := ⟨_, he, rfl⟩
    refine wpAny_bind (wpAny_attempt (wpAny_callSpecial?_slot (name := Str.ofString "__next__") hT F.slot_enumerate_next (wpAny_call_entry F.slot_enumerate_next hT F.entry_enumerate_next ?_ (F.args_enumerate_next_1 _))))
    show wpAny _ _ (field (.ref e) 2 >>= _) _ _ _
    refine wpAny_bind (wpAny_field he rfl (x := .ref it) rfl (wpAny_bind (wpAny_nextOf_tuple_end (I.ok.hd hc) hit p (by simp; omega) fun h' x he' hx' => ?_)))
    obtain ⟨ob, hob, hcb⟩ := hx'
    refine wpAny_bind (wpAny_isInstance (T := "StopIteration") (b := true) ⟨ob, hob, hcb⟩ isSubtype_stop (wpAny_pure ?_))
    exact ⟨rfl, I.turned (t' := s.toks) (fun b o hb q => he' b o hb q) f0 f1 f3 f4 f5⟩
  self := fun A i s Q E st h => by
    obtain ⟨⟨_, he⟩, _⟩ := st
    exact wpAny_pyIter_enum he h
def iEnumA (K : PySem.W.Frag) (ta : TA) : TI := fun σ H R => ta σ H fun vs H1 => ∃ a, vs = [.ref a] ∧ (((∃ xs, SqL K H1 a xs) ∧ R (Ite K a) H1) ∨ ((∃ xs, SqT K H1 a xs) ∧ R (IteT K a) H1))
theorem pi_enumA {X : Cx} {e : Expr} {ta : TA} {p pos tpos : Pos} {elts : List Expr} {kk : Nat} (hg : Gl X "enumerate") (hm : X.mg "enumerate" = none) (ha : PA X [e] ta) (hs : starEach [e] X.env = [(false, eval e X.env)] := by rfl) :
    PI X (.Tuple elts kk tpos) (.Call (.Name "enumerate" p) [e] [] pos) (iEnumA X.K ta) := by
  refine ⟨fun pins s σ H R I h => Call_ (ld_blt I hg hm boot_enumerate (PyProof.Rows.callWith_type1 (thn (ha.run pos pins s σ H _ I h) fun us s1 ⟨vs, H1, I1, r1, q1⟩ => ?_) hs rfl))⟩
  obtain ⟨a, rfl, q⟩ := q1
  obtain ⟨u, rfl, ru⟩ := r1.one
  cases ru
  have hfp : ∀ b ∈ [s1.heap.objs.size + 1, s1.heap.objs.size], FpOk X pins H1 b := fun b hb => by
    have hle : s1.heap.objs.size ≤ b := by
      rcases List.mem_cons.mp hb with rfl | hb
      · exact Nat.le_succ _
      · rw [List.mem_singleton.mp hb]; exact Nat.le_refl _
    exact I1.fpOk hle (I1.hok.fresh hle)
  rcases q with ⟨⟨xs, hq⟩, q⟩ | ⟨⟨xs, hq⟩, q⟩
  · obtain ⟨its, rv, p', hz⟩ := I1.list hq
    refine call_enumV (begins_list a its.toArray) p'.isList fun h' he hit hk => wpAny_pyIter_enum he ?_
    exact ⟨_, _, _, _, H1, rfl, I1.kept (t' := s1.toks) hk, turn_enum a (s1.heap.objs.size + 1) s1.heap.objs.size, ⟨⟨.none, he⟩, ⟨_, hit, rfl, rfl⟩, Nat.succ_ne_self _⟩, hfp, q⟩
  · obtain ⟨its, rv, p', hz⟩ := I1.tuple hq
    have la : a < s1.heap.objs.size := by obtain ⟨o, ho, _⟩ := id p'; exact Heap.lt_size ho
    refine call_enumV (begins_tuple a its.toArray) p' fun h' he hit hk => wpAny_pyIter_enum he ?_
    exact ⟨_, _, _, _, H1, rfl, I1.kept (t' := s1.toks) hk, turn_enumT a (s1.heap.objs.size + 1) s1.heap.objs.size (Nat.succ_ne_self _) (Nat.ne_of_gt (Nat.lt_succ_of_lt la)) (Nat.ne_of_lt la), ⟨⟨.none, he⟩, ⟨_, hit, rfl, rfl⟩⟩, hfp, q⟩
section
variable {K : PySem.W.Frag} {S : Sh} {σ : L2.St} {H : Hp} {tr : TA} {ds : List PyData} {a : Addr} {xs : List V}
theorem walk_enumT : Walk (IteT K a) xs.length (fun H => SqT K H a xs) (YPair (fun i => some (.int (i : Nat))) (fun i => xs[i]?)) :=
  ⟨fun i _ hi q => ⟨xs, xs[i], q, by simp [hi]⟩, fun _ q => ⟨xs, q, Nat.le_refl _⟩, fun i H v H' _ q ⟨T, x, h1, h2, h3, h4⟩ => ⟨T, _, x, h1, h2, h3, rfl, h4 xs q⟩⟩
/-- index and data -/
def enumD (ds : List PyData) : List PyData := ds.zipIdx.map fun p => .tuple [.int (p.2 : Nat), p.1]
theorem enumD_len (ds : List PyData) : (enumD ds).length = ds.length := by simp [enumD]
theorem enumD_at {ds : List PyData} {i : Nat} {d : PyData} (h : ds[i]? = some d) : (enumD ds)[i]? = some (.tuple [.int (i : Nat), d]) := by
  unfold enumD
  rw [List.getElem?_map, List.getElem?_zipIdx, h]
  simp
theorem walkE {J : It} {G : Hp → Prop} (hG : ∀ S2 H3, Step S H S2 H3 → G H3) (w : Walk J xs.length G (YPair (fun i => some (.int (i : Nat))) (fun i => xs[i]?))) (hs : DsAll K S H xs ds) :
    Walk J (enumD ds).length (fun H3 => ∃ S2, Step S H S2 H3) (fun i H3 v H4 => Same H3 H4 ∧ ∃ d, (enumD ds)[i]? = some d ∧ ∀ S2, Step S H S2 H3 → Ds K S2 H4 v d) := by
  rw [enumD_len, ← hs.length]
  refine w.mono (fun H3 ⟨S2, z⟩ => hG S2 H3 z) fun i H3 v H4 hi _ ⟨T, x, y, e1, nT, e4, ex, ey⟩ => ?_
  subst e1 e4
  cases ex
  obtain ⟨d, ed, hd⟩ := hs.get ey
  exact ⟨same_upd nT, _, enumD_at ed, fun S2 z => new_tup z.live nT (.cons (.int _) (.cons (hd.step z) .nil))⟩
theorem si_enum {k : Bool} (h : SA K S tr σ H [seqD k ds]) : SI K S (iEnumA K tr) σ H (enumD ds) := fun S1 H1 n R q => h S1 H1 n _ fun vs H2 s2 hx => by
  obtain ⟨v, rfl, hv⟩ := hx.one
  cases k with
  | true =>
    obtain ⟨a, xs, rfl, l, hs⟩ := Ds.l hv
    exact ⟨a, rfl, .inl ⟨⟨xs, l.sq⟩, q _ _ s2 (walkE (fun S2 H3 z => Or.inl (.inl (at_step z l.1 l.2).2)) walk_enum hs)⟩⟩
  | false =>
    obtain ⟨a, xs, rfl, l, hs⟩ := Ds.t hv
    exact ⟨a, rfl, .inr ⟨⟨xs, l.sq⟩, q _ _ s2 (walkE (fun S2 H3 z => Or.inl (.inl (at_step z l.1 l.2).2)) walk_enumT hs)⟩⟩
/-- for i, (a, b) in enumerate(..) -/
theorem g_enum2 {i j m : Nat} {v : V} {n d1 d2 : PyData} {Q : L2.St → Hp → Prop} (h : Ds K S H v (.tuple [n, .tuple [d1, d2]])) (k : ∀ x y z, Ds K S H x n → Ds K S H y d1 → Ds K S H z d2 → Q (((σ.set i (some x)).set j (some y)).set m (some z)) H) :
    gTup K 2 (gCons (gName i) (gCons (gTup K 2 (gCons (gName j) (gCons (gName m) gNil))) gNil)) v σ H Q := by
  obtain ⟨a, xs, rfl, l, hs⟩ := h.t
  obtain ⟨x, y, rfl, hx, hy⟩ := hs.two
  refine ⟨a, _, rfl, l.sq, rfl, x, _, rfl, y, _, rfl, ?_⟩
  exact g_tup2 hy fun z w hz hw => ⟨rfl, k x z w hx hz hw⟩
end

/-! ### list.count of texts -/
def eqS (k : Str) (v : Value) : Bool := match v with
  | .str n _ => n == k
  | _ => false
theorem eqS_at {A : Around} {s : Shared} {k : Str} {t : Tok} : ∀ {xs : List Str} {us : List Value}, Vals (xs.map V.str) us → ∀ y ∈ us, SeqAt.EqAt A s y (.str k t) (eqS k y)
  | [], _, h => fun y hy => by cases h; cases hy
  | x :: xs, _, h => fun y hy => by
    cases h with
    | cons r rs =>
      obtain ⟨u, rfl⟩ := r
      rcases List.mem_cons.mp hy with rfl | hy
      · exact SeqAt.EqAt.str_str x u k t
      · exact eqS_at rs y hy
theorem eqS_count {k : Str} : ∀ {xs : List Str} {us : List Value}, Vals (xs.map V.str) us → us.countP (eqS k) = xs.count k
  | [], _, h => by cases h; rfl
  | x :: xs, _, h => by
    cases h with
    | cons r rs =>
      obtain ⟨u, rfl⟩ := r
      rw [List.countP_cons, List.count_cons, eqS_count rs]
      rfl
def rCntS (K : PySem.W.Frag) : V → List V → Hp → VK → Prop := fun x xs H Q => ∃ (p : Addr) (ns : List Str) (k : Str), x = .ref p ∧ xs = [.str k] ∧ SqL K H p (ns.map V.str) ∧ Q (.int (ns.count k : Nat)) H
theorem mt_countS {X : Cx} : MtR X "list.count" (rCntS X.K) := by
  intro pins s σ H x xs v us Q I rx rxs h
  obtain ⟨p, ns, k, rfl, rfl, hs, q⟩ := h
  cases rx
  obtain ⟨u, rfl, t, rfl⟩ := rxs.one
  obtain ⟨its, rv, ⟨o, n, ho, hc, hdn, hd⟩, hlen⟩ := I.list hs
  obtain ⟨cls, dd, data, sl⟩ := o
  simp only at hc hd
  subst hc hd
  refine call_meets PySem.F.slot_list_count ⟨_, ho, rfl⟩ PySem.F.entry_list_count (PySem.F.args_list_count_2 _ _) (SeqAt.list_countAt p its.toArray n dd sl (.str k t) (eqS k)) ⟨ho, fun y hy => eqS_at rv y (by simpa using hy), ?_⟩
  refine ⟨.int (ns.count k : Nat), H, I.tok _, ⟨s.toks, ?_⟩, q⟩
  rw [← eqS_count rv]
end My

set_option Elab.async false
set_option linter.all false
set_option maxRecDepth 100000
/-! own classes: made with *rows, str(o), classmethods by keyword; list.remove of texts. -/
namespace My
open PySem PySem.Spec PyProof.Rows L2 StX ClX
section
variable {X : Cx} {CX : CXT} {k i : Nat} {f C : Addr} {sp : Sp} {E : XK} {x : Str} {e : Expr} {te : TE} {p pos spos : Pos}
/-- C() -/
theorem pe_makeR0 (M : Mk X.K C f) (F : FnR X.prog X.w X.K X.mg X.base CX k f sp) (hr : Room (k + 1) X.A) (hg : Gl X x) (hm : X.mg x = some (.ref C)) (hx : Passes CX X E) (hdb : (x == ("__debug__" : Str)) = false := by decide) : PE X (.Call (.Name x p) [] [] pos) (tMakeR C sp E tNil) := by
  refine ⟨fun pins s σ H Q I h => wpAny_Call_Name_kw (ld_glob I hg hm ?_ hdb)⟩
  exact PySem.W.callWith_K0 I.kIn M.kp (run_makeR (us := []) M F hr hx I .nil h)
/-- C(*e) -/
def tMakeS (K : PySem.W.Frag) (C : Addr) (sp : Sp) (E : XK) (te : TE) : TE := fun σ H Q => te σ H fun y H1 => ∃ a xs, y = V.ref a ∧ (SqT K H1 a xs ∨ SqL K H1 a xs) ∧ ∀ x dx, H1 x = none → H1 dx = none → dx ≠ x →
  sp (V.ref x :: xs) (upd (upd H1 dx (.own x)) x (.ins C dx [])) (fun v H2 => v = .non ∧ Q (.ref x) H2) E
theorem pe_makeS1 (M : Mk X.K C f) (F : FnR X.prog X.w X.K X.mg X.base CX k f sp) (hr : Room (k + 1) X.A) (hg : Gl X x) (hm : X.mg x = some (.ref C)) (hx : Passes CX X E) (he : PE X e te) (hd : (x == ("__debug__" : Str)) = false := by decide)
    (hst : starEach [.Starred e spos] X.env = [(true, eval e X.env)] := by rfl) : PE X (.Call (.Name x p) [.Starred e spos] [] pos) (tMakeS X.K C sp E te) := by
  refine ⟨fun pins s σ H Q I h => wpAny_Call_Name_kw (ld_glob I hg hm ?_ hd)⟩
  refine PySem.W.callWith_S (h₀ := X.base) I.ok.mod.kin M.kp (thn (he.run pins s σ H _ I h) fun v s1 ⟨y, H1, I1, ry, a, xs, ey, hxs, q⟩ => ?_) hst
  subst ey
  cases ry
  exact star_any I1 hxs fun us s2 I2 rv => ⟨I2.kIn, run_makeR M F hr hx I2 rv q⟩
/-- c(*e), c a local that holds the class -/
theorem pe_makeVS (M : Mk X.K C f) (F : FnR X.prog X.w X.K X.mg X.base CX k f sp) (hr : Room (k + 1) X.A) (hx : Passes CX X E) (he : PE X e te) (hN : X.N[i]? = some x := by rfl)
    (hv : Vis X.env.scope x := by first | exact Or.inl rfl | exact Or.inr (Or.inl rfl) | exact Or.inr (Or.inr rfl)) (hd : (x == ("__debug__" : Str)) = false := by decide) (hcd : (x == ("__classdict__" : Str)) = false := by decide)
    (hst : starEach [.Starred e spos] X.env = [(true, eval e X.env)] := by rfl) : PE X (.Call (.Name x p) [.Starred e spos] [] pos) (fun σ H Q => σ[i]? = some (some (.ref C)) ∧ tMakeS X.K C sp E te σ H Q) := by
  refine ⟨fun pins s σ H Q I h => ?_⟩
  obtain ⟨h0, h⟩ := h
  refine wpAny_Call_Name_kw (thn ((pe_var (X := X) hN hv hd hcd).run pins s σ H (fun y H1 => y = .ref C ∧ H1 = H) I ⟨_, h0, rfl, rfl⟩) fun u s0 ⟨y, H0, I0, r0, e0, e1⟩ => ?_)
  subst e0 e1
  cases r0
  refine PySem.W.callWith_S (h₀ := X.base) I0.ok.mod.kin M.kp (thn (he.run pins s0 σ _ _ I0 h) fun v s1 ⟨y, H1, I1, ry, a, xs, ey, hxs, q⟩ => ?_) hst
  subst ey
  cases ry
  exact star_any I1 hxs fun us s2 I2 rv => ⟨I2.kIn, run_makeR M F hr hx I2 rv q⟩
end
/-! ### str(o) by an own __str__ -/
theorem call_strOwn {X : Cx} {CX : CXT} {k : Nat} {C f : Addr} {sp : Sp} {E : XK} (hs : PySem.W.findIn X.K (.ref C) "__str__" = some (some (.ref f))) (hf : PySem.W.isFn X.K (.ref f) = true) (F : FnR X.prog X.w X.K X.mg X.base CX k f sp) (hr : Room (k + 2) X.A)
    (hx : Passes CX X E) : CallR X (.type "str") (fun xs H Q => ∃ a dx fs, xs = [.ref a] ∧ H a = some (.ins C dx fs) ∧ sp [.ref a] H (fun v H' => (∃ x, v = .str x) ∧ Q v H') E) := by
  intro pins s σ H xs us Q I r h
  obtain ⟨a, dx, fs, rfl, ha, q⟩ := h
  obtain ⟨u, rfl, ru⟩ := r.one
  cases ru
  obtain ⟨mA, J, _⟩ := ins_get I.hok ha
  obtain ⟨od, J, _⟩ := J.look
  have hr1 : Room (k + 1) X.A.in1 := hr.in1
  have hr2 : Room k X.A.in1.in1 := hr1.in1
  refine PySem.W.kso_call hr2.units0 I.kIn J hs hf ?_
  have e0 : Env0 X.prog X.w X.K X.mg X.base X.A.in1.in1 X.stack s H := I.env0.in1.in1
  refine wpAny_call (codeAny_mono (F X.A.in1.in1 X.stack s H [.ref a] [.ref a] _ E hr2 e0 (.cons rfl .nil) q) fun r s' hq => ?_)
  cases r with
  | error e => exact hx pins σ H s e s' I hq
  | ok fl =>
    cases fl with
    | ret w =>
      obtain ⟨z, H', I', rz, ⟨x, ez⟩, qz⟩ := I.after hq
      subst ez
      obtain ⟨t, ew⟩ := rz
      subst ew
      exact ⟨.str x, H', I', ⟨t, rfl⟩, qz⟩
    | next => exact False.elim hq
    | brk => exact False.elim hq
    | cont => exact False.elim hq
/-! ### C.m(k=..) -/
def tCMethK (C : Addr) (n : Nat) (sp : Sp) (gV : List V → List V → List V) (E : XK) (ta : TE) (tk : TA) : TE := fun σ H Q => ta σ H fun x H1 => x = .ref C ∧ tk σ H1 fun zs H2 => zs.length = n ∧ sp (gV [.ref C] zs) H2 Q E
section
variable {X : Cx} {CX : CXT} {k : Nat} {C p g : Addr} {mc : Value} {sp : Sp} {E : XK} {o : Expr} {kws : List Keyword} {m : Str} {pos apos : Pos} {ta : TE} {tk : TA} {pl : Sem Bool} {fd : FuncData} {ps ks : List Str} {gg : List Value → List Value → List Value} {gV : List V → List V → List V}
theorem pe_cmethK (he : PE X o ta) (r : CRead X.K C mc) (c : CMet X.K C mc m p g) (F : FnOk X.prog X.w X.K X.mg X.base CX k g fd ps sp) (hr : Room k X.A) (hb : KBn X.K fd ps 1 ks gg gV) (hx : Passes CX X E) (hkw : PK X kws tk)
    (named : (backToKw pos (keywordEach kws X.env)).all (·.1.isSome) = true := by rfl) (names : (backToKw pos (keywordEach kws X.env)).filterMap (·.1) = ks := by rfl)
    (plain : ((backTo pos (starEach [] X.env)).any (·.1) || (backToKw pos (keywordEach kws X.env)).any (·.1.isNone)) = false := by rfl)
    (ht : eval (.Call (.Attribute o m apos) [] kws pos) X.env = (do
      let ov ← eval o X.env
      standAt apos.atName
      let (f, first) ← holding [ov] (getMethod ov m pl)
      callWith pos f first (backTo pos (starEach [] X.env)) (backToKw pos (keywordEach kws X.env))) := by rfl) :
    PE X (.Call (.Attribute o m apos) [] kws pos) (tCMethK C ks.length sp gV E ta tk) := by
  refine ⟨fun pins s σ H Q I h => ?_⟩
  refine PySem.W.methodCall_KW (pl := pl) (thn (he.run pins s σ H _ I h) fun u s1 ⟨x, H1, I1, rx, ex, q⟩ => ?_) ht
  subst ex
  cases rx
  refine getmethcm_ok I1 r c fun s2 I2 => ?_
  have hall : ((backToKw pos (keywordEach kws X.env)).all (·.1.isSome)) = true := named
  refine PySem.W.callWith_of plain (PySem.W.keeps_M (K := X.K) c.fi) (PyProof.Rows.evalArgs_kw2_nil hall (thn (hkw.run pos _ s2 σ H1 _ I2 q) fun ws s3 ⟨zs, H3, I3, rz, hl, hq⟩ => ⟨⟨pin_at I3, I3.kIn⟩, ?_⟩))
  rw [names]
  have I4 := unpin I3
  have r2 : Vals (gV [.ref C] zs) (gg [.ref C] ws) := hb.rel (.cons rfl .nil) rz
  refine wpAny_call (PySem.W.method_call (pin_at I3) (codeAny_mono (F.run X.A X.stack s3 H3 ⟨[.ref C], ks.zip ws⟩ (gg [.ref C] ws) (gV [.ref C] zs) _ E hr I4.env0 (hb.to s3 [.ref C] ws I4.kIn rfl (rz.length.symm.trans hl)) r2 hq) fun r s' hq' => ?_))
  cases r with
  | error e => exact hx pins σ H3 s3 e s' I4 hq'
  | ok fl =>
    cases fl with
    | ret u => exact I4.after hq'
    | next => exact False.elim hq'
    | brk => exact False.elim hq'
    | cont => exact False.elim hq'
end
/-! ### list.remove of texts -/
theorem erase_mapS : ∀ (l : List Str) (j : Nat), (l.map V.str).eraseIdx j = (l.eraseIdx j).map V.str
  | [], j => by simp
  | a :: r, 0 => by simp
  | a :: r, j + 1 => by simp [erase_mapS r j]
theorem eqS_gives {k : Str} {t : Tok} : ∀ {xs : List Str} {us : List Value}, Vals (xs.map V.str) us → ∀ y ∈ us, MeetsSeq.EqGives y (.str k t) (eqS k y)
  | [], _, h => fun y hy => by cases h; cases hy
  | x :: xs, _, h => fun y hy => by
    cases h with
    | cons r rs =>
      obtain ⟨u, rfl⟩ := r
      rcases List.mem_cons.mp hy with rfl | hy
      · show MeetsSeq.EqGives _ _ (x == k)
        rw [← SeqAt.str_beq]
        exact SeqRoads2.EqGives.str x k u t
      · exact eqS_gives rs y hy
def rRemS : V → List V → Hp → VK → Prop := fun x xs H Q => ∃ (l : Addr) (ns : List Str) (k : Str) (j : Nat), x = .ref l ∧ xs = [.str k] ∧ H l = some (.lst (ns.map V.str)) ∧ ns[j]? = some k ∧ (∀ m : Nat, m < j → ns[m]? ≠ some k) ∧ Q .non (upd H l (.lst ((ns.eraseIdx j).map V.str)))
theorem vals_str {xs : List Str} {us : List Value} (r : Vals (xs.map V.str) us) {j : Nat} {x : Str} (h : xs[j]? = some x) : ∃ t, us[j]? = some (.str x t) := by
  obtain ⟨u, hu, t, rfl⟩ := r.get (i := j) (x := .str x) (by rw [List.getElem?_map, h]; rfl)
  exact ⟨t, hu⟩
theorem mt_removeS {X : Cx} : MtM X "list.remove" rRemS := by
  intro pins s σ H x xs v us Q I rx rxs h
  obtain ⟨l, ns, k, j, rfl, rfl, hH, hj, hno, q⟩ := h
  cases rx
  obtain ⟨u, rfl, t, rfl⟩ := rxs.one
  obtain ⟨z, its, n, r, hl, e⟩ := I.lstM hH
  rw [List.length_map] at hl z
  have hjn : j < ns.length := (List.getElem?_eq_some_iff.mp hj).1
  have at_ : ∀ m (h : m < its.toArray.size) x, ns[m]? = some x → ∃ t, its.toArray[m] = .str x t := fun m h x hx => by
    obtain ⟨t, ht⟩ := vals_str r hx
    obtain ⟨_, h2⟩ := List.getElem?_eq_some_iff.mp ht
    exact ⟨t, by simpa using h2⟩
  refine call_meets PySem.F.slot_list_remove ⟨_, e, rfl⟩ PySem.F.entry_list_remove (PySem.F.args_list_remove_2 _ _)
    (MeetsSeq.list_remove l its.toArray n (.str k t) (eqS k) (fun y hy => eqS_gives r y (by simpa using hy)) j (by rw [List.size_toArray]; omega) ?_ ?_ (by rw [List.size_toArray]; omega)) ⟨e, ?_⟩
  · obtain ⟨tj, e1⟩ := at_ j (by rw [List.size_toArray]; omega) k hj
    rw [e1]
    exact beq_self_eq_true k
  · intro m hm hmj
    obtain ⟨tm, e1⟩ := at_ m hm _ (List.getElem?_eq_getElem (by omega))
    rw [e1]
    exact beq_eq_false_iff_ne.mpr fun e2 => hno m hmj (by rw [List.getElem?_eq_getElem (by omega), e2])
  · have rr := r.eraseIdx j
    rw [erase_mapS] at rr
    refine ⟨.non, _, I.lset (its' := its.eraseIdx j) (t' := s.toks) hH e ?_ rr ?_, rfl, q⟩
    · rw [← List.eraseIdxIfInBounds_toArray]
    · rw [List.length_map]
      have := List.length_eraseIdx_le ns j
      omega
end My

set_option Elab.async false
set_option linter.all false
set_option maxRecDepth 100000
/-! More worths: len, items, slices, isinstance, texts. -/
namespace My
open PySem PySem.Spec PyProof.Rows L2
section
variable {K : PySem.W.Frag} {S S' : Sh} {σ : L2.St} {H H' : Hp} {ta tb te tc : TE} {tr tk : TA} {tt tu : TT} {d e : PyData} {ds es : List PyData} {v : V} {b c k : Bool}
theorem sv_cb {r : List V → Hp → VK → Prop} {f : PyData} (ha : SA K S tr σ H ds) (hr : ∀ S' H1 vs (Q : VK), Live S' H1 → DsAll K S' H1 vs ds → (∀ v H2, Same H1 H2 → Ds K S' H2 v f → Q v H2) → r vs H1 Q) : SV K S (tCB r tr) σ H f := fun S1 H1 n Q q =>
  ha S1 H1 n _ fun vs H2 s2 hs => hr S1 H2 vs Q (n.live.same s2) hs fun v H3 s3 hv => q v H3 (s2.trans s3) hv
/-- a list's or a tuple's items -/
theorem Ds.sq (h : Ds K S H v (seqD k ds)) : ∃ a xs, v = .ref a ∧ (SqL K H a xs ∨ SqT K H a xs) ∧ DsAll K S H xs ds := by
  cases k with
  | true => obtain ⟨a, xs, e, l, hs⟩ := Ds.l h; exact ⟨a, xs, e, .inl l.sq, hs⟩
  | false => obtain ⟨a, xs, e, l, hs⟩ := Ds.t h; exact ⟨a, xs, e, .inr l.sq, hs⟩
theorem sv_len (h : SV K S ta σ H (seqD k ds)) : SV K S (tCB (fun xs H Q => ∃ x n, xs = [x] ∧ LenV K x H n ∧ Q (.int (n : Nat)) H) (tCons ta tNil)) σ H (.int (ds.length : Nat)) := sv_cb (sa_cons h sa_nil) fun S1 H1 vs Q l hs q => by
  obtain ⟨v, rfl, hv⟩ := hs.one
  obtain ⟨a, xs, rfl, hq, hx⟩ := hv.sq
  refine ⟨_, ds.length, rfl, ?_, q _ _ (Same.refl _) (.int _)⟩
  rw [← hx.length]
  exact hq.imp (fun z => ⟨xs, z, rfl⟩) fun z => ⟨xs, z, rfl⟩
theorem sv_lenL (h : SV K S ta σ H (.list ds)) : SV K S (tCB (fun xs H Q => ∃ x n, xs = [x] ∧ LenV K x H n ∧ Q (.int (n : Nat)) H) (tCons ta tNil)) σ H (.int (ds.length : Nat)) := sv_len (k := true) h
theorem sv_lenT (h : SV K S ta σ H (.tuple ds)) : SV K S (tCB (fun xs H Q => ∃ x n, xs = [x] ∧ LenV K x H n ∧ Q (.int (n : Nat)) H) (tCons ta tNil)) σ H (.int (ds.length : Nat)) := sv_len (k := false) h
theorem DsAll.atI {i : Int} {xs : List V} (h : DsAll K S H xs ds) (e : L2.atI ds i = some d) : ∃ v, L2.atI xs i = some v ∧ Ds K S H v d := by
  unfold L2.atI at e ⊢
  rw [h.length]
  cases z : ixN ds.length i with
  | none => rw [z] at e; cases e
  | some j =>
    rw [z] at e
    exact h.at (i := j) e
theorem sv_ix {i : Int} (ha : SV K S ta σ H (seqD k ds)) (hb : SV K S tb σ H (.int i)) (he : L2.atI ds i = some d) : SV K S (tOp (rIx K) ta tb) σ H d := sv_op ha hb fun S1 H1 x y Q l hx hy q => by
  cases k with
  | true =>
    obtain ⟨a, xs, rfl, l, hs⟩ := Ds.l hx
    obtain ⟨v, e1, hv⟩ := hs.atI he
    exact .inl ⟨a, xs, i, v, rfl, hy.i, l.sq, e1, q _ _ (Same.refl _) hv⟩
  | false =>
    obtain ⟨a, xs, rfl, l, hs⟩ := Ds.t hx
    obtain ⟨v, e1, hv⟩ := hs.atI he
    exact .inr (.inl ⟨a, xs, i, v, rfl, hy.i, l.sq, e1, q _ _ (Same.refl _) hv⟩)
theorem sv_ixL {i : Int} (ha : SV K S ta σ H (.list ds)) (hb : SV K S tb σ H (.int i)) (he : L2.atI ds i = some d) : SV K S (tOp (rIx K) ta tb) σ H d := sv_ix (k := true) ha hb he
theorem sv_ixA {i : Int} (ha : SV K S ta σ H (.tuple ds)) (hb : SV K S tb σ H (.int i)) (he : L2.atI ds i = some d) : SV K S (tOp (rIx K) ta tb) σ H d := sv_ix (k := false) ha hb he
theorem sv_ixT {i : Int} (ha : SV K S ta σ H (.tuple ds)) (hb : SV K S tb σ H (.int i)) (he : L2.atI ds i = some d) : SV K S (tOp (rIxT K) ta tb) σ H d := sv_op ha hb fun S1 H1 x y Q l hx hy q => by
  obtain ⟨a, xs, rfl, l, hs⟩ := Ds.t hx
  obtain ⟨v, e1, hv⟩ := hs.atI he
  exact ⟨a, xs, i, v, rfl, hy.i, l.sq, e1, q _ _ (Same.refl _) hv⟩
theorem atI_of {α : Type} {xs : List α} {j : Nat} {x : α} (h : xs[j]? = some x) : L2.atI xs (j : Int) = some x := L2.atI_nat h
/-- an item of a list that may change, as it stands -/
theorem sv_ixM {p : Addr} {xs : List V} {i : Nat} {j : Int} (hi : σ[i]? = some (some (.ref p))) (hp : H p = some (.lst xs)) (hb : SV K S tb σ H (.int j)) (he : L2.atI xs j = some v) (hv : Ds K S H v d) : SV K S (tOp (rIx K) (tVar i) tb) σ H d := fun S1 H1 n Q q =>
  ⟨_, hi, hb S1 H1 n _ fun w H2 s2 hw => .inl ⟨p, xs, j, v, rfl, hw.i, .inl (.inl (s2 _ _ (n.same _ _ hp))), he, q _ _ s2 ((hv.now n).same s2)⟩⟩
theorem sv_countS {ys : List Str} {x : Str} (ha : SV K S ta σ H (.list (ys.map PyData.str))) (hb : SV K S tb σ H (.str x)) : SV K S (tBM K "list" (rCntS K) ta (tCons tb tNil)) σ H (.int (ys.count x : Nat)) := fun S1 H1 n Q q =>
  ha S1 H1 n _ fun v H2 s2 hv => by
    obtain ⟨a, xs, rfl, l, hs⟩ := Ds.l hv
    rw [hs.strs] at l
    refine ⟨.inl ⟨rfl, _, l.sq⟩, hb S1 H2 (n.then s2) _ fun w H3 s3 hw => ⟨a, ys, x, rfl, by rw [hw.s], .inl (.inl (s3 _ _ l.2)), q _ _ (s2.trans s3) (.int _)⟩⟩
/-- cut -/
def cutD {α : Type} (xs : List α) (lo hi : Option Int) : List α := (xs.drop (HT.sIx xs.length 0 lo)).take (HT.sIx xs.length xs.length hi - HT.sIx xs.length 0 lo)
theorem DsAll.cut {xs : List V} (h : DsAll K S H xs ds) (lo hi : Option Int) : DsAll K S H (cutV xs lo hi) (cutD ds lo hi) := by
  unfold cutV cutD
  rw [h.length]
  exact (h.drop _).take _
theorem cutD_to {α : Type} (xs : List α) (n : Nat) : cutD xs none (some (n : Int)) = xs.take n := by
  unfold cutD
  rw [HT.sIx_none, HT.sIx_nat, Nat.sub_zero, List.drop_zero]
  rcases Nat.le_total n xs.length with h | h
  · rw [Nat.min_eq_left h]
  · rw [Nat.min_eq_right h, List.take_of_length_le (Nat.le_refl _), List.take_of_length_le h]
theorem cutD_from {α : Type} (xs : List α) (n : Nat) : cutD xs (some (n : Int)) none = xs.drop n := by
  unfold cutD
  rw [HT.sIx_none, HT.sIx_nat]
  rcases Nat.le_total n xs.length with h | h
  · rw [Nat.min_eq_left h, List.take_of_length_le (by rw [List.length_drop]; exact Nat.le_refl _)]
  · rw [Nat.min_eq_right h, List.drop_of_length_le (Nat.le_refl _), List.drop_of_length_le h]
    simp
theorem cutD_len {α : Type} (xs : List α) (lo hi : Option Int) : (cutD xs lo hi).length ≤ xs.length := by
  unfold cutD
  rw [List.length_take, List.length_drop]
  omega
def SP (K : PySem.W.Frag) (S : Sh) (tl : TO) (σ : L2.St) (H : Hp) (o : Option Int) : Prop := ∀ S' H', Now S H S' H' → ∀ Q : Option Int → Hp → Prop, (∀ H2, Same H' H2 → Q o H2) → tl σ H' Q
theorem sp_no : SP K S tNoPart σ H none := fun _ _ _ _ q => q _ (Same.refl _)
theorem sp_some {i : Int} (h : SV K S te σ H (.int i)) : SP K S (tPart te) σ H (some i) := fun S1 H1 n Q q => h S1 H1 n _ fun v H2 s2 hv => ⟨i, hv.i, q _ s2⟩
theorem sv_slL {tl th : TO} {lo hi : Option Int} (h : SV K S te σ H (.list ds)) (hl : SP K S tl σ H lo) (hh : SP K S th σ H hi) : SV K S (tSl (rSlL K) te tl th) σ H (.list (cutD ds lo hi)) := fun S1 H1 n Q q =>
  h S1 H1 n _ fun v H2 s2 hv => hl S1 H2 (n.then s2) _ fun H3 s3 => hh S1 H3 ((n.then s2).then s3) _ fun H4 s4 => by
    obtain ⟨a, xs, rfl, l, hs⟩ := Ds.l (hv.same (s3.trans s4))
    refine ⟨a, xs, rfl, l.sq, fun p np => q _ _ (((s2.trans s3).trans s4).trans (same_upd np)) (new_lst (n.live.same ((s2.trans s3).trans s4)) np (hs.cut lo hi))⟩
/-- list(x), tuple(x) -/
theorem sv_list (h : SV K S ta σ H (seqD k ds)) : SV K S (tCB (fun xs H Q => ∃ p ys, xs = [.ref p] ∧ (SqL K H p ys ∨ SqT K H p ys) ∧ ∀ l, H l = none → Q (.ref l) (upd H l (.lst ys))) (tCons ta tNil)) σ H (.list ds) := sv_cb (sa_cons h sa_nil) fun S1 H1 vs Q l hs q => by
  obtain ⟨v, rfl, hv⟩ := hs.one
  obtain ⟨a, xs, rfl, hq, hx⟩ := hv.sq
  exact ⟨a, xs, rfl, hq, fun p np => q _ _ (same_upd np) (new_lst l np hx)⟩
theorem sv_listO (h : SV K S ta σ H (.list ds)) : SV K S (tCB (fun xs H Q => ∃ p ys, xs = [.ref p] ∧ SqL K H p ys ∧ ∀ l, H l = none → Q (.ref l) (upd H l (.lst ys))) (tCons ta tNil)) σ H (.list ds) := sv_cb (sa_cons h sa_nil) fun S1 H1 vs Q l hs q => by
  obtain ⟨v, rfl, hv⟩ := hs.one
  obtain ⟨a, xs, rfl, hq, hx⟩ := Ds.l hv
  exact ⟨a, xs, rfl, hq.sq, fun p np => q _ _ (same_upd np) (new_lst l np hx)⟩
def rListOf (K : PySem.W.Frag) : List V → Hp → VK → Prop := fun xs H Q => ∃ p ys, xs = [.ref p] ∧ (SqL K H p ys ∨ SqT K H p ys) ∧ ∀ l, H l = none → Q (.ref l) (upd H l (.lst ys))
theorem call_listK {X : Cx} : CallR X (.type "list") (rListOf X.K) := call_list_of
def rTupOf (K : PySem.W.Frag) : List V → Hp → VK → Prop := fun xs H Q => ∃ p ys, xs = [.ref p] ∧ ((SqL K H p ys ∧ ∀ l, H l = none → Q (.ref l) (upd H l (.tup ys))) ∨ (SqT K H p ys ∧ Q (.ref p) H))
theorem call_tupleK {X : Cx} : CallR X (.type "tuple") (rTupOf X.K) := call_tuple_of
theorem sv_listK (h : SV K S ta σ H (seqD k ds)) : SV K S (tCB (rListOf K) (tCons ta tNil)) σ H (.list ds) := sv_list h
theorem sv_tuple (h : SV K S ta σ H (seqD k ds)) : SV K S (tCB (rTupOf K) (tCons ta tNil)) σ H (.tuple ds) := sv_cb (sa_cons h sa_nil) fun S1 H1 vs Q l hs q => by
  obtain ⟨v, rfl, hv⟩ := hs.one
  cases k with
  | true =>
    obtain ⟨a, xs, rfl, hq, hx⟩ := Ds.l hv
    exact ⟨a, xs, rfl, .inl ⟨hq.sq, fun p np => q _ _ (same_upd np) (new_tup l np hx)⟩⟩
  | false =>
    obtain ⟨a, xs, rfl, hq, hx⟩ := Ds.t hv
    exact ⟨a, xs, rfl, .inr ⟨hq.sq, q _ _ (Same.refl _) hv⟩⟩
/-! ### isinstance -/
theorem sv_isD {n : String} (h : SV K S ta σ H d) (hn : okT n = true) : SV K S (tCB (fun xs H Q => ∃ x n d, xs = [x, .ty n] ∧ okT n = true ∧ Dp K H x d ∧ Q (.bl (isD n d)) H) (tCons ta (tCons (tC (.ty n)) tNil))) σ H (.bool (isD n d)) := fun S1 H1 m Q q =>
  h S1 H1 m _ fun v H2 s2 hv => ⟨v, n, d, rfl, hn, Ds.dp _ _ hv, q _ _ s2 (.bl _)⟩
theorem sv_isD2 {n m : String} (h : SV K S ta σ H d) (hm : okT m = true) (hn : okT n = true) :
    SV K S (tCB (fun xs H Q => ∃ x t m n d, xs = [x, .ref t] ∧ H t = some (.tup [.ty m, .ty n]) ∧ okT m = true ∧ okT n = true ∧ Dp K H x d ∧ Q (.bl (isD m d || isD n d)) H) (tCons ta (tCons (tTup (tCons (tC (.ty m)) (tCons (tC (.ty n)) tNil))) tNil))) σ H (.bool (isD m d || isD n d)) := fun S1 H1 z Q q =>
  h S1 H1 z _ fun v H2 s2 hv => ⟨by show 2 ≤ sizeLine; decide, fun a na => ⟨v, a, m, n, d, rfl, upd_same, hm, hn, Ds.dp _ _ (hv.same (same_upd na)), q _ _ (s2.trans (same_upd na)) (.bl _)⟩⟩
theorem sv_spD {f : PyData → Bool} {E : XK} (h : SV K S ta σ H d) (hf : fine d = true) : SV K S (tCall (spD K f) [] E (tCons ta tNil)) σ H (.bool (f d)) := fun S1 H1 n Q q =>
  h S1 H1 n _ fun v H2 s2 hv => ⟨v, d, rfl, Ds.dp _ _ hv, hf, fun H3 s3 => q _ _ (s2.trans s3) (.bl _)⟩
def isNonD : PyData → Bool
  | .none => true
  | _ => false
theorem Ds.non_is (h : Ds K S H v d) : decide (v = .non) = isNonD d := by cases h <;> rfl
theorem sv_isN (h : SV K S ta σ H d) : SV K S (tOp (fun x y H Q => y = .non ∧ Q (.bl (decide (x = .non))) H) ta (tC .non)) σ H (.bool (isNonD d)) := fun S1 H1 n Q q => h S1 H1 n _ fun v H2 s2 hv => ⟨rfl, q _ _ s2 (by rw [hv.non_is]; exact .bl _)⟩
theorem sv_notN (h : SV K S ta σ H d) : SV K S (tOp (fun x y H Q => y = .non ∧ Q (.bl (!decide (x = .non))) H) ta (tC .non)) σ H (.bool (!isNonD d)) := fun S1 H1 n Q q => h S1 H1 n _ fun v H2 s2 hv => ⟨rfl, q _ _ s2 (by rw [hv.non_is]; exact .bl _)⟩
theorem dec_vs {x y : Str} : decide (V.str x = V.str y) = decide (x = y) := by
  rw [Bool.eq_iff_iff, decide_eq_true_iff, decide_eq_true_iff]
  exact ⟨V.str.inj, fun e => by rw [e]⟩
theorem dec_vi {x y : Int} : decide (V.int x = V.int y) = decide (x = y) := by
  rw [Bool.eq_iff_iff, decide_eq_true_iff, decide_eq_true_iff]
  exact ⟨V.int.inj, fun e => by rw [e]⟩
theorem sv_eqS {x y : Str} (ha : SV K S ta σ H (.str x)) (hb : SV K S tb σ H (.str y)) : SV K S (tOp rEq ta tb) σ H (.bool (decide (x = y))) := sv_op ha hb fun S1 H1 u w Q l hx hy q => by
  rw [hx.s, hy.s]
  exact ⟨rfl, by rw [dec_vs]; exact q _ _ (Same.refl _) (.bl _)⟩
theorem sv_neS {x y : Str} (ha : SV K S ta σ H (.str x)) (hb : SV K S tb σ H (.str y)) : SV K S (tOp rNe ta tb) σ H (.bool (!decide (x = y))) := sv_op ha hb fun S1 H1 u w Q l hx hy q => by
  rw [hx.s, hy.s]
  exact ⟨rfl, by rw [dec_vs]; exact q _ _ (Same.refl _) (.bl _)⟩
theorem sv_eqI {x y : Int} (ha : SV K S ta σ H (.int x)) (hb : SV K S tb σ H (.int y)) : SV K S (tOp rEq ta tb) σ H (.bool (decide (x = y))) := sv_op ha hb fun S1 H1 u w Q l hx hy q => by
  rw [hx.i, hy.i]
  exact ⟨rfl, by rw [dec_vi]; exact q _ _ (Same.refl _) (.bl _)⟩
theorem sv_neI {x y : Int} (ha : SV K S ta σ H (.int x)) (hb : SV K S tb σ H (.int y)) : SV K S (tOp rNe ta tb) σ H (.bool (!decide (x = y))) := sv_op ha hb fun S1 H1 u w Q l hx hy q => by
  rw [hx.i, hy.i]
  exact ⟨rfl, by rw [dec_vi]; exact q _ _ (Same.refl _) (.bl _)⟩
theorem sv_gt {i j : Int} (ha : SV K S ta σ H (.int i)) (hb : SV K S tb σ H (.int j)) : SV K S (tOp (rI0 fun i j => .bl (decide (j < i))) ta tb) σ H (.bool (decide (j < i))) := sv_I0 ha hb fun _ _ => .bl _
theorem sv_ge {i j : Int} (ha : SV K S ta σ H (.int i)) (hb : SV K S tb σ H (.int j)) : SV K S (tOp (rI0 fun i j => .bl (decide (j ≤ i))) ta tb) σ H (.bool (decide (j ≤ i))) := sv_I0 ha hb fun _ _ => .bl _
/-! ### texts -/
theorem sv_addS {x y : Str} (ha : SV K S ta σ H (.str x)) (hb : SV K S tb σ H (.str y)) (hl : x.length + y.length ≤ 100000) : SV K S (tOp (fun x y H Q => ∃ i j, x = .str i ∧ y = .str j ∧ i.length + j.length ≤ sizeLine ∧ Q (.str (i ++ j)) H) ta tb) σ H (.str (x ++ y)) := sv_op ha hb fun S1 H1 u w Q l hx hy q =>
  ⟨x, y, hx.s, hy.s, sz hl, q _ _ (Same.refl _) (.str _)⟩
theorem sv_strI {i : Int} (ha : SV K S ta σ H (.int i)) (hi : i.natAbs.log2 < 1920) : SV K S (tCB (fun xs H Q => ∃ i, xs = [.int i] ∧ i.natAbs.log2 < 1920 ∧ Q (.str (toString i)) H) (tCons ta tNil)) σ H (.str (toString i)) := sv_cb (sa_cons ha sa_nil) fun S1 H1 vs Q l hs q => by
  obtain ⟨v, rfl, hv⟩ := hs.one
  exact ⟨i, by rw [hv.i], hi, q _ _ (Same.refl _) (.str _)⟩
theorem sv_join {x : Str} {ys : List Str} (ha : SV K S ta σ H (.str x)) (hb : SV K S tb σ H (.list (ys.map PyData.str))) (hl : (ys.map (·.length)).sum + ys.length * x.length ≤ 16777216) :
    SV K S (tM1 (fun x xs H Q => ∃ a p, ∃ ys : List Str, x = .str a ∧ xs = [.ref p] ∧ (SqL K H p (ys.map V.str) ∨ SqT K H p (ys.map V.str)) ∧ (ys.map (·.length)).sum + ys.length * a.length ≤ 16777216 ∧ Q (.str (Txt.join a ys)) H) ta tb) σ H (.str (Txt.join x ys)) := fun S1 H1 n Q q =>
  ha S1 H1 n _ fun u H2 s2 hu => ⟨⟨x, hu.s⟩, hb S1 H2 (n.then s2) _ fun w H3 s3 hw => by
    obtain ⟨a, xs, rfl, l, hs⟩ := Ds.l hw
    rw [hs.strs] at l
    exact ⟨x, a, ys, hu.s, rfl, .inl l.sq, hl, q _ _ (s2.trans s3) (.str _)⟩⟩
theorem sv_split {x y : Str} (ha : SV K S ta σ H (.str x)) (hb : SV K S tb σ H (.str y)) (hy : (y.length == 0) = false) (hl : x.length ≤ 50000) :
    SV K S (tM1 (fun x xs H Q => ∃ a b, x = .str a ∧ xs = [.str b] ∧ (b.length == 0) = false ∧ a.length + 2 ≤ sizeLine ∧ rNewStrs (Txt.split a b) H Q) ta tb) σ H (.list ((Txt.split x y).map PyData.str)) := fun S1 H1 n Q q =>
  ha S1 H1 n _ fun u H2 s2 hu => ⟨⟨x, hu.s⟩, hb S1 H2 (n.then s2) _ fun w H3 s3 hw => ⟨x, y, hu.s, by rw [hw.s], hy, sz (by omega), fun p np =>
    q _ _ ((s2.trans s3).trans (same_upd np)) (new_lst (n.live.same (s2.trans s3)) np ds_strs)⟩⟩
theorem sv_part {x y : Str} (ha : SV K S ta σ H (.str x)) (hb : SV K S tb σ H (.str y)) (hy : (y.length == 0) = false) (hl : x.length ≤ 50000) :
    SV K S (tM1 (fun x xs H Q => ∃ a b, x = .str a ∧ xs = [.str b] ∧ (b.length == 0) = false ∧ a.length ≤ sizeLine ∧
      ∀ p, H p = none → Q (.ref p) (upd H p (.tup [.str (Txt.partition a b).1, .str (Txt.partition a b).2.1, .str (Txt.partition a b).2.2]))) ta tb) σ H (.tuple [.str (Txt.partition x y).1, .str (Txt.partition x y).2.1, .str (Txt.partition x y).2.2]) := fun S1 H1 n Q q =>
  ha S1 H1 n _ fun u H2 s2 hu => ⟨⟨x, hu.s⟩, hb S1 H2 (n.then s2) _ fun w H3 s3 hw => ⟨x, y, hu.s, by rw [hw.s], hy, sz (by omega), fun p np =>
    q _ _ ((s2.trans s3).trans (same_upd np)) (new_tup (n.live.same (s2.trans s3)) np (.cons (.str _) (.cons (.str _) (.cons (.str _) .nil))))⟩⟩
/-- *e in a display -/
theorem sa_star (h : SV K S te σ H (seqD k ds)) (hr : SA K S tr σ H es) : SA K S (StX.tStar K te tr) σ H (ds ++ es) := fun S1 H1 n Q q =>
  h S1 H1 n _ fun v H2 s2 hv => by
    obtain ⟨a, xs, rfl, hq, hx⟩ := hv.sq
    exact ⟨a, xs, rfl, hq.symm, hr S1 H2 (n.then s2) _ fun ys H3 s3 hy => q _ _ (s2.trans s3) ((hx.same s3).app hy)⟩
/-- e.f of an instance -/
theorem sv_fld {a C dx : Addr} {fs : List (Str × V)} {f : Str} {i : Nat} (hi : σ[i]? = some (some (.ref a))) (ha : H a = some (.ins C dx fs)) (cl : Cls K C) (na : NoAttr K C f) (hf : fs.lookup f = some v) (hv : Ds K S H v d) : SV K S (tFld K (tVar i) f) σ H d := fun S1 H1 n Q q =>
  ⟨_, hi, a, C, dx, fs, v, rfl, n.same _ _ ha, cl, na, hf, q _ _ (Same.refl _) (hv.now n)⟩
theorem sv_cval {C : Addr} {f : Str} {mc u : Value} (r : ClX.CRead K C mc) (c : ClX.CVal K C mc f v u) (hd : ∀ S' H', Ds K S' H' v d) : SV K S (ClX.tCVal K (tC (.ref C)) f) σ H d := fun S1 H1 n Q q => ⟨C, mc, v, u, rfl, r, c, q _ _ (Same.refl _) (hd _ _)⟩
end
end My

set_option Elab.async false
set_option linter.all false
set_option maxRecDepth 100000
/-! A comprehension of two clauses. -/
namespace My
open PySem PySem.Spec PyProof.Rows L2
section
variable {K : PySem.W.Frag} {S : Sh} {σ : L2.St} {H : Hp} {wi wi1 : TI} {g g1 : TG} {tt1 : TT} {te : TE} {ds : List PyData}
theorem len_flat {α β : Type} (f : α → List β) : ∀ (l : List α) (i : Nat), ((l.take i).flatMap f).length ≤ (l.map fun a => (f a).length).sum
  | [], i => by simp
  | a :: l, 0 => by simp
  | a :: l, i + 1 => by
    have := len_flat f l i
    rw [List.take_succ_cons, List.flatMap_cons, List.length_append, List.map_cons, List.sum_cons]
    omega
theorem sv_lc2D {vs vs1 : List Nat} (h : SI K S wi σ H ds) (inn : PyData → List PyData) (hl : (ds.map fun d => (inn d).length).sum ≤ 5000) (t : PyData → PyData → Bool) (f : PyData → PyData → PyData)
    (hs : ∀ d S' H' v (Q : L2.St → Hp → Prop), d ∈ ds → Now S H S' H' → Ds K S' H' v d → (∀ σ2, wipe σ2 vs = wipe σ vs → SI K S' wi1 σ2 H' (inn d) →
      (∀ e S2 H2 v (Q2 : L2.St → Hp → Prop), e ∈ inn d → Now S H S2 H2 → Step S' H' S2 H2 → Ds K S2 H2 v e → (∀ σ3, wipe σ3 vs1 = wipe σ2 vs1 → SB S2 tt1 σ3 H2 (t d e) → (t d e = true → SV K S2 te σ3 H2 (f d e)) → Q2 σ3 H2) → g1 v (wipe σ2 vs1) H2 Q2) → Q σ2 H') → g v (wipe σ vs) H' Q) :
    SV K S (tLc2 wi g tYes wi1 g1 tt1 te vs vs1) σ H (.list (ds.flatMap fun d => ((inn d).filter (t d)).map (f d))) := fun S1 H1 n Q q =>
  h S1 H1 n _ fun J H2 s2 w D nD => by
    have l2 : Live S1 H2 := n.live.same s2
    let out : PyData → List PyData := fun d => ((inn d).filter (t d)).map (f d)
    have hout : ∀ d, (out d).length ≤ (inn d).length := fun d => by
      show (((inn d).filter (t d)).map (f d)).length ≤ _
      rw [List.length_map]
      exact List.length_filter_le _ _
    have hpart : ∀ i, ((ds.take i).flatMap out).length ≤ 5000 := fun i => by
      refine Nat.le_trans (len_flat out ds i) (Nat.le_trans ?_ hl)
      clear hl
      generalize ds = l
      induction l with
      | nil => exact Nat.le_refl _
      | cons a l ih => rw [List.map_cons, List.map_cons, List.sum_cons, List.sum_cons]; have := hout a; omega
    refine ⟨fun i m H3 => m = ds.length - i ∧ i ≤ ds.length ∧ ∃ vs, H3 D = some (.lst vs) ∧ Now S1 H2 (fun a => S1 a ∨ a = D) H3 ∧ DsAll K (fun a => S1 a ∨ a = D) H3 vs ((ds.take i).flatMap out),
      ⟨ds.length, by simp, Nat.zero_le _, [], upd_same, Now.add l2 nD, .nil⟩, ?_⟩
    rintro i m H3 ⟨rfl, hi, vs3, e3, n3, d3⟩
    by_cases hlt : i < ds.length
    · refine .inr ⟨w.goes i H3 hlt ⟨_, n3.step⟩, fun H4 => i + 1 ≤ ds.length ∧ ∃ vs, H4 D = some (.lst vs) ∧ Now S1 H2 (fun a => S1 a ∨ a = D) H4 ∧ DsAll K (fun a => S1 a ∨ a = D) H4 vs ((ds.take (i + 1)).flatMap out), fun H4 ⟨a, b⟩ => ⟨ds.length - (i + 1), by omega, rfl, a, b⟩, fun x H4 y => ?_⟩
      obtain ⟨s4, d, ed, hd⟩ := w.yields i H3 x H4 hlt ⟨_, n3.step⟩ y
      have n4 : Now S1 H2 (fun a => S1 a ∨ a = D) H4 := n3.then s4
      have epart : (ds.take (i + 1)).flatMap out = (ds.take i).flatMap out ++ out d := by
        rw [List.take_add_one, ed, List.flatMap_append]
        simp
      have hlen := hpart (i + 1)
      rw [epart, List.length_append] at hlen
      refine hs d _ H4 x _ (List.mem_of_getElem? ed) ((n.then s2).trans n4) (hd _ n3.step) fun σ2 ew hi1 hs1 => ⟨ew, ?_⟩
      dsimp only [tYes]
      rw [if_pos rfl]
      refine hi1 _ H4 (Now.refl n4.live) _ fun J1 H5 s5 w1 => ?_
      have n5 := n4.then s5
      refine ⟨fun j k H6 => k = (inn d).length - j ∧ j ≤ (inn d).length ∧ ∃ vs, H6 D = some (.lst vs) ∧ Now S1 H2 (fun a => S1 a ∨ a = D) H6 ∧ Step (fun a => S1 a ∨ a = D) H5 (fun a => S1 a ∨ a = D) H6 ∧ DsAll K (fun a => S1 a ∨ a = D) H6 vs ((ds.take i).flatMap out ++ (((inn d).take j).filter (t d)).map (f d)),
        ⟨(inn d).length, by simp, Nat.zero_le _, vs3, s5 _ _ (s4 _ _ e3), n5, Step.refl n5.live, by simpa using (d3.same s4).same s5⟩, ?_⟩
      rintro j k H6 ⟨rfl, hj, vs6, e6, n6, t6, d6⟩
      by_cases hjl : j < (inn d).length
      · refine .inr ⟨w1.goes j H6 hjl ⟨_, t6⟩, fun H7 => j + 1 ≤ (inn d).length ∧ ∃ vs, H7 D = some (.lst vs) ∧ Now S1 H2 (fun a => S1 a ∨ a = D) H7 ∧ Step (fun a => S1 a ∨ a = D) H5 (fun a => S1 a ∨ a = D) H7 ∧ DsAll K (fun a => S1 a ∨ a = D) H7 vs ((ds.take i).flatMap out ++ (((inn d).take (j + 1)).filter (t d)).map (f d)), fun H7 ⟨a, b⟩ => ⟨(inn d).length - (j + 1), by omega, rfl, a, b⟩, fun x1 H7 y1 => ?_⟩
        obtain ⟨s7, e, ee, he⟩ := w1.yields j H6 x1 H7 hjl ⟨_, t6⟩ y1
        have n7 := n6.then s7
        refine hs1 e _ H7 x1 _ (List.mem_of_getElem? ee) ((n.then s2).trans n7) ((Step.trans n4.live (Now.of n4.live s5).step t6).then s7) (he _ t6) fun σ3 ew1 hb hv => ⟨ew1, ?_⟩
        refine hb.run n7.live fun H8 s8 => ?_
        have n8 := n7.then s8
        have t8 := (t6.then s7).then s8
        cases et : t d e with
        | true =>
          refine iteT ((hv et).now (Now.of n7.live s8) |>.run n8.live fun y H9 s9 hy => ⟨vs6, s9 _ _ (s8 _ _ (s7 _ _ e6)), ?_, hjl, vs6 ++ [y], upd_same, (n8.then s9).put (.inr rfl) (l2.ne nD), (t8.then s9).put (.inr rfl), ?_⟩)
          · have h1 := d6.length
            have h2 : ((((inn d).take j).filter (t d)).map (f d)).length ≤ (out d).length := by
              show _ ≤ (((inn d).filter (t d)).map (f d)).length
              rw [List.length_map, List.length_map]
              exact List.Sublist.length_le ((List.take_sublist j (inn d)).filter (t d))
            rw [List.length_append] at h1
            exact szl (by omega)
          · have e1 : (((inn d).take (j + 1)).filter (t d)).map (f d) = (((inn d).take j).filter (t d)).map (f d) ++ [f d e] := by
              rw [List.take_add_one, ee]
              simp [et]
            rw [e1, ← List.append_assoc]
            exact (((d6.same s7).same s8).same s9 |>.app (.cons hy .nil)).byX (XS.upd (.inr rfl))
        | false =>
          refine iteF ⟨hjl, vs6, s8 _ _ (s7 _ _ e6), n8, t8, ?_⟩
          have e1 : (((inn d).take (j + 1)).filter (t d)).map (f d) = (((inn d).take j).filter (t d)).map (f d) := by
            rw [List.take_add_one, ee]
            simp [et]
          rw [e1]
          exact (d6.same s7).same s8
      · have ej : j = (inn d).length := by omega
        subst ej
        refine .inl ⟨w1.stops H6 ⟨_, t6⟩, hlt, vs6, e6, n6, ?_⟩
        rw [List.take_of_length_le (Nat.le_refl _)] at d6
        rw [epart]
        exact d6
    · have ei : i = ds.length := by omega
      subst ei
      rw [List.take_of_length_le (Nat.le_refl _)] at d3
      exact .inl ⟨w.stops H3 ⟨_, n3.step⟩, q _ _ (s2.trans n3.same) (.lst ⟨l2.ne nD, e3⟩ (d3.less fun _ => .inl))⟩
theorem sv_lc2 {vs vs1 : List Nat} (h : SI K S wi σ H ds) (inn : PyData → List PyData) (hl : (ds.map fun d => (inn d).length).sum ≤ 5000) (t : PyData → Bool) (f : PyData → PyData)
    (hs : ∀ d S' H' v (Q : L2.St → Hp → Prop), d ∈ ds → Now S H S' H' → Ds K S' H' v d → (∀ σ2, wipe σ2 vs = wipe σ vs → SI K S' wi1 σ2 H' (inn d) →
      (∀ e S2 H2 v (Q2 : L2.St → Hp → Prop), e ∈ inn d → Now S H S2 H2 → Step S' H' S2 H2 → Ds K S2 H2 v e → (∀ σ3, wipe σ3 vs1 = wipe σ2 vs1 → SB S2 tt1 σ3 H2 (t e) → (t e = true → SV K S2 te σ3 H2 (f e)) → Q2 σ3 H2) → g1 v (wipe σ2 vs1) H2 Q2) → Q σ2 H') → g v (wipe σ vs) H' Q) :
    SV K S (tLc2 wi g tYes wi1 g1 tt1 te vs vs1) σ H (.list (ds.flatMap fun d => ((inn d).filter t).map f)) := sv_lc2D h inn hl (fun _ => t) (fun _ => f) hs
end
end My
namespace My
open PySem PySem.Spec PyProof.Rows L2
section
variable {K : PySem.W.Frag} {S : Sh} {σ : L2.St} {H : Hp} {wi : TI} {g : TG} {tt : TT} {te : TE} {ds : List PyData} {D : Ends} {tz ty tr tb : TS} {b : Bool} {d : PyData}
theorem seq_if (l : Live S H) (h : SB S tt σ H b) (k1 : b = true → ∀ H', Same H H' → Live S H' → tz { D with nx := tr D } σ H') (k2 : b = false → ∀ H', Same H H' → Live S H' → ty { D with nx := tr D } σ H') : tSeq (tIfS tt tz ty) tr D σ H := if_sb (D := { D with nx := tr D }) l h k1 k2
theorem seq_for (l : Live S H) (h : SI K S wi σ H ds)
    (k : ∀ H2, Same H H2 → Live S H2 → ∃ Pv : Nat → L2.St → Hp → Prop, Pv 0 σ H2 ∧ (∀ i σ H3, i ≤ ds.length → Pv i σ H3 → ∃ S2, Step S H2 S2 H3) ∧
      (∀ i d v σ H3 H4, ds[i]? = some d → Pv i σ H3 → Same H3 H4 → (∀ S2, Step S H2 S2 H3 → Ds K S2 H4 v d) → g v σ H4 fun σ2 H5 => tb { D with nx := Pv (i + 1), ct := Pv (i + 1), bk := tr D } σ2 H5) ∧ ∀ σ H3, Pv ds.length σ H3 → tr D σ H3) : tSeq (tFor wi g tb) tr D σ H :=
  for_si (D := { D with nx := tr D }) l h k
theorem set_sn {i : Nat} (l : Live S H) (h : SN K S te σ H ds) (k : ∀ a xs H1, Same H H1 → H a = none → H1 a = some (.lst xs) → DsAll K S H1 xs ds → tr D (σ.set i (some (.ref a))) H1) : tSeq (tAsg te (gName i)) tr D σ H := h S H (Now.refl l) _ k
theorem fld_sv {ta : TE} {f : Str} (l : Live S H) (h : SV K S te σ H d) (k : ∀ v H', Same H H' → Live S H' → Ds K S H' v d → ta σ H' fun x H2 => ∃ a C dx fs, x = .ref a ∧ H2 a = some (.ins C dx fs) ∧ Cls K C ∧ NoAttr K C f ∧ fs.length < 1000 ∧ tr D σ (upd H2 a (.ins C dx (putF f v fs)))) : tSeq (sFld K ta te f) tr D σ H := h.run l fun v H' s hv => k v H' s (l.same s) hv
theorem asg_sv (l : Live S H) (h : SV K S te σ H d) (k : ∀ v H', Same H H' → Live S H' → Ds K S H' v d → g v σ H' (tr D)) : tSeq (tAsg te g) tr D σ H := h.run l fun v H' s hv => k v H' s (l.same s) hv
theorem seq_ex (l : Live S H) (h : SV K S te σ H d) (k : ∀ H', Same H H' → Live S H' → tr D σ H') {ts : TS} (e : ts = fun D σ H => te σ H fun _ H' => D.nx σ H') : tSeq ts tr D σ H := by
  subst e
  exact h.run l fun v H' s _ => k H' s (l.same s)
end
end My

set_option Elab.async false
set_option linter.all false
set_option maxRecDepth 100000
/-! list(text) -/
namespace MyStr
open PySem PySem.Spec PyProof.Rows
section
variable {prog : Program} {w : World} {A : Around} {E : Value → Shared → Prop} {s : Shared}
/-- what a text says of its length ahead of being walked: that nothing must be made room for -/
theorem room_str {x : Str} {t : Tok} {Q : Bool → Shared → Prop} (q : Q false s) : wpAny (model prog w) A (Builtin.List.listLengthHint (.str x t)) Q E s := by
  have ty : s.TypeIs (.str x t) "str" := typeIs_str s x t
  unfold Builtin.List.listLengthHint
  refine wpAny_bind (wpAny_specialOf ty PySem.F.slot_str_len.lookup ?_)
  generalize hn : ("str.__len__" : String) = nm
  wp_delta
  rw [show splitId nm = some ("str", "__len__") from by subst hn; decide +kernel]
  subst hn
  refine wpAny_bind (wpAny_isInstance (T := "str") (b := true) ty (by rw [isSubtype_type]; kernel_rfl) ?_)
  refine wpAny_ite_split (fun z => absurd z (by decide)) (fun _ => ?_)
  refine wpAny_ite_split (fun _ => ?_) (fun z => absurd (by decide +kernel) z)
  exact wpAny_bind (wpAny_typeOf ty (wpAny_pure q))
/-- the new list at D is filled with the signs -/
theorem fill_str (hh : A.handled = none) (x : Str) (t : Tok) (D : Addr) {R : Result → Shared → Prop} (hD : s.heap.get? D = some { cls := .type "list", data := .seq #[] }) (hx : x.cps.size ≤ sizeLine)
    (k : ∀ h' tk acc c', s.toks ≤ tk → (∀ b o, b ≠ D → s.heap.get? b = some o → h'.get? b = some o) → h'.get? D = some { cls := .type "list", dict := none, data := .seq acc c', slots := #[] } → ItemsOf (SignAt x) acc x.cps.size → R (.ok (.ret .none)) { s with heap := h', toks := tk }) :
    wpAny (model prog w) A.in1 (Builtin.«list.__init__» ⟨[.ref D, .str x t], []⟩)
      (fun fin s' => match fin with | .done f => R (.ok f) s' | .again c' => c'.quiet = true ∧ codeAny (model prog w) A c' R s') (fun e s' => R (.error e) s') s := by
  show wpAny _ _ (do let old ← Builtin.List.listItems (.ref D); Builtin.List.listUpdate (.ref D) (fun _ => #[]); letGo old.toList.reverse; Builtin.List.listExtendWith (.ref D) (.str x t) .none) _ _ s
  refine wpAny_bind ?_
  unfold Builtin.List.listItems
  refine wpAny_bind (wpAny_seqItems hD rfl (wpAny_pure ?_))
  show wpAny _ _ (updateSeq D (fun _ => #[]) >>= fun _ => letGo (#[] : Array Value).toList.reverse >>= fun _ => Builtin.List.listExtendWith (.ref D) (.str x t) .none) _ _ s
  refine wpAny_bind (wpAny_updateSeq hD rfl ?_)
  have hD2 := Heap.get?_update_self (Obj.mapSeq (fun _ => (#[] : Array Value))) hD rfl
  have hoth : ∀ b o, b ≠ D → s.heap.get? b = some o → (s.heap.update D (Obj.mapSeq (fun _ => (#[] : Array Value)))).get? b = some o := fun b o n e => (Heap.get?_update_other _ _ (Ne.symm n)).trans e
  refine wpAny_bind (wpAny_letGo ?_)
  revert hD2 hoth
  generalize s.heap.update D (Obj.mapSeq (fun _ => (#[] : Array Value))) = g
  intro hD2 hoth
  unfold Builtin.List.listExtendWith
  refine wpAny_bind (wpAny_typeOf (typeIs_str _ x t) ?_)
  rw [if_neg (by simp [Builtin.List.listSameRef])]
  refine wpAny_bind (wpAny_pyIter_str fun o St W st => ?_)
  refine wpAny_bind (wpAny_holding (room_str ?_))
  rw [if_neg (by first | decide | decide +kernel)]
  have hne : D ≠ g.objs.size := Nat.ne_of_lt (Heap.lt_size hD2)
  refine wpAny_pure ⟨plainId_quiet PySem.F.plain_extend_loop _, codeAny_extend_loopS (W A.in1 hh).toS hx _ (fun m => hne (List.mem_singleton.mp m)) _ x.cps.size 0 _ _ _ rfl (Nat.zero_le _) st (Heap.get?_push_of_some _ hD2) (ItemsOf.nil _) fun s' acc c' hm hS hacc => ?_⟩
  rw [Moved.eq_with hm]
  refine k s'.heap s'.toks acc c' hm.toks (fun b ob hb e => hm.heap b ob (fun m => ?_) (Heap.get?_push_of_some _ (hoth b ob hb e))) hS hacc
  rcases List.mem_cons.mp m with e' | m
  · exact hb e'
  · exact absurd (Heap.lt_size (hoth b ob hb e)) (by rw [List.mem_singleton.mp m]; exact Nat.lt_irrefl _)
end
end MyStr
namespace My
open PySem PySem.Spec PyProof.Rows L2
def signsV (x : Str) : List V := x.cps.toList.map fun c => .str ⟨#[c]⟩
theorem call_listT {X : Cx} (hc : X.calm = true) : CallR X (.type "list") (fun xs H Q => ∃ x : Str, xs = [.str x] ∧ x.cps.size ≤ 1000 ∧ ∀ l, H l = none → Q (.ref l) (upd H l (.lst (signsV x)))) := by
  intro pins s σ H xs us Q I r h
  obtain ⟨x, rfl, hx, q⟩ := h
  obtain ⟨u, rfl, t, rfl⟩ := vals1 r
  refine callType_codes (Q₁ := fun obj s₁ => obj = .ref s.heap.objs.size ∧ s₁ = { s with heap := s.heap.push { cls := .type "list", data := .seq #[] } }) PySem.F.called_list (PySem.F.typeCall_list_1 _) PySem.F.entry_list_init
    (code_list_new _ ⟨rfl, rfl⟩) fun obj s₁ h₁ => ?_
  obtain ⟨rfl, rfl⟩ := h₁
  have hD : (s.heap.push { cls := .type "list", data := .seq #[] }).get? s.heap.objs.size = some { cls := .type "list", data := .seq #[] } := Heap.get?_push_size _ rfl
  refine ⟨⟨_, hD, rfl⟩, PySem.F.args_list_init_2 _ _, MyStr.fill_str (A := X.A.in1) (I.ok.hd hc) x t _ hD (Nat.le_trans hx (by decide)) fun h' tk acc c' htk kp e hacc => ?_⟩
  refine ⟨rfl, .ref s.heap.objs.size, _, I.laid (t' := tk) (fun b o e => kp b o (Nat.ne_of_lt (Heap.lt_size e)) (Heap.get?_push_of_some _ e)) ?_ (show ObjOk X.prog X.w _ h' _ (.lst (signsV x)) from ⟨?_, acc.toList, c', ?_, by simpa using e⟩), rfl, q _ (I.hok.fresh (Nat.le_refl _))⟩
  · exact Nat.le_refl _
  · show (signsV x).length ≤ sizeLine
    unfold signsV
    rw [List.length_map, Array.length_toList]
    exact Nat.le_trans hx (by decide)
  · refine vals_of_idx _ _ (by unfold signsV; rw [List.length_map, Array.length_toList, Array.length_toList]; exact hacc.1) fun j u e' => ?_
    obtain ⟨c, tk', hc', rfl⟩ := hacc.2 j u (by simpa using e')
    refine ⟨.str ⟨#[c]⟩, ?_, tk', rfl⟩
    unfold signsV
    rw [List.getElem?_map, Array.getElem?_toList, hc']
    rfl
end My

set_option Elab.async false
set_option linter.all false
set_option maxRecDepth 100000
namespace My
open PySem PySem.Spec PyProof.Rows L2
def topS (i : Nat) : Stmt := PySem.Challenge.pw_tiedmoments_k07_whole_texts_of_logs.main.body.getD i (.Pass ⟨0, 0, 0, 0⟩)
abbrev s_i_Log : Stmt := inClass (topS 35) 2
abbrev N_i_Log : List Str := ["self", "rows", "order", "name", "steps"]
abbrev P_i_Log : List Str := ["self", "rows"]
abbrev s_Log_rows : Stmt := inClass (topS 35) 6
abbrev N_Log_rows : List Str := ["self", "name", "steps"]
abbrev P_Log_rows : List Str := ["self"]
abbrev s_Log_text : Stmt := inClass (topS 35) 15
abbrev N_Log_text : List Str := ["self", "name", "steps"]
abbrev P_Log_text : List Str := ["self"]
abbrev s_Log_read : Stmt := inClass (topS 35) 16
abbrev N_Log_read : List Str := ["cls", "text", "lines", "rows", "at", "line", "row"]
abbrev P_Log_read : List Str := ["cls", "text"]
abbrev s_Log_eq : Stmt := inClass (topS 35) 19
abbrev N_Log_eq : List Str := ["self", "other"]
abbrev P_Log_eq : List Str := ["self", "other"]
abbrev s_Log_str : Stmt := inClass (topS 35) 23
abbrev N_Log_str : List Str := ["self"]
abbrev P_Log_str : List Str := ["self"]
abbrev s_is_name : Stmt := topS 24
abbrev N_is_name : List Str := ["value"]
abbrev P_is_name : List Str := ["value"]
abbrev s_is_word : Stmt := topS 25
abbrev N_is_word : List Str := ["value"]
abbrev P_is_word : List Str := ["value"]
abbrev s_is_number : Stmt := topS 26
abbrev N_is_number : List Str := ["value", "least", "most"]
abbrev P_is_number : List Str := ["value", "least", "most"]
abbrev s_is_step : Stmt := topS 27
abbrev N_is_step : List Str := ["value", "mark", "number", "deed"]
abbrev P_is_step : List Str := ["value"]
abbrev s_step_text : Stmt := topS 28
abbrev N_step_text : List Str := ["step", "text", "mark", "number", "deed", "kind", "sign"]
abbrev P_step_text : List Str := ["step"]
abbrev s_read_step : Stmt := topS 29
abbrev N_read_step : List Str := ["text", "step", "rest", "deed", "mark", "equals", "digits"]
abbrev P_read_step : List Str := ["text"]
abbrev s_read_number : Stmt := topS 30
abbrev N_read_number : List Str := ["text", "digits"]
abbrev P_read_number : List Str := ["text"]
abbrev s_consists_of : Stmt := topS 31
abbrev N_consists_of : List Str := ["text", "signs", "sign"]
abbrev P_consists_of : List Str := ["text", "signs"]
abbrev s_is_deed : Stmt := topS 32
abbrev N_is_deed : List Str := ["value", "kind", "sign"]
abbrev P_is_deed : List Str := ["value"]
abbrev s_split_deed : Stmt := topS 33
abbrev N_split_deed : List Str := ["text", "kind", "sign", "rest", "found", "message"]
abbrev P_split_deed : List Str := ["text"]
abbrev s_check_rows : Stmt := topS 36
abbrev N_check_rows : List Str := ["rows", "names", "at", "row", "name"]
abbrev P_check_rows : List Str := ["rows"]
abbrev s_is_row : Stmt := topS 37
abbrev N_is_row : List Str := ["value"]
abbrev P_is_row : List Str := ["value"]
abbrev s_check_steps : Stmt := topS 38
abbrev N_check_steps : List Str := ["rows", "name", "steps", "index", "step"]
abbrev P_check_steps : List Str := ["rows"]
abbrev s_check_messages : Stmt := topS 39
abbrev N_check_messages : List Str := ["rows", "found", "deed", "message"]
abbrev P_check_messages : List Str := ["rows"]
abbrev s_check_ends : Stmt := topS 40
abbrev N_check_ends : List Str := ["rows", "order", "made", "name", "steps", "process", "index", "step"]
abbrev P_check_ends : List Str := ["rows", "order"]
abbrev s_names : Stmt := topS 41
abbrev N_names : List Str := ["rows", "name", "steps"]
abbrev P_names : List Str := ["rows"]
abbrev s_deeds : Stmt := topS 42
abbrev N_deeds : List Str := ["rows", "name", "steps", "mark", "number", "deed"]
abbrev P_deeds : List Str := ["rows"]
abbrev s_first_unsent : Stmt := topS 43
abbrev N_first_unsent : List Str := ["rows", "deeds", "kind", "message"]
abbrev P_first_unsent : List Str := ["rows"]
abbrev s_order_of : Stmt := topS 44
abbrev N_order_of : List Str := ["rows", "places", "made", "order", "at", "step", "row", "name", "steps"]
abbrev P_order_of : List Str := ["rows"]
abbrev s_first_ready : Stmt := topS 45
abbrev N_first_ready : List Str := ["rows", "places", "made", "at", "name", "steps"]
abbrev P_first_ready : List Str := ["rows", "places", "made"]
abbrev s_can_be_made : Stmt := topS 46
abbrev N_can_be_made : List Str := ["step", "made", "deed"]
abbrev P_can_be_made : List Str := ["step", "made"]
abbrev s_row_text : Stmt := topS 53
abbrev N_row_text : List Str := ["name", "steps", "words", "step"]
abbrev P_row_text : List Str := ["name", "steps"]
abbrev s_read_row : Stmt := topS 54
abbrev N_read_row : List Str := ["line", "words", "steps", "name", "colon", "rest", "word"]
abbrev P_read_row : List Str := ["line"]
abbrev s_Lbag : Stmt := topS 56
abbrev N_Lbag : List Str := ["_law_script", "_law_mixed_here", "_law_cell"]
abbrev P_Lbag : List Str := ["_law_script"]
abbrev s_Ldraw : Stmt := topS 57
abbrev N_Ldraw : List Str := ["_law_bag_here", "_law_many", "_law_own", "_law_cell", "_law_digit"]
abbrev P_Ldraw : List Str := ["_law_bag_here", "_law_many"]
abbrev s_Lof : Stmt := topS 58
abbrev N_Lof : List Str := ["_law_bag_here", "_law_some"]
abbrev P_Lof : List Str := ["_law_bag_here", "_law_some"]
abbrev s_Lmixed : Stmt := topS 59
abbrev N_Lmixed : List Str := ["_law_bag_here", "_law_some", "_law_left", "_law_found"]
abbrev P_Lmixed : List Str := ["_law_bag_here", "_law_some"]
abbrev s_Lsame : Stmt := topS 60
abbrev N_Lsame : List Str := ["_law_found", "_law_due", "_law_one", "_law_two"]
abbrev P_Lsame : List Str := ["_law_found", "_law_due"]
abbrev s_Lmarks : Stmt := topS 61
abbrev N_Lmarks : List Str := []
abbrev P_Lmarks : List Str := []
abbrev s_Lstep : Stmt := topS 62
abbrev N_Lstep : List Str := ["_law_bag_here", "_law_deed"]
abbrev P_Lstep : List Str := ["_law_bag_here", "_law_deed"]
abbrev s_Lrows : Stmt := topS 63
abbrev N_Lrows : List Str := ["_law_bag_here", "_law_many", "_law_most", "_law_names", "_law_words", "_law_k", "_law_rows_here", "_law_open_y", "_law_fresh", "_law_spot", "_law_way", "_law_deed", "_law_name"]
abbrev P_Lrows : List Str := ["_law_bag_here", "_law_many", "_law_most"]
abbrev s_Llog : Stmt := topS 64
abbrev N_Llog : List Str := ["_law_rows_here"]
abbrev P_Llog : List Str := ["_law_rows_here"]
abbrev s_Lstep_text : Stmt := topS 65
abbrev N_Lstep_text : List Str := ["_law_step_here", "_law_middle"]
abbrev P_Lstep_text : List Str := ["_law_step_here"]
abbrev s_Llog_text : Stmt := topS 66
abbrev N_Llog_text : List Str := ["_law_rows_here", "_law_name", "_law_steps", "_law_step_here"]
abbrev P_Llog_text : List Str := ["_law_rows_here"]
abbrev s_law : Stmt := topS 67
abbrev N_law : List Str := ["_law_script", "_law_bag_here", "_law_turn", "_law_told_z", "_law_rows_here", "_law_found", "_law_log_here", "_law_due"]
abbrev P_law : List Str := ["_law_script"]
theorem sc_i_Log : FnScope N_i_Log P_i_Log (defScope s_i_Log) := ⟨rfl, rfl, rfl, by decide +kernel, rfl, by decide +kernel, by decide +kernel⟩
theorem sc_Log_rows : FnScope N_Log_rows P_Log_rows (defScope s_Log_rows) := ⟨rfl, rfl, rfl, by decide +kernel, rfl, by decide +kernel, by decide +kernel⟩
theorem sc_Log_text : FnScope N_Log_text P_Log_text (defScope s_Log_text) := ⟨rfl, rfl, rfl, by decide +kernel, rfl, by decide +kernel, by decide +kernel⟩
theorem sc_Log_read : FnScope N_Log_read P_Log_read (defScope s_Log_read) := ⟨rfl, rfl, rfl, by decide +kernel, rfl, by decide +kernel, by decide +kernel⟩
theorem sc_Log_eq : FnScope N_Log_eq P_Log_eq (defScope s_Log_eq) := ⟨rfl, rfl, rfl, by decide +kernel, rfl, by decide +kernel, by decide +kernel⟩
theorem sc_Log_str : FnScope N_Log_str P_Log_str (defScope s_Log_str) := ⟨rfl, rfl, rfl, by decide +kernel, rfl, by decide +kernel, by decide +kernel⟩
theorem sc_is_name : FnScope N_is_name P_is_name (defScope s_is_name) := ⟨rfl, rfl, rfl, by decide +kernel, rfl, by decide +kernel, by decide +kernel⟩
theorem sc_is_word : FnScope N_is_word P_is_word (defScope s_is_word) := ⟨rfl, rfl, rfl, by decide +kernel, rfl, by decide +kernel, by decide +kernel⟩
theorem sc_is_number : FnScope N_is_number P_is_number (defScope s_is_number) := ⟨rfl, rfl, rfl, by decide +kernel, rfl, by decide +kernel, by decide +kernel⟩
theorem sc_is_step : FnScope N_is_step P_is_step (defScope s_is_step) := ⟨rfl, rfl, rfl, by decide +kernel, rfl, by decide +kernel, by decide +kernel⟩
theorem sc_step_text : FnScope N_step_text P_step_text (defScope s_step_text) := ⟨rfl, rfl, rfl, by decide +kernel, rfl, by decide +kernel, by decide +kernel⟩
theorem sc_read_step : FnScope N_read_step P_read_step (defScope s_read_step) := ⟨rfl, rfl, rfl, by decide +kernel, rfl, by decide +kernel, by decide +kernel⟩
theorem sc_read_number : FnScope N_read_number P_read_number (defScope s_read_number) := ⟨rfl, rfl, rfl, by decide +kernel, rfl, by decide +kernel, by decide +kernel⟩
theorem sc_consists_of : FnScope N_consists_of P_consists_of (defScope s_consists_of) := ⟨rfl, rfl, rfl, by decide +kernel, rfl, by decide +kernel, by decide +kernel⟩
theorem sc_is_deed : FnScope N_is_deed P_is_deed (defScope s_is_deed) := ⟨rfl, rfl, rfl, by decide +kernel, rfl, by decide +kernel, by decide +kernel⟩
theorem sc_split_deed : FnScope N_split_deed P_split_deed (defScope s_split_deed) := ⟨rfl, rfl, rfl, by decide +kernel, rfl, by decide +kernel, by decide +kernel⟩
theorem sc_check_rows : FnScope N_check_rows P_check_rows (defScope s_check_rows) := ⟨rfl, rfl, rfl, by decide +kernel, rfl, by decide +kernel, by decide +kernel⟩
theorem sc_is_row : FnScope N_is_row P_is_row (defScope s_is_row) := ⟨rfl, rfl, rfl, by decide +kernel, rfl, by decide +kernel, by decide +kernel⟩
theorem sc_check_steps : FnScope N_check_steps P_check_steps (defScope s_check_steps) := ⟨rfl, rfl, rfl, by decide +kernel, rfl, by decide +kernel, by decide +kernel⟩
theorem sc_check_messages : FnScope N_check_messages P_check_messages (defScope s_check_messages) := ⟨rfl, rfl, rfl, by decide +kernel, rfl, by decide +kernel, by decide +kernel⟩
theorem sc_check_ends : FnScope N_check_ends P_check_ends (defScope s_check_ends) := ⟨rfl, rfl, rfl, by decide +kernel, rfl, by decide +kernel, by decide +kernel⟩
theorem sc_names : FnScope N_names P_names (defScope s_names) := ⟨rfl, rfl, rfl, by decide +kernel, rfl, by decide +kernel, by decide +kernel⟩
theorem sc_deeds : FnScope N_deeds P_deeds (defScope s_deeds) := ⟨rfl, rfl, rfl, by decide +kernel, rfl, by decide +kernel, by decide +kernel⟩
theorem sc_first_unsent : FnScope N_first_unsent P_first_unsent (defScope s_first_unsent) := ⟨rfl, rfl, rfl, by decide +kernel, rfl, by decide +kernel, by decide +kernel⟩
theorem sc_order_of : FnScope N_order_of P_order_of (defScope s_order_of) := ⟨rfl, rfl, rfl, by decide +kernel, rfl, by decide +kernel, by decide +kernel⟩
theorem sc_first_ready : FnScope N_first_ready P_first_ready (defScope s_first_ready) := ⟨rfl, rfl, rfl, by decide +kernel, rfl, by decide +kernel, by decide +kernel⟩
theorem sc_can_be_made : FnScope N_can_be_made P_can_be_made (defScope s_can_be_made) := ⟨rfl, rfl, rfl, by decide +kernel, rfl, by decide +kernel, by decide +kernel⟩
theorem sc_row_text : FnScope N_row_text P_row_text (defScope s_row_text) := ⟨rfl, rfl, rfl, by decide +kernel, rfl, by decide +kernel, by decide +kernel⟩
theorem sc_read_row : FnScope N_read_row P_read_row (defScope s_read_row) := ⟨rfl, rfl, rfl, by decide +kernel, rfl, by decide +kernel, by decide +kernel⟩
theorem sc_Lbag : FnScope N_Lbag P_Lbag (defScope s_Lbag) := ⟨rfl, rfl, rfl, by decide +kernel, rfl, by decide +kernel, by decide +kernel⟩
theorem sc_Ldraw : FnScope N_Ldraw P_Ldraw (defScope s_Ldraw) := ⟨rfl, rfl, rfl, by decide +kernel, rfl, by decide +kernel, by decide +kernel⟩
theorem sc_Lof : FnScope N_Lof P_Lof (defScope s_Lof) := ⟨rfl, rfl, rfl, by decide +kernel, rfl, by decide +kernel, by decide +kernel⟩
theorem sc_Lmixed : FnScope N_Lmixed P_Lmixed (defScope s_Lmixed) := ⟨rfl, rfl, rfl, by decide +kernel, rfl, by decide +kernel, by decide +kernel⟩
theorem sc_Lsame : FnScope N_Lsame P_Lsame (defScope s_Lsame) := ⟨rfl, rfl, rfl, by decide +kernel, rfl, by decide +kernel, by decide +kernel⟩
theorem sc_Lmarks : FnScope N_Lmarks P_Lmarks (defScope s_Lmarks) := ⟨rfl, rfl, rfl, by decide +kernel, rfl, by decide +kernel, by decide +kernel⟩
theorem sc_Lstep : FnScope N_Lstep P_Lstep (defScope s_Lstep) := ⟨rfl, rfl, rfl, by decide +kernel, rfl, by decide +kernel, by decide +kernel⟩
theorem sc_Lrows : FnScope N_Lrows P_Lrows (defScope s_Lrows) := ⟨rfl, rfl, rfl, by decide +kernel, rfl, by decide +kernel, by decide +kernel⟩
theorem sc_Llog : FnScope N_Llog P_Llog (defScope s_Llog) := ⟨rfl, rfl, rfl, by decide +kernel, rfl, by decide +kernel, by decide +kernel⟩
theorem sc_Lstep_text : FnScope N_Lstep_text P_Lstep_text (defScope s_Lstep_text) := ⟨rfl, rfl, rfl, by decide +kernel, rfl, by decide +kernel, by decide +kernel⟩
theorem sc_Llog_text : FnScope N_Llog_text P_Llog_text (defScope s_Llog_text) := ⟨rfl, rfl, rfl, by decide +kernel, rfl, by decide +kernel, by decide +kernel⟩
theorem sc_law : FnScope N_law P_law (defScope s_law) := ⟨rfl, rfl, rfl, by decide +kernel, rfl, by decide +kernel, by decide +kernel⟩
structure Top where
  c_Log : Addr
  f_i_Log : Addr
  d_i_Log : FuncData
  f_Log_rows : Addr
  d_Log_rows : FuncData
  f_Log_text : Addr
  d_Log_text : FuncData
  f_Log_read : Addr
  d_Log_read : FuncData
  f_Log_eq : Addr
  d_Log_eq : FuncData
  f_Log_str : Addr
  d_Log_str : FuncData
  p_Log_read : Addr
  u_Log_PROCESSES : Value
  u_Log_STEPS : Value
  f_is_name : Addr
  d_is_name : FuncData
  f_is_word : Addr
  d_is_word : FuncData
  f_is_number : Addr
  d_is_number : FuncData
  f_is_step : Addr
  d_is_step : FuncData
  f_step_text : Addr
  d_step_text : FuncData
  f_read_step : Addr
  d_read_step : FuncData
  f_read_number : Addr
  d_read_number : FuncData
  f_consists_of : Addr
  d_consists_of : FuncData
  f_is_deed : Addr
  d_is_deed : FuncData
  f_split_deed : Addr
  d_split_deed : FuncData
  f_check_rows : Addr
  d_check_rows : FuncData
  f_is_row : Addr
  d_is_row : FuncData
  f_check_steps : Addr
  d_check_steps : FuncData
  f_check_messages : Addr
  d_check_messages : FuncData
  f_check_ends : Addr
  d_check_ends : FuncData
  f_names : Addr
  d_names : FuncData
  f_deeds : Addr
  d_deeds : FuncData
  f_first_unsent : Addr
  d_first_unsent : FuncData
  f_order_of : Addr
  d_order_of : FuncData
  f_first_ready : Addr
  d_first_ready : FuncData
  f_can_be_made : Addr
  d_can_be_made : FuncData
  f_row_text : Addr
  d_row_text : FuncData
  f_read_row : Addr
  d_read_row : FuncData
  f_Lbag : Addr
  d_Lbag : FuncData
  f_Ldraw : Addr
  d_Ldraw : FuncData
  f_Lof : Addr
  d_Lof : FuncData
  f_Lmixed : Addr
  d_Lmixed : FuncData
  f_Lsame : Addr
  d_Lsame : FuncData
  f_Lmarks : Addr
  d_Lmarks : FuncData
  f_Lstep : Addr
  d_Lstep : FuncData
  f_Lrows : Addr
  d_Lrows : FuncData
  f_Llog : Addr
  d_Llog : FuncData
  f_Lstep_text : Addr
  d_Lstep_text : FuncData
  f_Llog_text : Addr
  d_Llog_text : FuncData
  f_law : Addr
  d_law : FuncData
  q_DEEDS : Addr
  u_DEEDS : Value
  u_DIGITS : Value
  u_LEAST : Value
  u_LETTERS : Value
  u_MOST : Value
  u_NAME_LENGTH : Value
  u_WORD_LENGTH : Value
structure TopOk (K : PySem.W.Frag) (mg : Str → Option Value) (A : Top) : Prop where
  m_Log : mg "Log" = some (.ref A.c_Log)
  cl_Log : Cls K A.c_Log
  mk_Log : Mk K A.c_Log A.f_i_Log
  rd_Log : ClX.CRead K A.c_Log (.type "type")
  ic_Log : C8.InsC K A.c_Log
  na_Log_rows : NoAttr K A.c_Log "_rows"
  na_Log_order : NoAttr K A.c_Log "_order"
  cv_Log_PROCESSES : ClX.CVal K A.c_Log (.type "type") "PROCESSES" (.int 6) A.u_Log_PROCESSES
  cv_Log_STEPS : ClX.CVal K A.c_Log (.type "type") "STEPS" (.int 20) A.u_Log_STEPS
  F_i_Log : Fun K "__init__" "Log.__init__" s_i_Log A.f_i_Log A.d_i_Log
  F_Log_rows : Fun K "rows" "Log.rows" s_Log_rows A.f_Log_rows A.d_Log_rows
  me_Log_rows : Meth K A.c_Log "rows" A.f_Log_rows
  a_Log_rows : Binds K A.d_Log_rows P_Log_rows []
  F_Log_text : Fun K "text" "Log.text" s_Log_text A.f_Log_text A.d_Log_text
  me_Log_text : Meth K A.c_Log "text" A.f_Log_text
  a_Log_text : Binds K A.d_Log_text P_Log_text []
  F_Log_read : Fun K "read" "Log.read" s_Log_read A.f_Log_read A.d_Log_read
  cm_Log_read : ClX.CMet K A.c_Log (.type "type") "read" A.p_Log_read A.f_Log_read
  a_Log_read : Binds K A.d_Log_read P_Log_read []
  F_Log_eq : Fun K "__eq__" "Log.__eq__" s_Log_eq A.f_Log_eq A.d_Log_eq
  me_Log_eq : Meth K A.c_Log "__eq__" A.f_Log_eq
  a_Log_eq : Binds K A.d_Log_eq P_Log_eq []
  F_Log_str : Fun K "__str__" "Log.__str__" s_Log_str A.f_Log_str A.d_Log_str
  me_Log_str : Meth K A.c_Log "__str__" A.f_Log_str
  a_Log_str : Binds K A.d_Log_str P_Log_str []
  F_is_name : Fun K "is_name" "is_name" s_is_name A.f_is_name A.d_is_name
  g_is_name : mg "is_name" = some (.ref A.f_is_name)
  a_is_name : Binds K A.d_is_name P_is_name []
  F_is_word : Fun K "is_word" "is_word" s_is_word A.f_is_word A.d_is_word
  g_is_word : mg "is_word" = some (.ref A.f_is_word)
  a_is_word : Binds K A.d_is_word P_is_word []
  F_is_number : Fun K "is_number" "is_number" s_is_number A.f_is_number A.d_is_number
  g_is_number : mg "is_number" = some (.ref A.f_is_number)
  a_is_number : Binds K A.d_is_number P_is_number []
  F_is_step : Fun K "is_step" "is_step" s_is_step A.f_is_step A.d_is_step
  g_is_step : mg "is_step" = some (.ref A.f_is_step)
  a_is_step : Binds K A.d_is_step P_is_step []
  F_step_text : Fun K "step_text" "step_text" s_step_text A.f_step_text A.d_step_text
  g_step_text : mg "step_text" = some (.ref A.f_step_text)
  a_step_text : Binds K A.d_step_text P_step_text []
  F_read_step : Fun K "read_step" "read_step" s_read_step A.f_read_step A.d_read_step
  g_read_step : mg "read_step" = some (.ref A.f_read_step)
  a_read_step : Binds K A.d_read_step P_read_step []
  F_read_number : Fun K "read_number" "read_number" s_read_number A.f_read_number A.d_read_number
  g_read_number : mg "read_number" = some (.ref A.f_read_number)
  a_read_number : Binds K A.d_read_number P_read_number []
  F_consists_of : Fun K "_consists_of" "_consists_of" s_consists_of A.f_consists_of A.d_consists_of
  g_consists_of : mg "_consists_of" = some (.ref A.f_consists_of)
  a_consists_of : Binds K A.d_consists_of P_consists_of []
  F_is_deed : Fun K "_is_deed" "_is_deed" s_is_deed A.f_is_deed A.d_is_deed
  g_is_deed : mg "_is_deed" = some (.ref A.f_is_deed)
  a_is_deed : Binds K A.d_is_deed P_is_deed []
  F_split_deed : Fun K "_split_deed" "_split_deed" s_split_deed A.f_split_deed A.d_split_deed
  g_split_deed : mg "_split_deed" = some (.ref A.f_split_deed)
  a_split_deed : Binds K A.d_split_deed P_split_deed []
  F_check_rows : Fun K "_check_rows" "_check_rows" s_check_rows A.f_check_rows A.d_check_rows
  g_check_rows : mg "_check_rows" = some (.ref A.f_check_rows)
  a_check_rows : Binds K A.d_check_rows P_check_rows []
  F_is_row : Fun K "_is_row" "_is_row" s_is_row A.f_is_row A.d_is_row
  g_is_row : mg "_is_row" = some (.ref A.f_is_row)
  a_is_row : Binds K A.d_is_row P_is_row []
  F_check_steps : Fun K "_check_steps" "_check_steps" s_check_steps A.f_check_steps A.d_check_steps
  g_check_steps : mg "_check_steps" = some (.ref A.f_check_steps)
  a_check_steps : Binds K A.d_check_steps P_check_steps []
  F_check_messages : Fun K "_check_messages" "_check_messages" s_check_messages A.f_check_messages A.d_check_messages
  g_check_messages : mg "_check_messages" = some (.ref A.f_check_messages)
  a_check_messages : Binds K A.d_check_messages P_check_messages []
  F_check_ends : Fun K "_check_ends" "_check_ends" s_check_ends A.f_check_ends A.d_check_ends
  g_check_ends : mg "_check_ends" = some (.ref A.f_check_ends)
  a_check_ends : Binds K A.d_check_ends P_check_ends []
  F_names : Fun K "_names" "_names" s_names A.f_names A.d_names
  g_names : mg "_names" = some (.ref A.f_names)
  a_names : Binds K A.d_names P_names []
  F_deeds : Fun K "_deeds" "_deeds" s_deeds A.f_deeds A.d_deeds
  g_deeds : mg "_deeds" = some (.ref A.f_deeds)
  a_deeds : Binds K A.d_deeds P_deeds []
  F_first_unsent : Fun K "_first_unsent" "_first_unsent" s_first_unsent A.f_first_unsent A.d_first_unsent
  g_first_unsent : mg "_first_unsent" = some (.ref A.f_first_unsent)
  a_first_unsent : Binds K A.d_first_unsent P_first_unsent []
  F_order_of : Fun K "_order_of" "_order_of" s_order_of A.f_order_of A.d_order_of
  g_order_of : mg "_order_of" = some (.ref A.f_order_of)
  a_order_of : Binds K A.d_order_of P_order_of []
  F_first_ready : Fun K "_first_ready" "_first_ready" s_first_ready A.f_first_ready A.d_first_ready
  g_first_ready : mg "_first_ready" = some (.ref A.f_first_ready)
  a_first_ready : Binds K A.d_first_ready P_first_ready []
  F_can_be_made : Fun K "_can_be_made" "_can_be_made" s_can_be_made A.f_can_be_made A.d_can_be_made
  g_can_be_made : mg "_can_be_made" = some (.ref A.f_can_be_made)
  a_can_be_made : Binds K A.d_can_be_made P_can_be_made []
  F_row_text : Fun K "_row_text" "_row_text" s_row_text A.f_row_text A.d_row_text
  g_row_text : mg "_row_text" = some (.ref A.f_row_text)
  a_row_text : Binds K A.d_row_text P_row_text []
  F_read_row : Fun K "read_row" "read_row" s_read_row A.f_read_row A.d_read_row
  g_read_row : mg "read_row" = some (.ref A.f_read_row)
  a_read_row : Binds K A.d_read_row P_read_row []
  F_Lbag : Fun K "_law_bag" "_law_bag" s_Lbag A.f_Lbag A.d_Lbag
  g_Lbag : mg "_law_bag" = some (.ref A.f_Lbag)
  a_Lbag : Binds K A.d_Lbag P_Lbag []
  F_Ldraw : Fun K "_law_draw" "_law_draw" s_Ldraw A.f_Ldraw A.d_Ldraw
  g_Ldraw : mg "_law_draw" = some (.ref A.f_Ldraw)
  a_Ldraw : Binds K A.d_Ldraw P_Ldraw []
  F_Lof : Fun K "_law_of" "_law_of" s_Lof A.f_Lof A.d_Lof
  g_Lof : mg "_law_of" = some (.ref A.f_Lof)
  a_Lof : Binds K A.d_Lof P_Lof []
  F_Lmixed : Fun K "_law_mixed" "_law_mixed" s_Lmixed A.f_Lmixed A.d_Lmixed
  g_Lmixed : mg "_law_mixed" = some (.ref A.f_Lmixed)
  a_Lmixed : Binds K A.d_Lmixed P_Lmixed []
  F_Lsame : Fun K "_law_same" "_law_same" s_Lsame A.f_Lsame A.d_Lsame
  g_Lsame : mg "_law_same" = some (.ref A.f_Lsame)
  a_Lsame : Binds K A.d_Lsame P_Lsame []
  F_Lmarks : Fun K "_law_marks" "_law_marks" s_Lmarks A.f_Lmarks A.d_Lmarks
  g_Lmarks : mg "_law_marks" = some (.ref A.f_Lmarks)
  a_Lmarks : Binds K A.d_Lmarks P_Lmarks []
  F_Lstep : Fun K "_law_step" "_law_step" s_Lstep A.f_Lstep A.d_Lstep
  g_Lstep : mg "_law_step" = some (.ref A.f_Lstep)
  a_Lstep : Binds K A.d_Lstep P_Lstep []
  F_Lrows : Fun K "_law_rows" "_law_rows" s_Lrows A.f_Lrows A.d_Lrows
  g_Lrows : mg "_law_rows" = some (.ref A.f_Lrows)
  a_Lrows : Binds K A.d_Lrows P_Lrows []
  F_Llog : Fun K "_law_log" "_law_log" s_Llog A.f_Llog A.d_Llog
  g_Llog : mg "_law_log" = some (.ref A.f_Llog)
  a_Llog : Binds K A.d_Llog P_Llog []
  F_Lstep_text : Fun K "_law_step_text" "_law_step_text" s_Lstep_text A.f_Lstep_text A.d_Lstep_text
  g_Lstep_text : mg "_law_step_text" = some (.ref A.f_Lstep_text)
  a_Lstep_text : Binds K A.d_Lstep_text P_Lstep_text []
  F_Llog_text : Fun K "_law_log_text" "_law_log_text" s_Llog_text A.f_Llog_text A.d_Llog_text
  g_Llog_text : mg "_law_log_text" = some (.ref A.f_Llog_text)
  a_Llog_text : Binds K A.d_Llog_text P_Llog_text []
  F_law : Fun K "law" "law" s_law A.f_law A.d_law
  g_law : mg "law" = some (.ref A.f_law)
  a_law : Binds K A.d_law P_law []
  c_DEEDS : mg "DEEDS" = some A.u_DEEDS
  r_DEEDS : RelV (.ref A.q_DEEDS) A.u_DEEDS
  t_DEEDS : ∀ H : Hp, Dp K H (.ref A.q_DEEDS) (.tuple [.tuple [.str "send", .str "!"], .tuple [.str "receive", .str "?"]])
  c_DIGITS : mg "DIGITS" = some A.u_DIGITS
  r_DIGITS : RelV (.str "0123456789") A.u_DIGITS
  c_LEAST : mg "LEAST" = some A.u_LEAST
  r_LEAST : RelV (.int (-99)) A.u_LEAST
  c_LETTERS : mg "LETTERS" = some A.u_LETTERS
  r_LETTERS : RelV (.str "abcdefghijklmnopqrstuvwxyz") A.u_LETTERS
  c_MOST : mg "MOST" = some A.u_MOST
  r_MOST : RelV (.int 99) A.u_MOST
  c_NAME_LENGTH : mg "NAME_LENGTH" = some A.u_NAME_LENGTH
  r_NAME_LENGTH : RelV (.int 6) A.u_NAME_LENGTH
  c_WORD_LENGTH : mg "WORD_LENGTH" = some A.u_WORD_LENGTH
  r_WORD_LENGTH : RelV (.int 4) A.u_WORD_LENGTH
  b_all : mg "all" = none
  b_bool : mg "bool" = none
  b_enumerate : mg "enumerate" = none
  b_int : mg "int" = none
  b_isinstance : mg "isinstance" = none
  b_len : mg "len" = none
  b_list : mg "list" = none
  b_range : mg "range" = none
  b_str : mg "str" = none
  b_tuple : mg "tuple" = none
  b_zip : mg "zip" = none
  kb_Log_read_1_text : KBn K A.d_Log_read P_Log_read 1 ["text"] (fun us ws => (us.drop 0).take 1 ++ (ws.drop 0).take 1) (fun us ws => (us.drop 0).take 1 ++ (ws.drop 0).take 1)
end My

set_option Elab.async false
set_option linter.all false
set_option maxRecDepth 100000
local macro_rules | `(tactic| walk_at "st") => `(tactic| repeat (first | refine ⟨_, _, rfl, rfl, rfl, ?_⟩ | refine ⟨_, _, rfl, rfl, ?_⟩ | refine ⟨_, rfl, ?_⟩))
namespace My
open PySem PySem.Spec PyProof.Rows L2
section
variable {P : Program} {w : World} {K : PySem.W.Frag} {mg : Str → Option Value} {base : Heap} {A : Top}
theorem cut63 {xs : List V} (h : xs.length ≤ 63) : cutV xs none (some 63) = xs := by
  unfold cutV
  rw [HT.sIx_none, show HT.sIx xs.length xs.length (some 63) = min 63 xs.length from HT.sIx_nat xs.length xs.length 63, Nat.min_eq_right h]
  show (xs.drop 0).take (xs.length - 0) = xs
  rw [List.drop_zero, Nat.sub_zero, List.take_length]
theorem ok_Lbag (T : TopOk K mg A) : FnOk P w K mg base CX0 1 A.f_Lbag A.d_Lbag P_Lbag (spBag K) := by
  refine T.F_Lbag.ok sc_Lbag (fun vs H Q E h => ?_) (fun cdv Ar outer s H vs Q E hr h => ?_)
  · obtain ⟨a, ns, rfl, _⟩ := h
    rfl
  · obtain ⟨a, ns, rfl, hS, hl, q⟩ := h
    have hl' : (ns.map V.int).length ≤ 63 := by rw [List.length_map]; exact hl
    refine ⟨_, (pss_cons (ps_set (i := 1) sc_Lbag.nd rfl (by first | exact Or.inl rfl | exact Or.inr rfl) pe_int)
      (pss_cons (ps_for PassesOwn.never rfl (pi_list (pe_slice sl_list (pv 0) po_none (po_some pe_int))) (pg_name (i := 2) sc_Lbag.nd rfl (by first | exact Or.inl rfl | exact Or.inr rfl))
      (pss_one (ps_set (i := 1) sc_Lbag.nd rfl (by first | exact Or.inl rfl | exact Or.inr rfl) (pe_op op_modC (pe_callTy call_intI (by rfl) T.b_int (by decide +kernel) (pa_cons (pe_op op_add (pe_op op_add (pe_op op_mulC (pv 1) pe_int) (pe_op op_modC (pe_callTy call_intI (by rfl) T.b_int (by decide +kernel) (pa_cons (pv 2) pa_nil)) pe_int)) pe_int) pa_nil)) pe_int))))
      (pss_one (ps_ret (pe_lst (pa_cons (pe_callTy call_listL (by rfl) T.b_list (by decide +kernel) (pa_cons (pe_slice sl_list (pv 0) po_none (po_some pe_int)) pa_nil)) (pa_cons pe_int (pa_cons pe_int (pa_cons (pv 1) (pa_cons pe_int pa_nil)))))))))), ?_⟩
    refine ⟨_, rfl, 63, rfl, a, _, rfl, hS, fun u nu => ?_⟩
    rw [cut63 hl']
    refine ⟨u, rfl, ⟨_, lsq upd_same⟩, for_list (K := K) (a := u) (xs := ns.map V.int)
      (fun i σ H2 => ∃ (m : Int) (c : Option V), σ = [some (.ref a), some (.int m), c] ∧ 0 ≤ m ∧ m < 2147483549 ∧ Same H H2 ∧ H2 u = some (.lst (ns.map V.int)))
      ⟨12001, none, rfl, by decide, by decide, same_upd nu, upd_same⟩ (fun i σ H2 _ ⟨_, _, _, _, _, _, h2⟩ => lsq h2) ?_ ?_⟩
    · rintro i y σ H2 hi ⟨m, c, rfl, m0, m1, s2, h2⟩
      obtain ⟨z, rfl⟩ : ∃ z, y = V.int z := by
        obtain ⟨z, _, e⟩ := List.mem_map.mp (List.mem_of_getElem? hi)
        exact ⟨z, e.symm⟩
      walk_at "st"
      exact ⟨_, _, rfl, Int.emod_nonneg _ (by decide), Int.emod_lt_of_pos _ (by decide), s2, h2⟩
    · rintro σ H2 ⟨m, c, rfl, m0, m1, s2, h2⟩
      refine ⟨_, rfl, 63, rfl, a, _, rfl, SqL.same s2 hS, fun v nv => ?_⟩
      rw [cut63 hl']
      refine ⟨v, _, rfl, lsq upd_same, fun x nx => ⟨_, rfl, by show 5 ≤ sizeLine; decide, fun p np => ?_⟩⟩
      have s3 : Same H2 (upd H2 v (.lst (ns.map V.int))) := same_upd nv
      have s4 := s3.trans (same_upd (o := .lst (ns.map V.int)) nx)
      have s5 := s4.trans (same_upd (o := .lst [.ref x, .int 0, .int 0, .int m, .int 0]) np)
      refine q ⟨p, x, ns⟩ _ (Same.free (s2.trans s4) np) ⟨0, 0, m, 0, upd_same, ?_, ?_, by decide, by omega, hl, by decide, m0, m1⟩ (s2.trans s5)
      · rw [upd_ne (ne_of_none upd_same np)]
        exact upd_same
      · exact ne_of_none upd_same np
theorem ok_Ldraw (T : TopOk K mg A) : FnOk P w K mg base CX0 1 A.f_Ldraw A.d_Ldraw P_Ldraw spDraw := by
  refine T.F_Ldraw.ok sc_Ldraw (fun vs H Q E h => ?_) (fun cdv Ar outer s H vs Q E hr h => ?_)
  · obtain ⟨p, n, rfl, _⟩ := h
    rfl
  · obtain ⟨⟨p, l, ns⟩, n, rfl, ⟨i, g, m, c, hp, hl, nlp, i0, i1, n63, g0, m0, m1⟩, n0, n1, q⟩ := h
    dsimp only at hp hl nlp i1 n63 q ⊢
    refine ⟨_, (pss_cons (ps_asg (pe_op op_add (pe_ix ix_bag (pv 0) pe_int (fun _ _ => rfl)) pe_int) (pg_sub (pv 0) pe_int set_list))
      (Evl.pss_cut (ps_if (PW.pt (pw_and (pt_cmpR op_eq (pe_ix ix_bag (pv 0) pe_int (fun _ _ => rfl)) pe_int (nomark _)) (pw_and1 (pt_cmpR op_lt (pe_ix ix_bag (pv 0) pe_int (fun _ _ => rfl)) (pe_callB call_lenL (by rfl) T.b_len (by decide +kernel) (pa_cons (pe_ix ix_bag (pv 0) pe_int (fun _ _ => rfl)) pa_nil)) (nomark _)))))
      (pss_cons (ps_set (i := 3) sc_Ldraw.nd rfl (by first | exact Or.inl rfl | exact Or.inr rfl) (pe_ix ix_bag (pe_ix ix_bag (pv 0) pe_int (fun _ _ => rfl)) (pe_ix ix_bag (pv 0) pe_int (fun _ _ => rfl)) (fun _ _ => rfl)))
      (pss_cons (ps_asg (pe_op op_add (pe_ix ix_bag (pv 0) pe_int (fun _ _ => rfl)) pe_int) (pg_sub (pv 0) pe_int set_list))
      (pss_one (ps_if (pt_cmpR op_ge (pv 3) (pe_op op_pow pe_int pe_int) (nomark _))
      (pss_one (ps_asg (pv 3) (pg_sub (pv 0) pe_int set_list)))
      (pss_one (ps_asg (pe_op op_modC (pe_callTy call_intI (by rfl) T.b_int (by decide +kernel) (pa_cons (pe_op op_add (pe_op op_add (pe_op op_mulC (pe_ix ix_bag (pv 0) pe_int (fun _ _ => rfl)) pe_int) (pe_op op_mulC (pe_op op_modC (pe_callTy call_intI (by rfl) T.b_int (by decide +kernel) (pa_cons (pv 3) pa_nil)) pe_int) pe_int)) pe_int) pa_nil)) pe_int) (pg_sub (pv 0) pe_int set_list)))))))
      pss_nil)
      (pss_cons (ps_if (pt_cmpR op_gt (pe_ix ix_bag (pv 0) pe_int (fun _ _ => rfl)) pe_int (nomark _))
      (pss_cons (ps_set (i := 4) sc_Ldraw.nd rfl (by first | exact Or.inl rfl | exact Or.inr rfl) (pe_op op_mod (pe_callTy call_intI (by rfl) T.b_int (by decide +kernel) (pa_cons (pe_ix ix_bag (pv 0) pe_int (fun _ _ => rfl)) pa_nil)) (pv 1)))
      (pss_cons (ps_asg (pe_op op_fdiv (pe_ix ix_bag (pv 0) pe_int (fun _ _ => rfl)) (pv 1)) (pg_sub (pv 0) pe_int set_list))
      (pss_one (ps_ret (pv 4)))))
      pss_nil)
      (pss_cons (ps_set (i := 2) sc_Ldraw.nd rfl (by first | exact Or.inl rfl | exact Or.inr rfl) (pe_callTy call_intI (by rfl) T.b_int (by decide +kernel) (pa_cons (pe_ix ix_bag (pv 0) pe_int (fun _ _ => rfl)) pa_nil)))
      (pss_cons (ps_asg (pe_op op_modC (pe_callTy call_intI (by rfl) T.b_int (by decide +kernel) (pa_cons (pe_op op_add (pe_op op_add (pe_op op_add (pe_op op_pow (pv 2) pe_int) (pe_op op_mulC (pv 2) pe_int)) (pe_op op_mulC (pe_ix ix_bag (pv 0) pe_int (fun _ _ => rfl)) pe_int)) pe_int) pa_nil)) pe_int) (pg_sub (pv 0) pe_int set_list))
      (pss_one (ps_ret (pe_op op_mod (pe_callTy call_intI (by rfl) T.b_int (by decide +kernel) (pa_cons (pe_op op_add (pe_op op_fdivC (pe_ix ix_bag (pv 0) pe_int (fun _ _ => rfl)) pe_int) (pe_op op_mulC (pe_op op_modC (pe_callTy call_intI (by rfl) T.b_int (by decide +kernel) (pa_cons (pe_ix ix_bag (pv 0) pe_int (fun _ _ => rfl)) pa_nil)) pe_int) pe_int)) pa_nil)) (pv 1))))))))), ?_⟩
    -- bag[4] = bag[4] + 1
    refine ⟨_, rfl, _, _, _, _, rfl, rfl, hp, rfl, _, _, rfl, rfl, _, rfl, p, _, 4, 4, rfl, rfl, hp, rfl, ?_⟩
    have hp1 : (upd H p (.lst [.ref l, .int i, .int g, .int m, .int (c + 1)])) p = some (.lst [.ref l, .int i, .int g, .int m, .int (c + 1)]) := upd_same
    have hl1 : (upd H p (.lst [.ref l, .int i, .int g, .int m, .int (c + 1)])) l = some (.lst (ns.map V.int)) := by rw [upd_ne nlp]; exact hl
    -- the mixing of the next cell
    refine ⟨fun σ' H' => ∃ (i g m c : Int) (x3 : Option V), σ' = [some (.ref p), some (.int n), none, x3, none] ∧ H' p = some (.lst [.ref l, .int i, .int g, .int m, .int c]) ∧ H' l = some (.lst (ns.map V.int)) ∧ 0 ≤ i ∧ i ≤ ns.length ∧ 0 ≤ g ∧ 0 ≤ m ∧ m < 2147483549 ∧ Ext p H H', ?_, ?_⟩
    · have ex1 : Ext p H (upd H p (.lst [.ref l, .int i, .int g, .int m, .int (c + 1)])) := fun b o hb nb => by rw [upd_ne nb]; exact hb
      refine ⟨_, rfl, _, _, _, _, rfl, rfl, hp1, rfl, rfl, _, rfl, ite2 (fun e => ?_) (fun e => ?_)⟩
      · have e0 : g = 0 := V.int.inj (of_decide_eq_true e)
        subst e0
        refine ⟨_, rfl, _, _, _, _, rfl, rfl, hp1, rfl, _, rfl, _, _, _, _, rfl, rfl, hp1, rfl, l, _, rfl, lsq hl1, _, _, rfl, rfl, _, rfl, ite2 (fun e => ?_) (fun e => ?_)⟩
        · have e1 : i < ((ns.map V.int).length : Int) := of_decide_eq_true e
          rw [List.length_map] at e1
          obtain ⟨j, rfl⟩ := Int.eq_ofNat_of_zero_le i0
          have hj : j < ns.length := by omega
          have hat : atI (ns.map V.int) (j : Int) = some (V.int ns[j]) := atI_nat (by rw [List.getElem?_map, List.getElem?_eq_getElem hj]; rfl)
          refine ⟨_, rfl, _, _, _, _, rfl, rfl, hp1, rfl, _, rfl, _, _, _, _, rfl, rfl, hp1, rfl, l, _, _, _, rfl, rfl, hl1, hat, ?_⟩
          refine ⟨_, rfl, _, _, _, _, rfl, rfl, hp1, rfl, _, _, rfl, rfl, _, rfl, p, _, 1, 1, rfl, rfl, hp1, rfl, ?_⟩
          have ex2 : Ext p H (upd (upd H p (.lst [.ref l, .int j, .int 0, .int m, .int (c + 1)])) p (.lst [.ref l, .int (j + 1), .int 0, .int m, .int (c + 1)])) := fun b o hb nb => by rw [upd_ne nb, upd_ne nb]; exact hb
          have hp2 : (upd (upd H p (.lst [.ref l, .int j, .int 0, .int m, .int (c + 1)])) p (.lst [.ref l, .int (j + 1), .int 0, .int m, .int (c + 1)])) p = some (.lst [.ref l, .int (j + 1), .int 0, .int m, .int (c + 1)]) := upd_same
          have hl2 : (upd (upd H p (.lst [.ref l, .int j, .int 0, .int m, .int (c + 1)])) p (.lst [.ref l, .int (j + 1), .int 0, .int m, .int (c + 1)])) l = some (.lst (ns.map V.int)) := by rw [upd_ne nlp]; exact hl1
          refine ⟨_, rfl, _, _, rfl, rfl, ⟨by decide, by decide, by decide⟩, _, _, rfl, rfl, _, rfl, ite2 (fun e => ?_) (fun e => ?_)⟩
          · have e2 : (10 ^ (18 : Int).toNat : Int) ≤ ns[j] := of_decide_eq_true e
            have e3 : (0 : Int) ≤ ns[j] := Int.le_trans (by decide) e2
            refine ⟨_, rfl, _, rfl, p, _, 2, 2, rfl, rfl, hp2, rfl, ?_⟩
            refine ⟨(j : Int) + 1, ns[j], m, c + 1, some (V.int ns[j]), rfl, upd_same, ?_, by omega, by omega, e3, m0, m1, fun b o hb nb => ?_⟩
            · rw [upd_ne nlp]; exact hl2
            · rw [upd_ne nb]; exact ex2 b o hb nb
          · refine ⟨_, rfl, _, _, _, _, rfl, rfl, hp2, rfl, _, _, rfl, rfl, rfl, _, rfl, _, rfl, _, _, rfl, rfl, rfl, _, _, rfl, rfl, rfl, _, _, rfl, rfl, _, _, rfl, rfl, _, rfl, _, _, rfl, rfl, rfl, _, rfl, p, _, 3, 3, rfl, rfl, hp2, rfl, ?_⟩
            refine ⟨(j : Int) + 1, 0, _, c + 1, some (V.int ns[j]), rfl, upd_same, ?_, by omega, by omega, by decide, Int.emod_nonneg _ (by decide), Int.emod_lt_of_pos _ (by decide), fun b o hb nb => ?_⟩
            · rw [upd_ne nlp]; exact hl2
            · rw [upd_ne nb]; exact ex2 b o hb nb
        · exact ⟨i, 0, m, c + 1, none, rfl, hp1, hl1, i0, i1, g0, m0, m1, ex1⟩
      · refine iteF ?_
        exact ⟨i, g, m, c + 1, none, rfl, hp1, hl1, i0, i1, g0, m0, m1, ex1⟩
    · rintro σ' H' ⟨i, g, m, c, x3, rfl, hp1, hl1, i0, i1, g0, m0, m1, ex1⟩
      -- if bag[2] > 0
      refine ⟨_, rfl, _, _, _, _, rfl, rfl, hp1, rfl, _, _, rfl, rfl, _, rfl, ite2 (fun e => ?_) (fun e => ?_)⟩
      · refine ⟨_, rfl, _, _, _, _, rfl, rfl, hp1, rfl, _, rfl, _, rfl, _, _, rfl, rfl, n0, ?_⟩
        refine ⟨_, rfl, _, _, _, _, rfl, rfl, hp1, rfl, _, rfl, _, _, rfl, rfl, ⟨n0, n1⟩, _, rfl, p, _, 2, 2, rfl, rfl, hp1, rfl, _, rfl, ?_⟩
        refine q _ _ (Int.emod_nonneg _ (by omega)) (Int.emod_lt_of_pos _ n0) ⟨i, g / n, m, c, upd_same, ?_, nlp, i0, i1, n63, Int.ediv_nonneg g0 (by omega), m0, m1⟩ fun b o hb nb => ?_
        · rw [upd_ne nlp]; exact hl1
        · rw [upd_ne nb]; exact ex1 b o hb nb
      · refine ⟨_, rfl, _, _, _, _, rfl, rfl, hp1, rfl, _, rfl, ?_⟩
        refine ⟨_, rfl, _, _, rfl, rfl, ⟨by decide, by decide, by omega⟩, _, rfl, _, _, rfl, rfl, rfl, _, _, rfl, rfl, _, rfl, _, _, _, _, rfl, rfl, hp1, rfl, _, _, rfl, rfl, rfl, _, _, rfl, rfl, _, _, rfl, rfl, _, rfl, _, _, rfl, rfl, rfl, _, rfl, p, _, 3, 3, rfl, rfl, hp1, rfl, ?_⟩
        refine ⟨_, rfl, _, _, _, _, rfl, rfl, upd_same, rfl, _, _, rfl, rfl, rfl, _, rfl, _, _, _, _, rfl, rfl, upd_same, rfl, _, rfl, _, _, rfl, rfl, rfl, _, _, rfl, rfl, rfl, _, _, rfl, rfl, _, rfl, _, rfl, _, _, rfl, rfl, n0, ?_⟩
        refine q _ _ (Int.emod_nonneg _ (by omega)) (Int.emod_lt_of_pos _ n0) ⟨i, g, _, c, upd_same, ?_, nlp, i0, i1, n63, g0, Int.emod_nonneg _ (by decide), Int.emod_lt_of_pos _ (by decide)⟩ fun b o hb nb => ?_
        · rw [upd_ne nlp]; exact hl1
        · rw [upd_ne nb]; exact ex1 b o hb nb
theorem ok_Lof (T : TopOk K mg A) : FnOk P w K mg base CX0 2 A.f_Lof A.d_Lof P_Lof (spOf K) := by
  have G_Ldraw : FnOk P w K mg base CX0 1 A.f_Ldraw A.d_Ldraw P_Ldraw spDraw := ok_Ldraw T
  refine T.F_Lof.ok sc_Lof (fun vs H Q E h => ?_) (fun cdv Ar outer s H vs Q E hr h => ?_)
  · obtain ⟨p, y, rfl, _⟩ := h
    rfl
  · obtain ⟨B, y, rfl, hB, h⟩ := h
    refine ⟨_, (pss_one (ps_ret (pe_ix ix_seq (pv 1) (pe_call G_Ldraw (hr.mono (by decide)) (by rfl) T.g_Ldraw T.F_Ldraw.kp T.a_Ldraw .nil pass0 (pa_cons (pv 0) (pa_cons (pe_callB call_len (by rfl) T.b_len (by decide +kernel) (pa_cons (pv 1) pa_nil)) pa_nil))) (fun _ _ => rfl)))), ?_⟩
    rcases h with ⟨q, xs, rfl, nq, hS, h0, h1, k⟩ | ⟨z, rfl, h0, h1, k⟩
    · refine ⟨_, rfl, _, rfl, _, rfl, V.ref q, xs.length, rfl, ?_, B, _, rfl, hB, by omega, by omega, fun r H' r0 r1 hB' ex => ?_⟩
      · rcases hS with hS | hS
        · exact .inl ⟨_, hS, rfl⟩
        · exact .inr ⟨_, hS, rfl⟩
      · obtain ⟨j, rfl⟩ := Int.eq_ofNat_of_zero_le r0
        have hj : j < xs.length := by omega
        have hat : atI xs (j : Int) = some xs[j] := atI_nat (List.getElem?_eq_getElem hj)
        have kk := k xs[j] H' (List.getElem_mem hj) hB' ex
        rcases hS with hS | hS
        · exact .inl ⟨q, xs, _, _, rfl, rfl, SqL.ext ex nq hS, hat, kk⟩
        · exact .inr (.inl ⟨q, xs, _, _, rfl, rfl, SqT.ext ex nq hS, hat, kk⟩)
    · refine ⟨_, rfl, _, rfl, _, rfl, V.str z, z.length, rfl, ⟨h1, rfl⟩, B, _, rfl, hB, by omega, ?_, fun r H' r0 r1 hB' ex => ?_⟩
      · have : (sizeLine : Nat) = 16777216 := by decide
        omega
      · obtain ⟨j, rfl⟩ := Int.eq_ofNat_of_zero_le r0
        have hj : j < z.cps.toList.length := by
          have : z.length = z.cps.toList.length := by simp [Str.length]
          omega
        exact .inr (.inr ⟨z, _, _, rfl, rfl, h1, atI_nat (List.getElem?_eq_getElem hj), k _ H' (List.getElem_mem hj) hB' ex⟩)
theorem ok_Lsame (T : TopOk K mg A) : ∀ n, FnOk P w K mg base CX0 n A.f_Lsame A.d_Lsame P_Lsame (spSameLt K n)
  | 0 => ⟨fun _ _ _ _ h => h.elim, fun _ _ _ _ _ _ _ _ _ _ _ _ _ h => h.elim⟩
  | n + 1 => by
    have G_Lsame : FnOk P w K mg base CX0 n A.f_Lsame A.d_Lsame P_Lsame (spSameLt K n) := ok_Lsame T n
    refine T.F_Lsame.ok sc_Lsame (fun vs H Q E h => ?_) (fun cdv Ar outer s H vs Q E hr h => ?_)
    · obtain ⟨v, w, d, rfl, _⟩ := h
      rfl
    · obtain ⟨v, u, d, rfl, hv, hu, hd, hs, k⟩ := h
      refine ⟨_, (pss_cons (ps_if (PW.pt (pw_or (pt_cmpR op_isN (pv 1) pe_non (nomark _)) (pw_or1 (pt_cmpR op_isN (pv 0) pe_non (nomark _)))))
      (pss_one (ps_ret (pe_and (pe_cmpR op_isN (pv 1) pe_non (nomark _)) (pe_one (pe_cmpR op_isN (pv 0) pe_non (nomark _))))))
      pss_nil)
      (pss_cons (ps_if (pt_val (pe_callB call_isD2 (by rfl) T.b_isinstance (by decide +kernel) (pa_cons (pv 1) (pa_cons (pe_tup (pa_cons (pe_bltn (v := .ty "list") (by rfl) T.b_list (by decide +kernel) rfl) (pa_cons (pe_bltn (v := .ty "tuple") (by rfl) T.b_tuple (by decide +kernel) rfl) pa_nil))) pa_nil))))
      (pss_cons (ps_if (PW.pt (pw_or (pt_cmpR op_ne (pe_callB call_isD (by rfl) T.b_isinstance (by decide +kernel) (pa_cons (pv 0) (pa_cons (pe_bltn (v := .ty "list") (by rfl) T.b_list (by decide +kernel) rfl) pa_nil))) (pe_callB call_isD (by rfl) T.b_isinstance (by decide +kernel) (pa_cons (pv 1) (pa_cons (pe_bltn (v := .ty "list") (by rfl) T.b_list (by decide +kernel) rfl) pa_nil))) (nomark _)) (pw_or1 (pt_cmpR op_ne (pe_callB call_isD (by rfl) T.b_isinstance (by decide +kernel) (pa_cons (pv 0) (pa_cons (pe_bltn (v := .ty "tuple") (by rfl) T.b_tuple (by decide +kernel) rfl) pa_nil))) (pe_callB call_isD (by rfl) T.b_isinstance (by decide +kernel) (pa_cons (pv 1) (pa_cons (pe_bltn (v := .ty "tuple") (by rfl) T.b_tuple (by decide +kernel) rfl) pa_nil))) (nomark _)))))
      (pss_one (ps_ret pe_bl))
      pss_nil)
      (pss_one (ps_ret (pe_and (pe_cmpR op_eq (pe_callB call_len (by rfl) T.b_len (by decide +kernel) (pa_cons (pv 0) pa_nil)) (pe_callB call_len (by rfl) T.b_len (by decide +kernel) (pa_cons (pv 1) pa_nil)) (nomark _)) (pe_one (pe_callB (cr_all rfl) (by rfl) T.b_all (by decide +kernel) (pa_cons (pe_lc (own := [("_law_one", 2), ("_law_two", 3)]) (g := gTup K 2 (gCons (gName 2) (gCons (gName 3) gNil))) (by rfl) sc_Lsame.nd (RZ.pi_zipA (by rfl) T.b_zip (pa_cons (pv 0) (pa_cons (pv 1) pa_nil))) (blkOk_by (own := [("_law_one", 2), ("_law_two", 3)]) (N := N_Lsame) (sc := defScope s_Lsame) (by decide +kernel)) (fun _ _ _ _ _ => (pg_tup rfl (pgs_cons (pg_name (i := 2) sc_Lsame.nd rfl (by first | exact Or.inl rfl | exact Or.inr rfl)) (pgs_cons (pg_name (i := 3) sc_Lsame.nd rfl (by first | exact Or.inl rfl | exact Or.inr rfl)) pgs_nil)))) (fun _ _ _ _ _ => pts_nil) (fun _ _ _ _ _ => (pe_call G_Lsame hr (by rfl) T.g_Lsame T.F_Lsame.kp T.a_Lsame .nil pass0 (pa_cons (pv 2) (pa_cons (pv 3) pa_nil))))) pa_nil)))))))
      pss_nil)
      (pss_cons (ps_if (PW.pt (pw_or (pt_cmpR op_ne (pe_callB call_isD (by rfl) T.b_isinstance (by decide +kernel) (pa_cons (pv 0) (pa_cons (pe_bltn (v := .ty "bool") (by rfl) T.b_bool (by decide +kernel) rfl) pa_nil))) (pe_callB call_isD (by rfl) T.b_isinstance (by decide +kernel) (pa_cons (pv 1) (pa_cons (pe_bltn (v := .ty "bool") (by rfl) T.b_bool (by decide +kernel) rfl) pa_nil))) (nomark _)) (pw_or1 (pt_cmpR op_ne (pe_callB call_isD (by rfl) T.b_isinstance (by decide +kernel) (pa_cons (pv 0) (pa_cons (pe_bltn (v := .ty "int") (by rfl) T.b_int (by decide +kernel) rfl) pa_nil))) (pe_callB call_isD (by rfl) T.b_isinstance (by decide +kernel) (pa_cons (pv 1) (pa_cons (pe_bltn (v := .ty "int") (by rfl) T.b_int (by decide +kernel) rfl) pa_nil))) (nomark _)))))
      (pss_one (ps_ret pe_bl))
      pss_nil)
      (pss_one (ps_ret (pe_and (pe_cmpR op_eq (pe_callB call_isD (by rfl) T.b_isinstance (by decide +kernel) (pa_cons (pv 0) (pa_cons (pe_bltn (v := .ty "str") (by rfl) T.b_str (by decide +kernel) rfl) pa_nil))) (pe_callB call_isD (by rfl) T.b_isinstance (by decide +kernel) (pa_cons (pv 1) (pa_cons (pe_bltn (v := .ty "str") (by rfl) T.b_str (by decide +kernel) rfl) pa_nil))) (nomark _)) (pe_one (pe_cmpR op_eq (pv 0) (pv 1) (nomark _))))))))), ?_⟩
      cases d with
      | none =>
        cases hv
        cases hu
        exact ⟨_, rfl, rfl, _, rfl, iteT (iteT ⟨_, rfl, rfl, true, rfl, iteT ⟨_, rfl, rfl, k _ (Same.refl _)⟩⟩)⟩
      | bool b =>
        cases hv
        cases hu
        have hb : ∀ H', Dp K H' (V.bl b) (.bool b) := fun _ => .bl b
        refine ⟨_, rfl, rfl, _, rfl, iteF ⟨_, rfl, rfl, _, rfl, iteF ?_⟩⟩
        refine ⟨_, rfl, by show 2 ≤ sizeLine; decide, fun t nt => ⟨_, t, _, _, _, rfl, upd_same, rfl, rfl, hb _, _, rfl, iteF ?_⟩⟩
        refine ⟨_, rfl, _, _, _, rfl, rfl, hb _, _, rfl, _, _, _, rfl, rfl, hb _, rfl, _, rfl, iteF ?_⟩
        refine ⟨_, rfl, _, _, _, rfl, rfl, hb _, _, rfl, _, _, _, rfl, rfl, hb _, rfl, _, rfl, iteF ?_⟩
        refine ⟨_, rfl, _, _, _, rfl, rfl, hb _, _, rfl, _, _, _, rfl, rfl, hb _, rfl, _, rfl, iteT ?_⟩
        refine ⟨_, rfl, _, rfl, rfl, ?_⟩
        rw [decide_eq_true rfl]
        exact k _ (same_upd nt)
      | int b =>
        cases hv
        cases hu
        have hb : ∀ H', Dp K H' (V.int b) (.int b) := fun _ => .int b
        refine ⟨_, rfl, rfl, _, rfl, iteF ⟨_, rfl, rfl, _, rfl, iteF ?_⟩⟩
        refine ⟨_, rfl, by show 2 ≤ sizeLine; decide, fun t nt => ⟨_, t, _, _, _, rfl, upd_same, rfl, rfl, hb _, _, rfl, iteF ?_⟩⟩
        refine ⟨_, rfl, _, _, _, rfl, rfl, hb _, _, rfl, _, _, _, rfl, rfl, hb _, rfl, _, rfl, iteF ?_⟩
        refine ⟨_, rfl, _, _, _, rfl, rfl, hb _, _, rfl, _, _, _, rfl, rfl, hb _, rfl, _, rfl, iteF ?_⟩
        refine ⟨_, rfl, _, _, _, rfl, rfl, hb _, _, rfl, _, _, _, rfl, rfl, hb _, rfl, _, rfl, iteT ?_⟩
        refine ⟨_, rfl, _, rfl, rfl, ?_⟩
        rw [decide_eq_true rfl]
        exact k _ (same_upd nt)
      | str b =>
        cases hv
        cases hu
        have hb : ∀ H', Dp K H' (V.str b) (.str b) := fun _ => .str b
        refine ⟨_, rfl, rfl, _, rfl, iteF ⟨_, rfl, rfl, _, rfl, iteF ?_⟩⟩
        refine ⟨_, rfl, by show 2 ≤ sizeLine; decide, fun t nt => ⟨_, t, _, _, _, rfl, upd_same, rfl, rfl, hb _, _, rfl, iteF ?_⟩⟩
        refine ⟨_, rfl, _, _, _, rfl, rfl, hb _, _, rfl, _, _, _, rfl, rfl, hb _, rfl, _, rfl, iteF ?_⟩
        refine ⟨_, rfl, _, _, _, rfl, rfl, hb _, _, rfl, _, _, _, rfl, rfl, hb _, rfl, _, rfl, iteF ?_⟩
        refine ⟨_, rfl, _, _, _, rfl, rfl, hb _, _, rfl, _, _, _, rfl, rfl, hb _, rfl, _, rfl, iteT ?_⟩
        refine ⟨_, rfl, _, rfl, rfl, ?_⟩
        rw [decide_eq_true rfl]
        exact k _ (same_upd nt)
      | list ds =>
        obtain ⟨a, xs, rfl, sx, dx⟩ := Dp.lenL hv
        obtain ⟨b, ys, rfl, sy, dy⟩ := Dp.lenL hu
        have hsm : decide (ds.length ≤ 5000) = true ∧ smallAll ds = true := by
          unfold small at hs
          exact Bool.and_eq_true_iff.mp hs
        have hsz : ds.length ≤ 5000 := of_decide_eq_true hsm.1
        have lx := DpAll.length dx
        have ly := DpAll.length dy
        refine ⟨_, rfl, rfl, _, rfl, iteF ⟨_, rfl, rfl, _, rfl, iteF ?_⟩⟩
        refine ⟨_, rfl, by show 2 ≤ sizeLine; decide, fun t nt => ?_⟩
        have s1 : Same H (upd H t (.tup [.ty "list", .ty "tuple"])) := same_upd nt
        have hv1 := Dp.same s1 _ _ hv
        have hu1 := Dp.same s1 _ _ hu
        refine ⟨_, t, _, _, _, rfl, upd_same, rfl, rfl, hu1, _, rfl, iteT ?_⟩
        refine ⟨_, rfl, _, _, _, rfl, rfl, hv1, _, rfl, _, _, _, rfl, rfl, hu1, rfl, _, rfl, iteF ?_⟩
        refine ⟨_, rfl, _, _, _, rfl, rfl, hv1, _, rfl, _, _, _, rfl, rfl, hu1, rfl, _, rfl, iteF ?_⟩
        refine ⟨_, rfl, .ref a, xs.length, rfl, .inl ⟨xs, SqL.same s1 sx, rfl⟩, _, rfl, .ref b, ys.length, rfl, .inl ⟨ys, SqL.same s1 sy, rfl⟩, rfl, _, rfl, ?_⟩
        rw [lx, ly, decide_eq_true rfl]
        refine iteT ?_
        refine ⟨_, rfl, _, rfl, a, b, xs, ys, rfl, .inl ⟨SqL.same s1 sx, SqL.same s1 sy, fun D nD => ?_⟩⟩
        refine same_all (walk_zip (K := K) (xs := xs) (ys := ys) (by rw [lx, ly, Nat.min_self])) (DpAll.same s1 _ _ dx) (DpAll.same s1 _ _ dy) (fun H2 s2 => ⟨SqL.same (s1.trans s2) sx, SqL.same (s1.trans s2) sy⟩) nD hsz hsm.2 hd ⟨_, _, rfl⟩ fun H2 s2 h2 => ?_
        refine ⟨D, List.replicate ds.length true, rfl, lsq ?_, ?_⟩
        · rw [h2, List.map_replicate]
        · rw [show (List.replicate ds.length true).all id = true by simp]
          exact k _ (s1.trans s2)
      | tuple ds =>
        obtain ⟨a, xs, rfl, sx, dx⟩ := Dp.lenT hv
        obtain ⟨b, ys, rfl, sy, dy⟩ := Dp.lenT hu
        have hsm : decide (ds.length ≤ 5000) = true ∧ smallAll ds = true := by
          unfold small at hs
          exact Bool.and_eq_true_iff.mp hs
        have hsz : ds.length ≤ 5000 := of_decide_eq_true hsm.1
        have lx := DpAll.length dx
        have ly := DpAll.length dy
        refine ⟨_, rfl, rfl, _, rfl, iteF ⟨_, rfl, rfl, _, rfl, iteF ?_⟩⟩
        refine ⟨_, rfl, by show 2 ≤ sizeLine; decide, fun t nt => ?_⟩
        have s1 : Same H (upd H t (.tup [.ty "list", .ty "tuple"])) := same_upd nt
        have hv1 := Dp.same s1 _ _ hv
        have hu1 := Dp.same s1 _ _ hu
        refine ⟨_, t, _, _, _, rfl, upd_same, rfl, rfl, hu1, _, rfl, iteT ?_⟩
        refine ⟨_, rfl, _, _, _, rfl, rfl, hv1, _, rfl, _, _, _, rfl, rfl, hu1, rfl, _, rfl, iteF ?_⟩
        refine ⟨_, rfl, _, _, _, rfl, rfl, hv1, _, rfl, _, _, _, rfl, rfl, hu1, rfl, _, rfl, iteF ?_⟩
        refine ⟨_, rfl, .ref a, xs.length, rfl, .inr ⟨xs, SqT.same s1 sx, rfl⟩, _, rfl, .ref b, ys.length, rfl, .inr ⟨ys, SqT.same s1 sy, rfl⟩, rfl, _, rfl, ?_⟩
        rw [lx, ly, decide_eq_true rfl]
        refine iteT ?_
        refine ⟨_, rfl, _, rfl, a, b, xs, ys, rfl, .inr ⟨SqT.same s1 sx, SqT.same s1 sy, fun D nD => ?_⟩⟩
        refine same_all (walk_zipT (K := K) (xs := xs) (ys := ys) (by rw [lx, ly, Nat.min_self])) (DpAll.same s1 _ _ dx) (DpAll.same s1 _ _ dy) (fun H2 s2 => ⟨SqT.same (s1.trans s2) sx, SqT.same (s1.trans s2) sy⟩) nD hsz hsm.2 hd ⟨_, _, rfl⟩ fun H2 s2 h2 => ?_
        refine ⟨D, List.replicate ds.length true, rfl, lsq ?_, ?_⟩
        · rw [h2, List.map_replicate]
        · rw [show (List.replicate ds.length true).all id = true by simp]
          exact k _ (s1.trans s2)
      | dict ds => cases hv
end
end My

set_option Elab.async false
set_option linter.all false
set_option maxRecDepth 100000
namespace My
open PySem PySem.Spec PyProof.Rows L2
/-! ### what the words are worth -/
def letters : Str := "abcdefghijklmnopqrstuvwxyz"
def consS (x z : Str) : Bool := !decide (V.str x = V.str "") && (x.cps.toList.map fun c => decide (c ∈ z.cps.toList)).all id
def nameD (m : Int) : PyData → Bool
  | .str x => decide ((x.length : Int) ≤ m) && consS x letters
  | _ => false
def numD (lo hi : Int) : PyData → Bool
  | .int i => decide (lo ≤ i) && decide (i ≤ hi)
  | _ => false
def deedD : PyData → Bool
  | .none => true
  | .tuple [k, m] => ([PyData.str "send", PyData.str "receive"].any fun z => PyData.eqv z k) && nameD 4 m
  | _ => false
def stepD : PyData → Bool
  | .tuple [m, n, d] => nameD 4 m && (numD (-99) 99 n && deedD d)
  | _ => false
def spCons : Sp := fun vs H Q _ => ∃ x z : Str, vs = [.str x, .str z] ∧ x.length ≤ 5000 ∧ ∀ H', Same H H' → Q (.bl (consS x z)) H'
def spNum (K : PySem.W.Frag) : Sp := fun vs H Q _ => ∃ (v : V) (d : PyData) (lo hi : Int), vs = [v, .int lo, .int hi] ∧ Dp K H v d ∧ fine d = true ∧ Q (.bl (numD lo hi d)) H
section
variable {P : Program} {w : World} {K : PySem.W.Frag} {mg : Str → Option Value} {base : Heap} {A : Top}
theorem ok_cons (T : TopOk K mg A) : FnOk P w K mg base CX0 1 A.f_consists_of A.d_consists_of P_consists_of spCons := by
  refine T.F_consists_of.ok sc_consists_of (fun vs H Q E h => ?_) (fun cdv Ar outer s H vs Q E hr h => ?_)
  · obtain ⟨x, z, rfl, _⟩ := h
    rfl
  · obtain ⟨x, z, rfl, hl, k⟩ := h
    refine ⟨_, (pss_one (ps_ret (pe_and (pe_cmpR op_ne (pv 0) pe_str (nomark _)) (pe_one (pe_callB (cr_all rfl) (by rfl) T.b_all (by decide +kernel) (pa_cons (pe_lc (own := [("sign", 2)]) (g := gName 2) (by rfl) sc_consists_of.nd (pi_str (pv 0)) (blkOk_by (own := [("sign", 2)]) (N := N_consists_of) (sc := defScope s_consists_of) (by decide +kernel)) (fun _ _ _ _ _ => (pg_name (i := 2) sc_consists_of.nd rfl (by first | exact Or.inl rfl | exact Or.inr rfl))) (fun _ _ _ _ _ => pts_nil) (fun _ _ _ _ _ => (pe_cmpR op_in_sign (pv 2) (pv 1) (by rfl)))) pa_nil)))))), ?_⟩
    refine ⟨_, rfl, rfl, _, rfl, ite2 (fun e => ?_) (fun e => ?_)⟩
    · refine ⟨_, rfl, x, rfl, fun D nD => str_all nD hl (fun c => decide (c ∈ z.cps.toList)) (fun _ => rfl) (fun c H2 Q2 q2 => ⟨_, rfl, _, rfl, c, z, rfl, rfl, q2⟩) fun H2 s2 h2 => ?_⟩
      refine ⟨D, x.cps.toList.map fun c => decide (c ∈ z.cps.toList), rfl, lsq h2, ?_⟩
      have e2 : consS x z = (x.cps.toList.map fun c => decide (c ∈ z.cps.toList)).all id := by
        unfold consS
        rw [e, Bool.true_and]
      rw [← e2]
      exact k _ s2
    · have e2 : consS x z = false := by
        unfold consS
        rw [Bool.eq_false_iff.mpr e, Bool.false_and]
      have := k H (Same.refl _)
      rw [e2] at this
      exact this
theorem ok_is_name (T : TopOk K mg A) : FnOk P w K mg base CX0 2 A.f_is_name A.d_is_name P_is_name (spD K (nameD 6)) := by
  have G_consists_of : FnOk P w K mg base CX0 1 A.f_consists_of A.d_consists_of P_consists_of spCons := ok_cons T
  refine T.F_is_name.ok sc_is_name (fun vs H Q E h => ?_) (fun cdv Ar outer s H vs Q E hr h => ?_)
  · obtain ⟨x, z, rfl, _⟩ := h
    rfl
  · obtain ⟨v, d, rfl, hv, hf, k⟩ := h
    refine ⟨_, (pss_one (ps_ret (pe_and (pe_callB call_isD (by rfl) T.b_isinstance (by decide +kernel) (pa_cons (pv 0) (pa_cons (pe_bltn (v := .ty "str") (by rfl) T.b_str (by decide +kernel) rfl) pa_nil))) (pe_and (pe_cmpR op_le (pe_callB call_len (by rfl) T.b_len (by decide +kernel) (pa_cons (pv 0) pa_nil)) (pe_glob (by rfl) T.c_NAME_LENGTH T.r_NAME_LENGTH) (nomark _)) (pe_one (pe_call G_consists_of (hr.mono (by decide)) (by rfl) T.g_consists_of T.F_consists_of.kp T.a_consists_of .nil pass0 (pa_cons (pv 0) (pa_cons (pe_glob (by rfl) T.c_LETTERS T.r_LETTERS) pa_nil)))))))), ?_⟩
    refine ⟨_, rfl, _, _, _, rfl, rfl, hv, _, rfl, ?_⟩
    cases d with
    | str x =>
      cases hv
      have hl : x.length ≤ 5000 := by
        have := fine_small hf
        unfold small at this
        exact of_decide_eq_true this
      refine iteT ⟨_, rfl, _, _, rfl, ⟨sz (by omega), rfl⟩, _, _, rfl, rfl, _, rfl, ite2 (fun e => ?_) (fun e => ?_)⟩
      · refine ⟨_, rfl, x, letters, rfl, hl, fun H' s' => ?_⟩
        have e2 : nameD 6 (.str x) = consS x letters := by
          show (decide ((x.length : Int) ≤ 6) && consS x letters) = _
          rw [e, Bool.true_and]
        rw [← e2]
        exact k H' s'
      · have e2 : nameD 6 (.str x) = false := by
          show (decide ((x.length : Int) ≤ 6) && consS x letters) = _
          rw [Bool.eq_false_iff.mpr e, Bool.false_and]
        have := k H (Same.refl _)
        rw [e2] at this
        exact this
    | _ => exact iteF (k H (Same.refl _))
theorem ok_is_word (T : TopOk K mg A) : FnOk P w K mg base CX0 2 A.f_is_word A.d_is_word P_is_word (spD K (nameD 4)) := by
  have G_consists_of : FnOk P w K mg base CX0 1 A.f_consists_of A.d_consists_of P_consists_of spCons := ok_cons T
  refine T.F_is_word.ok sc_is_word (fun vs H Q E h => ?_) (fun cdv Ar outer s H vs Q E hr h => ?_)
  · obtain ⟨x, z, rfl, _⟩ := h
    rfl
  · obtain ⟨v, d, rfl, hv, hf, k⟩ := h
    refine ⟨_, (pss_one (ps_ret (pe_and (pe_callB call_isD (by rfl) T.b_isinstance (by decide +kernel) (pa_cons (pv 0) (pa_cons (pe_bltn (v := .ty "str") (by rfl) T.b_str (by decide +kernel) rfl) pa_nil))) (pe_and (pe_cmpR op_le (pe_callB call_len (by rfl) T.b_len (by decide +kernel) (pa_cons (pv 0) pa_nil)) (pe_glob (by rfl) T.c_WORD_LENGTH T.r_WORD_LENGTH) (nomark _)) (pe_one (pe_call G_consists_of (hr.mono (by decide)) (by rfl) T.g_consists_of T.F_consists_of.kp T.a_consists_of .nil pass0 (pa_cons (pv 0) (pa_cons (pe_glob (by rfl) T.c_LETTERS T.r_LETTERS) pa_nil)))))))), ?_⟩
    refine ⟨_, rfl, _, _, _, rfl, rfl, hv, _, rfl, ?_⟩
    cases d with
    | str x =>
      cases hv
      have hl : x.length ≤ 5000 := by
        have := fine_small hf
        unfold small at this
        exact of_decide_eq_true this
      refine iteT ⟨_, rfl, _, _, rfl, ⟨sz (by omega), rfl⟩, _, _, rfl, rfl, _, rfl, ite2 (fun e => ?_) (fun e => ?_)⟩
      · refine ⟨_, rfl, x, letters, rfl, hl, fun H' s' => ?_⟩
        have e2 : nameD 4 (.str x) = consS x letters := by
          show (decide ((x.length : Int) ≤ 4) && consS x letters) = _
          rw [e, Bool.true_and]
        rw [← e2]
        exact k H' s'
      · have e2 : nameD 4 (.str x) = false := by
          show (decide ((x.length : Int) ≤ 4) && consS x letters) = _
          rw [Bool.eq_false_iff.mpr e, Bool.false_and]
        have := k H (Same.refl _)
        rw [e2] at this
        exact this
    | _ => exact iteF (k H (Same.refl _))
theorem ok_is_number (T : TopOk K mg A) : FnOk P w K mg base CX0 1 A.f_is_number A.d_is_number P_is_number (spNum K) := by
  refine T.F_is_number.ok sc_is_number (fun vs H Q E h => ?_) (fun cdv Ar outer s H vs Q E hr h => ?_)
  · obtain ⟨x, d, lo, hi, rfl, _⟩ := h
    rfl
  · obtain ⟨v, d, lo, hi, rfl, hv, hf, k⟩ := h
    refine ⟨_, (pss_one (ps_ret (pe_and (pe_callB call_isD (by rfl) T.b_isinstance (by decide +kernel) (pa_cons (pv 0) (pa_cons (pe_bltn (v := .ty "int") (by rfl) T.b_int (by decide +kernel) rfl) pa_nil))) (pe_and (pe_not (pe_callB call_isD (by rfl) T.b_isinstance (by decide +kernel) (pa_cons (pv 0) (pa_cons (pe_bltn (v := .ty "bool") (by rfl) T.b_bool (by decide +kernel) rfl) pa_nil)))) (pe_one (pe_chain op_le op_le (pv 1) (pv 0) (pv 2))))))), ?_⟩
    refine ⟨_, rfl, _, _, _, rfl, rfl, hv, _, rfl, ?_⟩
    cases d with
    | int i =>
      cases hv
      refine iteT ⟨_, rfl, _, _, _, rfl, rfl, .int i, _, rfl, _, rfl, iteT ⟨_, rfl, _, rfl, _, _, rfl, rfl, _, rfl, ite2 (fun e => ?_) (fun e => ?_)⟩⟩
      · refine ⟨_, rfl, _, _, rfl, rfl, ?_⟩
        have e2 : numD lo hi (.int i) = decide (i ≤ hi) := by
          show (decide (lo ≤ i) && decide (i ≤ hi)) = _
          rw [e, Bool.true_and]
        rw [e2] at k
        exact k
      · have e2 : numD lo hi (.int i) = false := by
          show (decide (lo ≤ i) && decide (i ≤ hi)) = _
          rw [Bool.eq_false_iff.mpr e, Bool.false_and]
        rw [e2] at k
        exact k
    | bool b =>
      cases hv
      exact iteT ⟨_, rfl, _, _, _, rfl, rfl, .bl b, _, rfl, _, rfl, iteF k⟩
    | _ => exact iteF k
theorem smallT {ds : List PyData} (h : fine (.tuple ds) = true) : ds.length ≤ 5000 ∧ smallAll ds = true := by
  have := fine_small h
  unfold small at this
  exact ⟨of_decide_eq_true (Bool.and_eq_true_iff.mp this).1, (Bool.and_eq_true_iff.mp this).2⟩
theorem shapedAll : ∀ {ds : List PyData} {i : Nat} {d : PyData}, PyData.canLayAll0 ds = true → PyData.depthAll ds ≤ 63 → ds[i]? = some d → SeqAt.shaped d = true
  | [], _, _, _, _, e => by simp at e
  | x :: ds, 0, d, h, hd, e => by
    simp at e; subst e
    unfold PyData.canLayAll0 at h
    unfold PyData.depthAll at hd
    unfold SeqAt.shaped
    rw [(Bool.and_eq_true_iff.mp h).1, Bool.true_and]
    exact decide_eq_true (by omega)
  | x :: ds, i + 1, d, h, hd, e => by
    unfold PyData.canLayAll0 at h
    unfold PyData.depthAll at hd
    exact shapedAll (i := i) (Bool.and_eq_true_iff.mp h).2 (by omega) (by simpa using e)
theorem fine_get {ds : List PyData} {i : Nat} {d : PyData} (h : fine (.tuple ds) = true) (e : ds[i]? = some d) : fine d = true := by
  have h1 := (smallT h).2
  have h2 := fine_shaped h
  unfold SeqAt.shaped at h2
  have h3 : PyData.canLayAll0 ds = true := (Bool.and_eq_true_iff.mp h2).1
  have h4 : PyData.depthAll ds + 1 ≤ 64 := of_decide_eq_true (Bool.and_eq_true_iff.mp h2).2
  unfold fine
  rw [smallAll_get h1 e, shapedAll h3 (by omega) e]
  rfl
def deedsD : PyData := .tuple [.tuple [.str "send", .str "!"], .tuple [.str "receive", .str "?"]]
theorem deeds_rows {q : Addr} (hq : ∀ H, Dp K H (.ref q) deedsD) : ∃ r1 r2, ∀ H, SqT K H q [r1, r2] ∧ (∃ t1, r1 = .ref t1 ∧ SqT K H t1 [.str "send", .str "!"]) ∧ (∃ t2, r2 = .ref t2 ∧ SqT K H t2 [.str "receive", .str "?"]) := by
  obtain ⟨a, xs, e, sx, dx⟩ := Dp.lenT (hq fun _ => none)
  cases e
  cases dx with
  | @cons r1 _ _ _ h1 dx =>
    cases dx with
    | @cons r2 _ _ _ h2 dx =>
      cases dx
      obtain ⟨t1, ys, rfl, s1, d1⟩ := Dp.lenT h1
      obtain ⟨t2, zs, rfl, s2, d2⟩ := Dp.lenT h2
      refine ⟨_, _, fun H => ⟨SqT.static sx H, ⟨t1, rfl, ?_⟩, ⟨t2, rfl, ?_⟩⟩⟩
      · cases d1 with
        | cons a b =>
          cases a
          cases b with
          | cons a b =>
            cases a
            cases b
            exact SqT.static s1 H
      · cases d2 with
        | cons a b =>
          cases a
          cases b with
          | cons a b =>
            cases a
            cases b
            exact SqT.static s2 H
theorem deeds_lc {H0 : Hp} {q D : Addr} {Qd : Hp → Prop} {σ : L2.St} (hq : ∀ H, Dp K H (.ref q) deedsD) (hD : H0 D = none) (hσ : ∃ a b c, σ = [a, b, c])
    (hk : ∀ H', Same H0 H' → H' D = some (.lst [.str "send", .str "receive"]) → Qd H') :
    ∃ W : Nat → Nat → Hp → Prop, (∃ m, W 0 m (upd H0 D (.lst []))) ∧ ∀ i m H, W i m H →
      ((Itt K q).stop i H ∧ Qd H) ∨ ((Itt K q).go i H ∧ ∃ Nx : Hp → Prop, (∀ H', Nx H' → ∃ m', m' < m ∧ W (i + 1) m' H') ∧ ∀ x H', (Itt K q).yld i H x H' → (gTup K 2 (gCons (gName 1) (gCons (gName 2) gNil))) x (wipe σ [1, 2]) H' fun σ2 H2 => wipe σ2 [1, 2] = wipe σ [1, 2] ∧ tYes σ2 H2 fun b H3 =>
        if b = true then (tVar 1) σ2 H3 fun y H4 => ∃ acc, H4 D = some (.lst acc) ∧ acc.length < sizeLine ∧ Nx (upd H4 D (.lst (acc ++ [y]))) else Nx H3) := by
  obtain ⟨a, b, c, rfl⟩ := hσ
  obtain ⟨r1, r2, hx⟩ := deeds_rows hq
  refine lc_it (walk_tup (xs := [r1, r2])) (fun i H => Same H0 H ∧ H D = some (.lst ([V.str "send", V.str "receive"].take i))) ⟨same_upd hD, upd_same⟩ (fun _ H _ _ => (hx H).1) (fun i x H H' hi h y => ?_) fun H h => hk H h.1 h.2
  obtain ⟨s1, h1⟩ := h
  obtain ⟨rfl, ex⟩ := y
  obtain ⟨_, ⟨t1, rfl, q1⟩, ⟨t2, rfl, q2⟩⟩ := hx H'
  match i, hi with
  | 0, _ =>
    have e : x = .ref t1 := (Option.some.inj ex).symm
    subst e
    refine ⟨t1, _, rfl, q1, rfl, _, _, rfl, _, _, rfl, rfl, rfl, _, rfl, _, h1, (by decide), fun c o hc => ?_, upd_same⟩
    rw [upd_ne (ne_of_none hc hD)]
    exact s1 _ _ hc
  | 1, _ =>
    have e : x = .ref t2 := (Option.some.inj ex).symm
    subst e
    refine ⟨t2, _, rfl, q2, rfl, _, _, rfl, _, _, rfl, rfl, rfl, _, rfl, _, h1, (by decide), fun c o hc => ?_, upd_same⟩
    rw [upd_ne (ne_of_none hc hD)]
    exact s1 _ _ hc
theorem ok_is_deed (T : TopOk K mg A) : FnOk P w K mg base CX0 3 A.f_is_deed A.d_is_deed P_is_deed (spD K deedD) := by
  have G_is_word : FnOk P w K mg base CX0 2 A.f_is_word A.d_is_word P_is_word (spD K (nameD 4)) := ok_is_word T
  refine T.F_is_deed.ok sc_is_deed (fun vs H Q E h => ?_) (fun cdv Ar outer s H vs Q E hr h => ?_)
  · obtain ⟨x, d, rfl, _⟩ := h
    rfl
  · obtain ⟨v, d, rfl, hv, hf, k⟩ := h
    refine ⟨_, (pss_cons (ps_if (pt_cmpR op_isN (pv 0) pe_non (nomark _))
      (pss_one (ps_ret pe_bl))
      pss_nil)
      (pss_cons (ps_if (PW.pt (pw_or (pt_not (pt_val (pe_callB call_isD (by rfl) T.b_isinstance (by decide +kernel) (pa_cons (pv 0) (pa_cons (pe_bltn (v := .ty "tuple") (by rfl) T.b_tuple (by decide +kernel) rfl) pa_nil))))) (pw_or1 (pt_cmpR op_ne (pe_callB call_len (by rfl) T.b_len (by decide +kernel) (pa_cons (pv 0) pa_nil)) pe_int (nomark _)))))
      (pss_one (ps_ret pe_bl))
      pss_nil)
      (pss_one (ps_ret (pe_and (pe_cmpR (L2.op_inD (hu65 hr)) (pe_ix ix_tup (pv 0) pe_int (fun _ _ => rfl)) (pe_lc (own := [("kind", 1), ("sign", 2)]) (g := gTup K 2 (gCons (gName 1) (gCons (gName 2) gNil))) (by rfl) sc_is_deed.nd (pi_tup (pe_glob (by rfl) T.c_DEEDS T.r_DEEDS)) (blkOk_by (own := [("kind", 1), ("sign", 2)]) (N := N_is_deed) (sc := defScope s_is_deed) (by decide +kernel)) (fun _ _ _ _ _ => (pg_tup rfl (pgs_cons (pg_name (i := 1) sc_is_deed.nd rfl (by first | exact Or.inl rfl | exact Or.inr rfl)) (pgs_cons (pg_name (i := 2) sc_is_deed.nd rfl (by first | exact Or.inl rfl | exact Or.inr rfl)) pgs_nil)))) (fun _ _ _ _ _ => pts_nil) (fun _ _ _ _ _ => (pv 1))) (by rfl)) (pe_one (pe_call G_is_word (hr.mono (by decide)) (by rfl) T.g_is_word T.F_is_word.kp T.a_is_word .nil pass0 (pa_cons (pe_ix ix_tup (pv 0) pe_int (fun _ _ => rfl)) pa_nil)))))))), ?_⟩
    cases d with
    | none =>
      cases hv
      exact ⟨_, rfl, rfl, _, rfl, iteT (k H (Same.refl _))⟩
    | tuple ds =>
      obtain ⟨a, xs, rfl, sx, dx⟩ := Dp.lenT hv
      have lx := DpAll.length dx
      refine ⟨_, rfl, rfl, _, rfl, iteF ?_⟩
      refine ⟨_, rfl, _, _, _, rfl, rfl, hv, _, rfl, iteF ?_⟩
      refine ⟨_, rfl, .ref a, xs.length, rfl, .inr ⟨xs, sx, rfl⟩, rfl, _, rfl, ?_⟩
      match ds, dx, lx, hf, k with
      | [dk, dm], dx, lx, hf, k =>
        cases dx with
        | @cons vk _ _ _ hk dx =>
          cases dx with
          | @cons vm _ _ _ hm dx =>
            cases dx
            refine iteF ?_
            have fk : fine dk = true := fine_get (i := 0) hf rfl
            have fm : fine dm = true := fine_get (i := 1) hf rfl
            refine ⟨_, rfl, a, _, _, vk, rfl, rfl, sx, rfl, A.q_DEEDS, rfl, ?_⟩
            obtain ⟨r1, r2, hx⟩ := deeds_rows T.t_DEEDS
            refine ⟨⟨_, (hx H).1⟩, fun D nD => deeds_lc T.t_DEEDS nD ⟨_, _, _, rfl⟩ fun H2 s2 h2 => ?_⟩
            refine ⟨dk, [.str "send", .str "receive"], Dp.same s2 _ _ hk, .lst (lsq h2) (.cons (.str _) (.cons (.str _) .nil)), fine_shaped fk, by decide +kernel, _, rfl, ite2 (fun e => ?_) (fun e => ?_)⟩
            · refine ⟨_, rfl, a, _, _, vm, rfl, rfl, SqT.same s2 sx, rfl, vm, dm, rfl, Dp.same s2 _ _ hm, fm, fun H3 s3 => ?_⟩
              have e2 : deedD (.tuple [dk, dm]) = nameD 4 dm := by
                show (([PyData.str "send", PyData.str "receive"].any fun z => PyData.eqv z dk) && nameD 4 dm) = _
                rw [e, Bool.true_and]
              have := k H3 (s2.trans s3)
              rw [e2] at this
              exact this
            · have e2 : deedD (.tuple [dk, dm]) = false := by
                show (([PyData.str "send", PyData.str "receive"].any fun z => PyData.eqv z dk) && nameD 4 dm) = _
                rw [Bool.eq_false_iff.mpr e, Bool.false_and]
              have := k H2 s2
              rw [e2] at this
              exact this
      | [], dx, lx, hf, k =>
        rw [show xs.length = 0 from lx]
        exact iteT (k H (Same.refl _))
      | [_], dx, lx, hf, k =>
        rw [show xs.length = 1 from lx]
        exact iteT (k H (Same.refl _))
      | _ :: _ :: _ :: ds, dx, lx, hf, k =>
        rw [show xs.length = ds.length + 3 from lx]
        have hne : (!decide (V.int ((ds.length + 3 : Nat) : Int) = V.int 2)) = true := by
          rw [Bool.not_eq_true', decide_eq_false_iff_not]
          intro z
          have := V.int.inj z
          omega
        rw [hne]
        exact iteT (k H (Same.refl _))
    | bool b =>
      cases hv
      exact ⟨_, rfl, rfl, _, rfl, iteF ⟨_, rfl, _, _, _, rfl, rfl, .bl b, _, rfl, iteT (iteT (k H (Same.refl _)))⟩⟩
    | int b =>
      cases hv
      exact ⟨_, rfl, rfl, _, rfl, iteF ⟨_, rfl, _, _, _, rfl, rfl, .int b, _, rfl, iteT (iteT (k H (Same.refl _)))⟩⟩
    | str b =>
      cases hv
      exact ⟨_, rfl, rfl, _, rfl, iteF ⟨_, rfl, _, _, _, rfl, rfl, .str b, _, rfl, iteT (iteT (k H (Same.refl _)))⟩⟩
    | list ds =>
      obtain ⟨a, xs, rfl, sx, dx⟩ := Dp.lenL hv
      exact ⟨_, rfl, rfl, _, rfl, iteF ⟨_, rfl, _, _, _, rfl, rfl, hv, _, rfl, iteT (iteT (k H (Same.refl _)))⟩⟩
    | dict ds => cases hv
end
end My

set_option Elab.async false
set_option linter.all false
set_option maxRecDepth 100000
namespace My
open PySem PySem.Spec PyProof.Rows L2 TL PySem.PyData
/-! ### the mathematics of names -/
theorem let_lt : ∀ c ∈ letters.cps.toList, c < 128 := by decide +kernel
theorem strOk_of {z : Str} (h : ∀ c ∈ z.cps.toList, c < 128) : strOk z = true := by
  unfold strOk
  rw [← Array.all_toList, List.all_eq_true]
  intro c hc
  have := h c hc
  exact decide_eq_true (by omega)
theorem fine_str {z : Str} (h : ∀ c ∈ z.cps.toList, c < 128) (hl : z.length ≤ 5000) : fine (.str z) = true := by
  show (decide (z.length ≤ 5000) && (strOk z && decide (0 ≤ 64))) = true
  rw [strOk_of h, decide_eq_true hl]
  rfl
theorem len_list (z : Str) : z.length = z.cps.toList.length := by simp [Str.length]
theorem empty_len {z : Str} : decide (V.str z = V.str "") = decide (z.length = 0) := by
  rw [Bool.eq_iff_iff, decide_eq_true_iff, decide_eq_true_iff]
  constructor
  · intro e
    rw [V.str.inj e]
    rfl
  · intro e
    have : z = "" := ext_tl (by
      rw [len_tl] at e
      rw [List.eq_nil_of_length_eq_zero e]
      rfl)
    rw [this]
theorem name_good {z : Str} {m : Int} (h : ∀ c ∈ z.cps.toList, c ∈ letters.cps.toList) : nameD m (.str z) = (decide (1 ≤ (z.length : Int)) && decide ((z.length : Int) ≤ m)) := by
  show (decide ((z.length : Int) ≤ m) && (!decide (V.str z = V.str "") && (z.cps.toList.map fun c => decide (c ∈ letters.cps.toList)).all id)) = _
  have e : (z.cps.toList.map fun c => decide (c ∈ letters.cps.toList)).all id = true := by
    rw [List.all_eq_true]
    intro b hb
    obtain ⟨c, hc, rfl⟩ := List.mem_map.mp hb
    exact decide_eq_true (h c hc)
  rw [e, empty_len, Bool.and_true, Bool.and_comm]
  congr 1
  rw [Bool.eq_iff_iff, Bool.not_eq_true', decide_eq_false_iff_not, decide_eq_true_iff]
  omega
theorem name_bad {z : Str} {m : Int} {c : Nat} (h : c ∈ z.cps.toList) (hc : c ∉ letters.cps.toList) : nameD m (.str z) = false := by
  show (decide ((z.length : Int) ≤ m) && (!decide (V.str z = V.str "") && (z.cps.toList.map fun c => decide (c ∈ letters.cps.toList)).all id)) = false
  have e : (z.cps.toList.map fun c => decide (c ∈ letters.cps.toList)).all id = false := by
    rw [List.all_eq_false]
    exact ⟨false, List.mem_map.mpr ⟨c, h, decide_eq_false hc⟩, by decide⟩
  rw [e, Bool.and_false, Bool.and_false]
theorem tl_signs : ∀ cs : List Nat, tl (Txt.join "" (cs.map fun c => (⟨#[c]⟩ : Str))) = cs := fun cs => by
  rw [join_eq, tl_join]
  induction cs with
  | nil => rfl
  | cons c r ih =>
    cases r with
    | nil => rfl
    | cons c' r =>
      show tl (⟨#[c]⟩ : Str) ++ (tl "" ++ joinL (tl "") ((( c' :: r).map fun c => (⟨#[c]⟩ : Str)).map tl)) = c :: c' :: r
      rw [ih]
      rfl
/-! ### steps -/
section
variable {P : Program} {w : World} {K : PySem.W.Frag} {mg : Str → Option Value} {base : Heap} {A : Top}
theorem ok_is_step (T : TopOk K mg A) : FnOk P w K mg base CX0 4 A.f_is_step A.d_is_step P_is_step (spD K stepD) := by
  have G_is_word : FnOk P w K mg base CX0 2 A.f_is_word A.d_is_word P_is_word (spD K (nameD 4)) := ok_is_word T
  have G_is_number : FnOk P w K mg base CX0 1 A.f_is_number A.d_is_number P_is_number (spNum K) := ok_is_number T
  have G_is_deed : FnOk P w K mg base CX0 3 A.f_is_deed A.d_is_deed P_is_deed (spD K deedD) := ok_is_deed T
  refine T.F_is_step.ok sc_is_step (fun vs H Q E h => ?_) (fun cdv Ar outer s H vs Q E hr h => ?_)
  · obtain ⟨x, d, rfl, _⟩ := h
    rfl
  · obtain ⟨v, d, rfl, hv, hf, k⟩ := h
    refine ⟨_, (pss_cons (ps_if (PW.pt (pw_or (pt_not (pt_val (pe_callB call_isD (by rfl) T.b_isinstance (by decide +kernel) (pa_cons (pv 0) (pa_cons (pe_bltn (v := .ty "tuple") (by rfl) T.b_tuple (by decide +kernel) rfl) pa_nil))))) (pw_or1 (pt_cmpR op_ne (pe_callB call_len (by rfl) T.b_len (by decide +kernel) (pa_cons (pv 0) pa_nil)) pe_int (nomark _)))))
      (pss_one (ps_ret pe_bl))
      pss_nil)
      (pss_cons (ps_asg (pv 0) (pg_tup rfl (pgs_cons (pg_name (i := 1) sc_is_step.nd rfl (by first | exact Or.inl rfl | exact Or.inr rfl)) (pgs_cons (pg_name (i := 2) sc_is_step.nd rfl (by first | exact Or.inl rfl | exact Or.inr rfl)) (pgs_cons (pg_name (i := 3) sc_is_step.nd rfl (by first | exact Or.inl rfl | exact Or.inr rfl)) pgs_nil)))))
      (pss_one (ps_ret (pe_and (pe_call G_is_word (hr.mono (by decide)) (by rfl) T.g_is_word T.F_is_word.kp T.a_is_word .nil pass0 (pa_cons (pv 1) pa_nil)) (pe_and (pe_call G_is_number (hr.mono (by decide)) (by rfl) T.g_is_number T.F_is_number.kp T.a_is_number .nil pass0 (pa_cons (pv 2) (pa_cons (pe_glob (by rfl) T.c_LEAST T.r_LEAST) (pa_cons (pe_glob (by rfl) T.c_MOST T.r_MOST) pa_nil)))) (pe_one (pe_call G_is_deed (hr.mono (by decide)) (by rfl) T.g_is_deed T.F_is_deed.kp T.a_is_deed .nil pass0 (pa_cons (pv 3) pa_nil))))))))), ?_⟩
    cases d with
    | tuple ds =>
      obtain ⟨a, xs, rfl, sx, dx⟩ := Dp.lenT hv
      have lx := DpAll.length dx
      refine ⟨_, rfl, _, _, _, rfl, rfl, hv, _, rfl, iteF ?_⟩
      refine ⟨_, rfl, .ref a, xs.length, rfl, .inr ⟨xs, sx, rfl⟩, rfl, _, rfl, ?_⟩
      match ds, dx, lx, hf, k with
      | [dm, dn, dd], dx, lx, hf, k =>
        cases dx with
        | @cons vm _ _ _ hm dx =>
          cases dx with
          | @cons vn _ _ _ hn dx =>
            cases dx with
            | @cons vd _ _ _ hd dx =>
              cases dx
              refine iteF ?_
              have fm : fine dm = true := fine_get (i := 0) hf rfl
              have fn : fine dn = true := fine_get (i := 1) hf rfl
              have fd : fine dd = true := fine_get (i := 2) hf rfl
              refine ⟨_, rfl, a, _, rfl, sx, rfl, _, _, rfl, _, _, rfl, _, _, rfl, rfl, ?_⟩
              refine ⟨_, rfl, vm, dm, rfl, hm, fm, fun H1 s1 => ⟨_, rfl, ite2 (fun e => ?_) (fun e => ?_)⟩⟩
              · refine ⟨_, rfl, vn, dn, -99, 99, rfl, Dp.same s1 _ _ hn, fn, _, rfl, ite2 (fun e' => ?_) (fun e' => ?_)⟩
                · refine ⟨_, rfl, vd, dd, rfl, Dp.same s1 _ _ hd, fd, fun H2 s2 => ?_⟩
                  have e2 : stepD (.tuple [dm, dn, dd]) = deedD dd := by
                    show (nameD 4 dm && (numD (-99) 99 dn && deedD dd)) = _
                    rw [e, e', Bool.true_and, Bool.true_and]
                  have := k H2 (s1.trans s2)
                  rw [e2] at this
                  exact this
                · have e2 : stepD (.tuple [dm, dn, dd]) = false := by
                    show (nameD 4 dm && (numD (-99) 99 dn && deedD dd)) = _
                    rw [Bool.eq_false_iff.mpr e', Bool.false_and, Bool.and_false]
                  have := k H1 s1
                  rw [e2] at this
                  exact this
              · have e2 : stepD (.tuple [dm, dn, dd]) = false := by
                  show (nameD 4 dm && (numD (-99) 99 dn && deedD dd)) = _
                  rw [Bool.eq_false_iff.mpr e, Bool.false_and]
                have := k H1 s1
                rw [e2] at this
                exact this
      | [], dx, lx, hf, k =>
        rw [show xs.length = 0 from lx]
        exact iteT (k H (Same.refl _))
      | [_], dx, lx, hf, k =>
        rw [show xs.length = 1 from lx]
        exact iteT (k H (Same.refl _))
      | [_, _], dx, lx, hf, k =>
        rw [show xs.length = 2 from lx]
        exact iteT (k H (Same.refl _))
      | _ :: _ :: _ :: _ :: ds, dx, lx, hf, k =>
        rw [show xs.length = ds.length + 4 from lx]
        have hne : (!decide (V.int ((ds.length + 4 : Nat) : Int) = V.int 3)) = true := by
          rw [Bool.not_eq_true', decide_eq_false_iff_not]
          intro z
          have := V.int.inj z
          omega
        rw [hne]
        exact iteT (k H (Same.refl _))
    | dict ds => cases hv
    | _ => exact ⟨_, rfl, _, _, _, rfl, rfl, hv, _, rfl, iteT (iteT (k H (Same.refl _)))⟩
end
end My

set_option Elab.async false
set_option linter.all false
set_option maxRecDepth 100000
namespace My
open PySem PySem.Spec PyProof.Rows L2 TL
/-! ### the texts of steps, as the program reckons them -/
def digitsS : Str := "0123456789"
def numS (n : Int) : Str := Str.ofString (toString n)
def numT (m : Str) (n : Int) : Str := if n ≠ 0 then ((Str.empty ++ m) ++ "=") ++ numS n else m
def deedX (t : Str) : PyData → Str
  | .tuple [.str k, .str w] => if k = "send" then ((Str.empty ++ t) ++ "!") ++ w else if k = "receive" then ((Str.empty ++ t) ++ "?") ++ w else t
  | _ => t
def textD : PyData → Str
  | .tuple [.str m, .int n, dd] => deedX (numT m n) dd
  | _ => ""
theorem ne_rs : ¬ (("receive" : Str) = "send") := by decide +kernel
theorem deedX_s (t w : Str) : deedX t (.tuple [.str "send", .str w]) = ((Str.empty ++ t) ++ "!") ++ w := by
  show (if ("send" : Str) = "send" then ((Str.empty ++ t) ++ "!") ++ w else if ("send" : Str) = "receive" then ((Str.empty ++ t) ++ "?") ++ w else t) = _
  rw [if_pos rfl]
theorem deedX_r (t w : Str) : deedX t (.tuple [.str "receive", .str w]) = ((Str.empty ++ t) ++ "?") ++ w := by
  show (if ("receive" : Str) = "send" then ((Str.empty ++ t) ++ "!") ++ w else if ("receive" : Str) = "receive" then ((Str.empty ++ t) ++ "?") ++ w else t) = _
  rw [if_neg ne_rs, if_pos rfl]
def splitD (t : Str) : Str × PyData :=
  if ((Txt.partition t "!").2.1.length : Int) != 0 then ((Txt.partition t "!").1, .tuple [.str "send", .str (Txt.partition t "!").2.2])
  else if ((Txt.partition t "?").2.1.length : Int) != 0 then ((Txt.partition t "?").1, .tuple [.str "receive", .str (Txt.partition t "?").2.2])
  else (t, .none)
def readNum (t : Str) : PyData := if (decide ((2 : Int) < ((Txt.removeprefix t "-").length : Int)) || !consS (Txt.removeprefix t "-") digitsS) = true then .none else .int ((intText? t).getD 0)
def stepOf (t : Str) : PyData :=
  .tuple [.str (Txt.partition (splitD t).1 "=").1, if ((Txt.partition (splitD t).1 "=").2.1.length : Int) != 0 then readNum (Txt.partition (splitD t).1 "=").2.2 else .int 0, (splitD t).2]
def readD : PyData → PyData
  | .str t => if stepD (stepOf t) = true ∧ textD (stepOf t) = t then stepOf t else .none
  | _ => .none
/-! ### what a right step is -/
theorem name_inv {x : Str} {k : Int} (h : nameD k (.str x) = true) : (∀ c ∈ tl x, c ∈ letters.cps.toList) ∧ tl x ≠ [] ∧ (x.length : Int) ≤ k := by
  have h' : (decide ((x.length : Int) ≤ k) && (!decide (V.str x = V.str "") && (x.cps.toList.map fun c => decide (c ∈ letters.cps.toList)).all id)) = true := h
  rw [empty_len] at h'
  obtain ⟨h1, h2⟩ := Bool.and_eq_true_iff.mp h'
  obtain ⟨h2, h3⟩ := Bool.and_eq_true_iff.mp h2
  refine ⟨fun c hc => ?_, fun e => ?_, of_decide_eq_true h1⟩
  · have := List.all_eq_true.mp h3 (decide (c ∈ letters.cps.toList)) (List.mem_map.mpr ⟨c, hc, rfl⟩)
    exact of_decide_eq_true this
  · have e0 : x.length = 0 := by rw [len_tl, e]; rfl
    rw [e0] at h2
    exact absurd h2 (by decide)
theorem name_str {d : PyData} {k : Int} (h : nameD k d = true) : ∃ x, d = .str x := by
  cases d with
  | str x => exact ⟨x, rfl⟩
  | _ => exact absurd h (by simp [nameD])
def Deed : PyData → Prop := fun d => d = .none ∨ ∃ w, nameD 4 (.str w) = true ∧ (d = .tuple [.str "send", .str w] ∨ d = .tuple [.str "receive", .str w])
theorem eqv_str {k : PyData} {z : Str} (h : PyData.eqv (.str z) k = true) : k = .str z := by
  cases k with
  | str x => exact congrArg PyData.str (eq_of_beq h).symm
  | _ => exact absurd h (by simp [PyData.eqv])
theorem deed_inv {d : PyData} (h : deedD d = true) : Deed d := by
  unfold deedD at h
  split at h
  · exact .inl rfl
  · rename_i k m
    obtain ⟨h1, h2⟩ := Bool.and_eq_true_iff.mp h
    obtain ⟨w, rfl⟩ := name_str h2
    refine .inr ⟨w, h2, ?_⟩
    have h3 : (PyData.eqv (.str "send") k || (PyData.eqv (.str "receive") k || false)) = true := h1
    rcases Bool.or_eq_true_iff.mp h3 with h3 | h3
    · exact .inl (by rw [eqv_str h3])
    · rw [Bool.or_false] at h3
      exact .inr (by rw [eqv_str h3])
  · exact absurd h (by decide)
theorem step_inv {d : PyData} (h : stepD d = true) : ∃ m n dd, d = .tuple [.str m, .int n, dd] ∧ nameD 4 (.str m) = true ∧ -99 ≤ n ∧ n ≤ 99 ∧ Deed dd := by
  unfold stepD at h
  split at h
  · rename_i m n dd
    obtain ⟨h1, h2⟩ := Bool.and_eq_true_iff.mp h
    obtain ⟨h2, h3⟩ := Bool.and_eq_true_iff.mp h2
    obtain ⟨x, rfl⟩ := name_str h1
    cases n with
    | int i =>
      obtain ⟨h4, h5⟩ := Bool.and_eq_true_iff.mp (show (decide (-99 ≤ i) && decide (i ≤ 99)) = true from h2)
      exact ⟨x, i, dd, rfl, h1, of_decide_eq_true h4, of_decide_eq_true h5, deed_inv h3⟩
    | _ => exact absurd h2 (by simp [numD])
  · exact absurd h (by decide)
/-! ### numbers, each by itself -/
def numOk (n : Int) : Bool := (tl (numS n)).all (fun c => c == 45 || (decide (48 ≤ c) && decide (c ≤ 57))) && decide ((numS n).length ≤ 3) &&
  (match (tl (numS n)).getLast? with | some c => decide (48 ≤ c) && decide (c ≤ 57) | none => false) && (match readNum (numS n) with | .int k => k == n | _ => false)
theorem nums_ok : ((List.range 199).all fun k => numOk ((k : Int) - 99)) = true := by decide +kernel
theorem num_ok {n : Int} (h : -99 ≤ n ∧ n ≤ 99) : numOk n = true := by
  have := List.all_eq_true.mp nums_ok (n + 99).toNat (List.mem_range.mpr (by omega))
  rw [show (((n + 99).toNat : Nat) : Int) - 99 = n by omega] at this
  exact this
/-! ### the text of a right step is read back -/
theorem letter_of {c : Nat} (h : c ∈ letters.cps.toList) : 97 ≤ c ∧ c ≤ 122 := by
  have : ∀ c ∈ letters.cps.toList, 97 ≤ c ∧ c ≤ 122 := by decide +kernel
  exact this c h
def midL (n : Int) : List Nat := if n ≠ 0 then 61 :: tl (numS n) else []
def deedT : PyData → List Nat
  | .tuple [.str k, .str w] => if k = "send" then 33 :: tl w else if k = "receive" then 63 :: tl w else []
  | _ => []
theorem deedT_s (w : Str) : deedT (.tuple [.str "send", .str w]) = 33 :: tl w := by
  show (if ("send" : Str) = "send" then 33 :: tl w else if ("send" : Str) = "receive" then 63 :: tl w else []) = _
  rw [if_pos rfl]
theorem deedT_r (w : Str) : deedT (.tuple [.str "receive", .str w]) = 63 :: tl w := by
  show (if ("receive" : Str) = "send" then 33 :: tl w else if ("receive" : Str) = "receive" then 63 :: tl w else []) = _
  rw [if_neg ne_rs, if_pos rfl]
theorem tl_text (m : Str) (n : Int) (dd : PyData) (h : Deed dd) : tl (textD (.tuple [.str m, .int n, dd])) = tl m ++ midL n ++ deedT dd := by
  have e1 : tl (numT m n) = tl m ++ midL n := by
    unfold midL numT
    by_cases hn : n ≠ 0
    · rw [if_pos hn, if_pos hn, tl_append, tl_append, tl_append]
      show [] ++ tl m ++ [61] ++ tl (numS n) = tl m ++ 61 :: tl (numS n)
      simp
    · rw [if_neg hn, if_neg hn, List.append_nil]
  show tl (deedX (numT m n) dd) = _
  rcases h with rfl | ⟨w, hw, rfl | rfl⟩
  · show tl (numT m n) = _
    rw [e1]
    exact (List.append_nil _).symm
  · rw [deedX_s, deedT_s, tl_append, tl_append, tl_append, e1]
    show [] ++ (tl m ++ midL n) ++ [33] ++ tl w = tl m ++ midL n ++ 33 :: tl w
    simp
  · rw [deedX_r, deedT_r, tl_append, tl_append, tl_append, e1]
    show [] ++ (tl m ++ midL n) ++ [63] ++ tl w = tl m ++ midL n ++ 63 :: tl w
    simp
theorem num_signs {n : Int} (h : -99 ≤ n ∧ n ≤ 99) {c : Nat} (hc : c ∈ tl (numS n)) : c = 45 ∨ (48 ≤ c ∧ c ≤ 57) := by
  have h1 := num_ok h
  unfold numOk at h1
  have h2 := (Bool.and_eq_true_iff.mp (Bool.and_eq_true_iff.mp (Bool.and_eq_true_iff.mp h1).1).1).1
  have h3 := List.all_eq_true.mp h2 c hc
  rcases Bool.or_eq_true_iff.mp h3 with h3 | h3
  · exact .inl (eq_of_beq h3)
  · obtain ⟨a, b⟩ := Bool.and_eq_true_iff.mp h3
    exact .inr ⟨of_decide_eq_true a, of_decide_eq_true b⟩
theorem num_back {n : Int} (h : -99 ≤ n ∧ n ≤ 99) : readNum (numS n) = .int n := by
  have h1 := num_ok h
  unfold numOk at h1
  have h2 := (Bool.and_eq_true_iff.mp h1).2
  cases e : readNum (numS n) with
  | int k => rw [e] at h2; exact congrArg PyData.int (eq_of_beq h2)
  | _ => rw [e] at h2; exact absurd (show false = true from h2) Bool.false_ne_true
theorem num_len {n : Int} (h : -99 ≤ n ∧ n ≤ 99) : (numS n).length ≤ 3 := by
  have h1 := num_ok h
  unfold numOk at h1
  exact of_decide_eq_true (Bool.and_eq_true_iff.mp (Bool.and_eq_true_iff.mp (Bool.and_eq_true_iff.mp h1).1).1).2
theorem num_last {n : Int} (h : -99 ≤ n ∧ n ≤ 99) : ∃ c, (tl (numS n)).getLast? = some c ∧ 48 ≤ c ∧ c ≤ 57 := by
  have h1 := num_ok h
  unfold numOk at h1
  have h2 := (Bool.and_eq_true_iff.mp (Bool.and_eq_true_iff.mp h1).1).2
  cases e : (tl (numS n)).getLast? with
  | some c =>
    rw [e] at h2
    obtain ⟨a, b⟩ := Bool.and_eq_true_iff.mp h2
    exact ⟨c, rfl, of_decide_eq_true a, of_decide_eq_true b⟩
  | none => rw [e] at h2; exact absurd (show false = true from h2) Bool.false_ne_true
theorem head_signs {m : Str} {n : Int} (hm : nameD 4 (.str m) = true) (hn : -99 ≤ n ∧ n ≤ 99) {c : Nat} (hc : c ∈ tl m ++ midL n) : (97 ≤ c ∧ c ≤ 122) ∨ c = 61 ∨ c = 45 ∨ (48 ≤ c ∧ c ≤ 57) := by
  rcases List.mem_append.mp hc with hc | hc
  · exact .inl (letter_of ((name_inv hm).1 c hc))
  · unfold midL at hc
    split at hc
    · rcases List.mem_cons.mp hc with hc | hc
      · exact .inr (.inl hc)
      · exact .inr (.inr (num_signs hn hc))
    · cases hc
def headS (m : Str) (n : Int) : Str := ⟨(tl m ++ midL n).toArray⟩
theorem tl_head (m : Str) (n : Int) : tl (headS m n) = tl m ++ midL n := rfl
theorem split_text {m : Str} {n : Int} {dd : PyData} (hm : nameD 4 (.str m) = true) (hn : -99 ≤ n ∧ n ≤ 99) (hd : Deed dd) : splitD (textD (.tuple [.str m, .int n, dd])) = (headS m n, dd) := by
  have et := tl_text m n dd hd
  have h33 : (33 : Nat) ∉ tl (headS m n) := fun hc => by have := head_signs hm hn (c := 33) hc; omega
  have h63 : (63 : Nat) ∉ tl (headS m n) := fun hc => by have := head_signs hm hn (c := 63) hc; omega
  have z : ((Str.empty.length : Int) != 0) = false := by decide +kernel
  rcases hd with rfl | ⟨w, hw, rfl | rfl⟩
  · have e : textD (.tuple [.str m, .int n, .none]) = headS m n := ext_tl (by rw [et, tl_head]; exact List.append_nil _)
    rw [e]
    unfold splitD
    rw [partition_none (y := "!") (s := 33) (S := []) rfl h33, partition_none (y := "?") (s := 63) (S := []) rfl h63, z]
    rfl
  · have e : textD (.tuple [.str m, .int n, .tuple [.str "send", .str w]]) = headS m n ++ "!" ++ w := ext_tl (by
      rw [et, deedT_s, tl_append, tl_append, tl_head]
      show tl m ++ midL n ++ 33 :: tl w = tl m ++ midL n ++ [33] ++ tl w
      simp)
    rw [e]
    unfold splitD
    rw [partition_app (y := "!") (s := 33) (S := []) rfl h33]
    rfl
  · have ne : ¬ (("receive" : Str) = "send") := by decide +kernel
    have e : textD (.tuple [.str m, .int n, .tuple [.str "receive", .str w]]) = headS m n ++ "?" ++ w := ext_tl (by
      rw [et, deedT_r, tl_append, tl_append, tl_head]
      show tl m ++ midL n ++ 63 :: tl w = tl m ++ midL n ++ [63] ++ tl w
      simp)
    have hw33 : (33 : Nat) ∉ tl (headS m n ++ "?" ++ w) := fun hc => by
      rw [tl_append, tl_append] at hc
      rcases List.mem_append.mp hc with hc | hc
      · rcases List.mem_append.mp hc with hc | hc
        · exact h33 hc
        · exact absurd hc (by decide +kernel)
      · have := letter_of ((name_inv hw).1 33 hc)
        omega
    rw [e]
    unfold splitD
    rw [partition_none (y := "!") (s := 33) (S := []) rfl hw33, partition_app (y := "?") (s := 63) (S := []) rfl h63, z]
    rfl
theorem step_back {d : PyData} (h : stepD d = true) : stepOf (textD d) = d := by
  obtain ⟨m, n, dd, rfl, hm, h1, h2, hd⟩ := step_inv h
  have hs := split_text hm ⟨h1, h2⟩ hd
  have z : ((Str.empty.length : Int) != 0) = false := by decide +kernel
  have h61 : (61 : Nat) ∉ tl m := fun hc => by have := letter_of ((name_inv hm).1 61 hc); omega
  unfold stepOf
  rw [hs]
  by_cases hn : n ≠ 0
  · have e : headS m n = m ++ "=" ++ numS n := ext_tl (by
      rw [tl_head, tl_append, tl_append]
      unfold midL
      rw [if_pos hn]
      show tl m ++ 61 :: tl (numS n) = tl m ++ [61] ++ tl (numS n)
      simp)
    dsimp only
    rw [e, partition_app (y := "=") (s := 61) (S := []) rfl h61]
    show PyData.tuple [.str m, if ((("=" : Str).length : Int) != 0) = true then readNum (numS n) else .int 0, dd] = _
    rw [if_pos (by decide +kernel), num_back ⟨h1, h2⟩]
  · have e : headS m n = m := ext_tl (by
      rw [tl_head]
      unfold midL
      rw [if_neg hn, List.append_nil])
    have n0 : n = 0 := by omega
    dsimp only
    rw [e, partition_none (y := "=") (s := 61) (S := []) rfl h61]
    dsimp only
    rw [z, n0]
    rfl
theorem read_back {d : PyData} (h : stepD d = true) : readD (.str (textD d)) = d := by
  show (if stepD (stepOf (textD d)) = true ∧ textD (stepOf (textD d)) = textD d then stepOf (textD d) else .none) = d
  rw [step_back h, if_pos ⟨h, rfl⟩]
theorem read_not {t : Str} (h : ∀ d, stepD d = true → textD d ≠ t) : readD (.str t) = .none := by
  show (if stepD (stepOf t) = true ∧ textD (stepOf t) = t then stepOf t else .none) = .none
  rw [if_neg fun z => h _ z.1 z.2]
/-- how a right step's text begins and ends -/
theorem text_ends {d : PyData} (h : stepD d = true) : (∃ c, (tl (textD d)).head? = some c ∧ 97 ≤ c ∧ c ≤ 122) ∧ ∃ c, (tl (textD d)).getLast? = some c ∧ ((97 ≤ c ∧ c ≤ 122) ∨ (48 ≤ c ∧ c ≤ 57)) := by
  obtain ⟨m, n, dd, rfl, hm, h1, h2, hd⟩ := step_inv h
  rw [tl_text m n dd hd]
  obtain ⟨hl, hne, _⟩ := name_inv hm
  have last : ∀ {x : Str}, nameD 4 (.str x) = true → ∃ c, (tl x).getLast? = some c ∧ 97 ≤ c ∧ c ≤ 122 := fun {x} hx => by
    obtain ⟨a, b, _⟩ := name_inv hx
    refine ⟨(tl x).getLast b, List.getLast?_eq_getLast b, letter_of (a _ (List.getLast_mem b))⟩
  constructor
  · obtain ⟨c, r, e⟩ : ∃ c r, tl m = c :: r := by
      cases e : tl m with
      | nil => exact absurd e hne
      | cons c r => exact ⟨c, r, rfl⟩
    rw [e]
    exact ⟨c, rfl, letter_of (hl c (by rw [e]; exact List.mem_cons_self ..))⟩
  · have e0 : ∃ c, (tl m ++ midL n).getLast? = some c ∧ ((97 ≤ c ∧ c ≤ 122) ∨ (48 ≤ c ∧ c ≤ 57)) := by
      unfold midL
      split
      · obtain ⟨c, hc, h3⟩ := num_last ⟨h1, h2⟩
        refine ⟨c, ?_, .inr h3⟩
        rw [List.getLast?_append, List.getLast?_cons, hc]
        rfl
      · obtain ⟨c, hc, h3⟩ := last hm
        exact ⟨c, by rw [List.append_nil]; exact hc, .inl h3⟩
    rcases hd with rfl | ⟨w, hw, rfl | rfl⟩
    · show ∃ c, (tl m ++ midL n ++ []).getLast? = some c ∧ _
      rw [List.append_nil]
      exact e0
    all_goals
      obtain ⟨c, hc, h3⟩ := last hw
      refine ⟨c, ?_, .inl h3⟩
    · rw [deedT_s, List.getLast?_append, List.getLast?_cons, hc]
      rfl
    · rw [deedT_r, List.getLast?_append, List.getLast?_cons, hc]
      rfl
end My

set_option Elab.async false
set_option linter.all false
set_option maxRecDepth 100000
namespace My
open PySem PySem.Spec PyProof.Rows L2 TL PySem.StrLaws NumText
/-! ### the two kinds of deeds, one behind the other -/
def kd (i : Nat) : Str := if i = 0 then "send" else "receive"
def sg (i : Nat) : Str := if i = 0 then "!" else "?"
def stepX (t : Str) (i : Nat) : PyData → Str
  | .tuple [.str k, .str w] => if k = kd i then ((Str.empty ++ t) ++ sg i) ++ w else t
  | _ => t
def curD (t : Str) (dd : PyData) : Nat → Str
  | 0 => t
  | i + 1 => stepX (curD t dd i) i dd
theorem cur_end (t : Str) {dd : PyData} (h : Deed dd) : curD t dd 2 = deedX t dd := by
  rcases h with rfl | ⟨w, _, rfl | rfl⟩
  · rfl
  · rw [deedX_s]
    show (if ("send" : Str) = "receive" then ((Str.empty ++ (if ("send" : Str) = "send" then ((Str.empty ++ t) ++ "!") ++ w else t)) ++ "?") ++ w else (if ("send" : Str) = "send" then ((Str.empty ++ t) ++ "!") ++ w else t)) = _
    rw [if_neg (show ¬ (("send" : Str) = "receive") by decide +kernel), if_pos rfl]
  · rw [deedX_r]
    show (if ("receive" : Str) = "receive" then ((Str.empty ++ (if ("receive" : Str) = "send" then ((Str.empty ++ t) ++ "!") ++ w else t)) ++ "?") ++ w else (if ("receive" : Str) = "send" then ((Str.empty ++ t) ++ "!") ++ w else t)) = _
    rw [if_pos rfl, if_neg ne_rs]
theorem app_len (x y : Str) : (x ++ y).length = x.length + y.length := by
  rw [len_tl, len_tl, len_tl, tl_append, List.length_append]
theorem e_len (x : Str) : (Str.empty ++ x).length = x.length := by
  rw [app_len]
  show 0 + x.length = x.length
  omega
theorem sg_len (i : Nat) : (sg i).length = 1 := by
  unfold sg
  split <;> decide +kernel
theorem cur_len {t : Str} {dd : PyData} (ht : t.length ≤ 8) (h : Deed dd) : ∀ i, (curD t dd i).length ≤ 8 + 5 * i
  | 0 => by show t.length ≤ 8 + 5 * 0; omega
  | i + 1 => by
    have ih := cur_len ht h i
    show (stepX (curD t dd i) i dd).length ≤ _
    have one : ∀ k w : Str, nameD 4 (.str w) = true → (stepX (curD t dd i) i (.tuple [.str k, .str w])).length ≤ 8 + 5 * (i + 1) := fun k w hw => by
      have hl := (name_inv hw).2.2
      show (if k = kd i then ((Str.empty ++ curD t dd i) ++ sg i) ++ w else curD t dd i).length ≤ _
      split
      · rw [app_len, app_len, e_len, sg_len]
        omega
      · omega
    rcases h with rfl | ⟨w, hw, rfl | rfl⟩
    · show (curD t .none i).length ≤ _
      omega
    · exact one _ w hw
    · exact one _ w hw
theorem numT_len {m : Str} {n : Int} (hm : nameD 4 (.str m) = true) (hn : -99 ≤ n ∧ n ≤ 99) : (numT m n).length ≤ 8 := by
  have hl := (name_inv hm).2.2
  have h2 := num_len hn
  unfold numT
  split
  · rw [app_len, app_len, e_len]
    show m.length + 1 + (numS n).length ≤ 8
    omega
  · omega
theorem log_ok {n : Int} (hn : -99 ≤ n ∧ n ≤ 99) : n.natAbs.log2 < 1920 := by
  have : n.natAbs.log2 ≤ n.natAbs := Nat.log2_le_self _
  omega
def spText (K : PySem.W.Frag) : Sp := fun vs H Q _ => ∃ (v : V) (d : PyData), vs = [v] ∧ Dp K H v d ∧ stepD d = true ∧ Q (.str (textD d)) H
section
variable {P : Program} {w : World} {K : PySem.W.Frag} {mg : Str → Option Value} {base : Heap} {A : Top}
theorem row_at {q : Addr} {r1 r2 : V} {H : Hp} (hx : SqT K H q [r1, r2] ∧ (∃ t1, r1 = .ref t1 ∧ SqT K H t1 [.str "send", .str "!"]) ∧ (∃ t2, r2 = .ref t2 ∧ SqT K H t2 [.str "receive", .str "?"])) {i : Nat} {x : V} (hi : i < 2) (e : [r1, r2][i]? = some x) :
    ∃ t, x = .ref t ∧ SqT K H t [.str (kd i), .str (sg i)] := by
  obtain ⟨_, ⟨t1, rfl, q1⟩, ⟨t2, rfl, q2⟩⟩ := hx
  match i, hi with
  | 0, _ => exact ⟨t1, (Option.some.inj e).symm, q1⟩
  | 1, _ => exact ⟨t2, (Option.some.inj e).symm, q2⟩
/-- a deed's object -/
theorem deed_obj {H : Hp} {v : V} {dd : PyData} (h : Deed dd) (hv : Dp K H v dd) : (dd = .none ∧ v = .non) ∨ ∃ b k w, dd = .tuple [.str k, .str w] ∧ nameD 4 (.str w) = true ∧ v = .ref b ∧ SqT K H b [.str k, .str w] := by
  have one : ∀ k w : Str, nameD 4 (.str w) = true → Dp K H v (.tuple [.str k, .str w]) → ∃ b, v = .ref b ∧ SqT K H b [.str k, .str w] := fun k w _ h => by
    obtain ⟨b, xs, rfl, sb, db⟩ := Dp.lenT h
    cases db with
    | cons a1 db =>
      cases db with
      | cons a2 db =>
        cases db
        cases a1
        cases a2
        exact ⟨b, rfl, sb⟩
  rcases h with rfl | ⟨w, hw, rfl | rfl⟩
  · cases hv
    exact .inl ⟨rfl, rfl⟩
  · obtain ⟨b, e, sb⟩ := one _ w hw hv
    exact .inr ⟨b, _, w, rfl, hw, e, sb⟩
  · obtain ⟨b, e, sb⟩ := one _ w hw hv
    exact .inr ⟨b, _, w, rfl, hw, e, sb⟩
theorem ok_step_text (T : TopOk K mg A) : FnOk P w K mg base CX0 1 A.f_step_text A.d_step_text P_step_text (spText K) := by
  refine T.F_step_text.ok sc_step_text (fun vs H Q E h => ?_) (fun cdv Ar outer s H vs Q E hr h => ?_)
  · obtain ⟨x, d, rfl, _⟩ := h
    rfl
  · obtain ⟨v, d, rfl, hv, hs, k⟩ := h
    refine ⟨_, (pss_cons (ps_asg (pv 0) (pg_tup rfl (pgs_cons (pg_name (i := 2) sc_step_text.nd rfl (by first | exact Or.inl rfl | exact Or.inr rfl)) (pgs_cons (pg_name (i := 3) sc_step_text.nd rfl (by first | exact Or.inl rfl | exact Or.inr rfl)) (pgs_cons (pg_name (i := 4) sc_step_text.nd rfl (by first | exact Or.inl rfl | exact Or.inr rfl)) pgs_nil)))))
      (pss_cons (ps_set (i := 1) sc_step_text.nd rfl (by first | exact Or.inl rfl | exact Or.inr rfl) (pv 2))
      (Evl.pss_cut (ps_if (pt_cmpR op_ne (pv 3) pe_int (nomark _))
      (pss_one (ps_set (i := 1) sc_step_text.nd rfl (by first | exact Or.inl rfl | exact Or.inr rfl) (pe_joined (PJ.cons (pe_fmt (pv 1)) (PJ.cons pe_str (PJ.cons (pe_fmt (pv 3)) PJ.nil))))))
      pss_nil)
      (pss_cons (ps_for PassesOwn.never rfl (pi_tup (pe_glob (by rfl) T.c_DEEDS T.r_DEEDS)) (pg_tup rfl (pgs_cons (pg_name (i := 5) sc_step_text.nd rfl (by first | exact Or.inl rfl | exact Or.inr rfl)) (pgs_cons (pg_name (i := 6) sc_step_text.nd rfl (by first | exact Or.inl rfl | exact Or.inr rfl)) pgs_nil)))
      (pss_one (ps_if (PW.pt (pw_and (pt_cmpR op_notN (pv 4) pe_non (nomark _)) (pw_and1 (pt_cmpR op_eq (pe_ix ix_tup (pv 4) pe_int (fun _ _ => rfl)) (pv 5) (nomark _)))))
      (pss_one (ps_set (i := 1) sc_step_text.nd rfl (by first | exact Or.inl rfl | exact Or.inr rfl) (pe_joined (PJ.cons (pe_fmt (pv 1)) (PJ.cons (pe_fmt (pv 6)) (PJ.cons (pe_fmt (pe_ix ix_tup (pv 4) pe_int (fun _ _ => rfl))) PJ.nil))))))
      pss_nil)))
      (pss_one (ps_ret (pv 1))))))), ?_⟩
    obtain ⟨m, n, dd, rfl, hm, h1, h2, hd⟩ := step_inv hs
    obtain ⟨a, xs, rfl, sx, dx⟩ := Dp.lenT hv
    cases dx with
    | @cons vm _ _ _ dm dx =>
      cases dx with
      | @cons vn _ _ _ dn dx =>
        cases dx with
        | @cons vd _ _ _ ddv dx =>
          cases dx
          cases dm
          cases dn
          have lm := (name_inv hm).2.2
          have ln := num_len ⟨h1, h2⟩
          have lt := numT_len hm ⟨h1, h2⟩
          refine ⟨_, rfl, a, _, rfl, sx, rfl, _, _, rfl, _, _, rfl, _, _, rfl, rfl, _, rfl, ?_⟩
          refine ⟨fun σ' H' => σ' = [some (.ref a), some (.str (numT m n)), some (.str m), some (.int n), some vd, none, none] ∧ H' = H, ?_, ?_⟩
          · refine ⟨_, rfl, rfl, _, rfl, ite2 (fun e => ?_) (fun e => ?_)⟩
            · have hn : n ≠ 0 := fun z => by
                subst z
                exact absurd e (by decide)
              have l1 := e_len m
              have l2 := app_len (Str.empty ++ m) "="
              have l3 := app_len (Str.empty ++ m ++ "=") (numS n)
              have le : ("=" : Str).length = 1 := by decide +kernel
              refine ⟨_, rfl, .inl ⟨m, rfl, sz (by omega), m, rfl, sz (by omega), _, rfl, sz (by omega), _, rfl, .inr ⟨n, rfl, log_ok ⟨h1, h2⟩, _, rfl, sz (show (Str.empty ++ m ++ "=" ++ numS n).length ≤ 100000 by omega), ?_⟩⟩⟩
              refine ⟨?_, rfl⟩
              show [some (V.ref a), some (.str ((Str.empty ++ m ++ "=") ++ numS n)), some (.str m), some (.int n), some vd, none, none] = _
              unfold numT
              rw [if_pos hn]
            · have hn : ¬ n ≠ 0 := fun z => e (by
                rw [Bool.not_eq_true', decide_eq_false_iff_not]
                exact fun y => z (V.int.inj y))
              refine ⟨?_, rfl⟩
              unfold numT
              rw [if_neg hn]
              rfl
          · rintro σ' H' ⟨rfl, rfl⟩
            obtain ⟨r1, r2, hx⟩ := deeds_rows T.t_DEEDS
            refine ⟨A.q_DEEDS, rfl, ⟨_, (hx H').1⟩, for_it (walk_tup (xs := [r1, r2])) (fun i σ H2 => (∃ x5 x6, σ = [some (.ref a), some (.str (curD (numT m n) dd i)), some (.str m), some (.int n), some vd, x5, x6]) ∧ H2 = H') ⟨⟨_, _, rfl⟩, rfl⟩ (fun _ _ H2 _ _ => (hx H2).1) ?_ ?_⟩
            · rintro i x σ H2 H3 hi ⟨⟨x5, x6, rfl⟩, rfl⟩ ⟨rfl, ex⟩
              obtain ⟨t, rfl, qt⟩ := row_at (hx _) hi ex
              refine ⟨t, _, rfl, qt, rfl, _, _, rfl, _, _, rfl, rfl, ?_⟩
              rcases deed_obj hd ddv with ⟨rfl, rfl⟩ | ⟨b, k', w', rfl, hw, rfl, sb⟩
              · exact ⟨_, rfl, rfl, _, rfl, iteF (iteF ⟨⟨_, _, rfl⟩, rfl⟩)⟩
              · have lw := (name_inv hw).2.2
                have lc := cur_len lt hd i
                refine ⟨_, rfl, rfl, _, rfl, iteT ⟨_, rfl, b, _, _, _, rfl, rfl, sb, rfl, _, rfl, rfl, _, rfl, ite2 (fun e => ?_) (fun e => ?_)⟩⟩
                · have ek : k' = kd i := V.str.inj (of_decide_eq_true e)
                  have l1 := e_len (curD (numT m n) (.tuple [.str k', .str w']) i)
                  have l2 := app_len (Str.empty ++ curD (numT m n) (.tuple [.str k', .str w']) i) (sg i)
                  have l3 := app_len (Str.empty ++ curD (numT m n) (.tuple [.str k', .str w']) i ++ sg i) w'
                  have ls := sg_len i
                  have hi2 : i < 2 := hi
                  refine ⟨_, rfl, .inl ⟨_, rfl, sz (by omega), _, rfl, sz (by omega), _, rfl, .inl ⟨_, rfl, sz (by omega), _, rfl, sz (by omega), _, rfl, b, _, _, _, rfl, rfl, sb, rfl, .inl ⟨_, rfl, sz (by omega), _, rfl, sz (by omega), ?_⟩⟩⟩⟩
                  refine ⟨⟨some (.str (kd i)), some (.str (sg i)), ?_⟩, rfl⟩
                  rw [show curD (numT m n) (.tuple [.str k', .str w']) (i + 1) = ((Str.empty ++ curD (numT m n) (.tuple [.str k', .str w']) i) ++ sg i) ++ w' from if_pos ek]
                  rfl
                · have ek : ¬ k' = kd i := fun z => e (by rw [z]; exact decide_eq_true rfl)
                  refine ⟨⟨some (.str (kd i)), some (.str (sg i)), ?_⟩, rfl⟩
                  rw [show curD (numT m n) (.tuple [.str k', .str w']) (i + 1) = curD (numT m n) (.tuple [.str k', .str w']) i from if_neg ek]
                  rfl
            · rintro σ H2 ⟨⟨x5, x6, rfl⟩, rfl⟩
              refine ⟨_, rfl, ?_⟩
              have : textD (.tuple [.str m, .int n, dd]) = curD (numT m n) dd 2 := (cur_end _ hd).symm
              rw [this] at k
              exact k
/-! ### parts of texts -/
theorem part_mem {x y : Str} : (∀ c ∈ tl (Txt.partition x y).1, c ∈ tl x) ∧ (∀ c ∈ tl (Txt.partition x y).2.1, c ∈ tl y) ∧ (∀ c ∈ tl (Txt.partition x y).2.2, c ∈ tl x) ∧
    (Txt.partition x y).1.length ≤ x.length ∧ (Txt.partition x y).2.1.length ≤ y.length ∧ (Txt.partition x y).2.2.length ≤ x.length := by
  rcases PyProof.Rows.partition_whole x y with ⟨e, _⟩ | ⟨i, e, _, _⟩
  · rw [e]
    refine ⟨fun _ h => h, fun c h => absurd (show c ∈ ([] : List Nat) from h) List.not_mem_nil, fun c h => absurd (show c ∈ ([] : List Nat) from h) List.not_mem_nil, Nat.le_refl _, Nat.zero_le _, Nat.zero_le _⟩
  · rw [e]
    refine ⟨fun c h => ?_, fun _ h => h, fun c h => ?_, ?_, Nat.le_refl _, ?_⟩
    · have h' : c ∈ tl (Builtin.Str.strSub x 0 i) := h
      rw [tl_strSub] at h'
      exact List.mem_of_mem_drop (List.mem_of_mem_take h')
    · have h' : c ∈ tl (Builtin.Str.strSub x (i + y.length) x.length) := h
      rw [tl_strSub] at h'
      exact List.mem_of_mem_drop (List.mem_of_mem_take h')
    · show (Builtin.Str.strSub x 0 i).length ≤ x.length
      rw [len_tl, tl_strSub, len_tl x, List.length_take, List.length_drop]
      omega
    · show (Builtin.Str.strSub x (i + y.length) x.length).length ≤ x.length
      rw [len_tl, tl_strSub, len_tl x, List.length_take, List.length_drop]
      omega
def scV : PyData → V
  | .int n => .int n
  | _ => .non
def spNumOf : Sp := fun vs H Q _ => ∃ x : Str, vs = [.str x] ∧ x.length ≤ 5000 ∧ ∀ H', Same H H' → Q (scV (readNum x)) H'
def spSplit (K : PySem.W.Frag) : Sp := fun vs H Q _ => ∃ (S : Sh) (x : Str), vs = [.str x] ∧ Live S H ∧ x.length ≤ 5000 ∧
  ∀ t vd H', Same H H' → H' t = some (.tup [.str (splitD x).1, vd]) → Ds K S H' vd (splitD x).2 → Q (.ref t) H'
def spRead (K : PySem.W.Frag) : Sp := fun vs H Q _ => ∃ (S : Sh) (v : V) (d : PyData), vs = [v] ∧ Live S H ∧ Ds K S H v d ∧ fine d = true ∧ ∀ v' H', Same H H' → Ds K S H' v' (readD d) → Q v' H'
theorem ok_split_deed (T : TopOk K mg A) : FnOk P w K mg base CX0 1 A.f_split_deed A.d_split_deed P_split_deed (spSplit K) := by
  refine T.F_split_deed.ok sc_split_deed (fun vs H Q E h => ?_) (fun cdv Ar outer s H vs Q E hr h => ?_)
  · obtain ⟨p, x, rfl, _⟩ := h
    rfl
  · obtain ⟨p, x, rfl, hp, hl, k⟩ := h
    refine ⟨_, (pss_cons (ps_for PassesOwn.never rfl (pi_tup (pe_glob (by rfl) T.c_DEEDS T.r_DEEDS)) (pg_tup rfl (pgs_cons (pg_name (i := 1) sc_split_deed.nd rfl (by first | exact Or.inl rfl | exact Or.inr rfl)) (pgs_cons (pg_name (i := 2) sc_split_deed.nd rfl (by first | exact Or.inl rfl | exact Or.inr rfl)) pgs_nil)))
      (pss_cons (ps_asg (pe_partition (pv 0) (pv 2)) (pg_tup rfl (pgs_cons (pg_name (i := 3) sc_split_deed.nd rfl (by first | exact Or.inl rfl | exact Or.inr rfl)) (pgs_cons (pg_name (i := 4) sc_split_deed.nd rfl (by first | exact Or.inl rfl | exact Or.inr rfl)) (pgs_cons (pg_name (i := 5) sc_split_deed.nd rfl (by first | exact Or.inl rfl | exact Or.inr rfl)) pgs_nil)))))
      (pss_one (ps_if (pt_truth (pv 4) (by intro _; rfl))
      (pss_one (ps_ret (pe_tup (pa_cons (pv 3) (pa_cons (pe_tup (pa_cons (pv 1) (pa_cons (pv 5) pa_nil))) pa_nil)))))
      pss_nil))))
      (pss_one (ps_ret (pe_tup (pa_cons (pv 0) (pa_cons pe_non pa_nil)))))), ?_⟩
    obtain ⟨r1, r2, hx⟩ := deeds_rows T.t_DEEDS
    refine ⟨A.q_DEEDS, rfl, ⟨_, (hx H).1⟩, for_it (walk_tup (xs := [r1, r2])) (fun i σ H2 => (∃ x1 x2 x3 x4 x5, σ = [some (.str x), x1, x2, x3, x4, x5]) ∧ Same H H2 ∧ ∀ j, j < i → (((Txt.partition x (sg j)).2.1.length : Int) != 0) = false) ⟨⟨_, _, _, _, _, rfl⟩, Same.refl _, fun j hj => absurd hj (Nat.not_lt_zero j)⟩ (fun _ _ H2 _ _ => (hx H2).1) ?_ ?_⟩
    · rintro i y σ H2 H3 hi ⟨⟨x1, x2, x3, x4, x5, rfl⟩, s2, hj⟩ ⟨e3, ex⟩
      subst e3
      have hi2 : i < 2 := hi
      obtain ⟨t, rfl, qt⟩ := row_at (hx _) hi ex
      refine ⟨t, _, rfl, qt, rfl, _, _, rfl, _, _, rfl, rfl, ?_⟩
      have hsg : ((sg i).length == 0) = false := by rw [sg_len]; rfl
      obtain ⟨_, _, _, p1, p2, p3⟩ := part_mem (x := x) (y := sg i)
      have hsg2 := sg_len i
      refine ⟨_, rfl, ⟨_, rfl⟩, _, rfl, x, sg i, rfl, rfl, hsg, sz (by omega), fun q nq => ?_⟩
      refine ⟨q, _, rfl, tsq upd_same, rfl, _, _, rfl, _, _, rfl, _, _, rfl, rfl, ?_⟩
      have s3 := s2.trans (same_upd (o := .tup [.str (Txt.partition x (sg i)).1, .str (Txt.partition x (sg i)).2.1, .str (Txt.partition x (sg i)).2.2]) nq)
      refine ⟨_, rfl, _, ⟨sz (by omega), rfl⟩, ?_⟩
      refine ite2 (fun e => ?_) (fun e => ?_)
      · refine ⟨_, rfl, _, rfl, _, rfl, by show 2 ≤ sizeLine; decide, fun u nu => ⟨by show 2 ≤ sizeLine; decide, fun t2 nt2 => ?_⟩⟩
        have s4 := s3.trans (same_upd (o := .tup [.str (kd i), .str (Txt.partition x (sg i)).2.2]) nu)
        have es : splitD x = ((Txt.partition x (sg i)).1, .tuple [.str (kd i), .str (Txt.partition x (sg i)).2.2]) := by
          unfold splitD
          match i, hi2 with
          | 0, _ => exact if_pos e
          | 1, _ => exact (if_neg (by rw [show (("!" : Str)) = sg 0 from rfl, hj 0 (by decide)]; decide)).trans (if_pos e)
        refine k t2 (.ref u) _ (s4.trans (same_upd nt2)) ?_ ?_
        · rw [es]
          exact upd_same
        · rw [es]
          refine Ds.same (same_upd nt2) (.tup ⟨(hp.same s3).ne nu, upd_same⟩ (.cons (.str _) (.cons (.str _) .nil)))
      · refine ⟨⟨_, _, _, _, _, rfl⟩, s3, fun j hj2 => ?_⟩
        rcases Nat.lt_succ_iff_lt_or_eq.mp hj2 with h | rfl
        · exact hj j h
        · exact Bool.eq_false_iff.mpr e
    · rintro σ H2 ⟨⟨x1, x2, x3, x4, x5, rfl⟩, s2, hj⟩
      refine ⟨_, rfl, by show 2 ≤ sizeLine; decide, fun t nt => ?_⟩
      have es : splitD x = (x, .none) := by
        unfold splitD
        rw [show (("!" : Str)) = sg 0 from rfl, hj 0 (Nat.succ_pos 1), show (("?" : Str)) = sg 1 from rfl, hj 1 (Nat.lt_succ_self 1)]
        rfl
      refine k t .non _ (s2.trans (same_upd nt)) ?_ ?_
      · rw [es]
        exact upd_same
      · rw [es]
        exact .non
theorem consS_inv {x z : Str} (h : consS x z = true) : tl x ≠ [] ∧ ∀ c ∈ tl x, c ∈ tl z := by
  unfold consS at h
  obtain ⟨h1, h2⟩ := Bool.and_eq_true_iff.mp h
  rw [empty_len] at h1
  refine ⟨fun e => ?_, fun c hc => ?_⟩
  · have e0 : x.length = 0 := by rw [len_tl, e]; rfl
    rw [e0] at h1
    exact absurd h1 (by decide)
  · exact of_decide_eq_true (List.all_eq_true.mp h2 (decide (c ∈ z.cps.toList)) (List.mem_map.mpr ⟨c, hc, rfl⟩))
theorem digit_of {c : Nat} (h : c ∈ tl digitsS) : 48 ≤ c ∧ c ≤ 57 := by
  have : ∀ c ∈ tl digitsS, 48 ≤ c ∧ c ≤ 57 := by decide +kernel
  exact this c h
theorem int_ok {x : Str} (h1 : ¬ (2 : Int) < ((Txt.removeprefix x "-").length : Int)) (h2 : consS (Txt.removeprefix x "-") digitsS = true) : (∃ n, intText? x = some n) ∧ x.length ≤ 640 := by
  obtain ⟨a, b⟩ := consS_inv h2
  have hd : AllDigits (tl (Txt.removeprefix x "-")) := fun c hc => digit_of (b c hc)
  rw [StrLaws.removeprefix_eq] at h1 hd a
  split at hd
  · rename_i hc
    rw [if_pos hc] at h1 a
    obtain ⟨c1, c2⟩ := Bool.and_eq_true_iff.mp hc
    have hat : At x "-" x.length 0 := ⟨of_decide_eq_true c1, c2⟩
    have hpre := (at_iff (x := x) (y := "-") (by decide) 0).mp hat
    have e1 : (tl x).take 1 = [45] := eq_of_beq (show ((tl x).take 1 == [45]) = true from hpre)
    have e2 : tl x = 45 :: (tl x).drop 1 := by
      rw [← List.take_append_drop 1 (tl x), e1]
      rfl
    have e3 : tl (⟨((x.cps.toList.drop ("-" : Str).length).take (x.length - ("-" : Str).length)).toArray⟩ : Str) = (tl x).drop 1 := by
      show (x.cps.toList.drop 1).take (x.length - 1) = _
      rw [List.take_of_length_le]
      rw [List.length_drop, len_tl]
      exact Nat.le_refl _
    rw [e3] at hd a
    have l0 : ((⟨((x.cps.toList.drop ("-" : Str).length).take (x.length - ("-" : Str).length)).toArray⟩ : Str)).length = ((tl x).drop 1).length := by rw [len_tl, e3]
    rw [l0, List.length_drop, ← len_tl] at h1
    refine ⟨⟨_, intText_neg e2 hd a (by omega)⟩, by omega⟩
  · rename_i hc
    rw [if_neg hc] at h1 a
    exact ⟨⟨_, intText_digits hd a (by omega)⟩, by omega⟩
theorem ok_read_number (T : TopOk K mg A) : FnOk P w K mg base CX0 2 A.f_read_number A.d_read_number P_read_number spNumOf := by
  have G_consists_of : FnOk P w K mg base CX0 1 A.f_consists_of A.d_consists_of P_consists_of spCons := ok_cons T
  refine T.F_read_number.ok sc_read_number (fun vs H Q E h => ?_) (fun cdv Ar outer s H vs Q E hr h => ?_)
  · obtain ⟨x, rfl, _⟩ := h
    rfl
  · obtain ⟨x, rfl, hl, k⟩ := h
    refine ⟨_, (pss_cons (ps_set (i := 1) sc_read_number.nd rfl (by first | exact Or.inl rfl | exact Or.inr rfl) (pe_m1 PySem.F.slot_str_removeprefix PySem.F.type_str_removeprefix mt_removeprefix (pv 0) pe_str))
      (pss_cons (ps_if (PW.pt (pw_or (pt_cmpR op_gt (pe_callB call_len (by rfl) T.b_len (by decide +kernel) (pa_cons (pv 1) pa_nil)) pe_int (nomark _)) (pw_or1 (pt_not (pt_val (pe_call G_consists_of (hr.mono (by decide)) (by rfl) T.g_consists_of T.F_consists_of.kp T.a_consists_of .nil pass0 (pa_cons (pv 1) (pa_cons (pe_glob (by rfl) T.c_DIGITS T.r_DIGITS) pa_nil))))))))
      (pss_one (ps_ret pe_non))
      pss_nil)
      (pss_one (ps_ret (pe_callTy call_int_str (by rfl) T.b_int (by decide +kernel) (pa_cons (pv 0) pa_nil)))))), ?_⟩
    have hl2 : (Txt.removeprefix x "-").length ≤ x.length := PyProof.Rows.len_removeprefix x "-"
    refine ⟨_, rfl, ⟨_, rfl⟩, x, "-", rfl, rfl, sz (by omega), ?_⟩
    have out : (decide ((2 : Int) < ((Txt.removeprefix x "-").length : Int)) || !consS (Txt.removeprefix x "-") digitsS) = true → readNum x = .none := fun e => by
      unfold readNum
      rw [if_pos e]
    refine ⟨_, rfl, _, _, rfl, ⟨sz (by omega), rfl⟩, _, _, rfl, rfl, _, rfl, ite2 (fun e => ?_) (fun e => ?_)⟩
    · refine iteT ?_
      have e2 := out (by rw [show decide ((2 : Int) < ((Txt.removeprefix x "-").length : Int)) = true from e]; rfl)
      have := k H (Same.refl _)
      rw [e2] at this
      exact this
    · refine ⟨_, rfl, _, digitsS, rfl, by omega, fun H' s' => ⟨_, rfl, ?_⟩⟩
      cases hc : consS (Txt.removeprefix x "-") digitsS with
      | false =>
        refine iteT ?_
        have e2 := out (by rw [hc]; exact Bool.or_true _)
        have := k H' s'
        rw [e2] at this
        exact this
      | true =>
        refine iteF ?_
        have hn : ¬ (2 : Int) < ((Txt.removeprefix x "-").length : Int) := fun z => e (decide_eq_true z)
        obtain ⟨⟨n, en⟩, h640⟩ := int_ok hn hc
        refine ⟨_, rfl, x, n, rfl, en, h640, ?_⟩
        have e2 : readNum x = .int n := by
          unfold readNum
          rw [hc, decide_eq_false hn, en]
          rfl
        have := k H' s'
        rw [e2] at this
        exact this
end
end My

set_option Elab.async false
set_option linter.all false
set_option maxRecDepth 100000
namespace My
open PySem PySem.Spec PyProof.Rows L2 TL
/-! ### parts are right data -/
def GoodS (x : Str) : Prop := x.length ≤ 5000 ∧ ∀ c ∈ tl x, c < 1114112
theorem good_fine {x : Str} (h : GoodS x) : fine (.str x) = true := by
  show (decide (x.length ≤ 5000) && (PyData.strOk x && decide (0 ≤ 64))) = true
  have e : PyData.strOk x = true := by
    unfold PyData.strOk
    rw [← Array.all_toList, List.all_eq_true]
    intro c hc
    exact decide_eq_true (h.2 c hc)
  rw [e, decide_eq_true h.1]
  rfl
theorem fine_good {x : Str} (h : fine (.str x) = true) : GoodS x := by
  have h' : (decide (x.length ≤ 5000) && (PyData.strOk x && decide (0 ≤ 64))) = true := h
  obtain ⟨h1, h2⟩ := Bool.and_eq_true_iff.mp h'
  obtain ⟨h2, _⟩ := Bool.and_eq_true_iff.mp h2
  refine ⟨of_decide_eq_true h1, fun c hc => ?_⟩
  unfold PyData.strOk at h2
  rw [← Array.all_toList, List.all_eq_true] at h2
  exact of_decide_eq_true (h2 c hc)
theorem good_part {x y : Str} (h : GoodS x) : GoodS (Txt.partition x y).1 ∧ GoodS (Txt.partition x y).2.2 := by
  obtain ⟨p1, p2, p3, p4, p5, p6⟩ := part_mem (x := x) (y := y)
  exact ⟨⟨Nat.le_trans p4 h.1, fun c hc => h.2 c (p1 c hc)⟩, ⟨Nat.le_trans p6 h.1, fun c hc => h.2 c (p3 c hc)⟩⟩
theorem fine_list {ds : List PyData} (h : ∀ d ∈ ds, small d = true ∧ PyData.canLay0 d = true ∧ d.depth ≤ 20) : smallAll ds = true ∧ PyData.canLayAll0 ds = true ∧ PyData.depthAll ds ≤ 20 := by
  induction ds with
  | nil => exact ⟨rfl, rfl, by show 0 ≤ 20; decide⟩
  | cons d ds ih =>
    obtain ⟨a, b, c⟩ := h d (List.mem_cons_self ..)
    obtain ⟨a', b', c'⟩ := ih fun x hx => h x (List.mem_cons_of_mem _ hx)
    refine ⟨?_, ?_, ?_⟩
    · show (small d && smallAll ds) = true
      rw [a, a']
      rfl
    · show (PyData.canLay0 d && PyData.canLayAll0 ds) = true
      rw [b, b']
      rfl
    · show max d.depth (PyData.depthAll ds) ≤ 20
      omega
theorem fine_tuple {ds : List PyData} (hl : ds.length ≤ 5000) (h : ∀ d ∈ ds, fine d = true ∧ d.depth ≤ 20) : fine (.tuple ds) = true := by
  obtain ⟨a, b, c⟩ := fine_list (ds := ds) fun d hd => by
    obtain ⟨h1, h2⟩ := h d hd
    refine ⟨fine_small h1, ?_, h2⟩
    have := fine_shaped h1
    unfold SeqAt.shaped at this
    exact (Bool.and_eq_true_iff.mp this).1
  show ((decide (ds.length ≤ 5000) && smallAll ds) && (PyData.canLayAll0 ds && decide (PyData.depthAll ds + 1 ≤ 64))) = true
  rw [a, b, decide_eq_true hl, decide_eq_true (show PyData.depthAll ds + 1 ≤ 64 by omega)]
  rfl
theorem split_good {t : Str} (h : GoodS t) : GoodS (splitD t).1 ∧ fine (splitD t).2 = true ∧ (splitD t).2.depth ≤ 1 := by
  unfold splitD
  split
  · refine ⟨(good_part h).1, fine_tuple (by simp) fun d hd => ?_, by simp [PyData.depth, PyData.depthAll]⟩
    simp only [List.mem_cons, List.not_mem_nil, or_false] at hd
    rcases hd with rfl | rfl
    · exact ⟨by decide +kernel, by simp [PyData.depth]⟩
    · exact ⟨good_fine (good_part h).2, by simp [PyData.depth]⟩
  · split
    · refine ⟨(good_part h).1, fine_tuple (by simp) fun d hd => ?_, by simp [PyData.depth, PyData.depthAll]⟩
      simp only [List.mem_cons, List.not_mem_nil, or_false] at hd
      rcases hd with rfl | rfl
      · exact ⟨by decide +kernel, by simp [PyData.depth]⟩
      · exact ⟨good_fine (good_part h).2, by simp [PyData.depth]⟩
    · exact ⟨h, rfl, by simp [PyData.depth]⟩
theorem readNum_cases (x : Str) : readNum x = .none ∨ ∃ n, readNum x = .int n := by
  unfold readNum
  split
  · exact .inl rfl
  · exact .inr ⟨_, rfl⟩
/-- the number's part -/
def numOf (t : Str) : PyData := if ((Txt.partition (splitD t).1 "=").2.1.length : Int) != 0 then readNum (Txt.partition (splitD t).1 "=").2.2 else .int 0
theorem numOf_cases (t : Str) : numOf t = .none ∨ ∃ n, numOf t = .int n := by
  unfold numOf
  split
  · exact readNum_cases _
  · exact .inr ⟨0, rfl⟩
theorem stepOf_eq (t : Str) : stepOf t = .tuple [.str (Txt.partition (splitD t).1 "=").1, numOf t, (splitD t).2] := rfl
theorem stepOf_fine {t : Str} (h : GoodS t) : fine (stepOf t) = true := by
  obtain ⟨h1, h2, h3⟩ := split_good h
  rw [stepOf_eq]
  refine fine_tuple (by simp) fun d hd => ?_
  simp only [List.mem_cons, List.not_mem_nil, or_false] at hd
  rcases hd with rfl | rfl | rfl
  · exact ⟨good_fine (good_part h1).1, by simp [PyData.depth]⟩
  · rcases numOf_cases t with e | ⟨n, e⟩
    · rw [e]
      exact ⟨rfl, by simp [PyData.depth]⟩
    · rw [e]
      exact ⟨rfl, by simp [PyData.depth]⟩
  · exact ⟨h2, by omega⟩
def midS (n : Int) : Str := if n ≠ 0 then "=" ++ numS n else ""
theorem tl_midS (n : Int) : tl (midS n) = midL n := by
  unfold midS midL
  split
  · rw [tl_append]
    rfl
  · rfl
section
variable {P : Program} {w : World} {K : PySem.W.Frag} {mg : Str → Option Value} {base : Heap} {A : Top}
theorem scV_dd {S : Sh} {H : Hp} (d : PyData) (h : d = .none ∨ ∃ n, d = .int n) : Ds K S H (scV d) d := by
  rcases h with rfl | ⟨n, rfl⟩
  · exact .non
  · exact .int n
theorem ok_read_step (T : TopOk K mg A) : FnOk P w K mg base CX0 5 A.f_read_step A.d_read_step P_read_step (spRead K) := by
  have G_split_deed : FnOk P w K mg base CX0 1 A.f_split_deed A.d_split_deed P_split_deed (spSplit K) := ok_split_deed T
  have G_read_number : FnOk P w K mg base CX0 2 A.f_read_number A.d_read_number P_read_number spNumOf := ok_read_number T
  have G_is_step : FnOk P w K mg base CX0 4 A.f_is_step A.d_is_step P_is_step (spD K stepD) := ok_is_step T
  have G_step_text : FnOk P w K mg base CX0 1 A.f_step_text A.d_step_text P_step_text (spText K) := ok_step_text T
  refine T.F_read_step.ok sc_read_step (fun vs H Q E h => ?_) (fun cdv Ar outer s H vs Q E hr h => ?_)
  · obtain ⟨p, x, d, rfl, _⟩ := h
    rfl
  · obtain ⟨p, v, d, rfl, hp, hv, hf, k⟩ := h
    refine ⟨_, (pss_cons (ps_if (pt_not (pt_val (pe_callB call_isD (by rfl) T.b_isinstance (by decide +kernel) (pa_cons (pv 0) (pa_cons (pe_bltn (v := .ty "str") (by rfl) T.b_str (by decide +kernel) rfl) pa_nil)))))
      (pss_one (ps_ret pe_non))
      pss_nil)
      (pss_cons (ps_asg (pe_call G_split_deed (hr.mono (by decide)) (by rfl) T.g_split_deed T.F_split_deed.kp T.a_split_deed .nil pass0 (pa_cons (pv 0) pa_nil)) (pg_tup rfl (pgs_cons (pg_name (i := 2) sc_read_step.nd rfl (by first | exact Or.inl rfl | exact Or.inr rfl)) (pgs_cons (pg_name (i := 3) sc_read_step.nd rfl (by first | exact Or.inl rfl | exact Or.inr rfl)) pgs_nil))))
      (pss_cons (ps_asg (pe_partition (pv 2) pe_str) (pg_tup rfl (pgs_cons (pg_name (i := 4) sc_read_step.nd rfl (by first | exact Or.inl rfl | exact Or.inr rfl)) (pgs_cons (pg_name (i := 5) sc_read_step.nd rfl (by first | exact Or.inl rfl | exact Or.inr rfl)) (pgs_cons (pg_name (i := 6) sc_read_step.nd rfl (by first | exact Or.inl rfl | exact Or.inr rfl)) pgs_nil)))))
      (pss_cons (ps_set (i := 1) sc_read_step.nd rfl (by first | exact Or.inl rfl | exact Or.inr rfl) (pe_tup (pa_cons (pv 4) (pa_cons (pe_ifExp (pt_truth (pv 5) (by intro _; rfl)) (pe_call G_read_number (hr.mono (by decide)) (by rfl) T.g_read_number T.F_read_number.kp T.a_read_number .nil pass0 (pa_cons (pv 6) pa_nil)) pe_int) (pa_cons (pv 3) pa_nil)))))
      (pss_cons (ps_if (PW.pt (pw_and (pt_val (pe_call G_is_step (hr.mono (by decide)) (by rfl) T.g_is_step T.F_is_step.kp T.a_is_step .nil pass0 (pa_cons (pv 1) pa_nil))) (pw_and1 (pt_cmpR op_eq (pe_call G_step_text (hr.mono (by decide)) (by rfl) T.g_step_text T.F_step_text.kp T.a_step_text .nil pass0 (pa_cons (pv 1) pa_nil)) (pv 0) (nomark _)))))
      (pss_one (ps_ret (pv 1)))
      pss_nil)
      (pss_one (ps_ret pe_non))))))), ?_⟩
    refine ⟨_, rfl, _, _, _, rfl, rfl, Ds.dp _ _ hv, _, rfl, ?_⟩
    cases d with
    | str t =>
      cases hv
      have hg := fine_good hf
      obtain ⟨g1, g2, g3⟩ := split_good hg
      have gp := good_part (y := "=") g1
      have hpl := (part_mem (x := (splitD t).1) (y := "=")).2.2.2.2.1
      refine iteF ?_
      refine ⟨_, rfl, p, t, rfl, hp, hg.1, fun t1 vd H1 s1 h1 hd1 => ?_⟩
      have hp1 : Live p H1 := hp.same s1
      refine ⟨t1, _, rfl, tsq h1, rfl, _, _, rfl, _, _, rfl, rfl, ?_⟩
      refine ⟨_, rfl, ⟨_, rfl⟩, (splitD t).1, "=", rfl, rfl, by decide +kernel, Nat.le_trans g1.1 (by decide), fun q nq => ?_⟩
      refine ⟨q, _, rfl, tsq upd_same, rfl, _, _, rfl, _, _, rfl, _, _, rfl, rfl, ?_⟩
      have s2 : Same H1 (upd H1 q (.tup [.str (Txt.partition (splitD t).1 "=").1, .str (Txt.partition (splitD t).1 "=").2.1, .str (Txt.partition (splitD t).1 "=").2.2])) := same_upd nq
      generalize upd H1 q (.tup [.str (Txt.partition (splitD t).1 "=").1, .str (Txt.partition (splitD t).1 "=").2.1, .str (Txt.partition (splitD t).1 "=").2.2]) = H2 at s2
      have ifn : ∀ (σ : L2.St) (Q2 : VK), σ[5]? = some (some (.str (Txt.partition (splitD t).1 "=").2.1)) → σ[6]? = some (some (.str (Txt.partition (splitD t).1 "=").2.2)) → (∀ H', Same H2 H' → Q2 (scV (numOf t)) H') →
          (tIf (fun σ H Q => tVar 5 σ H fun x H' => ∃ k, TruV K x H' k ∧ Q k H') (tCall spNumOf [] E0 (tCons (tVar 6) tNil)) (tC (.int 0))) σ H2 Q2 := fun σ Q2 e5 e6 q2 => by
        refine ⟨_, e5, _, ⟨Nat.le_trans hpl (by decide), rfl⟩, ite2 (fun e => ?_) (fun e => ?_)⟩
        · refine ⟨_, e6, _, rfl, gp.2.1, fun H' s' => ?_⟩
          have := q2 H' s'
          rw [show numOf t = readNum (Txt.partition (splitD t).1 "=").2.2 from if_pos e] at this
          exact this
        · have := q2 H2 (Same.refl _)
          rw [show numOf t = .int 0 from if_neg e] at this
          exact this
      refine ⟨_, rfl, ifn _ _ rfl rfl fun H3 s3 => ⟨_, rfl, by show 3 ≤ sizeLine; decide, fun t3 nt3 => ?_⟩⟩
      have s4 : Same H3 (upd H3 t3 (.tup [.str (Txt.partition (splitD t).1 "=").1, scV (numOf t), vd])) := same_upd nt3
      have hp3 : Live p H3 := (hp1.same s2).same s3
      have hst : Ds K p (upd H3 t3 (.tup [.str (Txt.partition (splitD t).1 "=").1, scV (numOf t), vd])) (.ref t3) (stepOf t) := by
        rw [stepOf_eq]
        refine .tup ⟨hp3.ne nt3, upd_same⟩ (.cons (.str _) (.cons (scV_dd _ (numOf_cases t)) (.cons ?_ .nil)))
        exact Ds.same ((s2.trans s3).trans s4) hd1
      have s04 := ((s1.trans s2).trans s3).trans s4
      refine ⟨_, rfl, _, _, rfl, Ds.dp _ _ hst, stepOf_fine hg, fun H5 s5 => ⟨_, rfl, ite2 (fun e => ?_) (fun e => ?_)⟩⟩
      · have hst5 := Ds.same s5 hst
        refine ⟨_, rfl, _, _, rfl, Ds.dp _ _ hst5, e, _, rfl, rfl, _, rfl, ite2 (fun e2 => ?_) (fun e2 => ?_)⟩
        · have et : textD (stepOf t) = t := V.str.inj (of_decide_eq_true e2)
          refine ⟨_, rfl, k _ _ (s04.trans s5) ?_⟩
          rw [show readD (.str t) = stepOf t from if_pos ⟨e, et⟩]
          exact hst5
        · have et : ¬ textD (stepOf t) = t := fun z => e2 (by rw [z]; exact decide_eq_true rfl)
          refine k .non _ (s04.trans s5) ?_
          rw [show readD (.str t) = .none from if_neg fun z => et z.2]
          exact .non
      · refine iteF (k .non _ (s04.trans s5) ?_)
        rw [show readD (.str t) = .none from if_neg fun z => e z.1]
        exact .non
    | dict ds => cases hv
    | _ => exact iteT (k .non H (Same.refl _) .non)
theorem ok_Lstep_text (T : TopOk K mg A) : FnOk P w K mg base CX0 1 A.f_Lstep_text A.d_Lstep_text P_Lstep_text (spText K) := by
  refine T.F_Lstep_text.ok sc_Lstep_text (fun vs H Q E h => ?_) (fun cdv Ar outer s H vs Q E hr h => ?_)
  · obtain ⟨x, d, rfl, _⟩ := h
    rfl
  · obtain ⟨v, d, rfl, hv, hs, k⟩ := h
    refine ⟨_, (Evl.pss_cut (ps_set (i := 1) sc_Lstep_text.nd rfl (by first | exact Or.inl rfl | exact Or.inr rfl) (pe_ifExp (pt_cmpR op_ne (pe_ix ix_tup (pv 0) pe_int (fun _ _ => rfl)) pe_int (nomark _)) (pe_op op_add_str pe_str (pe_callTy call_str_int (by rfl) T.b_str (by decide +kernel) (pa_cons (pe_ix ix_tup (pv 0) pe_int (fun _ _ => rfl)) pa_nil))) pe_str))
      (pss_cons (ps_if (pt_cmpR op_isN (pe_ix ix_tup (pv 0) pe_int (fun _ _ => rfl)) pe_non (nomark _))
      (pss_one (ps_ret (pe_op op_add_str (pe_ix ix_tup (pv 0) pe_int (fun _ _ => rfl)) (pv 1))))
      pss_nil)
      (pss_one (ps_ret (pe_op op_add_str (pe_op op_add_str (pe_op op_add_str (pe_ix ix_tup (pv 0) pe_int (fun _ _ => rfl)) (pv 1)) (pe_ifExp (pt_cmpR op_eq (pe_ix ix_tup (pe_ix ix_tup (pv 0) pe_int (fun _ _ => rfl)) pe_int (fun _ _ => rfl)) pe_str (nomark _)) pe_str pe_str)) (pe_ix ix_tup (pe_ix ix_tup (pv 0) pe_int (fun _ _ => rfl)) pe_int (fun _ _ => rfl))))))), ?_⟩
    obtain ⟨m, n, dd, rfl, hm, h1, h2, hd⟩ := step_inv hs
    obtain ⟨a, xs, rfl, sx, dx⟩ := Dp.lenT hv
    cases dx with
    | @cons vm _ _ _ dm dx =>
      cases dx with
      | @cons vn _ _ _ dn dx =>
        cases dx with
        | @cons vd _ _ _ ddv dx =>
          cases dx
          cases dm
          cases dn
          have lm := (name_inv hm).2.2
          have ln := num_len ⟨h1, h2⟩
          have lmid : (midS n).length ≤ 4 := by
            unfold midS
            split
            · rw [app_len]
              show 1 + _ ≤ 4
              omega
            · decide +kernel
          refine ⟨fun σ' H' => σ' = [some (.ref a), some (.str (midS n))] ∧ H' = H, ?_, ?_⟩
          · refine ⟨_, rfl, a, _, _, _, rfl, rfl, sx, rfl, rfl, _, rfl, ite2 (fun e => ?_) (fun e => ?_)⟩
            · have hn : n ≠ 0 := fun z => by
                subst z
                exact absurd e (by decide)
              refine ⟨_, rfl, a, _, _, _, rfl, rfl, sx, rfl, n, rfl, log_ok ⟨h1, h2⟩, _, _, rfl, rfl, sz (show ("=" : Str).length + (numS n).length ≤ 100000 by show 1 + (numS n).length ≤ 100000; omega), ?_⟩
              refine ⟨?_, rfl⟩
              show [some (V.ref a), some (.str ("=" ++ numS n))] = _
              unfold midS
              rw [if_pos hn]
            · have hn : ¬ n ≠ 0 := fun z => e (by
                rw [Bool.not_eq_true', decide_eq_false_iff_not]
                exact fun y => z (V.int.inj y))
              refine ⟨?_, rfl⟩
              unfold midS
              rw [if_neg hn]
              rfl
          · rintro σ' H' ⟨rfl, rfl⟩
            have et := tl_text m n dd hd
            rcases hd with rfl | ⟨w', hw, hd⟩
            · cases ddv
              refine ⟨_, rfl, a, _, _, _, rfl, rfl, sx, rfl, rfl, _, rfl, iteT ?_⟩
              refine ⟨_, rfl, a, _, _, _, rfl, rfl, sx, rfl, _, rfl, _, _, rfl, rfl, sz (by omega), ?_⟩
              rw [show textD (.tuple [.str m, .int n, .none]) = m ++ midS n from ext_tl (by rw [et, tl_append, tl_midS]; exact List.append_nil _)] at k
              exact k
            · have lw := (name_inv hw).2.2
              have hlen : (m ++ midS n).length ≤ 8 := by
                rw [app_len]
                omega
              have fin : ∀ (k' sgn : Str) (b : Addr), SqT K H' b [.str k', .str w'] → sgn.length = 1 → textD (.tuple [.str m, .int n, dd]) = ((m ++ midS n) ++ sgn) ++ w' → (decide (V.str k' = V.str "send") = true → sgn = "!") → (¬ decide (V.str k' = V.str "send") = true → sgn = "?") → vd = .ref b → _ := fun k' sgn b sb l1 e1 e2 e3 e4 => (⟨k', sgn, b, sb, l1, e1, e2, e3, e4⟩ : ∃ (k' sgn : Str) (b : Addr), SqT K H' b [.str k', .str w'] ∧ sgn.length = 1 ∧ textD (.tuple [.str m, .int n, dd]) = ((m ++ midS n) ++ sgn) ++ w' ∧ (decide (V.str k' = V.str "send") = true → sgn = "!") ∧ (¬ decide (V.str k' = V.str "send") = true → sgn = "?") ∧ vd = .ref b)
              have hh : ∃ (k' sgn : Str) (b : Addr), SqT K H' b [.str k', .str w'] ∧ sgn.length = 1 ∧ textD (.tuple [.str m, .int n, dd]) = ((m ++ midS n) ++ sgn) ++ w' ∧ (decide (V.str k' = V.str "send") = true → sgn = "!") ∧ (¬ decide (V.str k' = V.str "send") = true → sgn = "?") ∧ vd = .ref b := by
                rcases deed_obj (.inr ⟨w', hw, hd⟩) ddv with ⟨e, _⟩ | ⟨b, k', w2, e, _, rfl, sb⟩
                · rcases hd with rfl | rfl <;> cases e
                · rcases hd with rfl | rfl
                  · cases e
                    refine fin _ "!" b sb (by decide +kernel) (ext_tl ?_) (fun _ => rfl) (fun z => absurd (decide_eq_true rfl) z) rfl
                    rw [et, deedT_s, tl_append, tl_append, tl_append, tl_midS]
                    show tl m ++ midL n ++ 33 :: tl w' = tl m ++ midL n ++ [33] ++ tl w'
                    simp
                  · cases e
                    refine fin _ "?" b sb (by decide +kernel) (ext_tl ?_) (fun z => absurd (V.str.inj (of_decide_eq_true z)) ne_rs) (fun _ => rfl) rfl
                    rw [et, deedT_r, tl_append, tl_append, tl_append, tl_midS]
                    show tl m ++ midL n ++ 63 :: tl w' = tl m ++ midL n ++ [63] ++ tl w'
                    simp
              obtain ⟨k', sgn, b, sb, l1, e1, e2, e3, rfl⟩ := hh
              have la1 := app_len m (midS n)
              have la2 := app_len (m ++ midS n) sgn
              have la3 := app_len (m ++ midS n ++ sgn) w'
              have ls1 : ("!" : Str).length = 1 := by decide +kernel
              have ls2 : ("?" : Str).length = 1 := by decide +kernel
              rw [e1] at k
              refine ⟨_, rfl, a, _, _, _, rfl, rfl, sx, rfl, rfl, _, rfl, iteF ?_⟩
              refine ⟨_, rfl, a, _, _, _, rfl, rfl, sx, rfl, _, rfl, _, _, rfl, rfl, sz (by omega), ?_⟩
              refine ⟨_, rfl, a, _, _, _, rfl, rfl, sx, rfl, b, _, _, _, rfl, rfl, sb, rfl, rfl, _, rfl, ite2 (fun e => ?_) (fun e => ?_)⟩
              · rw [e2 e] at k la2 la3
                exact ⟨_, _, rfl, rfl, sz (by omega), _, rfl, a, _, _, _, rfl, rfl, sx, rfl, b, _, _, _, rfl, rfl, sb, rfl, _, _, rfl, rfl, sz (by omega), k⟩
              · rw [e3 e] at k la2 la3
                exact ⟨_, _, rfl, rfl, sz (by omega), _, rfl, a, _, _, _, rfl, rfl, sx, rfl, b, _, _, _, rfl, rfl, sb, rfl, _, _, rfl, rfl, sz (by omega), k⟩
end
end My

set_option Elab.async false
set_option linter.all false
set_option maxRecDepth 100000
namespace My
open PySem PySem.Spec PyProof.Rows L2 TL
/-! ### logs, as they are meant -/
structure Stp where
  m : Str
  n : Int
  d : Option (Bool × Str)
structure Row where
  n : Str
  k : Bool
  s : List Stp
def kindS (b : Bool) : Str := if b = true then "send" else "receive"
def deedQ (d : Bool × Str) : PyData := .tuple [.str (kindS d.1), .str d.2]
def deedP : Option (Bool × Str) → PyData
  | none => .none
  | some d => deedQ d
def stpP (s : Stp) : PyData := .tuple [.str s.m, .int s.n, deedP s.d]
def rowP (r : Row) : PyData := .tuple [.str r.n, seqD r.k (r.s.map stpP)]
def rowsP (k : Bool) (rs : List Row) : PyData := seqD k (rs.map rowP)
def deeds (rs : List Row) : List (Bool × Str) := rs.flatMap fun r => r.s.filterMap (·.d)
def stepAt (rs : List Row) (i j : Nat) : Option Stp := (rs[i]?).bind fun r => r.s[j]?
structure Sta where
  pl : List Nat
  md : List (Bool × Str)
  od : List (Nat × Nat)
def canD (md : List (Bool × Str)) : Option (Bool × Str) → Bool
  | none => true
  | some (true, _) => true
  | some (false, w) => decide ((true, w) ∈ md)
def readyAt (rs : List Row) (pl : List Nat) (md : List (Bool × Str)) (i : Nat) : Bool := match stepAt rs i (pl.getD i 0) with
  | some s => canD md s.d
  | none => false
def ready (rs : List Row) (pl : List Nat) (md : List (Bool × Str)) : Option Nat := (List.range rs.length).find? fun i => readyAt rs pl md i
def addD (md : List (Bool × Str)) : Option (Bool × Str) → List (Bool × Str)
  | none => md
  | some d => md ++ [d]
def adv (t : Sta) (i : Nat) (s : Stp) : Sta := ⟨t.pl.set i (t.pl.getD i 0 + 1), addD t.md s.d, t.od ++ [(i, t.pl.getD i 0)]⟩
def runO (rs : List Row) : Nat → Sta → Sta
  | 0, t => t
  | f + 1, t => match ready rs t.pl t.md with
    | none => t
    | some i => match stepAt rs i (t.pl.getD i 0) with
      | some s => runO rs f (adv t i s)
      | none => t
def sta0 (rs : List Row) : Sta := ⟨rs.map fun _ => 0, [], []⟩
def total (rs : List Row) : Nat := (rs.map fun r => r.s.length).sum
def lastO (rs : List Row) : Sta := runO rs (total rs) (sta0 rs)
def tripP (rs : List Row) (p : Nat × Nat) : PyData := match rs[p.1]? with
  | some r => match r.s[p.2]? with
    | some s => .tuple [.str r.n, .int (p.2 : Nat), stpP s]
    | none => .none
  | none => .none
def orderP (rs : List Row) : PyData := .list ((lastO rs).od.map (tripP rs))
/-- right rows -/
structure Valid (rs : List Row) : Prop where
  few : rs.length ≤ 6
  name : ∀ r ∈ rs, nameD 6 (.str r.n) = true
  nd : (rs.map (·.n)).Nodup
  len : ∀ r ∈ rs, r.s.length ≤ 20
  step : ∀ r ∈ rs, ∀ s ∈ r.s, stepD (stpP s) = true
  once : (deeds rs).Nodup
  sent : ∀ w, (false, w) ∈ deeds rs → (true, w) ∈ deeds rs
  done : ∀ i r, rs[i]? = some r → (lastO rs).pl.getD i 0 = r.s.length
theorem stepAt_row {rs : List Row} {i j : Nat} {s : Stp} (h : stepAt rs i j = some s) : ∃ r, rs[i]? = some r ∧ r.s[j]? = some s := by
  unfold stepAt at h
  cases e : rs[i]? with
  | none => rw [e] at h; cases h
  | some r => rw [e] at h; exact ⟨r, rfl, h⟩
theorem stepAt_of {rs : List Row} {i j : Nat} {s : Stp} {r : Row} (h : rs[i]? = some r) (h2 : r.s[j]? = some s) : stepAt rs i j = some s := by
  unfold stepAt
  rw [h]
  exact h2
theorem mem_deeds {rs : List Row} {d : Bool × Str} : d ∈ deeds rs ↔ ∃ i j s, stepAt rs i j = some s ∧ s.d = some d := by
  unfold deeds
  rw [List.mem_flatMap]
  constructor
  · rintro ⟨r, hr, hd⟩
    obtain ⟨s, hs, e⟩ := List.mem_filterMap.mp hd
    obtain ⟨i, hi⟩ := List.getElem?_of_mem hr
    obtain ⟨j, hj⟩ := List.getElem?_of_mem hs
    exact ⟨i, j, s, stepAt_of hi hj, e⟩
  · rintro ⟨i, j, s, h, e⟩
    obtain ⟨r, h1, h2⟩ := stepAt_row h
    exact ⟨r, List.mem_of_getElem? h1, List.mem_filterMap.mpr ⟨s, List.mem_of_getElem? h2, e⟩⟩
theorem ready_some {rs : List Row} {pl : List Nat} {md : List (Bool × Str)} {i : Nat} (h : ready rs pl md = some i) : ∃ r s, rs[i]? = some r ∧ r.s[pl.getD i 0]? = some s ∧ canD md s.d = true := by
  have h1 := List.find?_some h
  unfold readyAt at h1
  split at h1
  · rename_i s e
    obtain ⟨r, a, b⟩ := stepAt_row e
    exact ⟨r, s, a, b, h1⟩
  · cases h1
theorem ready_none {rs : List Row} {pl : List Nat} {md : List (Bool × Str)} (h : ready rs pl md = none) {i : Nat} {s : Stp} (hs : stepAt rs i (pl.getD i 0) = some s) : canD md s.d = false := by
  obtain ⟨r, a, _⟩ := stepAt_row hs
  have hi : i < rs.length := (List.getElem?_eq_some_iff.mp a).1
  have h1 := List.find?_eq_none.mp h i (List.mem_range.mpr hi)
  unfold readyAt at h1
  rw [hs] at h1
  exact Bool.eq_false_iff.mpr h1
theorem runO_fix {rs : List Row} {t : Sta} (h : ready rs t.pl t.md = none) : ∀ m, runO rs m t = t
  | 0 => rfl
  | m + 1 => by
    unfold runO
    rw [h]
theorem runO_step {rs : List Row} {t : Sta} {i : Nat} {s : Stp} (h : ready rs t.pl t.md = some i) (hs : stepAt rs i (t.pl.getD i 0) = some s) (m : Nat) : runO rs (m + 1) t = runO rs m (adv t i s) := by
  show (match ready rs t.pl t.md with | none => t | some i => match stepAt rs i (t.pl.getD i 0) with | some s => runO rs m (adv t i s) | none => t) = _
  rw [h]
  dsimp only
  rw [hs]
/-! ### sums -/
theorem sum_le : ∀ (a b : List Nat), a.length = b.length → (∀ i, a.getD i 0 ≤ b.getD i 0) → a.sum ≤ b.sum
  | [], [], _, _ => Nat.le_refl _
  | x :: a, y :: b, hl, h => by
    have h0 := h 0
    have ih := sum_le a b (by simpa using hl) fun i => by simpa using h (i + 1)
    simp at h0 ⊢
    omega
theorem sum_lt : ∀ (a b : List Nat), a.length = b.length → (∀ i, a.getD i 0 ≤ b.getD i 0) → ∀ i, a.getD i 0 < b.getD i 0 → a.sum < b.sum
  | [], [], _, _, i, h => by simp at h
  | x :: a, y :: b, hl, h, 0, hi => by
    have ih := sum_le a b (by simpa using hl) fun i => by simpa using h (i + 1)
    simp at hi ⊢
    omega
  | x :: a, y :: b, hl, h, i + 1, hi => by
    have h0 := h 0
    have ih := sum_lt a b (by simpa using hl) (fun i => by simpa using h (i + 1)) i (by simpa using hi)
    simp at h0 ⊢
    omega
theorem sum_set : ∀ (a : List Nat) (i : Nat), i < a.length → (a.set i (a.getD i 0 + 1)).sum = a.sum + 1
  | x :: a, 0, _ => by simp; omega
  | x :: a, i + 1, h => by
    have := sum_set a i (by simpa using h)
    simp at this ⊢
    omega
theorem getD_set {a : List Nat} {i j v : Nat} (h : i < a.length) : (a.set i v).getD j 0 = if i = j then v else a.getD j 0 := by
  rw [List.getD_eq_getElem?_getD, List.getD_eq_getElem?_getD, List.getElem?_set]
  split
  · rename_i e
    subst e
    first | rfl | (rw [if_pos h]; rfl)
  · rfl
/-! ### how far the run is -/
structure Good (rs : List Row) (t : Sta) : Prop where
  pl : t.pl.length = rs.length
  le : ∀ i r, rs[i]? = some r → t.pl.getD i 0 ≤ r.s.length
  cnt : ∀ i, i < rs.length → (t.od.map (·.1)).count i = t.pl.getD i 0
  od : ∀ p ∈ t.od, p.1 < rs.length ∧ p.2 < t.pl.getD p.1 0
  md : ∀ d, d ∈ t.md ↔ ∃ i j s, j < t.pl.getD i 0 ∧ stepAt rs i j = some s ∧ s.d = some d
  odl : t.od.length = t.pl.sum
  mdl : t.md.length ≤ t.pl.sum
theorem sum_zeros : ∀ rs : List Row, (rs.map fun _ => 0).sum = 0
  | [] => rfl
  | r :: rs => by rw [List.map_cons, List.sum_cons, sum_zeros rs]
theorem getD_zeros (rs : List Row) (i : Nat) : (rs.map fun _ => 0).getD i 0 = 0 := by
  rw [List.getD_eq_getElem?_getD, List.getElem?_map]
  cases rs[i]? <;> rfl
theorem good0 (rs : List Row) : Good rs (sta0 rs) := by
  refine ⟨by simp [sta0], fun i r _ => ?_, fun i _ => ?_, fun p hp => ?_, fun d => ⟨fun h => ?_, fun ⟨i, j, s, h, _⟩ => ?_⟩, (sum_zeros rs).symm, Nat.zero_le _⟩
  · show (rs.map fun _ => 0).getD i 0 ≤ _
    rw [getD_zeros]
    exact Nat.zero_le _
  · show _ = (rs.map fun _ => 0).getD i 0
    rw [getD_zeros]
    rfl
  · cases hp
  · cases h
  · rw [show (sta0 rs).pl.getD i 0 = 0 from getD_zeros rs i] at h
    exact absurd h (Nat.not_lt_zero _)
theorem good_adv {rs : List Row} {t : Sta} {i : Nat} {s : Stp} (g : Good rs t) (hs : stepAt rs i (t.pl.getD i 0) = some s) : Good rs (adv t i s) := by
  obtain ⟨r, hr, hj⟩ := stepAt_row hs
  have hi : i < rs.length := (List.getElem?_eq_some_iff.mp hr).1
  have hip : i < t.pl.length := by rw [g.pl]; exact hi
  have hjl : t.pl.getD i 0 < r.s.length := (List.getElem?_eq_some_iff.mp hj).1
  have e : ∀ j, (adv t i s).pl.getD j 0 = if i = j then t.pl.getD i 0 + 1 else t.pl.getD j 0 := fun j => getD_set hip
  refine ⟨?_, fun j q hq => ?_, fun j hj2 => ?_, fun p hp => ?_, fun d => ?_, by
    show (t.od ++ [(i, t.pl.getD i 0)]).length = (t.pl.set i (t.pl.getD i 0 + 1)).sum
    rw [List.length_append, g.odl, sum_set _ _ hip]
    rfl, by
    show (addD t.md s.d).length ≤ (t.pl.set i (t.pl.getD i 0 + 1)).sum
    rw [sum_set _ _ hip]
    have := g.mdl
    unfold addD
    split
    · omega
    · rw [List.length_append]
      show _ + 1 ≤ _
      omega⟩
  · show (t.pl.set i _).length = _
    rw [List.length_set, g.pl]
  · rw [e]
    split
    · rename_i z
      subst z
      rw [hr] at hq
      cases hq
      exact hjl
    · exact g.le j q hq
  · rw [e]
    show ((t.od ++ [(i, t.pl.getD i 0)]).map (·.1)).count j = _
    rw [List.map_append, List.count_append, g.cnt j hj2]
    show _ + List.count j [i] = _
    rw [List.count_singleton]
    by_cases z : i = j
    · subst z
      simp
    · rw [if_neg z, if_neg (by simpa using z)]
      rfl
  · rw [e]
    rcases List.mem_append.mp hp with h | h
    · obtain ⟨a, b⟩ := g.od p h
      refine ⟨a, ?_⟩
      split
      · rename_i z
        rw [← z] at b
        omega
      · exact b
    · rw [List.mem_singleton.mp h]
      exact ⟨hi, by rw [if_pos rfl]; exact Nat.lt_succ_self _⟩
  · have old : d ∈ t.md ↔ _ := g.md d
    constructor
    · intro h
      have h' : d ∈ t.md ∨ s.d = some d := by
        have h2 : d ∈ addD t.md s.d := h
        unfold addD at h2
        split at h2
        · exact .inl h2
        · rename_i d' ed
          rcases List.mem_append.mp h2 with h2 | h2
          · exact .inl h2
          · rw [List.mem_singleton.mp h2]; exact .inr ed
      rcases h' with h' | h'
      · obtain ⟨i', j', s', a, b, c⟩ := old.mp h'
        refine ⟨i', j', s', ?_, b, c⟩
        rw [e]
        split
        · rename_i z
          rw [← z] at a
          omega
        · exact a
      · exact ⟨i, _, s, by rw [e, if_pos rfl]; exact Nat.lt_succ_self _, hs, h'⟩
    · rintro ⟨i', j', s', a, b, c⟩
      show d ∈ addD t.md s.d
      by_cases z : i = i' ∧ j' = t.pl.getD i 0
      · obtain ⟨z1, z2⟩ := z
        subst z1 z2
        rw [hs] at b
        cases b
        rw [c]
        exact List.mem_append_right _ (List.mem_singleton.mpr rfl)
      · have : d ∈ t.md := old.mpr ⟨i', j', s', by
          rw [e] at a
          split at a
          · rename_i q
            subst q
            have : j' ≠ t.pl.getD i 0 := fun y => z ⟨rfl, y⟩
            omega
          · exact a, b, c⟩
        unfold addD
        split
        · exact this
        · exact List.mem_append_left _ this
theorem total_eq (rs : List Row) (i : Nat) : (rs.map fun r => r.s.length).getD i 0 = match rs[i]? with | some r => r.s.length | none => 0 := by
  rw [List.getD_eq_getElem?_getD, List.getElem?_map]
  cases rs[i]? <;> rfl
theorem good_lt {rs : List Row} {t : Sta} {i : Nat} {s : Stp} (g : Good rs t) (hs : stepAt rs i (t.pl.getD i 0) = some s) : t.pl.sum < total rs := by
  obtain ⟨r, hr, hj⟩ := stepAt_row hs
  have hjl : t.pl.getD i 0 < r.s.length := (List.getElem?_eq_some_iff.mp hj).1
  refine sum_lt t.pl (rs.map fun r => r.s.length) (by rw [g.pl, List.length_map]) (fun j => ?_) i (by rw [total_eq, hr]; exact hjl)
  rw [total_eq]
  cases e : rs[j]? with
  | some q => exact g.le j q e
  | none =>
    rw [List.getD_eq_getElem?_getD, List.getElem?_eq_none]
    · exact Nat.zero_le _
    · rw [g.pl]; exact List.getElem?_eq_none_iff.mp e
theorem adv_sum {rs : List Row} {t : Sta} {i : Nat} {s : Stp} (g : Good rs t) (hs : stepAt rs i (t.pl.getD i 0) = some s) : (adv t i s).pl.sum = t.pl.sum + 1 := by
  obtain ⟨r, hr, _⟩ := stepAt_row hs
  exact sum_set t.pl i (by rw [g.pl]; exact (List.getElem?_eq_some_iff.mp hr).1)
/-- on the way to the end -/
structure Way (rs : List Row) (t : Sta) : Prop where
  g : Good rs t
  run : runO rs (total rs - t.pl.sum) t = lastO rs
theorem way0 (rs : List Row) : Way rs (sta0 rs) := ⟨good0 rs, by
  have : (sta0 rs).pl.sum = 0 := by
    show (rs.map fun _ => 0).sum = 0
    induction rs with
    | nil => rfl
    | cons r rs ih => simpa using ih
  rw [this]
  rfl⟩
theorem Way.adv {rs : List Row} {t : Sta} {i : Nat} {s : Stp} (h : Way rs t) (hi : ready rs t.pl t.md = some i) (hs : stepAt rs i (t.pl.getD i 0) = some s) : Way rs (adv t i s) := by
  refine ⟨good_adv h.g hs, ?_⟩
  have h1 := good_lt h.g hs
  rw [adv_sum h.g hs, ← h.run, show total rs - t.pl.sum = (total rs - (t.pl.sum + 1)) + 1 by omega, runO_step hi hs]
theorem Way.fin {rs : List Row} {t : Sta} (h : Way rs t) (hi : ready rs t.pl t.md = none) : t = lastO rs := by
  rw [← h.run, runO_fix hi]
theorem run_good {rs : List Row} : ∀ (m : Nat) (t : Sta), Good rs t → total rs - t.pl.sum ≤ m → Good rs (runO rs m t) ∧ ready rs (runO rs m t).pl (runO rs m t).md = none
  | 0, t, g, h => by
    refine ⟨g, ?_⟩
    show ready rs t.pl t.md = none
    cases e : ready rs t.pl t.md with
    | none => rfl
    | some i =>
      obtain ⟨r, s, a, b, _⟩ := ready_some e
      have := good_lt g (stepAt_of a b)
      omega
  | m + 1, t, g, h => by
    cases e : ready rs t.pl t.md with
    | none =>
      rw [runO_fix e]
      exact ⟨g, e⟩
    | some i =>
      obtain ⟨r, s, a, b, _⟩ := ready_some e
      have hs := stepAt_of a b
      rw [runO_step e hs]
      refine run_good m _ (good_adv g hs) ?_
      rw [adv_sum g hs]
      have := good_lt g hs
      omega
theorem last_good (rs : List Row) : Good rs (lastO rs) ∧ ready rs (lastO rs).pl (lastO rs).md = none := run_good _ _ (good0 rs) (Nat.sub_le _ _)
/-! ### what can be put in a line can be made -/
def Lin (rs : List Row) : Prop := ∃ L : List (Nat × Nat), (∀ i j s, stepAt rs i j = some s → (i, j) ∈ L) ∧ ∀ k i j, L[k]? = some (i, j) → (∀ j', j' < j → (i, j') ∈ L.take k) ∧
  ∀ s w, stepAt rs i j = some s → s.d = some (false, w) → ∃ i' j' s', (i', j') ∈ L.take k ∧ stepAt rs i' j' = some s' ∧ s'.d = some (true, w)
theorem lin_done {rs : List Row} (h : Lin rs) : ∀ i r, rs[i]? = some r → (lastO rs).pl.getD i 0 = r.s.length := by
  obtain ⟨L, hall, hL⟩ := h
  obtain ⟨g, hn⟩ := last_good rs
  have key : ∀ k, ∀ p ∈ L.take k, (stepAt rs p.1 p.2).isSome = true → p.2 < (lastO rs).pl.getD p.1 0 := by
    intro k
    induction k with
    | zero => intro p hp; simp at hp
    | succ k ih =>
      intro p hp hsome
      rw [List.take_add_one] at hp
      rcases List.mem_append.mp hp with h | h
      · exact ih p h hsome
      · obtain ⟨i, j⟩ := p
        have hk : L[k]? = some (i, j) := by
          cases e : L[k]? with
          | none => rw [e] at h; simp at h
          | some q => rw [e] at h; simp at h; rw [← h]
        obtain ⟨h1, h2⟩ := hL k i j hk
        obtain ⟨s, hs⟩ := Option.isSome_iff_exists.mp hsome
        obtain ⟨r, hr, hj⟩ := stepAt_row hs
        refine Nat.lt_of_not_le fun hle => ?_
        have e : (lastO rs).pl.getD i 0 = j := by
          refine Nat.le_antisymm hle (Nat.le_of_not_lt fun hlt => ?_)
          have hm := ih (i, (lastO rs).pl.getD i 0) (h1 _ hlt) (by
            have : (lastO rs).pl.getD i 0 < r.s.length := Nat.lt_trans hlt (List.getElem?_eq_some_iff.mp hj).1
            rw [stepAt_of hr (List.getElem?_eq_getElem this)]
            rfl)
          exact Nat.lt_irrefl _ hm
        have hs2 : stepAt rs i ((lastO rs).pl.getD i 0) = some s := by rw [e]; exact hs
        have hc := ready_none hn hs2
        cases ed : s.d with
        | none => rw [ed] at hc; cases hc
        | some d =>
          obtain ⟨b, w⟩ := d
          cases b with
          | true => rw [ed] at hc; cases hc
          | false =>
            rw [ed] at hc
            obtain ⟨i', j', s', a, b, c⟩ := h2 s w hs ed
            have hm := ih (i', j') a (by rw [b]; rfl)
            have : (true, w) ∈ (lastO rs).md := (g.md _).mpr ⟨i', j', s', hm, b, c⟩
            exact absurd (decide_eq_true this) (by rw [show decide ((true, w) ∈ (lastO rs).md) = false from hc]; decide)
  intro i r hr
  refine Nat.le_antisymm (g.le i r hr) (Nat.le_of_not_lt fun hlt => ?_)
  have hs := stepAt_of hr (List.getElem?_eq_getElem hlt)
  have := key L.length (i, (lastO rs).pl.getD i 0) (by rw [List.take_of_length_le (Nat.le_refl _)]; exact hall _ _ _ hs) (by rw [hs]; rfl)
  exact Nat.lt_irrefl _ this
end My

set_option Elab.async false
set_option linter.all false
set_option maxRecDepth 100000
namespace My
open PySem PySem.Spec PyProof.Rows L2 TL
local macro_rules | `(tactic| walk_at "sv") => `(tactic| repeat (first | exact sv_int | exact sv_bl | exact sv_non | exact sv_str | exact sa_nil | exact sv_vi rfl | exact sv_vs rfl | exact sv_var rfl (by assumption) | apply sa_cons | (refine sv_tup ?_ ?_) | (refine sv_lst ?_ ?_) | apply sv_add | apply sv_sub | assumption | rfl))
/-! ### right data -/
theorem fine_seq {k : Bool} {ds : List PyData} (hl : ds.length ≤ 5000) (h : ∀ d ∈ ds, fine d = true ∧ d.depth ≤ 20) : fine (seqD k ds) = true := by
  obtain ⟨a, b, c⟩ := fine_list (ds := ds) fun d hd => by
    obtain ⟨h1, h2⟩ := h d hd
    refine ⟨fine_small h1, ?_, h2⟩
    have := fine_shaped h1
    unfold SeqAt.shaped at this
    exact (Bool.and_eq_true_iff.mp this).1
  cases k with
  | true =>
    show ((decide (ds.length ≤ 5000) && smallAll ds) && (PyData.canLayAll0 ds && decide (PyData.depthAll ds + 1 ≤ 64))) = true
    rw [a, b, decide_eq_true hl, decide_eq_true (show PyData.depthAll ds + 1 ≤ 64 by omega)]
    rfl
  | false =>
    show ((decide (ds.length ≤ 5000) && smallAll ds) && (PyData.canLayAll0 ds && decide (PyData.depthAll ds + 1 ≤ 64))) = true
    rw [a, b, decide_eq_true hl, decide_eq_true (show PyData.depthAll ds + 1 ≤ 64 by omega)]
    rfl
theorem depth_seq {k : Bool} {ds : List PyData} {n : Nat} (h : ∀ d ∈ ds, d.depth ≤ n) : (seqD k ds).depth ≤ n + 1 := by
  have : PyData.depthAll ds ≤ n := by
    induction ds with
    | nil => exact Nat.zero_le _
    | cons d ds ih =>
      show max d.depth (PyData.depthAll ds) ≤ n
      have h1 := h d (List.mem_cons_self ..)
      have h2 := ih fun x hx => h x (List.mem_cons_of_mem _ hx)
      omega
  cases k with
  | true => show PyData.depthAll ds + 1 ≤ n + 1; omega
  | false => show PyData.depthAll ds + 1 ≤ n + 1; omega
theorem name_good2 {x : Str} {k : Int} (h : nameD k (.str x) = true) (hk : k ≤ 100) : GoodS x := by
  obtain ⟨a, b, c⟩ := name_inv h
  refine ⟨by omega, fun y hy => ?_⟩
  have := letter_of (a y hy)
  omega
theorem name_fine {x : Str} {k : Int} (h : nameD k (.str x) = true) (hk : k ≤ 100) : fine (.str x) = true := good_fine (name_good2 h hk)
theorem deedQ_fine {d : Bool × Str} (h : nameD 4 (.str d.2) = true) : fine (deedQ d) = true ∧ (deedQ d).depth ≤ 1 := by
  refine ⟨fine_seq (k := false) (ds := [.str (kindS d.1), .str d.2]) (by simp) fun x hx => ?_, depth_seq (k := false) (n := 0) fun x hx => ?_⟩
  · simp only [List.mem_cons, List.not_mem_nil, or_false] at hx
    rcases hx with rfl | rfl
    · refine ⟨?_, by simp [PyData.depth]⟩
      unfold kindS
      split <;> decide +kernel
    · exact ⟨name_fine h (by decide), by simp [PyData.depth]⟩
  · simp only [List.mem_cons, List.not_mem_nil, or_false] at hx
    rcases hx with rfl | rfl <;> simp [PyData.depth]
/-- what a right step is -/
theorem stp_inv {s : Stp} (h : stepD (stpP s) = true) : nameD 4 (.str s.m) = true ∧ -99 ≤ s.n ∧ s.n ≤ 99 ∧ ∀ b w, s.d = some (b, w) → nameD 4 (.str w) = true := by
  obtain ⟨m, n, dd, e, hm, h1, h2, hd⟩ := step_inv h
  have e' : PyData.tuple [.str s.m, .int s.n, deedP s.d] = .tuple [.str m, .int n, dd] := e
  simp only [PyData.tuple.injEq, List.cons.injEq, PyData.str.injEq, PyData.int.injEq, and_true] at e'
  obtain ⟨e1, e2, e3⟩ := e'
  subst e1 e2 e3
  refine ⟨hm, h1, h2, fun b w e => ?_⟩
  rw [e] at hd
  rcases hd with h | ⟨w', hw, h | h⟩
  · cases h
  · have h' : PyData.tuple [.str (kindS b), .str w] = .tuple [.str "send", .str w'] := h
    simp only [PyData.tuple.injEq, List.cons.injEq, PyData.str.injEq, and_true] at h'
    rw [h'.2]; exact hw
  · have h' : PyData.tuple [.str (kindS b), .str w] = .tuple [.str "receive", .str w'] := h
    simp only [PyData.tuple.injEq, List.cons.injEq, PyData.str.injEq, and_true] at h'
    rw [h'.2]; exact hw
theorem stp_fine {s : Stp} (h : stepD (stpP s) = true) : fine (stpP s) = true ∧ (stpP s).depth ≤ 2 := by
  obtain ⟨hm, h1, h2, hd⟩ := stp_inv h
  have hdd : fine (deedP s.d) = true ∧ (deedP s.d).depth ≤ 1 := by
    cases e : s.d with
    | none => exact ⟨by decide +kernel, by simp [deedP, PyData.depth]⟩
    | some d => exact deedQ_fine (hd d.1 d.2 e)
  refine ⟨fine_seq (k := false) (ds := [.str s.m, .int s.n, deedP s.d]) (by simp) fun x hx => ?_, depth_seq (k := false) (n := 1) (ds := [.str s.m, .int s.n, deedP s.d]) fun x hx => ?_⟩
  · simp only [List.mem_cons, List.not_mem_nil, or_false] at hx
    rcases hx with rfl | rfl | rfl
    · exact ⟨name_fine hm (by decide), by simp [PyData.depth]⟩
    · exact ⟨by rfl, by simp [PyData.depth]⟩
    · exact ⟨hdd.1, by omega⟩
  · simp only [List.mem_cons, List.not_mem_nil, or_false] at hx
    rcases hx with rfl | rfl | rfl
    · simp [PyData.depth]
    · simp [PyData.depth]
    · exact hdd.2
def fstD : PyData → PyData
  | .tuple (x :: _) => x
  | _ => .none
def rowD : PyData → Bool
  | .tuple [a, b] => nameD 6 a && (isD "list" b || isD "tuple" b)
  | _ => false
abbrev RowsX := Bool × List Row
def encR (x : RowsX) : List PyData := [rowsP x.1 x.2]
section
variable {P : Program} {w : World} {K : PySem.W.Frag} {mg : Str → Option Value} {base : Heap} {A : Top}
def spNames (K : PySem.W.Frag) : Sp := spT K encR (fun x => x.2.length ≤ 1000) fun x => .list (x.2.map fun r => .str r.n)
theorem ok_names (T : TopOk K mg A) : FnOk P w K mg base CX0 1 A.f_names A.d_names P_names (spNames K) := by
  refine T.F_names.ok sc_names (fun vs H Q E h => ?_) (fun cdv Ar outer s H vs Q E hr h => ?_)
  · obtain ⟨S, x, _, h, _⟩ := h
    obtain ⟨v, rfl, _⟩ := h.one
    rfl
  · obtain ⟨S, ⟨ko, rs⟩, hL, hds, hp, k⟩ := h
    obtain ⟨v, rfl, hv⟩ := hds.one
    refine ⟨_, (pss_one (ps_ret (pe_lc (own := [("name", 1), ("steps", 2)]) (g := gTup K 2 (gCons (gName 1) (gCons (gName 2) gNil))) (by rfl) sc_names.nd (pi_any (pv 0)) (blkOk_by (own := [("name", 1), ("steps", 2)]) (N := N_names) (sc := defScope s_names) (by decide +kernel)) (fun _ _ _ _ _ => (pg_tup rfl (pgs_cons (pg_name (i := 1) sc_names.nd rfl (by first | exact Or.inl rfl | exact Or.inr rfl)) (pgs_cons (pg_name (i := 2) sc_names.nd rfl (by first | exact Or.inl rfl | exact Or.inr rfl)) pgs_nil)))) (fun _ _ _ _ _ => pts_nil) (fun _ _ _ _ _ => (pv 1))))), ?_⟩
    refine ret_sv hL (sv_is (sv_lcM (K := K) (S := S) (si_any (k := ko) (ds := rs.map rowP) (sv_var rfl hv)) (by rw [List.length_map]; show rs.length ≤ 5000; have : rs.length ≤ 1000 := hp; omega) fstD fun d S' H' v' Q m n hd kk => ?_) ?_) k
    · obtain ⟨r, hr', rfl⟩ := List.mem_map.mp m
      exact g_tup2 hd fun x y hx hy => kk _ rfl (sv_var rfl hx)
    · rw [List.map_map]
      rfl
theorem ok_is_row (T : TopOk K mg A) : FnOk P w K mg base CX0 3 A.f_is_row A.d_is_row P_is_row (spD K rowD) := by
  have G_is_name : FnOk P w K mg base CX0 2 A.f_is_name A.d_is_name P_is_name (spD K (nameD 6)) := ok_is_name T
  refine T.F_is_row.ok sc_is_row (fun vs H Q E h => ?_) (fun cdv Ar outer s H vs Q E hr h => ?_)
  · obtain ⟨x, d, rfl, _⟩ := h
    rfl
  · obtain ⟨v, d, rfl, hv, hf, k⟩ := h
    refine ⟨_, (pss_cons (ps_if (PW.pt (pw_or (pt_not (pt_val (pe_callB call_isD (by rfl) T.b_isinstance (by decide +kernel) (pa_cons (pv 0) (pa_cons (pe_bltn (v := .ty "tuple") (by rfl) T.b_tuple (by decide +kernel) rfl) pa_nil))))) (pw_or1 (pt_cmpR op_ne (pe_callB call_len (by rfl) T.b_len (by decide +kernel) (pa_cons (pv 0) pa_nil)) pe_int (nomark _)))))
      (pss_one (ps_ret pe_bl))
      pss_nil)
      (pss_one (ps_ret (pe_and (pe_call G_is_name (hr.mono (by decide)) (by rfl) T.g_is_name T.F_is_name.kp T.a_is_name .nil pass0 (pa_cons (pe_ix ix_tup (pv 0) pe_int (fun _ _ => rfl)) pa_nil)) (pe_one (pe_callB call_isD2 (by rfl) T.b_isinstance (by decide +kernel) (pa_cons (pe_ix ix_tup (pv 0) pe_int (fun _ _ => rfl)) (pa_cons (pe_tup (pa_cons (pe_bltn (v := .ty "list") (by rfl) T.b_list (by decide +kernel) rfl) (pa_cons (pe_bltn (v := .ty "tuple") (by rfl) T.b_tuple (by decide +kernel) rfl) pa_nil))) pa_nil)))))))), ?_⟩
    cases d with
    | tuple ds =>
      obtain ⟨a, xs, rfl, sx, dx⟩ := Dp.lenT hv
      have lx := DpAll.length dx
      refine ⟨_, rfl, _, _, _, rfl, rfl, hv, _, rfl, iteF ?_⟩
      refine ⟨_, rfl, .ref a, xs.length, rfl, .inr ⟨xs, sx, rfl⟩, rfl, _, rfl, ?_⟩
      match ds, dx, lx, hf, k with
      | [dk, dm], dx, lx, hf, k =>
        cases dx with
        | @cons vk _ _ _ hk dx =>
          cases dx with
          | @cons vm _ _ _ hm dx =>
            cases dx
            refine iteF ?_
            have fk : fine dk = true := fine_get (i := 0) hf rfl
            refine ⟨_, rfl, a, _, _, vk, rfl, rfl, sx, rfl, vk, dk, rfl, hk, fk, fun H2 s2 => ⟨_, rfl, ite2 (fun e => ?_) (fun e => ?_)⟩⟩
            · refine ⟨_, rfl, a, _, _, vm, rfl, rfl, SqT.same s2 sx, rfl, by show 2 ≤ sizeLine; decide, fun t nt => ⟨vm, t, "list", "tuple", dm, rfl, upd_same, rfl, rfl, Dp.same (s2.trans (same_upd nt)) _ _ hm, ?_⟩⟩
              have e2 : rowD (.tuple [dk, dm]) = (isD "list" dm || isD "tuple" dm) := by
                show (nameD 6 dk && _) = _
                rw [e, Bool.true_and]
              rw [e2] at k
              exact k _ (s2.trans (same_upd nt))
            · have e2 : rowD (.tuple [dk, dm]) = false := by
                show (nameD 6 dk && _) = _
                rw [Bool.eq_false_iff.mpr e, Bool.false_and]
              have := k H2 s2
              rw [e2] at this
              exact this
      | [], dx, lx, hf, k =>
        rw [show xs.length = 0 from lx]
        exact iteT (k H (Same.refl _))
      | [_], dx, lx, hf, k =>
        rw [show xs.length = 1 from lx]
        exact iteT (k H (Same.refl _))
      | _ :: _ :: _ :: ds, dx, lx, hf, k =>
        rw [show xs.length = ds.length + 3 from lx]
        have hne : (!decide (V.int ((ds.length + 3 : Nat) : Int) = V.int 2)) = true := by
          rw [Bool.not_eq_true', decide_eq_false_iff_not]
          intro z
          have := V.int.inj z
          omega
        rw [hne]
        exact iteT (k H (Same.refl _))
    | dict ds => cases hv
    | _ => exact ⟨_, rfl, _, _, _, rfl, rfl, hv, _, rfl, iteT (iteT (k H (Same.refl _)))⟩
end
end My

set_option Elab.async false
set_option linter.all false
set_option maxRecDepth 100000
namespace My
open PySem PySem.Spec PyProof.Rows L2 TL
/-! ### the parts of rows -/
def itemsD : PyData → List PyData
  | .list l => l
  | .tuple l => l
  | _ => []
def innD : PyData → List PyData
  | .tuple [_, s] => itemsD s
  | _ => []
def hasD : PyData → Bool
  | .tuple [_, _, d] => !isNonD d
  | _ => false
def thirdD : PyData → PyData
  | .tuple [_, _, d] => d
  | _ => .none
theorem items_seq (k : Bool) (l : List PyData) : itemsD (seqD k l) = l := by cases k <;> rfl
theorem inn_row (r : Row) : innD (rowP r) = r.s.map stpP := items_seq r.k _
theorem deeds_out (rs : List Row) : ((rs.map rowP).flatMap fun d => ((innD d).filter hasD).map thirdD) = (deeds rs).map deedQ := by
  unfold deeds
  rw [List.flatMap_map, List.map_flatMap]
  refine congrArg (fun f => List.flatMap f rs) (funext fun r => ?_)
  rw [inn_row]
  generalize r.s = l
  induction l with
  | nil => rfl
  | cons s l ih =>
    rw [List.map_cons]
    cases e : s.d with
    | none =>
      rw [List.filter_cons_of_neg (by simp [hasD, stpP, e, deedP, isNonD]), List.filterMap_cons_none e, ih]
    | some d =>
      rw [List.filter_cons_of_pos (by simp [hasD, stpP, e, deedP, deedQ, isNonD]), List.filterMap_cons_some e, List.map_cons, List.map_cons, ih]
      simp [thirdD, stpP, e, deedP]
theorem kind_inj {a b : Bool} (h : kindS a = kindS b) : a = b := by
  cases a <;> cases b <;> first | rfl | exact absurd h (by decide +kernel)
theorem eqv_deed (a b : Bool × Str) : PyData.eqv (deedQ a) (deedQ b) = decide (a = b) := by
  obtain ⟨a1, a2⟩ := a
  obtain ⟨b1, b2⟩ := b
  show ((kindS a1 == kindS b1) && ((a2 == b2) && true)) = _
  rw [Bool.eq_iff_iff, decide_eq_true_iff, Bool.and_true, Bool.and_eq_true_iff, beq_iff_eq, beq_iff_eq]
  constructor
  · rintro ⟨h1, h2⟩
    rw [kind_inj h1, h2]
  · intro h
    cases h
    exact ⟨rfl, rfl⟩
theorem any_deed (ds : List (Bool × Str)) (d : Bool × Str) : ((ds.map deedQ).any fun z => PyData.eqv z (deedQ d)) = decide (d ∈ ds) := by
  rw [Bool.eq_iff_iff, decide_eq_true_iff, List.any_eq_true]
  constructor
  · rintro ⟨z, hz, e⟩
    obtain ⟨d', hd', rfl⟩ := List.mem_map.mp hz
    rw [eqv_deed] at e
    rw [← of_decide_eq_true e]
    exact hd'
  · intro h
    exact ⟨_, List.mem_map.mpr ⟨d, h, rfl⟩, by rw [eqv_deed]; exact decide_eq_true rfl⟩
def lackD (ds : List (Bool × Str)) (d : Bool × Str) : Bool := !d.1 && !decide ((true, d.2) ∈ ds)
def lackP (ds : List (Bool × Str)) : PyData := match ds.find? (lackD ds) with
  | some d => .str d.2
  | none => .none
/-- rows of a size that is right, their words too -/
structure Small (rs : List Row) : Prop where
  few : rs.length ≤ 1000
  len : (rs.map fun r => r.s.length).sum ≤ 5000
  word : ∀ d ∈ deeds rs, nameD 4 (.str d.2) = true
theorem sum_map_le : ∀ (l : List Nat) (k : Nat), (∀ x ∈ l, x ≤ k) → l.sum ≤ l.length * k
  | [], _, _ => by simp
  | a :: l, k, h => by
    have h1 := h a (List.mem_cons_self ..)
    have h2 := sum_map_le l k fun x hx => h x (List.mem_cons_of_mem _ hx)
    rw [List.sum_cons, List.length_cons, Nat.succ_mul]
    omega
theorem Valid.small {rs : List Row} (h : Valid rs) : Small rs := by
  refine ⟨Nat.le_trans h.few (by decide), ?_, fun d hd => ?_⟩
  · have := sum_map_le (rs.map fun r => r.s.length) 20 fun x hx => by
      obtain ⟨r, hr, rfl⟩ := List.mem_map.mp hx
      exact h.len r hr
    rw [List.length_map] at this
    have := h.few
    omega
  · obtain ⟨i, j, s, hs, e⟩ := mem_deeds.mp hd
    obtain ⟨r, h1, h2⟩ := stepAt_row hs
    exact (stp_inv (h.step r (List.mem_of_getElem? h1) s (List.mem_of_getElem? h2))).2.2.2 d.1 d.2 e
theorem len_deeds (rs : List Row) : (deeds rs).length ≤ (rs.map fun r => r.s.length).sum := by
  unfold deeds
  induction rs with
  | nil => exact Nat.le_refl _
  | cons r rs ih =>
    rw [List.flatMap_cons, List.length_append, List.map_cons, List.sum_cons]
    have := List.length_filterMap_le (fun s : Stp => s.d) r.s
    omega
theorem deeds_fine {rs : List Row} (h : Small rs) : fine (.list ((deeds rs).map deedQ)) = true := by
  refine fine_seq (k := true) (by rw [List.length_map]; exact Nat.le_trans (len_deeds rs) h.len) fun d hd => ?_
  obtain ⟨d', hd', rfl⟩ := List.mem_map.mp hd
  obtain ⟨a, b⟩ := deedQ_fine (h.word d' hd')
  exact ⟨a, by omega⟩
section
variable {P : Program} {w : World} {K : PySem.W.Frag} {mg : Str → Option Value} {base : Heap} {A : Top}
def spDeeds (K : PySem.W.Frag) : Sp := spT K encR (fun x => (x.2.map fun r => r.s.length).sum ≤ 5000) fun x => .list ((deeds x.2).map deedQ)
theorem ok_deeds (T : TopOk K mg A) : FnOk P w K mg base CX0 1 A.f_deeds A.d_deeds P_deeds (spDeeds K) := by
  refine T.F_deeds.ok sc_deeds (fun vs H Q E h => ?_) (fun cdv Ar outer s H vs Q E hr h => ?_)
  · obtain ⟨S, x, _, h, _⟩ := h
    obtain ⟨v, rfl, _⟩ := h.one
    rfl
  · obtain ⟨S, ⟨ko, rs⟩, hL, hds, hp, k⟩ := h
    obtain ⟨v, rfl, hv⟩ := hds.one
    refine ⟨_, (pss_one (ps_ret (pe_lc2 (own := [("name", 1), ("steps", 2), ("mark", 3), ("number", 4), ("deed", 5)]) (vs1 := [3, 4, 5]) (wi1 := iAny K (tVar 2)) (g := gTup K 2 (gCons (gName 1) (gCons (gName 2) gNil))) (g1 := gTup K 3 (gCons (gName 3) (gCons (gName 4) (gCons (gName 5) gNil)))) (by rfl) sc_deeds.nd (pi_any (pv 0)) (blkOk_by (own := [("name", 1), ("steps", 2), ("mark", 3), ("number", 4), ("deed", 5)]) (N := N_deeds) (sc := defScope s_deeds) (by decide +kernel)) (by decide) (fun _ _ _ _ _ => (pg_tup rfl (pgs_cons (pg_name (i := 1) sc_deeds.nd rfl (by first | exact Or.inl rfl | exact Or.inr rfl)) (pgs_cons (pg_name (i := 2) sc_deeds.nd rfl (by first | exact Or.inl rfl | exact Or.inr rfl)) pgs_nil)))) (fun _ _ _ _ _ => pts_nil) (fun _ _ _ _ _ => (pi_any (pv 2))) (fun _ _ _ _ _ => (pg_tup rfl (pgs_cons (pg_name (i := 3) sc_deeds.nd rfl (by first | exact Or.inl rfl | exact Or.inr rfl)) (pgs_cons (pg_name (i := 4) sc_deeds.nd rfl (by first | exact Or.inl rfl | exact Or.inr rfl)) (pgs_cons (pg_name (i := 5) sc_deeds.nd rfl (by first | exact Or.inl rfl | exact Or.inr rfl)) pgs_nil))))) (fun _ _ _ _ _ => (pts_one (pt_cmpR op_notN (pv 5) pe_non (nomark _)))) (fun _ _ _ _ _ => (pv 5))))), ?_⟩
    show tRet _ _ [some v, none, none, none, none, none] H
    refine ret_sv hL (sv_is (sv_lc2 (K := K) (S := S) (si_any (k := ko) (ds := rs.map rowP) (sv_var rfl hv)) innD ?_ hasD thirdD fun d S' H' v' Q m n hd kk => ?_) (congrArg PyData.list (deeds_out rs))) k
    · rw [List.map_map]
      have e : (rs.map ((fun d => (innD d).length) ∘ rowP)) = rs.map fun r => r.s.length := List.map_congr_left fun r _ => by
        show (innD (rowP r)).length = _
        rw [inn_row, List.length_map]
      rw [e]
      exact hp
    · obtain ⟨r, hr', rfl⟩ := List.mem_map.mp m
      refine g_tup2 hd fun x y hx hy => kk [some v, some x, some y, none, none, none] rfl (by rw [inn_row]; exact si_any (k := r.k) (sv_var rfl hy)) fun e S2 H2 v2 Q2 me n2 st2 he k2 => ?_
      rw [inn_row] at me
      obtain ⟨s, hs, rfl⟩ := List.mem_map.mp me
      exact g_tup3 he fun a b c ha hb hc => k2 [some v, some x, some y, some a, some b, some c] rfl (sb_test (sv_notN (sv_var rfl hc))) fun _ => sv_var rfl hc
def spLack (K : PySem.W.Frag) : Sp := spT K encR (fun x => Small x.2) fun x => lackP (deeds x.2)
theorem ok_first_unsent (T : TopOk K mg A) : FnOk P w K mg base CX0 2 A.f_first_unsent A.d_first_unsent P_first_unsent (spLack K) := by
  have G_deeds : FnOk P w K mg base CX0 1 A.f_deeds A.d_deeds P_deeds (spDeeds K) := ok_deeds T
  refine T.F_first_unsent.ok sc_first_unsent (fun vs H Q E h => ?_) (fun cdv Ar outer s H vs Q E hr h => ?_)
  · obtain ⟨S, x, _, h, _⟩ := h
    obtain ⟨v, rfl, _⟩ := h.one
    rfl
  · obtain ⟨S, ⟨ko, rs⟩, hL, hds, hp, k⟩ := h
    obtain ⟨v, rfl, hv⟩ := hds.one
    refine ⟨_, (pss_cons (ps_set (i := 1) sc_first_unsent.nd rfl (by first | exact Or.inl rfl | exact Or.inr rfl) (pe_call G_deeds (hr.mono (by decide)) (by rfl) T.g_deeds T.F_deeds.kp T.a_deeds .nil pass0 (pa_cons (pv 0) pa_nil)))
      (pss_cons (ps_for PassesOwn.never rfl (pi_any (pv 1)) (pg_tup rfl (pgs_cons (pg_name (i := 2) sc_first_unsent.nd rfl (by first | exact Or.inl rfl | exact Or.inr rfl)) (pgs_cons (pg_name (i := 3) sc_first_unsent.nd rfl (by first | exact Or.inl rfl | exact Or.inr rfl)) pgs_nil)))
      (pss_one (ps_if (PW.pt (pw_and (pt_cmpR op_eq (pv 2) pe_str (nomark _)) (pw_and1 (pt_cmpR (L2.op_notInD (hu65 hr)) (pe_tup (pa_cons pe_str (pa_cons (pv 3) pa_nil))) (pv 1) (by rfl)))))
      (pss_one (ps_ret (pv 3)))
      pss_nil)))
      (pss_one (ps_ret pe_non)))), ?_⟩
    have hp : Small rs := hp
    refine set_sv (K := K) (S := S) hL (sv_T (enc := encR) (ko, rs) (sa_cons (sv_var rfl hv) sa_nil) rfl hp.len) fun vd H1 s1 l1 hvd => ?_
    dsimp only [List.set]
    refine seq_for (K := K) (S := S) l1 (si_l (sv_var rfl hvd)) fun H2 s2 l2 => ⟨fun i σ H3 => (∃ x2 x3, σ = [some v, some vd, x2, x3]) ∧ Same H2 H3 ∧ ∀ j d, j < i → (deeds rs)[j]? = some d → lackD (deeds rs) d = false,
      ⟨⟨_, _, rfl⟩, Same.refl _, fun j d hj => absurd hj (Nat.not_lt_zero j)⟩, fun i σ H3 _ ⟨_, s3, _⟩ => ⟨S, (Now.of l2 s3).step⟩, fun i d v' σ H3 H4 ed ⟨⟨x2, x3, e⟩, s3, hj⟩ s4 hd => ?_, fun σ H3 ⟨⟨x2, x3, e⟩, s3, hj⟩ => ?_⟩
    · subst e
      have n3 : Now S H2 S H3 := Now.of l2 s3
      have l4 := n3.live.same s4
      rw [List.getElem?_map] at ed
      cases e0 : (deeds rs)[i]? with
      | none => rw [e0] at ed; cases ed
      | some dd =>
        rw [e0] at ed
        cases ed
        refine g_tup2 (hd S n3.step) fun x y hx hy => ?_
        have hvd4 := ((hvd.same s2).same s3).same s4
        have hw := hp.word dd (List.mem_of_getElem? e0)
        refine if_sb l4 (sb_is (b' := lackD (deeds rs) dd) (sb_and (b := decide (kindS dd.1 = "receive")) (sb_test (sv_eqS (sv_var rfl hx) sv_str)) fun _ => sb_test (sv_notInD (sv_tup (sa_cons sv_str (sa_cons (sv_var rfl hy) sa_nil)) rfl) (sv_var rfl hvd4) (deedQ_fine (d := (true, dd.2)) hw).1 (deeds_fine hp))) ?_) (fun e1 H5 s5 l5 => ?_) fun e1 H5 s5 l5 => ?_
        · have e2 : decide (kindS dd.1 = "receive") = !dd.1 := by
            cases dd.1 with
            | true => exact decide_eq_false (by decide +kernel)
            | false => rfl
          rw [e2]
          exact congrArg (fun b => !dd.1 && !b) (any_deed (deeds rs) (true, dd.2))
        · refine ret_sv l5 (sv_var rfl (hy.same s5)) fun v5 H6 s6 hv6 => k _ _ (((((s1.trans s2).trans s3).trans s4).trans s5).trans s6) ?_
          have ef : (deeds rs).find? (lackD (deeds rs)) = some dd := by
            rw [List.find?_eq_some_iff_getElem]
            obtain ⟨hi, hii⟩ := List.getElem?_eq_some_iff.mp e0
            refine ⟨e1, i, hi, hii, fun j hjl => ?_⟩
            rw [hj j _ hjl (List.getElem?_eq_getElem (Nat.lt_trans hjl hi))]
            rfl
          show Ds K S H6 v5 (lackP (deeds rs))
          unfold lackP
          rw [ef]
          exact hv6
        · refine ⟨⟨_, _, rfl⟩, (s3.trans s4).trans s5, fun j d' hjl hd' => ?_⟩
          rcases Nat.lt_succ_iff_lt_or_eq.mp hjl with h | h
          · exact hj j d' h hd'
          · subst h
            rw [e0] at hd'
            cases hd'
            exact e1
    · subst e
      refine ret_sv (K := K) (l2.same s3) sv_non fun v5 H6 s6 hv6 => k _ _ (((s1.trans s2).trans s3).trans s6) ?_
      have ef : (deeds rs).find? (lackD (deeds rs)) = none := by
        rw [List.find?_eq_none]
        intro d hd
        obtain ⟨j, hjd⟩ := List.getElem?_of_mem hd
        have hjl : j < ((deeds rs).map deedQ).length := by
          rw [List.length_map]
          exact (List.getElem?_eq_some_iff.mp hjd).1
        rw [hj j d hjl hjd]
        decide
      show Ds K S H6 v5 (lackP (deeds rs))
      unfold lackP
      rw [ef]
      exact hv6
end
end My

set_option Elab.async false
set_option linter.all false
set_option maxRecDepth 100000
namespace My
open PySem PySem.Spec PyProof.Rows L2 TL
theorem enumD_inv {ds : List PyData} {i : Nat} {d : PyData} (h : (enumD ds)[i]? = some d) : ∃ e, ds[i]? = some e ∧ d = .tuple [.int (i : Nat), e] := by
  cases e : ds[i]? with
  | none =>
    have : i < (enumD ds).length := (List.getElem?_eq_some_iff.mp h).1
    rw [enumD_len] at this
    rw [List.getElem?_eq_none_iff] at e
    omega
  | some x =>
    rw [enumD_at e] at h
    exact ⟨x, rfl, (Option.some.inj h).symm⟩
theorem map_inv {α : Type} {f : α → PyData} {l : List α} {i : Nat} {d : PyData} (h : (l.map f)[i]? = some d) : ∃ x, l[i]? = some x ∧ d = f x := by
  rw [List.getElem?_map] at h
  cases e : l[i]? with
  | none => rw [e] at h; cases h
  | some x => rw [e] at h; exact ⟨x, rfl, (Option.some.inj h).symm⟩
theorem isD_seq (k : Bool) (l : List PyData) : (isD "list" (seqD k l) || isD "tuple" (seqD k l)) = true := by
  cases k <;> rfl
theorem row_fine {r : Row} (h1 : nameD 6 (.str r.n) = true) (h2 : r.s.length ≤ 1000) (h3 : ∀ s ∈ r.s, stepD (stpP s) = true) : fine (rowP r) = true ∧ (rowP r).depth ≤ 4 ∧ rowD (rowP r) = true := by
  have hs : ∀ d ∈ r.s.map stpP, fine d = true ∧ d.depth ≤ 2 := fun d hd => by
    obtain ⟨s, m, rfl⟩ := List.mem_map.mp hd
    exact stp_fine (h3 s m)
  have f2 : fine (seqD r.k (r.s.map stpP)) = true := fine_seq (by rw [List.length_map]; omega) fun d hd => ⟨(hs d hd).1, Nat.le_trans (hs d hd).2 (by decide)⟩
  have d2 : (seqD r.k (r.s.map stpP)).depth ≤ 3 := depth_seq fun d hd => (hs d hd).2
  refine ⟨fine_seq (k := false) (ds := [.str r.n, seqD r.k (r.s.map stpP)]) (by simp) fun d hd => ?_, depth_seq (k := false) (ds := [.str r.n, seqD r.k (r.s.map stpP)]) (n := 3) fun d hd => ?_, ?_⟩
  · simp only [List.mem_cons, List.not_mem_nil, or_false] at hd
    rcases hd with rfl | rfl
    · exact ⟨name_fine h1 (by decide), by simp [PyData.depth]⟩
    · exact ⟨f2, by omega⟩
  · simp only [List.mem_cons, List.not_mem_nil, or_false] at hd
    rcases hd with rfl | rfl
    · simp [PyData.depth]
    · exact d2
  · show (nameD 6 (.str r.n) && (isD "list" (seqD r.k (r.s.map stpP)) || isD "tuple" (seqD r.k (r.s.map stpP)))) = true
    rw [h1, isD_seq]
    rfl
theorem Valid.row {rs : List Row} (h : Valid rs) {r : Row} (m : r ∈ rs) : fine (rowP r) = true ∧ (rowP r).depth ≤ 4 ∧ rowD (rowP r) = true := row_fine (h.name r m) (Nat.le_trans (h.len r m) (by decide)) (h.step r m)
/-- the dict of what is made -/
def keyD (d : Bool × Str) : List Key := [.inr (kindS d.1), .inr d.2]
theorem key_inj {a b : Bool × Str} (h : keyD a = keyD b) : a = b := by
  have h' : [(Sum.inr (kindS a.1) : Key), .inr a.2] = [.inr (kindS b.1), .inr b.2] := h
  simp only [List.cons.injEq, Sum.inr.injEq, and_true] at h'
  exact Prod.ext (kind_inj h'.1) h'.2
def MdOk (H : Hp) (m : Addr) (md : List (Bool × Str)) : Prop := ∃ kvs : List (List Key × V), H m = some (.dT kvs) ∧ kvs.length ≤ md.length ∧ ∀ d, (valV kvs (keyD d)).isSome = decide (d ∈ md)
theorem MdOk.same {H H' : Hp} {m : Addr} {md : List (Bool × Str)} (h : MdOk H m md) (s : Same H H') : MdOk H' m md := by
  obtain ⟨kvs, a, b⟩ := h
  exact ⟨kvs, s _ _ a, b⟩
theorem mdok_nil {H : Hp} {m : Addr} (h : H m = some (.dT [])) : MdOk H m [] := ⟨[], h, Nat.le_refl _, fun d => by simp [valV]⟩
theorem mdok_put {H : Hp} {m : Addr} {kvs : List (List Key × V)} {md : List (Bool × Str)} {d : Bool × Str} (hl : kvs.length ≤ md.length) (h : ∀ d, (valV kvs (keyD d)).isSome = decide (d ∈ md)) : MdOk (upd H m (.dT (putK kvs (keyD d) (.bl true)))) m (md ++ [d]) := by
  refine ⟨_, upd_same, ?_, fun e => ?_⟩
  · unfold putK
    split
    · rw [List.length_map, List.length_append]; omega
    · rw [List.length_append, List.length_append]; show _ + 1 ≤ _ + 1; omega
  · rw [valV_put]
    by_cases z : e = d
    · subst z
      rw [if_pos rfl, decide_eq_true (List.mem_append_right _ (List.mem_singleton.mpr rfl))]
      rfl
    · rw [if_neg fun q => z (key_inj q), h e]
      rw [Bool.eq_iff_iff, decide_eq_true_iff, decide_eq_true_iff, List.mem_append, List.mem_singleton]
      exact ⟨.inl, fun q => q.resolve_right z⟩
section
variable {P : Program} {w : World} {K : PySem.W.Frag} {mg : Str → Option Value} {base : Heap} {A : Top}
theorem deed_at {S : Sh} {H : Hp} {v : V} {d : Bool × Str} (h : Ds K S H v (deedQ d)) : ∃ b, v = .ref b ∧ H b = some (.tup ((keyD d).map kV)) := by
  obtain ⟨a, xs, rfl, l, hs⟩ := Ds.t h
  obtain ⟨x, y, rfl, hx, hy⟩ := hs.two
  rw [hx.s, hy.s] at l
  exact ⟨a, rfl, l.2⟩
def spOk (K : PySem.W.Frag) : Sp := spT K encR (fun x => Valid x.2) fun _ => .none
theorem ok_check_rows (T : TopOk K mg A) : FnOk P w K mg base CX0 4 A.f_check_rows A.d_check_rows P_check_rows (spOk K) := by
  have G_is_row : FnOk P w K mg base CX0 3 A.f_is_row A.d_is_row P_is_row (spD K rowD) := ok_is_row T
  have G_names : FnOk P w K mg base CX0 1 A.f_names A.d_names P_names (spNames K) := ok_names T
  refine T.F_check_rows.ok sc_check_rows (fun vs H Q E h => ?_) (fun cdv Ar outer s H vs Q E hr h => ?_)
  · obtain ⟨S, x, _, h, _⟩ := h
    obtain ⟨v, rfl, _⟩ := h.one
    rfl
  · obtain ⟨S, ⟨ko, rs⟩, hL, hds, hp, k⟩ := h
    obtain ⟨v, rfl, hv⟩ := hds.one
    refine ⟨_, (pss_cons (ps_if (pt_cmpR op_gt (pe_callB call_len (by rfl) T.b_len (by decide +kernel) (pa_cons (pv 0) pa_nil)) (ClX.pe_cval (pe_glob (v := .ref A.c_Log) (by rfl) T.m_Log rfl)) (nomark _))
      (pss_one ps_never)
      pss_nil)
      (pss_cons (ps_for PassesOwn.never rfl (pi_enumA (by rfl) T.b_enumerate (pa_cons (pv 0) pa_nil)) (pg_tup rfl (pgs_cons (pg_name (i := 2) sc_check_rows.nd rfl (by first | exact Or.inl rfl | exact Or.inr rfl)) (pgs_cons (pg_name (i := 3) sc_check_rows.nd rfl (by first | exact Or.inl rfl | exact Or.inr rfl)) pgs_nil)))
      (pss_one (ps_if (pt_not (pt_val (pe_call G_is_row (hr.mono (by decide)) (by rfl) T.g_is_row T.F_is_row.kp T.a_is_row .nil pass0 (pa_cons (pv 3) pa_nil))))
      (pss_one ps_never)
      pss_nil)))
      (pss_cons (ps_set (i := 1) sc_check_rows.nd rfl (by first | exact Or.inl rfl | exact Or.inr rfl) (pe_call G_names (hr.mono (by decide)) (by rfl) T.g_names T.F_names.kp T.a_names .nil pass0 (pa_cons (pv 0) pa_nil)))
      (pss_one (ps_for PassesOwn.never rfl (pi_enumA (by rfl) T.b_enumerate (pa_cons (pv 1) pa_nil)) (pg_tup rfl (pgs_cons (pg_name (i := 2) sc_check_rows.nd rfl (by first | exact Or.inl rfl | exact Or.inr rfl)) (pgs_cons (pg_name (i := 4) sc_check_rows.nd rfl (by first | exact Or.inl rfl | exact Or.inr rfl)) pgs_nil)))
      (pss_one (ps_if (pt_cmpR (L2.op_inD (hu65 hr)) (pv 4) (pe_slice sl_list (pv 1) po_none (po_some (pv 2))) (by rfl))
      (pss_one ps_never)
      pss_nil))))))), ?_⟩
    have hp : Valid rs := hp
    have hv : Ds K S H v (seqD ko (rs.map rowP)) := hv
    show tSeq _ _ _ [some v, none, none, none, none] H
    refine seq_if hL (sb_test (sv_gt (sv_len (k := ko) (sv_var rfl hv)) (sv_cval T.rd_Log T.cv_Log_PROCESSES fun _ _ => .int _))) (fun e => ?_) fun _ H1 s1 l1 => ?_
    · have := of_decide_eq_true e
      rw [List.length_map] at this
      have := hp.few
      omega
    have hv1 := hv.same s1
    refine seq_for (K := K) (S := S) l1 (si_enum (k := ko) (ds := rs.map rowP) (sa_cons (sv_var rfl hv1) sa_nil)) fun H2 s2 l2 => ⟨fun i σ H3 => (∃ x2 x3, σ = [some v, none, x2, x3, none]) ∧ Same H2 H3, ⟨⟨_, _, rfl⟩, Same.refl _⟩, fun i σ H3 _ ⟨_, s3⟩ => ⟨S, (Now.of l2 s3).step⟩, fun i d v' σ H3 H4 ed ⟨⟨x2, x3, e⟩, s3⟩ s4 hd => ?_, fun σ H3 ⟨⟨x2, x3, e⟩, s3⟩ => ?_⟩
    · subst e
      have n3 : Now S H2 S H3 := Now.of l2 s3
      obtain ⟨e, ee, rfl⟩ := enumD_inv ed
      obtain ⟨r, er, rfl⟩ := map_inv ee
      obtain ⟨f1, _, f3⟩ := hp.row (List.mem_of_getElem? er)
      refine g_tup2 (hd S n3.step) fun x y hx hy => ?_
      refine if_sb (n3.live.same s4) (sb_is (b' := false) (sb_not (sb_val (sv_spD (sv_var rfl hy) f1))) (by rw [f3]; rfl)) (fun z => Bool.noConfusion z) fun _ H5 s5 l5 => ?_
      exact ⟨⟨_, _, rfl⟩, (s3.trans s4).trans s5⟩
    · subst e
      have hv3 := (hv1.same s2).same s3
      have l3 := l2.same s3
      refine set_sv (K := K) (S := S) l3 (sv_T (enc := encR) (ko, rs) (sa_cons (sv_var rfl hv3) sa_nil) rfl (Nat.le_trans hp.few (by decide))) fun vn H4 s4 l4 hvn => ?_
      dsimp only [List.set]
      have hvn : Ds K S H4 vn (seqD true (rs.map fun r => PyData.str r.n)) := hvn
      refine for_si (K := K) (S := S) l4 (si_enum (k := true) (ds := rs.map fun r => .str r.n) (sa_cons (sv_var rfl hvn) sa_nil)) fun H5 s5 l5 => ⟨fun i σ H6 => (∃ x2 x4, σ = [some v, some vn, x2, x3, x4]) ∧ Same H5 H6, ⟨⟨_, _, rfl⟩, Same.refl _⟩, fun i σ H6 _ ⟨_, s6⟩ => ⟨S, (Now.of l5 s6).step⟩, fun i d v' σ H6 H7 ed ⟨⟨x2, x4, e⟩, s6⟩ s7 hd => ?_, fun σ H6 ⟨⟨x2, x4, e⟩, s6⟩ => ?_⟩
      · subst e
        have n6 : Now S H5 S H6 := Now.of l5 s6
        obtain ⟨e, ee, rfl⟩ := enumD_inv ed
        obtain ⟨r, er, rfl⟩ := map_inv ee
        refine g_tup2 (hd S n6.step) fun x y hx hy => ?_
        have hvn7 := ((hvn.same s5).same s6).same s7
        have fn : ∀ d ∈ (rs.map fun r => PyData.str r.n), fine d = true ∧ d.depth ≤ 20 := fun d hd => by
          obtain ⟨q, hq, rfl⟩ := List.mem_map.mp hd
          exact ⟨name_fine (hp.name q hq) (by decide), by simp [PyData.depth]⟩
        refine if_sb (n6.live.same s7) (sb_is (b' := false) (sb_test (sv_inD (sv_var rfl hy) (sv_slL (sv_var rfl hvn7) sp_no (sp_some (sv_var rfl hx))) (fn _ (List.mem_map.mpr ⟨r, List.mem_of_getElem? er, rfl⟩)).1 ?_)) ?_) (fun z => Bool.noConfusion z) fun _ H8 s8 l8 => ?_
        · rw [cutD_to]
          refine fine_seq (k := true) ?_ fun d hd => fn d (List.mem_of_mem_take hd)
          rw [List.length_take, List.length_map]
          have := hp.few
          show min i rs.length ≤ 5000
          omega
        · rw [cutD_to, List.any_eq_false]
          intro d hd he
          obtain ⟨j, hj⟩ := List.getElem?_of_mem hd
          have hji : j < i := by
            have := (List.getElem?_eq_some_iff.mp hj).1
            rw [List.length_take] at this
            omega
          rw [List.getElem?_take_of_lt hji] at hj
          obtain ⟨q, hq, rfl⟩ := map_inv hj
          have hqr : q.n = r.n := eq_of_beq (show (q.n == r.n) = true from he)
          have h1 : (rs.map (·.n))[j]? = some r.n := by rw [List.getElem?_map, hq]; exact congrArg some hqr
          have h2 : (rs.map (·.n))[i]? = some r.n := by rw [List.getElem?_map, er]; rfl
          have hi := (List.getElem?_eq_some_iff.mp h2).1
          have := (List.getElem?_inj (Nat.lt_trans hji hi) hp.nd).mp (h1.trans h2.symm)
          omega
        · exact ⟨⟨_, _, rfl⟩, (s6.trans s7).trans s8⟩
      · exact k .non _ ((((((s1.trans s2).trans s3).trans s4).trans s5).trans s6)) .non
theorem ok_check_steps (T : TopOk K mg A) : FnOk P w K mg base CX0 5 A.f_check_steps A.d_check_steps P_check_steps (spOk K) := by
  have G_is_step : FnOk P w K mg base CX0 4 A.f_is_step A.d_is_step P_is_step (spD K stepD) := ok_is_step T
  refine T.F_check_steps.ok sc_check_steps (fun vs H Q E h => ?_) (fun cdv Ar outer s H vs Q E hr h => ?_)
  · obtain ⟨S, x, _, h, _⟩ := h
    obtain ⟨v, rfl, _⟩ := h.one
    rfl
  · obtain ⟨S, ⟨ko, rs⟩, hL, hds, hp, k⟩ := h
    obtain ⟨v, rfl, hv⟩ := hds.one
    refine ⟨_, (pss_cons (ps_for PassesOwn.never rfl (pi_any (pv 0)) (pg_tup rfl (pgs_cons (pg_name (i := 1) sc_check_steps.nd rfl (by first | exact Or.inl rfl | exact Or.inr rfl)) (pgs_cons (pg_name (i := 2) sc_check_steps.nd rfl (by first | exact Or.inl rfl | exact Or.inr rfl)) pgs_nil)))
      (pss_one (ps_if (pt_cmpR op_gt (pe_callB call_len (by rfl) T.b_len (by decide +kernel) (pa_cons (pv 2) pa_nil)) (ClX.pe_cval (pe_glob (v := .ref A.c_Log) (by rfl) T.m_Log rfl)) (nomark _))
      (pss_one ps_never)
      pss_nil)))
      (pss_one (ps_for PassesOwn.never rfl (pi_any (pv 0)) (pg_tup rfl (pgs_cons (pg_name (i := 1) sc_check_steps.nd rfl (by first | exact Or.inl rfl | exact Or.inr rfl)) (pgs_cons (pg_name (i := 2) sc_check_steps.nd rfl (by first | exact Or.inl rfl | exact Or.inr rfl)) pgs_nil)))
      (pss_one (ps_for PassesOwn.never rfl (pi_enumA (by rfl) T.b_enumerate (pa_cons (pv 2) pa_nil)) (pg_tup rfl (pgs_cons (pg_name (i := 3) sc_check_steps.nd rfl (by first | exact Or.inl rfl | exact Or.inr rfl)) (pgs_cons (pg_name (i := 4) sc_check_steps.nd rfl (by first | exact Or.inl rfl | exact Or.inr rfl)) pgs_nil)))
      (pss_one (ps_if (pt_not (pt_val (pe_call G_is_step (hr.mono (by decide)) (by rfl) T.g_is_step T.F_is_step.kp T.a_is_step .nil pass0 (pa_cons (pv 4) pa_nil))))
      (pss_one ps_never)
      pss_nil))))))), ?_⟩
    have hp : Valid rs := hp
    have hv : Ds K S H v (seqD ko (rs.map rowP)) := hv
    show tSeq _ _ _ [some v, none, none, none, none] H
    refine seq_for (K := K) (S := S) hL (si_any (k := ko) (ds := rs.map rowP) (sv_var rfl hv)) fun H2 s2 l2 => ⟨fun i σ H3 => (∃ x1 x2, σ = [some v, x1, x2, none, none]) ∧ Same H2 H3, ⟨⟨_, _, rfl⟩, Same.refl _⟩, fun i σ H3 _ ⟨_, s3⟩ => ⟨S, (Now.of l2 s3).step⟩, fun i d v' σ H3 H4 ed ⟨⟨x1, x2, e⟩, s3⟩ s4 hd => ?_, fun σ H3 ⟨⟨x1, x2, e⟩, s3⟩ => ?_⟩
    · subst e
      have n3 : Now S H2 S H3 := Now.of l2 s3
      obtain ⟨r, er, rfl⟩ := map_inv ed
      refine g_tup2 (hd S n3.step) fun x y hx hy => ?_
      refine if_sb (n3.live.same s4) (sb_test (sv_gt (sv_len (k := r.k) (sv_var rfl hy)) (sv_cval T.rd_Log T.cv_Log_STEPS fun _ _ => .int _))) (fun z => ?_) fun _ H5 s5 l5 => ?_
      · have := of_decide_eq_true z
        rw [List.length_map] at this
        have := hp.len r (List.mem_of_getElem? er)
        omega
      · exact ⟨⟨_, _, rfl⟩, (s3.trans s4).trans s5⟩
    · subst e
      have hv3 := (hv.same s2).same s3
      have l3 := l2.same s3
      refine for_si (K := K) (S := S) l3 (si_any (k := ko) (ds := rs.map rowP) (sv_var rfl hv3)) fun H4 s4 l4 => ⟨fun i σ H5 => (∃ x1 x2 x3 x4, σ = [some v, x1, x2, x3, x4]) ∧ Same H4 H5, ⟨⟨_, _, _, _, rfl⟩, Same.refl _⟩, fun i σ H5 _ ⟨_, s5⟩ => ⟨S, (Now.of l4 s5).step⟩, fun i d v' σ H5 H6 ed ⟨⟨y1, y2, y3, y4, e⟩, s5⟩ s6 hd => ?_, fun σ H5 ⟨⟨y1, y2, y3, y4, e⟩, s5⟩ => ?_⟩
      · subst e
        have n5 : Now S H4 S H5 := Now.of l4 s5
        obtain ⟨r, er, rfl⟩ := map_inv ed
        refine g_tup2 (hd S n5.step) fun x y hx hy => ?_
        refine for_si (K := K) (S := S) (n5.live.same s6) (si_enum (k := r.k) (ds := r.s.map stpP) (sa_cons (sv_var rfl hy) sa_nil)) fun H7 s7 l7 => ⟨fun j σ H8 => (∃ x3 x4, σ = [some v, some x, some y, x3, x4]) ∧ Same H7 H8, ⟨⟨_, _, rfl⟩, Same.refl _⟩, fun j σ H8 _ ⟨_, s8⟩ => ⟨S, (Now.of l7 s8).step⟩, fun j d v' σ H8 H9 ed2 ⟨⟨x3, x4, e⟩, s8⟩ s9 hd2 => ?_, fun σ H8 ⟨⟨x3, x4, e⟩, s8⟩ => ?_⟩
        · subst e
          have n8 : Now S H7 S H8 := Now.of l7 s8
          obtain ⟨e, ee, rfl⟩ := enumD_inv ed2
          obtain ⟨st, est, rfl⟩ := map_inv ee
          have hst := hp.step r (List.mem_of_getElem? er) st (List.mem_of_getElem? est)
          refine g_tup2 (hd2 S n8.step) fun a b ha hb => ?_
          refine if_sb (n8.live.same s9) (sb_is (b' := false) (sb_not (sb_val (sv_spD (sv_var rfl hb) (stp_fine hst).1))) (by rw [hst]; rfl)) (fun z => Bool.noConfusion z) fun _ H10 s10 l10 => ?_
          exact ⟨⟨_, _, rfl⟩, (s8.trans s9).trans s10⟩
        · subst e
          exact ⟨⟨_, _, _, _, rfl⟩, ((s5.trans s6).trans s7).trans s8⟩
      · exact k .non _ (((s2.trans s3).trans s4).trans s5) .non
theorem lack_none {rs : List Row} (h : Valid rs) : lackP (deeds rs) = .none := by
  have e : (deeds rs).find? (lackD (deeds rs)) = none := by
    rw [List.find?_eq_none]
    intro d hd he
    obtain ⟨h1, h2⟩ := Bool.and_eq_true_iff.mp he
    obtain ⟨b, w'⟩ := d
    cases b with
    | true => cases h1
    | false => rw [decide_eq_true (h.sent w' hd)] at h2; cases h2
  unfold lackP
  rw [e]
theorem ok_check_messages (T : TopOk K mg A) : FnOk P w K mg base CX0 3 A.f_check_messages A.d_check_messages P_check_messages (spOk K) := by
  have G_deeds : FnOk P w K mg base CX0 1 A.f_deeds A.d_deeds P_deeds (spDeeds K) := ok_deeds T
  have G_first_unsent : FnOk P w K mg base CX0 2 A.f_first_unsent A.d_first_unsent P_first_unsent (spLack K) := ok_first_unsent T
  refine T.F_check_messages.ok sc_check_messages (fun vs H Q E h => ?_) (fun cdv Ar outer s H vs Q E hr h => ?_)
  · obtain ⟨S, x, _, h, _⟩ := h
    obtain ⟨v, rfl, _⟩ := h.one
    rfl
  · obtain ⟨S, ⟨ko, rs⟩, hL, hds, hp, k⟩ := h
    obtain ⟨v, rfl, hv⟩ := hds.one
    refine ⟨_, (pss_cons (ps_set (i := 1) sc_check_messages.nd rfl (by first | exact Or.inl rfl | exact Or.inr rfl) pe_dnewT)
      (pss_cons (ps_for PassesOwn.never rfl (pi_any (pe_call G_deeds (hr.mono (by decide)) (by rfl) T.g_deeds T.F_deeds.kp T.a_deeds .nil pass0 (pa_cons (pv 0) pa_nil))) (pg_name (i := 2) sc_check_messages.nd rfl (by first | exact Or.inl rfl | exact Or.inr rfl))
      (pss_cons (ps_if (pt_cmp (pc_din (hu_of hr) (pv 2) (pv 1)))
      (pss_one ps_never)
      pss_nil)
      (pss_one (ps_dput (hu_of hr) (pv 1) (pv 2) pe_bl rfl))))
      (pss_cons (ps_set (i := 3) sc_check_messages.nd rfl (by first | exact Or.inl rfl | exact Or.inr rfl) (pe_call G_first_unsent (hr.mono (by decide)) (by rfl) T.g_first_unsent T.F_first_unsent.kp T.a_first_unsent .nil pass0 (pa_cons (pv 0) pa_nil)))
      (pss_one (ps_if (pt_cmpR op_notN (pv 3) pe_non (nomark _))
      (pss_one ps_never)
      pss_nil))))), ?_⟩
    have hp : Valid rs := hp
    have hv : Ds K S H v (seqD ko (rs.map rowP)) := hv
    intro p np
    show tSeq _ _ _ [some v, some (.ref p), none, none] _
    have n1 : Now S H (fun a => S a ∨ a = p) (upd H p (.dT [])) := Now.add hL np
    have hv1 := hv.now n1
    have m1 : MdOk (upd H p (.dT [])) p [] := mdok_nil upd_same
    generalize upd H p (.dT []) = H1 at n1 hv1 m1
    have hI : SI K (fun a => S a ∨ a = p) (iAny K (tCall (spDeeds K) [] E0 (tCons (tVar 0) tNil))) [some v, some (.ref p), none, none] H1 ((deeds rs).map deedQ) := si_l (sv_T (enc := encR) (ko, rs) (sa_cons (sv_var rfl hv1) sa_nil) rfl hp.small.len)
    refine seq_for (K := K) (S := fun a => S a ∨ a = p) n1.live hI fun H2 s2 l2 => ⟨fun i σ H3 => (∃ x2, σ = [some v, some (.ref p), x2, none]) ∧ Step (fun a => S a ∨ a = p) H2 (fun a => S a ∨ a = p) H3 ∧ Same H H3 ∧ MdOk H3 p ((deeds rs).take i),
      ⟨⟨_, rfl⟩, Step.refl l2, n1.same.trans s2, m1.same s2⟩, fun i σ H3 _ ⟨_, t3, _⟩ => ⟨_, t3⟩, fun i d v' σ H3 H4 ed ⟨⟨x2, e⟩, t3, s3, kvs, m1, m2, m3⟩ s4 hd => ?_, fun σ H3 ⟨⟨x2, e⟩, t3, s3, _⟩ => ?_⟩
    · subst e
      obtain ⟨dd, edd, rfl⟩ := map_inv ed
      obtain ⟨b, rfl, hb⟩ := deed_at (hd _ t3)
      have notin : dd ∉ (deeds rs).take i := fun m => by
        obtain ⟨j, hj⟩ := List.getElem?_of_mem m
        have hji : j < i := by
          have := (List.getElem?_eq_some_iff.mp hj).1
          rw [List.length_take] at this
          omega
        rw [List.getElem?_take_of_lt hji] at hj
        have := (List.getElem?_inj (Nat.lt_trans hji (List.getElem?_eq_some_iff.mp edd).1) hp.once).mp (hj.trans edd.symm)
        omega
      have m4 : H4 p = some (.dT kvs) := s4 _ _ m1
      refine ⟨_, rfl, _, rfl, p, _, rfl, DGet.t m4 hb, _, rfl, ?_⟩
      rw [m3 dd, decide_eq_false notin]
      refine iteF ?_
      have hlen : kvs.length < sizeLine := by
        have h1 := len_deeds rs
        have h2 := hp.small.len
        rw [List.length_take] at m2
        exact szl (by omega)
      refine ⟨_, rfl, _, rfl, p, _, rfl, DPut.t m4 hb hlen, ⟨_, rfl⟩, (t3.then s4).put (.inr rfl), fun c u hc => ?_, ?_⟩
      · rw [upd_ne (ne_of_none hc np)]
        exact s4 _ _ (s3 _ _ hc)
      · have e1 : (deeds rs).take (i + 1) = (deeds rs).take i ++ [dd] := by
          rw [List.take_add_one, edd]
          rfl
        rw [e1]
        exact mdok_put m2 m3
    · subst e
      have hv3 := hv.same s3
      have l3 : Live S H3 := hL.same s3
      refine set_sv (K := K) (S := S) l3 (sv_T (enc := encR) (ko, rs) (sa_cons (sv_var rfl hv3) sa_nil) rfl hp.small) fun vm H4 s4 l4 hvm => ?_
      dsimp only [List.set]
      rw [lack_none hp] at hvm
      refine if_sb (S := S) l4 (sb_test (sv_notN (K := K) (d := .none) (sv_var rfl hvm))) (fun z => Bool.noConfusion z) fun _ H5 s5 l5 => ?_
      exact k .non _ ((s3.trans s4).trans s5) .non
end
end My

set_option Elab.async false
set_option linter.all false
set_option maxRecDepth 100000
namespace My
open PySem PySem.Spec PyProof.Rows L2 TL
def readyV : Option Nat → V
  | none => .non
  | some i => .int (i : Nat)
def readyP : Option Nat → PyData
  | none => .none
  | some i => .int (i : Nat)
def natsV (l : List Nat) : List V := l.map fun n => .int (n : Nat)
def spCan (K : PySem.W.Frag) : Sp := fun vs H Q _ => ∃ (S : Sh) (v : V) (m : Addr) (s : Stp) (md : List (Bool × Str)), vs = [v, .ref m] ∧ Live S H ∧ Ds K S H v (stpP s) ∧ MdOk H m md ∧ ∀ H', Same H H' → Q (.bl (canD md s.d)) H'
def spReady (K : PySem.W.Frag) : Sp := fun vs H Q _ => ∃ (S : Sh) (v : V) (p m : Addr) (ko : Bool) (rs : List Row) (pl : List Nat) (md : List (Bool × Str)), vs = [v, .ref p, .ref m] ∧ Live S H ∧ Ds K S H v (rowsP ko rs) ∧ H p = some (.lst (natsV pl)) ∧ pl.length = rs.length ∧ MdOk H m md ∧
  ∀ H', Same H H' → Q (readyV (ready rs pl md)) H'
section
variable {P : Program} {w : World} {K : PySem.W.Frag} {mg : Str → Option Value} {base : Heap} {A : Top}
theorem ok_can_be_made (T : TopOk K mg A) : FnOk P w K mg base CX0 1 A.f_can_be_made A.d_can_be_made P_can_be_made (spCan K) := by
  refine T.F_can_be_made.ok sc_can_be_made (fun vs H Q E h => ?_) (fun cdv Ar outer s H vs Q E hr h => ?_)
  · obtain ⟨S, v, m, s, md, rfl, _⟩ := h
    rfl
  · obtain ⟨S, v, m, st, md, rfl, hL, hv, hm, k⟩ := h
    refine ⟨_, (pss_cons (ps_set (i := 2) sc_can_be_made.nd rfl (by first | exact Or.inl rfl | exact Or.inr rfl) (pe_ix ix_tup (pv 0) pe_int (fun _ _ => rfl)))
      (pss_one (ps_ret (pe_or (pe_cmpR op_isN (pv 2) pe_non (nomark _)) (pe_or (pe_cmpR op_eq (pe_ix ix_tup (pv 2) pe_int (fun _ _ => rfl)) pe_str (nomark _)) (pe_one (pe_cmp (pc_din (hu_of hr) (pe_tup (pa_cons pe_str (pa_cons (pe_ix ix_tup (pv 2) pe_int (fun _ _ => rfl)) pa_nil))) (pv 1)) rfl))))))), ?_⟩
    show tSeq _ _ _ [some v, some (.ref m), none] H
    refine set_sv (K := K) (S := S) hL (sv_ixT (ds := [.str st.m, .int st.n, deedP st.d]) (i := ((2 : Nat) : Int)) (sv_var rfl hv) sv_int (atI_of rfl)) fun vd H1 s1 l1 hvd => ?_
    dsimp only [List.set]
    have hm1 := hm.same s1
    cases e : st.d with
    | none =>
      rw [e] at hvd k
      cases hvd
      exact ⟨_, rfl, rfl, true, rfl, iteT (k H1 s1)⟩
    | some d =>
      rw [e] at hvd k
      obtain ⟨b, rfl, hb⟩ := deed_at hvd
      refine ⟨_, rfl, rfl, false, rfl, iteF ?_⟩
      refine ⟨_, rfl, b, _, _, _, rfl, rfl, tsq hb, rfl, rfl, _, rfl, ?_⟩
      obtain ⟨kd, w'⟩ := d
      cases kd with
      | true => exact iteT (k H1 s1)
      | false =>
        have ne : decide (V.str (kindS false) = V.str "send") = false := decide_eq_false fun z => absurd (V.str.inj z) (by decide +kernel)
        show if decide (V.str (kindS false) = V.str "send") = true then _ else _
        rw [ne]
        refine iteF ?_
        refine ⟨_, rfl, b, _, _, _, rfl, rfl, tsq hb, rfl, by show 2 ≤ sizeLine; decide, fun t nt => ?_⟩
        have s2 : Same H1 (upd H1 t (.tup [.str "send", .str w'])) := same_upd nt
        obtain ⟨kvs, m1, m2, m3⟩ := hm1.same s2
        refine ⟨_, rfl, m, _, rfl, DGet.t (k := keyD (true, w')) m1 upd_same, ?_⟩
        rw [m3]
        exact k _ (s1.trans s2)
theorem ok_first_ready (T : TopOk K mg A) : FnOk P w K mg base CX0 2 A.f_first_ready A.d_first_ready P_first_ready (spReady K) := by
  have G_can_be_made : FnOk P w K mg base CX0 1 A.f_can_be_made A.d_can_be_made P_can_be_made (spCan K) := ok_can_be_made T
  refine T.F_first_ready.ok sc_first_ready (fun vs H Q E h => ?_) (fun cdv Ar outer s H vs Q E hr h => ?_)
  · obtain ⟨S, v, p, m, ko, rs, pl, md, rfl, _⟩ := h
    rfl
  · obtain ⟨S, v, p, m, ko, rs, pl, md, rfl, hL, hv, hp, hl, hm, k⟩ := h
    refine ⟨_, (pss_cons (ps_for PassesOwn.never rfl (pi_enumA (by rfl) T.b_enumerate (pa_cons (pv 0) pa_nil)) (pg_tup rfl (pgs_cons (pg_name (i := 3) sc_first_ready.nd rfl (by first | exact Or.inl rfl | exact Or.inr rfl)) (pgs_cons (pg_tup rfl (pgs_cons (pg_name (i := 4) sc_first_ready.nd rfl (by first | exact Or.inl rfl | exact Or.inr rfl)) (pgs_cons (pg_name (i := 5) sc_first_ready.nd rfl (by first | exact Or.inl rfl | exact Or.inr rfl)) pgs_nil))) pgs_nil)))
      (pss_one (ps_if (PW.pt (pw_and (pt_cmpR op_lt (pe_ix ix_seq (pv 1) (pv 3) (fun _ _ => rfl)) (pe_callB call_len (by rfl) T.b_len (by decide +kernel) (pa_cons (pv 5) pa_nil)) (nomark _)) (pw_and1 (pt_val (pe_call G_can_be_made (hr.mono (by decide)) (by rfl) T.g_can_be_made T.F_can_be_made.kp T.a_can_be_made .nil pass0 (pa_cons (pe_ix ix_seq (pv 5) (pe_ix ix_seq (pv 1) (pv 3) (fun _ _ => rfl)) (fun _ _ => rfl)) (pa_cons (pv 2) pa_nil)))))))
      (pss_one (ps_ret (pv 3)))
      pss_nil)))
      (pss_one (ps_ret pe_non))), ?_⟩
    have hv : Ds K S H v (seqD ko (rs.map rowP)) := hv
    show tSeq _ _ _ [some v, some (.ref p), some (.ref m), none, none, none] H
    refine seq_for (K := K) (S := S) hL (si_enum (k := ko) (ds := rs.map rowP) (sa_cons (sv_var rfl hv) sa_nil)) fun H2 s2 l2 => ⟨fun i σ H3 => (∃ x3 x4 x5, σ = [some v, some (.ref p), some (.ref m), x3, x4, x5]) ∧ Same H2 H3 ∧ ∀ j, j < i → readyAt rs pl md j = false,
      ⟨⟨_, _, _, rfl⟩, Same.refl _, fun j hj => absurd hj (Nat.not_lt_zero j)⟩, fun i σ H3 _ ⟨_, s3, _⟩ => ⟨S, (Now.of l2 s3).step⟩, fun i d v' σ H3 H4 ed ⟨⟨x3, x4, x5, e⟩, s3, hj⟩ s4 hd => ?_, fun σ H3 ⟨⟨x3, x4, x5, e⟩, s3, hj⟩ => ?_⟩
    · subst e
      have n3 : Now S H2 S H3 := Now.of l2 s3
      obtain ⟨e, ee, rfl⟩ := enumD_inv ed
      obtain ⟨r, er, rfl⟩ := map_inv ee
      have s04 := (s2.trans s3).trans s4
      have l4 := n3.live.same s4
      have hi : i < pl.length := by rw [hl]; exact (List.getElem?_eq_some_iff.mp er).1
      have epl : pl[i]? = some (pl.getD i 0) := by rw [List.getD_eq_getElem?_getD, List.getElem?_eq_getElem hi]; rfl
      have eV : L2.atI (natsV pl) (i : Int) = some (.int ((pl.getD i 0 : Nat) : Int)) := atI_of (by unfold natsV; rw [List.getElem?_map, epl]; rfl)
      refine g_enum2 (hd S n3.step) fun x y z hx hy hz => ?_
      have hx' := hx.i
      subst hx'
      have pl4 := s04 _ _ hp
      have hsv : SV K S (tOp (rIx K) (tVar 1) (tVar 3)) [some v, some (.ref p), some (.ref m), some (.int (i : Nat)), some y, some z] H4 (.int ((pl.getD i 0 : Nat) : Int)) := sv_ixM rfl pl4 (sv_vi rfl) eV (.int _)
      have fin : ∀ H', Same H4 H' → readyAt rs pl md i = false → (∃ x3 x4 x5, [some v, some (V.ref p), some (V.ref m), some (V.int (i : Nat)), some y, some z] = [some v, some (.ref p), some (.ref m), x3, x4, x5]) ∧ Same H2 H' ∧ ∀ j, j < i + 1 → readyAt rs pl md j = false := fun H' s' e => ⟨⟨_, _, _, rfl⟩, (s3.trans s4).trans s', fun j hjl => by
        rcases Nat.lt_succ_iff_lt_or_eq.mp hjl with h | h
        · exact hj j h
        · rw [h]; exact e⟩
      refine if_sb (b := readyAt rs pl md i) l4 (sb_is (b := decide (((pl.getD i 0 : Nat) : Int) < ((r.s.map stpP).length : Nat)) && (match r.s[pl.getD i 0]? with | some st => canD md st.d | none => false)) (sb_and (sb_test (sv_lt hsv (sv_len (k := r.k) (sv_var rfl hz)))) fun elt => ?_) ?_) (fun e1 H5 s5 l5 => ?_) fun e1 H5 s5 l5 => fin H5 s5 e1
      · have hlt : pl.getD i 0 < r.s.length := by
          have := of_decide_eq_true elt
          rw [List.length_map] at this
          omega
        rw [List.getElem?_eq_getElem hlt]
        have eS : (r.s.map stpP)[pl.getD i 0]? = some (stpP r.s[pl.getD i 0]) := by rw [List.getElem?_map, List.getElem?_eq_getElem hlt]; rfl
        have hst0 : SV K S (tOp (rIx K) (tVar 5) (tOp (rIx K) (tVar 1) (tVar 3))) [some v, some (.ref p), some (.ref m), some (.int (i : Nat)), some y, some z] H4 (stpP r.s[pl.getD i 0]) := sv_ix (k := r.k) (sv_var rfl hz) hsv (atI_of eS)
        have hm4 := hm.same s04
        refine sb_val (K := K) fun S1 H5 n5 Q5 q5 => ?_
        refine (hst0.now n5).run n5.live fun vst H6 s6 hst => ?_
        exact ⟨_, rfl, S1, vst, m, _, md, rfl, n5.live.same s6, hst, (hm4.same n5.same).same s6, fun H7 s7 => q5 _ _ (s6.trans s7) (.bl _)⟩
      · unfold readyAt stepAt
        rw [er]
        show _ = match r.s[pl.getD i 0]? with | some s => canD md s.d | none => false
        rw [List.length_map]
        cases e : r.s[pl.getD i 0]? with
        | none => exact Bool.and_false _
        | some st =>
          have := (List.getElem?_eq_some_iff.mp e).1
          rw [decide_eq_true (show ((pl.getD i 0 : Nat) : Int) < (r.s.length : Nat) by omega)]
          rfl
      · refine ret_sv (K := K) l5 (sv_vi rfl) fun v5 H6 s6 hv6 => ?_
        have ef : ready rs pl md = some i := by
          unfold ready
          rw [List.find?_eq_some_iff_getElem]
          have hi2 : i < rs.length := (List.getElem?_eq_some_iff.mp er).1
          refine ⟨e1, i, by rw [List.length_range]; exact hi2, List.getElem_range _, fun j hjl => ?_⟩
          rw [List.getElem_range, hj j hjl]
          rfl
        rw [hv6.i]
        have := k H6 ((s04.trans s5).trans s6)
        rw [ef] at this
        exact this
    · subst e
      have ef : ready rs pl md = none := by
        unfold ready
        rw [List.find?_eq_none]
        intro j hjm
        have hj2 := List.mem_range.mp hjm
        rw [hj j (by rw [enumD_len, List.length_map]; exact hj2)]
        decide
      have := k H3 (s2.trans s3)
      rw [ef] at this
      exact this
theorem natsV_set (l : List Nat) (i v : Nat) : (natsV l).set i (.int (v : Nat)) = natsV (l.set i v) := by
  unfold natsV
  rw [List.map_set]
/-- where the loop stands -/
structure Loop (K : PySem.W.Frag) (S : Sh) (H H3 : Hp) (rs : List Row) (a1 a2 a3 : Addr) (t : Sta) : Prop where
  now : Now S H (fun a => ((S a ∨ a = a1) ∨ a = a2) ∨ a = a3) H3
  way : Way rs t
  h1 : H3 a1 = some (.lst (natsV t.pl))
  h2 : MdOk H3 a2 t.md
  na : H a3 = none
  na1 : H a1 = none
  na2 : H a2 = none
  ne : a1 ≠ a2 ∧ a1 ≠ a3 ∧ a2 ≠ a3
  h3 : ∃ vs, H3 a3 = some (.lst vs) ∧ DsAll K (fun a => ((S a ∨ a = a1) ∨ a = a2) ∨ a = a3) H3 vs (t.od.map (tripP rs))
def spOrder (K : PySem.W.Frag) : Sp := spT K encR (fun x => Small x.2) fun x => orderP x.2
set_option maxHeartbeats 1000000 in
theorem ok_order_of (T : TopOk K mg A) : FnOk P w K mg base CX0 3 A.f_order_of A.d_order_of P_order_of (spOrder K) := by
  have G_first_ready : FnOk P w K mg base CX0 2 A.f_first_ready A.d_first_ready P_first_ready (spReady K) := ok_first_ready T
  refine T.F_order_of.ok sc_order_of (fun vs H Q E h => ?_) (fun cdv Ar outer s H vs Q E hr h => ?_)
  · obtain ⟨S, x, _, h, _⟩ := h
    obtain ⟨v, rfl, _⟩ := h.one
    rfl
  · obtain ⟨S, ⟨ko, rs⟩, hL, hds, hp, k⟩ := h
    obtain ⟨v, rfl, hv⟩ := hds.one
    refine ⟨_, (pss_cons (ps_setLc (i := 1) (own := [("row", 6)]) (g := gName 6) (by rfl) sc_order_of.nd rfl rfl (sw_true rfl rfl rfl (by decide +kernel)) (pi_any (pv 0)) (blkOk_by (own := [("row", 6)]) (N := N_order_of) (sc := defScope s_order_of) (by decide +kernel)) (fun _ _ _ _ _ => (pg_name (i := 6) sc_order_of.nd rfl (by first | exact Or.inl rfl | exact Or.inr rfl))) (fun _ _ _ _ _ => pts_nil) (fun _ _ _ _ _ => pe_int))
      (pss_cons (ps_set (i := 2) sc_order_of.nd rfl (by first | exact Or.inl rfl | exact Or.inr rfl) pe_dnewT)
      (pss_cons (ps_set (i := 3) sc_order_of.nd rfl (by first | exact Or.inl rfl | exact Or.inr rfl) (pe_lst pa_nil))
      (pss_cons (ps_set (i := 4) sc_order_of.nd rfl (by first | exact Or.inl rfl | exact Or.inr rfl) (pe_call G_first_ready (hr.mono (by decide)) (by rfl) T.g_first_ready T.F_first_ready.kp T.a_first_ready .nil pass0 (pa_cons (pv 0) (pa_cons (pv 1) (pa_cons (pv 2) pa_nil)))))
      (pss_cons (ps_while PassesOwn.never (pt_cmpR op_notN (pv 4) pe_non (nomark _))
      (pss_cons (ps_asg (pe_ix ix_seq (pv 0) (pv 4) (fun _ _ => rfl)) (pg_tup rfl (pgs_cons (pg_name (i := 7) sc_order_of.nd rfl (by first | exact Or.inl rfl | exact Or.inr rfl)) (pgs_cons (pg_name (i := 8) sc_order_of.nd rfl (by first | exact Or.inl rfl | exact Or.inr rfl)) pgs_nil))))
      (pss_cons (ps_set (i := 5) sc_order_of.nd rfl (by first | exact Or.inl rfl | exact Or.inr rfl) (pe_ix ix_seq (pv 8) (pe_ix ix_seq (pv 1) (pv 4) (fun _ _ => rfl)) (fun _ _ => rfl)))
      (pss_cons (ps_expr (pe_bm PySem.F.plainAttrs_list PySem.F.slot_list_append PySem.F.type_list_append mt_append (pv 3) (pa_cons (pe_tup (pa_cons (pv 7) (pa_cons (pe_ix ix_seq (pv 1) (pv 4) (fun _ _ => rfl)) (pa_cons (pv 5) pa_nil)))) pa_nil)))
      (pss_cons (ps_asg (pe_op op_add (pe_ix ix_seq (pv 1) (pv 4) (fun _ _ => rfl)) pe_int) (pg_sub (pv 1) (pv 4) set_list))
      (pss_cons (ps_if (pt_cmpR op_notN (pe_ix ix_seq (pv 5) pe_int (fun _ _ => rfl)) pe_non (nomark _))
      (pss_one (ps_dput (hu_of hr) (pv 2) (pe_ix ix_seq (pv 5) pe_int (fun _ _ => rfl)) pe_bl rfl))
      pss_nil)
      (pss_one (ps_set (i := 4) sc_order_of.nd rfl (by first | exact Or.inl rfl | exact Or.inr rfl) (pe_call G_first_ready (hr.mono (by decide)) (by rfl) T.g_first_ready T.F_first_ready.kp T.a_first_ready .nil pass0 (pa_cons (pv 0) (pa_cons (pv 1) (pa_cons (pv 2) pa_nil))))))))))))
      (pss_one (ps_ret (pv 3)))))))), ?_⟩
    have hp : Small rs := hp
    have hv : Ds K S H v (seqD ko (rs.map rowP)) := hv
    show tSeq _ _ _ [some v, none, none, none, none, none, none, none, none] H
    have hsn : SN K S (tLc (iAny K (tVar 0)) (gName 6) tYes (tC (.int 0)) [6]) [some v, none, none, none, none, none, none, none, none] H (((rs.map fun _ => 0 : List Nat)).map fun n => PyData.int (n : Nat)) := SN.is (sn_lcM (si_any (k := ko) (ds := rs.map rowP) (sv_var rfl hv)) (by rw [List.length_map]; have := hp.few; omega) (fun _ => .int 0) fun d S' H' v' Q m n hd kk => kk [some v, none, none, none, none, none, some v', none, none] rfl sv_int) (by rw [List.map_map, List.map_map]; rfl)
    refine set_sn (K := K) (S := S) hL hsn fun a1 xs H1 s1 na1 ha1 hxs => ?_
    have exs : xs = natsV (rs.map fun _ => 0) := by
      unfold natsV
      have := DsAll.ints (ys := (rs.map fun _ => 0 : List Nat).map fun n => ((n : Nat) : Int)) (by rw [List.map_map]; exact hxs)
      rw [this, List.map_map]
      rfl
    subst exs
    have n1 : Now S H (fun a => S a ∨ a = a1) H1 := Now.more hL s1 na1 ha1
    intro a2 na2
    have n2 := n1.trans (Now.add (o := .dT []) n1.live na2)
    have hm2 : MdOk (upd H1 a2 (.dT [])) a2 [] := mdok_nil upd_same
    have ha12 : (upd H1 a2 (.dT [])) a1 = some (.lst (natsV (rs.map fun _ => 0))) := same_upd na2 _ _ ha1
    have ne12 : a1 ≠ a2 := ne_of_none ha1 na2
    have na02 : H a2 = none := s1.free na2
    have ex2 : ∃ o, (upd H1 a2 (.dT [])) a2 = some o := ⟨_, upd_same⟩
    generalize upd H1 a2 (.dT []) = H2 at n2 hm2 ha12 ex2
    refine ⟨Nat.zero_le _, fun a3 na3 => ?_⟩
    have n3 := n2.trans (Now.add (o := .lst []) n2.live na3)
    have s3 : Same H2 (upd H2 a3 (.lst [])) := same_upd na3
    have L0 : Loop K S H (upd H2 a3 (.lst [])) rs a1 a2 a3 (sta0 rs) := ⟨n3, way0 rs, s3 _ _ ha12, hm2.same s3, n2.same.free na3, na1, na02, ⟨ne12, ne_of_none ha12 na3, by obtain ⟨o, e⟩ := ex2; exact ne_of_none e na3⟩, [], upd_same, .nil⟩
    generalize upd H2 a3 (.lst []) = H3 at L0
    clear n3 s3 n2 n1 hm2 ha12
    have tail : ∀ (σ : L2.St) (t : Sta) (H4 : Hp) (Q2 : VK), (∃ x4 x5 x6 x7 x8, σ = [some v, some (.ref a1), some (.ref a2), some (.ref a3), x4, x5, x6, x7, x8]) → Loop K S H H4 rs a1 a2 a3 t → (∀ H5, Loop K S H H5 rs a1 a2 a3 t → Q2 (readyV (ready rs t.pl t.md)) H5) →
        (tCall (spReady K) [] E0 (tCons (tVar 0) (tCons (tVar 1) (tCons (tVar 2) tNil)))) σ H4 Q2 := by
      rintro σ t H4 Q2 ⟨x4, x5, x6, x7, x8, rfl⟩ L q
      obtain ⟨vs3, e3, d3⟩ := L.h3
      refine ⟨_, rfl, _, rfl, _, rfl, _, v, a1, a2, ko, rs, t.pl, t.md, rfl, L.now.live, hv.now L.now, L.h1, L.way.g.pl, L.h2, fun H5 s5 => q H5 ⟨L.now.then s5, L.way, s5 _ _ L.h1, L.h2.same s5, L.na, L.na1, L.na2, L.ne, vs3, s5 _ _ e3, d3.same s5⟩⟩
    refine tail _ (sta0 rs) H3 _ ⟨_, _, _, _, _, rfl⟩ L0 fun H4 L4 => ?_
    show tSeq _ _ _ [some v, some (.ref a1), some (.ref a2), some (.ref a3), some (readyV (ready rs (sta0 rs).pl (sta0 rs).md)), none, none, none, none] H4
    refine ⟨fun m σ H5 => ∃ t x5 x6 x7 x8, σ = [some v, some (.ref a1), some (.ref a2), some (.ref a3), some (readyV (ready rs t.pl t.md)), x5, x6, x7, x8] ∧ m = total rs - t.pl.sum ∧ Loop K S H H5 rs a1 a2 a3 t, ⟨_, sta0 rs, _, _, _, _, rfl, rfl, L4⟩, ?_⟩
    rintro m σ H5 ⟨t, x5, x6, x7, x8, rfl, rfl, L⟩
    cases er : ready rs t.pl t.md with
    | none =>
      refine ⟨_, rfl, rfl, _, rfl, iteF ?_⟩
      have et := L.way.fin er
      obtain ⟨vs3, e3, d3⟩ := L.h3
      exact ⟨_, rfl, k _ _ L.now.same (.lst ⟨hL.ne L.na, e3⟩ (DsAll.less (fun b hb => Or.inl (Or.inl (Or.inl hb))) (by rw [← et]; exact d3)))⟩
    | some i =>
      obtain ⟨r, st, er1, er2, ec⟩ := ready_some er
      have hs := stepAt_of er1 er2
      have hi : i < t.pl.length := by rw [L.way.g.pl]; exact (List.getElem?_eq_some_iff.mp er1).1
      have epl : t.pl[i]? = some (t.pl.getD i 0) := by rw [List.getD_eq_getElem?_getD, List.getElem?_eq_getElem hi]; rfl
      have eV : L2.atI (natsV t.pl) (i : Int) = some (.int ((t.pl.getD i 0 : Nat) : Int)) := atI_of (by unfold natsV; rw [List.getElem?_map, epl]; rfl)
      have eS : (r.s.map stpP)[t.pl.getD i 0]? = some (stpP st) := by rw [List.getElem?_map, er2]; rfl
      have eR : (rs.map rowP)[i]? = some (rowP r) := by rw [List.getElem?_map, er1]; rfl
      have hlt := good_lt L.way.g hs
      refine ⟨_, rfl, rfl, _, rfl, iteT ⟨fun σ' H' => ∃ x5 x6 x7 x8, σ' = [some v, some (.ref a1), some (.ref a2), some (.ref a3), some (readyV (ready rs (adv t i st).pl (adv t i st).md)), x5, x6, x7, x8] ∧ Loop K S H H' rs a1 a2 a3 (adv t i st),
        fun σ' H' ⟨y5, y6, y7, y8, e, L'⟩ => ⟨_, by rw [adv_sum L.way.g hs]; omega, adv t i st, y5, y6, y7, y8, e, rfl, L'⟩, ?_⟩⟩
      have l5 := L.now.live
      obtain ⟨vs3, e3, d3⟩ := L.h3
      refine asg_sv (K := K) (S := fun a => ((S a ∨ a = a1) ∨ a = a2) ∨ a = a3) l5 (sv_ix (k := ko) (i := ((i : Nat) : Int)) (sv_var rfl (hv.now L.now)) (sv_vi rfl) (atI_of eR)) fun vr H6 s6 l6 hvr => ?_
      refine g_tup2 hvr fun x y hx hy => ?_
      have hix : SV K (fun a => ((S a ∨ a = a1) ∨ a = a2) ∨ a = a3) (tOp (rIx K) (tVar 1) (tVar 4)) [some v, some (.ref a1), some (.ref a2), some (.ref a3), some (.int (i : Nat)), x5, x6, some x, some y] H6 (.int ((t.pl.getD i 0 : Nat) : Int)) := sv_ixM rfl (s6 _ _ L.h1) (sv_vi rfl) eV (.int _)
      show tSeq _ _ _ [some v, some (.ref a1), some (.ref a2), some (.ref a3), some (.int (i : Nat)), x5, x6, some x, some y] H6
      refine set_sv (K := K) l6 (sv_ix (k := r.k) (sv_var rfl hy) hix (atI_of eS)) fun vst H7 s7 l7 hvst => ?_
      have hx7 := hx.same s7
      have e37 := s7 _ _ (s6 _ _ e3)
      have d37 := (d3.same s6).same s7
      have h17 := s7 _ _ (s6 _ _ L.h1)
      have h27 := (L.h2.same s6).same s7
      have n7 := (L.now.then s6).then s7
      clear hix
      have hix : SV K (fun a => ((S a ∨ a = a1) ∨ a = a2) ∨ a = a3) (tOp (rIx K) (tVar 1) (tVar 4)) [some v, some (.ref a1), some (.ref a2), some (.ref a3), some (.int (i : Nat)), some vst, x6, some x, some y] H7 (.int ((t.pl.getD i 0 : Nat) : Int)) := sv_ixM rfl h17 (sv_vi rfl) eV (.int _)
      show tSeq _ _ _ [some v, some (.ref a1), some (.ref a2), some (.ref a3), some (.int (i : Nat)), some vst, x6, some x, some y] H7
      refine ⟨_, rfl, .inl ⟨rfl, _, lsq e37⟩, ?_⟩
      have hsa : SA K (fun a => ((S a ∨ a = a1) ∨ a = a2) ∨ a = a3) (tCons (tTup (tCons (tVar 7) (tCons (tOp (rIx K) (tVar 1) (tVar 4)) (tCons (tVar 5) tNil)))) tNil) [some v, some (.ref a1), some (.ref a2), some (.ref a3), some (.int (i : Nat)), some vst, x6, some x, some y] H7 [.tuple [.str r.n, .int ((t.pl.getD i 0 : Nat) : Int), stpP st]] := sa_cons (sv_tup (sa_cons (sv_var rfl hx7) (sa_cons hix (sa_cons (sv_var rfl hvst) sa_nil))) rfl) sa_nil
      refine hsa.run l7 fun vs8 H8 s8 h8 => ?_
      obtain ⟨v8, rfl, hv8⟩ := h8.one
      have l3 := d37.length
      have hod : t.od.length < 5000 := by rw [L.way.g.odl]; have : total rs ≤ 5000 := hp.len; omega
      refine ⟨a3, vs3, v8, rfl, rfl, s8 _ _ e37, szl (by rw [l3, List.length_map]; omega), ?_⟩
      have n8 := n7.then s8
      obtain ⟨ne12, ne13, ne23⟩ := L.ne
      have n9 := n8.put (p := a3) (o := .lst (vs3 ++ [v8])) (.inr rfl) (hL.ne L.na)
      have h19 : (upd H8 a3 (.lst (vs3 ++ [v8]))) a1 = some (.lst (natsV t.pl)) := by rw [upd_ne ne13]; exact s8 _ _ h17
      have h29 : MdOk (upd H8 a3 (.lst (vs3 ++ [v8]))) a2 t.md := by
        obtain ⟨kvs, b1, b2⟩ := h27.same s8
        exact ⟨kvs, by rw [upd_ne ne23]; exact b1, b2⟩
      have e39 : (upd H8 a3 (.lst (vs3 ++ [v8]))) a3 = some (.lst (vs3 ++ [v8])) := upd_same
      have d39 : DsAll K (fun a => ((S a ∨ a = a1) ∨ a = a2) ∨ a = a3) (upd H8 a3 (.lst (vs3 ++ [v8]))) (vs3 ++ [v8]) ((adv t i st).od.map (tripP rs)) := by
        have e : (adv t i st).od.map (tripP rs) = t.od.map (tripP rs) ++ [.tuple [.str r.n, .int ((t.pl.getD i 0 : Nat) : Int), stpP st]] := by
          show (t.od ++ [(i, t.pl.getD i 0)]).map (tripP rs) = _
          rw [List.map_append]
          congr 1
          show [tripP rs (i, t.pl.getD i 0)] = _
          unfold tripP
          rw [er1]
          dsimp only
          rw [er2]
        rw [e]
        exact ((d37.same s8).app (.cons hv8 .nil)).byX (XS.upd (.inr rfl))
      have hvst9 := (hvst.same s8).byX (XS.upd (S := fun a => ((S a ∨ a = a1) ∨ a = a2) ∨ a = a3) (p := a3) (o := .lst (vs3 ++ [v8])) (.inr rfl))
      generalize upd H8 a3 (.lst (vs3 ++ [v8])) = H9 at n9 h19 h29 e39 d39 hvst9
      show tSeq _ _ _ [some v, some (.ref a1), some (.ref a2), some (.ref a3), some (.int (i : Nat)), some vst, x6, some x, some y] H9
      refine asg_sv (K := K) (S := fun a => ((S a ∨ a = a1) ∨ a = a2) ∨ a = a3) n9.live (sv_add (sv_ixM (i := 1) rfl h19 (sv_vi rfl) eV (.int _)) sv_int) fun vv H10 s10 l10 hvv => ?_
      rw [hvv.i]
      refine ⟨_, rfl, _, rfl, a1, natsV t.pl, ((i : Nat) : Int), i, rfl, rfl, s10 _ _ h19, ?_, ?_⟩
      · have hl : (natsV t.pl).length = t.pl.length := by unfold natsV; rw [List.length_map]
        unfold ixN
        rw [if_pos (by omega), hl]
        simp [hi]
      rw [show ((t.pl.getD i 0 : Nat) : Int) + 1 = ((t.pl.getD i 0 + 1 : Nat) : Int) by omega, natsV_set]
      have n11 := (n9.then s10).put (p := a1) (o := .lst (natsV (t.pl.set i (t.pl.getD i 0 + 1)))) (.inl (.inl (.inr rfl))) (hL.ne L.na1)
      have h111 : (upd H10 a1 (.lst (natsV (t.pl.set i (t.pl.getD i 0 + 1))))) a1 = some (.lst (natsV (adv t i st).pl)) := upd_same
      have h211 : MdOk (upd H10 a1 (.lst (natsV (t.pl.set i (t.pl.getD i 0 + 1))))) a2 t.md := by
        obtain ⟨kvs, b1, b2⟩ := h29.same s10
        exact ⟨kvs, by rw [upd_ne ne12.symm]; exact b1, b2⟩
      have e311 : (upd H10 a1 (.lst (natsV (t.pl.set i (t.pl.getD i 0 + 1))))) a3 = some (.lst (vs3 ++ [v8])) := by rw [upd_ne ne13.symm]; exact s10 _ _ e39
      have d311 := (d39.same s10).byX (XS.upd (S := fun a => ((S a ∨ a = a1) ∨ a = a2) ∨ a = a3) (p := a1) (o := .lst (natsV (t.pl.set i (t.pl.getD i 0 + 1)))) (.inl (.inl (.inr rfl))))
      have hvst11 := (hvst9.same s10).byX (XS.upd (S := fun a => ((S a ∨ a = a1) ∨ a = a2) ∨ a = a3) (p := a1) (o := .lst (natsV (t.pl.set i (t.pl.getD i 0 + 1)))) (.inl (.inl (.inr rfl))))
      generalize upd H10 a1 (.lst (natsV (t.pl.set i (t.pl.getD i 0 + 1)))) = H11 at n11 h111 h211 e311 d311 hvst11
      have hdd : ∀ H12, Same H11 H12 → SV K (fun a => ((S a ∨ a = a1) ∨ a = a2) ∨ a = a3) (tOp (rIx K) (tVar 5) (tC (.int 2))) [some v, some (.ref a1), some (.ref a2), some (.ref a3), some (.int (i : Nat)), some vst, x6, some x, some y] H12 (deedP st.d) := fun H12 s12 => sv_ixA (ds := [.str st.m, .int st.n, deedP st.d]) (i := ((2 : Nat) : Int)) (sv_var rfl (hvst11.same s12)) sv_int (atI_of rfl)
      refine seq_if (S := fun a => ((S a ∨ a = a1) ∨ a = a2) ∨ a = a3) n11.live (sb_test (sv_notN (hdd H11 (Same.refl _)))) (fun eb H12 s12 l12 => ?_) fun eb H12 s12 l12 => ?_
      · cases ed : st.d with
        | none => rw [ed] at eb; cases eb
        | some d =>
          refine ⟨_, rfl, (hdd H12 s12).run l12 fun vd H13 s13 hvd => ?_⟩
          rw [ed] at hvd
          obtain ⟨b, rfl, hb⟩ := deed_at hvd
          obtain ⟨kvs, b1, b2, b3⟩ := (h211.same s12).same s13
          have hmd : t.md.length ≤ 5000 := by
            have h1 := L.way.g.mdl
            have h2 : total rs ≤ 5000 := hp.len
            omega
          refine ⟨a2, _, rfl, DPut.t b1 hb (szl (by omega)), ?_⟩
          refine tail _ (adv t i st) _ _ ⟨_, _, _, _, _, rfl⟩ ⟨((n11.then s12).then s13).put (.inl (.inr rfl)) (hL.ne L.na2), L.way.adv er hs, ?_, ?_, L.na, L.na1, L.na2, L.ne, vs3 ++ [v8], ?_, ?_⟩ fun H14 L14 => ⟨_, _, _, _, rfl, L14⟩
          · rw [upd_ne ne12]; exact s13 _ _ (s12 _ _ h111)
          · show MdOk _ a2 (addD t.md st.d)
            rw [ed]
            exact mdok_put b2 b3
          · rw [upd_ne ne23.symm]; exact s13 _ _ (s12 _ _ e311)
          · exact ((d311.same s12).same s13).byX (XS.upd (.inl (.inr rfl)))
      · cases ed : st.d with
        | some d => rw [ed] at eb; cases eb
        | none =>
          refine tail _ (adv t i st) _ _ ⟨_, _, _, _, _, rfl⟩ ⟨n11.then s12, L.way.adv er hs, s12 _ _ h111, ?_, L.na, L.na1, L.na2, L.ne, vs3 ++ [v8], s12 _ _ e311, d311.same s12⟩ fun H14 L14 => ⟨_, _, _, _, rfl, L14⟩
          show MdOk _ a2 (addD t.md st.d)
          rw [ed]
          exact h211.same s12
end
end My

set_option Elab.async false
set_option linter.all false
set_option maxRecDepth 100000
namespace My
open PySem PySem.Spec PyProof.Rows L2 TL
/-! ### what a log is -/
def rowT (r : Row) : PyData := .tuple [.str r.n, .tuple (r.s.map stpP)]
def fldsL (r o : Addr) : List (Str × V) := [("_rows", .ref r), ("_order", .ref o)]
/-- a log of the rows rs stands at a -/
structure LogAt (K : PySem.W.Frag) (C : Addr) (S : Sh) (H : Hp) (a : Addr) (rs : List Row) : Prop where
  val : Valid rs
  at_ : ∃ dx r o, ¬ S a ∧ H a = some (.ins C dx (fldsL r o)) ∧ Ds K S H (.ref r) (.list (rs.map rowT)) ∧ Ds K S H (.ref o) (orderP rs)
theorem LogAt.step {K : PySem.W.Frag} {C : Addr} {S S' : Sh} {H H' : Hp} {a : Addr} {rs : List Row} (h : LogAt K C S H a rs) (s : Step S H S' H') : LogAt K C S' H' a rs := by
  obtain ⟨v, dx, r, o, h1, h2, h3, h4⟩ := h
  exact ⟨v, dx, r, o, (at_step s h1 h2).1, (at_step s h1 h2).2, h3.step s, h4.step s⟩
theorem LogAt.now {K : PySem.W.Frag} {C : Addr} {S S' : Sh} {H H' : Hp} {a : Addr} {rs : List Row} (h : LogAt K C S H a rs) (s : Now S H S' H') : LogAt K C S' H' a rs := h.step s.step
theorem LogAt.byX {K : PySem.W.Frag} {C : Addr} {S : Sh} {H H' : Hp} {a : Addr} {rs : List Row} (h : LogAt K C S H a rs) (s : XS S H H') : LogAt K C S H' a rs := by
  obtain ⟨v, dx, r, o, h1, h2, h3, h4⟩ := h
  exact ⟨v, dx, r, o, h1, s _ _ h2 h1, h3.byX s, h4.byX s⟩
theorem LogAt.same {K : PySem.W.Frag} {C : Addr} {S : Sh} {H H' : Hp} {a : Addr} {rs : List Row} (h : LogAt K C S H a rs) (s : Same H H') : LogAt K C S H' a rs := h.byX (XS.of s)
theorem trip_fst {rs : List Row} {p : Nat × Nat} (h1 : p.1 < rs.length) (h2 : ∃ s, stepAt rs p.1 p.2 = some s) : fstD (tripP rs p) = .str ((rs[p.1]?.map (·.n)).getD "") ∧ ∃ x y z, tripP rs p = .tuple [x, y, z] := by
  obtain ⟨s, hs⟩ := h2
  obtain ⟨r, hr, hj⟩ := stepAt_row hs
  unfold tripP
  rw [hr]
  dsimp only
  rw [hj]
  exact ⟨rfl, _, _, _, rfl⟩
theorem last_step {rs : List Row} {p : Nat × Nat} (h : p ∈ (lastO rs).od) : p.1 < rs.length ∧ ∃ s, stepAt rs p.1 p.2 = some s := by
  obtain ⟨g, _⟩ := last_good rs
  obtain ⟨h1, h2⟩ := g.od p h
  refine ⟨h1, ?_⟩
  have h3 := g.le p.1 rs[p.1] (List.getElem?_eq_getElem h1)
  exact ⟨_, stepAt_of (List.getElem?_eq_getElem h1) (List.getElem?_eq_getElem (Nat.lt_of_lt_of_le h2 h3))⟩
def nameOf (rs : List Row) (i : Nat) : Str := (rs[i]?.map (·.n)).getD ""
theorem names_count {rs : List Row} (nd : (rs.map (·.n)).Nodup) : ∀ (l : List (Nat × Nat)), (∀ p ∈ l, p.1 < rs.length) → ∀ i r, rs[i]? = some r → (l.map fun p => nameOf rs p.1).count r.n = (l.map (·.1)).count i
  | [], _, _, _, _ => rfl
  | p :: l, h, i, r, hr => by
    rw [List.map_cons, List.map_cons, List.count_cons, List.count_cons, names_count nd l (fun q hq => h q (List.mem_cons_of_mem _ hq)) i r hr]
    have hp := h p (List.mem_cons_self ..)
    have e : (nameOf rs p.1 == r.n) = (p.1 == i) := by
      rw [Bool.eq_iff_iff, beq_iff_eq, beq_iff_eq]
      have h1 : (rs.map (·.n))[p.1]? = some (nameOf rs p.1) := by
        unfold nameOf
        rw [List.getElem?_map, List.getElem?_eq_getElem hp]
        rfl
      have h2 : (rs.map (·.n))[i]? = some r.n := by rw [List.getElem?_map, hr]; rfl
      constructor
      · intro z
        rw [z] at h1
        exact (List.getElem?_inj (by rw [List.length_map]; exact hp) nd).mp (h1.trans h2.symm)
      · intro z
        rw [z, h2] at h1
        rw [z]
        exact (Option.some.inj h1).symm
    rw [e]
section
variable {P : Program} {w : World} {K : PySem.W.Frag} {mg : Str → Option Value} {base : Heap} {A : Top}
def spEnds (K : PySem.W.Frag) : Sp := spT K (fun x : RowsX => [rowsP x.1 x.2, orderP x.2]) (fun x => Valid x.2) fun _ => .none
theorem ok_check_ends (T : TopOk K mg A) : FnOk P w K mg base CX0 1 A.f_check_ends A.d_check_ends P_check_ends (spEnds K) := by
  refine T.F_check_ends.ok sc_check_ends (fun vs H Q E h => ?_) (fun cdv Ar outer s H vs Q E hr h => ?_)
  · obtain ⟨S, x, _, h, _⟩ := h
    obtain ⟨v, u, rfl, _⟩ := h.two
    rfl
  · obtain ⟨S, ⟨ko, rs⟩, hL, hds, hp, k⟩ := h
    obtain ⟨v, vo, rfl, hv, ho⟩ := hds.two
    refine ⟨_, (pss_cons (ps_setLc (i := 2) (own := [("process", 5), ("index", 6), ("step", 7)]) (g := gTup K 3 (gCons (gName 5) (gCons (gName 6) (gCons (gName 7) gNil)))) (by rfl) sc_check_ends.nd rfl rfl (sw_true rfl rfl rfl (by decide +kernel)) (pi_any (pv 1)) (blkOk_by (own := [("process", 5), ("index", 6), ("step", 7)]) (N := N_check_ends) (sc := defScope s_check_ends) (by decide +kernel)) (fun _ _ _ _ _ => (pg_tup rfl (pgs_cons (pg_name (i := 5) sc_check_ends.nd rfl (by first | exact Or.inl rfl | exact Or.inr rfl)) (pgs_cons (pg_name (i := 6) sc_check_ends.nd rfl (by first | exact Or.inl rfl | exact Or.inr rfl)) (pgs_cons (pg_name (i := 7) sc_check_ends.nd rfl (by first | exact Or.inl rfl | exact Or.inr rfl)) pgs_nil))))) (fun _ _ _ _ _ => pts_nil) (fun _ _ _ _ _ => (pv 5)))
      (pss_one (ps_for PassesOwn.never rfl (pi_any (pv 0)) (pg_tup rfl (pgs_cons (pg_name (i := 3) sc_check_ends.nd rfl (by first | exact Or.inl rfl | exact Or.inr rfl)) (pgs_cons (pg_name (i := 4) sc_check_ends.nd rfl (by first | exact Or.inl rfl | exact Or.inr rfl)) pgs_nil)))
      (pss_one (ps_if (pt_cmpR op_lt (pe_bm PySem.F.plainAttrs_list PySem.F.slot_list_count PySem.F.type_list_count mt_countS (pv 2) (pa_cons (pv 3) pa_nil)) (pe_callB call_len (by rfl) T.b_len (by decide +kernel) (pa_cons (pv 4) pa_nil)) (nomark _))
      (pss_one ps_never)
      pss_nil))))), ?_⟩
    have hp : Valid rs := hp
    have hv : Ds K S H v (seqD ko (rs.map rowP)) := hv
    have hlen : (lastO rs).od.length ≤ 5000 := by
      rw [(last_good rs).1.odl]
      have h1 : (lastO rs).pl.sum ≤ total rs := by
        refine sum_le _ (rs.map fun r => r.s.length) (by rw [(last_good rs).1.pl, List.length_map]) fun i => ?_
        rw [total_eq]
        cases e : rs[i]? with
        | some r => exact (last_good rs).1.le i r e
        | none =>
          rw [List.getD_eq_getElem?_getD, List.getElem?_eq_none]
          · exact Nat.zero_le _
          · rw [(last_good rs).1.pl]; exact List.getElem?_eq_none_iff.mp e
      have h2 : total rs ≤ 5000 := hp.small.len
      omega
    show tSeq _ _ _ [some v, some vo, none, none, none, none, none, none] H
    refine set_sv (K := K) (S := S) hL (sv_is (d' := .list (((lastO rs).od.map fun p => nameOf rs p.1).map PyData.str)) (sv_lcM (K := K) (S := S) (si_l (ds := (lastO rs).od.map (tripP rs)) (sv_var rfl ho)) (by rw [List.length_map]; exact hlen) fstD fun d S' H' v' Q m n hd kk => ?_) ?_) fun vm H1 s1 l1 hvm => ?_
    · obtain ⟨p, hpm, rfl⟩ := List.mem_map.mp m
      obtain ⟨h1, h2⟩ := last_step hpm
      obtain ⟨_, x, y, z, e⟩ := trip_fst h1 h2
      have ef : fstD (tripP rs p) = x := by rw [e]; rfl
      rw [e] at hd
      exact g_tup3 hd fun a b c ha hb hc => kk [some v, some vo, none, none, none, some a, some b, some c] rfl (by rw [ef]; exact sv_var rfl ha)
    · rw [List.map_map, List.map_map]
      congr 1
      refine List.map_congr_left fun p hpm => ?_
      obtain ⟨h1, h2⟩ := last_step hpm
      exact (trip_fst h1 h2).1
    · dsimp only [List.set]
      have hv1 := hv.same s1
      refine for_si (K := K) (S := S) l1 (si_any (k := ko) (ds := rs.map rowP) (sv_var rfl hv1)) fun H2 s2 l2 => ⟨fun i σ H3 => (∃ x3 x4, σ = [some v, some vo, some vm, x3, x4, none, none, none]) ∧ Same H2 H3, ⟨⟨_, _, rfl⟩, Same.refl _⟩, fun i σ H3 _ ⟨_, s3⟩ => ⟨S, (Now.of l2 s3).step⟩, fun i d v' σ H3 H4 ed ⟨⟨x3, x4, e⟩, s3⟩ s4 hd => ?_, fun σ H3 ⟨⟨x3, x4, e⟩, s3⟩ => ?_⟩
      · subst e
        have n3 : Now S H2 S H3 := Now.of l2 s3
        obtain ⟨r, er, rfl⟩ := map_inv ed
        have hvm4 := ((hvm.same s2).same s3).same s4
        refine g_tup2 (hd S n3.step) fun x y hx hy => ?_
        refine if_sb (n3.live.same s4) (sb_test (sv_lt (sv_countS (sv_var rfl hvm4) (sv_var rfl hx)) (sv_len (k := r.k) (sv_var rfl hy)))) (fun z => ?_) fun _ H5 s5 l5 => ?_
        · have hz := of_decide_eq_true z
          rw [List.length_map, names_count hp.nd _ (fun p hpm => (last_step hpm).1) i r er] at hz
          have hi := (List.getElem?_eq_some_iff.mp er).1
          rw [(last_good rs).1.cnt i hi, hp.done i r er] at hz
          omega
        · exact ⟨⟨_, _, rfl⟩, (s3.trans s4).trans s5⟩
      · exact k .non _ ((s1.trans s2).trans s3) .non
/-- Log(*rows) -/
def spInit (K : PySem.W.Frag) (C : Addr) : Sp := fun vs H Q _ => ∃ (S : Sh) (x dx : Addr) (rest : List V) (rs : List Row), vs = .ref x :: rest ∧ Live S H ∧ S x ∧ H x = some (.ins C dx []) ∧ DsAll K S H rest (rs.map rowP) ∧ Valid rs ∧
  ∀ r o H', (∀ b u, H b = some u → b ≠ x → H' b = some u) → H' x = some (.ins C dx (fldsL r o)) → Ds K S H' (.ref r) (.list (rs.map rowT)) → Ds K S H' (.ref o) (orderP rs) → Q .non H'
theorem ok_init (T : TopOk K mg A) : FnR P w K mg base CX0 8 A.f_i_Log (spInit K A.c_Log) := by
  have G_check_rows : FnOk P w K mg base CX0 4 A.f_check_rows A.d_check_rows P_check_rows (spOk K) := ok_check_rows T
  have G_check_steps : FnOk P w K mg base CX0 5 A.f_check_steps A.d_check_steps P_check_steps (spOk K) := ok_check_steps T
  have G_check_messages : FnOk P w K mg base CX0 3 A.f_check_messages A.d_check_messages P_check_messages (spOk K) := ok_check_messages T
  have G_order_of : FnOk P w K mg base CX0 3 A.f_order_of A.d_order_of P_order_of (spOrder K) := ok_order_of T
  have G_check_ends : FnOk P w K mg base CX0 1 A.f_check_ends A.d_check_ends P_check_ends (spEnds K) := ok_check_ends T
  obtain ⟨oc, od, kV, doc, pm, an, cdv, ct, osl, efd, lk, hcd⟩ := T.F_i_Log.ex
  have R := StX.fn_star (P := P) (w := w) (mg := mg) (base := base) (k := 7) (ps := ["self"]) (pv := "rows") (N := N_i_Log) (CX := CX0) (sp := fun vs H Q _ => ∃ (S : Sh) (x dx p : Addr) (rs : List Row), vs = [.ref x, .ref p] ∧ Live S H ∧ S x ∧ H x = some (.ins A.c_Log dx []) ∧ Ds K S H (.ref p) (.tuple (rs.map rowP)) ∧ Valid rs ∧
    ∀ r o H', (∀ b u, H b = some u → b ≠ x → H' b = some u) → H' x = some (.ins A.c_Log dx (fldsL r o)) → Ds K S H' (.ref r) (.list (rs.map rowT)) → Ds K S H' (.ref o) (orderP rs) → Q .non H') (efd ▸ lk) hcd sc_i_Log StX.cxUp_none (fun us rest hl => match us, rest, hl with | [_], [], _ => rfl | [_], _ :: _, _ => rfl) fun Ar outer s H vs Q E hr h => ?_
  · refine R.imp fun vs H Q E h => ?_
    obtain ⟨S, x, dx, rest, rs, rfl, hL, hS, hx, hds, hv, q⟩ := h
    refine ⟨[.ref x], rest, rfl, rfl, ?_, fun p np => ⟨S, x, dx, p, rs, rfl, hL.same (same_upd np), hS, same_upd np _ _ hx, new_tup hL np hds, hv, fun r o H' hk hx' hr ho => q r o H' (fun b u hb hne => hk b u (same_upd np _ _ hb) hne) hx' hr ho⟩⟩
    rw [hds.length, List.length_map]
    exact sz (Nat.le_trans hv.few (by decide))
  · obtain ⟨S, x, dx, p, rs, rfl, hL, hS, hx, hds, hp, q⟩ := h
    have key : ∃ t, PSs (cxOf CX0 P w K mg base N_i_Log "Log.__init__" (defScope s_i_Log) A.f_i_Log cdv Ar outer s H E).nox (defBody s_i_Log) t ∧ t { nx := fun _ H' => Q .non H', rt := Q } (start N_i_Log [.ref x, .ref p]) H := by
      refine ⟨_, (pss_cons (ps_expr (pe_call G_check_rows (hr.mono (by decide)) (by rfl) T.g_check_rows T.F_check_rows.kp T.a_check_rows .nil pass0 (pa_cons (pv 1) pa_nil)))
      (pss_cons (ps_expr (pe_call G_check_steps (hr.mono (by decide)) (by rfl) T.g_check_steps T.F_check_steps.kp T.a_check_steps .nil pass0 (pa_cons (pv 1) pa_nil)))
      (pss_cons (ps_expr (pe_call G_check_messages (hr.mono (by decide)) (by rfl) T.g_check_messages T.F_check_messages.kp T.a_check_messages .nil pass0 (pa_cons (pv 1) pa_nil)))
      (pss_cons (ps_set (i := 2) sc_i_Log.nd rfl (by first | exact Or.inl rfl | exact Or.inr rfl) (pe_call G_order_of (hr.mono (by decide)) (by rfl) T.g_order_of T.F_order_of.kp T.a_order_of .nil pass0 (pa_cons (pv 1) pa_nil)))
      (pss_cons (ps_expr (pe_call G_check_ends (hr.mono (by decide)) (by rfl) T.g_check_ends T.F_check_ends.kp T.a_check_ends .nil pass0 (pa_cons (pv 1) (pa_cons (pv 2) pa_nil))))
      (pss_cons (ps_fld (pv 0) (pe_lc (own := [("name", 3), ("steps", 4)]) (g := gTup K 2 (gCons (gName 3) (gCons (gName 4) gNil))) (te := tTup (tCons (tVar 3) (tCons (tCB (rTupOf K) (tCons (tVar 4) tNil)) tNil))) (by rfl) sc_i_Log.nd (pi_any (pv 1)) (blkOk_by (own := [("name", 3), ("steps", 4)]) (N := N_i_Log) (sc := defScope s_i_Log) (by decide +kernel)) (fun _ _ _ _ _ => (pg_tup rfl (pgs_cons (pg_name (i := 3) sc_i_Log.nd rfl (by first | exact Or.inl rfl | exact Or.inr rfl)) (pgs_cons (pg_name (i := 4) sc_i_Log.nd rfl (by first | exact Or.inl rfl | exact Or.inr rfl)) pgs_nil)))) (fun _ _ _ _ _ => pts_nil) (fun _ _ _ _ _ => (pe_tup (pa_cons (pv 3) (pa_cons (pe_callTy call_tupleK (by rfl) T.b_tuple (by decide +kernel) (pa_cons (pv 4) pa_nil)) pa_nil))))) rfl)
      (pss_one (ps_fld (pv 0) (pv 2) rfl)))))))), ?_⟩
      show tSeq _ _ _ [some (.ref x), some (.ref p), none, none, none] H
      have hd0 : Ds K S H (.ref p) (rowsP false rs) := hds
      refine ⟨_, rfl, S, (false, rs), hL, .cons hd0 .nil, hp, fun v1 H1 s1 _ => ?_⟩
      refine ⟨_, rfl, S, (false, rs), hL.same s1, .cons (hd0.same s1) .nil, hp, fun v2 H2 s2 _ => ?_⟩
      have s02 := s1.trans s2
      refine ⟨_, rfl, S, (false, rs), hL.same s02, .cons (hd0.same s02) .nil, hp, fun v3 H3 s3 _ => ?_⟩
      have s03 := s02.trans s3
      refine ⟨_, rfl, S, (false, rs), hL.same s03, .cons (hd0.same s03) .nil, hp.small, fun vo H4 s4 ho => ?_⟩
      have s04 := s03.trans s4
      refine ⟨_, rfl, _, rfl, S, (false, rs), hL.same s04, .cons (hd0.same s04) (.cons ho .nil), hp, fun v5 H5 s5 _ => ?_⟩
      have s05 := s04.trans s5
      have l5 := hL.same s05
      have hsv : SV K S (tLc (iAny K (tVar 1)) (gTup K 2 (gCons (gName 3) (gCons (gName 4) gNil))) tYes (tTup (tCons (tVar 3) (tCons (tCB (rTupOf K) (tCons (tVar 4) tNil)) tNil))) [3, 4]) [some (.ref x), some (.ref p), some vo, none, none] H5 (.list (rs.map rowT)) :=
        sv_is (d := .list ((rs.map rowP).map fun d => .tuple [fstD d, .tuple (innD d)])) (sv_lcM (si_t (ds := rs.map rowP) (sv_var rfl (hds.same s05))) (by rw [List.length_map]; have := hp.few; omega) _ fun d S' H' v' Q m n hd kk => by
          obtain ⟨r, hr', rfl⟩ := List.mem_map.mp m
          refine g_tup2 hd fun a b ha hb => kk [some (.ref x), some (.ref p), some vo, some a, some b] rfl ?_
          rw [inn_row]
          exact sv_tup (sa_cons (sv_var rfl ha) (sa_cons (sv_tuple (k := r.k) (sv_var rfl hb)) sa_nil)) rfl) (by
          rw [List.map_map]
          congr 1
          refine List.map_congr_left fun r _ => ?_
          show PyData.tuple [_, .tuple (innD (rowP r))] = _
          rw [inn_row]
          rfl)
      refine fld_sv (K := K) (S := S) l5 hsv fun vr H6 s6 _ hvr => ?_
      obtain ⟨ar, xr, rfl, lr, _⟩ := Ds.l hvr
      obtain ⟨ao, xo, rfl, lo, _⟩ := Ds.l (ds := (lastO rs).od.map (tripP rs)) ho
      have s06 := s05.trans s6
      have hx6 := s06 _ _ hx
      refine ⟨_, rfl, x, A.c_Log, dx, [], rfl, hx6, T.cl_Log, T.na_Log_rows, by show 0 < 1000; decide, ?_⟩
      refine ⟨_, rfl, _, rfl, x, A.c_Log, dx, _, rfl, upd_same, T.cl_Log, T.na_Log_order, by show 1 < 1000; decide, ?_⟩
      have hk : ∀ b u, H b = some u → b ≠ x → (upd (upd H6 x (.ins A.c_Log dx (putF "_rows" (.ref ar) []))) x (.ins A.c_Log dx (putF "_order" (.ref ao) (putF "_rows" (.ref ar) [])))) b = some u := fun b u hb hne => by
        rw [upd_ne hne, upd_ne hne]
        exact s06 _ _ hb
      refine q ar ao _ hk ?_ ?_ ?_
      · rw [upd_same]
        congr 2
      · exact (hvr.byX (XS.upd hS)).byX (XS.upd hS)
      · exact (((ho.same s5).same s6).byX (XS.upd hS)).byX (XS.upd hS)
    obtain ⟨t, h1, h2⟩ := key
    exact ⟨t, h1.nox, h2⟩
end
end My

set_option Elab.async false
set_option linter.all false
set_option maxRecDepth 100000
namespace My
open PySem PySem.Spec PyProof.Rows L2 TL
/-! ### the texts of logs -/
def textS (s : Stp) : Str := textD (stpP s)
def lineOf (n : Str) (ss : List Stp) : Str := Txt.join " " (((Str.empty ++ n) ++ ":") :: ss.map textS)
def rowText (n : Str) (ss : List Stp) : Str := lineOf n ss ++ "\n"
def logText (rs : List Row) : Str := Txt.join "" (rs.map fun r => rowText r.n r.s)
theorem textS_len {s : Stp} (h : stepD (stpP s) = true) : (textS s).length ≤ 18 := by
  obtain ⟨m, n, dd, e, hm, h1, h2, hd⟩ := step_inv h
  unfold textS
  rw [e]
  show (deedX (numT m n) dd).length ≤ 18
  rw [← cur_end _ hd]
  exact cur_len (numT_len hm ⟨h1, h2⟩) hd 2
theorem textS_sign {s : Stp} (h : stepD (stpP s) = true) {c : Nat} (hc : c ∈ tl (textS s)) : (97 ≤ c ∧ c ≤ 122) ∨ c = 61 ∨ c = 45 ∨ (48 ≤ c ∧ c ≤ 57) ∨ c = 33 ∨ c = 63 := by
  obtain ⟨m, n, dd, e, hm, h1, h2, hd⟩ := step_inv h
  unfold textS at hc
  rw [e, tl_text m n dd hd] at hc
  rcases List.mem_append.mp hc with hc | hc
  · rcases head_signs hm ⟨h1, h2⟩ hc with h | h | h | h
    · exact .inl h
    · exact .inr (.inl h)
    · exact .inr (.inr (.inl h))
    · exact .inr (.inr (.inr (.inl h)))
  · rcases hd with rfl | ⟨w, hw, rfl | rfl⟩
    · cases hc
    · rw [deedT_s] at hc
      rcases List.mem_cons.mp hc with hc | hc
      · exact .inr (.inr (.inr (.inr (.inl hc))))
      · exact .inl (letter_of ((name_inv hw).1 c hc))
    · rw [deedT_r] at hc
      rcases List.mem_cons.mp hc with hc | hc
      · exact .inr (.inr (.inr (.inr (.inr hc))))
      · exact .inl (letter_of ((name_inv hw).1 c hc))
theorem tl_e (x : Str) : tl (Str.empty ++ x) = tl x := by
  rw [tl_append]
  rfl
theorem line_eq (n : Str) (ss : List Stp) : lineOf n ss = n ++ ":" ++ Txt.join " " (("" : Str) :: ss.map textS) := by
  refine ext_tl ?_
  unfold lineOf
  rw [join_eq, join_eq, tl_append, tl_append, tl_join, tl_join, List.map_cons, List.map_cons, tl_append, tl_e]
  cases (ss.map textS).map tl with
  | nil =>
    show tl n ++ tl ":" = tl n ++ tl ":" ++ tl ""
    exact (List.append_nil _).symm
  | cons a r =>
    show tl n ++ tl ":" ++ (tl " " ++ joinL (tl " ") (a :: r)) = tl n ++ tl ":" ++ (tl "" ++ (tl " " ++ joinL (tl " ") (a :: r)))
    rfl
theorem join_sign {y : Str} {ps : List Str} {c : Nat} (h : c ∈ tl (Txt.join y ps)) : c ∈ tl y ∨ ∃ p ∈ ps, c ∈ tl p := by
  rw [join_eq, tl_join] at h
  induction ps with
  | nil => cases h
  | cons a r ih =>
    cases r with
    | nil => exact .inr ⟨a, List.mem_cons_self .., h⟩
    | cons b r =>
      have h' : c ∈ tl a ++ (tl y ++ joinL (tl y) ((b :: r).map tl)) := h
      rcases List.mem_append.mp h' with h' | h'
      · exact .inr ⟨a, List.mem_cons_self .., h'⟩
      · rcases List.mem_append.mp h' with h' | h'
        · exact .inl h'
        · rcases ih h' with h' | ⟨p, m, h'⟩
          · exact .inl h'
          · exact .inr ⟨p, List.mem_cons_of_mem _ m, h'⟩
theorem line_sign {n : Str} {ss : List Stp} (hn : nameD 6 (.str n) = true) (hs : ∀ s ∈ ss, stepD (stpP s) = true) : (10 : Nat) ∉ tl (lineOf n ss) := fun h => by
  unfold lineOf at h
  rcases join_sign h with h | ⟨p, m, h⟩
  · exact absurd h (by decide +kernel)
  · rcases List.mem_cons.mp m with rfl | m
    · rw [tl_append, tl_e] at h
      rcases List.mem_append.mp h with h | h
      · have := letter_of ((name_inv hn).1 10 h)
        omega
      · exact absurd h (by decide +kernel)
    · obtain ⟨s, ms, rfl⟩ := List.mem_map.mp m
      have := textS_sign (hs s ms) h
      omega
theorem line_part {n : Str} {ss : List Stp} (hn : nameD 6 (.str n) = true) : Txt.partition (lineOf n ss) ":" = (n, (":" : Str), Txt.join " " (("" : Str) :: ss.map textS)) := by
  rw [line_eq]
  exact partition_app (s := 58) (S := []) rfl fun h => by
    have := letter_of ((name_inv hn).1 58 h)
    omega
theorem rest_split {ss : List Stp} (hs : ∀ s ∈ ss, stepD (stpP s) = true) : Txt.split (Txt.join " " (("" : Str) :: ss.map textS)) " " = ("" : Str) :: ss.map textS := by
  refine split_join (s := 32) (S := []) rfl (by decide +kernel) (by simp) fun p hp h => ?_
  rcases List.mem_cons.mp hp with rfl | hp
  · exact absurd h (by decide +kernel)
  · obtain ⟨s, ms, rfl⟩ := List.mem_map.mp hp
    have := textS_sign (hs s ms) h
    omega
theorem joinL_nl : ∀ ls : List (List Nat), joinL [] (ls.map fun l => l ++ [10]) = joinL [10] (ls ++ [[]])
  | [] => rfl
  | [a] => by
    show a ++ [10] = a ++ ([10] ++ [])
    simp
  | a :: b :: r => by
    have ih := joinL_nl (b :: r)
    show (a ++ [10]) ++ ([] ++ joinL [] ((b :: r).map fun l => l ++ [10])) = a ++ ([10] ++ joinL [10] (b :: r ++ [[]]))
    rw [ih]
    simp
theorem log_split {rs : List Row} (h : Valid rs) : Txt.split (logText rs) "\n" = (rs.map fun r => lineOf r.n r.s) ++ [("" : Str)] := by
  have e : logText rs = Txt.join "\n" ((rs.map fun r => lineOf r.n r.s) ++ [("" : Str)]) := by
    refine ext_tl ?_
    unfold logText
    rw [join_eq, join_eq, tl_join, tl_join, List.map_append, List.map_map, List.map_map]
    have e1 : (rs.map (tl ∘ fun r => rowText r.n r.s)) = (rs.map (tl ∘ fun r => lineOf r.n r.s)).map fun l => l ++ [10] := by
      rw [List.map_map]
      refine List.map_congr_left fun r _ => ?_
      show tl (lineOf r.n r.s ++ "\n") = tl (lineOf r.n r.s) ++ [10]
      rw [tl_append]
      rfl
    rw [e1]
    exact joinL_nl _
  rw [e]
  refine split_join (s := 10) (S := []) rfl (by decide +kernel) (by simp) fun p hp => ?_
  rcases List.mem_append.mp hp with hp | hp
  · obtain ⟨r, mr, rfl⟩ := List.mem_map.mp hp
    exact line_sign (h.name r mr) (h.step r mr)
  · rw [List.mem_singleton.mp hp]
    decide +kernel
theorem join_len2 (y : Str) (ps : List Str) {k : Nat} (h : ∀ p ∈ ps, p.length ≤ k) : (ps.map (·.length)).sum ≤ ps.length * k := by
  have := sum_map_le (ps.map (·.length)) k fun x hx => by
    obtain ⟨p, m, rfl⟩ := List.mem_map.mp hx
    exact h p m
  rw [List.length_map] at this
  exact this
theorem join_le (y : Str) (ps : List Str) {k : Nat} (h : ∀ p ∈ ps, p.length ≤ k) : (Txt.join y ps).length ≤ ps.length * k + ps.length * y.length := by
  rw [join_eq]
  have := PySem.StrLaws.join_length_le y ps
  have := join_len2 y ps h
  omega
theorem parts_len {n : Str} {ss : List Stp} (hn : nameD 6 (.str n) = true) (hs : ∀ s ∈ ss, stepD (stpP s) = true) : ∀ p ∈ ((Str.empty ++ n) ++ ":") :: ss.map textS, p.length ≤ 20 := fun p hp => by
  rcases List.mem_cons.mp hp with rfl | hp
  · have := (name_inv hn).2.2
    rw [app_len, e_len]
    show n.length + 1 ≤ 20
    omega
  · obtain ⟨s, ms, rfl⟩ := List.mem_map.mp hp
    exact Nat.le_trans (textS_len (hs s ms)) (by decide)
theorem line_len {n : Str} {ss : List Stp} (hn : nameD 6 (.str n) = true) (hs : ∀ s ∈ ss, stepD (stpP s) = true) (hl : ss.length ≤ 20) : (lineOf n ss).length ≤ 441 := by
  have h := join_le " " _ (parts_len hn hs)
  rw [List.length_cons, List.length_map] at h
  have e : (" " : Str).length = 1 := rfl
  rw [e] at h
  unfold lineOf
  omega
theorem log_len {rs : List Row} (h : Valid rs) : (logText rs).length ≤ 2652 := by
  have h1 := join_le "" (rs.map fun r => rowText r.n r.s) (k := 442) fun p hp => by
    obtain ⟨r, mr, rfl⟩ := List.mem_map.mp hp
    have := line_len (h.name r mr) (h.step r mr) (h.len r mr)
    show (lineOf r.n r.s ++ "\n").length ≤ 442
    rw [app_len]
    show _ + 1 ≤ 442
    omega
  rw [List.length_map] at h1
  have := h.few
  have e : ("" : Str).length = 0 := rfl
  rw [e] at h1
  unfold logText
  omega
def rowTextD : PyData → PyData
  | .tuple [.str n, .tuple l] => .str (Txt.join " " (((Str.empty ++ n) ++ ":") :: l.map textD) ++ "\n")
  | _ => .none
theorem rowTextD_eq (r : Row) : rowTextD (rowT r) = .str (rowText r.n r.s) := by
  show PyData.str (Txt.join " " (((Str.empty ++ r.n) ++ ":") :: (r.s.map stpP).map textD) ++ "\n") = _
  rw [List.map_map]
  rfl
section
variable {P : Program} {w : World} {K : PySem.W.Frag} {mg : Str → Option Value} {base : Heap} {A : Top}
theorem sv_text {S : Sh} {σ : L2.St} {H : Hp} {ta : TE} {d : PyData} {E : XK} (h : SV K S ta σ H d) (hd : stepD d = true) : SV K S (tCall (spText K) [] E (tCons ta tNil)) σ H (.str (textD d)) := fun S1 H1 n Q q =>
  h S1 H1 n _ fun v H2 s2 hv => ⟨v, d, rfl, Ds.dp _ _ hv, hd, q _ _ s2 (.str _)⟩
theorem sv_read {S : Sh} {σ : L2.St} {H : Hp} {ta : TE} {d : PyData} {E : XK} (h : SV K S ta σ H d) (hd : fine d = true) : SV K S (tCall (spRead K) [] E (tCons ta tNil)) σ H (readD d) := fun S1 H1 n Q q =>
  h S1 H1 n _ fun v H2 s2 hv => ⟨S1, v, d, rfl, n.live.same s2, hv, hd, fun v' H3 s3 hv' => q _ _ (s2.trans s3) hv'⟩
def okSteps (ss : List Stp) : Prop := ss.length ≤ 20 ∧ ∀ s ∈ ss, stepD (stpP s) = true
def spRowText (K : PySem.W.Frag) : Sp := spT K (fun x : Str × Bool × List Stp => [.str x.1, seqD x.2.1 (x.2.2.map stpP)]) (fun x => nameD 6 (.str x.1) = true ∧ okSteps x.2.2) fun x => .str (rowText x.1 x.2.2)
theorem ok_row_text (T : TopOk K mg A) : FnOk P w K mg base CX0 2 A.f_row_text A.d_row_text P_row_text (spRowText K) := by
  have G_step_text : FnOk P w K mg base CX0 1 A.f_step_text A.d_step_text P_step_text (spText K) := ok_step_text T
  refine T.F_row_text.ok sc_row_text (fun vs H Q E h => ?_) (fun cdv Ar outer s H vs Q E hr h => ?_)
  · obtain ⟨S, x, _, h, _⟩ := h
    obtain ⟨v, u, rfl, _⟩ := h.two
    rfl
  · obtain ⟨S, ⟨n, ki, ss⟩, hL, hds, ⟨hn, hss⟩, k⟩ := h
    obtain ⟨vn, v, rfl, hvn, hv⟩ := hds.two
    refine ⟨_, (pss_cons (ps_setLc (i := 2) (own := [("step", 3)]) (g := gName 3) (by rfl) sc_row_text.nd rfl rfl (sw_true rfl rfl rfl (by decide +kernel)) (pi_any (pv 1)) (blkOk_by (own := [("step", 3)]) (N := N_row_text) (sc := defScope s_row_text) (by decide +kernel)) (fun _ _ _ _ _ => (pg_name (i := 3) sc_row_text.nd rfl (by first | exact Or.inl rfl | exact Or.inr rfl))) (fun _ _ _ _ _ => pts_nil) (fun _ _ _ _ _ => (pe_call G_step_text (hr.mono (by decide)) (by rfl) T.g_step_text T.F_step_text.kp T.a_step_text .nil pass0 (pa_cons (pv 3) pa_nil))))
      (pss_one (ps_ret (pe_op op_add_str (pe_join pe_str (pe_lst (pa_cons (pe_joined (PJ.cons (pe_fmt (pv 0)) (PJ.cons pe_str PJ.nil))) (StX.pa_star (pv 2) pa_nil)))) pe_str)))), ?_⟩
    have hv : Ds K S H v (seqD ki (ss.map stpP)) := hv
    have hss : okSteps ss := hss
    have hn : nameD 6 (.str n) = true := hn
    show tSeq _ _ _ [some vn, some v, none, none] H
    refine set_sv (K := K) (S := S) hL (sv_is (d' := .list ((ss.map textS).map PyData.str)) (sv_lcM (K := K) (S := S) (si_any (k := ki) (ds := ss.map stpP) (sv_var rfl hv)) (by rw [List.length_map]; have := hss.1; omega) (fun d => .str (textD d)) fun d S' H' v' Q m n' hd kk => ?_) ?_) fun vm H1 s1 l1 hvm => ?_
    · obtain ⟨s', ms, rfl⟩ := List.mem_map.mp m
      exact kk [some vn, some v, none, some v'] rfl (sv_text (sv_var rfl hd) (hss.2 s' ms))
    · rw [List.map_map, List.map_map]
      rfl
    · dsimp only [List.set]
      have hj : SV K S (fun σ H Q => tJs [tFmt (tVar 0), tC (.str ":")] Str.empty σ H fun out H1 => Q (.str out) H1) [some vn, some v, some vm, none] H1 (.str ((Str.empty ++ n) ++ ":")) := fun S2 H2 n2 Q2 q2 => by
        have hl := (name_inv hn).2.2
        refine ⟨_, rfl, .inl ⟨n, hvn.s, sz (by omega), n, rfl, ?_, ":", rfl, ?_, q2 _ _ (Same.refl _) (.str _)⟩⟩
        · rw [e_len]; exact sz (by omega)
        · rw [app_len, e_len]; exact sz (by show n.length + 1 ≤ 100000; omega)
      have hp := parts_len hn hss.2
      have hl2 := join_len2 " " _ hp
      have hl3 := line_len hn hss.2 hss.1
      have h20 : ss.length ≤ 20 := hss.1
      refine ret_sv l1 (sv_addS (x := lineOf n ss) (y := "\n") (sv_join (x := " ") (ys := ((Str.empty ++ n) ++ ":") :: ss.map textS) sv_str (sv_lst (ds := .str ((Str.empty ++ n) ++ ":") :: ((ss.map textS).map PyData.str ++ [])) (sa_cons hj (sa_star (k := true) (sv_var rfl hvm) sa_nil)) ?_ |> fun z => by rw [List.append_nil] at z; exact z) ?_) sv_str ?_) fun v5 H5 s5 hv5 => k _ _ (s1.trans s5) hv5
      · refine decide_eq_true ?_
        simp
        omega
      · rw [List.length_cons, List.length_map] at hl2
        rw [List.length_cons, List.length_map]
        have e : (" " : Str).length = 1 := rfl
        rw [e]
        omega
      · show _ + 1 ≤ 100000
        omega
def spMeth (K : PySem.W.Frag) (C : Addr) (f : List Row → PyData) : Sp := fun vs H Q _ => ∃ (S : Sh) (a : Addr) (rs : List Row), vs = [.ref a] ∧ Live S H ∧ LogAt K C S H a rs ∧ ∀ v H', Same H H' → Ds K S H' v (f rs) → Q v H'
theorem sv_rows {S : Sh} {H : Hp} {a C : Addr} {rs : List Row} {σ : L2.St} {i : Nat} (cl : Cls K C) (na : NoAttr K C "_rows") (h : LogAt K C S H a rs) (hi : σ[i]? = some (some (.ref a))) : SV K S (tFld K (tVar i) "_rows") σ H (.list (rs.map rowT)) := by
  obtain ⟨v, dx, r, o, h1, h2, h3, h4⟩ := h
  exact sv_fld hi h2 cl na rfl h3
def rowL (r : Row) : PyData := .tuple [.str r.n, .list (r.s.map stpP)]
theorem ok_rows (T : TopOk K mg A) : FnOk P w K mg base CX0 1 A.f_Log_rows A.d_Log_rows P_Log_rows (spMeth K A.c_Log fun rs => .list (rs.map rowL)) := by
  refine T.F_Log_rows.ok sc_Log_rows (fun vs H Q E h => ?_) (fun cdv Ar outer s H vs Q E hr h => ?_)
  · obtain ⟨S, a, rs, rfl, _⟩ := h
    rfl
  · obtain ⟨S, a, rs, rfl, hL, hlog, k⟩ := h
    refine ⟨_, (pss_one (ps_ret (pe_lc (own := [("name", 1), ("steps", 2)]) (g := gTup K 2 (gCons (gName 1) (gCons (gName 2) gNil))) (te := tTup (tCons (tVar 1) (tCons (tCB (rListOf K) (tCons (tVar 2) tNil)) tNil))) (by rfl) sc_Log_rows.nd (pi_any (pe_fld (pv 0) rfl)) (blkOk_by (own := [("name", 1), ("steps", 2)]) (N := N_Log_rows) (sc := defScope s_Log_rows) (by decide +kernel)) (fun _ _ _ _ _ => (pg_tup rfl (pgs_cons (pg_name (i := 1) sc_Log_rows.nd rfl (by first | exact Or.inl rfl | exact Or.inr rfl)) (pgs_cons (pg_name (i := 2) sc_Log_rows.nd rfl (by first | exact Or.inl rfl | exact Or.inr rfl)) pgs_nil)))) (fun _ _ _ _ _ => pts_nil) (fun _ _ _ _ _ => (pe_tup (pa_cons (pv 1) (pa_cons (pe_callTy call_listK (by rfl) T.b_list (by decide +kernel) (pa_cons (pv 2) pa_nil)) pa_nil))))))), ?_⟩
    show tRet _ _ [some (.ref a), none, none] H
    refine ret_sv hL (sv_is (d := .list ((rs.map rowT).map fun d => .tuple [fstD d, .list (innD d)])) (sv_lcM (K := K) (S := S) (si_l (sv_rows T.cl_Log T.na_Log_rows hlog rfl)) (by rw [List.length_map]; have := hlog.val.few; omega) _ fun d S' H' v' Q m n' hd kk => ?_) ?_) k
    · obtain ⟨r, mr, rfl⟩ := List.mem_map.mp m
      exact g_tup2 hd fun x y hx hy => kk [some (.ref a), some x, some y] rfl (sv_tup (sa_cons (sv_var rfl hx) (sa_cons (sv_listK (k := false) (sv_var rfl hy)) sa_nil)) rfl)
    · rw [List.map_map]
      rfl
theorem ok_text (T : TopOk K mg A) : FnOk P w K mg base CX0 3 A.f_Log_text A.d_Log_text P_Log_text (spMeth K A.c_Log fun rs => .str (logText rs)) := by
  have G_row_text : FnOk P w K mg base CX0 2 A.f_row_text A.d_row_text P_row_text (spRowText K) := ok_row_text T
  refine T.F_Log_text.ok sc_Log_text (fun vs H Q E h => ?_) (fun cdv Ar outer s H vs Q E hr h => ?_)
  · obtain ⟨S, a, rs, rfl, _⟩ := h
    rfl
  · obtain ⟨S, a, rs, rfl, hL, hlog, k⟩ := h
    refine ⟨_, (pss_one (ps_ret (pe_join pe_str (pe_lc (own := [("name", 1), ("steps", 2)]) (g := gTup K 2 (gCons (gName 1) (gCons (gName 2) gNil))) (by rfl) sc_Log_text.nd (pi_any (pe_fld (pv 0) rfl)) (blkOk_by (own := [("name", 1), ("steps", 2)]) (N := N_Log_text) (sc := defScope s_Log_text) (by decide +kernel)) (fun _ _ _ _ _ => (pg_tup rfl (pgs_cons (pg_name (i := 1) sc_Log_text.nd rfl (by first | exact Or.inl rfl | exact Or.inr rfl)) (pgs_cons (pg_name (i := 2) sc_Log_text.nd rfl (by first | exact Or.inl rfl | exact Or.inr rfl)) pgs_nil)))) (fun _ _ _ _ _ => pts_nil) (fun _ _ _ _ _ => (pe_call G_row_text (hr.mono (by decide)) (by rfl) T.g_row_text T.F_row_text.kp T.a_row_text .nil pass0 (pa_cons (pv 1) (pa_cons (pv 2) pa_nil)))))))), ?_⟩
    have hp := hlog.val
    show tRet _ _ [some (.ref a), none, none] H
    have hlc : SV K S (tLc (iAny K (tFld K (tVar 0) "_rows")) (gTup K 2 (gCons (gName 1) (gCons (gName 2) gNil))) tYes (tCall (spRowText K) [] E0 (tCons (tVar 1) (tCons (tVar 2) tNil))) [1, 2]) [some (.ref a), none, none] H (.list ((rs.map fun r => rowText r.n r.s).map PyData.str)) :=
      sv_is (sv_lcM (K := K) (S := S) (si_l (sv_rows T.cl_Log T.na_Log_rows hlog rfl)) (by rw [List.length_map]; have := hp.few; omega) rowTextD fun d S' H' v' Q m n' hd kk => by
        obtain ⟨r, mr, rfl⟩ := List.mem_map.mp m
        rw [rowTextD_eq] at kk
        exact g_tup2 hd fun x y hx hy => kk [some (.ref a), some x, some y] rfl (sv_T (enc := fun x : Str × Bool × List Stp => [.str x.1, seqD x.2.1 (x.2.2.map stpP)]) (r.n, false, r.s) (sa_cons (sv_var rfl hx) (sa_cons (sv_var rfl hy) sa_nil)) rfl ⟨hp.name r mr, hp.len r mr, hp.step r mr⟩)) (by
        rw [List.map_map, List.map_map]
        congr 1
        exact List.map_congr_left fun r _ => rowTextD_eq r)
    suffices hlen : ((rs.map fun r => rowText r.n r.s).map (·.length)).sum + (rs.map fun r => rowText r.n r.s).length * ("" : Str).length ≤ 16777216 by
      have k : ∀ v H', Same H H' → Ds K S H' v (.str (Txt.join "" (rs.map fun r => rowText r.n r.s))) → Q v H' := k
      generalize (rs.map fun r => rowText r.n r.s) = ys at hlc hlen k
      exact ret_sv (K := K) (S := S) hL (sv_join (x := "") sv_str hlc hlen) k
    have h1 := join_len2 "" (rs.map fun r => rowText r.n r.s) (k := 442) fun p hp' => by
      obtain ⟨r, mr, rfl⟩ := List.mem_map.mp hp'
      have := line_len (hp.name r mr) (hp.step r mr) (hp.len r mr)
      show (lineOf r.n r.s ++ "\n").length ≤ 442
      rw [app_len]
      show _ + 1 ≤ 442
      omega
    rw [List.length_map] at h1 ⊢
    have := hp.few
    have e : ("" : Str).length = 0 := rfl
    rw [e]
    omega
end
end My

set_option Elab.async false
set_option linter.all false
set_option maxRecDepth 100000
namespace My
open PySem PySem.Spec PyProof.Rows L2 TL
/-! ### logs read back -/
theorem textS_fine {s : Stp} (h : stepD (stpP s) = true) : fine (.str (textS s)) = true := good_fine ⟨by have := textS_len h; omega, fun c hc => by have := textS_sign h hc; omega⟩
theorem stps_fine {ss : List Stp} (h1 : ss.length ≤ 1000) (h : ∀ s ∈ ss, stepD (stpP s) = true) : fine (.list (ss.map stpP)) = true := fine_seq (k := true) (by rw [List.length_map]; omega) fun d hd => by
  obtain ⟨s, m, rfl⟩ := List.mem_map.mp hd
  exact ⟨(stp_fine (h s m)).1, Nat.le_trans (stp_fine (h s m)).2 (by decide)⟩
theorem stps_none (ss : List Stp) : ((ss.map stpP).any fun z => PyData.eqv z .none) = false := by
  rw [List.any_eq_false]
  intro d hd
  obtain ⟨s, m, rfl⟩ := List.mem_map.mp hd
  exact fun h => Bool.noConfusion h
section
variable {P : Program} {w : World} {K : PySem.W.Frag} {mg : Str → Option Value} {base : Heap} {A : Top}
def spReadRow (K : PySem.W.Frag) : Sp := spT K (fun x : Str × List Stp => [.str (lineOf x.1 x.2)]) (fun x => nameD 6 (.str x.1) = true ∧ okSteps x.2) fun x => rowP ⟨x.1, true, x.2⟩
theorem ok_read_row (T : TopOk K mg A) : FnOk P w K mg base CX0 6 A.f_read_row A.d_read_row P_read_row (spReadRow K) := by
  have G_read_step : FnOk P w K mg base CX0 5 A.f_read_step A.d_read_step P_read_step (spRead K) := ok_read_step T
  have G_is_name : FnOk P w K mg base CX0 2 A.f_is_name A.d_is_name P_is_name (spD K (nameD 6)) := ok_is_name T
  refine T.F_read_row.ok sc_read_row (fun vs H Q E h => ?_) (fun cdv Ar outer s H vs Q E hr h => ?_)
  · obtain ⟨S, x, _, h, _⟩ := h
    obtain ⟨v, rfl, _⟩ := h.one
    rfl
  · obtain ⟨S, ⟨n, ss⟩, hL, hds, ⟨hn, hss⟩, k⟩ := h
    obtain ⟨v, rfl, hv⟩ := hds.one
    refine ⟨_, (pss_cons (ps_asg (pe_partition (pv 0) pe_str) (pg_tup rfl (pgs_cons (pg_name (i := 3) sc_read_row.nd rfl (by first | exact Or.inl rfl | exact Or.inr rfl)) (pgs_cons (pg_name (i := 4) sc_read_row.nd rfl (by first | exact Or.inl rfl | exact Or.inr rfl)) (pgs_cons (pg_name (i := 5) sc_read_row.nd rfl (by first | exact Or.inl rfl | exact Or.inr rfl)) pgs_nil)))))
      (pss_cons (ps_set (i := 1) sc_read_row.nd rfl (by first | exact Or.inl rfl | exact Or.inr rfl) (pe_split (pv 5) pe_str))
      (pss_cons (ps_setLc (i := 2) (own := [("word", 6)]) (g := gName 6) (by rfl) sc_read_row.nd rfl rfl (sw_true rfl rfl rfl (by decide +kernel)) (pi_any (pe_slice sl_list (pv 1) (po_some pe_int) po_none)) (blkOk_by (own := [("word", 6)]) (N := N_read_row) (sc := defScope s_read_row) (by decide +kernel)) (fun _ _ _ _ _ => (pg_name (i := 6) sc_read_row.nd rfl (by first | exact Or.inl rfl | exact Or.inr rfl))) (fun _ _ _ _ _ => pts_nil) (fun _ _ _ _ _ => (pe_call G_read_step (hr.mono (by decide)) (by rfl) T.g_read_step T.F_read_step.kp T.a_read_step .nil pass0 (pa_cons (pv 6) pa_nil))))
      (pss_cons (ps_if (PW.pt (pw_or (pt_not (pt_val (pe_call G_is_name (hr.mono (by decide)) (by rfl) T.g_is_name T.F_is_name.kp T.a_is_name .nil pass0 (pa_cons (pv 3) pa_nil)))) (pw_or (pt_cmpR op_eq (pv 4) pe_str (nomark _)) (pw_or (pt_cmpR op_ne (pe_ix ix_seq (pv 1) pe_int (fun _ _ => rfl)) pe_str (nomark _)) (pw_or (pt_cmpR (L2.op_inD (hu65 hr)) pe_non (pv 2) (by rfl)) (pw_or1 (pt_cmpR op_gt (pe_callB call_len (by rfl) T.b_len (by decide +kernel) (pa_cons (pv 2) pa_nil)) (ClX.pe_cval (pe_glob (v := .ref A.c_Log) (by rfl) T.m_Log rfl)) (nomark _))))))))
      (pss_one (ps_ret pe_non))
      pss_nil)
      (pss_one (ps_ret (pe_tup (pa_cons (pv 3) (pa_cons (pv 2) pa_nil))))))))), ?_⟩
    have hv : Ds K S H v (.str (lineOf n ss)) := hv
    have hss : okSteps ss := hss
    have hn : nameD 6 (.str n) = true := hn
    have hll := line_len hn hss.2 hss.1
    show tSeq _ _ _ [some v, none, none, none, none, none, none] H
    have hpt := sv_part (K := K) (S := S) (σ := [some v, none, none, none, none, none, none]) (H := H) (y := ":") (sv_var (i := 0) rfl hv) sv_str (by decide) (by omega)
    rw [line_part hn] at hpt
    refine asg_sv (K := K) (S := S) hL hpt fun v1 H1 s1 l1 h1 => ?_
    refine g_tup3 h1 fun x y z hx hy hz => ?_
    show tSeq _ _ _ [some v, none, none, some x, some y, some z, none] H1
    dsimp only at hx hy hz
    have hrl : (Txt.join " " (("" : Str) :: ss.map textS)).length ≤ 50000 := by
      have h2 := line_eq n ss
      have h3 : (lineOf n ss).length = (n ++ ":" ++ Txt.join " " (("" : Str) :: ss.map textS)).length := by rw [h2]
      rw [app_len] at h3
      omega
    have hsp := sv_split (K := K) (S := S) (σ := [some v, none, none, some x, some y, some z, none]) (H := H1) (y := " ") (sv_var (i := 5) rfl hz) sv_str (by decide) hrl
    rw [rest_split hss.2] at hsp
    refine set_sv (K := K) (S := S) l1 hsp fun vw H2 s2 l2 hvw => ?_
    show tSeq _ _ _ [some v, some vw, none, some x, some y, some z, none] H2
    have hcut : cutD ((("" : Str) :: ss.map textS).map PyData.str) (some (1 : Int)) none = ss.map fun s => PyData.str (textS s) := by
      have := cutD_from ((("" : Str) :: ss.map textS).map PyData.str) 1
      rw [show ((1 : Nat) : Int) = 1 from rfl] at this
      rw [this]
      show (ss.map textS).map PyData.str = _
      rw [List.map_map]
      rfl
    have hsl := sv_slL (K := K) (S := S) (σ := [some v, some vw, none, some x, some y, some z, none]) (H := H2) (sv_var (i := 1) rfl hvw) (sp_some (sv_int (i := 1))) sp_no
    rw [hcut] at hsl
    have hlc := sv_lcM (K := K) (S := S) (vs := [6]) (g := gName 6) (te := tCall (spRead K) [] E0 (tCons (tVar 6) tNil)) (si_l hsl) (by rw [List.length_map]; have := hss.1; omega) readD fun d S' H' v' Q m n' hd kk => by
      obtain ⟨s, ms, rfl⟩ := List.mem_map.mp m
      exact kk [some v, some vw, none, some x, some y, some z, some v'] rfl (sv_read (sv_var rfl hd) (textS_fine (hss.2 s ms)))
    have hlc := sv_is (d' := .list (ss.map stpP)) hlc (by
      rw [List.map_map]
      congr 1
      exact List.map_congr_left fun s ms => read_back (hss.2 s ms))
    refine set_sv (K := K) (S := S) l2 hlc fun vs H3 s3 l3 hvs => ?_
    show tSeq _ _ _ [some v, some vw, some vs, some x, some y, some z, none] H3
    have s13 := s2.trans s3
    have h0 : SV K S (tOp (rIx K) (tVar 1) (tC (.int 0))) [some v, some vw, some vs, some x, some y, some z, none] H3 (.str "") := sv_ixL (sv_var (i := 1) rfl (hvw.same s3)) (sv_int (i := ((0 : Nat) : Int))) (atI_of (j := 0) rfl)
    refine seq_if (S := S) (b := false) l3 (sb_is (sb_or (sb_not (sb_val (sv_spD (f := nameD 6) (sv_var rfl (hx.same s13)) (name_fine hn (by decide))))) fun _ => sb_or (sb_test (sv_eqS (sv_var rfl (hy.same s13)) sv_str)) fun _ => sb_or (sb_test (sv_neS h0 sv_str)) fun _ => sb_or (sb_test (sv_inD sv_non (sv_var rfl hvs) rfl (stps_fine (Nat.le_trans hss.1 (by decide)) hss.2))) fun _ => sb_test (sv_gt (sv_lenL (sv_var rfl hvs)) (sv_cval T.rd_Log T.cv_Log_STEPS fun _ _ => .int _))) ?_) (fun z => Bool.noConfusion z) fun _ H4 s4 l4 => ?_
    · rw [hn, stps_none]
      have := hss.1
      rw [List.length_map, show decide ((":" : Str) = "") = false by decide +kernel, show decide (("" : Str) = "") = true by decide +kernel, show decide (20 < ((ss.length : Nat) : Int)) = false from decide_eq_false (by omega)]
      rfl
    · refine ret_sv (K := K) (S := S) l4 (sv_tup (sa_cons (sv_var rfl ((hx.same s13).same s4)) (sa_cons (sv_var rfl (hvs.same s4)) sa_nil)) rfl) fun v' H5 s5 hv' => k _ _ (((s1.trans s13).trans s4).trans s5) hv'
theorem sv_cvalV {S : Sh} {σ : L2.St} {H : Hp} {d : PyData} {v : V} {C : Addr} {f : Str} {mc u : Value} {i : Nat} (hi : σ[i]? = some (some (.ref C))) (r : ClX.CRead K C mc) (c : ClX.CVal K C mc f v u) (hd : ∀ S' H', Ds K S' H' v d) : SV K S (ClX.tCVal K (tVar i) f) σ H d := fun S1 H1 n Q q => ⟨_, hi, C, mc, v, u, rfl, r, c, q _ _ (Same.refl _) (hd _ _)⟩
theorem valid_true_lines {rs : List Row} : (enumD (((rs.map fun r => lineOf r.n r.s)).map PyData.str)).length = rs.length := by rw [enumD_len, List.length_map, List.length_map]
theorem cutD_last {α : Type} (xs : List α) (x : α) : cutD (xs ++ [x]) none (some (-1)) = xs := by
  unfold cutD
  have e : HT.sIx (xs ++ [x]).length (xs ++ [x]).length (some (-1)) = xs.length := by
    unfold HT.sIx
    simp
    omega
  have e0 : HT.sIx (xs ++ [x]).length 0 none = 0 := rfl
  rw [e, e0]
  simp
theorem row_true {r : Row} (h : r.k = true) : (⟨r.n, true, r.s⟩ : Row) = r := by rw [← h]
def spLogRead (K : PySem.W.Frag) (C : Addr) : Sp := fun vs H Q _ => ∃ (S : Sh) (rs : List Row), vs = [.ref C, .str (logText rs)] ∧ Live S H ∧ Valid rs ∧ (∀ r ∈ rs, r.k = true) ∧ ∀ a H', Same H H' → LogAt K C S H' a rs → Q (.ref a) H'
theorem ok_read (T : TopOk K mg A) : FnOk P w K mg base CX0 10 A.f_Log_read A.d_Log_read P_Log_read (spLogRead K A.c_Log) := by
  have G_read_row : FnOk P w K mg base CX0 6 A.f_read_row A.d_read_row P_read_row (spReadRow K) := ok_read_row T
  have G_i_Log : FnR P w K mg base CX0 8 A.f_i_Log (spInit K A.c_Log) := ok_init T
  refine T.F_Log_read.ok sc_Log_read (fun vs H Q E h => ?_) (fun cdv Ar outer s H vs Q E hr h => ?_)
  · obtain ⟨S, rs, rfl, _⟩ := h
    rfl
  · obtain ⟨S, rs, rfl, hL, hp, hk, k⟩ := h
    refine ⟨_, (pss_cons (ps_if (pt_not (pt_val (pe_callB call_isD (by rfl) T.b_isinstance (by decide +kernel) (pa_cons (pv 1) (pa_cons (pe_bltn (v := .ty "str") (by rfl) T.b_str (by decide +kernel) rfl) pa_nil)))))
      (pss_one ps_never)
      pss_nil)
      (pss_cons (ps_set (i := 2) sc_Log_read.nd rfl (by first | exact Or.inl rfl | exact Or.inr rfl) (pe_split (pv 1) pe_str))
      (pss_cons (ps_set (i := 3) sc_Log_read.nd rfl (by first | exact Or.inl rfl | exact Or.inr rfl) (pe_lst pa_nil))
      (pss_cons (ps_for PassesOwn.never rfl (pi_enumA (by rfl) T.b_enumerate (pa_cons (pe_slice sl_list (pv 2) po_none (po_some (pe_un un_neg pe_int))) pa_nil)) (pg_tup rfl (pgs_cons (pg_name (i := 4) sc_Log_read.nd rfl (by first | exact Or.inl rfl | exact Or.inr rfl)) (pgs_cons (pg_name (i := 5) sc_Log_read.nd rfl (by first | exact Or.inl rfl | exact Or.inr rfl)) pgs_nil)))
      (pss_cons (ps_set (i := 6) sc_Log_read.nd rfl (by first | exact Or.inl rfl | exact Or.inr rfl) (pe_call G_read_row (hr.mono (by decide)) (by rfl) T.g_read_row T.F_read_row.kp T.a_read_row .nil pass0 (pa_cons (pv 5) pa_nil)))
      (pss_cons (ps_if (PW.pt (pw_or (pt_cmpR op_isN (pv 6) pe_non (nomark _)) (pw_or1 (pt_cmpR op_ge (pv 4) (ClX.pe_cval (pv 0)) (nomark _)))))
      (pss_one ps_never)
      pss_nil)
      (pss_one (ps_expr (pe_bm PySem.F.plainAttrs_list PySem.F.slot_list_append PySem.F.type_list_append mt_append (pv 3) (pa_cons (pv 6) pa_nil)))))))
      (pss_cons (ps_if (pt_cmpR op_ne (pe_ix ix_seq (pv 2) (pe_un un_neg pe_int) (fun _ _ => rfl)) pe_str (nomark _))
      (pss_one ps_never)
      pss_nil)
      (pss_one (ps_ret (pe_makeVS (i := 0) T.mk_Log G_i_Log (hr.mono (by decide)) pass0 (pv 3))))))))), ?_⟩
    show tSeq _ _ _ [some (.ref A.c_Log), some (.str (logText rs)), none, none, none, none, none] H
    refine seq_if (S := S) (b := false) hL (sb_is (sb_not (sb_val (sv_isD (K := K) (n := "str") (sv_vs (i := 1) rfl) (by decide)))) rfl) (fun z => Bool.noConfusion z) fun _ H1 s1 l1 => ?_
    have hsp := sv_split (K := K) (S := S) (σ := [some (.ref A.c_Log), some (.str (logText rs)), none, none, none, none, none]) (H := H1) (y := "\n") (sv_vs (i := 1) rfl) sv_str (by decide) (by have := log_len hp; omega)
    rw [log_split hp] at hsp
    refine set_sv (K := K) (S := S) l1 hsp fun vl H2 s2 l2 hvl => ?_
    show tSeq _ _ _ [some (.ref A.c_Log), some (.str (logText rs)), some vl, none, none, none, none] H2
    refine ⟨Nat.zero_le _, fun D na => ?_⟩
    have n3 : Now S H2 (fun a => S a ∨ a = D) (upd H2 D (.lst [])) := Now.add l2 na
    have hl3 := hvl.now n3
    have e3 : (upd H2 D (.lst [])) D = some (.lst []) := upd_same
    generalize upd H2 D (.lst []) = H3 at n3 hl3 e3
    show tSeq _ _ _ [some (.ref A.c_Log), some (.str (logText rs)), some vl, some (.ref D), none, none, none] H3
    have hsl := sv_slL (K := K) (S := fun a => S a ∨ a = D) (σ := [some (.ref A.c_Log), some (.str (logText rs)), some vl, some (.ref D), none, none, none]) (H := H3) (sv_var (i := 2) rfl hl3) sp_no (sp_some (sv_neg (sv_int (i := 1))))
    rw [show ((rs.map fun r => lineOf r.n r.s) ++ [("" : Str)]).map PyData.str = (rs.map fun r => PyData.str (lineOf r.n r.s)) ++ [PyData.str ""] by rw [List.map_append, List.map_map]; rfl] at hsl hl3
    rw [cutD_last] at hsl
    have hls : ∀ i d, (rs.map fun r => PyData.str (lineOf r.n r.s))[i]? = some d → ∃ r : Row, rs[i]? = some r ∧ d = PyData.str (lineOf r.n r.s) := fun i d h => map_inv h
    have hln : (rs.map fun r => PyData.str (lineOf r.n r.s)).length = rs.length := by rw [List.length_map]
    generalize (rs.map fun r => PyData.str (lineOf r.n r.s)) = ls at hsl hl3 hls hln
    have hsa := sa_cons (K := K) (S := fun a => S a ∨ a = D) (d := seqD true ls) (ds := []) hsl sa_nil
    have hsi := si_enum (k := true) (ds := ls) hsa
    refine seq_for (K := K) (S := fun a => S a ∨ a = D) n3.live hsi fun H4 s4 l4 => ⟨fun i σ H5 => (∃ x4 x5 x6, σ = [some (.ref A.c_Log), some (.str (logText rs)), some vl, some (.ref D), x4, x5, x6]) ∧ Step (fun a => S a ∨ a = D) H4 (fun a => S a ∨ a = D) H5 ∧ Now S H2 (fun a => S a ∨ a = D) H5 ∧ ∃ vs, H5 D = some (.lst vs) ∧ DsAll K (fun a => S a ∨ a = D) H5 vs ((rs.take i).map rowP), ⟨⟨_, _, _, rfl⟩, Step.refl l4, n3.then s4, [], s4 _ _ e3, .nil⟩, fun i σ H5 _ ⟨_, st, _⟩ => ⟨_, st⟩, fun i d v' σ H5 H6 ed ⟨⟨x4, x5, x6, e⟩, st, n5, vs, hD, hvs⟩ s6 hd => ?_, fun σ H5 ⟨⟨x4, x5, x6, e⟩, st, n5, vs, hD, hvs⟩ => ?_⟩
    · subst e
      obtain ⟨e, ee, rfl⟩ := enumD_inv ed
      obtain ⟨r, er, rfl⟩ := hls _ _ ee
      have mr := List.mem_of_getElem? er
      have hi : i < rs.length := (List.getElem?_eq_some_iff.mp er).1
      have hfew := hp.few
      refine g_tup2 (hd _ st) fun x y hx hy => ?_
      show tSeq _ _ _ [some (.ref A.c_Log), some (.str (logText rs)), some vl, some (.ref D), some x, some y, x6] H6
      have l6 := st.live.same s6
      refine set_sv (K := K) (S := fun a => S a ∨ a = D) l6 (sv_T (enc := fun x : Str × List Stp => [.str (lineOf x.1 x.2)]) (r.n, r.s) (sa_cons (sv_var rfl hy) sa_nil) rfl ⟨hp.name r mr, hp.len r mr, hp.step r mr⟩) fun vr H7 s7 l7 hvr => ?_
      show tSeq _ _ _ [some (.ref A.c_Log), some (.str (logText rs)), some vl, some (.ref D), some x, some y, some vr] H7
      refine seq_if (S := fun a => S a ∨ a = D) (b := false) l7 (sb_is (sb_or (sb_test (sv_isN (K := K) (sv_var (i := 6) rfl hvr))) fun _ => sb_test (sv_ge (sv_var (i := 4) rfl (hx.same s7)) (sv_cvalV (i := 0) rfl T.rd_Log T.cv_Log_PROCESSES fun _ _ => .int _))) ?_) (fun z => Bool.noConfusion z) fun _ H8 s8 l8 => ?_
      · rw [show decide (6 ≤ ((i : Nat) : Int)) = false from decide_eq_false (by omega)]
        rfl
      have s68 := (s6.trans s7).trans s8
      refine ⟨_, rfl, .inl ⟨rfl, _, lsq (s68 _ _ hD)⟩, ?_⟩
      refine ⟨_, rfl, D, vs, vr, rfl, rfl, s68 _ _ hD, szl (by rw [hvs.length, List.length_map, List.length_take]; omega), ?_⟩
      refine ⟨⟨_, _, _, rfl⟩, (st.then s68).put (.inr rfl), (n5.then s68).put (.inr rfl) (l2.ne na), _, upd_same, ?_⟩
      have e : (rs.take (i + 1)).map rowP = (rs.take i).map rowP ++ [rowP r] := by
        rw [List.take_succ, er, List.map_append]
        rfl
      rw [e]
      rw [row_true (hk r mr)] at hvr
      exact ((hvs.same s68).app (.cons (hvr.same s8) .nil)).byX (XS.upd (.inr rfl))
    · subst e
      rw [enumD_len, hln, List.take_length] at hvs
      have l5 := n5.live
      have hl5 := hl3.byX (XS.of s4) |>.step st
      have h0 : SV K (fun a => S a ∨ a = D) (tOp (rIx K) (tVar 2) (tUn (rU fun i => .int (-i)) (tC (.int 1)))) [some (.ref A.c_Log), some (.str (logText rs)), some vl, some (.ref D), x4, x5, x6] H5 (.str "") := sv_ixL (sv_var (i := 2) rfl hl5) (sv_neg sv_int) (L2.atI_last _ _)
      refine seq_if (S := fun a => S a ∨ a = D) (b := false) l5 (sb_is (sb_test (sv_neS h0 sv_str)) (by decide +kernel)) (fun z => Bool.noConfusion z) fun _ H6 s6 l6 => ?_
      refine ⟨rfl, _, rfl, D, vs, rfl, .inr (lsq (s6 _ _ hD)), fun x dx nx ndx ne => ?_⟩
      have n6 := n5.then s6
      have hv6 := hvs.same s6
      have nn : Now (fun a => S a ∨ a = D) H6 (fun a => (S a ∨ a = D) ∨ a = x) (upd (upd H6 dx (.own x)) x (.ins A.c_Log dx [])) := (Now.of l6 (same_upd ndx)).trans (Now.add (l6.same (same_upd ndx)) (by rw [upd_ne ne.symm]; exact nx))
      refine ⟨_, x, dx, vs, rs, rfl, nn.live, .inr rfl, upd_same, hv6.now nn, hp, fun r o H' hk' hx' hr' ho' => ⟨rfl, ?_⟩⟩
      have nS : ¬ S x := fun z => by
        obtain ⟨u, hu⟩ := n6.live x (.inl z)
        rw [nx] at hu
        cases hu
      refine k x H' (fun b u hb => ?_) ⟨hp, dx, r, o, nS, hx', hr'.less fun b z => .inl (.inl z), ho'.less fun b z => .inl (.inl z)⟩
      have hb6 := n6.same _ _ (s2 _ _ (s1 _ _ hb))
      exact hk' b u (nn.same _ _ hb6) fun z => by rw [z, nx] at hb6; cases hb6
end
end My

set_option Elab.async false
set_option linter.all false
set_option maxRecDepth 100000
namespace My
open PySem PySem.Spec PyProof.Rows L2 TL
section
variable {P : Program} {w : World} {K : PySem.W.Frag} {mg : Str → Option Value} {base : Heap} {A : Top}
theorem ok_str (T : TopOk K mg A) : FnOk P w K mg base CX0 4 A.f_Log_str A.d_Log_str P_Log_str (spMeth K A.c_Log fun rs => .str (logText rs)) := by
  have G_Log_text : FnOk P w K mg base CX0 3 A.f_Log_text A.d_Log_text P_Log_text (spMeth K A.c_Log fun rs => .str (logText rs)) := ok_text T
  refine T.F_Log_str.ok sc_Log_str (fun vs H Q E h => ?_) (fun cdv Ar outer s H vs Q E hr h => ?_)
  · obtain ⟨S, a, rs, rfl, _⟩ := h
    rfl
  · obtain ⟨S, a, rs, rfl, hL, hlog, k⟩ := h
    refine ⟨_, (pss_one (ps_ret (pe_callTy SkE.call_str_str (by rfl) T.b_str (by decide +kernel) (pa_cons (pe_meth0 (pv 0) T.cl_Log T.me_Log_text G_Log_text (hr.mono (by decide)) T.a_Log_text .nil pass0) pa_nil)))), ?_⟩
    show tRet _ _ [some (.ref a)] H
    obtain ⟨dx, r, o, h1, h2, h3, h4⟩ := hlog.at_
    refine ⟨_, rfl, a, dx, _, rfl, h2, rfl, S, a, rs, rfl, hL, hlog, fun v H' s hv => ?_⟩
    rw [hv.s]
    exact ⟨_, rfl, k _ _ s (.str _)⟩
/-- two logs of the same rows -/
def LogEq (K : PySem.W.Frag) (C : Addr) : Addr → Addr → Hp → Prop := fun a b H => ∃ (S : Sh) (rs : List Row), Live S H ∧ LogAt K C S H a rs ∧ LogAt K C S H b rs
theorem rows_fine {rs : List Row} (h : Valid rs) : fine (.list (rs.map rowT)) = true := fine_seq (k := true) (by rw [List.length_map]; have := h.few; omega) fun d hd => by
  obtain ⟨r, m, rfl⟩ := List.mem_map.mp hd
  have := row_fine (r := ⟨r.n, false, r.s⟩) (h.name r m) (Nat.le_trans (h.len r m) (by decide)) (h.step r m)
  exact ⟨this.1, Nat.le_trans this.2.1 (by decide)⟩
theorem fine_refl {d : PyData} (h : fine d = true) : PyData.eqv d d = true := SeqAt.eqv_refl d (SeqAt.canLay_of_shaped (fine_shaped h))
theorem ok_eq (T : TopOk K mg A) : FnOk P w K mg base CX0 1 A.f_Log_eq A.d_Log_eq P_Log_eq (spEq (LogEq K A.c_Log)) := by
  refine T.F_Log_eq.ok sc_Log_eq (fun vs H Q E h => ?_) (fun cdv Ar outer s H vs Q E hr h => ?_)
  · obtain ⟨a, b, rfl, _⟩ := h
    rfl
  · obtain ⟨a, b, rfl, ⟨S, rs, hL, ha, hb⟩, k⟩ := h
    refine ⟨_, (pss_one (ps_ret (pe_and (pe_callB (C8.call_isC T.ic_Log) (by rfl) T.b_isinstance (by decide +kernel) (pa_cons (pv 1) (pa_cons (pe_glob (v := .ref A.c_Log) (by rfl) T.m_Log rfl) pa_nil))) (pe_one (pe_cmpR (L2.op_eqD hr.units) (pe_fld (pv 0) rfl) (pe_fld (pv 1) rfl) (nomark _)))))), ?_⟩
    show tRet _ _ [some (.ref a), some (.ref b)] H
    have hv := ha.val
    obtain ⟨dx, r, o, h1, h2, h3, h4⟩ := ha.at_
    obtain ⟨dy, r', o', g1, g2, g3, g4⟩ := hb.at_
    have hf := rows_fine hv
    have hc : SV K S (tAndV _ _) [some (.ref a), some (.ref b)] H (.bool (true && true)) := sv_and (a := true) (b := true) (ta := tCB (fun xs H Q => ∃ a dx fs, xs = [.ref a, .ref A.c_Log] ∧ H a = some (.ins A.c_Log dx fs) ∧ Q (.bl true) H) (tCons (tVar 1) (tCons (tC (.ref A.c_Log)) tNil)))
      (fun S1 H1 n Q q => ⟨_, rfl, b, dy, _, rfl, n.same _ _ g2, q _ _ (Same.refl _) (.bl _)⟩) fun _ => sv_is (sv_eqD (sv_rows (i := 0) T.cl_Log T.na_Log_rows ha rfl) (sv_rows (i := 1) T.cl_Log T.na_Log_rows hb rfl) hf hf) (by rw [fine_refl hf])
    exact ret_sv hL hc fun v H' s hv => by rw [hv.b]; exact k _ s
end
end My

set_option Elab.async false
set_option linter.all false
set_option maxRecDepth 100000
namespace My
open PySem PySem.Spec PyProof.Rows L2 TL
theorem dp_strs {K : PySem.W.Frag} {H : Hp} {l : Addr} {xs : List Str} (h : H l = some (.lst (xs.map V.str))) : Dp K H (.ref l) (.list (xs.map PyData.str)) := Ds.dp _ _ (Ds.lst (S := fun _ => False) ⟨id, h⟩ ds_strs)
theorem fine_strs {xs : List Str} (hl : xs.length ≤ 5000) (h : ∀ x ∈ xs, fine (.str x) = true) : fine (.list (xs.map PyData.str)) = true := fine_seq (k := true) (by rw [List.length_map]; exact hl) fun d hd => by
  obtain ⟨x, m, rfl⟩ := List.mem_map.mp hd
  exact ⟨h x m, by simp [PyData.depth]⟩
theorem ne_nil {xs : List Str} : (!PyData.eqv (.list (xs.map PyData.str)) (.list [])) = decide (xs ≠ []) := by
  cases xs <;> rfl
theorem ixS {xs : List V} {j : Nat} (h : j < xs.length) : ∃ k, seqIndex? ((j : Nat) : Int) xs.length = some k ∧ xs[k]? = some xs[j] ∧ k < xs.length := by
  obtain ⟨k, a, b, c, _⟩ := L2.atI_get (L2.atI_nat (List.getElem?_eq_getElem h))
  exact ⟨k, a, b, c⟩
theorem perm_erase {α : Type} : ∀ (l : List α) (k : Nat) (h : k < l.length), (l[k] :: l.eraseIdx k).Perm l
  | a :: l, 0, _ => .refl _
  | a :: l, k + 1, h => (List.Perm.swap a _ _).trans ((perm_erase l k (by simpa using h)).cons a)
section
variable {P : Program} {w : World} {K : PySem.W.Frag} {mg : Str → Option Value} {base : Heap} {A : Top}
def spMixed : Sp := fun vs H Q _ => ∃ (B : BagId) (q : Addr) (xs : List Str), vs = [.ref B.p, .ref q] ∧ Bag B H ∧ H q = some (.lst (xs.map V.str)) ∧ xs.length ≤ 100 ∧ (∀ x ∈ xs, fine (.str x) = true) ∧
  ∀ (a : Addr) (ys : List Str) (H' : Hp), H a = none → Bag B H' → Ext B.p H H' → H' a = some (.lst (ys.map V.str)) → ys.Perm xs → Q (.ref a) H'
theorem ok_Lmixed (T : TopOk K mg A) : FnOk P w K mg base CX0 2 A.f_Lmixed A.d_Lmixed P_Lmixed spMixed := by
  have G_Ldraw : FnOk P w K mg base CX0 1 A.f_Ldraw A.d_Ldraw P_Ldraw spDraw := ok_Ldraw T
  refine T.F_Lmixed.ok sc_Lmixed (fun vs H Q E h => ?_) (fun cdv Ar outer s H vs Q E hr h => ?_)
  · obtain ⟨B, q, xs, rfl, _⟩ := h
    rfl
  · obtain ⟨B, q, xs, rfl, hB, hq, hlen, hfin, k⟩ := h
    refine ⟨_, (pss_cons (ps_par (i := 2) (j := 3) (by rfl) sc_Lmixed.nd rfl rfl (by decide) rfl rfl (pa_cons (pe_callTy call_listL (by rfl) T.b_list (by decide +kernel) (pa_cons (pv 1) pa_nil)) (pa_cons (pe_lst pa_nil) pa_nil)) (by rfl))
      (pss_cons (ps_while PassesOwn.never (pt_cmpR (L2.op_neD hr.units) (pv 2) (pe_lst pa_nil) (nomark _))
      (pss_one (ps_expr (pe_bm PySem.F.plainAttrs_list PySem.F.slot_list_append PySem.F.type_list_append mt_append (pv 3) (pa_cons (pe_bm PySem.F.plainAttrs_list PySem.F.slot_list_pop PySem.F.type_list_pop mt_popAt (pv 2) (pa_cons (pe_call G_Ldraw (hr.mono (by decide)) (by rfl) T.g_Ldraw T.F_Ldraw.kp T.a_Ldraw .nil pass0 (pa_cons (pv 0) (pa_cons (pe_callB call_len (by rfl) T.b_len (by decide +kernel) (pa_cons (pv 2) pa_nil)) pa_nil))) pa_nil)) pa_nil)))))
      (pss_one (ps_ret (pv 3))))), ?_⟩
    show tSeq _ _ _ [some (.ref B.p), some (.ref q), none, none] H
    refine ⟨_, rfl, q, _, rfl, lsq hq, fun l nl => ⟨Nat.zero_le _, fun m nm => ⟨_, _, rfl, ?_⟩⟩⟩
    have s1 : Same H (upd H l (.lst (xs.map V.str))) := same_upd nl
    have s2 := s1.trans (same_upd (o := .lst []) nm)
    have el : (upd (upd H l (.lst (xs.map V.str))) m (.lst [])) l = some (.lst (xs.map V.str)) := same_upd nm _ _ upd_same
    have em : (upd (upd H l (.lst (xs.map V.str))) m (.lst [])) m = some (.lst []) := upd_same
    have nm0 : H m = none := s1.free nm
    have nlm : l ≠ m := ne_of_none upd_same nm
    generalize upd (upd H l (.lst (xs.map V.str))) m (.lst []) = H0 at s2 el em
    have hlp : l ≠ B.p := fun z => by obtain ⟨o, e⟩ := hB.there; rw [← z, nl] at e; cases e
    have hll : l ≠ B.l := fun z => by obtain ⟨o, e⟩ := hB.thereL; rw [← z, nl] at e; cases e
    have hmp : m ≠ B.p := fun z => by obtain ⟨o, e⟩ := hB.there; rw [← z, nm0] at e; cases e
    have hml : m ≠ B.l := fun z => by obtain ⟨o, e⟩ := hB.thereL; rw [← z, nm0] at e; cases e
    show tSeq _ _ _ [some (.ref B.p), some (.ref q), some (.ref l), some (.ref m)] H0
    refine ⟨fun n σ H1 => ∃ ls fs, σ = [some (.ref B.p), some (.ref q), some (.ref l), some (.ref m)] ∧ n = ls.length ∧ Bag B H1 ∧ Ext B.p H H1 ∧ H1 l = some (.lst (ls.map V.str)) ∧ H1 m = some (.lst (fs.map V.str)) ∧ (fs ++ ls).Perm xs, ⟨_, xs, [], rfl, rfl, hB.ext s2, fun b o e _ => s2 _ _ e, el, em, by simp⟩, ?_⟩
    rintro n σ H1 ⟨ls, fs, rfl, rfl, hB1, ex1, hl1, hm1, hp⟩
    have hlen1 : fs.length + ls.length = xs.length := by rw [← List.length_append]; exact hp.length_eq
    have hfl : ∀ x ∈ ls, fine (.str x) = true := fun x hx => hfin x (hp.mem_iff.mp (List.mem_append_right _ hx))
    have hff := fine_strs (xs := ls) (by omega) hfl
    refine ⟨_, rfl, Nat.zero_le _, fun z nz => ?_⟩
    have s3 : Same H1 (upd H1 z (.lst [])) := same_upd nz
    have ez : (upd H1 z (.lst [])) z = some (.lst []) := upd_same
    refine ⟨_, _, dp_strs (s3 _ _ hl1), dp_strs (xs := []) ez, fine_shaped hff, by decide, ?_⟩
    generalize upd H1 z (.lst []) = H2 at s3 ez
    rw [show (List.map PyData.str ([] : List Str)) = [] from rfl, ne_nil]
    refine ⟨_, rfl, ite2 (fun e => ?_) (fun e => ?_)⟩
    · have hne : ls ≠ [] := of_decide_eq_true e
      have hpos : 0 < ls.length := List.length_pos_iff.mpr hne
      refine ⟨fun σ' H' => ∃ ls' fs', σ' = [some (.ref B.p), some (.ref q), some (.ref l), some (.ref m)] ∧ ls'.length < ls.length ∧ Bag B H' ∧ Ext B.p H H' ∧ H' l = some (.lst (ls'.map V.str)) ∧ H' m = some (.lst (fs'.map V.str)) ∧ (fs' ++ ls').Perm xs, fun σ' H' ⟨ls', fs', a1, a2, a3⟩ => ⟨_, a2, ls', fs', a1, rfl, a3⟩, ?_⟩
      refine ⟨_, rfl, .inl ⟨rfl, _, lsq (s3 _ _ hm1)⟩, _, rfl, .inl ⟨rfl, _, lsq (s3 _ _ hl1)⟩, ?_⟩
      refine ⟨_, rfl, _, rfl, V.ref l, ls.length, rfl, .inl ⟨_, lsq (s3 _ _ hl1), by rw [List.length_map]⟩, B, _, rfl, hB1.ext s3, by omega, by omega, fun r H3 r0 r1 hB3 ex3 => ?_⟩
      obtain ⟨j, rfl⟩ := Int.eq_ofNat_of_zero_le r0
      have hj : j < (ls.map V.str).length := by rw [List.length_map]; omega
      obtain ⟨k', a1, a2, a3⟩ := ixS hj
      have hl3 := ex3 _ _ (s3 _ _ hl1) hlp
      have hm3 := ex3 _ _ (s3 _ _ hm1) hmp
      rw [List.length_map] at a1 a3
      refine ⟨l, _, _, k', _, rfl, rfl, hl3, by omega, by omega, by rw [List.length_map]; exact a1, a2, ?_⟩
      have hk : k' < ls.length := a3
      have ev : (ls.map V.str)[j] = V.str ls[k'] := by
        rw [List.getElem?_map, List.getElem?_eq_getElem hk] at a2
        exact (Option.some.inj a2).symm
      rw [ev, erase_mapS]
      have el4 : (upd H3 l (.lst ((ls.eraseIdx k').map V.str))) l = some (.lst ((ls.eraseIdx k').map V.str)) := upd_same
      have em4 : (upd H3 l (.lst ((ls.eraseIdx k').map V.str))) m = some (.lst (fs.map V.str)) := by rw [upd_ne nlm.symm]; exact hm3
      have hB4 := hB3.upd (o := .lst ((ls.eraseIdx k').map V.str)) hlp hll
      have ex4 : Ext B.p H (upd H3 l (.lst ((ls.eraseIdx k').map V.str))) := fun b o e n => by
        rw [upd_ne fun z => by rw [z, nl] at e; cases e]
        exact ex3 _ _ (s3 _ _ (ex1 b o e n)) n
      generalize upd H3 l (.lst ((ls.eraseIdx k').map V.str)) = H4 at el4 em4 hB4 ex4
      refine ⟨m, _, _, rfl, rfl, em4, szl (by rw [List.length_map]; omega), ?_⟩
      refine ⟨ls.eraseIdx k', fs ++ [ls[k']], rfl, by rw [List.length_eraseIdx_of_lt hk]; omega, hB4.upd hmp hml, fun b o e n => ?_, by rw [upd_ne nlm]; exact el4, by rw [upd_same, List.map_append]; rfl, ?_⟩
      · rw [upd_ne fun z => by rw [z, nm0] at e; cases e]
        exact ex4 b o e n
      · rw [List.append_assoc]
        exact ((perm_erase ls k' hk).append_left fs).trans hp
    · have hnil : ls = [] := by simpa using e
      subst hnil
      rw [List.append_nil] at hp
      refine ⟨_, rfl, k m fs H2 nm0 (hB1.ext s3) (fun b o e n => s3 _ _ (ex1 b o e n)) (s3 _ _ hm1) hp⟩
end
end My

set_option Elab.async false
set_option linter.all false
set_option maxRecDepth 100000
namespace My
open PySem PySem.Spec PyProof.Rows L2 TL
def marks : List Str := ["x", "y", "do", "wait", "z"]
theorem marks_ok : ∀ m ∈ marks, nameD 4 (.str m) = true := by decide +kernel
theorem cut_mem {xs : List V} {lo hi : Option Int} {v : V} (h : v ∈ cutV xs lo hi) : v ∈ xs := by
  unfold cutV at h
  exact List.mem_of_mem_drop (List.mem_of_mem_take h)
theorem cut_marks : ∀ r : Fin 4, 0 < (cutV (marks.map V.str) none (some (2 + ((r.val : Nat) : Int)))).length ∧ (cutV (marks.map V.str) none (some (2 + ((r.val : Nat) : Int)))).length ≤ 5 := by decide +kernel
section
variable {P : Program} {w : World} {K : PySem.W.Frag} {mg : Str → Option Value} {base : Heap} {A : Top}
def spMarks : Sp := fun vs H Q _ => vs = [] ∧ ∀ a, H a = none → Q (.ref a) (upd H a (.lst (marks.map V.str)))
theorem ok_Lmarks (T : TopOk K mg A) : FnOk P w K mg base CX0 1 A.f_Lmarks A.d_Lmarks P_Lmarks spMarks := by
  refine T.F_Lmarks.ok sc_Lmarks (fun vs H Q E h => ?_) (fun cdv Ar outer s H vs Q E hr h => ?_)
  · obtain ⟨rfl, _⟩ := h
    rfl
  · obtain ⟨rfl, k⟩ := h
    refine ⟨_, (pss_one (ps_ret (pe_lst (pa_cons pe_str (pa_cons pe_str (pa_cons pe_str (pa_cons pe_str (pa_cons pe_str pa_nil)))))))), ?_⟩
    refine ⟨by decide, fun a na => k a na⟩
def spStep (K : PySem.W.Frag) : Sp := fun vs H Q _ => ∃ (S : Sh) (B : BagId) (v : V) (dd : PyData), vs = [.ref B.p, v] ∧ Live S H ∧ S B.p ∧ Bag B H ∧ Ds K S H v dd ∧
  ∀ (v' : V) (m : Str) (n : Int) (H' : Hp), Bag B H' → Ext B.p H H' → Ds K S H' v' (.tuple [.str m, .int n, dd]) → nameD 4 (.str m) = true → -99 ≤ n → n ≤ 99 → Q v' H'
theorem ok_Lstep (T : TopOk K mg A) : FnOk P w K mg base CX0 3 A.f_Lstep A.d_Lstep P_Lstep (spStep K) := by
  have G_Ldraw : FnOk P w K mg base CX0 1 A.f_Ldraw A.d_Ldraw P_Ldraw spDraw := ok_Ldraw T
  have G_Lmarks : FnOk P w K mg base CX0 1 A.f_Lmarks A.d_Lmarks P_Lmarks spMarks := ok_Lmarks T
  have G_Lof : FnOk P w K mg base CX0 2 A.f_Lof A.d_Lof P_Lof (spOf K) := ok_Lof T
  refine T.F_Lstep.ok sc_Lstep (fun vs H Q E h => ?_) (fun cdv Ar outer s H vs Q E hr h => ?_)
  · obtain ⟨S, B, v, dd, rfl, _⟩ := h
    rfl
  · obtain ⟨S, B, v, dd, rfl, hL, hS, hB, hv, k⟩ := h
    refine ⟨_, (pss_one (ps_ret (pe_tup (pa_cons (pe_call G_Lof (hr.mono (by decide)) (by rfl) T.g_Lof T.F_Lof.kp T.a_Lof .nil pass0 (pa_cons (pv 0) (pa_cons (pe_slice sl_list (pe_call0 G_Lmarks (hr.mono (by decide)) (by rfl) T.g_Lmarks T.F_Lmarks.kp T.a_Lmarks .nil pass0) po_none (po_some (pe_op op_add pe_int (pe_call G_Ldraw (hr.mono (by decide)) (by rfl) T.g_Ldraw T.F_Ldraw.kp T.a_Ldraw .nil pass0 (pa_cons (pv 0) (pa_cons pe_int pa_nil)))))) pa_nil))) (pa_cons (pe_call G_Lof (hr.mono (by decide)) (by rfl) T.g_Lof T.F_Lof.kp T.a_Lof .nil pass0 (pa_cons (pv 0) (pa_cons (pe_lst (pa_cons pe_int (pa_cons pe_int (pa_cons (pe_un un_neg pe_int) (pa_cons (pe_op op_sub (pe_call G_Ldraw (hr.mono (by decide)) (by rfl) T.g_Ldraw T.F_Ldraw.kp T.a_Ldraw .nil pass0 (pa_cons (pv 0) (pa_cons pe_int pa_nil))) pe_int) (pa_cons (pe_op op_sub (pe_call G_Ldraw (hr.mono (by decide)) (by rfl) T.g_Ldraw T.F_Ldraw.kp T.a_Ldraw .nil pass0 (pa_cons (pv 0) (pa_cons pe_int pa_nil))) pe_int) pa_nil)))))) pa_nil))) (pa_cons (pv 1) pa_nil)))))), ?_⟩
    show tRet _ _ [some (.ref B.p), some v] H
    refine ⟨_, rfl, rfl, fun a na => ?_⟩
    have hap : a ≠ B.p := hB.ne na
    refine ⟨_, rfl, B, 4, rfl, hB.ext (same_upd na), by decide, by decide, fun r H1 r0 r1 hB1 ex1 => ⟨_, _, rfl, rfl, _, rfl, a, _, rfl, lsq (ex1 _ _ upd_same hap), fun u nu => ?_⟩⟩
    have x1 : Ext B.p H H1 := fun b o e n => ex1 _ _ (same_upd na _ _ e) n
    obtain ⟨j, rfl⟩ := Int.eq_ofNat_of_zero_le r0
    have hc := cut_marks ⟨j, by omega⟩
    refine ⟨B, .ref u, rfl, hB1.ext (same_upd nu), .inl ⟨u, _, rfl, hB1.ne nu, .inl (lsq upd_same), hc.1, Nat.lt_of_le_of_lt hc.2 (by decide), fun m1 H2 hm hB2 ex2 => ?_⟩⟩
    have x2 : Ext B.p H H2 := fun b o e n => ex2 _ _ (same_upd nu _ _ (x1 b o e n)) n
    obtain ⟨m, mm, rfl⟩ := List.mem_map.mp (cut_mem hm)
    refine ⟨_, rfl, _, rfl, ?_⟩
    refine ⟨_, rfl, B, 199, rfl, hB2, by decide, by decide, fun r2 H3 r20 r21 hB3 ex3 => ⟨_, _, rfl, rfl, ?_⟩⟩
    refine ⟨_, rfl, B, 7, rfl, hB3, by decide, by decide, fun r3 H4 r30 r31 hB4 ex4 => ⟨_, _, rfl, rfl, ?_⟩⟩
    have x4 : Ext B.p H H4 := fun b o e n => ex4 _ _ (ex3 _ _ (x2 b o e n) n) n
    refine ⟨by show 5 ≤ sizeLine; decide, fun q nq => ?_⟩
    refine ⟨B, .ref q, rfl, hB4.ext (same_upd nq), .inl ⟨q, _, rfl, hB4.ne nq, .inl (lsq upd_same), by show 0 < 5; decide, by show 5 < 1073741824; decide, fun n1 H5 hn hB5 ex5 => ?_⟩⟩
    have x5 : Ext B.p H H5 := fun b o e n => ex5 _ _ (same_upd nq _ _ (x4 b o e n)) n
    obtain ⟨n, rfl, n0, n1⟩ : ∃ n, n1 = V.int n ∧ -99 ≤ n ∧ n ≤ 99 := by
      simp only [List.mem_cons, List.not_mem_nil, or_false] at hn
      rcases hn with rfl | rfl | rfl | rfl | rfl
      · exact ⟨_, rfl, by decide, by decide⟩
      · exact ⟨_, rfl, by decide, by decide⟩
      · exact ⟨_, rfl, by decide, by decide⟩
      · exact ⟨_, rfl, by omega, by omega⟩
      · exact ⟨_, rfl, by omega, by omega⟩
    have l5 : Live S H5 := fun b hb => by
      by_cases z : b = B.p
      · rw [z]; exact hB5.there
      · obtain ⟨o, e⟩ := hL b hb
        exact ⟨o, x5 b o e z⟩
    refine ⟨_, rfl, by show 3 ≤ sizeLine; decide, fun z nz => ?_⟩
    exact k _ m n _ (hB5.ext (same_upd nz)) (fun b o e h => same_upd nz _ _ (x5 b o e h)) (new_tup l5 nz (.cons (.str _) (.cons (.int _) (.cons (hv.byX (XS.ext x5 hS)) .nil)))) (marks_ok m mm) n0 n1
end
end My

set_option Elab.async false
set_option linter.all false
set_option maxRecDepth 100000
namespace My
open PySem PySem.Spec PyProof.Rows L2 TL
section
variable {P : Program} {w : World} {K : PySem.W.Frag} {mg : Str → Option Value} {base : Heap} {A : Top}
theorem mk_log {S : Sh} {H : Hp} {C : Addr} {σ : L2.St} {ta : TA} {rs : List Row} {E : XK} {Q : VK} (l : Live S H) (h : SA K S ta σ H (rs.map rowP)) (hv : Valid rs) (k : ∀ a H', Same H H' → LogAt K C S H' a rs → Q (.ref a) H') : StX.tMakeR C (spInit K C) E ta σ H Q := by
  refine h.run l fun vs H1 s1 hvs => ?_
  intro x dx nx ndx ne
  have l1 := l.same s1
  have nn : Now S H1 (fun a => S a ∨ a = x) (upd (upd H1 dx (.own x)) x (.ins C dx [])) := (Now.of l1 (same_upd ndx)).trans (Now.add (l1.same (same_upd ndx)) (by rw [upd_ne ne.symm]; exact nx))
  refine ⟨_, x, dx, vs, rs, rfl, nn.live, .inr rfl, upd_same, hvs.now nn, hv, fun r o H' hk' hx' hr' ho' => ⟨rfl, ?_⟩⟩
  refine k x H' (fun b u hb => ?_) ⟨hv, dx, r, o, l1.ne nx, hx', hr'.less fun b z => .inl z, ho'.less fun b z => .inl z⟩
  have hb1 := s1 _ _ hb
  exact hk' b u (nn.same _ _ hb1) fun z => by rw [z, nx] at hb1; cases hb1
def spLlog (K : PySem.W.Frag) (C : Addr) : Sp := fun vs H Q _ => ∃ (S : Sh) (v : V) (rs : List Row), vs = [v] ∧ Live S H ∧ Ds K S H v (.list (rs.map rowP)) ∧ Valid rs ∧ ∀ a H', Same H H' → LogAt K C S H' a rs → Q (.ref a) H'
theorem rowsP_fine {rs : List Row} (h : Valid rs) : fine (.list (rs.map rowP)) = true := fine_seq (k := true) (by rw [List.length_map]; have := h.few; omega) fun d hd => by
  obtain ⟨r, m, rfl⟩ := List.mem_map.mp hd
  exact ⟨(h.row m).1, Nat.le_trans (h.row m).2.1 (by decide)⟩
set_option maxHeartbeats 0 in
theorem ok_Llog (T : TopOk K mg A) : FnOk P w K mg base CX0 10 A.f_Llog A.d_Llog P_Llog (spLlog K A.c_Log) := by
  have G_i_Log : FnR P w K mg base CX0 8 A.f_i_Log (spInit K A.c_Log) := ok_init T
  refine T.F_Llog.ok sc_Llog (fun vs H Q E h => ?_) (fun cdv Ar outer s H vs Q E hr h => ?_)
  · obtain ⟨S, v, rs, rfl, _⟩ := h
    rfl
  · obtain ⟨S, v, rs, rfl, hL, hv, hp, k⟩ := h
    refine ⟨_, (pss_cons (ps_if (pt_cmpR op_lt (pe_callB call_len (by rfl) T.b_len (by decide +kernel) (pa_cons (pv 0) pa_nil)) pe_int (nomark _))
      (pss_one (ps_ret (pe_ifExp (pt_cmpR (L2.op_eqD hr.units) (pv 0) (pe_lst pa_nil) (nomark _)) (pe_makeR0 T.mk_Log G_i_Log (hr.mono (by decide)) (by rfl) T.m_Log pass0) (StX.pe_makeR T.mk_Log G_i_Log (hr.mono (by decide)) (by rfl) T.m_Log pass0 (pa_cons (pe_ix ix_seq (pv 0) pe_int (fun _ _ => rfl)) pa_nil)))))
      pss_nil)
      (pss_cons (ps_if (pt_cmpR op_lt (pe_callB call_len (by rfl) T.b_len (by decide +kernel) (pa_cons (pv 0) pa_nil)) pe_int (nomark _))
      (pss_one (ps_ret (pe_ifExp (pt_cmpR op_eq (pe_callB call_len (by rfl) T.b_len (by decide +kernel) (pa_cons (pv 0) pa_nil)) pe_int (nomark _)) (StX.pe_makeR T.mk_Log G_i_Log (hr.mono (by decide)) (by rfl) T.m_Log pass0 (pa_cons (pe_ix ix_seq (pv 0) pe_int (fun _ _ => rfl)) (pa_cons (pe_ix ix_seq (pv 0) pe_int (fun _ _ => rfl)) pa_nil))) (StX.pe_makeR T.mk_Log G_i_Log (hr.mono (by decide)) (by rfl) T.m_Log pass0 (pa_cons (pe_ix ix_seq (pv 0) pe_int (fun _ _ => rfl)) (pa_cons (pe_ix ix_seq (pv 0) pe_int (fun _ _ => rfl)) (pa_cons (pe_ix ix_seq (pv 0) pe_int (fun _ _ => rfl)) pa_nil)))))))
      pss_nil)
      (pss_cons (ps_if (pt_cmpR op_eq (pe_callB call_len (by rfl) T.b_len (by decide +kernel) (pa_cons (pv 0) pa_nil)) pe_int (nomark _))
      (pss_one (ps_ret (StX.pe_makeR T.mk_Log G_i_Log (hr.mono (by decide)) (by rfl) T.m_Log pass0 (pa_cons (pe_ix ix_seq (pv 0) pe_int (fun _ _ => rfl)) (pa_cons (pe_ix ix_seq (pv 0) pe_int (fun _ _ => rfl)) (pa_cons (pe_ix ix_seq (pv 0) pe_int (fun _ _ => rfl)) (pa_cons (pe_ix ix_seq (pv 0) pe_int (fun _ _ => rfl)) pa_nil)))))))
      pss_nil)
      (pss_cons (ps_if (pt_cmpR op_eq (pe_callB call_len (by rfl) T.b_len (by decide +kernel) (pa_cons (pv 0) pa_nil)) pe_int (nomark _))
      (pss_one (ps_ret (StX.pe_makeR T.mk_Log G_i_Log (hr.mono (by decide)) (by rfl) T.m_Log pass0 (pa_cons (pe_ix ix_seq (pv 0) pe_int (fun _ _ => rfl)) (pa_cons (pe_ix ix_seq (pv 0) pe_int (fun _ _ => rfl)) (pa_cons (pe_ix ix_seq (pv 0) pe_int (fun _ _ => rfl)) (pa_cons (pe_ix ix_seq (pv 0) pe_int (fun _ _ => rfl)) (pa_cons (pe_ix ix_seq (pv 0) pe_int (fun _ _ => rfl)) pa_nil))))))))
      pss_nil)
      (pss_cons (ps_if (pt_cmpR op_eq (pe_callB call_len (by rfl) T.b_len (by decide +kernel) (pa_cons (pv 0) pa_nil)) pe_int (nomark _))
      (pss_one (ps_ret (StX.pe_makeR T.mk_Log G_i_Log (hr.mono (by decide)) (by rfl) T.m_Log pass0 (pa_cons (pe_ix ix_seq (pv 0) pe_int (fun _ _ => rfl)) (pa_cons (pe_ix ix_seq (pv 0) pe_int (fun _ _ => rfl)) (pa_cons (pe_ix ix_seq (pv 0) pe_int (fun _ _ => rfl)) (pa_cons (pe_ix ix_seq (pv 0) pe_int (fun _ _ => rfl)) (pa_cons (pe_ix ix_seq (pv 0) pe_int (fun _ _ => rfl)) (pa_cons (pe_ix ix_seq (pv 0) pe_int (fun _ _ => rfl)) pa_nil)))))))))
      pss_nil)
      (pss_one (ps_ret (StX.pe_makeR T.mk_Log G_i_Log (hr.mono (by decide)) (by rfl) T.m_Log pass0 (pa_cons (pe_ix ix_seq (pv 0) pe_int (fun _ _ => rfl)) (pa_cons (pe_ix ix_seq (pv 0) pe_int (fun _ _ => rfl)) (pa_cons (pe_ix ix_seq (pv 0) pe_int (fun _ _ => rfl)) (pa_cons (pe_ix ix_seq (pv 0) pe_int (fun _ _ => rfl)) (pa_cons (pe_ix ix_seq (pv 0) pe_int (fun _ _ => rfl)) (pa_cons (pe_ix ix_seq (pv 0) pe_int (fun _ _ => rfl)) (pa_cons (pe_ix ix_seq (pv 0) pe_int (fun _ _ => rfl)) pa_nil))))))))))))))), ?_⟩
    have hf := rowsP_fine hp
    have hx : ∀ (j : Nat) (H' : Hp) (d : PyData), Same H H' → (rs.map rowP)[j]? = some d → SV K S (tOp (rIx K) (tVar 0) (tC (.int (j : Nat)))) [some v] H' d := fun j H' d s e => sv_ixL (sv_var rfl (hv.same s)) sv_int (atI_of e)
    have hlt : ∀ (n : Nat) (H' : Hp), Same H H' → SB S (tTest (tOp (rI0 fun i j => .bl (decide (i < j))) (tCB (fun xs H Q => ∃ x n, xs = [x] ∧ LenV K x H n ∧ Q (.int (n : Nat)) H) (tCons (tVar 0) tNil)) (tC (.int (n : Nat))))) [some v] H' (decide (rs.length < n)) := fun n H' s => sb_is (sb_test (sv_lt (sv_lenL (sv_var rfl (hv.same s))) sv_int)) (by rw [List.length_map]; exact decide_eq_decide.mpr (by omega))
    have heq : ∀ (n : Nat) (H' : Hp), Same H H' → SB S (tTest (tOp rEq (tCB (fun xs H Q => ∃ x n, xs = [x] ∧ LenV K x H n ∧ Q (.int (n : Nat)) H) (tCons (tVar 0) tNil)) (tC (.int (n : Nat))))) [some v] H' (decide (rs.length = n)) := fun n H' s => sb_is (sb_test (sv_eqI (sv_lenL (sv_var rfl (hv.same s))) sv_int)) (by rw [List.length_map]; exact decide_eq_decide.mpr (by omega))
    have hfew := hp.few
    show tSeq _ _ _ [some v] H
    refine seq_if hL (hlt 2 H (Same.refl _)) (fun z H1 s1 l1 => ?_) fun z H1 s1 l1 => ?_
    · refine SB.run (sb_test (sv_eqD (K := K) (sv_var (i := 0) rfl (hv.same s1)) (sv_lst sa_nil (by decide)) hf (by decide))) l1 fun H2 s2 => ?_
      have s12 := s1.trans s2
      rcases rs with _ | ⟨r0, rs⟩
      · exact iteT (mk_log (K := K) (S := S) (rs := []) (l1.same s2) sa_nil hp fun a H3 s3 hl => k a H3 (s12.trans s3) hl)
      · rcases rs with _ | ⟨r1, rs⟩
        · exact iteF (mk_log (K := K) (S := S) (rs := [r0]) (l1.same s2) (sa_cons (hx 0 H2 _ s12 rfl) sa_nil) hp fun a H3 s3 hl => k a H3 (s12.trans s3) hl)
        · have := of_decide_eq_true z
          simp at this
          omega
    have z := of_decide_eq_false z
    rcases rs with _ | ⟨r0, rs⟩
    · exact absurd (by decide) z
    rcases rs with _ | ⟨r1, rs⟩
    · exact absurd (by show 1 < 2; decide) z
    refine seq_if l1 (hlt 4 H1 s1) (fun z H2 s2 l2 => ?_) fun z H2 s2 l2 => ?_
    · refine SB.run (heq 2 H2 (s1.trans s2)) l2 fun H3 s3 => ?_
      have s13 := (s1.trans s2).trans s3
      rcases rs with _ | ⟨r2, rs⟩
      · exact iteT (mk_log (K := K) (S := S) (rs := [r0, r1]) (l2.same s3) (sa_cons (hx 0 H3 _ s13 rfl) (sa_cons (hx 1 H3 _ s13 rfl) sa_nil)) hp fun a H4 s4 hl => k a H4 (s13.trans s4) hl)
      rcases rs with _ | ⟨r3, rs⟩
      · exact iteF (mk_log (K := K) (S := S) (rs := [r0, r1, r2]) (l2.same s3) (sa_cons (hx 0 H3 _ s13 rfl) (sa_cons (hx 1 H3 _ s13 rfl) (sa_cons (hx 2 H3 _ s13 rfl) sa_nil))) hp fun a H4 s4 hl => k a H4 (s13.trans s4) hl)
      · have := of_decide_eq_true z
        simp at this
        omega
    have z := of_decide_eq_false z
    rcases rs with _ | ⟨r2, rs⟩
    · exact absurd (by show 2 < 4; decide) z
    rcases rs with _ | ⟨r3, rs⟩
    · exact absurd (by show 3 < 4; decide) z
    have s02 := s1.trans s2
    refine seq_if l2 (heq 4 H2 s02) (fun z H3 s3 l3 => ?_) fun z H3 s3 l3 => ?_
    · have z := of_decide_eq_true z
      rcases rs with _ | ⟨r4, rs⟩
      · exact mk_log (K := K) (S := S) (rs := [r0, r1, r2, r3]) l3 (sa_cons (hx 0 H3 _ (s02.trans s3) rfl) (sa_cons (hx 1 H3 _ (s02.trans s3) rfl) (sa_cons (hx 2 H3 _ (s02.trans s3) rfl) (sa_cons (hx 3 H3 _ (s02.trans s3) rfl) sa_nil)))) hp fun a H4 s4 hl => k a H4 ((s02.trans s3).trans s4) hl
      · simp at z
    have z := of_decide_eq_false z
    rcases rs with _ | ⟨r4, rs⟩
    · exact absurd rfl z
    have s03 := s02.trans s3
    refine seq_if l3 (heq 5 H3 s03) (fun z H4 s4 l4 => ?_) fun z H4 s4 l4 => ?_
    · have z := of_decide_eq_true z
      rcases rs with _ | ⟨r5, rs⟩
      · exact mk_log (K := K) (S := S) (rs := [r0, r1, r2, r3, r4]) l4 (sa_cons (hx 0 H4 _ (s03.trans s4) rfl) (sa_cons (hx 1 H4 _ (s03.trans s4) rfl) (sa_cons (hx 2 H4 _ (s03.trans s4) rfl) (sa_cons (hx 3 H4 _ (s03.trans s4) rfl) (sa_cons (hx 4 H4 _ (s03.trans s4) rfl) sa_nil))))) hp fun a H5 s5 hl => k a H5 ((s03.trans s4).trans s5) hl
      · simp at z
    have z := of_decide_eq_false z
    rcases rs with _ | ⟨r5, rs⟩
    · exact absurd rfl z
    have s04 := s03.trans s4
    refine seq_if l4 (heq 6 H4 s04) (fun z H5 s5 l5 => ?_) fun z H5 s5 l5 => ?_
    · have z := of_decide_eq_true z
      rcases rs with _ | ⟨r6, rs⟩
      · exact mk_log (K := K) (S := S) (rs := [r0, r1, r2, r3, r4, r5]) l5 (sa_cons (hx 0 H5 _ (s04.trans s5) rfl) (sa_cons (hx 1 H5 _ (s04.trans s5) rfl) (sa_cons (hx 2 H5 _ (s04.trans s5) rfl) (sa_cons (hx 3 H5 _ (s04.trans s5) rfl) (sa_cons (hx 4 H5 _ (s04.trans s5) rfl) (sa_cons (hx 5 H5 _ (s04.trans s5) rfl) sa_nil)))))) hp fun a H6 s6 hl => k a H6 ((s04.trans s5).trans s6) hl
      · simp at z
    have z := of_decide_eq_false z
    have h6 := hfew
    simp only [List.length_cons] at h6 z
    omega
end
end My

set_option Elab.async false
set_option linter.all false
set_option maxRecDepth 100000
namespace My
open PySem PySem.Spec PyProof.Rows L2 TL
section
variable {P : Program} {w : World} {K : PySem.W.Frag} {mg : Str → Option Value} {base : Heap} {A : Top}
theorem sv_cat {S : Sh} {σ : L2.St} {H : Hp} {ta tb : TE} {ds es : List PyData} (ha : SV K S ta σ H (.list ds)) (hb : SV K S tb σ H (.list es)) (hl : ds.length + es.length ≤ 5000) : SV K S (tOp rCat ta tb) σ H (.list (ds ++ es)) := sv_op ha hb fun S1 H1 u v Q l hx hy q => by
  obtain ⟨a, xs, rfl, l1, h1⟩ := hx.l
  obtain ⟨b, ys, rfl, l2, h2⟩ := hy.l
  refine ⟨a, b, xs, ys, rfl, rfl, l1.2, l2.2, by rw [h1.length, h2.length]; exact sz (by omega), fun p np => q _ _ (same_upd np) (new_lst l np (h1.app h2))⟩
abbrev rAddT : R2 := fun x y H Q => ∃ i j, x = .str i ∧ y = .str j ∧ i.length + j.length ≤ sizeLine ∧ Q (.str (i ++ j)) H
abbrev rJoinT (K : PySem.W.Frag) : V → List V → Hp → VK → Prop := fun x xs H Q => ∃ a p, ∃ ys : List Str, x = .str a ∧ xs = [.ref p] ∧ (SqL K H p (ys.map V.str) ∨ SqT K H p (ys.map V.str)) ∧ (ys.map (·.length)).sum + ys.length * a.length ≤ 16777216 ∧ Q (.str (Txt.join a ys)) H
abbrev lineTE (K : PySem.W.Frag) : TE := tOp rAddT (tM1 (rJoinT K) (tC (.str " ")) (tOp rCat (tLst (tCons (tOp rAddT (tVar 1) (tC (.str ":"))) tNil)) (tLc (iAny K (tVar 2)) (gName 3) tYes (tCall (spText K) [] E0 (tCons (tVar 3) tNil)) [3]))) (tC (.str "\n"))
def spLtext (K : PySem.W.Frag) : Sp := spT K (fun rs : List Row => [.list (rs.map rowP)]) Valid fun rs => .str (logText rs)
theorem empty_app (x : Str) : Str.empty ++ x = x := ext_tl (tl_e x)
def rowTextE : PyData → PyData
  | .tuple [.str n, e] => .str (Txt.join " " ((n ++ ":") :: (innD (.tuple [.str n, e])).map textD) ++ "\n")
  | _ => .none
theorem rowTextE_eq (r : Row) : rowTextE (rowP r) = .str (rowText r.n r.s) := by
  show PyData.str (Txt.join " " ((r.n ++ ":") :: (innD (rowP r)).map textD) ++ "\n") = _
  rw [inn_row, List.map_map]
  show _ = PyData.str (Txt.join " " (((Str.empty ++ r.n) ++ ":") :: r.s.map textS) ++ "\n")
  rw [empty_app]
  rfl
set_option maxHeartbeats 1000000 in
theorem ok_Llog_text (T : TopOk K mg A) : FnOk P w K mg base CX0 2 A.f_Llog_text A.d_Llog_text P_Llog_text (spLtext K) := by
  have G_Lstep_text : FnOk P w K mg base CX0 1 A.f_Lstep_text A.d_Lstep_text P_Lstep_text (spText K) := ok_Lstep_text T
  refine T.F_Llog_text.ok sc_Llog_text (fun vs H Q E h => ?_) (fun cdv Ar outer s H vs Q E hr h => ?_)
  · obtain ⟨S, rs, _, h, _⟩ := h
    obtain ⟨v, rfl, _⟩ := h.one
    rfl
  · obtain ⟨S, rs, hL, hds, hp, k⟩ := h
    obtain ⟨v, rfl, hv⟩ := hds.one
    refine ⟨_, (pss_one (ps_ret (pe_join pe_str (pe_lc (own := [("_law_name", 1), ("_law_steps", 2)]) (g := gTup K 2 (gCons (gName 1) (gCons (gName 2) gNil))) (te := (lineTE K)) (by rfl) sc_Llog_text.nd (pi_any (pv 0)) (blkOk_by (own := [("_law_name", 1), ("_law_steps", 2)]) (N := N_Llog_text) (sc := defScope s_Llog_text) (by decide +kernel)) (fun _ _ _ _ _ => (pg_tup rfl (pgs_cons (pg_name (i := 1) sc_Llog_text.nd rfl (by first | exact Or.inl rfl | exact Or.inr rfl)) (pgs_cons (pg_name (i := 2) sc_Llog_text.nd rfl (by first | exact Or.inl rfl | exact Or.inr rfl)) pgs_nil)))) (fun _ _ _ _ _ => pts_nil) (fun _ _ _ _ _ => (pe_op op_add_str (pe_join pe_str (pe_op L2.op_cat (pe_lst (pa_cons (pe_op op_add_str (pv 1) pe_str) pa_nil)) (pe_lc (own := [("_law_step_here", 3)]) (g := gName 3) (by rfl) sc_Llog_text.nd (pi_any (pv 2)) (blkOk_by (own := [("_law_step_here", 3)]) (N := N_Llog_text) (sc := { kind := .function, names := [(".0", .local), ("_law_name", .local), ("_law_steps", .local)], isGenerator := false, isCoroutine := false }) (by decide +kernel)) (fun _ _ _ _ _ => (pg_name (i := 3) sc_Llog_text.nd rfl (by first | exact Or.inl rfl | exact Or.inr rfl))) (fun _ _ _ _ _ => pts_nil) (fun _ _ _ _ _ => (pe_call G_Lstep_text (hr.mono (by decide)) (by rfl) T.g_Lstep_text T.F_Lstep_text.kp T.a_Lstep_text .nil pass0 (pa_cons (pv 3) pa_nil)))))) pe_str)))))), ?_⟩
    show tRet _ _ [some v, none, none, none] H
    have hv : Ds K S H v (.list (rs.map rowP)) := hv
    have hp : Valid rs := hp
    have hlc : SV K S (tLc (iAny K (tVar 0)) (gTup K 2 (gCons (gName 1) (gCons (gName 2) gNil))) tYes (lineTE K) [1, 2]) [some v, none, none, none] H (.list ((rs.map fun r => rowText r.n r.s).map PyData.str)) :=
      sv_is (sv_lcM (K := K) (S := S) (si_l (sv_var rfl hv)) (by rw [List.length_map]; have := hp.few; omega) rowTextE fun d S' H' v' Q m n' hd kk => by
        obtain ⟨r, mr, rfl⟩ := List.mem_map.mp m
        rw [rowTextE_eq] at kk
        refine g_tup2 hd fun x y hx hy => kk [some v, some x, some y, none] rfl ?_
        have hss : r.s.length ≤ 20 ∧ ∀ s ∈ r.s, stepD (stpP s) = true := ⟨hp.len r mr, hp.step r mr⟩
        have hn := hp.name r mr
        have h6 := (name_inv hn).2.2
        have hin : SV K S' (tLc (iAny K (tVar 2)) (gName 3) tYes (tCall (spText K) [] E0 (tCons (tVar 3) tNil)) [3]) [some v, some x, some y, none] H' (.list ((r.s.map textS).map PyData.str)) :=
          sv_is (d := .list ((r.s.map stpP).map fun d => .str (textD d))) (sv_lcM (K := K) (S := S') (si_any (k := r.k) (ds := r.s.map stpP) (sv_var rfl hy)) (by rw [List.length_map]; have := hss.1; omega) (fun d => .str (textD d)) fun d S'' H'' v'' Q m n'' hd kk => by
            obtain ⟨s', ms, rfl⟩ := List.mem_map.mp m
            exact kk [some v, some x, some y, some v''] rfl (sv_text (sv_var rfl hd) (hss.2 s' ms))) (by
            rw [List.map_map, List.map_map]
            rfl)
        have hpl := parts_len hn hss.2
        have hl2 := join_len2 " " _ hpl
        have hl3 := line_len hn hss.2 hss.1
        rw [empty_app, List.length_cons, List.length_map] at hl2
        have e1 : (":" : Str).length = 1 := rfl
        have e2 : (" " : Str).length = 1 := rfl
        have e3 : ("\n" : Str).length = 1 := rfl
        have hcat : SV K S' (tOp rCat (tLst (tCons (tOp rAddT (tVar 1) (tC (.str ":"))) tNil)) (tLc (iAny K (tVar 2)) (gName 3) tYes (tCall (spText K) [] E0 (tCons (tVar 3) tNil)) [3])) [some v, some x, some y, none] H' (.list (((r.n ++ ":") :: r.s.map textS).map PyData.str)) :=
          sv_cat (ds := [.str (r.n ++ ":")]) (sv_lst (sa_cons (sv_addS (sv_var rfl hx) sv_str (by rw [e1]; omega)) sa_nil) rfl) hin (by rw [List.length_map, List.length_map]; have := hss.1; show 1 + _ ≤ 5000; omega)
        have hj := sv_join (x := " ") (ys := (r.n ++ ":") :: r.s.map textS) (sv_str (K := K) (S := S') (σ := [some v, some x, some y, none]) (H := H')) hcat (by
          rw [List.length_cons, List.length_map, e2]
          have := hss.1
          omega)
        have hle : Txt.join " " ((r.n ++ ":") :: r.s.map textS) = lineOf r.n r.s := by
          unfold lineOf
          rw [empty_app]
        rw [hle] at hj
        exact sv_addS hj sv_str (by rw [e3]; omega)) (by
        rw [List.map_map, List.map_map]
        congr 1
        exact List.map_congr_left fun r _ => rowTextE_eq r)
    suffices hlen : ((rs.map fun r => rowText r.n r.s).map (·.length)).sum + (rs.map fun r => rowText r.n r.s).length * ("" : Str).length ≤ 16777216 by
      have k : ∀ v H', Same H H' → Ds K S H' v (.str (Txt.join "" (rs.map fun r => rowText r.n r.s))) → Q v H' := k
      generalize (rs.map fun r => rowText r.n r.s) = ys at hlc hlen k
      exact ret_sv (K := K) (S := S) hL (sv_join (x := "") sv_str hlc hlen) k
    have h1 := join_len2 "" (rs.map fun r => rowText r.n r.s) (k := 442) fun p hp' => by
      obtain ⟨r, mr, rfl⟩ := List.mem_map.mp hp'
      have := line_len (hp.name r mr) (hp.step r mr) (hp.len r mr)
      show (lineOf r.n r.s ++ "\n").length ≤ 442
      rw [app_len]
      show _ + 1 ≤ 442
      omega
    rw [List.length_map] at h1 ⊢
    have := hp.few
    have e : ("" : Str).length = 0 := rfl
    rw [e]
    omega
end
end My

set_option Elab.async false
set_option linter.all false
set_option maxRecDepth 100000
namespace My
open PySem PySem.Spec PyProof.Rows L2 TL
/-! ### rows that grow by a step -/
def addR (r : Row) (s : Stp) : Row := ⟨r.n, r.k, r.s ++ [s]⟩
def addS : List Row → Nat → Stp → List Row
  | [], _, _ => []
  | r :: rs, 0, s => addR r s :: rs
  | r :: rs, i + 1, s => r :: addS rs i s
theorem addS_at (s : Stp) : ∀ (rs : List Row) (i j : Nat), (addS rs i s)[j]? = if j = i then (rs[j]?).map (fun r => addR r s) else rs[j]?
  | [], i, j => by simp [addS]
  | r :: rs, 0, 0 => rfl
  | r :: rs, 0, j + 1 => rfl
  | r :: rs, i + 1, 0 => rfl
  | r :: rs, i + 1, j + 1 => by
    show (addS rs i s)[j]? = _
    rw [addS_at s rs i j]
    by_cases h : j = i
    · subst h; simp
    · rw [if_neg h, if_neg (by omega)]; rfl
theorem addS_names (s : Stp) : ∀ (rs : List Row) (i : Nat), (addS rs i s).map (·.n) = rs.map (·.n)
  | [], _ => rfl
  | r :: rs, 0 => rfl
  | r :: rs, i + 1 => by
    show r.n :: (addS rs i s).map (·.n) = _
    rw [addS_names s rs i]
    rfl
theorem addS_len (s : Stp) (rs : List Row) (i : Nat) : (addS rs i s).length = rs.length := by
  have := congrArg List.length (addS_names s rs i)
  simpa using this
theorem addS_mem {s : Stp} : ∀ {rs : List Row} {i : Nat} {r : Row}, r ∈ addS rs i s → r ∈ rs ∨ ∃ r0, rs[i]? = some r0 ∧ r = addR r0 s
  | [], _, _, h => by cases h
  | q :: rs, 0, r, h => by
    rcases List.mem_cons.mp h with rfl | h
    · exact .inr ⟨q, rfl, rfl⟩
    · exact .inl (List.mem_cons_of_mem _ h)
  | q :: rs, i + 1, r, h => by
    rcases List.mem_cons.mp h with rfl | h
    · exact .inl (List.mem_cons_self ..)
    · rcases addS_mem h with h | ⟨r0, a, b⟩
      · exact .inl (List.mem_cons_of_mem _ h)
      · exact .inr ⟨r0, a, b⟩
theorem deeds_cons (r : Row) (rs : List Row) : deeds (r :: rs) = r.s.filterMap (·.d) ++ deeds rs := rfl
theorem addS_deeds {s : Stp} : ∀ {rs : List Row} {i : Nat}, i < rs.length → (deeds (addS rs i s)).Perm (s.d.toList ++ deeds rs)
  | [], _, h => by cases h
  | r :: rs, 0, _ => by
    show (deeds (addR r s :: rs)).Perm _
    rw [deeds_cons, deeds_cons]
    show ((r.s ++ [s]).filterMap (·.d) ++ deeds rs).Perm _
    rw [List.filterMap_append]
    have e : [s].filterMap (·.d) = s.d.toList := by
      cases hd : s.d <;> simp [hd]
    rw [e, ← List.append_assoc]
    exact List.perm_append_comm.append_right _
  | r :: rs, i + 1, h => by
    show (deeds (r :: addS rs i s)).Perm _
    rw [deeds_cons, deeds_cons]
    refine ((addS_deeds (s := s) (rs := rs) (i := i) (by simpa using h)).append_left _).trans ?_
    rw [← List.append_assoc, ← List.append_assoc]
    exact List.perm_append_comm.append_right _
theorem addS_step {s : Stp} {rs : List Row} {i : Nat} {r : Row} (hr : rs[i]? = some r) (a b : Nat) : stepAt (addS rs i s) a b = if a = i ∧ b = r.s.length then some s else stepAt rs a b := by
  unfold stepAt
  rw [addS_at]
  by_cases h : a = i
  · subst h
    rw [if_pos rfl, hr]
    show (r.s ++ [s])[b]? = _
    by_cases hb : b = r.s.length
    · subst hb
      rw [if_pos ⟨rfl, rfl⟩, List.getElem?_concat_length]
    · rw [if_neg fun z => hb z.2]
      show _ = r.s[b]?
      by_cases hl : b < r.s.length
      · rw [List.getElem?_append_left hl]
      · rw [List.getElem?_eq_none (by simp; omega), List.getElem?_eq_none (by omega)]
  · rw [if_neg h, if_neg fun z => h z.1]
/-- a line of the steps: all of them, each behind those before it in its row, what is received behind what is sent -/
def LinV (rs : List Row) : Prop := ∃ L : List (Nat × Nat), (∀ p ∈ L, (stepAt rs p.1 p.2).isSome = true) ∧ (∀ i j s, stepAt rs i j = some s → (i, j) ∈ L) ∧ ∀ k i j, L[k]? = some (i, j) → (∀ j', j' < j → (i, j') ∈ L.take k) ∧
  ∀ s w, stepAt rs i j = some s → s.d = some (false, w) → ∃ i' j' s', (i', j') ∈ L.take k ∧ stepAt rs i' j' = some s' ∧ s'.d = some (true, w)
theorem LinV.lin {rs : List Row} (h : LinV rs) : Lin rs := by
  obtain ⟨L, _, a, b⟩ := h
  exact ⟨L, a, b⟩
theorem LinV.add {rs : List Row} {i : Nat} {s : Stp} {r : Row} (h : LinV rs) (hr : rs[i]? = some r) (hs : ∀ w, s.d = some (false, w) → (true, w) ∈ deeds rs) : LinV (addS rs i s) := by
  obtain ⟨L, h0, h1, h2⟩ := h
  have hnew : stepAt rs i r.s.length = none := by
    unfold stepAt
    rw [hr]
    exact List.getElem?_eq_none (Nat.le_refl _)
  have mono : ∀ a b s', stepAt rs a b = some s' → stepAt (addS rs i s) a b = some s' := fun a b s' e => by
    rw [addS_step hr, if_neg]
    · exact e
    · rintro ⟨rfl, rfl⟩
      rw [hnew] at e
      cases e
  have hin : ∀ a b, (a, b) ∈ L → ¬ (a = i ∧ b = r.s.length) := fun a b m z => by
    have := h0 _ m
    dsimp only at this
    rw [z.1, z.2, hnew] at this
    cases this
  refine ⟨L ++ [(i, r.s.length)], fun p m => ?_, fun a b s' e => ?_, fun k a b e => ?_⟩
  · rcases List.mem_append.mp m with m | m
    · obtain ⟨s', hs'⟩ := Option.isSome_iff_exists.mp (h0 p m)
      rw [mono _ _ _ hs']
      rfl
    · rw [List.mem_singleton.mp m]
      show (stepAt (addS rs i s) i r.s.length).isSome = true
      rw [addS_step hr, if_pos ⟨rfl, rfl⟩]
      rfl
  · rw [addS_step hr] at e
    by_cases z : a = i ∧ b = r.s.length
    · rw [z.1, z.2]
      exact List.mem_append_right _ (List.mem_singleton.mpr rfl)
    · rw [if_neg z] at e
      exact List.mem_append_left _ (h1 a b s' e)
  · by_cases hk : k < L.length
    · rw [List.getElem?_append_left hk] at e
      obtain ⟨c1, c2⟩ := h2 k a b e
      have et : (L ++ [(i, r.s.length)]).take k = L.take k := List.take_append_of_le_length (Nat.le_of_lt hk)
      rw [et]
      refine ⟨c1, fun s' w es hw => ?_⟩
      rw [addS_step hr, if_neg (hin a b (List.mem_of_getElem? e))] at es
      obtain ⟨i', j', s2, m2, e2, d2⟩ := c2 s' w es hw
      exact ⟨i', j', s2, m2, mono _ _ _ e2, d2⟩
    · rw [List.getElem?_append_right (Nat.le_of_not_lt hk)] at e
      have hk' : k = L.length := by
        by_cases z : k - L.length = 0
        · omega
        · rw [List.getElem?_eq_none (by simp; omega)] at e
          cases e
      subst hk'
      rw [Nat.sub_self] at e
      have e' : (i, r.s.length) = (a, b) := Option.some.inj e
      cases e'
      have et : (L ++ [(i, r.s.length)]).take L.length = L := by rw [List.take_append_of_le_length (Nat.le_refl _), List.take_length]
      rw [et]
      refine ⟨fun j' hj => ?_, fun s' w es hw => ?_⟩
      · exact h1 i j' _ (stepAt_of hr (List.getElem?_eq_getElem hj))
      · rw [addS_step hr, if_pos ⟨rfl, rfl⟩] at es
        cases es
        obtain ⟨i', j', s2, e2, d2⟩ := mem_deeds.mp (hs w hw)
        exact ⟨i', j', s2, h1 _ _ _ e2, mono _ _ _ e2, d2⟩
/-! ### what holds between two turns of the law -/
structure MI (ns ws : List Str) (rs : List Row) (op : List Str) (fr : Nat) : Prop where
  names : rs.map (·.n) = ns
  kind : ∀ r ∈ rs, r.k = true
  len : ∀ r ∈ rs, r.s.length ≤ 20
  step : ∀ r ∈ rs, ∀ s ∈ r.s, stepD (stpP s) = true
  once : (deeds rs).Nodup
  used : ∀ b w, (b, w) ∈ deeds rs → w ∈ ws.take fr
  opn : op.Nodup
  opl : op.length ≤ fr
  ops : ∀ w ∈ op, (true, w) ∈ deeds rs ∧ (false, w) ∉ deeds rs
  sent : ∀ w, (false, w) ∈ deeds rs → (true, w) ∈ deeds rs
  lin : LinV rs
theorem MI.valid {ns ws : List Str} {rs : List Row} {op : List Str} {fr : Nat} (h : MI ns ws rs op fr) (h6 : ns.length ≤ 6) (hn : ∀ n ∈ ns, nameD 6 (.str n) = true) (hd : ns.Nodup) : Valid rs where
  few := by have := congrArg List.length h.names; rw [List.length_map] at this; omega
  name := fun r m => hn _ (by rw [← h.names]; exact List.mem_map_of_mem m)
  nd := by rw [h.names]; exact hd
  len := h.len
  step := h.step
  once := h.once
  sent := h.sent
  done := lin_done h.lin.lin
theorem MI.start {ns ws : List Str} : MI ns ws (ns.map fun n => ⟨n, true, []⟩) [] 0 where
  names := by rw [List.map_map]; exact List.map_id _
  kind := fun r m => by obtain ⟨n, _, rfl⟩ := List.mem_map.mp m; rfl
  len := fun r m => by obtain ⟨n, _, rfl⟩ := List.mem_map.mp m; exact Nat.zero_le _
  step := fun r m => by obtain ⟨n, _, rfl⟩ := List.mem_map.mp m; exact fun _ h => by cases h
  once := by
    have : deeds (ns.map fun n => ⟨n, true, []⟩) = [] := by
      induction ns with
      | nil => rfl
      | cons n ns ih => rw [List.map_cons, deeds_cons, ih]; rfl
    rw [this]
    exact List.nodup_nil
  used := fun b w h => by
    obtain ⟨i, j, s, e, _⟩ := mem_deeds.mp h
    obtain ⟨r, a, b⟩ := stepAt_row e
    obtain ⟨n, _, rfl⟩ := List.mem_map.mp (List.mem_of_getElem? a)
    cases b
  opn := List.nodup_nil
  opl := Nat.le_refl _
  ops := fun w h => by cases h
  sent := fun w h => by
    obtain ⟨i, j, s, e, _⟩ := mem_deeds.mp h
    obtain ⟨r, a, b⟩ := stepAt_row e
    obtain ⟨n, _, rfl⟩ := List.mem_map.mp (List.mem_of_getElem? a)
    cases b
  lin := by
    refine ⟨[], fun p h => ?_, fun i j s e => ?_, fun k i j e => ?_⟩
    · cases h
    · obtain ⟨r, a, b⟩ := stepAt_row e
      obtain ⟨n, _, rfl⟩ := List.mem_map.mp (List.mem_of_getElem? a)
      cases b
    · cases e
theorem mem_take_mono {ws : List Str} {a b : Nat} {w : Str} (h : w ∈ ws.take a) (hab : a ≤ b) : w ∈ ws.take b := by
  have e : ws.take a = (ws.take b).take a := by rw [List.take_take, Nat.min_eq_left hab]
  rw [e] at h
  exact List.mem_of_mem_take h
theorem MI.more {ns ws : List Str} {rs : List Row} {op : List Str} {fr fr' : Nat} (h : MI ns ws rs op fr) (hf : fr ≤ fr') : MI ns ws rs op fr' := { h with
  used := fun b w m => mem_take_mono (h.used b w m) hf
  opl := Nat.le_trans h.opl hf }
theorem MI.perm {ns ws : List Str} {rs : List Row} {op op' : List Str} {fr : Nat} (h : MI ns ws rs op fr) (hp : op'.Perm op) : MI ns ws rs op' fr := { h with
  opn := hp.nodup_iff.mpr h.opn
  opl := by rw [hp.length_eq]; exact h.opl
  ops := fun w m => h.ops w (hp.mem_iff.mp m) }
/-- a step with what it does, and what is open then -/
theorem MI.add {ns ws : List Str} {rs : List Row} {op op' : List Str} {fr : Nat} {i : Nat} {r : Row} {s : Stp} (h : MI ns ws rs op fr) (hr : rs[i]? = some r) (hl : r.s.length < 20) (hs : stepD (stpP s) = true)
    (h1 : ∀ d, s.d = some d → d ∉ deeds rs) (h2 : ∀ b w, s.d = some (b, w) → w ∈ ws.take fr) (h3 : ∀ w, s.d = some (false, w) → (true, w) ∈ deeds rs) (h4 : op'.Nodup) (h6 : op'.length ≤ fr)
    (h5 : ∀ w ∈ op', ((true, w) ∈ deeds rs ∨ s.d = some (true, w)) ∧ (false, w) ∉ deeds rs ∧ s.d ≠ some (false, w)) : MI ns ws (addS rs i s) op' fr := by
  have hp := addS_deeds (s := s) (List.getElem?_eq_some_iff.mp hr).1
  have hm : ∀ d, d ∈ deeds (addS rs i s) ↔ s.d = some d ∨ d ∈ deeds rs := fun d => by
    rw [hp.mem_iff, List.mem_append, Option.mem_toList]
  refine ⟨by rw [addS_names]; exact h.names, fun q m => ?_, fun q m => ?_, fun q m => ?_, ?_, fun b w m => ?_, h4, h6, fun w m => ?_, fun w m => ?_, h.lin.add hr h3⟩
  · rcases addS_mem m with m | ⟨r0, e, rfl⟩
    · exact h.kind q m
    · exact h.kind r0 (List.mem_of_getElem? e)
  · rcases addS_mem m with m | ⟨r0, e, rfl⟩
    · exact h.len q m
    · rw [hr] at e
      cases e
      show (r.s ++ [s]).length ≤ 20
      rw [List.length_append]
      exact hl
  · rcases addS_mem m with m | ⟨r0, e, rfl⟩
    · exact h.step q m
    · intro s' ms
      rcases List.mem_append.mp ms with ms | ms
      · exact h.step r0 (List.mem_of_getElem? e) s' ms
      · rw [List.mem_singleton.mp ms]; exact hs
  · rw [hp.nodup_iff]
    cases hd : s.d with
    | none => exact h.once
    | some d => exact List.nodup_cons.mpr ⟨h1 d hd, h.once⟩
  · rcases (hm _).mp m with m | m
    · exact h2 b w m
    · exact h.used b w m
  · obtain ⟨a, b, c⟩ := h5 w m
    refine ⟨(hm _).mpr (a.symm), fun z => ?_⟩
    rcases (hm _).mp z with z | z
    · exact c z
    · exact b z
  · rcases (hm _).mp m with m | m
    · exact (hm _).mpr (.inr (h3 w m))
    · exact (hm _).mpr (.inr (h.sent w m))
end My

set_option Elab.async false
set_option linter.all false
set_option maxRecDepth 100000
namespace My
open PySem PySem.Spec PyProof.Rows L2 TL
/-- what is left if the row is full -/
def FullQ (ns ws : List Str) (rs : List Row) (op : List Str) (fr : Nat) : Option (Bool × Str) → Prop
  | none => MI ns ws rs op fr
  | some (true, w) => ∃ j, op[j]? = some w ∧ (∀ m, m < j → op[m]? ≠ some w) ∧ MI ns ws rs (op.eraseIdx j) fr
  | some (false, w) => MI ns ws rs (op ++ [w]) fr
/-- what is drawn for a step, what is open then; and what is left if the row is full -/
structure Out (ns ws : List Str) (rs : List Row) (d : Option (Bool × Str)) (op : List Str) (fr : Nat) : Prop where
  ok : ∀ i r m n, rs[i]? = some r → r.s.length < 20 → stepD (stpP ⟨m, n, d⟩) = true → MI ns ws (addS rs i ⟨m, n, d⟩) op fr
  deed : ∀ b w, d = some (b, w) → nameD 4 (.str w) = true
  full : FullQ ns ws rs op fr d
theorem nodup_take {ws : List Str} {fr : Nat} (h : ws.Nodup) (hf : fr < ws.length) : ws[fr] ∉ ws.take fr := fun m => by
  obtain ⟨j, hj⟩ := List.getElem?_of_mem m
  rw [List.getElem?_take] at hj
  by_cases z : j < fr
  · rw [if_pos z] at hj
    have := (List.getElem?_inj (by omega) h).mp (hj.trans (List.getElem?_eq_getElem hf).symm)
    omega
  · rw [if_neg z] at hj
    cases hj
theorem out_none {ns ws : List Str} {rs : List Row} {op : List Str} {fr : Nat} (h : MI ns ws rs op fr) : Out ns ws rs none op fr :=
  ⟨fun i r m n hr hl hs => h.add hr hl hs (fun d e => (by cases e)) (fun b w e => (by cases e)) (fun w e => (by cases e)) h.opn h.opl fun w m' => ⟨.inl (h.ops w m').1, (h.ops w m').2, fun e => (by cases e)⟩, fun b w e => (by cases e), h⟩
theorem out_send {ns ws : List Str} {rs : List Row} {op : List Str} {fr : Nat} (h : MI ns ws rs op fr) (hw : ws.Nodup) (hf : fr < ws.length) (h4 : ∀ w ∈ ws, nameD 4 (.str w) = true) : Out ns ws rs (some (true, ws[fr])) (op ++ [ws[fr]]) (fr + 1) := by
  have hn := nodup_take hw hf
  have hd : ∀ b, (b, ws[fr]) ∉ deeds rs := fun b z => hn (h.used b _ z)
  have ho : ws[fr] ∉ op := fun z => hd true (h.ops _ z).1
  have hm : ws[fr] ∈ ws.take (fr + 1) := by
    rw [List.take_add_one, List.getElem?_eq_getElem hf]
    exact List.mem_append_right _ (List.mem_singleton.mpr rfl)
  refine ⟨fun i r m n hr hl hs => (h.more (Nat.le_succ fr)).add hr hl hs (fun d e => ?_) (fun b w e => ?_) (fun w e => ?_) ?_ (by rw [List.length_append]; exact Nat.succ_le_succ h.opl) fun w m' => ?_, fun b w e => ?_, ⟨op.length, ?_, fun m hm' => ?_, ?_⟩⟩
  · cases e; exact hd true
  · cases e; exact hm
  · cases e
  · refine List.nodup_append.mpr ⟨h.opn, List.nodup_cons.mpr ⟨List.not_mem_nil, List.nodup_nil⟩, fun a ha b hb => ?_⟩
    rw [List.mem_singleton.mp hb]
    exact fun z => ho (z ▸ ha)
  · rcases List.mem_append.mp m' with m' | m'
    · exact ⟨.inl (h.ops w m').1, (h.ops w m').2, fun e => by cases e⟩
    · rw [List.mem_singleton.mp m']
      exact ⟨.inr rfl, hd false, fun e => by cases e⟩
  · cases e; exact h4 _ (List.getElem_mem hf)
  · exact List.getElem?_concat_length
  · rw [List.getElem?_append_left hm']
    exact fun z => ho (List.mem_of_getElem? z)
  · rw [List.eraseIdx_append_of_length_le (Nat.le_refl _), Nat.sub_self]
    show MI ns ws rs (op ++ []) (fr + 1)
    rw [List.append_nil]
    exact h.more (Nat.le_succ fr)
theorem out_recv {ns ws : List Str} {rs : List Row} {op : List Str} {fr : Nat} (h : MI ns ws rs op fr) {j : Nat} (hj : j < op.length) (h4 : ∀ w ∈ ws, nameD 4 (.str w) = true) : Out ns ws rs (some (false, op[j])) (op.eraseIdx j) fr := by
  have hp := perm_erase op j hj
  have hnd := List.nodup_cons.mp (hp.nodup_iff.mpr h.opn)
  obtain ⟨o1, o2⟩ := h.ops _ (List.getElem_mem hj)
  refine ⟨fun i r m n hr hl hs => h.add hr hl hs (fun d e => ?_) (fun b w e => ?_) (fun w e => ?_) hnd.2 (by rw [List.length_eraseIdx_of_lt hj]; have := h.opl; omega) fun w m' => ?_, fun b w e => ?_, ?_⟩
  · cases e; exact o2
  · cases e; exact h.used true _ o1
  · cases e; exact o1
  · obtain ⟨a, b⟩ := h.ops w (hp.mem_iff.mp (List.mem_cons_of_mem _ m'))
    refine ⟨.inl a, b, fun e => ?_⟩
    have e' : op[j] = w := by cases e; rfl
    exact hnd.1 (e' ▸ m')
  · cases e; exact h4 _ (List.mem_of_mem_take (h.used true _ o1))
  · exact h.perm (List.perm_append_comm.trans hp)
theorem step_ok {m : Str} {n : Int} {d : Option (Bool × Str)} (hm : nameD 4 (.str m) = true) (h0 : -99 ≤ n) (h1 : n ≤ 99) (hd : ∀ b w, d = some (b, w) → nameD 4 (.str w) = true) : stepD (stpP ⟨m, n, d⟩) = true := by
  show (nameD 4 (.str m) && ((decide (-99 ≤ n) && decide (n ≤ 99)) && deedD (deedP d))) = true
  rw [hm, decide_eq_true h0, decide_eq_true h1]
  cases d with
  | none => rfl
  | some d =>
    obtain ⟨b, w⟩ := d
    have := hd b w rfl
    cases b
    · show (true && (true && (([PyData.str "send", PyData.str "receive"].any fun z => PyData.eqv z (.str "receive")) && nameD 4 (.str w)))) = true
      rw [this]
      decide +kernel
    · show (true && (true && (([PyData.str "send", PyData.str "receive"].any fun z => PyData.eqv z (.str "send")) && nameD 4 (.str w)))) = true
      rw [this]
      decide +kernel
def lawMore : List Str := ["aa", "bc", "long", "x", "y", "dd"]
def lawWords : List Str := (("mnopkhijuvwrst" : Str).cps.toList.map fun c => (⟨#[c]⟩ : Str)) ++ lawMore
theorem words_nd : lawWords.Nodup := by decide +kernel
theorem words_ok : ∀ w ∈ lawWords, nameD 4 (.str w) = true := by decide +kernel
theorem words_len : lawWords.length = 20 := by decide +kernel
def lawNames : List Str := ["a", "b", "low", "q", "zetas", "cc"]
theorem names_nd : lawNames.Nodup := by decide +kernel
theorem names_ok : ∀ w ∈ lawNames, nameD 6 (.str w) = true := by decide +kernel
end My

set_option Elab.async false
set_option linter.all false
set_option maxRecDepth 100000
namespace My
open PySem PySem.Spec PyProof.Rows L2 TL
/-- what the law may change while it makes rows -/
def SR (B : BagId) (O : Addr) (ls : List Addr) : Sh := fun a => a = B.p ∨ a = O ∨ a ∈ ls
/-- the rows as they stand: a list R of pairs ts, their lists ls; what is open at O; the words at W -/
structure HR (K : PySem.W.Frag) (B : BagId) (H0 H : Hp) (R O W : Addr) (ts ls : List Addr) (rs : List Row) (op : List Str) : Prop where
  b0 : Bag B H0
  bag : Bag B H
  ext : Ext B.p H0 H
  new : ∀ a, a = O ∨ a ∈ ls → H0 a = none
  hR : H R = some (.lst (ts.map V.ref))
  hO : H O = some (.lst (op.map V.str))
  hW : H W = some (.lst (lawWords.map V.str))
  nR : ¬ SR B O ls R
  nW : ¬ SR B O ls W
  nO : O ∉ ls
  nd : ls.Nodup
  tl : ts.length = rs.length
  ll : ls.length = rs.length
  row : ∀ (i : Nat) (r : Row), rs[i]? = some r → ∃ t l vs, ts[i]? = some t ∧ ls[i]? = some l ∧ ¬ SR B O ls t ∧ H t = some (.tup [.str r.n, .ref l]) ∧ H l = some (.lst vs) ∧ DsAll K (SR B O ls) H vs (r.s.map stpP)
  live : Live (SR B O ls) H
section
variable {K : PySem.W.Frag} {B : BagId} {H0 H H' : Hp} {R O W : Addr} {ts ls : List Addr} {rs : List Row} {op op' : List Str}
theorem HR.ne (h : HR K B H0 H R O W ts ls rs op) {a : Addr} (ha : a = O ∨ a ∈ ls) : a ≠ B.p ∧ a ≠ B.l := ⟨h.b0.ne (h.new a ha), h.b0.neL (h.new a ha)⟩
theorem HR.keep (h : HR K B H0 H R O W ts ls rs op) (hb : Bag B H') (ex : Ext B.p H H') : HR K B H0 H' R O W ts ls rs op := { h with
  bag := hb
  ext := fun b o e n => ex _ _ (h.ext b o e n) n
  hR := ex _ _ h.hR fun z => h.nR (.inl z)
  hO := ex _ _ h.hO (h.ne (.inl rfl)).1
  hW := ex _ _ h.hW fun z => h.nW (.inl z)
  row := fun i r e => by
    obtain ⟨t, l, vs, a1, a2, a3, a4, a5, a6⟩ := h.row i r e
    exact ⟨t, l, vs, a1, a2, a3, ex _ _ a4 fun z => a3 (.inl z), ex _ _ a5 (h.ne (.inr (List.mem_of_getElem? a2))).1, a6.byX (XS.ext ex (.inl rfl))⟩
  live := fun a ha => by
    rcases ha with rfl | ha
    · exact hb.there
    · obtain ⟨o, e⟩ := h.live a (.inr ha)
      exact ⟨o, ex _ _ e (h.ne ha).1⟩ }
theorem HR.same (h : HR K B H0 H R O W ts ls rs op) (s : Same H H') : HR K B H0 H' R O W ts ls rs op := h.keep (h.bag.ext s) fun b o e _ => s _ _ e
theorem HR.setO (h : HR K B H0 H R O W ts ls rs op) : HR K B H0 (upd H O (.lst (op'.map V.str))) R O W ts ls rs op' := { h with
  bag := h.bag.upd (h.ne (.inl rfl)).1 (h.ne (.inl rfl)).2
  ext := fun b o e n => by
    rw [upd_ne fun z => by rw [z, h.new O (.inl rfl)] at e; cases e]
    exact h.ext b o e n
  hR := by rw [upd_ne fun z => h.nR (.inr (.inl z))]; exact h.hR
  hO := upd_same
  hW := by rw [upd_ne fun z => h.nW (.inr (.inl z))]; exact h.hW
  row := fun i r e => by
    obtain ⟨t, l, vs, a1, a2, a3, a4, a5, a6⟩ := h.row i r e
    refine ⟨t, l, vs, a1, a2, a3, ?_, ?_, a6.byX (XS.upd (.inr (.inl rfl)))⟩
    · rw [upd_ne fun z => a3 (.inr (.inl z))]; exact a4
    · rw [upd_ne fun z => h.nO (by rw [← z]; exact List.mem_of_getElem? a2)]; exact a5
  live := h.live.upd }
theorem HR.push (h : HR K B H0 H R O W ts ls rs op) {i : Nat} {l : Addr} {vs : List V} {v : V} {r : Row} {s : Stp} (hr : rs[i]? = some r) (hl : ls[i]? = some l) (hv : H l = some (.lst vs)) (hd : Ds K (SR B O ls) H v (stpP s)) : HR K B H0 (upd H l (.lst (vs ++ [v]))) R O W ts ls (addS rs i s) op := by
  have ml : l ∈ ls := List.mem_of_getElem? hl
  exact { h with
  bag := h.bag.upd (h.ne (.inr ml)).1 (h.ne (.inr ml)).2
  ext := fun b o e n => by
    rw [upd_ne fun z => by rw [z, h.new l (.inr ml)] at e; cases e]
    exact h.ext b o e n
  hR := by rw [upd_ne fun z => h.nR (.inr (.inr (by rw [z]; exact ml)))]; exact h.hR
  hO := by rw [upd_ne fun z => h.nO (by rw [z]; exact ml)]; exact h.hO
  hW := by rw [upd_ne fun z => h.nW (.inr (.inr (by rw [z]; exact ml)))]; exact h.hW
  tl := by rw [addS_len]; exact h.tl
  ll := by rw [addS_len]; exact h.ll
  row := fun j r' e => by
    rw [addS_at] at e
    by_cases z : j = i
    · subst z
      rw [if_pos rfl, hr] at e
      cases e
      obtain ⟨t, l', vs', a1, a2, a3, a4, a5, a6⟩ := h.row j r hr
      rw [hl] at a2
      cases a2
      rw [hv] at a5
      cases a5
      refine ⟨t, l, vs ++ [v], a1, hl, a3, ?_, upd_same, ?_⟩
      · rw [upd_ne fun z => a3 (.inr (.inr (by rw [z]; exact ml)))]; exact a4
      · have e : (addR r s).s.map stpP = r.s.map stpP ++ [stpP s] := by
          show (r.s ++ [s]).map stpP = _
          rw [List.map_append]
          rfl
        rw [e]
        exact (a6.app (.cons hd .nil)).byX (XS.upd (.inr (.inr ml)))
    · rw [if_neg z] at e
      obtain ⟨t, l', vs', a1, a2, a3, a4, a5, a6⟩ := h.row j r' e
      refine ⟨t, l', vs', a1, a2, a3, ?_, ?_, a6.byX (XS.upd (.inr (.inr ml)))⟩
      · rw [upd_ne fun z => a3 (.inr (.inr (by rw [z]; exact ml)))]; exact a4
      · rw [upd_ne fun q => z ?_]
        · exact a5
        · subst q
          exact (List.getElem?_inj (List.getElem?_eq_some_iff.mp a2).1 h.nd).mp (a2.trans hl.symm)
  live := h.live.upd }
/-- what stands there at the end -/
theorem HR.data (h : HR K B H0 H R O W ts ls rs op) (hk : ∀ r ∈ rs, r.k = true) : Ds K (fun a => a = B.p) H (.ref R) (.list (rs.map rowP)) := by
  refine .lst ⟨fun z => h.nR (.inl z), h.hR⟩ ?_
  have key : ∀ (n : Nat), n ≤ rs.length → DsAll K (fun a => a = B.p) H ((ts.take n).map V.ref) ((rs.take n).map rowP) := by
    intro n
    induction n with
    | zero => intro _; exact .nil
    | succ n ih =>
      intro hn
      have er : rs[n]? = some rs[n] := List.getElem?_eq_getElem (by omega)
      obtain ⟨t, l, vs, a1, a2, a3, a4, a5, a6⟩ := h.row n _ er
      rw [List.take_add_one, List.take_add_one, a1, er, List.map_append, List.map_append]
      refine (ih (by omega)).app (.cons ?_ .nil)
      show Ds K _ H (.ref t) (rowP rs[n])
      unfold rowP
      rw [hk _ (List.getElem_mem _)]
      exact .tup ⟨fun z => a3 (.inl z), a4⟩ (.cons (.str _) (.cons (.lst ⟨(h.ne (.inr (List.mem_of_getElem? a2))).1, a5⟩ (a6.less fun b z => .inl z)) .nil))
  have := key rs.length (Nat.le_refl _)
  rw [List.take_length, ← h.tl, List.take_length] at this
  exact this
/-- [(name, []) for name in names] -/
theorem mk_rows {S : Sh} {σ : L2.St} {nm : Addr} {ns : List Str} {j : Nat} {Q : VK} (l : Live S H) (hσ : σ[3]? = some (some (.ref nm))) (hj : ∀ v, wipe ((wipe σ [12]).set 12 (some v)) [12] = wipe σ [12]) (hs : ∀ v, ((wipe σ [12]).set 12 (some v))[12]? = some (some v)) (hnm : ¬ S nm ∧ H nm = some (.lst (ns.map V.str))) (hl : ns.length ≤ 5000)
    (q : ∀ (R : Addr) (ts ls : List Addr) (H' : Hp), Same H H' → H R = none → H' R = some (.lst (ts.map V.ref)) → ls.Nodup → (∀ l ∈ ls, H l = none ∧ l ≠ R) → ts.length = ns.length → ls.length = ns.length →
      (∀ (i : Nat) (n : Str), ns[i]? = some n → ∃ t l, ts[i]? = some t ∧ ls[i]? = some l ∧ H t = none ∧ H' t = some (.tup [.str n, .ref l]) ∧ H' l = some (.lst [])) → Q (.ref R) H') :
    tLc (iAny K (tVar 3)) (gName 12) tYes (tTup (tCons (tVar 12) (tCons (tLst tNil) tNil))) [12] σ H Q := by
  have hv : Ds K S H (.ref nm) (.list (ns.map PyData.str)) := .lst hnm ds_strs
  refine si_l (sv_var hσ hv) S H (Now.refl l) _ fun J H2 s2 w D nD => ?_
  have l2 : Live S H2 := l.same s2
  refine lc_it w (fun i H3 => ∃ ts ls : List Addr, H3 D = some (.lst (ts.map V.ref)) ∧ Same H2 H3 ∧ ls.Nodup ∧ (∀ l ∈ ls, H2 l = none ∧ l ≠ D) ∧ ts.length = i ∧ ls.length = i ∧
      (∀ (k : Nat) (n : Str), k < i → ns[k]? = some n → ∃ t l, ts[k]? = some t ∧ ls[k]? = some l ∧ H2 t = none ∧ t ≠ D ∧ H3 t = some (.tup [.str n, .ref l]) ∧ H3 l = some (.lst [])))
    ⟨[], [], upd_same, same_upd nD, List.nodup_nil, fun l h => (by cases h), rfl, rfl, fun k n h => (by omega)⟩ (fun i H3 _ ⟨_, _, _, z, _⟩ => ⟨_, (Now.of l2 z).step⟩) (fun i x H3 H4 hi ⟨ts, ls, e3, s3, nd, fr, lt, ll, ht⟩ ⟨s4, d, ed, hd⟩ => ?_) fun H3 ⟨ts, ls, e3, s3, nd, fr, lt, ll, ht⟩ => ?_
  · obtain ⟨n, en, rfl⟩ := map_inv ed
    have hx := (hd S (Now.of l2 s3).step).s
    subst hx
    refine ⟨hj _, ?_⟩
    dsimp only [tYes]
    rw [if_pos rfl]
    refine ⟨_, hs _, Nat.zero_le _, fun lA nl => ⟨szl (by show 1 < 100000; decide), fun tA nt => ?_⟩⟩
    have nl3 : H3 lA = none := s4.free nl
    have nl2 : H2 lA = none := s3.free nl3
    have ntl : (upd H4 lA (.lst [])) tA = none := nt
    have nt4 : H4 tA = none := (same_upd (o := .lst []) nl).free ntl
    have nt2 : H2 tA = none := s3.free (s4.free nt4)
    have s6 : Same H4 (upd (upd H4 lA (.lst [])) tA (.tup [.str n, .ref lA])) := (same_upd nl).trans (same_upd nt)
    have eD4 := s4 _ _ e3
    have hlD : lA ≠ D := fun z => by rw [z, eD4] at nl; cases nl
    have htD : tA ≠ D := fun z => by rw [z, eD4] at nt4; cases nt4
    have htl : tA ≠ lA := fun z => by rw [z, upd_same] at nt; cases nt
    have et : (upd (upd H4 lA (.lst [])) tA (.tup [.str n, .ref lA])) tA = some (.tup [.str n, .ref lA]) := upd_same
    have el : (upd (upd H4 lA (.lst [])) tA (.tup [.str n, .ref lA])) lA = some (.lst []) := same_upd nt _ _ upd_same
    generalize upd (upd H4 lA (.lst [])) tA (.tup [.str n, .ref lA]) = H6 at s6 et el
    have hlnew : lA ∉ ls := fun z => by
      obtain ⟨k, hk⟩ := List.getElem?_of_mem z
      have hk' : k < i := by rw [← ll]; exact (List.getElem?_eq_some_iff.mp hk).1
      obtain ⟨t, l', a1, a2, a3, a4, a5, a6⟩ := ht k _ hk' (List.getElem?_eq_getElem (by rw [List.length_map] at hi; omega))
      rw [hk] at a2
      cases a2
      rw [nl3] at a6
      cases a6
    refine ⟨ts.map V.ref, s6 _ _ eD4, szl (by rw [List.length_map, lt]; rw [List.length_map] at hi; omega), ts ++ [tA], ls ++ [lA], ?_, ?_, ?_, ?_, ?_, ?_, fun k m hk em => ?_⟩
    · rw [upd_same, List.map_append]
      rfl
    · exact fun b o e => by
        rw [upd_ne fun z => by rw [z, nD] at e; cases e]
        exact s6 _ _ (s4 _ _ (s3 _ _ e))
    · refine List.nodup_append.mpr ⟨nd, List.nodup_cons.mpr ⟨List.not_mem_nil, List.nodup_nil⟩, fun a ha b hb => ?_⟩
      rw [List.mem_singleton.mp hb]
      exact fun z => hlnew (by rw [← z]; exact ha)
    · intro l' hl'
      rcases List.mem_append.mp hl' with hl' | hl'
      · exact fr l' hl'
      · rw [List.mem_singleton.mp hl']; exact ⟨nl2, hlD⟩
    · rw [List.length_append, lt]; rfl
    · rw [List.length_append, ll]; rfl
    · by_cases z : k < i
      · obtain ⟨t, l', a1, a2, a3, a4, a5, a6⟩ := ht k m z em
        refine ⟨t, l', ?_, ?_, a3, a4, ?_, ?_⟩
        · rw [List.getElem?_append_left (by omega)]; exact a1
        · rw [List.getElem?_append_left (by omega)]; exact a2
        · rw [upd_ne a4]; exact s6 _ _ (s4 _ _ a5)
        · rw [upd_ne (fr l' (List.mem_of_getElem? a2)).2]; exact s6 _ _ (s4 _ _ a6)
      · have hk' : k = i := by omega
        subst hk'
        rw [en] at em
        cases em
        refine ⟨tA, lA, ?_, ?_, nt2, htD, ?_, ?_⟩
        · rw [List.getElem?_append_right (by omega), lt, Nat.sub_self]; rfl
        · rw [List.getElem?_append_right (by omega), ll, Nat.sub_self]; rfl
        · rw [upd_ne htD]; exact et
        · rw [upd_ne hlD]; exact el
  · rw [List.length_map] at lt ll ht
    refine q D ts ls H3 (s2.trans s3) (s2.free nD) e3 nd (fun l' h => ⟨s2.free (fr l' h).1, (fr l' h).2⟩) lt ll fun i n e => ?_
    obtain ⟨t, l', a1, a2, a3, a4, a5, a6⟩ := ht i n (List.getElem?_eq_some_iff.mp e).1 e
    exact ⟨t, l', a1, a2, s2.free a3, a5, a6⟩
end
end My

set_option Elab.async false
set_option linter.all false
set_option maxRecDepth 100000
namespace My
open PySem PySem.Spec PyProof.Rows L2 TL
abbrev rLenQ (K : PySem.W.Frag) : List V → Hp → VK → Prop := fun xs H Q => ∃ x n, xs = [x] ∧ LenV K x H n ∧ Q (.int (n : Nat)) H
abbrev tCellQ (K : PySem.W.Frag) : TE := tOp (rIx K) (tOp (rIx K) (tVar 6) (tVar 9)) (tC (.int 1))
abbrev rowTS (K : PySem.W.Frag) : TS := tIfS (tTest (tOp (rI0 fun i j => .bl (decide (i < j))) (tCB (rLenQ K) (tCons (tCellQ K) tNil)) (tC (.int 20))))
  (tDrop (tBM K "list" rAppend (tCellQ K) (tCons (tCall (spStep K) [] E0 (tCons (tVar 0) (tCons (tVar 11) tNil))) tNil)))
  (tIfS (tAnd (tTest (tOp (fun x y H Q => y = V.non ∧ Q (.bl (!decide (x = V.non))) H) (tVar 11) (tC .non))) (tTest (tOp rEq (tOp (rIx K) (tVar 11) (tC (.int 0))) (tC (.str "send")))))
    (tDrop (tBM K "list" rRemS (tVar 7) (tCons (tOp (rIx K) (tVar 11) (tC (.int 1))) tNil)))
    (tIfS (tTest (tOp (fun x y H Q => y = V.non ∧ Q (.bl (!decide (x = V.non))) H) (tVar 11) (tC .non))) (tDrop (tBM K "list" rAppend (tVar 7) (tCons (tOp (rIx K) (tVar 11) (tC (.int 1))) tNil))) tNext))
/-- how many steps -/
def tot (rs : List Row) : Nat := (rs.map fun r => r.s.length).sum
theorem addS_tot (s : Stp) : ∀ (rs : List Row) (i : Nat), tot (addS rs i s) ≤ tot rs + 1
  | [], i => by simp [addS, tot]
  | r :: rs, 0 => by
    show ((r.s ++ [s]).length + (rs.map fun r => r.s.length).sum) ≤ (r.s.length + (rs.map fun r => r.s.length).sum) + 1
    rw [List.length_append]
    show r.s.length + 1 + _ ≤ _
    omega
  | r :: rs, i + 1 => by
    have h := addS_tot s rs i
    show r.s.length + tot (addS rs i s) ≤ r.s.length + tot rs + 1
    omega
section
variable {K : PySem.W.Frag} {B : BagId} {H0 H H' : Hp} {R O W : Addr} {ts ls : List Addr} {rs : List Row} {op op' : List Str}
theorem cell_run {σ : L2.St} {Q : VK} {i : Nat} {t l : Addr} {n : Str} (h6 : σ[6]? = some (some (.ref R))) (h9 : σ[9]? = some (some (.int (i : Nat)))) (hR : H R = some (.lst (ts.map V.ref))) (ht : ts[i]? = some t) (hT : H t = some (.tup [.str n, .ref l])) (q : Q (.ref l) H) : tCellQ K σ H Q := by
  refine ⟨_, h6, _, h9, .inl ⟨R, _, _, .ref t, rfl, rfl, lsq hR, L2.atI_nat (by rw [List.getElem?_map, ht]; rfl), ?_⟩⟩
  exact .inr (.inl ⟨t, _, _, .ref l, rfl, rfl, .inl (.inl hT), L2.atI_nat (j := 1) rfl, q⟩)
theorem row_phase {D : Ends} {σ : L2.St} {ns ws : List Str} {d : Option (Bool × Str)} {fr i : Nat} {vd : V} (h : HR K B H0 H R O W ts ls rs op) (ho : Out ns ws rs d op fr) (hi : i < rs.length) (hd : Ds K (SR B O ls) H vd (deedP d)) (h120 : op.length ≤ 1000)
    (h0 : σ[0]? = some (some (.ref B.p))) (h6 : σ[6]? = some (some (.ref R))) (h7 : σ[7]? = some (some (.ref O))) (h9 : σ[9]? = some (some (.int (i : Nat)))) (h11 : σ[11]? = some (some vd))
    (k : ∀ H' rs' op', HR K B H0 H' R O W ts ls rs' op' → MI ns ws rs' op' fr → rs'.length = rs.length → tot rs' ≤ tot rs + 1 → D.nx σ H') : rowTS K D σ H := by
  have er : rs[i]? = some rs[i] := List.getElem?_eq_getElem hi
  obtain ⟨t, l, vs, a1, a2, a3, a4, a5, a6⟩ := h.row i _ er
  refine cell_run h6 h9 h.hR a1 a4 ⟨_, _, rfl, .inl ⟨_, lsq a5, rfl⟩, _, _, rfl, rfl, _, rfl, ite2 (fun e => ?_) (fun e => ?_)⟩
  · have e' := of_decide_eq_true e
    rw [a6.length, List.length_map] at e'
    refine cell_run h6 h9 h.hR a1 a4 ⟨.inl ⟨rfl, _, lsq a5⟩, ?_⟩
    refine ⟨_, h0, _, h11, SR B O ls, B, vd, deedP d, rfl, h.live, .inl rfl, h.bag, hd, fun v' m n H1 hB1 ex1 hv' hm h99 h100 => ?_⟩
    have g := h.keep hB1 ex1
    have a5' : H1 l = some (.lst vs) := ex1 _ _ a5 (h.ne (.inr (List.mem_of_getElem? a2))).1
    refine ⟨l, vs, v', rfl, rfl, a5', szl (by rw [a6.length, List.length_map]; omega), ?_⟩
    exact k _ _ _ (g.push (s := ⟨m, n, d⟩) er a2 a5' hv') (ho.ok i _ m n er (by omega) (step_ok hm h99 h100 ho.deed)) (addS_len _ _ _) (addS_tot _ _ _)
  · have hf := ho.full
    cases d with
    | none =>
      rw [hd.n] at h11
      exact ⟨_, h11, rfl, _, rfl, iteF ⟨_, h11, rfl, _, rfl, iteF (k _ _ _ h hf rfl (Nat.le_succ _))⟩⟩
    | some d =>
      obtain ⟨b, w⟩ := d
      obtain ⟨z, xs, rfl, lz, hs⟩ := Ds.t (ds := [.str (kindS b), .str w]) hd
      obtain ⟨v1, v2, rfl, hv1, hv2⟩ := hs.two
      rw [hv1.s, hv2.s] at lz
      have hz : SqT K H z [.str (kindS b), .str w] := lz.sq
      have i0 : ∀ Q2 : VK, Q2 (.str (kindS b)) H → (tOp (rIx K) (tVar 11) (tC (.int 0))) σ H Q2 := fun Q2 q => ⟨_, h11, .inr (.inl ⟨z, _, _, _, rfl, rfl, hz, L2.atI_nat (j := 0) rfl, q⟩)⟩
      have i1 : ∀ Q2 : VK, Q2 (.str w) H → (tOp (rIx K) (tVar 11) (tC (.int 1))) σ H Q2 := fun Q2 q => ⟨_, h11, .inr (.inl ⟨z, _, _, _, rfl, rfl, hz, L2.atI_nat (j := 1) rfl, q⟩)⟩
      refine ⟨_, h11, rfl, _, rfl, iteT (i0 _ ?_)⟩
      cases b with
      | true =>
        obtain ⟨j, hj, hm, mi⟩ := hf
        refine ⟨rfl, _, rfl, ite2 (fun _ => ?_) (fun e => absurd (decide_eq_true rfl) e)⟩
        refine ⟨_, h7, .inl ⟨rfl, _, lsq h.hO⟩, i1 _ ?_⟩
        exact ⟨O, op, w, j, rfl, rfl, h.hO, hj, hm, k _ _ _ (h.setO (op' := op.eraseIdx j)) mi rfl (Nat.le_succ _)⟩
      | false =>
        refine ⟨rfl, _, rfl, ite2 (fun e => absurd e (by decide +kernel)) (fun _ => ?_)⟩
        refine ⟨_, h11, rfl, _, rfl, iteT ⟨_, h7, .inl ⟨rfl, _, lsq h.hO⟩, i1 _ ?_⟩⟩
        refine ⟨O, _, _, rfl, rfl, h.hO, szl (by rw [List.length_map]; omega), ?_⟩
        have := k _ _ _ (h.setO (op' := op ++ [w])) hf rfl (Nat.le_succ _)
        rw [List.map_append] at this
        exact this
end
end My

set_option Elab.async false
set_option linter.all false
set_option maxRecDepth 100000
namespace My
open PySem PySem.Spec PyProof.Rows L2 TL
theorem ext_none {B : BagId} {H H' : Hp} {a : Addr} (hb : Bag B H') (ex : Ext B.p H H') (h : H' a = none) : H a = none := by
  cases e : H a with
  | none => rfl
  | some o =>
    have := ex a o e (hb.ne h)
    rw [h] at this
    cases this
abbrev deedTS (K : PySem.W.Frag) : TS := tIfS (tAnd (tTest (tOp rEq (tVar 10) (tC (.int 1)))) (tTest (tOp (rI0 fun i j => .bl (decide (i < j))) (tVar 8) (tCB (rLenQ K) (tCons (tVar 4) tNil)))))
  (tSeq (tPar 11 8 (tCons (tTup (tCons (tC (.str "send")) (tCons (tOp (rIx K) (tVar 4) (tVar 8)) tNil))) (tCons (tOp (rI0 fun i j => .int (i + j)) (tVar 8) (tC (.int 1))) tNil)))
    (tDrop (tBM K "list" rAppend (tVar 7) (tCons (tOp (rIx K) (tVar 11) (tC (.int 1))) tNil))))
  (tIfS (tAnd (tTest (tOp rEq (tVar 10) (tC (.int 2)))) (tTest (tOp (rNeD K) (tVar 7) (tLst tNil))))
    (tAsg (tTup (tCons (tC (.str "receive")) (tCons (tBM K "list" rPopAt (tVar 7) (tCons (tCall spDraw [] E0 (tCons (tVar 0) (tCons (tCB (rLenQ K) (tCons (tVar 7) tNil)) tNil))) tNil)) tNil))) (gName 11)) tNext)
section
variable {K : PySem.W.Frag} {B : BagId} {H0 H H' H2 H3 H4 : Hp} {R O W : Addr} {ts ls : List Addr} {rs : List Row} {op op' ns : List Str}
theorem HR.start (hB : Bag B H) (hB2 : Bag B H2) (x2 : Ext B.p H H2) (s3 : Same H2 H3) (s4 : Same H3 H4) (nR : H2 R = none) (eR : H3 R = some (.lst (ts.map V.ref))) (nd : ls.Nodup) (hl : ∀ l ∈ ls, H2 l = none ∧ l ≠ R) (tl : ts.length = ns.length) (ll : ls.length = ns.length)
    (hrow : ∀ (i : Nat) (n : Str), ns[i]? = some n → ∃ t l, ts[i]? = some t ∧ ls[i]? = some l ∧ H2 t = none ∧ H3 t = some (.tup [.str n, .ref l]) ∧ H3 l = some (.lst []))
    (nO : H3 O = none) (eO : H4 O = some (.lst [])) (nW : H3 W = none) (hWO : W ≠ O) (eW : H4 W = some (.lst (lawWords.map V.str))) : HR K B H H4 R O W ts ls (ns.map fun n => ⟨n, true, []⟩) [] := by
  have hls : ∀ l ∈ ls, H3 l = some (.lst []) := fun l m => by
    obtain ⟨k, hk⟩ := List.getElem?_of_mem m
    have hk' := (List.getElem?_eq_some_iff.mp hk).1
    obtain ⟨t, l', a1, a2, a3, a4, a5⟩ := hrow k _ (List.getElem?_eq_getElem (by omega))
    rw [hk] at a2
    cases a2
    exact a5
  exact {
    b0 := hB
    bag := hB2.ext (s3.trans s4)
    ext := fun b o e n => s4 _ _ (s3 _ _ (x2 b o e n))
    new := fun a ha => by
      rcases ha with rfl | ha
      · exact ext_none hB2 x2 (s3.free nO)
      · exact ext_none hB2 x2 (hl a ha).1
    hR := s4 _ _ eR
    hO := eO
    hW := eW
    nR := fun z => by
      rcases z with z | z | z
      · exact hB2.ne nR z
      · rw [z, nO] at eR; cases eR
      · exact (hl R z).2 rfl
    nW := fun z => by
      rcases z with z | z | z
      · exact hB2.ne (s3.free nW) z
      · exact hWO z
      · have := hls W z
        rw [nW] at this
        cases this
    nO := fun z => by
      have := hls O z
      rw [nO] at this
      cases this
    nd := nd
    tl := by rw [List.length_map]; exact tl
    ll := by rw [List.length_map]; exact ll
    row := fun i r e => by
      rw [List.getElem?_map] at e
      cases en : ns[i]? with
      | none => rw [en] at e; cases e
      | some n =>
        rw [en] at e
        cases e
        obtain ⟨t, l, a1, a2, a3, a4, a5⟩ := hrow i n en
        refine ⟨t, l, [], a1, a2, fun z => ?_, s4 _ _ a4, s4 _ _ a5, .nil⟩
        rcases z with z | z | z
        · exact hB2.ne a3 z
        · rw [z, nO] at a4; cases a4
        · have := hls t z
          rw [a4] at this
          cases this
    live := fun a ha => by
      rcases ha with rfl | rfl | ha
      · exact (hB2.ext (s3.trans s4)).there
      · exact ⟨_, eO⟩
      · exact ⟨_, s4 _ _ (hls a ha)⟩ }
theorem turns_run {σ : L2.St} {Q : VK} {many most : Nat} (hB : Bag B H) (hm : most ≤ 1000) (h0 : σ[0]? = some (some (.ref B.p))) (h1 : σ[1]? = some (some (.int (many : Nat)))) (h2 : σ[2]? = some (some (.int (most : Nat))))
    (k : ∀ (n : Nat) H', Bag B H' → Ext B.p H H' → (0 < n → 0 < many) → n ≤ most → Q (.int (n : Nat)) H') :
    (tIf (tTest (tOp (rI0 fun i j => .bl (decide (j < i))) (tVar 1) (tC (.int 0)))) (tCall spDraw [] E0 (tCons (tVar 0) (tCons (tOp (rI0 fun i j => .int (i + j)) (tVar 2) (tC (.int 1))) tNil))) (tC (.int 0))) σ H Q := by
  refine ⟨_, h1, _, _, rfl, rfl, _, rfl, ite2 (fun e => ?_) (fun e => ?_)⟩
  · have := of_decide_eq_true e
    refine ⟨_, h0, _, h2, _, _, rfl, rfl, B, _, rfl, hB, by omega, by omega, fun r H5 r0 r1 hB5 ex5 => ?_⟩
    obtain ⟨n, rfl⟩ := Int.eq_ofNat_of_zero_le r0
    exact k n H5 hB5 ex5 (fun _ => by omega) (by omega)
  · exact k 0 H hB (fun b o e _ => e) (fun z => by omega) (Nat.zero_le _)
abbrev stL (B : BagId) (R O W : Addr) (a1 a2 a3 x5 : Option V) (fr : Nat) (x9 : Option V) (way : Nat) (vd : V) (x12 : Option V) : L2.St := [some (.ref B.p), a1, a2, a3, some (.ref W), x5, some (.ref R), some (.ref O), some (.int (fr : Nat)), x9, some (.int (way : Nat)), some vd, x12]
theorem deed_phase {D : Ends} {a1 a2 a3 x5 x9 x12 : Option V} {fr way : Nat} (h : HR K B H0 H R O W ts ls rs op) (mi : MI ns lawWords rs op fr) (hfr : fr ≤ 20)
    (k : ∀ d op' fr' vd H', HR K B H0 H' R O W ts ls rs op' → Out ns lawWords rs d op' fr' → fr' ≤ 20 → op'.length ≤ 1000 → Ds K (SR B O ls) H' vd (deedP d) → D.nx (stL B R O W a1 a2 a3 x5 fr' x9 way vd x12) H') : deedTS K D (stL B R O W a1 a2 a3 x5 fr x9 way .non x12) H := by
  have hopl := mi.opl
  have hkeep : ∀ H', HR K B H0 H' R O W ts ls rs op → D.nx (stL B R O W a1 a2 a3 x5 fr x9 way .non x12) H' := fun H' g => k none op fr .non H' g (out_none mi) hfr (by omega) .non
  have recv : (tIfS (tAnd (tTest (tOp rEq (tVar 10) (tC (.int 2)))) (tTest (tOp (rNeD K) (tVar 7) (tLst tNil))))
    (tAsg (tTup (tCons (tC (.str "receive")) (tCons (tBM K "list" rPopAt (tVar 7) (tCons (tCall spDraw [] E0 (tCons (tVar 0) (tCons (tCB (rLenQ K) (tCons (tVar 7) tNil)) tNil))) tNil)) tNil))) (gName 11)) tNext) D (stL B R O W a1 a2 a3 x5 fr x9 way .non x12) H := by
    refine ⟨_, rfl, rfl, _, rfl, ite2 (fun e => ?_) (fun _ => iteF (hkeep H h))⟩
    have hw : ∀ x ∈ op, fine (.str x) = true := fun x m => name_fine (words_ok x (List.mem_of_mem_take (mi.used true x (mi.ops x m).1))) (by decide)
    refine ⟨_, rfl, Nat.zero_le _, fun z nz => ?_⟩
    have s1 : Same H (upd H z (.lst [])) := same_upd nz
    refine ⟨_, _, dp_strs (s1 _ _ h.hO), dp_strs (xs := []) upd_same, fine_shaped (fine_strs (by omega) hw), by decide, ?_⟩
    have g1 := h.same s1
    generalize upd H z (.lst []) = H1 at s1 g1
    rw [show (List.map PyData.str ([] : List Str)) = [] from rfl, ne_nil]
    refine ⟨_, rfl, ite2 (fun e => ?_) (fun _ => hkeep H1 g1)⟩
    have hpos : 0 < op.length := List.length_pos_iff.mpr (of_decide_eq_true e)
    refine ⟨_, rfl, .inl ⟨rfl, _, lsq g1.hO⟩, _, rfl, _, rfl, V.ref O, op.length, rfl, .inl ⟨_, lsq g1.hO, by rw [List.length_map]⟩, B, _, rfl, g1.bag, by omega, by omega, fun r H3 r0 r1 hB3 ex3 => ?_⟩
    obtain ⟨j, rfl⟩ := Int.eq_ofNat_of_zero_le r0
    have g3 := g1.keep hB3 ex3
    have hj : j < (op.map V.str).length := by rw [List.length_map]; omega
    obtain ⟨k', b1, b2, b3⟩ := ixS hj
    rw [List.length_map] at b3
    have ev : (op.map V.str)[j] = V.str op[k'] := by
      rw [List.getElem?_map, List.getElem?_eq_getElem b3] at b2
      exact (Option.some.inj b2).symm
    refine ⟨O, _, _, k', _, rfl, rfl, g3.hO, by omega, by omega, b1, b2, ?_⟩
    rw [ev, erase_mapS]
    have g4 := g3.setO (op' := op.eraseIdx k')
    refine ⟨szl (by show 1 < 100000; decide), fun t nt => ?_⟩
    have g5 := g4.same (same_upd (o := .tup [.str "receive", .str op[k']]) nt)
    refine k (some (false, op[k'])) _ fr (.ref t) _ g5 (out_recv mi b3 words_ok) hfr (by rw [List.length_eraseIdx_of_lt b3]; omega) ?_
    exact .tup ⟨fun z => (by obtain ⟨o, e'⟩ := g4.live t z; rw [nt] at e'; cases e'), upd_same⟩ (.cons (.str _) (.cons (.str _) .nil))
  refine ⟨_, rfl, rfl, _, rfl, ite2 (fun e => ?_) (fun _ => iteF recv)⟩
  refine ⟨_, rfl, _, rfl, _, _, rfl, .inl ⟨_, lsq h.hW, rfl⟩, _, _, rfl, rfl, _, rfl, ite2 (fun e => ?_) (fun _ => recv)⟩
  have hlt : fr < lawWords.length := by
    have := of_decide_eq_true e
    rw [List.length_map] at this
    omega
  refine ⟨_, rfl, _, rfl, .inl ⟨W, _, _, .str lawWords[fr], rfl, rfl, lsq h.hW, L2.atI_nat (by rw [List.getElem?_map, List.getElem?_eq_getElem hlt]; rfl), ?_⟩⟩
  refine ⟨szl (by show 1 < 100000; decide), fun t nt => ?_⟩
  have s1 : Same H (upd H t (.tup [.str "send", .str lawWords[fr]])) := same_upd nt
  have g1 := h.same s1
  have et : (upd H t (.tup [.str "send", .str lawWords[fr]])) t = some (.tup [.str "send", .str lawWords[fr]]) := upd_same
  have nS : ¬ SR B O ls t := fun z => by obtain ⟨o, e'⟩ := h.live t z; rw [nt] at e'; cases e'
  generalize upd H t (.tup [.str "send", .str lawWords[fr]]) = H1 at s1 g1 et
  refine ⟨_, rfl, _, _, rfl, rfl, _, _, rfl, ?_⟩
  refine ⟨_, rfl, .inl ⟨rfl, _, lsq g1.hO⟩, _, rfl, .inr (.inl ⟨t, _, _, .str lawWords[fr], rfl, rfl, .inl (.inl et), L2.atI_nat (j := 1) rfl, ?_⟩)⟩
  refine ⟨O, _, _, rfl, rfl, g1.hO, szl (by rw [List.length_map]; omega), ?_⟩
  have g2 := g1.setO (op' := op ++ [lawWords[fr]])
  rw [List.map_append] at g2
  have hd : Ds K (SR B O ls) (upd H1 O (.lst (op.map V.str ++ [lawWords[fr]].map V.str))) (.ref t) (deedP (some (true, lawWords[fr]))) := .tup ⟨nS, by rw [upd_ne fun z => nS (.inr (.inl z))]; exact et⟩ (.cons (.str _) (.cons (.str _) .nil))
  exact k (some (true, lawWords[fr])) _ (fr + 1) (.ref t) _ g2 (out_send mi words_nd hlt words_ok) (by rw [words_len] at hlt; omega) (by rw [List.length_append]; show _ + 1 ≤ 1000; omega) hd
theorem body_phase {D : Ends} {a1 a2 a3 x5 x12 : Option V} {fr way spot : Nat} (h : HR K B H0 H R O W ts ls rs op) (mi : MI ns lawWords rs op fr) (hfr : fr ≤ 20) (hi : spot < rs.length)
    (k : ∀ H' rs' op' fr' vd, HR K B H0 H' R O W ts ls rs' op' → MI ns lawWords rs' op' fr' → fr' ≤ 20 → rs'.length = rs.length → tot rs' ≤ tot rs + 1 → D.nx (stL B R O W a1 a2 a3 x5 fr' (some (.int (spot : Nat))) way vd x12) H') : tSeq (deedTS K) (rowTS K) D (stL B R O W a1 a2 a3 x5 fr (some (.int (spot : Nat))) way .non x12) H :=
  deed_phase (D := { D with nx := rowTS K D }) h mi hfr fun d op' fr' vd H' h9 ho hfr' hop hd => row_phase (D := D) h9 ho hi hd hop rfl rfl rfl rfl rfl fun H10 rs' op'' h10 mi' hl' ht' => k H10 rs' op'' fr' vd h10 mi' hfr' hl' ht'
end
end My

set_option Elab.async false
set_option linter.all false
set_option maxRecDepth 100000
namespace My
open PySem PySem.Spec PyProof.Rows L2 TL
theorem tot_start {ns : List Str} {i : Nat} : tot (ns.map fun n => ⟨n, true, []⟩) ≤ i := by
  unfold tot
  rw [List.map_map]
  have : ∀ l : List Str, (l.map ((fun r : Row => r.s.length) ∘ fun n => ⟨n, true, []⟩)).sum = 0 := fun l => by
    induction l with
    | nil => rfl
    | cons x l ih => rw [List.map_cons, List.sum_cons, ih]; rfl
  rw [this]
  exact Nat.zero_le _
theorem cutV_to {xs : List V} {n : Nat} : cutV xs none (some (n : Int)) = xs.take n := cutD_to xs n
theorem words_eq : signsV "mnopkhijuvwrst" ++ lawMore.map V.str = lawWords.map V.str := by
  unfold signsV lawWords
  rw [List.map_append, List.map_map]
  rfl
theorem par3_of {ta : TE} {tr : TA} {tz : TS} {D : Ends} {σ : L2.St} {H : Hp} {i j l : Nat} (h : ta σ H fun x H1 => tr σ H1 fun xs H2 => ∃ u v w, x :: xs = [u, v, w] ∧ tz D (((σ.set i (some u)).set j (some v)).set l (some w)) H2) : tSeq (tPar3 i j l (tCons ta tr)) tz D σ H := h
theorem for_rng {ta : TE} {g : TG} {tb tz : TS} {D : Ends} {σ : L2.St} {H : Hp} (M : Nat → Hp → Prop) (h : ∀ Q : VK, (∀ (n : Nat) H', M n H' → Q (.int (n : Nat)) H') → ta σ H Q)
    (hM : ∀ n H', M n H' → ((n : Nat) : Int) < 2 ^ 62 ∧ ∃ Pv : L2.St → Hp → Prop, Pv σ H' ∧ (∀ v σ2 H2, 0 < n → Pv σ2 H2 → g v σ2 H2 fun σ3 H3 => tb { D with nx := Pv, ct := Pv, bk := tz D } σ3 H3) ∧ ∀ σ2 H2, Pv σ2 H2 → tz D σ2 H2) : tSeq (tFor (iRng1 (tCons ta tNil)) g tb) tz D σ H := h _ fun n H' m => by
  obtain ⟨hn, Pv, p0, ps, pd⟩ := hM n H' m
  exact ⟨((n : Nat) : Int), rfl, by omega, hn, for_range (n := n) (lo := 0) (D := { D with nx := tz D }) (fun _ => Pv) p0 (fun i σ2 H2 hi p => ps _ σ2 H2 (by omega) p) pd⟩
/-- the same, the turns counted -/
theorem for_rngI {ta : TE} {g : TG} {tb tz : TS} {D : Ends} {σ : L2.St} {H : Hp} (M : Nat → Hp → Prop) (h : ∀ Q : VK, (∀ (n : Nat) H', M n H' → Q (.int (n : Nat)) H') → ta σ H Q)
    (hM : ∀ n H', M n H' → ((n : Nat) : Int) < 2 ^ 62 ∧ ∃ Pv : Nat → L2.St → Hp → Prop, Pv 0 σ H' ∧ (∀ i σ2 H2, i < n → Pv i σ2 H2 → g (.int (i : Nat)) σ2 H2 fun σ3 H3 => tb { D with nx := Pv (i + 1), ct := Pv (i + 1), bk := tz D } σ3 H3) ∧ ∀ σ2 H2, Pv n σ2 H2 → tz D σ2 H2) : tSeq (tFor (iRng1 (tCons ta tNil)) g tb) tz D σ H := h _ fun n H' m => by
  obtain ⟨hn, Pv, p0, ps, pd⟩ := hM n H' m
  refine ⟨((n : Nat) : Int), rfl, by omega, hn, for_range (n := n) (lo := 0) (D := { D with nx := tz D }) Pv p0 (fun i σ2 H2 hi p => ?_) pd⟩
  have := ps i σ2 H2 (by omega) p
  rw [Int.zero_add]
  exact this
section
variable {P : Program} {w : World} {K : PySem.W.Frag} {mg : Str → Option Value} {base : Heap} {A : Top}
def spLrows (K : PySem.W.Frag) : Sp := fun vs H Q _ => ∃ (B : BagId) (many most : Nat), vs = [.ref B.p, .int (many : Nat), .int (most : Nat)] ∧ Bag B H ∧ many ≤ 6 ∧ most ≤ 1000 ∧
  ∀ (v : V) (rs : List Row) (H' : Hp), Bag B H' → Ext B.p H H' → Ds K (fun a => a = B.p) H' v (.list (rs.map rowP)) → Valid rs → (∀ r ∈ rs, r.k = true) → rs.length = many → tot rs ≤ most → Q v H'
set_option maxHeartbeats 1000000 in
theorem ok_Lrows (T : TopOk K mg A) : FnOk P w K mg base CX0 4 A.f_Lrows A.d_Lrows P_Lrows (spLrows K) := by
  have G_Ldraw : FnOk P w K mg base CX0 1 A.f_Ldraw A.d_Ldraw P_Ldraw spDraw := ok_Ldraw T
  have G_Lmixed : FnOk P w K mg base CX0 2 A.f_Lmixed A.d_Lmixed P_Lmixed spMixed := ok_Lmixed T
  have G_Lstep : FnOk P w K mg base CX0 3 A.f_Lstep A.d_Lstep P_Lstep (spStep K) := ok_Lstep T
  refine T.F_Lrows.ok sc_Lrows (fun vs H Q E h => ?_) (fun cdv Ar outer s H vs Q E hr h => ?_)
  · obtain ⟨B, many, most, rfl, _⟩ := h
    rfl
  · obtain ⟨B, many, most, rfl, hB, h6, hmost, k⟩ := h
    refine ⟨_, (pss_cons (ps_set (i := 3) sc_Lrows.nd rfl (by first | exact Or.inl rfl | exact Or.inr rfl) (pe_slice sl_list (pe_call G_Lmixed (hr.mono (by decide)) (by rfl) T.g_Lmixed T.F_Lmixed.kp T.a_Lmixed .nil pass0 (pa_cons (pv 0) (pa_cons (pe_lst (pa_cons pe_str (pa_cons pe_str (pa_cons pe_str (pa_cons pe_str (pa_cons pe_str (pa_cons pe_str pa_nil))))))) pa_nil))) po_none (po_some (pv 1))))
      (pss_cons (ps_par3 (i := 6) (j := 7) (l := 8) (by rfl) sc_Lrows.nd rfl rfl rfl (by decide) (by decide) (by decide) rfl rfl rfl (pa_cons (pe_lc (own := [("_law_name", 12)]) (g := gName 12) (by rfl) sc_Lrows.nd (pi_any (pv 3)) (blkOk_by (own := [("_law_name", 12)]) (N := N_Lrows) (sc := defScope s_Lrows) (by decide +kernel)) (fun _ _ _ _ _ => (pg_name (i := 12) sc_Lrows.nd rfl (by first | exact Or.inl rfl | exact Or.inr rfl))) (fun _ _ _ _ _ => pts_nil) (fun _ _ _ _ _ => (pe_tup (pa_cons (pv 12) (pa_cons (pe_lst pa_nil) pa_nil))))) (pa_cons (pe_lst pa_nil) (pa_cons pe_int pa_nil))) (by rfl))
      (pss_cons (ps_set (i := 4) sc_Lrows.nd rfl (by first | exact Or.inl rfl | exact Or.inr rfl) (pe_op L2.op_cat (pe_callTy (call_listT (by rfl)) (by rfl) T.b_list (by decide +kernel) (pa_cons pe_str pa_nil)) (pe_lst (pa_cons pe_str (pa_cons pe_str (pa_cons pe_str (pa_cons pe_str (pa_cons pe_str (pa_cons pe_str pa_nil)))))))))
      (pss_cons (ps_for PassesOwn.never rfl (pi_range1 (by rfl) T.b_range (pa_cons (pe_ifExp (pt_cmpR op_gt (pv 1) pe_int (nomark _)) (pe_call G_Ldraw (hr.mono (by decide)) (by rfl) T.g_Ldraw T.F_Ldraw.kp T.a_Ldraw .nil pass0 (pa_cons (pv 0) (pa_cons (pe_op op_add (pv 2) pe_int) pa_nil))) pe_int) pa_nil)) (pg_name (i := 5) sc_Lrows.nd rfl (by first | exact Or.inl rfl | exact Or.inr rfl))
      (pss_cons (ps_par3 (i := 9) (j := 10) (l := 11) (by rfl) sc_Lrows.nd rfl rfl rfl (by decide) (by decide) (by decide) rfl rfl rfl (pa_cons (pe_call G_Ldraw (hr.mono (by decide)) (by rfl) T.g_Ldraw T.F_Ldraw.kp T.a_Ldraw .nil pass0 (pa_cons (pv 0) (pa_cons (pv 1) pa_nil))) (pa_cons (pe_call G_Ldraw (hr.mono (by decide)) (by rfl) T.g_Ldraw T.F_Ldraw.kp T.a_Ldraw .nil pass0 (pa_cons (pv 0) (pa_cons pe_int pa_nil))) (pa_cons pe_non pa_nil))) (by rfl))
      (pss_cons (ps_if (PW.pt (pw_and (pt_cmpR op_eq (pv 10) pe_int (nomark _)) (pw_and1 (pt_cmpR op_lt (pv 8) (pe_callB call_len (by rfl) T.b_len (by decide +kernel) (pa_cons (pv 4) pa_nil)) (nomark _)))))
      (pss_cons (ps_par (i := 11) (j := 8) (by rfl) sc_Lrows.nd rfl rfl (by decide) rfl rfl (pa_cons (pe_tup (pa_cons pe_str (pa_cons (pe_ix ix_seq (pv 4) (pv 8) (fun _ _ => rfl)) pa_nil))) (pa_cons (pe_op op_add (pv 8) pe_int) pa_nil)) (by rfl))
      (pss_one (ps_expr (pe_bm PySem.F.plainAttrs_list PySem.F.slot_list_append PySem.F.type_list_append mt_append (pv 7) (pa_cons (pe_ix ix_seq (pv 11) pe_int (fun _ _ => rfl)) pa_nil)))))
      (pss_one (ps_if (PW.pt (pw_and (pt_cmpR op_eq (pv 10) pe_int (nomark _)) (pw_and1 (pt_cmpR (L2.op_neD hr.units) (pv 7) (pe_lst pa_nil) (nomark _)))))
      (pss_one (ps_set (i := 11) sc_Lrows.nd rfl (by first | exact Or.inl rfl | exact Or.inr rfl) (pe_tup (pa_cons pe_str (pa_cons (pe_bm PySem.F.plainAttrs_list PySem.F.slot_list_pop PySem.F.type_list_pop mt_popAt (pv 7) (pa_cons (pe_call G_Ldraw (hr.mono (by decide)) (by rfl) T.g_Ldraw T.F_Ldraw.kp T.a_Ldraw .nil pass0 (pa_cons (pv 0) (pa_cons (pe_callB call_len (by rfl) T.b_len (by decide +kernel) (pa_cons (pv 7) pa_nil)) pa_nil))) pa_nil)) pa_nil)))))
      pss_nil)))
      (pss_one (ps_if (pt_cmpR op_lt (pe_callB call_len (by rfl) T.b_len (by decide +kernel) (pa_cons (pe_ix ix_seq (pe_ix ix_seq (pv 6) (pv 9) (fun _ _ => rfl)) pe_int (fun _ _ => rfl)) pa_nil)) pe_int (nomark _))
      (pss_one (ps_expr (pe_bm PySem.F.plainAttrs_list PySem.F.slot_list_append PySem.F.type_list_append mt_append (pe_ix ix_seq (pe_ix ix_seq (pv 6) (pv 9) (fun _ _ => rfl)) pe_int (fun _ _ => rfl)) (pa_cons (pe_call G_Lstep (hr.mono (by decide)) (by rfl) T.g_Lstep T.F_Lstep.kp T.a_Lstep .nil pass0 (pa_cons (pv 0) (pa_cons (pv 11) pa_nil))) pa_nil))))
      (pss_one (ps_if (PW.pt (pw_and (pt_cmpR op_notN (pv 11) pe_non (nomark _)) (pw_and1 (pt_cmpR op_eq (pe_ix ix_seq (pv 11) pe_int (fun _ _ => rfl)) pe_str (nomark _)))))
      (pss_one (ps_expr (pe_bm PySem.F.plainAttrs_list PySem.F.slot_list_remove PySem.F.type_list_remove mt_removeS (pv 7) (pa_cons (pe_ix ix_seq (pv 11) pe_int (fun _ _ => rfl)) pa_nil))))
      (pss_one (ps_if (pt_cmpR op_notN (pv 11) pe_non (nomark _))
      (pss_one (ps_expr (pe_bm PySem.F.plainAttrs_list PySem.F.slot_list_append PySem.F.type_list_append mt_append (pv 7) (pa_cons (pe_ix ix_seq (pv 11) pe_int (fun _ _ => rfl)) pa_nil))))
      pss_nil)))))))))
      (pss_one (ps_ret (pv 6))))))), ?_⟩
    show tSeq _ _ _ [some (.ref B.p), some (.int (many : Nat)), some (.int (most : Nat)), none, none, none, none, none, none, none, none, none, none] H
    refine ⟨_, rfl, szl (by decide), fun q nq => ?_⟩
    refine ⟨B, q, lawNames, rfl, hB.ext (same_upd nq), upd_same, by decide, fun x hx => name_fine (names_ok x hx) (by decide), fun a ys H1 na hB1 ex1 ea hp => ?_⟩
    have x1 : Ext B.p H H1 := fun b o e n => ex1 _ _ (same_upd nq _ _ e) n
    refine ⟨_, rfl, _, rfl, a, _, rfl, lsq ea, fun u nu => ?_⟩
    rw [cutV_to, ← List.map_take]
    have hns : (ys.take many).Nodup := List.Nodup.sublist (List.take_sublist _ _) (hp.nodup_iff.mpr names_nd)
    have hnn : ∀ n ∈ ys.take many, nameD 6 (.str n) = true := fun n m => names_ok n (hp.mem_iff.mp (List.mem_of_mem_take m))
    have hnl : (ys.take many).length = many := by rw [List.length_take, hp.length_eq]; show min many 6 = many; omega
    generalize ys.take many = ns at hns hnn hnl
    have e2 : (upd H1 u (.lst (ns.map V.str))) u = some (.lst (ns.map V.str)) := upd_same
    have hB2 := hB1.ext (same_upd (o := .lst (ns.map V.str)) nu)
    have x2 : Ext B.p H (upd H1 u (.lst (ns.map V.str))) := fun b o e n => same_upd nu _ _ (x1 b o e n)
    have hup : u ≠ B.p := hB1.ne nu
    generalize upd H1 u (.lst (ns.map V.str)) = H2 at e2 hB2 x2
    dsimp only [gName, List.set]
    show tSeq (tPar3 6 7 8 _) _ _ [some (.ref B.p), some (.int (many : Nat)), some (.int (most : Nat)), some (.ref u), none, none, none, none, none, none, none, none, none] H2
    refine par3_of (ta := tLc (iAny K (tVar 3)) (gName 12) tYes (tTup (tCons (tVar 12) (tCons (tLst tNil) tNil))) [12]) (mk_rows (K := K) (S := fun a => a = B.p) (σ := [some (.ref B.p), some (.int (many : Nat)), some (.int (most : Nat)), some (.ref u), none, none, none, none, none, none, none, none, none]) (nm := u) (ns := ns) (j := 0) (fun a e => by rw [e]; exact hB2.there) rfl (fun v => rfl) (fun v => rfl) ⟨hup, e2⟩ (by omega) fun R ts ls H3 s3 nR eR nd hl tl ll hrow => ?_)
    refine ⟨Nat.zero_le _, fun O nO => ⟨_, _, _, rfl, ?_⟩⟩
    show tSeq (tAsg _ (gName 4)) _ _ [some (.ref B.p), some (.int (many : Nat)), some (.int (most : Nat)), some (.ref u), none, none, some (.ref R), some (.ref O), some (.int 0), none, none, none, none] _
    refine ⟨_, rfl, by decide, fun l1 n1 => ⟨szl (by decide), fun l2 n2 => ⟨l1, l2, _, _, rfl, rfl, same_upd n2 _ _ upd_same, upd_same, by decide, fun W nW => ?_⟩⟩⟩
    have eO : (upd H3 O (.lst [])) O = some (.lst []) := upd_same
    have sO : Same H3 (upd H3 O (.lst [])) := same_upd nO
    generalize upd H3 O (.lst []) = G1 at n1 n2 nW eO sO ⊢
    have s1 : Same G1 (upd G1 l1 (.lst (signsV "mnopkhijuvwrst"))) := same_upd n1
    generalize upd G1 l1 (.lst (signsV "mnopkhijuvwrst")) = G2 at n2 nW s1 ⊢
    have s2 : Same G2 (upd G2 l2 (.lst (lawMore.map V.str))) := same_upd n2
    have nW : (upd G2 l2 (.lst (lawMore.map V.str))) W = none := nW
    have hWO : W ≠ O := fun z => by
      have := s2 _ _ (s1 _ _ eO)
      rw [← z, nW] at this
      cases this
    have eW : (upd (upd G2 l2 (.lst (lawMore.map V.str))) W (.lst (signsV "mnopkhijuvwrst" ++ lawMore.map V.str))) W = some (.lst (lawWords.map V.str)) := by rw [upd_same, words_eq]
    have s4 : Same H3 (upd (upd G2 l2 (.lst (lawMore.map V.str))) W (.lst (signsV "mnopkhijuvwrst" ++ lawMore.map V.str))) := ((sO.trans s1).trans s2).trans (same_upd nW)
    have hs := HR.start (K := K) hB hB2 x2 s3 s4 nR eR nd hl tl ll hrow nO ((s1.trans s2 |>.trans (same_upd nW)) _ _ eO) ((sO.trans s1 |>.trans s2).free nW) hWO eW
    dsimp only [gName, List.set]
    show tSeq (tFor _ _ _) _ _ [some (.ref B.p), some (.int (many : Nat)), some (.int (most : Nat)), some (.ref u), some (.ref W), none, some (.ref R), some (.ref O), some (.int 0), none, none, none, none] (upd (upd G2 l2 (.lst (lawMore.map V.str))) W (.lst (signsV "mnopkhijuvwrst" ++ lawMore.map V.str)))
    generalize upd (upd G2 l2 (.lst (lawMore.map V.str))) W (.lst (signsV "mnopkhijuvwrst" ++ lawMore.map V.str)) = H4 at hs ⊢
    refine for_rngI (fun n H' => Bag B H' ∧ Ext B.p H4 H' ∧ (0 < n → 0 < many) ∧ n ≤ most) (fun Q q => turns_run hs.bag hmost rfl rfl rfl fun n H' a b c d => q n H' ⟨a, b, c, d⟩) fun n H5 ⟨hB5, ex5, hn, hnm⟩ => ⟨by omega, ?_⟩
    have h5 := hs.keep hB5 ex5
    refine ⟨fun i σ H' => ∃ x5 x9 x10 x11 fr rs op, σ = [some (.ref B.p), some (.int (many : Nat)), some (.int (most : Nat)), some (.ref u), some (.ref W), x5, some (.ref R), some (.ref O), some (.int (fr : Nat)), x9, x10, x11, none] ∧ HR K B H H' R O W ts ls rs op ∧ MI ns lawWords rs op fr ∧ fr ≤ 20 ∧ rs.length = many ∧ tot rs ≤ i, ⟨none, none, none, none, 0, _, _, rfl, h5, MI.start, Nat.zero_le _, by rw [List.length_map]; exact hnl, tot_start⟩, ?_, ?_⟩
    · rintro i σ H6 hpos ⟨x5, x9, x10, x11, fr, rs, op, rfl, h6', mi, hfr, hlen, htot⟩
      have hmany := hn (by omega)
      dsimp only [gName, List.set]
      refine ⟨_, rfl, _, rfl, B, _, rfl, h6'.bag, by omega, by omega, fun r1 H7 r10 r11 hB7 ex7 => ⟨_, rfl, B, _, rfl, hB7, by decide, by decide, fun r2 H8 r20 r21 hB8 ex8 => ⟨_, _, _, rfl, ?_⟩⟩⟩
      have h8 := (h6'.keep hB7 ex7).keep hB8 ex8
      obtain ⟨spot, rfl⟩ := Int.eq_ofNat_of_zero_le r10
      obtain ⟨way, rfl⟩ := Int.eq_ofNat_of_zero_le r20
      dsimp only [List.set]
      show tSeq (deedTS K) (rowTS K) _ (stL B R O W (some (.int (many : Nat))) (some (.int (most : Nat))) (some (.ref u)) (some (.int (i : Nat))) fr (some (.int (spot : Nat))) way .non none) H8
      refine body_phase h8 mi hfr (by omega) fun H10 rs' op'' fr' vd h10 mi' hfr' hl' ht' => ?_
      exact ⟨_, _, _, _, fr', rs', op'', rfl, h10, mi', hfr', by omega, by omega⟩
    · rintro σ H6 ⟨x5, x9, x10, x11, fr, rs, op, rfl, h6', mi, hfr, hlen, htot⟩
      exact ⟨_, rfl, k _ rs H6 h6'.bag h6'.ext (h6'.data mi.kind) (mi.valid (by omega) hnn hns) mi.kind hlen (by omega)⟩
end
end My

set_option Elab.async false
set_option linter.all false
set_option maxRecDepth 100000
namespace My
open PySem PySem.Spec PyProof.Rows L2 TL
/-! ### logs as worths -/
section
variable {K : PySem.W.Frag} {S : Sh} {C : Addr} {σ : L2.St} {H : Hp} {rs : List Row} {ta tb : TE} {tr : TA} {E : XK}
def SL (K : PySem.W.Frag) (C : Addr) (S : Sh) (ta : TE) (σ : L2.St) (H : Hp) (rs : List Row) : Prop := ∀ S' H', Now S H S' H' → ∀ Q : VK, (∀ a H2, Same H' H2 → LogAt K C S' H2 a rs → Q (.ref a) H2) → ta σ H' Q
theorem sl_var {i : Nat} {a : Addr} (hi : σ[i]? = some (some (.ref a))) (h : LogAt K C S H a rs) : SL K C S (tVar i) σ H rs := fun S1 H1 n Q q => ⟨_, hi, q a H1 (Same.refl _) (h.now n)⟩
theorem sl_read (h : SV K S ta σ H (.str (logText rs))) (hv : Valid rs) (hk : ∀ r ∈ rs, r.k = true) : SL K C S (ClX.tCMeth C (fun vs H Q E => spLogRead K C (vs ++ []) H Q E) E (tC (.ref C)) (tCons ta tNil)) σ H rs := fun S1 H1 n Q q => ⟨rfl, h S1 H1 n _ fun v H2 s2 hx => ⟨S1, rs, by rw [hx.s]; rfl, n.live.same s2, hv, hk, fun a H3 s3 hl => q a H3 (s2.trans s3) hl⟩⟩
theorem sl_readK (h : SV K S ta σ H (.str (logText rs))) (hv : Valid rs) (hk : ∀ r ∈ rs, r.k = true) {gV : List V → List V → List V} (hg : ∀ v, gV [.ref C] [v] = [.ref C, v]) : SL K C S (tCMethK C 1 (spLogRead K C) gV E (tC (.ref C)) (tCons ta tNil)) σ H rs := fun S1 H1 n Q q => ⟨rfl, h S1 H1 n _ fun v H2 s2 hx => ⟨rfl, S1, rs, by rw [hg, hx.s], n.live.same s2, hv, hk, fun a H3 s3 hl => q a H3 (s2.trans s3) hl⟩⟩
theorem sl_eq (ha : SL K C S ta σ H rs) (hb : SL K C S tb σ H rs) : SV K S (tOp (rEqG (DIns C (LogEq K C))) ta tb) σ H (.bool true) := fun S1 H1 n Q q =>
  ha S1 H1 n _ fun a H2 s2 h2 => hb S1 H2 (n.then s2) _ fun b H3 s3 h3 => by
    have h2' := h2.same s3
    obtain ⟨dx, r, o, h4, h5, h6, h7⟩ := h2'.at_
    obtain ⟨dy, r', o', g4, g5, g6, g7⟩ := h3.at_
    exact ⟨⟨a, b, dx, dy, _, _, rfl, rfl, h5, g5, S1, rs, (n.live.same s2).same s3, h2', h3⟩, fun H4 e => q _ H4 ((s2.trans s3).trans e) (.bl true)⟩
theorem sl_meth {m : Str} {f : List Row → PyData} (h : SL K C S ta σ H rs) (hm : ∀ r o, (fldsL r o).lookup m = none) : SV K S (tMeth C m (spMeth K C f) [] E ta tNil) σ H (f rs) := fun S1 H1 n Q q =>
  h S1 H1 n _ fun a H2 s2 h2 => by
    obtain ⟨dx, r, o, h4, h5, h6, h7⟩ := h2.at_
    exact ⟨a, dx, _, rfl, h5, hm _ _, S1, a, rs, rfl, n.live.same s2, h2, fun v H3 s3 hv => q v H3 (s2.trans s3) hv⟩
theorem sl_str {f : List Row → PyData} (h : SL K C S ta σ H rs) (hf : ∃ x, f rs = .str x) : SV K S (tCB (fun xs H Q => ∃ a dx fs, xs = [.ref a] ∧ H a = some (.ins C dx fs) ∧ spMeth K C f ([.ref a] ++ []) H (fun v H' => (∃ x, v = .str x) ∧ Q v H') E) (tCons ta tNil)) σ H (f rs) := fun S1 H1 n Q q =>
  h S1 H1 n _ fun a H2 s2 h2 => by
    obtain ⟨dx, r, o, h4, h5, h6, h7⟩ := h2.at_
    refine ⟨a, dx, _, rfl, h5, S1, a, rs, rfl, n.live.same s2, h2, fun v H3 s3 hv => ⟨?_, q v H3 (s2.trans s3) hv⟩⟩
    obtain ⟨x, e⟩ := hf
    rw [e] at hv
    exact ⟨x, hv.s⟩
end
/-! ### the log that is written out -/
def rs0 : List Row := [⟨"a", true, [⟨"x", 1, none⟩, ⟨"y", 0, some (true, "m")⟩]⟩, ⟨"b", true, []⟩, ⟨"low", true, [⟨"z", -2, some (false, "m")⟩]⟩]
theorem rs0_text : logText rs0 = "a: x=1 y!m\nb:\nlow: z=-2?m\n" := by decide +kernel
theorem rs0_pl : (lastO rs0).pl = rs0.map fun r => r.s.length := by decide +kernel
theorem rs0_valid : Valid rs0 where
  few := by decide
  name := by decide +kernel
  nd := by decide +kernel
  len := by decide +kernel
  step := by
    have : (rs0.all fun r => r.s.all fun s => stepD (stpP s)) = true := by decide +kernel
    exact fun r m s ms => List.all_eq_true.mp (List.all_eq_true.mp this r m) s ms
  once := by decide +kernel
  sent := fun w h => by
    have e : deeds rs0 = [(true, ("m" : Str)), (false, ("m" : Str))] := rfl
    rw [e] at h ⊢
    simp at h
    simp [h]
  done := fun i r e => by
    rw [rs0_pl, total_eq, e]
theorem nil_valid : Valid [] where
  few := by decide
  name := fun r m => by cases m
  nd := List.nodup_nil
  len := fun r m => by cases m
  step := fun r m => by cases m
  once := List.nodup_nil
  sent := fun w h => by cases h
  done := fun i r e => by cases e
theorem nil_text : logText [] = "" := by decide +kernel
end My

set_option Elab.async false
set_option linter.all false
set_option maxRecDepth 100000
namespace My
open PySem PySem.Spec PyProof.Rows L2 TL
def spLaw (K : PySem.W.Frag) : Sp := fun vs H Q _ => ∃ (a : Addr) (ns : List Int), vs = [.ref a] ∧ SqL K H a (ns.map V.int) ∧ ns.length ≤ 63 ∧ ∀ H', Q (.bl true) H'
section
variable {P : Program} {w : World} {K : PySem.W.Frag} {mg : Str → Option Value} {base : Heap} {A : Top}
theorem sv_same {S : Sh} {σ : L2.St} {H : Hp} {ta tb : TE} {d : PyData} {E : XK} {n : Nat} (ha : SV K S ta σ H d) (hb : SV K S tb σ H d) (hd : d.depth ≤ n) (hs : small d = true) : SV K S (tCall (spSameLt K (n + 1)) [] E (tCons ta (tCons tb tNil))) σ H (.bool true) := fun S1 H1 m Q q =>
  ha S1 H1 m _ fun v H2 s2 hv => hb S1 H2 (m.then s2) _ fun u H3 s3 hu => ⟨v, u, d, rfl, Ds.dp _ _ (hv.same s3), Ds.dp _ _ hu, hd, hs, fun H4 s4 => q _ _ ((s2.trans s3).trans s4) (.bl true)⟩
theorem map_rowL {rs : List Row} (hk : ∀ r ∈ rs, r.k = true) : rs.map rowL = rs.map rowP := List.map_congr_left fun r m => by
  show PyData.tuple [.str r.n, .list (r.s.map stpP)] = .tuple [.str r.n, seqD r.k (r.s.map stpP)]
  rw [hk r m]
  rfl
theorem rows_depth {rs : List Row} (h : Valid rs) : (PyData.list (rs.map rowP)).depth ≤ 5 := depth_seq (k := true) (n := 4) fun d hd => by
  obtain ⟨r, m, rfl⟩ := List.mem_map.mp hd
  exact (h.row m).2.1
set_option maxHeartbeats 1000000 in
theorem ok_law (T : TopOk K mg A) : FnOk P w K mg base CX0 20 A.f_law A.d_law P_law (spLaw K) := by
  have G_Lbag : FnOk P w K mg base CX0 1 A.f_Lbag A.d_Lbag P_Lbag (spBag K) := ok_Lbag T
  have G_Ldraw : FnOk P w K mg base CX0 1 A.f_Ldraw A.d_Ldraw P_Ldraw spDraw := ok_Ldraw T
  have G_Lrows : FnOk P w K mg base CX0 4 A.f_Lrows A.d_Lrows P_Lrows (spLrows K) := ok_Lrows T
  have G_Llog : FnOk P w K mg base CX0 10 A.f_Llog A.d_Llog P_Llog (spLlog K A.c_Log) := ok_Llog T
  have G_Llog_text : FnOk P w K mg base CX0 2 A.f_Llog_text A.d_Llog_text P_Llog_text (spLtext K) := ok_Llog_text T
  have G_Log_read : FnOk P w K mg base CX0 10 A.f_Log_read A.d_Log_read P_Log_read (spLogRead K A.c_Log) := ok_read T
  have G_Log_text : FnOk P w K mg base CX0 3 A.f_Log_text A.d_Log_text P_Log_text (spMeth K A.c_Log fun rs => .str (logText rs)) := ok_text T
  have G_Log_str : FnOk P w K mg base CX0 4 A.f_Log_str A.d_Log_str P_Log_str (spMeth K A.c_Log fun rs => .str (logText rs)) := ok_str T
  have G_Log_rows : FnOk P w K mg base CX0 1 A.f_Log_rows A.d_Log_rows P_Log_rows (spMeth K A.c_Log fun rs => .list (rs.map rowL)) := ok_rows T
  have G_Log_eq : FnOk P w K mg base CX0 1 A.f_Log_eq A.d_Log_eq P_Log_eq (spEq (LogEq K A.c_Log)) := ok_eq T
  have G_Lsame : FnOk P w K mg base CX0 9 A.f_Lsame A.d_Lsame P_Lsame (spSameLt K 9) := ok_Lsame T 9
  refine T.F_law.ok sc_law (fun vs H Q E h => ?_) (fun cdv Ar outer s H vs Q E hr h => ?_)
  · obtain ⟨a, ns, rfl, _⟩ := h
    rfl
  · obtain ⟨a, ns, rfl, hS, hl, q⟩ := h
    refine ⟨_, (pss_cons (ps_set (i := 1) sc_law.nd rfl (by first | exact Or.inl rfl | exact Or.inr rfl) (pe_call G_Lbag (hr.mono (by decide)) (by rfl) T.g_Lbag T.F_Lbag.kp T.a_Lbag .nil pass0 (pa_cons (pv 0) pa_nil)))
      (pss_cons (ps_for PassesOwn.never rfl (pi_range1 (by rfl) T.b_range (pa_cons pe_int pa_nil)) (pg_name (i := 2) sc_law.nd rfl (by first | exact Or.inl rfl | exact Or.inr rfl))
      (pss_cons (ps_set (i := 4) sc_law.nd rfl (by first | exact Or.inl rfl | exact Or.inr rfl) (pe_call G_Lrows (hr.mono (by decide)) (by rfl) T.g_Lrows T.F_Lrows.kp T.a_Lrows .nil pass0 (pa_cons (pv 1) (pa_cons (pe_call G_Ldraw (hr.mono (by decide)) (by rfl) T.g_Ldraw T.F_Ldraw.kp T.a_Ldraw .nil pass0 (pa_cons (pv 1) (pa_cons pe_int pa_nil))) (pa_cons pe_int pa_nil)))))
      (pss_cons (ps_par (i := 6) (j := 7) (by rfl) sc_law.nd rfl rfl (by decide) rfl rfl (pa_cons (pe_call G_Llog (hr.mono (by decide)) (by rfl) T.g_Llog T.F_Llog.kp T.a_Llog .nil pass0 (pa_cons (pv 4) pa_nil)) (pa_cons (pe_call G_Llog_text (hr.mono (by decide)) (by rfl) T.g_Llog_text T.F_Llog_text.kp T.a_Llog_text .nil pass0 (pa_cons (pv 4) pa_nil)) pa_nil)) (by rfl))
      (pss_cons (ps_set (i := 5) sc_law.nd rfl (by first | exact Or.inl rfl | exact Or.inr rfl) (ClX.pe_cmeth (pe_glob (v := .ref A.c_Log) (by rfl) T.m_Log rfl) T.rd_Log T.cm_Log_read (FnOk.raw G_Log_read T.a_Log_read .nil) (hr.mono (by decide)) pass0 (pa_cons (pv 7) pa_nil)))
      (pss_one (ps_if (pt_not (pt_val (pe_call G_Lsame (hr.mono (by decide)) (by rfl) T.g_Lsame T.F_Lsame.kp T.a_Lsame .nil pass0 (pa_cons (pe_lst (pa_cons (pe_meth0 (pv 6) T.cl_Log T.me_Log_text G_Log_text (hr.mono (by decide)) T.a_Log_text .nil pass0) (pa_cons (pe_callTy (call_strOwn T.me_Log_str.at_ T.me_Log_str.fn (FnOk.raw G_Log_str T.a_Log_str .nil) (hr.mono (by decide)) pass0) (by rfl) T.b_str (by decide +kernel) (pa_cons (pv 6) pa_nil)) (pa_cons (pe_meth0 (pv 5) T.cl_Log T.me_Log_rows G_Log_rows (hr.mono (by decide)) T.a_Log_rows .nil pass0) (pa_cons (pe_meth0 (pv 5) T.cl_Log T.me_Log_text G_Log_text (hr.mono (by decide)) T.a_Log_text .nil pass0) (pa_cons (pe_cmpR (L2.op_eqG (L2.rcG_ins G_Log_eq T.me_Log_eq.at_ T.me_Log_eq.fn T.a_Log_eq pass0) (hr.mono (by decide))) (pe_cmethK (pe_glob (v := .ref A.c_Log) (by rfl) T.m_Log rfl) T.rd_Log T.cm_Log_read G_Log_read (hr.mono (by decide)) T.kb_Log_read_1_text pass0 (pk_cons (pv 7) pk_nil)) (pv 6) (nomark _)) pa_nil)))))) (pa_cons (pe_lst (pa_cons (pv 7) (pa_cons (pv 7) (pa_cons (pv 4) (pa_cons (pv 7) (pa_cons pe_bl pa_nil)))))) pa_nil)))))
      (pss_one (ps_ret pe_bl))
      pss_nil))))))
      (pss_cons (ps_set (i := 3) sc_law.nd rfl (by first | exact Or.inl rfl | exact Or.inr rfl) (ClX.pe_cmeth (pe_glob (v := .ref A.c_Log) (by rfl) T.m_Log rfl) T.rd_Log T.cm_Log_read (FnOk.raw G_Log_read T.a_Log_read .nil) (hr.mono (by decide)) pass0 (pa_cons pe_str pa_nil)))
      (pss_one (ps_ret (pe_call G_Lsame (hr.mono (by decide)) (by rfl) T.g_Lsame T.F_Lsame.kp T.a_Lsame .nil pass0 (pa_cons (pe_lst (pa_cons (pe_meth0 (pv 3) T.cl_Log T.me_Log_rows G_Log_rows (hr.mono (by decide)) T.a_Log_rows .nil pass0) (pa_cons (pe_meth0 (ClX.pe_cmeth (pe_glob (v := .ref A.c_Log) (by rfl) T.m_Log rfl) T.rd_Log T.cm_Log_read (FnOk.raw G_Log_read T.a_Log_read .nil) (hr.mono (by decide)) pass0 (pa_cons pe_str pa_nil)) T.cl_Log T.me_Log_rows G_Log_rows (hr.mono (by decide)) T.a_Log_rows .nil pass0) pa_nil))) (pa_cons (pe_lst (pa_cons (pe_lst (pa_cons (pe_tup (pa_cons pe_str (pa_cons (pe_lst (pa_cons (pe_tup (pa_cons pe_str (pa_cons pe_int (pa_cons pe_non pa_nil)))) (pa_cons (pe_tup (pa_cons pe_str (pa_cons pe_int (pa_cons (pe_tup (pa_cons pe_str (pa_cons pe_str pa_nil))) pa_nil)))) pa_nil))) pa_nil))) (pa_cons (pe_tup (pa_cons pe_str (pa_cons (pe_lst pa_nil) pa_nil))) (pa_cons (pe_tup (pa_cons pe_str (pa_cons (pe_lst (pa_cons (pe_tup (pa_cons pe_str (pa_cons (pe_un un_neg pe_int) (pa_cons (pe_tup (pa_cons pe_str (pa_cons pe_str pa_nil))) pa_nil)))) pa_nil)) pa_nil))) pa_nil)))) (pa_cons (pe_lst pa_nil) pa_nil))) pa_nil)))))))), ?_⟩
    show tSeq (tAsg _ (gName 1)) _ _ [some (.ref a), none, none, none, none, none, none, none] H
    refine ⟨_, rfl, a, ns, rfl, hS, hl, fun B H1 nB hB s1 => ?_⟩
    dsimp only [gName, List.set]
    show tSeq (tFor (iRng1 (tCons (tC (.int 3)) tNil)) (gName 2) _) _ _ [some (.ref a), some (.ref B.p), none, none, none, none, none, none] H1
    refine for_rng (fun n H' => n = 3 ∧ H' = H1) (fun Q q => q 3 H1 ⟨rfl, rfl⟩) fun n H5 e => ?_
    obtain ⟨rfl, rfl⟩ := e
    refine ⟨by decide, fun σ H' => ∃ x2 x4 x5 x6 x7, σ = [some (.ref a), some (.ref B.p), x2, none, x4, x5, x6, x7] ∧ Bag B H', ⟨_, _, _, _, _, rfl, hB⟩, ?_, ?_⟩
    · rintro v σ H2 _ ⟨x2, x4, x5, x6, x7, rfl, hB2⟩
      dsimp only [gName, List.set]
      show tSeq (tAsg _ (gName 4)) _ _ [some (.ref a), some (.ref B.p), some v, none, x4, x5, x6, x7] H2
      refine ⟨_, rfl, _, rfl, B, 7, rfl, hB2, by decide, by decide, fun r H3 r0 r1 hB3 ex3 => ?_⟩
      obtain ⟨many, rfl⟩ := Int.eq_ofNat_of_zero_le r0
      refine ⟨B, many, 25, rfl, hB3, by omega, by decide, fun vr rs H4 hB4 ex4 hv val hk _ _ => ?_⟩
      have l4 : Live (fun a => a = B.p) H4 := fun a e => by rw [e]; exact hB4.there
      dsimp only [gName, List.set]
      show tSeq (tPar 6 7 _) _ _ [some (.ref a), some (.ref B.p), some v, none, some vr, x5, x6, x7] H4
      refine ⟨_, rfl, (fun a => a = B.p), vr, rs, rfl, l4, hv, val, fun b H5 s5 hlog => ⟨_, rfl, (fun a => a = B.p), rs, l4.same s5, .cons (hv.same s5) .nil, val, fun vt H6 s6 ht => ⟨_, _, rfl, ?_⟩⟩⟩
      have et : vt = .str (logText rs) := Ds.s ht
      subst et
      dsimp only [List.set]
      have l6 := (l4.same s5).same s6
      have hlog6 := hlog.same s6
      have hv6 := (hv.same s5).same s6
      have hB6 := (hB4.ext s5).ext s6
      show tSeq (tAsg _ (gName 5)) _ _ [some (.ref a), some (.ref B.p), some v, none, some vr, x5, some (.ref b), some (.str (logText rs))] H6
      have hr1 := sl_read (K := K) (C := A.c_Log) (S := fun a => a = B.p) (E := E0) (σ := [some (.ref a), some (.ref B.p), some v, none, some vr, x5, some (.ref b), some (.str (logText rs))]) (H := H6) (sv_vs (i := 7) rfl) val hk
      refine hr1 _ H6 (Now.refl l6) _ fun c H7 s7 hc => ?_
      dsimp only [gName, List.set]
      have l7 := l6.same s7
      have hlog7 := hlog6.same s7
      have hv7 := hv6.same s7
      have h1 := sv_lst (sa_cons (sl_meth (K := K) (C := A.c_Log) (S := fun a => a = B.p) (E := E0) (σ := [some (.ref a), some (.ref B.p), some v, none, some vr, some (.ref c), some (.ref b), some (.str (logText rs))]) (H := H7) (m := "text") (f := fun rs => .str (logText rs)) (sl_var (i := 6) rfl hlog7) (fun _ _ => rfl)) (sa_cons (sl_str (E := E0) (f := fun rs => .str (logText rs)) (sl_var (i := 6) rfl hlog7) ⟨_, rfl⟩) (sa_cons (sl_meth (E := E0) (m := "rows") (f := fun rs => .list (rs.map rowL)) (sl_var (i := 5) rfl hc) (fun _ _ => rfl)) (sa_cons (sl_meth (E := E0) (m := "text") (f := fun rs => .str (logText rs)) (sl_var (i := 5) rfl hc) (fun _ _ => rfl)) (sa_cons (sl_eq (sl_readK (E := E0) (gV := fun us ws => List.take 1 (List.drop 0 us) ++ List.take 1 (List.drop 0 ws)) (sv_vs (i := 7) rfl) val hk (fun _ => rfl)) (sl_var (i := 6) rfl hlog7)) sa_nil))))) rfl
      have h2 := sv_lst (sa_cons (sv_vs (K := K) (S := fun a => a = B.p) (σ := [some (.ref a), some (.ref B.p), some v, none, some vr, some (.ref c), some (.ref b), some (.str (logText rs))]) (H := H7) (i := 7) rfl) (sa_cons (sv_vs (i := 7) rfl) (sa_cons (sv_var (i := 4) rfl hv7) (sa_cons (sv_vs (i := 7) rfl) (sa_cons (sv_bl (b := true)) sa_nil))))) rfl
      rw [map_rowL hk] at h1
      refine if_sb (S := fun a => a = B.p) (b := false) l7 (sb_is (sb_not (sb_val (sv_same h1 h2 ?_ ?_))) rfl) (fun z => Bool.noConfusion z) fun _ H8 s8 l8 => ?_
      · refine Nat.le_trans (depth_seq (k := true) (n := 5) fun d hd => ?_) (by decide)
        simp only [List.mem_cons, List.not_mem_nil, or_false] at hd
        rcases hd with rfl | rfl | rfl | rfl | rfl
        · simp [PyData.depth]
        · simp [PyData.depth]
        · exact rows_depth val
        · simp [PyData.depth]
        · simp [PyData.depth]
      · have hsm := fine_small (rowsP_fine val)
        generalize PyData.list (rs.map rowP) = dd at hsm ⊢
        simp [small, smallAll, hsm]
        have := log_len val
        omega
      · exact ⟨_, _, _, _, _, rfl, (hB6.ext s7).ext s8⟩
    · rintro σ H2 ⟨x2, x4, x5, x6, x7, rfl, hB2⟩
      have l2 : Live (fun a => a = B.p) H2 := fun a e => by rw [e]; exact hB2.there
      have hk0 : ∀ r ∈ rs0, r.k = true := by decide
      have st : ∀ (σ : L2.St) (H : Hp), SV K (fun a => a = B.p) (tC (.str "a: x=1 y!m\nb:\nlow: z=-2?m\n")) σ H (.str (logText rs0)) := fun σ H => sv_is sv_str (by rw [rs0_text])
      have sn : ∀ (σ : L2.St) (H : Hp), SV K (fun a => a = B.p) (tC (.str "")) σ H (.str (logText [])) := fun σ H => sv_is sv_str (by rw [nil_text])
      show tSeq (tAsg _ (gName 3)) _ _ [some (.ref a), some (.ref B.p), x2, none, x4, x5, x6, x7] H2
      have hr0 := sl_read (K := K) (C := A.c_Log) (S := fun a => a = B.p) (E := E0) (rs := rs0) (st [some (.ref a), some (.ref B.p), x2, none, x4, x5, x6, x7] H2) rs0_valid hk0
      refine hr0 _ H2 (Now.refl l2) _ fun c H3 s3 hc => ?_
      dsimp only [gName, List.set]
      have l3 := l2.same s3
      have h1 := sv_lst (sa_cons (sl_meth (K := K) (C := A.c_Log) (S := fun a => a = B.p) (E := E0) (σ := [some (.ref a), some (.ref B.p), x2, some (.ref c), x4, x5, x6, x7]) (H := H3) (m := "rows") (f := fun rs => .list (rs.map rowL)) (sl_var (i := 3) rfl hc) (fun _ _ => rfl)) (sa_cons (sl_meth (C := A.c_Log) (E := E0) (m := "rows") (f := fun rs => .list (rs.map rowL)) (sl_read (E := E0) (rs := []) (sn _ _) nil_valid (fun r m => by cases m)) (fun _ _ => rfl)) sa_nil)) rfl
      rw [map_rowL hk0] at h1
      refine ret_sv (K := K) (S := fun a => a = B.p) l3 (sv_same h1 (sv_lst (sa_cons (sv_lst (sa_cons (sv_tup (sa_cons sv_str (sa_cons (sv_lst (sa_cons (sv_tup (sa_cons sv_str (sa_cons sv_int (sa_cons sv_non sa_nil))) rfl) (sa_cons (sv_tup (sa_cons sv_str (sa_cons sv_int (sa_cons (sv_tup (sa_cons sv_str (sa_cons sv_str sa_nil)) rfl) sa_nil))) rfl) sa_nil)) rfl) sa_nil)) rfl) (sa_cons (sv_tup (sa_cons sv_str (sa_cons (sv_lst sa_nil rfl) sa_nil)) rfl) (sa_cons (sv_tup (sa_cons sv_str (sa_cons (sv_lst (sa_cons (sv_tup (sa_cons sv_str (sa_cons (sv_neg sv_int) (sa_cons (sv_tup (sa_cons sv_str (sa_cons sv_str sa_nil)) rfl) sa_nil))) rfl) sa_nil) rfl) sa_nil)) rfl) sa_nil))) rfl) (sa_cons (sv_lst sa_nil rfl) sa_nil)) rfl) ?_ ?_) fun v H4 s4 hv => ?_
      · decide +kernel
      · decide +kernel
      · rw [hv.b]
        exact q H4
end
end My

set_option Elab.async false
set_option linter.all false
set_option maxRecDepth 100000
set_option maxHeartbeats 0
namespace My
open PySem PySem.Spec PyProof.Rows L2 TL
theorem all_mk {l : PySem.W.OpenLaw} {w : World} {K : PySem.W.Frag} {h : Heap} {mg : Str → Option Value} {fa : Addr} (X : K.In h) (G : h.Ns mainGlobals mg) (hfa : mg "law" = some (.ref fa))
    {c_Log : Addr}
    {f_i_Log : Addr} {od_i_Log an_i_Log : Option Addr} {sl_i_Log : Array (Option Value)} {oc_i_Log kV_i_Log dc_i_Log pm_i_Log cd_i_Log ct_i_Log : Value}
    {f_Log_rows : Addr} {od_Log_rows an_Log_rows : Option Addr} {sl_Log_rows : Array (Option Value)} {oc_Log_rows kV_Log_rows dc_Log_rows pm_Log_rows cd_Log_rows ct_Log_rows : Value}
    {f_Log_text : Addr} {od_Log_text an_Log_text : Option Addr} {sl_Log_text : Array (Option Value)} {oc_Log_text kV_Log_text dc_Log_text pm_Log_text cd_Log_text ct_Log_text : Value}
    {f_Log_read : Addr} {od_Log_read an_Log_read : Option Addr} {sl_Log_read : Array (Option Value)} {oc_Log_read kV_Log_read dc_Log_read pm_Log_read cd_Log_read ct_Log_read : Value}
    {p_Log_read : Addr} {rest_Log_read : List Value}
    {f_Log_eq : Addr} {od_Log_eq an_Log_eq : Option Addr} {sl_Log_eq : Array (Option Value)} {oc_Log_eq kV_Log_eq dc_Log_eq pm_Log_eq cd_Log_eq ct_Log_eq : Value}
    {f_Log_str : Addr} {od_Log_str an_Log_str : Option Addr} {sl_Log_str : Array (Option Value)} {oc_Log_str kV_Log_str dc_Log_str pm_Log_str cd_Log_str ct_Log_str : Value}
    {tk_Log_PROCESSES : Tok}
    {tk_Log_STEPS : Tok}
    {f_is_name : Addr} {od_is_name an_is_name : Option Addr} {sl_is_name : Array (Option Value)} {oc_is_name kV_is_name dc_is_name pm_is_name cd_is_name ct_is_name : Value}
    {f_is_word : Addr} {od_is_word an_is_word : Option Addr} {sl_is_word : Array (Option Value)} {oc_is_word kV_is_word dc_is_word pm_is_word cd_is_word ct_is_word : Value}
    {f_is_number : Addr} {od_is_number an_is_number : Option Addr} {sl_is_number : Array (Option Value)} {oc_is_number kV_is_number dc_is_number pm_is_number cd_is_number ct_is_number : Value}
    {f_is_step : Addr} {od_is_step an_is_step : Option Addr} {sl_is_step : Array (Option Value)} {oc_is_step kV_is_step dc_is_step pm_is_step cd_is_step ct_is_step : Value}
    {f_step_text : Addr} {od_step_text an_step_text : Option Addr} {sl_step_text : Array (Option Value)} {oc_step_text kV_step_text dc_step_text pm_step_text cd_step_text ct_step_text : Value}
    {f_read_step : Addr} {od_read_step an_read_step : Option Addr} {sl_read_step : Array (Option Value)} {oc_read_step kV_read_step dc_read_step pm_read_step cd_read_step ct_read_step : Value}
    {f_read_number : Addr} {od_read_number an_read_number : Option Addr} {sl_read_number : Array (Option Value)} {oc_read_number kV_read_number dc_read_number pm_read_number cd_read_number ct_read_number : Value}
    {f_consists_of : Addr} {od_consists_of an_consists_of : Option Addr} {sl_consists_of : Array (Option Value)} {oc_consists_of kV_consists_of dc_consists_of pm_consists_of cd_consists_of ct_consists_of : Value}
    {f_is_deed : Addr} {od_is_deed an_is_deed : Option Addr} {sl_is_deed : Array (Option Value)} {oc_is_deed kV_is_deed dc_is_deed pm_is_deed cd_is_deed ct_is_deed : Value}
    {f_split_deed : Addr} {od_split_deed an_split_deed : Option Addr} {sl_split_deed : Array (Option Value)} {oc_split_deed kV_split_deed dc_split_deed pm_split_deed cd_split_deed ct_split_deed : Value}
    {f_check_rows : Addr} {od_check_rows an_check_rows : Option Addr} {sl_check_rows : Array (Option Value)} {oc_check_rows kV_check_rows dc_check_rows pm_check_rows cd_check_rows ct_check_rows : Value}
    {f_is_row : Addr} {od_is_row an_is_row : Option Addr} {sl_is_row : Array (Option Value)} {oc_is_row kV_is_row dc_is_row pm_is_row cd_is_row ct_is_row : Value}
    {f_check_steps : Addr} {od_check_steps an_check_steps : Option Addr} {sl_check_steps : Array (Option Value)} {oc_check_steps kV_check_steps dc_check_steps pm_check_steps cd_check_steps ct_check_steps : Value}
    {f_check_messages : Addr} {od_check_messages an_check_messages : Option Addr} {sl_check_messages : Array (Option Value)} {oc_check_messages kV_check_messages dc_check_messages pm_check_messages cd_check_messages ct_check_messages : Value}
    {f_check_ends : Addr} {od_check_ends an_check_ends : Option Addr} {sl_check_ends : Array (Option Value)} {oc_check_ends kV_check_ends dc_check_ends pm_check_ends cd_check_ends ct_check_ends : Value}
    {f_names : Addr} {od_names an_names : Option Addr} {sl_names : Array (Option Value)} {oc_names kV_names dc_names pm_names cd_names ct_names : Value}
    {f_deeds : Addr} {od_deeds an_deeds : Option Addr} {sl_deeds : Array (Option Value)} {oc_deeds kV_deeds dc_deeds pm_deeds cd_deeds ct_deeds : Value}
    {f_first_unsent : Addr} {od_first_unsent an_first_unsent : Option Addr} {sl_first_unsent : Array (Option Value)} {oc_first_unsent kV_first_unsent dc_first_unsent pm_first_unsent cd_first_unsent ct_first_unsent : Value}
    {f_order_of : Addr} {od_order_of an_order_of : Option Addr} {sl_order_of : Array (Option Value)} {oc_order_of kV_order_of dc_order_of pm_order_of cd_order_of ct_order_of : Value}
    {f_first_ready : Addr} {od_first_ready an_first_ready : Option Addr} {sl_first_ready : Array (Option Value)} {oc_first_ready kV_first_ready dc_first_ready pm_first_ready cd_first_ready ct_first_ready : Value}
    {f_can_be_made : Addr} {od_can_be_made an_can_be_made : Option Addr} {sl_can_be_made : Array (Option Value)} {oc_can_be_made kV_can_be_made dc_can_be_made pm_can_be_made cd_can_be_made ct_can_be_made : Value}
    {f_row_text : Addr} {od_row_text an_row_text : Option Addr} {sl_row_text : Array (Option Value)} {oc_row_text kV_row_text dc_row_text pm_row_text cd_row_text ct_row_text : Value}
    {f_read_row : Addr} {od_read_row an_read_row : Option Addr} {sl_read_row : Array (Option Value)} {oc_read_row kV_read_row dc_read_row pm_read_row cd_read_row ct_read_row : Value}
    {f_Lbag : Addr} {od_Lbag an_Lbag : Option Addr} {sl_Lbag : Array (Option Value)} {oc_Lbag kV_Lbag dc_Lbag pm_Lbag cd_Lbag ct_Lbag : Value}
    {f_Ldraw : Addr} {od_Ldraw an_Ldraw : Option Addr} {sl_Ldraw : Array (Option Value)} {oc_Ldraw kV_Ldraw dc_Ldraw pm_Ldraw cd_Ldraw ct_Ldraw : Value}
    {f_Lof : Addr} {od_Lof an_Lof : Option Addr} {sl_Lof : Array (Option Value)} {oc_Lof kV_Lof dc_Lof pm_Lof cd_Lof ct_Lof : Value}
    {f_Lmixed : Addr} {od_Lmixed an_Lmixed : Option Addr} {sl_Lmixed : Array (Option Value)} {oc_Lmixed kV_Lmixed dc_Lmixed pm_Lmixed cd_Lmixed ct_Lmixed : Value}
    {f_Lsame : Addr} {od_Lsame an_Lsame : Option Addr} {sl_Lsame : Array (Option Value)} {oc_Lsame kV_Lsame dc_Lsame pm_Lsame cd_Lsame ct_Lsame : Value}
    {f_Lmarks : Addr} {od_Lmarks an_Lmarks : Option Addr} {sl_Lmarks : Array (Option Value)} {oc_Lmarks kV_Lmarks dc_Lmarks pm_Lmarks cd_Lmarks ct_Lmarks : Value}
    {f_Lstep : Addr} {od_Lstep an_Lstep : Option Addr} {sl_Lstep : Array (Option Value)} {oc_Lstep kV_Lstep dc_Lstep pm_Lstep cd_Lstep ct_Lstep : Value}
    {f_Lrows : Addr} {od_Lrows an_Lrows : Option Addr} {sl_Lrows : Array (Option Value)} {oc_Lrows kV_Lrows dc_Lrows pm_Lrows cd_Lrows ct_Lrows : Value}
    {f_Llog : Addr} {od_Llog an_Llog : Option Addr} {sl_Llog : Array (Option Value)} {oc_Llog kV_Llog dc_Llog pm_Llog cd_Llog ct_Llog : Value}
    {f_Lstep_text : Addr} {od_Lstep_text an_Lstep_text : Option Addr} {sl_Lstep_text : Array (Option Value)} {oc_Lstep_text kV_Lstep_text dc_Lstep_text pm_Lstep_text cd_Lstep_text ct_Lstep_text : Value}
    {f_Llog_text : Addr} {od_Llog_text an_Llog_text : Option Addr} {sl_Llog_text : Array (Option Value)} {oc_Llog_text kV_Llog_text dc_Llog_text pm_Llog_text cd_Llog_text ct_Llog_text : Value}
    {f_law : Addr} {od_law an_law : Option Addr} {sl_law : Array (Option Value)} {oc_law kV_law dc_law pm_law cd_law ct_law : Value}
    {q_DEEDS : Addr} {dd_DEEDS : Option Addr} {m_DEEDS : Nat} {sl_DEEDS : Array (Option Value)}
    {q_DEEDS_1 : Addr} {dd_DEEDS_1 : Option Addr} {m_DEEDS_1 : Nat} {sl_DEEDS_1 : Array (Option Value)} {tk_DEEDS_1_0 tk_DEEDS_1_1 : Tok}
    {q_DEEDS_0 : Addr} {dd_DEEDS_0 : Option Addr} {m_DEEDS_0 : Nat} {sl_DEEDS_0 : Array (Option Value)} {tk_DEEDS_0_0 tk_DEEDS_0_1 : Tok}
    {tk_DIGITS : Tok}
    {tk_LEAST : Tok}
    {tk_LETTERS : Tok}
    {tk_MOST : Tok}
    {tk_NAME_LENGTH : Tok}
    {tk_WORD_LENGTH : Tok}
    (n_Log : PySem.W.nsIn K mainGlobals "Log" = some (some (.ref c_Log)))
    (at_i_Log : PySem.W.findIn K (.ref c_Log) "__init__" = some (some (.ref f_i_Log))) (fi_i_Log : PySem.W.isFn K (.ref f_i_Log) = true)
    (l_i_Log : K.lookup f_i_Log = some ⟨oc_i_Log, od_i_Log, .func (PySem.W.fnOf "__init__" "Log.__init__" (defArgs s_i_Log) (defBody s_i_Log) (defScope s_i_Log) .none kV_i_Log dc_i_Log pm_i_Log an_i_Log cd_i_Log ct_i_Log), sl_i_Log⟩) (cc_i_Log : PySem.W.codeIn K cd_i_Log "Log.__init__" = true) (k_i_Log : PySem.W.keepIn K (.ref f_i_Log) = true)
    (at_Log_rows : PySem.W.findIn K (.ref c_Log) "rows" = some (some (.ref f_Log_rows))) (fi_Log_rows : PySem.W.isFn K (.ref f_Log_rows) = true)
    (l_Log_rows : K.lookup f_Log_rows = some ⟨oc_Log_rows, od_Log_rows, .func (PySem.W.fnOf "rows" "Log.rows" (defArgs s_Log_rows) (defBody s_Log_rows) (defScope s_Log_rows) .none kV_Log_rows dc_Log_rows pm_Log_rows an_Log_rows cd_Log_rows ct_Log_rows), sl_Log_rows⟩) (cc_Log_rows : PySem.W.codeIn K cd_Log_rows "Log.rows" = true) (k_Log_rows : PySem.W.keepIn K (.ref f_Log_rows) = true)
    (at_Log_text : PySem.W.findIn K (.ref c_Log) "text" = some (some (.ref f_Log_text))) (fi_Log_text : PySem.W.isFn K (.ref f_Log_text) = true)
    (l_Log_text : K.lookup f_Log_text = some ⟨oc_Log_text, od_Log_text, .func (PySem.W.fnOf "text" "Log.text" (defArgs s_Log_text) (defBody s_Log_text) (defScope s_Log_text) .none kV_Log_text dc_Log_text pm_Log_text an_Log_text cd_Log_text ct_Log_text), sl_Log_text⟩) (cc_Log_text : PySem.W.codeIn K cd_Log_text "Log.text" = true) (k_Log_text : PySem.W.keepIn K (.ref f_Log_text) = true)
    (at_Log_read : PySem.W.findCls K (.ref c_Log) (.type "type") "read" = some (.get (.builtin "classmethod.__get__") (.ref p_Log_read) .none (.ref c_Log))) (rc_Log_read : PySem.W.recIn K p_Log_read "classmethod" = some (.ref f_Log_read :: rest_Log_read)) (fi_Log_read : PySem.W.fnIn K f_Log_read = true)
    (l_Log_read : K.lookup f_Log_read = some ⟨oc_Log_read, od_Log_read, .func (PySem.W.fnOf "read" "Log.read" (defArgs s_Log_read) (defBody s_Log_read) (defScope s_Log_read) .none kV_Log_read dc_Log_read pm_Log_read an_Log_read cd_Log_read ct_Log_read), sl_Log_read⟩) (cc_Log_read : PySem.W.codeIn K cd_Log_read "Log.read" = true) (k_Log_read : PySem.W.keepIn K (.ref f_Log_read) = true)
    (at_Log_eq : PySem.W.findIn K (.ref c_Log) "__eq__" = some (some (.ref f_Log_eq))) (fi_Log_eq : PySem.W.isFn K (.ref f_Log_eq) = true)
    (l_Log_eq : K.lookup f_Log_eq = some ⟨oc_Log_eq, od_Log_eq, .func (PySem.W.fnOf "__eq__" "Log.__eq__" (defArgs s_Log_eq) (defBody s_Log_eq) (defScope s_Log_eq) .none kV_Log_eq dc_Log_eq pm_Log_eq an_Log_eq cd_Log_eq ct_Log_eq), sl_Log_eq⟩) (cc_Log_eq : PySem.W.codeIn K cd_Log_eq "Log.__eq__" = true) (k_Log_eq : PySem.W.keepIn K (.ref f_Log_eq) = true)
    (at_Log_str : PySem.W.findIn K (.ref c_Log) "__str__" = some (some (.ref f_Log_str))) (fi_Log_str : PySem.W.isFn K (.ref f_Log_str) = true)
    (l_Log_str : K.lookup f_Log_str = some ⟨oc_Log_str, od_Log_str, .func (PySem.W.fnOf "__str__" "Log.__str__" (defArgs s_Log_str) (defBody s_Log_str) (defScope s_Log_str) .none kV_Log_str dc_Log_str pm_Log_str an_Log_str cd_Log_str ct_Log_str), sl_Log_str⟩) (cc_Log_str : PySem.W.codeIn K cd_Log_str "Log.__str__" = true) (k_Log_str : PySem.W.keepIn K (.ref f_Log_str) = true)
    (pg_Log : PySem.W.plainGet K c_Log Str.empty = true) (hd_Log : PySem.W.hasDictIn K c_Log = true) (po_Log : PySem.W.plainOver K c_Log = true) (sa_Log : PySem.W.findIn K (.ref c_Log) "__setattr__" = some (some (.builtin "object.__setattr__"))) (mk_Log : PySem.W.makesIn K c_Log = true) (kc_Log : PySem.W.keepIn K (.ref c_Log) = true)
    (rd_Log : PySem.W.readsIn K c_Log (.type "type") = true) (ga_Log : PySem.W.specialIn K (.ref c_Log) "__getattribute__" = some (some (.builtin "type.__getattribute__")))
    (ha_Log : PySem.W.findIn K (.ref c_Log) "__class__" = some (some (.builtin "object.__class__"))) (hn_Log : PySem.W.specialIn K (.builtin "object.__class__") "__get__" = some (some (.builtin "getset_descriptor.__get__"))) (ht_Log : PySem.W.takesIn K (.builtin "object.__class__") = some true) (hm_Log : PySem.W.mroIn K c_Log (.type "object") = some true)
    (na_Log_rows : PySem.W.findIn K (.ref c_Log) "_rows" = some none)
    (na_Log_order : PySem.W.findIn K (.ref c_Log) "_order" = some none)
    (cv_Log_PROCESSES : PySem.W.findCls K (.ref c_Log) (.type "type") "PROCESSES" = some (.val (.int 6 tk_Log_PROCESSES)))
    (cv_Log_STEPS : PySem.W.findCls K (.ref c_Log) (.type "type") "STEPS" = some (.val (.int 20 tk_Log_STEPS)))
    (n_is_name : PySem.W.nsIn K mainGlobals "is_name" = some (some (.ref f_is_name))) (l_is_name : K.lookup f_is_name = some ⟨oc_is_name, od_is_name, .func (PySem.W.fnOf "is_name" "is_name" (defArgs s_is_name) (defBody s_is_name) (defScope s_is_name) .none kV_is_name dc_is_name pm_is_name an_is_name cd_is_name ct_is_name), sl_is_name⟩) (c_is_name : PySem.W.codeIn K cd_is_name "is_name" = true) (k_is_name : PySem.W.keepIn K (.ref f_is_name) = true)
    (n_is_word : PySem.W.nsIn K mainGlobals "is_word" = some (some (.ref f_is_word))) (l_is_word : K.lookup f_is_word = some ⟨oc_is_word, od_is_word, .func (PySem.W.fnOf "is_word" "is_word" (defArgs s_is_word) (defBody s_is_word) (defScope s_is_word) .none kV_is_word dc_is_word pm_is_word an_is_word cd_is_word ct_is_word), sl_is_word⟩) (c_is_word : PySem.W.codeIn K cd_is_word "is_word" = true) (k_is_word : PySem.W.keepIn K (.ref f_is_word) = true)
    (n_is_number : PySem.W.nsIn K mainGlobals "is_number" = some (some (.ref f_is_number))) (l_is_number : K.lookup f_is_number = some ⟨oc_is_number, od_is_number, .func (PySem.W.fnOf "is_number" "is_number" (defArgs s_is_number) (defBody s_is_number) (defScope s_is_number) .none kV_is_number dc_is_number pm_is_number an_is_number cd_is_number ct_is_number), sl_is_number⟩) (c_is_number : PySem.W.codeIn K cd_is_number "is_number" = true) (k_is_number : PySem.W.keepIn K (.ref f_is_number) = true)
    (n_is_step : PySem.W.nsIn K mainGlobals "is_step" = some (some (.ref f_is_step))) (l_is_step : K.lookup f_is_step = some ⟨oc_is_step, od_is_step, .func (PySem.W.fnOf "is_step" "is_step" (defArgs s_is_step) (defBody s_is_step) (defScope s_is_step) .none kV_is_step dc_is_step pm_is_step an_is_step cd_is_step ct_is_step), sl_is_step⟩) (c_is_step : PySem.W.codeIn K cd_is_step "is_step" = true) (k_is_step : PySem.W.keepIn K (.ref f_is_step) = true)
    (n_step_text : PySem.W.nsIn K mainGlobals "step_text" = some (some (.ref f_step_text))) (l_step_text : K.lookup f_step_text = some ⟨oc_step_text, od_step_text, .func (PySem.W.fnOf "step_text" "step_text" (defArgs s_step_text) (defBody s_step_text) (defScope s_step_text) .none kV_step_text dc_step_text pm_step_text an_step_text cd_step_text ct_step_text), sl_step_text⟩) (c_step_text : PySem.W.codeIn K cd_step_text "step_text" = true) (k_step_text : PySem.W.keepIn K (.ref f_step_text) = true)
    (n_read_step : PySem.W.nsIn K mainGlobals "read_step" = some (some (.ref f_read_step))) (l_read_step : K.lookup f_read_step = some ⟨oc_read_step, od_read_step, .func (PySem.W.fnOf "read_step" "read_step" (defArgs s_read_step) (defBody s_read_step) (defScope s_read_step) .none kV_read_step dc_read_step pm_read_step an_read_step cd_read_step ct_read_step), sl_read_step⟩) (c_read_step : PySem.W.codeIn K cd_read_step "read_step" = true) (k_read_step : PySem.W.keepIn K (.ref f_read_step) = true)
    (n_read_number : PySem.W.nsIn K mainGlobals "read_number" = some (some (.ref f_read_number))) (l_read_number : K.lookup f_read_number = some ⟨oc_read_number, od_read_number, .func (PySem.W.fnOf "read_number" "read_number" (defArgs s_read_number) (defBody s_read_number) (defScope s_read_number) .none kV_read_number dc_read_number pm_read_number an_read_number cd_read_number ct_read_number), sl_read_number⟩) (c_read_number : PySem.W.codeIn K cd_read_number "read_number" = true) (k_read_number : PySem.W.keepIn K (.ref f_read_number) = true)
    (n_consists_of : PySem.W.nsIn K mainGlobals "_consists_of" = some (some (.ref f_consists_of))) (l_consists_of : K.lookup f_consists_of = some ⟨oc_consists_of, od_consists_of, .func (PySem.W.fnOf "_consists_of" "_consists_of" (defArgs s_consists_of) (defBody s_consists_of) (defScope s_consists_of) .none kV_consists_of dc_consists_of pm_consists_of an_consists_of cd_consists_of ct_consists_of), sl_consists_of⟩) (c_consists_of : PySem.W.codeIn K cd_consists_of "_consists_of" = true) (k_consists_of : PySem.W.keepIn K (.ref f_consists_of) = true)
    (n_is_deed : PySem.W.nsIn K mainGlobals "_is_deed" = some (some (.ref f_is_deed))) (l_is_deed : K.lookup f_is_deed = some ⟨oc_is_deed, od_is_deed, .func (PySem.W.fnOf "_is_deed" "_is_deed" (defArgs s_is_deed) (defBody s_is_deed) (defScope s_is_deed) .none kV_is_deed dc_is_deed pm_is_deed an_is_deed cd_is_deed ct_is_deed), sl_is_deed⟩) (c_is_deed : PySem.W.codeIn K cd_is_deed "_is_deed" = true) (k_is_deed : PySem.W.keepIn K (.ref f_is_deed) = true)
    (n_split_deed : PySem.W.nsIn K mainGlobals "_split_deed" = some (some (.ref f_split_deed))) (l_split_deed : K.lookup f_split_deed = some ⟨oc_split_deed, od_split_deed, .func (PySem.W.fnOf "_split_deed" "_split_deed" (defArgs s_split_deed) (defBody s_split_deed) (defScope s_split_deed) .none kV_split_deed dc_split_deed pm_split_deed an_split_deed cd_split_deed ct_split_deed), sl_split_deed⟩) (c_split_deed : PySem.W.codeIn K cd_split_deed "_split_deed" = true) (k_split_deed : PySem.W.keepIn K (.ref f_split_deed) = true)
    (n_check_rows : PySem.W.nsIn K mainGlobals "_check_rows" = some (some (.ref f_check_rows))) (l_check_rows : K.lookup f_check_rows = some ⟨oc_check_rows, od_check_rows, .func (PySem.W.fnOf "_check_rows" "_check_rows" (defArgs s_check_rows) (defBody s_check_rows) (defScope s_check_rows) .none kV_check_rows dc_check_rows pm_check_rows an_check_rows cd_check_rows ct_check_rows), sl_check_rows⟩) (c_check_rows : PySem.W.codeIn K cd_check_rows "_check_rows" = true) (k_check_rows : PySem.W.keepIn K (.ref f_check_rows) = true)
    (n_is_row : PySem.W.nsIn K mainGlobals "_is_row" = some (some (.ref f_is_row))) (l_is_row : K.lookup f_is_row = some ⟨oc_is_row, od_is_row, .func (PySem.W.fnOf "_is_row" "_is_row" (defArgs s_is_row) (defBody s_is_row) (defScope s_is_row) .none kV_is_row dc_is_row pm_is_row an_is_row cd_is_row ct_is_row), sl_is_row⟩) (c_is_row : PySem.W.codeIn K cd_is_row "_is_row" = true) (k_is_row : PySem.W.keepIn K (.ref f_is_row) = true)
    (n_check_steps : PySem.W.nsIn K mainGlobals "_check_steps" = some (some (.ref f_check_steps))) (l_check_steps : K.lookup f_check_steps = some ⟨oc_check_steps, od_check_steps, .func (PySem.W.fnOf "_check_steps" "_check_steps" (defArgs s_check_steps) (defBody s_check_steps) (defScope s_check_steps) .none kV_check_steps dc_check_steps pm_check_steps an_check_steps cd_check_steps ct_check_steps), sl_check_steps⟩) (c_check_steps : PySem.W.codeIn K cd_check_steps "_check_steps" = true) (k_check_steps : PySem.W.keepIn K (.ref f_check_steps) = true)
    (n_check_messages : PySem.W.nsIn K mainGlobals "_check_messages" = some (some (.ref f_check_messages))) (l_check_messages : K.lookup f_check_messages = some ⟨oc_check_messages, od_check_messages, .func (PySem.W.fnOf "_check_messages" "_check_messages" (defArgs s_check_messages) (defBody s_check_messages) (defScope s_check_messages) .none kV_check_messages dc_check_messages pm_check_messages an_check_messages cd_check_messages ct_check_messages), sl_check_messages⟩) (c_check_messages : PySem.W.codeIn K cd_check_messages "_check_messages" = true) (k_check_messages : PySem.W.keepIn K (.ref f_check_messages) = true)
    (n_check_ends : PySem.W.nsIn K mainGlobals "_check_ends" = some (some (.ref f_check_ends))) (l_check_ends : K.lookup f_check_ends = some ⟨oc_check_ends, od_check_ends, .func (PySem.W.fnOf "_check_ends" "_check_ends" (defArgs s_check_ends) (defBody s_check_ends) (defScope s_check_ends) .none kV_check_ends dc_check_ends pm_check_ends an_check_ends cd_check_ends ct_check_ends), sl_check_ends⟩) (c_check_ends : PySem.W.codeIn K cd_check_ends "_check_ends" = true) (k_check_ends : PySem.W.keepIn K (.ref f_check_ends) = true)
    (n_names : PySem.W.nsIn K mainGlobals "_names" = some (some (.ref f_names))) (l_names : K.lookup f_names = some ⟨oc_names, od_names, .func (PySem.W.fnOf "_names" "_names" (defArgs s_names) (defBody s_names) (defScope s_names) .none kV_names dc_names pm_names an_names cd_names ct_names), sl_names⟩) (c_names : PySem.W.codeIn K cd_names "_names" = true) (k_names : PySem.W.keepIn K (.ref f_names) = true)
    (n_deeds : PySem.W.nsIn K mainGlobals "_deeds" = some (some (.ref f_deeds))) (l_deeds : K.lookup f_deeds = some ⟨oc_deeds, od_deeds, .func (PySem.W.fnOf "_deeds" "_deeds" (defArgs s_deeds) (defBody s_deeds) (defScope s_deeds) .none kV_deeds dc_deeds pm_deeds an_deeds cd_deeds ct_deeds), sl_deeds⟩) (c_deeds : PySem.W.codeIn K cd_deeds "_deeds" = true) (k_deeds : PySem.W.keepIn K (.ref f_deeds) = true)
    (n_first_unsent : PySem.W.nsIn K mainGlobals "_first_unsent" = some (some (.ref f_first_unsent))) (l_first_unsent : K.lookup f_first_unsent = some ⟨oc_first_unsent, od_first_unsent, .func (PySem.W.fnOf "_first_unsent" "_first_unsent" (defArgs s_first_unsent) (defBody s_first_unsent) (defScope s_first_unsent) .none kV_first_unsent dc_first_unsent pm_first_unsent an_first_unsent cd_first_unsent ct_first_unsent), sl_first_unsent⟩) (c_first_unsent : PySem.W.codeIn K cd_first_unsent "_first_unsent" = true) (k_first_unsent : PySem.W.keepIn K (.ref f_first_unsent) = true)
    (n_order_of : PySem.W.nsIn K mainGlobals "_order_of" = some (some (.ref f_order_of))) (l_order_of : K.lookup f_order_of = some ⟨oc_order_of, od_order_of, .func (PySem.W.fnOf "_order_of" "_order_of" (defArgs s_order_of) (defBody s_order_of) (defScope s_order_of) .none kV_order_of dc_order_of pm_order_of an_order_of cd_order_of ct_order_of), sl_order_of⟩) (c_order_of : PySem.W.codeIn K cd_order_of "_order_of" = true) (k_order_of : PySem.W.keepIn K (.ref f_order_of) = true)
    (n_first_ready : PySem.W.nsIn K mainGlobals "_first_ready" = some (some (.ref f_first_ready))) (l_first_ready : K.lookup f_first_ready = some ⟨oc_first_ready, od_first_ready, .func (PySem.W.fnOf "_first_ready" "_first_ready" (defArgs s_first_ready) (defBody s_first_ready) (defScope s_first_ready) .none kV_first_ready dc_first_ready pm_first_ready an_first_ready cd_first_ready ct_first_ready), sl_first_ready⟩) (c_first_ready : PySem.W.codeIn K cd_first_ready "_first_ready" = true) (k_first_ready : PySem.W.keepIn K (.ref f_first_ready) = true)
    (n_can_be_made : PySem.W.nsIn K mainGlobals "_can_be_made" = some (some (.ref f_can_be_made))) (l_can_be_made : K.lookup f_can_be_made = some ⟨oc_can_be_made, od_can_be_made, .func (PySem.W.fnOf "_can_be_made" "_can_be_made" (defArgs s_can_be_made) (defBody s_can_be_made) (defScope s_can_be_made) .none kV_can_be_made dc_can_be_made pm_can_be_made an_can_be_made cd_can_be_made ct_can_be_made), sl_can_be_made⟩) (c_can_be_made : PySem.W.codeIn K cd_can_be_made "_can_be_made" = true) (k_can_be_made : PySem.W.keepIn K (.ref f_can_be_made) = true)
    (n_row_text : PySem.W.nsIn K mainGlobals "_row_text" = some (some (.ref f_row_text))) (l_row_text : K.lookup f_row_text = some ⟨oc_row_text, od_row_text, .func (PySem.W.fnOf "_row_text" "_row_text" (defArgs s_row_text) (defBody s_row_text) (defScope s_row_text) .none kV_row_text dc_row_text pm_row_text an_row_text cd_row_text ct_row_text), sl_row_text⟩) (c_row_text : PySem.W.codeIn K cd_row_text "_row_text" = true) (k_row_text : PySem.W.keepIn K (.ref f_row_text) = true)
    (n_read_row : PySem.W.nsIn K mainGlobals "read_row" = some (some (.ref f_read_row))) (l_read_row : K.lookup f_read_row = some ⟨oc_read_row, od_read_row, .func (PySem.W.fnOf "read_row" "read_row" (defArgs s_read_row) (defBody s_read_row) (defScope s_read_row) .none kV_read_row dc_read_row pm_read_row an_read_row cd_read_row ct_read_row), sl_read_row⟩) (c_read_row : PySem.W.codeIn K cd_read_row "read_row" = true) (k_read_row : PySem.W.keepIn K (.ref f_read_row) = true)
    (n_Lbag : PySem.W.nsIn K mainGlobals "_law_bag" = some (some (.ref f_Lbag))) (l_Lbag : K.lookup f_Lbag = some ⟨oc_Lbag, od_Lbag, .func (PySem.W.fnOf "_law_bag" "_law_bag" (defArgs s_Lbag) (defBody s_Lbag) (defScope s_Lbag) .none kV_Lbag dc_Lbag pm_Lbag an_Lbag cd_Lbag ct_Lbag), sl_Lbag⟩) (c_Lbag : PySem.W.codeIn K cd_Lbag "_law_bag" = true) (k_Lbag : PySem.W.keepIn K (.ref f_Lbag) = true)
    (n_Ldraw : PySem.W.nsIn K mainGlobals "_law_draw" = some (some (.ref f_Ldraw))) (l_Ldraw : K.lookup f_Ldraw = some ⟨oc_Ldraw, od_Ldraw, .func (PySem.W.fnOf "_law_draw" "_law_draw" (defArgs s_Ldraw) (defBody s_Ldraw) (defScope s_Ldraw) .none kV_Ldraw dc_Ldraw pm_Ldraw an_Ldraw cd_Ldraw ct_Ldraw), sl_Ldraw⟩) (c_Ldraw : PySem.W.codeIn K cd_Ldraw "_law_draw" = true) (k_Ldraw : PySem.W.keepIn K (.ref f_Ldraw) = true)
    (n_Lof : PySem.W.nsIn K mainGlobals "_law_of" = some (some (.ref f_Lof))) (l_Lof : K.lookup f_Lof = some ⟨oc_Lof, od_Lof, .func (PySem.W.fnOf "_law_of" "_law_of" (defArgs s_Lof) (defBody s_Lof) (defScope s_Lof) .none kV_Lof dc_Lof pm_Lof an_Lof cd_Lof ct_Lof), sl_Lof⟩) (c_Lof : PySem.W.codeIn K cd_Lof "_law_of" = true) (k_Lof : PySem.W.keepIn K (.ref f_Lof) = true)
    (n_Lmixed : PySem.W.nsIn K mainGlobals "_law_mixed" = some (some (.ref f_Lmixed))) (l_Lmixed : K.lookup f_Lmixed = some ⟨oc_Lmixed, od_Lmixed, .func (PySem.W.fnOf "_law_mixed" "_law_mixed" (defArgs s_Lmixed) (defBody s_Lmixed) (defScope s_Lmixed) .none kV_Lmixed dc_Lmixed pm_Lmixed an_Lmixed cd_Lmixed ct_Lmixed), sl_Lmixed⟩) (c_Lmixed : PySem.W.codeIn K cd_Lmixed "_law_mixed" = true) (k_Lmixed : PySem.W.keepIn K (.ref f_Lmixed) = true)
    (n_Lsame : PySem.W.nsIn K mainGlobals "_law_same" = some (some (.ref f_Lsame))) (l_Lsame : K.lookup f_Lsame = some ⟨oc_Lsame, od_Lsame, .func (PySem.W.fnOf "_law_same" "_law_same" (defArgs s_Lsame) (defBody s_Lsame) (defScope s_Lsame) .none kV_Lsame dc_Lsame pm_Lsame an_Lsame cd_Lsame ct_Lsame), sl_Lsame⟩) (c_Lsame : PySem.W.codeIn K cd_Lsame "_law_same" = true) (k_Lsame : PySem.W.keepIn K (.ref f_Lsame) = true)
    (n_Lmarks : PySem.W.nsIn K mainGlobals "_law_marks" = some (some (.ref f_Lmarks))) (l_Lmarks : K.lookup f_Lmarks = some ⟨oc_Lmarks, od_Lmarks, .func (PySem.W.fnOf "_law_marks" "_law_marks" (defArgs s_Lmarks) (defBody s_Lmarks) (defScope s_Lmarks) .none kV_Lmarks dc_Lmarks pm_Lmarks an_Lmarks cd_Lmarks ct_Lmarks), sl_Lmarks⟩) (c_Lmarks : PySem.W.codeIn K cd_Lmarks "_law_marks" = true) (k_Lmarks : PySem.W.keepIn K (.ref f_Lmarks) = true)
    (n_Lstep : PySem.W.nsIn K mainGlobals "_law_step" = some (some (.ref f_Lstep))) (l_Lstep : K.lookup f_Lstep = some ⟨oc_Lstep, od_Lstep, .func (PySem.W.fnOf "_law_step" "_law_step" (defArgs s_Lstep) (defBody s_Lstep) (defScope s_Lstep) .none kV_Lstep dc_Lstep pm_Lstep an_Lstep cd_Lstep ct_Lstep), sl_Lstep⟩) (c_Lstep : PySem.W.codeIn K cd_Lstep "_law_step" = true) (k_Lstep : PySem.W.keepIn K (.ref f_Lstep) = true)
    (n_Lrows : PySem.W.nsIn K mainGlobals "_law_rows" = some (some (.ref f_Lrows))) (l_Lrows : K.lookup f_Lrows = some ⟨oc_Lrows, od_Lrows, .func (PySem.W.fnOf "_law_rows" "_law_rows" (defArgs s_Lrows) (defBody s_Lrows) (defScope s_Lrows) .none kV_Lrows dc_Lrows pm_Lrows an_Lrows cd_Lrows ct_Lrows), sl_Lrows⟩) (c_Lrows : PySem.W.codeIn K cd_Lrows "_law_rows" = true) (k_Lrows : PySem.W.keepIn K (.ref f_Lrows) = true)
    (n_Llog : PySem.W.nsIn K mainGlobals "_law_log" = some (some (.ref f_Llog))) (l_Llog : K.lookup f_Llog = some ⟨oc_Llog, od_Llog, .func (PySem.W.fnOf "_law_log" "_law_log" (defArgs s_Llog) (defBody s_Llog) (defScope s_Llog) .none kV_Llog dc_Llog pm_Llog an_Llog cd_Llog ct_Llog), sl_Llog⟩) (c_Llog : PySem.W.codeIn K cd_Llog "_law_log" = true) (k_Llog : PySem.W.keepIn K (.ref f_Llog) = true)
    (n_Lstep_text : PySem.W.nsIn K mainGlobals "_law_step_text" = some (some (.ref f_Lstep_text))) (l_Lstep_text : K.lookup f_Lstep_text = some ⟨oc_Lstep_text, od_Lstep_text, .func (PySem.W.fnOf "_law_step_text" "_law_step_text" (defArgs s_Lstep_text) (defBody s_Lstep_text) (defScope s_Lstep_text) .none kV_Lstep_text dc_Lstep_text pm_Lstep_text an_Lstep_text cd_Lstep_text ct_Lstep_text), sl_Lstep_text⟩) (c_Lstep_text : PySem.W.codeIn K cd_Lstep_text "_law_step_text" = true) (k_Lstep_text : PySem.W.keepIn K (.ref f_Lstep_text) = true)
    (n_Llog_text : PySem.W.nsIn K mainGlobals "_law_log_text" = some (some (.ref f_Llog_text))) (l_Llog_text : K.lookup f_Llog_text = some ⟨oc_Llog_text, od_Llog_text, .func (PySem.W.fnOf "_law_log_text" "_law_log_text" (defArgs s_Llog_text) (defBody s_Llog_text) (defScope s_Llog_text) .none kV_Llog_text dc_Llog_text pm_Llog_text an_Llog_text cd_Llog_text ct_Llog_text), sl_Llog_text⟩) (c_Llog_text : PySem.W.codeIn K cd_Llog_text "_law_log_text" = true) (k_Llog_text : PySem.W.keepIn K (.ref f_Llog_text) = true)
    (n_law : PySem.W.nsIn K mainGlobals "law" = some (some (.ref f_law))) (l_law : K.lookup f_law = some ⟨oc_law, od_law, .func (PySem.W.fnOf "law" "law" (defArgs s_law) (defBody s_law) (defScope s_law) .none kV_law dc_law pm_law an_law cd_law ct_law), sl_law⟩) (c_law : PySem.W.codeIn K cd_law "law" = true) (k_law : PySem.W.keepIn K (.ref f_law) = true)
    (n_DEEDS : PySem.W.nsIn K mainGlobals "DEEDS" = some (some (.ref q_DEEDS)))
    (l_DEEDS : K.lookup q_DEEDS = some ⟨.type "tuple", dd_DEEDS, .seq #[.ref q_DEEDS_0, .ref q_DEEDS_1] m_DEEDS, sl_DEEDS⟩)
    (l_DEEDS_1 : K.lookup q_DEEDS_1 = some ⟨.type "tuple", dd_DEEDS_1, .seq #[.str "receive" tk_DEEDS_1_0, .str "?" tk_DEEDS_1_1] m_DEEDS_1, sl_DEEDS_1⟩)
    (l_DEEDS_0 : K.lookup q_DEEDS_0 = some ⟨.type "tuple", dd_DEEDS_0, .seq #[.str "send" tk_DEEDS_0_0, .str "!" tk_DEEDS_0_1] m_DEEDS_0, sl_DEEDS_0⟩)
    (n_DIGITS : PySem.W.nsIn K mainGlobals "DIGITS" = some (some (.str "0123456789" tk_DIGITS)))
    (n_LEAST : PySem.W.nsIn K mainGlobals "LEAST" = some (some (.int (-99) tk_LEAST)))
    (n_LETTERS : PySem.W.nsIn K mainGlobals "LETTERS" = some (some (.str "abcdefghijklmnopqrstuvwxyz" tk_LETTERS)))
    (n_MOST : PySem.W.nsIn K mainGlobals "MOST" = some (some (.int 99 tk_MOST)))
    (n_NAME_LENGTH : PySem.W.nsIn K mainGlobals "NAME_LENGTH" = some (some (.int 6 tk_NAME_LENGTH)))
    (n_WORD_LENGTH : PySem.W.nsIn K mainGlobals "WORD_LENGTH" = some (some (.int 4 tk_WORD_LENGTH)))
    (z_all : PySem.W.nsIn K mainGlobals "all" = some none)
    (z_bool : PySem.W.nsIn K mainGlobals "bool" = some none)
    (z_enumerate : PySem.W.nsIn K mainGlobals "enumerate" = some none)
    (z_int : PySem.W.nsIn K mainGlobals "int" = some none)
    (z_isinstance : PySem.W.nsIn K mainGlobals "isinstance" = some none)
    (z_len : PySem.W.nsIn K mainGlobals "len" = some none)
    (z_list : PySem.W.nsIn K mainGlobals "list" = some none)
    (z_range : PySem.W.nsIn K mainGlobals "range" = some none)
    (z_str : PySem.W.nsIn K mainGlobals "str" = some none)
    (z_tuple : PySem.W.nsIn K mainGlobals "tuple" = some none)
    (z_zip : PySem.W.nsIn K mainGlobals "zip" = some none)
    : ∃ fd : FuncData, (∀ (s : Shared) (v : Value), BindsTo s fd ⟨[v], []⟩ [("_law_script", v)]) ∧ ∀ base : Heap, K.In base → base.Ns mainGlobals mg → FnOk l.prog w K mg base CX0 20 fa fd ["_law_script"] (spLaw K) := by
  have e : f_law = fa := Value.ref.inj (Option.some.inj ((PySem.W.mg_of X G n_law).symm.trans hfa))
  subst e
  have F_i_Log := fun_mk (st := s_i_Log) l_i_Log cc_i_Log k_i_Log
  have F_Log_rows := fun_mk (st := s_Log_rows) l_Log_rows cc_Log_rows k_Log_rows
  have F_Log_text := fun_mk (st := s_Log_text) l_Log_text cc_Log_text k_Log_text
  have F_Log_read := fun_mk (st := s_Log_read) l_Log_read cc_Log_read k_Log_read
  have F_Log_eq := fun_mk (st := s_Log_eq) l_Log_eq cc_Log_eq k_Log_eq
  have F_Log_str := fun_mk (st := s_Log_str) l_Log_str cc_Log_str k_Log_str
  have F_is_name := fun_mk (st := s_is_name) l_is_name c_is_name k_is_name
  have F_is_word := fun_mk (st := s_is_word) l_is_word c_is_word k_is_word
  have F_is_number := fun_mk (st := s_is_number) l_is_number c_is_number k_is_number
  have F_is_step := fun_mk (st := s_is_step) l_is_step c_is_step k_is_step
  have F_step_text := fun_mk (st := s_step_text) l_step_text c_step_text k_step_text
  have F_read_step := fun_mk (st := s_read_step) l_read_step c_read_step k_read_step
  have F_read_number := fun_mk (st := s_read_number) l_read_number c_read_number k_read_number
  have F_consists_of := fun_mk (st := s_consists_of) l_consists_of c_consists_of k_consists_of
  have F_is_deed := fun_mk (st := s_is_deed) l_is_deed c_is_deed k_is_deed
  have F_split_deed := fun_mk (st := s_split_deed) l_split_deed c_split_deed k_split_deed
  have F_check_rows := fun_mk (st := s_check_rows) l_check_rows c_check_rows k_check_rows
  have F_is_row := fun_mk (st := s_is_row) l_is_row c_is_row k_is_row
  have F_check_steps := fun_mk (st := s_check_steps) l_check_steps c_check_steps k_check_steps
  have F_check_messages := fun_mk (st := s_check_messages) l_check_messages c_check_messages k_check_messages
  have F_check_ends := fun_mk (st := s_check_ends) l_check_ends c_check_ends k_check_ends
  have F_names := fun_mk (st := s_names) l_names c_names k_names
  have F_deeds := fun_mk (st := s_deeds) l_deeds c_deeds k_deeds
  have F_first_unsent := fun_mk (st := s_first_unsent) l_first_unsent c_first_unsent k_first_unsent
  have F_order_of := fun_mk (st := s_order_of) l_order_of c_order_of k_order_of
  have F_first_ready := fun_mk (st := s_first_ready) l_first_ready c_first_ready k_first_ready
  have F_can_be_made := fun_mk (st := s_can_be_made) l_can_be_made c_can_be_made k_can_be_made
  have F_row_text := fun_mk (st := s_row_text) l_row_text c_row_text k_row_text
  have F_read_row := fun_mk (st := s_read_row) l_read_row c_read_row k_read_row
  have F_Lbag := fun_mk (st := s_Lbag) l_Lbag c_Lbag k_Lbag
  have F_Ldraw := fun_mk (st := s_Ldraw) l_Ldraw c_Ldraw k_Ldraw
  have F_Lof := fun_mk (st := s_Lof) l_Lof c_Lof k_Lof
  have F_Lmixed := fun_mk (st := s_Lmixed) l_Lmixed c_Lmixed k_Lmixed
  have F_Lsame := fun_mk (st := s_Lsame) l_Lsame c_Lsame k_Lsame
  have F_Lmarks := fun_mk (st := s_Lmarks) l_Lmarks c_Lmarks k_Lmarks
  have F_Lstep := fun_mk (st := s_Lstep) l_Lstep c_Lstep k_Lstep
  have F_Lrows := fun_mk (st := s_Lrows) l_Lrows c_Lrows k_Lrows
  have F_Llog := fun_mk (st := s_Llog) l_Llog c_Llog k_Llog
  have F_Lstep_text := fun_mk (st := s_Lstep_text) l_Lstep_text c_Lstep_text k_Lstep_text
  have F_Llog_text := fun_mk (st := s_Llog_text) l_Llog_text c_Llog_text k_Llog_text
  have F_law := fun_mk (st := s_law) l_law c_law k_law
  have T : TopOk K mg ⟨c_Log,
    f_i_Log, PySem.W.fnOf "__init__" "Log.__init__" (defArgs s_i_Log) (defBody s_i_Log) (defScope s_i_Log) Value.none kV_i_Log dc_i_Log pm_i_Log an_i_Log cd_i_Log ct_i_Log,
    f_Log_rows, PySem.W.fnOf "rows" "Log.rows" (defArgs s_Log_rows) (defBody s_Log_rows) (defScope s_Log_rows) Value.none kV_Log_rows dc_Log_rows pm_Log_rows an_Log_rows cd_Log_rows ct_Log_rows,
    f_Log_text, PySem.W.fnOf "text" "Log.text" (defArgs s_Log_text) (defBody s_Log_text) (defScope s_Log_text) Value.none kV_Log_text dc_Log_text pm_Log_text an_Log_text cd_Log_text ct_Log_text,
    f_Log_read, PySem.W.fnOf "read" "Log.read" (defArgs s_Log_read) (defBody s_Log_read) (defScope s_Log_read) Value.none kV_Log_read dc_Log_read pm_Log_read an_Log_read cd_Log_read ct_Log_read,
    f_Log_eq, PySem.W.fnOf "__eq__" "Log.__eq__" (defArgs s_Log_eq) (defBody s_Log_eq) (defScope s_Log_eq) Value.none kV_Log_eq dc_Log_eq pm_Log_eq an_Log_eq cd_Log_eq ct_Log_eq,
    f_Log_str, PySem.W.fnOf "__str__" "Log.__str__" (defArgs s_Log_str) (defBody s_Log_str) (defScope s_Log_str) Value.none kV_Log_str dc_Log_str pm_Log_str an_Log_str cd_Log_str ct_Log_str,
    p_Log_read,
    .int 6 tk_Log_PROCESSES,
    .int 20 tk_Log_STEPS,
    f_is_name, PySem.W.fnOf "is_name" "is_name" (defArgs s_is_name) (defBody s_is_name) (defScope s_is_name) Value.none kV_is_name dc_is_name pm_is_name an_is_name cd_is_name ct_is_name,
    f_is_word, PySem.W.fnOf "is_word" "is_word" (defArgs s_is_word) (defBody s_is_word) (defScope s_is_word) Value.none kV_is_word dc_is_word pm_is_word an_is_word cd_is_word ct_is_word,
    f_is_number, PySem.W.fnOf "is_number" "is_number" (defArgs s_is_number) (defBody s_is_number) (defScope s_is_number) Value.none kV_is_number dc_is_number pm_is_number an_is_number cd_is_number ct_is_number,
    f_is_step, PySem.W.fnOf "is_step" "is_step" (defArgs s_is_step) (defBody s_is_step) (defScope s_is_step) Value.none kV_is_step dc_is_step pm_is_step an_is_step cd_is_step ct_is_step,
    f_step_text, PySem.W.fnOf "step_text" "step_text" (defArgs s_step_text) (defBody s_step_text) (defScope s_step_text) Value.none kV_step_text dc_step_text pm_step_text an_step_text cd_step_text ct_step_text,
    f_read_step, PySem.W.fnOf "read_step" "read_step" (defArgs s_read_step) (defBody s_read_step) (defScope s_read_step) Value.none kV_read_step dc_read_step pm_read_step an_read_step cd_read_step ct_read_step,
    f_read_number, PySem.W.fnOf "read_number" "read_number" (defArgs s_read_number) (defBody s_read_number) (defScope s_read_number) Value.none kV_read_number dc_read_number pm_read_number an_read_number cd_read_number ct_read_number,
    f_consists_of, PySem.W.fnOf "_consists_of" "_consists_of" (defArgs s_consists_of) (defBody s_consists_of) (defScope s_consists_of) Value.none kV_consists_of dc_consists_of pm_consists_of an_consists_of cd_consists_of ct_consists_of,
    f_is_deed, PySem.W.fnOf "_is_deed" "_is_deed" (defArgs s_is_deed) (defBody s_is_deed) (defScope s_is_deed) Value.none kV_is_deed dc_is_deed pm_is_deed an_is_deed cd_is_deed ct_is_deed,
    f_split_deed, PySem.W.fnOf "_split_deed" "_split_deed" (defArgs s_split_deed) (defBody s_split_deed) (defScope s_split_deed) Value.none kV_split_deed dc_split_deed pm_split_deed an_split_deed cd_split_deed ct_split_deed,
    f_check_rows, PySem.W.fnOf "_check_rows" "_check_rows" (defArgs s_check_rows) (defBody s_check_rows) (defScope s_check_rows) Value.none kV_check_rows dc_check_rows pm_check_rows an_check_rows cd_check_rows ct_check_rows,
    f_is_row, PySem.W.fnOf "_is_row" "_is_row" (defArgs s_is_row) (defBody s_is_row) (defScope s_is_row) Value.none kV_is_row dc_is_row pm_is_row an_is_row cd_is_row ct_is_row,
    f_check_steps, PySem.W.fnOf "_check_steps" "_check_steps" (defArgs s_check_steps) (defBody s_check_steps) (defScope s_check_steps) Value.none kV_check_steps dc_check_steps pm_check_steps an_check_steps cd_check_steps ct_check_steps,
    f_check_messages, PySem.W.fnOf "_check_messages" "_check_messages" (defArgs s_check_messages) (defBody s_check_messages) (defScope s_check_messages) Value.none kV_check_messages dc_check_messages pm_check_messages an_check_messages cd_check_messages ct_check_messages,
    f_check_ends, PySem.W.fnOf "_check_ends" "_check_ends" (defArgs s_check_ends) (defBody s_check_ends) (defScope s_check_ends) Value.none kV_check_ends dc_check_ends pm_check_ends an_check_ends cd_check_ends ct_check_ends,
    f_names, PySem.W.fnOf "_names" "_names" (defArgs s_names) (defBody s_names) (defScope s_names) Value.none kV_names dc_names pm_names an_names cd_names ct_names,
    f_deeds, PySem.W.fnOf "_deeds" "_deeds" (defArgs s_deeds) (defBody s_deeds) (defScope s_deeds) Value.none kV_deeds dc_deeds pm_deeds an_deeds cd_deeds ct_deeds,
    f_first_unsent, PySem.W.fnOf "_first_unsent" "_first_unsent" (defArgs s_first_unsent) (defBody s_first_unsent) (defScope s_first_unsent) Value.none kV_first_unsent dc_first_unsent pm_first_unsent an_first_unsent cd_first_unsent ct_first_unsent,
    f_order_of, PySem.W.fnOf "_order_of" "_order_of" (defArgs s_order_of) (defBody s_order_of) (defScope s_order_of) Value.none kV_order_of dc_order_of pm_order_of an_order_of cd_order_of ct_order_of,
    f_first_ready, PySem.W.fnOf "_first_ready" "_first_ready" (defArgs s_first_ready) (defBody s_first_ready) (defScope s_first_ready) Value.none kV_first_ready dc_first_ready pm_first_ready an_first_ready cd_first_ready ct_first_ready,
    f_can_be_made, PySem.W.fnOf "_can_be_made" "_can_be_made" (defArgs s_can_be_made) (defBody s_can_be_made) (defScope s_can_be_made) Value.none kV_can_be_made dc_can_be_made pm_can_be_made an_can_be_made cd_can_be_made ct_can_be_made,
    f_row_text, PySem.W.fnOf "_row_text" "_row_text" (defArgs s_row_text) (defBody s_row_text) (defScope s_row_text) Value.none kV_row_text dc_row_text pm_row_text an_row_text cd_row_text ct_row_text,
    f_read_row, PySem.W.fnOf "read_row" "read_row" (defArgs s_read_row) (defBody s_read_row) (defScope s_read_row) Value.none kV_read_row dc_read_row pm_read_row an_read_row cd_read_row ct_read_row,
    f_Lbag, PySem.W.fnOf "_law_bag" "_law_bag" (defArgs s_Lbag) (defBody s_Lbag) (defScope s_Lbag) Value.none kV_Lbag dc_Lbag pm_Lbag an_Lbag cd_Lbag ct_Lbag,
    f_Ldraw, PySem.W.fnOf "_law_draw" "_law_draw" (defArgs s_Ldraw) (defBody s_Ldraw) (defScope s_Ldraw) Value.none kV_Ldraw dc_Ldraw pm_Ldraw an_Ldraw cd_Ldraw ct_Ldraw,
    f_Lof, PySem.W.fnOf "_law_of" "_law_of" (defArgs s_Lof) (defBody s_Lof) (defScope s_Lof) Value.none kV_Lof dc_Lof pm_Lof an_Lof cd_Lof ct_Lof,
    f_Lmixed, PySem.W.fnOf "_law_mixed" "_law_mixed" (defArgs s_Lmixed) (defBody s_Lmixed) (defScope s_Lmixed) Value.none kV_Lmixed dc_Lmixed pm_Lmixed an_Lmixed cd_Lmixed ct_Lmixed,
    f_Lsame, PySem.W.fnOf "_law_same" "_law_same" (defArgs s_Lsame) (defBody s_Lsame) (defScope s_Lsame) Value.none kV_Lsame dc_Lsame pm_Lsame an_Lsame cd_Lsame ct_Lsame,
    f_Lmarks, PySem.W.fnOf "_law_marks" "_law_marks" (defArgs s_Lmarks) (defBody s_Lmarks) (defScope s_Lmarks) Value.none kV_Lmarks dc_Lmarks pm_Lmarks an_Lmarks cd_Lmarks ct_Lmarks,
    f_Lstep, PySem.W.fnOf "_law_step" "_law_step" (defArgs s_Lstep) (defBody s_Lstep) (defScope s_Lstep) Value.none kV_Lstep dc_Lstep pm_Lstep an_Lstep cd_Lstep ct_Lstep,
    f_Lrows, PySem.W.fnOf "_law_rows" "_law_rows" (defArgs s_Lrows) (defBody s_Lrows) (defScope s_Lrows) Value.none kV_Lrows dc_Lrows pm_Lrows an_Lrows cd_Lrows ct_Lrows,
    f_Llog, PySem.W.fnOf "_law_log" "_law_log" (defArgs s_Llog) (defBody s_Llog) (defScope s_Llog) Value.none kV_Llog dc_Llog pm_Llog an_Llog cd_Llog ct_Llog,
    f_Lstep_text, PySem.W.fnOf "_law_step_text" "_law_step_text" (defArgs s_Lstep_text) (defBody s_Lstep_text) (defScope s_Lstep_text) Value.none kV_Lstep_text dc_Lstep_text pm_Lstep_text an_Lstep_text cd_Lstep_text ct_Lstep_text,
    f_Llog_text, PySem.W.fnOf "_law_log_text" "_law_log_text" (defArgs s_Llog_text) (defBody s_Llog_text) (defScope s_Llog_text) Value.none kV_Llog_text dc_Llog_text pm_Llog_text an_Llog_text cd_Llog_text ct_Llog_text,
    f_law, PySem.W.fnOf "law" "law" (defArgs s_law) (defBody s_law) (defScope s_law) Value.none kV_law dc_law pm_law an_law cd_law ct_law,
    q_DEEDS, .ref q_DEEDS,
    .str "0123456789" tk_DIGITS,
    .int (-99) tk_LEAST,
    .str "abcdefghijklmnopqrstuvwxyz" tk_LETTERS,
    .int 99 tk_MOST,
    .int 6 tk_NAME_LENGTH,
    .int 4 tk_WORD_LENGTH⟩ := ⟨PySem.W.mg_of X G n_Log,
    ⟨pg_Log, hd_Log, po_Log, sa_Log⟩,
    ⟨mk_Log, at_i_Log, fi_i_Log, kc_Log⟩,
    ⟨rd_Log, ga_Log⟩,
    ⟨⟨pg_Log, hd_Log, po_Log, sa_Log⟩, ha_Log, hn_Log, ht_Log, hm_Log, if_pos (beq_self_eq_true _)⟩,
    na_Log_rows,
    na_Log_order,
    ⟨cv_Log_PROCESSES, ⟨_, rfl⟩⟩,
    ⟨cv_Log_STEPS, ⟨_, rfl⟩⟩,
    F_i_Log,
    F_Log_rows,
    ⟨at_Log_rows, fi_Log_rows, k_Log_rows⟩,
    F_Log_rows.binds (ps := P_Log_rows) fun _ _ _ _ _ _ us hl => match us, hl with | [_], _ => rfl,
    F_Log_text,
    ⟨at_Log_text, fi_Log_text, k_Log_text⟩,
    F_Log_text.binds (ps := P_Log_text) fun _ _ _ _ _ _ us hl => match us, hl with | [_], _ => rfl,
    F_Log_read,
    ⟨at_Log_read, ⟨_, rc_Log_read⟩, fi_Log_read⟩,
    F_Log_read.binds (ps := P_Log_read) fun _ _ _ _ _ _ us hl => match us, hl with | [_, _], _ => rfl,
    F_Log_eq,
    ⟨at_Log_eq, fi_Log_eq, k_Log_eq⟩,
    F_Log_eq.binds (ps := P_Log_eq) fun _ _ _ _ _ _ us hl => match us, hl with | [_, _], _ => rfl,
    F_Log_str,
    ⟨at_Log_str, fi_Log_str, k_Log_str⟩,
    F_Log_str.binds (ps := P_Log_str) fun _ _ _ _ _ _ us hl => match us, hl with | [_], _ => rfl,
    F_is_name,
    PySem.W.mg_of X G n_is_name,
    F_is_name.binds (ps := P_is_name) fun _ _ _ _ _ _ us hl => match us, hl with | [_], _ => rfl,
    F_is_word,
    PySem.W.mg_of X G n_is_word,
    F_is_word.binds (ps := P_is_word) fun _ _ _ _ _ _ us hl => match us, hl with | [_], _ => rfl,
    F_is_number,
    PySem.W.mg_of X G n_is_number,
    F_is_number.binds (ps := P_is_number) fun _ _ _ _ _ _ us hl => match us, hl with | [_, _, _], _ => rfl,
    F_is_step,
    PySem.W.mg_of X G n_is_step,
    F_is_step.binds (ps := P_is_step) fun _ _ _ _ _ _ us hl => match us, hl with | [_], _ => rfl,
    F_step_text,
    PySem.W.mg_of X G n_step_text,
    F_step_text.binds (ps := P_step_text) fun _ _ _ _ _ _ us hl => match us, hl with | [_], _ => rfl,
    F_read_step,
    PySem.W.mg_of X G n_read_step,
    F_read_step.binds (ps := P_read_step) fun _ _ _ _ _ _ us hl => match us, hl with | [_], _ => rfl,
    F_read_number,
    PySem.W.mg_of X G n_read_number,
    F_read_number.binds (ps := P_read_number) fun _ _ _ _ _ _ us hl => match us, hl with | [_], _ => rfl,
    F_consists_of,
    PySem.W.mg_of X G n_consists_of,
    F_consists_of.binds (ps := P_consists_of) fun _ _ _ _ _ _ us hl => match us, hl with | [_, _], _ => rfl,
    F_is_deed,
    PySem.W.mg_of X G n_is_deed,
    F_is_deed.binds (ps := P_is_deed) fun _ _ _ _ _ _ us hl => match us, hl with | [_], _ => rfl,
    F_split_deed,
    PySem.W.mg_of X G n_split_deed,
    F_split_deed.binds (ps := P_split_deed) fun _ _ _ _ _ _ us hl => match us, hl with | [_], _ => rfl,
    F_check_rows,
    PySem.W.mg_of X G n_check_rows,
    F_check_rows.binds (ps := P_check_rows) fun _ _ _ _ _ _ us hl => match us, hl with | [_], _ => rfl,
    F_is_row,
    PySem.W.mg_of X G n_is_row,
    F_is_row.binds (ps := P_is_row) fun _ _ _ _ _ _ us hl => match us, hl with | [_], _ => rfl,
    F_check_steps,
    PySem.W.mg_of X G n_check_steps,
    F_check_steps.binds (ps := P_check_steps) fun _ _ _ _ _ _ us hl => match us, hl with | [_], _ => rfl,
    F_check_messages,
    PySem.W.mg_of X G n_check_messages,
    F_check_messages.binds (ps := P_check_messages) fun _ _ _ _ _ _ us hl => match us, hl with | [_], _ => rfl,
    F_check_ends,
    PySem.W.mg_of X G n_check_ends,
    F_check_ends.binds (ps := P_check_ends) fun _ _ _ _ _ _ us hl => match us, hl with | [_, _], _ => rfl,
    F_names,
    PySem.W.mg_of X G n_names,
    F_names.binds (ps := P_names) fun _ _ _ _ _ _ us hl => match us, hl with | [_], _ => rfl,
    F_deeds,
    PySem.W.mg_of X G n_deeds,
    F_deeds.binds (ps := P_deeds) fun _ _ _ _ _ _ us hl => match us, hl with | [_], _ => rfl,
    F_first_unsent,
    PySem.W.mg_of X G n_first_unsent,
    F_first_unsent.binds (ps := P_first_unsent) fun _ _ _ _ _ _ us hl => match us, hl with | [_], _ => rfl,
    F_order_of,
    PySem.W.mg_of X G n_order_of,
    F_order_of.binds (ps := P_order_of) fun _ _ _ _ _ _ us hl => match us, hl with | [_], _ => rfl,
    F_first_ready,
    PySem.W.mg_of X G n_first_ready,
    F_first_ready.binds (ps := P_first_ready) fun _ _ _ _ _ _ us hl => match us, hl with | [_, _, _], _ => rfl,
    F_can_be_made,
    PySem.W.mg_of X G n_can_be_made,
    F_can_be_made.binds (ps := P_can_be_made) fun _ _ _ _ _ _ us hl => match us, hl with | [_, _], _ => rfl,
    F_row_text,
    PySem.W.mg_of X G n_row_text,
    F_row_text.binds (ps := P_row_text) fun _ _ _ _ _ _ us hl => match us, hl with | [_, _], _ => rfl,
    F_read_row,
    PySem.W.mg_of X G n_read_row,
    F_read_row.binds (ps := P_read_row) fun _ _ _ _ _ _ us hl => match us, hl with | [_], _ => rfl,
    F_Lbag,
    PySem.W.mg_of X G n_Lbag,
    F_Lbag.binds (ps := P_Lbag) fun _ _ _ _ _ _ us hl => match us, hl with | [_], _ => rfl,
    F_Ldraw,
    PySem.W.mg_of X G n_Ldraw,
    F_Ldraw.binds (ps := P_Ldraw) fun _ _ _ _ _ _ us hl => match us, hl with | [_, _], _ => rfl,
    F_Lof,
    PySem.W.mg_of X G n_Lof,
    F_Lof.binds (ps := P_Lof) fun _ _ _ _ _ _ us hl => match us, hl with | [_, _], _ => rfl,
    F_Lmixed,
    PySem.W.mg_of X G n_Lmixed,
    F_Lmixed.binds (ps := P_Lmixed) fun _ _ _ _ _ _ us hl => match us, hl with | [_, _], _ => rfl,
    F_Lsame,
    PySem.W.mg_of X G n_Lsame,
    F_Lsame.binds (ps := P_Lsame) fun _ _ _ _ _ _ us hl => match us, hl with | [_, _], _ => rfl,
    F_Lmarks,
    PySem.W.mg_of X G n_Lmarks,
    F_Lmarks.binds (ps := P_Lmarks) fun _ _ _ _ _ _ us hl => match us, hl with | [], _ => rfl,
    F_Lstep,
    PySem.W.mg_of X G n_Lstep,
    F_Lstep.binds (ps := P_Lstep) fun _ _ _ _ _ _ us hl => match us, hl with | [_, _], _ => rfl,
    F_Lrows,
    PySem.W.mg_of X G n_Lrows,
    F_Lrows.binds (ps := P_Lrows) fun _ _ _ _ _ _ us hl => match us, hl with | [_, _, _], _ => rfl,
    F_Llog,
    PySem.W.mg_of X G n_Llog,
    F_Llog.binds (ps := P_Llog) fun _ _ _ _ _ _ us hl => match us, hl with | [_], _ => rfl,
    F_Lstep_text,
    PySem.W.mg_of X G n_Lstep_text,
    F_Lstep_text.binds (ps := P_Lstep_text) fun _ _ _ _ _ _ us hl => match us, hl with | [_], _ => rfl,
    F_Llog_text,
    PySem.W.mg_of X G n_Llog_text,
    F_Llog_text.binds (ps := P_Llog_text) fun _ _ _ _ _ _ us hl => match us, hl with | [_], _ => rfl,
    F_law,
    PySem.W.mg_of X G n_law,
    F_law.binds (ps := P_law) fun _ _ _ _ _ _ us hl => match us, hl with | [_], _ => rfl,
    PySem.W.mg_of X G n_DEEDS,
    rfl,
    fun H => (tup_k (xs := [.ref q_DEEDS_0, .ref q_DEEDS_1]) l_DEEDS (by show 2 ≤ sizeLine; decide) (.cons rfl (.cons rfl .nil)) (.cons (tup_k (xs := [.str "send", .str "!"]) l_DEEDS_0 (by show 2 ≤ sizeLine; decide) (.cons ⟨_, rfl⟩ (.cons ⟨_, rfl⟩ .nil)) (.cons (.str _) (.cons (.str _) .nil))) (.cons (tup_k (xs := [.str "receive", .str "?"]) l_DEEDS_1 (by show 2 ≤ sizeLine; decide) (.cons ⟨_, rfl⟩ (.cons ⟨_, rfl⟩ .nil)) (.cons (.str _) (.cons (.str _) .nil))) .nil))),
    PySem.W.mg_of X G n_DIGITS,
    ⟨_, rfl⟩,
    PySem.W.mg_of X G n_LEAST,
    ⟨_, rfl⟩,
    PySem.W.mg_of X G n_LETTERS,
    ⟨_, rfl⟩,
    PySem.W.mg_of X G n_MOST,
    ⟨_, rfl⟩,
    PySem.W.mg_of X G n_NAME_LENGTH,
    ⟨_, rfl⟩,
    PySem.W.mg_of X G n_WORD_LENGTH,
    ⟨_, rfl⟩,
    PySem.W.mg_none_of X G z_all,
    PySem.W.mg_none_of X G z_bool,
    PySem.W.mg_none_of X G z_enumerate,
    PySem.W.mg_none_of X G z_int,
    PySem.W.mg_none_of X G z_isinstance,
    PySem.W.mg_none_of X G z_len,
    PySem.W.mg_none_of X G z_list,
    PySem.W.mg_none_of X G z_range,
    PySem.W.mg_none_of X G z_str,
    PySem.W.mg_none_of X G z_tuple,
    PySem.W.mg_none_of X G z_zip,
    kb_mk F_Log_read (fun _ _ _ _ _ _ us ws h1 h2 => match us, ws, h1, h2 with | [_], [_], _, _ => rfl) (fun r1 r2 => (((r1.drop 0).take 1).append ((r2.drop 0).take 1)))⟩
  exact ⟨_, fun s v => .of_eq rfl, fun base _ _ => ok_law T⟩
end My

set_option Elab.async false
set_option linter.all false
set_option maxRecDepth 100000
open PySem PySem.W PyProof.Rows
set_option maxRecDepth 100000 in
set_option maxHeartbeats 0 in
theorem PySem.Challenge.cw_tiedmoments_k07_whole_texts_of_logs_holds : PySem.Challenge.rw_tiedmoments_k07_whole_texts_of_logs.Holds := by
  w_on; o_law; k_head; (case hw => w_witness2)
  k_fill
  refine L2.walk_of (l := PySem.Challenge.rw_tiedmoments_k07_whole_texts_of_logs) (n := 63) (k := 20) (x := "_law_script") (CX := fun _ => L2.CX0) (sp := fun w => My.spLaw _) rfl (by decide) rfl ⟨rfl, by decide, by decide⟩ (fun w h Y => PySem.W.kIn_of Y) ?F (fun _ _ a ns hl _ hS => ⟨a, ns, rfl, hS, hl, fun _ => rfl⟩) (fun _ _ _ _ _ h => h)
  case F =>
    intro w mg fa h KX G hmg
    refine' My.all_mk KX G hmg ?n_Log ?at_i_Log ?fi_i_Log ?l_i_Log ?cc_i_Log ?k_i_Log ?at_Log_rows ?fi_Log_rows ?l_Log_rows ?cc_Log_rows ?k_Log_rows ?at_Log_text ?fi_Log_text ?l_Log_text ?cc_Log_text ?k_Log_text ?at_Log_read ?rc_Log_read ?fi_Log_read ?l_Log_read ?cc_Log_read ?k_Log_read ?at_Log_eq ?fi_Log_eq ?l_Log_eq ?cc_Log_eq ?k_Log_eq ?at_Log_str ?fi_Log_str ?l_Log_str ?cc_Log_str ?k_Log_str ?pg_Log ?hd_Log ?po_Log ?sa_Log ?mk_Log ?kc_Log ?rd_Log ?ga_Log ?ha_Log ?hn_Log ?ht_Log ?hm_Log ?na_Log_rows ?na_Log_order ?cv_Log_PROCESSES ?cv_Log_STEPS ?n_is_name ?l_is_name ?c_is_name ?k_is_name ?n_is_word ?l_is_word ?c_is_word ?k_is_word ?n_is_number ?l_is_number ?c_is_number ?k_is_number ?n_is_step ?l_is_step ?c_is_step ?k_is_step ?n_step_text ?l_step_text ?c_step_text ?k_step_text ?n_read_step ?l_read_step ?c_read_step ?k_read_step ?n_read_number ?l_read_number ?c_read_number ?k_read_number ?n_consists_of ?l_consists_of ?c_consists_of ?k_consists_of ?n_is_deed ?l_is_deed ?c_is_deed ?k_is_deed ?n_split_deed ?l_split_deed ?c_split_deed ?k_split_deed ?n_check_rows ?l_check_rows ?c_check_rows ?k_check_rows ?n_is_row ?l_is_row ?c_is_row ?k_is_row ?n_check_steps ?l_check_steps ?c_check_steps ?k_check_steps ?n_check_messages ?l_check_messages ?c_check_messages ?k_check_messages ?n_check_ends ?l_check_ends ?c_check_ends ?k_check_ends ?n_names ?l_names ?c_names ?k_names ?n_deeds ?l_deeds ?c_deeds ?k_deeds ?n_first_unsent ?l_first_unsent ?c_first_unsent ?k_first_unsent ?n_order_of ?l_order_of ?c_order_of ?k_order_of ?n_first_ready ?l_first_ready ?c_first_ready ?k_first_ready ?n_can_be_made ?l_can_be_made ?c_can_be_made ?k_can_be_made ?n_row_text ?l_row_text ?c_row_text ?k_row_text ?n_read_row ?l_read_row ?c_read_row ?k_read_row ?n_Lbag ?l_Lbag ?c_Lbag ?k_Lbag ?n_Ldraw ?l_Ldraw ?c_Ldraw ?k_Ldraw ?n_Lof ?l_Lof ?c_Lof ?k_Lof ?n_Lmixed ?l_Lmixed ?c_Lmixed ?k_Lmixed ?n_Lsame ?l_Lsame ?c_Lsame ?k_Lsame ?n_Lmarks ?l_Lmarks ?c_Lmarks ?k_Lmarks ?n_Lstep ?l_Lstep ?c_Lstep ?k_Lstep ?n_Lrows ?l_Lrows ?c_Lrows ?k_Lrows ?n_Llog ?l_Llog ?c_Llog ?k_Llog ?n_Lstep_text ?l_Lstep_text ?c_Lstep_text ?k_Lstep_text ?n_Llog_text ?l_Llog_text ?c_Llog_text ?k_Llog_text ?n_law ?l_law ?c_law ?k_law ?n_DEEDS ?l_DEEDS ?l_DEEDS_1 ?l_DEEDS_0 ?n_DIGITS ?n_LEAST ?n_LETTERS ?n_MOST ?n_NAME_LENGTH ?n_WORD_LENGTH ?z_all ?z_bool ?z_enumerate ?z_int ?z_isinstance ?z_len ?z_list ?z_range ?z_str ?z_tuple ?z_zip
    (case n_Log => k_is)
    (case at_i_Log => k_is)
    (case fi_i_Log => k_is)
    (case l_i_Log => k_is)
    (case cc_i_Log => k_is)
    (case k_i_Log => k_is)
    (case at_Log_rows => k_is)
    (case fi_Log_rows => k_is)
    (case l_Log_rows => k_is)
    (case cc_Log_rows => k_is)
    (case k_Log_rows => k_is)
    (case at_Log_text => k_is)
    (case fi_Log_text => k_is)
    (case l_Log_text => k_is)
    (case cc_Log_text => k_is)
    (case k_Log_text => k_is)
    (case at_Log_read => k_is)
    (case rc_Log_read => k_is)
    (case fi_Log_read => k_is)
    (case l_Log_read => k_is)
    (case cc_Log_read => k_is)
    (case k_Log_read => k_is)
    (case at_Log_eq => k_is)
    (case fi_Log_eq => k_is)
    (case l_Log_eq => k_is)
    (case cc_Log_eq => k_is)
    (case k_Log_eq => k_is)
    (case at_Log_str => k_is)
    (case fi_Log_str => k_is)
    (case l_Log_str => k_is)
    (case cc_Log_str => k_is)
    (case k_Log_str => k_is)
    (case pg_Log => k_is)
    (case hd_Log => k_is)
    (case po_Log => k_is)
    (case sa_Log => k_is)
    (case mk_Log => k_is)
    (case kc_Log => k_is)
    (case rd_Log => k_is)
    (case ga_Log => k_is)
    (case ha_Log => k_is)
    (case hn_Log => k_is)
    (case ht_Log => k_is)
    (case hm_Log => k_is)
    (case na_Log_rows => k_is)
    (case na_Log_order => k_is)
    (case cv_Log_PROCESSES => k_is)
    (case cv_Log_STEPS => k_is)
    (case n_is_name => k_is)
    (case l_is_name => k_is)
    (case c_is_name => k_is)
    (case k_is_name => k_is)
    (case n_is_word => k_is)
    (case l_is_word => k_is)
    (case c_is_word => k_is)
    (case k_is_word => k_is)
    (case n_is_number => k_is)
    (case l_is_number => k_is)
    (case c_is_number => k_is)
    (case k_is_number => k_is)
    (case n_is_step => k_is)
    (case l_is_step => k_is)
    (case c_is_step => k_is)
    (case k_is_step => k_is)
    (case n_step_text => k_is)
    (case l_step_text => k_is)
    (case c_step_text => k_is)
    (case k_step_text => k_is)
    (case n_read_step => k_is)
    (case l_read_step => k_is)
    (case c_read_step => k_is)
    (case k_read_step => k_is)
    (case n_read_number => k_is)
    (case l_read_number => k_is)
    (case c_read_number => k_is)
    (case k_read_number => k_is)
    (case n_consists_of => k_is)
    (case l_consists_of => k_is)
    (case c_consists_of => k_is)
    (case k_consists_of => k_is)
    (case n_is_deed => k_is)
    (case l_is_deed => k_is)
    (case c_is_deed => k_is)
    (case k_is_deed => k_is)
    (case n_split_deed => k_is)
    (case l_split_deed => k_is)
    (case c_split_deed => k_is)
    (case k_split_deed => k_is)
    (case n_check_rows => k_is)
    (case l_check_rows => k_is)
    (case c_check_rows => k_is)
    (case k_check_rows => k_is)
    (case n_is_row => k_is)
    (case l_is_row => k_is)
    (case c_is_row => k_is)
    (case k_is_row => k_is)
    (case n_check_steps => k_is)
    (case l_check_steps => k_is)
    (case c_check_steps => k_is)
    (case k_check_steps => k_is)
    (case n_check_messages => k_is)
    (case l_check_messages => k_is)
    (case c_check_messages => k_is)
    (case k_check_messages => k_is)
    (case n_check_ends => k_is)
    (case l_check_ends => k_is)
    (case c_check_ends => k_is)
    (case k_check_ends => k_is)
    (case n_names => k_is)
    (case l_names => k_is)
    (case c_names => k_is)
    (case k_names => k_is)
    (case n_deeds => k_is)
    (case l_deeds => k_is)
    (case c_deeds => k_is)
    (case k_deeds => k_is)
    (case n_first_unsent => k_is)
    (case l_first_unsent => k_is)
    (case c_first_unsent => k_is)
    (case k_first_unsent => k_is)
    (case n_order_of => k_is)
    (case l_order_of => k_is)
    (case c_order_of => k_is)
    (case k_order_of => k_is)
    (case n_first_ready => k_is)
    (case l_first_ready => k_is)
    (case c_first_ready => k_is)
    (case k_first_ready => k_is)
    (case n_can_be_made => k_is)
    (case l_can_be_made => k_is)
    (case c_can_be_made => k_is)
    (case k_can_be_made => k_is)
    (case n_row_text => k_is)
    (case l_row_text => k_is)
    (case c_row_text => k_is)
    (case k_row_text => k_is)
    (case n_read_row => k_is)
    (case l_read_row => k_is)
    (case c_read_row => k_is)
    (case k_read_row => k_is)
    (case n_Lbag => k_is)
    (case l_Lbag => k_is)
    (case c_Lbag => k_is)
    (case k_Lbag => k_is)
    (case n_Ldraw => k_is)
    (case l_Ldraw => k_is)
    (case c_Ldraw => k_is)
    (case k_Ldraw => k_is)
    (case n_Lof => k_is)
    (case l_Lof => k_is)
    (case c_Lof => k_is)
    (case k_Lof => k_is)
    (case n_Lmixed => k_is)
    (case l_Lmixed => k_is)
    (case c_Lmixed => k_is)
    (case k_Lmixed => k_is)
    (case n_Lsame => k_is)
    (case l_Lsame => k_is)
    (case c_Lsame => k_is)
    (case k_Lsame => k_is)
    (case n_Lmarks => k_is)
    (case l_Lmarks => k_is)
    (case c_Lmarks => k_is)
    (case k_Lmarks => k_is)
    (case n_Lstep => k_is)
    (case l_Lstep => k_is)
    (case c_Lstep => k_is)
    (case k_Lstep => k_is)
    (case n_Lrows => k_is)
    (case l_Lrows => k_is)
    (case c_Lrows => k_is)
    (case k_Lrows => k_is)
    (case n_Llog => k_is)
    (case l_Llog => k_is)
    (case c_Llog => k_is)
    (case k_Llog => k_is)
    (case n_Lstep_text => k_is)
    (case l_Lstep_text => k_is)
    (case c_Lstep_text => k_is)
    (case k_Lstep_text => k_is)
    (case n_Llog_text => k_is)
    (case l_Llog_text => k_is)
    (case c_Llog_text => k_is)
    (case k_Llog_text => k_is)
    (case n_law => k_is)
    (case l_law => k_is)
    (case c_law => k_is)
    (case k_law => k_is)
    (case n_DEEDS => k_is)
    (case l_DEEDS => k_is)
    (case l_DEEDS_1 => k_is)
    (case l_DEEDS_0 => k_is)
    (case n_DIGITS => k_is)
    (case n_LEAST => k_is)
    (case n_LETTERS => k_is)
    (case n_MOST => k_is)
    (case n_NAME_LENGTH => k_is)
    (case n_WORD_LENGTH => k_is)
    (case z_all => k_is)
    (case z_bool => k_is)
    (case z_enumerate => k_is)
    (case z_int => k_is)
    (case z_isinstance => k_is)
    (case z_len => k_is)
    (case z_list => k_is)
    (case z_range => k_is)
    (case z_str => k_is)
    (case z_tuple => k_is)
    (case z_zip => k_is)
