import PyProof.Rows.All
import Wide.All
import OpenK.AllK
import Wide.FinOn
import HandS.ForMost
import HandS.IsInst
import HandS.Zip
import HandS.Walk
import HandS.Defaults
import HandS.FStr
import HandS.TupLe
import HandS.Evl
import HandS.Style
import HandS.StrMore
import HandS.Deep
import KE.IntTextLaws
import PySem.Challenge.RW_tiedmoments_k03_whole_texts_of_steps
set_option Elab.async false
set_option linter.all false
set_option maxRecDepth 100000
/-! Own ground: rules that lacked, data in the heap, the bag of the laws. -/
namespace My
open PySem PySem.Spec PyProof.Rows L2

/-! ### a call by keywords alone -/
section
variable {X : Cx} {CX : CXT} {k n : Nat} {f : Addr} {fd : FuncData} {ps ks : List Str} {sp : Sp} {E : XK} {x : Str} {p pos : Pos} {kws : List Keyword} {tk : TA} {g : List Value → List Value → List Value} {gV : List V → List V → List V}
theorem pe_callN0 (F : FnOk X.prog X.w X.K X.mg X.base CX k f fd ps sp) (hr : Room k X.A) (hg : Gl X x) (hm : X.mg x = some (.ref f)) (hk : PySem.W.keepIn X.K (.ref f) = true) (hb : KBn X.K fd ps 0 ks g gV) (hx : Passes CX X E)
    (hkw : PK X kws tk) (plain : ((backTo pos (starEach [] X.env)).any (·.1) || (backToKw pos (keywordEach kws X.env)).any (·.1.isNone)) = false := by rfl) (named : (backToKw pos (keywordEach kws X.env)).all (·.1.isSome) = true := by rfl)
    (names : (backToKw pos (keywordEach kws X.env)).filterMap (·.1) = ks := by rfl) (nodebug : (x == ("__debug__" : Str)) = false := by decide) : PE X (.Call (.Name x p) [] kws pos) (tCallN 0 ks.length sp gV E tNil tk) := ⟨fun pins s σ H Q I h => by
  have go := hkw.run pos pins s σ H _ I h
  refine wpAny_Call_Name_kw (ld_glob I hg hm (PySem.W.callWith_KW0 (h₀ := X.base) I.ok.mod.kin hk named (thn go fun vals s' ⟨vs, H', J, rv, n1, n2, want⟩ => ⟨J.kIn, ?_⟩) plain) nodebug)
  rw [names]
  exact run_fnN (us := []) (vs := []) F hr hb hx J .nil rv n1 n2 want⟩
end

/-! ### is not True, of an int -/
theorem op_isnot_ib {X : Cx} : OpR X (compareOp .IsNot) (fun x y H Q => ∃ (a : Int) (b : Bool), x = .int a ∧ y = .bl b ∧ Q (.bl true) H) := fun pins s σ H x y v u Q I rx ry ⟨a, b, e1, e2, q⟩ => by
  subst e1 e2
  obtain ⟨t, e3⟩ := rx
  have e4 : u = Value.bool b := ry
  subst e3 e4
  exact wpAny_isNot_other rfl (fun z => by cases z) ⟨.bl true, H, I, rfl, q⟩

/-! ### heaps -/
/-- all but what stands at p is as it was -/
def Ext (p : Addr) (H H' : Hp) : Prop := ∀ b o, H b = some o → b ≠ p → H' b = some o
theorem Ext.refl (p : Addr) (H : Hp) : Ext p H H := fun _ _ h _ => h
theorem Ext.trans {p : Addr} {H H1 H2 : Hp} (a : Ext p H H1) (b : Ext p H1 H2) : Ext p H H2 := fun c o h n => b c o (a c o h n) n
theorem Ext.of {p : Addr} {H H' : Hp} (a : Same H H') : Ext p H H' := fun c o h _ => a c o h
theorem same_upd {o : HO} {p : Addr} {H : Hp} (h : H p = none) : Same H (upd H p o) := fun b x e => by
  rw [upd_ne (ne_of_none e h)]
  exact e
theorem Same.at {H H' : Hp} (s : Same H H') {a : Addr} {o : HO} (h : H a = some o) : H' a = some o := s a o h
theorem Rd.same {H H' : Hp} (s : Same H H') {a : Addr} {o : HO} (h : Rd H a o) : Rd H' a o := by
  rcases h with h | ⟨u, h⟩
  · exact .inl (s _ _ h)
  · exact .inr ⟨u, s _ _ h⟩
theorem Rd.ext {p : Addr} {H H' : Hp} (s : Ext p H H') {a : Addr} {o : HO} (n : a ≠ p) (h : Rd H a o) : Rd H' a o := by
  rcases h with h | ⟨u, h⟩
  · exact .inl (s _ _ h n)
  · exact .inr ⟨u, s _ _ h n⟩
theorem SqL.same {K : PySem.W.Frag} {H H' : Hp} (s : Same H H') {a : Addr} {xs : List V} (h : SqL K H a xs) : SqL K H' a xs := by
  rcases h with h | h
  · exact .inl (Rd.same s h)
  · exact .inr h
theorem SqT.same {K : PySem.W.Frag} {H H' : Hp} (s : Same H H') {a : Addr} {xs : List V} (h : SqT K H a xs) : SqT K H' a xs := by
  rcases h with h | h
  · exact .inl (Rd.same s h)
  · exact .inr h
theorem SqL.ext {K : PySem.W.Frag} {p : Addr} {H H' : Hp} (s : Ext p H H') {a : Addr} {xs : List V} (n : a ≠ p) (h : SqL K H a xs) : SqL K H' a xs := by
  rcases h with h | h
  · exact .inl (Rd.ext s n h)
  · exact .inr h
theorem SqT.ext {K : PySem.W.Frag} {p : Addr} {H H' : Hp} (s : Ext p H H') {a : Addr} {xs : List V} (n : a ≠ p) (h : SqT K H a xs) : SqT K H' a xs := by
  rcases h with h | h
  · exact .inl (Rd.ext s n h)
  · exact .inr h
theorem lsq {K : PySem.W.Frag} {H : Hp} {a : Addr} {xs : List V} (h : H a = some (.lst xs)) : SqL K H a xs := .inl (.inl h)
theorem tsq {K : PySem.W.Frag} {H : Hp} {a : Addr} {xs : List V} (h : H a = some (.tup xs)) : SqT K H a xs := .inl (.inl h)
theorem sz {n : Nat} (h : n ≤ 100000) : n ≤ sizeLine := Nat.le_trans h (by decide)
theorem szl {n : Nat} (h : n < 100000) : n < sizeLine := Nat.lt_of_lt_of_le h (by decide)

/-! ### data in the heap, away from p -/
mutual
inductive Dd (K : PySem.W.Frag) (p : Addr) (H : Hp) : V → PyData → Prop
  | non : Dd K p H .non .none
  | bl (b : Bool) : Dd K p H (.bl b) (.bool b)
  | int (i : Int) : Dd K p H (.int i) (.int i)
  | str (x : Str) : Dd K p H (.str x) (.str x)
  | lst {a : Addr} {xs : List V} {ds : List PyData} : a ≠ p → SqL K H a xs → DdAll K p H xs ds → Dd K p H (.ref a) (.list ds)
  | tup {a : Addr} {xs : List V} {ds : List PyData} : a ≠ p → SqT K H a xs → DdAll K p H xs ds → Dd K p H (.ref a) (.tuple ds)
inductive DdAll (K : PySem.W.Frag) (p : Addr) (H : Hp) : List V → List PyData → Prop
  | nil : DdAll K p H [] []
  | cons {v : V} {vs : List V} {d : PyData} {ds : List PyData} : Dd K p H v d → DdAll K p H vs ds → DdAll K p H (v :: vs) (d :: ds)
end
section
variable {K : PySem.W.Frag} {p : Addr} {H H' : Hp}
mutual
theorem Dd.ext (s : Ext p H H') : ∀ (d : PyData) (v : V), Dd K p H v d → Dd K p H' v d
  | .none, _, h => by cases h; exact .non
  | .bool _, _, h => by cases h; exact .bl _
  | .int _, _, h => by cases h; exact .int _
  | .str _, _, h => by cases h; exact .str _
  | .list ds, _, h => by
    cases h with
    | lst n a b => exact .lst n (SqL.ext s n a) (DdAll.ext s ds _ b)
  | .tuple ds, _, h => by
    cases h with
    | tup n a b => exact .tup n (SqT.ext s n a) (DdAll.ext s ds _ b)
  | .dict _, _, h => by cases h
theorem DdAll.ext (s : Ext p H H') : ∀ (ds : List PyData) (vs : List V), DdAll K p H vs ds → DdAll K p H' vs ds
  | [], _, h => by cases h; exact .nil
  | d :: ds, _, h => by
    cases h with
    | cons a b => exact .cons (Dd.ext s d _ a) (DdAll.ext s ds _ b)
end
mutual
theorem Dd.dp : ∀ (d : PyData) (v : V), Dd K p H v d → Dp K H v d
  | .none, _, h => by cases h; exact .non
  | .bool _, _, h => by cases h; exact .bl _
  | .int _, _, h => by cases h; exact .int _
  | .str _, _, h => by cases h; exact .str _
  | .list ds, _, h => by
    cases h with
    | lst n a b => exact .lst a (DdAll.dp ds _ b)
  | .tuple ds, _, h => by
    cases h with
    | tup n a b => exact .tup a (DdAll.dp ds _ b)
  | .dict _, _, h => by cases h
theorem DdAll.dp : ∀ (ds : List PyData) (vs : List V), DdAll K p H vs ds → DpAll K H vs ds
  | [], _, h => by cases h; exact .nil
  | d :: ds, _, h => by
    cases h with
    | cons a b => exact .cons (Dd.dp d _ a) (DdAll.dp ds _ b)
end
mutual
theorem Dp.same (s : Same H H') : ∀ (d : PyData) (v : V), Dp K H v d → Dp K H' v d
  | .none, _, h => by cases h; exact .non
  | .bool _, _, h => by cases h; exact .bl _
  | .int _, _, h => by cases h; exact .int _
  | .str _, _, h => by cases h; exact .str _
  | .list ds, _, h => by
    cases h with
    | lst a b => exact .lst (SqL.same s a) (DpAll.same s ds _ b)
  | .tuple ds, _, h => by
    cases h with
    | tup a b => exact .tup (SqT.same s a) (DpAll.same s ds _ b)
  | .dict _, _, h => by cases h
theorem DpAll.same (s : Same H H') : ∀ (ds : List PyData) (vs : List V), DpAll K H vs ds → DpAll K H' vs ds
  | [], _, h => by cases h; exact .nil
  | d :: ds, _, h => by
    cases h with
    | cons a b => exact .cons (Dp.same s d _ a) (DpAll.same s ds _ b)
end
theorem DpAll.length : ∀ {ds : List PyData} {vs : List V}, DpAll K H vs ds → vs.length = ds.length
  | [], _, h => by cases h; rfl
  | d :: ds, _, h => by
    cases h with
    | cons a b => exact congrArg Nat.succ (DpAll.length b)
theorem DpAll.get : ∀ {ds : List PyData} {vs : List V} {i : Nat} {v : V}, DpAll K H vs ds → vs[i]? = some v → ∃ d, ds[i]? = some d ∧ Dp K H v d
  | [], _, _, _, h, e => by cases h; simp at e
  | d :: ds, _, 0, _, h, e => by
    cases h with
    | cons a b => simp at e; subst e; exact ⟨d, rfl, a⟩
  | d :: ds, _, i + 1, _, h, e => by
    cases h with
    | cons a b =>
      obtain ⟨d', e1, e2⟩ := DpAll.get (i := i) b (by simpa using e)
      exact ⟨d', by simpa using e1, e2⟩
end

/-! ### the bag of the laws -/
/-- where a bag stands: its list, its list of cells, the cells -/
structure BagId where
  p : Addr
  l : Addr
  ns : List Int
def Bag (B : BagId) (H : Hp) : Prop := ∃ (i g m c : Int), H B.p = some (.lst [.ref B.l, .int i, .int g, .int m, .int c]) ∧ H B.l = some (.lst (B.ns.map V.int)) ∧ B.l ≠ B.p ∧ 0 ≤ i ∧ i ≤ B.ns.length ∧ B.ns.length ≤ 63 ∧ 0 ≤ g ∧ 0 ≤ m ∧ m < 2147483549
theorem Bag.ext {B : BagId} {H H' : Hp} (b : Bag B H) (s : Same H H') : Bag B H' := by
  obtain ⟨i, g, m, c, h1, h2, r⟩ := b
  exact ⟨i, g, m, c, s _ _ h1, s _ _ h2, r⟩
theorem Bag.there {B : BagId} {H : Hp} (b : Bag B H) : ∃ o, H B.p = some o := by
  obtain ⟨i, g, m, c, h1, _⟩ := b
  exact ⟨_, h1⟩
theorem Bag.thereL {B : BagId} {H : Hp} (b : Bag B H) : ∃ o, H B.l = some o := by
  obtain ⟨i, g, m, c, h1, h2, _⟩ := b
  exact ⟨_, h2⟩
theorem Bag.ne {B : BagId} {a : Addr} {H : Hp} (b : Bag B H) (h : H a = none) : a ≠ B.p := by
  obtain ⟨o, e⟩ := b.there
  exact (ne_of_none e h).symm
theorem Bag.neL {B : BagId} {a : Addr} {H : Hp} (b : Bag B H) (h : H a = none) : a ≠ B.l := by
  obtain ⟨o, e⟩ := b.thereL
  exact (ne_of_none e h).symm
theorem Bag.upd {B : BagId} {a : Addr} {o : HO} {H : Hp} (b : Bag B H) (h1 : a ≠ B.p) (h2 : a ≠ B.l) : Bag B (upd H a o) := by
  obtain ⟨i, g, m, c, e1, e2, r⟩ := b
  exact ⟨i, g, m, c, by rw [upd_ne h1.symm]; exact e1, by rw [upd_ne h2.symm]; exact e2, r⟩
def spBag (K : PySem.W.Frag) : Sp := fun vs H Q _ => ∃ (a : Addr) (ns : List Int), vs = [.ref a] ∧ SqL K H a (ns.map V.int) ∧ ns.length ≤ 63 ∧ ∀ (B : BagId) (H' : Hp), H B.p = none → Bag B H' → Same H H' → Q (.ref B.p) H'
def spDraw : Sp := fun vs H Q _ => ∃ (B : BagId) (n : Int), vs = [.ref B.p, .int n] ∧ Bag B H ∧ 0 < n ∧ n < 1073741824 ∧ ∀ (r : Int) (H' : Hp), 0 ≤ r → r < n → Bag B H' → Ext B.p H H' → Q (.int r) H'
def spOf (K : PySem.W.Frag) : Sp := fun vs H Q _ => ∃ (B : BagId) (y : V), vs = [.ref B.p, y] ∧ Bag B H ∧
  ((∃ (q : Addr) (xs : List V), y = .ref q ∧ q ≠ B.p ∧ (SqL K H q xs ∨ SqT K H q xs) ∧ 0 < xs.length ∧ xs.length < 1073741824 ∧ ∀ (v : V) (H' : Hp), v ∈ xs → Bag B H' → Ext B.p H H' → Q v H') ∨
   (∃ z : Str, y = .str z ∧ 0 < z.length ∧ z.length ≤ sizeLine ∧ ∀ (c : Nat) (H' : Hp), c ∈ z.cps.toList → Bag B H' → Ext B.p H H' → Q (.str ⟨#[c]⟩) H'))
mutual
/-- no list in it is long -/
def small : PyData → Bool
  | .list ds => decide (ds.length ≤ 5000) && smallAll ds
  | .tuple ds => decide (ds.length ≤ 5000) && smallAll ds
  | .dict _ => false
  | .none => true
  | .bool _ => true
  | .int _ => true
  | .str x => decide (x.length ≤ 5000)
def smallAll : List PyData → Bool
  | [] => true
  | d :: ds => small d && smallAll ds
end
theorem smallAll_get : ∀ {ds : List PyData} {i : Nat} {d : PyData}, smallAll ds = true → ds[i]? = some d → small d = true
  | [], _, _, _, e => by simp at e
  | x :: ds, 0, d, h, e => by
    simp at e; subst e
    unfold smallAll at h
    exact (Bool.and_eq_true_iff.mp h).1
  | x :: ds, i + 1, d, h, e => by
    unfold smallAll at h
    exact smallAll_get (i := i) (Bool.and_eq_true_iff.mp h).2 (by simpa using e)
theorem depthAll_get : ∀ {ds : List PyData} {i : Nat} {d : PyData}, ds[i]? = some d → d.depth ≤ PyData.depthAll ds
  | [], _, _, e => by simp at e
  | x :: ds, 0, d, e => by
    simp at e; subst e
    unfold PyData.depthAll
    exact Nat.le_max_left _ _
  | x :: ds, i + 1, d, e => by
    unfold PyData.depthAll
    exact Nat.le_trans (depthAll_get (i := i) (by simpa using e)) (Nat.le_max_right _ _)
def spSame (K : PySem.W.Frag) (n : Nat) : Sp := fun vs H Q _ => ∃ (v w : V) (d : PyData), vs = [v, w] ∧ Dp K H v d ∧ Dp K H w d ∧ d.depth ≤ n ∧ small d = true ∧ ∀ H', Same H H' → Q (.bl true) H'
/-- the promise one depth less; none of depth nought -/
def spSameLt (K : PySem.W.Frag) : Nat → Sp
  | 0 => fun _ _ _ _ => False
  | n + 1 => spSame K n
/-! ### rules whose sides are read off -/
section
variable {X : Cx}
theorem CallR.imp {f : Value} {r r' : List V → Hp → VK → Prop} (h : CallR X f r) (i : ∀ xs H Q, r' xs H Q → r xs H Q) : CallR X f r' := fun pins s σ H xs us Q I rv q => h pins s σ H xs us Q I rv (i _ _ _ q)
theorem OpR.imp {f : Value → Value → Sem Value} {r r' : R2} (h : OpR X f r) (i : ∀ x y H Q, r' x y H Q → r x y H Q) : OpR X f r' := fun pins s σ H x y v u Q I rx ry q => h pins s σ H x y v u Q I rx ry (i _ _ _ _ q)
theorem IxR.imp {r r' : R2} (h : IxR X r) (i : ∀ x y H Q, r' x y H Q → r x y H Q) : IxR X r' := by
  intro value slice pins s σ H x y v u Q I rx ry q hs
  exact h _ _ _ _ _ _ _ _ _ _ _ I rx ry (i _ _ _ _ q) hs
theorem call_intI : CallR X (.type "int") (fun xs H Q => ∃ i, xs = [.int i] ∧ Q (.int i) H) := CallR.imp call_int1 fun _ _ _ h => .inl h
def CMulC (_ j : Int) : Prop := decide (-(2 ^ 64) < j ∧ j < 2 ^ 64) = true
theorem op_mulC : OpR X (binaryOp .Mult) (rI CMulC fun i j => .int (i * j)) := OpR.imp op_mul fun _ _ _ _ ⟨i, j, a, b, c, q⟩ => ⟨i, j, a, b, .inr (of_decide_eq_true c), q⟩
def CModC (_ j : Int) : Prop := decide (0 < j) = true
theorem op_modC : OpR X (binaryOp .Mod) (rI CModC fun i j => .int (i % j)) := OpR.imp op_mod fun _ _ _ _ ⟨i, j, a, b, c, q⟩ => ⟨i, j, a, b, of_decide_eq_true c, q⟩
def CDivC (_ j : Int) : Prop := decide (0 < j ∧ j < 1073741824) = true
theorem op_fdivC : OpR X (binaryOp .FloorDiv) (rI CDivC fun i j => .int (i / j)) := OpR.imp op_fdiv fun _ _ _ _ ⟨i, j, a, b, c, q⟩ => ⟨i, j, a, b, (of_decide_eq_true c : 0 < j ∧ j < 1073741824), q⟩
/-- the k-th item of a written place in a tracked list -/
def rIxB (K : PySem.W.Frag) : R2 := fun x y H Q => ∃ p i xs v, x = .ref p ∧ y = .int i ∧ H p = some (.lst xs) ∧ atI xs i = some v ∧ Q v H
theorem ix_bag : IxR X (rIxB X.K) := IxR.imp ix_list fun _ _ _ _ ⟨p, i, xs, v, a, b, c, d, q⟩ => ⟨p, xs, i, v, a, b, lsq c, d, q⟩
theorem call_lenL : CallR X (.builtin "len") (fun xs H Q => ∃ p ys, xs = [.ref p] ∧ SqL X.K H p ys ∧ Q (.int ys.length) H) := CallR.imp call_len_seq fun _ _ _ ⟨p, ys, a, b, q⟩ => ⟨p, ys, a, .inl b, q⟩
theorem call_listL : CallR X (.type "list") (fun xs H Q => ∃ p ys, xs = [.ref p] ∧ SqL X.K H p ys ∧ ∀ l, H l = none → Q (.ref l) (upd H l (.lst ys))) := CallR.imp call_list_of fun _ _ _ ⟨p, ys, a, b, q⟩ => ⟨p, ys, a, .inl b, q⟩

/-! ### isinstance of data -/
def tyName : PyData → String
  | .none => "NoneType"
  | .bool _ => "bool"
  | .int _ => "int"
  | .str _ => "str"
  | .list _ => "list"
  | .tuple _ => "tuple"
  | .dict _ => "dict"
def isT (t n : String) : Bool := t == n || (t == "bool" && n == "int")
def okT (n : String) : Bool := n == "int" || n == "bool" || n == "str" || n == "list" || n == "tuple"
theorem tyx {K : PySem.W.Frag} {H : Hp} {x : V} {d : PyData} (h : Dp K H x d) : TyX K H x (.type (tyName d)) := by
  cases h with
  | non => exact .base .non
  | bl b => exact .base (.bl b)
  | int i => exact .base (.int i)
  | str z => exact .base (.str z)
  | lst a b =>
    rcases a with (a | ⟨o, a⟩) | ⟨o, its, n, a, c, _⟩
    · exact .base (.lst a)
    · exact .base (.frz a)
    · exact .kList a c
  | tup a b =>
    rcases a with (a | ⟨o, a⟩) | ⟨o, its, n, a, c, _⟩
    · exact .base (.tup a)
    · exact .fTuple a
    · exact .kTuple a c
theorem kitB_ok (d : PyData) (n : String) (h : okT n = true) (hd : ∀ kvs, d ≠ .dict kvs) : kitB (tyName d) n = some (isT (tyName d) n) := by
  have e : n = "int" ∨ n = "bool" ∨ n = "str" ∨ n = "list" ∨ n = "tuple" := by
    unfold okT at h
    simpa [or_assoc] using h
  rcases e with rfl | rfl | rfl | rfl | rfl <;> cases d <;> first | exact absurd rfl (hd _) | (dsimp only [tyName]; decide +kernel)
def isD (n : String) (d : PyData) : Bool := isT (tyName d) n
theorem call_isD : CallR X (.builtin "isinstance") (fun xs H Q => ∃ x n d, xs = [x, .ty n] ∧ okT n = true ∧ Dp X.K H x d ∧ Q (.bl (isD n d)) H) := CallR.imp call_isi fun xs H Q ⟨x, n, d, a, b, c, q⟩ =>
  ⟨x, .ty n, _, _, isD n d, a, .ty n, tyx c, kit_ty (kitB_ok d n b fun kvs e => by subst e; cases c), q⟩
/-- of two classes, the tuple made on the way -/
theorem call_isD2 : CallR X (.builtin "isinstance") (fun xs H Q => ∃ x t m n d, xs = [x, .ref t] ∧ H t = some (.tup [.ty m, .ty n]) ∧ okT m = true ∧ okT n = true ∧ Dp X.K H x d ∧ Q (.bl (isD m d || isD n d)) H) := CallR.imp call_isiT fun xs H Q ⟨x, t, m, n, d, a, ht, b, b', c, q⟩ => by
  have hd : ∀ kvs, d ≠ .dict kvs := fun kvs e => by subst e; cases c
  refine ⟨x, t, _, _, [.type m, .type n], isD m d || isD n d, a, ht, .cons (.ty m) (.cons (.ty n) .nil), tyx c, ?_, q⟩
  refine kitAny_cons (kit_ty (kitB_ok d m b hd)) (fun e => ?_) (fun e => ?_)
  · refine kitAny_cons (kit_ty (kitB_ok d n b' hd)) (fun e' => ?_) (fun e' => ?_)
    · rw [show isD m d = false from e, show isD n d = false from e']; exact kitAny_nil
    · rw [show isD n d = true from e']; exact Bool.or_true _
  · rw [show isD m d = true from e]; rfl
end
theorem Dp.lenL {K : PySem.W.Frag} {H : Hp} {x : V} {ds : List PyData} (h : Dp K H x (.list ds)) : ∃ a xs, x = .ref a ∧ SqL K H a xs ∧ DpAll K H xs ds := by
  cases h with
  | lst a b => exact ⟨_, _, rfl, a, b⟩
theorem Dp.lenT {K : PySem.W.Frag} {H : Hp} {x : V} {ds : List PyData} (h : Dp K H x (.tuple ds)) : ∃ a xs, x = .ref a ∧ SqT K H a xs ∧ DpAll K H xs ds := by
  cases h with
  | tup a b => exact ⟨_, _, rfl, a, b⟩

/-! ### the comprehension of _law_same -/
theorem walk_zipT {K : PySem.W.Frag} {a b : Addr} {xs ys : List V} {n : Nat} (hn : n = min xs.length ys.length) : Walk (RZ.ItzT K a b) n (fun H => SqT K H a xs ∧ SqT K H b ys) (YPair (fun i => xs[i]?) (fun i => ys[i]?)) := by
  subst hn
  constructor
  · intro i H hi q
    exact ⟨xs, ys, xs[i]'(by omega), ys[i]'(by omega), q.1, q.2, List.getElem?_eq_getElem _, List.getElem?_eq_getElem _⟩
  · intro H q
    exact ⟨xs, ys, q.1, q.2, by omega⟩
  · intro i H v H' hi q y
    obtain ⟨T, a', b', e1, e2, e3, e4, e5⟩ := y
    exact ⟨T, a', b', e1, e2, e3, e4 _ q.1, e5 _ q.2⟩
theorem same_all {K : PySem.W.Frag} {J : It} {xs ys : List V} {ds : List PyData} {G : Hp → Prop} {H0 : Hp} {n : Nat} {D : Addr} {Qd : Hp → Prop} {σ : L2.St} {E : XK} (w : Walk J ds.length G (YPair (fun i => xs[i]?) (fun i => ys[i]?)))
    (hx : DpAll K H0 xs ds) (hy : DpAll K H0 ys ds) (hG : ∀ H, Same H0 H → G H) (hD : H0 D = none) (hsz : ds.length ≤ 5000) (hsm : smallAll ds = true) (hdp : PyData.depthAll ds + 1 ≤ n) (hσ : ∃ a b, σ = [a, b, none, none])
    (hq : ∀ H', Same H0 H' → H' D = some (.lst (List.replicate ds.length (.bl true))) → Qd H') :
    ∃ W : Nat → Nat → Hp → Prop, (∃ m, W 0 m (upd H0 D (.lst []))) ∧ ∀ i m H, W i m H →
      (J.stop i H ∧ Qd H) ∨ (J.go i H ∧ ∃ Nx : Hp → Prop, (∀ H', Nx H' → ∃ m', m' < m ∧ W (i + 1) m' H') ∧ ∀ x H', J.yld i H x H' → (gTup K 2 (gCons (gName 2) (gCons (gName 3) gNil))) x (wipe σ [2, 3]) H' fun σ2 H2 => wipe σ2 [2, 3] = wipe σ [2, 3] ∧ tYes σ2 H2 fun b H3 =>
        if b = true then (tCall (spSameLt K n) [] E (tCons (tVar 2) (tCons (tVar 3) tNil))) σ2 H3 fun y H4 => ∃ acc, H4 D = some (.lst acc) ∧ acc.length < sizeLine ∧ Nx (upd H4 D (.lst (acc ++ [y]))) else Nx H3) := by
  obtain ⟨a, b, rfl⟩ := hσ
  refine lc_it w (fun i H => Same H0 H ∧ H D = some (.lst (List.replicate i (.bl true)))) ⟨same_upd hD, upd_same⟩ (fun i H _ h => hG H h.1) (fun i x H H' hi h y => ?_) fun H h => hq H h.1 h.2
  obtain ⟨s1, h1⟩ := h
  obtain ⟨T, v, u, rfl, nT, rfl, ev, eu⟩ := y
  obtain ⟨d, ed, dv⟩ := DpAll.get hx ev
  obtain ⟨d', ed', du⟩ := DpAll.get hy eu
  have e1 : d' = d := Option.some.inj (ed'.symm.trans ed)
  subst e1
  have s2 : Same H0 (upd H T (.tup [v, u])) := s1.trans (same_upd nT)
  refine ⟨T, [v, u], rfl, .inl (.inl upd_same), rfl, v, [u], rfl, u, [], rfl, rfl, rfl, ?_⟩
  cases n with
  | zero => omega
  | succ n =>
    refine ⟨_, rfl, _, rfl, v, u, d', rfl, Dp.same s2 _ _ dv, Dp.same s2 _ _ du, ?_, smallAll_get hsm ed, fun H2 s3 => ?_⟩
    · have := depthAll_get ed
      omega
    · have hD2 : H2 D = some (.lst (List.replicate i (.bl true))) := s3 _ _ (same_upd nT _ _ h1)
      refine ⟨_, hD2, ?_, fun c o hc => ?_, ?_⟩
      · rw [List.length_replicate]; exact szl (by omega)
      · rw [upd_ne (ne_of_none hc hD)]
        exact s3 _ _ (s2 _ _ hc)
      · rw [upd_same, List.replicate_succ']
theorem hu65 {k : Nat} {A : Around} (hr : Room k A) : A.units + 65 < cLine := by
  have := hr.un
  omega
theorem hu64 {k : Nat} {A : Around} (hr : Room k A) : A.units + 64 < cLine := by
  have := hr.un
  omega
/-- data that the rules may compare -/
def fine (d : PyData) : Bool := small d && SeqAt.shaped d
theorem fine_small {d : PyData} (h : fine d = true) : small d = true := (Bool.and_eq_true_iff.mp h).1
theorem fine_shaped {d : PyData} (h : fine d = true) : SeqAt.shaped d = true := (Bool.and_eq_true_iff.mp h).2
/-- the signs of a text, each asked: is it one of z's -/
theorem str_all {x : Str} {H0 : Hp} {D : Addr} {Qd : Hp → Prop} {σ : L2.St} {vs : List Nat} {j : Nat} {te : TE} (hD : H0 D = none) (hl : x.length ≤ 5000) (f : Nat → Bool) (hw : ∀ v, wipe ((wipe σ vs).set j (some v)) vs = wipe σ vs)
    (he : ∀ (c : Nat) (H : Hp) (Q : VK), Q (.bl (f c)) H → te ((wipe σ vs).set j (some (.str ⟨#[c]⟩))) H Q)
    (hq : ∀ H', Same H0 H' → H' D = some (.lst ((x.cps.toList.map f).map V.bl)) → Qd H') :
    ∃ W : Nat → Nat → Hp → Prop, (∃ m, W 0 m (upd H0 D (.lst []))) ∧ ∀ i m H, W i m H →
      ((Its x).stop i H ∧ Qd H) ∨ ((Its x).go i H ∧ ∃ Nx : Hp → Prop, (∀ H', Nx H' → ∃ m', m' < m ∧ W (i + 1) m' H') ∧ ∀ v H', (Its x).yld i H v H' → (gName j) v (wipe σ vs) H' fun σ2 H2 => wipe σ2 vs = wipe σ vs ∧ tYes σ2 H2 fun b H3 =>
        if b = true then te σ2 H3 fun y H4 => ∃ acc, H4 D = some (.lst acc) ∧ acc.length < sizeLine ∧ Nx (upd H4 D (.lst (acc ++ [y]))) else Nx H3) := by
  have hlen : x.length = x.cps.toList.length := by simp [Str.length]
  refine lc_it walk_str (fun i H => Same H0 H ∧ H D = some (.lst (((x.cps.toList.take i).map f).map V.bl))) ⟨same_upd hD, upd_same⟩ (fun _ _ _ _ => trivial) (fun i v H H' hi h y => ?_) fun H h => hq H h.1 ?_
  · obtain ⟨s1, h1⟩ := h
    obtain ⟨rfl, c, ec, rfl⟩ := y
    refine ⟨hw _, ?_⟩
    refine he c H' _ ⟨_, h1, ?_, fun b o hb => ?_, ?_⟩
    · rw [List.length_map, List.length_map]
      exact szl (Nat.lt_of_le_of_lt (List.length_take_le' _ _) (by omega))
    · rw [upd_ne (ne_of_none hb hD)]
      exact s1 _ _ hb
    · rw [upd_same, List.take_add_one, show x.cps.toList[i]? = some c by rw [Array.getElem?_toList]; exact ec]
      simp
  · have h2 := h.2
    rw [List.take_of_length_le (by simp)] at h2
    exact h2
/-- what stands in the written part stands at every heap -/
theorem SqT.static {K : PySem.W.Frag} {a : Addr} {xs : List V} (h : SqT K (fun _ => none) a xs) (H : Hp) : SqT K H a xs := by
  rcases h with (h | ⟨o, h⟩) | h
  · cases h
  · cases h
  · exact .inr h
theorem SqL.static {K : PySem.W.Frag} {a : Addr} {xs : List V} (h : SqL K (fun _ => none) a xs) (H : Hp) : SqL K H a xs := by
  rcases h with (h | ⟨o, h⟩) | h
  · cases h
  · cases h
  · exact .inr h
/-- how a call with keywords binds, no defaults -/
theorem kb_mk {K : PySem.W.Frag} {x qual : Str} {st : Stmt} {f : Addr} {fd : FuncData} {ps ks : List Str} {n : Nat} {g : List Value → List Value → List Value} {gV : List V → List V → List V} (F : Fun K x qual st f fd)
    (h : ∀ (kV doc pm : Value) (an : Option Addr) (cdv ct : Value) (us ws : List Value), us.length = n → ws.length = ks.length → bindArgs (PySem.W.fnOf x qual (defArgs st) (defBody st) (defScope st) .none kV doc pm an cdv ct) ⟨us, ks.zip ws⟩ = pure (ps.zip (g us ws)))
    (hr : ∀ {vs : List V} {us : List Value} {zs : List V} {ws : List Value}, Vals vs us → Vals zs ws → Vals (gV vs zs) (g us ws)) : KBn K fd ps n ks g gV := by
  obtain ⟨_, _, kV, doc, pm, an, cdv, ct, _, e, _⟩ := F.ex
  subst e
  exact ⟨fun s us ws _ h1 h2 => .of_eq (h kV doc pm an cdv ct us ws h1 h2), hr⟩
/-- a tuple of the written part -/
theorem tup_k {K : PySem.W.Frag} {H : Hp} {a : Addr} {dd : Option Addr} {its : Array Value} {n : Nat} {sl : Array (Option Value)} {xs : List V} {ds : List PyData} (h : K.lookup a = some ⟨.type "tuple", dd, .seq its n, sl⟩) (hz : its.size ≤ sizeLine) (hv : Vals xs its.toList) (hd : DpAll K H xs ds) :
    Dp K H (.ref a) (.tuple ds) := .tup (.inr ⟨_, _, _, h, rfl, rfl, hz, hv⟩) hd
end My

set_option Elab.async false
set_option linter.all false
set_option maxRecDepth 100000
/-! What an expression that changes nothing is worth, as data away from p (DV, DA): by its parts. -/
namespace My
open PySem PySem.Spec PyProof.Rows L2
def spD (K : PySem.W.Frag) (f : PyData → Bool) : Sp := fun vs H Q _ => ∃ (v : V) (d : PyData), vs = [v] ∧ Dp K H v d ∧ fine d = true ∧ ∀ H', Same H H' → Q (.bl (f d)) H'
/-- te gives a value of the data d, at any heap that keeps H -/
def DV (K : PySem.W.Frag) (p : Addr) (te : TE) (σ : L2.St) (H : Hp) (d : PyData) : Prop := ∀ H1, Same H H1 → ∀ Q : VK, (∀ v H2, Same H1 H2 → Dd K p H2 v d → Q v H2) → te σ H1 Q
def DA (K : PySem.W.Frag) (p : Addr) (ta : TA) (σ : L2.St) (H : Hp) (ds : List PyData) : Prop := ∀ H1, Same H H1 → ∀ Q : List V → Hp → Prop, (∀ vs H2, Same H1 H2 → DdAll K p H2 vs ds → Q vs H2) → ta σ H1 Q
section
variable {K : PySem.W.Frag} {p : Addr} {σ : L2.St} {H H' : Hp} {ta tb te tc : TE} {tr tk : TA} {d e : PyData} {ds : List PyData} {v : V}
theorem DV.mono (s : Same H H') (h : DV K p te σ H d) : DV K p te σ H' d := fun H1 a Q q => h H1 (s.trans a) Q q
theorem DdAll.length : ∀ {ds : List PyData} {vs : List V}, DdAll K p H vs ds → vs.length = ds.length
  | [], _, h => by cases h; rfl
  | d :: ds, _, h => by
    cases h with
    | cons a b => exact congrArg Nat.succ (DdAll.length b)
theorem DdAll.mem : ∀ {ds : List PyData} {vs : List V} {v : V}, DdAll K p H vs ds → v ∈ vs → ∃ d, d ∈ ds ∧ Dd K p H v d
  | [], _, v, h, m => by cases h; cases m
  | d :: ds, _, v, h, m => by
    cases h with
    | cons a b =>
      rcases List.mem_cons.mp m with rfl | m
      · exact ⟨d, List.mem_cons_self .., a⟩
      · obtain ⟨d', m', h'⟩ := DdAll.mem b m
        exact ⟨d', List.mem_cons_of_mem _ m', h'⟩
theorem DdAll.take : ∀ (n : Nat) {ds : List PyData} {vs : List V}, DdAll K p H vs ds → DdAll K p H (vs.take n) (ds.take n)
  | 0, _, _, _ => .nil
  | n + 1, [], _, h => by cases h; exact .nil
  | n + 1, d :: ds, _, h => by
    cases h with
    | cons a b => exact .cons a (DdAll.take n b)
theorem DdAll.app : ∀ {ds es : List PyData} {vs ws : List V}, DdAll K p H vs ds → DdAll K p H ws es → DdAll K p H (vs ++ ws) (ds ++ es)
  | [], _, _, _, h, g => by cases h; exact g
  | d :: ds, _, _, _, h, g => by
    cases h with
    | cons a b => exact .cons a (DdAll.app b g)
theorem dv_int {i : Int} : DV K p (tC (.int i)) σ H (.int i) := fun H1 _ Q q => q _ _ (Same.refl _) (.int i)
theorem dv_bl {b : Bool} : DV K p (tC (.bl b)) σ H (.bool b) := fun H1 _ Q q => q _ _ (Same.refl _) (.bl b)
theorem dv_str {x : Str} : DV K p (tC (.str x)) σ H (.str x) := fun H1 _ Q q => q _ _ (Same.refl _) (.str x)
theorem dv_non : DV K p (tC .non) σ H .none := fun H1 _ Q q => q _ _ (Same.refl _) .non
theorem dv_var {i : Nat} (h : σ[i]? = some (some v)) (hd : Dd K p H v d) : DV K p (tVar i) σ H d := fun H1 s Q q => ⟨v, h, q _ _ (Same.refl _) (Dd.ext (Ext.of s) _ _ hd)⟩
theorem dv_vi {i : Nat} {j : Int} (h : σ[i]? = some (some (.int j))) : DV K p (tVar i) σ H (.int j) := dv_var h (.int j)
theorem dv_vs {i : Nat} {j : Str} (h : σ[i]? = some (some (.str j))) : DV K p (tVar i) σ H (.str j) := dv_var h (.str j)
theorem da_nil : DA K p tNil σ H [] := fun H1 _ Q q => q _ _ (Same.refl _) .nil
theorem da_cons (h : DV K p ta σ H d) (hr : DA K p tr σ H ds) : DA K p (tCons ta tr) σ H (d :: ds) := fun H1 s Q q =>
  h H1 s _ fun v H2 s2 hv => hr H2 (s.trans s2) _ fun vs H3 s3 hs => q _ _ (s2.trans s3) (.cons (Dd.ext (Ext.of s3) _ _ hv) hs)
theorem ne_fresh (hp : ∃ o, H p = some o) {H1 : Hp} (s : Same H H1) {a : Addr} (h : H1 a = none) : a ≠ p := by
  obtain ⟨o, e⟩ := hp
  exact (ne_of_none (s _ _ e) h).symm
theorem dv_tup (hp : ∃ o, H p = some o) (h : DA K p tr σ H ds) (hl : decide (ds.length ≤ 5000) = true) : DV K p (tTup tr) σ H (.tuple ds) := fun H1 s Q q =>
  h H1 s _ fun vs H2 s2 hs => ⟨by rw [DdAll.length hs]; exact sz (by have := of_decide_eq_true hl; omega), fun a na =>
    q _ _ (s2.trans (same_upd na)) (.tup (ne_fresh hp (s.trans s2) na) (tsq upd_same) (DdAll.ext (Ext.of (same_upd na)) _ _ hs))⟩
theorem dv_lst (hp : ∃ o, H p = some o) (h : DA K p tr σ H ds) (hl : decide (ds.length ≤ 5000) = true) : DV K p (tLst tr) σ H (.list ds) := fun H1 s Q q =>
  h H1 s _ fun vs H2 s2 hs => ⟨by rw [DdAll.length hs]; exact sz (by have := of_decide_eq_true hl; omega), fun a na =>
    q _ _ (s2.trans (same_upd na)) (.lst (ne_fresh hp (s.trans s2) na) (lsq upd_same) (DdAll.ext (Ext.of (same_upd na)) _ _ hs))⟩
theorem DdAll.one (h : DdAll K p H vs [d]) : ∃ v, vs = [v] ∧ Dd K p H v d := by
  cases h with
  | cons a b => cases b; exact ⟨_, rfl, a⟩
theorem dv_spD {f : PyData → Bool} {E : XK} (h : DA K p tr σ H [d]) (hf : fine d = true) : DV K p (tCall (spD K f) [] E tr) σ H (.bool (f d)) := fun H1 s Q q =>
  h H1 s _ fun vs H2 s2 hs => by
    obtain ⟨v, rfl, hv⟩ := DdAll.one hs
    exact ⟨v, d, rfl, Dd.dp _ _ hv, hf, fun H3 s3 => q _ _ (s2.trans s3) (.bl _)⟩
theorem dv_spDk {f : PyData → Bool} {E : XK} {gV : List V → List V → List V} (h : DA K p tk σ H [d]) (hg : ∀ v, gV [] [v] = [v]) (hf : fine d = true) : DV K p (tCallN 0 1 (spD K f) gV E tNil tk) σ H (.bool (f d)) := fun H1 s Q q =>
  h H1 s _ fun vs H2 s2 hs => by
    obtain ⟨v, rfl, hv⟩ := DdAll.one hs
    exact ⟨rfl, rfl, v, d, hg v, Dd.dp _ _ hv, hf, fun H3 s3 => q _ _ (s2.trans s3) (.bl _)⟩
theorem Dd.i {i : Int} (h : Dd K p H v (.int i)) : v = .int i := by cases h; rfl
theorem Dd.s {i : Str} (h : Dd K p H v (.str i)) : v = .str i := by cases h; rfl
theorem Dd.b {i : Bool} (h : Dd K p H v (.bool i)) : v = .bl i := by cases h; rfl
theorem Dd.n (h : Dd K p H v .none) : v = .non := by cases h; rfl
theorem dv_I0 {g : Int → Int → V} {i j : Int} (ha : DV K p ta σ H (.int i)) (hb : DV K p tb σ H (.int j)) (hg : ∀ H, Dd K p H (g i j) d) : DV K p (tOp (rI0 g) ta tb) σ H d := fun H1 s Q q =>
  ha H1 s _ fun x H2 s2 hx => hb H2 (s.trans s2) _ fun y H3 s3 hy => ⟨i, j, Dd.i hx, Dd.i hy, q _ _ (s2.trans s3) (hg _)⟩
theorem dv_add {i j : Int} (ha : DV K p ta σ H (.int i)) (hb : DV K p tb σ H (.int j)) : DV K p (tOp (rI0 fun i j => .int (i + j)) ta tb) σ H (.int (i + j)) := dv_I0 ha hb fun _ => .int _
theorem dv_sub {i j : Int} (ha : DV K p ta σ H (.int i)) (hb : DV K p tb σ H (.int j)) : DV K p (tOp (rI0 fun i j => .int (i - j)) ta tb) σ H (.int (i - j)) := dv_I0 ha hb fun _ => .int _
theorem dv_pow {i j : Int} (ha : DV K p ta σ H (.int i)) (hb : DV K p tb σ H (.int j)) (hc : decide (0 ≤ j ∧ j ≤ 1000000 ∧ i.natAbs < 2 ^ 64) = true) : DV K p (tOp (rI CPow fun i j => .int (i ^ j.toNat)) ta tb) σ H (.int (i ^ j.toNat)) := fun H1 s Q q =>
  ha H1 s _ fun x H2 s2 hx => hb H2 (s.trans s2) _ fun y H3 s3 hy => ⟨i, j, Dd.i hx, Dd.i hy, (of_decide_eq_true hc : 0 ≤ j ∧ j ≤ 1000000 ∧ i.natAbs < 2 ^ 64), q _ _ (s2.trans s3) (.int _)⟩
theorem dv_neg {i : Int} (ha : DV K p ta σ H (.int i)) : DV K p (tUn (rU fun i => .int (-i)) ta) σ H (.int (-i)) := fun H1 s Q q =>
  ha H1 s _ fun x H2 s2 hx => ⟨i, Dd.i hx, q _ _ s2 (.int _)⟩
theorem dv_chain {i j k : Int} (ha : DV K p ta σ H (.int i)) (hb : DV K p tb σ H (.int j)) (hc : DV K p tc σ H (.int k)) :
    DV K p (tChain (rI0 fun i j => .bl (decide (i ≤ j))) (rI0 fun i j => .bl (decide (i ≤ j))) ta tb tc) σ H (.bool (decide (i ≤ j) && decide (j ≤ k))) := fun H1 s Q q =>
  ha H1 s _ fun x H2 s2 hx => hb H2 (s.trans s2) _ fun y H3 s3 hy => ⟨i, j, Dd.i hx, Dd.i hy, _, rfl, ite2 (fun e => by
    rw [e, Bool.true_and] at q
    exact hc H3 ((s.trans s2).trans s3) _ fun z H4 s4 hz => ⟨j, k, Dd.i hy, Dd.i hz, q _ _ ((s2.trans s3).trans s4) (.bl _)⟩) fun e => by
    rw [Bool.eq_false_iff.mpr e, Bool.false_and] at q
    exact q _ _ (s2.trans s3) (.bl _)⟩
theorem dv_eqD (ha : DV K p ta σ H d) (hb : DV K p tb σ H e) (hd : fine d = true) (he : fine e = true) : DV K p (tOp (rEqD K) ta tb) σ H (.bool (PyData.eqv d e)) := fun H1 s Q q =>
  ha H1 s _ fun x H2 s2 hx => hb H2 (s.trans s2) _ fun y H3 s3 hy => ⟨d, e, Dd.dp _ _ (Dd.ext (Ext.of s3) _ _ hx), Dd.dp _ _ hy, fine_shaped hd, fine_shaped he, q _ _ (s2.trans s3) (.bl _)⟩
theorem dv_and {a b : Bool} (ha : DV K p ta σ H (.bool a)) (hb : a = true → DV K p tb σ H (.bool b)) : DV K p (tAndV ta tb) σ H (.bool (a && b)) := fun H1 s Q q =>
  ha H1 s _ fun x H2 s2 hx => ⟨a, Dd.b hx, by
    cases a with
    | true => exact iteT (hb rfl H2 (s.trans s2) _ fun z H3 s3 hz => q _ _ (s2.trans s3) hz)
    | false => exact iteF (q _ _ s2 (.bl _))⟩
theorem dv_is {d' : PyData} (h : DV K p te σ H d) (e : d = d') : DV K p te σ H d' := e ▸ h
/-- the items of a list or a tuple by a written slice's end -/
theorem dv_slT {n : Nat} (hp : ∃ o, H p = some o) (h : DV K p ta σ H (.tuple ds)) (hn : n < ds.length) (hz : ds.length ≤ 5000) : DV K p (tSl (rSlT K) ta tNoPart (tPart (tC (.int (n : Int))))) σ H (.tuple (ds.take n)) := fun H1 s Q q =>
  h H1 s _ fun x H2 s2 hx => ⟨(n : Int), rfl, by
    cases hx with
    | @tup a xs _ ne sx dx =>
      have lx := DdAll.length dx
      have e1 : HT.sIx xs.length xs.length (some (n : Int)) = n := by rw [HT.sIx_nat]; omega
      have e2 : cutV xs none (some (n : Int)) = xs.take n := by
        unfold cutV
        rw [HT.sIx_none, e1, Nat.sub_zero, List.drop_zero]
      refine ⟨a, xs, rfl, sx, fun z => ?_, fun b nb => ?_⟩
      · rw [e1] at z; omega
      · rw [e2]
        exact q _ _ (s2.trans (same_upd nb)) (.tup (ne_fresh hp (s.trans s2) nb) (tsq upd_same) (DdAll.ext (Ext.of (same_upd nb)) _ _ (DdAll.take n dx)))⟩
/-- list(t) of a tuple -/
theorem dv_listT (hp : ∃ o, H p = some o) (h : DV K p ta σ H (.tuple ds)) : DV K p (tCB (fun xs H Q => ∃ p ys, xs = [.ref p] ∧ (SqL K H p ys ∨ SqT K H p ys) ∧ ∀ l, H l = none → Q (.ref l) (upd H l (.lst ys))) (tCons ta tNil)) σ H (.list ds) := fun H1 s Q q =>
  h H1 s _ fun x H2 s2 hx => by
    cases hx with
    | @tup a xs _ ne sx dx =>
      exact ⟨a, xs, rfl, .inr sx, fun b nb => q _ _ (s2.trans (same_upd nb)) (.lst (ne_fresh hp (s.trans s2) nb) (lsq upd_same) (DdAll.ext (Ext.of (same_upd nb)) _ _ dx))⟩
/-- two tuples, one behind the other -/
theorem dv_catT {es : List PyData} (hp : ∃ o, H p = some o) (ha : DV K p ta σ H (.tuple ds)) (hb : DV K p tb σ H (.tuple es)) (h1 : ds ≠ []) (h2 : es ≠ []) (hz : ds.length + es.length ≤ 5000) : DV K p (tOp (rCatT K) ta tb) σ H (.tuple (ds ++ es)) := fun H1 s Q q =>
  ha H1 s _ fun x H2 s2 hx => hb H2 (s.trans s2) _ fun y H3 s3 hy => by
    have hx' := Dd.ext (Ext.of s3) _ _ hx
    cases hx' with
    | @tup a xs _ ne sx dx =>
      cases hy with
      | @tup b ys _ ne' sy dy =>
        have lx := DdAll.length dx
        have ly := DdAll.length dy
        refine ⟨a, b, xs, ys, rfl, rfl, sx, sy, fun z => h1 ?_, by rw [lx, ly]; exact sz (by omega), fun z => absurd ?_ h2, fun _ c nc => ?_⟩
        · exact List.eq_nil_of_length_eq_zero (by rw [← lx, z]; rfl)
        · exact List.eq_nil_of_length_eq_zero (by rw [← ly, z]; rfl)
        · exact q _ _ ((s2.trans s3).trans (same_upd nc)) (.tup (ne_fresh hp ((s.trans s2).trans s3) nc) (tsq upd_same) (DdAll.ext (Ext.of (same_upd nc)) _ _ (DdAll.app dx dy)))
/-- return same(found, due); if not same(found, due): return False -/
theorem same_dv {E : XK} {n : Nat} {Q : VK} (ha : DV K p ta σ H d) (hb : DV K p tb σ H d) (hn : d.depth ≤ n) (hs : small d = true) (k : ∀ H', Same H H' → Q (.bl true) H') : tCall (spSameLt K (n + 1)) [] E (tCons ta (tCons tb tNil)) σ H Q :=
  ha H (Same.refl _) _ fun x H2 s2 hx => hb H2 s2 _ fun y H3 s3 hy => ⟨x, y, d, rfl, Dd.dp _ _ (Dd.ext (Ext.of s3) _ _ hx), Dd.dp _ _ hy, hn, hs, fun H4 s4 => k _ ((s2.trans s3).trans s4)⟩
theorem if_same {E : XK} {n : Nat} {D : Ends} {tt tz : TS} (ha : DV K p ta σ H d) (hb : DV K p tb σ H d) (hn : d.depth ≤ n) (hs : small d = true) (k : ∀ H', Same H H' → tz D σ H') :
    tSeq (tIfS (tNot (tB (tCall (spSameLt K (n + 1)) [] E (tCons ta (tCons tb tNil))))) tt tNext) tz D σ H :=
  same_dv ha hb hn hs fun H' s => ⟨true, rfl, iteF (k H' s)⟩
theorem if_same1 {E : XK} {n : Nat} {D : Ends} {tt : TS} (ha : DV K p ta σ H d) (hb : DV K p tb σ H d) (hn : d.depth ≤ n) (hs : small d = true) (k : ∀ H', Same H H' → D.nx σ H') :
    tIfS (tNot (tB (tCall (spSameLt K (n + 1)) [] E (tCons ta (tCons tb tNil))))) tt tNext D σ H :=
  same_dv ha hb hn hs fun H' s => ⟨true, rfl, iteF (k H' s)⟩
/-- an assignment of such a worth -/
theorem set_dv {i : Nat} {D : Ends} {tz : TS} (h : DV K p te σ H d) (k : ∀ v H', Same H H' → Dd K p H' v d → tz D (σ.set i (some v)) H') : tSeq (tAsg te (gName i)) tz D σ H := h H (Same.refl _) _ k
end
/-- a choice out of data -/
theorem of_data {K : PySem.W.Frag} {B : BagId} {q : Addr} {H : Hp} {Q : VK} {E : XK} {ds : List PyData} (hB : Bag B H) (h : Dd K B.p H (.ref q) (.list ds)) (h0 : 0 < ds.length) (h1 : ds.length ≤ 5000)
    (k : ∀ v d H', d ∈ ds → Dd K B.p H' v d → Bag B H' → Ext B.p H H' → Q v H') : spOf K [.ref B.p, .ref q] H Q E := by
  cases h with
  | @lst _ xs _ ne sx dx =>
    have lx := DdAll.length dx
    refine ⟨B, .ref q, rfl, hB, .inl ⟨q, xs, rfl, ne, .inl sx, by omega, by omega, fun v H' hm hB' ex => ?_⟩⟩
    obtain ⟨d, hd, hv⟩ := DdAll.mem dx hm
    exact k v d H' hd (Dd.ext ex _ _ hv) hB' ex
section
variable {K : PySem.W.Frag} {B : BagId} {σ : L2.St} {H : Hp} {te : TE} {ds : List PyData} {E : XK} {Q : VK} {i : Nat}
/-- _law_of(bag, [..]) -/
theorem of_dv (hv : σ[i]? = some (some (.ref B.p))) (hB : Bag B H) (h : DV K B.p te σ H (.list ds)) (h0 : 0 < ds.length) (h1 : ds.length ≤ 5000)
    (k : ∀ v d H', d ∈ ds → Dd K B.p H' v d → Bag B H' → Ext B.p H H' → Q v H') : tCall (spOf K) [] E (tCons (tVar i) (tCons te tNil)) σ H Q :=
  ⟨_, hv, h H (Same.refl _) _ fun v H2 s2 hd => by
    cases hd with
    | lst ne sx dx => exact of_data (E := E) (Bag.ext hB s2) (.lst ne sx dx) h0 h1 fun v d H' hm hd' hB' ex => k v d H' hm hd' hB' ((Ext.of s2).trans ex)⟩
/-- _law_draw(bag, n) -/
theorem draw_dv {n : Int} (hv : σ[i]? = some (some (.ref B.p))) (hB : Bag B H) (h : DV K B.p te σ H (.int n)) (n0 : 0 < n) (n1 : n < 1073741824)
    (k : ∀ r H', 0 ≤ r → r < n → Bag B H' → Ext B.p H H' → Q (.int r) H') : tCall spDraw [] E (tCons (tVar i) (tCons te tNil)) σ H Q :=
  ⟨_, hv, h H (Same.refl _) _ fun v H2 s2 hd => ⟨B, n, by rw [Dd.i hd]; rfl, Bag.ext hB s2, n0, n1, fun r H' r0 r1 hB' ex => k r H' r0 r1 hB' ((Ext.of s2).trans ex)⟩⟩
end
/-- signs drawn out of a text, one for each turn of a range -/
theorem text_lc {B : BagId} {D : Addr} {H0 : Hp} {Qd : Hp → Prop} {σ : L2.St} {vs : List Nat} {j n : Nat} {lo : Int} {te : TE} {z : Str} (hB : Bag B H0) (hD : H0 D = none) (hn : n ≤ 5000) (hw : ∀ v, wipe ((wipe σ vs).set j (some v)) vs = wipe σ vs)
    (he : ∀ (x : V) (H : Hp) (Q : VK), Bag B H → (∀ (c : Nat) (H' : Hp), c ∈ z.cps.toList → Bag B H' → Ext B.p H H' → Q (.str ⟨#[c]⟩) H') → te ((wipe σ vs).set j (some x)) H Q)
    (hq : ∀ (cs : List Nat) (H' : Hp), cs.length = n → (∀ c ∈ cs, c ∈ z.cps.toList) → Bag B H' → Ext B.p H0 H' → H' D = some (.lst ((cs.map fun c => (⟨#[c]⟩ : Str)).map V.str)) → Qd H') :
    ∃ W : Nat → Nat → Hp → Prop, (∃ m, W 0 m (upd H0 D (.lst []))) ∧ ∀ i m H, W i m H →
      ((Itr lo n).stop i H ∧ Qd H) ∨ ((Itr lo n).go i H ∧ ∃ Nx : Hp → Prop, (∀ H', Nx H' → ∃ m', m' < m ∧ W (i + 1) m' H') ∧ ∀ v H', (Itr lo n).yld i H v H' → (gName j) v (wipe σ vs) H' fun σ2 H2 => wipe σ2 vs = wipe σ vs ∧ tYes σ2 H2 fun b H3 =>
        if b = true then te σ2 H3 fun y H4 => ∃ acc, H4 D = some (.lst acc) ∧ acc.length < sizeLine ∧ Nx (upd H4 D (.lst (acc ++ [y]))) else Nx H3) := by
  have nDp : D ≠ B.p := hB.ne hD
  have nDl : D ≠ B.l := hB.neL hD
  refine lc_it walk_range (fun i H => ∃ cs : List Nat, cs.length = i ∧ (∀ c ∈ cs, c ∈ z.cps.toList) ∧ Bag B H ∧ Ext B.p H0 H ∧ H D = some (.lst ((cs.map fun c => (⟨#[c]⟩ : Str)).map V.str)))
    ⟨[], rfl, fun c h => absurd h (by simp), Bag.ext hB (same_upd hD), Ext.of (same_upd hD), upd_same⟩ (fun _ _ _ _ => trivial) (fun i v H H' hi h y => ?_) fun H ⟨cs, h1, h2, h3, h4, h5⟩ => hq cs H h1 h2 h3 h4 h5
  obtain ⟨cs, h1, h2, h3, h4, h5⟩ := h
  obtain ⟨rfl, rfl⟩ := y
  refine ⟨hw _, he _ H' _ h3 fun c H2 hc hB2 ex => ⟨_, ex _ _ h5 nDp, ?_, cs ++ [c], by rw [List.length_append, h1]; rfl, fun c' h => ?_, ?_, fun b o hb nb => ?_, ?_⟩⟩
  · rw [List.length_map, List.length_map, h1]; exact szl (by omega)
  · rcases List.mem_append.mp h with h | h
    · exact h2 _ h
    · rw [List.mem_singleton.mp h]; exact hc
  · exact Bag.upd hB2 nDp nDl
  · rw [upd_ne (ne_of_none hb hD)]
    exact ex _ _ (h4 _ _ hb nb) nb
  · rw [upd_same, List.map_append, List.map_append]
    rfl
end My

set_option Elab.async false
set_option linter.all false
set_option maxRecDepth 100000
namespace My
open PySem PySem.Spec PyProof.Rows L2
def topS (i : Nat) : Stmt := PySem.Challenge.pw_tiedmoments_k03_whole_texts_of_steps.main.body.getD i (.Pass ⟨0, 0, 0, 0⟩)
abbrev s_is_word : Stmt := topS 7
abbrev N_is_word : List Str := ["value"]
abbrev P_is_word : List Str := ["value"]
abbrev s_is_number : Stmt := topS 8
abbrev N_is_number : List Str := ["value", "least", "most"]
abbrev P_is_number : List Str := ["value", "least", "most"]
abbrev s_is_step : Stmt := topS 9
abbrev N_is_step : List Str := ["value", "mark", "number", "deed"]
abbrev P_is_step : List Str := ["value"]
abbrev s_step_text : Stmt := topS 10
abbrev N_step_text : List Str := ["step", "text", "mark", "number", "deed", "kind", "sign"]
abbrev P_step_text : List Str := ["step"]
abbrev s_read_step : Stmt := topS 11
abbrev N_read_step : List Str := ["text", "step", "rest", "deed", "mark", "equals", "digits"]
abbrev P_read_step : List Str := ["text"]
abbrev s_read_number : Stmt := topS 12
abbrev N_read_number : List Str := ["text", "digits"]
abbrev P_read_number : List Str := ["text"]
abbrev s_consists_of : Stmt := topS 13
abbrev N_consists_of : List Str := ["text", "signs", "sign"]
abbrev P_consists_of : List Str := ["text", "signs"]
abbrev s_is_deed : Stmt := topS 14
abbrev N_is_deed : List Str := ["value", "kind", "sign"]
abbrev P_is_deed : List Str := ["value"]
abbrev s_split_deed : Stmt := topS 15
abbrev N_split_deed : List Str := ["text", "kind", "sign", "rest", "found", "message"]
abbrev P_split_deed : List Str := ["text"]
abbrev s_Lbag : Stmt := topS 17
abbrev N_Lbag : List Str := ["_law_script", "_law_mixed", "_law_cell"]
abbrev P_Lbag : List Str := ["_law_script"]
abbrev s_Ldraw : Stmt := topS 18
abbrev N_Ldraw : List Str := ["_law_bag_here", "_law_many", "_law_own", "_law_cell", "_law_digit"]
abbrev P_Ldraw : List Str := ["_law_bag_here", "_law_many"]
abbrev s_Lof : Stmt := topS 19
abbrev N_Lof : List Str := ["_law_bag_here", "_law_some"]
abbrev P_Lof : List Str := ["_law_bag_here", "_law_some"]
abbrev s_Lsame : Stmt := topS 20
abbrev N_Lsame : List Str := ["_law_found", "_law_due", "_law_one", "_law_two"]
abbrev P_Lsame : List Str := ["_law_found", "_law_due"]
abbrev s_Lstep_text : Stmt := topS 21
abbrev N_Lstep_text : List Str := ["_law_step_y", "_law_middle"]
abbrev P_Lstep_text : List Str := ["_law_step_y"]
abbrev s_law : Stmt := topS 22
abbrev N_law : List Str := ["_law_script", "_law_bag_here", "_law_turn", "_law_deed", "_law_step_z", "_law_due", "_law_wrong"]
abbrev P_law : List Str := ["_law_script"]
theorem sc_is_word : FnScope N_is_word P_is_word (defScope s_is_word) := ⟨rfl, rfl, rfl, by decide +kernel, rfl, by decide +kernel, by decide +kernel⟩
theorem sc_is_number : FnScope N_is_number P_is_number (defScope s_is_number) := ⟨rfl, rfl, rfl, by decide +kernel, rfl, by decide +kernel, by decide +kernel⟩
theorem sc_is_step : FnScope N_is_step P_is_step (defScope s_is_step) := ⟨rfl, rfl, rfl, by decide +kernel, rfl, by decide +kernel, by decide +kernel⟩
theorem sc_step_text : FnScope N_step_text P_step_text (defScope s_step_text) := ⟨rfl, rfl, rfl, by decide +kernel, rfl, by decide +kernel, by decide +kernel⟩
theorem sc_read_step : FnScope N_read_step P_read_step (defScope s_read_step) := ⟨rfl, rfl, rfl, by decide +kernel, rfl, by decide +kernel, by decide +kernel⟩
theorem sc_read_number : FnScope N_read_number P_read_number (defScope s_read_number) := ⟨rfl, rfl, rfl, by decide +kernel, rfl, by decide +kernel, by decide +kernel⟩
theorem sc_consists_of : FnScope N_consists_of P_consists_of (defScope s_consists_of) := ⟨rfl, rfl, rfl, by decide +kernel, rfl, by decide +kernel, by decide +kernel⟩
theorem sc_is_deed : FnScope N_is_deed P_is_deed (defScope s_is_deed) := ⟨rfl, rfl, rfl, by decide +kernel, rfl, by decide +kernel, by decide +kernel⟩
theorem sc_split_deed : FnScope N_split_deed P_split_deed (defScope s_split_deed) := ⟨rfl, rfl, rfl, by decide +kernel, rfl, by decide +kernel, by decide +kernel⟩
theorem sc_Lbag : FnScope N_Lbag P_Lbag (defScope s_Lbag) := ⟨rfl, rfl, rfl, by decide +kernel, rfl, by decide +kernel, by decide +kernel⟩
theorem sc_Ldraw : FnScope N_Ldraw P_Ldraw (defScope s_Ldraw) := ⟨rfl, rfl, rfl, by decide +kernel, rfl, by decide +kernel, by decide +kernel⟩
theorem sc_Lof : FnScope N_Lof P_Lof (defScope s_Lof) := ⟨rfl, rfl, rfl, by decide +kernel, rfl, by decide +kernel, by decide +kernel⟩
theorem sc_Lsame : FnScope N_Lsame P_Lsame (defScope s_Lsame) := ⟨rfl, rfl, rfl, by decide +kernel, rfl, by decide +kernel, by decide +kernel⟩
theorem sc_Lstep_text : FnScope N_Lstep_text P_Lstep_text (defScope s_Lstep_text) := ⟨rfl, rfl, rfl, by decide +kernel, rfl, by decide +kernel, by decide +kernel⟩
theorem sc_law : FnScope N_law P_law (defScope s_law) := ⟨rfl, rfl, rfl, by decide +kernel, rfl, by decide +kernel, by decide +kernel⟩
structure Top where
  f_is_word : Addr
  d_is_word : FuncData
  f_is_number : Addr
  d_is_number : FuncData
  f_is_step : Addr
  d_is_step : FuncData
  f_step_text : Addr
  d_step_text : FuncData
  f_read_step : Addr
  d_read_step : FuncData
  f_read_number : Addr
  d_read_number : FuncData
  f_consists_of : Addr
  d_consists_of : FuncData
  f_is_deed : Addr
  d_is_deed : FuncData
  f_split_deed : Addr
  d_split_deed : FuncData
  f_Lbag : Addr
  d_Lbag : FuncData
  f_Ldraw : Addr
  d_Ldraw : FuncData
  f_Lof : Addr
  d_Lof : FuncData
  f_Lsame : Addr
  d_Lsame : FuncData
  f_Lstep_text : Addr
  d_Lstep_text : FuncData
  f_law : Addr
  d_law : FuncData
  q_DEEDS : Addr
  u_DEEDS : Value
  u_DIGITS : Value
  u_LEAST : Value
  u_LETTERS : Value
  u_MOST : Value
  u_WORD_LENGTH : Value
structure TopOk (K : PySem.W.Frag) (mg : Str → Option Value) (A : Top) : Prop where
  F_is_word : Fun K "is_word" "is_word" s_is_word A.f_is_word A.d_is_word
  g_is_word : mg "is_word" = some (.ref A.f_is_word)
  a_is_word : Binds K A.d_is_word P_is_word []
  F_is_number : Fun K "is_number" "is_number" s_is_number A.f_is_number A.d_is_number
  g_is_number : mg "is_number" = some (.ref A.f_is_number)
  a_is_number : Binds K A.d_is_number P_is_number []
  F_is_step : Fun K "is_step" "is_step" s_is_step A.f_is_step A.d_is_step
  g_is_step : mg "is_step" = some (.ref A.f_is_step)
  a_is_step : Binds K A.d_is_step P_is_step []
  F_step_text : Fun K "step_text" "step_text" s_step_text A.f_step_text A.d_step_text
  g_step_text : mg "step_text" = some (.ref A.f_step_text)
  a_step_text : Binds K A.d_step_text P_step_text []
  F_read_step : Fun K "read_step" "read_step" s_read_step A.f_read_step A.d_read_step
  g_read_step : mg "read_step" = some (.ref A.f_read_step)
  a_read_step : Binds K A.d_read_step P_read_step []
  F_read_number : Fun K "read_number" "read_number" s_read_number A.f_read_number A.d_read_number
  g_read_number : mg "read_number" = some (.ref A.f_read_number)
  a_read_number : Binds K A.d_read_number P_read_number []
  F_consists_of : Fun K "_consists_of" "_consists_of" s_consists_of A.f_consists_of A.d_consists_of
  g_consists_of : mg "_consists_of" = some (.ref A.f_consists_of)
  a_consists_of : Binds K A.d_consists_of P_consists_of []
  F_is_deed : Fun K "_is_deed" "_is_deed" s_is_deed A.f_is_deed A.d_is_deed
  g_is_deed : mg "_is_deed" = some (.ref A.f_is_deed)
  a_is_deed : Binds K A.d_is_deed P_is_deed []
  F_split_deed : Fun K "_split_deed" "_split_deed" s_split_deed A.f_split_deed A.d_split_deed
  g_split_deed : mg "_split_deed" = some (.ref A.f_split_deed)
  a_split_deed : Binds K A.d_split_deed P_split_deed []
  F_Lbag : Fun K "_law_bag" "_law_bag" s_Lbag A.f_Lbag A.d_Lbag
  g_Lbag : mg "_law_bag" = some (.ref A.f_Lbag)
  a_Lbag : Binds K A.d_Lbag P_Lbag []
  F_Ldraw : Fun K "_law_draw" "_law_draw" s_Ldraw A.f_Ldraw A.d_Ldraw
  g_Ldraw : mg "_law_draw" = some (.ref A.f_Ldraw)
  a_Ldraw : Binds K A.d_Ldraw P_Ldraw []
  F_Lof : Fun K "_law_of" "_law_of" s_Lof A.f_Lof A.d_Lof
  g_Lof : mg "_law_of" = some (.ref A.f_Lof)
  a_Lof : Binds K A.d_Lof P_Lof []
  F_Lsame : Fun K "_law_same" "_law_same" s_Lsame A.f_Lsame A.d_Lsame
  g_Lsame : mg "_law_same" = some (.ref A.f_Lsame)
  a_Lsame : Binds K A.d_Lsame P_Lsame []
  F_Lstep_text : Fun K "_law_step_text" "_law_step_text" s_Lstep_text A.f_Lstep_text A.d_Lstep_text
  g_Lstep_text : mg "_law_step_text" = some (.ref A.f_Lstep_text)
  a_Lstep_text : Binds K A.d_Lstep_text P_Lstep_text []
  F_law : Fun K "law" "law" s_law A.f_law A.d_law
  g_law : mg "law" = some (.ref A.f_law)
  a_law : Binds K A.d_law P_law []
  c_DEEDS : mg "DEEDS" = some A.u_DEEDS
  r_DEEDS : RelV (.ref A.q_DEEDS) A.u_DEEDS
  t_DEEDS : ∀ H : Hp, Dp K H (.ref A.q_DEEDS) (.tuple [.tuple [.str "send", .str "!"], .tuple [.str "receive", .str "?"]])
  c_DIGITS : mg "DIGITS" = some A.u_DIGITS
  r_DIGITS : RelV (.str "0123456789") A.u_DIGITS
  c_LEAST : mg "LEAST" = some A.u_LEAST
  r_LEAST : RelV (.int (-99)) A.u_LEAST
  c_LETTERS : mg "LETTERS" = some A.u_LETTERS
  r_LETTERS : RelV (.str "abcdefghijklmnopqrstuvwxyz") A.u_LETTERS
  c_MOST : mg "MOST" = some A.u_MOST
  r_MOST : RelV (.int 99) A.u_MOST
  c_WORD_LENGTH : mg "WORD_LENGTH" = some A.u_WORD_LENGTH
  r_WORD_LENGTH : RelV (.int 4) A.u_WORD_LENGTH
  b_all : mg "all" = none
  b_bool : mg "bool" = none
  b_int : mg "int" = none
  b_isinstance : mg "isinstance" = none
  b_len : mg "len" = none
  b_list : mg "list" = none
  b_range : mg "range" = none
  b_str : mg "str" = none
  b_tuple : mg "tuple" = none
  b_zip : mg "zip" = none
  kb_read_step_0_text : KBn K A.d_read_step P_read_step 0 ["text"] (fun us ws => (ws.drop 0).take 1) (fun us ws => (ws.drop 0).take 1)
  kb_step_text_0_step : KBn K A.d_step_text P_step_text 0 ["step"] (fun us ws => (ws.drop 0).take 1) (fun us ws => (ws.drop 0).take 1)
end My

set_option Elab.async false
set_option linter.all false
set_option maxRecDepth 100000
local macro_rules | `(tactic| walk_at "st") => `(tactic| repeat (first | refine ⟨_, _, rfl, rfl, rfl, ?_⟩ | refine ⟨_, _, rfl, rfl, ?_⟩ | refine ⟨_, rfl, ?_⟩))
namespace My
open PySem PySem.Spec PyProof.Rows L2
section
variable {P : Program} {w : World} {K : PySem.W.Frag} {mg : Str → Option Value} {base : Heap} {A : Top}
theorem cut63 {xs : List V} (h : xs.length ≤ 63) : cutV xs none (some 63) = xs := by
  unfold cutV
  rw [HT.sIx_none, show HT.sIx xs.length xs.length (some 63) = min 63 xs.length from HT.sIx_nat xs.length xs.length 63, Nat.min_eq_right h]
  show (xs.drop 0).take (xs.length - 0) = xs
  rw [List.drop_zero, Nat.sub_zero, List.take_length]
theorem ok_Lbag (T : TopOk K mg A) : FnOk P w K mg base CX0 1 A.f_Lbag A.d_Lbag P_Lbag (spBag K) := by
  refine T.F_Lbag.ok sc_Lbag (fun vs H Q E h => ?_) (fun cdv Ar outer s H vs Q E hr h => ?_)
  · obtain ⟨a, ns, rfl, _⟩ := h
    rfl
  · obtain ⟨a, ns, rfl, hS, hl, q⟩ := h
    have hl' : (ns.map V.int).length ≤ 63 := by rw [List.length_map]; exact hl
    refine ⟨_, (pss_cons (ps_set (i := 1) sc_Lbag.nd rfl (by first | exact Or.inl rfl | exact Or.inr rfl) pe_int)
      (pss_cons (ps_for PassesOwn.never rfl (pi_list (pe_slice sl_list (pv 0) po_none (po_some pe_int))) (pg_name (i := 2) sc_Lbag.nd rfl (by first | exact Or.inl rfl | exact Or.inr rfl))
      (pss_one (ps_set (i := 1) sc_Lbag.nd rfl (by first | exact Or.inl rfl | exact Or.inr rfl) (pe_op op_modC (pe_callTy call_intI (by rfl) T.b_int (by decide +kernel) (pa_cons (pe_op op_add (pe_op op_add (pe_op op_mulC (pv 1) pe_int) (pe_op op_modC (pe_callTy call_intI (by rfl) T.b_int (by decide +kernel) (pa_cons (pv 2) pa_nil)) pe_int)) pe_int) pa_nil)) pe_int))))
      (pss_one (ps_ret (pe_lst (pa_cons (pe_callTy call_listL (by rfl) T.b_list (by decide +kernel) (pa_cons (pe_slice sl_list (pv 0) po_none (po_some pe_int)) pa_nil)) (pa_cons pe_int (pa_cons pe_int (pa_cons (pv 1) (pa_cons pe_int pa_nil)))))))))), ?_⟩
    refine ⟨_, rfl, 63, rfl, a, _, rfl, hS, fun u nu => ?_⟩
    rw [cut63 hl']
    refine ⟨u, rfl, ⟨_, lsq upd_same⟩, for_list (K := K) (a := u) (xs := ns.map V.int)
      (fun i σ H2 => ∃ (m : Int) (c : Option V), σ = [some (.ref a), some (.int m), c] ∧ 0 ≤ m ∧ m < 2147483549 ∧ Same H H2 ∧ H2 u = some (.lst (ns.map V.int)))
      ⟨12001, none, rfl, by decide, by decide, same_upd nu, upd_same⟩ (fun i σ H2 _ ⟨_, _, _, _, _, _, h2⟩ => lsq h2) ?_ ?_⟩
    · rintro i y σ H2 hi ⟨m, c, rfl, m0, m1, s2, h2⟩
      obtain ⟨z, rfl⟩ : ∃ z, y = V.int z := by
        obtain ⟨z, _, e⟩ := List.mem_map.mp (List.mem_of_getElem? hi)
        exact ⟨z, e.symm⟩
      walk_at "st"
      exact ⟨_, _, rfl, Int.emod_nonneg _ (by decide), Int.emod_lt_of_pos _ (by decide), s2, h2⟩
    · rintro σ H2 ⟨m, c, rfl, m0, m1, s2, h2⟩
      refine ⟨_, rfl, 63, rfl, a, _, rfl, SqL.same s2 hS, fun v nv => ?_⟩
      rw [cut63 hl']
      refine ⟨v, _, rfl, lsq upd_same, fun x nx => ⟨_, rfl, by show 5 ≤ sizeLine; decide, fun p np => ?_⟩⟩
      have s3 : Same H2 (upd H2 v (.lst (ns.map V.int))) := same_upd nv
      have s4 := s3.trans (same_upd (o := .lst (ns.map V.int)) nx)
      have s5 := s4.trans (same_upd (o := .lst [.ref x, .int 0, .int 0, .int m, .int 0]) np)
      refine q ⟨p, x, ns⟩ _ (Same.free (s2.trans s4) np) ⟨0, 0, m, 0, upd_same, ?_, ?_, by decide, by omega, hl, by decide, m0, m1⟩ (s2.trans s5)
      · rw [upd_ne (ne_of_none upd_same np)]
        exact upd_same
      · exact ne_of_none upd_same np
theorem ok_Ldraw (T : TopOk K mg A) : FnOk P w K mg base CX0 1 A.f_Ldraw A.d_Ldraw P_Ldraw spDraw := by
  refine T.F_Ldraw.ok sc_Ldraw (fun vs H Q E h => ?_) (fun cdv Ar outer s H vs Q E hr h => ?_)
  · obtain ⟨p, n, rfl, _⟩ := h
    rfl
  · obtain ⟨⟨p, l, ns⟩, n, rfl, ⟨i, g, m, c, hp, hl, nlp, i0, i1, n63, g0, m0, m1⟩, n0, n1, q⟩ := h
    dsimp only at hp hl nlp i1 n63 q ⊢
    refine ⟨_, (pss_cons (ps_asg (pe_op op_add (pe_ix ix_bag (pv 0) pe_int (fun _ _ => rfl)) pe_int) (pg_sub (pv 0) pe_int set_list))
      (Evl.pss_cut (ps_if (PW.pt (pw_and (pt_cmpR op_eq (pe_ix ix_bag (pv 0) pe_int (fun _ _ => rfl)) pe_int (nomark _)) (pw_and1 (pt_cmpR op_lt (pe_ix ix_bag (pv 0) pe_int (fun _ _ => rfl)) (pe_callB call_lenL (by rfl) T.b_len (by decide +kernel) (pa_cons (pe_ix ix_bag (pv 0) pe_int (fun _ _ => rfl)) pa_nil)) (nomark _)))))
      (pss_cons (ps_set (i := 3) sc_Ldraw.nd rfl (by first | exact Or.inl rfl | exact Or.inr rfl) (pe_ix ix_bag (pe_ix ix_bag (pv 0) pe_int (fun _ _ => rfl)) (pe_ix ix_bag (pv 0) pe_int (fun _ _ => rfl)) (fun _ _ => rfl)))
      (pss_cons (ps_asg (pe_op op_add (pe_ix ix_bag (pv 0) pe_int (fun _ _ => rfl)) pe_int) (pg_sub (pv 0) pe_int set_list))
      (pss_one (ps_if (pt_cmpR op_ge (pv 3) (pe_op op_pow pe_int pe_int) (nomark _))
      (pss_one (ps_asg (pv 3) (pg_sub (pv 0) pe_int set_list)))
      (pss_one (ps_asg (pe_op op_modC (pe_callTy call_intI (by rfl) T.b_int (by decide +kernel) (pa_cons (pe_op op_add (pe_op op_add (pe_op op_mulC (pe_ix ix_bag (pv 0) pe_int (fun _ _ => rfl)) pe_int) (pe_op op_mulC (pe_op op_modC (pe_callTy call_intI (by rfl) T.b_int (by decide +kernel) (pa_cons (pv 3) pa_nil)) pe_int) pe_int)) pe_int) pa_nil)) pe_int) (pg_sub (pv 0) pe_int set_list)))))))
      pss_nil)
      (pss_cons (ps_if (pt_cmpR op_gt (pe_ix ix_bag (pv 0) pe_int (fun _ _ => rfl)) pe_int (nomark _))
      (pss_cons (ps_set (i := 4) sc_Ldraw.nd rfl (by first | exact Or.inl rfl | exact Or.inr rfl) (pe_op op_mod (pe_callTy call_intI (by rfl) T.b_int (by decide +kernel) (pa_cons (pe_ix ix_bag (pv 0) pe_int (fun _ _ => rfl)) pa_nil)) (pv 1)))
      (pss_cons (ps_asg (pe_op op_fdiv (pe_ix ix_bag (pv 0) pe_int (fun _ _ => rfl)) (pv 1)) (pg_sub (pv 0) pe_int set_list))
      (pss_one (ps_ret (pv 4)))))
      pss_nil)
      (pss_cons (ps_set (i := 2) sc_Ldraw.nd rfl (by first | exact Or.inl rfl | exact Or.inr rfl) (pe_callTy call_intI (by rfl) T.b_int (by decide +kernel) (pa_cons (pe_ix ix_bag (pv 0) pe_int (fun _ _ => rfl)) pa_nil)))
      (pss_cons (ps_asg (pe_op op_modC (pe_callTy call_intI (by rfl) T.b_int (by decide +kernel) (pa_cons (pe_op op_add (pe_op op_add (pe_op op_add (pe_op op_pow (pv 2) pe_int) (pe_op op_mulC (pv 2) pe_int)) (pe_op op_mulC (pe_ix ix_bag (pv 0) pe_int (fun _ _ => rfl)) pe_int)) pe_int) pa_nil)) pe_int) (pg_sub (pv 0) pe_int set_list))
      (pss_one (ps_ret (pe_op op_mod (pe_callTy call_intI (by rfl) T.b_int (by decide +kernel) (pa_cons (pe_op op_add (pe_op op_fdivC (pe_ix ix_bag (pv 0) pe_int (fun _ _ => rfl)) pe_int) (pe_op op_mulC (pe_op op_modC (pe_callTy call_intI (by rfl) T.b_int (by decide +kernel) (pa_cons (pe_ix ix_bag (pv 0) pe_int (fun _ _ => rfl)) pa_nil)) pe_int) pe_int)) pa_nil)) (pv 1))))))))), ?_⟩
    -- bag[4] = bag[4] + 1
    refine ⟨_, rfl, _, _, _, _, rfl, rfl, hp, rfl, _, _, rfl, rfl, _, rfl, p, _, 4, 4, rfl, rfl, hp, rfl, ?_⟩
    have hp1 : (upd H p (.lst [.ref l, .int i, .int g, .int m, .int (c + 1)])) p = some (.lst [.ref l, .int i, .int g, .int m, .int (c + 1)]) := upd_same
    have hl1 : (upd H p (.lst [.ref l, .int i, .int g, .int m, .int (c + 1)])) l = some (.lst (ns.map V.int)) := by rw [upd_ne nlp]; exact hl
    -- the mixing of the next cell
    refine ⟨fun σ' H' => ∃ (i g m c : Int) (x3 : Option V), σ' = [some (.ref p), some (.int n), none, x3, none] ∧ H' p = some (.lst [.ref l, .int i, .int g, .int m, .int c]) ∧ H' l = some (.lst (ns.map V.int)) ∧ 0 ≤ i ∧ i ≤ ns.length ∧ 0 ≤ g ∧ 0 ≤ m ∧ m < 2147483549 ∧ Ext p H H', ?_, ?_⟩
    · have ex1 : Ext p H (upd H p (.lst [.ref l, .int i, .int g, .int m, .int (c + 1)])) := fun b o hb nb => by rw [upd_ne nb]; exact hb
      refine ⟨_, rfl, _, _, _, _, rfl, rfl, hp1, rfl, rfl, _, rfl, ite2 (fun e => ?_) (fun e => ?_)⟩
      · have e0 : g = 0 := V.int.inj (of_decide_eq_true e)
        subst e0
        refine ⟨_, rfl, _, _, _, _, rfl, rfl, hp1, rfl, _, rfl, _, _, _, _, rfl, rfl, hp1, rfl, l, _, rfl, lsq hl1, _, _, rfl, rfl, _, rfl, ite2 (fun e => ?_) (fun e => ?_)⟩
        · have e1 : i < ((ns.map V.int).length : Int) := of_decide_eq_true e
          rw [List.length_map] at e1
          obtain ⟨j, rfl⟩ := Int.eq_ofNat_of_zero_le i0
          have hj : j < ns.length := by omega
          have hat : atI (ns.map V.int) (j : Int) = some (V.int ns[j]) := atI_nat (by rw [List.getElem?_map, List.getElem?_eq_getElem hj]; rfl)
          refine ⟨_, rfl, _, _, _, _, rfl, rfl, hp1, rfl, _, rfl, _, _, _, _, rfl, rfl, hp1, rfl, l, _, _, _, rfl, rfl, hl1, hat, ?_⟩
          refine ⟨_, rfl, _, _, _, _, rfl, rfl, hp1, rfl, _, _, rfl, rfl, _, rfl, p, _, 1, 1, rfl, rfl, hp1, rfl, ?_⟩
          have ex2 : Ext p H (upd (upd H p (.lst [.ref l, .int j, .int 0, .int m, .int (c + 1)])) p (.lst [.ref l, .int (j + 1), .int 0, .int m, .int (c + 1)])) := fun b o hb nb => by rw [upd_ne nb, upd_ne nb]; exact hb
          have hp2 : (upd (upd H p (.lst [.ref l, .int j, .int 0, .int m, .int (c + 1)])) p (.lst [.ref l, .int (j + 1), .int 0, .int m, .int (c + 1)])) p = some (.lst [.ref l, .int (j + 1), .int 0, .int m, .int (c + 1)]) := upd_same
          have hl2 : (upd (upd H p (.lst [.ref l, .int j, .int 0, .int m, .int (c + 1)])) p (.lst [.ref l, .int (j + 1), .int 0, .int m, .int (c + 1)])) l = some (.lst (ns.map V.int)) := by rw [upd_ne nlp]; exact hl1
          refine ⟨_, rfl, _, _, rfl, rfl, ⟨by decide, by decide, by decide⟩, _, _, rfl, rfl, _, rfl, ite2 (fun e => ?_) (fun e => ?_)⟩
          · have e2 : (10 ^ (18 : Int).toNat : Int) ≤ ns[j] := of_decide_eq_true e
            have e3 : (0 : Int) ≤ ns[j] := Int.le_trans (by decide) e2
            refine ⟨_, rfl, _, rfl, p, _, 2, 2, rfl, rfl, hp2, rfl, ?_⟩
            refine ⟨(j : Int) + 1, ns[j], m, c + 1, some (V.int ns[j]), rfl, upd_same, ?_, by omega, by omega, e3, m0, m1, fun b o hb nb => ?_⟩
            · rw [upd_ne nlp]; exact hl2
            · rw [upd_ne nb]; exact ex2 b o hb nb
          · refine ⟨_, rfl, _, _, _, _, rfl, rfl, hp2, rfl, _, _, rfl, rfl, rfl, _, rfl, _, rfl, _, _, rfl, rfl, rfl, _, _, rfl, rfl, rfl, _, _, rfl, rfl, _, _, rfl, rfl, _, rfl, _, _, rfl, rfl, rfl, _, rfl, p, _, 3, 3, rfl, rfl, hp2, rfl, ?_⟩
            refine ⟨(j : Int) + 1, 0, _, c + 1, some (V.int ns[j]), rfl, upd_same, ?_, by omega, by omega, by decide, Int.emod_nonneg _ (by decide), Int.emod_lt_of_pos _ (by decide), fun b o hb nb => ?_⟩
            · rw [upd_ne nlp]; exact hl2
            · rw [upd_ne nb]; exact ex2 b o hb nb
        · exact ⟨i, 0, m, c + 1, none, rfl, hp1, hl1, i0, i1, g0, m0, m1, ex1⟩
      · refine iteF ?_
        exact ⟨i, g, m, c + 1, none, rfl, hp1, hl1, i0, i1, g0, m0, m1, ex1⟩
    · rintro σ' H' ⟨i, g, m, c, x3, rfl, hp1, hl1, i0, i1, g0, m0, m1, ex1⟩
      -- if bag[2] > 0
      refine ⟨_, rfl, _, _, _, _, rfl, rfl, hp1, rfl, _, _, rfl, rfl, _, rfl, ite2 (fun e => ?_) (fun e => ?_)⟩
      · refine ⟨_, rfl, _, _, _, _, rfl, rfl, hp1, rfl, _, rfl, _, rfl, _, _, rfl, rfl, n0, ?_⟩
        refine ⟨_, rfl, _, _, _, _, rfl, rfl, hp1, rfl, _, rfl, _, _, rfl, rfl, ⟨n0, n1⟩, _, rfl, p, _, 2, 2, rfl, rfl, hp1, rfl, _, rfl, ?_⟩
        refine q _ _ (Int.emod_nonneg _ (by omega)) (Int.emod_lt_of_pos _ n0) ⟨i, g / n, m, c, upd_same, ?_, nlp, i0, i1, n63, Int.ediv_nonneg g0 (by omega), m0, m1⟩ fun b o hb nb => ?_
        · rw [upd_ne nlp]; exact hl1
        · rw [upd_ne nb]; exact ex1 b o hb nb
      · refine ⟨_, rfl, _, _, _, _, rfl, rfl, hp1, rfl, _, rfl, ?_⟩
        refine ⟨_, rfl, _, _, rfl, rfl, ⟨by decide, by decide, by omega⟩, _, rfl, _, _, rfl, rfl, rfl, _, _, rfl, rfl, _, rfl, _, _, _, _, rfl, rfl, hp1, rfl, _, _, rfl, rfl, rfl, _, _, rfl, rfl, _, _, rfl, rfl, _, rfl, _, _, rfl, rfl, rfl, _, rfl, p, _, 3, 3, rfl, rfl, hp1, rfl, ?_⟩
        refine ⟨_, rfl, _, _, _, _, rfl, rfl, upd_same, rfl, _, _, rfl, rfl, rfl, _, rfl, _, _, _, _, rfl, rfl, upd_same, rfl, _, rfl, _, _, rfl, rfl, rfl, _, _, rfl, rfl, rfl, _, _, rfl, rfl, _, rfl, _, rfl, _, _, rfl, rfl, n0, ?_⟩
        refine q _ _ (Int.emod_nonneg _ (by omega)) (Int.emod_lt_of_pos _ n0) ⟨i, g, _, c, upd_same, ?_, nlp, i0, i1, n63, g0, Int.emod_nonneg _ (by decide), Int.emod_lt_of_pos _ (by decide)⟩ fun b o hb nb => ?_
        · rw [upd_ne nlp]; exact hl1
        · rw [upd_ne nb]; exact ex1 b o hb nb
theorem ok_Lof (T : TopOk K mg A) : FnOk P w K mg base CX0 2 A.f_Lof A.d_Lof P_Lof (spOf K) := by
  have G_Ldraw : FnOk P w K mg base CX0 1 A.f_Ldraw A.d_Ldraw P_Ldraw spDraw := ok_Ldraw T
  refine T.F_Lof.ok sc_Lof (fun vs H Q E h => ?_) (fun cdv Ar outer s H vs Q E hr h => ?_)
  · obtain ⟨p, y, rfl, _⟩ := h
    rfl
  · obtain ⟨B, y, rfl, hB, h⟩ := h
    refine ⟨_, (pss_one (ps_ret (pe_ix ix_seq (pv 1) (pe_call G_Ldraw (hr.mono (by decide)) (by rfl) T.g_Ldraw T.F_Ldraw.kp T.a_Ldraw .nil pass0 (pa_cons (pv 0) (pa_cons (pe_callB call_len (by rfl) T.b_len (by decide +kernel) (pa_cons (pv 1) pa_nil)) pa_nil))) (fun _ _ => rfl)))), ?_⟩
    rcases h with ⟨q, xs, rfl, nq, hS, h0, h1, k⟩ | ⟨z, rfl, h0, h1, k⟩
    · refine ⟨_, rfl, _, rfl, _, rfl, V.ref q, xs.length, rfl, ?_, B, _, rfl, hB, by omega, by omega, fun r H' r0 r1 hB' ex => ?_⟩
      · rcases hS with hS | hS
        · exact .inl ⟨_, hS, rfl⟩
        · exact .inr ⟨_, hS, rfl⟩
      · obtain ⟨j, rfl⟩ := Int.eq_ofNat_of_zero_le r0
        have hj : j < xs.length := by omega
        have hat : atI xs (j : Int) = some xs[j] := atI_nat (List.getElem?_eq_getElem hj)
        have kk := k xs[j] H' (List.getElem_mem hj) hB' ex
        rcases hS with hS | hS
        · exact .inl ⟨q, xs, _, _, rfl, rfl, SqL.ext ex nq hS, hat, kk⟩
        · exact .inr (.inl ⟨q, xs, _, _, rfl, rfl, SqT.ext ex nq hS, hat, kk⟩)
    · refine ⟨_, rfl, _, rfl, _, rfl, V.str z, z.length, rfl, ⟨h1, rfl⟩, B, _, rfl, hB, by omega, ?_, fun r H' r0 r1 hB' ex => ?_⟩
      · have : (sizeLine : Nat) = 16777216 := by decide
        omega
      · obtain ⟨j, rfl⟩ := Int.eq_ofNat_of_zero_le r0
        have hj : j < z.cps.toList.length := by
          have : z.length = z.cps.toList.length := by simp [Str.length]
          omega
        exact .inr (.inr ⟨z, _, _, rfl, rfl, h1, atI_nat (List.getElem?_eq_getElem hj), k _ H' (List.getElem_mem hj) hB' ex⟩)
theorem ok_Lsame (T : TopOk K mg A) : ∀ n, FnOk P w K mg base CX0 n A.f_Lsame A.d_Lsame P_Lsame (spSameLt K n)
  | 0 => ⟨fun _ _ _ _ h => h.elim, fun _ _ _ _ _ _ _ _ _ _ _ _ _ h => h.elim⟩
  | n + 1 => by
    have G_Lsame : FnOk P w K mg base CX0 n A.f_Lsame A.d_Lsame P_Lsame (spSameLt K n) := ok_Lsame T n
    refine T.F_Lsame.ok sc_Lsame (fun vs H Q E h => ?_) (fun cdv Ar outer s H vs Q E hr h => ?_)
    · obtain ⟨v, w, d, rfl, _⟩ := h
      rfl
    · obtain ⟨v, u, d, rfl, hv, hu, hd, hs, k⟩ := h
      refine ⟨_, (pss_cons (ps_if (PW.pt (pw_or (pt_cmpR op_isN (pv 1) pe_non (nomark _)) (pw_or1 (pt_cmpR op_isN (pv 0) pe_non (nomark _)))))
      (pss_one (ps_ret (pe_and (pe_cmpR op_isN (pv 1) pe_non (nomark _)) (pe_one (pe_cmpR op_isN (pv 0) pe_non (nomark _))))))
      pss_nil)
      (pss_cons (ps_if (pt_val (pe_callB call_isD2 (by rfl) T.b_isinstance (by decide +kernel) (pa_cons (pv 1) (pa_cons (pe_tup (pa_cons (pe_bltn (v := .ty "list") (by rfl) T.b_list (by decide +kernel) rfl) (pa_cons (pe_bltn (v := .ty "tuple") (by rfl) T.b_tuple (by decide +kernel) rfl) pa_nil))) pa_nil))))
      (pss_cons (ps_if (PW.pt (pw_or (pt_cmpR op_ne (pe_callB call_isD (by rfl) T.b_isinstance (by decide +kernel) (pa_cons (pv 0) (pa_cons (pe_bltn (v := .ty "list") (by rfl) T.b_list (by decide +kernel) rfl) pa_nil))) (pe_callB call_isD (by rfl) T.b_isinstance (by decide +kernel) (pa_cons (pv 1) (pa_cons (pe_bltn (v := .ty "list") (by rfl) T.b_list (by decide +kernel) rfl) pa_nil))) (nomark _)) (pw_or1 (pt_cmpR op_ne (pe_callB call_isD (by rfl) T.b_isinstance (by decide +kernel) (pa_cons (pv 0) (pa_cons (pe_bltn (v := .ty "tuple") (by rfl) T.b_tuple (by decide +kernel) rfl) pa_nil))) (pe_callB call_isD (by rfl) T.b_isinstance (by decide +kernel) (pa_cons (pv 1) (pa_cons (pe_bltn (v := .ty "tuple") (by rfl) T.b_tuple (by decide +kernel) rfl) pa_nil))) (nomark _)))))
      (pss_one (ps_ret pe_bl))
      pss_nil)
      (pss_one (ps_ret (pe_and (pe_cmpR op_eq (pe_callB call_len (by rfl) T.b_len (by decide +kernel) (pa_cons (pv 0) pa_nil)) (pe_callB call_len (by rfl) T.b_len (by decide +kernel) (pa_cons (pv 1) pa_nil)) (nomark _)) (pe_one (pe_callB (cr_all rfl) (by rfl) T.b_all (by decide +kernel) (pa_cons (pe_lc (own := [("_law_one", 2), ("_law_two", 3)]) (g := gTup K 2 (gCons (gName 2) (gCons (gName 3) gNil))) (by rfl) sc_Lsame.nd (RZ.pi_zipA (by rfl) T.b_zip (pa_cons (pv 0) (pa_cons (pv 1) pa_nil))) (blkOk_by (own := [("_law_one", 2), ("_law_two", 3)]) (N := N_Lsame) (sc := defScope s_Lsame) (by decide +kernel)) (fun _ _ _ _ _ => (pg_tup rfl (pgs_cons (pg_name (i := 2) sc_Lsame.nd rfl (by first | exact Or.inl rfl | exact Or.inr rfl)) (pgs_cons (pg_name (i := 3) sc_Lsame.nd rfl (by first | exact Or.inl rfl | exact Or.inr rfl)) pgs_nil)))) (fun _ _ _ _ _ => pts_nil) (fun _ _ _ _ _ => (pe_call G_Lsame hr (by rfl) T.g_Lsame T.F_Lsame.kp T.a_Lsame .nil pass0 (pa_cons (pv 2) (pa_cons (pv 3) pa_nil))))) pa_nil)))))))
      pss_nil)
      (pss_cons (ps_if (PW.pt (pw_or (pt_cmpR op_ne (pe_callB call_isD (by rfl) T.b_isinstance (by decide +kernel) (pa_cons (pv 0) (pa_cons (pe_bltn (v := .ty "bool") (by rfl) T.b_bool (by decide +kernel) rfl) pa_nil))) (pe_callB call_isD (by rfl) T.b_isinstance (by decide +kernel) (pa_cons (pv 1) (pa_cons (pe_bltn (v := .ty "bool") (by rfl) T.b_bool (by decide +kernel) rfl) pa_nil))) (nomark _)) (pw_or1 (pt_cmpR op_ne (pe_callB call_isD (by rfl) T.b_isinstance (by decide +kernel) (pa_cons (pv 0) (pa_cons (pe_bltn (v := .ty "int") (by rfl) T.b_int (by decide +kernel) rfl) pa_nil))) (pe_callB call_isD (by rfl) T.b_isinstance (by decide +kernel) (pa_cons (pv 1) (pa_cons (pe_bltn (v := .ty "int") (by rfl) T.b_int (by decide +kernel) rfl) pa_nil))) (nomark _)))))
      (pss_one (ps_ret pe_bl))
      pss_nil)
      (pss_one (ps_ret (pe_and (pe_cmpR op_eq (pe_callB call_isD (by rfl) T.b_isinstance (by decide +kernel) (pa_cons (pv 0) (pa_cons (pe_bltn (v := .ty "str") (by rfl) T.b_str (by decide +kernel) rfl) pa_nil))) (pe_callB call_isD (by rfl) T.b_isinstance (by decide +kernel) (pa_cons (pv 1) (pa_cons (pe_bltn (v := .ty "str") (by rfl) T.b_str (by decide +kernel) rfl) pa_nil))) (nomark _)) (pe_one (pe_cmpR op_eq (pv 0) (pv 1) (nomark _))))))))), ?_⟩
      cases d with
      | none =>
        cases hv
        cases hu
        exact ⟨_, rfl, rfl, _, rfl, iteT (iteT ⟨_, rfl, rfl, true, rfl, iteT ⟨_, rfl, rfl, k _ (Same.refl _)⟩⟩)⟩
      | bool b =>
        cases hv
        cases hu
        have hb : ∀ H', Dp K H' (V.bl b) (.bool b) := fun _ => .bl b
        refine ⟨_, rfl, rfl, _, rfl, iteF ⟨_, rfl, rfl, _, rfl, iteF ?_⟩⟩
        refine ⟨_, rfl, by show 2 ≤ sizeLine; decide, fun t nt => ⟨_, t, _, _, _, rfl, upd_same, rfl, rfl, hb _, _, rfl, iteF ?_⟩⟩
        refine ⟨_, rfl, _, _, _, rfl, rfl, hb _, _, rfl, _, _, _, rfl, rfl, hb _, rfl, _, rfl, iteF ?_⟩
        refine ⟨_, rfl, _, _, _, rfl, rfl, hb _, _, rfl, _, _, _, rfl, rfl, hb _, rfl, _, rfl, iteF ?_⟩
        refine ⟨_, rfl, _, _, _, rfl, rfl, hb _, _, rfl, _, _, _, rfl, rfl, hb _, rfl, _, rfl, iteT ?_⟩
        refine ⟨_, rfl, _, rfl, rfl, ?_⟩
        rw [decide_eq_true rfl]
        exact k _ (same_upd nt)
      | int b =>
        cases hv
        cases hu
        have hb : ∀ H', Dp K H' (V.int b) (.int b) := fun _ => .int b
        refine ⟨_, rfl, rfl, _, rfl, iteF ⟨_, rfl, rfl, _, rfl, iteF ?_⟩⟩
        refine ⟨_, rfl, by show 2 ≤ sizeLine; decide, fun t nt => ⟨_, t, _, _, _, rfl, upd_same, rfl, rfl, hb _, _, rfl, iteF ?_⟩⟩
        refine ⟨_, rfl, _, _, _, rfl, rfl, hb _, _, rfl, _, _, _, rfl, rfl, hb _, rfl, _, rfl, iteF ?_⟩
        refine ⟨_, rfl, _, _, _, rfl, rfl, hb _, _, rfl, _, _, _, rfl, rfl, hb _, rfl, _, rfl, iteF ?_⟩
        refine ⟨_, rfl, _, _, _, rfl, rfl, hb _, _, rfl, _, _, _, rfl, rfl, hb _, rfl, _, rfl, iteT ?_⟩
        refine ⟨_, rfl, _, rfl, rfl, ?_⟩
        rw [decide_eq_true rfl]
        exact k _ (same_upd nt)
      | str b =>
        cases hv
        cases hu
        have hb : ∀ H', Dp K H' (V.str b) (.str b) := fun _ => .str b
        refine ⟨_, rfl, rfl, _, rfl, iteF ⟨_, rfl, rfl, _, rfl, iteF ?_⟩⟩
        refine ⟨_, rfl, by show 2 ≤ sizeLine; decide, fun t nt => ⟨_, t, _, _, _, rfl, upd_same, rfl, rfl, hb _, _, rfl, iteF ?_⟩⟩
        refine ⟨_, rfl, _, _, _, rfl, rfl, hb _, _, rfl, _, _, _, rfl, rfl, hb _, rfl, _, rfl, iteF ?_⟩
        refine ⟨_, rfl, _, _, _, rfl, rfl, hb _, _, rfl, _, _, _, rfl, rfl, hb _, rfl, _, rfl, iteF ?_⟩
        refine ⟨_, rfl, _, _, _, rfl, rfl, hb _, _, rfl, _, _, _, rfl, rfl, hb _, rfl, _, rfl, iteT ?_⟩
        refine ⟨_, rfl, _, rfl, rfl, ?_⟩
        rw [decide_eq_true rfl]
        exact k _ (same_upd nt)
      | list ds =>
        obtain ⟨a, xs, rfl, sx, dx⟩ := Dp.lenL hv
        obtain ⟨b, ys, rfl, sy, dy⟩ := Dp.lenL hu
        have hsm : decide (ds.length ≤ 5000) = true ∧ smallAll ds = true := by
          unfold small at hs
          exact Bool.and_eq_true_iff.mp hs
        have hsz : ds.length ≤ 5000 := of_decide_eq_true hsm.1
        have lx := DpAll.length dx
        have ly := DpAll.length dy
        refine ⟨_, rfl, rfl, _, rfl, iteF ⟨_, rfl, rfl, _, rfl, iteF ?_⟩⟩
        refine ⟨_, rfl, by show 2 ≤ sizeLine; decide, fun t nt => ?_⟩
        have s1 : Same H (upd H t (.tup [.ty "list", .ty "tuple"])) := same_upd nt
        have hv1 := Dp.same s1 _ _ hv
        have hu1 := Dp.same s1 _ _ hu
        refine ⟨_, t, _, _, _, rfl, upd_same, rfl, rfl, hu1, _, rfl, iteT ?_⟩
        refine ⟨_, rfl, _, _, _, rfl, rfl, hv1, _, rfl, _, _, _, rfl, rfl, hu1, rfl, _, rfl, iteF ?_⟩
        refine ⟨_, rfl, _, _, _, rfl, rfl, hv1, _, rfl, _, _, _, rfl, rfl, hu1, rfl, _, rfl, iteF ?_⟩
        refine ⟨_, rfl, .ref a, xs.length, rfl, .inl ⟨xs, SqL.same s1 sx, rfl⟩, _, rfl, .ref b, ys.length, rfl, .inl ⟨ys, SqL.same s1 sy, rfl⟩, rfl, _, rfl, ?_⟩
        rw [lx, ly, decide_eq_true rfl]
        refine iteT ?_
        refine ⟨_, rfl, _, rfl, a, b, xs, ys, rfl, .inl ⟨SqL.same s1 sx, SqL.same s1 sy, fun D nD => ?_⟩⟩
        refine same_all (walk_zip (K := K) (xs := xs) (ys := ys) (by rw [lx, ly, Nat.min_self])) (DpAll.same s1 _ _ dx) (DpAll.same s1 _ _ dy) (fun H2 s2 => ⟨SqL.same (s1.trans s2) sx, SqL.same (s1.trans s2) sy⟩) nD hsz hsm.2 hd ⟨_, _, rfl⟩ fun H2 s2 h2 => ?_
        refine ⟨D, List.replicate ds.length true, rfl, lsq ?_, ?_⟩
        · rw [h2, List.map_replicate]
        · rw [show (List.replicate ds.length true).all id = true by simp]
          exact k _ (s1.trans s2)
      | tuple ds =>
        obtain ⟨a, xs, rfl, sx, dx⟩ := Dp.lenT hv
        obtain ⟨b, ys, rfl, sy, dy⟩ := Dp.lenT hu
        have hsm : decide (ds.length ≤ 5000) = true ∧ smallAll ds = true := by
          unfold small at hs
          exact Bool.and_eq_true_iff.mp hs
        have hsz : ds.length ≤ 5000 := of_decide_eq_true hsm.1
        have lx := DpAll.length dx
        have ly := DpAll.length dy
        refine ⟨_, rfl, rfl, _, rfl, iteF ⟨_, rfl, rfl, _, rfl, iteF ?_⟩⟩
        refine ⟨_, rfl, by show 2 ≤ sizeLine; decide, fun t nt => ?_⟩
        have s1 : Same H (upd H t (.tup [.ty "list", .ty "tuple"])) := same_upd nt
        have hv1 := Dp.same s1 _ _ hv
        have hu1 := Dp.same s1 _ _ hu
        refine ⟨_, t, _, _, _, rfl, upd_same, rfl, rfl, hu1, _, rfl, iteT ?_⟩
        refine ⟨_, rfl, _, _, _, rfl, rfl, hv1, _, rfl, _, _, _, rfl, rfl, hu1, rfl, _, rfl, iteF ?_⟩
        refine ⟨_, rfl, _, _, _, rfl, rfl, hv1, _, rfl, _, _, _, rfl, rfl, hu1, rfl, _, rfl, iteF ?_⟩
        refine ⟨_, rfl, .ref a, xs.length, rfl, .inr ⟨xs, SqT.same s1 sx, rfl⟩, _, rfl, .ref b, ys.length, rfl, .inr ⟨ys, SqT.same s1 sy, rfl⟩, rfl, _, rfl, ?_⟩
        rw [lx, ly, decide_eq_true rfl]
        refine iteT ?_
        refine ⟨_, rfl, _, rfl, a, b, xs, ys, rfl, .inr ⟨SqT.same s1 sx, SqT.same s1 sy, fun D nD => ?_⟩⟩
        refine same_all (walk_zipT (K := K) (xs := xs) (ys := ys) (by rw [lx, ly, Nat.min_self])) (DpAll.same s1 _ _ dx) (DpAll.same s1 _ _ dy) (fun H2 s2 => ⟨SqT.same (s1.trans s2) sx, SqT.same (s1.trans s2) sy⟩) nD hsz hsm.2 hd ⟨_, _, rfl⟩ fun H2 s2 h2 => ?_
        refine ⟨D, List.replicate ds.length true, rfl, lsq ?_, ?_⟩
        · rw [h2, List.map_replicate]
        · rw [show (List.replicate ds.length true).all id = true by simp]
          exact k _ (s1.trans s2)
      | dict ds => cases hv
end
end My

set_option Elab.async false
set_option linter.all false
set_option maxRecDepth 100000
namespace My
open PySem PySem.Spec PyProof.Rows L2
/-! ### what the words are worth -/
def letters : Str := "abcdefghijklmnopqrstuvwxyz"
def consS (x z : Str) : Bool := !decide (V.str x = V.str "") && (x.cps.toList.map fun c => decide (c ∈ z.cps.toList)).all id
def nameD (m : Int) : PyData → Bool
  | .str x => decide ((x.length : Int) ≤ m) && consS x letters
  | _ => false
def numD (lo hi : Int) : PyData → Bool
  | .int i => decide (lo ≤ i) && decide (i ≤ hi)
  | _ => false
def deedD : PyData → Bool
  | .none => true
  | .tuple [k, m] => ([PyData.str "send", PyData.str "receive"].any fun z => PyData.eqv z k) && nameD 4 m
  | _ => false
def stepD : PyData → Bool
  | .tuple [m, n, d] => nameD 4 m && (numD (-99) 99 n && deedD d)
  | _ => false
def spCons : Sp := fun vs H Q _ => ∃ x z : Str, vs = [.str x, .str z] ∧ x.length ≤ 5000 ∧ ∀ H', Same H H' → Q (.bl (consS x z)) H'
def spNum (K : PySem.W.Frag) : Sp := fun vs H Q _ => ∃ (v : V) (d : PyData) (lo hi : Int), vs = [v, .int lo, .int hi] ∧ Dp K H v d ∧ fine d = true ∧ Q (.bl (numD lo hi d)) H
section
variable {P : Program} {w : World} {K : PySem.W.Frag} {mg : Str → Option Value} {base : Heap} {A : Top}
theorem ok_cons (T : TopOk K mg A) : FnOk P w K mg base CX0 1 A.f_consists_of A.d_consists_of P_consists_of spCons := by
  refine T.F_consists_of.ok sc_consists_of (fun vs H Q E h => ?_) (fun cdv Ar outer s H vs Q E hr h => ?_)
  · obtain ⟨x, z, rfl, _⟩ := h
    rfl
  · obtain ⟨x, z, rfl, hl, k⟩ := h
    refine ⟨_, (pss_one (ps_ret (pe_and (pe_cmpR op_ne (pv 0) pe_str (nomark _)) (pe_one (pe_callB (cr_all rfl) (by rfl) T.b_all (by decide +kernel) (pa_cons (pe_lc (own := [("sign", 2)]) (g := gName 2) (by rfl) sc_consists_of.nd (pi_str (pv 0)) (blkOk_by (own := [("sign", 2)]) (N := N_consists_of) (sc := defScope s_consists_of) (by decide +kernel)) (fun _ _ _ _ _ => (pg_name (i := 2) sc_consists_of.nd rfl (by first | exact Or.inl rfl | exact Or.inr rfl))) (fun _ _ _ _ _ => pts_nil) (fun _ _ _ _ _ => (pe_cmpR op_in_sign (pv 2) (pv 1) (by rfl)))) pa_nil)))))), ?_⟩
    refine ⟨_, rfl, rfl, _, rfl, ite2 (fun e => ?_) (fun e => ?_)⟩
    · refine ⟨_, rfl, x, rfl, fun D nD => str_all nD hl (fun c => decide (c ∈ z.cps.toList)) (fun _ => rfl) (fun c H2 Q2 q2 => ⟨_, rfl, _, rfl, c, z, rfl, rfl, q2⟩) fun H2 s2 h2 => ?_⟩
      refine ⟨D, x.cps.toList.map fun c => decide (c ∈ z.cps.toList), rfl, lsq h2, ?_⟩
      have e2 : consS x z = (x.cps.toList.map fun c => decide (c ∈ z.cps.toList)).all id := by
        unfold consS
        rw [e, Bool.true_and]
      rw [← e2]
      exact k _ s2
    · have e2 : consS x z = false := by
        unfold consS
        rw [Bool.eq_false_iff.mpr e, Bool.false_and]
      have := k H (Same.refl _)
      rw [e2] at this
      exact this
theorem ok_is_word (T : TopOk K mg A) : FnOk P w K mg base CX0 2 A.f_is_word A.d_is_word P_is_word (spD K (nameD 4)) := by
  have G_consists_of : FnOk P w K mg base CX0 1 A.f_consists_of A.d_consists_of P_consists_of spCons := ok_cons T
  refine T.F_is_word.ok sc_is_word (fun vs H Q E h => ?_) (fun cdv Ar outer s H vs Q E hr h => ?_)
  · obtain ⟨x, z, rfl, _⟩ := h
    rfl
  · obtain ⟨v, d, rfl, hv, hf, k⟩ := h
    refine ⟨_, (pss_one (ps_ret (pe_and (pe_callB call_isD (by rfl) T.b_isinstance (by decide +kernel) (pa_cons (pv 0) (pa_cons (pe_bltn (v := .ty "str") (by rfl) T.b_str (by decide +kernel) rfl) pa_nil))) (pe_and (pe_cmpR op_le (pe_callB call_len (by rfl) T.b_len (by decide +kernel) (pa_cons (pv 0) pa_nil)) (pe_glob (by rfl) T.c_WORD_LENGTH T.r_WORD_LENGTH) (nomark _)) (pe_one (pe_call G_consists_of (hr.mono (by decide)) (by rfl) T.g_consists_of T.F_consists_of.kp T.a_consists_of .nil pass0 (pa_cons (pv 0) (pa_cons (pe_glob (by rfl) T.c_LETTERS T.r_LETTERS) pa_nil)))))))), ?_⟩
    refine ⟨_, rfl, _, _, _, rfl, rfl, hv, _, rfl, ?_⟩
    cases d with
    | str x =>
      cases hv
      have hl : x.length ≤ 5000 := by
        have := fine_small hf
        unfold small at this
        exact of_decide_eq_true this
      refine iteT ⟨_, rfl, _, _, rfl, ⟨sz (by omega), rfl⟩, _, _, rfl, rfl, _, rfl, ite2 (fun e => ?_) (fun e => ?_)⟩
      · refine ⟨_, rfl, x, letters, rfl, hl, fun H' s' => ?_⟩
        have e2 : nameD 4 (.str x) = consS x letters := by
          show (decide ((x.length : Int) ≤ 4) && consS x letters) = _
          rw [e, Bool.true_and]
        rw [← e2]
        exact k H' s'
      · have e2 : nameD 4 (.str x) = false := by
          show (decide ((x.length : Int) ≤ 4) && consS x letters) = _
          rw [Bool.eq_false_iff.mpr e, Bool.false_and]
        have := k H (Same.refl _)
        rw [e2] at this
        exact this
    | _ => exact iteF (k H (Same.refl _))
theorem ok_is_number (T : TopOk K mg A) : FnOk P w K mg base CX0 1 A.f_is_number A.d_is_number P_is_number (spNum K) := by
  refine T.F_is_number.ok sc_is_number (fun vs H Q E h => ?_) (fun cdv Ar outer s H vs Q E hr h => ?_)
  · obtain ⟨x, d, lo, hi, rfl, _⟩ := h
    rfl
  · obtain ⟨v, d, lo, hi, rfl, hv, hf, k⟩ := h
    refine ⟨_, (pss_one (ps_ret (pe_and (pe_callB call_isD (by rfl) T.b_isinstance (by decide +kernel) (pa_cons (pv 0) (pa_cons (pe_bltn (v := .ty "int") (by rfl) T.b_int (by decide +kernel) rfl) pa_nil))) (pe_and (pe_not (pe_callB call_isD (by rfl) T.b_isinstance (by decide +kernel) (pa_cons (pv 0) (pa_cons (pe_bltn (v := .ty "bool") (by rfl) T.b_bool (by decide +kernel) rfl) pa_nil)))) (pe_one (pe_chain op_le op_le (pv 1) (pv 0) (pv 2))))))), ?_⟩
    refine ⟨_, rfl, _, _, _, rfl, rfl, hv, _, rfl, ?_⟩
    cases d with
    | int i =>
      cases hv
      refine iteT ⟨_, rfl, _, _, _, rfl, rfl, .int i, _, rfl, _, rfl, iteT ⟨_, rfl, _, rfl, _, _, rfl, rfl, _, rfl, ite2 (fun e => ?_) (fun e => ?_)⟩⟩
      · refine ⟨_, rfl, _, _, rfl, rfl, ?_⟩
        have e2 : numD lo hi (.int i) = decide (i ≤ hi) := by
          show (decide (lo ≤ i) && decide (i ≤ hi)) = _
          rw [e, Bool.true_and]
        rw [e2] at k
        exact k
      · have e2 : numD lo hi (.int i) = false := by
          show (decide (lo ≤ i) && decide (i ≤ hi)) = _
          rw [Bool.eq_false_iff.mpr e, Bool.false_and]
        rw [e2] at k
        exact k
    | bool b =>
      cases hv
      exact iteT ⟨_, rfl, _, _, _, rfl, rfl, .bl b, _, rfl, _, rfl, iteF k⟩
    | _ => exact iteF k
theorem smallT {ds : List PyData} (h : fine (.tuple ds) = true) : ds.length ≤ 5000 ∧ smallAll ds = true := by
  have := fine_small h
  unfold small at this
  exact ⟨of_decide_eq_true (Bool.and_eq_true_iff.mp this).1, (Bool.and_eq_true_iff.mp this).2⟩
theorem shapedAll : ∀ {ds : List PyData} {i : Nat} {d : PyData}, PyData.canLayAll0 ds = true → PyData.depthAll ds ≤ 63 → ds[i]? = some d → SeqAt.shaped d = true
  | [], _, _, _, _, e => by simp at e
  | x :: ds, 0, d, h, hd, e => by
    simp at e; subst e
    unfold PyData.canLayAll0 at h
    unfold PyData.depthAll at hd
    unfold SeqAt.shaped
    rw [(Bool.and_eq_true_iff.mp h).1, Bool.true_and]
    exact decide_eq_true (by omega)
  | x :: ds, i + 1, d, h, hd, e => by
    unfold PyData.canLayAll0 at h
    unfold PyData.depthAll at hd
    exact shapedAll (i := i) (Bool.and_eq_true_iff.mp h).2 (by omega) (by simpa using e)
theorem fine_get {ds : List PyData} {i : Nat} {d : PyData} (h : fine (.tuple ds) = true) (e : ds[i]? = some d) : fine d = true := by
  have h1 := (smallT h).2
  have h2 := fine_shaped h
  unfold SeqAt.shaped at h2
  have h3 : PyData.canLayAll0 ds = true := (Bool.and_eq_true_iff.mp h2).1
  have h4 : PyData.depthAll ds + 1 ≤ 64 := of_decide_eq_true (Bool.and_eq_true_iff.mp h2).2
  unfold fine
  rw [smallAll_get h1 e, shapedAll h3 (by omega) e]
  rfl
def deedsD : PyData := .tuple [.tuple [.str "send", .str "!"], .tuple [.str "receive", .str "?"]]
theorem deeds_rows {q : Addr} (hq : ∀ H, Dp K H (.ref q) deedsD) : ∃ r1 r2, ∀ H, SqT K H q [r1, r2] ∧ (∃ t1, r1 = .ref t1 ∧ SqT K H t1 [.str "send", .str "!"]) ∧ (∃ t2, r2 = .ref t2 ∧ SqT K H t2 [.str "receive", .str "?"]) := by
  obtain ⟨a, xs, e, sx, dx⟩ := Dp.lenT (hq fun _ => none)
  cases e
  cases dx with
  | @cons r1 _ _ _ h1 dx =>
    cases dx with
    | @cons r2 _ _ _ h2 dx =>
      cases dx
      obtain ⟨t1, ys, rfl, s1, d1⟩ := Dp.lenT h1
      obtain ⟨t2, zs, rfl, s2, d2⟩ := Dp.lenT h2
      refine ⟨_, _, fun H => ⟨SqT.static sx H, ⟨t1, rfl, ?_⟩, ⟨t2, rfl, ?_⟩⟩⟩
      · cases d1 with
        | cons a b =>
          cases a
          cases b with
          | cons a b =>
            cases a
            cases b
            exact SqT.static s1 H
      · cases d2 with
        | cons a b =>
          cases a
          cases b with
          | cons a b =>
            cases a
            cases b
            exact SqT.static s2 H
theorem deeds_lc {H0 : Hp} {q D : Addr} {Qd : Hp → Prop} {σ : L2.St} (hq : ∀ H, Dp K H (.ref q) deedsD) (hD : H0 D = none) (hσ : ∃ a b c, σ = [a, b, c])
    (hk : ∀ H', Same H0 H' → H' D = some (.lst [.str "send", .str "receive"]) → Qd H') :
    ∃ W : Nat → Nat → Hp → Prop, (∃ m, W 0 m (upd H0 D (.lst []))) ∧ ∀ i m H, W i m H →
      ((Itt K q).stop i H ∧ Qd H) ∨ ((Itt K q).go i H ∧ ∃ Nx : Hp → Prop, (∀ H', Nx H' → ∃ m', m' < m ∧ W (i + 1) m' H') ∧ ∀ x H', (Itt K q).yld i H x H' → (gTup K 2 (gCons (gName 1) (gCons (gName 2) gNil))) x (wipe σ [1, 2]) H' fun σ2 H2 => wipe σ2 [1, 2] = wipe σ [1, 2] ∧ tYes σ2 H2 fun b H3 =>
        if b = true then (tVar 1) σ2 H3 fun y H4 => ∃ acc, H4 D = some (.lst acc) ∧ acc.length < sizeLine ∧ Nx (upd H4 D (.lst (acc ++ [y]))) else Nx H3) := by
  obtain ⟨a, b, c, rfl⟩ := hσ
  obtain ⟨r1, r2, hx⟩ := deeds_rows hq
  refine lc_it (walk_tup (xs := [r1, r2])) (fun i H => Same H0 H ∧ H D = some (.lst ([V.str "send", V.str "receive"].take i))) ⟨same_upd hD, upd_same⟩ (fun _ H _ _ => (hx H).1) (fun i x H H' hi h y => ?_) fun H h => hk H h.1 h.2
  obtain ⟨s1, h1⟩ := h
  obtain ⟨rfl, ex⟩ := y
  obtain ⟨_, ⟨t1, rfl, q1⟩, ⟨t2, rfl, q2⟩⟩ := hx H'
  match i, hi with
  | 0, _ =>
    have e : x = .ref t1 := (Option.some.inj ex).symm
    subst e
    refine ⟨t1, _, rfl, q1, rfl, _, _, rfl, _, _, rfl, rfl, rfl, _, rfl, _, h1, (by decide), fun c o hc => ?_, upd_same⟩
    rw [upd_ne (ne_of_none hc hD)]
    exact s1 _ _ hc
  | 1, _ =>
    have e : x = .ref t2 := (Option.some.inj ex).symm
    subst e
    refine ⟨t2, _, rfl, q2, rfl, _, _, rfl, _, _, rfl, rfl, rfl, _, rfl, _, h1, (by decide), fun c o hc => ?_, upd_same⟩
    rw [upd_ne (ne_of_none hc hD)]
    exact s1 _ _ hc
theorem ok_is_deed (T : TopOk K mg A) : FnOk P w K mg base CX0 3 A.f_is_deed A.d_is_deed P_is_deed (spD K deedD) := by
  have G_is_word : FnOk P w K mg base CX0 2 A.f_is_word A.d_is_word P_is_word (spD K (nameD 4)) := ok_is_word T
  refine T.F_is_deed.ok sc_is_deed (fun vs H Q E h => ?_) (fun cdv Ar outer s H vs Q E hr h => ?_)
  · obtain ⟨x, d, rfl, _⟩ := h
    rfl
  · obtain ⟨v, d, rfl, hv, hf, k⟩ := h
    refine ⟨_, (pss_cons (ps_if (pt_cmpR op_isN (pv 0) pe_non (nomark _))
      (pss_one (ps_ret pe_bl))
      pss_nil)
      (pss_cons (ps_if (PW.pt (pw_or (pt_not (pt_val (pe_callB call_isD (by rfl) T.b_isinstance (by decide +kernel) (pa_cons (pv 0) (pa_cons (pe_bltn (v := .ty "tuple") (by rfl) T.b_tuple (by decide +kernel) rfl) pa_nil))))) (pw_or1 (pt_cmpR op_ne (pe_callB call_len (by rfl) T.b_len (by decide +kernel) (pa_cons (pv 0) pa_nil)) pe_int (nomark _)))))
      (pss_one (ps_ret pe_bl))
      pss_nil)
      (pss_one (ps_ret (pe_and (pe_cmpR (L2.op_inD (hu65 hr)) (pe_ix ix_tup (pv 0) pe_int (fun _ _ => rfl)) (pe_lc (own := [("kind", 1), ("sign", 2)]) (g := gTup K 2 (gCons (gName 1) (gCons (gName 2) gNil))) (by rfl) sc_is_deed.nd (pi_tup (pe_glob (by rfl) T.c_DEEDS T.r_DEEDS)) (blkOk_by (own := [("kind", 1), ("sign", 2)]) (N := N_is_deed) (sc := defScope s_is_deed) (by decide +kernel)) (fun _ _ _ _ _ => (pg_tup rfl (pgs_cons (pg_name (i := 1) sc_is_deed.nd rfl (by first | exact Or.inl rfl | exact Or.inr rfl)) (pgs_cons (pg_name (i := 2) sc_is_deed.nd rfl (by first | exact Or.inl rfl | exact Or.inr rfl)) pgs_nil)))) (fun _ _ _ _ _ => pts_nil) (fun _ _ _ _ _ => (pv 1))) (by rfl)) (pe_one (pe_call G_is_word (hr.mono (by decide)) (by rfl) T.g_is_word T.F_is_word.kp T.a_is_word .nil pass0 (pa_cons (pe_ix ix_tup (pv 0) pe_int (fun _ _ => rfl)) pa_nil)))))))), ?_⟩
    cases d with
    | none =>
      cases hv
      exact ⟨_, rfl, rfl, _, rfl, iteT (k H (Same.refl _))⟩
    | tuple ds =>
      obtain ⟨a, xs, rfl, sx, dx⟩ := Dp.lenT hv
      have lx := DpAll.length dx
      refine ⟨_, rfl, rfl, _, rfl, iteF ?_⟩
      refine ⟨_, rfl, _, _, _, rfl, rfl, hv, _, rfl, iteF ?_⟩
      refine ⟨_, rfl, .ref a, xs.length, rfl, .inr ⟨xs, sx, rfl⟩, rfl, _, rfl, ?_⟩
      match ds, dx, lx, hf, k with
      | [dk, dm], dx, lx, hf, k =>
        cases dx with
        | @cons vk _ _ _ hk dx =>
          cases dx with
          | @cons vm _ _ _ hm dx =>
            cases dx
            refine iteF ?_
            have fk : fine dk = true := fine_get (i := 0) hf rfl
            have fm : fine dm = true := fine_get (i := 1) hf rfl
            refine ⟨_, rfl, a, _, _, vk, rfl, rfl, sx, rfl, A.q_DEEDS, rfl, ?_⟩
            obtain ⟨r1, r2, hx⟩ := deeds_rows T.t_DEEDS
            refine ⟨⟨_, (hx H).1⟩, fun D nD => deeds_lc T.t_DEEDS nD ⟨_, _, _, rfl⟩ fun H2 s2 h2 => ?_⟩
            refine ⟨dk, [.str "send", .str "receive"], Dp.same s2 _ _ hk, .lst (lsq h2) (.cons (.str _) (.cons (.str _) .nil)), fine_shaped fk, by decide +kernel, _, rfl, ite2 (fun e => ?_) (fun e => ?_)⟩
            · refine ⟨_, rfl, a, _, _, vm, rfl, rfl, SqT.same s2 sx, rfl, vm, dm, rfl, Dp.same s2 _ _ hm, fm, fun H3 s3 => ?_⟩
              have e2 : deedD (.tuple [dk, dm]) = nameD 4 dm := by
                show (([PyData.str "send", PyData.str "receive"].any fun z => PyData.eqv z dk) && nameD 4 dm) = _
                rw [e, Bool.true_and]
              have := k H3 (s2.trans s3)
              rw [e2] at this
              exact this
            · have e2 : deedD (.tuple [dk, dm]) = false := by
                show (([PyData.str "send", PyData.str "receive"].any fun z => PyData.eqv z dk) && nameD 4 dm) = _
                rw [Bool.eq_false_iff.mpr e, Bool.false_and]
              have := k H2 s2
              rw [e2] at this
              exact this
      | [], dx, lx, hf, k =>
        rw [show xs.length = 0 from lx]
        exact iteT (k H (Same.refl _))
      | [_], dx, lx, hf, k =>
        rw [show xs.length = 1 from lx]
        exact iteT (k H (Same.refl _))
      | _ :: _ :: _ :: ds, dx, lx, hf, k =>
        rw [show xs.length = ds.length + 3 from lx]
        have hne : (!decide (V.int ((ds.length + 3 : Nat) : Int) = V.int 2)) = true := by
          rw [Bool.not_eq_true', decide_eq_false_iff_not]
          intro z
          have := V.int.inj z
          omega
        rw [hne]
        exact iteT (k H (Same.refl _))
    | bool b =>
      cases hv
      exact ⟨_, rfl, rfl, _, rfl, iteF ⟨_, rfl, _, _, _, rfl, rfl, .bl b, _, rfl, iteT (iteT (k H (Same.refl _)))⟩⟩
    | int b =>
      cases hv
      exact ⟨_, rfl, rfl, _, rfl, iteF ⟨_, rfl, _, _, _, rfl, rfl, .int b, _, rfl, iteT (iteT (k H (Same.refl _)))⟩⟩
    | str b =>
      cases hv
      exact ⟨_, rfl, rfl, _, rfl, iteF ⟨_, rfl, _, _, _, rfl, rfl, .str b, _, rfl, iteT (iteT (k H (Same.refl _)))⟩⟩
    | list ds =>
      obtain ⟨a, xs, rfl, sx, dx⟩ := Dp.lenL hv
      exact ⟨_, rfl, rfl, _, rfl, iteF ⟨_, rfl, _, _, _, rfl, rfl, hv, _, rfl, iteT (iteT (k H (Same.refl _)))⟩⟩
    | dict ds => cases hv
end
end My

set_option Elab.async false
set_option linter.all false
set_option maxRecDepth 100000
namespace My
open PySem PySem.Spec PyProof.Rows L2 TL PySem.PyData
/-! ### the mathematics of names -/
theorem let_lt : ∀ c ∈ letters.cps.toList, c < 128 := by decide +kernel
theorem strOk_of {z : Str} (h : ∀ c ∈ z.cps.toList, c < 128) : strOk z = true := by
  unfold strOk
  rw [← Array.all_toList, List.all_eq_true]
  intro c hc
  have := h c hc
  exact decide_eq_true (by omega)
theorem fine_str {z : Str} (h : ∀ c ∈ z.cps.toList, c < 128) (hl : z.length ≤ 5000) : fine (.str z) = true := by
  show (decide (z.length ≤ 5000) && (strOk z && decide (0 ≤ 64))) = true
  rw [strOk_of h, decide_eq_true hl]
  rfl
theorem len_list (z : Str) : z.length = z.cps.toList.length := by simp [Str.length]
theorem empty_len {z : Str} : decide (V.str z = V.str "") = decide (z.length = 0) := by
  rw [Bool.eq_iff_iff, decide_eq_true_iff, decide_eq_true_iff]
  constructor
  · intro e
    rw [V.str.inj e]
    rfl
  · intro e
    have : z = "" := ext_tl (by
      rw [len_tl] at e
      rw [List.eq_nil_of_length_eq_zero e]
      rfl)
    rw [this]
theorem name_good {z : Str} {m : Int} (h : ∀ c ∈ z.cps.toList, c ∈ letters.cps.toList) : nameD m (.str z) = (decide (1 ≤ (z.length : Int)) && decide ((z.length : Int) ≤ m)) := by
  show (decide ((z.length : Int) ≤ m) && (!decide (V.str z = V.str "") && (z.cps.toList.map fun c => decide (c ∈ letters.cps.toList)).all id)) = _
  have e : (z.cps.toList.map fun c => decide (c ∈ letters.cps.toList)).all id = true := by
    rw [List.all_eq_true]
    intro b hb
    obtain ⟨c, hc, rfl⟩ := List.mem_map.mp hb
    exact decide_eq_true (h c hc)
  rw [e, empty_len, Bool.and_true, Bool.and_comm]
  congr 1
  rw [Bool.eq_iff_iff, Bool.not_eq_true', decide_eq_false_iff_not, decide_eq_true_iff]
  omega
theorem name_bad {z : Str} {m : Int} {c : Nat} (h : c ∈ z.cps.toList) (hc : c ∉ letters.cps.toList) : nameD m (.str z) = false := by
  show (decide ((z.length : Int) ≤ m) && (!decide (V.str z = V.str "") && (z.cps.toList.map fun c => decide (c ∈ letters.cps.toList)).all id)) = false
  have e : (z.cps.toList.map fun c => decide (c ∈ letters.cps.toList)).all id = false := by
    rw [List.all_eq_false]
    exact ⟨false, List.mem_map.mpr ⟨c, h, decide_eq_false hc⟩, by decide⟩
  rw [e, Bool.and_false, Bool.and_false]
theorem tl_signs : ∀ cs : List Nat, tl (Txt.join "" (cs.map fun c => (⟨#[c]⟩ : Str))) = cs := fun cs => by
  rw [join_eq, tl_join]
  induction cs with
  | nil => rfl
  | cons c r ih =>
    cases r with
    | nil => rfl
    | cons c' r =>
      show tl (⟨#[c]⟩ : Str) ++ (tl "" ++ joinL (tl "") ((( c' :: r).map fun c => (⟨#[c]⟩ : Str)).map tl)) = c :: c' :: r
      rw [ih]
      rfl
/-! ### steps -/
section
variable {P : Program} {w : World} {K : PySem.W.Frag} {mg : Str → Option Value} {base : Heap} {A : Top}
theorem ok_is_step (T : TopOk K mg A) : FnOk P w K mg base CX0 4 A.f_is_step A.d_is_step P_is_step (spD K stepD) := by
  have G_is_word : FnOk P w K mg base CX0 2 A.f_is_word A.d_is_word P_is_word (spD K (nameD 4)) := ok_is_word T
  have G_is_number : FnOk P w K mg base CX0 1 A.f_is_number A.d_is_number P_is_number (spNum K) := ok_is_number T
  have G_is_deed : FnOk P w K mg base CX0 3 A.f_is_deed A.d_is_deed P_is_deed (spD K deedD) := ok_is_deed T
  refine T.F_is_step.ok sc_is_step (fun vs H Q E h => ?_) (fun cdv Ar outer s H vs Q E hr h => ?_)
  · obtain ⟨x, d, rfl, _⟩ := h
    rfl
  · obtain ⟨v, d, rfl, hv, hf, k⟩ := h
    refine ⟨_, (pss_cons (ps_if (PW.pt (pw_or (pt_not (pt_val (pe_callB call_isD (by rfl) T.b_isinstance (by decide +kernel) (pa_cons (pv 0) (pa_cons (pe_bltn (v := .ty "tuple") (by rfl) T.b_tuple (by decide +kernel) rfl) pa_nil))))) (pw_or1 (pt_cmpR op_ne (pe_callB call_len (by rfl) T.b_len (by decide +kernel) (pa_cons (pv 0) pa_nil)) pe_int (nomark _)))))
      (pss_one (ps_ret pe_bl))
      pss_nil)
      (pss_cons (ps_asg (pv 0) (pg_tup rfl (pgs_cons (pg_name (i := 1) sc_is_step.nd rfl (by first | exact Or.inl rfl | exact Or.inr rfl)) (pgs_cons (pg_name (i := 2) sc_is_step.nd rfl (by first | exact Or.inl rfl | exact Or.inr rfl)) (pgs_cons (pg_name (i := 3) sc_is_step.nd rfl (by first | exact Or.inl rfl | exact Or.inr rfl)) pgs_nil)))))
      (pss_one (ps_ret (pe_and (pe_call G_is_word (hr.mono (by decide)) (by rfl) T.g_is_word T.F_is_word.kp T.a_is_word .nil pass0 (pa_cons (pv 1) pa_nil)) (pe_and (pe_call G_is_number (hr.mono (by decide)) (by rfl) T.g_is_number T.F_is_number.kp T.a_is_number .nil pass0 (pa_cons (pv 2) (pa_cons (pe_glob (by rfl) T.c_LEAST T.r_LEAST) (pa_cons (pe_glob (by rfl) T.c_MOST T.r_MOST) pa_nil)))) (pe_one (pe_call G_is_deed (hr.mono (by decide)) (by rfl) T.g_is_deed T.F_is_deed.kp T.a_is_deed .nil pass0 (pa_cons (pv 3) pa_nil))))))))), ?_⟩
    cases d with
    | tuple ds =>
      obtain ⟨a, xs, rfl, sx, dx⟩ := Dp.lenT hv
      have lx := DpAll.length dx
      refine ⟨_, rfl, _, _, _, rfl, rfl, hv, _, rfl, iteF ?_⟩
      refine ⟨_, rfl, .ref a, xs.length, rfl, .inr ⟨xs, sx, rfl⟩, rfl, _, rfl, ?_⟩
      match ds, dx, lx, hf, k with
      | [dm, dn, dd], dx, lx, hf, k =>
        cases dx with
        | @cons vm _ _ _ hm dx =>
          cases dx with
          | @cons vn _ _ _ hn dx =>
            cases dx with
            | @cons vd _ _ _ hd dx =>
              cases dx
              refine iteF ?_
              have fm : fine dm = true := fine_get (i := 0) hf rfl
              have fn : fine dn = true := fine_get (i := 1) hf rfl
              have fd : fine dd = true := fine_get (i := 2) hf rfl
              refine ⟨_, rfl, a, _, rfl, sx, rfl, _, _, rfl, _, _, rfl, _, _, rfl, rfl, ?_⟩
              refine ⟨_, rfl, vm, dm, rfl, hm, fm, fun H1 s1 => ⟨_, rfl, ite2 (fun e => ?_) (fun e => ?_)⟩⟩
              · refine ⟨_, rfl, vn, dn, -99, 99, rfl, Dp.same s1 _ _ hn, fn, _, rfl, ite2 (fun e' => ?_) (fun e' => ?_)⟩
                · refine ⟨_, rfl, vd, dd, rfl, Dp.same s1 _ _ hd, fd, fun H2 s2 => ?_⟩
                  have e2 : stepD (.tuple [dm, dn, dd]) = deedD dd := by
                    show (nameD 4 dm && (numD (-99) 99 dn && deedD dd)) = _
                    rw [e, e', Bool.true_and, Bool.true_and]
                  have := k H2 (s1.trans s2)
                  rw [e2] at this
                  exact this
                · have e2 : stepD (.tuple [dm, dn, dd]) = false := by
                    show (nameD 4 dm && (numD (-99) 99 dn && deedD dd)) = _
                    rw [Bool.eq_false_iff.mpr e', Bool.false_and, Bool.and_false]
                  have := k H1 s1
                  rw [e2] at this
                  exact this
              · have e2 : stepD (.tuple [dm, dn, dd]) = false := by
                  show (nameD 4 dm && (numD (-99) 99 dn && deedD dd)) = _
                  rw [Bool.eq_false_iff.mpr e, Bool.false_and]
                have := k H1 s1
                rw [e2] at this
                exact this
      | [], dx, lx, hf, k =>
        rw [show xs.length = 0 from lx]
        exact iteT (k H (Same.refl _))
      | [_], dx, lx, hf, k =>
        rw [show xs.length = 1 from lx]
        exact iteT (k H (Same.refl _))
      | [_, _], dx, lx, hf, k =>
        rw [show xs.length = 2 from lx]
        exact iteT (k H (Same.refl _))
      | _ :: _ :: _ :: _ :: ds, dx, lx, hf, k =>
        rw [show xs.length = ds.length + 4 from lx]
        have hne : (!decide (V.int ((ds.length + 4 : Nat) : Int) = V.int 3)) = true := by
          rw [Bool.not_eq_true', decide_eq_false_iff_not]
          intro z
          have := V.int.inj z
          omega
        rw [hne]
        exact iteT (k H (Same.refl _))
    | dict ds => cases hv
    | _ => exact ⟨_, rfl, _, _, _, rfl, rfl, hv, _, rfl, iteT (iteT (k H (Same.refl _)))⟩
end
end My

set_option Elab.async false
set_option linter.all false
set_option maxRecDepth 100000
namespace My
open PySem PySem.Spec PyProof.Rows L2 TL
/-! ### the texts of steps, as the program reckons them -/
def digitsS : Str := "0123456789"
def numS (n : Int) : Str := Str.ofString (toString n)
def numT (m : Str) (n : Int) : Str := if n ≠ 0 then ((Str.empty ++ m) ++ "=") ++ numS n else m
def deedX (t : Str) : PyData → Str
  | .tuple [.str k, .str w] => if k = "send" then ((Str.empty ++ t) ++ "!") ++ w else if k = "receive" then ((Str.empty ++ t) ++ "?") ++ w else t
  | _ => t
def textD : PyData → Str
  | .tuple [.str m, .int n, dd] => deedX (numT m n) dd
  | _ => ""
theorem ne_rs : ¬ (("receive" : Str) = "send") := by decide +kernel
theorem deedX_s (t w : Str) : deedX t (.tuple [.str "send", .str w]) = ((Str.empty ++ t) ++ "!") ++ w := by
  show (if ("send" : Str) = "send" then ((Str.empty ++ t) ++ "!") ++ w else if ("send" : Str) = "receive" then ((Str.empty ++ t) ++ "?") ++ w else t) = _
  rw [if_pos rfl]
theorem deedX_r (t w : Str) : deedX t (.tuple [.str "receive", .str w]) = ((Str.empty ++ t) ++ "?") ++ w := by
  show (if ("receive" : Str) = "send" then ((Str.empty ++ t) ++ "!") ++ w else if ("receive" : Str) = "receive" then ((Str.empty ++ t) ++ "?") ++ w else t) = _
  rw [if_neg ne_rs, if_pos rfl]
def splitD (t : Str) : Str × PyData :=
  if ((Txt.partition t "!").2.1.length : Int) != 0 then ((Txt.partition t "!").1, .tuple [.str "send", .str (Txt.partition t "!").2.2])
  else if ((Txt.partition t "?").2.1.length : Int) != 0 then ((Txt.partition t "?").1, .tuple [.str "receive", .str (Txt.partition t "?").2.2])
  else (t, .none)
def readNum (t : Str) : PyData := if (decide ((2 : Int) < ((Txt.removeprefix t "-").length : Int)) || !consS (Txt.removeprefix t "-") digitsS) = true then .none else .int ((intText? t).getD 0)
def stepOf (t : Str) : PyData :=
  .tuple [.str (Txt.partition (splitD t).1 "=").1, if ((Txt.partition (splitD t).1 "=").2.1.length : Int) != 0 then readNum (Txt.partition (splitD t).1 "=").2.2 else .int 0, (splitD t).2]
def readD : PyData → PyData
  | .str t => if stepD (stepOf t) = true ∧ textD (stepOf t) = t then stepOf t else .none
  | _ => .none
/-! ### what a right step is -/
theorem name_inv {x : Str} {k : Int} (h : nameD k (.str x) = true) : (∀ c ∈ tl x, c ∈ letters.cps.toList) ∧ tl x ≠ [] ∧ (x.length : Int) ≤ k := by
  have h' : (decide ((x.length : Int) ≤ k) && (!decide (V.str x = V.str "") && (x.cps.toList.map fun c => decide (c ∈ letters.cps.toList)).all id)) = true := h
  rw [empty_len] at h'
  obtain ⟨h1, h2⟩ := Bool.and_eq_true_iff.mp h'
  obtain ⟨h2, h3⟩ := Bool.and_eq_true_iff.mp h2
  refine ⟨fun c hc => ?_, fun e => ?_, of_decide_eq_true h1⟩
  · have := List.all_eq_true.mp h3 (decide (c ∈ letters.cps.toList)) (List.mem_map.mpr ⟨c, hc, rfl⟩)
    exact of_decide_eq_true this
  · have e0 : x.length = 0 := by rw [len_tl, e]; rfl
    rw [e0] at h2
    exact absurd h2 (by decide)
theorem name_str {d : PyData} {k : Int} (h : nameD k d = true) : ∃ x, d = .str x := by
  cases d with
  | str x => exact ⟨x, rfl⟩
  | _ => exact absurd h (by simp [nameD])
def Deed : PyData → Prop := fun d => d = .none ∨ ∃ w, nameD 4 (.str w) = true ∧ (d = .tuple [.str "send", .str w] ∨ d = .tuple [.str "receive", .str w])
theorem eqv_str {k : PyData} {z : Str} (h : PyData.eqv (.str z) k = true) : k = .str z := by
  cases k with
  | str x => exact congrArg PyData.str (eq_of_beq h).symm
  | _ => exact absurd h (by simp [PyData.eqv])
theorem deed_inv {d : PyData} (h : deedD d = true) : Deed d := by
  unfold deedD at h
  split at h
  · exact .inl rfl
  · rename_i k m
    obtain ⟨h1, h2⟩ := Bool.and_eq_true_iff.mp h
    obtain ⟨w, rfl⟩ := name_str h2
    refine .inr ⟨w, h2, ?_⟩
    have h3 : (PyData.eqv (.str "send") k || (PyData.eqv (.str "receive") k || false)) = true := h1
    rcases Bool.or_eq_true_iff.mp h3 with h3 | h3
    · exact .inl (by rw [eqv_str h3])
    · rw [Bool.or_false] at h3
      exact .inr (by rw [eqv_str h3])
  · exact absurd h (by decide)
theorem step_inv {d : PyData} (h : stepD d = true) : ∃ m n dd, d = .tuple [.str m, .int n, dd] ∧ nameD 4 (.str m) = true ∧ -99 ≤ n ∧ n ≤ 99 ∧ Deed dd := by
  unfold stepD at h
  split at h
  · rename_i m n dd
    obtain ⟨h1, h2⟩ := Bool.and_eq_true_iff.mp h
    obtain ⟨h2, h3⟩ := Bool.and_eq_true_iff.mp h2
    obtain ⟨x, rfl⟩ := name_str h1
    cases n with
    | int i =>
      obtain ⟨h4, h5⟩ := Bool.and_eq_true_iff.mp (show (decide (-99 ≤ i) && decide (i ≤ 99)) = true from h2)
      exact ⟨x, i, dd, rfl, h1, of_decide_eq_true h4, of_decide_eq_true h5, deed_inv h3⟩
    | _ => exact absurd h2 (by simp [numD])
  · exact absurd h (by decide)
/-! ### numbers, each by itself -/
def numOk (n : Int) : Bool := (tl (numS n)).all (fun c => c == 45 || (decide (48 ≤ c) && decide (c ≤ 57))) && decide ((numS n).length ≤ 3) &&
  (match (tl (numS n)).getLast? with | some c => decide (48 ≤ c) && decide (c ≤ 57) | none => false) && (match readNum (numS n) with | .int k => k == n | _ => false)
theorem nums_ok : ((List.range 199).all fun k => numOk ((k : Int) - 99)) = true := by decide +kernel
theorem num_ok {n : Int} (h : -99 ≤ n ∧ n ≤ 99) : numOk n = true := by
  have := List.all_eq_true.mp nums_ok (n + 99).toNat (List.mem_range.mpr (by omega))
  rw [show (((n + 99).toNat : Nat) : Int) - 99 = n by omega] at this
  exact this
/-! ### the text of a right step is read back -/
theorem letter_of {c : Nat} (h : c ∈ letters.cps.toList) : 97 ≤ c ∧ c ≤ 122 := by
  have : ∀ c ∈ letters.cps.toList, 97 ≤ c ∧ c ≤ 122 := by decide +kernel
  exact this c h
def midL (n : Int) : List Nat := if n ≠ 0 then 61 :: tl (numS n) else []
def deedT : PyData → List Nat
  | .tuple [.str k, .str w] => if k = "send" then 33 :: tl w else if k = "receive" then 63 :: tl w else []
  | _ => []
theorem deedT_s (w : Str) : deedT (.tuple [.str "send", .str w]) = 33 :: tl w := by
  show (if ("send" : Str) = "send" then 33 :: tl w else if ("send" : Str) = "receive" then 63 :: tl w else []) = _
  rw [if_pos rfl]
theorem deedT_r (w : Str) : deedT (.tuple [.str "receive", .str w]) = 63 :: tl w := by
  show (if ("receive" : Str) = "send" then 33 :: tl w else if ("receive" : Str) = "receive" then 63 :: tl w else []) = _
  rw [if_neg ne_rs, if_pos rfl]
theorem tl_text (m : Str) (n : Int) (dd : PyData) (h : Deed dd) : tl (textD (.tuple [.str m, .int n, dd])) = tl m ++ midL n ++ deedT dd := by
  have e1 : tl (numT m n) = tl m ++ midL n := by
    unfold midL numT
    by_cases hn : n ≠ 0
    · rw [if_pos hn, if_pos hn, tl_append, tl_append, tl_append]
      show [] ++ tl m ++ [61] ++ tl (numS n) = tl m ++ 61 :: tl (numS n)
      simp
    · rw [if_neg hn, if_neg hn, List.append_nil]
  show tl (deedX (numT m n) dd) = _
  rcases h with rfl | ⟨w, hw, rfl | rfl⟩
  · show tl (numT m n) = _
    rw [e1]
    exact (List.append_nil _).symm
  · rw [deedX_s, deedT_s, tl_append, tl_append, tl_append, e1]
    show [] ++ (tl m ++ midL n) ++ [33] ++ tl w = tl m ++ midL n ++ 33 :: tl w
    simp
  · rw [deedX_r, deedT_r, tl_append, tl_append, tl_append, e1]
    show [] ++ (tl m ++ midL n) ++ [63] ++ tl w = tl m ++ midL n ++ 63 :: tl w
    simp
theorem num_signs {n : Int} (h : -99 ≤ n ∧ n ≤ 99) {c : Nat} (hc : c ∈ tl (numS n)) : c = 45 ∨ (48 ≤ c ∧ c ≤ 57) := by
  have h1 := num_ok h
  unfold numOk at h1
  have h2 := (Bool.and_eq_true_iff.mp (Bool.and_eq_true_iff.mp (Bool.and_eq_true_iff.mp h1).1).1).1
  have h3 := List.all_eq_true.mp h2 c hc
  rcases Bool.or_eq_true_iff.mp h3 with h3 | h3
  · exact .inl (eq_of_beq h3)
  · obtain ⟨a, b⟩ := Bool.and_eq_true_iff.mp h3
    exact .inr ⟨of_decide_eq_true a, of_decide_eq_true b⟩
theorem num_back {n : Int} (h : -99 ≤ n ∧ n ≤ 99) : readNum (numS n) = .int n := by
  have h1 := num_ok h
  unfold numOk at h1
  have h2 := (Bool.and_eq_true_iff.mp h1).2
  cases e : readNum (numS n) with
  | int k => rw [e] at h2; exact congrArg PyData.int (eq_of_beq h2)
  | _ => rw [e] at h2; exact absurd (show false = true from h2) Bool.false_ne_true
theorem num_len {n : Int} (h : -99 ≤ n ∧ n ≤ 99) : (numS n).length ≤ 3 := by
  have h1 := num_ok h
  unfold numOk at h1
  exact of_decide_eq_true (Bool.and_eq_true_iff.mp (Bool.and_eq_true_iff.mp (Bool.and_eq_true_iff.mp h1).1).1).2
theorem num_last {n : Int} (h : -99 ≤ n ∧ n ≤ 99) : ∃ c, (tl (numS n)).getLast? = some c ∧ 48 ≤ c ∧ c ≤ 57 := by
  have h1 := num_ok h
  unfold numOk at h1
  have h2 := (Bool.and_eq_true_iff.mp (Bool.and_eq_true_iff.mp h1).1).2
  cases e : (tl (numS n)).getLast? with
  | some c =>
    rw [e] at h2
    obtain ⟨a, b⟩ := Bool.and_eq_true_iff.mp h2
    exact ⟨c, rfl, of_decide_eq_true a, of_decide_eq_true b⟩
  | none => rw [e] at h2; exact absurd (show false = true from h2) Bool.false_ne_true
theorem head_signs {m : Str} {n : Int} (hm : nameD 4 (.str m) = true) (hn : -99 ≤ n ∧ n ≤ 99) {c : Nat} (hc : c ∈ tl m ++ midL n) : (97 ≤ c ∧ c ≤ 122) ∨ c = 61 ∨ c = 45 ∨ (48 ≤ c ∧ c ≤ 57) := by
  rcases List.mem_append.mp hc with hc | hc
  · exact .inl (letter_of ((name_inv hm).1 c hc))
  · unfold midL at hc
    split at hc
    · rcases List.mem_cons.mp hc with hc | hc
      · exact .inr (.inl hc)
      · exact .inr (.inr (num_signs hn hc))
    · cases hc
def headS (m : Str) (n : Int) : Str := ⟨(tl m ++ midL n).toArray⟩
theorem tl_head (m : Str) (n : Int) : tl (headS m n) = tl m ++ midL n := rfl
theorem split_text {m : Str} {n : Int} {dd : PyData} (hm : nameD 4 (.str m) = true) (hn : -99 ≤ n ∧ n ≤ 99) (hd : Deed dd) : splitD (textD (.tuple [.str m, .int n, dd])) = (headS m n, dd) := by
  have et := tl_text m n dd hd
  have h33 : (33 : Nat) ∉ tl (headS m n) := fun hc => by have := head_signs hm hn (c := 33) hc; omega
  have h63 : (63 : Nat) ∉ tl (headS m n) := fun hc => by have := head_signs hm hn (c := 63) hc; omega
  have z : ((Str.empty.length : Int) != 0) = false := by decide +kernel
  rcases hd with rfl | ⟨w, hw, rfl | rfl⟩
  · have e : textD (.tuple [.str m, .int n, .none]) = headS m n := ext_tl (by rw [et, tl_head]; exact List.append_nil _)
    rw [e]
    unfold splitD
    rw [partition_none (y := "!") (s := 33) (S := []) rfl h33, partition_none (y := "?") (s := 63) (S := []) rfl h63, z]
    rfl
  · have e : textD (.tuple [.str m, .int n, .tuple [.str "send", .str w]]) = headS m n ++ "!" ++ w := ext_tl (by
      rw [et, deedT_s, tl_append, tl_append, tl_head]
      show tl m ++ midL n ++ 33 :: tl w = tl m ++ midL n ++ [33] ++ tl w
      simp)
    rw [e]
    unfold splitD
    rw [partition_app (y := "!") (s := 33) (S := []) rfl h33]
    rfl
  · have ne : ¬ (("receive" : Str) = "send") := by decide +kernel
    have e : textD (.tuple [.str m, .int n, .tuple [.str "receive", .str w]]) = headS m n ++ "?" ++ w := ext_tl (by
      rw [et, deedT_r, tl_append, tl_append, tl_head]
      show tl m ++ midL n ++ 63 :: tl w = tl m ++ midL n ++ [63] ++ tl w
      simp)
    have hw33 : (33 : Nat) ∉ tl (headS m n ++ "?" ++ w) := fun hc => by
      rw [tl_append, tl_append] at hc
      rcases List.mem_append.mp hc with hc | hc
      · rcases List.mem_append.mp hc with hc | hc
        · exact h33 hc
        · exact absurd hc (by decide +kernel)
      · have := letter_of ((name_inv hw).1 33 hc)
        omega
    rw [e]
    unfold splitD
    rw [partition_none (y := "!") (s := 33) (S := []) rfl hw33, partition_app (y := "?") (s := 63) (S := []) rfl h63, z]
    rfl
theorem step_back {d : PyData} (h : stepD d = true) : stepOf (textD d) = d := by
  obtain ⟨m, n, dd, rfl, hm, h1, h2, hd⟩ := step_inv h
  have hs := split_text hm ⟨h1, h2⟩ hd
  have z : ((Str.empty.length : Int) != 0) = false := by decide +kernel
  have h61 : (61 : Nat) ∉ tl m := fun hc => by have := letter_of ((name_inv hm).1 61 hc); omega
  unfold stepOf
  rw [hs]
  by_cases hn : n ≠ 0
  · have e : headS m n = m ++ "=" ++ numS n := ext_tl (by
      rw [tl_head, tl_append, tl_append]
      unfold midL
      rw [if_pos hn]
      show tl m ++ 61 :: tl (numS n) = tl m ++ [61] ++ tl (numS n)
      simp)
    dsimp only
    rw [e, partition_app (y := "=") (s := 61) (S := []) rfl h61]
    show PyData.tuple [.str m, if ((("=" : Str).length : Int) != 0) = true then readNum (numS n) else .int 0, dd] = _
    rw [if_pos (by decide +kernel), num_back ⟨h1, h2⟩]
  · have e : headS m n = m := ext_tl (by
      rw [tl_head]
      unfold midL
      rw [if_neg hn, List.append_nil])
    have n0 : n = 0 := by omega
    dsimp only
    rw [e, partition_none (y := "=") (s := 61) (S := []) rfl h61]
    dsimp only
    rw [z, n0]
    rfl
theorem read_back {d : PyData} (h : stepD d = true) : readD (.str (textD d)) = d := by
  show (if stepD (stepOf (textD d)) = true ∧ textD (stepOf (textD d)) = textD d then stepOf (textD d) else .none) = d
  rw [step_back h, if_pos ⟨h, rfl⟩]
theorem read_not {t : Str} (h : ∀ d, stepD d = true → textD d ≠ t) : readD (.str t) = .none := by
  show (if stepD (stepOf t) = true ∧ textD (stepOf t) = t then stepOf t else .none) = .none
  rw [if_neg fun z => h _ z.1 z.2]
/-- how a right step's text begins and ends -/
theorem text_ends {d : PyData} (h : stepD d = true) : (∃ c, (tl (textD d)).head? = some c ∧ 97 ≤ c ∧ c ≤ 122) ∧ ∃ c, (tl (textD d)).getLast? = some c ∧ ((97 ≤ c ∧ c ≤ 122) ∨ (48 ≤ c ∧ c ≤ 57)) := by
  obtain ⟨m, n, dd, rfl, hm, h1, h2, hd⟩ := step_inv h
  rw [tl_text m n dd hd]
  obtain ⟨hl, hne, _⟩ := name_inv hm
  have last : ∀ {x : Str}, nameD 4 (.str x) = true → ∃ c, (tl x).getLast? = some c ∧ 97 ≤ c ∧ c ≤ 122 := fun {x} hx => by
    obtain ⟨a, b, _⟩ := name_inv hx
    refine ⟨(tl x).getLast b, List.getLast?_eq_getLast b, letter_of (a _ (List.getLast_mem b))⟩
  constructor
  · obtain ⟨c, r, e⟩ : ∃ c r, tl m = c :: r := by
      cases e : tl m with
      | nil => exact absurd e hne
      | cons c r => exact ⟨c, r, rfl⟩
    rw [e]
    exact ⟨c, rfl, letter_of (hl c (by rw [e]; exact List.mem_cons_self ..))⟩
  · have e0 : ∃ c, (tl m ++ midL n).getLast? = some c ∧ ((97 ≤ c ∧ c ≤ 122) ∨ (48 ≤ c ∧ c ≤ 57)) := by
      unfold midL
      split
      · obtain ⟨c, hc, h3⟩ := num_last ⟨h1, h2⟩
        refine ⟨c, ?_, .inr h3⟩
        rw [List.getLast?_append, List.getLast?_cons, hc]
        rfl
      · obtain ⟨c, hc, h3⟩ := last hm
        exact ⟨c, by rw [List.append_nil]; exact hc, .inl h3⟩
    rcases hd with rfl | ⟨w, hw, rfl | rfl⟩
    · show ∃ c, (tl m ++ midL n ++ []).getLast? = some c ∧ _
      rw [List.append_nil]
      exact e0
    all_goals
      obtain ⟨c, hc, h3⟩ := last hw
      refine ⟨c, ?_, .inl h3⟩
    · rw [deedT_s, List.getLast?_append, List.getLast?_cons, hc]
      rfl
    · rw [deedT_r, List.getLast?_append, List.getLast?_cons, hc]
      rfl
end My

set_option Elab.async false
set_option linter.all false
set_option maxRecDepth 100000
namespace My
open PySem PySem.Spec PyProof.Rows L2 TL PySem.StrLaws NumText
/-! ### the two kinds of deeds, one behind the other -/
def kd (i : Nat) : Str := if i = 0 then "send" else "receive"
def sg (i : Nat) : Str := if i = 0 then "!" else "?"
def stepX (t : Str) (i : Nat) : PyData → Str
  | .tuple [.str k, .str w] => if k = kd i then ((Str.empty ++ t) ++ sg i) ++ w else t
  | _ => t
def curD (t : Str) (dd : PyData) : Nat → Str
  | 0 => t
  | i + 1 => stepX (curD t dd i) i dd
theorem cur_end (t : Str) {dd : PyData} (h : Deed dd) : curD t dd 2 = deedX t dd := by
  rcases h with rfl | ⟨w, _, rfl | rfl⟩
  · rfl
  · rw [deedX_s]
    show (if ("send" : Str) = "receive" then ((Str.empty ++ (if ("send" : Str) = "send" then ((Str.empty ++ t) ++ "!") ++ w else t)) ++ "?") ++ w else (if ("send" : Str) = "send" then ((Str.empty ++ t) ++ "!") ++ w else t)) = _
    rw [if_neg (show ¬ (("send" : Str) = "receive") by decide +kernel), if_pos rfl]
  · rw [deedX_r]
    show (if ("receive" : Str) = "receive" then ((Str.empty ++ (if ("receive" : Str) = "send" then ((Str.empty ++ t) ++ "!") ++ w else t)) ++ "?") ++ w else (if ("receive" : Str) = "send" then ((Str.empty ++ t) ++ "!") ++ w else t)) = _
    rw [if_pos rfl, if_neg ne_rs]
theorem app_len (x y : Str) : (x ++ y).length = x.length + y.length := by
  rw [len_tl, len_tl, len_tl, tl_append, List.length_append]
theorem e_len (x : Str) : (Str.empty ++ x).length = x.length := by
  rw [app_len]
  show 0 + x.length = x.length
  omega
theorem sg_len (i : Nat) : (sg i).length = 1 := by
  unfold sg
  split <;> decide +kernel
theorem cur_len {t : Str} {dd : PyData} (ht : t.length ≤ 8) (h : Deed dd) : ∀ i, (curD t dd i).length ≤ 8 + 5 * i
  | 0 => by show t.length ≤ 8 + 5 * 0; omega
  | i + 1 => by
    have ih := cur_len ht h i
    show (stepX (curD t dd i) i dd).length ≤ _
    have one : ∀ k w : Str, nameD 4 (.str w) = true → (stepX (curD t dd i) i (.tuple [.str k, .str w])).length ≤ 8 + 5 * (i + 1) := fun k w hw => by
      have hl := (name_inv hw).2.2
      show (if k = kd i then ((Str.empty ++ curD t dd i) ++ sg i) ++ w else curD t dd i).length ≤ _
      split
      · rw [app_len, app_len, e_len, sg_len]
        omega
      · omega
    rcases h with rfl | ⟨w, hw, rfl | rfl⟩
    · show (curD t .none i).length ≤ _
      omega
    · exact one _ w hw
    · exact one _ w hw
theorem numT_len {m : Str} {n : Int} (hm : nameD 4 (.str m) = true) (hn : -99 ≤ n ∧ n ≤ 99) : (numT m n).length ≤ 8 := by
  have hl := (name_inv hm).2.2
  have h2 := num_len hn
  unfold numT
  split
  · rw [app_len, app_len, e_len]
    show m.length + 1 + (numS n).length ≤ 8
    omega
  · omega
theorem log_ok {n : Int} (hn : -99 ≤ n ∧ n ≤ 99) : n.natAbs.log2 < 1920 := by
  have : n.natAbs.log2 ≤ n.natAbs := Nat.log2_le_self _
  omega
def spText (K : PySem.W.Frag) : Sp := fun vs H Q _ => ∃ (v : V) (d : PyData), vs = [v] ∧ Dp K H v d ∧ stepD d = true ∧ Q (.str (textD d)) H
section
variable {P : Program} {w : World} {K : PySem.W.Frag} {mg : Str → Option Value} {base : Heap} {A : Top}
theorem row_at {q : Addr} {r1 r2 : V} {H : Hp} (hx : SqT K H q [r1, r2] ∧ (∃ t1, r1 = .ref t1 ∧ SqT K H t1 [.str "send", .str "!"]) ∧ (∃ t2, r2 = .ref t2 ∧ SqT K H t2 [.str "receive", .str "?"])) {i : Nat} {x : V} (hi : i < 2) (e : [r1, r2][i]? = some x) :
    ∃ t, x = .ref t ∧ SqT K H t [.str (kd i), .str (sg i)] := by
  obtain ⟨_, ⟨t1, rfl, q1⟩, ⟨t2, rfl, q2⟩⟩ := hx
  match i, hi with
  | 0, _ => exact ⟨t1, (Option.some.inj e).symm, q1⟩
  | 1, _ => exact ⟨t2, (Option.some.inj e).symm, q2⟩
/-- a deed's object -/
theorem deed_obj {H : Hp} {v : V} {dd : PyData} (h : Deed dd) (hv : Dp K H v dd) : (dd = .none ∧ v = .non) ∨ ∃ b k w, dd = .tuple [.str k, .str w] ∧ nameD 4 (.str w) = true ∧ v = .ref b ∧ SqT K H b [.str k, .str w] := by
  have one : ∀ k w : Str, nameD 4 (.str w) = true → Dp K H v (.tuple [.str k, .str w]) → ∃ b, v = .ref b ∧ SqT K H b [.str k, .str w] := fun k w _ h => by
    obtain ⟨b, xs, rfl, sb, db⟩ := Dp.lenT h
    cases db with
    | cons a1 db =>
      cases db with
      | cons a2 db =>
        cases db
        cases a1
        cases a2
        exact ⟨b, rfl, sb⟩
  rcases h with rfl | ⟨w, hw, rfl | rfl⟩
  · cases hv
    exact .inl ⟨rfl, rfl⟩
  · obtain ⟨b, e, sb⟩ := one _ w hw hv
    exact .inr ⟨b, _, w, rfl, hw, e, sb⟩
  · obtain ⟨b, e, sb⟩ := one _ w hw hv
    exact .inr ⟨b, _, w, rfl, hw, e, sb⟩
theorem ok_step_text (T : TopOk K mg A) : FnOk P w K mg base CX0 1 A.f_step_text A.d_step_text P_step_text (spText K) := by
  refine T.F_step_text.ok sc_step_text (fun vs H Q E h => ?_) (fun cdv Ar outer s H vs Q E hr h => ?_)
  · obtain ⟨x, d, rfl, _⟩ := h
    rfl
  · obtain ⟨v, d, rfl, hv, hs, k⟩ := h
    refine ⟨_, (pss_cons (ps_asg (pv 0) (pg_tup rfl (pgs_cons (pg_name (i := 2) sc_step_text.nd rfl (by first | exact Or.inl rfl | exact Or.inr rfl)) (pgs_cons (pg_name (i := 3) sc_step_text.nd rfl (by first | exact Or.inl rfl | exact Or.inr rfl)) (pgs_cons (pg_name (i := 4) sc_step_text.nd rfl (by first | exact Or.inl rfl | exact Or.inr rfl)) pgs_nil)))))
      (pss_cons (ps_set (i := 1) sc_step_text.nd rfl (by first | exact Or.inl rfl | exact Or.inr rfl) (pv 2))
      (Evl.pss_cut (ps_if (pt_cmpR op_ne (pv 3) pe_int (nomark _))
      (pss_one (ps_set (i := 1) sc_step_text.nd rfl (by first | exact Or.inl rfl | exact Or.inr rfl) (pe_joined (PJ.cons (pe_fmt (pv 1)) (PJ.cons pe_str (PJ.cons (pe_fmt (pv 3)) PJ.nil))))))
      pss_nil)
      (pss_cons (ps_for PassesOwn.never rfl (pi_tup (pe_glob (by rfl) T.c_DEEDS T.r_DEEDS)) (pg_tup rfl (pgs_cons (pg_name (i := 5) sc_step_text.nd rfl (by first | exact Or.inl rfl | exact Or.inr rfl)) (pgs_cons (pg_name (i := 6) sc_step_text.nd rfl (by first | exact Or.inl rfl | exact Or.inr rfl)) pgs_nil)))
      (pss_one (ps_if (PW.pt (pw_and (pt_cmpR op_notN (pv 4) pe_non (nomark _)) (pw_and1 (pt_cmpR op_eq (pe_ix ix_tup (pv 4) pe_int (fun _ _ => rfl)) (pv 5) (nomark _)))))
      (pss_one (ps_set (i := 1) sc_step_text.nd rfl (by first | exact Or.inl rfl | exact Or.inr rfl) (pe_joined (PJ.cons (pe_fmt (pv 1)) (PJ.cons (pe_fmt (pv 6)) (PJ.cons (pe_fmt (pe_ix ix_tup (pv 4) pe_int (fun _ _ => rfl))) PJ.nil))))))
      pss_nil)))
      (pss_one (ps_ret (pv 1))))))), ?_⟩
    obtain ⟨m, n, dd, rfl, hm, h1, h2, hd⟩ := step_inv hs
    obtain ⟨a, xs, rfl, sx, dx⟩ := Dp.lenT hv
    cases dx with
    | @cons vm _ _ _ dm dx =>
      cases dx with
      | @cons vn _ _ _ dn dx =>
        cases dx with
        | @cons vd _ _ _ ddv dx =>
          cases dx
          cases dm
          cases dn
          have lm := (name_inv hm).2.2
          have ln := num_len ⟨h1, h2⟩
          have lt := numT_len hm ⟨h1, h2⟩
          refine ⟨_, rfl, a, _, rfl, sx, rfl, _, _, rfl, _, _, rfl, _, _, rfl, rfl, _, rfl, ?_⟩
          refine ⟨fun σ' H' => σ' = [some (.ref a), some (.str (numT m n)), some (.str m), some (.int n), some vd, none, none] ∧ H' = H, ?_, ?_⟩
          · refine ⟨_, rfl, rfl, _, rfl, ite2 (fun e => ?_) (fun e => ?_)⟩
            · have hn : n ≠ 0 := fun z => by
                subst z
                exact absurd e (by decide)
              have l1 := e_len m
              have l2 := app_len (Str.empty ++ m) "="
              have l3 := app_len (Str.empty ++ m ++ "=") (numS n)
              have le : ("=" : Str).length = 1 := by decide +kernel
              refine ⟨_, rfl, .inl ⟨m, rfl, sz (by omega), m, rfl, sz (by omega), _, rfl, sz (by omega), _, rfl, .inr ⟨n, rfl, log_ok ⟨h1, h2⟩, _, rfl, sz (show (Str.empty ++ m ++ "=" ++ numS n).length ≤ 100000 by omega), ?_⟩⟩⟩
              refine ⟨?_, rfl⟩
              show [some (V.ref a), some (.str ((Str.empty ++ m ++ "=") ++ numS n)), some (.str m), some (.int n), some vd, none, none] = _
              unfold numT
              rw [if_pos hn]
            · have hn : ¬ n ≠ 0 := fun z => e (by
                rw [Bool.not_eq_true', decide_eq_false_iff_not]
                exact fun y => z (V.int.inj y))
              refine ⟨?_, rfl⟩
              unfold numT
              rw [if_neg hn]
              rfl
          · rintro σ' H' ⟨rfl, rfl⟩
            obtain ⟨r1, r2, hx⟩ := deeds_rows T.t_DEEDS
            refine ⟨A.q_DEEDS, rfl, ⟨_, (hx H').1⟩, for_it (walk_tup (xs := [r1, r2])) (fun i σ H2 => (∃ x5 x6, σ = [some (.ref a), some (.str (curD (numT m n) dd i)), some (.str m), some (.int n), some vd, x5, x6]) ∧ H2 = H') ⟨⟨_, _, rfl⟩, rfl⟩ (fun _ _ H2 _ _ => (hx H2).1) ?_ ?_⟩
            · rintro i x σ H2 H3 hi ⟨⟨x5, x6, rfl⟩, rfl⟩ ⟨rfl, ex⟩
              obtain ⟨t, rfl, qt⟩ := row_at (hx _) hi ex
              refine ⟨t, _, rfl, qt, rfl, _, _, rfl, _, _, rfl, rfl, ?_⟩
              rcases deed_obj hd ddv with ⟨rfl, rfl⟩ | ⟨b, k', w', rfl, hw, rfl, sb⟩
              · exact ⟨_, rfl, rfl, _, rfl, iteF (iteF ⟨⟨_, _, rfl⟩, rfl⟩)⟩
              · have lw := (name_inv hw).2.2
                have lc := cur_len lt hd i
                refine ⟨_, rfl, rfl, _, rfl, iteT ⟨_, rfl, b, _, _, _, rfl, rfl, sb, rfl, _, rfl, rfl, _, rfl, ite2 (fun e => ?_) (fun e => ?_)⟩⟩
                · have ek : k' = kd i := V.str.inj (of_decide_eq_true e)
                  have l1 := e_len (curD (numT m n) (.tuple [.str k', .str w']) i)
                  have l2 := app_len (Str.empty ++ curD (numT m n) (.tuple [.str k', .str w']) i) (sg i)
                  have l3 := app_len (Str.empty ++ curD (numT m n) (.tuple [.str k', .str w']) i ++ sg i) w'
                  have ls := sg_len i
                  have hi2 : i < 2 := hi
                  refine ⟨_, rfl, .inl ⟨_, rfl, sz (by omega), _, rfl, sz (by omega), _, rfl, .inl ⟨_, rfl, sz (by omega), _, rfl, sz (by omega), _, rfl, b, _, _, _, rfl, rfl, sb, rfl, .inl ⟨_, rfl, sz (by omega), _, rfl, sz (by omega), ?_⟩⟩⟩⟩
                  refine ⟨⟨some (.str (kd i)), some (.str (sg i)), ?_⟩, rfl⟩
                  rw [show curD (numT m n) (.tuple [.str k', .str w']) (i + 1) = ((Str.empty ++ curD (numT m n) (.tuple [.str k', .str w']) i) ++ sg i) ++ w' from if_pos ek]
                  rfl
                · have ek : ¬ k' = kd i := fun z => e (by rw [z]; exact decide_eq_true rfl)
                  refine ⟨⟨some (.str (kd i)), some (.str (sg i)), ?_⟩, rfl⟩
                  rw [show curD (numT m n) (.tuple [.str k', .str w']) (i + 1) = curD (numT m n) (.tuple [.str k', .str w']) i from if_neg ek]
                  rfl
            · rintro σ H2 ⟨⟨x5, x6, rfl⟩, rfl⟩
              refine ⟨_, rfl, ?_⟩
              have : textD (.tuple [.str m, .int n, dd]) = curD (numT m n) dd 2 := (cur_end _ hd).symm
              rw [this] at k
              exact k
/-! ### parts of texts -/
theorem part_mem {x y : Str} : (∀ c ∈ tl (Txt.partition x y).1, c ∈ tl x) ∧ (∀ c ∈ tl (Txt.partition x y).2.1, c ∈ tl y) ∧ (∀ c ∈ tl (Txt.partition x y).2.2, c ∈ tl x) ∧
    (Txt.partition x y).1.length ≤ x.length ∧ (Txt.partition x y).2.1.length ≤ y.length ∧ (Txt.partition x y).2.2.length ≤ x.length := by
  rcases PyProof.Rows.partition_whole x y with ⟨e, _⟩ | ⟨i, e, _, _⟩
  · rw [e]
    refine ⟨fun _ h => h, fun c h => absurd (show c ∈ ([] : List Nat) from h) List.not_mem_nil, fun c h => absurd (show c ∈ ([] : List Nat) from h) List.not_mem_nil, Nat.le_refl _, Nat.zero_le _, Nat.zero_le _⟩
  · rw [e]
    refine ⟨fun c h => ?_, fun _ h => h, fun c h => ?_, ?_, Nat.le_refl _, ?_⟩
    · have h' : c ∈ tl (Builtin.Str.strSub x 0 i) := h
      rw [tl_strSub] at h'
      exact List.mem_of_mem_drop (List.mem_of_mem_take h')
    · have h' : c ∈ tl (Builtin.Str.strSub x (i + y.length) x.length) := h
      rw [tl_strSub] at h'
      exact List.mem_of_mem_drop (List.mem_of_mem_take h')
    · show (Builtin.Str.strSub x 0 i).length ≤ x.length
      rw [len_tl, tl_strSub, len_tl x, List.length_take, List.length_drop]
      omega
    · show (Builtin.Str.strSub x (i + y.length) x.length).length ≤ x.length
      rw [len_tl, tl_strSub, len_tl x, List.length_take, List.length_drop]
      omega
def scV : PyData → V
  | .int n => .int n
  | _ => .non
def spNumOf : Sp := fun vs H Q _ => ∃ x : Str, vs = [.str x] ∧ x.length ≤ 5000 ∧ ∀ H', Same H H' → Q (scV (readNum x)) H'
def spSplit (K : PySem.W.Frag) : Sp := fun vs H Q _ => ∃ (p : Addr) (x : Str), vs = [.str x] ∧ (∃ o, H p = some o) ∧ x.length ≤ 5000 ∧
  ∀ t vd H', Same H H' → H' t = some (.tup [.str (splitD x).1, vd]) → Dd K p H' vd (splitD x).2 → Q (.ref t) H'
def spRead (K : PySem.W.Frag) : Sp := fun vs H Q _ => ∃ (p : Addr) (v : V) (d : PyData), vs = [v] ∧ (∃ o, H p = some o) ∧ Dd K p H v d ∧ fine d = true ∧ ∀ v' H', Same H H' → Dd K p H' v' (readD d) → Q v' H'
theorem ok_split_deed (T : TopOk K mg A) : FnOk P w K mg base CX0 1 A.f_split_deed A.d_split_deed P_split_deed (spSplit K) := by
  refine T.F_split_deed.ok sc_split_deed (fun vs H Q E h => ?_) (fun cdv Ar outer s H vs Q E hr h => ?_)
  · obtain ⟨p, x, rfl, _⟩ := h
    rfl
  · obtain ⟨p, x, rfl, hp, hl, k⟩ := h
    refine ⟨_, (pss_cons (ps_for PassesOwn.never rfl (pi_tup (pe_glob (by rfl) T.c_DEEDS T.r_DEEDS)) (pg_tup rfl (pgs_cons (pg_name (i := 1) sc_split_deed.nd rfl (by first | exact Or.inl rfl | exact Or.inr rfl)) (pgs_cons (pg_name (i := 2) sc_split_deed.nd rfl (by first | exact Or.inl rfl | exact Or.inr rfl)) pgs_nil)))
      (pss_cons (ps_asg (pe_partition (pv 0) (pv 2)) (pg_tup rfl (pgs_cons (pg_name (i := 3) sc_split_deed.nd rfl (by first | exact Or.inl rfl | exact Or.inr rfl)) (pgs_cons (pg_name (i := 4) sc_split_deed.nd rfl (by first | exact Or.inl rfl | exact Or.inr rfl)) (pgs_cons (pg_name (i := 5) sc_split_deed.nd rfl (by first | exact Or.inl rfl | exact Or.inr rfl)) pgs_nil)))))
      (pss_one (ps_if (pt_truth (pv 4) (by intro _; rfl))
      (pss_one (ps_ret (pe_tup (pa_cons (pv 3) (pa_cons (pe_tup (pa_cons (pv 1) (pa_cons (pv 5) pa_nil))) pa_nil)))))
      pss_nil))))
      (pss_one (ps_ret (pe_tup (pa_cons (pv 0) (pa_cons pe_non pa_nil)))))), ?_⟩
    obtain ⟨r1, r2, hx⟩ := deeds_rows T.t_DEEDS
    refine ⟨A.q_DEEDS, rfl, ⟨_, (hx H).1⟩, for_it (walk_tup (xs := [r1, r2])) (fun i σ H2 => (∃ x1 x2 x3 x4 x5, σ = [some (.str x), x1, x2, x3, x4, x5]) ∧ Same H H2 ∧ ∀ j, j < i → (((Txt.partition x (sg j)).2.1.length : Int) != 0) = false) ⟨⟨_, _, _, _, _, rfl⟩, Same.refl _, fun j hj => absurd hj (Nat.not_lt_zero j)⟩ (fun _ _ H2 _ _ => (hx H2).1) ?_ ?_⟩
    · rintro i y σ H2 H3 hi ⟨⟨x1, x2, x3, x4, x5, rfl⟩, s2, hj⟩ ⟨e3, ex⟩
      subst e3
      have hi2 : i < 2 := hi
      obtain ⟨t, rfl, qt⟩ := row_at (hx _) hi ex
      refine ⟨t, _, rfl, qt, rfl, _, _, rfl, _, _, rfl, rfl, ?_⟩
      have hsg : ((sg i).length == 0) = false := by rw [sg_len]; rfl
      obtain ⟨_, _, _, p1, p2, p3⟩ := part_mem (x := x) (y := sg i)
      have hsg2 := sg_len i
      refine ⟨_, rfl, ⟨_, rfl⟩, _, rfl, x, sg i, rfl, rfl, hsg, sz (by omega), fun q nq => ?_⟩
      refine ⟨q, _, rfl, tsq upd_same, rfl, _, _, rfl, _, _, rfl, _, _, rfl, rfl, ?_⟩
      have s3 := s2.trans (same_upd (o := .tup [.str (Txt.partition x (sg i)).1, .str (Txt.partition x (sg i)).2.1, .str (Txt.partition x (sg i)).2.2]) nq)
      refine ⟨_, rfl, _, ⟨sz (by omega), rfl⟩, ?_⟩
      refine ite2 (fun e => ?_) (fun e => ?_)
      · refine ⟨_, rfl, _, rfl, _, rfl, by show 2 ≤ sizeLine; decide, fun u nu => ⟨by show 2 ≤ sizeLine; decide, fun t2 nt2 => ?_⟩⟩
        have s4 := s3.trans (same_upd (o := .tup [.str (kd i), .str (Txt.partition x (sg i)).2.2]) nu)
        have es : splitD x = ((Txt.partition x (sg i)).1, .tuple [.str (kd i), .str (Txt.partition x (sg i)).2.2]) := by
          unfold splitD
          match i, hi2 with
          | 0, _ => exact if_pos e
          | 1, _ => exact (if_neg (by rw [show (("!" : Str)) = sg 0 from rfl, hj 0 (by decide)]; decide)).trans (if_pos e)
        refine k t2 (.ref u) _ (s4.trans (same_upd nt2)) ?_ ?_
        · rw [es]
          exact upd_same
        · rw [es]
          refine Dd.ext (Ext.of (same_upd nt2)) _ _ (.tup (ne_fresh hp s3 nu) (tsq upd_same) (.cons (.str _) (.cons (.str _) .nil)))
      · refine ⟨⟨_, _, _, _, _, rfl⟩, s3, fun j hj2 => ?_⟩
        rcases Nat.lt_succ_iff_lt_or_eq.mp hj2 with h | rfl
        · exact hj j h
        · exact Bool.eq_false_iff.mpr e
    · rintro σ H2 ⟨⟨x1, x2, x3, x4, x5, rfl⟩, s2, hj⟩
      refine ⟨_, rfl, by show 2 ≤ sizeLine; decide, fun t nt => ?_⟩
      have es : splitD x = (x, .none) := by
        unfold splitD
        rw [show (("!" : Str)) = sg 0 from rfl, hj 0 (Nat.succ_pos 1), show (("?" : Str)) = sg 1 from rfl, hj 1 (Nat.lt_succ_self 1)]
        rfl
      refine k t .non _ (s2.trans (same_upd nt)) ?_ ?_
      · rw [es]
        exact upd_same
      · rw [es]
        exact .non
theorem consS_inv {x z : Str} (h : consS x z = true) : tl x ≠ [] ∧ ∀ c ∈ tl x, c ∈ tl z := by
  unfold consS at h
  obtain ⟨h1, h2⟩ := Bool.and_eq_true_iff.mp h
  rw [empty_len] at h1
  refine ⟨fun e => ?_, fun c hc => ?_⟩
  · have e0 : x.length = 0 := by rw [len_tl, e]; rfl
    rw [e0] at h1
    exact absurd h1 (by decide)
  · exact of_decide_eq_true (List.all_eq_true.mp h2 (decide (c ∈ z.cps.toList)) (List.mem_map.mpr ⟨c, hc, rfl⟩))
theorem digit_of {c : Nat} (h : c ∈ tl digitsS) : 48 ≤ c ∧ c ≤ 57 := by
  have : ∀ c ∈ tl digitsS, 48 ≤ c ∧ c ≤ 57 := by decide +kernel
  exact this c h
theorem int_ok {x : Str} (h1 : ¬ (2 : Int) < ((Txt.removeprefix x "-").length : Int)) (h2 : consS (Txt.removeprefix x "-") digitsS = true) : (∃ n, intText? x = some n) ∧ x.length ≤ 640 := by
  obtain ⟨a, b⟩ := consS_inv h2
  have hd : AllDigits (tl (Txt.removeprefix x "-")) := fun c hc => digit_of (b c hc)
  rw [StrLaws.removeprefix_eq] at h1 hd a
  split at hd
  · rename_i hc
    rw [if_pos hc] at h1 a
    obtain ⟨c1, c2⟩ := Bool.and_eq_true_iff.mp hc
    have hat : At x "-" x.length 0 := ⟨of_decide_eq_true c1, c2⟩
    have hpre := (at_iff (x := x) (y := "-") (by decide) 0).mp hat
    have e1 : (tl x).take 1 = [45] := eq_of_beq (show ((tl x).take 1 == [45]) = true from hpre)
    have e2 : tl x = 45 :: (tl x).drop 1 := by
      rw [← List.take_append_drop 1 (tl x), e1]
      rfl
    have e3 : tl (⟨((x.cps.toList.drop ("-" : Str).length).take (x.length - ("-" : Str).length)).toArray⟩ : Str) = (tl x).drop 1 := by
      show (x.cps.toList.drop 1).take (x.length - 1) = _
      rw [List.take_of_length_le]
      rw [List.length_drop, len_tl]
      exact Nat.le_refl _
    rw [e3] at hd a
    have l0 : ((⟨((x.cps.toList.drop ("-" : Str).length).take (x.length - ("-" : Str).length)).toArray⟩ : Str)).length = ((tl x).drop 1).length := by rw [len_tl, e3]
    rw [l0, List.length_drop, ← len_tl] at h1
    refine ⟨⟨_, intText_neg e2 hd a (by omega)⟩, by omega⟩
  · rename_i hc
    rw [if_neg hc] at h1 a
    exact ⟨⟨_, intText_digits hd a (by omega)⟩, by omega⟩
theorem ok_read_number (T : TopOk K mg A) : FnOk P w K mg base CX0 2 A.f_read_number A.d_read_number P_read_number spNumOf := by
  have G_consists_of : FnOk P w K mg base CX0 1 A.f_consists_of A.d_consists_of P_consists_of spCons := ok_cons T
  refine T.F_read_number.ok sc_read_number (fun vs H Q E h => ?_) (fun cdv Ar outer s H vs Q E hr h => ?_)
  · obtain ⟨x, rfl, _⟩ := h
    rfl
  · obtain ⟨x, rfl, hl, k⟩ := h
    refine ⟨_, (pss_cons (ps_set (i := 1) sc_read_number.nd rfl (by first | exact Or.inl rfl | exact Or.inr rfl) (pe_m1 PySem.F.slot_str_removeprefix PySem.F.type_str_removeprefix mt_removeprefix (pv 0) pe_str))
      (pss_cons (ps_if (PW.pt (pw_or (pt_cmpR op_gt (pe_callB call_len (by rfl) T.b_len (by decide +kernel) (pa_cons (pv 1) pa_nil)) pe_int (nomark _)) (pw_or1 (pt_not (pt_val (pe_call G_consists_of (hr.mono (by decide)) (by rfl) T.g_consists_of T.F_consists_of.kp T.a_consists_of .nil pass0 (pa_cons (pv 1) (pa_cons (pe_glob (by rfl) T.c_DIGITS T.r_DIGITS) pa_nil))))))))
      (pss_one (ps_ret pe_non))
      pss_nil)
      (pss_one (ps_ret (pe_callTy call_int_str (by rfl) T.b_int (by decide +kernel) (pa_cons (pv 0) pa_nil)))))), ?_⟩
    have hl2 : (Txt.removeprefix x "-").length ≤ x.length := PyProof.Rows.len_removeprefix x "-"
    refine ⟨_, rfl, ⟨_, rfl⟩, x, "-", rfl, rfl, sz (by omega), ?_⟩
    have out : (decide ((2 : Int) < ((Txt.removeprefix x "-").length : Int)) || !consS (Txt.removeprefix x "-") digitsS) = true → readNum x = .none := fun e => by
      unfold readNum
      rw [if_pos e]
    refine ⟨_, rfl, _, _, rfl, ⟨sz (by omega), rfl⟩, _, _, rfl, rfl, _, rfl, ite2 (fun e => ?_) (fun e => ?_)⟩
    · refine iteT ?_
      have e2 := out (by rw [show decide ((2 : Int) < ((Txt.removeprefix x "-").length : Int)) = true from e]; rfl)
      have := k H (Same.refl _)
      rw [e2] at this
      exact this
    · refine ⟨_, rfl, _, digitsS, rfl, by omega, fun H' s' => ⟨_, rfl, ?_⟩⟩
      cases hc : consS (Txt.removeprefix x "-") digitsS with
      | false =>
        refine iteT ?_
        have e2 := out (by rw [hc]; exact Bool.or_true _)
        have := k H' s'
        rw [e2] at this
        exact this
      | true =>
        refine iteF ?_
        have hn : ¬ (2 : Int) < ((Txt.removeprefix x "-").length : Int) := fun z => e (decide_eq_true z)
        obtain ⟨⟨n, en⟩, h640⟩ := int_ok hn hc
        refine ⟨_, rfl, x, n, rfl, en, h640, ?_⟩
        have e2 : readNum x = .int n := by
          unfold readNum
          rw [hc, decide_eq_false hn, en]
          rfl
        have := k H' s'
        rw [e2] at this
        exact this
end
end My

set_option Elab.async false
set_option linter.all false
set_option maxRecDepth 100000
namespace My
open PySem PySem.Spec PyProof.Rows L2 TL
/-! ### parts are right data -/
def GoodS (x : Str) : Prop := x.length ≤ 5000 ∧ ∀ c ∈ tl x, c < 1114112
theorem good_fine {x : Str} (h : GoodS x) : fine (.str x) = true := by
  show (decide (x.length ≤ 5000) && (PyData.strOk x && decide (0 ≤ 64))) = true
  have e : PyData.strOk x = true := by
    unfold PyData.strOk
    rw [← Array.all_toList, List.all_eq_true]
    intro c hc
    exact decide_eq_true (h.2 c hc)
  rw [e, decide_eq_true h.1]
  rfl
theorem fine_good {x : Str} (h : fine (.str x) = true) : GoodS x := by
  have h' : (decide (x.length ≤ 5000) && (PyData.strOk x && decide (0 ≤ 64))) = true := h
  obtain ⟨h1, h2⟩ := Bool.and_eq_true_iff.mp h'
  obtain ⟨h2, _⟩ := Bool.and_eq_true_iff.mp h2
  refine ⟨of_decide_eq_true h1, fun c hc => ?_⟩
  unfold PyData.strOk at h2
  rw [← Array.all_toList, List.all_eq_true] at h2
  exact of_decide_eq_true (h2 c hc)
theorem good_part {x y : Str} (h : GoodS x) : GoodS (Txt.partition x y).1 ∧ GoodS (Txt.partition x y).2.2 := by
  obtain ⟨p1, p2, p3, p4, p5, p6⟩ := part_mem (x := x) (y := y)
  exact ⟨⟨Nat.le_trans p4 h.1, fun c hc => h.2 c (p1 c hc)⟩, ⟨Nat.le_trans p6 h.1, fun c hc => h.2 c (p3 c hc)⟩⟩
theorem fine_list {ds : List PyData} (h : ∀ d ∈ ds, small d = true ∧ PyData.canLay0 d = true ∧ d.depth ≤ 20) : smallAll ds = true ∧ PyData.canLayAll0 ds = true ∧ PyData.depthAll ds ≤ 20 := by
  induction ds with
  | nil => exact ⟨rfl, rfl, by show 0 ≤ 20; decide⟩
  | cons d ds ih =>
    obtain ⟨a, b, c⟩ := h d (List.mem_cons_self ..)
    obtain ⟨a', b', c'⟩ := ih fun x hx => h x (List.mem_cons_of_mem _ hx)
    refine ⟨?_, ?_, ?_⟩
    · show (small d && smallAll ds) = true
      rw [a, a']
      rfl
    · show (PyData.canLay0 d && PyData.canLayAll0 ds) = true
      rw [b, b']
      rfl
    · show max d.depth (PyData.depthAll ds) ≤ 20
      omega
theorem fine_tuple {ds : List PyData} (hl : ds.length ≤ 5000) (h : ∀ d ∈ ds, fine d = true ∧ d.depth ≤ 20) : fine (.tuple ds) = true := by
  obtain ⟨a, b, c⟩ := fine_list (ds := ds) fun d hd => by
    obtain ⟨h1, h2⟩ := h d hd
    refine ⟨fine_small h1, ?_, h2⟩
    have := fine_shaped h1
    unfold SeqAt.shaped at this
    exact (Bool.and_eq_true_iff.mp this).1
  show ((decide (ds.length ≤ 5000) && smallAll ds) && (PyData.canLayAll0 ds && decide (PyData.depthAll ds + 1 ≤ 64))) = true
  rw [a, b, decide_eq_true hl, decide_eq_true (show PyData.depthAll ds + 1 ≤ 64 by omega)]
  rfl
theorem split_good {t : Str} (h : GoodS t) : GoodS (splitD t).1 ∧ fine (splitD t).2 = true ∧ (splitD t).2.depth ≤ 1 := by
  unfold splitD
  split
  · refine ⟨(good_part h).1, fine_tuple (by simp) fun d hd => ?_, by simp [PyData.depth, PyData.depthAll]⟩
    simp only [List.mem_cons, List.not_mem_nil, or_false] at hd
    rcases hd with rfl | rfl
    · exact ⟨by decide +kernel, by simp [PyData.depth]⟩
    · exact ⟨good_fine (good_part h).2, by simp [PyData.depth]⟩
  · split
    · refine ⟨(good_part h).1, fine_tuple (by simp) fun d hd => ?_, by simp [PyData.depth, PyData.depthAll]⟩
      simp only [List.mem_cons, List.not_mem_nil, or_false] at hd
      rcases hd with rfl | rfl
      · exact ⟨by decide +kernel, by simp [PyData.depth]⟩
      · exact ⟨good_fine (good_part h).2, by simp [PyData.depth]⟩
    · exact ⟨h, rfl, by simp [PyData.depth]⟩
theorem readNum_cases (x : Str) : readNum x = .none ∨ ∃ n, readNum x = .int n := by
  unfold readNum
  split
  · exact .inl rfl
  · exact .inr ⟨_, rfl⟩
/-- the number's part -/
def numOf (t : Str) : PyData := if ((Txt.partition (splitD t).1 "=").2.1.length : Int) != 0 then readNum (Txt.partition (splitD t).1 "=").2.2 else .int 0
theorem numOf_cases (t : Str) : numOf t = .none ∨ ∃ n, numOf t = .int n := by
  unfold numOf
  split
  · exact readNum_cases _
  · exact .inr ⟨0, rfl⟩
theorem stepOf_eq (t : Str) : stepOf t = .tuple [.str (Txt.partition (splitD t).1 "=").1, numOf t, (splitD t).2] := rfl
theorem stepOf_fine {t : Str} (h : GoodS t) : fine (stepOf t) = true := by
  obtain ⟨h1, h2, h3⟩ := split_good h
  rw [stepOf_eq]
  refine fine_tuple (by simp) fun d hd => ?_
  simp only [List.mem_cons, List.not_mem_nil, or_false] at hd
  rcases hd with rfl | rfl | rfl
  · exact ⟨good_fine (good_part h1).1, by simp [PyData.depth]⟩
  · rcases numOf_cases t with e | ⟨n, e⟩
    · rw [e]
      exact ⟨rfl, by simp [PyData.depth]⟩
    · rw [e]
      exact ⟨rfl, by simp [PyData.depth]⟩
  · exact ⟨h2, by omega⟩
def midS (n : Int) : Str := if n ≠ 0 then "=" ++ numS n else ""
theorem tl_midS (n : Int) : tl (midS n) = midL n := by
  unfold midS midL
  split
  · rw [tl_append]
    rfl
  · rfl
section
variable {P : Program} {w : World} {K : PySem.W.Frag} {mg : Str → Option Value} {base : Heap} {A : Top}
theorem scV_dd {p : Addr} {H : Hp} (d : PyData) (h : d = .none ∨ ∃ n, d = .int n) : Dd K p H (scV d) d := by
  rcases h with rfl | ⟨n, rfl⟩
  · exact .non
  · exact .int n
theorem ok_read_step (T : TopOk K mg A) : FnOk P w K mg base CX0 5 A.f_read_step A.d_read_step P_read_step (spRead K) := by
  have G_split_deed : FnOk P w K mg base CX0 1 A.f_split_deed A.d_split_deed P_split_deed (spSplit K) := ok_split_deed T
  have G_read_number : FnOk P w K mg base CX0 2 A.f_read_number A.d_read_number P_read_number spNumOf := ok_read_number T
  have G_is_step : FnOk P w K mg base CX0 4 A.f_is_step A.d_is_step P_is_step (spD K stepD) := ok_is_step T
  have G_step_text : FnOk P w K mg base CX0 1 A.f_step_text A.d_step_text P_step_text (spText K) := ok_step_text T
  refine T.F_read_step.ok sc_read_step (fun vs H Q E h => ?_) (fun cdv Ar outer s H vs Q E hr h => ?_)
  · obtain ⟨p, x, d, rfl, _⟩ := h
    rfl
  · obtain ⟨p, v, d, rfl, hp, hv, hf, k⟩ := h
    refine ⟨_, (pss_cons (ps_if (pt_not (pt_val (pe_callB call_isD (by rfl) T.b_isinstance (by decide +kernel) (pa_cons (pv 0) (pa_cons (pe_bltn (v := .ty "str") (by rfl) T.b_str (by decide +kernel) rfl) pa_nil)))))
      (pss_one (ps_ret pe_non))
      pss_nil)
      (pss_cons (ps_asg (pe_call G_split_deed (hr.mono (by decide)) (by rfl) T.g_split_deed T.F_split_deed.kp T.a_split_deed .nil pass0 (pa_cons (pv 0) pa_nil)) (pg_tup rfl (pgs_cons (pg_name (i := 2) sc_read_step.nd rfl (by first | exact Or.inl rfl | exact Or.inr rfl)) (pgs_cons (pg_name (i := 3) sc_read_step.nd rfl (by first | exact Or.inl rfl | exact Or.inr rfl)) pgs_nil))))
      (pss_cons (ps_asg (pe_partition (pv 2) pe_str) (pg_tup rfl (pgs_cons (pg_name (i := 4) sc_read_step.nd rfl (by first | exact Or.inl rfl | exact Or.inr rfl)) (pgs_cons (pg_name (i := 5) sc_read_step.nd rfl (by first | exact Or.inl rfl | exact Or.inr rfl)) (pgs_cons (pg_name (i := 6) sc_read_step.nd rfl (by first | exact Or.inl rfl | exact Or.inr rfl)) pgs_nil)))))
      (pss_cons (ps_set (i := 1) sc_read_step.nd rfl (by first | exact Or.inl rfl | exact Or.inr rfl) (pe_tup (pa_cons (pv 4) (pa_cons (pe_ifExp (pt_truth (pv 5) (by intro _; rfl)) (pe_call G_read_number (hr.mono (by decide)) (by rfl) T.g_read_number T.F_read_number.kp T.a_read_number .nil pass0 (pa_cons (pv 6) pa_nil)) pe_int) (pa_cons (pv 3) pa_nil)))))
      (pss_cons (ps_if (PW.pt (pw_and (pt_val (pe_call G_is_step (hr.mono (by decide)) (by rfl) T.g_is_step T.F_is_step.kp T.a_is_step .nil pass0 (pa_cons (pv 1) pa_nil))) (pw_and1 (pt_cmpR op_eq (pe_call G_step_text (hr.mono (by decide)) (by rfl) T.g_step_text T.F_step_text.kp T.a_step_text .nil pass0 (pa_cons (pv 1) pa_nil)) (pv 0) (nomark _)))))
      (pss_one (ps_ret (pv 1)))
      pss_nil)
      (pss_one (ps_ret pe_non))))))), ?_⟩
    refine ⟨_, rfl, _, _, _, rfl, rfl, Dd.dp _ _ hv, _, rfl, ?_⟩
    cases d with
    | str t =>
      cases hv
      have hg := fine_good hf
      obtain ⟨g1, g2, g3⟩ := split_good hg
      have gp := good_part (y := "=") g1
      have hpl := (part_mem (x := (splitD t).1) (y := "=")).2.2.2.2.1
      refine iteF ?_
      refine ⟨_, rfl, p, t, rfl, hp, hg.1, fun t1 vd H1 s1 h1 hd1 => ?_⟩
      have hp1 : ∃ o, H1 p = some o := by
        obtain ⟨o, e⟩ := hp
        exact ⟨o, s1 _ _ e⟩
      refine ⟨t1, _, rfl, tsq h1, rfl, _, _, rfl, _, _, rfl, rfl, ?_⟩
      refine ⟨_, rfl, ⟨_, rfl⟩, (splitD t).1, "=", rfl, rfl, by decide +kernel, Nat.le_trans g1.1 (by decide), fun q nq => ?_⟩
      refine ⟨q, _, rfl, tsq upd_same, rfl, _, _, rfl, _, _, rfl, _, _, rfl, rfl, ?_⟩
      have s2 : Same H1 (upd H1 q (.tup [.str (Txt.partition (splitD t).1 "=").1, .str (Txt.partition (splitD t).1 "=").2.1, .str (Txt.partition (splitD t).1 "=").2.2])) := same_upd nq
      generalize upd H1 q (.tup [.str (Txt.partition (splitD t).1 "=").1, .str (Txt.partition (splitD t).1 "=").2.1, .str (Txt.partition (splitD t).1 "=").2.2]) = H2 at s2
      have ifn : ∀ (σ : L2.St) (Q2 : VK), σ[5]? = some (some (.str (Txt.partition (splitD t).1 "=").2.1)) → σ[6]? = some (some (.str (Txt.partition (splitD t).1 "=").2.2)) → (∀ H', Same H2 H' → Q2 (scV (numOf t)) H') →
          (tIf (fun σ H Q => tVar 5 σ H fun x H' => ∃ k, TruV K x H' k ∧ Q k H') (tCall spNumOf [] E0 (tCons (tVar 6) tNil)) (tC (.int 0))) σ H2 Q2 := fun σ Q2 e5 e6 q2 => by
        refine ⟨_, e5, _, ⟨Nat.le_trans hpl (by decide), rfl⟩, ite2 (fun e => ?_) (fun e => ?_)⟩
        · refine ⟨_, e6, _, rfl, gp.2.1, fun H' s' => ?_⟩
          have := q2 H' s'
          rw [show numOf t = readNum (Txt.partition (splitD t).1 "=").2.2 from if_pos e] at this
          exact this
        · have := q2 H2 (Same.refl _)
          rw [show numOf t = .int 0 from if_neg e] at this
          exact this
      refine ⟨_, rfl, ifn _ _ rfl rfl fun H3 s3 => ⟨_, rfl, by show 3 ≤ sizeLine; decide, fun t3 nt3 => ?_⟩⟩
      have s4 : Same H3 (upd H3 t3 (.tup [.str (Txt.partition (splitD t).1 "=").1, scV (numOf t), vd])) := same_upd nt3
      have hp3 : ∃ o, H3 p = some o := by
        obtain ⟨o, e⟩ := hp1
        exact ⟨o, s3 _ _ (s2 _ _ e)⟩
      have hst : Dd K p (upd H3 t3 (.tup [.str (Txt.partition (splitD t).1 "=").1, scV (numOf t), vd])) (.ref t3) (stepOf t) := by
        rw [stepOf_eq]
        refine .tup (ne_fresh hp3 (Same.refl _) nt3) (tsq upd_same) (.cons (.str _) (.cons (scV_dd _ (numOf_cases t)) (.cons ?_ .nil)))
        exact Dd.ext (Ext.of ((s2.trans s3).trans s4)) _ _ hd1
      have s04 := ((s1.trans s2).trans s3).trans s4
      refine ⟨_, rfl, _, _, rfl, Dd.dp _ _ hst, stepOf_fine hg, fun H5 s5 => ⟨_, rfl, ite2 (fun e => ?_) (fun e => ?_)⟩⟩
      · have hst5 := Dd.ext (Ext.of s5) _ _ hst
        refine ⟨_, rfl, _, _, rfl, Dd.dp _ _ hst5, e, _, rfl, rfl, _, rfl, ite2 (fun e2 => ?_) (fun e2 => ?_)⟩
        · have et : textD (stepOf t) = t := V.str.inj (of_decide_eq_true e2)
          refine ⟨_, rfl, k _ _ (s04.trans s5) ?_⟩
          rw [show readD (.str t) = stepOf t from if_pos ⟨e, et⟩]
          exact hst5
        · have et : ¬ textD (stepOf t) = t := fun z => e2 (by rw [z]; exact decide_eq_true rfl)
          refine k .non _ (s04.trans s5) ?_
          rw [show readD (.str t) = .none from if_neg fun z => et z.2]
          exact .non
      · refine iteF (k .non _ (s04.trans s5) ?_)
        rw [show readD (.str t) = .none from if_neg fun z => e z.1]
        exact .non
    | dict ds => cases hv
    | _ => exact iteT (k .non H (Same.refl _) .non)
theorem ok_Lstep_text (T : TopOk K mg A) : FnOk P w K mg base CX0 1 A.f_Lstep_text A.d_Lstep_text P_Lstep_text (spText K) := by
  refine T.F_Lstep_text.ok sc_Lstep_text (fun vs H Q E h => ?_) (fun cdv Ar outer s H vs Q E hr h => ?_)
  · obtain ⟨x, d, rfl, _⟩ := h
    rfl
  · obtain ⟨v, d, rfl, hv, hs, k⟩ := h
    refine ⟨_, (Evl.pss_cut (ps_set (i := 1) sc_Lstep_text.nd rfl (by first | exact Or.inl rfl | exact Or.inr rfl) (pe_ifExp (pt_cmpR op_ne (pe_ix ix_tup (pv 0) pe_int (fun _ _ => rfl)) pe_int (nomark _)) (pe_op op_add_str pe_str (pe_callTy call_str_int (by rfl) T.b_str (by decide +kernel) (pa_cons (pe_ix ix_tup (pv 0) pe_int (fun _ _ => rfl)) pa_nil))) pe_str))
      (pss_cons (ps_if (pt_cmpR op_isN (pe_ix ix_tup (pv 0) pe_int (fun _ _ => rfl)) pe_non (nomark _))
      (pss_one (ps_ret (pe_op op_add_str (pe_ix ix_tup (pv 0) pe_int (fun _ _ => rfl)) (pv 1))))
      pss_nil)
      (pss_one (ps_ret (pe_op op_add_str (pe_op op_add_str (pe_op op_add_str (pe_ix ix_tup (pv 0) pe_int (fun _ _ => rfl)) (pv 1)) (pe_ifExp (pt_cmpR op_eq (pe_ix ix_tup (pe_ix ix_tup (pv 0) pe_int (fun _ _ => rfl)) pe_int (fun _ _ => rfl)) pe_str (nomark _)) pe_str pe_str)) (pe_ix ix_tup (pe_ix ix_tup (pv 0) pe_int (fun _ _ => rfl)) pe_int (fun _ _ => rfl))))))), ?_⟩
    obtain ⟨m, n, dd, rfl, hm, h1, h2, hd⟩ := step_inv hs
    obtain ⟨a, xs, rfl, sx, dx⟩ := Dp.lenT hv
    cases dx with
    | @cons vm _ _ _ dm dx =>
      cases dx with
      | @cons vn _ _ _ dn dx =>
        cases dx with
        | @cons vd _ _ _ ddv dx =>
          cases dx
          cases dm
          cases dn
          have lm := (name_inv hm).2.2
          have ln := num_len ⟨h1, h2⟩
          have lmid : (midS n).length ≤ 4 := by
            unfold midS
            split
            · rw [app_len]
              show 1 + _ ≤ 4
              omega
            · decide +kernel
          refine ⟨fun σ' H' => σ' = [some (.ref a), some (.str (midS n))] ∧ H' = H, ?_, ?_⟩
          · refine ⟨_, rfl, a, _, _, _, rfl, rfl, sx, rfl, rfl, _, rfl, ite2 (fun e => ?_) (fun e => ?_)⟩
            · have hn : n ≠ 0 := fun z => by
                subst z
                exact absurd e (by decide)
              refine ⟨_, rfl, a, _, _, _, rfl, rfl, sx, rfl, n, rfl, log_ok ⟨h1, h2⟩, _, _, rfl, rfl, sz (show ("=" : Str).length + (numS n).length ≤ 100000 by show 1 + (numS n).length ≤ 100000; omega), ?_⟩
              refine ⟨?_, rfl⟩
              show [some (V.ref a), some (.str ("=" ++ numS n))] = _
              unfold midS
              rw [if_pos hn]
            · have hn : ¬ n ≠ 0 := fun z => e (by
                rw [Bool.not_eq_true', decide_eq_false_iff_not]
                exact fun y => z (V.int.inj y))
              refine ⟨?_, rfl⟩
              unfold midS
              rw [if_neg hn]
              rfl
          · rintro σ' H' ⟨rfl, rfl⟩
            have et := tl_text m n dd hd
            rcases hd with rfl | ⟨w', hw, hd⟩
            · cases ddv
              refine ⟨_, rfl, a, _, _, _, rfl, rfl, sx, rfl, rfl, _, rfl, iteT ?_⟩
              refine ⟨_, rfl, a, _, _, _, rfl, rfl, sx, rfl, _, rfl, _, _, rfl, rfl, sz (by omega), ?_⟩
              rw [show textD (.tuple [.str m, .int n, .none]) = m ++ midS n from ext_tl (by rw [et, tl_append, tl_midS]; exact List.append_nil _)] at k
              exact k
            · have lw := (name_inv hw).2.2
              have hlen : (m ++ midS n).length ≤ 8 := by
                rw [app_len]
                omega
              have fin : ∀ (k' sgn : Str) (b : Addr), SqT K H' b [.str k', .str w'] → sgn.length = 1 → textD (.tuple [.str m, .int n, dd]) = ((m ++ midS n) ++ sgn) ++ w' → (decide (V.str k' = V.str "send") = true → sgn = "!") → (¬ decide (V.str k' = V.str "send") = true → sgn = "?") → vd = .ref b → _ := fun k' sgn b sb l1 e1 e2 e3 e4 => (⟨k', sgn, b, sb, l1, e1, e2, e3, e4⟩ : ∃ (k' sgn : Str) (b : Addr), SqT K H' b [.str k', .str w'] ∧ sgn.length = 1 ∧ textD (.tuple [.str m, .int n, dd]) = ((m ++ midS n) ++ sgn) ++ w' ∧ (decide (V.str k' = V.str "send") = true → sgn = "!") ∧ (¬ decide (V.str k' = V.str "send") = true → sgn = "?") ∧ vd = .ref b)
              have hh : ∃ (k' sgn : Str) (b : Addr), SqT K H' b [.str k', .str w'] ∧ sgn.length = 1 ∧ textD (.tuple [.str m, .int n, dd]) = ((m ++ midS n) ++ sgn) ++ w' ∧ (decide (V.str k' = V.str "send") = true → sgn = "!") ∧ (¬ decide (V.str k' = V.str "send") = true → sgn = "?") ∧ vd = .ref b := by
                rcases deed_obj (.inr ⟨w', hw, hd⟩) ddv with ⟨e, _⟩ | ⟨b, k', w2, e, _, rfl, sb⟩
                · rcases hd with rfl | rfl <;> cases e
                · rcases hd with rfl | rfl
                  · cases e
                    refine fin _ "!" b sb (by decide +kernel) (ext_tl ?_) (fun _ => rfl) (fun z => absurd (decide_eq_true rfl) z) rfl
                    rw [et, deedT_s, tl_append, tl_append, tl_append, tl_midS]
                    show tl m ++ midL n ++ 33 :: tl w' = tl m ++ midL n ++ [33] ++ tl w'
                    simp
                  · cases e
                    refine fin _ "?" b sb (by decide +kernel) (ext_tl ?_) (fun z => absurd (V.str.inj (of_decide_eq_true z)) ne_rs) (fun _ => rfl) rfl
                    rw [et, deedT_r, tl_append, tl_append, tl_append, tl_midS]
                    show tl m ++ midL n ++ 63 :: tl w' = tl m ++ midL n ++ [63] ++ tl w'
                    simp
              obtain ⟨k', sgn, b, sb, l1, e1, e2, e3, rfl⟩ := hh
              have la1 := app_len m (midS n)
              have la2 := app_len (m ++ midS n) sgn
              have la3 := app_len (m ++ midS n ++ sgn) w'
              have ls1 : ("!" : Str).length = 1 := by decide +kernel
              have ls2 : ("?" : Str).length = 1 := by decide +kernel
              rw [e1] at k
              refine ⟨_, rfl, a, _, _, _, rfl, rfl, sx, rfl, rfl, _, rfl, iteF ?_⟩
              refine ⟨_, rfl, a, _, _, _, rfl, rfl, sx, rfl, _, rfl, _, _, rfl, rfl, sz (by omega), ?_⟩
              refine ⟨_, rfl, a, _, _, _, rfl, rfl, sx, rfl, b, _, _, _, rfl, rfl, sb, rfl, rfl, _, rfl, ite2 (fun e => ?_) (fun e => ?_)⟩
              · rw [e2 e] at k la2 la3
                exact ⟨_, _, rfl, rfl, sz (by omega), _, rfl, a, _, _, _, rfl, rfl, sx, rfl, b, _, _, _, rfl, rfl, sb, rfl, _, _, rfl, rfl, sz (by omega), k⟩
              · rw [e3 e] at k la2 la3
                exact ⟨_, _, rfl, rfl, sz (by omega), _, rfl, a, _, _, _, rfl, rfl, sx, rfl, b, _, _, _, rfl, rfl, sb, rfl, _, _, rfl, rfl, sz (by omega), k⟩
end
end My

set_option Elab.async false
set_option linter.all false
set_option maxRecDepth 100000
namespace My
open PySem PySem.Spec PyProof.Rows L2 TL
section
variable {K : PySem.W.Frag} {p : Addr} {σ : L2.St} {H : Hp} {tr tk : TA} {ta tb : TE} {d : PyData} {E : XK}
theorem dv_text (h : DA K p tr σ H [d]) (hf : stepD d = true) : DV K p (tCall (spText K) [] E tr) σ H (.str (textD d)) := fun H1 s Q q =>
  h H1 s _ fun vs H2 s2 hs => by
    obtain ⟨v, rfl, hv⟩ := DdAll.one hs
    exact ⟨v, d, rfl, Dd.dp _ _ hv, hf, q _ _ s2 (.str _)⟩
theorem dv_textk {gV : List V → List V → List V} (h : DA K p tk σ H [d]) (hg : ∀ v, gV [] [v] = [v]) (hf : stepD d = true) : DV K p (tCallN 0 1 (spText K) gV E tNil tk) σ H (.str (textD d)) := fun H1 s Q q =>
  h H1 s _ fun vs H2 s2 hs => by
    obtain ⟨v, rfl, hv⟩ := DdAll.one hs
    exact ⟨rfl, rfl, v, d, hg v, Dd.dp _ _ hv, hf, q _ _ s2 (.str _)⟩
theorem dv_read (hp : ∃ o, H p = some o) (h : DA K p tr σ H [d]) (hf : fine d = true) : DV K p (tCall (spRead K) [] E tr) σ H (readD d) := fun H1 s Q q =>
  h H1 s _ fun vs H2 s2 hs => by
    obtain ⟨v, rfl, hv⟩ := DdAll.one hs
    obtain ⟨o, e⟩ := hp
    exact ⟨p, v, d, rfl, ⟨o, s2 _ _ (s _ _ e)⟩, hv, hf, fun v' H3 s3 hv' => q _ _ (s2.trans s3) hv'⟩
theorem dv_readk {gV : List V → List V → List V} (hp : ∃ o, H p = some o) (h : DA K p tk σ H [d]) (hg : ∀ v, gV [] [v] = [v]) (hf : fine d = true) : DV K p (tCallN 0 1 (spRead K) gV E tNil tk) σ H (readD d) := fun H1 s Q q =>
  h H1 s _ fun vs H2 s2 hs => by
    obtain ⟨v, rfl, hv⟩ := DdAll.one hs
    obtain ⟨o, e⟩ := hp
    exact ⟨rfl, rfl, p, v, d, hg v, ⟨o, s2 _ _ (s _ _ e)⟩, hv, hf, fun v' H3 s3 hv' => q _ _ (s2.trans s3) hv'⟩
theorem dv_cat {x y : Str} (ha : DV K p ta σ H (.str x)) (hb : DV K p tb σ H (.str y)) (hl : x.length + y.length ≤ 100000) :
    DV K p (tOp (fun x y H Q => ∃ i j, x = .str i ∧ y = .str j ∧ i.length + j.length ≤ sizeLine ∧ Q (.str (i ++ j)) H) ta tb) σ H (.str (x ++ y)) := fun H1 s Q q =>
  ha H1 s _ fun a H2 s2 hx => hb H2 (s.trans s2) _ fun b H3 s3 hy => ⟨x, y, Dd.s hx, Dd.s hy, sz hl, q _ _ (s2.trans s3) (.str _)⟩
end
theorem str_mem {d : PyData} {zs : List Str} (h : d ∈ zs.map PyData.str) : ∃ z ∈ zs, d = .str z := by
  obtain ⟨z, hz, rfl⟩ := List.mem_map.mp h
  exact ⟨z, hz, rfl⟩
theorem int_mem {d : PyData} {ns : List Int} (h : d ∈ ns.map PyData.int) : ∃ n ∈ ns, d = .int n := by
  obtain ⟨z, hz, rfl⟩ := List.mem_map.mp h
  exact ⟨z, hz, rfl⟩
def sendS : List Str := ["m", "abcd"]
def recvS : List Str := ["x", "to"]
def markS : List Str := ["x", "do", "abcd"]
theorem send_ok : ∀ z ∈ sendS, nameD 4 (.str z) = true := by decide +kernel
theorem recv_ok : ∀ z ∈ recvS, nameD 4 (.str z) = true := by decide +kernel
theorem mark_ok : ∀ z ∈ markS, nameD 4 (.str z) = true := by decide +kernel
def wrongC : List PyData := [.str "", .str " ", .str "x ", .str " x", .str "x=", .str "x=0", .str "x=-0", .str "x=01", .str "x=+1", .str "x=100", .str "x=-100", .str "x!", .str "x?", .str "!m", .str "=3", .str "x!m!n", .str "x?m!n", .str "x!m?n",
  .str "x!m=3", .str "X", .str "abcde", .str "x=1.0", .str "x!abcde", .str "x=3=3", .str "x=3!", .str "x--1", .str "x!M", .str "x\n", .str "x=1 !m", .str "start", .int 3, .none, .tuple [.str "x", .int 0, .none], .list [.str "x"], .bool true]
def isNone : PyData → Bool
  | .none => true
  | _ => false
theorem isNone_eq {d : PyData} (h : isNone d = true) : d = .none := by
  cases d with
  | none => rfl
  | _ => exact absurd (show false = true from h) Bool.false_ne_true
theorem wrong_ok : ∀ d ∈ wrongC, fine d = true ∧ isNone (readD d) = true := by decide +kernel
theorem text_len {d : PyData} (h : stepD d = true) : (textD d).length ≤ 18 := by
  obtain ⟨m, n, dd, rfl, hm, h1, h2, hd⟩ := step_inv h
  have := cur_len (numT_len hm ⟨h1, h2⟩) hd 2
  rw [cur_end _ hd] at this
  exact this
theorem text_chars {d : PyData} (h : stepD d = true) : ∀ c ∈ tl (textD d), c < 128 := by
  obtain ⟨m, n, dd, rfl, hm, h1, h2, hd⟩ := step_inv h
  intro c hc
  rw [tl_text m n dd hd] at hc
  rcases List.mem_append.mp hc with hc | hc
  · have := head_signs hm ⟨h1, h2⟩ hc
    omega
  · rcases hd with rfl | ⟨w, hw, rfl | rfl⟩
    · cases hc
    · rw [deedT_s] at hc
      rcases List.mem_cons.mp hc with rfl | hc
      · decide
      · have := letter_of ((name_inv hw).1 c hc)
        omega
    · rw [deedT_r] at hc
      rcases List.mem_cons.mp hc with rfl | hc
      · decide
      · have := letter_of ((name_inv hw).1 c hc)
        omega
theorem fine_app {x y : Str} (hx : ∀ c ∈ tl x, c < 128) (hy : ∀ c ∈ tl y, c < 128) (lx : x.length ≤ 1000) (ly : y.length ≤ 1000) : fine (.str (x ++ y)) = true := by
  refine fine_str (fun c hc => ?_) (by rw [app_len]; omega)
  have hc' : c ∈ tl (x ++ y) := hc
  rw [tl_append] at hc'
  rcases List.mem_append.mp hc' with h | h
  · exact hx c h
  · exact hy c h
/-- a right text with one sign behind it or ahead is none -/
theorem read_tail {d : PyData} (h : stepD d = true) {z : Str} {c : Nat} (hz : tl z = [c]) (hc : ¬ ((97 ≤ c ∧ c ≤ 122) ∨ (48 ≤ c ∧ c ≤ 57))) : readD (.str (textD d ++ z)) = .none := by
  refine read_not fun e he et => ?_
  obtain ⟨c', h1, h2⟩ := (text_ends he).2
  rw [et, tl_append, hz, List.getLast?_append] at h1
  have : c = c' := Option.some.inj h1
  subst this
  exact hc h2
theorem read_lead {d : PyData} (h : stepD d = true) {z : Str} {c : Nat} (hz : tl z = [c]) (hc : ¬ (97 ≤ c ∧ c ≤ 122)) : readD (.str (z ++ textD d)) = .none := by
  refine read_not fun e he et => ?_
  obtain ⟨c', h1, h2⟩ := (text_ends he).1
  rw [et, tl_append, hz] at h1
  have : c = c' := Option.some.inj h1
  subst this
  exact hc h2
def spLaw (K : PySem.W.Frag) : Sp := fun vs H Q _ => ∃ (a : Addr) (ns : List Int), vs = [.ref a] ∧ SqL K H a (ns.map V.int) ∧ ns.length ≤ 63 ∧ ∀ H', Q (.bl true) H'
section
variable {P : Program} {w : World} {K : PySem.W.Frag} {mg : Str → Option Value} {base : Heap} {A : Top}
local macro_rules | `(tactic| walk_at "dv") => `(tactic| repeat (first | exact dv_int | exact dv_bl | exact dv_non | exact dv_str | exact da_nil | exact dv_vi rfl | exact dv_vs rfl | exact dv_var rfl (by assumption) | apply da_cons | (refine dv_spD ?_ ?_) | (refine dv_spDk ?_ (fun _ => rfl) ?_) | (refine dv_text ?_ ?_) | (refine dv_textk ?_ (fun _ => rfl) ?_) | (refine dv_read (by assumption) ?_ ?_) | (refine dv_readk (by assumption) ?_ (fun _ => rfl) ?_) | (refine dv_tup (by assumption) ?_ ?_) | (refine dv_lst (by assumption) ?_ ?_) | apply dv_chain | apply dv_add | apply dv_sub | apply dv_neg | (refine dv_cat ?_ ?_ (by assumption)) | assumption | rfl))
set_option maxHeartbeats 0 in
theorem ok_law (T : TopOk K mg A) : FnOk P w K mg base CX0 10 A.f_law A.d_law P_law (spLaw K) := by
  have G_Lbag : FnOk P w K mg base CX0 1 A.f_Lbag A.d_Lbag P_Lbag (spBag K) := ok_Lbag T
  have G_Ldraw : FnOk P w K mg base CX0 1 A.f_Ldraw A.d_Ldraw P_Ldraw spDraw := ok_Ldraw T
  have G_Lof : FnOk P w K mg base CX0 2 A.f_Lof A.d_Lof P_Lof (spOf K) := ok_Lof T
  have G_Lsame : FnOk P w K mg base CX0 8 A.f_Lsame A.d_Lsame P_Lsame (spSameLt K 8) := ok_Lsame T 8
  have G_step_text : FnOk P w K mg base CX0 1 A.f_step_text A.d_step_text P_step_text (spText K) := ok_step_text T
  have G_read_step : FnOk P w K mg base CX0 5 A.f_read_step A.d_read_step P_read_step (spRead K) := ok_read_step T
  have G_Lstep_text : FnOk P w K mg base CX0 1 A.f_Lstep_text A.d_Lstep_text P_Lstep_text (spText K) := ok_Lstep_text T
  refine T.F_law.ok sc_law (fun vs H Q E h => ?_) (fun cdv Ar outer s H vs Q E hr h => ?_)
  · obtain ⟨a, ns, rfl, _⟩ := h
    rfl
  · obtain ⟨a, ns, rfl, hS, hl, q⟩ := h
    refine ⟨_, (pss_cons (ps_set (i := 1) sc_law.nd rfl (by first | exact Or.inl rfl | exact Or.inr rfl) (pe_call G_Lbag (hr.mono (by decide)) (by rfl) T.g_Lbag T.F_Lbag.kp T.a_Lbag .nil pass0 (pa_cons (pv 0) pa_nil)))
      (pss_cons (ps_for PassesOwn.never rfl (pi_range1 (by rfl) T.b_range (pa_cons pe_int pa_nil)) (pg_name (i := 2) sc_law.nd rfl (by first | exact Or.inl rfl | exact Or.inr rfl))
      (pss_cons (ps_set (i := 3) sc_law.nd rfl (by first | exact Or.inl rfl | exact Or.inr rfl) (pe_call G_Lof (hr.mono (by decide)) (by rfl) T.g_Lof T.F_Lof.kp T.a_Lof .nil pass0 (pa_cons (pv 1) (pa_cons (pe_lst (pa_cons pe_non (pa_cons (pe_tup (pa_cons pe_str (pa_cons (pe_call G_Lof (hr.mono (by decide)) (by rfl) T.g_Lof T.F_Lof.kp T.a_Lof .nil pass0 (pa_cons (pv 1) (pa_cons (pe_lst (pa_cons pe_str (pa_cons pe_str pa_nil))) pa_nil))) pa_nil))) (pa_cons (pe_tup (pa_cons pe_str (pa_cons (pe_call G_Lof (hr.mono (by decide)) (by rfl) T.g_Lof T.F_Lof.kp T.a_Lof .nil pass0 (pa_cons (pv 1) (pa_cons (pe_lst (pa_cons pe_str (pa_cons pe_str pa_nil))) pa_nil))) pa_nil))) pa_nil)))) pa_nil))))
      (pss_cons (ps_set (i := 4) sc_law.nd rfl (by first | exact Or.inl rfl | exact Or.inr rfl) (pe_tup (pa_cons (pe_call G_Lof (hr.mono (by decide)) (by rfl) T.g_Lof T.F_Lof.kp T.a_Lof .nil pass0 (pa_cons (pv 1) (pa_cons (pe_lst (pa_cons pe_str (pa_cons pe_str (pa_cons pe_str pa_nil)))) pa_nil))) (pa_cons (pe_call G_Lof (hr.mono (by decide)) (by rfl) T.g_Lof T.F_Lof.kp T.a_Lof .nil pass0 (pa_cons (pv 1) (pa_cons (pe_lst (pa_cons pe_int (pa_cons pe_int (pa_cons (pe_un un_neg pe_int) (pa_cons (pe_op op_sub (pe_call G_Ldraw (hr.mono (by decide)) (by rfl) T.g_Ldraw T.F_Ldraw.kp T.a_Ldraw .nil pass0 (pa_cons (pv 1) (pa_cons pe_int pa_nil))) pe_int) pa_nil))))) pa_nil))) (pa_cons (pv 3) pa_nil)))))
      (pss_cons (ps_set (i := 5) sc_law.nd rfl (by first | exact Or.inl rfl | exact Or.inr rfl) (pe_call G_Lstep_text (hr.mono (by decide)) (by rfl) T.g_Lstep_text T.F_Lstep_text.kp T.a_Lstep_text .nil pass0 (pa_cons (pv 4) pa_nil)))
      (pss_cons (ps_if (pt_not (pt_val (pe_call G_Lsame (hr.mono (by decide)) (by rfl) T.g_Lsame T.F_Lsame.kp T.a_Lsame .nil pass0 (pa_cons (pe_lst (pa_cons (pe_call G_step_text (hr.mono (by decide)) (by rfl) T.g_step_text T.F_step_text.kp T.a_step_text .nil pass0 (pa_cons (pv 4) pa_nil)) (pa_cons (pe_callN0 G_step_text (hr.mono (by decide)) (by rfl) T.g_step_text T.F_step_text.kp T.kb_step_text_0_step pass0 (pk_cons (pv 4) pk_nil)) (pa_cons (pe_call G_read_step (hr.mono (by decide)) (by rfl) T.g_read_step T.F_read_step.kp T.a_read_step .nil pass0 (pa_cons (pv 5) pa_nil)) (pa_cons (pe_callN0 G_read_step (hr.mono (by decide)) (by rfl) T.g_read_step T.F_read_step.kp T.kb_read_step_0_text pass0 (pk_cons (pv 5) pk_nil)) pa_nil))))) (pa_cons (pe_lst (pa_cons (pv 5) (pa_cons (pv 5) (pa_cons (pv 4) (pa_cons (pv 4) pa_nil))))) pa_nil)))))
      (pss_one (ps_ret pe_bl))
      pss_nil)
      (pss_cons (ps_set (i := 6) sc_law.nd rfl (by first | exact Or.inl rfl | exact Or.inr rfl) (pe_call G_Lof (hr.mono (by decide)) (by rfl) T.g_Lof T.F_Lof.kp T.a_Lof .nil pass0 (pa_cons (pv 1) (pa_cons (pe_lst (pa_cons pe_str (pa_cons pe_str (pa_cons pe_str (pa_cons pe_str (pa_cons pe_str (pa_cons pe_str (pa_cons pe_str (pa_cons pe_str (pa_cons pe_str (pa_cons pe_str (pa_cons pe_str (pa_cons pe_str (pa_cons pe_str (pa_cons pe_str (pa_cons pe_str (pa_cons pe_str (pa_cons pe_str (pa_cons pe_str (pa_cons pe_str (pa_cons pe_str (pa_cons pe_str (pa_cons pe_str (pa_cons pe_str (pa_cons pe_str (pa_cons pe_str (pa_cons pe_str (pa_cons pe_str (pa_cons pe_str (pa_cons pe_str (pa_cons pe_str (pa_cons pe_int (pa_cons pe_non (pa_cons (pe_tup (pa_cons pe_str (pa_cons pe_int (pa_cons pe_non pa_nil)))) (pa_cons (pe_lst (pa_cons pe_str pa_nil)) (pa_cons pe_bl (pa_cons (pe_op op_add_str (pv 5) pe_str) (pa_cons (pe_op op_add_str (pv 5) pe_str) (pa_cons (pe_op op_add_str (pv 5) pe_str) (pa_cons (pe_op op_add_str pe_str (pv 5)) pa_nil)))))))))))))))))))))))))))))))))))))))) pa_nil))))
      (pss_one (ps_if (pt_cmpR op_notN (pe_call G_read_step (hr.mono (by decide)) (by rfl) T.g_read_step T.F_read_step.kp T.a_read_step .nil pass0 (pa_cons (pv 6) pa_nil)) pe_non (nomark _))
      (pss_one (ps_ret pe_bl))
      pss_nil))))))))
      (pss_one (ps_ret (pe_call G_Lsame (hr.mono (by decide)) (by rfl) T.g_Lsame T.F_Lsame.kp T.a_Lsame .nil pass0 (pa_cons (pe_lst (pa_cons (pe_call G_step_text (hr.mono (by decide)) (by rfl) T.g_step_text T.F_step_text.kp T.a_step_text .nil pass0 (pa_cons (pe_tup (pa_cons pe_str (pa_cons (pe_un un_neg pe_int) (pa_cons pe_non pa_nil)))) pa_nil)) (pa_cons (pe_call G_step_text (hr.mono (by decide)) (by rfl) T.g_step_text T.F_step_text.kp T.a_step_text .nil pass0 (pa_cons (pe_tup (pa_cons pe_str (pa_cons pe_int (pa_cons (pe_tup (pa_cons pe_str (pa_cons pe_str pa_nil))) pa_nil)))) pa_nil)) (pa_cons (pe_call G_read_step (hr.mono (by decide)) (by rfl) T.g_read_step T.F_read_step.kp T.a_read_step .nil pass0 (pa_cons pe_str pa_nil)) (pa_cons (pe_call G_read_step (hr.mono (by decide)) (by rfl) T.g_read_step T.F_read_step.kp T.a_read_step .nil pass0 (pa_cons pe_str pa_nil)) pa_nil))))) (pa_cons (pe_lst (pa_cons pe_str (pa_cons pe_str (pa_cons (pe_tup (pa_cons pe_str (pa_cons pe_int (pa_cons (pe_tup (pa_cons pe_str (pa_cons pe_str pa_nil))) pa_nil)))) (pa_cons (pe_tup (pa_cons pe_str (pa_cons pe_int (pa_cons pe_non pa_nil)))) pa_nil))))) pa_nil))))))), ?_⟩
    refine ⟨_, rfl, a, ns, rfl, hS, hl, fun B H1 nB hB s1 => ?_⟩
    refine ⟨6, rfl, by decide, by decide, for_range (n := 6) (fun i σ H2 => (∃ x2 x3 x4 x5 x6, σ = [some (.ref a), some (.ref B.p), x2, x3, x4, x5, x6]) ∧ Bag B H2)
      ⟨⟨_, _, _, _, _, rfl⟩, hB⟩ ?_ ?_⟩
    · rintro i σ H2 hi ⟨⟨x2, x3, x4, x5, x6, rfl⟩, hB2⟩
      -- deed
      have hp2 : ∃ o, H2 B.p = some o := hB2.there
      refine ⟨_, rfl, ?_⟩
      refine of_dv (K := K) (B := B) (ds := sendS.map PyData.str) rfl hB2 (by walk_at "dv") (by decide) (by decide) fun v1 d1 H3 m1 hv1 hB3 e3 => ⟨by show 2 ≤ sizeLine; decide, fun t1 nt1 => ?_⟩
      obtain ⟨w1, mw1, rfl⟩ := str_mem m1
      cases hv1
      have s4 : Same H3 (upd H3 t1 (.tup [.str "send", .str w1])) := same_upd nt1
      have hB4 := hB3.ext s4
      have ht1 : Dd K B.p (upd H3 t1 (.tup [.str "send", .str w1])) (.ref t1) (.tuple [.str "send", .str w1]) := .tup (hB3.ne nt1) (tsq upd_same) (.cons (.str _) (.cons (.str _) .nil))
      generalize upd H3 t1 (.tup [.str "send", .str w1]) = H4 at s4 hB4 ht1
      have hp4 : ∃ o, H4 B.p = some o := hB4.there
      refine of_dv (K := K) (B := B) (ds := recvS.map PyData.str) rfl hB4 (by walk_at "dv") (by decide) (by decide) fun v2 d2 H5 m2 hv2 hB5 e5 => ⟨by show 2 ≤ sizeLine; decide, fun t2 nt2 => ⟨by show 3 ≤ sizeLine; decide, fun q5 nq5 => ?_⟩⟩
      obtain ⟨w2, mw2, rfl⟩ := str_mem m2
      cases hv2
      have s6 : Same H5 (upd H5 t2 (.tup [.str "receive", .str w2])) := same_upd nt2
      have hB6 := hB5.ext s6
      have ht2 : Dd K B.p (upd H5 t2 (.tup [.str "receive", .str w2])) (.ref t2) (.tuple [.str "receive", .str w2]) := .tup (hB5.ne nt2) (tsq upd_same) (.cons (.str _) (.cons (.str _) .nil))
      have ht1' := Dd.ext (Ext.of s6) _ _ (Dd.ext e5 _ _ ht1)
      generalize upd H5 t2 (.tup [.str "receive", .str w2]) = H6 at s6 hB6 ht2 ht1' nq5
      have s7 : Same H6 (upd H6 q5 (.lst [.non, .ref t1, .ref t2])) := same_upd nq5
      refine of_data (E := E0) (K := K) (B := B) (ds := [.none, .tuple [.str "send", .str w1], .tuple [.str "receive", .str w2]]) (hB6.ext s7) (.lst (hB6.ne nq5) (lsq upd_same) (.cons .non (.cons (Dd.ext (Ext.of s7) _ _ ht1') (.cons (Dd.ext (Ext.of s7) _ _ ht2) .nil)))) (by simp) (by simp) fun vd dd H7 md hvd hB7 e7 => ?_
      have hdd : Deed dd ∧ fine dd = true ∧ dd.depth ≤ 1 := by
        simp only [List.mem_cons, List.not_mem_nil, or_false] at md
        have f1 := fun z (h : nameD 4 (.str z) = true) => fine_str (z := z) (fun c hc => by have := letter_of ((name_inv h).1 c hc); omega) (by have := (name_inv h).2.2; omega)
        rcases md with rfl | rfl | rfl
        · exact ⟨.inl rfl, rfl, by simp [PyData.depth]⟩
        · refine ⟨.inr ⟨w1, send_ok w1 mw1, .inl rfl⟩, fine_tuple (by simp) fun d hd => ?_, by simp [PyData.depth, PyData.depthAll]⟩
          simp only [List.mem_cons, List.not_mem_nil, or_false] at hd
          rcases hd with rfl | rfl
          · exact ⟨by decide +kernel, by simp [PyData.depth]⟩
          · exact ⟨f1 _ (send_ok w1 mw1), by simp [PyData.depth]⟩
        · refine ⟨.inr ⟨w2, recv_ok w2 mw2, .inr rfl⟩, fine_tuple (by simp) fun d hd => ?_, by simp [PyData.depth, PyData.depthAll]⟩
          simp only [List.mem_cons, List.not_mem_nil, or_false] at hd
          rcases hd with rfl | rfl
          · exact ⟨by decide +kernel, by simp [PyData.depth]⟩
          · exact ⟨f1 _ (recv_ok w2 mw2), by simp [PyData.depth]⟩
      obtain ⟨hdeed, fdd, ddep⟩ := hdd
      delta gName
      dsimp only [List.set]
      -- step
      have hp7 : ∃ o, H7 B.p = some o := hB7.there
      refine of_dv (K := K) (B := B) (ds := markS.map PyData.str) rfl hB7 (by walk_at "dv") (by decide) (by decide) fun vm dm H8 mm hvm hB8 e8 => ?_
      obtain ⟨m, mm', rfl⟩ := str_mem mm
      cases hvm
      have hm := mark_ok m mm'
      refine ⟨_, rfl, _, rfl, draw_dv (K := K) (B := B) (n := 199) rfl hB8 dv_int (by decide) (by decide) fun dr H9 r0 r1 hB9 e9 => ⟨_, _, rfl, rfl, by show 4 ≤ sizeLine; decide, fun q9 nq9 => ?_⟩⟩
      have s10 : Same H9 (upd H9 q9 (.lst [.int 0, .int 99, .int (-99), .int (dr - 99)])) := same_upd nq9
      refine of_data (E := E0) (K := K) (B := B) (ds := [(0 : Int), 99, -99, dr - 99].map PyData.int) (hB9.ext s10) (.lst (hB9.ne nq9) (lsq upd_same) (.cons (.int _) (.cons (.int _) (.cons (.int _) (.cons (.int _) .nil))))) (by simp) (by simp) fun vn dn H10 mn hvn hB10 e10 => ?_
      obtain ⟨n, mn', rfl⟩ := int_mem mn
      cases hvn
      have hn : -99 ≤ n ∧ n ≤ 99 := by
        simp only [List.mem_cons, List.not_mem_nil, or_false] at mn'
        omega
      have hvd10 := Dd.ext e10 _ _ (Dd.ext (Ext.of s10) _ _ (Dd.ext e9 _ _ (Dd.ext e8 _ _ hvd)))
      refine ⟨_, rfl, by show 3 ≤ sizeLine; decide, fun t11 nt11 => ?_⟩
      have s11 : Same H10 (upd H10 t11 (.tup [.str m, .int n, vd])) := same_upd nt11
      have hstep : Dd K B.p (upd H10 t11 (.tup [.str m, .int n, vd])) (.ref t11) (.tuple [.str m, .int n, dd]) := .tup (hB10.ne nt11) (tsq upd_same) (.cons (.str _) (.cons (.int _) (.cons (Dd.ext (Ext.of s11) _ _ hvd10) .nil)))
      have hB11 := hB10.ext s11
      generalize upd H10 t11 (.tup [.str m, .int n, vd]) = H11 at s11 hstep hB11
      have hp11 : ∃ o, H11 B.p = some o := hB11.there
      have hdd2 : deedD dd = true := by
        rcases hdeed with rfl | ⟨w', hw', rfl | rfl⟩
        · rfl
        · show ((PyData.eqv (.str "send") (.str "send") || (PyData.eqv (.str "receive") (.str "send") || false)) && nameD 4 (.str w')) = true
          rw [hw']
          decide +kernel
        · show ((PyData.eqv (.str "send") (.str "receive") || (PyData.eqv (.str "receive") (.str "receive") || false)) && nameD 4 (.str w')) = true
          rw [hw']
          decide +kernel
      have hsd : stepD (.tuple [.str m, .int n, dd]) = true := by
        show (nameD 4 (.str m) && ((decide (-99 ≤ n) && decide (n ≤ 99)) && deedD dd)) = true
        rw [hm, hdd2, decide_eq_true hn.1, decide_eq_true hn.2]
        rfl
      have fstep : fine (.tuple [.str m, .int n, dd]) = true := by
        refine fine_tuple (by simp) fun d hd => ?_
        simp only [List.mem_cons, List.not_mem_nil, or_false] at hd
        rcases hd with rfl | rfl | rfl
        · exact ⟨fine_str (fun c hc => by have := letter_of ((name_inv hm).1 c hc); omega) (by have := (name_inv hm).2.2; omega), by simp [PyData.depth]⟩
        · exact ⟨rfl, by simp [PyData.depth]⟩
        · exact ⟨fdd, by omega⟩
      generalize hst : PyData.tuple [.str m, .int n, dd] = st at hstep hsd fstep
      have ddst : st.depth ≤ 2 := by
        rw [← hst]
        show max 0 (max 0 (max dd.depth 0)) + 1 ≤ 2
        omega
      dsimp only [List.set]
      -- due
      refine set_dv (K := K) (p := B.p) (d := .str (textD st)) (by walk_at "dv") fun vdue H12 s12 hdue => ?_
      cases hdue
      have hB12 := hB11.ext s12
      have hp12 : ∃ o, H12 B.p = some o := hB12.there
      have hstep12 := Dd.ext (Ext.of s12) _ _ hstep
      have fdue : fine (.str (textD st)) = true := fine_str (text_chars hsd) (by have := text_len hsd; omega)
      have rb := read_back hsd
      dsimp only [List.set]
      refine if_same (K := K) (p := B.p) (n := 7) (d := .list [.str (textD st), .str (textD st), st, st]) (dv_is (d := .list [.str (textD st), .str (textD st), readD (.str (textD st)), readD (.str (textD st))]) (by walk_at "dv") (by rw [rb])) (by walk_at "dv") ?_ ?_ fun H13 s13 => ?_
      · show max 0 (max 0 (max st.depth (max st.depth 0))) + 1 ≤ 7
        omega
      · show (decide (4 ≤ 5000) && (small (.str (textD st)) && (small (.str (textD st)) && (small st && (small st && true))))) = true
        rw [fine_small fdue, fine_small fstep]
        rfl
      have hB13 := hB12.ext s13
      have hp13 : ∃ o, H13 B.p = some o := hB13.there
      -- wrong
      have ltx := text_len hsd
      have c1 : (textD st).length + ("!" : Str).length ≤ 100000 := by show _ + 1 ≤ 100000; omega
      have c2 : (textD st).length + (" " : Str).length ≤ 100000 := by show _ + 1 ≤ 100000; omega
      have c3 : (textD st).length + ("=" : Str).length ≤ 100000 := by show _ + 1 ≤ 100000; omega
      have c4 : ("-" : Str).length + (textD st).length ≤ 100000 := by show 1 + _ ≤ 100000; omega
      refine of_dv (K := K) (B := B) (ds := wrongC ++ [.str (textD st ++ "!"), .str (textD st ++ " "), .str (textD st ++ "="), .str ("-" ++ textD st)]) rfl hB13 (by walk_at "dv") (by simp) (by simp [wrongC]) fun vw dw H14 mw hw hB14 e14 => ?_
      have hp14 : ∃ o, H14 B.p = some o := hB14.there
      have hdw : fine dw = true ∧ readD dw = .none := by
        rcases List.mem_append.mp mw with mw | mw
        · exact ⟨(wrong_ok dw mw).1, isNone_eq (wrong_ok dw mw).2⟩
        · simp only [List.mem_cons, List.not_mem_nil, or_false] at mw
          have tc := text_chars hsd
          rcases mw with rfl | rfl | rfl | rfl
          · exact ⟨fine_app tc (by decide +kernel) (by omega) (by decide +kernel), read_tail hsd (c := 33) (by decide +kernel) (by decide)⟩
          · exact ⟨fine_app tc (by decide +kernel) (by omega) (by decide +kernel), read_tail hsd (c := 32) (by decide +kernel) (by decide)⟩
          · exact ⟨fine_app tc (by decide +kernel) (by omega) (by decide +kernel), read_tail hsd (c := 61) (by decide +kernel) (by decide)⟩
          · exact ⟨fine_app (by decide +kernel) tc (by decide +kernel) (by omega), read_lead hsd (c := 45) (by decide +kernel) (by decide)⟩
      obtain ⟨fw, rw'⟩ := hdw
      refine ⟨_, rfl, B.p, vw, dw, rfl, hp14, hw, fw, fun v' H15 s15 hv' => ?_⟩
      rw [rw'] at hv'
      cases hv'
      refine ⟨rfl, _, rfl, iteF ?_⟩
      exact ⟨⟨_, _, _, _, _, rfl⟩, hB14.ext s15⟩
    · rintro σ H2 ⟨⟨x2, x3, x4, x5, x6, rfl⟩, hB2⟩
      have hp2 : ∃ o, H2 B.p = some o := hB2.there
      have f1 : fine (.str "x?m") = true := by decide +kernel
      have f2 : fine (.str "wait") = true := by decide +kernel
      have s1 : stepD (.tuple [.str "x", .int (-3), .none]) = true := by decide +kernel
      have s2 : stepD (.tuple [.str "done", .int 2, .tuple [.str "send", .str "m"]]) = true := by decide +kernel
      have s3 : stepD (.tuple [.str "x", .int 0, .tuple [.str "receive", .str "m"]]) = true := by decide +kernel
      have s4 : stepD (.tuple [.str "wait", .int 0, .none]) = true := by decide +kernel
      have t1 : textD (.tuple [.str "x", .int (-3), .none]) = "x=-3" := by decide +kernel
      have t2 : textD (.tuple [.str "done", .int 2, .tuple [.str "send", .str "m"]]) = "done=2!m" := by decide +kernel
      have t3 : textD (.tuple [.str "x", .int 0, .tuple [.str "receive", .str "m"]]) = "x?m" := by decide +kernel
      have t4 : textD (.tuple [.str "wait", .int 0, .none]) = "wait" := by decide +kernel
      have r3 := read_back s3
      have r4 := read_back s4
      rw [t3] at r3
      rw [t4] at r4
      dsimp only [tRet]
      refine same_dv (K := K) (p := B.p) (n := 7) (d := .list [.str "x=-3", .str "done=2!m", .tuple [.str "x", .int 0, .tuple [.str "receive", .str "m"]], .tuple [.str "wait", .int 0, .none]]) (dv_is (d := .list [.str (textD (.tuple [.str "x", .int (-3), .none])), .str (textD (.tuple [.str "done", .int 2, .tuple [.str "send", .str "m"]])), readD (.str "x?m"), readD (.str "wait")]) (by walk_at "dv") (by rw [t1, t2, r3, r4])) (by walk_at "dv") (by simp [PyData.depth, PyData.depthAll]) (by decide +kernel) fun H3 s3 => q _
end
end My

set_option Elab.async false
set_option linter.all false
set_option maxRecDepth 100000
namespace My
open PySem PySem.Spec PyProof.Rows L2
theorem all_mk {l : PySem.W.OpenLaw} {w : World} {K : PySem.W.Frag} {h : Heap} {mg : Str → Option Value} {fa : Addr} (X : K.In h) (G : h.Ns mainGlobals mg) (hfa : mg "law" = some (.ref fa))
    {f_is_word : Addr} {od_is_word an_is_word : Option Addr} {sl_is_word : Array (Option Value)} {oc_is_word kV_is_word dc_is_word pm_is_word cd_is_word ct_is_word : Value}
    {f_is_number : Addr} {od_is_number an_is_number : Option Addr} {sl_is_number : Array (Option Value)} {oc_is_number kV_is_number dc_is_number pm_is_number cd_is_number ct_is_number : Value}
    {f_is_step : Addr} {od_is_step an_is_step : Option Addr} {sl_is_step : Array (Option Value)} {oc_is_step kV_is_step dc_is_step pm_is_step cd_is_step ct_is_step : Value}
    {f_step_text : Addr} {od_step_text an_step_text : Option Addr} {sl_step_text : Array (Option Value)} {oc_step_text kV_step_text dc_step_text pm_step_text cd_step_text ct_step_text : Value}
    {f_read_step : Addr} {od_read_step an_read_step : Option Addr} {sl_read_step : Array (Option Value)} {oc_read_step kV_read_step dc_read_step pm_read_step cd_read_step ct_read_step : Value}
    {f_read_number : Addr} {od_read_number an_read_number : Option Addr} {sl_read_number : Array (Option Value)} {oc_read_number kV_read_number dc_read_number pm_read_number cd_read_number ct_read_number : Value}
    {f_consists_of : Addr} {od_consists_of an_consists_of : Option Addr} {sl_consists_of : Array (Option Value)} {oc_consists_of kV_consists_of dc_consists_of pm_consists_of cd_consists_of ct_consists_of : Value}
    {f_is_deed : Addr} {od_is_deed an_is_deed : Option Addr} {sl_is_deed : Array (Option Value)} {oc_is_deed kV_is_deed dc_is_deed pm_is_deed cd_is_deed ct_is_deed : Value}
    {f_split_deed : Addr} {od_split_deed an_split_deed : Option Addr} {sl_split_deed : Array (Option Value)} {oc_split_deed kV_split_deed dc_split_deed pm_split_deed cd_split_deed ct_split_deed : Value}
    {f_Lbag : Addr} {od_Lbag an_Lbag : Option Addr} {sl_Lbag : Array (Option Value)} {oc_Lbag kV_Lbag dc_Lbag pm_Lbag cd_Lbag ct_Lbag : Value}
    {f_Ldraw : Addr} {od_Ldraw an_Ldraw : Option Addr} {sl_Ldraw : Array (Option Value)} {oc_Ldraw kV_Ldraw dc_Ldraw pm_Ldraw cd_Ldraw ct_Ldraw : Value}
    {f_Lof : Addr} {od_Lof an_Lof : Option Addr} {sl_Lof : Array (Option Value)} {oc_Lof kV_Lof dc_Lof pm_Lof cd_Lof ct_Lof : Value}
    {f_Lsame : Addr} {od_Lsame an_Lsame : Option Addr} {sl_Lsame : Array (Option Value)} {oc_Lsame kV_Lsame dc_Lsame pm_Lsame cd_Lsame ct_Lsame : Value}
    {f_Lstep_text : Addr} {od_Lstep_text an_Lstep_text : Option Addr} {sl_Lstep_text : Array (Option Value)} {oc_Lstep_text kV_Lstep_text dc_Lstep_text pm_Lstep_text cd_Lstep_text ct_Lstep_text : Value}
    {f_law : Addr} {od_law an_law : Option Addr} {sl_law : Array (Option Value)} {oc_law kV_law dc_law pm_law cd_law ct_law : Value}
    {q_DEEDS : Addr} {dd_DEEDS : Option Addr} {m_DEEDS : Nat} {sl_DEEDS : Array (Option Value)}
    {q_DEEDS_1 : Addr} {dd_DEEDS_1 : Option Addr} {m_DEEDS_1 : Nat} {sl_DEEDS_1 : Array (Option Value)} {tk_DEEDS_1_0 tk_DEEDS_1_1 : Tok}
    {q_DEEDS_0 : Addr} {dd_DEEDS_0 : Option Addr} {m_DEEDS_0 : Nat} {sl_DEEDS_0 : Array (Option Value)} {tk_DEEDS_0_0 tk_DEEDS_0_1 : Tok}
    {tk_DIGITS : Tok}
    {tk_LEAST : Tok}
    {tk_LETTERS : Tok}
    {tk_MOST : Tok}
    {tk_WORD_LENGTH : Tok}
    (n_is_word : PySem.W.nsIn K mainGlobals "is_word" = some (some (.ref f_is_word))) (l_is_word : K.lookup f_is_word = some ⟨oc_is_word, od_is_word, .func (PySem.W.fnOf "is_word" "is_word" (defArgs s_is_word) (defBody s_is_word) (defScope s_is_word) .none kV_is_word dc_is_word pm_is_word an_is_word cd_is_word ct_is_word), sl_is_word⟩) (c_is_word : PySem.W.codeIn K cd_is_word "is_word" = true) (k_is_word : PySem.W.keepIn K (.ref f_is_word) = true)
    (n_is_number : PySem.W.nsIn K mainGlobals "is_number" = some (some (.ref f_is_number))) (l_is_number : K.lookup f_is_number = some ⟨oc_is_number, od_is_number, .func (PySem.W.fnOf "is_number" "is_number" (defArgs s_is_number) (defBody s_is_number) (defScope s_is_number) .none kV_is_number dc_is_number pm_is_number an_is_number cd_is_number ct_is_number), sl_is_number⟩) (c_is_number : PySem.W.codeIn K cd_is_number "is_number" = true) (k_is_number : PySem.W.keepIn K (.ref f_is_number) = true)
    (n_is_step : PySem.W.nsIn K mainGlobals "is_step" = some (some (.ref f_is_step))) (l_is_step : K.lookup f_is_step = some ⟨oc_is_step, od_is_step, .func (PySem.W.fnOf "is_step" "is_step" (defArgs s_is_step) (defBody s_is_step) (defScope s_is_step) .none kV_is_step dc_is_step pm_is_step an_is_step cd_is_step ct_is_step), sl_is_step⟩) (c_is_step : PySem.W.codeIn K cd_is_step "is_step" = true) (k_is_step : PySem.W.keepIn K (.ref f_is_step) = true)
    (n_step_text : PySem.W.nsIn K mainGlobals "step_text" = some (some (.ref f_step_text))) (l_step_text : K.lookup f_step_text = some ⟨oc_step_text, od_step_text, .func (PySem.W.fnOf "step_text" "step_text" (defArgs s_step_text) (defBody s_step_text) (defScope s_step_text) .none kV_step_text dc_step_text pm_step_text an_step_text cd_step_text ct_step_text), sl_step_text⟩) (c_step_text : PySem.W.codeIn K cd_step_text "step_text" = true) (k_step_text : PySem.W.keepIn K (.ref f_step_text) = true)
    (n_read_step : PySem.W.nsIn K mainGlobals "read_step" = some (some (.ref f_read_step))) (l_read_step : K.lookup f_read_step = some ⟨oc_read_step, od_read_step, .func (PySem.W.fnOf "read_step" "read_step" (defArgs s_read_step) (defBody s_read_step) (defScope s_read_step) .none kV_read_step dc_read_step pm_read_step an_read_step cd_read_step ct_read_step), sl_read_step⟩) (c_read_step : PySem.W.codeIn K cd_read_step "read_step" = true) (k_read_step : PySem.W.keepIn K (.ref f_read_step) = true)
    (n_read_number : PySem.W.nsIn K mainGlobals "read_number" = some (some (.ref f_read_number))) (l_read_number : K.lookup f_read_number = some ⟨oc_read_number, od_read_number, .func (PySem.W.fnOf "read_number" "read_number" (defArgs s_read_number) (defBody s_read_number) (defScope s_read_number) .none kV_read_number dc_read_number pm_read_number an_read_number cd_read_number ct_read_number), sl_read_number⟩) (c_read_number : PySem.W.codeIn K cd_read_number "read_number" = true) (k_read_number : PySem.W.keepIn K (.ref f_read_number) = true)
    (n_consists_of : PySem.W.nsIn K mainGlobals "_consists_of" = some (some (.ref f_consists_of))) (l_consists_of : K.lookup f_consists_of = some ⟨oc_consists_of, od_consists_of, .func (PySem.W.fnOf "_consists_of" "_consists_of" (defArgs s_consists_of) (defBody s_consists_of) (defScope s_consists_of) .none kV_consists_of dc_consists_of pm_consists_of an_consists_of cd_consists_of ct_consists_of), sl_consists_of⟩) (c_consists_of : PySem.W.codeIn K cd_consists_of "_consists_of" = true) (k_consists_of : PySem.W.keepIn K (.ref f_consists_of) = true)
    (n_is_deed : PySem.W.nsIn K mainGlobals "_is_deed" = some (some (.ref f_is_deed))) (l_is_deed : K.lookup f_is_deed = some ⟨oc_is_deed, od_is_deed, .func (PySem.W.fnOf "_is_deed" "_is_deed" (defArgs s_is_deed) (defBody s_is_deed) (defScope s_is_deed) .none kV_is_deed dc_is_deed pm_is_deed an_is_deed cd_is_deed ct_is_deed), sl_is_deed⟩) (c_is_deed : PySem.W.codeIn K cd_is_deed "_is_deed" = true) (k_is_deed : PySem.W.keepIn K (.ref f_is_deed) = true)
    (n_split_deed : PySem.W.nsIn K mainGlobals "_split_deed" = some (some (.ref f_split_deed))) (l_split_deed : K.lookup f_split_deed = some ⟨oc_split_deed, od_split_deed, .func (PySem.W.fnOf "_split_deed" "_split_deed" (defArgs s_split_deed) (defBody s_split_deed) (defScope s_split_deed) .none kV_split_deed dc_split_deed pm_split_deed an_split_deed cd_split_deed ct_split_deed), sl_split_deed⟩) (c_split_deed : PySem.W.codeIn K cd_split_deed "_split_deed" = true) (k_split_deed : PySem.W.keepIn K (.ref f_split_deed) = true)
    (n_Lbag : PySem.W.nsIn K mainGlobals "_law_bag" = some (some (.ref f_Lbag))) (l_Lbag : K.lookup f_Lbag = some ⟨oc_Lbag, od_Lbag, .func (PySem.W.fnOf "_law_bag" "_law_bag" (defArgs s_Lbag) (defBody s_Lbag) (defScope s_Lbag) .none kV_Lbag dc_Lbag pm_Lbag an_Lbag cd_Lbag ct_Lbag), sl_Lbag⟩) (c_Lbag : PySem.W.codeIn K cd_Lbag "_law_bag" = true) (k_Lbag : PySem.W.keepIn K (.ref f_Lbag) = true)
    (n_Ldraw : PySem.W.nsIn K mainGlobals "_law_draw" = some (some (.ref f_Ldraw))) (l_Ldraw : K.lookup f_Ldraw = some ⟨oc_Ldraw, od_Ldraw, .func (PySem.W.fnOf "_law_draw" "_law_draw" (defArgs s_Ldraw) (defBody s_Ldraw) (defScope s_Ldraw) .none kV_Ldraw dc_Ldraw pm_Ldraw an_Ldraw cd_Ldraw ct_Ldraw), sl_Ldraw⟩) (c_Ldraw : PySem.W.codeIn K cd_Ldraw "_law_draw" = true) (k_Ldraw : PySem.W.keepIn K (.ref f_Ldraw) = true)
    (n_Lof : PySem.W.nsIn K mainGlobals "_law_of" = some (some (.ref f_Lof))) (l_Lof : K.lookup f_Lof = some ⟨oc_Lof, od_Lof, .func (PySem.W.fnOf "_law_of" "_law_of" (defArgs s_Lof) (defBody s_Lof) (defScope s_Lof) .none kV_Lof dc_Lof pm_Lof an_Lof cd_Lof ct_Lof), sl_Lof⟩) (c_Lof : PySem.W.codeIn K cd_Lof "_law_of" = true) (k_Lof : PySem.W.keepIn K (.ref f_Lof) = true)
    (n_Lsame : PySem.W.nsIn K mainGlobals "_law_same" = some (some (.ref f_Lsame))) (l_Lsame : K.lookup f_Lsame = some ⟨oc_Lsame, od_Lsame, .func (PySem.W.fnOf "_law_same" "_law_same" (defArgs s_Lsame) (defBody s_Lsame) (defScope s_Lsame) .none kV_Lsame dc_Lsame pm_Lsame an_Lsame cd_Lsame ct_Lsame), sl_Lsame⟩) (c_Lsame : PySem.W.codeIn K cd_Lsame "_law_same" = true) (k_Lsame : PySem.W.keepIn K (.ref f_Lsame) = true)
    (n_Lstep_text : PySem.W.nsIn K mainGlobals "_law_step_text" = some (some (.ref f_Lstep_text))) (l_Lstep_text : K.lookup f_Lstep_text = some ⟨oc_Lstep_text, od_Lstep_text, .func (PySem.W.fnOf "_law_step_text" "_law_step_text" (defArgs s_Lstep_text) (defBody s_Lstep_text) (defScope s_Lstep_text) .none kV_Lstep_text dc_Lstep_text pm_Lstep_text an_Lstep_text cd_Lstep_text ct_Lstep_text), sl_Lstep_text⟩) (c_Lstep_text : PySem.W.codeIn K cd_Lstep_text "_law_step_text" = true) (k_Lstep_text : PySem.W.keepIn K (.ref f_Lstep_text) = true)
    (n_law : PySem.W.nsIn K mainGlobals "law" = some (some (.ref f_law))) (l_law : K.lookup f_law = some ⟨oc_law, od_law, .func (PySem.W.fnOf "law" "law" (defArgs s_law) (defBody s_law) (defScope s_law) .none kV_law dc_law pm_law an_law cd_law ct_law), sl_law⟩) (c_law : PySem.W.codeIn K cd_law "law" = true) (k_law : PySem.W.keepIn K (.ref f_law) = true)
    (n_DEEDS : PySem.W.nsIn K mainGlobals "DEEDS" = some (some (.ref q_DEEDS)))
    (l_DEEDS : K.lookup q_DEEDS = some ⟨.type "tuple", dd_DEEDS, .seq #[.ref q_DEEDS_0, .ref q_DEEDS_1] m_DEEDS, sl_DEEDS⟩)
    (l_DEEDS_1 : K.lookup q_DEEDS_1 = some ⟨.type "tuple", dd_DEEDS_1, .seq #[.str "receive" tk_DEEDS_1_0, .str "?" tk_DEEDS_1_1] m_DEEDS_1, sl_DEEDS_1⟩)
    (l_DEEDS_0 : K.lookup q_DEEDS_0 = some ⟨.type "tuple", dd_DEEDS_0, .seq #[.str "send" tk_DEEDS_0_0, .str "!" tk_DEEDS_0_1] m_DEEDS_0, sl_DEEDS_0⟩)
    (n_DIGITS : PySem.W.nsIn K mainGlobals "DIGITS" = some (some (.str "0123456789" tk_DIGITS)))
    (n_LEAST : PySem.W.nsIn K mainGlobals "LEAST" = some (some (.int (-99) tk_LEAST)))
    (n_LETTERS : PySem.W.nsIn K mainGlobals "LETTERS" = some (some (.str "abcdefghijklmnopqrstuvwxyz" tk_LETTERS)))
    (n_MOST : PySem.W.nsIn K mainGlobals "MOST" = some (some (.int 99 tk_MOST)))
    (n_WORD_LENGTH : PySem.W.nsIn K mainGlobals "WORD_LENGTH" = some (some (.int 4 tk_WORD_LENGTH)))
    (z_all : PySem.W.nsIn K mainGlobals "all" = some none)
    (z_bool : PySem.W.nsIn K mainGlobals "bool" = some none)
    (z_int : PySem.W.nsIn K mainGlobals "int" = some none)
    (z_isinstance : PySem.W.nsIn K mainGlobals "isinstance" = some none)
    (z_len : PySem.W.nsIn K mainGlobals "len" = some none)
    (z_list : PySem.W.nsIn K mainGlobals "list" = some none)
    (z_range : PySem.W.nsIn K mainGlobals "range" = some none)
    (z_str : PySem.W.nsIn K mainGlobals "str" = some none)
    (z_tuple : PySem.W.nsIn K mainGlobals "tuple" = some none)
    (z_zip : PySem.W.nsIn K mainGlobals "zip" = some none)
    : ∃ fd : FuncData, (∀ (s : Shared) (v : Value), BindsTo s fd ⟨[v], []⟩ [("_law_script", v)]) ∧ ∀ base : Heap, K.In base → base.Ns mainGlobals mg → FnOk l.prog w K mg base CX0 10 fa fd ["_law_script"] (spLaw K) := by
  have e : f_law = fa := Value.ref.inj (Option.some.inj ((PySem.W.mg_of X G n_law).symm.trans hfa))
  subst e
  have F_is_word := fun_mk (st := s_is_word) l_is_word c_is_word k_is_word
  have F_is_number := fun_mk (st := s_is_number) l_is_number c_is_number k_is_number
  have F_is_step := fun_mk (st := s_is_step) l_is_step c_is_step k_is_step
  have F_step_text := fun_mk (st := s_step_text) l_step_text c_step_text k_step_text
  have F_read_step := fun_mk (st := s_read_step) l_read_step c_read_step k_read_step
  have F_read_number := fun_mk (st := s_read_number) l_read_number c_read_number k_read_number
  have F_consists_of := fun_mk (st := s_consists_of) l_consists_of c_consists_of k_consists_of
  have F_is_deed := fun_mk (st := s_is_deed) l_is_deed c_is_deed k_is_deed
  have F_split_deed := fun_mk (st := s_split_deed) l_split_deed c_split_deed k_split_deed
  have F_Lbag := fun_mk (st := s_Lbag) l_Lbag c_Lbag k_Lbag
  have F_Ldraw := fun_mk (st := s_Ldraw) l_Ldraw c_Ldraw k_Ldraw
  have F_Lof := fun_mk (st := s_Lof) l_Lof c_Lof k_Lof
  have F_Lsame := fun_mk (st := s_Lsame) l_Lsame c_Lsame k_Lsame
  have F_Lstep_text := fun_mk (st := s_Lstep_text) l_Lstep_text c_Lstep_text k_Lstep_text
  have F_law := fun_mk (st := s_law) l_law c_law k_law
  have T : TopOk K mg ⟨f_is_word, PySem.W.fnOf "is_word" "is_word" (defArgs s_is_word) (defBody s_is_word) (defScope s_is_word) Value.none kV_is_word dc_is_word pm_is_word an_is_word cd_is_word ct_is_word,
    f_is_number, PySem.W.fnOf "is_number" "is_number" (defArgs s_is_number) (defBody s_is_number) (defScope s_is_number) Value.none kV_is_number dc_is_number pm_is_number an_is_number cd_is_number ct_is_number,
    f_is_step, PySem.W.fnOf "is_step" "is_step" (defArgs s_is_step) (defBody s_is_step) (defScope s_is_step) Value.none kV_is_step dc_is_step pm_is_step an_is_step cd_is_step ct_is_step,
    f_step_text, PySem.W.fnOf "step_text" "step_text" (defArgs s_step_text) (defBody s_step_text) (defScope s_step_text) Value.none kV_step_text dc_step_text pm_step_text an_step_text cd_step_text ct_step_text,
    f_read_step, PySem.W.fnOf "read_step" "read_step" (defArgs s_read_step) (defBody s_read_step) (defScope s_read_step) Value.none kV_read_step dc_read_step pm_read_step an_read_step cd_read_step ct_read_step,
    f_read_number, PySem.W.fnOf "read_number" "read_number" (defArgs s_read_number) (defBody s_read_number) (defScope s_read_number) Value.none kV_read_number dc_read_number pm_read_number an_read_number cd_read_number ct_read_number,
    f_consists_of, PySem.W.fnOf "_consists_of" "_consists_of" (defArgs s_consists_of) (defBody s_consists_of) (defScope s_consists_of) Value.none kV_consists_of dc_consists_of pm_consists_of an_consists_of cd_consists_of ct_consists_of,
    f_is_deed, PySem.W.fnOf "_is_deed" "_is_deed" (defArgs s_is_deed) (defBody s_is_deed) (defScope s_is_deed) Value.none kV_is_deed dc_is_deed pm_is_deed an_is_deed cd_is_deed ct_is_deed,
    f_split_deed, PySem.W.fnOf "_split_deed" "_split_deed" (defArgs s_split_deed) (defBody s_split_deed) (defScope s_split_deed) Value.none kV_split_deed dc_split_deed pm_split_deed an_split_deed cd_split_deed ct_split_deed,
    f_Lbag, PySem.W.fnOf "_law_bag" "_law_bag" (defArgs s_Lbag) (defBody s_Lbag) (defScope s_Lbag) Value.none kV_Lbag dc_Lbag pm_Lbag an_Lbag cd_Lbag ct_Lbag,
    f_Ldraw, PySem.W.fnOf "_law_draw" "_law_draw" (defArgs s_Ldraw) (defBody s_Ldraw) (defScope s_Ldraw) Value.none kV_Ldraw dc_Ldraw pm_Ldraw an_Ldraw cd_Ldraw ct_Ldraw,
    f_Lof, PySem.W.fnOf "_law_of" "_law_of" (defArgs s_Lof) (defBody s_Lof) (defScope s_Lof) Value.none kV_Lof dc_Lof pm_Lof an_Lof cd_Lof ct_Lof,
    f_Lsame, PySem.W.fnOf "_law_same" "_law_same" (defArgs s_Lsame) (defBody s_Lsame) (defScope s_Lsame) Value.none kV_Lsame dc_Lsame pm_Lsame an_Lsame cd_Lsame ct_Lsame,
    f_Lstep_text, PySem.W.fnOf "_law_step_text" "_law_step_text" (defArgs s_Lstep_text) (defBody s_Lstep_text) (defScope s_Lstep_text) Value.none kV_Lstep_text dc_Lstep_text pm_Lstep_text an_Lstep_text cd_Lstep_text ct_Lstep_text,
    f_law, PySem.W.fnOf "law" "law" (defArgs s_law) (defBody s_law) (defScope s_law) Value.none kV_law dc_law pm_law an_law cd_law ct_law,
    q_DEEDS, .ref q_DEEDS,
    .str "0123456789" tk_DIGITS,
    .int (-99) tk_LEAST,
    .str "abcdefghijklmnopqrstuvwxyz" tk_LETTERS,
    .int 99 tk_MOST,
    .int 4 tk_WORD_LENGTH⟩ := ⟨F_is_word,
    PySem.W.mg_of X G n_is_word,
    F_is_word.binds (ps := P_is_word) fun _ _ _ _ _ _ us hl => match us, hl with | [_], _ => rfl,
    F_is_number,
    PySem.W.mg_of X G n_is_number,
    F_is_number.binds (ps := P_is_number) fun _ _ _ _ _ _ us hl => match us, hl with | [_, _, _], _ => rfl,
    F_is_step,
    PySem.W.mg_of X G n_is_step,
    F_is_step.binds (ps := P_is_step) fun _ _ _ _ _ _ us hl => match us, hl with | [_], _ => rfl,
    F_step_text,
    PySem.W.mg_of X G n_step_text,
    F_step_text.binds (ps := P_step_text) fun _ _ _ _ _ _ us hl => match us, hl with | [_], _ => rfl,
    F_read_step,
    PySem.W.mg_of X G n_read_step,
    F_read_step.binds (ps := P_read_step) fun _ _ _ _ _ _ us hl => match us, hl with | [_], _ => rfl,
    F_read_number,
    PySem.W.mg_of X G n_read_number,
    F_read_number.binds (ps := P_read_number) fun _ _ _ _ _ _ us hl => match us, hl with | [_], _ => rfl,
    F_consists_of,
    PySem.W.mg_of X G n_consists_of,
    F_consists_of.binds (ps := P_consists_of) fun _ _ _ _ _ _ us hl => match us, hl with | [_, _], _ => rfl,
    F_is_deed,
    PySem.W.mg_of X G n_is_deed,
    F_is_deed.binds (ps := P_is_deed) fun _ _ _ _ _ _ us hl => match us, hl with | [_], _ => rfl,
    F_split_deed,
    PySem.W.mg_of X G n_split_deed,
    F_split_deed.binds (ps := P_split_deed) fun _ _ _ _ _ _ us hl => match us, hl with | [_], _ => rfl,
    F_Lbag,
    PySem.W.mg_of X G n_Lbag,
    F_Lbag.binds (ps := P_Lbag) fun _ _ _ _ _ _ us hl => match us, hl with | [_], _ => rfl,
    F_Ldraw,
    PySem.W.mg_of X G n_Ldraw,
    F_Ldraw.binds (ps := P_Ldraw) fun _ _ _ _ _ _ us hl => match us, hl with | [_, _], _ => rfl,
    F_Lof,
    PySem.W.mg_of X G n_Lof,
    F_Lof.binds (ps := P_Lof) fun _ _ _ _ _ _ us hl => match us, hl with | [_, _], _ => rfl,
    F_Lsame,
    PySem.W.mg_of X G n_Lsame,
    F_Lsame.binds (ps := P_Lsame) fun _ _ _ _ _ _ us hl => match us, hl with | [_, _], _ => rfl,
    F_Lstep_text,
    PySem.W.mg_of X G n_Lstep_text,
    F_Lstep_text.binds (ps := P_Lstep_text) fun _ _ _ _ _ _ us hl => match us, hl with | [_], _ => rfl,
    F_law,
    PySem.W.mg_of X G n_law,
    F_law.binds (ps := P_law) fun _ _ _ _ _ _ us hl => match us, hl with | [_], _ => rfl,
    PySem.W.mg_of X G n_DEEDS,
    rfl,
    fun H => (tup_k (xs := [.ref q_DEEDS_0, .ref q_DEEDS_1]) l_DEEDS (by show 2 ≤ sizeLine; decide) (.cons rfl (.cons rfl .nil)) (.cons (tup_k (xs := [.str "send", .str "!"]) l_DEEDS_0 (by show 2 ≤ sizeLine; decide) (.cons ⟨_, rfl⟩ (.cons ⟨_, rfl⟩ .nil)) (.cons (.str _) (.cons (.str _) .nil))) (.cons (tup_k (xs := [.str "receive", .str "?"]) l_DEEDS_1 (by show 2 ≤ sizeLine; decide) (.cons ⟨_, rfl⟩ (.cons ⟨_, rfl⟩ .nil)) (.cons (.str _) (.cons (.str _) .nil))) .nil))),
    PySem.W.mg_of X G n_DIGITS,
    ⟨_, rfl⟩,
    PySem.W.mg_of X G n_LEAST,
    ⟨_, rfl⟩,
    PySem.W.mg_of X G n_LETTERS,
    ⟨_, rfl⟩,
    PySem.W.mg_of X G n_MOST,
    ⟨_, rfl⟩,
    PySem.W.mg_of X G n_WORD_LENGTH,
    ⟨_, rfl⟩,
    PySem.W.mg_none_of X G z_all,
    PySem.W.mg_none_of X G z_bool,
    PySem.W.mg_none_of X G z_int,
    PySem.W.mg_none_of X G z_isinstance,
    PySem.W.mg_none_of X G z_len,
    PySem.W.mg_none_of X G z_list,
    PySem.W.mg_none_of X G z_range,
    PySem.W.mg_none_of X G z_str,
    PySem.W.mg_none_of X G z_tuple,
    PySem.W.mg_none_of X G z_zip,
    kb_mk F_read_step (fun _ _ _ _ _ _ us ws h1 h2 => match us, ws, h1, h2 with | [], [_], _, _ => rfl) (fun r1 r2 => (r2.drop 0).take 1),
    kb_mk F_step_text (fun _ _ _ _ _ _ us ws h1 h2 => match us, ws, h1, h2 with | [], [_], _, _ => rfl) (fun r1 r2 => (r2.drop 0).take 1)⟩
  exact ⟨_, fun s v => .of_eq rfl, fun base _ _ => ok_law T⟩
end My
open PySem PySem.W PyProof.Rows
set_option maxRecDepth 100000 in
set_option maxHeartbeats 0 in
theorem PySem.Challenge.cw_tiedmoments_k03_whole_texts_of_steps_holds : PySem.Challenge.rw_tiedmoments_k03_whole_texts_of_steps.Holds := by
  w_on; o_law; k_head; (case hw => w_witness2)
  k_fill
  refine L2.walk_of (l := PySem.Challenge.rw_tiedmoments_k03_whole_texts_of_steps) (n := 63) (k := 10) (x := "_law_script") (CX := fun _ => L2.CX0) (sp := fun w => My.spLaw _) rfl (by decide) rfl ⟨rfl, by decide, by decide⟩ (fun w h Y => PySem.W.kIn_of Y) ?F (fun _ _ a ns hl _ hS => ⟨a, ns, rfl, hS, hl, fun _ => rfl⟩) (fun _ _ _ _ _ h => h)
  case F =>
    intro w mg fa h KX G hmg
    refine' My.all_mk KX G hmg ?n_is_word ?l_is_word ?c_is_word ?k_is_word ?n_is_number ?l_is_number ?c_is_number ?k_is_number ?n_is_step ?l_is_step ?c_is_step ?k_is_step ?n_step_text ?l_step_text ?c_step_text ?k_step_text ?n_read_step ?l_read_step ?c_read_step ?k_read_step ?n_read_number ?l_read_number ?c_read_number ?k_read_number ?n_consists_of ?l_consists_of ?c_consists_of ?k_consists_of ?n_is_deed ?l_is_deed ?c_is_deed ?k_is_deed ?n_split_deed ?l_split_deed ?c_split_deed ?k_split_deed ?n_Lbag ?l_Lbag ?c_Lbag ?k_Lbag ?n_Ldraw ?l_Ldraw ?c_Ldraw ?k_Ldraw ?n_Lof ?l_Lof ?c_Lof ?k_Lof ?n_Lsame ?l_Lsame ?c_Lsame ?k_Lsame ?n_Lstep_text ?l_Lstep_text ?c_Lstep_text ?k_Lstep_text ?n_law ?l_law ?c_law ?k_law ?n_DEEDS ?l_DEEDS ?l_DEEDS_1 ?l_DEEDS_0 ?n_DIGITS ?n_LEAST ?n_LETTERS ?n_MOST ?n_WORD_LENGTH ?z_all ?z_bool ?z_int ?z_isinstance ?z_len ?z_list ?z_range ?z_str ?z_tuple ?z_zip
    (case n_is_word => k_is)
    (case l_is_word => k_is)
    (case c_is_word => k_is)
    (case k_is_word => k_is)
    (case n_is_number => k_is)
    (case l_is_number => k_is)
    (case c_is_number => k_is)
    (case k_is_number => k_is)
    (case n_is_step => k_is)
    (case l_is_step => k_is)
    (case c_is_step => k_is)
    (case k_is_step => k_is)
    (case n_step_text => k_is)
    (case l_step_text => k_is)
    (case c_step_text => k_is)
    (case k_step_text => k_is)
    (case n_read_step => k_is)
    (case l_read_step => k_is)
    (case c_read_step => k_is)
    (case k_read_step => k_is)
    (case n_read_number => k_is)
    (case l_read_number => k_is)
    (case c_read_number => k_is)
    (case k_read_number => k_is)
    (case n_consists_of => k_is)
    (case l_consists_of => k_is)
    (case c_consists_of => k_is)
    (case k_consists_of => k_is)
    (case n_is_deed => k_is)
    (case l_is_deed => k_is)
    (case c_is_deed => k_is)
    (case k_is_deed => k_is)
    (case n_split_deed => k_is)
    (case l_split_deed => k_is)
    (case c_split_deed => k_is)
    (case k_split_deed => k_is)
    (case n_Lbag => k_is)
    (case l_Lbag => k_is)
    (case c_Lbag => k_is)
    (case k_Lbag => k_is)
    (case n_Ldraw => k_is)
    (case l_Ldraw => k_is)
    (case c_Ldraw => k_is)
    (case k_Ldraw => k_is)
    (case n_Lof => k_is)
    (case l_Lof => k_is)
    (case c_Lof => k_is)
    (case k_Lof => k_is)
    (case n_Lsame => k_is)
    (case l_Lsame => k_is)
    (case c_Lsame => k_is)
    (case k_Lsame => k_is)
    (case n_Lstep_text => k_is)
    (case l_Lstep_text => k_is)
    (case c_Lstep_text => k_is)
    (case k_Lstep_text => k_is)
    (case n_law => k_is)
    (case l_law => k_is)
    (case c_law => k_is)
    (case k_law => k_is)
    (case n_DEEDS => k_is)
    (case l_DEEDS => k_is)
    (case l_DEEDS_1 => k_is)
    (case l_DEEDS_0 => k_is)
    (case n_DIGITS => k_is)
    (case n_LEAST => k_is)
    (case n_LETTERS => k_is)
    (case n_MOST => k_is)
    (case n_WORD_LENGTH => k_is)
    (case z_all => k_is)
    (case z_bool => k_is)
    (case z_int => k_is)
    (case z_isinstance => k_is)
    (case z_len => k_is)
    (case z_list => k_is)
    (case z_range => k_is)
    (case z_str => k_is)
    (case z_tuple => k_is)
    (case z_zip => k_is)
