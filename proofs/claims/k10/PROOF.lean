import PyProof.Rows.All
import Wide.All
import OpenK.AllK
import Wide.FinOn
import HandS.ForMost
import HandS.IsInst
import HandS.Zip
import HandS.Walk
import HandS.Defaults
import HandS.FStr
import HandS.TupLe
import HandS.Evl
import HandS.Style
import HandS.StrMore
import HandS.Deep
import KE.GoesMore
import PyProof.Draws
import HandS.SetFor
import HandS.Star
import HandS.ClsMeth
import HandS.OwnEq
import HandS.Codes
import KE.KCallOwn
import KE.SortData
import KE.GoesZip
import KE.KDictZip
import HandS.More
import HandS.DictComp
import HandS.TupAny
import KE.KTupSum
import HandS.ExcInit
import HandS.ExcField
import HandS.ExcIs
import HandS.ExcValue
import KE.KExcIs
import KE.KExcInit
import HandS.ExcCtx
import HandS.HotCalls
import KE.KExcHand
import HandS.Lambda
import HandS.TupMul
import KE.KStateDown
import HandS.Head0
import HandS.Head1
import HandS.Head2
import HandS.HeadHook1
import HandS.HeadHook2
import HandS.HeadHook3
import HandS.HeadHook4
import HandS.HeadNt
import HandS.HeadWalk
import HandS.EndTab
import KE.IntTextLaws
import HandS.RaiseMore
import KE.KxIndex
import OpenK.KOps
import PySem.Challenge.RW_tiedmoments_k10_logs_grown
set_option Elab.async false
set_option linter.all false
set_option maxRecDepth 100000
/-! Own ground: rules that lacked, data in the heap, the bag of the laws. -/
namespace My
open PySem PySem.Spec PyProof.Rows L2
/-! ### a call by keywords alone -/
/-! ### is not True, of an int -/
/-! ### heaps -/
/-- all but what stands at p is as it was -/
def Ext (p : Addr) (H H' : Hp) : Prop := ∀ b o, H b = some o → b ≠ p → H' b = some o
theorem Ext.refl (p : Addr) (H : Hp) : Ext p H H := fun _ _ h _ => h
theorem Ext.trans {p : Addr} {H H1 H2 : Hp} (a : Ext p H H1) (b : Ext p H1 H2) : Ext p H H2 := fun c o h n => b c o (a c o h n) n
theorem Ext.of {p : Addr} {H H' : Hp} (a : Same H H') : Ext p H H' := fun c o h _ => a c o h
theorem same_upd {o : HO} {p : Addr} {H : Hp} (h : H p = none) : Same H (upd H p o) := fun b x e => by
  rw [upd_ne (ne_of_none e h)]
  exact e
theorem Same.at {H H' : Hp} (s : Same H H') {a : Addr} {o : HO} (h : H a = some o) : H' a = some o := s a o h
theorem Rd.same {H H' : Hp} (s : Same H H') {a : Addr} {o : HO} (h : Rd H a o) : Rd H' a o := by
  rcases h with h | ⟨u, h⟩
  · exact .inl (s _ _ h)
  · exact .inr ⟨u, s _ _ h⟩
theorem Rd.ext {p : Addr} {H H' : Hp} (s : Ext p H H') {a : Addr} {o : HO} (n : a ≠ p) (h : Rd H a o) : Rd H' a o := by
  rcases h with h | ⟨u, h⟩
  · exact .inl (s _ _ h n)
  · exact .inr ⟨u, s _ _ h n⟩
theorem SqL.same {K : PySem.W.Frag} {H H' : Hp} (s : Same H H') {a : Addr} {xs : List V} (h : SqL K H a xs) : SqL K H' a xs := by
  rcases h with h | h
  · exact .inl (Rd.same s h)
  · exact .inr h
theorem SqT.same {K : PySem.W.Frag} {H H' : Hp} (s : Same H H') {a : Addr} {xs : List V} (h : SqT K H a xs) : SqT K H' a xs := by
  rcases h with h | h
  · exact .inl (Rd.same s h)
  · exact .inr h
theorem SqL.ext {K : PySem.W.Frag} {p : Addr} {H H' : Hp} (s : Ext p H H') {a : Addr} {xs : List V} (n : a ≠ p) (h : SqL K H a xs) : SqL K H' a xs := by
  rcases h with h | h
  · exact .inl (Rd.ext s n h)
  · exact .inr h
theorem SqT.ext {K : PySem.W.Frag} {p : Addr} {H H' : Hp} (s : Ext p H H') {a : Addr} {xs : List V} (n : a ≠ p) (h : SqT K H a xs) : SqT K H' a xs := by
  rcases h with h | h
  · exact .inl (Rd.ext s n h)
  · exact .inr h
theorem lsq {K : PySem.W.Frag} {H : Hp} {a : Addr} {xs : List V} (h : H a = some (.lst xs)) : SqL K H a xs := .inl (.inl h)
theorem tsq {K : PySem.W.Frag} {H : Hp} {a : Addr} {xs : List V} (h : H a = some (.tup xs)) : SqT K H a xs := .inl (.inl h)
theorem sz {n : Nat} (h : n ≤ 100000) : n ≤ sizeLine := Nat.le_trans h (by decide)
theorem szl {n : Nat} (h : n < 100000) : n < sizeLine := Nat.lt_of_lt_of_le h (by decide)
/-! ### data in the heap, away from p -/
mutual
inductive Dd (K : PySem.W.Frag) (p : Addr) (H : Hp) : V → PyData → Prop
  | non : Dd K p H .non .none
  | bl (b : Bool) : Dd K p H (.bl b) (.bool b)
  | int (i : Int) : Dd K p H (.int i) (.int i)
  | str (x : Str) : Dd K p H (.str x) (.str x)
  | lst {a : Addr} {xs : List V} {ds : List PyData} : a ≠ p → SqL K H a xs → DdAll K p H xs ds → Dd K p H (.ref a) (.list ds)
  | tup {a : Addr} {xs : List V} {ds : List PyData} : a ≠ p → SqT K H a xs → DdAll K p H xs ds → Dd K p H (.ref a) (.tuple ds)
inductive DdAll (K : PySem.W.Frag) (p : Addr) (H : Hp) : List V → List PyData → Prop
  | nil : DdAll K p H [] []
  | cons {v : V} {vs : List V} {d : PyData} {ds : List PyData} : Dd K p H v d → DdAll K p H vs ds → DdAll K p H (v :: vs) (d :: ds)
end
section
variable {K : PySem.W.Frag} {p : Addr} {H H' : Hp}
mutual
theorem Dd.ext (s : Ext p H H') : ∀ (d : PyData) (v : V), Dd K p H v d → Dd K p H' v d
  | .none, _, h => by cases h; exact .non
  | .bool _, _, h => by cases h; exact .bl _
  | .int _, _, h => by cases h; exact .int _
  | .str _, _, h => by cases h; exact .str _
  | .list ds, _, h => by
    cases h with
    | lst n a b => exact .lst n (SqL.ext s n a) (DdAll.ext s ds _ b)
  | .tuple ds, _, h => by
    cases h with
    | tup n a b => exact .tup n (SqT.ext s n a) (DdAll.ext s ds _ b)
  | .dict _, _, h => by cases h
theorem DdAll.ext (s : Ext p H H') : ∀ (ds : List PyData) (vs : List V), DdAll K p H vs ds → DdAll K p H' vs ds
  | [], _, h => by cases h; exact .nil
  | d :: ds, _, h => by
    cases h with
    | cons a b => exact .cons (Dd.ext s d _ a) (DdAll.ext s ds _ b)
end
mutual
theorem Dd.dp : ∀ (d : PyData) (v : V), Dd K p H v d → Dp K H v d
  | .none, _, h => by cases h; exact .non
  | .bool _, _, h => by cases h; exact .bl _
  | .int _, _, h => by cases h; exact .int _
  | .str _, _, h => by cases h; exact .str _
  | .list ds, _, h => by
    cases h with
    | lst n a b => exact .lst a (DdAll.dp ds _ b)
  | .tuple ds, _, h => by
    cases h with
    | tup n a b => exact .tup a (DdAll.dp ds _ b)
  | .dict _, _, h => by cases h
theorem DdAll.dp : ∀ (ds : List PyData) (vs : List V), DdAll K p H vs ds → DpAll K H vs ds
  | [], _, h => by cases h; exact .nil
  | d :: ds, _, h => by
    cases h with
    | cons a b => exact .cons (Dd.dp d _ a) (DdAll.dp ds _ b)
end
mutual
theorem Dp.same (s : Same H H') : ∀ (d : PyData) (v : V), Dp K H v d → Dp K H' v d
  | .none, _, h => by cases h; exact .non
  | .bool _, _, h => by cases h; exact .bl _
  | .int _, _, h => by cases h; exact .int _
  | .str _, _, h => by cases h; exact .str _
  | .list ds, _, h => by
    cases h with
    | lst a b => exact .lst (SqL.same s a) (DpAll.same s ds _ b)
  | .tuple ds, _, h => by
    cases h with
    | tup a b => exact .tup (SqT.same s a) (DpAll.same s ds _ b)
  | .dict _, _, h => by cases h
theorem DpAll.same (s : Same H H') : ∀ (ds : List PyData) (vs : List V), DpAll K H vs ds → DpAll K H' vs ds
  | [], _, h => by cases h; exact .nil
  | d :: ds, _, h => by
    cases h with
    | cons a b => exact .cons (Dp.same s d _ a) (DpAll.same s ds _ b)
end
theorem DpAll.length : ∀ {ds : List PyData} {vs : List V}, DpAll K H vs ds → vs.length = ds.length
  | [], _, h => by cases h; rfl
  | d :: ds, _, h => by
    cases h with
    | cons a b => exact congrArg Nat.succ (DpAll.length b)
theorem DpAll.get : ∀ {ds : List PyData} {vs : List V} {i : Nat} {v : V}, DpAll K H vs ds → vs[i]? = some v → ∃ d, ds[i]? = some d ∧ Dp K H v d
  | [], _, _, _, h, e => by cases h; simp at e
  | d :: ds, _, 0, _, h, e => by
    cases h with
    | cons a b => simp at e; subst e; exact ⟨d, rfl, a⟩
  | d :: ds, _, i + 1, _, h, e => by
    cases h with
    | cons a b =>
      obtain ⟨d', e1, e2⟩ := DpAll.get (i := i) b (by simpa using e)
      exact ⟨d', by simpa using e1, e2⟩
end
/-! ### the bag of the laws -/
/-- where a bag stands: its list, its list of cells, the cells -/
structure BagId where
  p : Addr
  l : Addr
  ns : List Int
def Bag (B : BagId) (H : Hp) : Prop := ∃ (i g m c : Int), H B.p = some (.lst [.ref B.l, .int i, .int g, .int m, .int c]) ∧ H B.l = some (.lst (B.ns.map V.int)) ∧ B.l ≠ B.p ∧ 0 ≤ i ∧ i ≤ B.ns.length ∧ B.ns.length ≤ 63 ∧ 0 ≤ g ∧ 0 ≤ m ∧ m < 2147483549
theorem Bag.ext {B : BagId} {H H' : Hp} (b : Bag B H) (s : Same H H') : Bag B H' := by
  obtain ⟨i, g, m, c, h1, h2, r⟩ := b
  exact ⟨i, g, m, c, s _ _ h1, s _ _ h2, r⟩
theorem Bag.there {B : BagId} {H : Hp} (b : Bag B H) : ∃ o, H B.p = some o := by
  obtain ⟨i, g, m, c, h1, _⟩ := b
  exact ⟨_, h1⟩
theorem Bag.thereL {B : BagId} {H : Hp} (b : Bag B H) : ∃ o, H B.l = some o := by
  obtain ⟨i, g, m, c, h1, h2, _⟩ := b
  exact ⟨_, h2⟩
theorem Bag.ne {B : BagId} {a : Addr} {H : Hp} (b : Bag B H) (h : H a = none) : a ≠ B.p := by
  obtain ⟨o, e⟩ := b.there
  exact (ne_of_none e h).symm
theorem Bag.neL {B : BagId} {a : Addr} {H : Hp} (b : Bag B H) (h : H a = none) : a ≠ B.l := by
  obtain ⟨o, e⟩ := b.thereL
  exact (ne_of_none e h).symm
theorem Bag.upd {B : BagId} {a : Addr} {o : HO} {H : Hp} (b : Bag B H) (h1 : a ≠ B.p) (h2 : a ≠ B.l) : Bag B (upd H a o) := by
  obtain ⟨i, g, m, c, e1, e2, r⟩ := b
  exact ⟨i, g, m, c, by rw [upd_ne h1.symm]; exact e1, by rw [upd_ne h2.symm]; exact e2, r⟩
def spBag (K : PySem.W.Frag) : Sp := fun vs H Q _ => ∃ (a : Addr) (ns : List Int), vs = [.ref a] ∧ SqL K H a (ns.map V.int) ∧ ns.length ≤ 63 ∧ ∀ (B : BagId) (H' : Hp), H B.p = none → Bag B H' → Same H H' → Q (.ref B.p) H'
def spDraw : Sp := fun vs H Q _ => ∃ (B : BagId) (n : Int), vs = [.ref B.p, .int n] ∧ Bag B H ∧ 0 < n ∧ n < 1073741824 ∧ ∀ (r : Int) (H' : Hp), 0 ≤ r → r < n → Bag B H' → Ext B.p H H' → Q (.int r) H'
def spOf (K : PySem.W.Frag) : Sp := fun vs H Q _ => ∃ (B : BagId) (y : V), vs = [.ref B.p, y] ∧ Bag B H ∧
  ((∃ (q : Addr) (xs : List V), y = .ref q ∧ q ≠ B.p ∧ (SqL K H q xs ∨ SqT K H q xs) ∧ 0 < xs.length ∧ xs.length < 1073741824 ∧ ∀ (v : V) (H' : Hp), v ∈ xs → Bag B H' → Ext B.p H H' → Q v H') ∨
   (∃ z : Str, y = .str z ∧ 0 < z.length ∧ z.length ≤ sizeLine ∧ ∀ (c : Nat) (H' : Hp), c ∈ z.cps.toList → Bag B H' → Ext B.p H H' → Q (.str ⟨#[c]⟩) H'))
mutual
/-- no list in it is long -/
def small : PyData → Bool
  | .list ds => decide (ds.length ≤ 5000) && smallAll ds
  | .tuple ds => decide (ds.length ≤ 5000) && smallAll ds
  | .dict _ => false
  | .none => true
  | .bool _ => true
  | .int _ => true
  | .str x => decide (x.length ≤ 5000)
def smallAll : List PyData → Bool
  | [] => true
  | d :: ds => small d && smallAll ds
end
theorem smallAll_get : ∀ {ds : List PyData} {i : Nat} {d : PyData}, smallAll ds = true → ds[i]? = some d → small d = true
  | [], _, _, _, e => by simp at e
  | x :: ds, 0, d, h, e => by
    simp at e; subst e
    unfold smallAll at h
    exact (Bool.and_eq_true_iff.mp h).1
  | x :: ds, i + 1, d, h, e => by
    unfold smallAll at h
    exact smallAll_get (i := i) (Bool.and_eq_true_iff.mp h).2 (by simpa using e)
theorem depthAll_get : ∀ {ds : List PyData} {i : Nat} {d : PyData}, ds[i]? = some d → d.depth ≤ PyData.depthAll ds
  | [], _, _, e => by simp at e
  | x :: ds, 0, d, e => by
    simp at e; subst e
    unfold PyData.depthAll
    exact Nat.le_max_left _ _
  | x :: ds, i + 1, d, e => by
    unfold PyData.depthAll
    exact Nat.le_trans (depthAll_get (i := i) (by simpa using e)) (Nat.le_max_right _ _)
def spSame (K : PySem.W.Frag) (n : Nat) : Sp := fun vs H Q _ => ∃ (v w : V) (d : PyData), vs = [v, w] ∧ Dp K H v d ∧ Dp K H w d ∧ d.depth ≤ n ∧ small d = true ∧ ∀ H', Same H H' → Q (.bl true) H'
/-- the promise one depth less; none of depth nought -/
def spSameLt (K : PySem.W.Frag) : Nat → Sp
  | 0 => fun _ _ _ _ => False
  | n + 1 => spSame K n
/-! ### rules whose sides are read off -/
section
variable {X : Cx}
theorem CallR.imp {f : Value} {r r' : List V → Hp → VK → Prop} (h : CallR X f r) (i : ∀ xs H Q, r' xs H Q → r xs H Q) : CallR X f r' := fun pins s σ H xs us Q I rv q => h pins s σ H xs us Q I rv (i _ _ _ q)
theorem OpR.imp {f : Value → Value → Sem Value} {r r' : R2} (h : OpR X f r) (i : ∀ x y H Q, r' x y H Q → r x y H Q) : OpR X f r' := fun pins s σ H x y v u Q I rx ry q => h pins s σ H x y v u Q I rx ry (i _ _ _ _ q)
theorem IxR.imp {r r' : R2} (h : IxR X r) (i : ∀ x y H Q, r' x y H Q → r x y H Q) : IxR X r' := by
  intro value slice pins s σ H x y v u Q I rx ry q hs
  exact h _ _ _ _ _ _ _ _ _ _ _ I rx ry (i _ _ _ _ q) hs
theorem call_intI : CallR X (.type "int") (fun xs H Q => ∃ i, xs = [.int i] ∧ Q (.int i) H) := CallR.imp call_int1 fun _ _ _ h => .inl h
def CMulC (_ j : Int) : Prop := decide (-(2 ^ 64) < j ∧ j < 2 ^ 64) = true
theorem op_mulC : OpR X (binaryOp .Mult) (rI CMulC fun i j => .int (i * j)) := OpR.imp op_mul fun _ _ _ _ ⟨i, j, a, b, c, q⟩ => ⟨i, j, a, b, .inr (of_decide_eq_true c), q⟩
def CModC (_ j : Int) : Prop := decide (0 < j) = true
theorem op_modC : OpR X (binaryOp .Mod) (rI CModC fun i j => .int (i % j)) := OpR.imp op_mod fun _ _ _ _ ⟨i, j, a, b, c, q⟩ => ⟨i, j, a, b, of_decide_eq_true c, q⟩
def CDivC (_ j : Int) : Prop := decide (0 < j ∧ j < 1073741824) = true
theorem op_fdivC : OpR X (binaryOp .FloorDiv) (rI CDivC fun i j => .int (i / j)) := OpR.imp op_fdiv fun _ _ _ _ ⟨i, j, a, b, c, q⟩ => ⟨i, j, a, b, (of_decide_eq_true c : 0 < j ∧ j < 1073741824), q⟩
/-- the k-th item of a written place in a tracked list -/
def rIxB (K : PySem.W.Frag) : R2 := fun x y H Q => ∃ p i xs v, x = .ref p ∧ y = .int i ∧ H p = some (.lst xs) ∧ atI xs i = some v ∧ Q v H
theorem ix_bag : IxR X (rIxB X.K) := IxR.imp ix_list fun _ _ _ _ ⟨p, i, xs, v, a, b, c, d, q⟩ => ⟨p, xs, i, v, a, b, lsq c, d, q⟩
theorem call_lenL : CallR X (.builtin "len") (fun xs H Q => ∃ p ys, xs = [.ref p] ∧ SqL X.K H p ys ∧ Q (.int ys.length) H) := CallR.imp call_len_seq fun _ _ _ ⟨p, ys, a, b, q⟩ => ⟨p, ys, a, .inl b, q⟩
theorem call_listL : CallR X (.type "list") (fun xs H Q => ∃ p ys, xs = [.ref p] ∧ SqL X.K H p ys ∧ ∀ l, H l = none → Q (.ref l) (upd H l (.lst ys))) := CallR.imp call_list_of fun _ _ _ ⟨p, ys, a, b, q⟩ => ⟨p, ys, a, .inl b, q⟩
/-! ### isinstance of data -/
def tyName : PyData → String
  | .none => "NoneType"
  | .bool _ => "bool"
  | .int _ => "int"
  | .str _ => "str"
  | .list _ => "list"
  | .tuple _ => "tuple"
  | .dict _ => "dict"
def isT (t n : String) : Bool := t == n || (t == "bool" && n == "int")
def okT (n : String) : Bool := n == "int" || n == "bool" || n == "str" || n == "list" || n == "tuple"
theorem tyx {K : PySem.W.Frag} {H : Hp} {x : V} {d : PyData} (h : Dp K H x d) : TyX K H x (.type (tyName d)) := by
  cases h with
  | non => exact .base .non
  | bl b => exact .base (.bl b)
  | int i => exact .base (.int i)
  | str z => exact .base (.str z)
  | lst a b =>
    rcases a with (a | ⟨o, a⟩) | ⟨o, its, n, a, c, _⟩
    · exact .base (.lst a)
    · exact .base (.frz a)
    · exact .kList a c
  | tup a b =>
    rcases a with (a | ⟨o, a⟩) | ⟨o, its, n, a, c, _⟩
    · exact .base (.tup a)
    · exact .fTuple a
    · exact .kTuple a c
theorem kitB_ok (d : PyData) (n : String) (h : okT n = true) (hd : ∀ kvs, d ≠ .dict kvs) : kitB (tyName d) n = some (isT (tyName d) n) := by
  have e : n = "int" ∨ n = "bool" ∨ n = "str" ∨ n = "list" ∨ n = "tuple" := by
    unfold okT at h
    simpa [or_assoc] using h
  rcases e with rfl | rfl | rfl | rfl | rfl <;> cases d <;> first | exact absurd rfl (hd _) | (dsimp only [tyName]; decide +kernel)
def isD (n : String) (d : PyData) : Bool := isT (tyName d) n
theorem call_isD : CallR X (.builtin "isinstance") (fun xs H Q => ∃ x n d, xs = [x, .ty n] ∧ okT n = true ∧ Dp X.K H x d ∧ Q (.bl (isD n d)) H) := CallR.imp call_isi fun xs H Q ⟨x, n, d, a, b, c, q⟩ =>
  ⟨x, .ty n, _, _, isD n d, a, .ty n, tyx c, kit_ty (kitB_ok d n b fun kvs e => by subst e; cases c), q⟩
/-- of two classes, the tuple made on the way -/
theorem call_isD2 : CallR X (.builtin "isinstance") (fun xs H Q => ∃ x t m n d, xs = [x, .ref t] ∧ H t = some (.tup [.ty m, .ty n]) ∧ okT m = true ∧ okT n = true ∧ Dp X.K H x d ∧ Q (.bl (isD m d || isD n d)) H) := CallR.imp call_isiT fun xs H Q ⟨x, t, m, n, d, a, ht, b, b', c, q⟩ => by
  have hd : ∀ kvs, d ≠ .dict kvs := fun kvs e => by subst e; cases c
  refine ⟨x, t, _, _, [.type m, .type n], isD m d || isD n d, a, ht, .cons (.ty m) (.cons (.ty n) .nil), tyx c, ?_, q⟩
  refine kitAny_cons (kit_ty (kitB_ok d m b hd)) (fun e => ?_) (fun e => ?_)
  · refine kitAny_cons (kit_ty (kitB_ok d n b' hd)) (fun e' => ?_) (fun e' => ?_)
    · rw [show isD m d = false from e, show isD n d = false from e']; exact kitAny_nil
    · rw [show isD n d = true from e']; exact Bool.or_true _
  · rw [show isD m d = true from e]; rfl
end
theorem Dp.lenL {K : PySem.W.Frag} {H : Hp} {x : V} {ds : List PyData} (h : Dp K H x (.list ds)) : ∃ a xs, x = .ref a ∧ SqL K H a xs ∧ DpAll K H xs ds := by
  cases h with
  | lst a b => exact ⟨_, _, rfl, a, b⟩
theorem Dp.lenT {K : PySem.W.Frag} {H : Hp} {x : V} {ds : List PyData} (h : Dp K H x (.tuple ds)) : ∃ a xs, x = .ref a ∧ SqT K H a xs ∧ DpAll K H xs ds := by
  cases h with
  | tup a b => exact ⟨_, _, rfl, a, b⟩
/-! ### the comprehension of _law_same -/
theorem walk_zipT {K : PySem.W.Frag} {a b : Addr} {xs ys : List V} {n : Nat} (hn : n = min xs.length ys.length) : Walk (RZ.ItzT K a b) n (fun H => SqT K H a xs ∧ SqT K H b ys) (YPair (fun i => xs[i]?) (fun i => ys[i]?)) := by
  subst hn
  constructor
  · intro i H hi q
    exact ⟨xs, ys, xs[i]'(by omega), ys[i]'(by omega), q.1, q.2, List.getElem?_eq_getElem _, List.getElem?_eq_getElem _⟩
  · intro H q
    exact ⟨xs, ys, q.1, q.2, by omega⟩
  · intro i H v H' hi q y
    obtain ⟨T, a', b', e1, e2, e3, e4, e5⟩ := y
    exact ⟨T, a', b', e1, e2, e3, e4 _ q.1, e5 _ q.2⟩
theorem same_all {K : PySem.W.Frag} {J : It} {xs ys : List V} {ds : List PyData} {G : Hp → Prop} {H0 : Hp} {n : Nat} {D : Addr} {Qd : Hp → Prop} {σ : L2.St} {E : XK} (w : Walk J ds.length G (YPair (fun i => xs[i]?) (fun i => ys[i]?)))
    (hx : DpAll K H0 xs ds) (hy : DpAll K H0 ys ds) (hG : ∀ H, Same H0 H → G H) (hD : H0 D = none) (hsz : ds.length ≤ 5000) (hsm : smallAll ds = true) (hdp : PyData.depthAll ds + 1 ≤ n) (hσ : ∃ a b, σ = [a, b, none, none])
    (hq : ∀ H', Same H0 H' → H' D = some (.lst (List.replicate ds.length (.bl true))) → Qd H') :
    ∃ W : Nat → Nat → Hp → Prop, (∃ m, W 0 m (upd H0 D (.lst []))) ∧ ∀ i m H, W i m H →
      (J.stop i H ∧ Qd H) ∨ (J.go i H ∧ ∃ Nx : Hp → Prop, (∀ H', Nx H' → ∃ m', m' < m ∧ W (i + 1) m' H') ∧ ∀ x H', J.yld i H x H' → (gTup K 2 (gCons (gName 2) (gCons (gName 3) gNil))) x (wipe σ [2, 3]) H' fun σ2 H2 => wipe σ2 [2, 3] = wipe σ [2, 3] ∧ tYes σ2 H2 fun b H3 =>
        if b = true then (tCall (spSameLt K n) [] E (tCons (tVar 2) (tCons (tVar 3) tNil))) σ2 H3 fun y H4 => ∃ acc, H4 D = some (.lst acc) ∧ acc.length < sizeLine ∧ Nx (upd H4 D (.lst (acc ++ [y]))) else Nx H3) := by
  obtain ⟨a, b, rfl⟩ := hσ
  refine lc_it w (fun i H => Same H0 H ∧ H D = some (.lst (List.replicate i (.bl true)))) ⟨same_upd hD, upd_same⟩ (fun i H _ h => hG H h.1) (fun i x H H' hi h y => ?_) fun H h => hq H h.1 h.2
  obtain ⟨s1, h1⟩ := h
  obtain ⟨T, v, u, rfl, nT, rfl, ev, eu⟩ := y
  obtain ⟨d, ed, dv⟩ := DpAll.get hx ev
  obtain ⟨d', ed', du⟩ := DpAll.get hy eu
  have e1 : d' = d := Option.some.inj (ed'.symm.trans ed)
  subst e1
  have s2 : Same H0 (upd H T (.tup [v, u])) := s1.trans (same_upd nT)
  refine ⟨T, [v, u], rfl, .inl (.inl upd_same), rfl, v, [u], rfl, u, [], rfl, rfl, rfl, ?_⟩
  cases n with
  | zero => omega
  | succ n =>
    refine ⟨_, rfl, _, rfl, v, u, d', rfl, Dp.same s2 _ _ dv, Dp.same s2 _ _ du, ?_, smallAll_get hsm ed, fun H2 s3 => ?_⟩
    · have := depthAll_get ed
      omega
    · have hD2 : H2 D = some (.lst (List.replicate i (.bl true))) := s3 _ _ (same_upd nT _ _ h1)
      refine ⟨_, hD2, ?_, fun c o hc => ?_, ?_⟩
      · rw [List.length_replicate]; exact szl (by omega)
      · rw [upd_ne (ne_of_none hc hD)]
        exact s3 _ _ (s2 _ _ hc)
      · rw [upd_same, List.replicate_succ']
theorem hu65 {k : Nat} {A : Around} (hr : Room k A) : A.units + 65 < cLine := by
  have := hr.un
  omega
/-- data that the rules may compare -/
def fine (d : PyData) : Bool := small d && SeqAt.shaped d
theorem fine_small {d : PyData} (h : fine d = true) : small d = true := (Bool.and_eq_true_iff.mp h).1
theorem fine_shaped {d : PyData} (h : fine d = true) : SeqAt.shaped d = true := (Bool.and_eq_true_iff.mp h).2
/-- the signs of a text, each asked: is it one of z's -/
theorem str_all {x : Str} {H0 : Hp} {D : Addr} {Qd : Hp → Prop} {σ : L2.St} {vs : List Nat} {j : Nat} {te : TE} (hD : H0 D = none) (hl : x.length ≤ 5000) (f : Nat → Bool) (hw : ∀ v, wipe ((wipe σ vs).set j (some v)) vs = wipe σ vs)
    (he : ∀ (c : Nat) (H : Hp) (Q : VK), Q (.bl (f c)) H → te ((wipe σ vs).set j (some (.str ⟨#[c]⟩))) H Q)
    (hq : ∀ H', Same H0 H' → H' D = some (.lst ((x.cps.toList.map f).map V.bl)) → Qd H') :
    ∃ W : Nat → Nat → Hp → Prop, (∃ m, W 0 m (upd H0 D (.lst []))) ∧ ∀ i m H, W i m H →
      ((Its x).stop i H ∧ Qd H) ∨ ((Its x).go i H ∧ ∃ Nx : Hp → Prop, (∀ H', Nx H' → ∃ m', m' < m ∧ W (i + 1) m' H') ∧ ∀ v H', (Its x).yld i H v H' → (gName j) v (wipe σ vs) H' fun σ2 H2 => wipe σ2 vs = wipe σ vs ∧ tYes σ2 H2 fun b H3 =>
        if b = true then te σ2 H3 fun y H4 => ∃ acc, H4 D = some (.lst acc) ∧ acc.length < sizeLine ∧ Nx (upd H4 D (.lst (acc ++ [y]))) else Nx H3) := by
  have hlen : x.length = x.cps.toList.length := by simp [Str.length]
  refine lc_it walk_str (fun i H => Same H0 H ∧ H D = some (.lst (((x.cps.toList.take i).map f).map V.bl))) ⟨same_upd hD, upd_same⟩ (fun _ _ _ _ => trivial) (fun i v H H' hi h y => ?_) fun H h => hq H h.1 ?_
  · obtain ⟨s1, h1⟩ := h
    obtain ⟨rfl, c, ec, rfl⟩ := y
    refine ⟨hw _, ?_⟩
    refine he c H' _ ⟨_, h1, ?_, fun b o hb => ?_, ?_⟩
    · rw [List.length_map, List.length_map]
      exact szl (Nat.lt_of_le_of_lt (List.length_take_le' _ _) (by omega))
    · rw [upd_ne (ne_of_none hb hD)]
      exact s1 _ _ hb
    · rw [upd_same, List.take_add_one, show x.cps.toList[i]? = some c by rw [Array.getElem?_toList]; exact ec]
      simp
  · have h2 := h.2
    rw [List.take_of_length_le (by simp)] at h2
    exact h2
/-- what stands in the written part stands at every heap -/
theorem SqT.static {K : PySem.W.Frag} {a : Addr} {xs : List V} (h : SqT K (fun _ => none) a xs) (H : Hp) : SqT K H a xs := by
  rcases h with (h | ⟨o, h⟩) | h
  · cases h
  · cases h
  · exact .inr h
/-- how a call with keywords binds, no defaults -/
theorem kb_mk {K : PySem.W.Frag} {x qual : Str} {st : Stmt} {f : Addr} {fd : FuncData} {ps ks : List Str} {n : Nat} {g : List Value → List Value → List Value} {gV : List V → List V → List V} (F : Fun K x qual st f fd)
    (h : ∀ (kV doc pm : Value) (an : Option Addr) (cdv ct : Value) (us ws : List Value), us.length = n → ws.length = ks.length → bindArgs (PySem.W.fnOf x qual (defArgs st) (defBody st) (defScope st) .none kV doc pm an cdv ct) ⟨us, ks.zip ws⟩ = pure (ps.zip (g us ws)))
    (hr : ∀ {vs : List V} {us : List Value} {zs : List V} {ws : List Value}, Vals vs us → Vals zs ws → Vals (gV vs zs) (g us ws)) : KBn K fd ps n ks g gV := by
  obtain ⟨_, _, kV, doc, pm, an, cdv, ct, _, e, _⟩ := F.ex
  subst e
  exact ⟨fun s us ws _ h1 h2 => .of_eq (h kV doc pm an cdv ct us ws h1 h2), hr⟩
end My
set_option Elab.async false
set_option linter.all false
set_option maxRecDepth 100000
/-! What an expression that changes nothing is worth, as data away from p (DV, DA): by its parts. -/
namespace My
open PySem PySem.Spec PyProof.Rows L2
def spD (K : PySem.W.Frag) (f : PyData → Bool) : Sp := fun vs H Q _ => ∃ (v : V) (d : PyData), vs = [v] ∧ Dp K H v d ∧ fine d = true ∧ ∀ H', Same H H' → Q (.bl (f d)) H'
/-- te gives a value of the data d, at any heap that keeps H -/
def DV (K : PySem.W.Frag) (p : Addr) (te : TE) (σ : L2.St) (H : Hp) (d : PyData) : Prop := ∀ H1, Same H H1 → ∀ Q : VK, (∀ v H2, Same H1 H2 → Dd K p H2 v d → Q v H2) → te σ H1 Q
section
variable {K : PySem.W.Frag} {p : Addr} {σ : L2.St} {H H' : Hp} {ta tb te tc : TE} {tr tk : TA} {d e : PyData} {ds : List PyData} {v : V}
theorem DV.mono (s : Same H H') (h : DV K p te σ H d) : DV K p te σ H' d := fun H1 a Q q => h H1 (s.trans a) Q q
theorem DdAll.length : ∀ {ds : List PyData} {vs : List V}, DdAll K p H vs ds → vs.length = ds.length
  | [], _, h => by cases h; rfl
  | d :: ds, _, h => by
    cases h with
    | cons a b => exact congrArg Nat.succ (DdAll.length b)
theorem DdAll.mem : ∀ {ds : List PyData} {vs : List V} {v : V}, DdAll K p H vs ds → v ∈ vs → ∃ d, d ∈ ds ∧ Dd K p H v d
  | [], _, v, h, m => by cases h; cases m
  | d :: ds, _, v, h, m => by
    cases h with
    | cons a b =>
      rcases List.mem_cons.mp m with rfl | m
      · exact ⟨d, List.mem_cons_self .., a⟩
      · obtain ⟨d', m', h'⟩ := DdAll.mem b m
        exact ⟨d', List.mem_cons_of_mem _ m', h'⟩
theorem DdAll.take : ∀ (n : Nat) {ds : List PyData} {vs : List V}, DdAll K p H vs ds → DdAll K p H (vs.take n) (ds.take n)
  | 0, _, _, _ => .nil
  | n + 1, [], _, h => by cases h; exact .nil
  | n + 1, d :: ds, _, h => by
    cases h with
    | cons a b => exact .cons a (DdAll.take n b)
theorem DdAll.app : ∀ {ds es : List PyData} {vs ws : List V}, DdAll K p H vs ds → DdAll K p H ws es → DdAll K p H (vs ++ ws) (ds ++ es)
  | [], _, _, _, h, g => by cases h; exact g
  | d :: ds, _, _, _, h, g => by
    cases h with
    | cons a b => exact .cons a (DdAll.app b g)
theorem DdAll.one (h : DdAll K p H vs [d]) : ∃ v, vs = [v] ∧ Dd K p H v d := by
  cases h with
  | cons a b => cases b; exact ⟨_, rfl, a⟩
theorem Dd.i {i : Int} (h : Dd K p H v (.int i)) : v = .int i := by cases h; rfl
theorem Dd.s {i : Str} (h : Dd K p H v (.str i)) : v = .str i := by cases h; rfl
theorem Dd.b {i : Bool} (h : Dd K p H v (.bool i)) : v = .bl i := by cases h; rfl
theorem Dd.n (h : Dd K p H v .none) : v = .non := by cases h; rfl
end
end My
set_option Elab.async false
set_option linter.all false
set_option maxRecDepth 100000
/-! Data away from a set S of addresses that may change; what an expression is worth (SV), a test (SB), what a walk gives (SI), by their parts. -/
namespace My
open PySem PySem.Spec PyProof.Rows L2
abbrev Sh := Addr → Prop
/-- all that stands outside S is as it was -/
def XS (S : Sh) (H H' : Hp) : Prop := ∀ b o, H b = some o → ¬ S b → H' b = some o
def Live (S : Sh) (H : Hp) : Prop := ∀ a, S a → ∃ o, H a = some o
/-- later: S has grown by new things alone -/
structure Step (S : Sh) (H : Hp) (S' : Sh) (H' : Hp) : Prop where
  keep : XS S H H'
  sub : ∀ a, S a → S' a
  new : ∀ a, S' a → ¬ S a → H a = none
  live : Live S' H'
/-- later, and nothing has changed -/
structure Now (S : Sh) (H : Hp) (S' : Sh) (H' : Hp) : Prop where
  same : Same H H'
  sub : ∀ a, S a → S' a
  new : ∀ a, S' a → ¬ S a → H a = none
  live : Live S' H'
section
variable {S S' S1 S2 : Sh} {H H' H1 H2 : Hp} {p D : Addr} {o : HO}
theorem XS.refl : XS S H H := fun _ _ h _ => h
theorem XS.trans (a : XS S H H1) (b : XS S H1 H2) : XS S H H2 := fun c o h n => b c o (a c o h n) n
theorem XS.of (a : Same H H') : XS S H H' := fun c o h _ => a c o h
theorem XS.ext (a : Ext p H H') (h : S p) : XS S H H' := fun c o e n => a c o e fun z => n (by rw [z]; exact h)
theorem XS.upd (h : S p) : XS S H (upd H p o) := fun b u e n => by rw [upd_ne fun z => n (by rw [z]; exact h)]; exact e
theorem Live.same (l : Live S H) (s : Same H H') : Live S H' := fun a h => let ⟨o, e⟩ := l a h; ⟨o, s _ _ e⟩
theorem Live.upd (l : Live S H) : Live S (upd H p o) := fun a h => by
  by_cases e : a = p
  · rw [e]; exact ⟨_, upd_same⟩
  · rw [upd_ne e]; exact l a h
theorem Live.ne (l : Live S H) {a : Addr} (h : H a = none) : ¬ S a := fun z => by
  obtain ⟨o, e⟩ := l a z
  rw [h] at e
  cases e
theorem Live.one (h : ∃ o, H p = some o) : Live (fun a => a = p) H := fun a e => by rw [e]; exact h
theorem Now.refl (l : Live S H) : Now S H S H := ⟨Same.refl _, fun _ h => h, fun _ a b => absurd a b, l⟩
theorem Now.of (l : Live S H) (s : Same H H') : Now S H S H' := ⟨s, fun _ h => h, fun _ a b => absurd a b, l.same s⟩
theorem Now.trans (a : Now S H S1 H1) (b : Now S1 H1 S2 H2) : Now S H S2 H2 := ⟨a.same.trans b.same, fun x h => b.sub x (a.sub x h), fun x h n => by
  rcases Classical.em (S1 x) with c | c
  · exact a.new x c n
  · exact a.same.free (b.new x h c), b.live⟩
theorem Now.then (a : Now S H S1 H1) (s : Same H1 H2) : Now S H S1 H2 := ⟨a.same.trans s, a.sub, a.new, a.live.same s⟩
/-- one more thing that may change, new -/
theorem Now.add (l : Live S H) (h : H D = none) : Now S H (fun a => S a ∨ a = D) (upd H D o) := ⟨same_upd h, fun _ => .inl, fun a z n => by
  rcases z with z | z
  · exact absurd z n
  · rw [z]; exact h, fun a z => by
  rcases z with z | z
  · exact l.upd a z
  · rw [z]; exact ⟨_, upd_same⟩⟩
theorem Now.put (a : Now S H S1 H1) (h1 : S1 p) (h2 : ¬ S p) : Now S H S1 (upd H1 p o) := ⟨fun b u e => by
  rw [upd_ne fun z => by rw [z, a.new p h1 h2] at e; cases e]
  exact a.same b u e, a.sub, a.new, a.live.upd⟩
/-- one more, just made by what changed nothing else -/
theorem Now.more (l : Live S H) (s : Same H H1) (na : H D = none) (ha : H1 D = some o) : Now S H (fun a => S a ∨ a = D) H1 := ⟨s, fun _ => .inl, fun a z n => by
  rcases z with z | z
  · exact absurd z n
  · rw [z]; exact na, fun a z => by
  rcases z with z | z
  · exact l.same s a z
  · rw [z]; exact ⟨_, ha⟩⟩
theorem Now.step (a : Now S H S1 H1) : Step S H S1 H1 := ⟨XS.of a.same, a.sub, a.new, a.live⟩
theorem Step.refl (l : Live S H) : Step S H S H := (Now.refl l).step
theorem Step.free (a : Step S H S1 H1) (h : H1 D = none) (l : Live S H) : H D = none := by
  cases e : H D with
  | none => rfl
  | some o =>
    rcases Classical.em (S D) with c | c
    · exact absurd (a.sub D c) (a.live.ne h)
    · rw [a.keep D o e c] at h
      cases h
theorem Step.trans (l : Live S H) (a : Step S H S1 H1) (b : Step S1 H1 S2 H2) : Step S H S2 H2 := by
  refine ⟨fun c u e n => b.keep c u (a.keep c u e n) fun z => ?_, fun x h => b.sub x (a.sub x h), fun x h n => ?_, b.live⟩
  · rw [a.new c z n] at e
    cases e
  · rcases Classical.em (S1 x) with c | c
    · exact a.new x c n
    · exact a.free (b.new x h c) l
theorem Step.then (a : Step S H S1 H1) (s : Same H1 H2) : Step S H S1 H2 := ⟨fun b u e n => s _ _ (a.keep b u e n), a.sub, a.new, a.live.same s⟩
theorem Step.put (a : Step S H S1 H1) (h1 : S1 p) : Step S H S1 (upd H1 p o) := by
  refine ⟨fun b u e n => ?_, a.sub, a.new, a.live.upd⟩
  rw [upd_ne fun z => by rw [← z] at h1; rw [a.new b h1 n] at e; cases e]
  exact a.keep b u e n
end
/-! ### data -/
def LS (S : Sh) (H : Hp) (a : Addr) (xs : List V) : Prop := ¬ S a ∧ H a = some (.lst xs)
def TS' (S : Sh) (H : Hp) (a : Addr) (xs : List V) : Prop := ¬ S a ∧ H a = some (.tup xs)
mutual
inductive Ds (K : PySem.W.Frag) (S : Sh) (H : Hp) : V → PyData → Prop
  | non : Ds K S H .non .none
  | bl (b : Bool) : Ds K S H (.bl b) (.bool b)
  | int (i : Int) : Ds K S H (.int i) (.int i)
  | str (x : Str) : Ds K S H (.str x) (.str x)
  | lst {a : Addr} {xs : List V} {ds : List PyData} : LS S H a xs → DsAll K S H xs ds → Ds K S H (.ref a) (.list ds)
  | tup {a : Addr} {xs : List V} {ds : List PyData} : TS' S H a xs → DsAll K S H xs ds → Ds K S H (.ref a) (.tuple ds)
inductive DsAll (K : PySem.W.Frag) (S : Sh) (H : Hp) : List V → List PyData → Prop
  | nil : DsAll K S H [] []
  | cons {v : V} {vs : List V} {d : PyData} {ds : List PyData} : Ds K S H v d → DsAll K S H vs ds → DsAll K S H (v :: vs) (d :: ds)
end
section
variable {K : PySem.W.Frag} {S S' : Sh} {H H' : Hp} {a : Addr} {xs : List V} {v : V} {d : PyData} {ds : List PyData}
theorem LS.sq (h : LS S H a xs) : SqL K H a xs := .inl (.inl h.2)
theorem TS'.sq (h : TS' S H a xs) : SqT K H a xs := .inl (.inl h.2)
theorem at_step {u : HO} (s : Step S H S' H') (n : ¬ S a) (h : H a = some u) : ¬ S' a ∧ H' a = some u := by
  refine ⟨fun z => ?_, s.keep _ _ h n⟩
  rw [s.new a z n] at h
  cases h
mutual
theorem Ds.map (fl : ∀ a xs, LS S H a xs → LS S' H' a xs) (ft : ∀ a xs, TS' S H a xs → TS' S' H' a xs) : ∀ (d : PyData) (v : V), Ds K S H v d → Ds K S' H' v d
  | .none, _, h => by cases h; exact .non
  | .bool _, _, h => by cases h; exact .bl _
  | .int _, _, h => by cases h; exact .int _
  | .str _, _, h => by cases h; exact .str _
  | .list ds, _, h => by
    cases h with
    | lst a b => exact .lst (fl _ _ a) (DsAll.map fl ft ds _ b)
  | .tuple ds, _, h => by
    cases h with
    | tup a b => exact .tup (ft _ _ a) (DsAll.map fl ft ds _ b)
  | .dict _, _, h => by cases h
theorem DsAll.map (fl : ∀ a xs, LS S H a xs → LS S' H' a xs) (ft : ∀ a xs, TS' S H a xs → TS' S' H' a xs) : ∀ (ds : List PyData) (vs : List V), DsAll K S H vs ds → DsAll K S' H' vs ds
  | [], _, h => by cases h; exact .nil
  | d :: ds, _, h => by
    cases h with
    | cons a b => exact .cons (Ds.map fl ft d _ a) (DsAll.map fl ft ds _ b)
end
theorem Ds.step (s : Step S H S' H') (h : Ds K S H v d) : Ds K S' H' v d := Ds.map (fun _ _ l => at_step s l.1 l.2) (fun _ _ l => at_step s l.1 l.2) _ _ h
theorem DsAll.step (s : Step S H S' H') (h : DsAll K S H xs ds) : DsAll K S' H' xs ds := DsAll.map (fun _ _ l => at_step s l.1 l.2) (fun _ _ l => at_step s l.1 l.2) _ _ h
theorem Ds.now (s : Now S H S' H') (h : Ds K S H v d) : Ds K S' H' v d := h.step s.step
theorem DsAll.now (s : Now S H S' H') (h : DsAll K S H xs ds) : DsAll K S' H' xs ds := h.step s.step
theorem Ds.byX (s : XS S H H') (h : Ds K S H v d) : Ds K S H' v d := Ds.map (fun _ _ z => ⟨z.1, s _ _ z.2 z.1⟩) (fun _ _ z => ⟨z.1, s _ _ z.2 z.1⟩) _ _ h
theorem DsAll.byX (s : XS S H H') (h : DsAll K S H xs ds) : DsAll K S H' xs ds := DsAll.map (fun _ _ z => ⟨z.1, s _ _ z.2 z.1⟩) (fun _ _ z => ⟨z.1, s _ _ z.2 z.1⟩) _ _ h
theorem Ds.same (s : Same H H') (h : Ds K S H v d) : Ds K S H' v d := h.byX (XS.of s)
theorem DsAll.same (s : Same H H') (h : DsAll K S H xs ds) : DsAll K S H' xs ds := h.byX (XS.of s)
theorem Ds.less (f : ∀ b, S' b → S b) (h : Ds K S H v d) : Ds K S' H v d := Ds.map (fun _ _ l => ⟨fun z => l.1 (f _ z), l.2⟩) (fun _ _ l => ⟨fun z => l.1 (f _ z), l.2⟩) _ _ h
theorem DsAll.less (f : ∀ b, S' b → S b) (h : DsAll K S H xs ds) : DsAll K S' H xs ds := DsAll.map (fun _ _ l => ⟨fun z => l.1 (f _ z), l.2⟩) (fun _ _ l => ⟨fun z => l.1 (f _ z), l.2⟩) _ _ h
mutual
theorem Ds.dp : ∀ (d : PyData) (v : V), Ds K S H v d → Dp K H v d
  | .none, _, h => by cases h; exact .non
  | .bool _, _, h => by cases h; exact .bl _
  | .int _, _, h => by cases h; exact .int _
  | .str _, _, h => by cases h; exact .str _
  | .list ds, _, h => by
    cases h with
    | lst a b => exact .lst a.sq (DsAll.dp ds _ b)
  | .tuple ds, _, h => by
    cases h with
    | tup a b => exact .tup a.sq (DsAll.dp ds _ b)
  | .dict _, _, h => by cases h
theorem DsAll.dp : ∀ (ds : List PyData) (vs : List V), DsAll K S H vs ds → DpAll K H vs ds
  | [], _, h => by cases h; exact .nil
  | d :: ds, _, h => by
    cases h with
    | cons a b => exact .cons (Ds.dp d _ a) (DsAll.dp ds _ b)
end
theorem DsAll.length : ∀ {ds : List PyData} {vs : List V}, DsAll K S H vs ds → vs.length = ds.length
  | [], _, h => by cases h; rfl
  | d :: ds, _, h => by
    cases h with
    | cons a b => exact congrArg Nat.succ (DsAll.length b)
theorem DsAll.get : ∀ {ds : List PyData} {vs : List V} {i : Nat} {v : V}, DsAll K S H vs ds → vs[i]? = some v → ∃ d, ds[i]? = some d ∧ Ds K S H v d
  | [], _, _, _, h, e => by cases h; simp at e
  | d :: ds, _, 0, _, h, e => by
    cases h with
    | cons a b => simp at e; subst e; exact ⟨d, rfl, a⟩
  | d :: ds, _, i + 1, _, h, e => by
    cases h with
    | cons a b =>
      obtain ⟨d', e1, e2⟩ := DsAll.get (i := i) b (by simpa using e)
      exact ⟨d', by simpa using e1, e2⟩
theorem DsAll.at : ∀ {ds : List PyData} {vs : List V} {i : Nat} {d : PyData}, DsAll K S H vs ds → ds[i]? = some d → ∃ v, vs[i]? = some v ∧ Ds K S H v d
  | [], _, _, _, h, e => by simp at e
  | d :: ds, _, 0, _, h, e => by
    cases h with
    | cons a b => simp at e; subst e; exact ⟨_, rfl, a⟩
  | d :: ds, _, i + 1, _, h, e => by
    cases h with
    | cons a b =>
      obtain ⟨d', e1, e2⟩ := DsAll.at (i := i) b (by simpa using e)
      exact ⟨d', by simpa using e1, e2⟩
theorem DsAll.mem : ∀ {ds : List PyData} {vs : List V} {v : V}, DsAll K S H vs ds → v ∈ vs → ∃ d, d ∈ ds ∧ Ds K S H v d
  | [], _, v, h, m => by cases h; cases m
  | d :: ds, _, v, h, m => by
    cases h with
    | cons a b =>
      rcases List.mem_cons.mp m with rfl | m
      · exact ⟨d, List.mem_cons_self .., a⟩
      · obtain ⟨d', m', h'⟩ := DsAll.mem b m
        exact ⟨d', List.mem_cons_of_mem _ m', h'⟩
theorem DsAll.take : ∀ (n : Nat) {ds : List PyData} {vs : List V}, DsAll K S H vs ds → DsAll K S H (vs.take n) (ds.take n)
  | 0, _, _, _ => .nil
  | n + 1, [], _, h => by cases h; exact .nil
  | n + 1, d :: ds, _, h => by
    cases h with
    | cons a b => exact .cons a (DsAll.take n b)
theorem DsAll.drop : ∀ (n : Nat) {ds : List PyData} {vs : List V}, DsAll K S H vs ds → DsAll K S H (vs.drop n) (ds.drop n)
  | 0, _, _, h => h
  | n + 1, [], _, h => by cases h; exact .nil
  | n + 1, d :: ds, _, h => by
    cases h with
    | cons a b => exact DsAll.drop n b
theorem DsAll.app : ∀ {ds es : List PyData} {vs ws : List V}, DsAll K S H vs ds → DsAll K S H ws es → DsAll K S H (vs ++ ws) (ds ++ es)
  | [], _, _, _, h, g => by cases h; exact g
  | d :: ds, _, _, _, h, g => by
    cases h with
    | cons a b => exact .cons a (DsAll.app b g)
theorem DsAll.one (h : DsAll K S H xs [d]) : ∃ v, xs = [v] ∧ Ds K S H v d := by
  cases h with
  | cons a b => cases b; exact ⟨_, rfl, a⟩
theorem DsAll.two {d e : PyData} (h : DsAll K S H xs [d, e]) : ∃ v w, xs = [v, w] ∧ Ds K S H v d ∧ Ds K S H w e := by
  cases h with
  | cons a b =>
    obtain ⟨w, rfl, c⟩ := b.one
    exact ⟨_, _, rfl, a, c⟩
theorem DsAll.three {d e f : PyData} (h : DsAll K S H xs [d, e, f]) : ∃ v w u, xs = [v, w, u] ∧ Ds K S H v d ∧ Ds K S H w e ∧ Ds K S H u f := by
  cases h with
  | cons a b =>
    obtain ⟨w, u, rfl, c⟩ := b.two
    exact ⟨_, _, _, rfl, a, c⟩
theorem Ds.i {i : Int} (h : Ds K S H v (.int i)) : v = .int i := by cases h; rfl
theorem Ds.s {i : Str} (h : Ds K S H v (.str i)) : v = .str i := by cases h; rfl
theorem Ds.b {i : Bool} (h : Ds K S H v (.bool i)) : v = .bl i := by cases h; rfl
theorem Ds.n (h : Ds K S H v .none) : v = .non := by cases h; rfl
theorem Ds.l (h : Ds K S H v (.list ds)) : ∃ a xs, v = .ref a ∧ LS S H a xs ∧ DsAll K S H xs ds := by
  cases h with
  | lst a b => exact ⟨_, _, rfl, a, b⟩
theorem Ds.t (h : Ds K S H v (.tuple ds)) : ∃ a xs, v = .ref a ∧ TS' S H a xs ∧ DsAll K S H xs ds := by
  cases h with
  | tup a b => exact ⟨_, _, rfl, a, b⟩
theorem DsAll.strs : ∀ {ys : List Str} {vs : List V}, DsAll K S H vs (ys.map PyData.str) → vs = ys.map V.str
  | [], _, h => by cases h; rfl
  | y :: ys, _, h => by
    cases h with
    | cons a b => rw [a.s, DsAll.strs b]; rfl
theorem DsAll.ints : ∀ {ys : List Int} {vs : List V}, DsAll K S H vs (ys.map PyData.int) → vs = ys.map V.int
  | [], _, h => by cases h; rfl
  | y :: ys, _, h => by
    cases h with
    | cons a b => rw [a.i, DsAll.ints b]; rfl
theorem ds_strs : ∀ {ys : List Str}, DsAll K S H (ys.map V.str) (ys.map PyData.str)
  | [] => .nil
  | y :: ys => .cons (.str y) ds_strs
end
/-! ### worths -/
def SV (K : PySem.W.Frag) (S : Sh) (te : TE) (σ : L2.St) (H : Hp) (d : PyData) : Prop := ∀ S' H', Now S H S' H' → ∀ Q : VK, (∀ v H2, Same H' H2 → Ds K S' H2 v d → Q v H2) → te σ H' Q
def SA (K : PySem.W.Frag) (S : Sh) (ta : TA) (σ : L2.St) (H : Hp) (ds : List PyData) : Prop := ∀ S' H', Now S H S' H' → ∀ Q : List V → Hp → Prop, (∀ vs H2, Same H' H2 → DsAll K S' H2 vs ds → Q vs H2) → ta σ H' Q
def SB (S : Sh) (tt : TT) (σ : L2.St) (H : Hp) (b : Bool) : Prop := ∀ S' H', Now S H S' H' → ∀ Q : Bool → Hp → Prop, (∀ H2, Same H' H2 → Q b H2) → tt σ H' Q
section
variable {K : PySem.W.Frag} {S S' : Sh} {σ : L2.St} {H H' : Hp} {ta tb te tc : TE} {tr tk : TA} {tt tu : TT} {d e : PyData} {ds es : List PyData} {v : V} {b c : Bool}
theorem SV.now (n : Now S H S' H') (h : SV K S te σ H d) : SV K S' te σ H' d := fun S2 H2 m => h S2 H2 (n.trans m)
theorem SA.now (n : Now S H S' H') (h : SA K S tr σ H ds) : SA K S' tr σ H' ds := fun S2 H2 m => h S2 H2 (n.trans m)
theorem SB.now (n : Now S H S' H') (h : SB S tt σ H b) : SB S' tt σ H' b := fun S2 H2 m => h S2 H2 (n.trans m)
theorem SV.run (h : SV K S te σ H d) (l : Live S H) {Q : VK} (k : ∀ v H2, Same H H2 → Ds K S H2 v d → Q v H2) : te σ H Q := h S H (Now.refl l) Q k
theorem SA.run (h : SA K S tr σ H ds) (l : Live S H) {Q : List V → Hp → Prop} (k : ∀ v H2, Same H H2 → DsAll K S H2 v ds → Q v H2) : tr σ H Q := h S H (Now.refl l) Q k
theorem SB.run (h : SB S tt σ H b) (l : Live S H) {Q : Bool → Hp → Prop} (k : ∀ H2, Same H H2 → Q b H2) : tt σ H Q := h S H (Now.refl l) Q k
theorem sv_int {i : Int} : SV K S (tC (.int i)) σ H (.int i) := fun _ _ _ Q q => q _ _ (Same.refl _) (.int i)
theorem sv_bl : SV K S (tC (.bl b)) σ H (.bool b) := fun _ _ _ Q q => q _ _ (Same.refl _) (.bl b)
theorem sv_str {x : Str} : SV K S (tC (.str x)) σ H (.str x) := fun _ _ _ Q q => q _ _ (Same.refl _) (.str x)
theorem sv_non : SV K S (tC .non) σ H .none := fun _ _ _ Q q => q _ _ (Same.refl _) .non
theorem sv_var {i : Nat} (h : σ[i]? = some (some v)) (hd : Ds K S H v d) : SV K S (tVar i) σ H d := fun _ _ n Q q => ⟨v, h, q _ _ (Same.refl _) (hd.now n)⟩
theorem sv_vi {i : Nat} {j : Int} (h : σ[i]? = some (some (.int j))) : SV K S (tVar i) σ H (.int j) := sv_var h (.int j)
theorem sv_vs {i : Nat} {j : Str} (h : σ[i]? = some (some (.str j))) : SV K S (tVar i) σ H (.str j) := sv_var h (.str j)
theorem sv_is {d' : PyData} (h : SV K S te σ H d) (e : d = d') : SV K S te σ H d' := e ▸ h
theorem sa_nil : SA K S tNil σ H [] := fun _ _ _ Q q => q _ _ (Same.refl _) .nil
theorem sa_cons (h : SV K S ta σ H d) (hr : SA K S tr σ H ds) : SA K S (tCons ta tr) σ H (d :: ds) := fun S1 H1 n Q q =>
  h S1 H1 n _ fun v H2 s2 hv => hr S1 H2 (n.then s2) _ fun vs H3 s3 hs => q _ _ (s2.trans s3) (.cons (hv.same s3) hs)
theorem new_tup {a : Addr} {xs : List V} (l : Live S H) (na : H a = none) (h : DsAll K S H xs ds) : Ds K S (upd H a (.tup xs)) (.ref a) (.tuple ds) := .tup ⟨l.ne na, upd_same⟩ (h.same (same_upd na))
theorem new_lst {a : Addr} {xs : List V} (l : Live S H) (na : H a = none) (h : DsAll K S H xs ds) : Ds K S (upd H a (.lst xs)) (.ref a) (.list ds) := .lst ⟨l.ne na, upd_same⟩ (h.same (same_upd na))
theorem sv_tup (h : SA K S tr σ H ds) (hl : decide (ds.length ≤ 5000) = true) : SV K S (tTup tr) σ H (.tuple ds) := fun S1 H1 n Q q =>
  h S1 H1 n _ fun vs H2 s2 hs => ⟨by rw [DsAll.length hs]; exact sz (by have := of_decide_eq_true hl; omega), fun a na =>
    q _ _ (s2.trans (same_upd na)) (new_tup (n.live.same s2) na hs)⟩
theorem sv_lst (h : SA K S tr σ H ds) (hl : decide (ds.length ≤ 5000) = true) : SV K S (tLst tr) σ H (.list ds) := fun S1 H1 n Q q =>
  h S1 H1 n _ fun vs H2 s2 hs => ⟨by rw [DsAll.length hs]; exact sz (by have := of_decide_eq_true hl; omega), fun a na =>
    q _ _ (s2.trans (same_upd na)) (new_lst (n.live.same s2) na hs)⟩
/-- two values and a rule that changes nothing -/
theorem sv_op {r : R2} (ha : SV K S ta σ H d) (hb : SV K S tb σ H e) {f : PyData} (hr : ∀ S' H1 x y (Q : VK), Live S' H1 → Ds K S' H1 x d → Ds K S' H1 y e → (∀ v H2, Same H1 H2 → Ds K S' H2 v f → Q v H2) → r x y H1 Q) : SV K S (tOp r ta tb) σ H f := fun S1 H1 n Q q =>
  ha S1 H1 n _ fun x H2 s2 hx => hb S1 H2 (n.then s2) _ fun y H3 s3 hy => hr S1 H3 x y Q (n.live.same (s2.trans s3)) (hx.same s3) hy fun v H4 s4 hv => q v H4 ((s2.trans s3).trans s4) hv
theorem sv_I0 {g : Int → Int → V} {i j : Int} (ha : SV K S ta σ H (.int i)) (hb : SV K S tb σ H (.int j)) (hg : ∀ S' H', Ds K S' H' (g i j) d) : SV K S (tOp (rI0 g) ta tb) σ H d := sv_op ha hb fun _ _ _ _ Q _ hx hy q => ⟨i, j, hx.i, hy.i, q _ _ (Same.refl _) (hg _ _)⟩
theorem sv_add {i j : Int} (ha : SV K S ta σ H (.int i)) (hb : SV K S tb σ H (.int j)) : SV K S (tOp (rI0 fun i j => .int (i + j)) ta tb) σ H (.int (i + j)) := sv_I0 ha hb fun _ _ => .int _
theorem sv_sub {i j : Int} (ha : SV K S ta σ H (.int i)) (hb : SV K S tb σ H (.int j)) : SV K S (tOp (rI0 fun i j => .int (i - j)) ta tb) σ H (.int (i - j)) := sv_I0 ha hb fun _ _ => .int _
theorem sv_lt {i j : Int} (ha : SV K S ta σ H (.int i)) (hb : SV K S tb σ H (.int j)) : SV K S (tOp (rI0 fun i j => .bl (decide (i < j))) ta tb) σ H (.bool (decide (i < j))) := sv_I0 ha hb fun _ _ => .bl _
theorem sv_neg {i : Int} (ha : SV K S ta σ H (.int i)) : SV K S (tUn (rU fun i => .int (-i)) ta) σ H (.int (-i)) := fun S1 H1 n Q q =>
  ha S1 H1 n _ fun x H2 s2 hx => ⟨i, hx.i, q _ _ s2 (.int _)⟩
theorem sv_eqD (ha : SV K S ta σ H d) (hb : SV K S tb σ H e) (hd : fine d = true) (he : fine e = true) : SV K S (tOp (rEqD K) ta tb) σ H (.bool (PyData.eqv d e)) := sv_op ha hb fun _ _ _ _ Q _ hx hy q =>
  ⟨d, e, Ds.dp _ _ hx, Ds.dp _ _ hy, fine_shaped hd, fine_shaped he, q _ _ (Same.refl _) (.bl _)⟩
theorem sv_inD (ha : SV K S ta σ H d) (hb : SV K S tb σ H (.list ds)) (hd : fine d = true) (he : fine (.list ds) = true) : SV K S (tOp (rInD K) ta tb) σ H (.bool (ds.any fun z => PyData.eqv z d)) := sv_op ha hb fun _ _ _ _ Q _ hx hy q =>
  ⟨d, ds, Ds.dp _ _ hx, Ds.dp _ _ hy, fine_shaped hd, fine_shaped he, q _ _ (Same.refl _) (.bl _)⟩
theorem sv_notInD (ha : SV K S ta σ H d) (hb : SV K S tb σ H (.list ds)) (hd : fine d = true) (he : fine (.list ds) = true) : SV K S (tOp (rNotInD K) ta tb) σ H (.bool (!ds.any fun z => PyData.eqv z d)) := sv_op ha hb fun _ _ _ _ Q _ hx hy q =>
  ⟨d, ds, Ds.dp _ _ hx, Ds.dp _ _ hy, fine_shaped hd, fine_shaped he, q _ _ (Same.refl _) (.bl _)⟩
theorem sv_and {a b : Bool} (ha : SV K S ta σ H (.bool a)) (hb : a = true → SV K S tb σ H (.bool b)) : SV K S (tAndV ta tb) σ H (.bool (a && b)) := fun S1 H1 n Q q =>
  ha S1 H1 n _ fun x H2 s2 hx => ⟨a, hx.b, by
    cases a with
    | true => exact iteT (hb rfl S1 H2 (n.then s2) _ fun z H3 s3 hz => q _ _ (s2.trans s3) hz)
    | false => exact iteF (q _ _ s2 (.bl _))⟩
theorem sv_if {a : Bool} (ht : SB S tt σ H a) (h1 : a = true → SV K S ta σ H d) (h2 : a = false → SV K S tb σ H d) : SV K S (tIf tt ta tb) σ H d := fun S1 H1 n Q q =>
  ht S1 H1 n _ fun H2 s2 => by
    cases a with
    | true => exact iteT (h1 rfl S1 H2 (n.then s2) _ fun z H3 s3 hz => q _ _ (s2.trans s3) hz)
    | false => exact iteF (h2 rfl S1 H2 (n.then s2) _ fun z H3 s3 hz => q _ _ (s2.trans s3) hz)
theorem sb_is {b' : Bool} (h : SB S tt σ H b) (e : b = b') : SB S tt σ H b' := e ▸ h
theorem sb_val (h : SV K S te σ H (.bool b)) : SB S (tB te) σ H b := fun S1 H1 n Q q => h S1 H1 n _ fun x H2 s2 hx => ⟨b, hx.b, q _ s2⟩
theorem sb_test (h : SV K S te σ H (.bool b)) : SB S (tTest te) σ H b := fun S1 H1 n Q q => h S1 H1 n _ fun x H2 s2 hx => ⟨b, hx.b, q _ s2⟩
theorem sb_not (h : SB S tt σ H b) : SB S (tNot tt) σ H (!b) := fun S1 H1 n Q q => h S1 H1 n _ q
theorem sb_and (h : SB S tt σ H b) (h2 : b = true → SB S tu σ H c) : SB S (tAnd tt tu) σ H (b && c) := fun S1 H1 n Q q => h S1 H1 n _ fun H2 s2 => by
  cases b with
  | true => exact iteT (h2 rfl S1 H2 (n.then s2) _ fun H3 s3 => q _ (s2.trans s3))
  | false => exact iteF (q _ s2)
theorem sb_or (h : SB S tt σ H b) (h2 : b = false → SB S tu σ H c) : SB S (tOr tt tu) σ H (b || c) := fun S1 H1 n Q q => h S1 H1 n _ fun H2 s2 => by
  cases b with
  | true => exact iteT (q _ s2)
  | false => exact iteF (h2 rfl S1 H2 (n.then s2) _ fun H3 s3 => q _ (s2.trans s3))
theorem sb_yes : SB S tYes σ H true := fun S1 H1 n Q q => q _ (Same.refl _)
/-! ### statements -/
variable {D : Ends} {tz ty : TS}
theorem set_sv {i : Nat} (l : Live S H) (h : SV K S te σ H d) (k : ∀ v H', Same H H' → Live S H' → Ds K S H' v d → tz D (σ.set i (some v)) H') : tSeq (tAsg te (gName i)) tz D σ H := h.run l fun v H' s hv => k v H' s (l.same s) hv
theorem ret_sv (l : Live S H) (h : SV K S te σ H d) (k : ∀ v H', Same H H' → Ds K S H' v d → D.rt v H') : tRet te D σ H := h.run l k
theorem if_sb (l : Live S H) (h : SB S tt σ H b) (k1 : b = true → ∀ H', Same H H' → Live S H' → tz D σ H') (k2 : b = false → ∀ H', Same H H' → Live S H' → ty D σ H') : tIfS tt tz ty D σ H := h.run l fun H' s => by
  cases b with
  | true => exact iteT (k1 rfl H' s (l.same s))
  | false => exact iteF (k2 rfl H' s (l.same s))
/-! ### calls of what promises data of data -/
/-- x: the arguments as they are meant, enc: their data -/
def spT (K : PySem.W.Frag) {α : Type} (enc : α → List PyData) (pre : α → Prop) (f : α → PyData) : Sp := fun vs H Q _ => ∃ (S : Sh) (x : α), Live S H ∧ DsAll K S H vs (enc x) ∧ pre x ∧ ∀ v H', Same H H' → Ds K S H' v (f x) → Q v H'
theorem sv_T {α : Type} {enc : α → List PyData} {pre : α → Prop} {f : α → PyData} {E : XK} (x : α) (h : SA K S tr σ H ds) (e : ds = enc x) (hp : pre x) : SV K S (tCall (spT K enc pre f) [] E tr) σ H (f x) := fun S1 H1 n Q q =>
  h S1 H1 n _ fun vs H2 s2 hs => ⟨S1, x, n.live.same s2, by rw [← e, List.append_nil]; exact hs, hp, fun v H3 s3 hv => q v H3 (s2.trans s3) hv⟩
end
/-! ### walks -/
/-- what is walked gives the data ds -/
def SI (K : PySem.W.Frag) (S : Sh) (wi : TI) (σ : L2.St) (H : Hp) (ds : List PyData) : Prop := ∀ S' H', Now S H S' H' → ∀ R : It → Hp → Prop,
  (∀ J H2, Same H' H2 → Walk J ds.length (fun H3 => ∃ S2, Step S' H2 S2 H3) (fun i H3 v H4 => Same H3 H4 ∧ ∃ d, ds[i]? = some d ∧ ∀ S2, Step S' H2 S2 H3 → Ds K S2 H4 v d) → R J H2) → wi σ H' R
/-- a list or a tuple, walked -/
def iAny (K : PySem.W.Frag) (tl : TE) : TI := fun σ H R => tl σ H fun x H1 => ∃ a, x = .ref a ∧ (((∃ xs, SqL K H1 a xs) ∧ R (Itl K a) H1) ∨ ((∃ xs, SqT K H1 a xs) ∧ R (Itt K a) H1))
theorem pi_any {X : Cx} {tg l : Expr} {tl : TE} (hl : PE X l tl) : PI X tg l (iAny X.K tl) := by
  refine ⟨fun pins s σ H R I h => thn (hl.run pins s σ H _ I h) fun v s1 ⟨x, H1, I1, r1, a, e, q⟩ => ?_⟩
  subst e
  cases r1
  have hfp : ∀ b ∈ [s1.heap.objs.size], FpOk X pins H1 b := fun b hb => by
    rw [List.mem_singleton.mp hb]
    exact I1.fpOk (Nat.le_refl _) (I1.hok.fresh (Nat.le_refl _))
  rcases q with ⟨⟨xs, hq⟩, q⟩ | ⟨⟨xs, hq⟩, q⟩
  · obtain ⟨its, _, p, _⟩ := I1.list hq
    exact wpAny_pyIter_list p.isList ⟨_, _, _, _, H1, rfl, I1.kept (t' := s1.toks) fun b o z => Heap.get?_push_of_some _ z, turn_list a _, ⟨_, Heap.get?_push_size _ rfl, rfl, rfl⟩, hfp, q⟩
  · obtain ⟨its, _, p, _⟩ := I1.tuple hq
    exact wpAny_pyIter_tuple (show s1.heap.IsTuple a its.toArray from p) ⟨_, _, _, _, H1, rfl, I1.kept (t' := s1.toks) fun b o z => Heap.get?_push_of_some _ z, turn_tuple a _, ⟨_, Heap.get?_push_size _ rfl, rfl, rfl⟩, hfp, q⟩
section
variable {K : PySem.W.Frag} {S S' : Sh} {σ : L2.St} {H H' : Hp} {ta tb te tc : TE} {tr tk : TA} {tt tu : TT} {d e : PyData} {ds es : List PyData} {v : V} {b c : Bool} {wi : TI} {g : TG}
/-- a list where k is true, else a tuple -/
def seqD (k : Bool) (ds : List PyData) : PyData := if k = true then .list ds else .tuple ds
theorem walkL {a : Addr} {xs : List V} (h : LS S H a xs) (hs : DsAll K S H xs ds) : Walk (Itl K a) ds.length (fun H3 => ∃ S2, Step S H S2 H3) (fun i H3 v H4 => Same H3 H4 ∧ ∃ d, ds[i]? = some d ∧ ∀ S2, Step S H S2 H3 → Ds K S2 H4 v d) := by
  rw [← hs.length]
  refine (walk_list (xs := xs)).mono (fun H3 ⟨S2, z⟩ => at_step z h.1 h.2 |> fun y => .inl (.inl y.2)) fun i H3 v H4 hi _ y => ?_
  obtain ⟨rfl, e⟩ := y
  obtain ⟨d, e1, e2⟩ := hs.get e
  exact ⟨Same.refl _, d, e1, fun S2 z => e2.step z⟩
theorem walkT {a : Addr} {xs : List V} (h : TS' S H a xs) (hs : DsAll K S H xs ds) : Walk (Itt K a) ds.length (fun H3 => ∃ S2, Step S H S2 H3) (fun i H3 v H4 => Same H3 H4 ∧ ∃ d, ds[i]? = some d ∧ ∀ S2, Step S H S2 H3 → Ds K S2 H4 v d) := by
  rw [← hs.length]
  refine (walk_tup (xs := xs)).mono (fun H3 ⟨S2, z⟩ => at_step z h.1 h.2 |> fun y => .inl (.inl y.2)) fun i H3 v H4 hi _ y => ?_
  obtain ⟨rfl, e⟩ := y
  obtain ⟨d, e1, e2⟩ := hs.get e
  exact ⟨Same.refl _, d, e1, fun S2 z => e2.step z⟩
theorem si_any {k : Bool} (h : SV K S te σ H (seqD k ds)) : SI K S (iAny K te) σ H ds := fun S1 H1 n R q => h S1 H1 n _ fun x H2 s2 hx => by
  cases k with
  | true =>
    obtain ⟨a, xs, rfl, l, hs⟩ := Ds.l hx
    exact ⟨a, rfl, .inl ⟨⟨xs, l.sq⟩, q _ _ s2 (walkL l hs)⟩⟩
  | false =>
    obtain ⟨a, xs, rfl, l, hs⟩ := Ds.t hx
    exact ⟨a, rfl, .inr ⟨⟨xs, l.sq⟩, q _ _ s2 (walkT l hs)⟩⟩
theorem si_l (h : SV K S te σ H (.list ds)) : SI K S (iAny K te) σ H ds := si_any (k := true) h
theorem si_t (h : SV K S te σ H (.tuple ds)) : SI K S (iAny K te) σ H ds := si_any (k := false) h
/-- a for over it -/
theorem for_si {D : Ends} {tb : TS} (l : Live S H) (h : SI K S wi σ H ds)
    (k : ∀ H2, Same H H2 → Live S H2 → ∃ Pv : Nat → L2.St → Hp → Prop, Pv 0 σ H2 ∧ (∀ i σ H3, i ≤ ds.length → Pv i σ H3 → ∃ S2, Step S H2 S2 H3) ∧
      (∀ i d v σ H3 H4, ds[i]? = some d → Pv i σ H3 → Same H3 H4 → (∀ S2, Step S H2 S2 H3 → Ds K S2 H4 v d) → g v σ H4 fun σ2 H5 => tb { D with nx := Pv (i + 1), ct := Pv (i + 1), bk := D.nx } σ2 H5) ∧ ∀ σ H3, Pv ds.length σ H3 → D.nx σ H3) : tFor wi g tb D σ H :=
  h S H (Now.refl l) _ fun J H2 s w => by
    obtain ⟨Pv, k0, kG, kt, kd⟩ := k H2 s (l.same s)
    exact for_it w Pv k0 kG (fun i x σ H3 H4 hi hp ⟨sm, d, ed, hd⟩ => kt i d x σ H3 H4 ed hp sm hd) kd
/-- a comprehension over it, f of each item, of those where t is true -/
def SN (K : PySem.W.Frag) (S : Sh) (te : TE) (σ : L2.St) (H : Hp) (ds : List PyData) : Prop := ∀ S' H', Now S H S' H' → ∀ Q : VK, (∀ a xs H2, Same H' H2 → H' a = none → H2 a = some (.lst xs) → DsAll K S' H2 xs ds → Q (.ref a) H2) → te σ H' Q
theorem SN.sv (h : SN K S te σ H ds) : SV K S te σ H (.list ds) := fun S1 H1 n Q q => h S1 H1 n Q fun a xs H2 s na ha hs => q _ _ s (.lst ⟨n.live.ne na, ha⟩ hs)
theorem SN.is (h : SN K S te σ H ds) (e : ds = es) : SN K S te σ H es := e ▸ h
theorem sn_lc {vs : List Nat} (h : SI K S wi σ H ds) (hl : ds.length ≤ 5000) (t : Nat → PyData → Bool) (f : Nat → PyData → PyData)
    (hs : ∀ i d S' H' v (Q : L2.St → Hp → Prop), ds[i]? = some d → Now S H S' H' → Ds K S' H' v d → (∀ σ2, wipe σ2 vs = wipe σ vs → SB S' tt σ2 H' (t i d) → (t i d = true → SV K S' te σ2 H' (f i d)) → Q σ2 H') → g v (wipe σ vs) H' Q) :
    SN K S (tLc wi g tt te vs) σ H ((ds.zipIdx.filter fun p => t p.2 p.1).map fun p => f p.2 p.1) := fun S1 H1 n Q q =>
  h S1 H1 n _ fun J H2 s2 w D nD => by
    have l2 : Live S1 H2 := n.live.same s2
    refine lc_it w (fun i H3 => ∃ vs, H3 D = some (.lst vs) ∧ Now S1 H2 (fun a => S1 a ∨ a = D) H3 ∧ DsAll K (fun a => S1 a ∨ a = D) H3 vs (((ds.zipIdx.take i).filter fun p => t p.2 p.1).map fun p => f p.2 p.1))
      ⟨[], upd_same, Now.add l2 nD, .nil⟩ (fun i H3 _ ⟨_, _, z, _⟩ => ⟨_, z.step⟩) (fun i x H3 H4 hi ⟨vs3, e3, n3, d3⟩ ⟨s4, d, ed, hd⟩ => ?_) fun H3 ⟨vs3, e3, n3, d3⟩ => ?_
    · have n4 : Now S1 H2 (fun a => S1 a ∨ a = D) H4 := n3.then s4
      refine hs i d _ H4 x _ ed ((n.then s2).trans n4) (hd _ n3.step) fun σ2 ew hb hv => ⟨ew, hb.run n4.live fun H5 s5 => ?_⟩
      have ei : ds.zipIdx[i]? = some (d, i) := by rw [List.getElem?_zipIdx, ed]; simp
      have n5 := n4.then s5
      cases et : t i d with
      | true =>
        refine iteT ((hv et).now (Now.of n4.live s5) |>.run n5.live fun y H6 s6 hy => ⟨vs3, s6 _ _ (s5 _ _ (s4 _ _ e3)), ?_, vs3 ++ [y], upd_same, (n5.then s6).put (.inr rfl) (l2.ne nD), ?_⟩)
        · have h1 := d3.length
          have h2 := List.length_filter_le (fun p : PyData × Nat => t p.2 p.1) (ds.zipIdx.take i)
          have h3 := List.length_take_le i ds.zipIdx
          rw [List.length_map] at h1
          have h4 : (ds.zipIdx.take i).length ≤ ds.length := by rw [List.length_take, List.length_zipIdx]; omega
          exact szl (by omega)
        · have e1 : ((ds.zipIdx.take (i + 1)).filter fun p => t p.2 p.1).map (fun p => f p.2 p.1) = ((ds.zipIdx.take i).filter fun p => t p.2 p.1).map (fun p => f p.2 p.1) ++ [f i d] := by
            rw [List.take_add_one, ei]
            simp [et]
          rw [e1]
          exact ((d3.same s4).same s5 |>.same s6 |>.app (.cons hy .nil)).byX (XS.upd (.inr rfl))
      | false =>
        refine iteF ⟨vs3, s5 _ _ (s4 _ _ e3), n5, ?_⟩
        have e1 : ((ds.zipIdx.take (i + 1)).filter fun p => t p.2 p.1).map (fun p => f p.2 p.1) = ((ds.zipIdx.take i).filter fun p => t p.2 p.1).map (fun p => f p.2 p.1) := by
          rw [List.take_add_one, ei]
          simp [et]
        rw [e1]
        exact (d3.same s4).same s5
    · rw [List.take_of_length_le (by simp)] at d3
      exact q _ _ _ (s2.trans n3.same) (s2.free nD) e3 (d3.less fun _ => .inl)
theorem filter_zipIdx_map (ds : List PyData) (t : PyData → Bool) (f : PyData → PyData) : ((ds.zipIdx.filter fun p => t p.1).map fun p => f p.1) = (ds.filter t).map f := by
  have : ∀ (l : List PyData) (k : Nat), (((l.zipIdx k).filter fun p => t p.1).map fun p => f p.1) = (l.filter t).map f := by
    intro l
    induction l with
    | nil => intro k; rfl
    | cons a l ih =>
      intro k
      rw [List.zipIdx_cons]
      by_cases h : t a = true
      · rw [List.filter_cons_of_pos (by simpa using h), List.filter_cons_of_pos h, List.map_cons, List.map_cons, ih]
      · rw [List.filter_cons_of_neg (by simpa using h), List.filter_cons_of_neg h, ih]
  exact this ds 0
/-- .. by the item alone -/
theorem sn_lcF {vs : List Nat} (h : SI K S wi σ H ds) (hl : ds.length ≤ 5000) (t : PyData → Bool) (f : PyData → PyData)
    (hs : ∀ d S' H' v (Q : L2.St → Hp → Prop), d ∈ ds → Now S H S' H' → Ds K S' H' v d → (∀ σ2, wipe σ2 vs = wipe σ vs → SB S' tt σ2 H' (t d) → (t d = true → SV K S' te σ2 H' (f d)) → Q σ2 H') → g v (wipe σ vs) H' Q) :
    SN K S (tLc wi g tt te vs) σ H ((ds.filter t).map f) := by
  rw [← filter_zipIdx_map]
  exact sn_lc h hl (fun _ d => t d) (fun _ d => f d) fun i d S' H' v Q e n hd k => hs d S' H' v Q (List.mem_of_getElem? e) n hd k
theorem sn_lcM {vs : List Nat} (h : SI K S wi σ H ds) (hl : ds.length ≤ 5000) (f : PyData → PyData)
    (hs : ∀ d S' H' v (Q : L2.St → Hp → Prop), d ∈ ds → Now S H S' H' → Ds K S' H' v d → (∀ σ2, wipe σ2 vs = wipe σ vs → SV K S' te σ2 H' (f d) → Q σ2 H') → g v (wipe σ vs) H' Q) :
    SN K S (tLc wi g tYes te vs) σ H (ds.map f) := by
  have z := sn_lcF (tt := tYes) h hl (fun _ => true) f fun d S' H' v Q m n hd k => hs d S' H' v Q m n hd fun σ2 ew hv => k σ2 ew sb_yes fun _ => hv
  rw [List.filter_eq_self.mpr fun _ _ => rfl] at z
  exact z
theorem sv_lcF {vs : List Nat} (h : SI K S wi σ H ds) (hl : ds.length ≤ 5000) (t : PyData → Bool) (f : PyData → PyData)
    (hs : ∀ d S' H' v (Q : L2.St → Hp → Prop), d ∈ ds → Now S H S' H' → Ds K S' H' v d → (∀ σ2, wipe σ2 vs = wipe σ vs → SB S' tt σ2 H' (t d) → (t d = true → SV K S' te σ2 H' (f d)) → Q σ2 H') → g v (wipe σ vs) H' Q) :
    SV K S (tLc wi g tt te vs) σ H (.list ((ds.filter t).map f)) := (sn_lcF h hl t f hs).sv
theorem sv_lcM {vs : List Nat} (h : SI K S wi σ H ds) (hl : ds.length ≤ 5000) (f : PyData → PyData)
    (hs : ∀ d S' H' v (Q : L2.St → Hp → Prop), d ∈ ds → Now S H S' H' → Ds K S' H' v d → (∀ σ2, wipe σ2 vs = wipe σ vs → SV K S' te σ2 H' (f d) → Q σ2 H') → g v (wipe σ vs) H' Q) :
    SV K S (tLc wi g tYes te vs) σ H (.list (ds.map f)) := (sn_lcM h hl f hs).sv
/-! ### targets -/
theorem g_tup2 {i j : Nat} {d1 d2 : PyData} {Q : L2.St → Hp → Prop} (h : Ds K S H v (.tuple [d1, d2])) (k : ∀ x y, Ds K S H x d1 → Ds K S H y d2 → Q ((σ.set i (some x)).set j (some y)) H) : gTup K 2 (gCons (gName i) (gCons (gName j) gNil)) v σ H Q := by
  obtain ⟨a, xs, rfl, l, hs⟩ := h.t
  obtain ⟨x, y, rfl, hx, hy⟩ := hs.two
  exact ⟨a, _, rfl, l.sq, rfl, x, _, rfl, y, _, rfl, rfl, k x y hx hy⟩
theorem g_tup3 {i j m : Nat} {d1 d2 d3 : PyData} {Q : L2.St → Hp → Prop} (h : Ds K S H v (.tuple [d1, d2, d3])) (k : ∀ x y z, Ds K S H x d1 → Ds K S H y d2 → Ds K S H z d3 → Q (((σ.set i (some x)).set j (some y)).set m (some z)) H) :
    gTup K 3 (gCons (gName i) (gCons (gName j) (gCons (gName m) gNil))) v σ H Q := by
  obtain ⟨a, xs, rfl, l, hs⟩ := h.t
  obtain ⟨x, y, z, rfl, hx, hy, hz⟩ := hs.three
  exact ⟨a, _, rfl, l.sq, rfl, x, _, rfl, y, _, rfl, z, _, rfl, rfl, k x y z hx hy hz⟩
end
end My
set_option Elab.async false
set_option linter.all false
set_option maxRecDepth 100000
/-! enumerate over a tuple or a list; list.count of texts. -/
namespace My
open PySem PySem.Spec PyProof.Rows L2
/-! ### enumerate(v), v anything that begins -/
abbrev enumO (i : Addr) : Obj := { cls := .type "enumerate", data := .fields #[.none, .bool false, .ref i, rawInt 0, .none, .none] }
set_option maxHeartbeats 1000000 in
theorem meets_enumV {v : Value} {o : Obj} {G : Heap → Prop} (B : Begins v o G) : Meets (Builtin.«enumerate.__new__» ⟨[.type "enumerate", v], []⟩)
    (fun _ R s => G s.heap ∧ R (.ok (.ret (.ref (s.heap.push o).objs.size))) { s with heap := (s.heap.push o).push (enumO s.heap.objs.size) }) := by
  refine .of_wp fun prog w A R s h => ?_
  obtain ⟨hp, g, d, tk, os⟩ := s
  obtain ⟨hG, h⟩ := h
  have hsub := sub_enumerate
  have it : ∀ {A' : Around} {E Q : Value → Shared → Prop}, Q (.ref hp.objs.size) ⟨hp.push o, g, d, tk, os⟩ → wpAny (model prog w) A' (pyIter v) Q E ⟨hp, g, d, tk, os⟩ := fun z => B.iter prog w _ _ _ _ hG z
  wp_walk
  refine wpAny_stack_any fun st => wpAny_pure ?_
  split
  · rename_i c _ _ _ _ _
    cases (c == Value.type "enumerate") <;> (wp_walk using it; exact ⟨_, rfl, h⟩)
  · wp_walk using it
    exact ⟨_, rfl, h⟩
theorem call_enumV {prog : Program} {w : World} {A : Around} {E Q : Value → Shared → Prop} {s : Shared} {v : Value} {o : Obj} {G : Heap → Prop} (B : Begins v o G) (hG : G s.heap)
    (h : ∀ h', IsEnum h' (s.heap.objs.size + 1) s.heap.objs.size 0 .none → h'.get? s.heap.objs.size = some o → (∀ b u, s.heap.get? b = some u → h'.get? b = some u) → Q (.ref (s.heap.objs.size + 1)) { s with heap := h' }) :
    wpAny (model prog w) A (call (.type "enumerate") [v]) Q E s := by
  refine callType_new F.called_enumerate (by decide) (F.typeCall_enumerate_1 _) (F.newCall_enumerate_1 _) (fun obj => F.args_object_init_2 obj _) F.entry_enumerate_new (meets_enumV B) ⟨hG, ?_⟩
  have z1 : (s.heap.push o).objs.size = s.heap.objs.size + 1 := Heap.size_push ..
  have e1 : IsEnum ((s.heap.push o).push (enumO s.heap.objs.size)) (s.heap.objs.size + 1) s.heap.objs.size 0 .none := by
    rw [← z1]
    exact Heap.get?_push_size _ rfl
  show _ ∧ _
  rw [z1]
  exact ⟨⟨_, e1, rfl⟩, h _ e1 (Heap.get?_push_of_some _ (Heap.get?_push_size _ B.free)) fun b u z => Heap.get?_push_of_some _ (Heap.get?_push_of_some _ z)⟩
/-- the tuple at a, each item in a new pair -/
def IteT (K : PySem.W.Frag) (a : Addr) : It :=
  ⟨fun i H => ∃ (xs : List V) (x : V), SqT K H a xs ∧ xs[i]? = some x, fun i H v H' => ∃ T x, v = .ref T ∧ H T = none ∧ H' = upd H T (.tup [.int (i : Nat), x]) ∧ ∀ xs, SqT K H a xs → xs[i]? = some x, fun i H => ∃ xs : List V, SqT K H a xs ∧ xs.length ≤ i⟩
theorem turn_enumT {P : Program} {w : World} {K : PySem.W.Frag} {elts : List Expr} {kk : Nat} {tpos : Pos} (a e it : Addr) (h1 : e ≠ it) (h2 : e ≠ a) (h3 : a ≠ it) :
    Turn P w K (.Tuple elts kk tpos) (IteT K a) [e, it] e (fun i h => (∃ old, IsEnum h e it ((i : Nat) : Int) old) ∧ h.IsTupleIter it a i) where
  mem := by simp
  obj := fun i h st b hb => by
    obtain ⟨⟨old, he⟩, o, ho, hc, hd⟩ := st
    rcases List.mem_cons.mp hb with rfl | hb
    · exact ⟨_, he, fun v q => nomatch q⟩
    · rw [List.mem_singleton.mp hb]
      exact ⟨o, ho, fun v q => by rw [hd] at q; cases q⟩
  keep := fun i h h' st k => by
    obtain ⟨⟨old, he⟩, hi⟩ := st
    exact ⟨⟨old, k e (by simp) _ he⟩, hi.at fun o q => k it (by simp) o q⟩
  item := by
    intro X hP hw hK hc i pins s σ H E I hf st hg
    subst hP hw hK
    obtain ⟨⟨old, he⟩, hit⟩ := st
    obtain ⟨xs, x, hq, hx⟩ := hg
    obtain ⟨its, rv, p, hz⟩ := I.tuple hq
    have hlen := rv.length
    have hi : i < its.toArray.size := by
      have := (List.getElem?_eq_some_iff.mp hx).1
      rw [List.size_toArray]
      omega
    have le : e < s.heap.objs.size := Heap.lt_size he
    have li : it < s.heap.objs.size := by obtain ⟨_, q, _⟩ := hit; exact Heap.lt_size q
    have D := Draws.tuple (prog := X.prog) (w := X.w) (A := X.A.in1) (I.ok.hd hc) it a h3 its.toArray
    refine wpAny_pyNext_enum_itemD D he ⟨hit, p⟩ hi h1 (fun m => ?_) fun u h' tk hu ho st' hT hsz hk => ?_
    · rcases List.mem_cons.mp m with m | m
      · exact h1 m
      · exact h2 (List.mem_singleton.mp m)
    have hu2 : its[i]? = some u := by simpa using hu
    obtain ⟨u', hu', ru⟩ := rv.get hx
    have eu : u' = u := Option.some.inj (hu'.symm.trans hu2)
    subst eu
    refine ⟨_, rfl, wpAny_letOwnedTupleGo_enum (s := { s with heap := h', toks := tk + 1 }) ho fun h'' he' sb => ?_⟩
    have new : ObjOk X.prog X.w (upd H s.heap.objs.size (.tup [.int (i : Nat), x])) h'' s.heap.objs.size (.tup [.int (i : Nat), x]) :=
      ⟨by show 2 ≤ sizeLine; decide, [.int i tk, u'], .cons ⟨_, rfl⟩ (.cons ru .nil), _, (sb.2 _ (Nat.ne_of_gt le)).trans hT, rfl, _, rfl⟩
    have kp : ∀ b ob, b ∉ [e, it] → s.heap.get? b = some ob → h''.get? b = some ob := fun b ob hb q => by
      have n1 : b ≠ e := fun z => hb (by simp [z])
      have n2 : b ≠ it := fun z => hb (by simp [z])
      exact (sb.2 b n1).trans (hk b ob n1 n2 q)
    refine ⟨.ref s.heap.objs.size, _, I.turnedNew (t' := tk + 1) kp hf (Nat.le_refl _) new, rfl, ⟨_, x, rfl, I.hok.fresh (Nat.le_refl _), rfl, fun ys hy => by rw [I.tuple_inj hy hq]; exact hx⟩, ⟨⟨u', ?_⟩, st'.1.at fun o q => (sb.2 it h1.symm).trans q⟩, fun b hb => ?_⟩
    · rw [show ((i + 1 : Nat) : Int) = (i : Int) + 1 by omega]
      exact he'
    · have hb' : b < s.heap.objs.size := by
        rcases List.mem_cons.mp hb with rfl | hb
        · exact le
        · rw [List.mem_singleton.mp hb]; exact li
      rw [upd_ne (Nat.ne_of_lt hb')]
      exact (hf b hb).1
  done := by
    intro X hP hw hK hc i pins s σ H E I hf st hg
    subst hP hw hK
    obtain ⟨⟨old, he⟩, hit⟩ := st
    obtain ⟨xs, hq, hx⟩ := hg
    obtain ⟨its, rv, p, hz⟩ := I.tuple hq
    have hlen := rv.length
    obtain ⟨f0, f1, f2, f3, f4, f5⟩ := hf it (by simp)
    obtain ⟨o, ho, hc', hd⟩ := id hit
    have D := Draws.tuple (prog := X.prog) (w := X.w) (A := X.A.in1) (I.ok.hd hc) it a h3 its.toArray
    -- the tuple's iterator stands at its end, or beyond
    unfold pyNext
    have hT : s.TypeIs (.ref e) "enumerate" := ⟨_, he, rfl⟩
    refine wpAny_bind (wpAny_attempt (wpAny_callSpecial?_slot (name := Str.ofString "__next__") hT F.slot_enumerate_next (wpAny_call_entry F.slot_enumerate_next hT F.entry_enumerate_next ?_ (F.args_enumerate_next_1 _))))
    show wpAny _ _ (field (.ref e) 2 >>= _) _ _ _
    refine wpAny_bind (wpAny_field he rfl (x := .ref it) rfl (wpAny_bind (wpAny_nextOf_tuple_end (I.ok.hd hc) hit p (by simp; omega) fun h' x he' hx' => ?_)))
    obtain ⟨ob, hob, hcb⟩ := hx'
    refine wpAny_bind (wpAny_isInstance (T := "StopIteration") (b := true) ⟨ob, hob, hcb⟩ isSubtype_stop (wpAny_pure ?_))
    exact ⟨rfl, I.turned (t' := s.toks) (fun b o hb q => he' b o hb q) f0 f1 f3 f4 f5⟩
  self := fun A i s Q E st h => by
    obtain ⟨⟨_, he⟩, _⟩ := st
    exact wpAny_pyIter_enum he h
def iEnumA (K : PySem.W.Frag) (ta : TA) : TI := fun σ H R => ta σ H fun vs H1 => ∃ a, vs = [.ref a] ∧ (((∃ xs, SqL K H1 a xs) ∧ R (Ite K a) H1) ∨ ((∃ xs, SqT K H1 a xs) ∧ R (IteT K a) H1))
theorem pi_enumA {X : Cx} {e : Expr} {ta : TA} {p pos tpos : Pos} {elts : List Expr} {kk : Nat} (hg : Gl X "enumerate") (hm : X.mg "enumerate" = none) (ha : PA X [e] ta) (hs : starEach [e] X.env = [(false, eval e X.env)] := by rfl) :
    PI X (.Tuple elts kk tpos) (.Call (.Name "enumerate" p) [e] [] pos) (iEnumA X.K ta) := by
  refine ⟨fun pins s σ H R I h => Call_ (ld_blt I hg hm boot_enumerate (PyProof.Rows.callWith_type1 (thn (ha.run pos pins s σ H _ I h) fun us s1 ⟨vs, H1, I1, r1, q1⟩ => ?_) hs rfl))⟩
  obtain ⟨a, rfl, q⟩ := q1
  obtain ⟨u, rfl, ru⟩ := r1.one
  cases ru
  have hfp : ∀ b ∈ [s1.heap.objs.size + 1, s1.heap.objs.size], FpOk X pins H1 b := fun b hb => by
    have hle : s1.heap.objs.size ≤ b := by
      rcases List.mem_cons.mp hb with rfl | hb
      · exact Nat.le_succ _
      · rw [List.mem_singleton.mp hb]; exact Nat.le_refl _
    exact I1.fpOk hle (I1.hok.fresh hle)
  rcases q with ⟨⟨xs, hq⟩, q⟩ | ⟨⟨xs, hq⟩, q⟩
  · obtain ⟨its, rv, p', hz⟩ := I1.list hq
    refine call_enumV (begins_list a its.toArray) p'.isList fun h' he hit hk => wpAny_pyIter_enum he ?_
    exact ⟨_, _, _, _, H1, rfl, I1.kept (t' := s1.toks) hk, turn_enum a (s1.heap.objs.size + 1) s1.heap.objs.size, ⟨⟨.none, he⟩, ⟨_, hit, rfl, rfl⟩, Nat.succ_ne_self _⟩, hfp, q⟩
  · obtain ⟨its, rv, p', hz⟩ := I1.tuple hq
    have la : a < s1.heap.objs.size := by obtain ⟨o, ho, _⟩ := id p'; exact Heap.lt_size ho
    refine call_enumV (begins_tuple a its.toArray) p' fun h' he hit hk => wpAny_pyIter_enum he ?_
    exact ⟨_, _, _, _, H1, rfl, I1.kept (t' := s1.toks) hk, turn_enumT a (s1.heap.objs.size + 1) s1.heap.objs.size (Nat.succ_ne_self _) (Nat.ne_of_gt (Nat.lt_succ_of_lt la)) (Nat.ne_of_lt la), ⟨⟨.none, he⟩, ⟨_, hit, rfl, rfl⟩⟩, hfp, q⟩
section
variable {K : PySem.W.Frag} {S : Sh} {σ : L2.St} {H : Hp} {tr : TA} {ds : List PyData} {a : Addr} {xs : List V}
theorem walk_enumT : Walk (IteT K a) xs.length (fun H => SqT K H a xs) (YPair (fun i => some (.int (i : Nat))) (fun i => xs[i]?)) :=
  ⟨fun i _ hi q => ⟨xs, xs[i], q, by simp [hi]⟩, fun _ q => ⟨xs, q, Nat.le_refl _⟩, fun i H v H' _ q ⟨T, x, h1, h2, h3, h4⟩ => ⟨T, _, x, h1, h2, h3, rfl, h4 xs q⟩⟩
/-- index and data -/
def enumD (ds : List PyData) : List PyData := ds.zipIdx.map fun p => .tuple [.int (p.2 : Nat), p.1]
theorem enumD_len (ds : List PyData) : (enumD ds).length = ds.length := by simp [enumD]
theorem enumD_at {ds : List PyData} {i : Nat} {d : PyData} (h : ds[i]? = some d) : (enumD ds)[i]? = some (.tuple [.int (i : Nat), d]) := by
  unfold enumD
  rw [List.getElem?_map, List.getElem?_zipIdx, h]
  simp
theorem walkE {J : It} {G : Hp → Prop} (hG : ∀ S2 H3, Step S H S2 H3 → G H3) (w : Walk J xs.length G (YPair (fun i => some (.int (i : Nat))) (fun i => xs[i]?))) (hs : DsAll K S H xs ds) :
    Walk J (enumD ds).length (fun H3 => ∃ S2, Step S H S2 H3) (fun i H3 v H4 => Same H3 H4 ∧ ∃ d, (enumD ds)[i]? = some d ∧ ∀ S2, Step S H S2 H3 → Ds K S2 H4 v d) := by
  rw [enumD_len, ← hs.length]
  refine w.mono (fun H3 ⟨S2, z⟩ => hG S2 H3 z) fun i H3 v H4 hi _ ⟨T, x, y, e1, nT, e4, ex, ey⟩ => ?_
  subst e1 e4
  cases ex
  obtain ⟨d, ed, hd⟩ := hs.get ey
  exact ⟨same_upd nT, _, enumD_at ed, fun S2 z => new_tup z.live nT (.cons (.int _) (.cons (hd.step z) .nil))⟩
theorem si_enum {k : Bool} (h : SA K S tr σ H [seqD k ds]) : SI K S (iEnumA K tr) σ H (enumD ds) := fun S1 H1 n R q => h S1 H1 n _ fun vs H2 s2 hx => by
  obtain ⟨v, rfl, hv⟩ := hx.one
  cases k with
  | true =>
    obtain ⟨a, xs, rfl, l, hs⟩ := Ds.l hv
    exact ⟨a, rfl, .inl ⟨⟨xs, l.sq⟩, q _ _ s2 (walkE (fun S2 H3 z => Or.inl (.inl (at_step z l.1 l.2).2)) walk_enum hs)⟩⟩
  | false =>
    obtain ⟨a, xs, rfl, l, hs⟩ := Ds.t hv
    exact ⟨a, rfl, .inr ⟨⟨xs, l.sq⟩, q _ _ s2 (walkE (fun S2 H3 z => Or.inl (.inl (at_step z l.1 l.2).2)) walk_enumT hs)⟩⟩
/-- for i, (a, b) in enumerate(..) -/
theorem g_enum2 {i j m : Nat} {v : V} {n d1 d2 : PyData} {Q : L2.St → Hp → Prop} (h : Ds K S H v (.tuple [n, .tuple [d1, d2]])) (k : ∀ x y z, Ds K S H x n → Ds K S H y d1 → Ds K S H z d2 → Q (((σ.set i (some x)).set j (some y)).set m (some z)) H) :
    gTup K 2 (gCons (gName i) (gCons (gTup K 2 (gCons (gName j) (gCons (gName m) gNil))) gNil)) v σ H Q := by
  obtain ⟨a, xs, rfl, l, hs⟩ := h.t
  obtain ⟨x, y, rfl, hx, hy⟩ := hs.two
  refine ⟨a, _, rfl, l.sq, rfl, x, _, rfl, y, _, rfl, ?_⟩
  exact g_tup2 hy fun z w hz hw => ⟨rfl, k x z w hx hz hw⟩
end
/-! ### list.count of texts -/
def eqS (k : Str) (v : Value) : Bool := match v with
  | .str n _ => n == k
  | _ => false
theorem eqS_at {A : Around} {s : Shared} {k : Str} {t : Tok} : ∀ {xs : List Str} {us : List Value}, Vals (xs.map V.str) us → ∀ y ∈ us, SeqAt.EqAt A s y (.str k t) (eqS k y)
  | [], _, h => fun y hy => by cases h; cases hy
  | x :: xs, _, h => fun y hy => by
    cases h with
    | cons r rs =>
      obtain ⟨u, rfl⟩ := r
      rcases List.mem_cons.mp hy with rfl | hy
      · exact SeqAt.EqAt.str_str x u k t
      · exact eqS_at rs y hy
theorem eqS_count {k : Str} : ∀ {xs : List Str} {us : List Value}, Vals (xs.map V.str) us → us.countP (eqS k) = xs.count k
  | [], _, h => by cases h; rfl
  | x :: xs, _, h => by
    cases h with
    | cons r rs =>
      obtain ⟨u, rfl⟩ := r
      rw [List.countP_cons, List.count_cons, eqS_count rs]
      rfl
def rCntS (K : PySem.W.Frag) : V → List V → Hp → VK → Prop := fun x xs H Q => ∃ (p : Addr) (ns : List Str) (k : Str), x = .ref p ∧ xs = [.str k] ∧ SqL K H p (ns.map V.str) ∧ Q (.int (ns.count k : Nat)) H
theorem mt_countS {X : Cx} : MtR X "list.count" (rCntS X.K) := by
  intro pins s σ H x xs v us Q I rx rxs h
  obtain ⟨p, ns, k, rfl, rfl, hs, q⟩ := h
  cases rx
  obtain ⟨u, rfl, t, rfl⟩ := rxs.one
  obtain ⟨its, rv, ⟨o, n, ho, hc, hdn, hd⟩, hlen⟩ := I.list hs
  obtain ⟨cls, dd, data, sl⟩ := o
  simp only at hc hd
  subst hc hd
  refine call_meets PySem.F.slot_list_count ⟨_, ho, rfl⟩ PySem.F.entry_list_count (PySem.F.args_list_count_2 _ _) (SeqAt.list_countAt p its.toArray n dd sl (.str k t) (eqS k)) ⟨ho, fun y hy => eqS_at rv y (by simpa using hy), ?_⟩
  refine ⟨.int (ns.count k : Nat), H, I.tok _, ⟨s.toks, ?_⟩, q⟩
  rw [← eqS_count rv]
end My
set_option Elab.async false
set_option linter.all false
set_option maxRecDepth 100000
/-! own classes: made with *rows, str(o), classmethods by keyword; list.remove of texts. -/
namespace My
open PySem PySem.Spec PyProof.Rows L2 StX ClX
section
variable {X : Cx} {CX : CXT} {k i : Nat} {f C : Addr} {sp : Sp} {E : XK} {x : Str} {e : Expr} {te : TE} {p pos spos : Pos}
/-- C() -/
theorem pe_makeR0 (M : Mk X.K C f) (F : FnR X.prog X.w X.K X.mg X.base CX k f sp) (hr : Room (k + 1) X.A) (hg : Gl X x) (hm : X.mg x = some (.ref C)) (hx : Passes CX X E) (hdb : (x == ("__debug__" : Str)) = false := by decide) : PE X (.Call (.Name x p) [] [] pos) (tMakeR C sp E tNil) := by
  refine ⟨fun pins s σ H Q I h => wpAny_Call_Name_kw (ld_glob I hg hm ?_ hdb)⟩
  exact PySem.W.callWith_K0 I.kIn M.kp (run_makeR (us := []) M F hr hx I .nil h)
/-- C(*e) -/
def tMakeS (K : PySem.W.Frag) (C : Addr) (sp : Sp) (E : XK) (te : TE) : TE := fun σ H Q => te σ H fun y H1 => ∃ a xs, y = V.ref a ∧ (SqT K H1 a xs ∨ SqL K H1 a xs) ∧ ∀ x dx, H1 x = none → H1 dx = none → dx ≠ x →
  sp (V.ref x :: xs) (upd (upd H1 dx (.own x)) x (.ins C dx [])) (fun v H2 => v = .non ∧ Q (.ref x) H2) E
theorem pe_makeS1 (M : Mk X.K C f) (F : FnR X.prog X.w X.K X.mg X.base CX k f sp) (hr : Room (k + 1) X.A) (hg : Gl X x) (hm : X.mg x = some (.ref C)) (hx : Passes CX X E) (he : PE X e te) (hd : (x == ("__debug__" : Str)) = false := by decide)
    (hst : starEach [.Starred e spos] X.env = [(true, eval e X.env)] := by rfl) : PE X (.Call (.Name x p) [.Starred e spos] [] pos) (tMakeS X.K C sp E te) := by
  refine ⟨fun pins s σ H Q I h => wpAny_Call_Name_kw (ld_glob I hg hm ?_ hd)⟩
  refine PySem.W.callWith_S (h₀ := X.base) I.ok.mod.kin M.kp (thn (he.run pins s σ H _ I h) fun v s1 ⟨y, H1, I1, ry, a, xs, ey, hxs, q⟩ => ?_) hst
  subst ey
  cases ry
  exact star_any I1 hxs fun us s2 I2 rv => ⟨I2.kIn, run_makeR M F hr hx I2 rv q⟩
end
/-! ### str(o) by an own __str__ -/
/-! ### C.m(k=..) -/
/-! ### list.remove of texts -/
theorem erase_mapS : ∀ (l : List Str) (j : Nat), (l.map V.str).eraseIdx j = (l.eraseIdx j).map V.str
  | [], j => by simp
  | a :: r, 0 => by simp
  | a :: r, j + 1 => by simp [erase_mapS r j]
theorem eqS_gives {k : Str} {t : Tok} : ∀ {xs : List Str} {us : List Value}, Vals (xs.map V.str) us → ∀ y ∈ us, MeetsSeq.EqGives y (.str k t) (eqS k y)
  | [], _, h => fun y hy => by cases h; cases hy
  | x :: xs, _, h => fun y hy => by
    cases h with
    | cons r rs =>
      obtain ⟨u, rfl⟩ := r
      rcases List.mem_cons.mp hy with rfl | hy
      · show MeetsSeq.EqGives _ _ (x == k)
        rw [← SeqAt.str_beq]
        exact SeqRoads2.EqGives.str x k u t
      · exact eqS_gives rs y hy
def rRemS : V → List V → Hp → VK → Prop := fun x xs H Q => ∃ (l : Addr) (ns : List Str) (k : Str) (j : Nat), x = .ref l ∧ xs = [.str k] ∧ H l = some (.lst (ns.map V.str)) ∧ ns[j]? = some k ∧ (∀ m : Nat, m < j → ns[m]? ≠ some k) ∧ Q .non (upd H l (.lst ((ns.eraseIdx j).map V.str)))
theorem vals_str {xs : List Str} {us : List Value} (r : Vals (xs.map V.str) us) {j : Nat} {x : Str} (h : xs[j]? = some x) : ∃ t, us[j]? = some (.str x t) := by
  obtain ⟨u, hu, t, rfl⟩ := r.get (i := j) (x := .str x) (by rw [List.getElem?_map, h]; rfl)
  exact ⟨t, hu⟩
theorem mt_removeS {X : Cx} : MtM X "list.remove" rRemS := by
  intro pins s σ H x xs v us Q I rx rxs h
  obtain ⟨l, ns, k, j, rfl, rfl, hH, hj, hno, q⟩ := h
  cases rx
  obtain ⟨u, rfl, t, rfl⟩ := rxs.one
  obtain ⟨z, its, n, r, hl, e⟩ := I.lstM hH
  rw [List.length_map] at hl z
  have hjn : j < ns.length := (List.getElem?_eq_some_iff.mp hj).1
  have at_ : ∀ m (h : m < its.toArray.size) x, ns[m]? = some x → ∃ t, its.toArray[m] = .str x t := fun m h x hx => by
    obtain ⟨t, ht⟩ := vals_str r hx
    obtain ⟨_, h2⟩ := List.getElem?_eq_some_iff.mp ht
    exact ⟨t, by simpa using h2⟩
  refine call_meets PySem.F.slot_list_remove ⟨_, e, rfl⟩ PySem.F.entry_list_remove (PySem.F.args_list_remove_2 _ _)
    (MeetsSeq.list_remove l its.toArray n (.str k t) (eqS k) (fun y hy => eqS_gives r y (by simpa using hy)) j (by rw [List.size_toArray]; omega) ?_ ?_ (by rw [List.size_toArray]; omega)) ⟨e, ?_⟩
  · obtain ⟨tj, e1⟩ := at_ j (by rw [List.size_toArray]; omega) k hj
    rw [e1]
    exact beq_self_eq_true k
  · intro m hm hmj
    obtain ⟨tm, e1⟩ := at_ m hm _ (List.getElem?_eq_getElem (by omega))
    rw [e1]
    exact beq_eq_false_iff_ne.mpr fun e2 => hno m hmj (by rw [List.getElem?_eq_getElem (by omega), e2])
  · have rr := r.eraseIdx j
    rw [erase_mapS] at rr
    refine ⟨.non, _, I.lset (its' := its.eraseIdx j) (t' := s.toks) hH e ?_ rr ?_, rfl, q⟩
    · rw [← List.eraseIdxIfInBounds_toArray]
    · rw [List.length_map]
      have := List.length_eraseIdx_le ns j
      omega
end My
set_option Elab.async false
set_option linter.all false
set_option maxRecDepth 100000
/-! More worths: len, items, slices, isinstance, texts. -/
namespace My
open PySem PySem.Spec PyProof.Rows L2
section
variable {K : PySem.W.Frag} {S S' : Sh} {σ : L2.St} {H H' : Hp} {ta tb te tc : TE} {tr tk : TA} {tt tu : TT} {d e : PyData} {ds es : List PyData} {v : V} {b c k : Bool}
theorem sv_cb {r : List V → Hp → VK → Prop} {f : PyData} (ha : SA K S tr σ H ds) (hr : ∀ S' H1 vs (Q : VK), Live S' H1 → DsAll K S' H1 vs ds → (∀ v H2, Same H1 H2 → Ds K S' H2 v f → Q v H2) → r vs H1 Q) : SV K S (tCB r tr) σ H f := fun S1 H1 n Q q =>
  ha S1 H1 n _ fun vs H2 s2 hs => hr S1 H2 vs Q (n.live.same s2) hs fun v H3 s3 hv => q v H3 (s2.trans s3) hv
/-- a list's or a tuple's items -/
theorem Ds.sq (h : Ds K S H v (seqD k ds)) : ∃ a xs, v = .ref a ∧ (SqL K H a xs ∨ SqT K H a xs) ∧ DsAll K S H xs ds := by
  cases k with
  | true => obtain ⟨a, xs, e, l, hs⟩ := Ds.l h; exact ⟨a, xs, e, .inl l.sq, hs⟩
  | false => obtain ⟨a, xs, e, l, hs⟩ := Ds.t h; exact ⟨a, xs, e, .inr l.sq, hs⟩
theorem sv_len (h : SV K S ta σ H (seqD k ds)) : SV K S (tCB (fun xs H Q => ∃ x n, xs = [x] ∧ LenV K x H n ∧ Q (.int (n : Nat)) H) (tCons ta tNil)) σ H (.int (ds.length : Nat)) := sv_cb (sa_cons h sa_nil) fun S1 H1 vs Q l hs q => by
  obtain ⟨v, rfl, hv⟩ := hs.one
  obtain ⟨a, xs, rfl, hq, hx⟩ := hv.sq
  refine ⟨_, ds.length, rfl, ?_, q _ _ (Same.refl _) (.int _)⟩
  rw [← hx.length]
  exact hq.imp (fun z => ⟨xs, z, rfl⟩) fun z => ⟨xs, z, rfl⟩
theorem sv_lenL (h : SV K S ta σ H (.list ds)) : SV K S (tCB (fun xs H Q => ∃ x n, xs = [x] ∧ LenV K x H n ∧ Q (.int (n : Nat)) H) (tCons ta tNil)) σ H (.int (ds.length : Nat)) := sv_len (k := true) h
theorem DsAll.atI {i : Int} {xs : List V} (h : DsAll K S H xs ds) (e : L2.atI ds i = some d) : ∃ v, L2.atI xs i = some v ∧ Ds K S H v d := by
  unfold L2.atI at e ⊢
  rw [h.length]
  cases z : ixN ds.length i with
  | none => rw [z] at e; cases e
  | some j =>
    rw [z] at e
    exact h.at (i := j) e
theorem sv_ix {i : Int} (ha : SV K S ta σ H (seqD k ds)) (hb : SV K S tb σ H (.int i)) (he : L2.atI ds i = some d) : SV K S (tOp (rIx K) ta tb) σ H d := sv_op ha hb fun S1 H1 x y Q l hx hy q => by
  cases k with
  | true =>
    obtain ⟨a, xs, rfl, l, hs⟩ := Ds.l hx
    obtain ⟨v, e1, hv⟩ := hs.atI he
    exact .inl ⟨a, xs, i, v, rfl, hy.i, l.sq, e1, q _ _ (Same.refl _) hv⟩
  | false =>
    obtain ⟨a, xs, rfl, l, hs⟩ := Ds.t hx
    obtain ⟨v, e1, hv⟩ := hs.atI he
    exact .inr (.inl ⟨a, xs, i, v, rfl, hy.i, l.sq, e1, q _ _ (Same.refl _) hv⟩)
theorem sv_ixL {i : Int} (ha : SV K S ta σ H (.list ds)) (hb : SV K S tb σ H (.int i)) (he : L2.atI ds i = some d) : SV K S (tOp (rIx K) ta tb) σ H d := sv_ix (k := true) ha hb he
theorem sv_ixA {i : Int} (ha : SV K S ta σ H (.tuple ds)) (hb : SV K S tb σ H (.int i)) (he : L2.atI ds i = some d) : SV K S (tOp (rIx K) ta tb) σ H d := sv_ix (k := false) ha hb he
theorem sv_ixT {i : Int} (ha : SV K S ta σ H (.tuple ds)) (hb : SV K S tb σ H (.int i)) (he : L2.atI ds i = some d) : SV K S (tOp (rIxT K) ta tb) σ H d := sv_op ha hb fun S1 H1 x y Q l hx hy q => by
  obtain ⟨a, xs, rfl, l, hs⟩ := Ds.t hx
  obtain ⟨v, e1, hv⟩ := hs.atI he
  exact ⟨a, xs, i, v, rfl, hy.i, l.sq, e1, q _ _ (Same.refl _) hv⟩
theorem atI_of {α : Type} {xs : List α} {j : Nat} {x : α} (h : xs[j]? = some x) : L2.atI xs (j : Int) = some x := L2.atI_nat h
/-- an item of a list that may change, as it stands -/
theorem sv_ixM {p : Addr} {xs : List V} {i : Nat} {j : Int} (hi : σ[i]? = some (some (.ref p))) (hp : H p = some (.lst xs)) (hb : SV K S tb σ H (.int j)) (he : L2.atI xs j = some v) (hv : Ds K S H v d) : SV K S (tOp (rIx K) (tVar i) tb) σ H d := fun S1 H1 n Q q =>
  ⟨_, hi, hb S1 H1 n _ fun w H2 s2 hw => .inl ⟨p, xs, j, v, rfl, hw.i, .inl (.inl (s2 _ _ (n.same _ _ hp))), he, q _ _ s2 ((hv.now n).same s2)⟩⟩
theorem sv_countS {ys : List Str} {x : Str} (ha : SV K S ta σ H (.list (ys.map PyData.str))) (hb : SV K S tb σ H (.str x)) : SV K S (tBM K "list" (rCntS K) ta (tCons tb tNil)) σ H (.int (ys.count x : Nat)) := fun S1 H1 n Q q =>
  ha S1 H1 n _ fun v H2 s2 hv => by
    obtain ⟨a, xs, rfl, l, hs⟩ := Ds.l hv
    rw [hs.strs] at l
    refine ⟨.inl ⟨rfl, _, l.sq⟩, hb S1 H2 (n.then s2) _ fun w H3 s3 hw => ⟨a, ys, x, rfl, by rw [hw.s], .inl (.inl (s3 _ _ l.2)), q _ _ (s2.trans s3) (.int _)⟩⟩
/-- cut -/
def cutD {α : Type} (xs : List α) (lo hi : Option Int) : List α := (xs.drop (HT.sIx xs.length 0 lo)).take (HT.sIx xs.length xs.length hi - HT.sIx xs.length 0 lo)
theorem DsAll.cut {xs : List V} (h : DsAll K S H xs ds) (lo hi : Option Int) : DsAll K S H (cutV xs lo hi) (cutD ds lo hi) := by
  unfold cutV cutD
  rw [h.length]
  exact (h.drop _).take _
theorem cutD_to {α : Type} (xs : List α) (n : Nat) : cutD xs none (some (n : Int)) = xs.take n := by
  unfold cutD
  rw [HT.sIx_none, HT.sIx_nat, Nat.sub_zero, List.drop_zero]
  rcases Nat.le_total n xs.length with h | h
  · rw [Nat.min_eq_left h]
  · rw [Nat.min_eq_right h, List.take_of_length_le (Nat.le_refl _), List.take_of_length_le h]
theorem cutD_from {α : Type} (xs : List α) (n : Nat) : cutD xs (some (n : Int)) none = xs.drop n := by
  unfold cutD
  rw [HT.sIx_none, HT.sIx_nat]
  rcases Nat.le_total n xs.length with h | h
  · rw [Nat.min_eq_left h, List.take_of_length_le (by rw [List.length_drop]; exact Nat.le_refl _)]
  · rw [Nat.min_eq_right h, List.drop_of_length_le (Nat.le_refl _), List.drop_of_length_le h]
    simp
theorem cutD_len {α : Type} (xs : List α) (lo hi : Option Int) : (cutD xs lo hi).length ≤ xs.length := by
  unfold cutD
  rw [List.length_take, List.length_drop]
  omega
def SP (K : PySem.W.Frag) (S : Sh) (tl : TO) (σ : L2.St) (H : Hp) (o : Option Int) : Prop := ∀ S' H', Now S H S' H' → ∀ Q : Option Int → Hp → Prop, (∀ H2, Same H' H2 → Q o H2) → tl σ H' Q
theorem sp_no : SP K S tNoPart σ H none := fun _ _ _ _ q => q _ (Same.refl _)
theorem sp_some {i : Int} (h : SV K S te σ H (.int i)) : SP K S (tPart te) σ H (some i) := fun S1 H1 n Q q => h S1 H1 n _ fun v H2 s2 hv => ⟨i, hv.i, q _ s2⟩
theorem sv_slL {tl th : TO} {lo hi : Option Int} (h : SV K S te σ H (.list ds)) (hl : SP K S tl σ H lo) (hh : SP K S th σ H hi) : SV K S (tSl (rSlL K) te tl th) σ H (.list (cutD ds lo hi)) := fun S1 H1 n Q q =>
  h S1 H1 n _ fun v H2 s2 hv => hl S1 H2 (n.then s2) _ fun H3 s3 => hh S1 H3 ((n.then s2).then s3) _ fun H4 s4 => by
    obtain ⟨a, xs, rfl, l, hs⟩ := Ds.l (hv.same (s3.trans s4))
    refine ⟨a, xs, rfl, l.sq, fun p np => q _ _ (((s2.trans s3).trans s4).trans (same_upd np)) (new_lst (n.live.same ((s2.trans s3).trans s4)) np (hs.cut lo hi))⟩
/-- list(x), tuple(x) -/
theorem sv_list (h : SV K S ta σ H (seqD k ds)) : SV K S (tCB (fun xs H Q => ∃ p ys, xs = [.ref p] ∧ (SqL K H p ys ∨ SqT K H p ys) ∧ ∀ l, H l = none → Q (.ref l) (upd H l (.lst ys))) (tCons ta tNil)) σ H (.list ds) := sv_cb (sa_cons h sa_nil) fun S1 H1 vs Q l hs q => by
  obtain ⟨v, rfl, hv⟩ := hs.one
  obtain ⟨a, xs, rfl, hq, hx⟩ := hv.sq
  exact ⟨a, xs, rfl, hq, fun p np => q _ _ (same_upd np) (new_lst l np hx)⟩
def rListOf (K : PySem.W.Frag) : List V → Hp → VK → Prop := fun xs H Q => ∃ p ys, xs = [.ref p] ∧ (SqL K H p ys ∨ SqT K H p ys) ∧ ∀ l, H l = none → Q (.ref l) (upd H l (.lst ys))
theorem call_listK {X : Cx} : CallR X (.type "list") (rListOf X.K) := call_list_of
def rTupOf (K : PySem.W.Frag) : List V → Hp → VK → Prop := fun xs H Q => ∃ p ys, xs = [.ref p] ∧ ((SqL K H p ys ∧ ∀ l, H l = none → Q (.ref l) (upd H l (.tup ys))) ∨ (SqT K H p ys ∧ Q (.ref p) H))
theorem call_tupleK {X : Cx} : CallR X (.type "tuple") (rTupOf X.K) := call_tuple_of
theorem sv_listK (h : SV K S ta σ H (seqD k ds)) : SV K S (tCB (rListOf K) (tCons ta tNil)) σ H (.list ds) := sv_list h
theorem sv_tuple (h : SV K S ta σ H (seqD k ds)) : SV K S (tCB (rTupOf K) (tCons ta tNil)) σ H (.tuple ds) := sv_cb (sa_cons h sa_nil) fun S1 H1 vs Q l hs q => by
  obtain ⟨v, rfl, hv⟩ := hs.one
  cases k with
  | true =>
    obtain ⟨a, xs, rfl, hq, hx⟩ := Ds.l hv
    exact ⟨a, xs, rfl, .inl ⟨hq.sq, fun p np => q _ _ (same_upd np) (new_tup l np hx)⟩⟩
  | false =>
    obtain ⟨a, xs, rfl, hq, hx⟩ := Ds.t hv
    exact ⟨a, xs, rfl, .inr ⟨hq.sq, q _ _ (Same.refl _) hv⟩⟩
/-! ### isinstance -/
theorem sv_spD {f : PyData → Bool} {E : XK} (h : SV K S ta σ H d) (hf : fine d = true) : SV K S (tCall (spD K f) [] E (tCons ta tNil)) σ H (.bool (f d)) := fun S1 H1 n Q q =>
  h S1 H1 n _ fun v H2 s2 hv => ⟨v, d, rfl, Ds.dp _ _ hv, hf, fun H3 s3 => q _ _ (s2.trans s3) (.bl _)⟩
def isNonD : PyData → Bool
  | .none => true
  | _ => false
theorem Ds.non_is (h : Ds K S H v d) : decide (v = .non) = isNonD d := by cases h <;> rfl
theorem sv_notN (h : SV K S ta σ H d) : SV K S (tOp (fun x y H Q => y = .non ∧ Q (.bl (!decide (x = .non))) H) ta (tC .non)) σ H (.bool (!isNonD d)) := fun S1 H1 n Q q => h S1 H1 n _ fun v H2 s2 hv => ⟨rfl, q _ _ s2 (by rw [hv.non_is]; exact .bl _)⟩
theorem dec_vs {x y : Str} : decide (V.str x = V.str y) = decide (x = y) := by
  rw [Bool.eq_iff_iff, decide_eq_true_iff, decide_eq_true_iff]
  exact ⟨V.str.inj, fun e => by rw [e]⟩
theorem dec_vi {x y : Int} : decide (V.int x = V.int y) = decide (x = y) := by
  rw [Bool.eq_iff_iff, decide_eq_true_iff, decide_eq_true_iff]
  exact ⟨V.int.inj, fun e => by rw [e]⟩
theorem sv_eqS {x y : Str} (ha : SV K S ta σ H (.str x)) (hb : SV K S tb σ H (.str y)) : SV K S (tOp rEq ta tb) σ H (.bool (decide (x = y))) := sv_op ha hb fun S1 H1 u w Q l hx hy q => by
  rw [hx.s, hy.s]
  exact ⟨rfl, by rw [dec_vs]; exact q _ _ (Same.refl _) (.bl _)⟩
theorem sv_neS {x y : Str} (ha : SV K S ta σ H (.str x)) (hb : SV K S tb σ H (.str y)) : SV K S (tOp rNe ta tb) σ H (.bool (!decide (x = y))) := sv_op ha hb fun S1 H1 u w Q l hx hy q => by
  rw [hx.s, hy.s]
  exact ⟨rfl, by rw [dec_vs]; exact q _ _ (Same.refl _) (.bl _)⟩
theorem sv_eqI {x y : Int} (ha : SV K S ta σ H (.int x)) (hb : SV K S tb σ H (.int y)) : SV K S (tOp rEq ta tb) σ H (.bool (decide (x = y))) := sv_op ha hb fun S1 H1 u w Q l hx hy q => by
  rw [hx.i, hy.i]
  exact ⟨rfl, by rw [dec_vi]; exact q _ _ (Same.refl _) (.bl _)⟩
theorem sv_gt {i j : Int} (ha : SV K S ta σ H (.int i)) (hb : SV K S tb σ H (.int j)) : SV K S (tOp (rI0 fun i j => .bl (decide (j < i))) ta tb) σ H (.bool (decide (j < i))) := sv_I0 ha hb fun _ _ => .bl _
/-! ### texts -/
/-- *e in a display -/
theorem sa_star (h : SV K S te σ H (seqD k ds)) (hr : SA K S tr σ H es) : SA K S (StX.tStar K te tr) σ H (ds ++ es) := fun S1 H1 n Q q =>
  h S1 H1 n _ fun v H2 s2 hv => by
    obtain ⟨a, xs, rfl, hq, hx⟩ := hv.sq
    exact ⟨a, xs, rfl, hq.symm, hr S1 H2 (n.then s2) _ fun ys H3 s3 hy => q _ _ (s2.trans s3) ((hx.same s3).app hy)⟩
/-- e.f of an instance -/
theorem sv_fld {a C dx : Addr} {fs : List (Str × V)} {f : Str} {i : Nat} (hi : σ[i]? = some (some (.ref a))) (ha : H a = some (.ins C dx fs)) (cl : Cls K C) (na : NoAttr K C f) (hf : fs.lookup f = some v) (hv : Ds K S H v d) : SV K S (tFld K (tVar i) f) σ H d := fun S1 H1 n Q q =>
  ⟨_, hi, a, C, dx, fs, v, rfl, n.same _ _ ha, cl, na, hf, q _ _ (Same.refl _) (hv.now n)⟩
theorem sv_cval {C : Addr} {f : Str} {mc u : Value} (r : ClX.CRead K C mc) (c : ClX.CVal K C mc f v u) (hd : ∀ S' H', Ds K S' H' v d) : SV K S (ClX.tCVal K (tC (.ref C)) f) σ H d := fun S1 H1 n Q q => ⟨C, mc, v, u, rfl, r, c, q _ _ (Same.refl _) (hd _ _)⟩
end
end My
set_option Elab.async false
set_option linter.all false
set_option maxRecDepth 100000
/-! sorted(xs) of data that are alike: the worth is the data merge-sorted. -/
namespace My
open PySem PySem.Spec PyProof.Rows L2
end My
set_option Elab.async false
set_option linter.all false
set_option maxRecDepth 100000
/-! dict(zip(xs, ys)), xs a list and ys a tuple: the zip is made, and drawn while its last pair is still held. -/
namespace My
open PySem PySem.Spec PyProof.Rows L2
/-! ### the zip of a list and a tuple is made -/
/-! ### as a worth -/
end My
set_option Elab.async false
set_option linter.all false
set_option maxRecDepth 100000
/-! A comprehension of two clauses. -/
namespace My
open PySem PySem.Spec PyProof.Rows L2
section
variable {K : PySem.W.Frag} {S : Sh} {σ : L2.St} {H : Hp} {wi wi1 : TI} {g g1 : TG} {tt1 : TT} {te : TE} {ds : List PyData}
theorem len_flat {α β : Type} (f : α → List β) : ∀ (l : List α) (i : Nat), ((l.take i).flatMap f).length ≤ (l.map fun a => (f a).length).sum
  | [], i => by simp
  | a :: l, 0 => by simp
  | a :: l, i + 1 => by
    have := len_flat f l i
    rw [List.take_succ_cons, List.flatMap_cons, List.length_append, List.map_cons, List.sum_cons]
    omega
theorem sv_lc2D {vs vs1 : List Nat} (h : SI K S wi σ H ds) (inn : PyData → List PyData) (hl : (ds.map fun d => (inn d).length).sum ≤ 5000) (t : PyData → PyData → Bool) (f : PyData → PyData → PyData)
    (hs : ∀ d S' H' v (Q : L2.St → Hp → Prop), d ∈ ds → Now S H S' H' → Ds K S' H' v d → (∀ σ2, wipe σ2 vs = wipe σ vs → SI K S' wi1 σ2 H' (inn d) →
      (∀ e S2 H2 v (Q2 : L2.St → Hp → Prop), e ∈ inn d → Now S H S2 H2 → Step S' H' S2 H2 → Ds K S2 H2 v e → (∀ σ3, wipe σ3 vs1 = wipe σ2 vs1 → SB S2 tt1 σ3 H2 (t d e) → (t d e = true → SV K S2 te σ3 H2 (f d e)) → Q2 σ3 H2) → g1 v (wipe σ2 vs1) H2 Q2) → Q σ2 H') → g v (wipe σ vs) H' Q) :
    SV K S (tLc2 wi g tYes wi1 g1 tt1 te vs vs1) σ H (.list (ds.flatMap fun d => ((inn d).filter (t d)).map (f d))) := fun S1 H1 n Q q =>
  h S1 H1 n _ fun J H2 s2 w D nD => by
    have l2 : Live S1 H2 := n.live.same s2
    let out : PyData → List PyData := fun d => ((inn d).filter (t d)).map (f d)
    have hout : ∀ d, (out d).length ≤ (inn d).length := fun d => by
      show (((inn d).filter (t d)).map (f d)).length ≤ _
      rw [List.length_map]
      exact List.length_filter_le _ _
    have hpart : ∀ i, ((ds.take i).flatMap out).length ≤ 5000 := fun i => by
      refine Nat.le_trans (len_flat out ds i) (Nat.le_trans ?_ hl)
      clear hl
      generalize ds = l
      induction l with
      | nil => exact Nat.le_refl _
      | cons a l ih => rw [List.map_cons, List.map_cons, List.sum_cons, List.sum_cons]; have := hout a; omega
    refine ⟨fun i m H3 => m = ds.length - i ∧ i ≤ ds.length ∧ ∃ vs, H3 D = some (.lst vs) ∧ Now S1 H2 (fun a => S1 a ∨ a = D) H3 ∧ DsAll K (fun a => S1 a ∨ a = D) H3 vs ((ds.take i).flatMap out),
      ⟨ds.length, by simp, Nat.zero_le _, [], upd_same, Now.add l2 nD, .nil⟩, ?_⟩
    rintro i m H3 ⟨rfl, hi, vs3, e3, n3, d3⟩
    by_cases hlt : i < ds.length
    · refine .inr ⟨w.goes i H3 hlt ⟨_, n3.step⟩, fun H4 => i + 1 ≤ ds.length ∧ ∃ vs, H4 D = some (.lst vs) ∧ Now S1 H2 (fun a => S1 a ∨ a = D) H4 ∧ DsAll K (fun a => S1 a ∨ a = D) H4 vs ((ds.take (i + 1)).flatMap out), fun H4 ⟨a, b⟩ => ⟨ds.length - (i + 1), by omega, rfl, a, b⟩, fun x H4 y => ?_⟩
      obtain ⟨s4, d, ed, hd⟩ := w.yields i H3 x H4 hlt ⟨_, n3.step⟩ y
      have n4 : Now S1 H2 (fun a => S1 a ∨ a = D) H4 := n3.then s4
      have epart : (ds.take (i + 1)).flatMap out = (ds.take i).flatMap out ++ out d := by
        rw [List.take_add_one, ed, List.flatMap_append]
        simp
      have hlen := hpart (i + 1)
      rw [epart, List.length_append] at hlen
      refine hs d _ H4 x _ (List.mem_of_getElem? ed) ((n.then s2).trans n4) (hd _ n3.step) fun σ2 ew hi1 hs1 => ⟨ew, ?_⟩
      dsimp only [tYes]
      rw [if_pos rfl]
      refine hi1 _ H4 (Now.refl n4.live) _ fun J1 H5 s5 w1 => ?_
      have n5 := n4.then s5
      refine ⟨fun j k H6 => k = (inn d).length - j ∧ j ≤ (inn d).length ∧ ∃ vs, H6 D = some (.lst vs) ∧ Now S1 H2 (fun a => S1 a ∨ a = D) H6 ∧ Step (fun a => S1 a ∨ a = D) H5 (fun a => S1 a ∨ a = D) H6 ∧ DsAll K (fun a => S1 a ∨ a = D) H6 vs ((ds.take i).flatMap out ++ (((inn d).take j).filter (t d)).map (f d)),
        ⟨(inn d).length, by simp, Nat.zero_le _, vs3, s5 _ _ (s4 _ _ e3), n5, Step.refl n5.live, by simpa using (d3.same s4).same s5⟩, ?_⟩
      rintro j k H6 ⟨rfl, hj, vs6, e6, n6, t6, d6⟩
      by_cases hjl : j < (inn d).length
      · refine .inr ⟨w1.goes j H6 hjl ⟨_, t6⟩, fun H7 => j + 1 ≤ (inn d).length ∧ ∃ vs, H7 D = some (.lst vs) ∧ Now S1 H2 (fun a => S1 a ∨ a = D) H7 ∧ Step (fun a => S1 a ∨ a = D) H5 (fun a => S1 a ∨ a = D) H7 ∧ DsAll K (fun a => S1 a ∨ a = D) H7 vs ((ds.take i).flatMap out ++ (((inn d).take (j + 1)).filter (t d)).map (f d)), fun H7 ⟨a, b⟩ => ⟨(inn d).length - (j + 1), by omega, rfl, a, b⟩, fun x1 H7 y1 => ?_⟩
        obtain ⟨s7, e, ee, he⟩ := w1.yields j H6 x1 H7 hjl ⟨_, t6⟩ y1
        have n7 := n6.then s7
        refine hs1 e _ H7 x1 _ (List.mem_of_getElem? ee) ((n.then s2).trans n7) ((Step.trans n4.live (Now.of n4.live s5).step t6).then s7) (he _ t6) fun σ3 ew1 hb hv => ⟨ew1, ?_⟩
        refine hb.run n7.live fun H8 s8 => ?_
        have n8 := n7.then s8
        have t8 := (t6.then s7).then s8
        cases et : t d e with
        | true =>
          refine iteT ((hv et).now (Now.of n7.live s8) |>.run n8.live fun y H9 s9 hy => ⟨vs6, s9 _ _ (s8 _ _ (s7 _ _ e6)), ?_, hjl, vs6 ++ [y], upd_same, (n8.then s9).put (.inr rfl) (l2.ne nD), (t8.then s9).put (.inr rfl), ?_⟩)
          · have h1 := d6.length
            have h2 : ((((inn d).take j).filter (t d)).map (f d)).length ≤ (out d).length := by
              show _ ≤ (((inn d).filter (t d)).map (f d)).length
              rw [List.length_map, List.length_map]
              exact List.Sublist.length_le ((List.take_sublist j (inn d)).filter (t d))
            rw [List.length_append] at h1
            exact szl (by omega)
          · have e1 : (((inn d).take (j + 1)).filter (t d)).map (f d) = (((inn d).take j).filter (t d)).map (f d) ++ [f d e] := by
              rw [List.take_add_one, ee]
              simp [et]
            rw [e1, ← List.append_assoc]
            exact (((d6.same s7).same s8).same s9 |>.app (.cons hy .nil)).byX (XS.upd (.inr rfl))
        | false =>
          refine iteF ⟨hjl, vs6, s8 _ _ (s7 _ _ e6), n8, t8, ?_⟩
          have e1 : (((inn d).take (j + 1)).filter (t d)).map (f d) = (((inn d).take j).filter (t d)).map (f d) := by
            rw [List.take_add_one, ee]
            simp [et]
          rw [e1]
          exact (d6.same s7).same s8
      · have ej : j = (inn d).length := by omega
        subst ej
        refine .inl ⟨w1.stops H6 ⟨_, t6⟩, hlt, vs6, e6, n6, ?_⟩
        rw [List.take_of_length_le (Nat.le_refl _)] at d6
        rw [epart]
        exact d6
    · have ei : i = ds.length := by omega
      subst ei
      rw [List.take_of_length_le (Nat.le_refl _)] at d3
      exact .inl ⟨w.stops H3 ⟨_, n3.step⟩, q _ _ (s2.trans n3.same) (.lst ⟨l2.ne nD, e3⟩ (d3.less fun _ => .inl))⟩
theorem sv_lc2 {vs vs1 : List Nat} (h : SI K S wi σ H ds) (inn : PyData → List PyData) (hl : (ds.map fun d => (inn d).length).sum ≤ 5000) (t : PyData → Bool) (f : PyData → PyData)
    (hs : ∀ d S' H' v (Q : L2.St → Hp → Prop), d ∈ ds → Now S H S' H' → Ds K S' H' v d → (∀ σ2, wipe σ2 vs = wipe σ vs → SI K S' wi1 σ2 H' (inn d) →
      (∀ e S2 H2 v (Q2 : L2.St → Hp → Prop), e ∈ inn d → Now S H S2 H2 → Step S' H' S2 H2 → Ds K S2 H2 v e → (∀ σ3, wipe σ3 vs1 = wipe σ2 vs1 → SB S2 tt1 σ3 H2 (t e) → (t e = true → SV K S2 te σ3 H2 (f e)) → Q2 σ3 H2) → g1 v (wipe σ2 vs1) H2 Q2) → Q σ2 H') → g v (wipe σ vs) H' Q) :
    SV K S (tLc2 wi g tYes wi1 g1 tt1 te vs vs1) σ H (.list (ds.flatMap fun d => ((inn d).filter t).map f)) := sv_lc2D h inn hl (fun _ => t) (fun _ => f) hs
end
end My
namespace My
open PySem PySem.Spec PyProof.Rows L2
section
variable {K : PySem.W.Frag} {S : Sh} {σ : L2.St} {H : Hp} {wi : TI} {g : TG} {tt : TT} {te : TE} {ds : List PyData} {D : Ends} {tz ty tr tb : TS} {b : Bool} {d : PyData}
theorem seq_if (l : Live S H) (h : SB S tt σ H b) (k1 : b = true → ∀ H', Same H H' → Live S H' → tz { D with nx := tr D } σ H') (k2 : b = false → ∀ H', Same H H' → Live S H' → ty { D with nx := tr D } σ H') : tSeq (tIfS tt tz ty) tr D σ H := if_sb (D := { D with nx := tr D }) l h k1 k2
theorem seq_for (l : Live S H) (h : SI K S wi σ H ds)
    (k : ∀ H2, Same H H2 → Live S H2 → ∃ Pv : Nat → L2.St → Hp → Prop, Pv 0 σ H2 ∧ (∀ i σ H3, i ≤ ds.length → Pv i σ H3 → ∃ S2, Step S H2 S2 H3) ∧
      (∀ i d v σ H3 H4, ds[i]? = some d → Pv i σ H3 → Same H3 H4 → (∀ S2, Step S H2 S2 H3 → Ds K S2 H4 v d) → g v σ H4 fun σ2 H5 => tb { D with nx := Pv (i + 1), ct := Pv (i + 1), bk := tr D } σ2 H5) ∧ ∀ σ H3, Pv ds.length σ H3 → tr D σ H3) : tSeq (tFor wi g tb) tr D σ H :=
  for_si (D := { D with nx := tr D }) l h k
theorem set_sn {i : Nat} (l : Live S H) (h : SN K S te σ H ds) (k : ∀ a xs H1, Same H H1 → H a = none → H1 a = some (.lst xs) → DsAll K S H1 xs ds → tr D (σ.set i (some (.ref a))) H1) : tSeq (tAsg te (gName i)) tr D σ H := h S H (Now.refl l) _ k
theorem fld_sv {ta : TE} {f : Str} (l : Live S H) (h : SV K S te σ H d) (k : ∀ v H', Same H H' → Live S H' → Ds K S H' v d → ta σ H' fun x H2 => ∃ a C dx fs, x = .ref a ∧ H2 a = some (.ins C dx fs) ∧ Cls K C ∧ NoAttr K C f ∧ fs.length < 1000 ∧ tr D σ (upd H2 a (.ins C dx (putF f v fs)))) : tSeq (sFld K ta te f) tr D σ H := h.run l fun v H' s hv => k v H' s (l.same s) hv
theorem asg_sv (l : Live S H) (h : SV K S te σ H d) (k : ∀ v H', Same H H' → Live S H' → Ds K S H' v d → g v σ H' (tr D)) : tSeq (tAsg te g) tr D σ H := h.run l fun v H' s hv => k v H' s (l.same s) hv
end
end My
set_option Elab.async false
set_option linter.all false
set_option maxRecDepth 100000
/-! list(text) -/
namespace MyStr
open PySem PySem.Spec PyProof.Rows
section
variable {prog : Program} {w : World} {A : Around} {E : Value → Shared → Prop} {s : Shared}
/-- what a text says of its length ahead of being walked: that nothing must be made room for -/
theorem room_str {x : Str} {t : Tok} {Q : Bool → Shared → Prop} (q : Q false s) : wpAny (model prog w) A (Builtin.List.listLengthHint (.str x t)) Q E s := by
  have ty : s.TypeIs (.str x t) "str" := typeIs_str s x t
  unfold Builtin.List.listLengthHint
  refine wpAny_bind (wpAny_specialOf ty PySem.F.slot_str_len.lookup ?_)
  generalize hn : ("str.__len__" : String) = nm
  wp_delta
  rw [show splitId nm = some ("str", "__len__") from by subst hn; decide +kernel]
  subst hn
  refine wpAny_bind (wpAny_isInstance (T := "str") (b := true) ty (by rw [isSubtype_type]; kernel_rfl) ?_)
  refine wpAny_ite_split (fun z => absurd z (by decide)) (fun _ => ?_)
  refine wpAny_ite_split (fun _ => ?_) (fun z => absurd (by decide +kernel) z)
  exact wpAny_bind (wpAny_typeOf ty (wpAny_pure q))
/-- the new list at D is filled with the signs -/
theorem fill_str (hh : A.handled = none) (x : Str) (t : Tok) (D : Addr) {R : Result → Shared → Prop} (hD : s.heap.get? D = some { cls := .type "list", data := .seq #[] }) (hx : x.cps.size ≤ sizeLine)
    (k : ∀ h' tk acc c', s.toks ≤ tk → (∀ b o, b ≠ D → s.heap.get? b = some o → h'.get? b = some o) → h'.get? D = some { cls := .type "list", dict := none, data := .seq acc c', slots := #[] } → ItemsOf (SignAt x) acc x.cps.size → R (.ok (.ret .none)) { s with heap := h', toks := tk }) :
    wpAny (model prog w) A.in1 (Builtin.«list.__init__» ⟨[.ref D, .str x t], []⟩)
      (fun fin s' => match fin with | .done f => R (.ok f) s' | .again c' => c'.quiet = true ∧ codeAny (model prog w) A c' R s') (fun e s' => R (.error e) s') s := by
  show wpAny _ _ (do let old ← Builtin.List.listItems (.ref D); Builtin.List.listUpdate (.ref D) (fun _ => #[]); letGo old.toList.reverse; Builtin.List.listExtendWith (.ref D) (.str x t) .none) _ _ s
  refine wpAny_bind ?_
  unfold Builtin.List.listItems
  refine wpAny_bind (wpAny_seqItems hD rfl (wpAny_pure ?_))
  show wpAny _ _ (updateSeq D (fun _ => #[]) >>= fun _ => letGo (#[] : Array Value).toList.reverse >>= fun _ => Builtin.List.listExtendWith (.ref D) (.str x t) .none) _ _ s
  refine wpAny_bind (wpAny_updateSeq hD rfl ?_)
  have hD2 := Heap.get?_update_self (Obj.mapSeq (fun _ => (#[] : Array Value))) hD rfl
  have hoth : ∀ b o, b ≠ D → s.heap.get? b = some o → (s.heap.update D (Obj.mapSeq (fun _ => (#[] : Array Value)))).get? b = some o := fun b o n e => (Heap.get?_update_other _ _ (Ne.symm n)).trans e
  refine wpAny_bind (wpAny_letGo ?_)
  revert hD2 hoth
  generalize s.heap.update D (Obj.mapSeq (fun _ => (#[] : Array Value))) = g
  intro hD2 hoth
  unfold Builtin.List.listExtendWith
  refine wpAny_bind (wpAny_typeOf (typeIs_str _ x t) ?_)
  rw [if_neg (by simp [Builtin.List.listSameRef])]
  refine wpAny_bind (wpAny_pyIter_str fun o St W st => ?_)
  refine wpAny_bind (wpAny_holding (room_str ?_))
  rw [if_neg (by first | decide | decide +kernel)]
  have hne : D ≠ g.objs.size := Nat.ne_of_lt (Heap.lt_size hD2)
  refine wpAny_pure ⟨plainId_quiet PySem.F.plain_extend_loop _, codeAny_extend_loopS (W A.in1 hh).toS hx _ (fun m => hne (List.mem_singleton.mp m)) _ x.cps.size 0 _ _ _ rfl (Nat.zero_le _) st (Heap.get?_push_of_some _ hD2) (ItemsOf.nil _) fun s' acc c' hm hS hacc => ?_⟩
  rw [Moved.eq_with hm]
  refine k s'.heap s'.toks acc c' hm.toks (fun b ob hb e => hm.heap b ob (fun m => ?_) (Heap.get?_push_of_some _ (hoth b ob hb e))) hS hacc
  rcases List.mem_cons.mp m with e' | m
  · exact hb e'
  · exact absurd (Heap.lt_size (hoth b ob hb e)) (by rw [List.mem_singleton.mp m]; exact Nat.lt_irrefl _)
end
end MyStr
namespace My
open PySem PySem.Spec PyProof.Rows L2
def signsV (x : Str) : List V := x.cps.toList.map fun c => .str ⟨#[c]⟩
theorem call_listT {X : Cx} (hc : X.calm = true) : CallR X (.type "list") (fun xs H Q => ∃ x : Str, xs = [.str x] ∧ x.cps.size ≤ 1000 ∧ ∀ l, H l = none → Q (.ref l) (upd H l (.lst (signsV x)))) := by
  intro pins s σ H xs us Q I r h
  obtain ⟨x, rfl, hx, q⟩ := h
  obtain ⟨u, rfl, t, rfl⟩ := vals1 r
  refine callType_codes (Q₁ := fun obj s₁ => obj = .ref s.heap.objs.size ∧ s₁ = { s with heap := s.heap.push { cls := .type "list", data := .seq #[] } }) PySem.F.called_list (PySem.F.typeCall_list_1 _) PySem.F.entry_list_init
    (code_list_new _ ⟨rfl, rfl⟩) fun obj s₁ h₁ => ?_
  obtain ⟨rfl, rfl⟩ := h₁
  have hD : (s.heap.push { cls := .type "list", data := .seq #[] }).get? s.heap.objs.size = some { cls := .type "list", data := .seq #[] } := Heap.get?_push_size _ rfl
  refine ⟨⟨_, hD, rfl⟩, PySem.F.args_list_init_2 _ _, MyStr.fill_str (A := X.A.in1) (I.ok.hd hc) x t _ hD (Nat.le_trans hx (by decide)) fun h' tk acc c' htk kp e hacc => ?_⟩
  refine ⟨rfl, .ref s.heap.objs.size, _, I.laid (t' := tk) (fun b o e => kp b o (Nat.ne_of_lt (Heap.lt_size e)) (Heap.get?_push_of_some _ e)) ?_ (show ObjOk X.prog X.w _ h' _ (.lst (signsV x)) from ⟨?_, acc.toList, c', ?_, by simpa using e⟩), rfl, q _ (I.hok.fresh (Nat.le_refl _))⟩
  · exact Nat.le_refl _
  · show (signsV x).length ≤ sizeLine
    unfold signsV
    rw [List.length_map, Array.length_toList]
    exact Nat.le_trans hx (by decide)
  · refine vals_of_idx _ _ (by unfold signsV; rw [List.length_map, Array.length_toList, Array.length_toList]; exact hacc.1) fun j u e' => ?_
    obtain ⟨c, tk', hc', rfl⟩ := hacc.2 j u (by simpa using e')
    refine ⟨.str ⟨#[c]⟩, ?_, tk', rfl⟩
    unfold signsV
    rw [List.getElem?_map, Array.getElem?_toList, hc']
    rfl
end My
set_option Elab.async false
set_option linter.all false
set_option maxRecDepth 100000
/-! Worths: all(..), min, max, sum; a walk over the zip of two tuples; sorted; tuples end to end; dicts of texts. -/
namespace My
open PySem PySem.Spec PyProof.Rows L2
abbrev rLenK (K : PySem.W.Frag) : List V → Hp → VK → Prop := fun xs H Q => ∃ x n, xs = [x] ∧ LenV K x H n ∧ Q (.int (n : Nat)) H
theorem call_lenK {X : Cx} : CallR X (.builtin "len") (rLenK X.K) := call_len
end My
set_option Elab.async false
set_option linter.all false
set_option maxRecDepth 100000
/-! Dicts of texts with data: dict(zip(..)), a dict comprehension, d[k]. -/
namespace My
open PySem PySem.Spec PyProof.Rows L2
/-- at a stands a dict of the texts and data es, in their order -/
def DK (K : PySem.W.Frag) (S : Sh) (H : Hp) (a : Addr) (es : List (Str × PyData)) : Prop := ¬ S a ∧ ∃ kvs : List (Key × V), H a = some (.dK kvs) ∧ DsAll K S H (kvs.map (·.2)) (es.map (·.2)) ∧ kvs.map (·.1) = es.map fun p => (Sum.inr p.1 : Key)
section
variable {K : PySem.W.Frag} {S S' : Sh} {σ : L2.St} {H H' : Hp} {ta tb te tc td : TE} {tr tk : TA} {tt tu : TT} {d e : PyData} {ds : List PyData} {es : List (Str × PyData)} {v : V} {b c k : Bool} {a : Addr} {wi : TI} {g : TG}
theorem DK.step (s : Step S H S' H') (h : DK K S H a es) : DK K S' H' a es := by
  obtain ⟨n, kvs, h1, h2, h3⟩ := h
  exact ⟨(at_step s n h1).1, kvs, (at_step s n h1).2, h2.step s, h3⟩
theorem DK.now (s : Now S H S' H') (h : DK K S H a es) : DK K S' H' a es := h.step s.step
theorem DK.same (s : Same H H') (h : DK K S H a es) : DK K S H' a es := by
  obtain ⟨n, kvs, h1, h2, h3⟩ := h
  exact ⟨n, kvs, s _ _ h1, h2.same s, h3⟩
/-- te gives a dict -/
def SD (K : PySem.W.Frag) (S : Sh) (te : TE) (σ : L2.St) (H : Hp) (es : List (Str × PyData)) : Prop := ∀ S' H', Now S H S' H' → ∀ Q : VK, (∀ a H2, Same H' H2 → DK K S' H2 a es → Q (.ref a) H2) → te σ H' Q
theorem SD.run (h : SD K S te σ H es) (l : Live S H) {Q : VK} (k : ∀ a H2, Same H H2 → DK K S H2 a es → Q (.ref a) H2) : te σ H Q := h S H (Now.refl l) Q k
end
/-! ### y = {k: e for ..}: kept by its name before the comprehension's cells go -/
end My
set_option Elab.async false
set_option linter.all false
set_option maxRecDepth 100000
/-! Worths: sums and slices of tuples, tuples end to end, range, a list so many times over. -/
namespace My
open PySem PySem.Spec PyProof.Rows L2
def rSumT (K : PySem.W.Frag) : List V → Hp → VK → Prop := fun vs H Q => ∃ (a : Addr) (ns : List Int), vs = [V.ref a] ∧ SqT K H a (ns.map V.int) ∧ Q (.int ns.sum) H
theorem cr_sumT {X : Cx} (hc : X.calm = true) : CallR X (.builtin "sum") (rSumT X.K) := by
  intro pins s σ H vs us Q I r h
  obtain ⟨a, ns, rfl, hs, q⟩ := h
  obtain ⟨its, rv, hl, _⟩ := I.tuple hs
  rw [Vals.ref1 r]
  have hi := rv.ints
  have hl : s.heap.IsTuple a its.toArray := hl
  obtain ⟨xs, hx⟩ := hi.allInts.items
  have hn : numsOf its.toArray.toList = ns := by rw [show its.toArray.toList = its from rfl, hi.numsOf]
  rw [hx] at hl hn
  rw [nums_intItems] at hn
  refine PySem.W.ktm_sumG (I.ok.hd hc) hl fun h' tk t' hk => ⟨.int _, H, I.kept hk, ⟨_, rfl⟩, ?_⟩
  rw [preSum_eq, List.take_of_length_le (by simp), hn]
  exact q
section
variable {K : PySem.W.Frag} {S : Sh} {σ : L2.St} {H : Hp} {ta tb te : TE} {tr : TA} {ds es : List PyData} {d : PyData}
theorem sv_sumT {ns : List Int} (h : SV K S ta σ H (.tuple (ns.map PyData.int))) : SV K S (tCB (rSumT K) (tCons ta tNil)) σ H (.int ns.sum) := sv_cb (sa_cons h sa_nil) fun S1 H1 vs Q l hs q => by
  obtain ⟨v, rfl, hv⟩ := hs.one
  obtain ⟨a, xs, rfl, la, hx⟩ := Ds.t hv
  rw [hx.ints] at la
  exact ⟨a, ns, rfl, la.sq, q _ _ (Same.refl _) (.int _)⟩
/-- range(n) -/
def rngD (n : Nat) : List PyData := (List.range n).map fun i => .int (i : Nat)
theorem rngD_len (n : Nat) : (rngD n).length = n := by simp [rngD]
theorem si_rng {n : Nat} (h : SV K S ta σ H (.int (n : Nat))) (hn : n ≤ 100000) : SI K S (iRng1 (tCons ta tNil)) σ H (rngD n) := fun S1 H1 m R q => h S1 H1 m _ fun v H2 s2 hv => by
  refine ⟨(n : Nat), by rw [hv.i], by omega, by omega, ?_⟩
  refine q _ H2 s2 ?_
  rw [rngD_len, Int.toNat_natCast]
  refine (walk_range (lo := 0) (n := n)).mono (fun _ _ => trivial) fun i H3 v H4 hi _ y => ?_
  obtain ⟨rfl, rfl⟩ := y
  refine ⟨Same.refl _, .int (i : Nat), ?_, fun S2 _ => by show Ds K S2 H4 (V.int (0 + (i : Int))) _; rw [Int.zero_add]; exact .int _⟩
  unfold rngD
  rw [List.getElem?_map, List.getElem?_range hi]
  rfl
theorem sv_rep {k : Nat} (hb : SV K S tb σ H (.int (k : Nat))) (hk : k ≤ 100000) (hl : ds.length * k ≤ 5000) (hn : SN K S ta σ H ds) : SV K S (tOp rRep ta tb) σ H (.list (List.replicate k ds).flatten) := fun S1 H1 n Q q =>
  hn S1 H1 n _ fun a xs H2 s2 na ea hx => hb S1 H2 (n.then s2) _ fun y H3 s3 hy => by
    refine ⟨a, (k : Nat), xs, rfl, hy.i, s3 _ _ ea, by omega, by omega, sz (by rw [Int.toNat_natCast, hx.length]; omega), fun p np => q _ _ ((s2.trans s3).trans (same_upd np)) (new_lst ((n.live.same s2).same s3) np ?_)⟩
    have hx3 := hx.same s3
    rw [Int.toNat_natCast]
    have : ∀ k : Nat, DsAll K S1 H3 (List.replicate k xs).flatten (List.replicate k ds).flatten := fun k => by
      induction k with
      | zero => exact .nil
      | succ k ih =>
        rw [List.replicate_succ, List.replicate_succ, List.flatten_cons, List.flatten_cons]
        exact hx3.app ih
    exact this k
end
end My
set_option Elab.async false
set_option linter.all false
set_option maxRecDepth 100000
set_option maxHeartbeats 2000000
/-! Exceptions as values: an own class over any built-in one, with an own __init__: the call with keywords, and the stores. -/
namespace My
open PySem PySem.Spec
/-! ### the class called with keywords too -/
section
variable {B newId initId nm : String} {prog : Program} {w : World} {A : Around} {hp : Heap} {gs : Array GenState} {dr : Drawn} {tk : Nat} {o : OsState} {C N : Addr} {n1 n2 : Str} {l1 l2 l3 l5 : List Value} {l4 : List Str} {b1 b2 : Bool} {co : Option Bool} {da : Option Addr} {y0 y1 y2 y3 y5 : Option Value} {vs : List Value} {kw : List (Str × Value)}
/-- what stands at C; the built-in names of its chain -/
structure AtC (hp : Heap) (C : Addr) (newId : String) (l3 : List Value) (n1 n2 : Str) (N : Addr) (l1 l2 l5 : List Value) (l4 : List Str) (b1 b2 : Bool) (co : Option Bool) (da : Option Addr) (y0 y1 y2 y3 y5 : Option Value) : Prop where
  here : hp.get? C = some (excClassObj n1 n2 C N l1 l2 b1 l4 l5 b2 co da y0 y1 y2 y3 y5 newId)
  names : ∀ T : String, l2.contains (.type T) = l3.contains (.type T)
theorem AtC.isB (c : AtC hp C newId l3 n1 n2 N l1 l2 l5 l4 b1 b2 co da y0 y1 y2 y3 y5) (T : String) : (Value.ref C :: l2).contains (.type T) = l3.contains (.type T) := by
  rw [List.contains_cons, c.names]
  rfl
theorem AtC.born (c : AtC hp C newId l3 n1 n2 N l1 l2 l5 l4 b1 b2 co da y0 y1 y2 y3 y5) (F : ExcBaseFacts B newId initId l3) {M : Model} {Q : Unit → Shared → Prop} {E : Value → Shared → Prop} (q : Q () ⟨hp, gs, dr, tk, o⟩) :
    wpAny M A (checkBuiltinCall newId ⟨.ref C :: vs, kw⟩) Q E ⟨hp, gs, dr, tk, o⟩ := by
  have here := c.here
  have star := F.noStar
  simp only [checkBuiltinCall, F.newKind, F.newRow, F.newSplit]
  repeat (first
    | refine wpAny_isSubtype_exc here ?_; rw [c.isB, F.hasB]
    | refine wpAny_staticBase_exc here ?_
    | refine wpAny_madeBy_exc here ?_
    | refine wpAny_loadPart_at here ?_
    | simp only [bne_self_eq_false, Bool.false_eq_true, if_false]
    | wp_step)
  exact q
theorem AtC.newborn (c : AtC hp C newId l3 n1 n2 N l1 l2 l5 l4 b1 b2 co da y0 y1 y2 y3 y5) (F : ExcBaseFacts B newId initId l3) (z : vs.length ≤ sizeLine) {R : Result → Shared → Prop}
    (q : R (.ok (.ret (.ref (hp.objs.size + 1)))) ⟨(hp.push (W.kdv_tup vs)).push (HandSPX.excO C hp.objs.size), gs, dr, tk, o⟩) : codeAny (model prog w) A (.builtin newId ⟨.ref C :: vs, kw⟩) R ⟨hp, gs, dr, tk, o⟩ := by
  have here := c.here
  have ends := F.ends
  apply codeAny_builtinAt F.entry
  delta Builtin.«BaseException.__new__»
  apply wpAt_bind
  apply wpAt_bind
  refine wpAt_stack fun _ _ => ?_
  apply wpAt_of_wpAny
  wp_walk
  apply wpAt_of_wpAny
  rw [F.owner]
  repeat (first
    | with_reducible refine wpAny_isSubtype_exc here ?_; rw [c.isB]; first | rw [F.hasB] | rw [F.noAttr] | rw [F.noName]
    | with_reducible refine wpAny_madeHere_exc F.canon here ?_
    | with_reducible refine wpAny_loadPart_at here ?_
    | wp_step)
  show R (.ok (.ret (.ref (Heap.push _ _).objs.size))) _
  rw [Heap.size_push]
  exact q
theorem AtC.typed (c : AtC hp C newId l3 n1 n2 N l1 l2 l5 l4 b1 b2 co da y0 y1 y2 y3 y5) {M : Model} {Q : Unit → Shared → Prop} {E : Value → Shared → Prop} (q : Q () ⟨hp, gs, dr, tk, o⟩) :
    wpAny M A (checkBuiltinCall "type.__call__" ⟨.ref C :: vs, kw⟩) Q E ⟨hp, gs, dr, tk, o⟩ := by
  have here := c.here
  have sub := tc_sub
  have ty : Shared.TypeIs ⟨hp, gs, dr, tk, o⟩ (.ref C) "type" := ⟨_, c.here, rfl⟩
  simp only [checkBuiltinCall, tc_split, tc_kind]
  repeat (any_goals (first | with_reducible refine wpAny_map ?_ | with_reducible refine wpAny_onRaise ?_ | with_reducible refine wpAny_loadPart_at here ?_ | assumption | wp_step))
/-- what is wished of __init__'s end -/
abbrev InitEnds (e : Addr) (Q : Fin → Shared → Prop) (E : Value → Shared → Prop) : Result → Shared → Prop := fun r s' => match r with
  | .ok (.ret v) => v = .none ∧ Q (.done (.ret (.ref e))) s'
  | .ok _ => False
  | .error x => E x s'
theorem AtC.calls (c : AtC hp C newId l3 n1 n2 N l1 l2 l5 l4 b1 b2 co da y0 y1 y2 y3 y5) (F : ExcBaseFacts B newId initId l3) (z : vs.length ≤ sizeLine) {fI : Addr} {Q : Fin → Shared → Prop} {E : Value → Shared → Prop}
    (li : W.Looks (model prog w) hp (typeLookup (.ref C) "__init__") (some (.ref fI))) (lb : ∀ self, W.Looks (model prog w) hp (bindSpecial (.ref fI) self) (.ref fI, [self]))
    (q : codeAny (model prog w) A (.call (.ref fI) ⟨.ref (hp.objs.size + 1) :: vs, kw⟩) (InitEnds (hp.objs.size + 1) Q E) ⟨(hp.push (W.kdv_tup vs)).push (HandSPX.excO C hp.objs.size), gs, dr, tk, o⟩) :
    wpAny (model prog w) A (Builtin.«type.__call__» ⟨.ref C :: vs, kw⟩) Q E ⟨hp, gs, dr, tk, o⟩ := by
  have here := c.here
  repeat (first | with_reducible refine wpAny_madeBy_exc here ?_ | with_reducible refine wpAny_loadPart_at here ?_ | wp_step)
  apply codeAny_call_builtin_code (Code.quiet_builtin _ F.quiet)
  apply c.born F
  apply c.newborn F z
  show wpAny (model prog w) A _ Q E _
  have kept : ∀ b u, hp.get? b = some u → ((hp.push (W.kdv_tup vs)).push (HandSPX.excO C hp.objs.size)).get? b = some u := fun b u e => (Heap.get?_push_of_some _ ∘ Heap.get?_push_of_some _) e
  have c' : AtC ((hp.push (W.kdv_tup vs)).push (HandSPX.excO C hp.objs.size)) C newId l3 n1 n2 N l1 l2 l5 l4 b1 b2 co da y0 y1 y2 y3 y5 := ⟨kept _ _ c.here, c.names⟩
  have here' := c'.here
  have at_e : ((hp.push (W.kdv_tup vs)).push (HandSPX.excO C hp.objs.size)).get? (hp.objs.size + 1) = some (HandSPX.excO C hp.objs.size) := by heap_get
  have self : (Value.ref C :: l2).contains (.ref C) = true := by simp
  delta isInstance
  repeat (first | with_reducible refine wpAny_loadPart_at at_e ?_ | (with_reducible refine wpAny_isSubtype_exc here' ?_); rw [self] | wp_step)
  show wpAny (model prog w) A (typeLookup (.ref C) "__init__") _ E _
  apply (li.keeps kept).at
  apply wpAny_holding
  apply wpAny_bind
  apply ((lb (.ref (hp.objs.size + 1))).keeps kept).at
  apply wpAny_bind
  apply wpAny_call
  refine codeAny_mono q fun r s' h => ?_
  match r, h with
  | .ok (.ret _), ⟨rfl, h⟩ => first | exact wpAny_pure (wpAny_pure h) | (wp_walk; exact h)
  | .error _, h => exact h
theorem AtC.call (c : AtC hp C newId l3 n1 n2 N l1 l2 l5 l4 b1 b2 co da y0 y1 y2 y3 y5) (F : ExcBaseFacts B newId initId l3) (z : vs.length ≤ sizeLine) {fI : Addr} {R : Result → Shared → Prop}
    (li : W.Looks (model prog w) hp (typeLookup (.ref C) "__init__") (some (.ref fI))) (lb : ∀ self, W.Looks (model prog w) hp (bindSpecial (.ref fI) self) (.ref fI, [self]))
    (q : codeAny (model prog w) (A.under (.builtin "type.__call__" ⟨.ref C :: vs, kw⟩)) (.call (.ref fI) ⟨.ref (hp.objs.size + 1) :: vs, kw⟩) (W.InitBack (hp.objs.size + 1) R) ⟨(hp.push (W.kdv_tup vs)).push (HandSPX.excO C hp.objs.size), gs, dr, tk, o⟩) :
    codeAny (model prog w) A (.call (.ref C) ⟨vs, kw⟩) R ⟨hp, gs, dr, tk, o⟩ := by
  have here := c.here
  have look := tc_lookup
  have bnd := tc_bind (.ref C)
  have ty : Shared.TypeIs ⟨hp, gs, dr, tk, o⟩ (.ref C) "type" := ⟨_, c.here, rfl⟩
  apply codeAny_of_tree
  show wpAny (model prog w) _ (callAny (.ref C) ⟨vs, kw⟩) _ _ _
  repeat (any_goals (first | with_reducible refine wpAny_loadPart_at here ?_ | assumption | wp_step))
  refine ⟨rfl, codeAny_call_builtin_at (Code.quiet_builtin _ (by decide +kernel)) entry_typeCall (c.typed (c.calls F z li lb (codeAny_mono q fun r s' h => ?_)))⟩
  match r, h with
  | .ok (.ret _), h => exact h
  | .error _, h => exact h
end
end My
set_option Elab.async false
set_option linter.all false
set_option maxRecDepth 100000
set_option maxHeartbeats 2000000
/-! Exceptions as values: what an own class says (OxC), an error made (ErrAt), its fields stored and read, its kinds asked. -/
namespace L2
open PySem PySem.Spec PyProof.Rows My
/-- an own exception class with an own __init__, over any built-in one -/
structure OxC (K : PySem.W.Frag) (C : Addr) : Prop where
  base : ∃ (B newId initId : String) (l : List Value), ExcBaseFacts B newId initId l ∧ StoreFacts B l "object.__setattr__" "object" ∧ PySem.W.excInitIn K C l newId = true ∧ PySem.W.excOver K C l = true
  field : XfC K C
  kind : ExcC K C
  store : (PySem.W.findIn K (.ref C) "__setattr__") = some (some (.builtin "object.__setattr__"))
  keep : (PySem.W.keepIn K (.ref C)) = true
/-- no such name in the class -/
def noB (K : PySem.W.Frag) (C : Addr) (l : List Str) : Bool := l.all fun f => decide (PySem.W.findIn K (.ref C) f = some none)
theorem noB_at {K : PySem.W.Frag} {C : Addr} {l : List Str} (h : noB K C l = true) {f : Str} (m : f ∈ l) : PySem.W.findIn K (.ref C) f = some none := of_decide_eq_true (List.all_eq_true.mp h f m)
theorem noTaker {K : PySem.W.Frag} {C : Addr} {f : Str} (h : PySem.W.findIn K (.ref C) f = some none) : PySem.W.takerIn K C f = some none := by
  unfold PySem.W.takerIn
  rw [h]
  rfl
/-! ### stores -/
section
variable {X : Cx} {pins : List (Addr × Obj)} {σ : St} {H : Hp} {s : Shared} {e C d : Addr} {f : Str} {y : V} {u : Value} {l : List (Str × V)} {A : Around} {Q : Unit → Shared → Prop} {E : Value → Shared → Prop}
/-- the first field: the error gets its dict -/
theorem oxt_first (T : OxC X.K C) (I : Inv X pins σ H s) (he : H e = some (exo e C none)) (hno : PySem.W.findIn X.K (.ref C) f = some none) (ry : RelV y u)
    (k : ∀ d s', H d = none → d ≠ e → Inv X pins σ (upd (upd H e (exo e C (some d))) d (exd d [(f, y)])) s' → Q () s') : wpAny (model X.prog X.w) A (setAttr (.ref e) f u) Q E s := by
  obtain ⟨B, newId, initId, bl, _, SF, _, over⟩ := T.base
  obtain ⟨cd, hcd, hdict⟩ := PySem.W.any_some T.field.hdC
  obtain ⟨t1, ho⟩ := exo_at I.hok he
  obtain ⟨hp, gs, dr, tk, os⟩ := s
  have J : PySem.W.InstAt hp e _ C none := ⟨ho, rfl, rfl, trivial⟩
  refine PySem.W.set_plain I.kIn J T.store (PySem.W.osa_openX (r := none) SF I.kIn J over (noTaker hno) fun b => ?_)
  have look : PySem.W.Looks (model X.prog X.w) hp (classData C) cd := PySem.W.looks_clsIn I.kIn hcd
  have new : e ≠ hp.objs.size := Nat.ne_of_lt (Heap.lt_size ho)
  have at_e := Heap.get?_push_of_some ({ cls := .type "dict", data := .dict #[] } : Obj) ho
  dsimp only
  delta Builtin.ObjectAttr.storeInOwnDict Builtin.ObjectAttr.ownDictForStores
  cases cd with
  | mk c1 c2 c3 c4 c5 c6 c7 c8 c9 c10 c11 =>
    obtain rfl : c6 = true := hdict
    repeat (first | with_reducible refine look.at ?_ | with_reducible refine wpAny_loadPart_at ho ?_ | with_reducible refine HandSPX.store_in_new ?_ ?_ | wp_step)
    · exact ⟨_, #[], _, Eq.trans (Heap.get?_update_ne _ _ _ _ new.symm) (Heap.get?_push_at rfl rfl), rfl, (fun z hz => absurd hz (by simp)), fun _ => rfl⟩
    · intro h' tk' ns same
      have obj : h'.get? e = some { cls := .ref C, dict := some hp.objs.size, data := .fields #[.ref t1, .none, .none, .none, .bool false, .none] } := by
        rw [same.2 e new]
        exact Heap.get?_update_self _ at_e rfl
      have old : ∀ b v, b ≠ e → hp.get? b = some v → h'.get? b = some v := fun b v n z => by
        rw [same.2 b (Nat.ne_of_lt (Heap.lt_size z)), Heap.get?_update_ne _ _ _ _ n]
        exact Heap.get?_push_of_some _ z
      have free : H hp.objs.size = none := I.hok.fresh (Nat.le_refl _)
      -- without the dict first, then the dict
      obtain ⟨G, g1, g2⟩ := restrict h' fun b => decide (b ≠ hp.objs.size)
      have gk : ∀ b, b ≠ hp.objs.size → G.get? b = h'.get? b := fun b n => g1 b (decide_eq_true n)
      have gd : G.get? hp.objs.size = none := g2 _ (by simp)
      have up : ∀ b v, G.get? b = some v → h'.get? b = some v := fun b v z => by
        rw [← gk b fun n => by rw [n, gd] at z; cases z]
        exact z
      have J1 := I.write (t' := tk') (x := e) (e := e) (o := exo e C (some hp.objs.size)) (h' := G) (by rw [he]; exact trivial) (.inl rfl) (fun b v n z => by rw [gk b (Nat.ne_of_lt (Heap.lt_size z))]; exact old b v n z)
        ⟨_, by rw [gk e new]; exact obj⟩ (exo_ok (by rw [gk e new]; exact obj))
      have J2 := Inv.laidN (t' := tk') (o := exd hp.objs.size [(f, y)]) J1 up gd (by rw [upd_ne new.symm]; exact free) (exd_ok ns (relO_put (fs := []) ry fun _ => trivial))
      exact k _ _ free new.symm J2
/-- a further field -/
theorem oxt_more (T : OxC X.K C) (I : Inv X pins σ H s) (he : H e = some (exo e C (some d))) (hd : H d = some (exd d l)) (hl : l.length ≤ 900) (hno : PySem.W.findIn X.K (.ref C) f = some none) (ry : RelV y u)
    (k : ∀ s', Inv X pins σ (upd H d (exd d ((f, y) :: l))) s' → Q () s') : wpAny (model X.prog X.w) A (setAttr (.ref e) f u) Q E s := by
  obtain ⟨B, newId, initId, bl, _, SF, _, over⟩ := T.base
  obtain ⟨cd, hcd, hdict⟩ := PySem.W.any_some T.field.hdC
  obtain ⟨t1, ho⟩ := exo_at I.hok he
  obtain ⟨m, ns, rel⟩ := exd_at I.hok hd
  have within := within_of rel
  have short : (l.map (·.1)).length ≤ 1000 := by rw [List.length_map]; omega
  obtain ⟨hp, gs, dr, tk, os⟩ := s
  obtain ⟨od, _, _, hod, _⟩ := ns.count within
  have J : PySem.W.InstAt hp e _ C (some od) := ⟨ho, rfl, rfl, hod⟩
  refine PySem.W.set_plain I.kIn J T.store (PySem.W.osa_openX (r := none) SF I.kIn J over (noTaker hno) fun b => ?_)
  have look : PySem.W.Looks (model X.prog X.w) hp (classData C) cd := PySem.W.looks_clsIn I.kIn hcd
  dsimp only
  delta Builtin.ObjectAttr.storeInOwnDict Builtin.ObjectAttr.ownDictForStores
  cases cd with
  | mk c1 c2 c3 c4 c5 c6 c7 c8 c9 c10 c11 =>
    obtain rfl : c6 = true := hdict
    repeat (first | with_reducible refine look.at ?_ | with_reducible refine wpAny_loadPart_at ho ?_ | with_reducible refine OEX.store_in_old ns within short ?_ | wp_step)
    intro h' tk' ns' same
    have there : ∃ v, h'.get? d = some v := by
      obtain ⟨v, _, _, z, _⟩ := ns'
      exact ⟨v, z⟩
    exact k _ (I.write (t' := tk') (x := d) (e := d) (by rw [hd]; exact trivial) (.inl rfl) (fun b v n z => (same.2 b n).trans z) there (exd_ok ns' (relO_put ry rel)))
end
/-- self.f = value, self an error: its first field, or a further one -/
def tOxt (K : PySem.W.Frag) (f : Str) (to te : TE) : TS := fun D σ H => te σ H fun y H1 => to σ H1 fun x H2 => ∃ e C : Addr, x = .ref e ∧ OxC K C ∧ PySem.W.findIn K (.ref C) f = some none ∧
  ((H2 e = some (exo e C none) ∧ ∀ d, H2 d = none → d ≠ e → D.nx σ (upd (upd H2 e (exo e C (some d))) d (exd d [(f, y)]))) ∨
    ∃ (d : Addr) (l : List (Str × V)), H2 e = some (exo e C (some d)) ∧ H2 d = some (exd d l) ∧ l.length ≤ 900 ∧ D.nx σ (upd H2 d (exd d ((f, y) :: l))))
/-- the fields of a made error -/
def flds (code : Str) (names : List Str) (ws : List V) : List (Str × V) := (names.zip ws).reverse ++ [(("code" : Str), V.str code)]
/-- at e: an error of the class at C, made with ws -/
def ErrAt (K : PySem.W.Frag) (H : Hp) (e C : Addr) (code : Str) (names : List Str) (ws : List V) : Prop :=
  OxC K C ∧ noB K C ("code" :: names) = true ∧ ws.length = names.length ∧ ∃ dx, H e = some (exo e C (some dx)) ∧ H dx = some (exd dx (flds code names ws))
theorem ErrAt.same {K : PySem.W.Frag} {H H' : Hp} {e C : Addr} {code : Str} {names : List Str} {ws : List V} (s : Same H H') (h : ErrAt K H e C code names ws) : ErrAt K H' e C code names ws := by
  obtain ⟨h1, h2, h3, dx, h4, h5⟩ := h
  exact ⟨h1, h2, h3, dx, s _ _ h4, s _ _ h5⟩
/-- C.__init__(self, ..) -/
def spInit (C : Addr) (code : Str) (names : List Str) : Sp := fun vs H Q _ => ∃ (a : Addr) (ws : List V), vs = .ref a :: ws ∧ ws.length = names.length ∧ H a = some (exo a C none) ∧
  ∀ (H' : Hp) (dx : Addr), H dx = none → dx ≠ a → H' a = some (exo a C (some dx)) → H' dx = some (exd dx (flds code names ws)) → (∀ b, b ≠ a → b ≠ dx → H' b = H b) → Q .non H'
section
variable {X : Cx} {CX : CXT} {o e : Expr} {es : List Expr} {kws : List Keyword} {to te : TE} {ta tk : TA} {f x : Str} {p p' pos : Pos} {C fI : Addr} {fd : FuncData} {ps ks names : List Str} {code : Str} {k : Nat}
theorem ps_oxt (ho : PE X o to) (he : PE X e te) (hs : swapsWith e (some (.Attribute o f p')) pos.line X.env = pure false := by rfl) : PS X (.Assign [.Attribute o f p'] e pos) (tOxt X.K f to te) := ⟨fun pins s σ H D I h => by
  refine plainObj_wpAny_Assign_Attribute (thn (he.run pins s σ H _ I h) fun v s1 ⟨y, H1, I1, ry, q1⟩ => ?_) hs
  refine thn (ho.run pins s1 σ H1 _ I1 q1) fun u s2 ⟨x, H2, I2, rx, a, C, ex, T, hno, q⟩ => ?_
  cases ex
  cases (show u = Value.ref a from rx)
  exact match q with
  | .inl ⟨ea, q⟩ => oxt_first T I2 ea hno ry fun d s' n ne J => ⟨σ, _, J, q d n ne⟩
  | .inr ⟨d, l, ea, ed, hl, q⟩ => oxt_more T I2 ea ed hl hno ry fun s' J => ⟨σ, _, J, q⟩⟩
/-! ### reads -/
end
/-! ### the class's facts as one question -/
def kindB (K : PySem.W.Frag) (C : Addr) : Bool := [PySem.W.findIn K (.ref C) "__class__" == some (some (.builtin "object.__class__")), PySem.W.specialIn K (.builtin "object.__class__") "__get__" == some (some (.builtin "getset_descriptor.__get__")),
  PySem.W.takesIn K (.builtin "object.__class__") == some true, PySem.W.mroIn K C (.type "object") == some true].all id
def oxB (K : PySem.W.Frag) (C : Addr) (newId : String) (l : List Value) (names : List Str) (fI : Addr) : Bool :=
  [PySem.W.excInitIn K C l newId, PySem.W.excOver K C l, xfB K C, kindB K C, PySem.W.findIn K (.ref C) "__setattr__" == some (some (.builtin "object.__setattr__")), PySem.W.keepIn K (.ref C), noB K C names, PySem.W.typeIn K (.ref fI) == some (.type "function")].all id
theorem oxB_ok {K : PySem.W.Frag} {C fI : Addr} {B newId initId : String} {l : List Value} {names : List Str} (G : ExcBaseFacts B newId initId l ∧ StoreFacts B l "object.__setattr__" "object") (h : oxB K C newId l names fI = true) :
    OxC K C ∧ noB K C names = true ∧ PySem.W.typeIn K (.ref fI) = some (.type "function") := by
  simp only [oxB, kindB, List.all_cons, List.all_nil, id, Bool.and_true, Bool.and_eq_true, beq_iff_eq] at h
  obtain ⟨i1, i2, i3, ⟨k1, k2, k3, k4⟩, i4, i5, i6, i7⟩ := h
  have T := xfB_ok i3
  exact ⟨⟨⟨B, newId, initId, l, G.1, G.2, i1, i2⟩, T, ⟨T.ga, T.gg, T.exC, T.hdC, k1, k2, k3, k4⟩, i4, i5⟩, i6, i7⟩
theorem gVE : ExcBaseFacts "ValueError" "ValueError.__new__" "ValueError.__init__" [.type "ValueError", .type "Exception", .type "BaseException", .type "object"] ∧ StoreFacts "ValueError" [.type "ValueError", .type "Exception", .type "BaseException", .type "object"] "object.__setattr__" "object" := ⟨PySem.F.excBase_ValueError, PySem.F.store_ValueError⟩
theorem gLE : ExcBaseFacts "LookupError" "LookupError.__new__" "LookupError.__init__" [.type "LookupError", .type "Exception", .type "BaseException", .type "object"] ∧ StoreFacts "LookupError" [.type "LookupError", .type "Exception", .type "BaseException", .type "object"] "object.__setattr__" "object" := ⟨PySem.F.excBase_LookupError, PySem.F.store_LookupError⟩
end L2
set_option Elab.async false
set_option linter.all false
set_option maxRecDepth 100000
set_option maxHeartbeats 2000000
/-! Errors of own classes over any built-in one, made to be raised. -/
namespace L2
open PySem PySem.Spec PyProof.Rows My
/-- raise C(e, ..): of the heap there is left what the error's dict holds -/
def tMkR (C : Addr) (code : Str) (names : List Str) (ta : TA) : St → Hp → XK → Prop := fun σ H Q => ta σ H fun vs H1 => vs.length = names.length ∧ ∀ d, H1 d = none → Q (.ref C) (some d) (upd H1 d (.xd (flds code names vs)))
section
variable {X : Cx} {CX : CXT} {e : Expr} {es : List Expr} {ta : TA} {x : Str} {p pos : Pos} {C fI : Addr} {fd : FuncData} {ps names : List Str} {code : Str} {k : Nat}
theorem run_mkR {pins : List (Addr × Obj)} {σ : St} {H : Hp} {s : Shared} {Q : XK} {us : List Value} {ws : List V} (T : OxC X.K C) (tC : PySem.W.typeIn X.K (.ref C) = some (.type "type"))
    (iC : PySem.W.findIn X.K (.ref C) "__init__" = some (some (.ref fI))) (tI : PySem.W.typeIn X.K (.ref fI) = some (.type "function")) (F : FnOk X.prog X.w X.K X.mg X.base CX k fI fd ps (spInit C code names)) (hr : Room (k + 1) X.A)
    (hb : Binds X.K fd ps []) (hpn : ps.length = names.length + 1) (hn9 : names.length ≤ 9) (hx : Passes CX X (fun _ _ _ => False)) (I : Inv X pins σ H s) (r : Vals ws us) (hl : ws.length = names.length)
    (h : ∀ d, H d = none → Q (.ref C) (some d) (upd H d (.xd (flds code names ws)))) : wpAny (model X.prog X.w) X.A (call (.ref C) us) (L2N.MkP X pins σ Q) X.xe s := by
  obtain ⟨B, newId, initId, bl, EF, _, init, _⟩ := T.base
  obtain ⟨hp, gs, dr, tk, os⟩ := s
  obtain ⟨n1, N, n2, l1, l2, b1, l4, l5, b2, co, da, y0, y1, y2, y3, y5, at_C, nms⟩ := PySem.W.excInit_of I.kIn init
  have c : AtC hp C newId bl n1 n2 N l1 l2 l5 l4 b1 b2 co da y0 y1 y2 y3 y5 := ⟨at_C, nms⟩
  have hul : us.length = names.length := r.length.symm.trans hl
  have fresh : H (hp.objs.size + 1) = none := I.hok.fresh (Nat.le_succ _)
  have kept : ∀ b v, hp.get? b = some v → ((hp.push (PySem.W.kdv_tup us)).push (HandSPX.excO C hp.objs.size)).get? b = some v := fun b v z => (Heap.get?_push_of_some _ ∘ Heap.get?_push_of_some _) z
  have at_e : ((hp.push (PySem.W.kdv_tup us)).push (HandSPX.excO C hp.objs.size)).get? (hp.objs.size + 1) = some (HandSPX.excO C hp.objs.size) := by heap_get
  have I2 := I.laid (t' := tk) (a := hp.objs.size + 1) (o := exo (hp.objs.size + 1) C none) (h' := (hp.push (PySem.W.kdv_tup us)).push (HandSPX.excO C hp.objs.size)) kept (Nat.le_succ _) (exo_ok at_e)
  have want : spInit C code names (.ref (hp.objs.size + 1) :: ws) (upd H (hp.objs.size + 1) (exo (hp.objs.size + 1) C none))
      (fun v H2 => v = .non ∧ ∃ d, H2 (hp.objs.size + 1) = some (exo (hp.objs.size + 1) C (some d)) ∧ H2 d = some (exd d (flds code names ws)) ∧ H d = none ∧ Q (.ref C) (some d) (upd (del H2 (hp.objs.size + 1)) d (.xd (flds code names ws)))) (fun _ _ _ => False) := by
    refine ⟨_, ws, rfl, hl, upd_same, fun H' d nd ne ha hd hot => ⟨rfl, d, ha, hd, ?_, ?_⟩⟩
    · rwa [upd_ne ne] at nd
    · rw [upd_ne ne] at nd
      have same : upd (del H' (hp.objs.size + 1)) d (.xd (flds code names ws)) = upd H d (.xd (flds code names ws)) := by
        funext b
        by_cases b1 : b = d
        · rw [b1, upd_same, upd_same]
        · rw [upd_ne b1, upd_ne b1]
          by_cases b2 : b = hp.objs.size + 1
          · rw [b2, del_same, fresh]
          · rw [del_ne b2, hot b b2 b1, upd_ne b2]
      rw [same]
      exact h d nd
  have bind := hb ⟨(hp.push (PySem.W.kdv_tup us)).push (HandSPX.excO C hp.objs.size), gs, dr, tk, os⟩ (.ref (hp.objs.size + 1) :: us) I2.kIn (by rw [List.append_nil, List.length_cons, hul, hpn])
  rw [List.append_nil] at bind
  refine wpAny_call (c.call EF (sz (by omega)) (PySem.W.looks_findIn I.kIn iC) (fun self => PySem.W.bind_fn I.kIn self tI) (codeAny_mono (F.run _ X.stack _ _ ⟨.ref (hp.objs.size + 1) :: us, []⟩ (.ref (hp.objs.size + 1) :: us) _ _ (fun _ _ _ => False) (hr.make C us []) (I2.env0.make C us []) bind (show Vals (V.ref (hp.objs.size + 1) :: ws) (Value.ref (hp.objs.size + 1) :: us) from .cons rfl r) want) fun z s' hz => ?_))
  match z, hz with
  | .error er, hz => exact hx pins σ _ _ er s' I2 hz
  | .ok (.ret u), hz =>
    obtain ⟨v, H2, os2, bare2, un2, hok2, rv, ev, d, ea, ed, hd1, q⟩ := hz
    cases ev
    obtain ⟨h2, g2, d2, t2, os'⟩ := s'
    obtain ⟨t0, G, J, kG, ge, at_a, na⟩ := mk_end0 (d2 := d2) (t2 := t2) I (Nat.le_succ _) kept un2 hok2 os2 bare2 ea ed hd1
    exact ⟨rv, _, _, _, ⟨G, g2, d2, t2, os'⟩, _, .ref C, some d, rfl, J, kG, ge, at_a, ⟨rfl, rfl, fun vs e => by cases e; rfl⟩, rfl, rfl, na, rfl, bare2, raises_own T.field.exC tC, q⟩
theorem pmk_oxt (T : OxC X.K C) (tC : PySem.W.typeIn X.K (.ref C) = some (.type "type")) (iC : PySem.W.findIn X.K (.ref C) "__init__" = some (some (.ref fI))) (tI : PySem.W.typeIn X.K (.ref fI) = some (.type "function"))
    (F : FnOk X.prog X.w X.K X.mg X.base CX k fI fd ps (spInit C code names)) (hr : Room (k + 1) X.A) (hb : Binds X.K fd ps []) (hpn : ps.length = names.length + 1) (hn9 : names.length ≤ 9) (hx : Passes CX X (fun _ _ _ => False)) (hg : Gl X x) (hm : X.mg x = some (.ref C)) (ha : PA X (e :: es) ta)
    (hdb : (x == ("__debug__" : Str)) = false := by decide) (hpl : (backTo pos (starEach es X.env)).any (·.1) = false := by rfl) (he : starEach (e :: es) X.env = (false, eval e X.env) :: starEach es X.env := by rfl) :
    L2N.PMk X (.Call (.Name x p) (e :: es) [] pos) (tMkR C code names ta) := fun pins s σ H Q I h =>
  wpAny_Call_Name_kw (ld_glob I hg hm (PySem.W.callWith_K (h₀ := X.base) I.ok.mod.kin T.keep (thn (ha.run pos pins s σ H _ I h) fun us s1 ⟨vs, H1, I1, r1, hl, q1⟩ => ⟨I1.kIn, run_mkR T tC iC tI F hr hb hpn hn9 hx I1 r1 hl q1⟩) he hpl) hdb)
end
end L2
set_option Elab.async false
set_option linter.all false
set_option maxRecDepth 100000
set_option maxHeartbeats 1000000
/-! try: .. except (A, B, C) as n: .. -/
namespace My
open PySem PySem.Spec PyProof.Rows L2
/-- an error in flight, the heap grown -/
theorem flies_on {B h h' : Heap} {l : List Env} {a : Addr} {Z : Obj → Prop} (f : HandSPX.FlyingZ B l a Z h) (k : ∀ b o, h.get? b = some o → h'.get? b = some o) : HandSPX.FlyingZ B l a Z h' := by
  obtain ⟨x1, x2, x3, oe, vs, T, oT, ts, y1, y2, y3, y4, y5, y6, y7, y8, y9⟩ := f
  exact ⟨fun b o e => k b o (x1 b o e), x2, x3.of_keeps (fun b o e _ => ⟨o, k b o e, rfl⟩), oe, vs, T, oT, ts, k _ _ y1, y2, y3, y4, y5, y6, k _ _ y7, y8, y9⟩
/-- what a clause of several classes wishes of the body's error, where it takes every one that may come -/
def wAsT (K : PySem.W.Frag) (cs : List Value) (i : Nat) (ts : Addr → Value → Option Addr → TS) (D : Ends) : WX := fun cls d σ H => PySem.W.exmAny K cls cs = some true ∧ ∀ a, H a = none →
  ts a cls d { nx := fun σ' H' => D.nx (σ'.set i none) H', rt := D.rt, bk := fun σ' H' => D.bk (σ'.set i none) H', ct := fun σ' H' => D.ct (σ'.set i none) H' } (σ.set i (some (.ref a))) H
section
variable {X : Cx} {x1 x2 x3 n : Str} {c1 c2 c3 : Value} {i : Nat} {body suite : List Stmt} {b₀ : Stmt} {q1 q2 q3 tq pos pos' : Pos} {m : Nat} {tb : WX → TS} {ts : Addr → Value → Option Addr → TS}
theorem named_of {a : Addr} {oe : Obj} {pn : List (Addr × Obj)} {pins : List (Addr × Obj)} {σ : L2.St} {H : Hp} {s : Shared} {x : Str} {c : Value} {q : Pos} {Q : Value → Shared → Prop} {E : Value → Shared → Prop} (S : Inv (X.suite a ((a, oe) :: pn)) pins σ H s) (hc : Names X x c) (h : Q c s) :
    wpAny (model X.prog X.w) (X.A.mark (some (.ref a))) (eval (.Name x q) X.env) Q E s := by
  obtain ⟨g, dbg, m | ⟨m, v, nn⟩⟩ := hc
  · exact ld_glob (X := X.suite a ((a, oe) :: pn)) S g m h dbg
  · exact ld_blt (X := X.suite a ((a, oe) :: pn)) S g m v h nn dbg
theorem ps_try_asT (hs : X.stack = X.env :: X.outer) (hf : X.env.frame = some X.env.locals) (hN : X.N.Nodup) (hi : X.N[i]? = some n) (hln : X.env.kindOf n = some .local) (n1 : Names X x1 c1) (n2 : Names X x2 c2) (n3 : Names X x3 c3)
    (hb : ∀ (W : WX) (pn : List (Addr × Obj)) (xe : Value → Shared → Prop), L2N.Takes (X.tr pn xe) W → PassesOwn (model X.prog X.w) X.A X.env xe → PSs (X.tr pn xe) body (tb W))
    (hsu : ∀ (a : Addr) (oe : Obj) (cls : Value) (d : Option Addr) (pn : List (Addr × Obj)), L2N.Zn cls d oe → (∃ vs, oe.data = .fields vs) → PSs (X.suite a ((a, oe) :: pn)) (b₀ :: suite) (ts a cls d)) :
    PS X (.Try body [.ExceptHandler (some (.Tuple [.Name x1 q1, .Name x2 q2, .Name x3 q3] m tq)) (some n) (b₀ :: suite) pos'] [] [] pos) (fun D σ H => tb (wAsT X.K [c1, c2, c3] i ts D) D σ H) := by
  refine ⟨fun pins s σ H D I h => ?_⟩
  have ok := I.ok
  refine wpAny_Try_except ?_
  have landing : L2N.Takes (X.tr (X.pn ++ pins) (fun er t1 => wpAny (model X.prog X.w) X.A (noteFrame er X.env) (fun _ t2 => wpAny (model X.prog X.w) X.A (setFlight er none) (fun _ t3 =>
      wpAny (model X.prog X.w) X.A (handleBy er X.env [.ExceptHandler (some (.Tuple [.Name x1 q1, .Name x2 q2, .Name x3 q3] m tq)) (some n) (b₀ :: suite) pos']) (L2.SP X pins D) X.xe t3) X.xe t2) X.xe t1)) (wAsT X.K [c1, c2, c3] i ts D) := by
    rintro u s' ⟨a, B, sI, pins', σ', H', cls, d, rfl, J', nb, up, sky, na, os, ag, hm, go⟩
    have J : Inv X pins σ' H' sI := J'.ofTry ok
    have framesAre : X.A.frames = some (X.env :: X.outer) := by rw [ok.frames, hs]
    refine L2N.Sky.land L2N.Zn.steady framesAre hf (by rw [← hs]; exact sky) fun g1 f1 u1 => ?_
    have J1 : Inv X pins σ' H' { s' with heap := g1 } := J.landed nb f1.1 (up.trans u1) os ag
    obtain ⟨oe, vs, he, hz, hd⟩ := f1.there
    have out : a ∉ frs (X.env :: X.outer) := fun m => by
      obtain ⟨_, o', e', no⟩ := f1.2.2.1.mem m
      rw [he] at e'
      cases e'
      exact no _ hd
    have nL : a ≠ X.env.locals := fun z => out (List.mem_filterMap.mpr ⟨X.env, .head _, by rw [hf, z]⟩)
    have nF : a ∉ X.fs := fun m => by
      obtain ⟨e, he, q⟩ := List.mem_filterMap.mp m
      exact out (List.mem_filterMap.mpr ⟨e, .tail _ he, q⟩)
    have S1 := J1.suite he hd na nL nF
    refine PySem.W.exc_clause_as ?_
    refine wpAny_Tuple_spliced (Calls.spliced_cons (named_of S1 n1 ?_))
    show wpAny _ _ (spliced [(false, eval (.Name x2 q2) X.env), (false, eval (.Name x3 q3) X.env)]) _ _ _
    refine Calls.spliced_cons (named_of S1 n2 (Calls.spliced_cons (named_of S1 n3 (Calls.spliced_nil ⟨sz (by show 3 ≤ 100000; decide), true, ?_, ?_⟩))))
    · refine PySem.W.exm_tup3 (K := X.K) (cls := cls) (J1.kIn.keeps fun b o e => Heap.get?_push_of_some _ e) (fun A2 Q2 E2 t2 k q => wpAny_typeOf_ref (k _ _ (Heap.get?_push_of_some _ he)) (by rw [hz.1]; exact q)) (Heap.get?_push_size _ rfl) hm
    rw [if_pos rfl]
    refine HandSPX.lands_againZ (flies_on f1 fun b o e => Heap.get?_push_of_some _ e) fun g2 f2 u2 => ?_
    have J2 : Inv X pins σ' H' { s' with heap := g2 } := J.landed nb f2.1 (((up.trans u1).trans (Heap.UpToSlots.of_keeps fun b o e => Heap.get?_push_of_some _ e)).trans u2) os ag
    obtain ⟨oe2, vs2, he2, hz2, hd2⟩ := f2.there
    refine store_ok (X := X.suite a ((a, oe2) :: (X.pn ++ pins))) (v := .ref a) (J2.suite he2 hd2 na nL nF) hN hi (.inl hln) rfl (fun s5 S5 => ?_) (.inr hln)
    refine wpAny_mono ((hsu a oe2 cls d (X.pn ++ pins) hz2 ⟨_, hd2⟩).run [] s5 _ H' _ S5 (go a na)) (fun f t hsp => ?_) (fun _ _ z => False.elim z)
    have gone : ∀ {σ6 : L2.St} {H6 : Hp} {Q : Shared → Prop}, Inv (X.suite a ((a, oe2) :: (X.pn ++ pins))) [] σ6 H6 t → (∀ t2, Inv X pins (σ6.set i none) H6 t2 → Q t2) →
        wpAny (model X.prog X.w) X.A (do bindName X.env n .none; unbindBehindTheSuite X.env n pos') (fun _ t2 => Q t2) X.xe t := fun S6 k => gone_ok (S6.unsuite ok) hN hi hln k
    match f, hsp with
    | .next, ⟨σ6, H6, S6, w⟩ => exact gone S6 fun t2 J7 => ⟨_, _, J7, w⟩
    | .brk, ⟨σ6, H6, S6, w⟩ => exact gone S6 fun t2 J7 => ⟨_, _, J7, w⟩
    | .cont, ⟨σ6, H6, S6, w⟩ => exact gone S6 fun t2 J7 => ⟨_, _, J7, w⟩
    | .ret u, ⟨v6, σ6, H6, S6, r6, w⟩ => exact gone S6 fun t2 J7 => ⟨_, _, _, J7, r6, w⟩
  refine wpAny_mono ((hb _ _ _ landing PassesOwn.looking).run [] s σ H D (I.toTry _) h) (fun f t hsp => ?_) (fun e t he => he)
  match f, hsp with
  | .next, ⟨σ', H', J', q⟩ => exact wpAny_execs_nil ⟨σ', H', J'.ofTry ok, q⟩
  | .brk, ⟨σ', H', J', q⟩ => exact ⟨σ', H', J'.ofTry ok, q⟩
  | .cont, ⟨σ', H', J', q⟩ => exact ⟨σ', H', J'.ofTry ok, q⟩
  | .ret u, ⟨v, σ', H', J', r, q⟩ => exact ⟨v, σ', H', J'.ofTry ok, r, q⟩
end
end My
set_option Elab.async false
set_option linter.all false
set_option maxRecDepth 100000
set_option maxHeartbeats 1000000
/-! Within an except suite: a def that is handed the very error; its fields read there. -/
namespace My
open PySem PySem.Spec PyProof.Rows L2 L2H
theorem notCls_of {o : Obj} {vs : Array Value} (h : o.data = .fields vs) : PySem.W.notCls o = true := by
  unfold PySem.W.notCls
  rw [h] <;> rfl
/-- the same, the class told by what stands there -/
def tErr (K : PySem.W.Frag) (a : Addr) (cls : Value) (d : Option Addr) (n : Str) (te : TE) : TE := fun σ H Q => te σ H fun x H1 => x = .ref a ∧ ∃ (C dd : Addr) (fs : List (Str × V)) (v : V), cls = .ref C ∧ XfC K C ∧ PySem.W.findIn K (.ref C) n = some none ∧ d = some dd ∧ H1 dd = some (.xd fs) ∧ fs.lookup n = some v ∧ Q v H1
theorem pe_err {X : Cx} {a : Addr} {oe : Obj} {cls : Value} {d : Option Addr} {e : Expr} {te : TE} {pos : Pos} {n : Str} (hz : Zc cls d oe) (hd : ∃ vs, oe.data = .fields vs) (hp : (a, oe) ∈ X.pn) (he : PE X e te) (hb : attributeBase e n X.env (eval e X.env) = eval e X.env := by rfl) :
    PE X (.Attribute e n pos) (tErr X.K a cls d n te) := ⟨fun pins s σ H Q I h => by
  refine attr_of hb (thn (he.run pins s σ H _ I h) fun u t ⟨x, H1, I1, rx, ex, C, dd, fs, v, ec, T, hno, ed, ea, look, q⟩ => ?_)
  subst ex ec ed
  have eu : u = .ref a := rx
  subst eu
  obtain ⟨vs, fields⟩ := hd
  obtain ⟨mA, ns, same⟩ := (I1.hok dd _ ea : ObjOk X.prog X.w H1 t.heap dd (.xd fs))
  obtain ⟨od, at_, looks⟩ := lookIn_ns ns
  obtain ⟨y, hy, ry⟩ := RelO.some_of (v := v) (o := mA n) (look ▸ same n)
  exact HandSPX.exc_get I1.kIn ⟨(I1.pin _ (List.mem_append_left _ hp)).1, hz.1, notCls_of fields, by rw [hz.2]; exact at_⟩ T.ga T.gg T.exC (PySem.W.findObj_own T.hdC hno rfl (by rw [looks, hy])) (handed_of ry) ⟨v, H1, I1.tok _, ry, q⟩⟩
/-- what a def promises that is handed the handled error -/
structure FnE (P : Program) (w : World) (K : PySem.W.Frag) (mg : Str → Option Value) (base : Heap) (k : Nat) (f : Addr) (fd : FuncData) (ps : List Str) (sp : Addr → Value → Option Addr → Sp) : Prop where
  len : ∀ a cls d vs H Q E, sp a cls d vs H Q E → vs.length = ps.length
  run : ∀ (A : Around) (outer : List Env) (s : Shared) (H : Hp) (args : Args) (us : List Value) (vs : List V) (Q : VK) (E : XK) (a : Addr) (oe : Obj) (cls : Value) (d : Option Addr),
    RoomH k A → Hot1 A (a, oe) → PinOk outer H s (a, oe) → Zc cls d oe → Env0 P w K mg base A outer s H → BindsTo s fd args (ps.zip us) → Vals vs us → sp a cls d vs H Q E →
    codeAny (model P w) A (.call (.ref f) args) (CR CX0 outer P w H s Q E) s
/-- by its body -/
theorem fnE_of {P : Program} {w : World} {K : PySem.W.Frag} {mg : Str → Option Value} {base : Heap} {k : Nat} {f : Addr} {name qual : Str} {params : Arguments} {body : List Stmt} {scope : Scope} {dV kV doc pm cdv ct oc : Value} {an od : Option Addr}
    {osl : Array (Option Value)} {N ps : List Str} {sp : Addr → Value → Option Addr → Sp} (lk : K.lookup f = some ⟨oc, od, .func (PySem.W.fnOf name qual params body scope dV kV doc pm an cdv ct), osl⟩) (code : PySem.W.codeIn K cdv qual = true) (S : FnScope N ps scope)
    (len : ∀ a cls d vs H Q E, sp a cls d vs H Q E → vs.length = ps.length)
    (runs : ∀ (A : Around) (outer : List Env) (s : Shared) (H : Hp) (vs : List V) (Q : VK) (E : XK) (a : Addr) (oe : Obj) (cls : Value) (d : Option Addr), Hot1 A (a, oe) → Zc cls d oe → RoomH k (A.deeper (envOfC qual scope s.heap.objs.size f cdv)) → sp a cls d vs H Q E →
      ∃ t, PSs (cxH CX0 P w K mg base N qual scope f cdv A outer s H E (a, oe)) body t ∧ t { nx := fun _ H' => Q .non H', rt := Q } (L2.start N vs) H) :
    FnE P w K mg base (k + 1) f (PySem.W.fnOf name qual params body scope dV kV doc pm an cdv ct) ps sp where
  len := len
  run A outer s H args us vs Q E a oe cls d hr hot hpin hz e0 bind rv h := by
    have keep : ∀ b o, base.get? b = some o → s.heap.get? b = some o := fun b o e => (e0.bs b o e).1
    have KX := e0.mod.kin.keeps keep
    obtain ⟨t, body_t, q⟩ := runs A outer s H vs Q E a oe cls d hot hz (hr.deeper _) h
    refine codeAny_call_function hr.depth (KX _ _ lk) rfl S.co S.gen rfl (PySem.W.codeRec_of KX code) (bind _ _ _ _ (wpAny_newFunctionEnv_cells S.kind (fun y m => ?_) fun env ee s1 x => ?_))
    · obtain ⟨n, v⟩ := y
      exact (S.par n (List.of_mem_zip m).1).imp id fun z => ⟨z, PySem.W.cellsFrom_some _ _ _ (.inl z)⟩
    · subst ee
      refine ⟨(e0.mod.nolimit.keeps keep).keeps x.toInCall.keep, codeAny_func (wpAny_mono (body_t.run [] s1 _ H _ (inv_startH S hpin e0 (len _ _ _ _ _ _ _ h) rv x) q) (fun fl s2 hs => ?_) fun e s2 z => z)⟩
      have fin : ∀ {σ2 : L2.St} {H2 : Hp} {v : V} {u : Value}, Inv (cxH CX0 P w K mg base N qual scope f cdv A outer s H E (a, oe)) [] σ2 H2 s2 → RelV v u → Q v H2 → CE outer P w H s Q u s2 := fun {_ H2 v _} J rr z => ⟨v, H2, J.os, J.bare, J.base, J.hok, rr, z⟩
      cases fl with
      | ret u =>
        obtain ⟨v, σ2, H2, J, rr, z⟩ := hs
        exact fin J rr z
      | next =>
        obtain ⟨σ2, H2, J, z⟩ := hs
        exact fin (v := V.non) (u := Value.none) J rfl z
      | brk => exact hs.elim fun _ h => h.elim fun _ h => h.2.elim
      | cont => exact hs.elim fun _ h => h.elim fun _ h => h.2.elim
/-- f(e), e the error that the context holds and handles -/
def tCallE (sp : Addr → Value → Option Addr → Sp) (a : Addr) (cls : Value) (d : Option Addr) (E : XK) (t : TA) : TE := fun σ H Q => t σ H fun vs H1 => sp a cls d vs H1 Q E
theorem pe_callE {X : Cx} {k : Nat} {f a : Addr} {oe : Obj} {cls : Value} {d : Option Addr} {fd : FuncData} {ps : List Str} {sp : Addr → Value → Option Addr → Sp} {E : XK} {x : Str} {q pos : Pos} {e : Expr} {es : List Expr} {t : TA} (F : FnE X.prog X.w X.K X.mg X.base k f fd ps sp) (hr : RoomH k X.A) (hot : Hot1 X.A (a, oe)) (hp : (a, oe) ∈ X.pn) (hz : Zc cls d oe)
    (hg : Gl X x) (hm : X.mg x = some (.ref f)) (keep : PySem.W.keepIn X.K (.ref f) = true) (bind : Binds X.K fd ps []) (ha : PA X (e :: es) t) (hdb : (x == ("__debug__" : Str)) = false := by decide)
    (he : starEach (e :: es) X.env = (false, eval e X.env) :: starEach es X.env := by rfl) (hpl : (backTo pos (starEach es X.env)).any (·.1) = false := by rfl) : PE X (.Call (.Name x q) (e :: es) [] pos) (tCallE sp a cls d E t) := ⟨fun pins s σ H Q I h => by
  refine wpAny_Call_Name_kw (ld_glob I hg hm (PySem.W.callWith_K (h₀ := X.base) I.ok.mod.kin keep (thn (ha.run pos pins s σ H _ I h) fun us s1 ⟨vs, H1, I1, r, w⟩ => ⟨I1.kIn, ?_⟩) he hpl) hdb)
  obtain ⟨g1, g2, g3, g4, g5⟩ := I1.pin _ (List.mem_append_left _ hp)
  have lens : us.length = ps.length := r.length.symm.trans (F.len _ _ _ _ _ _ _ w)
  have b := bind s1 us I1.kIn (by rw [List.append_nil]; exact lens)
  rw [List.append_nil] at b
  refine wpAny_call (codeAny_mono (F.run X.A X.stack s1 H1 ⟨us, []⟩ us vs Q E a oe cls d hr hot ⟨g1, g2, fun m => (List.mem_cons.mp (I1.stkSub a m)).elim g3 g4, g5⟩ hz I1.env0 b r w) fun rs s2 hq => ?_)
  match rs, hq with
  | .ok (.ret u), hq => exact I1.after hq⟩
end My
set_option Elab.async false
set_option linter.all false
set_option maxRecDepth 100000
set_option maxHeartbeats 1000000
/-! A lambda without parameters that is handed on: called from any depth of defs below the one that made it. -/
namespace My
open PySem PySem.Spec PyProof.Rows L2 LamX
/-- what happened since (H, s), where the frame of X went to sleep, up to (H', s'), where the frames `outer` stand -/
structure Sleeps (X : Cx) (H : Hp) (s : Shared) (outer : List Env) (H' : Hp) (s' : Shared) : Prop where
  un : Un (frs X.stack) [] H H' s.heap s'.heap
  new : ∀ b ∈ frs outer, b ∈ frs X.stack ∨ s.heap.get? b = none
  size : s.heap.objs.size ≤ s'.heap.objs.size
section
variable {X Z : Cx} {pins pz : List (Addr × Obj)} {σ σz : L2.St} {H H1 H2 : Hp} {s s1 s2 : Shared} {outer : List Env}
theorem Sleeps.start : Sleeps X H s X.stack H s := ⟨Un.refl, fun b hb => .inl hb, Nat.le_refl _⟩
/-- the lambda's text: parameters, body, names -/
structure LamT where
  params : Arguments
  body : Expr
  sc : Scope
/-- its function, made in X; pm, ct, c': what the making adds -/
abbrev LamT.fd (t : LamT) (X : Cx) (pm ct : Value) (c' : Addr) : FuncData := PySem.W.kla_fn "<lambda>" (X.env.qual ++ "<lambda>") t.params t.body t.sc (cloFrom X.env.cells t.sc.names []) pm (.ref c') ct
/-- the context of the lambda's body -/
def LamT.cx (t : LamT) (X : Cx) (A : Around) (outer : List Env) (s : Shared) (H : Hp) (E : XK) (f c' : Addr) : Cx := (lamCx X A outer s H E t.sc f c').tr []
  (fun er s1 => wpAny (model X.prog X.w) (A.deeper (lamEnv X t.sc s.heap.objs.size f c')) (leaving (lamEnv X t.sc s.heap.objs.size f c') er) (fun _ => L2N.CX X.prog X.w outer H s E er) (L2N.CX X.prog X.w outer H s E) s1)
end
end My
set_option Elab.async false
set_option linter.all false
set_option maxRecDepth 100000
set_option maxHeartbeats 1000000
/-! Lambdas made: their objects are known from then on (kept in lists, handed on); a parameter with a default, too. -/
namespace My
open PySem PySem.Spec PyProof.Rows L2 LamX
/-- at f: the function of the lambda t, made in X; dv: the tuple of its defaults -/
def LamO (t : LamT) (X : Cx) (f c' : Addr) (dv : Value) : HO := .ext fun h => ∃ pm ct, h.get? f = some { cls := .type "function", data := .func { t.fd X pm ct c' with defaults := dv } }
section
variable {X : Cx} {pins : List (Addr × Obj)} {σ : L2.St} {H : Hp} {s : Shared} {T : List (Addr × Str)} {c P : Addr}
theorem lamO_ok {t : LamT} {f c' : Addr} {dv pm ct : Value} {h : Heap} {H : Hp} (e : h.get? f = some { cls := .type "function", data := .func { t.fd X pm ct c' with defaults := dv } }) : ObjOk X.prog X.w H h f (LamO t X f c' dv) :=
  ⟨⟨pm, ct, e⟩, ⟨_, e⟩, fun _ _ ⟨pm, ct, e⟩ k => ⟨pm, ct, k _ e⟩⟩
/-- a code object is found or made: the table grows, no more -/
theorem code_step {q name : Str} {params : Arguments} {body : FuncBody} {sc : Scope} {pos : Pos} {n : Nat} {E : Value → Shared → Prop} {Q : Value → Shared → Prop} (I : Inv X pins σ H s) (TB : TabB X.base X.mg c P) (hcode : X.env.code = .ref c) (hm : (P, q) ∈ T) (hu : ∀ p ∈ T, p.1 = P → p.2 = q) (hT : Tabs T H)
    (h : ∀ c' H1 s1, Inv X pins σ H1 s1 → Ext P H H1 → Tabs T H1 → H1 c' = some (CodeO c' q) → s.heap.objs.size ≤ s1.heap.objs.size → Q (.ref c') s1) : wpAny (model X.prog X.w) X.A (functionCode X.env pos n name q params sc body) Q E s := by
  obtain ⟨ps, hP, triples, among⟩ := hT _ hm
  have at_ : s.heap.get? P = some { cls := .none, data := .fields ps } := I.hok P _ hP
  have CH := TB.code.keeps I.bk
  cases hit : codeAmong pos ps.toList with
  | some cv =>
    obtain ⟨c', rfl, known⟩ := among pos cv hit
    exact wpAny_functionCode_hit hcode (CH.code at_ triples) hit (h c' H s I (Ext.refl P H) hT known (Nat.le_refl _))
  | none =>
    refine wpAny_functionCodeX hcode (CH.code at_ triples) (CH.tab at_) hit fun c' h' tk but ge lt _ rec tab _ => ?_
    obtain ⟨c2, oc, vs, tq, e2, hoc, hd, hv⟩ := rec
    cases e2
    have nC : H c' = none := I.hok.fresh ge
    have I1 := inv_table (q := q) (t' := tk) (more := #[rawInt pos.line, rawInt pos.col, .ref c']) I hP but tab.2 ge ⟨oc, vs, tq, hoc, hd, hv⟩
    have nc : ∀ (b : Addr) (q' : Str), H b = some (CodeO b q') → b ≠ P := fun b q' e z => by
      subst z
      exact codeO_ne ps (Option.some.inj (e.symm.trans hP))
    have ext : Ext P H (upd (upd H P (.tbl (ps ++ #[rawInt pos.line, rawInt pos.col, .ref c']))) c' (CodeO c' q)) := fun b o e no => by
      have n1 : b ≠ c' := fun z => by rw [z, nC] at e; cases e
      rw [upd_ne n1, upd_ne no]
      exact e
    have nPc : P ≠ c' := fun z => by rw [z, nC] at hP; cases hP
    refine h c' _ _ I1 ext (fun p mp => ?_) upd_same (Nat.le_trans ge (Nat.le_of_lt lt))
    · by_cases z : p.1 = P
      · rw [hu p mp z, z]
        have el : (ps ++ #[rawInt pos.line, rawInt pos.col, .ref c']).toList = ps.toList ++ [rawInt pos.line, rawInt pos.col, .ref c'] := by simp
        refine ⟨_, (upd_ne nPc).trans upd_same, by rw [el]; exact PySem.TriplesOk_snoc _ _ _ _ triples, fun p' cv hc => ?_⟩
        rw [el] at hc
        rcases among_app _ triples hc with w | w
        · obtain ⟨c0, e1, e2⟩ := among p' cv w
          exact ⟨c0, e1, ext _ _ e2 (nc _ _ e2)⟩
        · exact ⟨c', w, upd_same⟩
      · obtain ⟨ps', a1, a2, a3⟩ := hT p mp
        have ne : p.1 ≠ c' := fun w => by rw [w, nC] at a1; cases a1
        exact ⟨ps', by rw [upd_ne ne, upd_ne z]; exact a1, a2, fun p' cv hc => (a3 p' cv hc).imp fun c0 e => ⟨e.1, ext _ _ e.2 (nc _ _ e.2)⟩⟩
/-- behind the closure: the code object, the object itself -/
def lamEnd (t : LamT) (X : Cx) (ct dv : Value) (pos : Pos) (n : Nat) : Sem Value := do
  let code ← functionCode X.env pos n "<lambda>" (X.env.qual ++ "<lambda>") t.params t.sc (.expr t.body)
  let bi ← builtinsFor mainGlobals X.env.builtins
  let m ← nsGet mainGlobals "__name__"
  newObj (.type "function") (.func { PySem.W.kla_fn "<lambda>" (X.env.qual ++ "<lambda>") t.params t.body t.sc (cloFrom X.env.cells t.sc.names []) (m.getD .none) code ct with builtins := bi, defaults := dv })
/-- the rest of the making -/
theorem tail_step {t : LamT} {dv : Value} {pos : Pos} {n : Nat} {E : Value → Shared → Prop} {Q : Value → Shared → Prop} (I : Inv X pins σ H s) (TB : TabB X.base X.mg c P) (hcode : X.env.code = .ref c) (hm : (P, X.env.qual ++ "<lambda>") ∈ T) (hu : ∀ p ∈ T, p.1 = P → p.2 = X.env.qual ++ "<lambda>") (hT : Tabs T H)
    (hfree : ∀ y ∈ t.sc.names, y.2 = .free → ∃ c, X.env.cells.lookup y.1 = some c)
    (h : ∀ f c' H1 s1, Inv X pins σ (upd H1 f (LamO t X f c' dv)) s1 → Ext P H H1 → Tabs T H1 → H1 c' = some (CodeO c' (X.env.qual ++ "<lambda>")) → H1 f = none → H f = none → Q (.ref f) s1) :
    wpAny (model X.prog X.w) X.A (makeTail "<lambda>" (X.env.qual ++ "<lambda>") t.params (.expr t.body) t.sc X.env dv .none none pos n) Q E s := by
  have last : ∀ (s0 : Shared) (ct : Value), s.heap.objs.size ≤ s0.heap.objs.size → Inv X pins σ H s0 → wpAny (model X.prog X.w) X.A (lamEnd t X ct dv pos n) Q E s0 := fun s0 ct hsz I0 => by
    unfold lamEnd
    refine wpAny_bind (code_step I0 TB hcode hm hu hT fun c' H1 s1 I1 ext tabs known sz1 => ?_)
    obtain ⟨bm, ob, b1, b2, b3, b4, b5, b6, b7, b8⟩ := TB.bm
    have G := I1.mod.glob.keeps I1.bk
    refine wpAny_bind (wpAny_builtinsFor G b1 b2 (I1.bk _ _ b5) b6 b7 b8 (wpAny_bind (wpAny_nsGet G (wpAny_newObj_type ?_ (by size_fits)))))
    have fresh : H1 s1.heap.objs.size = none := I1.hok.fresh (Nat.le_refl _)
    exact h s1.heap.objs.size c' H1 _ (I1.laid (t' := s1.toks) (fun b o e => Heap.get?_push_of_some _ e) (Nat.le_refl _) (lamO_ok (Heap.get?_push_size _ rfl))) ext tabs known fresh (I.hok.fresh (Nat.le_trans hsz sz1))
  unfold makeTail
  rw [closure_ok hfree, I.ok.glob]
  refine wpAny_bind (wpAny_pure ?_)
  cases hc : cloFrom X.env.cells t.sc.names [] with
  | nil =>
    simp only [List.isEmpty_nil, if_true]
    refine wpAny_bind (wpAny_pure ?_)
    have e := last s .none (Nat.le_refl _) I
    unfold lamEnd at e
    rw [hc] at e
    exact e
  | cons q r =>
    simp only [List.isEmpty_cons, Bool.false_eq_true, if_false]
    refine wpAny_bind (wpAny_newTextTuple ?_)
    have := last _ (.ref s.heap.objs.size) (by rw [Heap.size_push]; omega) (I.kept (t' := s.toks) fun b o e => Heap.get?_push_of_some { cls := .type "tuple", data := .seq (((q :: r).mergeSort fun a b => a.1.cps.toList ≤ b.1.cps.toList).map (Value.ref ·.2)).toArray } e)
    unfold lamEnd at this
    rw [hc] at this
    exact this
end
end My
set_option Elab.async false
set_option linter.all false
set_option maxRecDepth 100000
set_option maxHeartbeats 1000000
/-! Lambda expressions: without parameters, or with one parameter that has a default. -/
namespace My
open PySem PySem.Spec PyProof.Rows L2 LamX
section
variable {X : Cx} {T : List (Addr × Str)} {c P : Addr} {t : LamT} {pos : Pos}
theorem track_ext {H H1 : Hp} {f : Addr} {o : HO} (e : Ext P H H1) (n : H f = none) : Ext P H (upd H1 f o) := fun b u hb k => by
  have ne : b ≠ f := fun z => by rw [z, n] at hb; cases hb
  rw [upd_ne ne]
  exact e b u hb k
theorem track_tabs {H1 : Hp} {f : Addr} {o : HO} (h : Tabs T H1) (n : H1 f = none) : Tabs T (upd H1 f o) := fun p mp => (h p mp).ext fun b u hb => by
  have ne : b ≠ f := fun z => by rw [z, n] at hb; cases hb
  rw [upd_ne ne]
  exact hb
/-- what is known of a lambda's object -/
def LamIn (t : LamT) (X : Cx) (H : Hp) (f : Addr) (dv : Value) : Prop := ∃ c', H f = some (LamO t X f c' dv) ∧ H c' = some (CodeO c' (X.env.qual ++ "<lambda>"))
/-- lambda: e -/
def tLam0 (t : LamT) (X : Cx) (T : List (Addr × Str)) (P : Addr) : TE := fun σ H Q => Tabs T H ∧ ∀ H1 f, Ext P H H1 → Tabs T H1 → H f = none → LamIn t X H1 f .none → Q (.ref f) H1
/-- lambda a=d: e -/
def tLam1 (t : LamT) (X : Cx) (T : List (Addr × Str)) (P : Addr) (td : TE) : TE := fun σ H Q => td σ H fun v H0 => Tabs T H0 ∧ ∀ H1 f d, Ext P H0 H1 → Tabs T H1 → H0 f = none → H0 d = none → H1 d = some (.tup [v]) → LamIn t X H1 f (.ref d) → Q (.ref f) H1
theorem pe_lam0 (TB : TabB X.base X.mg c P) (hcode : X.env.code = .ref c) (hm : (P, X.env.qual ++ "<lambda>") ∈ T) (hu : ∀ p ∈ T, p.1 = P → p.2 = X.env.qual ++ "<lambda>") (hfree : X.Ok → ∀ y ∈ t.sc.names, y.2 = .free → ∃ c, X.env.cells.lookup y.1 = some c) (hdef : defaultsOf t.params X.env = ([], [])) :
    PE X (.Lambda t.params t.body t.sc pos) (tLam0 t X T P) := ⟨fun pins s σ H Q I ⟨hT, h⟩ => by
  refine PySem.W.kla_eval hdef ?_
  rw [makeFunction_eq]
  simp only [List.zip_nil_right, List.filterMap_nil, List.isEmpty_nil, if_true, pure_bind]
  exact tail_step I TB hcode hm hu hT (hfree I.ok) fun f c' H1 s1 J e tb known n1 n => ⟨.ref f, _, J, rfl, h _ f (track_ext e n) (track_tabs tb n1) n ⟨c', upd_same, by
    have ne : c' ≠ f := fun z => by rw [z, n1] at known; cases known
    rw [upd_ne ne]
    exact known⟩⟩⟩
theorem pe_lam1 {e0 : Expr} {td : TE} (TB : TabB X.base X.mg c P) (hcode : X.env.code = .ref c) (hm : (P, X.env.qual ++ "<lambda>") ∈ T) (hu : ∀ p ∈ T, p.1 = P → p.2 = X.env.qual ++ "<lambda>") (hfree : X.Ok → ∀ y ∈ t.sc.names, y.2 = .free → ∃ c, X.env.cells.lookup y.1 = some c) (hdef : defaultsOf t.params X.env = ([eval e0 X.env], [])) (hk : t.params.kwonlyargs = [])
    (he : PE X e0 td) : PE X (.Lambda t.params t.body t.sc pos) (tLam1 t X T P td) := ⟨fun pins s σ H Q I h => by
  rw [arm_eval_Lambda, hdef]
  show wpAny _ _ (do let dv ← evalAll [eval e0 X.env]; let kdv ← holding dv (evalAllOpt []); makeFunction "<lambda>" (X.env.qual ++ "<lambda>") t.params (.expr t.body) t.sc X.env dv kdv [] pos pos.line) _ _ _
  refine wpAny_bind ?_
  show wpAny _ _ (do let v ← eval e0 X.env; return v :: (← holding [v] (evalAll []))) _ _ _
  refine wpAny_bind (wpAny_mono (he.run pins s σ H _ I h) (fun u s0 ⟨v, H0, I0, rv, hT, k⟩ => ?_) fun _ _ z => z)
  refine wpAny_bind (wpAny_holding (wpAny_pure (wpAny_pure (wpAny_bind (wpAny_holding (wpAny_pure ?_))))))
  rw [makeFunction_eq, hk]
  simp only [List.zip_nil_left, List.filterMap_nil, List.isEmpty_nil, List.isEmpty_cons, Bool.false_eq_true, if_true, if_false, pure_bind]
  refine wpAny_bind (wpAny_newTextTuple ?_)
  have nd : H0 s0.heap.objs.size = none := I0.hok.fresh (Nat.le_refl _)
  have I1 := I0.laid (t' := s0.toks) (a := s0.heap.objs.size) (o := .tup [v]) (h' := s0.heap.push { cls := .type "tuple", data := .seq [u].toArray }) (fun b o e => Heap.get?_push_of_some _ e) (Nat.le_refl _) ⟨sz (by show 1 ≤ 100000; decide), [u], .cons rv .nil, ⟨_, Heap.get?_push_size _ rfl, rfl, _, rfl⟩⟩
  exact tail_step I1 TB hcode hm hu (track_tabs hT nd) (hfree I1.ok) fun f c' H1 s1 J e tb known n1 n => by
    have hd : H1 s0.heap.objs.size = some (.tup [v]) := e _ _ upd_same fun z => by
      obtain ⟨ps, hP, _⟩ := hT _ hm
      rw [← z, nd] at hP
      cases hP
    have nfd : s0.heap.objs.size ≠ f := fun z => by rw [z, n1] at hd; cases hd
    have n0 : H0 f = none := by rw [upd_ne (Ne.symm nfd)] at n; exact n
    have e0 : Ext P H0 H1 := fun b o hb no => e b o (by rw [upd_ne fun z => by rw [z, nd] at hb; cases hb]; exact hb) no
    exact ⟨.ref f, _, J, rfl, k _ f s0.heap.objs.size (track_ext e0 n0) (track_tabs tb n1) n0 nd (by rw [upd_ne nfd]; exact hd) ⟨c', upd_same, by
      have ne : c' ≠ f := fun z => by rw [z, n1] at known; cases known
      rw [upd_ne ne]
      exact known⟩⟩⟩
end
end My
set_option Elab.async false
set_option linter.all false
set_option maxRecDepth 100000
set_option maxHeartbeats 1000000
/-! A known lambda is called: at any depth below the frame that made it, its parameter at its default. -/
namespace My
open PySem PySem.Spec PyProof.Rows L2 LamX
/-- the names of a lambda: captured ones, globals, and a parameter that its maker does not know -/
structure LamN (X : Cx) (scope : Scope) : Prop where
  kind : scope.kind = .function
  co : scope.isCoroutine = false
  gen : scope.isGenerator = false
  nocell : ∀ y ∈ scope.names, y.2 ≠ .cell
  own : ∀ y ∈ scope.names, y.2 = .local → y.1 ∉ X.N
  free : ∀ y ∈ scope.names, y.2 = .free → X.env.scope.names.lookup y.1 = some .cell ∨ X.env.scope.names.lookup y.1 = some .free
section
variable {X : Cx} {pins : List (Addr × Obj)} {σ : L2.St} {H HZ : Hp} {s s1 : Shared}
theorem LamN.has {sc : Scope} (L : LamN X sc) (ok : X.Ok) : ∀ y ∈ sc.names, y.2 = .free → ∃ c, X.env.cells.lookup y.1 = some c := fun y m e => ok.has _ (L.free y m e)
/-- the tuple of defaults holds us -/
def DvIn (h : Heap) (dv : Value) (us : List Value) : Prop := (dv = .none ∧ us = []) ∨ ∃ d, dv = .ref d ∧ IsTup h d us.toArray
def DvAt (H : Hp) (dv : Value) (vs : List V) : Prop := (dv = .none ∧ vs = []) ∨ ∃ d, dv = .ref d ∧ H d = some (.tup vs)
end
end My
set_option Elab.async false
set_option linter.all false
set_option maxRecDepth 100000
set_option maxHeartbeats 1000000
/-! A method of an own class called by keyword; defs that let errors out, in the flavour that hot calls want. -/
namespace My
open PySem PySem.Spec PyProof.Rows L2
/-- o.m(k=e, ..) of an instance of the class at C -/
def tMethN (C : Addr) (m : Str) (n : Nat) (sp : Sp) (gV : List V → List V → List V) (E : XK) (ta : TE) (tk : TA) : TE := fun σ H Q => ta σ H fun x H1 => ∃ a dx fs, x = .ref a ∧ H1 a = some (.ins C dx fs) ∧ fs.lookup m = none ∧ tk σ H1 fun zs H2 => zs.length = n ∧ sp (gV [x] zs) H2 Q E
section
variable {X : Cx} {CX : CXT} {k : Nat} {f C : Addr} {fd : FuncData} {ps ks : List Str} {sp : Sp} {E : XK} {m : Str} {pos apos : Pos} {o : Expr} {kws : List Keyword} {ta : TE} {tk : TA} {g : List Value → List Value → List Value} {gV : List V → List V → List V}
theorem pe_methK {pl : Sem Bool} (he : PE X o ta) (c : Cls X.K C) (hm : Meth X.K C m f) (F : FnOk X.prog X.w X.K X.mg X.base CX k f fd ps sp) (hr : Room k X.A) (hb : KBn X.K fd ps 1 ks g gV) (hx : Passes CX X E) (hkw : PK X kws tk)
    (plain : ((backTo pos (starEach [] X.env)).any (·.1) || (backToKw pos (keywordEach kws X.env)).any (·.1.isNone)) = false := by rfl) (named : (backToKw pos (keywordEach kws X.env)).all (·.1.isSome) = true := by rfl)
    (names : (backToKw pos (keywordEach kws X.env)).filterMap (·.1) = ks := by rfl)
    (ht : eval (.Call (.Attribute o m apos) [] kws pos) X.env = (do
      let ov ← eval o X.env
      standAt apos.atName
      let (fn, self) ← holding [ov] (getMethod ov m pl)
      callWith pos fn self (backTo pos (starEach [] X.env)) (backToKw pos (keywordEach kws X.env))) := by rfl) :
    PE X (.Call (.Attribute o m apos) [] kws pos) (tMethN C m ks.length sp gV E ta tk) := ⟨fun pins s σ H Q I h => by
  have obj := he.run pins s σ H _ I h
  refine PySem.W.methodCall_KW (pl := pl) (thn obj fun u s1 ⟨x, H1, I1, rx, a, dx, fs, ex, there, none_, want1⟩ => ?_) ht
  subst ex
  have eu : u = Value.ref a := rx
  subst eu
  have go := hkw.run pos pins s1 σ H1 _ I1 want1
  refine getmeth_ok I1 there c hm none_ (PySem.W.callWith_KW0 (first := [.ref a]) (h₀ := X.base) I1.ok.mod.kin hm.kp named (thn go fun vals s2 ⟨zs, H2, I2, rz, n1, want⟩ => ⟨I2.kIn, ?_⟩) plain)
  rw [names]
  exact run_fnN (us := [.ref a]) (vs := [.ref a]) F hr hb hx I2 (.cons rfl .nil) rz rfl n1 want⟩
end
section
variable {P : Program} {w : World} {K : PySem.W.Frag} {mg : Str → Option Value} {base : Heap}
/-- a def that may let errors out -/
theorem fun_okN {x qual : Str} {st : Stmt} {f : Addr} {fd : FuncData} {N ps : List Str} {k : Nat} {sp : Sp} (F : Fun K x qual st f fd) (S : FnScope N ps (defScope st)) (len : ∀ vs H Q E, sp vs H Q E → vs.length = ps.length)
    (runs : ∀ (cdv : Value) (A : Around) (outer : List Env) (s : Shared) (H : Hp) (vs : List V) (Q : VK) (E : XK), Room k (A.deeper (envOfC qual (defScope st) s.heap.objs.size f cdv)) → sp vs H Q E →
      L2N.Takes (cxOf (L2N.CX P w) P w K mg base N qual (defScope st) f cdv A outer s H E) (fun cls d _ H' => E cls d H') →
      ∃ t, PSs (cxOf (L2N.CX P w) P w K mg base N qual (defScope st) f cdv A outer s H E) (defBody st) t ∧ t { nx := fun _ H' => Q .non H', rt := Q } (start N vs) H) : FnOk P w K mg base (L2N.CX P w) (k + 1) f fd ps sp := by
  obtain ⟨_, _, _, _, _, _, code, _, _, rfl, at_, coded⟩ := F.ex
  exact fn_of at_ coded S len fun A outer s H vs Q E hr h => runs code A outer s H vs Q E hr h (L2N.takes_of rfl rfl rfl rfl)
theorem passN0 {X : Cx} : Passes (L2N.CX X.prog X.w) X E0 := fun _ _ _ _ _ _ _ ⟨_, _, _, _, _, _, _, _, _, _, _, _, h⟩ => h.elim
end
end My
set_option Elab.async false
set_option linter.all false
set_option maxRecDepth 100000
set_option maxHeartbeats 1000000
/-! A walk over zip(xs, ys), xs a list and ys a tuple. -/
namespace My
open PySem PySem.Spec PyProof.Rows L2
end My
set_option Elab.async false
set_option linter.all false
set_option maxRecDepth 100000
set_option maxHeartbeats 2000000
/-! xs * n of a tuple, n = 1 too: then it is the tuple itself. -/
namespace My
open PySem PySem.Spec PyProof.Rows L2
end My
set_option Elab.async false
set_option linter.all false
set_option maxRecDepth 100000
set_option maxHeartbeats 1000000
/-! A lambda that is called anywhere (in a comprehension too): the cells that it reads are things of the heap while its maker waits. -/
namespace My
open PySem PySem.Spec PyProof.Rows L2 LamX
/-- cells that lie still: what stands where -/
abbrev Still := Addr → Option Obj
def kept (cl : Still) (H : Hp) : Hp := fun b => match cl b with
  | some o => some (.ext fun h => h.get? b = some o)
  | none => H b
def loose (cl : Still) (H : Hp) : Hp := fun b => match cl b with
  | some _ => none
  | none => H b
def KeptIn (cl : Still) (H : Hp) : Prop := ∀ b o, cl b = some o → H b = some (.ext fun h => h.get? b = some o)
section
variable {cl : Still} {H : Hp} {b : Addr} {o : Obj} {u : HO}
theorem kept_at (e : cl b = some o) : kept cl H b = some (.ext fun h => h.get? b = some o) := by unfold kept; rw [e]
theorem kept_no (e : cl b = none) : kept cl H b = H b := by unfold kept; rw [e]
theorem loose_at (e : cl b = some o) : loose cl H b = none := by unfold loose; rw [e]
theorem loose_no (e : cl b = none) : loose cl H b = H b := by unfold loose; rw [e]
theorem kept_in : KeptIn cl (kept cl H) := fun _ _ e => kept_at e
theorem loose_none (n : H b = none) : loose cl H b = none := by
  cases e : cl b with
  | some o => exact loose_at e
  | none => rw [loose_no e, n]
/-- what is no cell of ours -/
theorem KeptIn.other (k : KeptIn cl H) (h : H b = some u) (n : ∀ φ, u ≠ .ext φ) : cl b = none := by
  cases e : cl b with
  | none => rfl
  | some o =>
    rw [k b o e] at h
    exact absurd (Option.some.inj h).symm (n _)
theorem KeptIn.out (k : KeptIn cl H) (h : H b = none) : cl b = none := by
  cases e : cl b with
  | none => rfl
  | some o => rw [k b o e] at h; cases h
def Apart (cl : Still) (H : Hp) : Prop := ∀ b o, cl b = some o → H b = none
theorem Apart.other (n : Apart cl H) (h : H b = some u) : cl b = none := by
  cases e : cl b with
  | none => rfl
  | some o => rw [n b o e] at h; cases h
theorem Apart.stay (n : Apart cl H) (h : H b = some u) : kept cl H b = some u := by rw [kept_no (n.other h), h]
theorem loose_kept (n : Apart cl H) : loose cl (kept cl H) = H := by
  funext b
  cases e : cl b with
  | some o => rw [loose_at e, n b o e]
  | none => rw [loose_no e, kept_no e]
def There (cl : Still) (h : Heap) : Prop := ∀ b o, cl b = some o → h.get? b = some o
variable {P : Program} {w : World} {h : Heap}
theorem hok_kept (ok : HOk P w H h) (n : Apart cl H) (at_ : There cl h) : HOk P w (kept cl H) h := fun b u e => by
  cases q : cl b with
  | some o =>
    rw [kept_at q] at e
    cases e
    exact ⟨at_ b o q, ⟨o, at_ b o q⟩, fun _ _ p k => k o p⟩
  | none =>
    rw [kept_no q] at e
    exact (ok b u e).stay (fun _ _ _ z => z) (fun _ z => n.stay z) fun _ _ z => n.stay z
theorem hok_loose (ok : HOk P w H h) (k : KeptIn cl H) : HOk P w (loose cl H) h := fun b u e => by
  cases q : cl b with
  | some o => rw [loose_at q] at e; cases e
  | none =>
    rw [loose_no q] at e
    exact (ok b u e).stay (fun _ _ _ z => z) (fun _ z => by rw [loose_no (k.other z fun _ y => by cases y)]; exact z) fun _ _ z => by rw [loose_no (k.other z fun _ y => by cases y)]; exact z
theorem KeptIn.there (k : KeptIn cl H) (ok : HOk P w H h) : There cl h := fun b o e => (ok b _ (k b o e)).1
end
section
variable {P : Program} {w : World} {K : PySem.W.Frag} {mg : Str → Option Value} {base : Heap} {A : Around} {outer : List Env} {s s' : Shared} {H : Hp} {cl : Still} {Q : VK} {E : XK} {u : Value}
theorem env0_loose (e0 : Env0 P w K mg base A outer s H) (k : KeptIn cl H) : Env0 P w K mg base A outer s (loose cl H) := ⟨e0.frames, e0.mod, fun b o e => ⟨(e0.bs b o e).1, loose_none (e0.bs b o e).2⟩, e0.bsz, e0.funs, fun b m => loose_none (e0.frf b m), hok_loose e0.hok k, e0.bare⟩
theorem env0_kept (e0 : Env0 P w K mg base A outer s H) (n : Apart cl H) (at_ : There cl s.heap) (nb : ∀ b o, base.get? b = some o → cl b = none) (nf : ∀ b ∈ frs outer, cl b = none) : Env0 P w K mg base A outer s (kept cl H) :=
  ⟨e0.frames, e0.mod, fun b o e => ⟨(e0.bs b o e).1, by rw [kept_no (nb b o e)]; exact (e0.bs b o e).2⟩, e0.bsz, e0.funs, fun b m => by rw [kept_no (nf b m)]; exact e0.frf b m, hok_kept e0.hok n at_, e0.bare⟩
/-- behind the lambda: its cells are things again -/
theorem ce_kept (e0 : Env0 P w K mg base A outer s H) (k : KeptIn cl H) (h : CE outer P w (loose cl H) s (fun v H1 => Apart cl H1 → Q v (kept cl H1)) u s') : CE outer P w H s Q u s' := by
  obtain ⟨v, H1, os, bare, un, ok1, r, q⟩ := h
  have at0 := k.there e0.hok
  have nf : ∀ b o, cl b = some o → b ∉ frs outer := fun b o e z => by
    have := e0.frf b z
    rw [k b o e] at this
    cases this
  have at1 : There cl s'.heap := fun b o e => un.keep b o (at0 b o e) (loose_at e) (nf b o e) (by simp)
  have n1 : Apart cl H1 := fun b o e => un.free b o (at0 b o e) (loose_at e) (by simp)
  refine ⟨v, kept cl H1, os, bare, ⟨fun b o e n => un.keep b o e (loose_none n), fun b o e n => un.slot b o e (loose_none n), fun b o e n x => ?_, un.there, fun b xs e => ?_, fun b o' u' e => ?_, fun b ps e => ?_⟩, hok_kept ok1 n1 at1, r, q n1⟩
  · rw [kept_no (k.out n)]
    exact un.free b o e (loose_none n) x
  · have z := k.other e fun _ y => by cases y
    rw [kept_no z]
    exact un.tups b xs (by rw [loose_no z]; exact e)
  · have z := k.other e fun _ y => by cases y
    rw [kept_no z]
    exact un.frzs b o' u' (by rw [loose_no z]; exact e)
  · have z := k.other e fun _ y => by cases y
    rw [kept_no z]
    exact un.tbls b ps (by rw [loose_no z]; exact e)
theorem cx_kept (e0 : Env0 P w K mg base A outer s H) (k : KeptIn cl H) (h : L2N.CX P w outer (loose cl H) s (fun c d H1 => Apart cl H1 → E c d (kept cl H1)) u s') : L2N.CX P w outer H s E u s' := by
  obtain ⟨a, B, H1, cls, d, rfl, fl, ok1, ub, na, os, ag, q⟩ := h
  have at0 := k.there e0.hok
  have nf : ∀ b o, cl b = some o → b ∉ frs outer := fun b o e z => by
    have := e0.frf b z
    rw [k b o e] at this
    cases this
  have at1 : There cl B := fun b o e => ub.keep b o (at0 b o e) (loose_at e) (nf b o e)
  have n1 : Apart cl H1 := fun b o e => ub.free b o (at0 b o e) (loose_at e)
  have out : cl a = none := by
    cases e : cl a with
    | none => rfl
    | some o =>
      have z := at1 a o e
      rw [fl.2.1] at z
      cases z
  refine ⟨a, B, kept cl H1, cls, d, rfl, fl, hok_kept ok1 n1 at1, ⟨fun b o e n => ub.keep b o e (loose_none n), ub.slot, fun b o e n => ?_, ub.there, fun b xs e => ?_, fun b o' u' e => ?_, fun b ps e => ?_⟩, by rw [kept_no out]; exact na, os, ag, q n1⟩
  · rw [kept_no (k.out n)]
    exact ub.free b o e (loose_none n)
  · have z := k.other e fun _ y => by cases y
    rw [kept_no z]
    exact ub.tups b xs (by rw [loose_no z]; exact e)
  · have z := k.other e fun _ y => by cases y
    rw [kept_no z]
    exact ub.frzs b o' u' (by rw [loose_no z]; exact e)
  · have z := k.other e fun _ y => by cases y
    rw [kept_no z]
    exact ub.tbls b ps (by rw [loose_no z]; exact e)
/-- behind the call at the maker's: its cells are its own again -/
theorem ce_loose (n : Apart cl H) (at_ : There cl s.heap) (nf : ∀ b ∈ frs outer, cl b = none) (h : CE outer P w (kept cl H) s (fun v H1 => KeptIn cl H1 ∧ Q v (loose cl H1)) u s') : CE outer P w H s Q u s' := by
  obtain ⟨v, H1, os, bare, un, ok1, r, kin, q⟩ := h
  refine ⟨v, loose cl H1, os, bare, ⟨fun b o e nb hb hx => ?_, fun b o e nb hb hx => un.slot b o e (by rw [kept_no (nf b hb)]; exact nb) hb hx, fun b o e nb hx => ?_, un.there, fun b xs e => ?_, fun b o' u' e => ?_, fun b ps e => ?_⟩, hok_loose ok1 kin, r, q⟩
  · cases z : cl b with
    | some o2 =>
      have e2 := at_ b o2 z
      rw [e] at e2
      cases e2
      exact kin.there ok1 b o z
    | none => exact un.keep b o e (by rw [kept_no z]; exact nb) hb hx
  · cases z : cl b with
    | some o2 => exact loose_at z
    | none => rw [loose_no z]; exact un.free b o e (by rw [kept_no z]; exact nb) hx
  · rw [loose_no (n.other e)]
    exact un.tups b xs (n.stay e)
  · rw [loose_no (n.other e)]
    exact un.frzs b o' u' (n.stay e)
  · rw [loose_no (n.other e)]
    exact un.tbls b ps (n.stay e)
end
end My
set_option Elab.async false
set_option linter.all false
set_option maxRecDepth 100000
set_option maxHeartbeats 1000000
/-! A lambda by its cells: its body begins, x() calls it. -/
namespace My
open PySem PySem.Spec PyProof.Rows L2 LamX
/-- the cells of X as they stand in s -/
def cellsOf (X : Cx) (s : Shared) : Still := fun b => if b ∈ X.env.cells.map (·.2) then s.heap.get? b else none
/-- what X's cells hold, by σ -/
structure Caps (X : Cx) (σ : L2.St) (cl : Still) : Prop where
  ok : X.Ok
  len : σ.length = X.N.length
  cell : ∀ (y : Str) (c : Addr), X.env.cells.lookup y = some c → ∃ o v, cl c = some o ∧ o.data = .cell v
  val : ∀ (i : Nat) (y : Str) (v : V) (c : Addr), X.N[i]? = some y → σ[i]? = some (some v) → (X.env.scope.names.lookup y = some .cell ∨ X.env.scope.names.lookup y = some .free) → X.env.cells.lookup y = some c → ∃ o u, cl c = some o ∧ RelV v u ∧ o.data = .cell (some u)
section
variable {X : Cx} {pins : List (Addr × Obj)} {σ : L2.St} {H HZ : Hp} {s s1 : Shared} {cl : Still} {t : LamT}
theorem cellsOf_at {y : Str} {c : Addr} (h : X.env.cells.lookup y = some c) : cellsOf X s c = s.heap.get? c := if_pos (List.mem_map.mpr ⟨_, PySem.mem_of_lookup h, rfl⟩)
theorem caps_of (I : Inv X pins σ H s) : Caps X σ (cellsOf X s) where
  ok := I.ok
  len := I.len
  cell y c e := by
    obtain ⟨v, o, ho, hd⟩ := I.cell y c e
    exact ⟨o, v, (cellsOf_at e).trans ho, hd⟩
  val i y v c hN hv hk e := by
    obtain ⟨m, _, hl⟩ := I.loc
    obtain ⟨u, r, q⟩ := hl i y v hN hv (hk.elim (fun k => .inr (.inl k)) fun k => .inr (.inr k))
    rcases q with ⟨k, _⟩ | ⟨_, c3, e3, o, ho, hd⟩
    · have k : X.env.scope.names.lookup y = some .local := k
      rcases hk with k2 | k2 <;> rw [k2] at k <;> cases k
    · rw [e] at e3
      cases e3
      exact ⟨o, u, (cellsOf_at e).trans ho, r, hd⟩
theorem cellsOf_there : There (cellsOf X s) s.heap := fun b o e => by
  unfold cellsOf at e
  split at e
  · exact e
  · cases e
/-- X's cells by name -/
theorem cellsOf_mem {b : Addr} {o : Obj} (e : cellsOf X s b = some o) : ∃ p ∈ X.env.cells, p.2 = b := by
  unfold cellsOf at e
  split at e
  · rename_i m
    exact List.mem_map.mp m
  · cases e
/-- fewer slots are told -/
theorem Caps.less {σ' : L2.St} (cs : Caps X σ cl) (hm : ∀ (i : Nat) (v : V), σ'[i]? = some (some v) → σ[i]? = some (some v)) (hl : σ'.length = σ.length) : Caps X σ' cl := ⟨cs.ok, hl.trans cs.len, cs.cell, fun i y v c a b k e => cs.val i y v c a (hm i v b) k e⟩
theorem less_refl : ∀ (i : Nat) (v : V), σ[i]? = some (some v) → σ[i]? = some (some v) := fun _ _ h => h
/-- the names of a lambda: captured ones, globals, its own -/
structure LamC (X : Cx) (scope : Scope) : Prop where
  kind : scope.kind = .function
  co : scope.isCoroutine = false
  gen : scope.isGenerator = false
  nocell : ∀ y ∈ scope.names, y.2 ≠ .cell
  free : ∀ y ∈ scope.names, y.2 = .free → X.env.scope.names.lookup y.1 = some .cell ∨ X.env.scope.names.lookup y.1 = some .free
def lamCB (sc scope : Scope) : Bool :=
  decide (scope.kind = .function) && (!scope.isCoroutine && (!scope.isGenerator && scope.names.all fun y => match y.2 with
    | .cell => false
    | .free => decide (sc.names.lookup y.1 = some .cell) || decide (sc.names.lookup y.1 = some .free)
    | _ => true))
theorem lamC_by {scope : Scope} (h : lamCB X.env.scope scope = true) : LamC X scope := by
  unfold lamCB at h
  obtain ⟨h1, h⟩ := Bool.and_eq_true_iff.mp h
  obtain ⟨h2, h⟩ := Bool.and_eq_true_iff.mp h
  obtain ⟨h3, h⟩ := Bool.and_eq_true_iff.mp h
  have each := List.all_eq_true.mp h
  refine ⟨of_decide_eq_true h1, by simpa using h2, by simpa using h3, fun y m e => ?_, fun y m e => ?_⟩
  · have := each y m
    rw [e] at this
    cases this
  · have := each y m
    rw [e] at this
    simpa using this
theorem LamC.has {sc : Scope} (L : LamC X sc) (ok : X.Ok) : ∀ y ∈ sc.names, y.2 = .free → ∃ c, X.env.cells.lookup y.1 = some c := fun y m e => ok.has _ (L.free y m e)
/-- no slot that is told has a name of the lambda's own -/
def Hides (N : List Str) (sc : Scope) (σ : L2.St) : Prop := ∀ (i : Nat) (y : Str) (v : V), N[i]? = some y → sc.names.lookup y = some .local → σ[i]? ≠ some (some v)
def hidesB (N : List Str) (sc : Scope) (bs : List Bool) : Bool := (N.zip bs).all fun p => !(p.2 && decide (sc.names.lookup p.1 = some .local))
theorem hides_by {N : List Str} {sc : Scope} {bs : List Bool} (hb : σ.map Option.isSome = bs) (h : hidesB N sc bs = true) : Hides N sc σ := fun i y v hN hl e => by
  have hz : (N.zip bs)[i]? = some (y, true) := List.getElem?_zip_eq_some.mpr ⟨hN, by rw [← hb, List.getElem?_map, e]; rfl⟩
  have := List.all_eq_true.mp h _ (List.mem_of_getElem? hz)
  rw [show decide (sc.names.lookup (y, true).1 = some .local) = true from decide_eq_true hl] at this
  cases this
/-- the lambda's body begins where its cells lie still -/
theorem cap_begins {A : Around} {outer : List Env} {E : XK} {f c' : Addr} {h2 : Heap} {tk : Nat} {m : Str → Option Value} (cs : Caps X σ cl) (L : LamC X t.sc) (hid : Hides X.N t.sc σ) (e0 : Env0 X.prog X.w X.K X.mg X.base A outer s1 HZ) (hd : A.handled = none) (n : Apart cl HZ) (at_ : There cl s1.heap)
    (ns : h2.Ns s1.heap.objs.size m) (kp : ∀ b o, s1.heap.get? b = some o → h2.get? b = some o) : Inv (t.cx X A outer s1 HZ E f c') [] σ HZ { s1 with heap := h2, toks := tk } := by
  have mine : ∀ {y c}, (cloFrom X.env.cells t.sc.names []).lookup y = some c → X.env.cells.lookup y = some c := fun {y c} e => by
    rcases cloFrom_mem (PySem.mem_of_lookup e) with w | ⟨w1, w2⟩
    · cases w
    · obtain ⟨c1, e1⟩ := L.has cs.ok _ w1 rfl
      have e1 : X.env.cells.lookup y = some c1 := e1
      rw [e1] at w2
      rw [e1, w2]
      rfl
  have held : ∀ {y}, t.sc.names.lookup y = some .free → ∃ c, (cloFrom X.env.cells t.sc.names []).lookup y = some c := fun {y} e => mem_lookup (cloFrom_has (cells := X.env.cells) (acc := []) (PySem.mem_of_lookup e))
  have none_ : ∀ b : Addr, ¬ b ∈ (t.cx X A outer s1 HZ E f c').ex := fun b z => absurd (show b ∈ ([] : List Addr) from z) (by simp)
  exact {
    ok := {
      mod := e0.mod
      kind := L.kind
      glob := rfl
      blt := rfl
      above := Nat.le_refl _
      inj := fun y z c a b => cs.ok.inj y z c (mine a) (mine b)
      has := fun y hy => by
        have hy : t.sc.names.lookup y = some .cell ∨ t.sc.names.lookup y = some .free := hy
        exact hy.elim (fun w => absurd rfl (L.nocell _ (PySem.mem_of_lookup w))) held
      cab := fun y c z _ => Bool.noConfusion (show false = true from z)
      hd := fun _ => hd
      frames := Around.frames_deeper e0.frames
      stk := .inr ⟨rfl, rfl⟩
      exf := fun b z => absurd z (none_ b)
      bs := e0.bs
      bsz := e0.bsz
      noex := fun b _ _ => none_ b
      exfs := fun b z => absurd z (none_ b)
      funs := e0.funs
      frf := e0.frf }
    os := rfl
    bare := e0.bare
    base := Un.kept kp
    loc := ⟨m, ns, fun i y v a b vis => by
      have vis : Vis t.sc y := vis
      rcases vis with w | w | w
      · exact absurd b (hid i y v a w)
      · exact absurd rfl (L.nocell _ (PySem.mem_of_lookup w))
      · obtain ⟨c2, e2⟩ := held w
        obtain ⟨o, u, lk, r, dat⟩ := cs.val i y v c2 a b (L.free _ (PySem.mem_of_lookup w) rfl) (mine e2)
        exact ⟨u, r, .inr ⟨.inr w, c2, e2, o, kp _ _ (at_ _ _ lk), dat⟩⟩⟩
    cell := fun y c e => by
      obtain ⟨o, v, lk, dat⟩ := cs.cell y c (mine e)
      exact ⟨v, o, kp _ _ (at_ _ _ lk), dat⟩
    free := e0.hok.fresh (Nat.le_refl _)
    freeC := fun y c e => by
      obtain ⟨o, v, lk, _⟩ := cs.cell y c (mine e)
      exact n c o lk
    pin := fun q z => absurd (show q ∈ ([] : List (Addr × Obj)) ++ [] from z) (by simp)
    hok := e0.hok.kept kp
    len := cs.len }
/-- what is wished of f(), f a lambda whose cells are things of the heap -/
def tCap (X : Cx) (t : LamT) (cl : Still) (σ : L2.St) (i n : Nat) (dv : Value) (f : Addr) (E : XK) (tb : XK → TE) : TE := fun σz Hz Q => σz[i]? = some (some (.ref f)) ∧ LamIn t X Hz f dv ∧ (∃ vs, DvAt Hz dv vs ∧ vs.length = n) ∧ KeptIn cl Hz ∧
  tb (fun c d H1 => Apart cl H1 → E c d (kept cl H1)) σ (loose cl Hz) fun v H1 => Apart cl H1 → Q v (kept cl H1)
theorem pe_cap {CXg : CXT} {Eg E : XK} {Ng as : List Str} {qg a : Str} {sg : Scope} {g f : Addr} {cdg dv : Value} {k i : Nat} {pn : List (Addr × Obj)} {xe : Value → Shared → Prop} {W : WX} {tb : XK → TE} {p1 p2 : Pos} {A : Around} {outer : List Env} {s0 : Shared} {H0 : Hp}
    (cs : Caps X σ cl) (L : LamC X t.sc) (hid : Hides X.N t.sc σ)
    (hbind : ∀ (pm ct : Value) (c' : Addr) (s2 : Shared) (us : List Value), DvIn s2.heap dv us → us.length = as.length → BindsTo s2 { t.fd X pm ct c' with defaults := dv } ⟨[], []⟩ (as.zip us))
    (has : ∀ y ∈ as, t.sc.names.lookup y = some .local)
    (tk : L2N.Takes ((cxOf CXg X.prog X.w X.K X.mg X.base Ng qg sg g cdg A outer s0 H0 Eg).tr pn xe) W) (hW : ∀ cls d σ' H', σ'.length = Ng.length → E cls d H' → W cls d σ' H')
    (hr : Room (k + 1) (A.deeper (envOfC qg sg s0.heap.objs.size g cdg)))
    (hb : ∀ (E2 : XK) (A2 : Around) (l2 : List Env) (s2 : Shared) (H2 : Hp) (c' : Addr), Room k (A2.deeper (lamEnv X t.sc s2.heap.objs.size f c')) → PE (t.cx X A2 l2 s2 H2 E2 f c') t.body (tb E2))
    (hN : Ng[i]? = some a) (hv : Vis sg a) (ha : (a == ("__debug__" : Str)) = false := by decide) (ha2 : (a == ("__classdict__" : Str)) = false := by decide) :
    PE ((cxOf CXg X.prog X.w X.K X.mg X.base Ng qg sg g cdg A outer s0 H0 Eg).tr pn xe) (.Call (.Name a p1) [] [] p2) (tCap X t cl σ i as.length dv f E tb) := by
  refine ⟨fun pz sz σz Hz Q Iz ⟨e1, ⟨c', eO, eC⟩, ⟨vs, hdv, hlen⟩, kin, e3⟩ => ?_⟩
  have look := (pe_var (X := (cxOf CXg X.prog X.w X.K X.mg X.base Ng qg sg g cdg A outer s0 H0 Eg).tr pn xe) (pos := p1) (i := i) hN hv ha ha2).run pz sz σz Hz (fun v G => v = .ref f ∧ G = Hz) Iz ⟨.ref f, e1, rfl, rfl⟩
  refine wpAny_Call_Name_kw (thn look fun u s1 ⟨v, G, I1, r1, ev, eG⟩ => ?_)
  subst ev eG
  have eu : u = .ref f := r1
  subst eu
  obtain ⟨⟨pm, ct, there⟩, _, _⟩ := I1.hok f _ eO
  obtain ⟨⟨oc, fs, tq, hoc, hdc, hvc⟩, _, _⟩ := I1.hok c' _ eC
  have hdef : ∃ us, DvIn s1.heap dv us ∧ us.length = as.length := by
    rcases hdv with ⟨rfl, rfl⟩ | ⟨d, rfl, ed⟩
    · exact ⟨[], .inl ⟨rfl, rfl⟩, hlen⟩
    · obtain ⟨_, its, rv, it⟩ := I1.hok d _ ed
      exact ⟨its, .inr ⟨d, rfl, it⟩, rv.length.symm.trans hlen⟩
  obtain ⟨us, hin, hul⟩ := hdef
  have e0 := I1.env0
  have el := env0_loose e0 kin
  refine PySem.W.callWith_F0 ⟨_, _, _, _, there⟩ (wpAny_call ?_)
  have runs : codeAny (model X.prog X.w) (A.deeper (envOfC qg sg s0.heap.objs.size g cdg)) (.call (.ref f) ⟨[], []⟩) (CR (L2N.CX X.prog X.w) (envOfC qg sg s0.heap.objs.size g cdg :: outer) X.prog X.w (loose cl G) s1 (fun v H1 => Apart cl H1 → Q v (kept cl H1)) fun c d H1 => Apart cl H1 → E c d (kept cl H1)) s1 := by
    refine PySem.W.kla_callFunE hr.depth there rfl L.co L.gen rfl ⟨c', oc, fs, tq, rfl, hoc, hdc, hvc⟩ (hbind pm ct c' s1 us hin hul _ _ _ _ ?_)
    refine wpAny_newFunctionEnv L.nocell (fun y m => has _ (List.of_mem_zip m).1) (fun h2 ns2 but => ⟨I1.nolimit.fresh _ but, ?_⟩) L.kind
    have more : ∀ b o, s1.heap.get? b = some o → h2.get? b = some o := fun b o e => but.extBut b o (Nat.ne_of_lt (Heap.lt_size e)) (Heap.get?_push_of_some _ e)
    have J := cap_begins (E := fun c d H1 => Apart cl H1 → E c d (kept cl H1)) (t := t) (tk := s1.toks + (as.zip us).length) (f := f) (c' := c') cs L hid el hr.hd (fun b o e => loose_at e) (kin.there e0.hok) ns2 more
    exact PySem.W.kla_codeExpr (wpAny_mono ((hb _ _ _ s1 (loose cl G) c' (hr.deeper _)).run [] _ _ (loose cl G) _ J e3) (fun v s3 ⟨x, G3, J3, rx, qx⟩ => ⟨x, G3, J3.os, J3.bare, J3.base, J3.hok, rx, qx⟩) fun _ _ z => z)
  refine codeAny_mono runs fun r s3 hq => ?_
  match r, hq with
  | .error e, hq => exact tk e s3 (L2N.XE.of_call I1 (fun cls d H' h => hW cls d σz H' I1.len h) (cx_kept e0 kin hq))
  | .ok (.ret u), hq => exact I1.after (ce_kept e0 kin hq)
end
end My
set_option Elab.async false
set_option linter.all false
set_option maxRecDepth 100000
set_option maxHeartbeats 1000000
/-! A def with *args, called by positions alone. -/
namespace My
open PySem PySem.Spec PyProof.Rows L2
end My
set_option Elab.async false
set_option linter.all false
set_option maxRecDepth 100000
/-! The head by one run in the kernel: what is known behind the top, as one Bool over the part of the heap that the names reach; defs by where they stand. -/
namespace My
open PySem PySem.Spec PyProof.Rows L2 He
abbrev Fr : Type := PySem.W.Frag
def valsIn : Option Obj → List Value
  | some ⟨_, _, .dict es _, _⟩ => es.toList.map (·.val)
  | _ => []
/-- a def and its code object -/
def ofFn (g : Addr → Option Obj) (a : Addr) : List Addr := match g a with
  | some ⟨_, _, .func fd, _⟩ => a :: refV fd.code
  | _ => []
/-- what stands in a class: a def, a classmethod's record and its def -/
def ofMem (g : Addr → Option Obj) (a : Addr) : List Addr := match g a with
  | some ⟨_, _, .func fd, _⟩ => a :: refV fd.code
  | some ⟨_, _, .fields vs, _⟩ => a :: (vs.toList.flatMap refV).flatMap (ofFn g)
  | _ => [a]
def ofTup (g : Addr → Option Obj) : Nat → Addr → List Addr
  | 0, a => [a]
  | n + 1, a => match g a with
    | some ⟨_, _, .seq its _, _⟩ => a :: (its.toList.flatMap refV).flatMap (ofTup g n)
    | _ => [a]
def ofName (g : Addr → Option Obj) (n : Nat) (a : Addr) : List Addr := match g a with
  | some ⟨_, _, .func fd, _⟩ => a :: refV fd.code
  | some ⟨_, _, .cls cd, _⟩ => a :: cd.ns :: ((valsIn (g cd.ns)).flatMap refV).flatMap (ofMem g)
  | some ⟨_, _, .seq _ _, _⟩ => ofTup g n a
  | _ => []
/-- what the module's names reach; tuples n deep -/
def reach (n : Nat) (g : Addr → Option Obj) : Fr := frT g (mainGlobals :: PySem.cStatics :: ((valsIn (g mainGlobals)).flatMap refV).flatMap (ofName g n))
abbrev ObsM : Type := AlD × Bool
def obsM (n : Nat) (fn : List He5.DefA) (tf : List Defn) (ex : Fr → Bool) (g : Addr → Option Obj) : ObsM := (He5.obsA [] fn (reach n g), ex (reach n g) && tabsB g tf (reach n g))
structure Told (fn : List He5.DefA) (tf : List Defn) (ex : Fr → Bool) (h : Heap) (K : Fr) : Prop where
  defs : He5.SaysA [] fn K
  facts : ex K = true
  hd : ∀ p ∈ tf, PySem.W.codeHdIn K (cT K p).1 (cT K p).2 = true
  out : ∀ p ∈ tf, K.lookup (cT K p).2 = none
  bare : ∀ p ∈ tf, h.get? (cT K p).2 = some { cls := .none, data := .fields #[] }
theorem told_of {n : Nat} {fn : List He5.DefA} {tf : List Defn} {ex : Fr → Bool} {h : Heap} (e : obsM n fn tf ex h.get? = (He5.valA fn, true)) : Told fn tf ex h (reach n h.get?) := by
  obtain ⟨e1, e2⟩ := Prod.mk.inj e
  obtain ⟨a, b⟩ := ba e2
  have tab : ∀ p ∈ tf, ∃ o, h.get? (cT (reach n h.get?) p).2 = some o ∧ emptyTab o = true := fun p m => by
    have c := (ba (List.all_eq_true.mp b p m)).2
    split at c
    · rename_i o q
      exact ⟨o, q, c⟩
    · cases c
  refine ⟨e1, a, fun p m => (ba (List.all_eq_true.mp b p m)).1, fun p m => ?_, fun p m => ?_⟩
  · obtain ⟨o, q, z⟩ := tab p m
    exact frT_none q z
  · obtain ⟨o, q, z⟩ := tab p m
    rw [q, emptyTab_eq z]
def hookM (n : Nat) (fn : List He5.DefA) (tf : List Defn) (ex : Fr → Bool) : PySem.W.Hook where
  α := ObsM
  obs := fun s => obsM n fn tf ex s.heap.get?
  val := fun _ => (He5.valA fn, true)
  says := fun _ h => ∃ K : Fr, K.In h ∧ Told fn tf ex h K
  of := fun _ _ e => ⟨_, frT_in, told_of e⟩
  keeps := fun _ _ _ ⟨K, i, t⟩ k => ⟨K, i.keeps k, t.defs, t.facts, t.hd, t.out, fun p m => k _ _ (t.bare p m)⟩
theorem obsM_eq {n : Nat} {fn : List He5.DefA} {tf : List Defn} {ex : Fr → Bool} {g : Addr → Option Obj} {s : Shared} (h : ∀ a, g a = s.heap.get? a) : obsM n fn tf ex g = (hookM n fn tf ex).obs s := by
  rw [funext h]
  rfl
/-! ### facts as Bools -/
def glB (K : Fr) (x : Str) : Bool := eqO (PySem.W.nsIn K mainGlobals x) (some (some (.ref (ga K x))))
def noGlB (K : Fr) (x : Str) : Bool := eqO (PySem.W.nsIn K mainGlobals x) (some none)
/-- a constant's value -/
def gv (K : Fr) (x : Str) : Value := match PySem.W.nsIn K mainGlobals x with
  | some (some u) => u
  | _ => .none
def constB (K : Fr) (x : Str) (v : V) : Bool := eqO (PySem.W.nsIn K mainGlobals x) (some (some (gv K x))) && relB v (gv K x)
def tyB (K : Fr) (a : Addr) (t : String) : Bool := decide (PySem.W.typeIn K (.ref a) = some (.type t))
def atB (K : Fr) (C : Addr) (m : Str) : Bool := eqO (PySem.W.findIn K (.ref C) m) (some (some (.ref (ma K C m))))
def isFnB (K : Fr) (f : Addr) : Bool := PySem.W.isFn K (.ref f)
/-- an own class whose instances are made, read, changed, compared -/
def ownB (K : Fr) (C : Addr) : Bool := [PySem.W.plainGet K C Str.empty, PySem.W.hasDictIn K C, PySem.W.plainOver K C, eqO (PySem.W.findIn K (.ref C) "__setattr__") (some (some (.builtin "object.__setattr__"))), PySem.W.makesIn K C, PySem.W.keepIn K (.ref C), PySem.W.readsIn K C (.type "type"),
  eqO (PySem.W.specialIn K (.ref C) "__getattribute__") (some (some (.builtin "type.__getattribute__"))), eqO (PySem.W.findIn K (.ref C) "__class__") (some (some (.builtin "object.__class__"))), eqO (PySem.W.specialIn K (.builtin "object.__class__") "__get__") (some (some (.builtin "getset_descriptor.__get__"))),
  decide (PySem.W.takesIn K (.builtin "object.__class__") = some true), decide (PySem.W.mroIn K C (.type "object") = some true)].all id
structure Own (K : Fr) (C : Addr) : Prop where
  cl : Cls K C
  mkr : PySem.W.makesIn K C = true
  kp : PySem.W.keepIn K (.ref C) = true
  rd : ClX.CRead K C (.type "type")
  ic : C8.InsC K C
theorem own_ok {K : Fr} {C : Addr} (h : ownB K C = true) : Own K C := by
  simp only [ownB, List.all_cons, List.all_nil, id, Bool.and_true, Bool.and_eq_true] at h
  obtain ⟨h1, h2, h3, h4, h5, h6, h7, h8, h9, h10, h11, h12⟩ := h
  have c : Cls K C := ⟨h1, h2, h3, eqO_ok h4⟩
  exact ⟨c, h5, h6, ⟨h7, eqO_ok h8⟩, ⟨c, eqO_ok h9, eqO_ok h10, of_decide_eq_true h11, of_decide_eq_true h12, if_pos (beq_self_eq_true _)⟩⟩
def noAtB (K : Fr) (C : Addr) (f : Str) : Bool := eqO (PySem.W.findIn K (.ref C) f) (some none)
/-- C.k, a written number -/
def cvOf (K : Fr) (C : Addr) (k : Str) : Value := match PySem.W.findCls K (.ref C) (.type "type") k with
  | some (.val u) => u
  | _ => .none
def cvB (K : Fr) (C : Addr) (k : Str) (n : Int) : Bool := match PySem.W.findCls K (.ref C) (.type "type") k with
  | some (.val u) => relB (.int n) u
  | _ => false
theorem cv_ok {K : Fr} {C : Addr} {k : Str} {n : Int} (h : cvB K C k n = true) : ClX.CVal K C (.type "type") k (.int n) (cvOf K C k) := by
  unfold cvB at h
  unfold cvOf
  split at h
  · rename_i u e
    exact ⟨e, relB_ok h⟩
  · cases h
def cmB (K : Fr) (C : Addr) (m : Str) : Bool := He5.wrapB K C "classmethod" "classmethod.__get__" m && PySem.W.fnIn K (He5.wf K C "classmethod" m)
theorem cm_ok {K : Fr} {C : Addr} {m : Str} (h : cmB K C m = true) : ClX.CMet K C (.type "type") m (ma K C m) (He5.wf K C "classmethod" m) := He5.cmet_of (ba h).1 (ba h).2
theorem const_ok {K : Fr} {h : Heap} {mg : Str → Option Value} (X : K.In h) (G : h.Ns mainGlobals mg) {x : Str} {v : V} (c : constB K x v = true) : mg x = some (gv K x) ∧ RelV v (gv K x) := ⟨PySem.W.mg_of X G (eqO_ok (ba c).1), relB_ok (ba c).2⟩
theorem gl_ok {K : Fr} {h : Heap} {mg : Str → Option Value} (X : K.In h) (G : h.Ns mainGlobals mg) {x : Str} (c : glB K x = true) : mg x = some (.ref (ga K x)) := PySem.W.mg_of X G (eqO_ok c)
theorem noGl_ok {K : Fr} {h : Heap} {mg : Str → Option Value} (X : K.In h) (G : h.Ns mainGlobals mg) {x : Str} (c : noGlB K x = true) : mg x = none := PySem.W.mg_none_of X G (eqO_ok c)
/-! ### written tuples -/
mutual
def datB (K : Fr) : PyData → Value → Bool
  | .none, .none => true
  | .bool b, .bool c => b == c
  | .int i, .int j _ => decide (i = j)
  | .str x, .str y _ => decide (x = y)
  | .tuple ds, .ref a => (match K.lookup a with
    | some ⟨.type c, _, .seq its _, _⟩ => decide (c = "tuple") && (decide (its.size ≤ sizeLine) && datAll K ds its.toList)
    | _ => false)
  | _, _ => false
def datAll (K : Fr) : List PyData → List Value → Bool
  | [], [] => true
  | d :: ds, u :: us => datB K d u && datAll K ds us
  | _, _ => false
end
mutual
theorem dat_ok {K : Fr} : ∀ (d : PyData) (u : Value), datB K d u = true → ∃ v, RelV v u ∧ ∀ H : Hp, Dp K H v d
  | .none, u, h => by
    cases u <;> simp only [datB] at h <;> try cases h
    exact ⟨.non, rfl, fun _ => .non⟩
  | .bool b, u, h => by
    cases u <;> simp only [datB] at h <;> try cases h
    exact ⟨.bl b, by rw [eq_of_beq h]; rfl, fun _ => .bl b⟩
  | .int i, u, h => by
    cases u <;> simp only [datB] at h <;> try cases h
    exact ⟨.int i, ⟨_, by rw [of_decide_eq_true h]⟩, fun _ => .int i⟩
  | .str x, u, h => by
    cases u <;> simp only [datB] at h <;> try cases h
    exact ⟨.str x, ⟨_, by rw [of_decide_eq_true h]⟩, fun _ => .str x⟩
  | .tuple ds, u, h => by
    cases u <;> simp only [datB] at h <;> try cases h
    rename_i a
    split at h
    · rename_i c od its n sl e
      obtain ⟨h1, h⟩ := ba h
      obtain ⟨h2, h3⟩ := ba h
      obtain ⟨vs, r, z⟩ := dats_ok ds its.toList h3
      exact ⟨.ref a, rfl, fun H => .tup (.inr ⟨_, _, _, e, congrArg Value.type (of_decide_eq_true h1), rfl, of_decide_eq_true h2, r⟩) (z H)⟩
    · cases h
  | .list ds, u, h => by cases u <;> simp only [datB] at h <;> cases h
  | .dict ds, u, h => by cases u <;> simp only [datB] at h <;> cases h
theorem dats_ok {K : Fr} : ∀ (ds : List PyData) (us : List Value), datAll K ds us = true → ∃ vs, Vals vs us ∧ ∀ H : Hp, DpAll K H vs ds
  | [], us, h => by
    cases us <;> simp only [datAll] at h
    · exact ⟨[], .nil, fun _ => .nil⟩
    · cases h
  | d :: ds, us, h => by
    cases us <;> simp only [datAll] at h
    · cases h
    · obtain ⟨h1, h2⟩ := ba h
      obtain ⟨v, r, z⟩ := dat_ok d _ h1
      obtain ⟨vs, rs, zs⟩ := dats_ok ds _ h2
      exact ⟨v :: vs, .cons r rs, fun H => .cons (z H) (zs H)⟩
end
theorem dat_at {K : Fr} {x : Str} {ds : List PyData} (h : datB K (.tuple ds) (.ref (ga K x)) = true) (H : Hp) : Dp K H (.ref (ga K x)) (.tuple ds) := by
  obtain ⟨v, r, z⟩ := dat_ok _ _ h
  cases v with
  | ref a =>
    have e : Value.ref (ga K x) = .ref a := r
    cases e
    exact z H
  | int i => obtain ⟨_, e⟩ := r; cases e
  | str i => obtain ⟨_, e⟩ := r; cases e
  | flt i => obtain ⟨_, e⟩ := r; cases e
  | byt i => obtain ⟨_, e⟩ := r; cases e
  | _ => exact absurd (show Value.ref (ga K x) = _ from r) (fun e => by cases e)
/-! ### a list of facts; the law's code object -/
theorem all_at {l : List Bool} (h : l.all id = true) (i : Nat) {b : Bool} (e : l[i]? = some b) : b = true := List.all_eq_true.mp h b (List.mem_of_getElem? e)
theorem code_at {K : Fr} {x qual : Str} {params : Arguments} {body : List Stmt} {scope : Scope} {dvs : List V} {kws : List (Str × V)} {fd : FuncData} {y : Str} (F : FunD K x qual params body scope dvs kws (ga K y) fd) : fd.code = .ref (cT K (y, none)).1 := by
  obtain ⟨oc, od, dV, kV, doc, pm, an, cdv, ct, osl, rfl, lk, hcd, hD, hK⟩ := F.ex
  obtain ⟨c, e⟩ := codeIn_ref hcd
  have e2 : codeOf K (y, none) = c := codeOf_eq (p := (y, none)) lk e
  show cdv = .ref (codeOf K (y, none))
  rw [e2, e]
end My
set_option Elab.async false
set_option linter.all false
set_option maxRecDepth 100000
/-! list.index of texts that are there. -/
namespace My
open PySem PySem.Spec PyProof.Rows L2
end My
set_option Elab.async false
set_option linter.all false
set_option maxRecDepth 100000
/-! C(*xs, e, ..) -/
namespace My
open PySem PySem.Spec PySem.Calls PyProof.Rows L2 StX
theorem evalArgs_two {M : Model} {A : Around} {E : Value → Shared → Prop} {s : Shared} {f : Value} {a b : Bool} {x y : Sem Value} {rest : List (Bool × Sem Value)} {Q : Args → Shared → Prop}
    (h : wpAny M A (spliced ((a, x) :: (b, y) :: rest)) (fun vs s' => Q ⟨vs, []⟩ s') E s) : wpAny M A (evalArgs f true ((a, x) :: (b, y) :: rest) []) Q E s := by
  unfold evalArgs
  cases a
  all_goals
    show wpAny M A (spliced ((_, x) :: (b, y) :: rest) >>= _) Q E s
    refine wpAny_bind (wpAny_mono h (fun vs s' h' => ?_) fun _ _ x => x)
    refine wpAny_holding ?_
    exact wpAny_bind (wpAny_pure (wpAny_bind (wpAny_pure (wpAny_pure h'))))
theorem callWith_S3 {M : Model} {A : Around} {E : Value → Shared → Prop} {s : Shared} {K : PySem.W.Frag} {env : Env} {pos p : Pos} {f : Value} {first : List Value} {Q : Value → Shared → Prop} {h₀ : Heap} {e e2 : Expr} {rest : List Expr} (_X : K.In h₀) (hk : PySem.W.keepIn K f = true)
    (h : wpAny M A (spliced (backTo pos (starEach (.Starred e p :: e2 :: rest) env))) (fun vs s₁ => K.In s₁.heap ∧ wpAny M A (call f (first ++ vs)) Q E s₁) E s)
    (he : starEach (.Starred e p :: e2 :: rest) env = (true, eval e env) :: (false, eval e2 env) :: starEach rest env := by rfl) :
    wpAny M A (callWith pos f first (backTo pos (starEach (.Starred e p :: e2 :: rest) env)) []) Q E s := by
  rw [he] at h ⊢
  exact PySem.W.ks_call rfl (PySem.W.keeps_K hk) (evalArgs_two h)
/-- C(*e, ..) -/
theorem pe_makeS2 {X : Cx} {CX : CXT} {k : Nat} {f C : Addr} {sp : Sp} {E : XK} {x : Str} {e e2 : Expr} {es : List Expr} {t : TA} {p pos spos : Pos} (M : Mk X.K C f) (F : FnR X.prog X.w X.K X.mg X.base CX k f sp) (hr : Room (k + 1) X.A) (hg : Gl X x) (hm : X.mg x = some (.ref C)) (hx : Passes CX X E) (ha : PA X (.Starred e spos :: e2 :: es) t) (hdb : (x == ("__debug__" : Str)) = false := by decide)
    (he : starEach (.Starred e spos :: e2 :: es) X.env = (true, eval e X.env) :: (false, eval e2 X.env) :: starEach es X.env := by rfl) : PE X (.Call (.Name x p) (.Starred e spos :: e2 :: es) [] pos) (tMakeR C sp E t) := by
  refine ⟨fun pins s σ H Q I h => ?_⟩
  refine wpAny_Call_Name_kw (ld_glob I hg hm ?_ hdb)
  refine callWith_S3 (h₀ := X.base) I.ok.mod.kin M.kp (thn (ha.run pos pins s σ H _ I h) fun us s1 ⟨vs, H1, I1, r, q⟩ => ⟨I1.kIn, ?_⟩) he
  exact run_makeR M F hr hx I1 r q
end My
set_option Elab.async false
set_option linter.all false
set_option maxRecDepth 100000
/-! x == y, x != y of own instances by an own __eq__, whatever it says. -/
namespace My
open PySem PySem.Spec PySem.Calls PyProof.Rows L2 StX PySem.W
theorem slot_ne : Slot "object" "__ne__" "object.__ne__" := Slot.of (T := "object") (name := "__ne__") (owner := "object") (n := "__ne__") (by rw [typeLookup_type, builtinLookup_eq_fast]; kernel_rfl) (by decide +kernel) (by decide +kernel) (by decide +kernel) (.inl (by decide +kernel)) (by rw [isSubtype_type]; kernel_rfl)
section
variable {prog : Program} {w : World} {A : Around} {E : Value → Shared → Prop} {s : Shared} {K : PySem.W.Frag} {x C L f : Addr} {h₀ : Heap} {m : Str → Option Value} {ox : Obj} {od : Option Obj} {name : Str} {b tb : Value}
theorem ifBoundB_K {M : Model} {id : String} {args : List Value} {Q : Option Value → Shared → Prop} (X : K.In s.heap) (I : InstAt s.heap x ox C od) (hs : findIn K (.ref C) name = some (some (.builtin id))) (hb : ∀ self, bindSpecial (.builtin id) self = pure (.builtin id, [self]))
    (h : wpAny M A (call (.builtin id) (.ref x :: args)) (fun v => Q (some v)) E s) : wpAny M A (callSpecialIfBound? (.ref x) name args) Q E s := by
  simp only [callSpecialIfBound?, bindSpecialIfBound?]
  refine wpAny_holding (wpAny_bind (wpAny_bind (wpAny_bind (I.type.here ((looks_findIn X hs).here ?_)))))
  simp only [hb]
  refine wpAny_bind (wpAny_askSetting (wpAny_ite ?_))
  have fin : wpAny M A (call (.builtin id) ([.ref x] ++ args) >>= fun v => pure (some v)) Q E s := wpAny_bind (wpAny_mono h (fun v s' h' => wpAny_pure h') fun _ _ h' => h')
  split
  · exact wpAny_bind (wpAny_pure (wpAny_pure fin))
  · exact wpAny_tryCatch (wpAny_bind (wpAny_pure (wpAny_pure fin)))
theorem objNe_K (X : K.In s.heap) (I : InstAt s.heap x ox C od) (hs : findIn K (.ref C) "__eq__" = some (some (.ref f))) (hf : isFn K (.ref f) = true) (hu : A.units < cLine) {Q : Fin → Shared → Prop}
    (hcall : wpAny (model prog w) A (call (.ref f) [.ref x, b]) (fun v s' => ∃ c, v = .bool c ∧ Q (.done (.ret (.bool (!c)))) s') E s) :
    wpAny (model prog w) A (Builtin.«object.__ne__» ⟨[.ref x, b], []⟩) Q E s := by
  unfold Builtin.«object.__ne__»
  repeat (first
    | with_reducible refine wpAny_cRoomFor hu ?_
    | (refine wpAny_bind (m := callSpecialIfBound? (.ref x) (Str.ofString "__eq__") [b])
        (ifBound_K X I hs hf (wpAny_mono hcall (fun v s' hr => by
          obtain ⟨c, rfl, hq⟩ := hr
          repeat (first | exact hq | exact wpAny_pure hq | exact wpAny_truthy_bool hq | (refine wpAny_bind (m := truthy (.bool _)) (wpAny_truthy_bool ?_)) | wp_step)) fun _ _ e => e)))
    | wp_step)
theorem ne_K {Q : Value → Shared → Prop} (hu : A.units < cLine) (hu1 : A.in1.units < cLine) (X : K.In s.heap) (I : InstAt s.heap x ox C od) (hb : Looks (model prog w) s.heap (typeOf b) tb) (hn : notFirst K C tb = true)
    (hs : findIn K (.ref C) "__eq__" = some (some (.ref f))) (hf : isFn K (.ref f) = true) (hne : findIn K (.ref C) "__ne__" = some (some (.builtin "object.__ne__"))) (hm : mroIn K C (.type "object") = some true)
    (h : wpAny (model prog w) A.in1 (call (.ref f) [.ref x, b]) (fun v s' => ∃ c, v = .bool c ∧ Q (.bool (!c)) s') E s) : wpAny (model prog w) A (richCompare .NotEq (.ref x) b) Q E s := by
  have sub : Looks (model prog w) s.heap (isInstance (.ref x) (.type "object")) true := I.type.andThen (looks_mroIn X hm)
  have one : wpAny (model prog w) A (tryCompare (.ref x) "__ne__" b) (fun r s' => ∃ v, r = some v ∧ Q v s') E s := by
    unfold tryCompare
    refine wpAny_bind (ifBoundB_K X I hne slot_ne.bind (wpAny_call (codeAny_call_builtin slot_ne.plain F.cmpEntry_ne (check_slot F.cmpKind_ne F.cmpSplit_ne sub (F.cmpArgs_ne _ _) (objNe_K (A := A.in1) X I hs hf hu1 (wpAny_mono h (fun v s' hv => ?_) fun _ _ e => e))))))
    obtain ⟨c, rfl, hq⟩ := hv
    first | exact ⟨c, rfl, wpAny_pure ⟨_, rfl, hq⟩⟩ | exact ⟨c, rfl, ⟨_, rfl, hq⟩⟩ | exact ⟨c, rfl, wpAny_pure (wpAny_pure ⟨_, rfl, hq⟩)⟩
  unfold richCompare
  simp only [oneThing_ref]
  refine wpAny_holding (wpAny_bind (wpAny_cRoomFor hu ?_))
  rw [cmpInfo_NotEq]
  dsimp only
  refine wpAny_bind (I.type.here (wpAny_bind (hb.here ?_)))
  split
  · rename_i q
    have e : subIn K tb (.ref C) = some false := by
      rcases Bool.or_eq_true_iff.mp hn with e | e
      · rw [beq_iff_eq.mp e] at q; simp at q
      · exact beq_iff_eq.mp e
    refine wpAny_bind ((looks_subIn X e).here ?_)
    simp only [Bool.false_eq_true, if_false]
    refine wpAny_bind (wpAny_mono one (fun r s' z => ?_) fun _ _ e => e)
    obtain ⟨v, rfl, hq⟩ := z
    exact wpAny_pure hq
  · refine wpAny_bind (wpAny_pure ?_)
    simp only [Bool.false_eq_true, if_false]
    refine wpAny_bind (wpAny_mono one (fun r s' z => ?_) fun _ _ e => e)
    obtain ⟨v, rfl, hq⟩ := z
    exact wpAny_pure hq
end
end My
namespace My
open PySem PySem.Spec PyProof.Rows L2 StX
/-- what is asked of an own == (g the same, or its contrary) -/
def rOwn (C : Addr) (sp : Sp) (E : XK) (g : Bool → Bool) : R2 := fun x y H Q => ∃ a b dx dy fs gs, x = .ref a ∧ y = .ref b ∧ H a = some (.ins C dx fs) ∧ H b = some (.ins C dy gs) ∧ sp [.ref a, .ref b] H (fun v H' => ∃ c, v = .bl c ∧ Q (.bl (g c)) H') E
section
variable {X : Cx} {CX : CXT} {C f : Addr} {fd : FuncData} {ps : List Str} {sp : Sp} {E : XK} {n : Nat}
theorem own_call {A : Around} {pins : List (Addr × Obj)} {σ : L2.St} {H : Hp} {s : Shared} {Q : VK} {g : Bool → Bool} {a b : Addr} (F : FnOk X.prog X.w X.K X.mg X.base CX n f fd ps sp) (hb : Binds X.K fd ps []) (hx : Passes CX X E) (hr : Room n A) (e0 : Env0 X.prog X.w X.K X.mg X.base A X.stack s H) (I : Inv X pins σ H s)
    (h : sp [.ref a, .ref b] H (fun v H' => ∃ c, v = .bl c ∧ Q (.bl (g c)) H') E) : wpAny (model X.prog X.w) A (call (.ref f) [.ref a, .ref b]) (fun v s' => ∃ c, v = .bool c ∧ EP X pins σ Q (.bool (g c)) s') X.xe s := by
  have hl := F.len _ _ _ _ h
  have r2 : Vals [V.ref a, V.ref b] [Value.ref a, Value.ref b] := .cons rfl (.cons rfl .nil)
  refine wpAny_call (codeAny_mono (F.run A X.stack s H ⟨[.ref a, .ref b], []⟩ [.ref a, .ref b] [.ref a, .ref b] _ E hr e0 (by
    have := hb s [.ref a, .ref b] I.kIn (by simpa using hl)
    simpa using this) r2 h) fun r s' hq => ?_)
  cases r with
  | error e => exact hx pins σ H s e s' I hq
  | ok fl =>
    cases fl with
    | ret w =>
      obtain ⟨z, H', I', rz, c, ez, q⟩ := I.after hq
      subst ez
      cases rz
      exact ⟨c, rfl, .bl (g c), H', I', rfl, q⟩
    | next => exact False.elim hq
    | brk => exact False.elim hq
    | cont => exact False.elim hq
theorem op_neOwn (F : FnOk X.prog X.w X.K X.mg X.base CX n f fd ps sp) (hs : PySem.W.findIn X.K (.ref C) "__eq__" = some (some (.ref f))) (hf : PySem.W.isFn X.K (.ref f) = true) (hne : PySem.W.findIn X.K (.ref C) "__ne__" = some (some (.builtin "object.__ne__"))) (hm : PySem.W.mroIn X.K C (.type "object") = some true)
    (hb : Binds X.K fd ps []) (hx : Passes CX X E) (hr : Room (n + 1) X.A) : OpR X (compareOp .NotEq) (rOwn C sp E fun c => !c) := by
  intro pins s σ H x y v u Q I rx ry h
  obtain ⟨a, b, dx, dy, fs, gs, rfl, rfl, ha, hb', h⟩ := h
  cases rx
  cases ry
  obtain ⟨mA, J, _⟩ := ins_get I.hok ha
  obtain ⟨mB, J', _⟩ := ins_get I.hok hb'
  obtain ⟨od, J, _⟩ := J.look
  obtain ⟨od', J', _⟩ := J'.look
  have hr1 : Room n X.A.in1 := hr.in1
  show wpAny (model X.prog X.w) X.A (richCompare .NotEq (.ref a) (.ref b)) (EP X pins σ Q) X.xe s
  exact ne_K (tb := .ref C) hr.units0 hr1.units0 I.kIn J J'.type (by simp [PySem.W.notFirst]) hs hf hne hm (own_call (g := fun c => !c) F hb hx hr1 I.env0.in1 I h)
end
end My
set_option Elab.async false
set_option linter.all false
set_option maxRecDepth 100000
namespace My
open PySem PySem.Spec PyProof.Rows L2
def topS (i : Nat) : Stmt := PySem.Challenge.pw_tiedmoments_k10_logs_grown.main.body.getD i (.Pass ⟨0, 0, 0, 0⟩)
abbrev s_i_InvalidName : Stmt := inClass (topS 3) 0
abbrev N_i_InvalidName : List Str := ["self", "value"]
abbrev P_i_InvalidName : List Str := ["self", "value"]
abbrev s_i_InvalidRow : Stmt := inClass (topS 4) 0
abbrev N_i_InvalidRow : List Str := ["self", "at"]
abbrev P_i_InvalidRow : List Str := ["self", "at"]
abbrev s_i_DuplicateName : Stmt := inClass (topS 5) 0
abbrev N_i_DuplicateName : List Str := ["self", "name"]
abbrev P_i_DuplicateName : List Str := ["self", "name"]
abbrev s_i_InvalidStep : Stmt := inClass (topS 6) 0
abbrev N_i_InvalidStep : List Str := ["self", "process", "index"]
abbrev P_i_InvalidStep : List Str := ["self", "process", "index"]
abbrev s_i_DuplicateMessage : Stmt := inClass (topS 7) 0
abbrev N_i_DuplicateMessage : List Str := ["self", "message"]
abbrev P_i_DuplicateMessage : List Str := ["self", "message"]
abbrev s_i_Unsent : Stmt := inClass (topS 8) 0
abbrev N_i_Unsent : List Str := ["self", "message"]
abbrev P_i_Unsent : List Str := ["self", "message"]
abbrev s_i_Ring : Stmt := inClass (topS 9) 0
abbrev N_i_Ring : List Str := ["self", "process"]
abbrev P_i_Ring : List Str := ["self", "process"]
abbrev s_i_TooMany : Stmt := inClass (topS 10) 0
abbrev N_i_TooMany : List Str := ["self", "subject", "most"]
abbrev P_i_TooMany : List Str := ["self", "subject", "most"]
abbrev s_i_InvalidText : Stmt := inClass (topS 13) 0
abbrev P_i_InvalidText : List Str := ["self", "at"]
abbrev s_i_UnknownProcess : Stmt := inClass (topS 15) 0
abbrev N_i_UnknownProcess : List Str := ["self", "name"]
abbrev P_i_UnknownProcess : List Str := ["self", "name"]
abbrev s_i_Log : Stmt := inClass (topS 37) 2
abbrev N_i_Log : List Str := ["self", "rows", "order", "name", "steps"]
abbrev P_i_Log : List Str := ["self", "rows"]
abbrev s_Log_rows : Stmt := inClass (topS 37) 6
abbrev N_Log_rows : List Str := ["self", "name", "steps"]
abbrev P_Log_rows : List Str := ["self"]
abbrev s_Log_processes : Stmt := inClass (topS 37) 3
abbrev P_Log_processes : List Str := ["self"]
abbrev s_Log_row : Stmt := inClass (topS 37) 4
abbrev N_Log_row : List Str := ["self", "process", "name", "steps"]
abbrev P_Log_row : List Str := ["self", "process"]
abbrev s_Log_lengths : Stmt := inClass (topS 37) 7
abbrev P_Log_lengths : List Str := ["self"]
abbrev s_Log_text : Stmt := inClass (topS 37) 15
abbrev P_Log_text : List Str := ["self"]
abbrev s_Log_read : Stmt := inClass (topS 37) 16
abbrev P_Log_read : List Str := ["cls", "text"]
abbrev s_Log_with_step : Stmt := inClass (topS 37) 9
abbrev N_Log_with_step : List Str := ["self", "process", "step", "steps", "rows", "name", "row"]
abbrev P_Log_with_step : List Str := ["self", "process", "step"]
abbrev s_Log_with_process : Stmt := inClass (topS 37) 10
abbrev N_Log_with_process : List Str := ["self", "name"]
abbrev P_Log_with_process : List Str := ["self", "name"]
abbrev s_Log_eq : Stmt := inClass (topS 37) 19
abbrev N_Log_eq : List Str := ["self", "other"]
abbrev P_Log_eq : List Str := ["self", "other"]
abbrev s_Log_len : Stmt := inClass (topS 37) 21
abbrev N_Log_len : List Str := ["self"]
abbrev P_Log_len : List Str := ["self"]
abbrev s_Log_str : Stmt := inClass (topS 37) 23
abbrev P_Log_str : List Str := ["self"]
abbrev s_is_name : Stmt := topS 26
abbrev N_is_name : List Str := ["value"]
abbrev P_is_name : List Str := ["value"]
abbrev s_is_word : Stmt := topS 27
abbrev N_is_word : List Str := ["value"]
abbrev P_is_word : List Str := ["value"]
abbrev s_is_number : Stmt := topS 28
abbrev N_is_number : List Str := ["value", "least", "most"]
abbrev P_is_number : List Str := ["value", "least", "most"]
abbrev s_is_step : Stmt := topS 29
abbrev N_is_step : List Str := ["value", "mark", "number", "deed"]
abbrev P_is_step : List Str := ["value"]
abbrev s_step_text : Stmt := topS 30
abbrev P_step_text : List Str := ["step"]
abbrev s_read_step : Stmt := topS 31
abbrev P_read_step : List Str := ["text"]
abbrev s_read_number : Stmt := topS 32
abbrev P_read_number : List Str := ["text"]
abbrev s_consists_of : Stmt := topS 33
abbrev N_consists_of : List Str := ["text", "signs", "sign"]
abbrev P_consists_of : List Str := ["text", "signs"]
abbrev s_is_deed : Stmt := topS 34
abbrev N_is_deed : List Str := ["value", "kind", "sign"]
abbrev P_is_deed : List Str := ["value"]
abbrev s_split_deed : Stmt := topS 35
abbrev P_split_deed : List Str := ["text"]
abbrev s_check_rows : Stmt := topS 38
abbrev N_check_rows : List Str := ["rows", "names", "at", "row", "name"]
abbrev P_check_rows : List Str := ["rows"]
abbrev s_is_row : Stmt := topS 39
abbrev N_is_row : List Str := ["value"]
abbrev P_is_row : List Str := ["value"]
abbrev s_check_steps : Stmt := topS 40
abbrev N_check_steps : List Str := ["rows", "name", "steps", "index", "step"]
abbrev P_check_steps : List Str := ["rows"]
abbrev s_check_messages : Stmt := topS 41
abbrev N_check_messages : List Str := ["rows", "found", "deed", "message"]
abbrev P_check_messages : List Str := ["rows"]
abbrev s_check_ends : Stmt := topS 42
abbrev N_check_ends : List Str := ["rows", "order", "made", "name", "steps", "process", "index", "step"]
abbrev P_check_ends : List Str := ["rows", "order"]
abbrev s_names : Stmt := topS 43
abbrev N_names : List Str := ["rows", "name", "steps"]
abbrev P_names : List Str := ["rows"]
abbrev s_deeds : Stmt := topS 44
abbrev N_deeds : List Str := ["rows", "name", "steps", "mark", "number", "deed"]
abbrev P_deeds : List Str := ["rows"]
abbrev s_first_unsent : Stmt := topS 45
abbrev N_first_unsent : List Str := ["rows", "deeds", "kind", "message"]
abbrev P_first_unsent : List Str := ["rows"]
abbrev s_order_of : Stmt := topS 46
abbrev N_order_of : List Str := ["rows", "places", "made", "order", "at", "step", "row", "name", "steps"]
abbrev P_order_of : List Str := ["rows"]
abbrev s_first_ready : Stmt := topS 47
abbrev N_first_ready : List Str := ["rows", "places", "made", "at", "name", "steps"]
abbrev P_first_ready : List Str := ["rows", "places", "made"]
abbrev s_can_be_made : Stmt := topS 48
abbrev N_can_be_made : List Str := ["step", "made", "deed"]
abbrev P_can_be_made : List Str := ["step", "made"]
abbrev s_row_text : Stmt := topS 55
abbrev P_row_text : List Str := ["name", "steps"]
abbrev s_read_row : Stmt := topS 56
abbrev P_read_row : List Str := ["line"]
abbrev s_Lbag : Stmt := topS 58
abbrev N_Lbag : List Str := ["_law_script", "_law_mixed_here", "_law_cell"]
abbrev P_Lbag : List Str := ["_law_script"]
abbrev s_Ldraw : Stmt := topS 59
abbrev N_Ldraw : List Str := ["_law_bag_here", "_law_many", "_law_own", "_law_cell", "_law_digit"]
abbrev P_Ldraw : List Str := ["_law_bag_here", "_law_many"]
abbrev s_Lof : Stmt := topS 60
abbrev N_Lof : List Str := ["_law_bag_here", "_law_some"]
abbrev P_Lof : List Str := ["_law_bag_here", "_law_some"]
abbrev s_Lmixed : Stmt := topS 61
abbrev N_Lmixed : List Str := ["_law_bag_here", "_law_some", "_law_left", "_law_found"]
abbrev P_Lmixed : List Str := ["_law_bag_here", "_law_some"]
abbrev s_Lsame : Stmt := topS 62
abbrev N_Lsame : List Str := ["_law_found", "_law_due", "_law_one", "_law_two"]
abbrev P_Lsame : List Str := ["_law_found", "_law_due"]
abbrev s_Lfield : Stmt := topS 63
abbrev N_Lfield : List Str := ["_law_e"]
abbrev P_Lfield : List Str := ["_law_e"]
abbrev s_Lother_field : Stmt := topS 64
abbrev N_Lother_field : List Str := ["_law_e"]
abbrev P_Lother_field : List Str := ["_law_e"]
abbrev s_Lgot : Stmt := topS 65
abbrev N_Lgot : List Str := ["_law_ask", "_law_e"]
abbrev P_Lgot : List Str := ["_law_ask"]
abbrev s_Lwhy : Stmt := topS 66
abbrev N_Lwhy : List Str := ["_law_ask", "_law_found"]
abbrev P_Lwhy : List Str := ["_law_ask"]
abbrev s_Lwhys : Stmt := topS 67
abbrev N_Lwhys : List Str := ["_law_asks", "_law_ask"]
abbrev P_Lwhys : List Str := ["_law_asks"]
abbrev s_Lodd : Stmt := topS 68
abbrev N_Lodd : List Str := ["_law_bag_here", "_law_others"]
abbrev P_Lodd : List Str := ["_law_bag_here", "_law_others"]
abbrev s_Lmarks : Stmt := topS 69
abbrev N_Lmarks : List Str := []
abbrev P_Lmarks : List Str := []
abbrev s_Lstep : Stmt := topS 70
abbrev N_Lstep : List Str := ["_law_bag_here", "_law_deed"]
abbrev P_Lstep : List Str := ["_law_bag_here", "_law_deed"]
abbrev s_Lrows : Stmt := topS 71
abbrev N_Lrows : List Str := ["_law_bag_here", "_law_many", "_law_most", "_law_names", "_law_words", "_law_k", "_law_rows_here", "_law_open_y", "_law_fresh", "_law_spot", "_law_way", "_law_deed", "_law_name_y"]
abbrev P_Lrows : List Str := ["_law_bag_here", "_law_many", "_law_most"]
abbrev s_Llog : Stmt := topS 72
abbrev N_Llog : List Str := ["_law_rows_here"]
abbrev P_Llog : List Str := ["_law_rows_here"]
abbrev s_Llengths : Stmt := topS 73
abbrev N_Llengths : List Str := ["_law_rows_here", "_law_row"]
abbrev P_Llengths : List Str := ["_law_rows_here"]
abbrev s_Ldeeds : Stmt := topS 74
abbrev N_Ldeeds : List Str := ["_law_rows_here", "_law_point", "_law_word", "_law_found", "_law_spot", "_law_step_y"]
abbrev P_Ldeeds : List Str := ["_law_rows_here", "_law_point", "_law_word"]
abbrev s_law : Stmt := topS 75
abbrev N_law : List Str := ["_law_script", "_law_bag_here", "_law_turn", "_law_asks", "_law_rows_here", "_law_deed", "_law_found", "_law_late", "_law_told_z", "_law_wide", "_law_full", "_law_six", "_law_log_here", "_law_spot", "_law_name_y", "_law_lengths_here", "_law_sent", "_law_got_here", "_law_step_z", "_law_due", "_law_odd_here", "_law_wrong", "_law_one"]
abbrev P_law : List Str := ["_law_script"]
theorem sc_i_InvalidName : FnScope N_i_InvalidName P_i_InvalidName (defScope s_i_InvalidName) := ⟨rfl, rfl, rfl, by decide +kernel, rfl, by decide +kernel, by decide +kernel⟩
theorem sc_i_InvalidRow : FnScope N_i_InvalidRow P_i_InvalidRow (defScope s_i_InvalidRow) := ⟨rfl, rfl, rfl, by decide +kernel, rfl, by decide +kernel, by decide +kernel⟩
theorem sc_i_DuplicateName : FnScope N_i_DuplicateName P_i_DuplicateName (defScope s_i_DuplicateName) := ⟨rfl, rfl, rfl, by decide +kernel, rfl, by decide +kernel, by decide +kernel⟩
theorem sc_i_InvalidStep : FnScope N_i_InvalidStep P_i_InvalidStep (defScope s_i_InvalidStep) := ⟨rfl, rfl, rfl, by decide +kernel, rfl, by decide +kernel, by decide +kernel⟩
theorem sc_i_DuplicateMessage : FnScope N_i_DuplicateMessage P_i_DuplicateMessage (defScope s_i_DuplicateMessage) := ⟨rfl, rfl, rfl, by decide +kernel, rfl, by decide +kernel, by decide +kernel⟩
theorem sc_i_Unsent : FnScope N_i_Unsent P_i_Unsent (defScope s_i_Unsent) := ⟨rfl, rfl, rfl, by decide +kernel, rfl, by decide +kernel, by decide +kernel⟩
theorem sc_i_Ring : FnScope N_i_Ring P_i_Ring (defScope s_i_Ring) := ⟨rfl, rfl, rfl, by decide +kernel, rfl, by decide +kernel, by decide +kernel⟩
theorem sc_i_TooMany : FnScope N_i_TooMany P_i_TooMany (defScope s_i_TooMany) := ⟨rfl, rfl, rfl, by decide +kernel, rfl, by decide +kernel, by decide +kernel⟩
theorem sc_i_UnknownProcess : FnScope N_i_UnknownProcess P_i_UnknownProcess (defScope s_i_UnknownProcess) := ⟨rfl, rfl, rfl, by decide +kernel, rfl, by decide +kernel, by decide +kernel⟩
theorem sc_i_Log : FnScope N_i_Log P_i_Log (defScope s_i_Log) := ⟨rfl, rfl, rfl, by decide +kernel, rfl, by decide +kernel, by decide +kernel⟩
theorem sc_Log_rows : FnScope N_Log_rows P_Log_rows (defScope s_Log_rows) := ⟨rfl, rfl, rfl, by decide +kernel, rfl, by decide +kernel, by decide +kernel⟩
theorem sc_Log_row : FnScope N_Log_row P_Log_row (defScope s_Log_row) := ⟨rfl, rfl, rfl, by decide +kernel, rfl, by decide +kernel, by decide +kernel⟩
theorem sc_Log_with_step : FnScope N_Log_with_step P_Log_with_step (defScope s_Log_with_step) := ⟨rfl, rfl, rfl, by decide +kernel, rfl, by decide +kernel, by decide +kernel⟩
theorem sc_Log_with_process : FnScope N_Log_with_process P_Log_with_process (defScope s_Log_with_process) := ⟨rfl, rfl, rfl, by decide +kernel, rfl, by decide +kernel, by decide +kernel⟩
theorem sc_Log_eq : FnScope N_Log_eq P_Log_eq (defScope s_Log_eq) := ⟨rfl, rfl, rfl, by decide +kernel, rfl, by decide +kernel, by decide +kernel⟩
theorem sc_Log_len : FnScope N_Log_len P_Log_len (defScope s_Log_len) := ⟨rfl, rfl, rfl, by decide +kernel, rfl, by decide +kernel, by decide +kernel⟩
theorem sc_is_name : FnScope N_is_name P_is_name (defScope s_is_name) := ⟨rfl, rfl, rfl, by decide +kernel, rfl, by decide +kernel, by decide +kernel⟩
theorem sc_is_word : FnScope N_is_word P_is_word (defScope s_is_word) := ⟨rfl, rfl, rfl, by decide +kernel, rfl, by decide +kernel, by decide +kernel⟩
theorem sc_is_number : FnScope N_is_number P_is_number (defScope s_is_number) := ⟨rfl, rfl, rfl, by decide +kernel, rfl, by decide +kernel, by decide +kernel⟩
theorem sc_is_step : FnScope N_is_step P_is_step (defScope s_is_step) := ⟨rfl, rfl, rfl, by decide +kernel, rfl, by decide +kernel, by decide +kernel⟩
theorem sc_consists_of : FnScope N_consists_of P_consists_of (defScope s_consists_of) := ⟨rfl, rfl, rfl, by decide +kernel, rfl, by decide +kernel, by decide +kernel⟩
theorem sc_is_deed : FnScope N_is_deed P_is_deed (defScope s_is_deed) := ⟨rfl, rfl, rfl, by decide +kernel, rfl, by decide +kernel, by decide +kernel⟩
theorem sc_check_rows : FnScope N_check_rows P_check_rows (defScope s_check_rows) := ⟨rfl, rfl, rfl, by decide +kernel, rfl, by decide +kernel, by decide +kernel⟩
theorem sc_is_row : FnScope N_is_row P_is_row (defScope s_is_row) := ⟨rfl, rfl, rfl, by decide +kernel, rfl, by decide +kernel, by decide +kernel⟩
theorem sc_check_steps : FnScope N_check_steps P_check_steps (defScope s_check_steps) := ⟨rfl, rfl, rfl, by decide +kernel, rfl, by decide +kernel, by decide +kernel⟩
theorem sc_check_messages : FnScope N_check_messages P_check_messages (defScope s_check_messages) := ⟨rfl, rfl, rfl, by decide +kernel, rfl, by decide +kernel, by decide +kernel⟩
theorem sc_check_ends : FnScope N_check_ends P_check_ends (defScope s_check_ends) := ⟨rfl, rfl, rfl, by decide +kernel, rfl, by decide +kernel, by decide +kernel⟩
theorem sc_names : FnScope N_names P_names (defScope s_names) := ⟨rfl, rfl, rfl, by decide +kernel, rfl, by decide +kernel, by decide +kernel⟩
theorem sc_deeds : FnScope N_deeds P_deeds (defScope s_deeds) := ⟨rfl, rfl, rfl, by decide +kernel, rfl, by decide +kernel, by decide +kernel⟩
theorem sc_first_unsent : FnScope N_first_unsent P_first_unsent (defScope s_first_unsent) := ⟨rfl, rfl, rfl, by decide +kernel, rfl, by decide +kernel, by decide +kernel⟩
theorem sc_order_of : FnScope N_order_of P_order_of (defScope s_order_of) := ⟨rfl, rfl, rfl, by decide +kernel, rfl, by decide +kernel, by decide +kernel⟩
theorem sc_first_ready : FnScope N_first_ready P_first_ready (defScope s_first_ready) := ⟨rfl, rfl, rfl, by decide +kernel, rfl, by decide +kernel, by decide +kernel⟩
theorem sc_can_be_made : FnScope N_can_be_made P_can_be_made (defScope s_can_be_made) := ⟨rfl, rfl, rfl, by decide +kernel, rfl, by decide +kernel, by decide +kernel⟩
theorem sc_Lbag : FnScope N_Lbag P_Lbag (defScope s_Lbag) := ⟨rfl, rfl, rfl, by decide +kernel, rfl, by decide +kernel, by decide +kernel⟩
theorem sc_Ldraw : FnScope N_Ldraw P_Ldraw (defScope s_Ldraw) := ⟨rfl, rfl, rfl, by decide +kernel, rfl, by decide +kernel, by decide +kernel⟩
theorem sc_Lof : FnScope N_Lof P_Lof (defScope s_Lof) := ⟨rfl, rfl, rfl, by decide +kernel, rfl, by decide +kernel, by decide +kernel⟩
theorem sc_Lmixed : FnScope N_Lmixed P_Lmixed (defScope s_Lmixed) := ⟨rfl, rfl, rfl, by decide +kernel, rfl, by decide +kernel, by decide +kernel⟩
theorem sc_Lsame : FnScope N_Lsame P_Lsame (defScope s_Lsame) := ⟨rfl, rfl, rfl, by decide +kernel, rfl, by decide +kernel, by decide +kernel⟩
theorem sc_Lfield : FnScope N_Lfield P_Lfield (defScope s_Lfield) := ⟨rfl, rfl, rfl, by decide +kernel, rfl, by decide +kernel, by decide +kernel⟩
theorem sc_Lother_field : FnScope N_Lother_field P_Lother_field (defScope s_Lother_field) := ⟨rfl, rfl, rfl, by decide +kernel, rfl, by decide +kernel, by decide +kernel⟩
theorem sc_Lgot : FnScope N_Lgot P_Lgot (defScope s_Lgot) := ⟨rfl, rfl, rfl, by decide +kernel, rfl, by decide +kernel, by decide +kernel⟩
theorem sc_Lwhy : FnScope N_Lwhy P_Lwhy (defScope s_Lwhy) := ⟨rfl, rfl, rfl, by decide +kernel, rfl, by decide +kernel, by decide +kernel⟩
theorem sc_Lwhys : FnScope N_Lwhys P_Lwhys (defScope s_Lwhys) := ⟨rfl, rfl, rfl, by decide +kernel, rfl, by decide +kernel, by decide +kernel⟩
theorem sc_Lodd : FnScope N_Lodd P_Lodd (defScope s_Lodd) := ⟨rfl, rfl, rfl, by decide +kernel, rfl, by decide +kernel, by decide +kernel⟩
theorem sc_Lmarks : FnScope N_Lmarks P_Lmarks (defScope s_Lmarks) := ⟨rfl, rfl, rfl, by decide +kernel, rfl, by decide +kernel, by decide +kernel⟩
theorem sc_Lstep : FnScope N_Lstep P_Lstep (defScope s_Lstep) := ⟨rfl, rfl, rfl, by decide +kernel, rfl, by decide +kernel, by decide +kernel⟩
theorem sc_Lrows : FnScope N_Lrows P_Lrows (defScope s_Lrows) := ⟨rfl, rfl, rfl, by decide +kernel, rfl, by decide +kernel, by decide +kernel⟩
theorem sc_Llog : FnScope N_Llog P_Llog (defScope s_Llog) := ⟨rfl, rfl, rfl, by decide +kernel, rfl, by decide +kernel, by decide +kernel⟩
theorem sc_Llengths : FnScope N_Llengths P_Llengths (defScope s_Llengths) := ⟨rfl, rfl, rfl, by decide +kernel, rfl, by decide +kernel, by decide +kernel⟩
theorem sc_Ldeeds : FnScope N_Ldeeds P_Ldeeds (defScope s_Ldeeds) := ⟨rfl, rfl, rfl, by decide +kernel, rfl, by decide +kernel, by decide +kernel⟩
theorem sc_law : FnScope N_law P_law (defScope s_law) := ⟨rfl, rfl, rfl, by decide +kernel, rfl, by decide +kernel, by decide +kernel⟩
structure Top where
  c_DuplicateMessage : Addr
  c_DuplicateName : Addr
  c_InvalidName : Addr
  c_InvalidRow : Addr
  c_InvalidStep : Addr
  c_InvalidText : Addr
  c_Log : Addr
  c_LogError : Addr
  c_Missing : Addr
  c_NothingLeft : Addr
  c_Ring : Addr
  c_TooMany : Addr
  c_UnknownProcess : Addr
  c_Unsent : Addr
  f_i_InvalidName : Addr
  d_i_InvalidName : FuncData
  f_i_InvalidRow : Addr
  d_i_InvalidRow : FuncData
  f_i_DuplicateName : Addr
  d_i_DuplicateName : FuncData
  f_i_InvalidStep : Addr
  d_i_InvalidStep : FuncData
  f_i_DuplicateMessage : Addr
  d_i_DuplicateMessage : FuncData
  f_i_Unsent : Addr
  d_i_Unsent : FuncData
  f_i_Ring : Addr
  d_i_Ring : FuncData
  f_i_TooMany : Addr
  d_i_TooMany : FuncData
  f_i_InvalidText : Addr
  d_i_InvalidText : FuncData
  f_i_UnknownProcess : Addr
  d_i_UnknownProcess : FuncData
  f_i_Log : Addr
  d_i_Log : FuncData
  f_Log_rows : Addr
  d_Log_rows : FuncData
  f_Log_processes : Addr
  d_Log_processes : FuncData
  f_Log_row : Addr
  d_Log_row : FuncData
  f_Log_lengths : Addr
  d_Log_lengths : FuncData
  f_Log_text : Addr
  d_Log_text : FuncData
  f_Log_read : Addr
  d_Log_read : FuncData
  f_Log_with_step : Addr
  d_Log_with_step : FuncData
  f_Log_with_process : Addr
  d_Log_with_process : FuncData
  f_Log_eq : Addr
  d_Log_eq : FuncData
  f_Log_len : Addr
  d_Log_len : FuncData
  f_Log_str : Addr
  d_Log_str : FuncData
  p_Log_read : Addr
  u_Log_PROCESSES : Value
  u_Log_STEPS : Value
  f_is_name : Addr
  d_is_name : FuncData
  f_is_word : Addr
  d_is_word : FuncData
  f_is_number : Addr
  d_is_number : FuncData
  f_is_step : Addr
  d_is_step : FuncData
  f_step_text : Addr
  d_step_text : FuncData
  f_read_step : Addr
  d_read_step : FuncData
  f_read_number : Addr
  d_read_number : FuncData
  f_consists_of : Addr
  d_consists_of : FuncData
  f_is_deed : Addr
  d_is_deed : FuncData
  f_split_deed : Addr
  d_split_deed : FuncData
  f_check_rows : Addr
  d_check_rows : FuncData
  f_is_row : Addr
  d_is_row : FuncData
  f_check_steps : Addr
  d_check_steps : FuncData
  f_check_messages : Addr
  d_check_messages : FuncData
  f_check_ends : Addr
  d_check_ends : FuncData
  f_names : Addr
  d_names : FuncData
  f_deeds : Addr
  d_deeds : FuncData
  f_first_unsent : Addr
  d_first_unsent : FuncData
  f_order_of : Addr
  d_order_of : FuncData
  f_first_ready : Addr
  d_first_ready : FuncData
  f_can_be_made : Addr
  d_can_be_made : FuncData
  f_row_text : Addr
  d_row_text : FuncData
  f_read_row : Addr
  d_read_row : FuncData
  f_Lbag : Addr
  d_Lbag : FuncData
  f_Ldraw : Addr
  d_Ldraw : FuncData
  f_Lof : Addr
  d_Lof : FuncData
  f_Lmixed : Addr
  d_Lmixed : FuncData
  f_Lsame : Addr
  d_Lsame : FuncData
  f_Lfield : Addr
  d_Lfield : FuncData
  f_Lother_field : Addr
  d_Lother_field : FuncData
  f_Lgot : Addr
  d_Lgot : FuncData
  f_Lwhy : Addr
  d_Lwhy : FuncData
  f_Lwhys : Addr
  d_Lwhys : FuncData
  f_Lodd : Addr
  d_Lodd : FuncData
  f_Lmarks : Addr
  d_Lmarks : FuncData
  f_Lstep : Addr
  d_Lstep : FuncData
  f_Lrows : Addr
  d_Lrows : FuncData
  f_Llog : Addr
  d_Llog : FuncData
  f_Llengths : Addr
  d_Llengths : FuncData
  f_Ldeeds : Addr
  d_Ldeeds : FuncData
  f_law : Addr
  d_law : FuncData
  q_DEEDS : Addr
  u_DEEDS : Value
  u_DIGITS : Value
  u_LEAST : Value
  u_LETTERS : Value
  u_MOST : Value
  u_NAME_LENGTH : Value
  u_WORD_LENGTH : Value
structure TopOk (K : PySem.W.Frag) (mg : Str → Option Value) (A : Top) : Prop where
  m_DuplicateMessage : mg "DuplicateMessage" = some (.ref A.c_DuplicateMessage)
  m_DuplicateName : mg "DuplicateName" = some (.ref A.c_DuplicateName)
  m_InvalidName : mg "InvalidName" = some (.ref A.c_InvalidName)
  m_InvalidRow : mg "InvalidRow" = some (.ref A.c_InvalidRow)
  m_InvalidStep : mg "InvalidStep" = some (.ref A.c_InvalidStep)
  m_InvalidText : mg "InvalidText" = some (.ref A.c_InvalidText)
  m_Log : mg "Log" = some (.ref A.c_Log)
  m_LogError : mg "LogError" = some (.ref A.c_LogError)
  m_Missing : mg "Missing" = some (.ref A.c_Missing)
  m_NothingLeft : mg "NothingLeft" = some (.ref A.c_NothingLeft)
  m_Ring : mg "Ring" = some (.ref A.c_Ring)
  m_TooMany : mg "TooMany" = some (.ref A.c_TooMany)
  m_UnknownProcess : mg "UnknownProcess" = some (.ref A.c_UnknownProcess)
  m_Unsent : mg "Unsent" = some (.ref A.c_Unsent)
  X_InvalidName : OxC K A.c_InvalidName
  no_InvalidName : noB K A.c_InvalidName ("code" :: ["value"]) = true
  i_InvalidName : PySem.W.findIn K (.ref A.c_InvalidName) "__init__" = some (some (.ref A.f_i_InvalidName))
  t_InvalidName : PySem.W.typeIn K (.ref A.f_i_InvalidName) = some (.type "function")
  F_i_InvalidName : Fun K "__init__" "InvalidName.__init__" s_i_InvalidName A.f_i_InvalidName A.d_i_InvalidName
  a_i_InvalidName : Binds K A.d_i_InvalidName P_i_InvalidName []
  tt_InvalidName : PySem.W.typeIn K (.ref A.c_InvalidName) = some (.type "type")
  em_InvalidName : decide (PySem.W.exmAny K (.ref A.c_InvalidName) [.ref A.c_LogError, .ref A.c_Missing, .ref A.c_NothingLeft] = some true) = true
  X_InvalidRow : OxC K A.c_InvalidRow
  no_InvalidRow : noB K A.c_InvalidRow ("code" :: ["at"]) = true
  i_InvalidRow : PySem.W.findIn K (.ref A.c_InvalidRow) "__init__" = some (some (.ref A.f_i_InvalidRow))
  t_InvalidRow : PySem.W.typeIn K (.ref A.f_i_InvalidRow) = some (.type "function")
  F_i_InvalidRow : Fun K "__init__" "InvalidRow.__init__" s_i_InvalidRow A.f_i_InvalidRow A.d_i_InvalidRow
  a_i_InvalidRow : Binds K A.d_i_InvalidRow P_i_InvalidRow []
  tt_InvalidRow : PySem.W.typeIn K (.ref A.c_InvalidRow) = some (.type "type")
  em_InvalidRow : decide (PySem.W.exmAny K (.ref A.c_InvalidRow) [.ref A.c_LogError, .ref A.c_Missing, .ref A.c_NothingLeft] = some true) = true
  X_DuplicateName : OxC K A.c_DuplicateName
  no_DuplicateName : noB K A.c_DuplicateName ("code" :: ["name"]) = true
  i_DuplicateName : PySem.W.findIn K (.ref A.c_DuplicateName) "__init__" = some (some (.ref A.f_i_DuplicateName))
  t_DuplicateName : PySem.W.typeIn K (.ref A.f_i_DuplicateName) = some (.type "function")
  F_i_DuplicateName : Fun K "__init__" "DuplicateName.__init__" s_i_DuplicateName A.f_i_DuplicateName A.d_i_DuplicateName
  a_i_DuplicateName : Binds K A.d_i_DuplicateName P_i_DuplicateName []
  tt_DuplicateName : PySem.W.typeIn K (.ref A.c_DuplicateName) = some (.type "type")
  em_DuplicateName : decide (PySem.W.exmAny K (.ref A.c_DuplicateName) [.ref A.c_LogError, .ref A.c_Missing, .ref A.c_NothingLeft] = some true) = true
  X_InvalidStep : OxC K A.c_InvalidStep
  no_InvalidStep : noB K A.c_InvalidStep ("code" :: ["process", "index"]) = true
  i_InvalidStep : PySem.W.findIn K (.ref A.c_InvalidStep) "__init__" = some (some (.ref A.f_i_InvalidStep))
  t_InvalidStep : PySem.W.typeIn K (.ref A.f_i_InvalidStep) = some (.type "function")
  F_i_InvalidStep : Fun K "__init__" "InvalidStep.__init__" s_i_InvalidStep A.f_i_InvalidStep A.d_i_InvalidStep
  a_i_InvalidStep : Binds K A.d_i_InvalidStep P_i_InvalidStep []
  tt_InvalidStep : PySem.W.typeIn K (.ref A.c_InvalidStep) = some (.type "type")
  em_InvalidStep : decide (PySem.W.exmAny K (.ref A.c_InvalidStep) [.ref A.c_LogError, .ref A.c_Missing, .ref A.c_NothingLeft] = some true) = true
  X_DuplicateMessage : OxC K A.c_DuplicateMessage
  no_DuplicateMessage : noB K A.c_DuplicateMessage ("code" :: ["message"]) = true
  i_DuplicateMessage : PySem.W.findIn K (.ref A.c_DuplicateMessage) "__init__" = some (some (.ref A.f_i_DuplicateMessage))
  t_DuplicateMessage : PySem.W.typeIn K (.ref A.f_i_DuplicateMessage) = some (.type "function")
  F_i_DuplicateMessage : Fun K "__init__" "DuplicateMessage.__init__" s_i_DuplicateMessage A.f_i_DuplicateMessage A.d_i_DuplicateMessage
  a_i_DuplicateMessage : Binds K A.d_i_DuplicateMessage P_i_DuplicateMessage []
  tt_DuplicateMessage : PySem.W.typeIn K (.ref A.c_DuplicateMessage) = some (.type "type")
  em_DuplicateMessage : decide (PySem.W.exmAny K (.ref A.c_DuplicateMessage) [.ref A.c_LogError, .ref A.c_Missing, .ref A.c_NothingLeft] = some true) = true
  X_Unsent : OxC K A.c_Unsent
  no_Unsent : noB K A.c_Unsent ("code" :: ["message"]) = true
  i_Unsent : PySem.W.findIn K (.ref A.c_Unsent) "__init__" = some (some (.ref A.f_i_Unsent))
  t_Unsent : PySem.W.typeIn K (.ref A.f_i_Unsent) = some (.type "function")
  F_i_Unsent : Fun K "__init__" "Unsent.__init__" s_i_Unsent A.f_i_Unsent A.d_i_Unsent
  a_i_Unsent : Binds K A.d_i_Unsent P_i_Unsent []
  tt_Unsent : PySem.W.typeIn K (.ref A.c_Unsent) = some (.type "type")
  em_Unsent : decide (PySem.W.exmAny K (.ref A.c_Unsent) [.ref A.c_LogError, .ref A.c_Missing, .ref A.c_NothingLeft] = some true) = true
  X_Ring : OxC K A.c_Ring
  no_Ring : noB K A.c_Ring ("code" :: ["process"]) = true
  i_Ring : PySem.W.findIn K (.ref A.c_Ring) "__init__" = some (some (.ref A.f_i_Ring))
  t_Ring : PySem.W.typeIn K (.ref A.f_i_Ring) = some (.type "function")
  F_i_Ring : Fun K "__init__" "Ring.__init__" s_i_Ring A.f_i_Ring A.d_i_Ring
  a_i_Ring : Binds K A.d_i_Ring P_i_Ring []
  tt_Ring : PySem.W.typeIn K (.ref A.c_Ring) = some (.type "type")
  em_Ring : decide (PySem.W.exmAny K (.ref A.c_Ring) [.ref A.c_LogError, .ref A.c_Missing, .ref A.c_NothingLeft] = some true) = true
  X_TooMany : OxC K A.c_TooMany
  no_TooMany : noB K A.c_TooMany ("code" :: ["subject", "most"]) = true
  i_TooMany : PySem.W.findIn K (.ref A.c_TooMany) "__init__" = some (some (.ref A.f_i_TooMany))
  t_TooMany : PySem.W.typeIn K (.ref A.f_i_TooMany) = some (.type "function")
  F_i_TooMany : Fun K "__init__" "TooMany.__init__" s_i_TooMany A.f_i_TooMany A.d_i_TooMany
  a_i_TooMany : Binds K A.d_i_TooMany P_i_TooMany []
  tt_TooMany : PySem.W.typeIn K (.ref A.c_TooMany) = some (.type "type")
  em_TooMany : decide (PySem.W.exmAny K (.ref A.c_TooMany) [.ref A.c_LogError, .ref A.c_Missing, .ref A.c_NothingLeft] = some true) = true
  X_InvalidText : OxC K A.c_InvalidText
  no_InvalidText : noB K A.c_InvalidText ("code" :: ["at"]) = true
  i_InvalidText : PySem.W.findIn K (.ref A.c_InvalidText) "__init__" = some (some (.ref A.f_i_InvalidText))
  t_InvalidText : PySem.W.typeIn K (.ref A.f_i_InvalidText) = some (.type "function")
  F_i_InvalidText : Fun K "__init__" "InvalidText.__init__" s_i_InvalidText A.f_i_InvalidText A.d_i_InvalidText
  a_i_InvalidText : Binds K A.d_i_InvalidText P_i_InvalidText []
  tt_InvalidText : PySem.W.typeIn K (.ref A.c_InvalidText) = some (.type "type")
  em_InvalidText : decide (PySem.W.exmAny K (.ref A.c_InvalidText) [.ref A.c_LogError, .ref A.c_Missing, .ref A.c_NothingLeft] = some true) = true
  X_UnknownProcess : OxC K A.c_UnknownProcess
  no_UnknownProcess : noB K A.c_UnknownProcess ("code" :: ["name"]) = true
  i_UnknownProcess : PySem.W.findIn K (.ref A.c_UnknownProcess) "__init__" = some (some (.ref A.f_i_UnknownProcess))
  t_UnknownProcess : PySem.W.typeIn K (.ref A.f_i_UnknownProcess) = some (.type "function")
  F_i_UnknownProcess : Fun K "__init__" "UnknownProcess.__init__" s_i_UnknownProcess A.f_i_UnknownProcess A.d_i_UnknownProcess
  a_i_UnknownProcess : Binds K A.d_i_UnknownProcess P_i_UnknownProcess []
  tt_UnknownProcess : PySem.W.typeIn K (.ref A.c_UnknownProcess) = some (.type "type")
  em_UnknownProcess : decide (PySem.W.exmAny K (.ref A.c_UnknownProcess) [.ref A.c_LogError, .ref A.c_Missing, .ref A.c_NothingLeft] = some true) = true
  cl_Log : Cls K A.c_Log
  mk_Log : Mk K A.c_Log A.f_i_Log
  rd_Log : ClX.CRead K A.c_Log (.type "type")
  ic_Log : C8.InsC K A.c_Log
  nq_Log : PySem.W.findIn K (.ref A.c_Log) "__ne__" = some (some (.builtin "object.__ne__"))
  na_Log_rows : NoAttr K A.c_Log "_rows"
  na_Log_order : NoAttr K A.c_Log "_order"
  cv_Log_PROCESSES : ClX.CVal K A.c_Log (.type "type") "PROCESSES" (.int 6) A.u_Log_PROCESSES
  cv_Log_STEPS : ClX.CVal K A.c_Log (.type "type") "STEPS" (.int 20) A.u_Log_STEPS
  F_i_Log : Fun K "__init__" "Log.__init__" s_i_Log A.f_i_Log A.d_i_Log
  F_Log_rows : Fun K "rows" "Log.rows" s_Log_rows A.f_Log_rows A.d_Log_rows
  me_Log_rows : Meth K A.c_Log "rows" A.f_Log_rows
  a_Log_rows : Binds K A.d_Log_rows P_Log_rows []
  F_Log_processes : Fun K "processes" "Log.processes" s_Log_processes A.f_Log_processes A.d_Log_processes
  me_Log_processes : Meth K A.c_Log "processes" A.f_Log_processes
  a_Log_processes : Binds K A.d_Log_processes P_Log_processes []
  F_Log_row : Fun K "row" "Log.row" s_Log_row A.f_Log_row A.d_Log_row
  me_Log_row : Meth K A.c_Log "row" A.f_Log_row
  a_Log_row : Binds K A.d_Log_row P_Log_row []
  F_Log_lengths : Fun K "lengths" "Log.lengths" s_Log_lengths A.f_Log_lengths A.d_Log_lengths
  me_Log_lengths : Meth K A.c_Log "lengths" A.f_Log_lengths
  a_Log_lengths : Binds K A.d_Log_lengths P_Log_lengths []
  F_Log_text : Fun K "text" "Log.text" s_Log_text A.f_Log_text A.d_Log_text
  me_Log_text : Meth K A.c_Log "text" A.f_Log_text
  a_Log_text : Binds K A.d_Log_text P_Log_text []
  F_Log_read : Fun K "read" "Log.read" s_Log_read A.f_Log_read A.d_Log_read
  cm_Log_read : ClX.CMet K A.c_Log (.type "type") "read" A.p_Log_read A.f_Log_read
  a_Log_read : Binds K A.d_Log_read P_Log_read []
  F_Log_with_step : Fun K "with_step" "Log.with_step" s_Log_with_step A.f_Log_with_step A.d_Log_with_step
  me_Log_with_step : Meth K A.c_Log "with_step" A.f_Log_with_step
  a_Log_with_step : Binds K A.d_Log_with_step P_Log_with_step []
  F_Log_with_process : Fun K "with_process" "Log.with_process" s_Log_with_process A.f_Log_with_process A.d_Log_with_process
  me_Log_with_process : Meth K A.c_Log "with_process" A.f_Log_with_process
  a_Log_with_process : Binds K A.d_Log_with_process P_Log_with_process []
  F_Log_eq : Fun K "__eq__" "Log.__eq__" s_Log_eq A.f_Log_eq A.d_Log_eq
  me_Log_eq : Meth K A.c_Log "__eq__" A.f_Log_eq
  a_Log_eq : Binds K A.d_Log_eq P_Log_eq []
  F_Log_len : Fun K "__len__" "Log.__len__" s_Log_len A.f_Log_len A.d_Log_len
  me_Log_len : Meth K A.c_Log "__len__" A.f_Log_len
  a_Log_len : Binds K A.d_Log_len P_Log_len []
  F_Log_str : Fun K "__str__" "Log.__str__" s_Log_str A.f_Log_str A.d_Log_str
  me_Log_str : Meth K A.c_Log "__str__" A.f_Log_str
  a_Log_str : Binds K A.d_Log_str P_Log_str []
  F_is_name : Fun K "is_name" "is_name" s_is_name A.f_is_name A.d_is_name
  g_is_name : mg "is_name" = some (.ref A.f_is_name)
  a_is_name : Binds K A.d_is_name P_is_name []
  F_is_word : Fun K "is_word" "is_word" s_is_word A.f_is_word A.d_is_word
  g_is_word : mg "is_word" = some (.ref A.f_is_word)
  a_is_word : Binds K A.d_is_word P_is_word []
  F_is_number : Fun K "is_number" "is_number" s_is_number A.f_is_number A.d_is_number
  g_is_number : mg "is_number" = some (.ref A.f_is_number)
  a_is_number : Binds K A.d_is_number P_is_number []
  F_is_step : Fun K "is_step" "is_step" s_is_step A.f_is_step A.d_is_step
  g_is_step : mg "is_step" = some (.ref A.f_is_step)
  a_is_step : Binds K A.d_is_step P_is_step []
  F_step_text : Fun K "step_text" "step_text" s_step_text A.f_step_text A.d_step_text
  g_step_text : mg "step_text" = some (.ref A.f_step_text)
  a_step_text : Binds K A.d_step_text P_step_text []
  F_read_step : Fun K "read_step" "read_step" s_read_step A.f_read_step A.d_read_step
  g_read_step : mg "read_step" = some (.ref A.f_read_step)
  a_read_step : Binds K A.d_read_step P_read_step []
  F_read_number : Fun K "read_number" "read_number" s_read_number A.f_read_number A.d_read_number
  g_read_number : mg "read_number" = some (.ref A.f_read_number)
  a_read_number : Binds K A.d_read_number P_read_number []
  F_consists_of : Fun K "_consists_of" "_consists_of" s_consists_of A.f_consists_of A.d_consists_of
  g_consists_of : mg "_consists_of" = some (.ref A.f_consists_of)
  a_consists_of : Binds K A.d_consists_of P_consists_of []
  F_is_deed : Fun K "_is_deed" "_is_deed" s_is_deed A.f_is_deed A.d_is_deed
  g_is_deed : mg "_is_deed" = some (.ref A.f_is_deed)
  a_is_deed : Binds K A.d_is_deed P_is_deed []
  F_split_deed : Fun K "_split_deed" "_split_deed" s_split_deed A.f_split_deed A.d_split_deed
  g_split_deed : mg "_split_deed" = some (.ref A.f_split_deed)
  a_split_deed : Binds K A.d_split_deed P_split_deed []
  F_check_rows : Fun K "_check_rows" "_check_rows" s_check_rows A.f_check_rows A.d_check_rows
  g_check_rows : mg "_check_rows" = some (.ref A.f_check_rows)
  a_check_rows : Binds K A.d_check_rows P_check_rows []
  F_is_row : Fun K "_is_row" "_is_row" s_is_row A.f_is_row A.d_is_row
  g_is_row : mg "_is_row" = some (.ref A.f_is_row)
  a_is_row : Binds K A.d_is_row P_is_row []
  F_check_steps : Fun K "_check_steps" "_check_steps" s_check_steps A.f_check_steps A.d_check_steps
  g_check_steps : mg "_check_steps" = some (.ref A.f_check_steps)
  a_check_steps : Binds K A.d_check_steps P_check_steps []
  F_check_messages : Fun K "_check_messages" "_check_messages" s_check_messages A.f_check_messages A.d_check_messages
  g_check_messages : mg "_check_messages" = some (.ref A.f_check_messages)
  a_check_messages : Binds K A.d_check_messages P_check_messages []
  F_check_ends : Fun K "_check_ends" "_check_ends" s_check_ends A.f_check_ends A.d_check_ends
  g_check_ends : mg "_check_ends" = some (.ref A.f_check_ends)
  a_check_ends : Binds K A.d_check_ends P_check_ends []
  F_names : Fun K "_names" "_names" s_names A.f_names A.d_names
  g_names : mg "_names" = some (.ref A.f_names)
  a_names : Binds K A.d_names P_names []
  F_deeds : Fun K "_deeds" "_deeds" s_deeds A.f_deeds A.d_deeds
  g_deeds : mg "_deeds" = some (.ref A.f_deeds)
  a_deeds : Binds K A.d_deeds P_deeds []
  F_first_unsent : Fun K "_first_unsent" "_first_unsent" s_first_unsent A.f_first_unsent A.d_first_unsent
  g_first_unsent : mg "_first_unsent" = some (.ref A.f_first_unsent)
  a_first_unsent : Binds K A.d_first_unsent P_first_unsent []
  F_order_of : Fun K "_order_of" "_order_of" s_order_of A.f_order_of A.d_order_of
  g_order_of : mg "_order_of" = some (.ref A.f_order_of)
  a_order_of : Binds K A.d_order_of P_order_of []
  F_first_ready : Fun K "_first_ready" "_first_ready" s_first_ready A.f_first_ready A.d_first_ready
  g_first_ready : mg "_first_ready" = some (.ref A.f_first_ready)
  a_first_ready : Binds K A.d_first_ready P_first_ready []
  F_can_be_made : Fun K "_can_be_made" "_can_be_made" s_can_be_made A.f_can_be_made A.d_can_be_made
  g_can_be_made : mg "_can_be_made" = some (.ref A.f_can_be_made)
  a_can_be_made : Binds K A.d_can_be_made P_can_be_made []
  F_row_text : Fun K "_row_text" "_row_text" s_row_text A.f_row_text A.d_row_text
  g_row_text : mg "_row_text" = some (.ref A.f_row_text)
  a_row_text : Binds K A.d_row_text P_row_text []
  F_read_row : Fun K "read_row" "read_row" s_read_row A.f_read_row A.d_read_row
  g_read_row : mg "read_row" = some (.ref A.f_read_row)
  a_read_row : Binds K A.d_read_row P_read_row []
  F_Lbag : Fun K "_law_bag" "_law_bag" s_Lbag A.f_Lbag A.d_Lbag
  g_Lbag : mg "_law_bag" = some (.ref A.f_Lbag)
  a_Lbag : Binds K A.d_Lbag P_Lbag []
  F_Ldraw : Fun K "_law_draw" "_law_draw" s_Ldraw A.f_Ldraw A.d_Ldraw
  g_Ldraw : mg "_law_draw" = some (.ref A.f_Ldraw)
  a_Ldraw : Binds K A.d_Ldraw P_Ldraw []
  F_Lof : Fun K "_law_of" "_law_of" s_Lof A.f_Lof A.d_Lof
  g_Lof : mg "_law_of" = some (.ref A.f_Lof)
  a_Lof : Binds K A.d_Lof P_Lof []
  F_Lmixed : Fun K "_law_mixed" "_law_mixed" s_Lmixed A.f_Lmixed A.d_Lmixed
  g_Lmixed : mg "_law_mixed" = some (.ref A.f_Lmixed)
  a_Lmixed : Binds K A.d_Lmixed P_Lmixed []
  F_Lsame : Fun K "_law_same" "_law_same" s_Lsame A.f_Lsame A.d_Lsame
  g_Lsame : mg "_law_same" = some (.ref A.f_Lsame)
  a_Lsame : Binds K A.d_Lsame P_Lsame []
  F_Lfield : Fun K "_law_field" "_law_field" s_Lfield A.f_Lfield A.d_Lfield
  g_Lfield : mg "_law_field" = some (.ref A.f_Lfield)
  a_Lfield : Binds K A.d_Lfield P_Lfield []
  F_Lother_field : Fun K "_law_other_field" "_law_other_field" s_Lother_field A.f_Lother_field A.d_Lother_field
  g_Lother_field : mg "_law_other_field" = some (.ref A.f_Lother_field)
  a_Lother_field : Binds K A.d_Lother_field P_Lother_field []
  F_Lgot : Fun K "_law_got" "_law_got" s_Lgot A.f_Lgot A.d_Lgot
  g_Lgot : mg "_law_got" = some (.ref A.f_Lgot)
  a_Lgot : Binds K A.d_Lgot P_Lgot []
  F_Lwhy : Fun K "_law_why" "_law_why" s_Lwhy A.f_Lwhy A.d_Lwhy
  g_Lwhy : mg "_law_why" = some (.ref A.f_Lwhy)
  a_Lwhy : Binds K A.d_Lwhy P_Lwhy []
  F_Lwhys : Fun K "_law_whys" "_law_whys" s_Lwhys A.f_Lwhys A.d_Lwhys
  g_Lwhys : mg "_law_whys" = some (.ref A.f_Lwhys)
  a_Lwhys : Binds K A.d_Lwhys P_Lwhys []
  F_Lodd : Fun K "_law_odd" "_law_odd" s_Lodd A.f_Lodd A.d_Lodd
  g_Lodd : mg "_law_odd" = some (.ref A.f_Lodd)
  a_Lodd : Binds K A.d_Lodd P_Lodd []
  F_Lmarks : Fun K "_law_marks" "_law_marks" s_Lmarks A.f_Lmarks A.d_Lmarks
  g_Lmarks : mg "_law_marks" = some (.ref A.f_Lmarks)
  a_Lmarks : Binds K A.d_Lmarks P_Lmarks []
  F_Lstep : Fun K "_law_step" "_law_step" s_Lstep A.f_Lstep A.d_Lstep
  g_Lstep : mg "_law_step" = some (.ref A.f_Lstep)
  a_Lstep : Binds K A.d_Lstep P_Lstep []
  F_Lrows : Fun K "_law_rows" "_law_rows" s_Lrows A.f_Lrows A.d_Lrows
  g_Lrows : mg "_law_rows" = some (.ref A.f_Lrows)
  a_Lrows : Binds K A.d_Lrows P_Lrows []
  F_Llog : Fun K "_law_log" "_law_log" s_Llog A.f_Llog A.d_Llog
  g_Llog : mg "_law_log" = some (.ref A.f_Llog)
  a_Llog : Binds K A.d_Llog P_Llog []
  F_Llengths : Fun K "_law_lengths" "_law_lengths" s_Llengths A.f_Llengths A.d_Llengths
  g_Llengths : mg "_law_lengths" = some (.ref A.f_Llengths)
  a_Llengths : Binds K A.d_Llengths P_Llengths []
  F_Ldeeds : Fun K "_law_deeds" "_law_deeds" s_Ldeeds A.f_Ldeeds A.d_Ldeeds
  g_Ldeeds : mg "_law_deeds" = some (.ref A.f_Ldeeds)
  a_Ldeeds : Binds K A.d_Ldeeds P_Ldeeds []
  F_law : Fun K "law" "law" s_law A.f_law A.d_law
  g_law : mg "law" = some (.ref A.f_law)
  a_law : Binds K A.d_law P_law []
  c_DEEDS : mg "DEEDS" = some A.u_DEEDS
  r_DEEDS : RelV (.ref A.q_DEEDS) A.u_DEEDS
  t_DEEDS : ∀ H : Hp, Dp K H (.ref A.q_DEEDS) (.tuple [.tuple [.str "send", .str "!"], .tuple [.str "receive", .str "?"]])
  c_DIGITS : mg "DIGITS" = some A.u_DIGITS
  r_DIGITS : RelV (.str "0123456789") A.u_DIGITS
  c_LEAST : mg "LEAST" = some A.u_LEAST
  r_LEAST : RelV (.int (-99)) A.u_LEAST
  c_LETTERS : mg "LETTERS" = some A.u_LETTERS
  r_LETTERS : RelV (.str "abcdefghijklmnopqrstuvwxyz") A.u_LETTERS
  c_MOST : mg "MOST" = some A.u_MOST
  r_MOST : RelV (.int 99) A.u_MOST
  c_NAME_LENGTH : mg "NAME_LENGTH" = some A.u_NAME_LENGTH
  r_NAME_LENGTH : RelV (.int 6) A.u_NAME_LENGTH
  c_WORD_LENGTH : mg "WORD_LENGTH" = some A.u_WORD_LENGTH
  r_WORD_LENGTH : RelV (.int 4) A.u_WORD_LENGTH
  b_all : mg "all" = none
  b_bool : mg "bool" = none
  b_enumerate : mg "enumerate" = none
  b_int : mg "int" = none
  b_isinstance : mg "isinstance" = none
  b_len : mg "len" = none
  b_list : mg "list" = none
  b_range : mg "range" = none
  b_str : mg "str" = none
  b_sum : mg "sum" = none
  b_tuple : mg "tuple" = none
  b_zip : mg "zip" = none
  kb_Log_with_process_1_name : KBn K A.d_Log_with_process P_Log_with_process 1 ["name"] (fun us ws => (us.drop 0).take 1 ++ (ws.drop 0).take 1) (fun us ws => (us.drop 0).take 1 ++ (ws.drop 0).take 1)
  kb_Log_with_step_1_step_process : KBn K A.d_Log_with_step P_Log_with_step 1 ["step", "process"] (fun us ws => (us.drop 0).take 1 ++ (ws.drop 1).take 1 ++ (ws.drop 0).take 1) (fun us ws => (us.drop 0).take 1 ++ (ws.drop 1).take 1 ++ (ws.drop 0).take 1)
end My
set_option Elab.async false
set_option linter.all false
set_option maxRecDepth 100000
namespace My
open PySem PySem.Spec PyProof.Rows L2 TL
section
variable {P : Program} {w : World} {K : PySem.W.Frag} {mg : Str → Option Value} {base : Heap} {A : Top}
theorem len_1 {ws : List V} (h : ws.length = 1) : ∃ a, ws = [a] := by
  match ws, h with
  | [a], _ => exact ⟨a, rfl⟩
theorem len_2 {ws : List V} (h : ws.length = 2) : ∃ a b, ws = [a, b] := by
  match ws, h with
  | [a, b], _ => exact ⟨a, b, rfl⟩
theorem len_3 {ws : List V} (h : ws.length = 3) : ∃ a b c, ws = [a, b, c] := by
  match ws, h with
  | [a, b, c], _ => exact ⟨a, b, c, rfl⟩
theorem ok_i_InvalidName (T : TopOk K mg A) : FnOk P w K mg base CX0 1 A.f_i_InvalidName A.d_i_InvalidName P_i_InvalidName (L2.spInit A.c_InvalidName "InvalidName" ["value"]) := by
  refine T.F_i_InvalidName.ok sc_i_InvalidName (fun vs H Q E h => ?_) (fun cdv Ar outer s H vs Q E hr h => ?_)
  · obtain ⟨a, ws, rfl, hl, _⟩ := h
    obtain ⟨w0, rfl⟩ := len_1 hl
    rfl
  · obtain ⟨a, ws, rfl, hl, ha, q⟩ := h
    obtain ⟨w0, rfl⟩ := len_1 hl
    refine ⟨_, (pss_cons (ps_oxt (pv 0) pe_str)
      (pss_one (ps_oxt (pv 0) (pv 1)))), ?_⟩
    refine ⟨_, rfl, _, _, rfl, T.X_InvalidName, noB_at T.no_InvalidName (by decide), .inl ⟨ha, fun dx nd ne => ?_⟩⟩
    refine ⟨_, rfl, _, rfl, _, _, rfl, T.X_InvalidName, noB_at T.no_InvalidName (by decide), .inr ⟨dx, _, by simp only [upd_ne (Ne.symm ne), upd_same], by first | exact upd_same | (rw [upd_ne ne]; exact upd_same), by show 1 ≤ 900; decide, ?_⟩⟩
    exact q _ dx nd ne (by simp only [upd_ne (Ne.symm ne), upd_same]) (by first | exact upd_same | (rw [upd_ne ne]; exact upd_same)) (fun b h1 h2 => by simp only [upd_ne h1, upd_ne h2])
theorem ok_i_InvalidRow (T : TopOk K mg A) : FnOk P w K mg base CX0 1 A.f_i_InvalidRow A.d_i_InvalidRow P_i_InvalidRow (L2.spInit A.c_InvalidRow "InvalidRow" ["at"]) := by
  refine T.F_i_InvalidRow.ok sc_i_InvalidRow (fun vs H Q E h => ?_) (fun cdv Ar outer s H vs Q E hr h => ?_)
  · obtain ⟨a, ws, rfl, hl, _⟩ := h
    obtain ⟨w0, rfl⟩ := len_1 hl
    rfl
  · obtain ⟨a, ws, rfl, hl, ha, q⟩ := h
    obtain ⟨w0, rfl⟩ := len_1 hl
    refine ⟨_, (pss_cons (ps_oxt (pv 0) pe_str)
      (pss_one (ps_oxt (pv 0) (pv 1)))), ?_⟩
    refine ⟨_, rfl, _, _, rfl, T.X_InvalidRow, noB_at T.no_InvalidRow (by decide), .inl ⟨ha, fun dx nd ne => ?_⟩⟩
    refine ⟨_, rfl, _, rfl, _, _, rfl, T.X_InvalidRow, noB_at T.no_InvalidRow (by decide), .inr ⟨dx, _, by simp only [upd_ne (Ne.symm ne), upd_same], by first | exact upd_same | (rw [upd_ne ne]; exact upd_same), by show 1 ≤ 900; decide, ?_⟩⟩
    exact q _ dx nd ne (by simp only [upd_ne (Ne.symm ne), upd_same]) (by first | exact upd_same | (rw [upd_ne ne]; exact upd_same)) (fun b h1 h2 => by simp only [upd_ne h1, upd_ne h2])
theorem ok_i_DuplicateName (T : TopOk K mg A) : FnOk P w K mg base CX0 1 A.f_i_DuplicateName A.d_i_DuplicateName P_i_DuplicateName (L2.spInit A.c_DuplicateName "DuplicateName" ["name"]) := by
  refine T.F_i_DuplicateName.ok sc_i_DuplicateName (fun vs H Q E h => ?_) (fun cdv Ar outer s H vs Q E hr h => ?_)
  · obtain ⟨a, ws, rfl, hl, _⟩ := h
    obtain ⟨w0, rfl⟩ := len_1 hl
    rfl
  · obtain ⟨a, ws, rfl, hl, ha, q⟩ := h
    obtain ⟨w0, rfl⟩ := len_1 hl
    refine ⟨_, (pss_cons (ps_oxt (pv 0) pe_str)
      (pss_one (ps_oxt (pv 0) (pv 1)))), ?_⟩
    refine ⟨_, rfl, _, _, rfl, T.X_DuplicateName, noB_at T.no_DuplicateName (by decide), .inl ⟨ha, fun dx nd ne => ?_⟩⟩
    refine ⟨_, rfl, _, rfl, _, _, rfl, T.X_DuplicateName, noB_at T.no_DuplicateName (by decide), .inr ⟨dx, _, by simp only [upd_ne (Ne.symm ne), upd_same], by first | exact upd_same | (rw [upd_ne ne]; exact upd_same), by show 1 ≤ 900; decide, ?_⟩⟩
    exact q _ dx nd ne (by simp only [upd_ne (Ne.symm ne), upd_same]) (by first | exact upd_same | (rw [upd_ne ne]; exact upd_same)) (fun b h1 h2 => by simp only [upd_ne h1, upd_ne h2])
theorem ok_i_InvalidStep (T : TopOk K mg A) : FnOk P w K mg base CX0 1 A.f_i_InvalidStep A.d_i_InvalidStep P_i_InvalidStep (L2.spInit A.c_InvalidStep "InvalidStep" ["process", "index"]) := by
  refine T.F_i_InvalidStep.ok sc_i_InvalidStep (fun vs H Q E h => ?_) (fun cdv Ar outer s H vs Q E hr h => ?_)
  · obtain ⟨a, ws, rfl, hl, _⟩ := h
    obtain ⟨w0, w1, rfl⟩ := len_2 hl
    rfl
  · obtain ⟨a, ws, rfl, hl, ha, q⟩ := h
    obtain ⟨w0, w1, rfl⟩ := len_2 hl
    refine ⟨_, (pss_cons (ps_oxt (pv 0) pe_str)
      (pss_cons (ps_oxt (pv 0) (pv 1))
      (pss_one (ps_oxt (pv 0) (pv 2))))), ?_⟩
    refine ⟨_, rfl, _, _, rfl, T.X_InvalidStep, noB_at T.no_InvalidStep (by decide), .inl ⟨ha, fun dx nd ne => ?_⟩⟩
    refine ⟨_, rfl, _, rfl, _, _, rfl, T.X_InvalidStep, noB_at T.no_InvalidStep (by decide), .inr ⟨dx, _, by simp only [upd_ne (Ne.symm ne), upd_same], by first | exact upd_same | (rw [upd_ne ne]; exact upd_same), by show 1 ≤ 900; decide, ?_⟩⟩
    refine ⟨_, rfl, _, rfl, _, _, rfl, T.X_InvalidStep, noB_at T.no_InvalidStep (by decide), .inr ⟨dx, _, by simp only [upd_ne (Ne.symm ne), upd_same], by first | exact upd_same | (rw [upd_ne ne]; exact upd_same), by show 2 ≤ 900; decide, ?_⟩⟩
    exact q _ dx nd ne (by simp only [upd_ne (Ne.symm ne), upd_same]) (by first | exact upd_same | (rw [upd_ne ne]; exact upd_same)) (fun b h1 h2 => by simp only [upd_ne h1, upd_ne h2])
theorem ok_i_DuplicateMessage (T : TopOk K mg A) : FnOk P w K mg base CX0 1 A.f_i_DuplicateMessage A.d_i_DuplicateMessage P_i_DuplicateMessage (L2.spInit A.c_DuplicateMessage "DuplicateMessage" ["message"]) := by
  refine T.F_i_DuplicateMessage.ok sc_i_DuplicateMessage (fun vs H Q E h => ?_) (fun cdv Ar outer s H vs Q E hr h => ?_)
  · obtain ⟨a, ws, rfl, hl, _⟩ := h
    obtain ⟨w0, rfl⟩ := len_1 hl
    rfl
  · obtain ⟨a, ws, rfl, hl, ha, q⟩ := h
    obtain ⟨w0, rfl⟩ := len_1 hl
    refine ⟨_, (pss_cons (ps_oxt (pv 0) pe_str)
      (pss_one (ps_oxt (pv 0) (pv 1)))), ?_⟩
    refine ⟨_, rfl, _, _, rfl, T.X_DuplicateMessage, noB_at T.no_DuplicateMessage (by decide), .inl ⟨ha, fun dx nd ne => ?_⟩⟩
    refine ⟨_, rfl, _, rfl, _, _, rfl, T.X_DuplicateMessage, noB_at T.no_DuplicateMessage (by decide), .inr ⟨dx, _, by simp only [upd_ne (Ne.symm ne), upd_same], by first | exact upd_same | (rw [upd_ne ne]; exact upd_same), by show 1 ≤ 900; decide, ?_⟩⟩
    exact q _ dx nd ne (by simp only [upd_ne (Ne.symm ne), upd_same]) (by first | exact upd_same | (rw [upd_ne ne]; exact upd_same)) (fun b h1 h2 => by simp only [upd_ne h1, upd_ne h2])
theorem ok_i_Unsent (T : TopOk K mg A) : FnOk P w K mg base CX0 1 A.f_i_Unsent A.d_i_Unsent P_i_Unsent (L2.spInit A.c_Unsent "Unsent" ["message"]) := by
  refine T.F_i_Unsent.ok sc_i_Unsent (fun vs H Q E h => ?_) (fun cdv Ar outer s H vs Q E hr h => ?_)
  · obtain ⟨a, ws, rfl, hl, _⟩ := h
    obtain ⟨w0, rfl⟩ := len_1 hl
    rfl
  · obtain ⟨a, ws, rfl, hl, ha, q⟩ := h
    obtain ⟨w0, rfl⟩ := len_1 hl
    refine ⟨_, (pss_cons (ps_oxt (pv 0) pe_str)
      (pss_one (ps_oxt (pv 0) (pv 1)))), ?_⟩
    refine ⟨_, rfl, _, _, rfl, T.X_Unsent, noB_at T.no_Unsent (by decide), .inl ⟨ha, fun dx nd ne => ?_⟩⟩
    refine ⟨_, rfl, _, rfl, _, _, rfl, T.X_Unsent, noB_at T.no_Unsent (by decide), .inr ⟨dx, _, by simp only [upd_ne (Ne.symm ne), upd_same], by first | exact upd_same | (rw [upd_ne ne]; exact upd_same), by show 1 ≤ 900; decide, ?_⟩⟩
    exact q _ dx nd ne (by simp only [upd_ne (Ne.symm ne), upd_same]) (by first | exact upd_same | (rw [upd_ne ne]; exact upd_same)) (fun b h1 h2 => by simp only [upd_ne h1, upd_ne h2])
theorem ok_i_Ring (T : TopOk K mg A) : FnOk P w K mg base CX0 1 A.f_i_Ring A.d_i_Ring P_i_Ring (L2.spInit A.c_Ring "Ring" ["process"]) := by
  refine T.F_i_Ring.ok sc_i_Ring (fun vs H Q E h => ?_) (fun cdv Ar outer s H vs Q E hr h => ?_)
  · obtain ⟨a, ws, rfl, hl, _⟩ := h
    obtain ⟨w0, rfl⟩ := len_1 hl
    rfl
  · obtain ⟨a, ws, rfl, hl, ha, q⟩ := h
    obtain ⟨w0, rfl⟩ := len_1 hl
    refine ⟨_, (pss_cons (ps_oxt (pv 0) pe_str)
      (pss_one (ps_oxt (pv 0) (pv 1)))), ?_⟩
    refine ⟨_, rfl, _, _, rfl, T.X_Ring, noB_at T.no_Ring (by decide), .inl ⟨ha, fun dx nd ne => ?_⟩⟩
    refine ⟨_, rfl, _, rfl, _, _, rfl, T.X_Ring, noB_at T.no_Ring (by decide), .inr ⟨dx, _, by simp only [upd_ne (Ne.symm ne), upd_same], by first | exact upd_same | (rw [upd_ne ne]; exact upd_same), by show 1 ≤ 900; decide, ?_⟩⟩
    exact q _ dx nd ne (by simp only [upd_ne (Ne.symm ne), upd_same]) (by first | exact upd_same | (rw [upd_ne ne]; exact upd_same)) (fun b h1 h2 => by simp only [upd_ne h1, upd_ne h2])
theorem ok_i_TooMany (T : TopOk K mg A) : FnOk P w K mg base CX0 1 A.f_i_TooMany A.d_i_TooMany P_i_TooMany (L2.spInit A.c_TooMany "TooMany" ["subject", "most"]) := by
  refine T.F_i_TooMany.ok sc_i_TooMany (fun vs H Q E h => ?_) (fun cdv Ar outer s H vs Q E hr h => ?_)
  · obtain ⟨a, ws, rfl, hl, _⟩ := h
    obtain ⟨w0, w1, rfl⟩ := len_2 hl
    rfl
  · obtain ⟨a, ws, rfl, hl, ha, q⟩ := h
    obtain ⟨w0, w1, rfl⟩ := len_2 hl
    refine ⟨_, (pss_cons (ps_oxt (pv 0) pe_str)
      (pss_cons (ps_oxt (pv 0) (pv 1))
      (pss_one (ps_oxt (pv 0) (pv 2))))), ?_⟩
    refine ⟨_, rfl, _, _, rfl, T.X_TooMany, noB_at T.no_TooMany (by decide), .inl ⟨ha, fun dx nd ne => ?_⟩⟩
    refine ⟨_, rfl, _, rfl, _, _, rfl, T.X_TooMany, noB_at T.no_TooMany (by decide), .inr ⟨dx, _, by simp only [upd_ne (Ne.symm ne), upd_same], by first | exact upd_same | (rw [upd_ne ne]; exact upd_same), by show 1 ≤ 900; decide, ?_⟩⟩
    refine ⟨_, rfl, _, rfl, _, _, rfl, T.X_TooMany, noB_at T.no_TooMany (by decide), .inr ⟨dx, _, by simp only [upd_ne (Ne.symm ne), upd_same], by first | exact upd_same | (rw [upd_ne ne]; exact upd_same), by show 2 ≤ 900; decide, ?_⟩⟩
    exact q _ dx nd ne (by simp only [upd_ne (Ne.symm ne), upd_same]) (by first | exact upd_same | (rw [upd_ne ne]; exact upd_same)) (fun b h1 h2 => by simp only [upd_ne h1, upd_ne h2])
theorem ok_i_UnknownProcess (T : TopOk K mg A) : FnOk P w K mg base CX0 1 A.f_i_UnknownProcess A.d_i_UnknownProcess P_i_UnknownProcess (L2.spInit A.c_UnknownProcess "UnknownProcess" ["name"]) := by
  refine T.F_i_UnknownProcess.ok sc_i_UnknownProcess (fun vs H Q E h => ?_) (fun cdv Ar outer s H vs Q E hr h => ?_)
  · obtain ⟨a, ws, rfl, hl, _⟩ := h
    obtain ⟨w0, rfl⟩ := len_1 hl
    rfl
  · obtain ⟨a, ws, rfl, hl, ha, q⟩ := h
    obtain ⟨w0, rfl⟩ := len_1 hl
    refine ⟨_, (pss_cons (ps_oxt (pv 0) pe_str)
      (pss_one (ps_oxt (pv 0) (pv 1)))), ?_⟩
    refine ⟨_, rfl, _, _, rfl, T.X_UnknownProcess, noB_at T.no_UnknownProcess (by decide), .inl ⟨ha, fun dx nd ne => ?_⟩⟩
    refine ⟨_, rfl, _, rfl, _, _, rfl, T.X_UnknownProcess, noB_at T.no_UnknownProcess (by decide), .inr ⟨dx, _, by simp only [upd_ne (Ne.symm ne), upd_same], by first | exact upd_same | (rw [upd_ne ne]; exact upd_same), by show 1 ≤ 900; decide, ?_⟩⟩
    exact q _ dx nd ne (by simp only [upd_ne (Ne.symm ne), upd_same]) (by first | exact upd_same | (rw [upd_ne ne]; exact upd_same)) (fun b h1 h2 => by simp only [upd_ne h1, upd_ne h2])
end
end My
set_option Elab.async false
set_option linter.all false
set_option maxRecDepth 100000
namespace My
open PySem PySem.Spec PyProof.Rows L2 TL L2H LamX
/-! ### the law's helpers that catch -/
theorem fun_E {P : Program} {w : World} {K : PySem.W.Frag} {mg : Str → Option Value} {base : Heap} {x qual : Str} {st : Stmt} {f : Addr} {fd : FuncData} {N ps : List Str} {k : Nat} {sp : Addr → Value → Option Addr → Sp} (F : Fun K x qual st f fd) (S : FnScope N ps (defScope st)) (len : ∀ a cls d vs H Q E, sp a cls d vs H Q E → vs.length = ps.length)
    (runs : ∀ (cdv : Value) (A : Around) (outer : List Env) (s : Shared) (H : Hp) (vs : List V) (Q : VK) (E : XK) (a : Addr) (oe : Obj) (cls : Value) (d : Option Addr), Hot1 A (a, oe) → Zc cls d oe → RoomH k (A.deeper (envOfC qual (defScope st) s.heap.objs.size f cdv)) → sp a cls d vs H Q E →
      ∃ t, PSs (cxH CX0 P w K mg base N qual (defScope st) f cdv A outer s H E (a, oe)) (defBody st) t ∧ t { nx := fun _ H' => Q .non H', rt := Q } (start N vs) H) : FnE P w K mg base (k + 1) f fd ps sp := by
  obtain ⟨_, _, _, _, _, _, code, _, _, rfl, at_, coded⟩ := F.ex
  exact fnE_of at_ coded S len (runs code)
theorem fun_S {P : Program} {w : World} {K : PySem.W.Frag} {mg : Str → Option Value} {base : Heap} {CX : CXT} {x qual : Str} {st : Stmt} {f : Addr} {fd : FuncData} {N ps : List Str} {k : Nat} {A : Around} {outer : List Env} {s : Shared} {H : Hp} {us : List Value} {vs : List V} {Q : VK} {E : XK} (F : Fun K x qual st f fd) (S : FnScope N ps (defScope st)) (hr : Room (k + 1) A)
    (e0 : Env0 P w K mg base A outer s H) (hb : Binds K fd ps []) (r : Vals vs us) (hl : vs.length = ps.length)
    (runs : ∀ cdv : Value, Room k (A.deeper (envOfC qual (defScope st) s.heap.objs.size f cdv)) → ∃ t, PSs (cxOf CX P w K mg base N qual (defScope st) f cdv A outer s H E) (defBody st) t ∧ t { nx := fun _ H' => Q .non H', rt := Q } (start N vs) H) :
    codeAny (model P w) A (.call (.ref f) ⟨us, []⟩) (CR CX outer P w H s Q E) s := by
  obtain ⟨_, _, _, _, _, _, code, _, _, rfl, at_, coded⟩ := F.ex
  have KX : K.In s.heap := e0.mod.kin.keeps fun _ _ here => (e0.bs _ _ here).1
  have hul : us.length = ps.length := r.length.symm.trans hl
  have b := hb s us KX (by rw [List.append_nil]; exact hul)
  rw [List.append_nil] at b
  exact run_ofS at_ coded S hr e0 b r hl (runs code)
/-! ### an error's fields, by its code -/
def cVal : List Str := ["InvalidName", "InvalidPoint", "InvalidMoment", "InvalidNumber", "InvalidLimit"]
def cAt : List Str := ["InvalidRow", "InvalidClause", "InvalidTests", "InvalidText", "InvalidCommand"]
def cName : List Str := ["DuplicateName", "UnknownProcess", "UnknownName"]
def cMess : List Str := ["DuplicateMessage", "Unsent"]
def otherOf (code : Str) : List Str := if code = "Ring" then ["process"] else if code = "TooMany" then ["subject", "most"] else if code = "Uneven" then ["block"] else if code = "UnknownStep" then ["step"] else if code = "Full" then ["limit"] else if code = "InvalidPage" then ["line"] else []
def fieldsOf (code : Str) : List Str := if code ∈ cVal then ["value"] else if code ∈ cAt then ["at"] else if code ∈ cName then ["name"] else if code ∈ cMess then ["message"] else if code = "InvalidStep" then ["process", "index"] else if code = "Parted" then ["at", "one", "other"] else otherOf code
/-- an error of the class at C: its dict dd -/
structure ErrG (K : PySem.W.Frag) (C dd : Addr) (code : Str) (names : List Str) (ws : List V) (H : Hp) : Prop where
  xf : XfC K C
  no : ∀ n ∈ ("code" : Str) :: names, PySem.W.findIn K (.ref C) n = some none
  len : ws.length = names.length
  at_ : H dd = some (.xd (flds code names ws))
def strsT : List Str → TA
  | [] => tNil
  | x :: xs => tCons (tC (.str x)) (strsT xs)
theorem strsT_run : ∀ (xs : List Str) (σ : L2.St) (H : Hp) (Q : List V → Hp → Prop), Q (xs.map V.str) H → strsT xs σ H Q
  | [], _, _, _, q => q
  | x :: xs, σ, H, Q, q => strsT_run xs σ H (fun vs H2 => Q (.str x :: vs) H2) q
theorem inV_strs (code : Str) (xs : List Str) : inV (.str code) (xs.map V.str) = decide (code ∈ xs) := by
  unfold inV
  rw [Bool.eq_iff_iff, List.any_eq_true, decide_eq_true_iff]
  constructor
  · rintro ⟨y, m, e⟩
    obtain ⟨x, mx, rfl⟩ := List.mem_map.mp m
    have : x = code := by simpa [eqV] using e
    rw [← this]
    exact mx
  · intro m
    exact ⟨.str code, List.mem_map.mpr ⟨code, m, rfl⟩, by simp [eqV]⟩
section
variable {K : PySem.W.Frag} {C dd a : Addr} {code : Str} {names : List Str} {ws : List V} {σ : L2.St} {H H' : Hp}
theorem ErrG.same (e : ErrG K C dd code names ws H) (s : Same H H') : ErrG K C dd code names ws H' := ⟨e.xf, e.no, e.len, s _ _ e.at_⟩
theorem te_err {n : Str} {v : V} {Q : VK} (h0 : σ[0]? = some (some (.ref a))) (e : ErrG K C dd code names ws H) (hn : n ∈ ("code" : Str) :: names) (hl : (flds code names ws).lookup n = some v) (q : Q v H) : tErr K a (.ref C) (some dd) n (tVar 0) σ H Q :=
  ⟨_, h0, rfl, C, dd, _, v, rfl, e.xf, e.no n hn, rfl, e.at_, hl, q⟩
theorem code_look (h : ("code" : Str) ∉ names) : (flds code names ws).lookup ("code" : Str) = some (V.str code) := by
  unfold flds
  have key : ∀ l : List (Str × V), (∀ p ∈ l, p.1 ≠ "code") → (l ++ [(("code" : Str), V.str code)]).lookup ("code" : Str) = some (V.str code) := fun l hl => by
    induction l with
    | nil => rfl
    | cons p l ih =>
      obtain ⟨n, v⟩ := p
      have hne : n ≠ "code" := hl _ (.head _)
      rw [List.cons_append, List.lookup_cons]
      have : (("code" : Str) == n) = false := beq_eq_false_iff_ne.mpr (Ne.symm hne)
      rw [this]
      exact ih fun p m => hl p (.tail _ m)
  refine key _ fun p m e => h ?_
  rw [← e]
  have m := List.mem_reverse.mp m
  obtain ⟨n, v⟩ := p
  exact (List.of_mem_zip m).1
/-- e.code in (..) -/
theorem tt_in {Q : Bool → Hp → Prop} (xs : List Str) (h0 : σ[0]? = some (some (.ref a))) (e : ErrG K C dd code names ws H) (nc : ("code" : Str) ∉ names) (hx : xs.length ≤ 100) (q : ∀ H', Same H H' → Q (decide (code ∈ xs)) H') : tTest (tOp (rIn K false) (tErr K a (.ref C) (some dd) "code" (tVar 0)) (tTup (strsT xs))) σ H Q := by
  dsimp only [tTest, tOp]
  refine te_err h0 e (.head _) (code_look nc) ?_
  dsimp only [tTup]
  refine strsT_run xs σ H _ ?_
  refine ⟨by rw [List.length_map]; exact sz (by omega), fun p np => ⟨p, xs.map V.str, rfl, .inr (.inl (.inl upd_same)), rfl, ?_, _, rfl, ?_⟩⟩
  · rw [List.all_map]
    exact List.all_eq_true.mpr fun _ _ => rfl
  · show Q (inV (.str code) (xs.map V.str)) _
    rw [inV_strs]
    exact q _ (same_upd np)
/-- e.code == .. -/
theorem tt_eq {Q : Bool → Hp → Prop} (x : Str) (h0 : σ[0]? = some (some (.ref a))) (e : ErrG K C dd code names ws H) (nc : ("code" : Str) ∉ names) (q : Q (decide (code = x)) H) : tTest (tOp rEq (tErr K a (.ref C) (some dd) "code" (tVar 0)) (tC (.str x))) σ H Q := by
  dsimp only [tTest, tOp]
  refine te_err h0 e (.head _) (code_look nc) ?_
  refine ⟨rfl, _, rfl, ?_⟩
  have : decide (V.str code = V.str x) = decide (code = x) := by
    rw [Bool.eq_iff_iff, decide_eq_true_iff, decide_eq_true_iff]
    exact ⟨fun e => V.str.inj e, fun e => by rw [e]⟩
  rw [this]
  exact q
/-- (e.n,) -/
theorem ret_e1 {D : Ends} {n : Str} (hn : names = [n]) (h0 : σ[0]? = some (some (.ref a))) (e : ErrG K C dd code names ws H) (k : ∀ p H', Same H H' → H p = none → H' p = some (.tup ws) → D.rt (.ref p) H') : tRet (tTup (tCons (tErr K a (.ref C) (some dd) n (tVar 0)) tNil)) D σ H := by
  subst hn
  obtain ⟨v, rfl⟩ := len_1 e.len
  have l1 : (flds code [n] [v]).lookup n = some v := by unfold flds; simp [List.lookup]
  dsimp only [tRet, tTup, tCons, tNil]
  refine te_err h0 e (.tail _ (.head _)) l1 ?_
  exact ⟨sz (by show 1 ≤ 100000; decide), fun p np => k p _ (same_upd np) np upd_same⟩
theorem ret_e2 {D : Ends} {n m : Str} (hn : names = [n, m]) (hnm : n ≠ m) (h0 : σ[0]? = some (some (.ref a))) (e : ErrG K C dd code names ws H) (k : ∀ p H', Same H H' → H p = none → H' p = some (.tup ws) → D.rt (.ref p) H') : tRet (tTup (tCons (tErr K a (.ref C) (some dd) n (tVar 0)) (tCons (tErr K a (.ref C) (some dd) m (tVar 0)) tNil))) D σ H := by
  subst hn
  obtain ⟨v, u, rfl⟩ := len_2 e.len
  have b1 : (n == m) = false := beq_eq_false_iff_ne.mpr hnm
  have l1 : (flds code [n, m] [v, u]).lookup n = some v := by unfold flds; simp [List.lookup, b1]
  have l2 : (flds code [n, m] [v, u]).lookup m = some u := by unfold flds; simp [List.lookup]
  dsimp only [tRet, tTup, tCons, tNil]
  refine te_err h0 e (.tail _ (.head _)) l1 ?_
  refine te_err h0 e (.tail _ (.tail _ (.head _))) l2 ?_
  exact ⟨sz (by show 2 ≤ 100000; decide), fun p np => k p _ (same_upd np) np upd_same⟩
theorem ret_e3 {D : Ends} {n m o : Str} (hn : names = [n, m, o]) (h1 : n ≠ m) (h2 : n ≠ o) (h3 : m ≠ o) (h0 : σ[0]? = some (some (.ref a))) (e : ErrG K C dd code names ws H) (k : ∀ p H', Same H H' → H p = none → H' p = some (.tup ws) → D.rt (.ref p) H') : tRet (tTup (tCons (tErr K a (.ref C) (some dd) n (tVar 0)) (tCons (tErr K a (.ref C) (some dd) m (tVar 0)) (tCons (tErr K a (.ref C) (some dd) o (tVar 0)) tNil)))) D σ H := by
  subst hn
  obtain ⟨v, u, x, rfl⟩ := len_3 e.len
  have b1 : (n == m) = false := beq_eq_false_iff_ne.mpr h1
  have b2 : (n == o) = false := beq_eq_false_iff_ne.mpr h2
  have b3 : (m == o) = false := beq_eq_false_iff_ne.mpr h3
  have l1 : (flds code [n, m, o] [v, u, x]).lookup n = some v := by unfold flds; simp [List.lookup, b1, b2]
  have l2 : (flds code [n, m, o] [v, u, x]).lookup m = some u := by unfold flds; simp [List.lookup, b3]
  have l3 : (flds code [n, m, o] [v, u, x]).lookup o = some x := by unfold flds; simp [List.lookup]
  dsimp only [tRet, tTup, tCons, tNil]
  refine te_err h0 e (.tail _ (.head _)) l1 ?_
  refine te_err h0 e (.tail _ (.tail _ (.head _))) l2 ?_
  refine te_err h0 e (.tail _ (.tail _ (.tail _ (.head _)))) l3 ?_
  exact ⟨sz (by show 3 ≤ 100000; decide), fun p np => k p _ (same_upd np) np upd_same⟩
end
/-- what the law tells of an error -/
def spField (K : PySem.W.Frag) (F : Str → List Str) : Addr → Value → Option Addr → Sp := fun a cls d vs H Q _ => vs = [.ref a] ∧ ∃ (C dd : Addr) (code : Str) (names : List Str) (ws : List V), cls = .ref C ∧ d = some dd ∧ ErrG K C dd code names ws H ∧ names = F code ∧ ∀ p H', Same H H' → H p = none → H' p = some (.tup ws) → Q (.ref p) H'
theorem other_nc (code : Str) : ("code" : Str) ∉ otherOf code := by
  unfold otherOf
  repeat' split
  all_goals decide +kernel
theorem fields_nc (code : Str) : ("code" : Str) ∉ fieldsOf code := by
  unfold fieldsOf
  repeat' split
  all_goals first | exact other_nc code | decide +kernel
section
variable {P : Program} {w : World} {K : PySem.W.Frag} {mg : Str → Option Value} {base : Heap} {A : Top}
theorem ok_Lother (T : TopOk K mg A) : FnE P w K mg base 1 A.f_Lother_field A.d_Lother_field P_Lother_field (spField K otherOf) := by
  refine fun_E T.F_Lother_field sc_Lother_field (fun a cls d vs H Q E h => ?_) (fun cdv Ar outer s H vs Q E a oe cls d hot0 hz hr h => ?_)
  · obtain ⟨rfl, _⟩ := h
    rfl
  · obtain ⟨rfl, C, dd, code, names, ws, rfl, rfl, e, hn, k⟩ := h
    have hd : ∃ vs, oe.data = .fields vs := hot0.2.elim fun vs z => ⟨vs, z.1⟩
    have hp : (a, oe) ∈ [(a, oe)] := .head _
    have nc : ("code" : Str) ∉ names := by rw [hn]; exact other_nc code
    unfold otherOf at hn
    refine ⟨_, (pss_cons (ps_if (pt_cmpR op_eq (pe_err hz hd hp (pv 0)) pe_str (nomark _))
      (pss_one (ps_ret (pe_tup (pa_cons (pe_err hz hd hp (pv 0)) pa_nil))))
      pss_nil)
      (pss_cons (ps_if (pt_cmpR op_eq (pe_err hz hd hp (pv 0)) pe_str (nomark _))
      (pss_one (ps_ret (pe_tup (pa_cons (pe_err hz hd hp (pv 0)) (pa_cons (pe_err hz hd hp (pv 0)) pa_nil)))))
      pss_nil)
      (pss_cons (ps_if (pt_cmpR op_eq (pe_err hz hd hp (pv 0)) pe_str (nomark _))
      (pss_one (ps_ret (pe_tup (pa_cons (pe_err hz hd hp (pv 0)) pa_nil))))
      pss_nil)
      (pss_cons (ps_if (pt_cmpR op_eq (pe_err hz hd hp (pv 0)) pe_str (nomark _))
      (pss_one (ps_ret (pe_tup (pa_cons (pe_err hz hd hp (pv 0)) pa_nil))))
      pss_nil)
      (pss_cons (ps_if (pt_cmpR op_eq (pe_err hz hd hp (pv 0)) pe_str (nomark _))
      (pss_one (ps_ret (pe_tup (pa_cons (pe_err hz hd hp (pv 0)) pa_nil))))
      pss_nil)
      (pss_one (ps_ret (pe_ifExp (pt_cmpR op_eq (pe_err hz hd hp (pv 0)) pe_str (nomark _)) (pe_tup (pa_cons (pe_err hz hd hp (pv 0)) pa_nil)) (pe_tup pa_nil))))))))), ?_⟩
    show tSeq (tIfS _ _ _) _ _ [some (.ref a)] H
    refine tt_eq "Ring" rfl e nc (ite2 (fun h => ?_) (fun h => ?_))
    · rw [if_pos (of_decide_eq_true h)] at hn
      exact ret_e1 hn rfl e k
    rw [if_neg (of_decide_eq_false (Bool.eq_false_iff.mpr h))] at hn
    refine tt_eq "TooMany" rfl e nc (ite2 (fun h => ?_) (fun h => ?_))
    · rw [if_pos (of_decide_eq_true h)] at hn
      exact ret_e2 hn (by decide) rfl e k
    rw [if_neg (of_decide_eq_false (Bool.eq_false_iff.mpr h))] at hn
    refine tt_eq "Uneven" rfl e nc (ite2 (fun h => ?_) (fun h => ?_))
    · rw [if_pos (of_decide_eq_true h)] at hn
      exact ret_e1 hn rfl e k
    rw [if_neg (of_decide_eq_false (Bool.eq_false_iff.mpr h))] at hn
    refine tt_eq "UnknownStep" rfl e nc (ite2 (fun h => ?_) (fun h => ?_))
    · rw [if_pos (of_decide_eq_true h)] at hn
      exact ret_e1 hn rfl e k
    rw [if_neg (of_decide_eq_false (Bool.eq_false_iff.mpr h))] at hn
    refine tt_eq "Full" rfl e nc (ite2 (fun h => ?_) (fun h => ?_))
    · rw [if_pos (of_decide_eq_true h)] at hn
      exact ret_e1 hn rfl e k
    rw [if_neg (of_decide_eq_false (Bool.eq_false_iff.mpr h))] at hn
    refine tt_eq "InvalidPage" rfl e nc (ite2 (fun h => ?_) (fun h => ?_))
    · rw [if_pos (of_decide_eq_true h)] at hn
      exact ret_e1 hn rfl e k
    rw [if_neg (of_decide_eq_false (Bool.eq_false_iff.mpr h))] at hn
    subst hn
    have l0 : ws = [] := List.length_eq_zero_iff.mp e.len
    subst l0
    exact ⟨sz (by show 0 ≤ 100000; decide), fun p np => k p _ (same_upd np) np upd_same⟩
theorem ok_Lfield (T : TopOk K mg A) : FnE P w K mg base 3 A.f_Lfield A.d_Lfield P_Lfield (spField K fieldsOf) := by
  have G_Lother_field : FnE P w K mg base 1 A.f_Lother_field A.d_Lother_field P_Lother_field (spField K otherOf) := ok_Lother T
  refine fun_E T.F_Lfield sc_Lfield (fun a cls d vs H Q E h => ?_) (fun cdv Ar outer s H vs Q E a oe cls d hot0 hz hr h => ?_)
  · obtain ⟨rfl, _⟩ := h
    rfl
  · obtain ⟨rfl, C, dd, code, names, ws, rfl, rfl, e, hn, k⟩ := h
    have hd : ∃ vs, oe.data = .fields vs := hot0.2.elim fun vs z => ⟨vs, z.1⟩
    have hp : (a, oe) ∈ [(a, oe)] := .head _
    have hot : Hot1 (cxH CX0 P w K mg base N_Lfield "_law_field" (defScope s_Lfield) A.f_Lfield cdv Ar outer s H E (a, oe)).A (a, oe) := ⟨hot0.1, hot0.2⟩
    have nc : ("code" : Str) ∉ names := by rw [hn]; exact fields_nc code
    unfold fieldsOf at hn
    refine ⟨_, (pss_cons (ps_if (pt_cmpR op_in_seq (pe_err hz hd hp (pv 0)) (pe_tup (pa_cons pe_str (pa_cons pe_str (pa_cons pe_str (pa_cons pe_str (pa_cons pe_str pa_nil)))))) (by rfl))
      (pss_one (ps_ret (pe_tup (pa_cons (pe_err hz hd hp (pv 0)) pa_nil))))
      pss_nil)
      (pss_cons (ps_if (pt_cmpR op_in_seq (pe_err hz hd hp (pv 0)) (pe_tup (pa_cons pe_str (pa_cons pe_str (pa_cons pe_str (pa_cons pe_str (pa_cons pe_str pa_nil)))))) (by rfl))
      (pss_one (ps_ret (pe_tup (pa_cons (pe_err hz hd hp (pv 0)) pa_nil))))
      pss_nil)
      (pss_cons (ps_if (pt_cmpR op_in_seq (pe_err hz hd hp (pv 0)) (pe_tup (pa_cons pe_str (pa_cons pe_str (pa_cons pe_str pa_nil)))) (by rfl))
      (pss_one (ps_ret (pe_tup (pa_cons (pe_err hz hd hp (pv 0)) pa_nil))))
      pss_nil)
      (pss_cons (ps_if (pt_cmpR op_in_seq (pe_err hz hd hp (pv 0)) (pe_tup (pa_cons pe_str (pa_cons pe_str pa_nil))) (by rfl))
      (pss_one (ps_ret (pe_tup (pa_cons (pe_err hz hd hp (pv 0)) pa_nil))))
      pss_nil)
      (pss_cons (ps_if (pt_cmpR op_eq (pe_err hz hd hp (pv 0)) pe_str (nomark _))
      (pss_one (ps_ret (pe_tup (pa_cons (pe_err hz hd hp (pv 0)) (pa_cons (pe_err hz hd hp (pv 0)) pa_nil)))))
      pss_nil)
      (pss_cons (ps_if (pt_cmpR op_eq (pe_err hz hd hp (pv 0)) pe_str (nomark _))
      (pss_one (ps_ret (pe_tup (pa_cons (pe_err hz hd hp (pv 0)) (pa_cons (pe_err hz hd hp (pv 0)) (pa_cons (pe_err hz hd hp (pv 0)) pa_nil))))))
      pss_nil)
      (pss_one (ps_ret (pe_callE (E := E0) G_Lother_field (hr.mono (by decide)) hot hp hz (by rfl) T.g_Lother_field T.F_Lother_field.kp T.a_Lother_field (pa_cons (pv 0) pa_nil)))))))))), ?_⟩
    show tSeq (tIfS _ _ _) _ _ [some (.ref a)] H
    refine tt_in cVal rfl e nc (by decide) fun H1 s1 => ite2 (fun h => ?_) (fun h => ?_)
    · rw [if_pos (of_decide_eq_true h)] at hn
      exact ret_e1 hn rfl (e.same s1) fun p H' s np hp => k p H' (s1.trans s) (s1.free np) hp
    rw [if_neg (of_decide_eq_false (Bool.eq_false_iff.mpr h))] at hn
    have e1 := e.same s1
    refine tt_in cAt rfl e1 nc (by decide) fun H2 s2 => ite2 (fun h => ?_) (fun h => ?_)
    · rw [if_pos (of_decide_eq_true h)] at hn
      exact ret_e1 hn rfl (e1.same s2) fun p H' s np hp => k p H' ((s1.trans s2).trans s) ((s1.trans s2).free np) hp
    rw [if_neg (of_decide_eq_false (Bool.eq_false_iff.mpr h))] at hn
    have s12 := s1.trans s2
    have e2 := e.same s12
    refine tt_in cName rfl e2 nc (by decide) fun H3 s3 => ite2 (fun h => ?_) (fun h => ?_)
    · rw [if_pos (of_decide_eq_true h)] at hn
      exact ret_e1 hn rfl (e2.same s3) fun p H' s np hp => k p H' ((s12.trans s3).trans s) ((s12.trans s3).free np) hp
    rw [if_neg (of_decide_eq_false (Bool.eq_false_iff.mpr h))] at hn
    have s13 := s12.trans s3
    have e3 := e.same s13
    refine tt_in cMess rfl e3 nc (by decide) fun H4 s4 => ite2 (fun h => ?_) (fun h => ?_)
    · rw [if_pos (of_decide_eq_true h)] at hn
      exact ret_e1 hn rfl (e3.same s4) fun p H' s np hp => k p H' ((s13.trans s4).trans s) ((s13.trans s4).free np) hp
    rw [if_neg (of_decide_eq_false (Bool.eq_false_iff.mpr h))] at hn
    have s14 := s13.trans s4
    have e4 := e.same s14
    refine tt_eq "InvalidStep" rfl e4 nc (ite2 (fun h => ?_) (fun h => ?_))
    · rw [if_pos (of_decide_eq_true h)] at hn
      exact ret_e2 hn (by decide) rfl e4 fun p H' s np hp => k p H' (s14.trans s) (s14.free np) hp
    rw [if_neg (of_decide_eq_false (Bool.eq_false_iff.mpr h))] at hn
    refine tt_eq "Parted" rfl e4 nc (ite2 (fun h => ?_) (fun h => ?_))
    · rw [if_pos (of_decide_eq_true h)] at hn
      exact ret_e3 hn (by decide) (by decide) (by decide) rfl e4 fun p H' s np hp => k p H' (s14.trans s) (s14.free np) hp
    rw [if_neg (of_decide_eq_false (Bool.eq_false_iff.mpr h))] at hn
    exact ⟨_, rfl, rfl, C, dd, code, names, ws, rfl, rfl, e4, hn, fun p H' s np hp => k p H' (s14.trans s) (s14.free np) hp⟩
end
end My
set_option Elab.async false
set_option linter.all false
set_option maxRecDepth 100000
namespace My
open PySem PySem.Spec PyProof.Rows L2 TL L2H LamX
/-- what a lambda does when it is called by its name, in any def -/
def Ask (X : Cx) (k : Nat) (know : Hp → Prop) (f : Addr) (tl : XK → Hp → VK → Prop) : Prop :=
  ∀ (CXg : CXT) (Eg E : XK) (Ng : List Str) (qg a : Str) (sg : Scope) (g : Addr) (cdg : Value) (i : Nat) (pn : List (Addr × Obj)) (xe : Value → Shared → Prop) (W : WX) (p1 p2 : Pos) (A : Around) (outer : List Env) (s0 : Shared) (H0 : Hp),
    L2N.Takes ((cxOf CXg X.prog X.w X.K X.mg X.base Ng qg sg g cdg A outer s0 H0 Eg).tr pn xe) W → (∀ cls d σ' H', σ'.length = Ng.length → E cls d H' → W cls d σ' H') → Room (k + 1) (A.deeper (envOfC qg sg s0.heap.objs.size g cdg)) →
    Ng[i]? = some a → Vis sg a → (a == ("__debug__" : Str)) = false → (a == ("__classdict__" : Str)) = false →
    PE ((cxOf CXg X.prog X.w X.K X.mg X.base Ng qg sg g cdg A outer s0 H0 Eg).tr pn xe) (.Call (.Name a p1) [] [] p2) (fun σz Hz Q => σz[i]? = some (some (.ref f)) ∧ know Hz ∧ tl E Hz Q)
/-- what the law makes of an error -/
def gotX (K : PySem.W.Frag) (cs : List Value) (Q : VK) : XK := fun cls d H1 => ∃ (C dd : Addr) (code : Str) (names : List Str) (ws : List V), cls = .ref C ∧ d = some dd ∧ PySem.W.exmAny K (.ref C) cs = some true ∧ ErrG K C dd code names ws H1 ∧ names = fieldsOf code ∧
  ∀ p q H2, Same H1 H2 → H1 p = none → H1 q = none → H2 p = some (.tup ws) → H2 q = some (.tup [.str code, .ref p]) → Q (.ref q) H2
def gotT (Q : VK) : VK := fun v H1 => [V.str "told", v].length ≤ sizeLine ∧ ∀ p, H1 p = none → Q (.ref p) (upd H1 p (.tup [.str "told", v]))
abbrev caughtC (A : Top) : List Value := [.ref A.c_LogError, .ref A.c_Missing, .ref A.c_NothingLeft]
section
variable {X : Cx} {H0 : Hp} {s0 : Shared} {k : Nat} {know : Hp → Prop} {f : Addr} {tl : XK → Hp → VK → Prop} {A : Top} {A0 : Around} {outer : List Env} {Q : VK}
theorem got_run (T : TopOk X.K X.mg A) (ask : Ask X k know f tl) (e0 : Env0 X.prog X.w X.K X.mg X.base A0 outer s0 H0) (hr : Room (k + 6) A0) (hk : know H0) (h : tl (gotX X.K (caughtC A) Q) H0 (gotT Q)) :
    codeAny (model X.prog X.w) A0 (.call (.ref A.f_Lgot) ⟨[.ref f], []⟩) (CR CX0 outer X.prog X.w H0 s0 Q E0) s0 := by
  have G_Lfield : FnE X.prog X.w X.K X.mg X.base 3 A.f_Lfield A.d_Lfield P_Lfield (spField X.K fieldsOf) := ok_Lfield T
  refine fun_S (k := k + 5) (vs := [.ref f]) T.F_Lgot sc_Lgot hr e0 T.a_Lgot (.cons rfl .nil) rfl fun cdv hr2 => ?_
  refine ⟨_, pss_one (ps_try_asT (i := 1) (n := "_law_e") (tb := fun W D σ H' => ∃ Ech : XK, (∀ cls d σ' H2, σ'.length = N_Lgot.length → Ech cls d H2 → W cls d σ' H2) ∧ σ[0]? = some (some (.ref f)) ∧ know H' ∧
      tl Ech H' fun v H1 => [V.str "told", v].length ≤ sizeLine ∧ ∀ p, H1 p = none → D.rt (.ref p) (upd H1 p (.tup [.str "told", v])))
    (ts := fun a cls d => tRet (tTup (tCons (tErr X.K a cls d "code" (tVar 1)) (tCons (tCallE (spField X.K fieldsOf) a cls d E0 (tCons (tVar 1) tNil)) tNil))))
    rfl rfl sc_Lgot.nd rfl rfl ⟨by rfl, by decide, .inl T.m_LogError⟩ ⟨by rfl, by decide, .inl T.m_Missing⟩ ⟨by rfl, by decide, .inl T.m_NothingLeft⟩ (fun W pn xe tk _ => ?_) (fun a oe cls d pn hz hf => ?_)), ?_⟩
  · refine ⟨fun pins s' σ H' D I ⟨Ech, hW, h1, h2, h3⟩ => ?_⟩
    have hp := ask CX0 E0 Ech N_Lgot "_law_got" "_law_ask" (defScope s_Lgot) A.f_Lgot cdv 0 pn xe W
    have hp2 := fun p1 p2 => hp p1 p2 A0 outer s0 H0 tk hW (hr2.mono (by omega)) rfl (.inl rfl) (by decide) (by decide)
    exact (pss_one (ps_ret (pe_tup (pa_cons pe_str (pa_cons (hp2 _ _) pa_nil))))).run pins s' σ H' D I ⟨h1, h2, h3⟩
  · exact pss_one (ps_ret (pe_tup (pa_cons (pe_err hz.zc hf (.head _) (pv 1)) (pa_cons (pe_callE (E := E0) G_Lfield ⟨(hr2.mono (j := 3) (by omega)).dp, (hr2.mono (j := 3) (by omega)).un⟩ ⟨rfl, hf.elim fun vs e => ⟨vs, e, hz.2.2 vs e⟩⟩ (.head _) hz.zc (by rfl) T.g_Lfield T.F_Lfield.kp T.a_Lfield (pa_cons (pv 1) pa_nil)) pa_nil))))
  · refine ⟨gotX X.K (caughtC A) Q, fun cls d σ' H2 hl hx => ?_, rfl, hk, ?_⟩
    · obtain ⟨C, dd, code, names, ws, rfl, rfl, ex, e, hn, q⟩ := hx
      refine ⟨ex, fun a na => ?_⟩
      have at1 : (σ'.set 1 (some (V.ref a)))[1]? = some (some (V.ref a)) := by
        have : 1 < σ'.length := by rw [hl]; decide
        rw [List.getElem?_set_self this]
      have nc : ("code" : Str) ∉ names := by rw [hn]; exact fields_nc code
      refine ⟨_, at1, rfl, C, dd, _, _, rfl, e.xf, e.no _ (.head _), rfl, e.at_, code_look nc, _, at1, rfl, C, dd, code, names, ws, rfl, rfl, e, hn, fun p H3 s3 np hp => ⟨sz (by show 2 ≤ 100000; decide), fun t nt => ?_⟩⟩
      exact q p t _ (s3.trans (same_upd nt)) np (s3.free nt) (same_upd nt _ _ hp) upd_same
    · exact h
end
end My
set_option Elab.async false
set_option linter.all false
set_option maxRecDepth 100000
namespace My
open PySem PySem.Spec PyProof.Rows L2 TL L2H LamX
def MonoT (tl : XK → Hp → VK → Prop) : Prop := ∀ (E E' : XK) (Q Q' : VK) (H : Hp), (∀ cls d H', E cls d H' → E' cls d H') → (∀ v H', Q v H' → Q' v H') → tl E H Q → tl E' H Q'
theorem gotX_mono {K : PySem.W.Frag} {cs : List Value} {Q Q' : VK} (h : ∀ v H', Q v H' → Q' v H') : ∀ cls d H', gotX K cs Q cls d H' → gotX K cs Q' cls d H' := fun cls d H' ⟨C, dd, code, names, ws, a, b, c, e, f, q⟩ =>
  ⟨C, dd, code, names, ws, a, b, c, e, f, fun p r H2 x y z u v => h _ _ (q p r H2 x y z u v)⟩
theorem gotT_mono {Q Q' : VK} (h : ∀ v H', Q v H' → Q' v H') : ∀ v H', gotT Q v H' → gotT Q' v H' := fun v H' ⟨a, q⟩ => ⟨a, fun p n => h _ _ (q p n)⟩
/-- told or the error, as the law writes it -/
def whyQ (Q : VK) : VK := fun v H1 => ∃ (p : Addr) (x : Str) (y : V), v = .ref p ∧ H1 p = some (.tup [.str x, y]) ∧ (x = "told" → ∀ q, H1 q = none → Q (.ref q) (upd H1 q (.tup [.str "told", .non]))) ∧ (x ≠ "told" → Q v H1)
section
variable {X : Cx} {H0 : Hp} {s0 : Shared} {k : Nat} {know : Hp → Prop} {f : Addr} {tl : XK → Hp → VK → Prop} {A : Top} {A0 : Around} {outer : List Env} {Q : VK}
theorem why_run (T : TopOk X.K X.mg A) (ask : Ask X k know f tl) (mt : MonoT tl) (e0 : Env0 X.prog X.w X.K X.mg X.base A0 outer s0 H0) (hr : Room (k + 8) A0) (hk : know H0) (h : tl (gotX X.K (caughtC A) (whyQ Q)) H0 (gotT (whyQ Q))) :
    codeAny (model X.prog X.w) A0 (.call (.ref A.f_Lwhy) ⟨[.ref f], []⟩) (CR CX0 outer X.prog X.w H0 s0 Q E0) s0 := by
  refine fun_S (k := k + 7) (vs := [.ref f]) T.F_Lwhy sc_Lwhy hr e0 T.a_Lwhy (.cons rfl .nil) rfl fun cdv hr2 => ?_
  have PGOT : ∀ {p1 p2 p3 : Pos}, PE (cxOf CX0 X.prog X.w X.K X.mg X.base N_Lwhy "_law_why" (defScope s_Lwhy) A.f_Lwhy cdv A0 outer s0 H0 E0) (.Call (.Name "_law_got" p1) [.Name "_law_ask" p2] [] p3)
      (fun σ H1 Q1 => σ[0]? = some (some (.ref f)) ∧ know H1 ∧ tl (gotX X.K (caughtC A) Q1) H1 (gotT Q1)) := fun {p1 p2 p3} => ⟨fun pins s1 σ H1 Q1 I1 ⟨h1, h2, h3⟩ => by
    have arg : PE (cxOf CX0 X.prog X.w X.K X.mg X.base N_Lwhy "_law_why" (defScope s_Lwhy) A.f_Lwhy cdv A0 outer s0 H0 E0) (.Name "_law_ask" p2) (tVar 0) := pv 0
    have args := pa_cons arg pa_nil
    refine wpAny_Call_Name_kw (ld_glob I1 (by rfl) T.g_Lgot (PySem.W.callWith_K (h₀ := X.base) I1.ok.mod.kin T.F_Lgot.kp (thn (args.run p3 pins s1 σ H1 (fun xs G => xs = [.ref f] ∧ G = H1) I1 ⟨_, h1, rfl, rfl⟩) fun us s2 ⟨vs, G, I2, r, ev, eG⟩ => ⟨I2.kIn, ?_⟩) (by rfl) (by rfl)) (by decide))
    subst ev eG
    cases r with
    | cons r0 rr =>
      cases rr
      have eu : _ = Value.ref f := r0
      subst eu
      have grun := got_run (X := X) (Q := Q1) T ask I2.env0 (hr2.mono (by omega)) h2 h3
      refine wpAny_call (codeAny_mono grun fun rs s3 hq => ?_)
      match rs, hq with
      | .ok (.ret u), hq => exact I2.after hq⟩
  refine ⟨_, (pss_cons (ps_set (i := 1) sc_Lwhy.nd rfl (by first | exact Or.inl rfl | exact Or.inr rfl) PGOT)
      (pss_one (ps_ret (pe_ifExp (pt_cmpR op_eq (pe_ix ix_seq (pv 1) pe_int (fun _ _ => rfl)) pe_str (nomark _)) (pe_tup (pa_cons pe_str (pa_cons pe_non pa_nil))) (pv 1))))), ?_⟩
  show tSeq (tAsg _ (gName 1)) _ _ [some (.ref f), none] H0
  refine ⟨rfl, hk, mt _ _ _ _ H0 (gotX_mono ?_) (gotT_mono ?_) h⟩
  all_goals
    rintro v H1 ⟨p, x, y, rfl, hp, q1, q2⟩
    dsimp only [gName, List.set]
    refine ⟨_, rfl, .inr (.inl ⟨p, _, 0, .str x, rfl, rfl, .inl (.inl hp), rfl, ?_⟩)⟩
    refine ⟨rfl, _, rfl, ite2 (fun e => ⟨sz (by show 2 ≤ 100000; decide), fun t nt => q1 ?_ t nt⟩) (fun e => ⟨_, rfl, q2 fun z => e ?_⟩)⟩
    · have := of_decide_eq_true e
      exact V.str.inj this
    · rw [z]
      exact decide_eq_true rfl
end
end My
set_option Elab.async false
set_option linter.all false
set_option maxRecDepth 100000
set_option maxHeartbeats 1000000
namespace My
open PySem PySem.Spec PyProof.Rows L2 TL L2H LamX
/-! ### _law_why(x) anywhere; _law_whys(xs) -/
def tWhyC (X : Cx) (A : Top) (k : Nat) (te : TE) : TE := fun σ H Q => te σ H fun v H1 => ∃ (f : Addr) (know : Hp → Prop) (tl : XK → Hp → VK → Prop), v = .ref f ∧ Ask X k know f tl ∧ MonoT tl ∧ know H1 ∧ tl (gotX X.K (caughtC A) (whyQ Q)) H1 (gotT (whyQ Q))
theorem pe_whyZ {Z : Cx} {A : Top} {k : Nat} {e : Expr} {te : TE} {p1 p3 : Pos} (T : TopOk Z.K Z.mg A) (hr : Room (k + 8) Z.A) (hg : Gl Z "_law_why") (he : PE Z e te) (hst : starEach [e] Z.env = [(false, eval e Z.env)] := by rfl) (hpl : (backTo p3 (starEach [] Z.env)).any (·.1) = false := by rfl) :
    PE Z (.Call (.Name "_law_why" p1) [e] [] p3) (tWhyC Z A k te) := ⟨fun pins s1 σ H1 Q1 I1 h => by
  have args := pa_cons he pa_nil (hs := hst)
  refine wpAny_Call_Name_kw (ld_glob I1 hg T.g_Lwhy (PySem.W.callWith_K (h₀ := Z.base) I1.ok.mod.kin T.F_Lwhy.kp (thn (args.run p3 pins s1 σ H1 (fun xs G => ∃ (f : Addr) (know : Hp → Prop) (tl : XK → Hp → VK → Prop), xs = [.ref f] ∧ Ask Z k know f tl ∧ MonoT tl ∧ know G ∧ tl (gotX Z.K (caughtC A) (whyQ Q1)) G (gotT (whyQ Q1))) I1 ?_) fun us s2 ⟨vs, G, I2, r, f, know, tl, ev, ask, mt, k1, k2⟩ => ⟨I2.kIn, ?_⟩) hst hpl) (by decide))
  · show te σ H1 _
    refine cast (congrArg (te σ H1) (funext fun v => funext fun G => ?_)) h
    exact propext ⟨fun ⟨f, know, tl, e, r⟩ => ⟨f, know, tl, by rw [e], r⟩, fun ⟨f, know, tl, e, r⟩ => ⟨f, know, tl, List.head_eq_of_cons_eq e, r⟩⟩
  · subst ev
    cases r with
    | cons r0 rr =>
      cases rr
      have eu : _ = Value.ref f := r0
      subst eu
      refine wpAny_call (codeAny_mono (why_run (X := Z) (Q := Q1) T ask mt I2.env0 hr k1 k2) fun rs s3 hq => ?_)
      match rs, hq with
      | .ok (.ret u), hq => exact I2.after hq⟩
theorem pe_whyC {X Z : Cx} {A : Top} {k : Nat} {e : Expr} {te : TE} {p1 p3 : Pos} (T : TopOk Z.K Z.mg A) (hr : Room (k + 8) Z.A) (hg : Gl Z "_law_why") (he : PE Z e te) (same : tWhyC X A k te = tWhyC Z A k te := by rfl) (hst : starEach [e] Z.env = [(false, eval e Z.env)] := by rfl) (hpl : (backTo p3 (starEach [] Z.env)).any (·.1) = false := by rfl) :
    PE Z (.Call (.Name "_law_why" p1) [e] [] p3) (tWhyC X A k te) := by
  rw [same]
  exact pe_whyZ T hr hg he hst hpl
/-- what a lambda of the list comes to -/
def WhyOk (X : Cx) (A : Top) (S : Sh) (H0 : Hp) (k : Nat) (f : Addr) (d : PyData) : Prop := ∃ (know : Hp → Prop) (tl : XK → Hp → VK → Prop), Ask X k know f tl ∧ MonoT tl ∧ ∀ S' Hz, Now S H0 S' Hz → know Hz ∧ ∀ Q : VK, (∀ u H', Same Hz H' → Ds X.K S' H' u d → Q u H') → tl (gotX X.K (caughtC A) (whyQ Q)) Hz (gotT (whyQ Q))
section
variable {X : Cx} {A : Top} {A0 : Around} {outer : List Env} {s0 : Shared} {H0 : Hp} {Q : VK} {S : Sh} {fs : List Addr} {ds : List PyData} {l : Addr} {k : Nat}
theorem whys_run (T : TopOk X.K X.mg A) (e0 : Env0 X.prog X.w X.K X.mg X.base A0 outer s0 H0) (hr : Room (k + 10) A0) (lS : Live S H0) (hl : H0 l = some (.lst (fs.map V.ref))) (hn : fs.length ≤ 1000) (hlen : ds.length = fs.length)
    (each : ∀ (i : Nat) (f : Addr) (d : PyData), fs[i]? = some f → ds[i]? = some d → WhyOk X A S H0 k f d) (q : ∀ u H', Same H0 H' → Ds X.K S H' u (.list ds) → Q u H') :
    codeAny (model X.prog X.w) A0 (.call (.ref A.f_Lwhys) ⟨[.ref l], []⟩) (CR CX0 outer X.prog X.w H0 s0 Q E0) s0 := by
  refine fun_S (k := k + 9) (vs := [.ref l]) T.F_Lwhys sc_Lwhys hr e0 T.a_Lwhys (.cons rfl .nil) rfl fun cdv hr2 => ?_
  refine ⟨_, (pss_one (ps_ret (pe_lc (own := [("_law_ask", 1)]) (g := gName 1) (te := tWhyC X A k (tVar 1)) (by rfl) sc_Lwhys.nd (pi_any (pv 0)) (blkOk_by (own := [("_law_ask", 1)]) (N := N_Lwhys) (sc := defScope s_Lwhys) (by decide +kernel)) (fun _ _ _ _ _ => (pg_name (i := 1) sc_Lwhys.nd rfl (by first | exact Or.inl rfl | exact Or.inr rfl))) (fun _ _ _ _ _ => pts_nil) (fun _ _ _ _ _ => (pe_whyC (X := X) (A := A) T (hr2.mono (by omega)) (by rfl) (pv 1)))))), ?_⟩
  show tLc (iAny X.K (tVar 0)) (gName 1) tYes (tWhyC X A k (tVar 1)) [1] [some (.ref l), none] H0 Q
  refine ⟨_, rfl, l, rfl, .inl ⟨⟨fs.map V.ref, .inl (.inl hl)⟩, fun D nD => ?_⟩⟩
  refine lc_it (walk_list (xs := fs.map V.ref)) (fun i H3 => ∃ vs, H3 D = some (.lst vs) ∧ Now S H0 (fun a => S a ∨ a = D) H3 ∧ DsAll X.K (fun a => S a ∨ a = D) H3 vs (ds.take i))
    ⟨[], upd_same, Now.add lS nD, .nil⟩ (fun i H3 _ ⟨_, _, z, _⟩ => .inl (.inl (z.same _ _ hl))) (fun i x H3 H4 hi ⟨vs3, e3, n3, d3⟩ ⟨e4, ex⟩ => ?_) fun H3 ⟨vs3, e3, n3, d3⟩ => ?_
  · subst e4
    rw [List.getElem?_map] at ex
    obtain ⟨f, ef, rfl⟩ := Option.map_eq_some_iff.mp ex
    have hi2 := (List.getElem?_eq_some_iff.mp ef).1
    have ed : ds[i]? = some (ds[i]'(by omega)) := List.getElem?_eq_getElem _
    generalize ds[i]'(by omega) = d at ed
    obtain ⟨know, tl, ask, mt, hk⟩ := each i f d ef ed
    obtain ⟨k1, k2⟩ := hk _ _ n3
    refine ⟨rfl, ?_⟩
    dsimp only [tYes]
    rw [if_pos rfl]
    refine ⟨_, rfl, f, know, tl, rfl, ask, mt, k1, k2 _ fun u H5 s5 hu => ⟨vs3, s5 _ _ e3, ?_, vs3 ++ [u], upd_same, (n3.then s5).put (.inr rfl) (lS.ne nD), ?_⟩⟩
    · have h1 := d3.length
      rw [List.length_take] at h1
      exact szl (by omega)
    · rw [List.take_add_one, ed]
      exact ((d3.same s5).app (.cons hu .nil)).byX (XS.upd (.inr rfl))
  · rw [List.take_of_length_le (by rw [List.length_map]; omega)] at d3
    exact q _ _ n3.same (.lst ⟨lS.ne nD, e3⟩ (d3.less fun _ => .inl))
end
end My
set_option Elab.async false
set_option linter.all false
set_option maxRecDepth 100000
set_option maxHeartbeats 1000000
namespace My
open PySem PySem.Spec PyProof.Rows L2 TL L2H LamX
/-! ### _law_whys(xs) in the def that made the lambdas -/
theorem cells_above : ∀ (names : List (Str × NameKind)) (n : Nat) (acc : List (Str × Addr)), (∀ p ∈ acc, n ≤ p.2 ∨ p ∈ acc) → ∀ p ∈ cellsFrom n names acc, n ≤ p.2 ∨ p ∈ acc
  | [], _, _, h => h
  | (y, kd) :: r, n, acc, _ => fun p m => by
    unfold cellsFrom at m
    split at m
    · rcases cells_above r (n + 1) ((y, n) :: acc) (fun p m => .inr m) p m with h | h
      · exact .inl (by omega)
      · rcases List.mem_cons.mp h with e | h
        · rw [e]; exact .inl (Nat.le_refl _)
        · exact .inr h
    · exact cells_above r n acc (fun p m => .inr m) p m
/-- a def's own frame: its cells are younger than all that stood when it was called, and no frames -/
structure OwnCells (X : Cx) : Prop where
  ex : X.ex = []
  stack : X.stack = X.env :: X.outer
  above : ∀ p ∈ X.env.cells, X.s_0.heap.objs.size < p.2
  locals : X.env.locals = X.s_0.heap.objs.size
section
variable {X : Cx} {pins : List (Addr × Obj)} {σ : L2.St} {H : Hp} {s : Shared}
theorem cells_apart (I : Inv X pins σ H s) (nd : (X.env.cells.map (·.1)).Nodup) : Apart (cellsOf X s) H := fun b o e => by
  obtain ⟨p, mp, rfl⟩ := cellsOf_mem e
  exact I.freeC p.1 p.2 (lookup_of_mem_nodup nd mp)
theorem cells_base (I : Inv X pins σ H s) (O : OwnCells X) : ∀ b o, X.base.get? b = some o → cellsOf X s b = none := fun b o e => by
  cases z : cellsOf X s b with
  | none => rfl
  | some o2 =>
    obtain ⟨p, mp, rfl⟩ := cellsOf_mem z
    exact absurd (Heap.lt_size (I.ok.bs _ _ e).1) (Nat.lt_asymm (O.above p mp))
theorem cells_frames (I : Inv X pins σ H s) (O : OwnCells X) : ∀ b ∈ frs X.stack, cellsOf X s b = none := fun b m => by
  cases z : cellsOf X s b with
  | none => rfl
  | some o2 =>
    obtain ⟨p, mp, rfl⟩ := cellsOf_mem z
    have h1 := O.above p mp
    rcases List.mem_cons.mp (I.stkSub _ m) with e | e
    · rw [e, O.locals] at h1
      exact absurd h1 (Nat.lt_irrefl _)
    · obtain ⟨_, o3, h3, _⟩ := I.ok.funs.mem e
      exact absurd (Heap.lt_size h3) (Nat.lt_asymm h1)
theorem Ds.loose {K : PySem.W.Frag} {S : Sh} {cl : Still} {v : V} {d : PyData} (k : KeptIn cl H) (h : Ds K S H v d) : Ds K S (loose cl H) v d := Ds.map (fun a xs l => ⟨l.1, by rw [loose_no (k.other l.2 fun _ y => by cases y)]; exact l.2⟩) (fun a xs l => ⟨l.1, by rw [loose_no (k.other l.2 fun _ y => by cases y)]; exact l.2⟩) _ _ h
end
end My
set_option Elab.async false
set_option linter.all false
set_option maxRecDepth 100000
set_option maxHeartbeats 1000000
namespace My
open PySem PySem.Spec PyProof.Rows L2 TL L2H LamX
/-! ### a lambda that raises -/
theorem pe_less {X : Cx} {e : Expr} {t t' : TE} (h : PE X e t) (w : ∀ σ H Q, t' σ H Q → t σ H Q) : PE X e t' := ⟨fun pins s σ H Q I q => h.run pins s σ H Q I (w _ _ _ q)⟩
/-- an error of the class at cI, its fields ws, may come -/
def errE (cI : Addr) (code : Str) (names : List Str) (E : XK) (ws : List V) (H : Hp) : Prop := ∀ dd H1, Same H H1 → H1 dd = none → E (.ref cI) (some dd) (upd H1 dd (.xd (flds code names ws)))
/-- an error whose fields are worth ds may come, whatever holds them -/
def errD (K : PySem.W.Frag) (cI : Addr) (code : Str) (names : List Str) (E : XK) (ds : List PyData) (S : Sh) (H : Hp) : Prop := ∀ us H', Same H H' → DsAll K S H' us ds → errE cI code names E us H'
theorem errD.same {K : PySem.W.Frag} {cI : Addr} {code : Str} {names : List Str} {E : XK} {ds : List PyData} {S : Sh} {H H' : Hp} (h : errD K cI code names E ds S H) (s : Same H H') : errD K cI code names E ds S H' := fun us H2 s2 hu => h us H2 (s.trans s2) hu
/-- what is known of a class of errors -/
structure ErrC (K : PySem.W.Frag) (cs : List Value) (cI : Addr) (code : Str) (names : List Str) : Prop where
  xf : XfC K cI
  ex : PySem.W.exmAny K (.ref cI) cs = some true
  no : ∀ n ∈ ("code" : Str) :: names, PySem.W.findIn K (.ref cI) n = some none
  is : names = fieldsOf code
theorem now_loose {S S' : Sh} {cl : Still} {H Hz : Hp} (l : Live S H) (ap : Apart cl H) (n : Now S (kept cl H) S' Hz) : KeptIn cl Hz ∧ Now S H S' (loose cl Hz) := by
  have kin : KeptIn cl Hz := fun b o e => n.same _ _ (kept_at e)
  have sm : Same H (loose cl Hz) := fun b o e => by
    rw [loose_no (ap.other e)]
    exact n.same _ _ (ap.stay e)
  have new : ∀ a, S' a → ¬ S a → cl a = none ∧ H a = none := fun a z y => by
    have h := n.new a z y
    cases e : cl a with
    | some o => rw [kept_at e] at h; cases h
    | none => exact ⟨rfl, by rw [kept_no e] at h; exact h⟩
  refine ⟨kin, sm, n.sub, fun a z y => (new a z y).2, fun a z => ?_⟩
  obtain ⟨o, eo⟩ := n.live a z
  have out : cl a = none := by
    by_cases y : S a
    · obtain ⟨o2, e2⟩ := l a y
      exact ap.other e2
    · exact (new a z y).1
  exact ⟨o, by rw [loose_no out]; exact eo⟩
section
variable {X : Cx} {A : Top} {σ σm : L2.St} {t : LamT} {S : Sh} {H1 : Hp} {cl : Still} {k : Nat} {f cI : Addr} {dv : Value} {as : List Str} {vs ws : List V} {v : V} {ds : List PyData} {tb : XK → TE} {code : Str} {names : List Str} {bs : List Bool}
/-- where it is raised, the law writes it down -/
theorem why_err {Q : VK} {S' : Sh} {Hz H0 : Hp} (ec : ErrC X.K (caughtC A) cI code names) (hl : ds.length = names.length) (ht : code ≠ "told")
    (kin : KeptIn cl Hz) (lz : Live S' Hz) (s0 : Same (loose cl Hz) H0) (hv : DsAll X.K S' H0 ws ds) (q : ∀ u H', Same Hz H' → Ds X.K S' H' u (.tuple [.str code, .tuple ds]) → Q u H') :
    errE cI code names (fun c e H2 => Apart cl H2 → gotX X.K (caughtC A) (whyQ Q) c e (kept cl H2)) ws H0 := fun dd H2 s2 nd ap2 => by
  have sz : Same Hz (kept cl (upd H2 dd (.xd (flds code names ws)))) := fun b o e => by
    cases z : cl b with
    | some o2 =>
      rw [kin b o2 z] at e
      cases e
      exact kept_at z
    | none =>
      rw [kept_no z]
      exact same_upd nd _ _ (s2 _ _ (s0 _ _ (by rw [loose_no z]; exact e)))
  have at_ : kept cl (upd H2 dd (.xd (flds code names ws))) dd = some (.xd (flds code names ws)) := ap2.stay upd_same
  have hz : DsAll X.K S' (kept cl (upd H2 dd (.xd (flds code names ws)))) ws ds := DsAll.map (fun a xs l => ⟨l.1, ap2.stay l.2⟩) (fun a xs l => ⟨l.1, ap2.stay l.2⟩) _ _ ((hv.same s2).same (same_upd nd (o := .xd (flds code names ws))))
  refine ⟨cI, dd, code, names, ws, rfl, rfl, ec.ex, ⟨ec.xf, ec.no, hv.length.trans hl, at_⟩, ec.is, fun p r H3 s3 np nr hp hq => ?_⟩
  have s4 := sz.trans s3
  have out : ∀ a, kept cl (upd H2 dd (.xd (flds code names ws))) a = none → ¬ S' a := fun a n z => by
    obtain ⟨o, eo⟩ := lz a z
    rw [sz _ _ eo] at n
    cases n
  exact ⟨r, code, .ref p, rfl, hq, fun z => absurd z ht, fun _ => q _ H3 s4 (.tup ⟨out _ nr, hq⟩ (.cons (.str _) (.cons (.tup ⟨out _ np, hp⟩ (hz.same s3)) .nil)))⟩
/-- a lambda of the list that raises -/
theorem why_ok (li : LamIn t X H1 f dv) (hdv : DvAt H1 dv vs) (hn : vs.length = as.length) (cs0 : Caps X σ cl) (ap : Apart cl H1) (l : Live S H1)
    (hm : ∀ (i : Nat) (v : V), σm[i]? = some (some v) → σ[i]? = some (some v)) (hlen : σm.length = σ.length) (hb0 : σm.map Option.isSome = bs) (hid : hidesB X.N t.sc bs = true) (L : lamCB X.env.scope t.sc = true)
    (hbind : ∀ (pm ct : Value) (c' : Addr) (s2 : Shared) (us : List Value), DvIn s2.heap dv us → us.length = as.length → BindsTo s2 { t.fd X pm ct c' with defaults := dv } ⟨[], []⟩ (as.zip us))
    (has : ∀ y ∈ as, t.sc.names.lookup y = some .local) (hb : ∀ (E2 : XK) (A2 : Around) (l2 : List Env) (s2 : Shared) (H2 : Hp) (c' : Addr), Room k (A2.deeper (lamEnv X t.sc s2.heap.objs.size f c')) → PE (t.cx X A2 l2 s2 H2 E2 f c') t.body (tb E2))
    (ec : ErrC X.K (caughtC A) cI code names) (hl : ds.length = names.length) (ht : code ≠ "told")
    (raises : ∀ (E2 : XK) (S2 : Sh) (H2 : Hp) (Q2 : VK), Now S H1 S2 H2 → errD X.K cI code names E2 ds S2 H2 → tb E2 σm H2 Q2) : WhyOk X A S (kept cl H1) k f (.tuple [.str code, .tuple ds]) := by
  have cs := cs0.less hm hlen
  have toZ : ∀ {Hz : Hp}, Same (kept cl H1) Hz → ∀ b o, H1 b = some o → Hz b = some o := fun s b o e => s _ _ (ap.stay e)
  refine ⟨fun _ => True, fun E Hz _ => ∃ S', Now S (kept cl H1) S' Hz ∧ errD X.K cI code names (fun c e H2 => Apart cl H2 → E c e (kept cl H2)) ds S' (loose cl Hz), fun CXg Eg E Ng qg a sg g cdg i pn xe W p1 p2 A2 outer s0 H0 tk hW hr hN hvis ha ha2 => ?_, fun E E' _ _ H he _ ⟨S', n, h⟩ => ⟨S', n, fun u H2 s hu dd H3 s3 z ap3 => he _ _ _ (h u H2 s hu dd H3 s3 z ap3)⟩, fun S' Hz n => ⟨trivial, fun Q q => ?_⟩⟩
  · refine pe_less (pe_cap (E := E) (t := t) (f := f) (dv := dv) (as := as) (tb := tb) (p1 := p1) (p2 := p2) cs (lamC_by L) (hides_by hb0 hid) hbind has tk hW hr hb hN hvis ha ha2) fun σz Hz Q ⟨h1, _, S', n, h3⟩ => ?_
    obtain ⟨kin, nl⟩ := now_loose l ap n
    obtain ⟨c', o1, o2⟩ := li
    exact ⟨h1, ⟨c', toZ n.same _ _ o1, toZ n.same _ _ o2⟩, ⟨vs, hdv.imp id fun ⟨d0, e0, h0⟩ => ⟨d0, e0, toZ n.same _ _ h0⟩, hn⟩, kin, raises _ S' _ _ nl h3⟩
  · obtain ⟨kin, nl⟩ := now_loose l ap n
    exact ⟨S', n, fun u H2 s0 hu => why_err ec hl ht kin n.live s0 hu q⟩
/-- one that tells: it may make new things, and gives whatever -/
theorem why_told (li : LamIn t X H1 f dv) (hdv : DvAt H1 dv vs) (hn : vs.length = as.length) (cs0 : Caps X σ cl) (ap : Apart cl H1) (l : Live S H1)
    (hm : ∀ (i : Nat) (v : V), σm[i]? = some (some v) → σ[i]? = some (some v)) (hlen : σm.length = σ.length) (hb0 : σm.map Option.isSome = bs) (hid : hidesB X.N t.sc bs = true) (L : lamCB X.env.scope t.sc = true)
    (hbind : ∀ (pm ct : Value) (c' : Addr) (s2 : Shared) (us : List Value), DvIn s2.heap dv us → us.length = as.length → BindsTo s2 { t.fd X pm ct c' with defaults := dv } ⟨[], []⟩ (as.zip us))
    (has : ∀ y ∈ as, t.sc.names.lookup y = some .local) (hb : ∀ (E2 : XK) (A2 : Around) (l2 : List Env) (s2 : Shared) (H2 : Hp) (c' : Addr), Room k (A2.deeper (lamEnv X t.sc s2.heap.objs.size f c')) → PE (t.cx X A2 l2 s2 H2 E2 f c') t.body (tb E2))
    (tells : ∀ (E2 : XK) (S2 : Sh) (H2 : Hp) (Q2 : VK), Now S H1 S2 H2 → (∀ v H3, Same H2 H3 → Q2 v H3) → tb E2 σm H2 Q2) : WhyOk X A S (kept cl H1) k f (.tuple [.str "told", .none]) := by
  have cs := cs0.less hm hlen
  have toZ : ∀ {Hz : Hp}, Same (kept cl H1) Hz → ∀ b o, H1 b = some o → Hz b = some o := fun s b o e => s _ _ (ap.stay e)
  refine ⟨fun _ => True, fun E Hz Q => ∃ S', Now S (kept cl H1) S' Hz ∧ ∀ v H3, Same (loose cl Hz) H3 → Apart cl H3 → Q v (kept cl H3), fun CXg Eg E Ng qg a sg g cdg i pn xe W p1 p2 A2 outer s0 H0 tk hW hr hN hvis ha ha2 => ?_, fun E E' Q Q' H he hq ⟨S', n, h⟩ => ⟨S', n, fun v H3 s z => hq _ _ (h v H3 s z)⟩, fun S' Hz n => ⟨trivial, fun Q q => ?_⟩⟩
  · refine pe_less (pe_cap (E := E) (t := t) (f := f) (dv := dv) (as := as) (tb := tb) (p1 := p1) (p2 := p2) cs (lamC_by L) (hides_by hb0 hid) hbind has tk hW hr hb hN hvis ha ha2) fun σz Hz Q ⟨h1, _, S', n, h3⟩ => ?_
    obtain ⟨kin, nl⟩ := now_loose l ap n
    obtain ⟨c', o1, o2⟩ := li
    exact ⟨h1, ⟨c', toZ n.same _ _ o1, toZ n.same _ _ o2⟩, ⟨vs, hdv.imp id fun ⟨d0, e0, h0⟩ => ⟨d0, e0, toZ n.same _ _ h0⟩, hn⟩, kin, tells _ S' _ _ nl fun v H3 s => h3 v H3 s⟩
  · obtain ⟨kin, nl⟩ := now_loose l ap n
    refine ⟨S', n, fun v H3 s ap3 => ⟨sz (by show 2 ≤ 100000; decide), fun p np => ⟨p, "told", v, rfl, upd_same, fun _ q0 nq0 => ?_, fun z => absurd rfl z⟩⟩⟩
    have sz : Same Hz (kept cl H3) := fun b o e => by
      cases z : cl b with
      | some o2 =>
        rw [kin b o2 z] at e
        cases e
        exact kept_at z
      | none =>
        rw [kept_no z]
        exact s _ _ (by rw [loose_no z]; exact e)
    have s4 := (sz.trans (same_upd np (o := .tup [.str "told", v]))).trans (same_upd nq0 (o := .tup [.str "told", .non]))
    have out0 : ¬ S' q0 := fun z => by
      obtain ⟨o, eo⟩ := n.live q0 z
      rw [(sz.trans (same_upd np (o := .tup [.str "told", v]))) _ _ eo] at nq0
      cases nq0
    exact q _ _ s4 (.tup ⟨out0, upd_same⟩ (.cons (.str _) (.cons .non .nil)))
end
end My
set_option Elab.async false
set_option linter.all false
set_option maxRecDepth 100000
local macro_rules | `(tactic| walk_at "st") => `(tactic| repeat (first | refine ⟨_, _, rfl, rfl, rfl, ?_⟩ | refine ⟨_, _, rfl, rfl, ?_⟩ | refine ⟨_, rfl, ?_⟩))
namespace My
open PySem PySem.Spec PyProof.Rows L2
section
variable {P : Program} {w : World} {K : PySem.W.Frag} {mg : Str → Option Value} {base : Heap} {A : Top}
theorem cut63 {xs : List V} (h : xs.length ≤ 63) : cutV xs none (some 63) = xs := by
  unfold cutV
  rw [HT.sIx_none, show HT.sIx xs.length xs.length (some 63) = min 63 xs.length from HT.sIx_nat xs.length xs.length 63, Nat.min_eq_right h]
  show (xs.drop 0).take (xs.length - 0) = xs
  rw [List.drop_zero, Nat.sub_zero, List.take_length]
theorem ok_Lbag (T : TopOk K mg A) : FnOk P w K mg base CX0 1 A.f_Lbag A.d_Lbag P_Lbag (spBag K) := by
  refine T.F_Lbag.ok sc_Lbag (fun vs H Q E h => ?_) (fun cdv Ar outer s H vs Q E hr h => ?_)
  · obtain ⟨a, ns, rfl, _⟩ := h
    rfl
  · obtain ⟨a, ns, rfl, hS, hl, q⟩ := h
    have hl' : (ns.map V.int).length ≤ 63 := by rw [List.length_map]; exact hl
    refine ⟨_, (pss_cons (ps_set (i := 1) sc_Lbag.nd rfl (by first | exact Or.inl rfl | exact Or.inr rfl) pe_int)
      (pss_cons (ps_for PassesOwn.never rfl (pi_list (pe_slice sl_list (pv 0) po_none (po_some pe_int))) (pg_name (i := 2) sc_Lbag.nd rfl (by first | exact Or.inl rfl | exact Or.inr rfl))
      (pss_one (ps_set (i := 1) sc_Lbag.nd rfl (by first | exact Or.inl rfl | exact Or.inr rfl) (pe_op op_modC (pe_callTy call_intI (by rfl) T.b_int (by decide +kernel) (pa_cons (pe_op op_add (pe_op op_add (pe_op op_mulC (pv 1) pe_int) (pe_op op_modC (pe_callTy call_intI (by rfl) T.b_int (by decide +kernel) (pa_cons (pv 2) pa_nil)) pe_int)) pe_int) pa_nil)) pe_int))))
      (pss_one (ps_ret (pe_lst (pa_cons (pe_callTy call_listL (by rfl) T.b_list (by decide +kernel) (pa_cons (pe_slice sl_list (pv 0) po_none (po_some pe_int)) pa_nil)) (pa_cons pe_int (pa_cons pe_int (pa_cons (pv 1) (pa_cons pe_int pa_nil)))))))))), ?_⟩
    refine ⟨_, rfl, 63, rfl, a, _, rfl, hS, fun u nu => ?_⟩
    rw [cut63 hl']
    refine ⟨u, rfl, ⟨_, lsq upd_same⟩, for_list (K := K) (a := u) (xs := ns.map V.int)
      (fun i σ H2 => ∃ (m : Int) (c : Option V), σ = [some (.ref a), some (.int m), c] ∧ 0 ≤ m ∧ m < 2147483549 ∧ Same H H2 ∧ H2 u = some (.lst (ns.map V.int)))
      ⟨12001, none, rfl, by decide, by decide, same_upd nu, upd_same⟩ (fun i σ H2 _ ⟨_, _, _, _, _, _, h2⟩ => lsq h2) ?_ ?_⟩
    · rintro i y σ H2 hi ⟨m, c, rfl, m0, m1, s2, h2⟩
      obtain ⟨z, rfl⟩ : ∃ z, y = V.int z := by
        obtain ⟨z, _, e⟩ := List.mem_map.mp (List.mem_of_getElem? hi)
        exact ⟨z, e.symm⟩
      walk_at "st"
      exact ⟨_, _, rfl, Int.emod_nonneg _ (by decide), Int.emod_lt_of_pos _ (by decide), s2, h2⟩
    · rintro σ H2 ⟨m, c, rfl, m0, m1, s2, h2⟩
      refine ⟨_, rfl, 63, rfl, a, _, rfl, SqL.same s2 hS, fun v nv => ?_⟩
      rw [cut63 hl']
      refine ⟨v, _, rfl, lsq upd_same, fun x nx => ⟨_, rfl, by show 5 ≤ sizeLine; decide, fun p np => ?_⟩⟩
      have s3 : Same H2 (upd H2 v (.lst (ns.map V.int))) := same_upd nv
      have s4 := s3.trans (same_upd (o := .lst (ns.map V.int)) nx)
      have s5 := s4.trans (same_upd (o := .lst [.ref x, .int 0, .int 0, .int m, .int 0]) np)
      refine q ⟨p, x, ns⟩ _ (Same.free (s2.trans s4) np) ⟨0, 0, m, 0, upd_same, ?_, ?_, by decide, by omega, hl, by decide, m0, m1⟩ (s2.trans s5)
      · rw [upd_ne (ne_of_none upd_same np)]
        exact upd_same
      · exact ne_of_none upd_same np
theorem ok_Ldraw (T : TopOk K mg A) : FnOk P w K mg base CX0 1 A.f_Ldraw A.d_Ldraw P_Ldraw spDraw := by
  refine T.F_Ldraw.ok sc_Ldraw (fun vs H Q E h => ?_) (fun cdv Ar outer s H vs Q E hr h => ?_)
  · obtain ⟨p, n, rfl, _⟩ := h
    rfl
  · obtain ⟨⟨p, l, ns⟩, n, rfl, ⟨i, g, m, c, hp, hl, nlp, i0, i1, n63, g0, m0, m1⟩, n0, n1, q⟩ := h
    dsimp only at hp hl nlp i1 n63 q ⊢
    refine ⟨_, (pss_cons (ps_asg (pe_op op_add (pe_ix ix_bag (pv 0) pe_int (fun _ _ => rfl)) pe_int) (pg_sub (pv 0) pe_int set_list))
      (Evl.pss_cut (ps_if (PW.pt (pw_and (pt_cmpR op_eq (pe_ix ix_bag (pv 0) pe_int (fun _ _ => rfl)) pe_int (nomark _)) (pw_and1 (pt_cmpR op_lt (pe_ix ix_bag (pv 0) pe_int (fun _ _ => rfl)) (pe_callB call_lenL (by rfl) T.b_len (by decide +kernel) (pa_cons (pe_ix ix_bag (pv 0) pe_int (fun _ _ => rfl)) pa_nil)) (nomark _)))))
      (pss_cons (ps_set (i := 3) sc_Ldraw.nd rfl (by first | exact Or.inl rfl | exact Or.inr rfl) (pe_ix ix_bag (pe_ix ix_bag (pv 0) pe_int (fun _ _ => rfl)) (pe_ix ix_bag (pv 0) pe_int (fun _ _ => rfl)) (fun _ _ => rfl)))
      (pss_cons (ps_asg (pe_op op_add (pe_ix ix_bag (pv 0) pe_int (fun _ _ => rfl)) pe_int) (pg_sub (pv 0) pe_int set_list))
      (pss_one (ps_if (pt_cmpR op_ge (pv 3) (pe_op op_pow pe_int pe_int) (nomark _))
      (pss_one (ps_asg (pv 3) (pg_sub (pv 0) pe_int set_list)))
      (pss_one (ps_asg (pe_op op_modC (pe_callTy call_intI (by rfl) T.b_int (by decide +kernel) (pa_cons (pe_op op_add (pe_op op_add (pe_op op_mulC (pe_ix ix_bag (pv 0) pe_int (fun _ _ => rfl)) pe_int) (pe_op op_mulC (pe_op op_modC (pe_callTy call_intI (by rfl) T.b_int (by decide +kernel) (pa_cons (pv 3) pa_nil)) pe_int) pe_int)) pe_int) pa_nil)) pe_int) (pg_sub (pv 0) pe_int set_list)))))))
      pss_nil)
      (pss_cons (ps_if (pt_cmpR op_gt (pe_ix ix_bag (pv 0) pe_int (fun _ _ => rfl)) pe_int (nomark _))
      (pss_cons (ps_set (i := 4) sc_Ldraw.nd rfl (by first | exact Or.inl rfl | exact Or.inr rfl) (pe_op op_mod (pe_callTy call_intI (by rfl) T.b_int (by decide +kernel) (pa_cons (pe_ix ix_bag (pv 0) pe_int (fun _ _ => rfl)) pa_nil)) (pv 1)))
      (pss_cons (ps_asg (pe_op op_fdiv (pe_ix ix_bag (pv 0) pe_int (fun _ _ => rfl)) (pv 1)) (pg_sub (pv 0) pe_int set_list))
      (pss_one (ps_ret (pv 4)))))
      pss_nil)
      (pss_cons (ps_set (i := 2) sc_Ldraw.nd rfl (by first | exact Or.inl rfl | exact Or.inr rfl) (pe_callTy call_intI (by rfl) T.b_int (by decide +kernel) (pa_cons (pe_ix ix_bag (pv 0) pe_int (fun _ _ => rfl)) pa_nil)))
      (pss_cons (ps_asg (pe_op op_modC (pe_callTy call_intI (by rfl) T.b_int (by decide +kernel) (pa_cons (pe_op op_add (pe_op op_add (pe_op op_add (pe_op op_pow (pv 2) pe_int) (pe_op op_mulC (pv 2) pe_int)) (pe_op op_mulC (pe_ix ix_bag (pv 0) pe_int (fun _ _ => rfl)) pe_int)) pe_int) pa_nil)) pe_int) (pg_sub (pv 0) pe_int set_list))
      (pss_one (ps_ret (pe_op op_mod (pe_callTy call_intI (by rfl) T.b_int (by decide +kernel) (pa_cons (pe_op op_add (pe_op op_fdivC (pe_ix ix_bag (pv 0) pe_int (fun _ _ => rfl)) pe_int) (pe_op op_mulC (pe_op op_modC (pe_callTy call_intI (by rfl) T.b_int (by decide +kernel) (pa_cons (pe_ix ix_bag (pv 0) pe_int (fun _ _ => rfl)) pa_nil)) pe_int) pe_int)) pa_nil)) (pv 1))))))))), ?_⟩
    -- bag[4] = bag[4] + 1
    refine ⟨_, rfl, _, _, _, _, rfl, rfl, hp, rfl, _, _, rfl, rfl, _, rfl, p, _, 4, 4, rfl, rfl, hp, rfl, ?_⟩
    have hp1 : (upd H p (.lst [.ref l, .int i, .int g, .int m, .int (c + 1)])) p = some (.lst [.ref l, .int i, .int g, .int m, .int (c + 1)]) := upd_same
    have hl1 : (upd H p (.lst [.ref l, .int i, .int g, .int m, .int (c + 1)])) l = some (.lst (ns.map V.int)) := by rw [upd_ne nlp]; exact hl
    -- the mixing of the next cell
    refine ⟨fun σ' H' => ∃ (i g m c : Int) (x3 : Option V), σ' = [some (.ref p), some (.int n), none, x3, none] ∧ H' p = some (.lst [.ref l, .int i, .int g, .int m, .int c]) ∧ H' l = some (.lst (ns.map V.int)) ∧ 0 ≤ i ∧ i ≤ ns.length ∧ 0 ≤ g ∧ 0 ≤ m ∧ m < 2147483549 ∧ Ext p H H', ?_, ?_⟩
    · have ex1 : Ext p H (upd H p (.lst [.ref l, .int i, .int g, .int m, .int (c + 1)])) := fun b o hb nb => by rw [upd_ne nb]; exact hb
      refine ⟨_, rfl, _, _, _, _, rfl, rfl, hp1, rfl, rfl, _, rfl, ite2 (fun e => ?_) (fun e => ?_)⟩
      · have e0 : g = 0 := V.int.inj (of_decide_eq_true e)
        subst e0
        refine ⟨_, rfl, _, _, _, _, rfl, rfl, hp1, rfl, _, rfl, _, _, _, _, rfl, rfl, hp1, rfl, l, _, rfl, lsq hl1, _, _, rfl, rfl, _, rfl, ite2 (fun e => ?_) (fun e => ?_)⟩
        · have e1 : i < ((ns.map V.int).length : Int) := of_decide_eq_true e
          rw [List.length_map] at e1
          obtain ⟨j, rfl⟩ := Int.eq_ofNat_of_zero_le i0
          have hj : j < ns.length := by omega
          have hat : atI (ns.map V.int) (j : Int) = some (V.int ns[j]) := atI_nat (by rw [List.getElem?_map, List.getElem?_eq_getElem hj]; rfl)
          refine ⟨_, rfl, _, _, _, _, rfl, rfl, hp1, rfl, _, rfl, _, _, _, _, rfl, rfl, hp1, rfl, l, _, _, _, rfl, rfl, hl1, hat, ?_⟩
          refine ⟨_, rfl, _, _, _, _, rfl, rfl, hp1, rfl, _, _, rfl, rfl, _, rfl, p, _, 1, 1, rfl, rfl, hp1, rfl, ?_⟩
          have ex2 : Ext p H (upd (upd H p (.lst [.ref l, .int j, .int 0, .int m, .int (c + 1)])) p (.lst [.ref l, .int (j + 1), .int 0, .int m, .int (c + 1)])) := fun b o hb nb => by rw [upd_ne nb, upd_ne nb]; exact hb
          have hp2 : (upd (upd H p (.lst [.ref l, .int j, .int 0, .int m, .int (c + 1)])) p (.lst [.ref l, .int (j + 1), .int 0, .int m, .int (c + 1)])) p = some (.lst [.ref l, .int (j + 1), .int 0, .int m, .int (c + 1)]) := upd_same
          have hl2 : (upd (upd H p (.lst [.ref l, .int j, .int 0, .int m, .int (c + 1)])) p (.lst [.ref l, .int (j + 1), .int 0, .int m, .int (c + 1)])) l = some (.lst (ns.map V.int)) := by rw [upd_ne nlp]; exact hl1
          refine ⟨_, rfl, _, _, rfl, rfl, ⟨by decide, by decide, by decide⟩, _, _, rfl, rfl, _, rfl, ite2 (fun e => ?_) (fun e => ?_)⟩
          · have e2 : (10 ^ (18 : Int).toNat : Int) ≤ ns[j] := of_decide_eq_true e
            have e3 : (0 : Int) ≤ ns[j] := Int.le_trans (by decide) e2
            refine ⟨_, rfl, _, rfl, p, _, 2, 2, rfl, rfl, hp2, rfl, ?_⟩
            refine ⟨(j : Int) + 1, ns[j], m, c + 1, some (V.int ns[j]), rfl, upd_same, ?_, by omega, by omega, e3, m0, m1, fun b o hb nb => ?_⟩
            · rw [upd_ne nlp]; exact hl2
            · rw [upd_ne nb]; exact ex2 b o hb nb
          · refine ⟨_, rfl, _, _, _, _, rfl, rfl, hp2, rfl, _, _, rfl, rfl, rfl, _, rfl, _, rfl, _, _, rfl, rfl, rfl, _, _, rfl, rfl, rfl, _, _, rfl, rfl, _, _, rfl, rfl, _, rfl, _, _, rfl, rfl, rfl, _, rfl, p, _, 3, 3, rfl, rfl, hp2, rfl, ?_⟩
            refine ⟨(j : Int) + 1, 0, _, c + 1, some (V.int ns[j]), rfl, upd_same, ?_, by omega, by omega, by decide, Int.emod_nonneg _ (by decide), Int.emod_lt_of_pos _ (by decide), fun b o hb nb => ?_⟩
            · rw [upd_ne nlp]; exact hl2
            · rw [upd_ne nb]; exact ex2 b o hb nb
        · exact ⟨i, 0, m, c + 1, none, rfl, hp1, hl1, i0, i1, g0, m0, m1, ex1⟩
      · refine iteF ?_
        exact ⟨i, g, m, c + 1, none, rfl, hp1, hl1, i0, i1, g0, m0, m1, ex1⟩
    · rintro σ' H' ⟨i, g, m, c, x3, rfl, hp1, hl1, i0, i1, g0, m0, m1, ex1⟩
      -- if bag[2] > 0
      refine ⟨_, rfl, _, _, _, _, rfl, rfl, hp1, rfl, _, _, rfl, rfl, _, rfl, ite2 (fun e => ?_) (fun e => ?_)⟩
      · refine ⟨_, rfl, _, _, _, _, rfl, rfl, hp1, rfl, _, rfl, _, rfl, _, _, rfl, rfl, n0, ?_⟩
        refine ⟨_, rfl, _, _, _, _, rfl, rfl, hp1, rfl, _, rfl, _, _, rfl, rfl, ⟨n0, n1⟩, _, rfl, p, _, 2, 2, rfl, rfl, hp1, rfl, _, rfl, ?_⟩
        refine q _ _ (Int.emod_nonneg _ (by omega)) (Int.emod_lt_of_pos _ n0) ⟨i, g / n, m, c, upd_same, ?_, nlp, i0, i1, n63, Int.ediv_nonneg g0 (by omega), m0, m1⟩ fun b o hb nb => ?_
        · rw [upd_ne nlp]; exact hl1
        · rw [upd_ne nb]; exact ex1 b o hb nb
      · refine ⟨_, rfl, _, _, _, _, rfl, rfl, hp1, rfl, _, rfl, ?_⟩
        refine ⟨_, rfl, _, _, rfl, rfl, ⟨by decide, by decide, by omega⟩, _, rfl, _, _, rfl, rfl, rfl, _, _, rfl, rfl, _, rfl, _, _, _, _, rfl, rfl, hp1, rfl, _, _, rfl, rfl, rfl, _, _, rfl, rfl, _, _, rfl, rfl, _, rfl, _, _, rfl, rfl, rfl, _, rfl, p, _, 3, 3, rfl, rfl, hp1, rfl, ?_⟩
        refine ⟨_, rfl, _, _, _, _, rfl, rfl, upd_same, rfl, _, _, rfl, rfl, rfl, _, rfl, _, _, _, _, rfl, rfl, upd_same, rfl, _, rfl, _, _, rfl, rfl, rfl, _, _, rfl, rfl, rfl, _, _, rfl, rfl, _, rfl, _, rfl, _, _, rfl, rfl, n0, ?_⟩
        refine q _ _ (Int.emod_nonneg _ (by omega)) (Int.emod_lt_of_pos _ n0) ⟨i, g, _, c, upd_same, ?_, nlp, i0, i1, n63, g0, Int.emod_nonneg _ (by decide), Int.emod_lt_of_pos _ (by decide)⟩ fun b o hb nb => ?_
        · rw [upd_ne nlp]; exact hl1
        · rw [upd_ne nb]; exact ex1 b o hb nb
theorem ok_Lof (T : TopOk K mg A) : FnOk P w K mg base CX0 2 A.f_Lof A.d_Lof P_Lof (spOf K) := by
  have G_Ldraw : FnOk P w K mg base CX0 1 A.f_Ldraw A.d_Ldraw P_Ldraw spDraw := ok_Ldraw T
  refine T.F_Lof.ok sc_Lof (fun vs H Q E h => ?_) (fun cdv Ar outer s H vs Q E hr h => ?_)
  · obtain ⟨p, y, rfl, _⟩ := h
    rfl
  · obtain ⟨B, y, rfl, hB, h⟩ := h
    refine ⟨_, (pss_one (ps_ret (pe_ix ix_seq (pv 1) (pe_call G_Ldraw (hr.mono (by decide)) (by rfl) T.g_Ldraw T.F_Ldraw.kp T.a_Ldraw .nil pass0 (pa_cons (pv 0) (pa_cons (pe_callB call_len (by rfl) T.b_len (by decide +kernel) (pa_cons (pv 1) pa_nil)) pa_nil))) (fun _ _ => rfl)))), ?_⟩
    rcases h with ⟨q, xs, rfl, nq, hS, h0, h1, k⟩ | ⟨z, rfl, h0, h1, k⟩
    · refine ⟨_, rfl, _, rfl, _, rfl, V.ref q, xs.length, rfl, ?_, B, _, rfl, hB, by omega, by omega, fun r H' r0 r1 hB' ex => ?_⟩
      · rcases hS with hS | hS
        · exact .inl ⟨_, hS, rfl⟩
        · exact .inr ⟨_, hS, rfl⟩
      · obtain ⟨j, rfl⟩ := Int.eq_ofNat_of_zero_le r0
        have hj : j < xs.length := by omega
        have hat : atI xs (j : Int) = some xs[j] := atI_nat (List.getElem?_eq_getElem hj)
        have kk := k xs[j] H' (List.getElem_mem hj) hB' ex
        rcases hS with hS | hS
        · exact .inl ⟨q, xs, _, _, rfl, rfl, SqL.ext ex nq hS, hat, kk⟩
        · exact .inr (.inl ⟨q, xs, _, _, rfl, rfl, SqT.ext ex nq hS, hat, kk⟩)
    · refine ⟨_, rfl, _, rfl, _, rfl, V.str z, z.length, rfl, ⟨h1, rfl⟩, B, _, rfl, hB, by omega, ?_, fun r H' r0 r1 hB' ex => ?_⟩
      · have : (sizeLine : Nat) = 16777216 := by decide
        omega
      · obtain ⟨j, rfl⟩ := Int.eq_ofNat_of_zero_le r0
        have hj : j < z.cps.toList.length := by
          have : z.length = z.cps.toList.length := by simp [Str.length]
          omega
        exact .inr (.inr ⟨z, _, _, rfl, rfl, h1, atI_nat (List.getElem?_eq_getElem hj), k _ H' (List.getElem_mem hj) hB' ex⟩)
theorem ok_Lsame (T : TopOk K mg A) : ∀ n, FnOk P w K mg base CX0 n A.f_Lsame A.d_Lsame P_Lsame (spSameLt K n)
  | 0 => ⟨fun _ _ _ _ h => h.elim, fun _ _ _ _ _ _ _ _ _ _ _ _ _ h => h.elim⟩
  | n + 1 => by
    have G_Lsame : FnOk P w K mg base CX0 n A.f_Lsame A.d_Lsame P_Lsame (spSameLt K n) := ok_Lsame T n
    refine T.F_Lsame.ok sc_Lsame (fun vs H Q E h => ?_) (fun cdv Ar outer s H vs Q E hr h => ?_)
    · obtain ⟨v, w, d, rfl, _⟩ := h
      rfl
    · obtain ⟨v, u, d, rfl, hv, hu, hd, hs, k⟩ := h
      refine ⟨_, (pss_cons (ps_if (PW.pt (pw_or (pt_cmpR op_isN (pv 1) pe_non (nomark _)) (pw_or1 (pt_cmpR op_isN (pv 0) pe_non (nomark _)))))
      (pss_one (ps_ret (pe_and (pe_cmpR op_isN (pv 1) pe_non (nomark _)) (pe_one (pe_cmpR op_isN (pv 0) pe_non (nomark _))))))
      pss_nil)
      (pss_cons (ps_if (pt_val (pe_callB call_isD2 (by rfl) T.b_isinstance (by decide +kernel) (pa_cons (pv 1) (pa_cons (pe_tup (pa_cons (pe_bltn (v := .ty "list") (by rfl) T.b_list (by decide +kernel) rfl) (pa_cons (pe_bltn (v := .ty "tuple") (by rfl) T.b_tuple (by decide +kernel) rfl) pa_nil))) pa_nil))))
      (pss_cons (ps_if (PW.pt (pw_or (pt_cmpR op_ne (pe_callB call_isD (by rfl) T.b_isinstance (by decide +kernel) (pa_cons (pv 0) (pa_cons (pe_bltn (v := .ty "list") (by rfl) T.b_list (by decide +kernel) rfl) pa_nil))) (pe_callB call_isD (by rfl) T.b_isinstance (by decide +kernel) (pa_cons (pv 1) (pa_cons (pe_bltn (v := .ty "list") (by rfl) T.b_list (by decide +kernel) rfl) pa_nil))) (nomark _)) (pw_or1 (pt_cmpR op_ne (pe_callB call_isD (by rfl) T.b_isinstance (by decide +kernel) (pa_cons (pv 0) (pa_cons (pe_bltn (v := .ty "tuple") (by rfl) T.b_tuple (by decide +kernel) rfl) pa_nil))) (pe_callB call_isD (by rfl) T.b_isinstance (by decide +kernel) (pa_cons (pv 1) (pa_cons (pe_bltn (v := .ty "tuple") (by rfl) T.b_tuple (by decide +kernel) rfl) pa_nil))) (nomark _)))))
      (pss_one (ps_ret pe_bl))
      pss_nil)
      (pss_one (ps_ret (pe_and (pe_cmpR op_eq (pe_callB call_len (by rfl) T.b_len (by decide +kernel) (pa_cons (pv 0) pa_nil)) (pe_callB call_len (by rfl) T.b_len (by decide +kernel) (pa_cons (pv 1) pa_nil)) (nomark _)) (pe_one (pe_callB (cr_all rfl) (by rfl) T.b_all (by decide +kernel) (pa_cons (pe_lc (own := [("_law_one", 2), ("_law_two", 3)]) (g := gTup K 2 (gCons (gName 2) (gCons (gName 3) gNil))) (by rfl) sc_Lsame.nd (RZ.pi_zipA (by rfl) T.b_zip (pa_cons (pv 0) (pa_cons (pv 1) pa_nil))) (blkOk_by (own := [("_law_one", 2), ("_law_two", 3)]) (N := N_Lsame) (sc := defScope s_Lsame) (by decide +kernel)) (fun _ _ _ _ _ => (pg_tup rfl (pgs_cons (pg_name (i := 2) sc_Lsame.nd rfl (by first | exact Or.inl rfl | exact Or.inr rfl)) (pgs_cons (pg_name (i := 3) sc_Lsame.nd rfl (by first | exact Or.inl rfl | exact Or.inr rfl)) pgs_nil)))) (fun _ _ _ _ _ => pts_nil) (fun _ _ _ _ _ => (pe_call G_Lsame hr (by rfl) T.g_Lsame T.F_Lsame.kp T.a_Lsame .nil pass0 (pa_cons (pv 2) (pa_cons (pv 3) pa_nil))))) pa_nil)))))))
      pss_nil)
      (pss_cons (ps_if (PW.pt (pw_or (pt_cmpR op_ne (pe_callB call_isD (by rfl) T.b_isinstance (by decide +kernel) (pa_cons (pv 0) (pa_cons (pe_bltn (v := .ty "bool") (by rfl) T.b_bool (by decide +kernel) rfl) pa_nil))) (pe_callB call_isD (by rfl) T.b_isinstance (by decide +kernel) (pa_cons (pv 1) (pa_cons (pe_bltn (v := .ty "bool") (by rfl) T.b_bool (by decide +kernel) rfl) pa_nil))) (nomark _)) (pw_or1 (pt_cmpR op_ne (pe_callB call_isD (by rfl) T.b_isinstance (by decide +kernel) (pa_cons (pv 0) (pa_cons (pe_bltn (v := .ty "int") (by rfl) T.b_int (by decide +kernel) rfl) pa_nil))) (pe_callB call_isD (by rfl) T.b_isinstance (by decide +kernel) (pa_cons (pv 1) (pa_cons (pe_bltn (v := .ty "int") (by rfl) T.b_int (by decide +kernel) rfl) pa_nil))) (nomark _)))))
      (pss_one (ps_ret pe_bl))
      pss_nil)
      (pss_one (ps_ret (pe_and (pe_cmpR op_eq (pe_callB call_isD (by rfl) T.b_isinstance (by decide +kernel) (pa_cons (pv 0) (pa_cons (pe_bltn (v := .ty "str") (by rfl) T.b_str (by decide +kernel) rfl) pa_nil))) (pe_callB call_isD (by rfl) T.b_isinstance (by decide +kernel) (pa_cons (pv 1) (pa_cons (pe_bltn (v := .ty "str") (by rfl) T.b_str (by decide +kernel) rfl) pa_nil))) (nomark _)) (pe_one (pe_cmpR op_eq (pv 0) (pv 1) (nomark _))))))))), ?_⟩
      cases d with
      | none =>
        cases hv
        cases hu
        exact ⟨_, rfl, rfl, _, rfl, iteT (iteT ⟨_, rfl, rfl, true, rfl, iteT ⟨_, rfl, rfl, k _ (Same.refl _)⟩⟩)⟩
      | bool b =>
        cases hv
        cases hu
        have hb : ∀ H', Dp K H' (V.bl b) (.bool b) := fun _ => .bl b
        refine ⟨_, rfl, rfl, _, rfl, iteF ⟨_, rfl, rfl, _, rfl, iteF ?_⟩⟩
        refine ⟨_, rfl, by show 2 ≤ sizeLine; decide, fun t nt => ⟨_, t, _, _, _, rfl, upd_same, rfl, rfl, hb _, _, rfl, iteF ?_⟩⟩
        refine ⟨_, rfl, _, _, _, rfl, rfl, hb _, _, rfl, _, _, _, rfl, rfl, hb _, rfl, _, rfl, iteF ?_⟩
        refine ⟨_, rfl, _, _, _, rfl, rfl, hb _, _, rfl, _, _, _, rfl, rfl, hb _, rfl, _, rfl, iteF ?_⟩
        refine ⟨_, rfl, _, _, _, rfl, rfl, hb _, _, rfl, _, _, _, rfl, rfl, hb _, rfl, _, rfl, iteT ?_⟩
        refine ⟨_, rfl, _, rfl, rfl, ?_⟩
        rw [decide_eq_true rfl]
        exact k _ (same_upd nt)
      | int b =>
        cases hv
        cases hu
        have hb : ∀ H', Dp K H' (V.int b) (.int b) := fun _ => .int b
        refine ⟨_, rfl, rfl, _, rfl, iteF ⟨_, rfl, rfl, _, rfl, iteF ?_⟩⟩
        refine ⟨_, rfl, by show 2 ≤ sizeLine; decide, fun t nt => ⟨_, t, _, _, _, rfl, upd_same, rfl, rfl, hb _, _, rfl, iteF ?_⟩⟩
        refine ⟨_, rfl, _, _, _, rfl, rfl, hb _, _, rfl, _, _, _, rfl, rfl, hb _, rfl, _, rfl, iteF ?_⟩
        refine ⟨_, rfl, _, _, _, rfl, rfl, hb _, _, rfl, _, _, _, rfl, rfl, hb _, rfl, _, rfl, iteF ?_⟩
        refine ⟨_, rfl, _, _, _, rfl, rfl, hb _, _, rfl, _, _, _, rfl, rfl, hb _, rfl, _, rfl, iteT ?_⟩
        refine ⟨_, rfl, _, rfl, rfl, ?_⟩
        rw [decide_eq_true rfl]
        exact k _ (same_upd nt)
      | str b =>
        cases hv
        cases hu
        have hb : ∀ H', Dp K H' (V.str b) (.str b) := fun _ => .str b
        refine ⟨_, rfl, rfl, _, rfl, iteF ⟨_, rfl, rfl, _, rfl, iteF ?_⟩⟩
        refine ⟨_, rfl, by show 2 ≤ sizeLine; decide, fun t nt => ⟨_, t, _, _, _, rfl, upd_same, rfl, rfl, hb _, _, rfl, iteF ?_⟩⟩
        refine ⟨_, rfl, _, _, _, rfl, rfl, hb _, _, rfl, _, _, _, rfl, rfl, hb _, rfl, _, rfl, iteF ?_⟩
        refine ⟨_, rfl, _, _, _, rfl, rfl, hb _, _, rfl, _, _, _, rfl, rfl, hb _, rfl, _, rfl, iteF ?_⟩
        refine ⟨_, rfl, _, _, _, rfl, rfl, hb _, _, rfl, _, _, _, rfl, rfl, hb _, rfl, _, rfl, iteT ?_⟩
        refine ⟨_, rfl, _, rfl, rfl, ?_⟩
        rw [decide_eq_true rfl]
        exact k _ (same_upd nt)
      | list ds =>
        obtain ⟨a, xs, rfl, sx, dx⟩ := Dp.lenL hv
        obtain ⟨b, ys, rfl, sy, dy⟩ := Dp.lenL hu
        have hsm : decide (ds.length ≤ 5000) = true ∧ smallAll ds = true := by
          unfold small at hs
          exact Bool.and_eq_true_iff.mp hs
        have hsz : ds.length ≤ 5000 := of_decide_eq_true hsm.1
        have lx := DpAll.length dx
        have ly := DpAll.length dy
        refine ⟨_, rfl, rfl, _, rfl, iteF ⟨_, rfl, rfl, _, rfl, iteF ?_⟩⟩
        refine ⟨_, rfl, by show 2 ≤ sizeLine; decide, fun t nt => ?_⟩
        have s1 : Same H (upd H t (.tup [.ty "list", .ty "tuple"])) := same_upd nt
        have hv1 := Dp.same s1 _ _ hv
        have hu1 := Dp.same s1 _ _ hu
        refine ⟨_, t, _, _, _, rfl, upd_same, rfl, rfl, hu1, _, rfl, iteT ?_⟩
        refine ⟨_, rfl, _, _, _, rfl, rfl, hv1, _, rfl, _, _, _, rfl, rfl, hu1, rfl, _, rfl, iteF ?_⟩
        refine ⟨_, rfl, _, _, _, rfl, rfl, hv1, _, rfl, _, _, _, rfl, rfl, hu1, rfl, _, rfl, iteF ?_⟩
        refine ⟨_, rfl, .ref a, xs.length, rfl, .inl ⟨xs, SqL.same s1 sx, rfl⟩, _, rfl, .ref b, ys.length, rfl, .inl ⟨ys, SqL.same s1 sy, rfl⟩, rfl, _, rfl, ?_⟩
        rw [lx, ly, decide_eq_true rfl]
        refine iteT ?_
        refine ⟨_, rfl, _, rfl, a, b, xs, ys, rfl, .inl ⟨SqL.same s1 sx, SqL.same s1 sy, fun D nD => ?_⟩⟩
        refine same_all (walk_zip (K := K) (xs := xs) (ys := ys) (by rw [lx, ly, Nat.min_self])) (DpAll.same s1 _ _ dx) (DpAll.same s1 _ _ dy) (fun H2 s2 => ⟨SqL.same (s1.trans s2) sx, SqL.same (s1.trans s2) sy⟩) nD hsz hsm.2 hd ⟨_, _, rfl⟩ fun H2 s2 h2 => ?_
        refine ⟨D, List.replicate ds.length true, rfl, lsq ?_, ?_⟩
        · rw [h2, List.map_replicate]
        · rw [show (List.replicate ds.length true).all id = true by simp]
          exact k _ (s1.trans s2)
      | tuple ds =>
        obtain ⟨a, xs, rfl, sx, dx⟩ := Dp.lenT hv
        obtain ⟨b, ys, rfl, sy, dy⟩ := Dp.lenT hu
        have hsm : decide (ds.length ≤ 5000) = true ∧ smallAll ds = true := by
          unfold small at hs
          exact Bool.and_eq_true_iff.mp hs
        have hsz : ds.length ≤ 5000 := of_decide_eq_true hsm.1
        have lx := DpAll.length dx
        have ly := DpAll.length dy
        refine ⟨_, rfl, rfl, _, rfl, iteF ⟨_, rfl, rfl, _, rfl, iteF ?_⟩⟩
        refine ⟨_, rfl, by show 2 ≤ sizeLine; decide, fun t nt => ?_⟩
        have s1 : Same H (upd H t (.tup [.ty "list", .ty "tuple"])) := same_upd nt
        have hv1 := Dp.same s1 _ _ hv
        have hu1 := Dp.same s1 _ _ hu
        refine ⟨_, t, _, _, _, rfl, upd_same, rfl, rfl, hu1, _, rfl, iteT ?_⟩
        refine ⟨_, rfl, _, _, _, rfl, rfl, hv1, _, rfl, _, _, _, rfl, rfl, hu1, rfl, _, rfl, iteF ?_⟩
        refine ⟨_, rfl, _, _, _, rfl, rfl, hv1, _, rfl, _, _, _, rfl, rfl, hu1, rfl, _, rfl, iteF ?_⟩
        refine ⟨_, rfl, .ref a, xs.length, rfl, .inr ⟨xs, SqT.same s1 sx, rfl⟩, _, rfl, .ref b, ys.length, rfl, .inr ⟨ys, SqT.same s1 sy, rfl⟩, rfl, _, rfl, ?_⟩
        rw [lx, ly, decide_eq_true rfl]
        refine iteT ?_
        refine ⟨_, rfl, _, rfl, a, b, xs, ys, rfl, .inr ⟨SqT.same s1 sx, SqT.same s1 sy, fun D nD => ?_⟩⟩
        refine same_all (walk_zipT (K := K) (xs := xs) (ys := ys) (by rw [lx, ly, Nat.min_self])) (DpAll.same s1 _ _ dx) (DpAll.same s1 _ _ dy) (fun H2 s2 => ⟨SqT.same (s1.trans s2) sx, SqT.same (s1.trans s2) sy⟩) nD hsz hsm.2 hd ⟨_, _, rfl⟩ fun H2 s2 h2 => ?_
        refine ⟨D, List.replicate ds.length true, rfl, lsq ?_, ?_⟩
        · rw [h2, List.map_replicate]
        · rw [show (List.replicate ds.length true).all id = true by simp]
          exact k _ (s1.trans s2)
      | dict ds => cases hv
end
end My
set_option Elab.async false
set_option linter.all false
set_option maxRecDepth 100000
namespace My
open PySem PySem.Spec PyProof.Rows L2
/-! ### what the words are worth -/
def letters : Str := "abcdefghijklmnopqrstuvwxyz"
def consS (x z : Str) : Bool := !decide (V.str x = V.str "") && (x.cps.toList.map fun c => decide (c ∈ z.cps.toList)).all id
def nameD (m : Int) : PyData → Bool
  | .str x => decide ((x.length : Int) ≤ m) && consS x letters
  | _ => false
def numD (lo hi : Int) : PyData → Bool
  | .int i => decide (lo ≤ i) && decide (i ≤ hi)
  | _ => false
def deedD : PyData → Bool
  | .none => true
  | .tuple [k, m] => ([PyData.str "send", PyData.str "receive"].any fun z => PyData.eqv z k) && nameD 4 m
  | _ => false
def stepD : PyData → Bool
  | .tuple [m, n, d] => nameD 4 m && (numD (-99) 99 n && deedD d)
  | _ => false
def spCons : Sp := fun vs H Q _ => ∃ x z : Str, vs = [.str x, .str z] ∧ x.length ≤ 5000 ∧ ∀ H', Same H H' → Q (.bl (consS x z)) H'
def spNum (K : PySem.W.Frag) : Sp := fun vs H Q _ => ∃ (v : V) (d : PyData) (lo hi : Int), vs = [v, .int lo, .int hi] ∧ Dp K H v d ∧ fine d = true ∧ Q (.bl (numD lo hi d)) H
section
variable {P : Program} {w : World} {K : PySem.W.Frag} {mg : Str → Option Value} {base : Heap} {A : Top}
theorem ok_cons (T : TopOk K mg A) : FnOk P w K mg base CX0 1 A.f_consists_of A.d_consists_of P_consists_of spCons := by
  refine T.F_consists_of.ok sc_consists_of (fun vs H Q E h => ?_) (fun cdv Ar outer s H vs Q E hr h => ?_)
  · obtain ⟨x, z, rfl, _⟩ := h
    rfl
  · obtain ⟨x, z, rfl, hl, k⟩ := h
    refine ⟨_, (pss_one (ps_ret (pe_and (pe_cmpR op_ne (pv 0) pe_str (nomark _)) (pe_one (pe_callB (cr_all rfl) (by rfl) T.b_all (by decide +kernel) (pa_cons (pe_lc (own := [("sign", 2)]) (g := gName 2) (by rfl) sc_consists_of.nd (pi_str (pv 0)) (blkOk_by (own := [("sign", 2)]) (N := N_consists_of) (sc := defScope s_consists_of) (by decide +kernel)) (fun _ _ _ _ _ => (pg_name (i := 2) sc_consists_of.nd rfl (by first | exact Or.inl rfl | exact Or.inr rfl))) (fun _ _ _ _ _ => pts_nil) (fun _ _ _ _ _ => (pe_cmpR op_in_sign (pv 2) (pv 1) (by rfl)))) pa_nil)))))), ?_⟩
    refine ⟨_, rfl, rfl, _, rfl, ite2 (fun e => ?_) (fun e => ?_)⟩
    · refine ⟨_, rfl, x, rfl, fun D nD => str_all nD hl (fun c => decide (c ∈ z.cps.toList)) (fun _ => rfl) (fun c H2 Q2 q2 => ⟨_, rfl, _, rfl, c, z, rfl, rfl, q2⟩) fun H2 s2 h2 => ?_⟩
      refine ⟨D, x.cps.toList.map fun c => decide (c ∈ z.cps.toList), rfl, lsq h2, ?_⟩
      have e2 : consS x z = (x.cps.toList.map fun c => decide (c ∈ z.cps.toList)).all id := by
        unfold consS
        rw [e, Bool.true_and]
      rw [← e2]
      exact k _ s2
    · have e2 : consS x z = false := by
        unfold consS
        rw [Bool.eq_false_iff.mpr e, Bool.false_and]
      have := k H (Same.refl _)
      rw [e2] at this
      exact this
theorem ok_is_name (T : TopOk K mg A) : FnOk P w K mg base CX0 2 A.f_is_name A.d_is_name P_is_name (spD K (nameD 6)) := by
  have G_consists_of : FnOk P w K mg base CX0 1 A.f_consists_of A.d_consists_of P_consists_of spCons := ok_cons T
  refine T.F_is_name.ok sc_is_name (fun vs H Q E h => ?_) (fun cdv Ar outer s H vs Q E hr h => ?_)
  · obtain ⟨x, z, rfl, _⟩ := h
    rfl
  · obtain ⟨v, d, rfl, hv, hf, k⟩ := h
    refine ⟨_, (pss_one (ps_ret (pe_and (pe_callB call_isD (by rfl) T.b_isinstance (by decide +kernel) (pa_cons (pv 0) (pa_cons (pe_bltn (v := .ty "str") (by rfl) T.b_str (by decide +kernel) rfl) pa_nil))) (pe_and (pe_cmpR op_le (pe_callB call_len (by rfl) T.b_len (by decide +kernel) (pa_cons (pv 0) pa_nil)) (pe_glob (by rfl) T.c_NAME_LENGTH T.r_NAME_LENGTH) (nomark _)) (pe_one (pe_call G_consists_of (hr.mono (by decide)) (by rfl) T.g_consists_of T.F_consists_of.kp T.a_consists_of .nil pass0 (pa_cons (pv 0) (pa_cons (pe_glob (by rfl) T.c_LETTERS T.r_LETTERS) pa_nil)))))))), ?_⟩
    refine ⟨_, rfl, _, _, _, rfl, rfl, hv, _, rfl, ?_⟩
    cases d with
    | str x =>
      cases hv
      have hl : x.length ≤ 5000 := by
        have := fine_small hf
        unfold small at this
        exact of_decide_eq_true this
      refine iteT ⟨_, rfl, _, _, rfl, ⟨sz (by omega), rfl⟩, _, _, rfl, rfl, _, rfl, ite2 (fun e => ?_) (fun e => ?_)⟩
      · refine ⟨_, rfl, x, letters, rfl, hl, fun H' s' => ?_⟩
        have e2 : nameD 6 (.str x) = consS x letters := by
          show (decide ((x.length : Int) ≤ 6) && consS x letters) = _
          rw [e, Bool.true_and]
        rw [← e2]
        exact k H' s'
      · have e2 : nameD 6 (.str x) = false := by
          show (decide ((x.length : Int) ≤ 6) && consS x letters) = _
          rw [Bool.eq_false_iff.mpr e, Bool.false_and]
        have := k H (Same.refl _)
        rw [e2] at this
        exact this
    | _ => exact iteF (k H (Same.refl _))
theorem ok_is_word (T : TopOk K mg A) : FnOk P w K mg base CX0 2 A.f_is_word A.d_is_word P_is_word (spD K (nameD 4)) := by
  have G_consists_of : FnOk P w K mg base CX0 1 A.f_consists_of A.d_consists_of P_consists_of spCons := ok_cons T
  refine T.F_is_word.ok sc_is_word (fun vs H Q E h => ?_) (fun cdv Ar outer s H vs Q E hr h => ?_)
  · obtain ⟨x, z, rfl, _⟩ := h
    rfl
  · obtain ⟨v, d, rfl, hv, hf, k⟩ := h
    refine ⟨_, (pss_one (ps_ret (pe_and (pe_callB call_isD (by rfl) T.b_isinstance (by decide +kernel) (pa_cons (pv 0) (pa_cons (pe_bltn (v := .ty "str") (by rfl) T.b_str (by decide +kernel) rfl) pa_nil))) (pe_and (pe_cmpR op_le (pe_callB call_len (by rfl) T.b_len (by decide +kernel) (pa_cons (pv 0) pa_nil)) (pe_glob (by rfl) T.c_WORD_LENGTH T.r_WORD_LENGTH) (nomark _)) (pe_one (pe_call G_consists_of (hr.mono (by decide)) (by rfl) T.g_consists_of T.F_consists_of.kp T.a_consists_of .nil pass0 (pa_cons (pv 0) (pa_cons (pe_glob (by rfl) T.c_LETTERS T.r_LETTERS) pa_nil)))))))), ?_⟩
    refine ⟨_, rfl, _, _, _, rfl, rfl, hv, _, rfl, ?_⟩
    cases d with
    | str x =>
      cases hv
      have hl : x.length ≤ 5000 := by
        have := fine_small hf
        unfold small at this
        exact of_decide_eq_true this
      refine iteT ⟨_, rfl, _, _, rfl, ⟨sz (by omega), rfl⟩, _, _, rfl, rfl, _, rfl, ite2 (fun e => ?_) (fun e => ?_)⟩
      · refine ⟨_, rfl, x, letters, rfl, hl, fun H' s' => ?_⟩
        have e2 : nameD 4 (.str x) = consS x letters := by
          show (decide ((x.length : Int) ≤ 4) && consS x letters) = _
          rw [e, Bool.true_and]
        rw [← e2]
        exact k H' s'
      · have e2 : nameD 4 (.str x) = false := by
          show (decide ((x.length : Int) ≤ 4) && consS x letters) = _
          rw [Bool.eq_false_iff.mpr e, Bool.false_and]
        have := k H (Same.refl _)
        rw [e2] at this
        exact this
    | _ => exact iteF (k H (Same.refl _))
theorem ok_is_number (T : TopOk K mg A) : FnOk P w K mg base CX0 1 A.f_is_number A.d_is_number P_is_number (spNum K) := by
  refine T.F_is_number.ok sc_is_number (fun vs H Q E h => ?_) (fun cdv Ar outer s H vs Q E hr h => ?_)
  · obtain ⟨x, d, lo, hi, rfl, _⟩ := h
    rfl
  · obtain ⟨v, d, lo, hi, rfl, hv, hf, k⟩ := h
    refine ⟨_, (pss_one (ps_ret (pe_and (pe_callB call_isD (by rfl) T.b_isinstance (by decide +kernel) (pa_cons (pv 0) (pa_cons (pe_bltn (v := .ty "int") (by rfl) T.b_int (by decide +kernel) rfl) pa_nil))) (pe_and (pe_not (pe_callB call_isD (by rfl) T.b_isinstance (by decide +kernel) (pa_cons (pv 0) (pa_cons (pe_bltn (v := .ty "bool") (by rfl) T.b_bool (by decide +kernel) rfl) pa_nil)))) (pe_one (pe_chain op_le op_le (pv 1) (pv 0) (pv 2))))))), ?_⟩
    refine ⟨_, rfl, _, _, _, rfl, rfl, hv, _, rfl, ?_⟩
    cases d with
    | int i =>
      cases hv
      refine iteT ⟨_, rfl, _, _, _, rfl, rfl, .int i, _, rfl, _, rfl, iteT ⟨_, rfl, _, rfl, _, _, rfl, rfl, _, rfl, ite2 (fun e => ?_) (fun e => ?_)⟩⟩
      · refine ⟨_, rfl, _, _, rfl, rfl, ?_⟩
        have e2 : numD lo hi (.int i) = decide (i ≤ hi) := by
          show (decide (lo ≤ i) && decide (i ≤ hi)) = _
          rw [e, Bool.true_and]
        rw [e2] at k
        exact k
      · have e2 : numD lo hi (.int i) = false := by
          show (decide (lo ≤ i) && decide (i ≤ hi)) = _
          rw [Bool.eq_false_iff.mpr e, Bool.false_and]
        rw [e2] at k
        exact k
    | bool b =>
      cases hv
      exact iteT ⟨_, rfl, _, _, _, rfl, rfl, .bl b, _, rfl, _, rfl, iteF k⟩
    | _ => exact iteF k
theorem smallT {ds : List PyData} (h : fine (.tuple ds) = true) : ds.length ≤ 5000 ∧ smallAll ds = true := by
  have := fine_small h
  unfold small at this
  exact ⟨of_decide_eq_true (Bool.and_eq_true_iff.mp this).1, (Bool.and_eq_true_iff.mp this).2⟩
theorem shapedAll : ∀ {ds : List PyData} {i : Nat} {d : PyData}, PyData.canLayAll0 ds = true → PyData.depthAll ds ≤ 63 → ds[i]? = some d → SeqAt.shaped d = true
  | [], _, _, _, _, e => by simp at e
  | x :: ds, 0, d, h, hd, e => by
    simp at e; subst e
    unfold PyData.canLayAll0 at h
    unfold PyData.depthAll at hd
    unfold SeqAt.shaped
    rw [(Bool.and_eq_true_iff.mp h).1, Bool.true_and]
    exact decide_eq_true (by omega)
  | x :: ds, i + 1, d, h, hd, e => by
    unfold PyData.canLayAll0 at h
    unfold PyData.depthAll at hd
    exact shapedAll (i := i) (Bool.and_eq_true_iff.mp h).2 (by omega) (by simpa using e)
theorem fine_get {ds : List PyData} {i : Nat} {d : PyData} (h : fine (.tuple ds) = true) (e : ds[i]? = some d) : fine d = true := by
  have h1 := (smallT h).2
  have h2 := fine_shaped h
  unfold SeqAt.shaped at h2
  have h3 : PyData.canLayAll0 ds = true := (Bool.and_eq_true_iff.mp h2).1
  have h4 : PyData.depthAll ds + 1 ≤ 64 := of_decide_eq_true (Bool.and_eq_true_iff.mp h2).2
  unfold fine
  rw [smallAll_get h1 e, shapedAll h3 (by omega) e]
  rfl
def deedsD : PyData := .tuple [.tuple [.str "send", .str "!"], .tuple [.str "receive", .str "?"]]
theorem deeds_rows {q : Addr} (hq : ∀ H, Dp K H (.ref q) deedsD) : ∃ r1 r2, ∀ H, SqT K H q [r1, r2] ∧ (∃ t1, r1 = .ref t1 ∧ SqT K H t1 [.str "send", .str "!"]) ∧ (∃ t2, r2 = .ref t2 ∧ SqT K H t2 [.str "receive", .str "?"]) := by
  obtain ⟨a, xs, e, sx, dx⟩ := Dp.lenT (hq fun _ => none)
  cases e
  cases dx with
  | @cons r1 _ _ _ h1 dx =>
    cases dx with
    | @cons r2 _ _ _ h2 dx =>
      cases dx
      obtain ⟨t1, ys, rfl, s1, d1⟩ := Dp.lenT h1
      obtain ⟨t2, zs, rfl, s2, d2⟩ := Dp.lenT h2
      refine ⟨_, _, fun H => ⟨SqT.static sx H, ⟨t1, rfl, ?_⟩, ⟨t2, rfl, ?_⟩⟩⟩
      · cases d1 with
        | cons a b =>
          cases a
          cases b with
          | cons a b =>
            cases a
            cases b
            exact SqT.static s1 H
      · cases d2 with
        | cons a b =>
          cases a
          cases b with
          | cons a b =>
            cases a
            cases b
            exact SqT.static s2 H
theorem deeds_lc {H0 : Hp} {q D : Addr} {Qd : Hp → Prop} {σ : L2.St} (hq : ∀ H, Dp K H (.ref q) deedsD) (hD : H0 D = none) (hσ : ∃ a b c, σ = [a, b, c])
    (hk : ∀ H', Same H0 H' → H' D = some (.lst [.str "send", .str "receive"]) → Qd H') :
    ∃ W : Nat → Nat → Hp → Prop, (∃ m, W 0 m (upd H0 D (.lst []))) ∧ ∀ i m H, W i m H →
      ((Itt K q).stop i H ∧ Qd H) ∨ ((Itt K q).go i H ∧ ∃ Nx : Hp → Prop, (∀ H', Nx H' → ∃ m', m' < m ∧ W (i + 1) m' H') ∧ ∀ x H', (Itt K q).yld i H x H' → (gTup K 2 (gCons (gName 1) (gCons (gName 2) gNil))) x (wipe σ [1, 2]) H' fun σ2 H2 => wipe σ2 [1, 2] = wipe σ [1, 2] ∧ tYes σ2 H2 fun b H3 =>
        if b = true then (tVar 1) σ2 H3 fun y H4 => ∃ acc, H4 D = some (.lst acc) ∧ acc.length < sizeLine ∧ Nx (upd H4 D (.lst (acc ++ [y]))) else Nx H3) := by
  obtain ⟨a, b, c, rfl⟩ := hσ
  obtain ⟨r1, r2, hx⟩ := deeds_rows hq
  refine lc_it (walk_tup (xs := [r1, r2])) (fun i H => Same H0 H ∧ H D = some (.lst ([V.str "send", V.str "receive"].take i))) ⟨same_upd hD, upd_same⟩ (fun _ H _ _ => (hx H).1) (fun i x H H' hi h y => ?_) fun H h => hk H h.1 h.2
  obtain ⟨s1, h1⟩ := h
  obtain ⟨rfl, ex⟩ := y
  obtain ⟨_, ⟨t1, rfl, q1⟩, ⟨t2, rfl, q2⟩⟩ := hx H'
  match i, hi with
  | 0, _ =>
    have e : x = .ref t1 := (Option.some.inj ex).symm
    subst e
    refine ⟨t1, _, rfl, q1, rfl, _, _, rfl, _, _, rfl, rfl, rfl, _, rfl, _, h1, (by decide), fun c o hc => ?_, upd_same⟩
    rw [upd_ne (ne_of_none hc hD)]
    exact s1 _ _ hc
  | 1, _ =>
    have e : x = .ref t2 := (Option.some.inj ex).symm
    subst e
    refine ⟨t2, _, rfl, q2, rfl, _, _, rfl, _, _, rfl, rfl, rfl, _, rfl, _, h1, (by decide), fun c o hc => ?_, upd_same⟩
    rw [upd_ne (ne_of_none hc hD)]
    exact s1 _ _ hc
theorem ok_is_deed (T : TopOk K mg A) : FnOk P w K mg base CX0 3 A.f_is_deed A.d_is_deed P_is_deed (spD K deedD) := by
  have G_is_word : FnOk P w K mg base CX0 2 A.f_is_word A.d_is_word P_is_word (spD K (nameD 4)) := ok_is_word T
  refine T.F_is_deed.ok sc_is_deed (fun vs H Q E h => ?_) (fun cdv Ar outer s H vs Q E hr h => ?_)
  · obtain ⟨x, d, rfl, _⟩ := h
    rfl
  · obtain ⟨v, d, rfl, hv, hf, k⟩ := h
    refine ⟨_, (pss_cons (ps_if (pt_cmpR op_isN (pv 0) pe_non (nomark _))
      (pss_one (ps_ret pe_bl))
      pss_nil)
      (pss_cons (ps_if (PW.pt (pw_or (pt_not (pt_val (pe_callB call_isD (by rfl) T.b_isinstance (by decide +kernel) (pa_cons (pv 0) (pa_cons (pe_bltn (v := .ty "tuple") (by rfl) T.b_tuple (by decide +kernel) rfl) pa_nil))))) (pw_or1 (pt_cmpR op_ne (pe_callB call_len (by rfl) T.b_len (by decide +kernel) (pa_cons (pv 0) pa_nil)) pe_int (nomark _)))))
      (pss_one (ps_ret pe_bl))
      pss_nil)
      (pss_one (ps_ret (pe_and (pe_cmpR (L2.op_inD (hu65 hr)) (pe_ix ix_tup (pv 0) pe_int (fun _ _ => rfl)) (pe_lc (own := [("kind", 1), ("sign", 2)]) (g := gTup K 2 (gCons (gName 1) (gCons (gName 2) gNil))) (by rfl) sc_is_deed.nd (pi_tup (pe_glob (by rfl) T.c_DEEDS T.r_DEEDS)) (blkOk_by (own := [("kind", 1), ("sign", 2)]) (N := N_is_deed) (sc := defScope s_is_deed) (by decide +kernel)) (fun _ _ _ _ _ => (pg_tup rfl (pgs_cons (pg_name (i := 1) sc_is_deed.nd rfl (by first | exact Or.inl rfl | exact Or.inr rfl)) (pgs_cons (pg_name (i := 2) sc_is_deed.nd rfl (by first | exact Or.inl rfl | exact Or.inr rfl)) pgs_nil)))) (fun _ _ _ _ _ => pts_nil) (fun _ _ _ _ _ => (pv 1))) (by rfl)) (pe_one (pe_call G_is_word (hr.mono (by decide)) (by rfl) T.g_is_word T.F_is_word.kp T.a_is_word .nil pass0 (pa_cons (pe_ix ix_tup (pv 0) pe_int (fun _ _ => rfl)) pa_nil)))))))), ?_⟩
    cases d with
    | none =>
      cases hv
      exact ⟨_, rfl, rfl, _, rfl, iteT (k H (Same.refl _))⟩
    | tuple ds =>
      obtain ⟨a, xs, rfl, sx, dx⟩ := Dp.lenT hv
      have lx := DpAll.length dx
      refine ⟨_, rfl, rfl, _, rfl, iteF ?_⟩
      refine ⟨_, rfl, _, _, _, rfl, rfl, hv, _, rfl, iteF ?_⟩
      refine ⟨_, rfl, .ref a, xs.length, rfl, .inr ⟨xs, sx, rfl⟩, rfl, _, rfl, ?_⟩
      match ds, dx, lx, hf, k with
      | [dk, dm], dx, lx, hf, k =>
        cases dx with
        | @cons vk _ _ _ hk dx =>
          cases dx with
          | @cons vm _ _ _ hm dx =>
            cases dx
            refine iteF ?_
            have fk : fine dk = true := fine_get (i := 0) hf rfl
            have fm : fine dm = true := fine_get (i := 1) hf rfl
            refine ⟨_, rfl, a, _, _, vk, rfl, rfl, sx, rfl, A.q_DEEDS, rfl, ?_⟩
            obtain ⟨r1, r2, hx⟩ := deeds_rows T.t_DEEDS
            refine ⟨⟨_, (hx H).1⟩, fun D nD => deeds_lc T.t_DEEDS nD ⟨_, _, _, rfl⟩ fun H2 s2 h2 => ?_⟩
            refine ⟨dk, [.str "send", .str "receive"], Dp.same s2 _ _ hk, .lst (lsq h2) (.cons (.str _) (.cons (.str _) .nil)), fine_shaped fk, by decide +kernel, _, rfl, ite2 (fun e => ?_) (fun e => ?_)⟩
            · refine ⟨_, rfl, a, _, _, vm, rfl, rfl, SqT.same s2 sx, rfl, vm, dm, rfl, Dp.same s2 _ _ hm, fm, fun H3 s3 => ?_⟩
              have e2 : deedD (.tuple [dk, dm]) = nameD 4 dm := by
                show (([PyData.str "send", PyData.str "receive"].any fun z => PyData.eqv z dk) && nameD 4 dm) = _
                rw [e, Bool.true_and]
              have := k H3 (s2.trans s3)
              rw [e2] at this
              exact this
            · have e2 : deedD (.tuple [dk, dm]) = false := by
                show (([PyData.str "send", PyData.str "receive"].any fun z => PyData.eqv z dk) && nameD 4 dm) = _
                rw [Bool.eq_false_iff.mpr e, Bool.false_and]
              have := k H2 s2
              rw [e2] at this
              exact this
      | [], dx, lx, hf, k =>
        rw [show xs.length = 0 from lx]
        exact iteT (k H (Same.refl _))
      | [_], dx, lx, hf, k =>
        rw [show xs.length = 1 from lx]
        exact iteT (k H (Same.refl _))
      | _ :: _ :: _ :: ds, dx, lx, hf, k =>
        rw [show xs.length = ds.length + 3 from lx]
        have hne : (!decide (V.int ((ds.length + 3 : Nat) : Int) = V.int 2)) = true := by
          rw [Bool.not_eq_true', decide_eq_false_iff_not]
          intro z
          have := V.int.inj z
          omega
        rw [hne]
        exact iteT (k H (Same.refl _))
    | bool b =>
      cases hv
      exact ⟨_, rfl, rfl, _, rfl, iteF ⟨_, rfl, _, _, _, rfl, rfl, .bl b, _, rfl, iteT (iteT (k H (Same.refl _)))⟩⟩
    | int b =>
      cases hv
      exact ⟨_, rfl, rfl, _, rfl, iteF ⟨_, rfl, _, _, _, rfl, rfl, .int b, _, rfl, iteT (iteT (k H (Same.refl _)))⟩⟩
    | str b =>
      cases hv
      exact ⟨_, rfl, rfl, _, rfl, iteF ⟨_, rfl, _, _, _, rfl, rfl, .str b, _, rfl, iteT (iteT (k H (Same.refl _)))⟩⟩
    | list ds =>
      obtain ⟨a, xs, rfl, sx, dx⟩ := Dp.lenL hv
      exact ⟨_, rfl, rfl, _, rfl, iteF ⟨_, rfl, _, _, _, rfl, rfl, hv, _, rfl, iteT (iteT (k H (Same.refl _)))⟩⟩
    | dict ds => cases hv
end
end My
set_option Elab.async false
set_option linter.all false
set_option maxRecDepth 100000
namespace My
open PySem PySem.Spec PyProof.Rows L2 TL PySem.PyData
/-! ### the mathematics of names -/
theorem empty_len {z : Str} : decide (V.str z = V.str "") = decide (z.length = 0) := by
  rw [Bool.eq_iff_iff, decide_eq_true_iff, decide_eq_true_iff]
  constructor
  · intro e
    rw [V.str.inj e]
    rfl
  · intro e
    have : z = "" := ext_tl (by
      rw [len_tl] at e
      rw [List.eq_nil_of_length_eq_zero e]
      rfl)
    rw [this]
/-! ### steps -/
section
variable {P : Program} {w : World} {K : PySem.W.Frag} {mg : Str → Option Value} {base : Heap} {A : Top}
theorem ok_is_step (T : TopOk K mg A) : FnOk P w K mg base CX0 4 A.f_is_step A.d_is_step P_is_step (spD K stepD) := by
  have G_is_word : FnOk P w K mg base CX0 2 A.f_is_word A.d_is_word P_is_word (spD K (nameD 4)) := ok_is_word T
  have G_is_number : FnOk P w K mg base CX0 1 A.f_is_number A.d_is_number P_is_number (spNum K) := ok_is_number T
  have G_is_deed : FnOk P w K mg base CX0 3 A.f_is_deed A.d_is_deed P_is_deed (spD K deedD) := ok_is_deed T
  refine T.F_is_step.ok sc_is_step (fun vs H Q E h => ?_) (fun cdv Ar outer s H vs Q E hr h => ?_)
  · obtain ⟨x, d, rfl, _⟩ := h
    rfl
  · obtain ⟨v, d, rfl, hv, hf, k⟩ := h
    refine ⟨_, (pss_cons (ps_if (PW.pt (pw_or (pt_not (pt_val (pe_callB call_isD (by rfl) T.b_isinstance (by decide +kernel) (pa_cons (pv 0) (pa_cons (pe_bltn (v := .ty "tuple") (by rfl) T.b_tuple (by decide +kernel) rfl) pa_nil))))) (pw_or1 (pt_cmpR op_ne (pe_callB call_len (by rfl) T.b_len (by decide +kernel) (pa_cons (pv 0) pa_nil)) pe_int (nomark _)))))
      (pss_one (ps_ret pe_bl))
      pss_nil)
      (pss_cons (ps_asg (pv 0) (pg_tup rfl (pgs_cons (pg_name (i := 1) sc_is_step.nd rfl (by first | exact Or.inl rfl | exact Or.inr rfl)) (pgs_cons (pg_name (i := 2) sc_is_step.nd rfl (by first | exact Or.inl rfl | exact Or.inr rfl)) (pgs_cons (pg_name (i := 3) sc_is_step.nd rfl (by first | exact Or.inl rfl | exact Or.inr rfl)) pgs_nil)))))
      (pss_one (ps_ret (pe_and (pe_call G_is_word (hr.mono (by decide)) (by rfl) T.g_is_word T.F_is_word.kp T.a_is_word .nil pass0 (pa_cons (pv 1) pa_nil)) (pe_and (pe_call G_is_number (hr.mono (by decide)) (by rfl) T.g_is_number T.F_is_number.kp T.a_is_number .nil pass0 (pa_cons (pv 2) (pa_cons (pe_glob (by rfl) T.c_LEAST T.r_LEAST) (pa_cons (pe_glob (by rfl) T.c_MOST T.r_MOST) pa_nil)))) (pe_one (pe_call G_is_deed (hr.mono (by decide)) (by rfl) T.g_is_deed T.F_is_deed.kp T.a_is_deed .nil pass0 (pa_cons (pv 3) pa_nil))))))))), ?_⟩
    cases d with
    | tuple ds =>
      obtain ⟨a, xs, rfl, sx, dx⟩ := Dp.lenT hv
      have lx := DpAll.length dx
      refine ⟨_, rfl, _, _, _, rfl, rfl, hv, _, rfl, iteF ?_⟩
      refine ⟨_, rfl, .ref a, xs.length, rfl, .inr ⟨xs, sx, rfl⟩, rfl, _, rfl, ?_⟩
      match ds, dx, lx, hf, k with
      | [dm, dn, dd], dx, lx, hf, k =>
        cases dx with
        | @cons vm _ _ _ hm dx =>
          cases dx with
          | @cons vn _ _ _ hn dx =>
            cases dx with
            | @cons vd _ _ _ hd dx =>
              cases dx
              refine iteF ?_
              have fm : fine dm = true := fine_get (i := 0) hf rfl
              have fn : fine dn = true := fine_get (i := 1) hf rfl
              have fd : fine dd = true := fine_get (i := 2) hf rfl
              refine ⟨_, rfl, a, _, rfl, sx, rfl, _, _, rfl, _, _, rfl, _, _, rfl, rfl, ?_⟩
              refine ⟨_, rfl, vm, dm, rfl, hm, fm, fun H1 s1 => ⟨_, rfl, ite2 (fun e => ?_) (fun e => ?_)⟩⟩
              · refine ⟨_, rfl, vn, dn, -99, 99, rfl, Dp.same s1 _ _ hn, fn, _, rfl, ite2 (fun e' => ?_) (fun e' => ?_)⟩
                · refine ⟨_, rfl, vd, dd, rfl, Dp.same s1 _ _ hd, fd, fun H2 s2 => ?_⟩
                  have e2 : stepD (.tuple [dm, dn, dd]) = deedD dd := by
                    show (nameD 4 dm && (numD (-99) 99 dn && deedD dd)) = _
                    rw [e, e', Bool.true_and, Bool.true_and]
                  have := k H2 (s1.trans s2)
                  rw [e2] at this
                  exact this
                · have e2 : stepD (.tuple [dm, dn, dd]) = false := by
                    show (nameD 4 dm && (numD (-99) 99 dn && deedD dd)) = _
                    rw [Bool.eq_false_iff.mpr e', Bool.false_and, Bool.and_false]
                  have := k H1 s1
                  rw [e2] at this
                  exact this
              · have e2 : stepD (.tuple [dm, dn, dd]) = false := by
                  show (nameD 4 dm && (numD (-99) 99 dn && deedD dd)) = _
                  rw [Bool.eq_false_iff.mpr e, Bool.false_and]
                have := k H1 s1
                rw [e2] at this
                exact this
      | [], dx, lx, hf, k =>
        rw [show xs.length = 0 from lx]
        exact iteT (k H (Same.refl _))
      | [_], dx, lx, hf, k =>
        rw [show xs.length = 1 from lx]
        exact iteT (k H (Same.refl _))
      | [_, _], dx, lx, hf, k =>
        rw [show xs.length = 2 from lx]
        exact iteT (k H (Same.refl _))
      | _ :: _ :: _ :: _ :: ds, dx, lx, hf, k =>
        rw [show xs.length = ds.length + 4 from lx]
        have hne : (!decide (V.int ((ds.length + 4 : Nat) : Int) = V.int 3)) = true := by
          rw [Bool.not_eq_true', decide_eq_false_iff_not]
          intro z
          have := V.int.inj z
          omega
        rw [hne]
        exact iteT (k H (Same.refl _))
    | dict ds => cases hv
    | _ => exact ⟨_, rfl, _, _, _, rfl, rfl, hv, _, rfl, iteT (iteT (k H (Same.refl _)))⟩
end
end My
set_option Elab.async false
set_option linter.all false
set_option maxRecDepth 100000
namespace My
open PySem PySem.Spec PyProof.Rows L2 TL
/-! ### the texts of steps, as the program reckons them -/
/-! ### what a right step is -/
theorem name_inv {x : Str} {k : Int} (h : nameD k (.str x) = true) : (∀ c ∈ tl x, c ∈ letters.cps.toList) ∧ tl x ≠ [] ∧ (x.length : Int) ≤ k := by
  have h' : (decide ((x.length : Int) ≤ k) && (!decide (V.str x = V.str "") && (x.cps.toList.map fun c => decide (c ∈ letters.cps.toList)).all id)) = true := h
  rw [empty_len] at h'
  obtain ⟨h1, h2⟩ := Bool.and_eq_true_iff.mp h'
  obtain ⟨h2, h3⟩ := Bool.and_eq_true_iff.mp h2
  refine ⟨fun c hc => ?_, fun e => ?_, of_decide_eq_true h1⟩
  · have := List.all_eq_true.mp h3 (decide (c ∈ letters.cps.toList)) (List.mem_map.mpr ⟨c, hc, rfl⟩)
    exact of_decide_eq_true this
  · have e0 : x.length = 0 := by rw [len_tl, e]; rfl
    rw [e0] at h2
    exact absurd h2 (by decide)
theorem name_str {d : PyData} {k : Int} (h : nameD k d = true) : ∃ x, d = .str x := by
  cases d with
  | str x => exact ⟨x, rfl⟩
  | _ => exact absurd h (by simp [nameD])
def Deed : PyData → Prop := fun d => d = .none ∨ ∃ w, nameD 4 (.str w) = true ∧ (d = .tuple [.str "send", .str w] ∨ d = .tuple [.str "receive", .str w])
theorem eqv_str {k : PyData} {z : Str} (h : PyData.eqv (.str z) k = true) : k = .str z := by
  cases k with
  | str x => exact congrArg PyData.str (eq_of_beq h).symm
  | _ => exact absurd h (by simp [PyData.eqv])
theorem deed_inv {d : PyData} (h : deedD d = true) : Deed d := by
  unfold deedD at h
  split at h
  · exact .inl rfl
  · rename_i k m
    obtain ⟨h1, h2⟩ := Bool.and_eq_true_iff.mp h
    obtain ⟨w, rfl⟩ := name_str h2
    refine .inr ⟨w, h2, ?_⟩
    have h3 : (PyData.eqv (.str "send") k || (PyData.eqv (.str "receive") k || false)) = true := h1
    rcases Bool.or_eq_true_iff.mp h3 with h3 | h3
    · exact .inl (by rw [eqv_str h3])
    · rw [Bool.or_false] at h3
      exact .inr (by rw [eqv_str h3])
  · exact absurd h (by decide)
theorem step_inv {d : PyData} (h : stepD d = true) : ∃ m n dd, d = .tuple [.str m, .int n, dd] ∧ nameD 4 (.str m) = true ∧ -99 ≤ n ∧ n ≤ 99 ∧ Deed dd := by
  unfold stepD at h
  split at h
  · rename_i m n dd
    obtain ⟨h1, h2⟩ := Bool.and_eq_true_iff.mp h
    obtain ⟨h2, h3⟩ := Bool.and_eq_true_iff.mp h2
    obtain ⟨x, rfl⟩ := name_str h1
    cases n with
    | int i =>
      obtain ⟨h4, h5⟩ := Bool.and_eq_true_iff.mp (show (decide (-99 ≤ i) && decide (i ≤ 99)) = true from h2)
      exact ⟨x, i, dd, rfl, h1, of_decide_eq_true h4, of_decide_eq_true h5, deed_inv h3⟩
    | _ => exact absurd h2 (by simp [numD])
  · exact absurd h (by decide)
/-! ### numbers, each by itself -/
/-! ### the text of a right step is read back -/
theorem letter_of {c : Nat} (h : c ∈ letters.cps.toList) : 97 ≤ c ∧ c ≤ 122 := by
  have : ∀ c ∈ letters.cps.toList, 97 ≤ c ∧ c ≤ 122 := by decide +kernel
  exact this c h
end My
set_option Elab.async false
set_option linter.all false
set_option maxRecDepth 100000
namespace My
open PySem PySem.Spec PyProof.Rows L2 TL PySem.StrLaws NumText
/-! ### the two kinds of deeds, one behind the other -/
def kd (i : Nat) : Str := if i = 0 then "send" else "receive"
def sg (i : Nat) : Str := if i = 0 then "!" else "?"
end My
set_option Elab.async false
set_option linter.all false
set_option maxRecDepth 100000
namespace My
open PySem PySem.Spec PyProof.Rows L2 TL
/-! ### parts are right data -/
def GoodS (x : Str) : Prop := x.length ≤ 5000 ∧ ∀ c ∈ tl x, c < 1114112
theorem good_fine {x : Str} (h : GoodS x) : fine (.str x) = true := by
  show (decide (x.length ≤ 5000) && (PyData.strOk x && decide (0 ≤ 64))) = true
  have e : PyData.strOk x = true := by
    unfold PyData.strOk
    rw [← Array.all_toList, List.all_eq_true]
    intro c hc
    exact decide_eq_true (h.2 c hc)
  rw [e, decide_eq_true h.1]
  rfl
theorem fine_list {ds : List PyData} (h : ∀ d ∈ ds, small d = true ∧ PyData.canLay0 d = true ∧ d.depth ≤ 20) : smallAll ds = true ∧ PyData.canLayAll0 ds = true ∧ PyData.depthAll ds ≤ 20 := by
  induction ds with
  | nil => exact ⟨rfl, rfl, by show 0 ≤ 20; decide⟩
  | cons d ds ih =>
    obtain ⟨a, b, c⟩ := h d (List.mem_cons_self ..)
    obtain ⟨a', b', c'⟩ := ih fun x hx => h x (List.mem_cons_of_mem _ hx)
    refine ⟨?_, ?_, ?_⟩
    · show (small d && smallAll ds) = true
      rw [a, a']
      rfl
    · show (PyData.canLay0 d && PyData.canLayAll0 ds) = true
      rw [b, b']
      rfl
    · show max d.depth (PyData.depthAll ds) ≤ 20
      omega
end My
set_option Elab.async false
set_option linter.all false
set_option maxRecDepth 100000
namespace My
open PySem PySem.Spec PyProof.Rows L2 TL
/-! ### logs, as they are meant -/
structure Stp where
  m : Str
  n : Int
  d : Option (Bool × Str)
structure Row where
  n : Str
  k : Bool
  s : List Stp
def kindS (b : Bool) : Str := if b = true then "send" else "receive"
def deedQ (d : Bool × Str) : PyData := .tuple [.str (kindS d.1), .str d.2]
def deedP : Option (Bool × Str) → PyData
  | none => .none
  | some d => deedQ d
def stpP (s : Stp) : PyData := .tuple [.str s.m, .int s.n, deedP s.d]
def rowP (r : Row) : PyData := .tuple [.str r.n, seqD r.k (r.s.map stpP)]
def rowsP (k : Bool) (rs : List Row) : PyData := seqD k (rs.map rowP)
def deeds (rs : List Row) : List (Bool × Str) := rs.flatMap fun r => r.s.filterMap (·.d)
def stepAt (rs : List Row) (i j : Nat) : Option Stp := (rs[i]?).bind fun r => r.s[j]?
structure Sta where
  pl : List Nat
  md : List (Bool × Str)
  od : List (Nat × Nat)
def canD (md : List (Bool × Str)) : Option (Bool × Str) → Bool
  | none => true
  | some (true, _) => true
  | some (false, w) => decide ((true, w) ∈ md)
def readyAt (rs : List Row) (pl : List Nat) (md : List (Bool × Str)) (i : Nat) : Bool := match stepAt rs i (pl.getD i 0) with
  | some s => canD md s.d
  | none => false
def ready (rs : List Row) (pl : List Nat) (md : List (Bool × Str)) : Option Nat := (List.range rs.length).find? fun i => readyAt rs pl md i
def addD (md : List (Bool × Str)) : Option (Bool × Str) → List (Bool × Str)
  | none => md
  | some d => md ++ [d]
def adv (t : Sta) (i : Nat) (s : Stp) : Sta := ⟨t.pl.set i (t.pl.getD i 0 + 1), addD t.md s.d, t.od ++ [(i, t.pl.getD i 0)]⟩
def runO (rs : List Row) : Nat → Sta → Sta
  | 0, t => t
  | f + 1, t => match ready rs t.pl t.md with
    | none => t
    | some i => match stepAt rs i (t.pl.getD i 0) with
      | some s => runO rs f (adv t i s)
      | none => t
def sta0 (rs : List Row) : Sta := ⟨rs.map fun _ => 0, [], []⟩
def total (rs : List Row) : Nat := (rs.map fun r => r.s.length).sum
def lastO (rs : List Row) : Sta := runO rs (total rs) (sta0 rs)
def tripP (rs : List Row) (p : Nat × Nat) : PyData := match rs[p.1]? with
  | some r => match r.s[p.2]? with
    | some s => .tuple [.str r.n, .int (p.2 : Nat), stpP s]
    | none => .none
  | none => .none
def orderP (rs : List Row) : PyData := .list ((lastO rs).od.map (tripP rs))
/-- right rows -/
structure Valid (rs : List Row) : Prop where
  few : rs.length ≤ 6
  name : ∀ r ∈ rs, nameD 6 (.str r.n) = true
  nd : (rs.map (·.n)).Nodup
  len : ∀ r ∈ rs, r.s.length ≤ 20
  step : ∀ r ∈ rs, ∀ s ∈ r.s, stepD (stpP s) = true
  once : (deeds rs).Nodup
  sent : ∀ w, (false, w) ∈ deeds rs → (true, w) ∈ deeds rs
  done : ∀ i r, rs[i]? = some r → (lastO rs).pl.getD i 0 = r.s.length
theorem stepAt_row {rs : List Row} {i j : Nat} {s : Stp} (h : stepAt rs i j = some s) : ∃ r, rs[i]? = some r ∧ r.s[j]? = some s := by
  unfold stepAt at h
  cases e : rs[i]? with
  | none => rw [e] at h; cases h
  | some r => rw [e] at h; exact ⟨r, rfl, h⟩
theorem stepAt_of {rs : List Row} {i j : Nat} {s : Stp} {r : Row} (h : rs[i]? = some r) (h2 : r.s[j]? = some s) : stepAt rs i j = some s := by
  unfold stepAt
  rw [h]
  exact h2
theorem mem_deeds {rs : List Row} {d : Bool × Str} : d ∈ deeds rs ↔ ∃ i j s, stepAt rs i j = some s ∧ s.d = some d := by
  unfold deeds
  rw [List.mem_flatMap]
  constructor
  · rintro ⟨r, hr, hd⟩
    obtain ⟨s, hs, e⟩ := List.mem_filterMap.mp hd
    obtain ⟨i, hi⟩ := List.getElem?_of_mem hr
    obtain ⟨j, hj⟩ := List.getElem?_of_mem hs
    exact ⟨i, j, s, stepAt_of hi hj, e⟩
  · rintro ⟨i, j, s, h, e⟩
    obtain ⟨r, h1, h2⟩ := stepAt_row h
    exact ⟨r, List.mem_of_getElem? h1, List.mem_filterMap.mpr ⟨s, List.mem_of_getElem? h2, e⟩⟩
theorem ready_some {rs : List Row} {pl : List Nat} {md : List (Bool × Str)} {i : Nat} (h : ready rs pl md = some i) : ∃ r s, rs[i]? = some r ∧ r.s[pl.getD i 0]? = some s ∧ canD md s.d = true := by
  have h1 := List.find?_some h
  unfold readyAt at h1
  split at h1
  · rename_i s e
    obtain ⟨r, a, b⟩ := stepAt_row e
    exact ⟨r, s, a, b, h1⟩
  · cases h1
theorem ready_none {rs : List Row} {pl : List Nat} {md : List (Bool × Str)} (h : ready rs pl md = none) {i : Nat} {s : Stp} (hs : stepAt rs i (pl.getD i 0) = some s) : canD md s.d = false := by
  obtain ⟨r, a, _⟩ := stepAt_row hs
  have hi : i < rs.length := (List.getElem?_eq_some_iff.mp a).1
  have h1 := List.find?_eq_none.mp h i (List.mem_range.mpr hi)
  unfold readyAt at h1
  rw [hs] at h1
  exact Bool.eq_false_iff.mpr h1
theorem runO_fix {rs : List Row} {t : Sta} (h : ready rs t.pl t.md = none) : ∀ m, runO rs m t = t
  | 0 => rfl
  | m + 1 => by
    unfold runO
    rw [h]
theorem runO_step {rs : List Row} {t : Sta} {i : Nat} {s : Stp} (h : ready rs t.pl t.md = some i) (hs : stepAt rs i (t.pl.getD i 0) = some s) (m : Nat) : runO rs (m + 1) t = runO rs m (adv t i s) := by
  show (match ready rs t.pl t.md with | none => t | some i => match stepAt rs i (t.pl.getD i 0) with | some s => runO rs m (adv t i s) | none => t) = _
  rw [h]
  dsimp only
  rw [hs]
/-! ### sums -/
theorem sum_le : ∀ (a b : List Nat), a.length = b.length → (∀ i, a.getD i 0 ≤ b.getD i 0) → a.sum ≤ b.sum
  | [], [], _, _ => Nat.le_refl _
  | x :: a, y :: b, hl, h => by
    have h0 := h 0
    have ih := sum_le a b (by simpa using hl) fun i => by simpa using h (i + 1)
    simp at h0 ⊢
    omega
theorem sum_lt : ∀ (a b : List Nat), a.length = b.length → (∀ i, a.getD i 0 ≤ b.getD i 0) → ∀ i, a.getD i 0 < b.getD i 0 → a.sum < b.sum
  | [], [], _, _, i, h => by simp at h
  | x :: a, y :: b, hl, h, 0, hi => by
    have ih := sum_le a b (by simpa using hl) fun i => by simpa using h (i + 1)
    simp at hi ⊢
    omega
  | x :: a, y :: b, hl, h, i + 1, hi => by
    have h0 := h 0
    have ih := sum_lt a b (by simpa using hl) (fun i => by simpa using h (i + 1)) i (by simpa using hi)
    simp at h0 ⊢
    omega
theorem sum_set : ∀ (a : List Nat) (i : Nat), i < a.length → (a.set i (a.getD i 0 + 1)).sum = a.sum + 1
  | x :: a, 0, _ => by simp; omega
  | x :: a, i + 1, h => by
    have := sum_set a i (by simpa using h)
    simp at this ⊢
    omega
theorem getD_set {a : List Nat} {i j v : Nat} (h : i < a.length) : (a.set i v).getD j 0 = if i = j then v else a.getD j 0 := by
  rw [List.getD_eq_getElem?_getD, List.getD_eq_getElem?_getD, List.getElem?_set]
  split
  · rename_i e
    subst e
    first | rfl | (rw [if_pos h]; rfl)
  · rfl
/-! ### how far the run is -/
structure Good (rs : List Row) (t : Sta) : Prop where
  pl : t.pl.length = rs.length
  le : ∀ i r, rs[i]? = some r → t.pl.getD i 0 ≤ r.s.length
  cnt : ∀ i, i < rs.length → (t.od.map (·.1)).count i = t.pl.getD i 0
  od : ∀ p ∈ t.od, p.1 < rs.length ∧ p.2 < t.pl.getD p.1 0
  md : ∀ d, d ∈ t.md ↔ ∃ i j s, j < t.pl.getD i 0 ∧ stepAt rs i j = some s ∧ s.d = some d
  odl : t.od.length = t.pl.sum
  mdl : t.md.length ≤ t.pl.sum
theorem sum_zeros : ∀ rs : List Row, (rs.map fun _ => 0).sum = 0
  | [] => rfl
  | r :: rs => by rw [List.map_cons, List.sum_cons, sum_zeros rs]
theorem getD_zeros (rs : List Row) (i : Nat) : (rs.map fun _ => 0).getD i 0 = 0 := by
  rw [List.getD_eq_getElem?_getD, List.getElem?_map]
  cases rs[i]? <;> rfl
theorem good0 (rs : List Row) : Good rs (sta0 rs) := by
  refine ⟨by simp [sta0], fun i r _ => ?_, fun i _ => ?_, fun p hp => ?_, fun d => ⟨fun h => ?_, fun ⟨i, j, s, h, _⟩ => ?_⟩, (sum_zeros rs).symm, Nat.zero_le _⟩
  · show (rs.map fun _ => 0).getD i 0 ≤ _
    rw [getD_zeros]
    exact Nat.zero_le _
  · show _ = (rs.map fun _ => 0).getD i 0
    rw [getD_zeros]
    rfl
  · cases hp
  · cases h
  · rw [show (sta0 rs).pl.getD i 0 = 0 from getD_zeros rs i] at h
    exact absurd h (Nat.not_lt_zero _)
theorem good_adv {rs : List Row} {t : Sta} {i : Nat} {s : Stp} (g : Good rs t) (hs : stepAt rs i (t.pl.getD i 0) = some s) : Good rs (adv t i s) := by
  obtain ⟨r, hr, hj⟩ := stepAt_row hs
  have hi : i < rs.length := (List.getElem?_eq_some_iff.mp hr).1
  have hip : i < t.pl.length := by rw [g.pl]; exact hi
  have hjl : t.pl.getD i 0 < r.s.length := (List.getElem?_eq_some_iff.mp hj).1
  have e : ∀ j, (adv t i s).pl.getD j 0 = if i = j then t.pl.getD i 0 + 1 else t.pl.getD j 0 := fun j => getD_set hip
  refine ⟨?_, fun j q hq => ?_, fun j hj2 => ?_, fun p hp => ?_, fun d => ?_, by
    show (t.od ++ [(i, t.pl.getD i 0)]).length = (t.pl.set i (t.pl.getD i 0 + 1)).sum
    rw [List.length_append, g.odl, sum_set _ _ hip]
    rfl, by
    show (addD t.md s.d).length ≤ (t.pl.set i (t.pl.getD i 0 + 1)).sum
    rw [sum_set _ _ hip]
    have := g.mdl
    unfold addD
    split
    · omega
    · rw [List.length_append]
      show _ + 1 ≤ _
      omega⟩
  · show (t.pl.set i _).length = _
    rw [List.length_set, g.pl]
  · rw [e]
    split
    · rename_i z
      subst z
      rw [hr] at hq
      cases hq
      exact hjl
    · exact g.le j q hq
  · rw [e]
    show ((t.od ++ [(i, t.pl.getD i 0)]).map (·.1)).count j = _
    rw [List.map_append, List.count_append, g.cnt j hj2]
    show _ + List.count j [i] = _
    rw [List.count_singleton]
    by_cases z : i = j
    · subst z
      simp
    · rw [if_neg z, if_neg (by simpa using z)]
      rfl
  · rw [e]
    rcases List.mem_append.mp hp with h | h
    · obtain ⟨a, b⟩ := g.od p h
      refine ⟨a, ?_⟩
      split
      · rename_i z
        rw [← z] at b
        omega
      · exact b
    · rw [List.mem_singleton.mp h]
      exact ⟨hi, by rw [if_pos rfl]; exact Nat.lt_succ_self _⟩
  · have old : d ∈ t.md ↔ _ := g.md d
    constructor
    · intro h
      have h' : d ∈ t.md ∨ s.d = some d := by
        have h2 : d ∈ addD t.md s.d := h
        unfold addD at h2
        split at h2
        · exact .inl h2
        · rename_i d' ed
          rcases List.mem_append.mp h2 with h2 | h2
          · exact .inl h2
          · rw [List.mem_singleton.mp h2]; exact .inr ed
      rcases h' with h' | h'
      · obtain ⟨i', j', s', a, b, c⟩ := old.mp h'
        refine ⟨i', j', s', ?_, b, c⟩
        rw [e]
        split
        · rename_i z
          rw [← z] at a
          omega
        · exact a
      · exact ⟨i, _, s, by rw [e, if_pos rfl]; exact Nat.lt_succ_self _, hs, h'⟩
    · rintro ⟨i', j', s', a, b, c⟩
      show d ∈ addD t.md s.d
      by_cases z : i = i' ∧ j' = t.pl.getD i 0
      · obtain ⟨z1, z2⟩ := z
        subst z1 z2
        rw [hs] at b
        cases b
        rw [c]
        exact List.mem_append_right _ (List.mem_singleton.mpr rfl)
      · have : d ∈ t.md := old.mpr ⟨i', j', s', by
          rw [e] at a
          split at a
          · rename_i q
            subst q
            have : j' ≠ t.pl.getD i 0 := fun y => z ⟨rfl, y⟩
            omega
          · exact a, b, c⟩
        unfold addD
        split
        · exact this
        · exact List.mem_append_left _ this
theorem total_eq (rs : List Row) (i : Nat) : (rs.map fun r => r.s.length).getD i 0 = match rs[i]? with | some r => r.s.length | none => 0 := by
  rw [List.getD_eq_getElem?_getD, List.getElem?_map]
  cases rs[i]? <;> rfl
theorem good_lt {rs : List Row} {t : Sta} {i : Nat} {s : Stp} (g : Good rs t) (hs : stepAt rs i (t.pl.getD i 0) = some s) : t.pl.sum < total rs := by
  obtain ⟨r, hr, hj⟩ := stepAt_row hs
  have hjl : t.pl.getD i 0 < r.s.length := (List.getElem?_eq_some_iff.mp hj).1
  refine sum_lt t.pl (rs.map fun r => r.s.length) (by rw [g.pl, List.length_map]) (fun j => ?_) i (by rw [total_eq, hr]; exact hjl)
  rw [total_eq]
  cases e : rs[j]? with
  | some q => exact g.le j q e
  | none =>
    rw [List.getD_eq_getElem?_getD, List.getElem?_eq_none]
    · exact Nat.zero_le _
    · rw [g.pl]; exact List.getElem?_eq_none_iff.mp e
theorem adv_sum {rs : List Row} {t : Sta} {i : Nat} {s : Stp} (g : Good rs t) (hs : stepAt rs i (t.pl.getD i 0) = some s) : (adv t i s).pl.sum = t.pl.sum + 1 := by
  obtain ⟨r, hr, _⟩ := stepAt_row hs
  exact sum_set t.pl i (by rw [g.pl]; exact (List.getElem?_eq_some_iff.mp hr).1)
/-- on the way to the end -/
structure Way (rs : List Row) (t : Sta) : Prop where
  g : Good rs t
  run : runO rs (total rs - t.pl.sum) t = lastO rs
theorem way0 (rs : List Row) : Way rs (sta0 rs) := ⟨good0 rs, by
  have : (sta0 rs).pl.sum = 0 := by
    show (rs.map fun _ => 0).sum = 0
    induction rs with
    | nil => rfl
    | cons r rs ih => simpa using ih
  rw [this]
  rfl⟩
theorem Way.adv {rs : List Row} {t : Sta} {i : Nat} {s : Stp} (h : Way rs t) (hi : ready rs t.pl t.md = some i) (hs : stepAt rs i (t.pl.getD i 0) = some s) : Way rs (adv t i s) := by
  refine ⟨good_adv h.g hs, ?_⟩
  have h1 := good_lt h.g hs
  rw [adv_sum h.g hs, ← h.run, show total rs - t.pl.sum = (total rs - (t.pl.sum + 1)) + 1 by omega, runO_step hi hs]
theorem Way.fin {rs : List Row} {t : Sta} (h : Way rs t) (hi : ready rs t.pl t.md = none) : t = lastO rs := by
  rw [← h.run, runO_fix hi]
theorem run_good {rs : List Row} : ∀ (m : Nat) (t : Sta), Good rs t → total rs - t.pl.sum ≤ m → Good rs (runO rs m t) ∧ ready rs (runO rs m t).pl (runO rs m t).md = none
  | 0, t, g, h => by
    refine ⟨g, ?_⟩
    show ready rs t.pl t.md = none
    cases e : ready rs t.pl t.md with
    | none => rfl
    | some i =>
      obtain ⟨r, s, a, b, _⟩ := ready_some e
      have := good_lt g (stepAt_of a b)
      omega
  | m + 1, t, g, h => by
    cases e : ready rs t.pl t.md with
    | none =>
      rw [runO_fix e]
      exact ⟨g, e⟩
    | some i =>
      obtain ⟨r, s, a, b, _⟩ := ready_some e
      have hs := stepAt_of a b
      rw [runO_step e hs]
      refine run_good m _ (good_adv g hs) ?_
      rw [adv_sum g hs]
      have := good_lt g hs
      omega
theorem last_good (rs : List Row) : Good rs (lastO rs) ∧ ready rs (lastO rs).pl (lastO rs).md = none := run_good _ _ (good0 rs) (Nat.sub_le _ _)
/-! ### what can be put in a line can be made -/
def Lin (rs : List Row) : Prop := ∃ L : List (Nat × Nat), (∀ i j s, stepAt rs i j = some s → (i, j) ∈ L) ∧ ∀ k i j, L[k]? = some (i, j) → (∀ j', j' < j → (i, j') ∈ L.take k) ∧
  ∀ s w, stepAt rs i j = some s → s.d = some (false, w) → ∃ i' j' s', (i', j') ∈ L.take k ∧ stepAt rs i' j' = some s' ∧ s'.d = some (true, w)
theorem lin_done {rs : List Row} (h : Lin rs) : ∀ i r, rs[i]? = some r → (lastO rs).pl.getD i 0 = r.s.length := by
  obtain ⟨L, hall, hL⟩ := h
  obtain ⟨g, hn⟩ := last_good rs
  have key : ∀ k, ∀ p ∈ L.take k, (stepAt rs p.1 p.2).isSome = true → p.2 < (lastO rs).pl.getD p.1 0 := by
    intro k
    induction k with
    | zero => intro p hp; simp at hp
    | succ k ih =>
      intro p hp hsome
      rw [List.take_add_one] at hp
      rcases List.mem_append.mp hp with h | h
      · exact ih p h hsome
      · obtain ⟨i, j⟩ := p
        have hk : L[k]? = some (i, j) := by
          cases e : L[k]? with
          | none => rw [e] at h; simp at h
          | some q => rw [e] at h; simp at h; rw [← h]
        obtain ⟨h1, h2⟩ := hL k i j hk
        obtain ⟨s, hs⟩ := Option.isSome_iff_exists.mp hsome
        obtain ⟨r, hr, hj⟩ := stepAt_row hs
        refine Nat.lt_of_not_le fun hle => ?_
        have e : (lastO rs).pl.getD i 0 = j := by
          refine Nat.le_antisymm hle (Nat.le_of_not_lt fun hlt => ?_)
          have hm := ih (i, (lastO rs).pl.getD i 0) (h1 _ hlt) (by
            have : (lastO rs).pl.getD i 0 < r.s.length := Nat.lt_trans hlt (List.getElem?_eq_some_iff.mp hj).1
            rw [stepAt_of hr (List.getElem?_eq_getElem this)]
            rfl)
          exact Nat.lt_irrefl _ hm
        have hs2 : stepAt rs i ((lastO rs).pl.getD i 0) = some s := by rw [e]; exact hs
        have hc := ready_none hn hs2
        cases ed : s.d with
        | none => rw [ed] at hc; cases hc
        | some d =>
          obtain ⟨b, w⟩ := d
          cases b with
          | true => rw [ed] at hc; cases hc
          | false =>
            rw [ed] at hc
            obtain ⟨i', j', s', a, b, c⟩ := h2 s w hs ed
            have hm := ih (i', j') a (by rw [b]; rfl)
            have : (true, w) ∈ (lastO rs).md := (g.md _).mpr ⟨i', j', s', hm, b, c⟩
            exact absurd (decide_eq_true this) (by rw [show decide ((true, w) ∈ (lastO rs).md) = false from hc]; decide)
  intro i r hr
  refine Nat.le_antisymm (g.le i r hr) (Nat.le_of_not_lt fun hlt => ?_)
  have hs := stepAt_of hr (List.getElem?_eq_getElem hlt)
  have := key L.length (i, (lastO rs).pl.getD i 0) (by rw [List.take_of_length_le (Nat.le_refl _)]; exact hall _ _ _ hs) (by rw [hs]; rfl)
  exact Nat.lt_irrefl _ this
end My
set_option Elab.async false
set_option linter.all false
set_option maxRecDepth 100000
namespace My
open PySem PySem.Spec PyProof.Rows L2 TL
local macro_rules | `(tactic| walk_at "sv") => `(tactic| repeat (first | exact sv_int | exact sv_bl | exact sv_non | exact sv_str | exact sa_nil | exact sv_vi rfl | exact sv_vs rfl | exact sv_var rfl (by assumption) | apply sa_cons | (refine sv_tup ?_ ?_) | (refine sv_lst ?_ ?_) | apply sv_add | apply sv_sub | assumption | rfl))
/-! ### right data -/
theorem fine_seq {k : Bool} {ds : List PyData} (hl : ds.length ≤ 5000) (h : ∀ d ∈ ds, fine d = true ∧ d.depth ≤ 20) : fine (seqD k ds) = true := by
  obtain ⟨a, b, c⟩ := fine_list (ds := ds) fun d hd => by
    obtain ⟨h1, h2⟩ := h d hd
    refine ⟨fine_small h1, ?_, h2⟩
    have := fine_shaped h1
    unfold SeqAt.shaped at this
    exact (Bool.and_eq_true_iff.mp this).1
  cases k with
  | true =>
    show ((decide (ds.length ≤ 5000) && smallAll ds) && (PyData.canLayAll0 ds && decide (PyData.depthAll ds + 1 ≤ 64))) = true
    rw [a, b, decide_eq_true hl, decide_eq_true (show PyData.depthAll ds + 1 ≤ 64 by omega)]
    rfl
  | false =>
    show ((decide (ds.length ≤ 5000) && smallAll ds) && (PyData.canLayAll0 ds && decide (PyData.depthAll ds + 1 ≤ 64))) = true
    rw [a, b, decide_eq_true hl, decide_eq_true (show PyData.depthAll ds + 1 ≤ 64 by omega)]
    rfl
theorem depth_seq {k : Bool} {ds : List PyData} {n : Nat} (h : ∀ d ∈ ds, d.depth ≤ n) : (seqD k ds).depth ≤ n + 1 := by
  have : PyData.depthAll ds ≤ n := by
    induction ds with
    | nil => exact Nat.zero_le _
    | cons d ds ih =>
      show max d.depth (PyData.depthAll ds) ≤ n
      have h1 := h d (List.mem_cons_self ..)
      have h2 := ih fun x hx => h x (List.mem_cons_of_mem _ hx)
      omega
  cases k with
  | true => show PyData.depthAll ds + 1 ≤ n + 1; omega
  | false => show PyData.depthAll ds + 1 ≤ n + 1; omega
theorem name_good2 {x : Str} {k : Int} (h : nameD k (.str x) = true) (hk : k ≤ 100) : GoodS x := by
  obtain ⟨a, b, c⟩ := name_inv h
  refine ⟨by omega, fun y hy => ?_⟩
  have := letter_of (a y hy)
  omega
theorem name_fine {x : Str} {k : Int} (h : nameD k (.str x) = true) (hk : k ≤ 100) : fine (.str x) = true := good_fine (name_good2 h hk)
theorem deedQ_fine {d : Bool × Str} (h : nameD 4 (.str d.2) = true) : fine (deedQ d) = true ∧ (deedQ d).depth ≤ 1 := by
  refine ⟨fine_seq (k := false) (ds := [.str (kindS d.1), .str d.2]) (by simp) fun x hx => ?_, depth_seq (k := false) (n := 0) fun x hx => ?_⟩
  · simp only [List.mem_cons, List.not_mem_nil, or_false] at hx
    rcases hx with rfl | rfl
    · refine ⟨?_, by simp [PyData.depth]⟩
      unfold kindS
      split <;> decide +kernel
    · exact ⟨name_fine h (by decide), by simp [PyData.depth]⟩
  · simp only [List.mem_cons, List.not_mem_nil, or_false] at hx
    rcases hx with rfl | rfl <;> simp [PyData.depth]
/-- what a right step is -/
theorem stp_inv {s : Stp} (h : stepD (stpP s) = true) : nameD 4 (.str s.m) = true ∧ -99 ≤ s.n ∧ s.n ≤ 99 ∧ ∀ b w, s.d = some (b, w) → nameD 4 (.str w) = true := by
  obtain ⟨m, n, dd, e, hm, h1, h2, hd⟩ := step_inv h
  have e' : PyData.tuple [.str s.m, .int s.n, deedP s.d] = .tuple [.str m, .int n, dd] := e
  simp only [PyData.tuple.injEq, List.cons.injEq, PyData.str.injEq, PyData.int.injEq, and_true] at e'
  obtain ⟨e1, e2, e3⟩ := e'
  subst e1 e2 e3
  refine ⟨hm, h1, h2, fun b w e => ?_⟩
  rw [e] at hd
  rcases hd with h | ⟨w', hw, h | h⟩
  · cases h
  · have h' : PyData.tuple [.str (kindS b), .str w] = .tuple [.str "send", .str w'] := h
    simp only [PyData.tuple.injEq, List.cons.injEq, PyData.str.injEq, and_true] at h'
    rw [h'.2]; exact hw
  · have h' : PyData.tuple [.str (kindS b), .str w] = .tuple [.str "receive", .str w'] := h
    simp only [PyData.tuple.injEq, List.cons.injEq, PyData.str.injEq, and_true] at h'
    rw [h'.2]; exact hw
theorem stp_fine {s : Stp} (h : stepD (stpP s) = true) : fine (stpP s) = true ∧ (stpP s).depth ≤ 2 := by
  obtain ⟨hm, h1, h2, hd⟩ := stp_inv h
  have hdd : fine (deedP s.d) = true ∧ (deedP s.d).depth ≤ 1 := by
    cases e : s.d with
    | none => exact ⟨by decide +kernel, by simp [deedP, PyData.depth]⟩
    | some d => exact deedQ_fine (hd d.1 d.2 e)
  refine ⟨fine_seq (k := false) (ds := [.str s.m, .int s.n, deedP s.d]) (by simp) fun x hx => ?_, depth_seq (k := false) (n := 1) (ds := [.str s.m, .int s.n, deedP s.d]) fun x hx => ?_⟩
  · simp only [List.mem_cons, List.not_mem_nil, or_false] at hx
    rcases hx with rfl | rfl | rfl
    · exact ⟨name_fine hm (by decide), by simp [PyData.depth]⟩
    · exact ⟨by rfl, by simp [PyData.depth]⟩
    · exact ⟨hdd.1, by omega⟩
  · simp only [List.mem_cons, List.not_mem_nil, or_false] at hx
    rcases hx with rfl | rfl | rfl
    · simp [PyData.depth]
    · simp [PyData.depth]
    · exact hdd.2
def fstD : PyData → PyData
  | .tuple (x :: _) => x
  | _ => .none
def rowD : PyData → Bool
  | .tuple [a, b] => nameD 6 a && (isD "list" b || isD "tuple" b)
  | _ => false
abbrev RowsX := Bool × List Row
def encR (x : RowsX) : List PyData := [rowsP x.1 x.2]
section
variable {P : Program} {w : World} {K : PySem.W.Frag} {mg : Str → Option Value} {base : Heap} {A : Top}
theorem ok_is_row (T : TopOk K mg A) : FnOk P w K mg base CX0 3 A.f_is_row A.d_is_row P_is_row (spD K rowD) := by
  have G_is_name : FnOk P w K mg base CX0 2 A.f_is_name A.d_is_name P_is_name (spD K (nameD 6)) := ok_is_name T
  refine T.F_is_row.ok sc_is_row (fun vs H Q E h => ?_) (fun cdv Ar outer s H vs Q E hr h => ?_)
  · obtain ⟨x, d, rfl, _⟩ := h
    rfl
  · obtain ⟨v, d, rfl, hv, hf, k⟩ := h
    refine ⟨_, (pss_cons (ps_if (PW.pt (pw_or (pt_not (pt_val (pe_callB call_isD (by rfl) T.b_isinstance (by decide +kernel) (pa_cons (pv 0) (pa_cons (pe_bltn (v := .ty "tuple") (by rfl) T.b_tuple (by decide +kernel) rfl) pa_nil))))) (pw_or1 (pt_cmpR op_ne (pe_callB call_len (by rfl) T.b_len (by decide +kernel) (pa_cons (pv 0) pa_nil)) pe_int (nomark _)))))
      (pss_one (ps_ret pe_bl))
      pss_nil)
      (pss_one (ps_ret (pe_and (pe_call G_is_name (hr.mono (by decide)) (by rfl) T.g_is_name T.F_is_name.kp T.a_is_name .nil pass0 (pa_cons (pe_ix ix_tup (pv 0) pe_int (fun _ _ => rfl)) pa_nil)) (pe_one (pe_callB call_isD2 (by rfl) T.b_isinstance (by decide +kernel) (pa_cons (pe_ix ix_tup (pv 0) pe_int (fun _ _ => rfl)) (pa_cons (pe_tup (pa_cons (pe_bltn (v := .ty "list") (by rfl) T.b_list (by decide +kernel) rfl) (pa_cons (pe_bltn (v := .ty "tuple") (by rfl) T.b_tuple (by decide +kernel) rfl) pa_nil))) pa_nil)))))))), ?_⟩
    cases d with
    | tuple ds =>
      obtain ⟨a, xs, rfl, sx, dx⟩ := Dp.lenT hv
      have lx := DpAll.length dx
      refine ⟨_, rfl, _, _, _, rfl, rfl, hv, _, rfl, iteF ?_⟩
      refine ⟨_, rfl, .ref a, xs.length, rfl, .inr ⟨xs, sx, rfl⟩, rfl, _, rfl, ?_⟩
      match ds, dx, lx, hf, k with
      | [dk, dm], dx, lx, hf, k =>
        cases dx with
        | @cons vk _ _ _ hk dx =>
          cases dx with
          | @cons vm _ _ _ hm dx =>
            cases dx
            refine iteF ?_
            have fk : fine dk = true := fine_get (i := 0) hf rfl
            refine ⟨_, rfl, a, _, _, vk, rfl, rfl, sx, rfl, vk, dk, rfl, hk, fk, fun H2 s2 => ⟨_, rfl, ite2 (fun e => ?_) (fun e => ?_)⟩⟩
            · refine ⟨_, rfl, a, _, _, vm, rfl, rfl, SqT.same s2 sx, rfl, by show 2 ≤ sizeLine; decide, fun t nt => ⟨vm, t, "list", "tuple", dm, rfl, upd_same, rfl, rfl, Dp.same (s2.trans (same_upd nt)) _ _ hm, ?_⟩⟩
              have e2 : rowD (.tuple [dk, dm]) = (isD "list" dm || isD "tuple" dm) := by
                show (nameD 6 dk && _) = _
                rw [e, Bool.true_and]
              rw [e2] at k
              exact k _ (s2.trans (same_upd nt))
            · have e2 : rowD (.tuple [dk, dm]) = false := by
                show (nameD 6 dk && _) = _
                rw [Bool.eq_false_iff.mpr e, Bool.false_and]
              have := k H2 s2
              rw [e2] at this
              exact this
      | [], dx, lx, hf, k =>
        rw [show xs.length = 0 from lx]
        exact iteT (k H (Same.refl _))
      | [_], dx, lx, hf, k =>
        rw [show xs.length = 1 from lx]
        exact iteT (k H (Same.refl _))
      | _ :: _ :: _ :: ds, dx, lx, hf, k =>
        rw [show xs.length = ds.length + 3 from lx]
        have hne : (!decide (V.int ((ds.length + 3 : Nat) : Int) = V.int 2)) = true := by
          rw [Bool.not_eq_true', decide_eq_false_iff_not]
          intro z
          have := V.int.inj z
          omega
        rw [hne]
        exact iteT (k H (Same.refl _))
    | dict ds => cases hv
    | _ => exact ⟨_, rfl, _, _, _, rfl, rfl, hv, _, rfl, iteT (iteT (k H (Same.refl _)))⟩
end
end My
set_option Elab.async false
set_option linter.all false
set_option maxRecDepth 100000
namespace My
open PySem PySem.Spec PyProof.Rows L2 TL
/-! ### the parts of rows -/
def itemsD : PyData → List PyData
  | .list l => l
  | .tuple l => l
  | _ => []
def innD : PyData → List PyData
  | .tuple [_, s] => itemsD s
  | _ => []
def hasD : PyData → Bool
  | .tuple [_, _, d] => !isNonD d
  | _ => false
def thirdD : PyData → PyData
  | .tuple [_, _, d] => d
  | _ => .none
theorem items_seq (k : Bool) (l : List PyData) : itemsD (seqD k l) = l := by cases k <;> rfl
theorem inn_row (r : Row) : innD (rowP r) = r.s.map stpP := items_seq r.k _
theorem deeds_out (rs : List Row) : ((rs.map rowP).flatMap fun d => ((innD d).filter hasD).map thirdD) = (deeds rs).map deedQ := by
  unfold deeds
  rw [List.flatMap_map, List.map_flatMap]
  refine congrArg (fun f => List.flatMap f rs) (funext fun r => ?_)
  rw [inn_row]
  generalize r.s = l
  induction l with
  | nil => rfl
  | cons s l ih =>
    rw [List.map_cons]
    cases e : s.d with
    | none =>
      rw [List.filter_cons_of_neg (by simp [hasD, stpP, e, deedP, isNonD]), List.filterMap_cons_none e, ih]
    | some d =>
      rw [List.filter_cons_of_pos (by simp [hasD, stpP, e, deedP, deedQ, isNonD]), List.filterMap_cons_some e, List.map_cons, List.map_cons, ih]
      simp [thirdD, stpP, e, deedP]
theorem kind_inj {a b : Bool} (h : kindS a = kindS b) : a = b := by
  cases a <;> cases b <;> first | rfl | exact absurd h (by decide +kernel)
theorem eqv_deed (a b : Bool × Str) : PyData.eqv (deedQ a) (deedQ b) = decide (a = b) := by
  obtain ⟨a1, a2⟩ := a
  obtain ⟨b1, b2⟩ := b
  show ((kindS a1 == kindS b1) && ((a2 == b2) && true)) = _
  rw [Bool.eq_iff_iff, decide_eq_true_iff, Bool.and_true, Bool.and_eq_true_iff, beq_iff_eq, beq_iff_eq]
  constructor
  · rintro ⟨h1, h2⟩
    rw [kind_inj h1, h2]
  · intro h
    cases h
    exact ⟨rfl, rfl⟩
theorem any_deed (ds : List (Bool × Str)) (d : Bool × Str) : ((ds.map deedQ).any fun z => PyData.eqv z (deedQ d)) = decide (d ∈ ds) := by
  rw [Bool.eq_iff_iff, decide_eq_true_iff, List.any_eq_true]
  constructor
  · rintro ⟨z, hz, e⟩
    obtain ⟨d', hd', rfl⟩ := List.mem_map.mp hz
    rw [eqv_deed] at e
    rw [← of_decide_eq_true e]
    exact hd'
  · intro h
    exact ⟨_, List.mem_map.mpr ⟨d, h, rfl⟩, by rw [eqv_deed]; exact decide_eq_true rfl⟩
def lackD (ds : List (Bool × Str)) (d : Bool × Str) : Bool := !d.1 && !decide ((true, d.2) ∈ ds)
def lackP (ds : List (Bool × Str)) : PyData := match ds.find? (lackD ds) with
  | some d => .str d.2
  | none => .none
/-- rows of a size that is right, their words too -/
structure Small (rs : List Row) : Prop where
  few : rs.length ≤ 1000
  len : (rs.map fun r => r.s.length).sum ≤ 5000
  word : ∀ d ∈ deeds rs, nameD 4 (.str d.2) = true
theorem sum_map_le : ∀ (l : List Nat) (k : Nat), (∀ x ∈ l, x ≤ k) → l.sum ≤ l.length * k
  | [], _, _ => by simp
  | a :: l, k, h => by
    have h1 := h a (List.mem_cons_self ..)
    have h2 := sum_map_le l k fun x hx => h x (List.mem_cons_of_mem _ hx)
    rw [List.sum_cons, List.length_cons, Nat.succ_mul]
    omega
theorem len_deeds (rs : List Row) : (deeds rs).length ≤ (rs.map fun r => r.s.length).sum := by
  unfold deeds
  induction rs with
  | nil => exact Nat.le_refl _
  | cons r rs ih =>
    rw [List.flatMap_cons, List.length_append, List.map_cons, List.sum_cons]
    have := List.length_filterMap_le (fun s : Stp => s.d) r.s
    omega
theorem deeds_fine {rs : List Row} (h : Small rs) : fine (.list ((deeds rs).map deedQ)) = true := by
  refine fine_seq (k := true) (by rw [List.length_map]; exact Nat.le_trans (len_deeds rs) h.len) fun d hd => ?_
  obtain ⟨d', hd', rfl⟩ := List.mem_map.mp hd
  obtain ⟨a, b⟩ := deedQ_fine (h.word d' hd')
  exact ⟨a, by omega⟩
section
variable {P : Program} {w : World} {K : PySem.W.Frag} {mg : Str → Option Value} {base : Heap} {A : Top}
def spDeeds (K : PySem.W.Frag) : Sp := spT K encR (fun x => (x.2.map fun r => r.s.length).sum ≤ 5000) fun x => .list ((deeds x.2).map deedQ)
theorem ok_deeds (T : TopOk K mg A) : FnOk P w K mg base CX0 1 A.f_deeds A.d_deeds P_deeds (spDeeds K) := by
  refine T.F_deeds.ok sc_deeds (fun vs H Q E h => ?_) (fun cdv Ar outer s H vs Q E hr h => ?_)
  · obtain ⟨S, x, _, h, _⟩ := h
    obtain ⟨v, rfl, _⟩ := h.one
    rfl
  · obtain ⟨S, ⟨ko, rs⟩, hL, hds, hp, k⟩ := h
    obtain ⟨v, rfl, hv⟩ := hds.one
    refine ⟨_, (pss_one (ps_ret (pe_lc2 (own := [("name", 1), ("steps", 2), ("mark", 3), ("number", 4), ("deed", 5)]) (vs1 := [3, 4, 5]) (wi1 := iAny K (tVar 2)) (g := gTup K 2 (gCons (gName 1) (gCons (gName 2) gNil))) (g1 := gTup K 3 (gCons (gName 3) (gCons (gName 4) (gCons (gName 5) gNil)))) (by rfl) sc_deeds.nd (pi_any (pv 0)) (blkOk_by (own := [("name", 1), ("steps", 2), ("mark", 3), ("number", 4), ("deed", 5)]) (N := N_deeds) (sc := defScope s_deeds) (by decide +kernel)) (by decide) (fun _ _ _ _ _ => (pg_tup rfl (pgs_cons (pg_name (i := 1) sc_deeds.nd rfl (by first | exact Or.inl rfl | exact Or.inr rfl)) (pgs_cons (pg_name (i := 2) sc_deeds.nd rfl (by first | exact Or.inl rfl | exact Or.inr rfl)) pgs_nil)))) (fun _ _ _ _ _ => pts_nil) (fun _ _ _ _ _ => (pi_any (pv 2))) (fun _ _ _ _ _ => (pg_tup rfl (pgs_cons (pg_name (i := 3) sc_deeds.nd rfl (by first | exact Or.inl rfl | exact Or.inr rfl)) (pgs_cons (pg_name (i := 4) sc_deeds.nd rfl (by first | exact Or.inl rfl | exact Or.inr rfl)) (pgs_cons (pg_name (i := 5) sc_deeds.nd rfl (by first | exact Or.inl rfl | exact Or.inr rfl)) pgs_nil))))) (fun _ _ _ _ _ => (pts_one (pt_cmpR op_notN (pv 5) pe_non (nomark _)))) (fun _ _ _ _ _ => (pv 5))))), ?_⟩
    show tRet _ _ [some v, none, none, none, none, none] H
    refine ret_sv hL (sv_is (sv_lc2 (K := K) (S := S) (si_any (k := ko) (ds := rs.map rowP) (sv_var rfl hv)) innD ?_ hasD thirdD fun d S' H' v' Q m n hd kk => ?_) (congrArg PyData.list (deeds_out rs))) k
    · rw [List.map_map]
      have e : (rs.map ((fun d => (innD d).length) ∘ rowP)) = rs.map fun r => r.s.length := List.map_congr_left fun r _ => by
        show (innD (rowP r)).length = _
        rw [inn_row, List.length_map]
      rw [e]
      exact hp
    · obtain ⟨r, hr', rfl⟩ := List.mem_map.mp m
      refine g_tup2 hd fun x y hx hy => kk [some v, some x, some y, none, none, none] rfl (by rw [inn_row]; exact si_any (k := r.k) (sv_var rfl hy)) fun e S2 H2 v2 Q2 me n2 st2 he k2 => ?_
      rw [inn_row] at me
      obtain ⟨s, hs, rfl⟩ := List.mem_map.mp me
      exact g_tup3 he fun a b c ha hb hc => k2 [some v, some x, some y, some a, some b, some c] rfl (sb_test (sv_notN (sv_var rfl hc))) fun _ => sv_var rfl hc
def spLack (K : PySem.W.Frag) : Sp := spT K encR (fun x => Small x.2) fun x => lackP (deeds x.2)
theorem ok_first_unsent (T : TopOk K mg A) : FnOk P w K mg base CX0 2 A.f_first_unsent A.d_first_unsent P_first_unsent (spLack K) := by
  have G_deeds : FnOk P w K mg base CX0 1 A.f_deeds A.d_deeds P_deeds (spDeeds K) := ok_deeds T
  refine T.F_first_unsent.ok sc_first_unsent (fun vs H Q E h => ?_) (fun cdv Ar outer s H vs Q E hr h => ?_)
  · obtain ⟨S, x, _, h, _⟩ := h
    obtain ⟨v, rfl, _⟩ := h.one
    rfl
  · obtain ⟨S, ⟨ko, rs⟩, hL, hds, hp, k⟩ := h
    obtain ⟨v, rfl, hv⟩ := hds.one
    refine ⟨_, (pss_cons (ps_set (i := 1) sc_first_unsent.nd rfl (by first | exact Or.inl rfl | exact Or.inr rfl) (pe_call G_deeds (hr.mono (by decide)) (by rfl) T.g_deeds T.F_deeds.kp T.a_deeds .nil pass0 (pa_cons (pv 0) pa_nil)))
      (pss_cons (ps_for PassesOwn.never rfl (pi_any (pv 1)) (pg_tup rfl (pgs_cons (pg_name (i := 2) sc_first_unsent.nd rfl (by first | exact Or.inl rfl | exact Or.inr rfl)) (pgs_cons (pg_name (i := 3) sc_first_unsent.nd rfl (by first | exact Or.inl rfl | exact Or.inr rfl)) pgs_nil)))
      (pss_one (ps_if (PW.pt (pw_and (pt_cmpR op_eq (pv 2) pe_str (nomark _)) (pw_and1 (pt_cmpR (L2.op_notInD (hu65 hr)) (pe_tup (pa_cons pe_str (pa_cons (pv 3) pa_nil))) (pv 1) (by rfl)))))
      (pss_one (ps_ret (pv 3)))
      pss_nil)))
      (pss_one (ps_ret pe_non)))), ?_⟩
    have hp : Small rs := hp
    refine set_sv (K := K) (S := S) hL (sv_T (enc := encR) (ko, rs) (sa_cons (sv_var rfl hv) sa_nil) rfl hp.len) fun vd H1 s1 l1 hvd => ?_
    dsimp only [List.set]
    refine seq_for (K := K) (S := S) l1 (si_l (sv_var rfl hvd)) fun H2 s2 l2 => ⟨fun i σ H3 => (∃ x2 x3, σ = [some v, some vd, x2, x3]) ∧ Same H2 H3 ∧ ∀ j d, j < i → (deeds rs)[j]? = some d → lackD (deeds rs) d = false,
      ⟨⟨_, _, rfl⟩, Same.refl _, fun j d hj => absurd hj (Nat.not_lt_zero j)⟩, fun i σ H3 _ ⟨_, s3, _⟩ => ⟨S, (Now.of l2 s3).step⟩, fun i d v' σ H3 H4 ed ⟨⟨x2, x3, e⟩, s3, hj⟩ s4 hd => ?_, fun σ H3 ⟨⟨x2, x3, e⟩, s3, hj⟩ => ?_⟩
    · subst e
      have n3 : Now S H2 S H3 := Now.of l2 s3
      have l4 := n3.live.same s4
      rw [List.getElem?_map] at ed
      cases e0 : (deeds rs)[i]? with
      | none => rw [e0] at ed; cases ed
      | some dd =>
        rw [e0] at ed
        cases ed
        refine g_tup2 (hd S n3.step) fun x y hx hy => ?_
        have hvd4 := ((hvd.same s2).same s3).same s4
        have hw := hp.word dd (List.mem_of_getElem? e0)
        refine if_sb l4 (sb_is (b' := lackD (deeds rs) dd) (sb_and (b := decide (kindS dd.1 = "receive")) (sb_test (sv_eqS (sv_var rfl hx) sv_str)) fun _ => sb_test (sv_notInD (sv_tup (sa_cons sv_str (sa_cons (sv_var rfl hy) sa_nil)) rfl) (sv_var rfl hvd4) (deedQ_fine (d := (true, dd.2)) hw).1 (deeds_fine hp))) ?_) (fun e1 H5 s5 l5 => ?_) fun e1 H5 s5 l5 => ?_
        · have e2 : decide (kindS dd.1 = "receive") = !dd.1 := by
            cases dd.1 with
            | true => exact decide_eq_false (by decide +kernel)
            | false => rfl
          rw [e2]
          exact congrArg (fun b => !dd.1 && !b) (any_deed (deeds rs) (true, dd.2))
        · refine ret_sv l5 (sv_var rfl (hy.same s5)) fun v5 H6 s6 hv6 => k _ _ (((((s1.trans s2).trans s3).trans s4).trans s5).trans s6) ?_
          have ef : (deeds rs).find? (lackD (deeds rs)) = some dd := by
            rw [List.find?_eq_some_iff_getElem]
            obtain ⟨hi, hii⟩ := List.getElem?_eq_some_iff.mp e0
            refine ⟨e1, i, hi, hii, fun j hjl => ?_⟩
            rw [hj j _ hjl (List.getElem?_eq_getElem (Nat.lt_trans hjl hi))]
            rfl
          show Ds K S H6 v5 (lackP (deeds rs))
          unfold lackP
          rw [ef]
          exact hv6
        · refine ⟨⟨_, _, rfl⟩, (s3.trans s4).trans s5, fun j d' hjl hd' => ?_⟩
          rcases Nat.lt_succ_iff_lt_or_eq.mp hjl with h | h
          · exact hj j d' h hd'
          · subst h
            rw [e0] at hd'
            cases hd'
            exact e1
    · subst e
      refine ret_sv (K := K) (l2.same s3) sv_non fun v5 H6 s6 hv6 => k _ _ (((s1.trans s2).trans s3).trans s6) ?_
      have ef : (deeds rs).find? (lackD (deeds rs)) = none := by
        rw [List.find?_eq_none]
        intro d hd
        obtain ⟨j, hjd⟩ := List.getElem?_of_mem hd
        have hjl : j < ((deeds rs).map deedQ).length := by
          rw [List.length_map]
          exact (List.getElem?_eq_some_iff.mp hjd).1
        rw [hj j d hjl hjd]
        decide
      show Ds K S H6 v5 (lackP (deeds rs))
      unfold lackP
      rw [ef]
      exact hv6
end
end My
set_option Elab.async false
set_option linter.all false
set_option maxRecDepth 100000
namespace My
open PySem PySem.Spec PyProof.Rows L2 TL
theorem enumD_inv {ds : List PyData} {i : Nat} {d : PyData} (h : (enumD ds)[i]? = some d) : ∃ e, ds[i]? = some e ∧ d = .tuple [.int (i : Nat), e] := by
  cases e : ds[i]? with
  | none =>
    have : i < (enumD ds).length := (List.getElem?_eq_some_iff.mp h).1
    rw [enumD_len] at this
    rw [List.getElem?_eq_none_iff] at e
    omega
  | some x =>
    rw [enumD_at e] at h
    exact ⟨x, rfl, (Option.some.inj h).symm⟩
theorem map_inv {α : Type} {f : α → PyData} {l : List α} {i : Nat} {d : PyData} (h : (l.map f)[i]? = some d) : ∃ x, l[i]? = some x ∧ d = f x := by
  rw [List.getElem?_map] at h
  cases e : l[i]? with
  | none => rw [e] at h; cases h
  | some x => rw [e] at h; exact ⟨x, rfl, (Option.some.inj h).symm⟩
theorem isD_seq (k : Bool) (l : List PyData) : (isD "list" (seqD k l) || isD "tuple" (seqD k l)) = true := by
  cases k <;> rfl
theorem row_fine {r : Row} (h1 : nameD 6 (.str r.n) = true) (h2 : r.s.length ≤ 1000) (h3 : ∀ s ∈ r.s, stepD (stpP s) = true) : fine (rowP r) = true ∧ (rowP r).depth ≤ 4 ∧ rowD (rowP r) = true := by
  have hs : ∀ d ∈ r.s.map stpP, fine d = true ∧ d.depth ≤ 2 := fun d hd => by
    obtain ⟨s, m, rfl⟩ := List.mem_map.mp hd
    exact stp_fine (h3 s m)
  have f2 : fine (seqD r.k (r.s.map stpP)) = true := fine_seq (by rw [List.length_map]; omega) fun d hd => ⟨(hs d hd).1, Nat.le_trans (hs d hd).2 (by decide)⟩
  have d2 : (seqD r.k (r.s.map stpP)).depth ≤ 3 := depth_seq fun d hd => (hs d hd).2
  refine ⟨fine_seq (k := false) (ds := [.str r.n, seqD r.k (r.s.map stpP)]) (by simp) fun d hd => ?_, depth_seq (k := false) (ds := [.str r.n, seqD r.k (r.s.map stpP)]) (n := 3) fun d hd => ?_, ?_⟩
  · simp only [List.mem_cons, List.not_mem_nil, or_false] at hd
    rcases hd with rfl | rfl
    · exact ⟨name_fine h1 (by decide), by simp [PyData.depth]⟩
    · exact ⟨f2, by omega⟩
  · simp only [List.mem_cons, List.not_mem_nil, or_false] at hd
    rcases hd with rfl | rfl
    · simp [PyData.depth]
    · exact d2
  · show (nameD 6 (.str r.n) && (isD "list" (seqD r.k (r.s.map stpP)) || isD "tuple" (seqD r.k (r.s.map stpP)))) = true
    rw [h1, isD_seq]
    rfl
theorem Valid.row {rs : List Row} (h : Valid rs) {r : Row} (m : r ∈ rs) : fine (rowP r) = true ∧ (rowP r).depth ≤ 4 ∧ rowD (rowP r) = true := row_fine (h.name r m) (Nat.le_trans (h.len r m) (by decide)) (h.step r m)
/-- the dict of what is made -/
def keyD (d : Bool × Str) : List Key := [.inr (kindS d.1), .inr d.2]
theorem key_inj {a b : Bool × Str} (h : keyD a = keyD b) : a = b := by
  have h' : [(Sum.inr (kindS a.1) : Key), .inr a.2] = [.inr (kindS b.1), .inr b.2] := h
  simp only [List.cons.injEq, Sum.inr.injEq, and_true] at h'
  exact Prod.ext (kind_inj h'.1) h'.2
def MdOk (H : Hp) (m : Addr) (md : List (Bool × Str)) : Prop := ∃ kvs : List (List Key × V), H m = some (.dT kvs) ∧ kvs.length ≤ md.length ∧ ∀ d, (valV kvs (keyD d)).isSome = decide (d ∈ md)
theorem MdOk.same {H H' : Hp} {m : Addr} {md : List (Bool × Str)} (h : MdOk H m md) (s : Same H H') : MdOk H' m md := by
  obtain ⟨kvs, a, b⟩ := h
  exact ⟨kvs, s _ _ a, b⟩
theorem mdok_nil {H : Hp} {m : Addr} (h : H m = some (.dT [])) : MdOk H m [] := ⟨[], h, Nat.le_refl _, fun d => by simp [valV]⟩
theorem mdok_put {H : Hp} {m : Addr} {kvs : List (List Key × V)} {md : List (Bool × Str)} {d : Bool × Str} (hl : kvs.length ≤ md.length) (h : ∀ d, (valV kvs (keyD d)).isSome = decide (d ∈ md)) : MdOk (upd H m (.dT (putK kvs (keyD d) (.bl true)))) m (md ++ [d]) := by
  refine ⟨_, upd_same, ?_, fun e => ?_⟩
  · unfold putK
    split
    · rw [List.length_map, List.length_append]; omega
    · rw [List.length_append, List.length_append]; show _ + 1 ≤ _ + 1; omega
  · rw [valV_put]
    by_cases z : e = d
    · subst z
      rw [if_pos rfl, decide_eq_true (List.mem_append_right _ (List.mem_singleton.mpr rfl))]
      rfl
    · rw [if_neg fun q => z (key_inj q), h e]
      rw [Bool.eq_iff_iff, decide_eq_true_iff, decide_eq_true_iff, List.mem_append, List.mem_singleton]
      exact ⟨.inl, fun q => q.resolve_right z⟩
section
variable {P : Program} {w : World} {K : PySem.W.Frag} {mg : Str → Option Value} {base : Heap} {A : Top}
theorem deed_at {S : Sh} {H : Hp} {v : V} {d : Bool × Str} (h : Ds K S H v (deedQ d)) : ∃ b, v = .ref b ∧ H b = some (.tup ((keyD d).map kV)) := by
  obtain ⟨a, xs, rfl, l, hs⟩ := Ds.t h
  obtain ⟨x, y, rfl, hx, hy⟩ := hs.two
  rw [hx.s, hy.s] at l
  exact ⟨a, rfl, l.2⟩
end
end My
set_option Elab.async false
set_option linter.all false
set_option maxRecDepth 100000
namespace My
open PySem PySem.Spec PyProof.Rows L2 TL
def readyV : Option Nat → V
  | none => .non
  | some i => .int (i : Nat)
def natsV (l : List Nat) : List V := l.map fun n => .int (n : Nat)
def spCan (K : PySem.W.Frag) : Sp := fun vs H Q _ => ∃ (S : Sh) (v : V) (m : Addr) (s : Stp) (md : List (Bool × Str)), vs = [v, .ref m] ∧ Live S H ∧ Ds K S H v (stpP s) ∧ MdOk H m md ∧ ∀ H', Same H H' → Q (.bl (canD md s.d)) H'
def spReady (K : PySem.W.Frag) : Sp := fun vs H Q _ => ∃ (S : Sh) (v : V) (p m : Addr) (ko : Bool) (rs : List Row) (pl : List Nat) (md : List (Bool × Str)), vs = [v, .ref p, .ref m] ∧ Live S H ∧ Ds K S H v (rowsP ko rs) ∧ H p = some (.lst (natsV pl)) ∧ pl.length = rs.length ∧ MdOk H m md ∧
  ∀ H', Same H H' → Q (readyV (ready rs pl md)) H'
section
variable {P : Program} {w : World} {K : PySem.W.Frag} {mg : Str → Option Value} {base : Heap} {A : Top}
theorem ok_can_be_made (T : TopOk K mg A) : FnOk P w K mg base CX0 1 A.f_can_be_made A.d_can_be_made P_can_be_made (spCan K) := by
  refine T.F_can_be_made.ok sc_can_be_made (fun vs H Q E h => ?_) (fun cdv Ar outer s H vs Q E hr h => ?_)
  · obtain ⟨S, v, m, s, md, rfl, _⟩ := h
    rfl
  · obtain ⟨S, v, m, st, md, rfl, hL, hv, hm, k⟩ := h
    refine ⟨_, (pss_cons (ps_set (i := 2) sc_can_be_made.nd rfl (by first | exact Or.inl rfl | exact Or.inr rfl) (pe_ix ix_tup (pv 0) pe_int (fun _ _ => rfl)))
      (pss_one (ps_ret (pe_or (pe_cmpR op_isN (pv 2) pe_non (nomark _)) (pe_or (pe_cmpR op_eq (pe_ix ix_tup (pv 2) pe_int (fun _ _ => rfl)) pe_str (nomark _)) (pe_one (pe_cmp (pc_din (hu_of hr) (pe_tup (pa_cons pe_str (pa_cons (pe_ix ix_tup (pv 2) pe_int (fun _ _ => rfl)) pa_nil))) (pv 1)) rfl))))))), ?_⟩
    show tSeq _ _ _ [some v, some (.ref m), none] H
    refine set_sv (K := K) (S := S) hL (sv_ixT (ds := [.str st.m, .int st.n, deedP st.d]) (i := ((2 : Nat) : Int)) (sv_var rfl hv) sv_int (atI_of rfl)) fun vd H1 s1 l1 hvd => ?_
    dsimp only [List.set]
    have hm1 := hm.same s1
    cases e : st.d with
    | none =>
      rw [e] at hvd k
      cases hvd
      exact ⟨_, rfl, rfl, true, rfl, iteT (k H1 s1)⟩
    | some d =>
      rw [e] at hvd k
      obtain ⟨b, rfl, hb⟩ := deed_at hvd
      refine ⟨_, rfl, rfl, false, rfl, iteF ?_⟩
      refine ⟨_, rfl, b, _, _, _, rfl, rfl, tsq hb, rfl, rfl, _, rfl, ?_⟩
      obtain ⟨kd, w'⟩ := d
      cases kd with
      | true => exact iteT (k H1 s1)
      | false =>
        have ne : decide (V.str (kindS false) = V.str "send") = false := decide_eq_false fun z => absurd (V.str.inj z) (by decide +kernel)
        show if decide (V.str (kindS false) = V.str "send") = true then _ else _
        rw [ne]
        refine iteF ?_
        refine ⟨_, rfl, b, _, _, _, rfl, rfl, tsq hb, rfl, by show 2 ≤ sizeLine; decide, fun t nt => ?_⟩
        have s2 : Same H1 (upd H1 t (.tup [.str "send", .str w'])) := same_upd nt
        obtain ⟨kvs, m1, m2, m3⟩ := hm1.same s2
        refine ⟨_, rfl, m, _, rfl, DGet.t (k := keyD (true, w')) m1 upd_same, ?_⟩
        rw [m3]
        exact k _ (s1.trans s2)
theorem ok_first_ready (T : TopOk K mg A) : FnOk P w K mg base CX0 2 A.f_first_ready A.d_first_ready P_first_ready (spReady K) := by
  have G_can_be_made : FnOk P w K mg base CX0 1 A.f_can_be_made A.d_can_be_made P_can_be_made (spCan K) := ok_can_be_made T
  refine T.F_first_ready.ok sc_first_ready (fun vs H Q E h => ?_) (fun cdv Ar outer s H vs Q E hr h => ?_)
  · obtain ⟨S, v, p, m, ko, rs, pl, md, rfl, _⟩ := h
    rfl
  · obtain ⟨S, v, p, m, ko, rs, pl, md, rfl, hL, hv, hp, hl, hm, k⟩ := h
    refine ⟨_, (pss_cons (ps_for PassesOwn.never rfl (pi_enumA (by rfl) T.b_enumerate (pa_cons (pv 0) pa_nil)) (pg_tup rfl (pgs_cons (pg_name (i := 3) sc_first_ready.nd rfl (by first | exact Or.inl rfl | exact Or.inr rfl)) (pgs_cons (pg_tup rfl (pgs_cons (pg_name (i := 4) sc_first_ready.nd rfl (by first | exact Or.inl rfl | exact Or.inr rfl)) (pgs_cons (pg_name (i := 5) sc_first_ready.nd rfl (by first | exact Or.inl rfl | exact Or.inr rfl)) pgs_nil))) pgs_nil)))
      (pss_one (ps_if (PW.pt (pw_and (pt_cmpR op_lt (pe_ix ix_seq (pv 1) (pv 3) (fun _ _ => rfl)) (pe_callB call_len (by rfl) T.b_len (by decide +kernel) (pa_cons (pv 5) pa_nil)) (nomark _)) (pw_and1 (pt_val (pe_call G_can_be_made (hr.mono (by decide)) (by rfl) T.g_can_be_made T.F_can_be_made.kp T.a_can_be_made .nil pass0 (pa_cons (pe_ix ix_seq (pv 5) (pe_ix ix_seq (pv 1) (pv 3) (fun _ _ => rfl)) (fun _ _ => rfl)) (pa_cons (pv 2) pa_nil)))))))
      (pss_one (ps_ret (pv 3)))
      pss_nil)))
      (pss_one (ps_ret pe_non))), ?_⟩
    have hv : Ds K S H v (seqD ko (rs.map rowP)) := hv
    show tSeq _ _ _ [some v, some (.ref p), some (.ref m), none, none, none] H
    refine seq_for (K := K) (S := S) hL (si_enum (k := ko) (ds := rs.map rowP) (sa_cons (sv_var rfl hv) sa_nil)) fun H2 s2 l2 => ⟨fun i σ H3 => (∃ x3 x4 x5, σ = [some v, some (.ref p), some (.ref m), x3, x4, x5]) ∧ Same H2 H3 ∧ ∀ j, j < i → readyAt rs pl md j = false,
      ⟨⟨_, _, _, rfl⟩, Same.refl _, fun j hj => absurd hj (Nat.not_lt_zero j)⟩, fun i σ H3 _ ⟨_, s3, _⟩ => ⟨S, (Now.of l2 s3).step⟩, fun i d v' σ H3 H4 ed ⟨⟨x3, x4, x5, e⟩, s3, hj⟩ s4 hd => ?_, fun σ H3 ⟨⟨x3, x4, x5, e⟩, s3, hj⟩ => ?_⟩
    · subst e
      have n3 : Now S H2 S H3 := Now.of l2 s3
      obtain ⟨e, ee, rfl⟩ := enumD_inv ed
      obtain ⟨r, er, rfl⟩ := map_inv ee
      have s04 := (s2.trans s3).trans s4
      have l4 := n3.live.same s4
      have hi : i < pl.length := by rw [hl]; exact (List.getElem?_eq_some_iff.mp er).1
      have epl : pl[i]? = some (pl.getD i 0) := by rw [List.getD_eq_getElem?_getD, List.getElem?_eq_getElem hi]; rfl
      have eV : L2.atI (natsV pl) (i : Int) = some (.int ((pl.getD i 0 : Nat) : Int)) := atI_of (by unfold natsV; rw [List.getElem?_map, epl]; rfl)
      refine g_enum2 (hd S n3.step) fun x y z hx hy hz => ?_
      have hx' := hx.i
      subst hx'
      have pl4 := s04 _ _ hp
      have hsv : SV K S (tOp (rIx K) (tVar 1) (tVar 3)) [some v, some (.ref p), some (.ref m), some (.int (i : Nat)), some y, some z] H4 (.int ((pl.getD i 0 : Nat) : Int)) := sv_ixM rfl pl4 (sv_vi rfl) eV (.int _)
      have fin : ∀ H', Same H4 H' → readyAt rs pl md i = false → (∃ x3 x4 x5, [some v, some (V.ref p), some (V.ref m), some (V.int (i : Nat)), some y, some z] = [some v, some (.ref p), some (.ref m), x3, x4, x5]) ∧ Same H2 H' ∧ ∀ j, j < i + 1 → readyAt rs pl md j = false := fun H' s' e => ⟨⟨_, _, _, rfl⟩, (s3.trans s4).trans s', fun j hjl => by
        rcases Nat.lt_succ_iff_lt_or_eq.mp hjl with h | h
        · exact hj j h
        · rw [h]; exact e⟩
      refine if_sb (b := readyAt rs pl md i) l4 (sb_is (b := decide (((pl.getD i 0 : Nat) : Int) < ((r.s.map stpP).length : Nat)) && (match r.s[pl.getD i 0]? with | some st => canD md st.d | none => false)) (sb_and (sb_test (sv_lt hsv (sv_len (k := r.k) (sv_var rfl hz)))) fun elt => ?_) ?_) (fun e1 H5 s5 l5 => ?_) fun e1 H5 s5 l5 => fin H5 s5 e1
      · have hlt : pl.getD i 0 < r.s.length := by
          have := of_decide_eq_true elt
          rw [List.length_map] at this
          omega
        rw [List.getElem?_eq_getElem hlt]
        have eS : (r.s.map stpP)[pl.getD i 0]? = some (stpP r.s[pl.getD i 0]) := by rw [List.getElem?_map, List.getElem?_eq_getElem hlt]; rfl
        have hst0 : SV K S (tOp (rIx K) (tVar 5) (tOp (rIx K) (tVar 1) (tVar 3))) [some v, some (.ref p), some (.ref m), some (.int (i : Nat)), some y, some z] H4 (stpP r.s[pl.getD i 0]) := sv_ix (k := r.k) (sv_var rfl hz) hsv (atI_of eS)
        have hm4 := hm.same s04
        refine sb_val (K := K) fun S1 H5 n5 Q5 q5 => ?_
        refine (hst0.now n5).run n5.live fun vst H6 s6 hst => ?_
        exact ⟨_, rfl, S1, vst, m, _, md, rfl, n5.live.same s6, hst, (hm4.same n5.same).same s6, fun H7 s7 => q5 _ _ (s6.trans s7) (.bl _)⟩
      · unfold readyAt stepAt
        rw [er]
        show _ = match r.s[pl.getD i 0]? with | some s => canD md s.d | none => false
        rw [List.length_map]
        cases e : r.s[pl.getD i 0]? with
        | none => exact Bool.and_false _
        | some st =>
          have := (List.getElem?_eq_some_iff.mp e).1
          rw [decide_eq_true (show ((pl.getD i 0 : Nat) : Int) < (r.s.length : Nat) by omega)]
          rfl
      · refine ret_sv (K := K) l5 (sv_vi rfl) fun v5 H6 s6 hv6 => ?_
        have ef : ready rs pl md = some i := by
          unfold ready
          rw [List.find?_eq_some_iff_getElem]
          have hi2 : i < rs.length := (List.getElem?_eq_some_iff.mp er).1
          refine ⟨e1, i, by rw [List.length_range]; exact hi2, List.getElem_range _, fun j hjl => ?_⟩
          rw [List.getElem_range, hj j hjl]
          rfl
        rw [hv6.i]
        have := k H6 ((s04.trans s5).trans s6)
        rw [ef] at this
        exact this
    · subst e
      have ef : ready rs pl md = none := by
        unfold ready
        rw [List.find?_eq_none]
        intro j hjm
        have hj2 := List.mem_range.mp hjm
        rw [hj j (by rw [enumD_len, List.length_map]; exact hj2)]
        decide
      have := k H3 (s2.trans s3)
      rw [ef] at this
      exact this
theorem natsV_set (l : List Nat) (i v : Nat) : (natsV l).set i (.int (v : Nat)) = natsV (l.set i v) := by
  unfold natsV
  rw [List.map_set]
/-- where the loop stands -/
structure Loop (K : PySem.W.Frag) (S : Sh) (H H3 : Hp) (rs : List Row) (a1 a2 a3 : Addr) (t : Sta) : Prop where
  now : Now S H (fun a => ((S a ∨ a = a1) ∨ a = a2) ∨ a = a3) H3
  way : Way rs t
  h1 : H3 a1 = some (.lst (natsV t.pl))
  h2 : MdOk H3 a2 t.md
  na : H a3 = none
  na1 : H a1 = none
  na2 : H a2 = none
  ne : a1 ≠ a2 ∧ a1 ≠ a3 ∧ a2 ≠ a3
  h3 : ∃ vs, H3 a3 = some (.lst vs) ∧ DsAll K (fun a => ((S a ∨ a = a1) ∨ a = a2) ∨ a = a3) H3 vs (t.od.map (tripP rs))
def spOrder (K : PySem.W.Frag) : Sp := spT K encR (fun x => Small x.2) fun x => orderP x.2
set_option maxHeartbeats 1000000 in
theorem ok_order_of (T : TopOk K mg A) : FnOk P w K mg base CX0 3 A.f_order_of A.d_order_of P_order_of (spOrder K) := by
  have G_first_ready : FnOk P w K mg base CX0 2 A.f_first_ready A.d_first_ready P_first_ready (spReady K) := ok_first_ready T
  refine T.F_order_of.ok sc_order_of (fun vs H Q E h => ?_) (fun cdv Ar outer s H vs Q E hr h => ?_)
  · obtain ⟨S, x, _, h, _⟩ := h
    obtain ⟨v, rfl, _⟩ := h.one
    rfl
  · obtain ⟨S, ⟨ko, rs⟩, hL, hds, hp, k⟩ := h
    obtain ⟨v, rfl, hv⟩ := hds.one
    refine ⟨_, (pss_cons (ps_setLc (i := 1) (own := [("row", 6)]) (g := gName 6) (by rfl) sc_order_of.nd rfl rfl (sw_true rfl rfl rfl (by decide +kernel)) (pi_any (pv 0)) (blkOk_by (own := [("row", 6)]) (N := N_order_of) (sc := defScope s_order_of) (by decide +kernel)) (fun _ _ _ _ _ => (pg_name (i := 6) sc_order_of.nd rfl (by first | exact Or.inl rfl | exact Or.inr rfl))) (fun _ _ _ _ _ => pts_nil) (fun _ _ _ _ _ => pe_int))
      (pss_cons (ps_set (i := 2) sc_order_of.nd rfl (by first | exact Or.inl rfl | exact Or.inr rfl) pe_dnewT)
      (pss_cons (ps_set (i := 3) sc_order_of.nd rfl (by first | exact Or.inl rfl | exact Or.inr rfl) (pe_lst pa_nil))
      (pss_cons (ps_set (i := 4) sc_order_of.nd rfl (by first | exact Or.inl rfl | exact Or.inr rfl) (pe_call G_first_ready (hr.mono (by decide)) (by rfl) T.g_first_ready T.F_first_ready.kp T.a_first_ready .nil pass0 (pa_cons (pv 0) (pa_cons (pv 1) (pa_cons (pv 2) pa_nil)))))
      (pss_cons (ps_while PassesOwn.never (pt_cmpR op_notN (pv 4) pe_non (nomark _))
      (pss_cons (ps_asg (pe_ix ix_seq (pv 0) (pv 4) (fun _ _ => rfl)) (pg_tup rfl (pgs_cons (pg_name (i := 7) sc_order_of.nd rfl (by first | exact Or.inl rfl | exact Or.inr rfl)) (pgs_cons (pg_name (i := 8) sc_order_of.nd rfl (by first | exact Or.inl rfl | exact Or.inr rfl)) pgs_nil))))
      (pss_cons (ps_set (i := 5) sc_order_of.nd rfl (by first | exact Or.inl rfl | exact Or.inr rfl) (pe_ix ix_seq (pv 8) (pe_ix ix_seq (pv 1) (pv 4) (fun _ _ => rfl)) (fun _ _ => rfl)))
      (pss_cons (ps_expr (pe_bm PySem.F.plainAttrs_list PySem.F.slot_list_append PySem.F.type_list_append mt_append (pv 3) (pa_cons (pe_tup (pa_cons (pv 7) (pa_cons (pe_ix ix_seq (pv 1) (pv 4) (fun _ _ => rfl)) (pa_cons (pv 5) pa_nil)))) pa_nil)))
      (pss_cons (ps_asg (pe_op op_add (pe_ix ix_seq (pv 1) (pv 4) (fun _ _ => rfl)) pe_int) (pg_sub (pv 1) (pv 4) set_list))
      (pss_cons (ps_if (pt_cmpR op_notN (pe_ix ix_seq (pv 5) pe_int (fun _ _ => rfl)) pe_non (nomark _))
      (pss_one (ps_dput (hu_of hr) (pv 2) (pe_ix ix_seq (pv 5) pe_int (fun _ _ => rfl)) pe_bl rfl))
      pss_nil)
      (pss_one (ps_set (i := 4) sc_order_of.nd rfl (by first | exact Or.inl rfl | exact Or.inr rfl) (pe_call G_first_ready (hr.mono (by decide)) (by rfl) T.g_first_ready T.F_first_ready.kp T.a_first_ready .nil pass0 (pa_cons (pv 0) (pa_cons (pv 1) (pa_cons (pv 2) pa_nil))))))))))))
      (pss_one (ps_ret (pv 3)))))))), ?_⟩
    have hp : Small rs := hp
    have hv : Ds K S H v (seqD ko (rs.map rowP)) := hv
    show tSeq _ _ _ [some v, none, none, none, none, none, none, none, none] H
    have hsn : SN K S (tLc (iAny K (tVar 0)) (gName 6) tYes (tC (.int 0)) [6]) [some v, none, none, none, none, none, none, none, none] H (((rs.map fun _ => 0 : List Nat)).map fun n => PyData.int (n : Nat)) := SN.is (sn_lcM (si_any (k := ko) (ds := rs.map rowP) (sv_var rfl hv)) (by rw [List.length_map]; have := hp.few; omega) (fun _ => .int 0) fun d S' H' v' Q m n hd kk => kk [some v, none, none, none, none, none, some v', none, none] rfl sv_int) (by rw [List.map_map, List.map_map]; rfl)
    refine set_sn (K := K) (S := S) hL hsn fun a1 xs H1 s1 na1 ha1 hxs => ?_
    have exs : xs = natsV (rs.map fun _ => 0) := by
      unfold natsV
      have := DsAll.ints (ys := (rs.map fun _ => 0 : List Nat).map fun n => ((n : Nat) : Int)) (by rw [List.map_map]; exact hxs)
      rw [this, List.map_map]
      rfl
    subst exs
    have n1 : Now S H (fun a => S a ∨ a = a1) H1 := Now.more hL s1 na1 ha1
    intro a2 na2
    have n2 := n1.trans (Now.add (o := .dT []) n1.live na2)
    have hm2 : MdOk (upd H1 a2 (.dT [])) a2 [] := mdok_nil upd_same
    have ha12 : (upd H1 a2 (.dT [])) a1 = some (.lst (natsV (rs.map fun _ => 0))) := same_upd na2 _ _ ha1
    have ne12 : a1 ≠ a2 := ne_of_none ha1 na2
    have na02 : H a2 = none := s1.free na2
    have ex2 : ∃ o, (upd H1 a2 (.dT [])) a2 = some o := ⟨_, upd_same⟩
    generalize upd H1 a2 (.dT []) = H2 at n2 hm2 ha12 ex2
    refine ⟨Nat.zero_le _, fun a3 na3 => ?_⟩
    have n3 := n2.trans (Now.add (o := .lst []) n2.live na3)
    have s3 : Same H2 (upd H2 a3 (.lst [])) := same_upd na3
    have L0 : Loop K S H (upd H2 a3 (.lst [])) rs a1 a2 a3 (sta0 rs) := ⟨n3, way0 rs, s3 _ _ ha12, hm2.same s3, n2.same.free na3, na1, na02, ⟨ne12, ne_of_none ha12 na3, by obtain ⟨o, e⟩ := ex2; exact ne_of_none e na3⟩, [], upd_same, .nil⟩
    generalize upd H2 a3 (.lst []) = H3 at L0
    clear n3 s3 n2 n1 hm2 ha12
    have tail : ∀ (σ : L2.St) (t : Sta) (H4 : Hp) (Q2 : VK), (∃ x4 x5 x6 x7 x8, σ = [some v, some (.ref a1), some (.ref a2), some (.ref a3), x4, x5, x6, x7, x8]) → Loop K S H H4 rs a1 a2 a3 t → (∀ H5, Loop K S H H5 rs a1 a2 a3 t → Q2 (readyV (ready rs t.pl t.md)) H5) →
        (tCall (spReady K) [] E0 (tCons (tVar 0) (tCons (tVar 1) (tCons (tVar 2) tNil)))) σ H4 Q2 := by
      rintro σ t H4 Q2 ⟨x4, x5, x6, x7, x8, rfl⟩ L q
      obtain ⟨vs3, e3, d3⟩ := L.h3
      refine ⟨_, rfl, _, rfl, _, rfl, _, v, a1, a2, ko, rs, t.pl, t.md, rfl, L.now.live, hv.now L.now, L.h1, L.way.g.pl, L.h2, fun H5 s5 => q H5 ⟨L.now.then s5, L.way, s5 _ _ L.h1, L.h2.same s5, L.na, L.na1, L.na2, L.ne, vs3, s5 _ _ e3, d3.same s5⟩⟩
    refine tail _ (sta0 rs) H3 _ ⟨_, _, _, _, _, rfl⟩ L0 fun H4 L4 => ?_
    show tSeq _ _ _ [some v, some (.ref a1), some (.ref a2), some (.ref a3), some (readyV (ready rs (sta0 rs).pl (sta0 rs).md)), none, none, none, none] H4
    refine ⟨fun m σ H5 => ∃ t x5 x6 x7 x8, σ = [some v, some (.ref a1), some (.ref a2), some (.ref a3), some (readyV (ready rs t.pl t.md)), x5, x6, x7, x8] ∧ m = total rs - t.pl.sum ∧ Loop K S H H5 rs a1 a2 a3 t, ⟨_, sta0 rs, _, _, _, _, rfl, rfl, L4⟩, ?_⟩
    rintro m σ H5 ⟨t, x5, x6, x7, x8, rfl, rfl, L⟩
    cases er : ready rs t.pl t.md with
    | none =>
      refine ⟨_, rfl, rfl, _, rfl, iteF ?_⟩
      have et := L.way.fin er
      obtain ⟨vs3, e3, d3⟩ := L.h3
      exact ⟨_, rfl, k _ _ L.now.same (.lst ⟨hL.ne L.na, e3⟩ (DsAll.less (fun b hb => Or.inl (Or.inl (Or.inl hb))) (by rw [← et]; exact d3)))⟩
    | some i =>
      obtain ⟨r, st, er1, er2, ec⟩ := ready_some er
      have hs := stepAt_of er1 er2
      have hi : i < t.pl.length := by rw [L.way.g.pl]; exact (List.getElem?_eq_some_iff.mp er1).1
      have epl : t.pl[i]? = some (t.pl.getD i 0) := by rw [List.getD_eq_getElem?_getD, List.getElem?_eq_getElem hi]; rfl
      have eV : L2.atI (natsV t.pl) (i : Int) = some (.int ((t.pl.getD i 0 : Nat) : Int)) := atI_of (by unfold natsV; rw [List.getElem?_map, epl]; rfl)
      have eS : (r.s.map stpP)[t.pl.getD i 0]? = some (stpP st) := by rw [List.getElem?_map, er2]; rfl
      have eR : (rs.map rowP)[i]? = some (rowP r) := by rw [List.getElem?_map, er1]; rfl
      have hlt := good_lt L.way.g hs
      refine ⟨_, rfl, rfl, _, rfl, iteT ⟨fun σ' H' => ∃ x5 x6 x7 x8, σ' = [some v, some (.ref a1), some (.ref a2), some (.ref a3), some (readyV (ready rs (adv t i st).pl (adv t i st).md)), x5, x6, x7, x8] ∧ Loop K S H H' rs a1 a2 a3 (adv t i st),
        fun σ' H' ⟨y5, y6, y7, y8, e, L'⟩ => ⟨_, by rw [adv_sum L.way.g hs]; omega, adv t i st, y5, y6, y7, y8, e, rfl, L'⟩, ?_⟩⟩
      have l5 := L.now.live
      obtain ⟨vs3, e3, d3⟩ := L.h3
      refine asg_sv (K := K) (S := fun a => ((S a ∨ a = a1) ∨ a = a2) ∨ a = a3) l5 (sv_ix (k := ko) (i := ((i : Nat) : Int)) (sv_var rfl (hv.now L.now)) (sv_vi rfl) (atI_of eR)) fun vr H6 s6 l6 hvr => ?_
      refine g_tup2 hvr fun x y hx hy => ?_
      have hix : SV K (fun a => ((S a ∨ a = a1) ∨ a = a2) ∨ a = a3) (tOp (rIx K) (tVar 1) (tVar 4)) [some v, some (.ref a1), some (.ref a2), some (.ref a3), some (.int (i : Nat)), x5, x6, some x, some y] H6 (.int ((t.pl.getD i 0 : Nat) : Int)) := sv_ixM rfl (s6 _ _ L.h1) (sv_vi rfl) eV (.int _)
      show tSeq _ _ _ [some v, some (.ref a1), some (.ref a2), some (.ref a3), some (.int (i : Nat)), x5, x6, some x, some y] H6
      refine set_sv (K := K) l6 (sv_ix (k := r.k) (sv_var rfl hy) hix (atI_of eS)) fun vst H7 s7 l7 hvst => ?_
      have hx7 := hx.same s7
      have e37 := s7 _ _ (s6 _ _ e3)
      have d37 := (d3.same s6).same s7
      have h17 := s7 _ _ (s6 _ _ L.h1)
      have h27 := (L.h2.same s6).same s7
      have n7 := (L.now.then s6).then s7
      clear hix
      have hix : SV K (fun a => ((S a ∨ a = a1) ∨ a = a2) ∨ a = a3) (tOp (rIx K) (tVar 1) (tVar 4)) [some v, some (.ref a1), some (.ref a2), some (.ref a3), some (.int (i : Nat)), some vst, x6, some x, some y] H7 (.int ((t.pl.getD i 0 : Nat) : Int)) := sv_ixM rfl h17 (sv_vi rfl) eV (.int _)
      show tSeq _ _ _ [some v, some (.ref a1), some (.ref a2), some (.ref a3), some (.int (i : Nat)), some vst, x6, some x, some y] H7
      refine ⟨_, rfl, .inl ⟨rfl, _, lsq e37⟩, ?_⟩
      have hsa : SA K (fun a => ((S a ∨ a = a1) ∨ a = a2) ∨ a = a3) (tCons (tTup (tCons (tVar 7) (tCons (tOp (rIx K) (tVar 1) (tVar 4)) (tCons (tVar 5) tNil)))) tNil) [some v, some (.ref a1), some (.ref a2), some (.ref a3), some (.int (i : Nat)), some vst, x6, some x, some y] H7 [.tuple [.str r.n, .int ((t.pl.getD i 0 : Nat) : Int), stpP st]] := sa_cons (sv_tup (sa_cons (sv_var rfl hx7) (sa_cons hix (sa_cons (sv_var rfl hvst) sa_nil))) rfl) sa_nil
      refine hsa.run l7 fun vs8 H8 s8 h8 => ?_
      obtain ⟨v8, rfl, hv8⟩ := h8.one
      have l3 := d37.length
      have hod : t.od.length < 5000 := by rw [L.way.g.odl]; have : total rs ≤ 5000 := hp.len; omega
      refine ⟨a3, vs3, v8, rfl, rfl, s8 _ _ e37, szl (by rw [l3, List.length_map]; omega), ?_⟩
      have n8 := n7.then s8
      obtain ⟨ne12, ne13, ne23⟩ := L.ne
      have n9 := n8.put (p := a3) (o := .lst (vs3 ++ [v8])) (.inr rfl) (hL.ne L.na)
      have h19 : (upd H8 a3 (.lst (vs3 ++ [v8]))) a1 = some (.lst (natsV t.pl)) := by rw [upd_ne ne13]; exact s8 _ _ h17
      have h29 : MdOk (upd H8 a3 (.lst (vs3 ++ [v8]))) a2 t.md := by
        obtain ⟨kvs, b1, b2⟩ := h27.same s8
        exact ⟨kvs, by rw [upd_ne ne23]; exact b1, b2⟩
      have e39 : (upd H8 a3 (.lst (vs3 ++ [v8]))) a3 = some (.lst (vs3 ++ [v8])) := upd_same
      have d39 : DsAll K (fun a => ((S a ∨ a = a1) ∨ a = a2) ∨ a = a3) (upd H8 a3 (.lst (vs3 ++ [v8]))) (vs3 ++ [v8]) ((adv t i st).od.map (tripP rs)) := by
        have e : (adv t i st).od.map (tripP rs) = t.od.map (tripP rs) ++ [.tuple [.str r.n, .int ((t.pl.getD i 0 : Nat) : Int), stpP st]] := by
          show (t.od ++ [(i, t.pl.getD i 0)]).map (tripP rs) = _
          rw [List.map_append]
          congr 1
          show [tripP rs (i, t.pl.getD i 0)] = _
          unfold tripP
          rw [er1]
          dsimp only
          rw [er2]
        rw [e]
        exact ((d37.same s8).app (.cons hv8 .nil)).byX (XS.upd (.inr rfl))
      have hvst9 := (hvst.same s8).byX (XS.upd (S := fun a => ((S a ∨ a = a1) ∨ a = a2) ∨ a = a3) (p := a3) (o := .lst (vs3 ++ [v8])) (.inr rfl))
      generalize upd H8 a3 (.lst (vs3 ++ [v8])) = H9 at n9 h19 h29 e39 d39 hvst9
      show tSeq _ _ _ [some v, some (.ref a1), some (.ref a2), some (.ref a3), some (.int (i : Nat)), some vst, x6, some x, some y] H9
      refine asg_sv (K := K) (S := fun a => ((S a ∨ a = a1) ∨ a = a2) ∨ a = a3) n9.live (sv_add (sv_ixM (i := 1) rfl h19 (sv_vi rfl) eV (.int _)) sv_int) fun vv H10 s10 l10 hvv => ?_
      rw [hvv.i]
      refine ⟨_, rfl, _, rfl, a1, natsV t.pl, ((i : Nat) : Int), i, rfl, rfl, s10 _ _ h19, ?_, ?_⟩
      · have hl : (natsV t.pl).length = t.pl.length := by unfold natsV; rw [List.length_map]
        unfold ixN
        rw [if_pos (by omega), hl]
        simp [hi]
      rw [show ((t.pl.getD i 0 : Nat) : Int) + 1 = ((t.pl.getD i 0 + 1 : Nat) : Int) by omega, natsV_set]
      have n11 := (n9.then s10).put (p := a1) (o := .lst (natsV (t.pl.set i (t.pl.getD i 0 + 1)))) (.inl (.inl (.inr rfl))) (hL.ne L.na1)
      have h111 : (upd H10 a1 (.lst (natsV (t.pl.set i (t.pl.getD i 0 + 1))))) a1 = some (.lst (natsV (adv t i st).pl)) := upd_same
      have h211 : MdOk (upd H10 a1 (.lst (natsV (t.pl.set i (t.pl.getD i 0 + 1))))) a2 t.md := by
        obtain ⟨kvs, b1, b2⟩ := h29.same s10
        exact ⟨kvs, by rw [upd_ne ne12.symm]; exact b1, b2⟩
      have e311 : (upd H10 a1 (.lst (natsV (t.pl.set i (t.pl.getD i 0 + 1))))) a3 = some (.lst (vs3 ++ [v8])) := by rw [upd_ne ne13.symm]; exact s10 _ _ e39
      have d311 := (d39.same s10).byX (XS.upd (S := fun a => ((S a ∨ a = a1) ∨ a = a2) ∨ a = a3) (p := a1) (o := .lst (natsV (t.pl.set i (t.pl.getD i 0 + 1)))) (.inl (.inl (.inr rfl))))
      have hvst11 := (hvst9.same s10).byX (XS.upd (S := fun a => ((S a ∨ a = a1) ∨ a = a2) ∨ a = a3) (p := a1) (o := .lst (natsV (t.pl.set i (t.pl.getD i 0 + 1)))) (.inl (.inl (.inr rfl))))
      generalize upd H10 a1 (.lst (natsV (t.pl.set i (t.pl.getD i 0 + 1)))) = H11 at n11 h111 h211 e311 d311 hvst11
      have hdd : ∀ H12, Same H11 H12 → SV K (fun a => ((S a ∨ a = a1) ∨ a = a2) ∨ a = a3) (tOp (rIx K) (tVar 5) (tC (.int 2))) [some v, some (.ref a1), some (.ref a2), some (.ref a3), some (.int (i : Nat)), some vst, x6, some x, some y] H12 (deedP st.d) := fun H12 s12 => sv_ixA (ds := [.str st.m, .int st.n, deedP st.d]) (i := ((2 : Nat) : Int)) (sv_var rfl (hvst11.same s12)) sv_int (atI_of rfl)
      refine seq_if (S := fun a => ((S a ∨ a = a1) ∨ a = a2) ∨ a = a3) n11.live (sb_test (sv_notN (hdd H11 (Same.refl _)))) (fun eb H12 s12 l12 => ?_) fun eb H12 s12 l12 => ?_
      · cases ed : st.d with
        | none => rw [ed] at eb; cases eb
        | some d =>
          refine ⟨_, rfl, (hdd H12 s12).run l12 fun vd H13 s13 hvd => ?_⟩
          rw [ed] at hvd
          obtain ⟨b, rfl, hb⟩ := deed_at hvd
          obtain ⟨kvs, b1, b2, b3⟩ := (h211.same s12).same s13
          have hmd : t.md.length ≤ 5000 := by
            have h1 := L.way.g.mdl
            have h2 : total rs ≤ 5000 := hp.len
            omega
          refine ⟨a2, _, rfl, DPut.t b1 hb (szl (by omega)), ?_⟩
          refine tail _ (adv t i st) _ _ ⟨_, _, _, _, _, rfl⟩ ⟨((n11.then s12).then s13).put (.inl (.inr rfl)) (hL.ne L.na2), L.way.adv er hs, ?_, ?_, L.na, L.na1, L.na2, L.ne, vs3 ++ [v8], ?_, ?_⟩ fun H14 L14 => ⟨_, _, _, _, rfl, L14⟩
          · rw [upd_ne ne12]; exact s13 _ _ (s12 _ _ h111)
          · show MdOk _ a2 (addD t.md st.d)
            rw [ed]
            exact mdok_put b2 b3
          · rw [upd_ne ne23.symm]; exact s13 _ _ (s12 _ _ e311)
          · exact ((d311.same s12).same s13).byX (XS.upd (.inl (.inr rfl)))
      · cases ed : st.d with
        | some d => rw [ed] at eb; cases eb
        | none =>
          refine tail _ (adv t i st) _ _ ⟨_, _, _, _, _, rfl⟩ ⟨n11.then s12, L.way.adv er hs, s12 _ _ h111, ?_, L.na, L.na1, L.na2, L.ne, vs3 ++ [v8], s12 _ _ e311, d311.same s12⟩ fun H14 L14 => ⟨_, _, _, _, rfl, L14⟩
          show MdOk _ a2 (addD t.md st.d)
          rw [ed]
          exact h211.same s12
end
end My
set_option Elab.async false
set_option linter.all false
set_option maxRecDepth 100000
namespace My
open PySem PySem.Spec PyProof.Rows L2 TL
/-! ### what a constructor says of rows: the first fault, or none -/
abbrev Fault : Type := Str × List PyData
/-- the first index, from i on, at which p is true -/
def firstAt {α : Type} (p : α → Bool) : List α → Nat → Option Nat
  | [], _ => none
  | x :: l, i => if p x then some i else firstAt p l (i + 1)
/-- the first that stands before -/
def dupOf {α : Type} [DecidableEq α] : List α → List α → Option α
  | _, [] => none
  | seen, x :: l => if x ∈ seen then some x else dupOf (seen ++ [x]) l
theorem firstAt_cons {α : Type} {p : α → Bool} {x : α} {l : List α} {i : Nat} : firstAt p (x :: l) i = if p x then some i else firstAt p l (i + 1) := rfl
theorem dup_cons {α : Type} [DecidableEq α] {x : α} {l seen : List α} : dupOf seen (x :: l) = if x ∈ seen then some x else dupOf (seen ++ [x]) l := rfl
theorem drop_at {α : Type} {l : List α} {i : Nat} {x : α} (h : l[i]? = some x) : l.drop i = x :: l.drop (i + 1) := by
  obtain ⟨hi, e⟩ := List.getElem?_eq_some_iff.mp h
  rw [List.drop_eq_getElem_cons hi, e]
theorem drop_end {α : Type} {l : List α} : l.drop l.length = [] := List.drop_length
theorem take_at {α : Type} {l : List α} {i : Nat} {x : α} (h : l[i]? = some x) : l.take (i + 1) = l.take i ++ [x] := by
  rw [List.take_add_one, h]
  rfl
theorem firstAt_none {α : Type} {p : α → Bool} : ∀ {l : List α} {i : Nat}, firstAt p l i = none → ∀ x ∈ l, p x = false
  | [], _, _, _, m => by cases m
  | y :: l, i, h, x, m => by
    unfold firstAt at h
    split at h
    · cases h
    · rename_i hp
      rcases List.mem_cons.mp m with e | m
      · rw [e]; simpa using hp
      · exact firstAt_none h x m
theorem dup_none {α : Type} [DecidableEq α] : ∀ {l seen : List α}, dupOf seen l = none → seen.Nodup → (seen ++ l).Nodup
  | [], seen, _, n => by rw [List.append_nil]; exact n
  | x :: l, seen, h, n => by
    unfold dupOf at h
    split at h
    · cases h
    · rename_i hx
      have := dup_none h (by
        rw [List.nodup_append]
        exact ⟨n, List.nodup_cons.mpr ⟨by simp, List.nodup_nil⟩, fun a ha b hb e => hx (by rw [List.mem_singleton.mp hb] at e; rw [← e]; exact ha)⟩)
      rw [List.append_assoc] at this
      exact this
def nmD (d : PyData) : Str := match fstD d with
  | .str x => x
  | _ => ""
/-- rows, names -/
def rowsV (ds : List PyData) : Option Fault := if 6 < ds.length then some ("TooMany", [.str "processes", .int 6]) else
  match firstAt (fun d => !rowD d) ds 0 with
  | some i => some ("InvalidRow", [.int (i : Nat)])
  | none => match dupOf [] (ds.map nmD) with
    | some x => some ("DuplicateName", [.str x])
    | none => none
/-- the steps, one row after another -/
def stepsV : List PyData → Option Fault
  | [] => none
  | d :: ds => match firstAt (fun s => !stepD s) (innD d) 0 with
    | some j => some ("InvalidStep", [.str (nmD d), .int (j : Nat)])
    | none => stepsV ds
theorem stepsV_cons {d : PyData} {ds : List PyData} : stepsV (d :: ds) = match firstAt (fun s => !stepD s) (innD d) 0 with
    | some j => some (("InvalidStep" : Str), [PyData.str (nmD d), PyData.int (j : Nat)])
    | none => stepsV ds := rfl
def longV (ds : List PyData) : Option Fault := if ds.any fun d => decide (20 < (innD d).length) then some ("TooMany", [.str "steps", .int 20]) else none
def stpOf : PyData → Stp
  | .tuple [.str m, .int n, .tuple [.str k, .str w]] => ⟨m, n, some (decide (k = "send"), w)⟩
  | .tuple [.str m, .int n, _] => ⟨m, n, none⟩
  | _ => ⟨"", 0, none⟩
def rowOf (d : PyData) : Row := ⟨nmD d, match d with
  | .tuple [_, .list _] => true
  | _ => false, (innD d).map stpOf⟩
/-- the messages -/
def messV (rs : List Row) : Option Fault := match dupOf [] (deeds rs) with
  | some d => some ("DuplicateMessage", [.str d.2])
  | none => match (deeds rs).find? (lackD (deeds rs)) with
    | some d => some ("Unsent", [.str d.2])
    | none => none
/-- the first process whose steps can't all be made -/
def lateV (rs : List Row) : Nat → List Row → Option Fault
  | _, [] => none
  | i, r :: l => if (lastO rs).pl.getD i 0 < r.s.length then some ("Ring", [.str r.n]) else lateV rs (i + 1) l
theorem lateV_cons {rs l : List Row} {r : Row} {i : Nat} : lateV rs i (r :: l) = if (lastO rs).pl.getD i 0 < r.s.length then some (("Ring" : Str), [PyData.str r.n]) else lateV rs (i + 1) l := rfl
def orV (a : Option Fault) (b : Option Fault) : Option Fault := match a with
  | some e => some e
  | none => b
def logV (rs : List Row) : Option Fault := orV (messV rs) (lateV rs 0 rs)
def verdict (ds : List PyData) : Option Fault := orV (rowsV ds) (orV (longV ds) (orV (stepsV ds) (logV (ds.map rowOf))))
theorem orV_none {a b : Option Fault} (h : orV a b = none) : a = none ∧ b = none := by
  cases a with
  | none => exact ⟨rfl, h⟩
  | some e => cases h
theorem rowsV_none {ds : List PyData} (h : rowsV ds = none) : ds.length ≤ 6 ∧ (∀ d ∈ ds, rowD d = true) ∧ (ds.map nmD).Nodup := by
  unfold rowsV at h
  split at h
  · cases h
  rename_i h1
  split at h
  · cases h
  rename_i h2
  split at h
  · cases h
  rename_i h3
  refine ⟨by omega, fun d m => by simpa using firstAt_none h2 d m, ?_⟩
  have := dup_none h3 List.nodup_nil
  rwa [List.nil_append] at this
theorem stepsV_none : ∀ {ds : List PyData}, stepsV ds = none → ∀ d ∈ ds, ∀ s ∈ innD d, stepD s = true
  | [], _, _, m => by cases m
  | d :: ds, h, e, m => by
    unfold stepsV at h
    split at h
    · cases h
    rename_i h1
    rcases List.mem_cons.mp m with rfl | m
    · exact fun s ms => by simpa using firstAt_none h1 s ms
    · exact stepsV_none h e m
theorem longV_none {ds : List PyData} (h : longV ds = none) : ∀ d ∈ ds, (innD d).length ≤ 20 := fun d m => by
  unfold longV at h
  split at h
  · cases h
  rename_i h1
  have h1 : (ds.any fun d => decide (20 < (innD d).length)) = false := by simpa using h1
  have := List.any_eq_false.mp h1 d m
  have : ¬ 20 < (innD d).length := by simpa using this
  omega
theorem eqv_kind {k : PyData} (h : ([PyData.str "send", PyData.str "receive"].any fun z => PyData.eqv z k) = true) : k = .str "send" ∨ k = .str "receive" := by
  simp only [List.any_cons, List.any_nil, Bool.or_false, Bool.or_eq_true] at h
  cases k with
  | str x =>
    rcases h with h | h
    · exact .inl (by rw [eq_of_beq (show ((("send" : Str)) == x) = true from h)])
    · exact .inr (by rw [eq_of_beq (show ((("receive" : Str)) == x) = true from h)])
  | _ => simp [PyData.eqv] at h
theorem nameIs {m : Int} {d : PyData} (h : nameD m d = true) : ∃ x, d = .str x := by
  cases d with
  | str x => exact ⟨x, rfl⟩
  | _ => cases h
theorem stp_back {s : PyData} (h : stepD s = true) : stpP (stpOf s) = s := by
  unfold stepD at h
  split at h
  · rename_i m n d
    obtain ⟨h1, h⟩ := Bool.and_eq_true_iff.mp h
    obtain ⟨h2, h3⟩ := Bool.and_eq_true_iff.mp h
    obtain ⟨x, rfl⟩ := nameIs h1
    cases n with
    | int i =>
      unfold deedD at h3
      split at h3
      · rfl
      · rename_i k w
        obtain ⟨h4, h5⟩ := Bool.and_eq_true_iff.mp h3
        obtain ⟨y, rfl⟩ := nameIs h5
        rcases eqv_kind h4 with rfl | rfl
        · rfl
        · rfl
      · cases h3
    | _ => cases h2
  · cases h
theorem row_back {d : PyData} (h : rowD d = true) (hs : ∀ s ∈ innD d, stepD s = true) : rowP (rowOf d) = d := by
  unfold rowD at h
  split at h
  · rename_i a b
    obtain ⟨h1, h2⟩ := Bool.and_eq_true_iff.mp h
    obtain ⟨x, rfl⟩ := nameIs h1
    have key : ∀ l : List PyData, (∀ s ∈ l, stepD s = true) → (l.map stpOf).map stpP = l := fun l hl => by
      rw [List.map_map]
      have : l.map (stpP ∘ stpOf) = l.map id := List.map_congr_left fun s m => stp_back (hl s m)
      rw [this, List.map_id]
    cases b with
    | list l =>
      show PyData.tuple [.str x, .list ((l.map stpOf).map stpP)] = _
      rw [key l hs]
    | tuple l =>
      show PyData.tuple [.str x, .tuple ((l.map stpOf).map stpP)] = _
      rw [key l hs]
    | _ => cases h2
  · cases h
theorem lateV_none {rs : List Row} : ∀ {l : List Row} {i : Nat}, lateV rs i l = none → ∀ j r, l[j]? = some r → r.s.length ≤ (lastO rs).pl.getD (i + j) 0
  | [], _, _, j, r, e => by cases e
  | x :: l, i, h, j, r, e => by
    unfold lateV at h
    split at h
    · cases h
    rename_i h1
    cases j with
    | zero =>
      cases e
      rw [Nat.add_zero]
      omega
    | succ j =>
      have := lateV_none h j r e
      rw [show i + 1 + j = i + (j + 1) by omega] at this
      exact this
theorem row_name {d : PyData} (h : rowD d = true) : nameD 6 (.str (nmD d)) = true := by
  unfold rowD at h
  split at h
  · rename_i a b
    obtain ⟨h1, _⟩ := Bool.and_eq_true_iff.mp h
    obtain ⟨x, rfl⟩ := nameIs h1
    exact h1
  · cases h
theorem small_of {rs : List Row} (few : rs.length ≤ 6) (len : ∀ r ∈ rs, r.s.length ≤ 20) (name : ∀ r ∈ rs, nameD 6 (.str r.n) = true) (step : ∀ r ∈ rs, ∀ s ∈ r.s, stepD (stpP s) = true) : Small rs := by
  refine ⟨by omega, ?_, fun d hd => ?_⟩
  · have := sum_map_le (rs.map fun r => r.s.length) 20 fun x hx => by
      obtain ⟨r, hr, rfl⟩ := List.mem_map.mp hx
      exact len r hr
    rw [List.length_map] at this
    omega
  · obtain ⟨i, j, s, hs, e⟩ := mem_deeds.mp hd
    obtain ⟨r, h1, h2⟩ := stepAt_row hs
    exact (stp_inv (step r (List.mem_of_getElem? h1) s (List.mem_of_getElem? h2))).2.2.2 d.1 d.2 e
/-- rows without a fault are a log -/
theorem verdict_none {ds : List PyData} (h : verdict ds = none) : Valid (ds.map rowOf) ∧ (ds.map rowOf).map rowP = ds := by
  obtain ⟨h1, h⟩ := orV_none h
  obtain ⟨h2, h⟩ := orV_none h
  obtain ⟨h3, h4⟩ := orV_none h
  obtain ⟨h5, h6⟩ := orV_none h4
  obtain ⟨few, isr, nd⟩ := rowsV_none h1
  have hl := longV_none h2
  have hs := stepsV_none h3
  have back : (ds.map rowOf).map rowP = ds := by
    rw [List.map_map]
    have : ds.map (rowP ∘ rowOf) = ds.map id := List.map_congr_left fun d m => row_back (isr d m) (hs d m)
    rw [this, List.map_id]
  unfold messV at h5
  split at h5
  · cases h5
  rename_i hd
  split at h5
  · cases h5
  rename_i hf
  have hn : ∀ r ∈ ds.map rowOf, ∃ d ∈ ds, r = rowOf d := fun r m => by
    obtain ⟨d, md, e⟩ := List.mem_map.mp m
    exact ⟨d, md, e.symm⟩
  have once := dup_none hd List.nodup_nil
  rw [List.nil_append] at once
  have mono : ∀ i r, (ds.map rowOf)[i]? = some r → (lastO (ds.map rowOf)).pl.getD i 0 = r.s.length := fun i r e => by
    have a := lateV_none h6 i r e
    rw [Nat.zero_add] at a
    have b := (last_good (ds.map rowOf)).1.le i r e
    omega
  refine ⟨{
    few := by rw [List.length_map]; exact few
    name := fun r m => by
      obtain ⟨d, md, rfl⟩ := hn r m
      exact row_name (isr d md)
    nd := by
      rw [List.map_map]
      exact nd
    len := fun r m => by
      obtain ⟨d, md, rfl⟩ := hn r m
      show ((innD d).map stpOf).length ≤ 20
      rw [List.length_map]
      exact hl d md
    step := fun r m s ms => by
      obtain ⟨d, md, rfl⟩ := hn r m
      obtain ⟨s', ms', rfl⟩ := List.mem_map.mp ms
      rw [stp_back (hs d md s' ms')]
      exact hs d md s' ms'
    once := once
    sent := fun w m => by
      have := List.find?_eq_none.mp hf (false, w) m
      unfold lackD at this
      simpa using this
    done := mono }, back⟩
end My
set_option Elab.async false
set_option linter.all false
set_option maxRecDepth 100000
namespace My
open PySem PySem.Spec PyProof.Rows L2 TL
/-! ### checks that raise -/
/-- it ends well, or the fault is raised -/
def out (K : PySem.W.Frag) (cl : Str → Addr) (E : XK) (S : Sh) (H : Hp) (Q : Hp → Prop) : Option Fault → Prop
  | none => ∀ H', Same H H' → Q H'
  | some e => errD K (cl e.1) e.1 (fieldsOf e.1) E e.2 S H
theorem out.same {K : PySem.W.Frag} {cl : Str → Addr} {E : XK} {S : Sh} {H H' : Hp} {Q : Hp → Prop} {v : Option Fault} (h : out K cl E S H Q v) (s : Same H H') : out K cl E S H' Q v := by
  cases v with
  | none => exact fun H2 s2 => h H2 (s.trans s2)
  | some e => exact errD.same h s
theorem outv_none {K : PySem.W.Frag} {cl : Str → Addr} {E : XK} {S : Sh} {H H' : Hp} {Q : Hp → Prop} {v : Option Fault} (h : out K cl E S H Q v) (e : v = none) (s : Same H H') : Q H' := by
  subst e
  exact h H' s
theorem outv_some {K : PySem.W.Frag} {cl : Str → Addr} {E : XK} {S : Sh} {H H' : Hp} {Q : Hp → Prop} {v : Option Fault} {code : Str} {ds : List PyData} {C : Addr} {names : List Str} (h : out K cl E S H Q v) (e : v = some (code, ds)) (hc : cl code = C) (hn : fieldsOf code = names) (s : Same H H') : errD K C code names E ds S H' := by
  subst e hc hn
  exact errD.same h s
theorem raise_sa {K : PySem.W.Frag} {S : Sh} {σ : L2.St} {H : Hp} {C : Addr} {code : Str} {names : List Str} {ta : TA} {E : XK} {ds : List PyData} (l : Live S H) (h : SA K S ta σ H ds) (hl : ds.length = names.length) (he : errD K C code names E ds S H) : tMkR C code names ta σ H E :=
  h.run l fun vs H2 s2 hvs => ⟨hvs.length.trans hl, fun d nd => he vs H2 s2 hvs d H2 (Same.refl _) nd⟩
theorem fine_at {k : Bool} {ds : List PyData} {i : Nat} {d : PyData} (h : fine (seqD k ds) = true) (e : ds[i]? = some d) : fine d = true := by
  cases k with
  | false => exact fine_get h e
  | true => exact fine_get (ds := ds) (show fine (.tuple ds) = true from h) e
theorem row_inv {d : PyData} (h : rowD d = true) : ∃ (k : Bool), d = .tuple [.str (nmD d), seqD k (innD d)] := by
  unfold rowD at h
  split at h
  · rename_i a b
    obtain ⟨h1, h2⟩ := Bool.and_eq_true_iff.mp h
    obtain ⟨x, rfl⟩ := nameIs h1
    cases b with
    | list l => exact ⟨true, rfl⟩
    | tuple l => exact ⟨false, rfl⟩
    | _ => cases h2
  · cases h
theorem any_names (ws : List Str) (w : Str) : ((ws.map PyData.str).any fun z => PyData.eqv z (.str w)) = decide (w ∈ ws) := by
  induction ws with
  | nil => rfl
  | cons x ws ih =>
    rw [List.map_cons, List.any_cons, ih, Bool.eq_iff_iff, Bool.or_eq_true, decide_eq_true_iff, decide_eq_true_iff, List.mem_cons]
    have : PyData.eqv (.str x) (.str w) = true ↔ w = x := by
      simp [PyData.eqv]
      exact ⟨fun e => e.symm, fun e => e.symm⟩
    rw [this]
theorem fields_at : fieldsOf "TooMany" = (["subject", "most"] : List Str) ∧ fieldsOf "InvalidRow" = (["at"] : List Str) ∧ fieldsOf "DuplicateName" = (["name"] : List Str) ∧ fieldsOf "InvalidStep" = (["process", "index"] : List Str) ∧ fieldsOf "DuplicateMessage" = (["message"] : List Str) ∧ fieldsOf "Unsent" = (["message"] : List Str) ∧ fieldsOf "Ring" = (["process"] : List Str) ∧ fieldsOf "InvalidText" = (["at"] : List Str) := by decide +kernel
/-- the classes of these errors -/
structure ClsOf (A : Top) (cl : Str → Addr) : Prop where
  many : cl "TooMany" = A.c_TooMany
  row : cl "InvalidRow" = A.c_InvalidRow
  name : cl "DuplicateName" = A.c_DuplicateName
  step : cl "InvalidStep" = A.c_InvalidStep
  mess : cl "DuplicateMessage" = A.c_DuplicateMessage
  sent : cl "Unsent" = A.c_Unsent
  ring : cl "Ring" = A.c_Ring
section
variable {P : Program} {w : World} {K : PySem.W.Frag} {mg : Str → Option Value} {base : Heap} {A : Top} {cl : Str → Addr}
def spNamesD (K : PySem.W.Frag) : Sp := spT K (fun x : Bool × List PyData => [seqD x.1 x.2]) (fun x => x.2.length ≤ 1000 ∧ ∀ d ∈ x.2, rowD d = true) fun x => .list (x.2.map fun d => .str (nmD d))
theorem ok_namesD (T : TopOk K mg A) : FnOk P w K mg base CX0 1 A.f_names A.d_names P_names (spNamesD K) := by
  refine T.F_names.ok sc_names (fun vs H Q E h => ?_) (fun cdv Ar outer s H vs Q E hr h => ?_)
  · obtain ⟨S, x, _, h, _⟩ := h
    obtain ⟨v, rfl, _⟩ := h.one
    rfl
  · obtain ⟨S, ⟨ko, ds⟩, hL, hds, ⟨h1, h2⟩, k⟩ := h
    obtain ⟨v, rfl, hv⟩ := hds.one
    have h1 : ds.length ≤ 1000 := h1
    refine ⟨_, (pss_one (ps_ret (pe_lc (own := [("name", 1), ("steps", 2)]) (g := gTup K 2 (gCons (gName 1) (gCons (gName 2) gNil))) (by rfl) sc_names.nd (pi_any (pv 0)) (blkOk_by (own := [("name", 1), ("steps", 2)]) (N := N_names) (sc := defScope s_names) (by decide +kernel)) (fun _ _ _ _ _ => (pg_tup rfl (pgs_cons (pg_name (i := 1) sc_names.nd rfl (by first | exact Or.inl rfl | exact Or.inr rfl)) (pgs_cons (pg_name (i := 2) sc_names.nd rfl (by first | exact Or.inl rfl | exact Or.inr rfl)) pgs_nil)))) (fun _ _ _ _ _ => pts_nil) (fun _ _ _ _ _ => (pv 1))))), ?_⟩
    refine ret_sv hL (sv_lcM (K := K) (S := S) (si_any (k := ko) (ds := ds) (sv_var rfl hv)) (by omega) (fun d => .str (nmD d)) fun d S' H' v' Q m n hd kk => ?_) k
    obtain ⟨k2, e⟩ := row_inv (h2 d m)
    rw [e] at hd
    exact g_tup2 hd fun x y hx hy => kk [some v, some x, some y] rfl (sv_var (i := 1) rfl hx)
def spRows (K : PySem.W.Frag) (cl : Str → Addr) : Sp := fun vs H Q E => ∃ (S : Sh) (k : Bool) (ds : List PyData) (v : V), vs = [v] ∧ Live S H ∧ Ds K S H v (seqD k ds) ∧ ds.length ≤ 5000 ∧ (∀ d ∈ ds, fine d = true) ∧ out K cl E S H (fun H' => Q .non H') (rowsV ds)
theorem ok_check_rows (T : TopOk K mg A) (CL : ClsOf A cl) : FnOk P w K mg base (L2N.CX P w) 4 A.f_check_rows A.d_check_rows P_check_rows (spRows K cl) := by
  have G_is_row : FnOk P w K mg base CX0 3 A.f_is_row A.d_is_row P_is_row (spD K rowD) := ok_is_row T
  have G_names : FnOk P w K mg base CX0 1 A.f_names A.d_names P_names (spNamesD K) := ok_namesD T
  refine fun_okN T.F_check_rows sc_check_rows (fun vs H Q E h => ?_) (fun cdv Ar outer s H vs Q E hr h TK => ?_)
  · obtain ⟨S, k, ds, v, rfl, _⟩ := h
    rfl
  · obtain ⟨S, ko, ds, v, rfl, hL, hv, h5, hf, ho⟩ := h
    refine ⟨_, (pss_cons (ps_if (pt_cmpR op_gt (pe_callB call_len (by rfl) T.b_len (by decide +kernel) (pa_cons (pv 0) pa_nil)) (ClX.pe_cval (pe_glob (v := .ref A.c_Log) (by rfl) T.m_Log rfl)) (nomark _))
      (pss_one (L2N.ps_raise rfl TK (pmk_oxt T.X_TooMany T.tt_TooMany T.i_TooMany T.t_TooMany (ok_i_TooMany T) (hr.mono (by decide)) T.a_i_TooMany rfl (by decide) pass0 (by rfl) T.m_TooMany (pa_cons pe_str (pa_cons (ClX.pe_cval (pe_glob (v := .ref A.c_Log) (by rfl) T.m_Log rfl)) pa_nil)))))
      pss_nil)
      (pss_cons (ps_for (passes_of rfl) rfl (pi_enumA (by rfl) T.b_enumerate (pa_cons (pv 0) pa_nil)) (pg_tup rfl (pgs_cons (pg_name (i := 2) sc_check_rows.nd rfl (by first | exact Or.inl rfl | exact Or.inr rfl)) (pgs_cons (pg_name (i := 3) sc_check_rows.nd rfl (by first | exact Or.inl rfl | exact Or.inr rfl)) pgs_nil)))
      (pss_one (ps_if (pt_not (pt_val (pe_call G_is_row (hr.mono (by decide)) (by rfl) T.g_is_row T.F_is_row.kp T.a_is_row .nil pass0 (pa_cons (pv 3) pa_nil))))
      (pss_one (L2N.ps_raise rfl TK (pmk_oxt T.X_InvalidRow T.tt_InvalidRow T.i_InvalidRow T.t_InvalidRow (ok_i_InvalidRow T) (hr.mono (by decide)) T.a_i_InvalidRow rfl (by decide) pass0 (by rfl) T.m_InvalidRow (pa_cons (pv 2) pa_nil))))
      pss_nil)))
      (pss_cons (ps_set (i := 1) sc_check_rows.nd rfl (by first | exact Or.inl rfl | exact Or.inr rfl) (pe_call G_names (hr.mono (by decide)) (by rfl) T.g_names T.F_names.kp T.a_names .nil pass0 (pa_cons (pv 0) pa_nil)))
      (pss_one (ps_for (passes_of rfl) rfl (pi_enumA (by rfl) T.b_enumerate (pa_cons (pv 1) pa_nil)) (pg_tup rfl (pgs_cons (pg_name (i := 2) sc_check_rows.nd rfl (by first | exact Or.inl rfl | exact Or.inr rfl)) (pgs_cons (pg_name (i := 4) sc_check_rows.nd rfl (by first | exact Or.inl rfl | exact Or.inr rfl)) pgs_nil)))
      (pss_one (ps_if (pt_cmpR (L2.op_inD (hu65 hr)) (pv 4) (pe_slice sl_list (pv 1) po_none (po_some (pv 2))) (by rfl))
      (pss_one (L2N.ps_raise rfl TK (pmk_oxt T.X_DuplicateName T.tt_DuplicateName T.i_DuplicateName T.t_DuplicateName (ok_i_DuplicateName T) (hr.mono (by decide)) T.a_i_DuplicateName rfl (by decide) pass0 (by rfl) T.m_DuplicateName (pa_cons (pv 4) pa_nil))))
      pss_nil))))))), ?_⟩
    show tSeq _ _ _ [some v, none, none, none, none] H
    refine seq_if hL (sb_test (sv_gt (sv_len (k := ko) (sv_var rfl hv)) (sv_cval T.rd_Log T.cv_Log_PROCESSES fun _ _ => .int _))) (fun e H1 s1 l1 => ?_) fun e H1 s1 l1 => ?_
    · have h6 : 6 < ds.length := by have := of_decide_eq_true e; omega
      have hv : rowsV ds = some (("TooMany" : Str), [PyData.str "processes", PyData.int 6]) := by unfold rowsV; rw [if_pos h6]
      exact raise_sa (K := K) (S := S) l1 (sa_cons sv_str (sa_cons (sv_cval T.rd_Log T.cv_Log_PROCESSES fun _ _ => .int _) sa_nil)) rfl (outv_some ho hv CL.many fields_at.1 s1)
    have h6 : ¬ 6 < ds.length := by have := of_decide_eq_false e; omega
    have hv1 := hv.same s1
    refine seq_for (K := K) (S := S) l1 (si_enum (k := ko) (ds := ds) (sa_cons (sv_var rfl hv1) sa_nil)) fun H2 s2 l2 => ⟨fun i σ H3 => (∃ x2 x3, σ = [some v, none, x2, x3, none]) ∧ Same H2 H3 ∧ firstAt (fun d => !rowD d) ds 0 = firstAt (fun d => !rowD d) (ds.drop i) i, ⟨⟨_, _, rfl⟩, Same.refl _, rfl⟩, fun i σ H3 _ ⟨_, s3, _⟩ => ⟨S, (Now.of l2 s3).step⟩, fun i d v' σ H3 H4 ed ⟨⟨x2, x3, e⟩, s3, ei⟩ s4 hd => ?_, fun σ H3 ⟨⟨x2, x3, e⟩, s3, ei⟩ => ?_⟩
    · subst e
      have n3 : Now S H2 S H3 := Now.of l2 s3
      obtain ⟨e, ee, rfl⟩ := enumD_inv ed
      refine g_tup2 (hd S n3.step) fun x y hx hy => ?_
      rw [drop_at ee, firstAt_cons] at ei
      refine if_sb (n3.live.same s4) (sb_not (sb_val (sv_spD (sv_var rfl hy) (hf _ (List.mem_of_getElem? ee))))) (fun z H5 s5 l5 => ?_) fun z H5 s5 l5 => ?_
      · rw [if_pos z] at ei
        have hv : rowsV ds = some (("InvalidRow" : Str), [PyData.int (i : Nat)]) := by unfold rowsV; rw [if_neg h6, show firstAt (fun d => !rowD d) ds 0 = some i from ei]
        exact raise_sa (K := K) (S := S) l5 (sa_cons (sv_var (i := 2) rfl (hx.same s5)) sa_nil) rfl (outv_some ho hv CL.row fields_at.2.1 (((((s1.trans s2).trans s3).trans s4).trans s5)))
      · rw [if_neg (by rw [z]; simp)] at ei
        exact ⟨⟨_, _, rfl⟩, (s3.trans s4).trans s5, ei⟩
    · subst e
      rw [enumD_len, drop_end] at ei
      have allr : ∀ d ∈ ds, rowD d = true := fun d m => by simpa using firstAt_none ei d m
      have hv3 := (hv1.same s2).same s3
      have l3 := l2.same s3
      refine set_sv (K := K) (S := S) l3 (sv_T (f := fun x : Bool × List PyData => PyData.list (x.2.map fun d => .str (nmD d))) (enc := fun x : Bool × List PyData => [seqD x.1 x.2]) (pre := fun x : Bool × List PyData => x.2.length ≤ 1000 ∧ ∀ d ∈ x.2, rowD d = true) (ko, ds) (sa_cons (sv_var rfl hv3) sa_nil) rfl ⟨by show ds.length ≤ 1000; omega, allr⟩) fun vn H4 s4 l4 hvn => ?_
      dsimp only [List.set]
      have hvn : Ds K S H4 vn (seqD true ((ds.map nmD).map PyData.str)) := by
        rw [List.map_map]
        exact hvn
      have hnl : (ds.map nmD).length ≤ 6 := by rw [List.length_map]; omega
      have s04 := ((s1.trans s2).trans s3).trans s4
      refine for_si (K := K) (S := S) l4 (si_enum (k := true) (ds := (ds.map nmD).map PyData.str) (sa_cons (sv_var rfl hvn) sa_nil)) fun H5 s5 l5 => ⟨fun i σ H6 => (∃ x2 x4, σ = [some v, some vn, x2, x3, x4]) ∧ Same H5 H6 ∧ dupOf [] (ds.map nmD) = dupOf ((ds.map nmD).take i) ((ds.map nmD).drop i), ⟨⟨_, _, rfl⟩, Same.refl _, rfl⟩, fun i σ H6 _ ⟨_, s6, _⟩ => ⟨S, (Now.of l5 s6).step⟩, fun i d v' σ H6 H7 ed ⟨⟨x2, x4, e⟩, s6, ej⟩ s7 hd => ?_, fun σ H6 ⟨⟨x2, x4, e⟩, s6, ej⟩ => ?_⟩
      · subst e
        have n6 : Now S H5 S H6 := Now.of l5 s6
        obtain ⟨e, ee, rfl⟩ := enumD_inv ed
        obtain ⟨nm, en, rfl⟩ := map_inv ee
        refine g_tup2 (hd S n6.step) fun x y hx hy => ?_
        have hvn7 := ((hvn.same s5).same s6).same s7
        have fn : ∀ d ∈ (ds.map nmD).map PyData.str, fine d = true ∧ d.depth ≤ 20 := fun d hd => by
          obtain ⟨q, hq, rfl⟩ := List.mem_map.mp hd
          obtain ⟨d0, m0, rfl⟩ := List.mem_map.mp hq
          exact ⟨name_fine (row_name (allr d0 m0)) (by decide), by simp [PyData.depth]⟩
        rw [drop_at en, dup_cons] at ej
        refine if_sb (b := decide (nm ∈ (ds.map nmD).take i)) (n6.live.same s7) (sb_is (sb_test (sv_inD (sv_var rfl hy) (sv_slL (sv_var rfl hvn7) sp_no (sp_some (sv_var rfl hx))) (fn _ (List.mem_map.mpr ⟨nm, List.mem_of_getElem? en, rfl⟩)).1 ?_)) ?_) (fun z H8 s8 l8 => ?_) fun z H8 s8 l8 => ?_
        · rw [cutD_to]
          refine fine_seq (k := true) ?_ fun d hd => fn d (List.mem_of_mem_take hd)
          rw [List.length_take, List.length_map]
          omega
        · rw [cutD_to, ← List.map_take]
          exact any_names _ _
        · rw [if_pos (of_decide_eq_true z)] at ej
          have hv : rowsV ds = some (("DuplicateName" : Str), [PyData.str nm]) := by unfold rowsV; rw [if_neg h6, show firstAt (fun d => !rowD d) ds 0 = none from ei, ej]
          exact raise_sa (K := K) (S := S) l8 (sa_cons (sv_var (i := 4) rfl (hy.same s8)) sa_nil) rfl (outv_some ho hv CL.name fields_at.2.2.1 ((((s04.trans s5).trans s6).trans s7).trans s8))
        · rw [if_neg (of_decide_eq_false z), ← take_at en] at ej
          exact ⟨⟨_, _, rfl⟩, (s6.trans s7).trans s8, ej⟩
      · subst e
        rw [enumD_len, List.length_map, drop_end] at ej
        have hv : rowsV ds = none := by
          unfold rowsV
          rw [if_neg h6, show firstAt (fun d => !rowD d) ds 0 = none from ei, show dupOf [] (ds.map nmD) = none from ej]
        exact outv_none ho hv ((s04.trans s5).trans s6)
def spSteps (K : PySem.W.Frag) (cl : Str → Addr) : Sp := fun vs H Q E => ∃ (S : Sh) (k : Bool) (ds : List PyData) (v : V), vs = [v] ∧ Live S H ∧ Ds K S H v (seqD k ds) ∧ ds.length ≤ 5000 ∧ (∀ d ∈ ds, fine d = true ∧ rowD d = true) ∧ out K cl E S H (fun H' => Q .non H') (orV (longV ds) (stepsV ds))
theorem ok_check_steps (T : TopOk K mg A) (CL : ClsOf A cl) : FnOk P w K mg base (L2N.CX P w) 5 A.f_check_steps A.d_check_steps P_check_steps (spSteps K cl) := by
  have G_is_step : FnOk P w K mg base CX0 4 A.f_is_step A.d_is_step P_is_step (spD K stepD) := ok_is_step T
  refine fun_okN T.F_check_steps sc_check_steps (fun vs H Q E h => ?_) (fun cdv Ar outer s H vs Q E hr h TK => ?_)
  · obtain ⟨S, k, ds, v, rfl, _⟩ := h
    rfl
  · obtain ⟨S, ko, ds, v, rfl, hL, hv, h5, hf, ho⟩ := h
    refine ⟨_, (pss_cons (ps_for (passes_of rfl) rfl (pi_any (pv 0)) (pg_tup rfl (pgs_cons (pg_name (i := 1) sc_check_steps.nd rfl (by first | exact Or.inl rfl | exact Or.inr rfl)) (pgs_cons (pg_name (i := 2) sc_check_steps.nd rfl (by first | exact Or.inl rfl | exact Or.inr rfl)) pgs_nil)))
      (pss_one (ps_if (pt_cmpR op_gt (pe_callB call_len (by rfl) T.b_len (by decide +kernel) (pa_cons (pv 2) pa_nil)) (ClX.pe_cval (pe_glob (v := .ref A.c_Log) (by rfl) T.m_Log rfl)) (nomark _))
      (pss_one (L2N.ps_raise rfl TK (pmk_oxt T.X_TooMany T.tt_TooMany T.i_TooMany T.t_TooMany (ok_i_TooMany T) (hr.mono (by decide)) T.a_i_TooMany rfl (by decide) pass0 (by rfl) T.m_TooMany (pa_cons pe_str (pa_cons (ClX.pe_cval (pe_glob (v := .ref A.c_Log) (by rfl) T.m_Log rfl)) pa_nil)))))
      pss_nil)))
      (pss_one (ps_for (passes_of rfl) rfl (pi_any (pv 0)) (pg_tup rfl (pgs_cons (pg_name (i := 1) sc_check_steps.nd rfl (by first | exact Or.inl rfl | exact Or.inr rfl)) (pgs_cons (pg_name (i := 2) sc_check_steps.nd rfl (by first | exact Or.inl rfl | exact Or.inr rfl)) pgs_nil)))
      (pss_one (ps_for (passes_of rfl) rfl (pi_enumA (by rfl) T.b_enumerate (pa_cons (pv 2) pa_nil)) (pg_tup rfl (pgs_cons (pg_name (i := 3) sc_check_steps.nd rfl (by first | exact Or.inl rfl | exact Or.inr rfl)) (pgs_cons (pg_name (i := 4) sc_check_steps.nd rfl (by first | exact Or.inl rfl | exact Or.inr rfl)) pgs_nil)))
      (pss_one (ps_if (pt_not (pt_val (pe_call G_is_step (hr.mono (by decide)) (by rfl) T.g_is_step T.F_is_step.kp T.a_is_step .nil pass0 (pa_cons (pv 4) pa_nil))))
      (pss_one (L2N.ps_raise rfl TK (pmk_oxt T.X_InvalidStep T.tt_InvalidStep T.i_InvalidStep T.t_InvalidStep (ok_i_InvalidStep T) (hr.mono (by decide)) T.a_i_InvalidStep rfl (by decide) pass0 (by rfl) T.m_InvalidStep (pa_cons (pv 1) (pa_cons (pv 3) pa_nil)))))
      pss_nil))))))), ?_⟩
    show tSeq _ _ _ [some v, none, none, none, none] H
    refine seq_for (K := K) (S := S) hL (si_any (k := ko) (ds := ds) (sv_var rfl hv)) fun H2 s2 l2 => ⟨fun i σ H3 => (∃ x1 x2, σ = [some v, x1, x2, none, none]) ∧ Same H2 H3 ∧ ∀ d ∈ ds.take i, (innD d).length ≤ 20, ⟨⟨_, _, rfl⟩, Same.refl _, fun d m => by cases m⟩, fun i σ H3 _ ⟨_, s3, _⟩ => ⟨S, (Now.of l2 s3).step⟩, fun i d v' σ H3 H4 ed ⟨⟨x1, x2, e⟩, s3, ei⟩ s4 hd => ?_, fun σ H3 ⟨⟨x1, x2, e⟩, s3, ei⟩ => ?_⟩
    · subst e
      have n3 : Now S H2 S H3 := Now.of l2 s3
      have md := List.mem_of_getElem? ed
      obtain ⟨k2, er⟩ := row_inv (hf d md).2
      have hd2 := hd S n3.step
      rw [er] at hd2
      refine g_tup2 hd2 fun x y hx hy => ?_
      refine if_sb (n3.live.same s4) (sb_test (sv_gt (sv_len (k := k2) (sv_var rfl hy)) (sv_cval T.rd_Log T.cv_Log_STEPS fun _ _ => .int _))) (fun z H5 s5 l5 => ?_) fun z H5 s5 l5 => ?_
      · have h20 : 20 < (innD d).length := by have := of_decide_eq_true z; omega
        have hv : orV (longV ds) (stepsV ds) = some (("TooMany" : Str), [PyData.str "steps", PyData.int 20]) := by
          have : (ds.any fun d => decide (20 < (innD d).length)) = true := List.any_eq_true.mpr ⟨d, md, decide_eq_true h20⟩
          unfold longV
          rw [this]
          rfl
        exact raise_sa (K := K) (S := S) l5 (sa_cons sv_str (sa_cons (sv_cval T.rd_Log T.cv_Log_STEPS fun _ _ => .int _) sa_nil)) rfl (outv_some ho hv CL.many fields_at.1 (((s2.trans s3).trans s4).trans s5))
      · have h20 : ¬ 20 < (innD d).length := by have := of_decide_eq_false z; omega
        refine ⟨⟨_, _, rfl⟩, (s3.trans s4).trans s5, fun d' m => ?_⟩
        rw [take_at ed] at m
        rcases List.mem_append.mp m with m | m
        · exact ei d' m
        · rw [List.mem_singleton.mp m]; omega
    · subst e
      rw [List.take_length] at ei
      have hlong : longV ds = none := by
        have : (ds.any fun d => decide (20 < (innD d).length)) = false := List.any_eq_false.mpr fun d m => by
          have := ei d m
          simp
          omega
        unfold longV
        rw [this]
        rfl
      rw [hlong] at ho
      have ho : out K cl E S H (fun H' => Q .non H') (stepsV ds) := ho
      have hv3 := (hv.same s2).same s3
      have l3 := l2.same s3
      have s03 := s2.trans s3
      refine for_si (K := K) (S := S) l3 (si_any (k := ko) (ds := ds) (sv_var rfl hv3)) fun H4 s4 l4 => ⟨fun i σ H5 => (∃ x1 x2 x3 x4, σ = [some v, x1, x2, x3, x4]) ∧ Same H4 H5 ∧ stepsV ds = stepsV (ds.drop i), ⟨⟨_, _, _, _, rfl⟩, Same.refl _, rfl⟩, fun i σ H5 _ ⟨_, s5, _⟩ => ⟨S, (Now.of l4 s5).step⟩, fun i d v' σ H5 H6 ed ⟨⟨y1, y2, y3, y4, e⟩, s5, ej⟩ s6 hd => ?_, fun σ H5 ⟨⟨y1, y2, y3, y4, e⟩, s5, ej⟩ => ?_⟩
      · subst e
        have n5 : Now S H4 S H5 := Now.of l4 s5
        have md := List.mem_of_getElem? ed
        obtain ⟨k2, er⟩ := row_inv (hf d md).2
        have fd := (hf d md).1
        have hd2 := hd S n5.step
        rw [er] at hd2 fd
        rw [drop_at ed, stepsV_cons] at ej
        have s06 := ((s03.trans s4).trans s5).trans s6
        refine g_tup2 hd2 fun x y hx hy => ?_
        have fi : fine (seqD k2 (innD d)) = true := fine_get (i := 1) fd rfl
        refine for_si (K := K) (S := S) (n5.live.same s6) (si_enum (k := k2) (ds := innD d) (sa_cons (sv_var rfl hy) sa_nil)) fun H7 s7 l7 => ⟨fun j σ H8 => (∃ x3 x4, σ = [some v, some x, some y, x3, x4]) ∧ Same H7 H8 ∧ firstAt (fun s => !stepD s) (innD d) 0 = firstAt (fun s => !stepD s) ((innD d).drop j) j, ⟨⟨_, _, rfl⟩, Same.refl _, rfl⟩, fun j σ H8 _ ⟨_, s8, _⟩ => ⟨S, (Now.of l7 s8).step⟩, fun j d' v' σ H8 H9 ed2 ⟨⟨x3, x4, e⟩, s8, ek⟩ s9 hd2 => ?_, fun σ H8 ⟨⟨x3, x4, e⟩, s8, ek⟩ => ?_⟩
        · subst e
          have n8 : Now S H7 S H8 := Now.of l7 s8
          obtain ⟨e, ee, rfl⟩ := enumD_inv ed2
          refine g_tup2 (hd2 S n8.step) fun a b ha hb => ?_
          rw [drop_at ee, firstAt_cons] at ek
          refine if_sb (n8.live.same s9) (sb_not (sb_val (sv_spD (sv_var rfl hb) (fine_at fi ee)))) (fun z H10 s10 l10 => ?_) fun z H10 s10 l10 => ?_
          · rw [if_pos z] at ek
            have hv : stepsV ds = some (("InvalidStep" : Str), [PyData.str (nmD d), PyData.int (j : Nat)]) := by rw [ej, show firstAt (fun s => !stepD s) (innD d) 0 = some j from ek]
            exact raise_sa (K := K) (S := S) l10 (sa_cons (sv_var (i := 1) rfl ((((hx.same s7).same s8).same s9).same s10)) (sa_cons (sv_var (i := 3) rfl (ha.same s10)) sa_nil)) rfl (outv_some ho hv CL.step fields_at.2.2.2.1 ((((s06.trans s7).trans s8).trans s9).trans s10))
          · rw [if_neg (by rw [z]; simp)] at ek
            exact ⟨⟨_, _, rfl⟩, (s8.trans s9).trans s10, ek⟩
        · subst e
          rw [enumD_len, drop_end] at ek
          have e0 : firstAt (fun s => !stepD s) (innD d) 0 = none := ek
          rw [e0] at ej
          exact ⟨⟨_, _, _, _, rfl⟩, ((s5.trans s6).trans s7).trans s8, ej⟩
      · rw [drop_end] at ej
        exact outv_none ho ej ((s03.trans s4).trans s5)
end
end My
set_option Elab.async false
set_option linter.all false
set_option maxRecDepth 100000
namespace My
open PySem PySem.Spec PyProof.Rows L2 TL
section
variable {P : Program} {w : World} {K : PySem.W.Frag} {mg : Str → Option Value} {base : Heap} {A : Top} {cl : Str → Addr}
def spMess (K : PySem.W.Frag) (cl : Str → Addr) : Sp := fun vs H Q E => ∃ (S : Sh) (k : Bool) (rs : List Row) (v : V), vs = [v] ∧ Live S H ∧ Ds K S H v (seqD k (rs.map rowP)) ∧ Small rs ∧ out K cl E S H (fun H' => Q .non H') (messV rs)
theorem ok_check_messages (T : TopOk K mg A) (CL : ClsOf A cl) : FnOk P w K mg base (L2N.CX P w) 3 A.f_check_messages A.d_check_messages P_check_messages (spMess K cl) := by
  have G_deeds : FnOk P w K mg base CX0 1 A.f_deeds A.d_deeds P_deeds (spDeeds K) := ok_deeds T
  have G_first_unsent : FnOk P w K mg base CX0 2 A.f_first_unsent A.d_first_unsent P_first_unsent (spLack K) := ok_first_unsent T
  refine fun_okN T.F_check_messages sc_check_messages (fun vs H Q E h => ?_) (fun cdv Ar outer s H vs Q E hr h TK => ?_)
  · obtain ⟨S, k, ds, v, rfl, _⟩ := h
    rfl
  · obtain ⟨S, ko, rs, v, rfl, hL, hv, hsm, ho⟩ := h
    refine ⟨_, (pss_cons (ps_set (i := 1) sc_check_messages.nd rfl (by first | exact Or.inl rfl | exact Or.inr rfl) pe_dnewT)
      (pss_cons (ps_for (passes_of rfl) rfl (pi_any (pe_call G_deeds (hr.mono (by decide)) (by rfl) T.g_deeds T.F_deeds.kp T.a_deeds .nil pass0 (pa_cons (pv 0) pa_nil))) (pg_name (i := 2) sc_check_messages.nd rfl (by first | exact Or.inl rfl | exact Or.inr rfl))
      (pss_cons (ps_if (pt_cmp (pc_din (hu_of hr) (pv 2) (pv 1)))
      (pss_one (L2N.ps_raise rfl TK (pmk_oxt T.X_DuplicateMessage T.tt_DuplicateMessage T.i_DuplicateMessage T.t_DuplicateMessage (ok_i_DuplicateMessage T) (hr.mono (by decide)) T.a_i_DuplicateMessage rfl (by decide) pass0 (by rfl) T.m_DuplicateMessage (pa_cons (pe_ix ix_seq (pv 2) pe_int (fun _ _ => rfl)) pa_nil))))
      pss_nil)
      (pss_one (ps_dput (hu_of hr) (pv 1) (pv 2) pe_bl rfl))))
      (pss_cons (ps_set (i := 3) sc_check_messages.nd rfl (by first | exact Or.inl rfl | exact Or.inr rfl) (pe_call G_first_unsent (hr.mono (by decide)) (by rfl) T.g_first_unsent T.F_first_unsent.kp T.a_first_unsent .nil pass0 (pa_cons (pv 0) pa_nil)))
      (pss_one (ps_if (pt_cmpR op_notN (pv 3) pe_non (nomark _))
      (pss_one (L2N.ps_raise rfl TK (pmk_oxt T.X_Unsent T.tt_Unsent T.i_Unsent T.t_Unsent (ok_i_Unsent T) (hr.mono (by decide)) T.a_i_Unsent rfl (by decide) pass0 (by rfl) T.m_Unsent (pa_cons (pv 3) pa_nil))))
      pss_nil))))), ?_⟩
    intro p np
    show tSeq _ _ _ [some v, some (.ref p), none, none] _
    have n1 : Now S H (fun a => S a ∨ a = p) (upd H p (.dT [])) := Now.add hL np
    have hv1 := hv.now n1
    have m1 : MdOk (upd H p (.dT [])) p [] := mdok_nil upd_same
    generalize upd H p (.dT []) = H1 at n1 hv1 m1
    have hI : SI K (fun a => S a ∨ a = p) (iAny K (tCall (spDeeds K) [] E0 (tCons (tVar 0) tNil))) [some v, some (.ref p), none, none] H1 ((deeds rs).map deedQ) := si_l (sv_T (enc := encR) (ko, rs) (sa_cons (sv_var rfl hv1) sa_nil) rfl hsm.len)
    refine seq_for (K := K) (S := fun a => S a ∨ a = p) n1.live hI fun H2 s2 l2 => ⟨fun i σ H3 => (∃ x2, σ = [some v, some (.ref p), x2, none]) ∧ Step (fun a => S a ∨ a = p) H2 (fun a => S a ∨ a = p) H3 ∧ Same H H3 ∧ MdOk H3 p ((deeds rs).take i) ∧ dupOf [] (deeds rs) = dupOf ((deeds rs).take i) ((deeds rs).drop i),
      ⟨⟨_, rfl⟩, Step.refl l2, n1.same.trans s2, m1.same s2, rfl⟩, fun i σ H3 _ ⟨_, t3, _⟩ => ⟨_, t3⟩, fun i d v' σ H3 H4 ed ⟨⟨x2, e⟩, t3, s3, ⟨kvs, m1, m2, m3⟩, ej⟩ s4 hd => ?_, fun σ H3 ⟨⟨x2, e⟩, t3, s3, _, ej⟩ => ?_⟩
    · subst e
      obtain ⟨dd, edd, rfl⟩ := map_inv ed
      have hdd := hd _ t3
      obtain ⟨b, rfl, hb⟩ := deed_at hdd
      rw [drop_at edd, dup_cons] at ej
      have m4 : H4 p = some (.dT kvs) := s4 _ _ m1
      refine ⟨_, rfl, _, rfl, p, _, rfl, DGet.t m4 hb, _, rfl, ?_⟩
      rw [m3 dd]
      refine ite2 (fun z => ?_) (fun z => ?_)
      · rw [if_pos (of_decide_eq_true z)] at ej
        have hv : messV rs = some (("DuplicateMessage" : Str), [PyData.str dd.2]) := by unfold messV; rw [show dupOf [] (deeds rs) = some dd from ej]
        have l4 : Live S H4 := hL.same (s3.trans s4)
        have hdS : Ds K S H4 (.ref b) (.tuple [.str (kindS dd.1), .str dd.2]) := hdd.less fun _ => .inl
        exact raise_sa (K := K) (S := S) l4 (sa_cons (sv_ixA (ds := [.str (kindS dd.1), .str dd.2]) (sv_var (i := 2) rfl hdS) (sv_int (i := ((1 : Nat) : Int))) (atI_of (j := 1) rfl)) sa_nil) rfl (outv_some ho hv CL.mess fields_at.2.2.2.2.1 (s3.trans s4))
      · have notin : dd ∉ (deeds rs).take i := fun m => z (decide_eq_true m)
        rw [if_neg notin, ← take_at edd] at ej
        have hlen : kvs.length < sizeLine := by
          have h1 := len_deeds rs
          have h2 := hsm.len
          rw [List.length_take] at m2
          exact szl (by omega)
        refine ⟨_, rfl, _, rfl, p, _, rfl, DPut.t m4 hb hlen, ⟨_, rfl⟩, (t3.then s4).put (.inr rfl), fun c u hc => ?_, ?_, ej⟩
        · rw [upd_ne (ne_of_none hc np)]
          exact s4 _ _ (s3 _ _ hc)
        · rw [take_at edd]
          exact mdok_put m2 m3
    · subst e
      rw [List.length_map, drop_end] at ej
      have e0 : dupOf [] (deeds rs) = none := ej
      have hv3 := hv.same s3
      have l3 : Live S H3 := hL.same s3
      refine set_sv (K := K) (S := S) l3 (sv_T (enc := encR) (ko, rs) (sa_cons (sv_var rfl hv3) sa_nil) rfl hsm) fun vm H4 s4 l4 hvm => ?_
      dsimp only [List.set]
      have hvm : Ds K S H4 vm (lackP (deeds rs)) := hvm
      have em : messV rs = match (deeds rs).find? (lackD (deeds rs)) with
        | some d => some (("Unsent" : Str), [PyData.str d.2])
        | none => none := by unfold messV; rw [e0]; first | done | rfl
      unfold lackP at hvm
      cases ef : (deeds rs).find? (lackD (deeds rs)) with
      | some d =>
        rw [ef] at em hvm
        refine if_sb (S := S) (b := true) l4 (sb_test (sv_notN (K := K) (d := .str d.2) (sv_var rfl hvm))) (fun _ H5 s5 l5 => ?_) fun z => Bool.noConfusion z
        exact raise_sa (K := K) (S := S) l5 (sa_cons (sv_var (i := 3) rfl (hvm.same s5)) sa_nil) rfl (outv_some ho em CL.sent fields_at.2.2.2.2.2.1 ((s3.trans s4).trans s5))
      | none =>
        rw [ef] at em hvm
        exact if_sb (S := S) (b := false) l4 (sb_test (sv_notN (K := K) (d := .none) (sv_var rfl hvm))) (fun z => Bool.noConfusion z) fun _ H5 s5 l5 => outv_none ho em ((s3.trans s4).trans s5)
end
theorem cxUpN {P : Program} {w : World} : StX.CXUp (L2N.CX P w) := fun outer s H s2 H2 E u s' un more os ⟨a, B, H1, cls, d, ea, fl, ok, ub, na, os2, ag, q⟩ => by
  have none2 : ∀ b o, s.heap.get? b = some o → H b = none → H2 b = none := fun b o e n => un.free b o e n (by simp)
  refine ⟨a, B, H1, cls, d, ea, fl, ok, ⟨fun b o e n => ub.keep b o (more b o e) (none2 b o e n), fun b o e => ub.slot b o (more b o e), fun b o e n => ub.free b o (more b o e) (none2 b o e n), fun b o e => ub.there b o (more b o e), fun b xs e => ub.tups b xs (un.tups b xs e), fun b o v e => ub.frzs b o v (un.frzs b o v e), fun b ps e => ?_⟩, na, os2.trans os, ag, q⟩
  obtain ⟨x, ex⟩ := un.tbls b ps e
  obtain ⟨y, ey⟩ := ub.tbls b _ ex
  exact ⟨x ++ y, by rw [ey, Array.append_assoc]⟩
theorem last_len {rs : List Row} (h : Small rs) : (lastO rs).od.length ≤ 5000 := by
  rw [(last_good rs).1.odl]
  have h1 : (lastO rs).pl.sum ≤ total rs := by
    refine sum_le _ (rs.map fun r => r.s.length) (by rw [(last_good rs).1.pl, List.length_map]) fun i => ?_
    rw [total_eq]
    cases e : rs[i]? with
    | some r => exact (last_good rs).1.le i r e
    | none =>
      rw [List.getD_eq_getElem?_getD, List.getElem?_eq_none]
      · exact Nat.zero_le _
      · rw [(last_good rs).1.pl]; exact List.getElem?_eq_none_iff.mp e
  have h2 : total rs ≤ 5000 := h.len
  omega
end My
set_option Elab.async false
set_option linter.all false
set_option maxRecDepth 100000
namespace My
open PySem PySem.Spec PyProof.Rows L2 TL
/-! ### what a log is -/
def rowT (r : Row) : PyData := .tuple [.str r.n, .tuple (r.s.map stpP)]
def fldsL (r o : Addr) : List (Str × V) := [("_rows", .ref r), ("_order", .ref o)]
/-- a log of the rows rs stands at a -/
structure LogAt (K : PySem.W.Frag) (C : Addr) (S : Sh) (H : Hp) (a : Addr) (rs : List Row) : Prop where
  val : Valid rs
  at_ : ∃ dx r o, ¬ S a ∧ H a = some (.ins C dx (fldsL r o)) ∧ Ds K S H (.ref r) (.list (rs.map rowT)) ∧ Ds K S H (.ref o) (orderP rs)
theorem LogAt.step {K : PySem.W.Frag} {C : Addr} {S S' : Sh} {H H' : Hp} {a : Addr} {rs : List Row} (h : LogAt K C S H a rs) (s : Step S H S' H') : LogAt K C S' H' a rs := by
  obtain ⟨v, dx, r, o, h1, h2, h3, h4⟩ := h
  exact ⟨v, dx, r, o, (at_step s h1 h2).1, (at_step s h1 h2).2, h3.step s, h4.step s⟩
theorem LogAt.now {K : PySem.W.Frag} {C : Addr} {S S' : Sh} {H H' : Hp} {a : Addr} {rs : List Row} (h : LogAt K C S H a rs) (s : Now S H S' H') : LogAt K C S' H' a rs := h.step s.step
theorem LogAt.byX {K : PySem.W.Frag} {C : Addr} {S : Sh} {H H' : Hp} {a : Addr} {rs : List Row} (h : LogAt K C S H a rs) (s : XS S H H') : LogAt K C S H' a rs := by
  obtain ⟨v, dx, r, o, h1, h2, h3, h4⟩ := h
  exact ⟨v, dx, r, o, h1, s _ _ h2 h1, h3.byX s, h4.byX s⟩
theorem LogAt.same {K : PySem.W.Frag} {C : Addr} {S : Sh} {H H' : Hp} {a : Addr} {rs : List Row} (h : LogAt K C S H a rs) (s : Same H H') : LogAt K C S H' a rs := h.byX (XS.of s)
theorem trip_fst {rs : List Row} {p : Nat × Nat} (h1 : p.1 < rs.length) (h2 : ∃ s, stepAt rs p.1 p.2 = some s) : fstD (tripP rs p) = .str ((rs[p.1]?.map (·.n)).getD "") ∧ ∃ x y z, tripP rs p = .tuple [x, y, z] := by
  obtain ⟨s, hs⟩ := h2
  obtain ⟨r, hr, hj⟩ := stepAt_row hs
  unfold tripP
  rw [hr]
  dsimp only
  rw [hj]
  exact ⟨rfl, _, _, _, rfl⟩
theorem last_step {rs : List Row} {p : Nat × Nat} (h : p ∈ (lastO rs).od) : p.1 < rs.length ∧ ∃ s, stepAt rs p.1 p.2 = some s := by
  obtain ⟨g, _⟩ := last_good rs
  obtain ⟨h1, h2⟩ := g.od p h
  refine ⟨h1, ?_⟩
  have h3 := g.le p.1 rs[p.1] (List.getElem?_eq_getElem h1)
  exact ⟨_, stepAt_of (List.getElem?_eq_getElem h1) (List.getElem?_eq_getElem (Nat.lt_of_lt_of_le h2 h3))⟩
def nameOf (rs : List Row) (i : Nat) : Str := (rs[i]?.map (·.n)).getD ""
theorem names_count {rs : List Row} (nd : (rs.map (·.n)).Nodup) : ∀ (l : List (Nat × Nat)), (∀ p ∈ l, p.1 < rs.length) → ∀ i r, rs[i]? = some r → (l.map fun p => nameOf rs p.1).count r.n = (l.map (·.1)).count i
  | [], _, _, _, _ => rfl
  | p :: l, h, i, r, hr => by
    rw [List.map_cons, List.map_cons, List.count_cons, List.count_cons, names_count nd l (fun q hq => h q (List.mem_cons_of_mem _ hq)) i r hr]
    have hp := h p (List.mem_cons_self ..)
    have e : (nameOf rs p.1 == r.n) = (p.1 == i) := by
      rw [Bool.eq_iff_iff, beq_iff_eq, beq_iff_eq]
      have h1 : (rs.map (·.n))[p.1]? = some (nameOf rs p.1) := by
        unfold nameOf
        rw [List.getElem?_map, List.getElem?_eq_getElem hp]
        rfl
      have h2 : (rs.map (·.n))[i]? = some r.n := by rw [List.getElem?_map, hr]; rfl
      constructor
      · intro z
        rw [z] at h1
        exact (List.getElem?_inj (by rw [List.length_map]; exact hp) nd).mp (h1.trans h2.symm)
      · intro z
        rw [z, h2] at h1
        rw [z]
        exact (Option.some.inj h1).symm
    rw [e]
section
variable {P : Program} {w : World} {K : PySem.W.Frag} {mg : Str → Option Value} {base : Heap} {A : Top}
variable {cl : Str → Addr}
def spEnds (K : PySem.W.Frag) (cl : Str → Addr) : Sp := fun vs H Q E => ∃ (S : Sh) (k : Bool) (rs : List Row) (v vo : V), vs = [v, vo] ∧ Live S H ∧ Ds K S H v (seqD k (rs.map rowP)) ∧ Ds K S H vo (orderP rs) ∧ Small rs ∧ (rs.map (·.n)).Nodup ∧ out K cl E S H (fun H' => Q .non H') (lateV rs 0 rs)
theorem ok_check_ends (T : TopOk K mg A) (CL : ClsOf A cl) : FnOk P w K mg base (L2N.CX P w) 3 A.f_check_ends A.d_check_ends P_check_ends (spEnds K cl) := by
  refine fun_okN T.F_check_ends sc_check_ends (fun vs H Q E h => ?_) (fun cdv Ar outer s H vs Q E hr h TK => ?_)
  · obtain ⟨S, k, rs, v, vo, rfl, _⟩ := h
    rfl
  · obtain ⟨S, ko, rs, v, vo, rfl, hL, hv, ho, hsm, nd, hout⟩ := h
    refine ⟨_, (pss_cons (ps_setLc (i := 2) (own := [("process", 5), ("index", 6), ("step", 7)]) (g := gTup K 3 (gCons (gName 5) (gCons (gName 6) (gCons (gName 7) gNil)))) (by rfl) sc_check_ends.nd rfl rfl (sw_true rfl rfl rfl (by decide +kernel)) (pi_any (pv 1)) (blkOk_by (own := [("process", 5), ("index", 6), ("step", 7)]) (N := N_check_ends) (sc := defScope s_check_ends) (by decide +kernel)) (fun _ _ _ _ _ => (pg_tup rfl (pgs_cons (pg_name (i := 5) sc_check_ends.nd rfl (by first | exact Or.inl rfl | exact Or.inr rfl)) (pgs_cons (pg_name (i := 6) sc_check_ends.nd rfl (by first | exact Or.inl rfl | exact Or.inr rfl)) (pgs_cons (pg_name (i := 7) sc_check_ends.nd rfl (by first | exact Or.inl rfl | exact Or.inr rfl)) pgs_nil))))) (fun _ _ _ _ _ => pts_nil) (fun _ _ _ _ _ => (pv 5)))
      (pss_one (ps_for (passes_of rfl) rfl (pi_any (pv 0)) (pg_tup rfl (pgs_cons (pg_name (i := 3) sc_check_ends.nd rfl (by first | exact Or.inl rfl | exact Or.inr rfl)) (pgs_cons (pg_name (i := 4) sc_check_ends.nd rfl (by first | exact Or.inl rfl | exact Or.inr rfl)) pgs_nil)))
      (pss_one (ps_if (pt_cmpR op_lt (pe_bm PySem.F.plainAttrs_list PySem.F.slot_list_count PySem.F.type_list_count mt_countS (pv 2) (pa_cons (pv 3) pa_nil)) (pe_callB call_len (by rfl) T.b_len (by decide +kernel) (pa_cons (pv 4) pa_nil)) (nomark _))
      (pss_one (L2N.ps_raise rfl TK (pmk_oxt T.X_Ring T.tt_Ring T.i_Ring T.t_Ring (ok_i_Ring T) (hr.mono (by decide)) T.a_i_Ring rfl (by decide) pass0 (by rfl) T.m_Ring (pa_cons (pv 3) pa_nil))))
      pss_nil))))), ?_⟩
    have hlen := last_len hsm
    show tSeq _ _ _ [some v, some vo, none, none, none, none, none, none] H
    refine set_sv (K := K) (S := S) hL (sv_is (d' := .list (((lastO rs).od.map fun p => nameOf rs p.1).map PyData.str)) (sv_lcM (K := K) (S := S) (si_l (ds := (lastO rs).od.map (tripP rs)) (sv_var rfl ho)) (by rw [List.length_map]; exact hlen) fstD fun d S' H' v' Q m n hd kk => ?_) ?_) fun vm H1 s1 l1 hvm => ?_
    · obtain ⟨p, hpm, rfl⟩ := List.mem_map.mp m
      obtain ⟨h1, h2⟩ := last_step hpm
      obtain ⟨_, x, y, z, e⟩ := trip_fst h1 h2
      have ef : fstD (tripP rs p) = x := by rw [e]; rfl
      rw [e] at hd
      exact g_tup3 hd fun a b c ha hb hc => kk [some v, some vo, none, none, none, some a, some b, some c] rfl (by rw [ef]; exact sv_var rfl ha)
    · rw [List.map_map, List.map_map]
      congr 1
      refine List.map_congr_left fun p hpm => ?_
      obtain ⟨h1, h2⟩ := last_step hpm
      exact (trip_fst h1 h2).1
    · dsimp only [List.set]
      have hv1 := hv.same s1
      refine for_si (K := K) (S := S) l1 (si_any (k := ko) (ds := rs.map rowP) (sv_var rfl hv1)) fun H2 s2 l2 => ⟨fun i σ H3 => (∃ x3 x4, σ = [some v, some vo, some vm, x3, x4, none, none, none]) ∧ Same H2 H3 ∧ lateV rs 0 rs = lateV rs i (rs.drop i), ⟨⟨_, _, rfl⟩, Same.refl _, rfl⟩, fun i σ H3 _ ⟨_, s3, _⟩ => ⟨S, (Now.of l2 s3).step⟩, fun i d v' σ H3 H4 ed ⟨⟨x3, x4, e⟩, s3, ej⟩ s4 hd => ?_, fun σ H3 ⟨⟨x3, x4, e⟩, s3, ej⟩ => ?_⟩
      · subst e
        have n3 : Now S H2 S H3 := Now.of l2 s3
        obtain ⟨r, er, rfl⟩ := map_inv ed
        have hvm4 := ((hvm.same s2).same s3).same s4
        rw [drop_at er, lateV_cons] at ej
        refine g_tup2 (hd S n3.step) fun x y hx hy => ?_
        have hi := (List.getElem?_eq_some_iff.mp er).1
        have hc : (((lastO rs).od.map fun p => nameOf rs p.1).count r.n) = (lastO rs).pl.getD i 0 := by
          rw [names_count nd _ (fun p hpm => (last_step hpm).1) i r er, (last_good rs).1.cnt i hi]
        refine if_sb (n3.live.same s4) (sb_test (sv_lt (sv_countS (sv_var rfl hvm4) (sv_var rfl hx)) (sv_len (k := r.k) (sv_var rfl hy)))) (fun z H5 s5 l5 => ?_) fun z H5 s5 l5 => ?_
        · have hz := of_decide_eq_true z
          rw [List.length_map, hc] at hz
          rw [if_pos (by omega)] at ej
          exact raise_sa (K := K) (S := S) l5 (sa_cons (sv_var (i := 3) rfl (hx.same s5)) sa_nil) rfl (outv_some hout ej CL.ring fields_at.2.2.2.2.2.2.1 ((((s1.trans s2).trans s3).trans s4).trans s5))
        · have hz := of_decide_eq_false z
          rw [List.length_map, hc] at hz
          rw [if_neg (by omega)] at ej
          exact ⟨⟨_, _, rfl⟩, (s3.trans s4).trans s5, ej⟩
      · rw [List.length_map, drop_end] at ej
        exact outv_none hout ej ((s1.trans s2).trans s3)
/-- Log(*rows), of whatever rows -/
def okInit (K : PySem.W.Frag) (C x dx : Addr) (S : Sh) (H : Hp) (Q : VK) (rs : List Row) : Prop := ∀ r o H', (∀ b u, H b = some u → b ≠ x → H' b = some u) → H' x = some (.ins C dx (fldsL r o)) → Ds K S H' (.ref r) (.list (rs.map rowT)) → Ds K S H' (.ref o) (orderP rs) → Q .non H'
def wishInit (K : PySem.W.Frag) (cl : Str → Addr) (C x dx : Addr) (S : Sh) (H : Hp) (Q : VK) (E : XK) (ds : List PyData) : Prop := match verdict ds with
  | none => okInit K C x dx S H Q (ds.map rowOf)
  | some e => errD K (cl e.1) e.1 (fieldsOf e.1) E e.2 S H
def spInit (K : PySem.W.Frag) (cl : Str → Addr) (C : Addr) : Sp := fun vs H Q E => ∃ (S : Sh) (x dx : Addr) (rest : List V) (ds : List PyData), vs = .ref x :: rest ∧ Live S H ∧ S x ∧ H x = some (.ins C dx []) ∧ DsAll K S H rest ds ∧ ds.length ≤ 5000 ∧ (∀ d ∈ ds, fine d = true) ∧ wishInit K cl C x dx S H Q E ds
theorem ok_init (T : TopOk K mg A) (CL : ClsOf A cl) : FnR P w K mg base (L2N.CX P w) 8 A.f_i_Log (spInit K cl A.c_Log) := by
  have G_check_rows : FnOk P w K mg base (L2N.CX P w) 4 A.f_check_rows A.d_check_rows P_check_rows (spRows K cl) := ok_check_rows T CL
  have G_check_steps : FnOk P w K mg base (L2N.CX P w) 5 A.f_check_steps A.d_check_steps P_check_steps (spSteps K cl) := ok_check_steps T CL
  have G_check_messages : FnOk P w K mg base (L2N.CX P w) 3 A.f_check_messages A.d_check_messages P_check_messages (spMess K cl) := ok_check_messages T CL
  have G_order_of : FnOk P w K mg base CX0 3 A.f_order_of A.d_order_of P_order_of (spOrder K) := ok_order_of T
  have G_check_ends : FnOk P w K mg base (L2N.CX P w) 3 A.f_check_ends A.d_check_ends P_check_ends (spEnds K cl) := ok_check_ends T CL
  obtain ⟨oc, od, kV, doc, pm, an, cdv, ct, osl, efd, lk, hcd⟩ := T.F_i_Log.ex
  have R := StX.fn_star (P := P) (w := w) (mg := mg) (base := base) (k := 7) (ps := ["self"]) (pv := "rows") (N := N_i_Log) (CX := L2N.CX P w) (sp := fun vs H Q E => ∃ (S : Sh) (x dx p : Addr) (ds : List PyData), vs = [.ref x, .ref p] ∧ Live S H ∧ S x ∧ H x = some (.ins A.c_Log dx []) ∧ Ds K S H (.ref p) (.tuple ds) ∧ ds.length ≤ 5000 ∧ (∀ d ∈ ds, fine d = true) ∧ wishInit K cl A.c_Log x dx S H Q E ds) (efd ▸ lk) hcd sc_i_Log cxUpN (fun us rest hl => match us, rest, hl with | [_], [], _ => rfl | [_], _ :: _, _ => rfl) fun Ar outer s H vs Q E hr h => ?_
  · refine R.imp fun vs H Q E h => ?_
    obtain ⟨S, x, dx, rest, ds, rfl, hL, hS, hx, hds, h5, hf, q⟩ := h
    refine ⟨[.ref x], rest, rfl, rfl, ?_, fun p np => ⟨S, x, dx, p, ds, rfl, hL.same (same_upd np), hS, same_upd np _ _ hx, new_tup hL np hds, h5, hf, ?_⟩⟩
    · rw [hds.length]
      exact sz (by omega)
    · unfold wishInit at q ⊢
      generalize verdict ds = vv at q ⊢
      cases vv with
      | none => exact fun r o H' hk hx' hr ho => q r o H' (fun b u hb hne => hk b u (same_upd np _ _ hb) hne) hx' hr ho
      | some e => exact errD.same q (same_upd np)
  · obtain ⟨S, x, dx, p, ds, rfl, hL, hS, hx, hds, h5, hf, q⟩ := h
    have TK : L2N.Takes (cxOf (L2N.CX P w) P w K mg base N_i_Log "Log.__init__" (defScope s_i_Log) A.f_i_Log cdv Ar outer s H E) (fun cls d _ H' => E cls d H') := L2N.takes_of rfl rfl rfl rfl
    refine ⟨_, (pss_cons (ps_expr (pe_call (E := E) G_check_rows (hr.mono (by decide)) (by rfl) T.g_check_rows T.F_check_rows.kp T.a_check_rows .nil (L2N.passes_call (W := fun cls d _ H' => E cls d H') (L2N.takes_of rfl rfl rfl rfl) fun _ _ _ _ h => h) (pa_cons (pv 1) pa_nil)))
      (pss_cons (ps_expr (pe_call (E := E) G_check_steps (hr.mono (by decide)) (by rfl) T.g_check_steps T.F_check_steps.kp T.a_check_steps .nil (L2N.passes_call (W := fun cls d _ H' => E cls d H') (L2N.takes_of rfl rfl rfl rfl) fun _ _ _ _ h => h) (pa_cons (pv 1) pa_nil)))
      (pss_cons (ps_expr (pe_call (E := E) G_check_messages (hr.mono (by decide)) (by rfl) T.g_check_messages T.F_check_messages.kp T.a_check_messages .nil (L2N.passes_call (W := fun cls d _ H' => E cls d H') (L2N.takes_of rfl rfl rfl rfl) fun _ _ _ _ h => h) (pa_cons (pv 1) pa_nil)))
      (pss_cons (ps_set (i := 2) sc_i_Log.nd rfl (by first | exact Or.inl rfl | exact Or.inr rfl) (pe_call G_order_of (hr.mono (by decide)) (by rfl) T.g_order_of T.F_order_of.kp T.a_order_of .nil pass0 (pa_cons (pv 1) pa_nil)))
      (pss_cons (ps_expr (pe_call (E := E) G_check_ends (hr.mono (by decide)) (by rfl) T.g_check_ends T.F_check_ends.kp T.a_check_ends .nil (L2N.passes_call (W := fun cls d _ H' => E cls d H') (L2N.takes_of rfl rfl rfl rfl) fun _ _ _ _ h => h) (pa_cons (pv 1) (pa_cons (pv 2) pa_nil))))
      (pss_cons (ps_fld (pv 0) (pe_lc (own := [("name", 3), ("steps", 4)]) (g := gTup K 2 (gCons (gName 3) (gCons (gName 4) gNil))) (te := tTup (tCons (tVar 3) (tCons (tCB (rTupOf K) (tCons (tVar 4) tNil)) tNil))) (by rfl) sc_i_Log.nd (pi_any (pv 1)) (blkOk_by (own := [("name", 3), ("steps", 4)]) (N := N_i_Log) (sc := defScope s_i_Log) (by decide +kernel)) (fun _ _ _ _ _ => (pg_tup rfl (pgs_cons (pg_name (i := 3) sc_i_Log.nd rfl (by first | exact Or.inl rfl | exact Or.inr rfl)) (pgs_cons (pg_name (i := 4) sc_i_Log.nd rfl (by first | exact Or.inl rfl | exact Or.inr rfl)) pgs_nil)))) (fun _ _ _ _ _ => pts_nil) (fun _ _ _ _ _ => (pe_tup (pa_cons (pv 3) (pa_cons (pe_callTy call_tupleK (by rfl) T.b_tuple (by decide +kernel) (pa_cons (pv 4) pa_nil)) pa_nil))))) rfl)
      (pss_one (ps_fld (pv 0) (pv 2) rfl)))))))), ?_⟩
    show tSeq _ _ _ [some (.ref x), some (.ref p), none, none, none] H
    have hd0 : Ds K S H (.ref p) (seqD false ds) := hds
    unfold wishInit at q
    refine ⟨_, rfl, S, false, ds, .ref p, rfl, hL, hd0, h5, hf, ?_⟩
    cases ev1 : rowsV ds with
    | some e =>
      have ev : verdict ds = some e := by unfold verdict; rw [ev1]; rfl
      rw [ev] at q
      exact q
    | none =>
    obtain ⟨few, isr, nd⟩ := rowsV_none ev1
    refine fun H1 s1 => ⟨_, rfl, S, false, ds, .ref p, rfl, hL.same s1, hd0.same s1, h5, fun d m => ⟨hf d m, isr d m⟩, ?_⟩
    cases ev2 : orV (longV ds) (stepsV ds) with
    | some e =>
      have ev : verdict ds = some e := by
        unfold verdict
        rw [ev1]
        cases el : longV ds with
        | some e2 => rw [el] at ev2; exact ev2
        | none =>
          rw [el] at ev2
          have ev2 : stepsV ds = some e := ev2
          rw [ev2]
          rfl
      rw [ev] at q
      exact errD.same q s1
    | none =>
    obtain ⟨hlong, hst⟩ := orV_none ev2
    have hl20 := longV_none hlong
    have hs := stepsV_none hst
    have back : (ds.map rowOf).map rowP = ds := by
      rw [List.map_map]
      have : ds.map (rowP ∘ rowOf) = ds.map id := List.map_congr_left fun d m => row_back (isr d m) (hs d m)
      rw [this, List.map_id]
    have sm : Small (ds.map rowOf) := small_of (by rw [List.length_map]; exact few) (fun r m => by
      obtain ⟨d, md, rfl⟩ := List.mem_map.mp m
      show ((innD d).map stpOf).length ≤ 20
      rw [List.length_map]
      exact hl20 d md) (fun r m => by
      obtain ⟨d, md, rfl⟩ := List.mem_map.mp m
      exact row_name (isr d md)) fun r m s ms => by
      obtain ⟨d, md, rfl⟩ := List.mem_map.mp m
      obtain ⟨s', ms', rfl⟩ := List.mem_map.mp ms
      rw [stp_back (hs d md s' ms')]
      exact hs d md s' ms'
    have nd2 : ((ds.map rowOf).map (·.n)).Nodup := by
      rw [List.map_map]
      exact nd
    have ev : verdict ds = logV (ds.map rowOf) := by
      unfold verdict
      rw [ev1, hlong, hst]
      rfl
    rw [ev] at q
    have hd1 : Ds K S H (.ref p) (seqD false ((ds.map rowOf).map rowP)) := by rw [back]; exact hd0
    have fewr : (ds.map rowOf).length ≤ 6 := by rw [List.length_map]; exact few
    generalize ds.map rowOf = rs at q hd1 sm nd2 fewr
    refine fun H2 s2 => ⟨_, rfl, S, false, rs, .ref p, rfl, (hL.same s1).same s2, (hd1.same s1).same s2, sm, ?_⟩
    have s02 := s1.trans s2
    cases ev3 : messV rs with
    | some e =>
      have ev : logV rs = some e := by unfold logV; rw [ev3]; rfl
      rw [ev] at q
      exact errD.same q s02
    | none =>
    have ev : logV rs = lateV rs 0 rs := by unfold logV; rw [ev3]; rfl
    rw [ev] at q
    refine fun H3 s3 => ?_
    have s03 := s02.trans s3
    refine ⟨_, rfl, S, (false, rs), hL.same s03, .cons (hd1.same s03) .nil, sm, fun vo H4 s4 ho => ?_⟩
    have s04 := s03.trans s4
    refine ⟨_, rfl, _, rfl, S, false, rs, .ref p, vo, rfl, hL.same s04, hd1.same s04, ho, sm, nd2, ?_⟩
    cases ev4 : lateV rs 0 rs with
    | some e =>
      rw [ev4] at q
      exact errD.same q s04
    | none =>
    rw [ev4] at q
    have q : okInit K A.c_Log x dx S H Q rs := q
    refine fun H5 s5 => ?_
    have s05 := s04.trans s5
    have l5 := hL.same s05
    have hsv : SV K S (tLc (iAny K (tVar 1)) (gTup K 2 (gCons (gName 3) (gCons (gName 4) gNil))) tYes (tTup (tCons (tVar 3) (tCons (tCB (rTupOf K) (tCons (tVar 4) tNil)) tNil))) [3, 4]) [some (.ref x), some (.ref p), some vo, none, none] H5 (.list (rs.map rowT)) :=
      sv_is (d := .list ((rs.map rowP).map fun d => .tuple [fstD d, .tuple (innD d)])) (sv_lcM (si_t (ds := rs.map rowP) (sv_var rfl (hd1.same s05))) (by rw [List.length_map]; omega) _ fun d S' H' v' Q m n hd kk => by
        obtain ⟨r, hr', rfl⟩ := List.mem_map.mp m
        refine g_tup2 hd fun a b ha hb => kk [some (.ref x), some (.ref p), some vo, some a, some b] rfl ?_
        rw [inn_row]
        exact sv_tup (sa_cons (sv_var rfl ha) (sa_cons (sv_tuple (k := r.k) (sv_var rfl hb)) sa_nil)) rfl) (by
        rw [List.map_map]
        congr 1
        refine List.map_congr_left fun r _ => ?_
        show PyData.tuple [_, .tuple (innD (rowP r))] = _
        rw [inn_row]
        rfl)
    refine fld_sv (K := K) (S := S) l5 hsv fun vr H6 s6 _ hvr => ?_
    obtain ⟨ar, xr, rfl, lr, _⟩ := Ds.l hvr
    obtain ⟨ao, xo, rfl, lo, _⟩ := Ds.l (ds := (lastO rs).od.map (tripP rs)) ho
    have s06 := s05.trans s6
    have hx6 := s06 _ _ hx
    refine ⟨_, rfl, x, A.c_Log, dx, [], rfl, hx6, T.cl_Log, T.na_Log_rows, by show 0 < 1000; decide, ?_⟩
    refine ⟨_, rfl, _, rfl, x, A.c_Log, dx, _, rfl, upd_same, T.cl_Log, T.na_Log_order, by show 1 < 1000; decide, ?_⟩
    have hk : ∀ b u, H b = some u → b ≠ x → (upd (upd H6 x (.ins A.c_Log dx (putF "_rows" (.ref ar) []))) x (.ins A.c_Log dx (putF "_order" (.ref ao) (putF "_rows" (.ref ar) [])))) b = some u := fun b u hb hne => by
      rw [upd_ne hne, upd_ne hne]
      exact s06 _ _ hb
    refine q ar ao _ hk ?_ ?_ ?_
    · rw [upd_same]
      congr 2
    · exact (hvr.byX (XS.upd hS)).byX (XS.upd hS)
    · exact (((ho.same s5).same s6).byX (XS.upd hS)).byX (XS.upd hS)
end
end My
set_option Elab.async false
set_option linter.all false
set_option maxRecDepth 100000
namespace My
open PySem PySem.Spec PyProof.Rows L2 TL
/-! ### the texts of logs -/
section
variable {P : Program} {w : World} {K : PySem.W.Frag} {mg : Str → Option Value} {base : Heap} {A : Top}
def spMeth (K : PySem.W.Frag) (C : Addr) (f : List Row → PyData) : Sp := fun vs H Q _ => ∃ (S : Sh) (a : Addr) (rs : List Row), vs = [.ref a] ∧ Live S H ∧ LogAt K C S H a rs ∧ ∀ v H', Same H H' → Ds K S H' v (f rs) → Q v H'
theorem sv_rows {S : Sh} {H : Hp} {a C : Addr} {rs : List Row} {σ : L2.St} {i : Nat} (cl : Cls K C) (na : NoAttr K C "_rows") (h : LogAt K C S H a rs) (hi : σ[i]? = some (some (.ref a))) : SV K S (tFld K (tVar i) "_rows") σ H (.list (rs.map rowT)) := by
  obtain ⟨v, dx, r, o, h1, h2, h3, h4⟩ := h
  exact sv_fld hi h2 cl na rfl h3
def rowL (r : Row) : PyData := .tuple [.str r.n, .list (r.s.map stpP)]
theorem ok_rows (T : TopOk K mg A) : FnOk P w K mg base CX0 1 A.f_Log_rows A.d_Log_rows P_Log_rows (spMeth K A.c_Log fun rs => .list (rs.map rowL)) := by
  refine T.F_Log_rows.ok sc_Log_rows (fun vs H Q E h => ?_) (fun cdv Ar outer s H vs Q E hr h => ?_)
  · obtain ⟨S, a, rs, rfl, _⟩ := h
    rfl
  · obtain ⟨S, a, rs, rfl, hL, hlog, k⟩ := h
    refine ⟨_, (pss_one (ps_ret (pe_lc (own := [("name", 1), ("steps", 2)]) (g := gTup K 2 (gCons (gName 1) (gCons (gName 2) gNil))) (te := tTup (tCons (tVar 1) (tCons (tCB (rListOf K) (tCons (tVar 2) tNil)) tNil))) (by rfl) sc_Log_rows.nd (pi_any (pe_fld (pv 0) rfl)) (blkOk_by (own := [("name", 1), ("steps", 2)]) (N := N_Log_rows) (sc := defScope s_Log_rows) (by decide +kernel)) (fun _ _ _ _ _ => (pg_tup rfl (pgs_cons (pg_name (i := 1) sc_Log_rows.nd rfl (by first | exact Or.inl rfl | exact Or.inr rfl)) (pgs_cons (pg_name (i := 2) sc_Log_rows.nd rfl (by first | exact Or.inl rfl | exact Or.inr rfl)) pgs_nil)))) (fun _ _ _ _ _ => pts_nil) (fun _ _ _ _ _ => (pe_tup (pa_cons (pv 1) (pa_cons (pe_callTy call_listK (by rfl) T.b_list (by decide +kernel) (pa_cons (pv 2) pa_nil)) pa_nil))))))), ?_⟩
    show tRet _ _ [some (.ref a), none, none] H
    refine ret_sv hL (sv_is (d := .list ((rs.map rowT).map fun d => .tuple [fstD d, .list (innD d)])) (sv_lcM (K := K) (S := S) (si_l (sv_rows T.cl_Log T.na_Log_rows hlog rfl)) (by rw [List.length_map]; have := hlog.val.few; omega) _ fun d S' H' v' Q m n' hd kk => ?_) ?_) k
    · obtain ⟨r, mr, rfl⟩ := List.mem_map.mp m
      exact g_tup2 hd fun x y hx hy => kk [some (.ref a), some x, some y] rfl (sv_tup (sa_cons (sv_var rfl hx) (sa_cons (sv_listK (k := false) (sv_var rfl hy)) sa_nil)) rfl)
    · rw [List.map_map]
      rfl
end
end My
set_option Elab.async false
set_option linter.all false
set_option maxRecDepth 100000
namespace My
open PySem PySem.Spec PyProof.Rows L2 TL
/-! ### logs read, whatever the text -/
/-! ### pieces of a text -/
/-! ### a line -/
end My
set_option Elab.async false
set_option linter.all false
set_option maxRecDepth 100000
namespace My
open PySem PySem.Spec PyProof.Rows L2 TL
/-! ### Log(..), Log(*rows), Log.read(..) -/
def wishLog (K : PySem.W.Frag) (cl : Str → Addr) (C : Addr) (S : Sh) (H : Hp) (Q : VK) (E : XK) (ds : List PyData) : Prop := match verdict ds with
  | none => ∀ a H', Same H H' → LogAt K C S H' a (ds.map rowOf) → Q (.ref a) H'
  | some e => errD K (cl e.1) e.1 (fieldsOf e.1) E e.2 S H
theorem wishLog.same {K : PySem.W.Frag} {cl : Str → Addr} {C : Addr} {S : Sh} {H H1 : Hp} {Q : VK} {E : XK} {ds : List PyData} (h : wishLog K cl C S H Q E ds) (s : Same H H1) : wishLog K cl C S H1 Q E ds := by
  unfold wishLog at h ⊢
  generalize verdict ds = vv at h ⊢
  cases vv with
  | none => exact fun a H' s' hl => h a H' (s.trans s') hl
  | some e => exact errD.same h s
section
variable {K : PySem.W.Frag} {S : Sh} {H : Hp} {σ : L2.St} {C : Addr} {cl : Str → Addr} {E : XK} {Q : VK} {ds : List PyData} {ta : TA} {te : TE}
theorem mk_at {vs : List V} {x dx : Addr} {H1 : Hp} (l1 : Live S H1) (hvs : DsAll K S H1 vs ds) (h5 : ds.length ≤ 5000) (hf : ∀ d ∈ ds, fine d = true) (nx : H1 x = none) (ndx : H1 dx = none) (ne : dx ≠ x) (k : wishLog K cl C S H1 Q E ds) :
    spInit K cl C (V.ref x :: vs) (upd (upd H1 dx (.own x)) x (.ins C dx [])) (fun v H2 => v = .non ∧ Q (.ref x) H2) E := by
  have nn : Now S H1 (fun a => S a ∨ a = x) (upd (upd H1 dx (.own x)) x (.ins C dx [])) := (Now.of l1 (same_upd ndx)).trans (Now.add (l1.same (same_upd ndx)) (by rw [upd_ne ne.symm]; exact nx))
  refine ⟨_, x, dx, vs, ds, rfl, nn.live, .inr rfl, upd_same, hvs.now nn, h5, hf, ?_⟩
  unfold wishInit
  unfold wishLog at k
  cases ev : verdict ds with
  | none =>
    rw [ev] at k
    refine fun r o H' hk' hx' hr' ho' => ⟨rfl, ?_⟩
    refine k x H' (fun b u hb => hk' b u (nn.same _ _ hb) fun z => by rw [z, nx] at hb; cases hb) ⟨(verdict_none ev).1, dx, r, o, l1.ne nx, hx', hr'.less fun b z => .inl z, ho'.less fun b z => .inl z⟩
  | some e =>
    rw [ev] at k
    exact fun us H2 s2 hu => k us H2 (nn.same.trans s2) (hu.less fun b z => .inl z)
theorem mk_logV (l : Live S H) (h : SA K S ta σ H ds) (h5 : ds.length ≤ 5000) (hf : ∀ d ∈ ds, fine d = true) (k : wishLog K cl C S H Q E ds) : StX.tMakeR C (spInit K cl C) E ta σ H Q := by
  refine h.run l fun vs H1 s1 hvs => ?_
  exact fun x dx nx ndx ne => mk_at (l.same s1) hvs h5 hf nx ndx ne (k.same s1)
theorem mk_logSV {b : Bool} (l : Live S H) (h : SV K S te σ H (seqD b ds)) (h5 : ds.length ≤ 5000) (hf : ∀ d ∈ ds, fine d = true) (k : wishLog K cl C S H Q E ds) : tMakeS K C (spInit K cl C) E te σ H Q := by
  refine h.run l fun v H1 s1 hd => ?_
  cases b with
  | true =>
    obtain ⟨b, vs, rfl, lb, hvs⟩ := Ds.l hd
    exact ⟨b, vs, rfl, .inr lb.sq, fun x dx nx ndx ne => mk_at (l.same s1) hvs h5 hf nx ndx ne (k.same s1)⟩
  | false =>
    obtain ⟨b, vs, rfl, lb, hvs⟩ := Ds.t hd
    exact ⟨b, vs, rfl, .inl lb.sq, fun x dx nx ndx ne => mk_at (l.same s1) hvs h5 hf nx ndx ne (k.same s1)⟩
end
end My
set_option Elab.async false
set_option linter.all false
set_option maxRecDepth 100000
namespace My
open PySem PySem.Spec PyProof.Rows L2 TL
section
variable {P : Program} {w : World} {K : PySem.W.Frag} {mg : Str → Option Value} {base : Heap} {A : Top}
/-- two logs of the same rows -/
def LogEq (K : PySem.W.Frag) (C : Addr) : Addr → Addr → Hp → Prop := fun a b H => ∃ (S : Sh) (rs : List Row), Live S H ∧ LogAt K C S H a rs ∧ LogAt K C S H b rs
theorem rows_fine {rs : List Row} (h : Valid rs) : fine (.list (rs.map rowT)) = true := fine_seq (k := true) (by rw [List.length_map]; have := h.few; omega) fun d hd => by
  obtain ⟨r, m, rfl⟩ := List.mem_map.mp hd
  have := row_fine (r := ⟨r.n, false, r.s⟩) (h.name r m) (Nat.le_trans (h.len r m) (by decide)) (h.step r m)
  exact ⟨this.1, Nat.le_trans this.2.1 (by decide)⟩
theorem fine_refl {d : PyData} (h : fine d = true) : PyData.eqv d d = true := SeqAt.eqv_refl d (SeqAt.canLay_of_shaped (fine_shaped h))
theorem ok_eq (T : TopOk K mg A) : FnOk P w K mg base CX0 1 A.f_Log_eq A.d_Log_eq P_Log_eq (spEq (LogEq K A.c_Log)) := by
  refine T.F_Log_eq.ok sc_Log_eq (fun vs H Q E h => ?_) (fun cdv Ar outer s H vs Q E hr h => ?_)
  · obtain ⟨a, b, rfl, _⟩ := h
    rfl
  · obtain ⟨a, b, rfl, ⟨S, rs, hL, ha, hb⟩, k⟩ := h
    refine ⟨_, (pss_one (ps_ret (pe_and (pe_callB (C8.call_isC T.ic_Log) (by rfl) T.b_isinstance (by decide +kernel) (pa_cons (pv 1) (pa_cons (pe_glob (v := .ref A.c_Log) (by rfl) T.m_Log rfl) pa_nil))) (pe_one (pe_cmpR (L2.op_eqD hr.units) (pe_fld (pv 0) rfl) (pe_fld (pv 1) rfl) (nomark _)))))), ?_⟩
    show tRet _ _ [some (.ref a), some (.ref b)] H
    have hv := ha.val
    obtain ⟨dx, r, o, h1, h2, h3, h4⟩ := ha.at_
    obtain ⟨dy, r', o', g1, g2, g3, g4⟩ := hb.at_
    have hf := rows_fine hv
    have hc : SV K S (tAndV _ _) [some (.ref a), some (.ref b)] H (.bool (true && true)) := sv_and (a := true) (b := true) (ta := tCB (fun xs H Q => ∃ a dx fs, xs = [.ref a, .ref A.c_Log] ∧ H a = some (.ins A.c_Log dx fs) ∧ Q (.bl true) H) (tCons (tVar 1) (tCons (tC (.ref A.c_Log)) tNil)))
      (fun S1 H1 n Q q => ⟨_, rfl, b, dy, _, rfl, n.same _ _ g2, q _ _ (Same.refl _) (.bl _)⟩) fun _ => sv_is (sv_eqD (sv_rows (i := 0) T.cl_Log T.na_Log_rows ha rfl) (sv_rows (i := 1) T.cl_Log T.na_Log_rows hb rfl) hf hf) (by rw [fine_refl hf])
    exact ret_sv hL hc fun v H' s hv => by rw [hv.b]; exact k _ s
end
end My
set_option Elab.async false
set_option linter.all false
set_option maxRecDepth 100000
namespace My
open PySem PySem.Spec PyProof.Rows L2 TL
theorem dp_strs {K : PySem.W.Frag} {H : Hp} {l : Addr} {xs : List Str} (h : H l = some (.lst (xs.map V.str))) : Dp K H (.ref l) (.list (xs.map PyData.str)) := Ds.dp _ _ (Ds.lst (S := fun _ => False) ⟨id, h⟩ ds_strs)
theorem fine_strs {xs : List Str} (hl : xs.length ≤ 5000) (h : ∀ x ∈ xs, fine (.str x) = true) : fine (.list (xs.map PyData.str)) = true := fine_seq (k := true) (by rw [List.length_map]; exact hl) fun d hd => by
  obtain ⟨x, m, rfl⟩ := List.mem_map.mp hd
  exact ⟨h x m, by simp [PyData.depth]⟩
theorem ne_nil {xs : List Str} : (!PyData.eqv (.list (xs.map PyData.str)) (.list [])) = decide (xs ≠ []) := by
  cases xs <;> rfl
theorem ixS {xs : List V} {j : Nat} (h : j < xs.length) : ∃ k, seqIndex? ((j : Nat) : Int) xs.length = some k ∧ xs[k]? = some xs[j] ∧ k < xs.length := by
  obtain ⟨k, a, b, c, _⟩ := L2.atI_get (L2.atI_nat (List.getElem?_eq_getElem h))
  exact ⟨k, a, b, c⟩
theorem perm_erase {α : Type} : ∀ (l : List α) (k : Nat) (h : k < l.length), (l[k] :: l.eraseIdx k).Perm l
  | a :: l, 0, _ => .refl _
  | a :: l, k + 1, h => (List.Perm.swap a _ _).trans ((perm_erase l k (by simpa using h)).cons a)
section
variable {P : Program} {w : World} {K : PySem.W.Frag} {mg : Str → Option Value} {base : Heap} {A : Top}
def spMixed : Sp := fun vs H Q _ => ∃ (B : BagId) (q : Addr) (xs : List Str), vs = [.ref B.p, .ref q] ∧ Bag B H ∧ H q = some (.lst (xs.map V.str)) ∧ xs.length ≤ 100 ∧ (∀ x ∈ xs, fine (.str x) = true) ∧
  ∀ (a : Addr) (ys : List Str) (H' : Hp), H a = none → Bag B H' → Ext B.p H H' → H' a = some (.lst (ys.map V.str)) → ys.Perm xs → Q (.ref a) H'
theorem ok_Lmixed (T : TopOk K mg A) : FnOk P w K mg base CX0 2 A.f_Lmixed A.d_Lmixed P_Lmixed spMixed := by
  have G_Ldraw : FnOk P w K mg base CX0 1 A.f_Ldraw A.d_Ldraw P_Ldraw spDraw := ok_Ldraw T
  refine T.F_Lmixed.ok sc_Lmixed (fun vs H Q E h => ?_) (fun cdv Ar outer s H vs Q E hr h => ?_)
  · obtain ⟨B, q, xs, rfl, _⟩ := h
    rfl
  · obtain ⟨B, q, xs, rfl, hB, hq, hlen, hfin, k⟩ := h
    refine ⟨_, (pss_cons (ps_par (i := 2) (j := 3) (by rfl) sc_Lmixed.nd rfl rfl (by decide) rfl rfl (pa_cons (pe_callTy call_listL (by rfl) T.b_list (by decide +kernel) (pa_cons (pv 1) pa_nil)) (pa_cons (pe_lst pa_nil) pa_nil)) (by rfl))
      (pss_cons (ps_while PassesOwn.never (pt_cmpR (L2.op_neD hr.units) (pv 2) (pe_lst pa_nil) (nomark _))
      (pss_one (ps_expr (pe_bm PySem.F.plainAttrs_list PySem.F.slot_list_append PySem.F.type_list_append mt_append (pv 3) (pa_cons (pe_bm PySem.F.plainAttrs_list PySem.F.slot_list_pop PySem.F.type_list_pop mt_popAt (pv 2) (pa_cons (pe_call G_Ldraw (hr.mono (by decide)) (by rfl) T.g_Ldraw T.F_Ldraw.kp T.a_Ldraw .nil pass0 (pa_cons (pv 0) (pa_cons (pe_callB call_len (by rfl) T.b_len (by decide +kernel) (pa_cons (pv 2) pa_nil)) pa_nil))) pa_nil)) pa_nil)))))
      (pss_one (ps_ret (pv 3))))), ?_⟩
    show tSeq _ _ _ [some (.ref B.p), some (.ref q), none, none] H
    refine ⟨_, rfl, q, _, rfl, lsq hq, fun l nl => ⟨Nat.zero_le _, fun m nm => ⟨_, _, rfl, ?_⟩⟩⟩
    have s1 : Same H (upd H l (.lst (xs.map V.str))) := same_upd nl
    have s2 := s1.trans (same_upd (o := .lst []) nm)
    have el : (upd (upd H l (.lst (xs.map V.str))) m (.lst [])) l = some (.lst (xs.map V.str)) := same_upd nm _ _ upd_same
    have em : (upd (upd H l (.lst (xs.map V.str))) m (.lst [])) m = some (.lst []) := upd_same
    have nm0 : H m = none := s1.free nm
    have nlm : l ≠ m := ne_of_none upd_same nm
    generalize upd (upd H l (.lst (xs.map V.str))) m (.lst []) = H0 at s2 el em
    have hlp : l ≠ B.p := fun z => by obtain ⟨o, e⟩ := hB.there; rw [← z, nl] at e; cases e
    have hll : l ≠ B.l := fun z => by obtain ⟨o, e⟩ := hB.thereL; rw [← z, nl] at e; cases e
    have hmp : m ≠ B.p := fun z => by obtain ⟨o, e⟩ := hB.there; rw [← z, nm0] at e; cases e
    have hml : m ≠ B.l := fun z => by obtain ⟨o, e⟩ := hB.thereL; rw [← z, nm0] at e; cases e
    show tSeq _ _ _ [some (.ref B.p), some (.ref q), some (.ref l), some (.ref m)] H0
    refine ⟨fun n σ H1 => ∃ ls fs, σ = [some (.ref B.p), some (.ref q), some (.ref l), some (.ref m)] ∧ n = ls.length ∧ Bag B H1 ∧ Ext B.p H H1 ∧ H1 l = some (.lst (ls.map V.str)) ∧ H1 m = some (.lst (fs.map V.str)) ∧ (fs ++ ls).Perm xs, ⟨_, xs, [], rfl, rfl, hB.ext s2, fun b o e _ => s2 _ _ e, el, em, by simp⟩, ?_⟩
    rintro n σ H1 ⟨ls, fs, rfl, rfl, hB1, ex1, hl1, hm1, hp⟩
    have hlen1 : fs.length + ls.length = xs.length := by rw [← List.length_append]; exact hp.length_eq
    have hfl : ∀ x ∈ ls, fine (.str x) = true := fun x hx => hfin x (hp.mem_iff.mp (List.mem_append_right _ hx))
    have hff := fine_strs (xs := ls) (by omega) hfl
    refine ⟨_, rfl, Nat.zero_le _, fun z nz => ?_⟩
    have s3 : Same H1 (upd H1 z (.lst [])) := same_upd nz
    have ez : (upd H1 z (.lst [])) z = some (.lst []) := upd_same
    refine ⟨_, _, dp_strs (s3 _ _ hl1), dp_strs (xs := []) ez, fine_shaped hff, by decide, ?_⟩
    generalize upd H1 z (.lst []) = H2 at s3 ez
    rw [show (List.map PyData.str ([] : List Str)) = [] from rfl, ne_nil]
    refine ⟨_, rfl, ite2 (fun e => ?_) (fun e => ?_)⟩
    · have hne : ls ≠ [] := of_decide_eq_true e
      have hpos : 0 < ls.length := List.length_pos_iff.mpr hne
      refine ⟨fun σ' H' => ∃ ls' fs', σ' = [some (.ref B.p), some (.ref q), some (.ref l), some (.ref m)] ∧ ls'.length < ls.length ∧ Bag B H' ∧ Ext B.p H H' ∧ H' l = some (.lst (ls'.map V.str)) ∧ H' m = some (.lst (fs'.map V.str)) ∧ (fs' ++ ls').Perm xs, fun σ' H' ⟨ls', fs', a1, a2, a3⟩ => ⟨_, a2, ls', fs', a1, rfl, a3⟩, ?_⟩
      refine ⟨_, rfl, .inl ⟨rfl, _, lsq (s3 _ _ hm1)⟩, _, rfl, .inl ⟨rfl, _, lsq (s3 _ _ hl1)⟩, ?_⟩
      refine ⟨_, rfl, _, rfl, V.ref l, ls.length, rfl, .inl ⟨_, lsq (s3 _ _ hl1), by rw [List.length_map]⟩, B, _, rfl, hB1.ext s3, by omega, by omega, fun r H3 r0 r1 hB3 ex3 => ?_⟩
      obtain ⟨j, rfl⟩ := Int.eq_ofNat_of_zero_le r0
      have hj : j < (ls.map V.str).length := by rw [List.length_map]; omega
      obtain ⟨k', a1, a2, a3⟩ := ixS hj
      have hl3 := ex3 _ _ (s3 _ _ hl1) hlp
      have hm3 := ex3 _ _ (s3 _ _ hm1) hmp
      rw [List.length_map] at a1 a3
      refine ⟨l, _, _, k', _, rfl, rfl, hl3, by omega, by omega, by rw [List.length_map]; exact a1, a2, ?_⟩
      have hk : k' < ls.length := a3
      have ev : (ls.map V.str)[j] = V.str ls[k'] := by
        rw [List.getElem?_map, List.getElem?_eq_getElem hk] at a2
        exact (Option.some.inj a2).symm
      rw [ev, erase_mapS]
      have el4 : (upd H3 l (.lst ((ls.eraseIdx k').map V.str))) l = some (.lst ((ls.eraseIdx k').map V.str)) := upd_same
      have em4 : (upd H3 l (.lst ((ls.eraseIdx k').map V.str))) m = some (.lst (fs.map V.str)) := by rw [upd_ne nlm.symm]; exact hm3
      have hB4 := hB3.upd (o := .lst ((ls.eraseIdx k').map V.str)) hlp hll
      have ex4 : Ext B.p H (upd H3 l (.lst ((ls.eraseIdx k').map V.str))) := fun b o e n => by
        rw [upd_ne fun z => by rw [z, nl] at e; cases e]
        exact ex3 _ _ (s3 _ _ (ex1 b o e n)) n
      generalize upd H3 l (.lst ((ls.eraseIdx k').map V.str)) = H4 at el4 em4 hB4 ex4
      refine ⟨m, _, _, rfl, rfl, em4, szl (by rw [List.length_map]; omega), ?_⟩
      refine ⟨ls.eraseIdx k', fs ++ [ls[k']], rfl, by rw [List.length_eraseIdx_of_lt hk]; omega, hB4.upd hmp hml, fun b o e n => ?_, by rw [upd_ne nlm]; exact el4, by rw [upd_same, List.map_append]; rfl, ?_⟩
      · rw [upd_ne fun z => by rw [z, nm0] at e; cases e]
        exact ex4 b o e n
      · rw [List.append_assoc]
        exact ((perm_erase ls k' hk).append_left fs).trans hp
    · have hnil : ls = [] := by simpa using e
      subst hnil
      rw [List.append_nil] at hp
      refine ⟨_, rfl, k m fs H2 nm0 (hB1.ext s3) (fun b o e n => s3 _ _ (ex1 b o e n)) (s3 _ _ hm1) hp⟩
end
end My
set_option Elab.async false
set_option linter.all false
set_option maxRecDepth 100000
namespace My
open PySem PySem.Spec PyProof.Rows L2 TL
def marks : List Str := ["x", "y", "do", "wait", "z"]
theorem marks_ok : ∀ m ∈ marks, nameD 4 (.str m) = true := by decide +kernel
theorem cut_mem {xs : List V} {lo hi : Option Int} {v : V} (h : v ∈ cutV xs lo hi) : v ∈ xs := by
  unfold cutV at h
  exact List.mem_of_mem_drop (List.mem_of_mem_take h)
theorem cut_marks : ∀ r : Fin 4, 0 < (cutV (marks.map V.str) none (some (2 + ((r.val : Nat) : Int)))).length ∧ (cutV (marks.map V.str) none (some (2 + ((r.val : Nat) : Int)))).length ≤ 5 := by decide +kernel
section
variable {P : Program} {w : World} {K : PySem.W.Frag} {mg : Str → Option Value} {base : Heap} {A : Top}
def spMarks : Sp := fun vs H Q _ => vs = [] ∧ ∀ a, H a = none → Q (.ref a) (upd H a (.lst (marks.map V.str)))
theorem ok_Lmarks (T : TopOk K mg A) : FnOk P w K mg base CX0 1 A.f_Lmarks A.d_Lmarks P_Lmarks spMarks := by
  refine T.F_Lmarks.ok sc_Lmarks (fun vs H Q E h => ?_) (fun cdv Ar outer s H vs Q E hr h => ?_)
  · obtain ⟨rfl, _⟩ := h
    rfl
  · obtain ⟨rfl, k⟩ := h
    refine ⟨_, (pss_one (ps_ret (pe_lst (pa_cons pe_str (pa_cons pe_str (pa_cons pe_str (pa_cons pe_str (pa_cons pe_str pa_nil)))))))), ?_⟩
    refine ⟨by decide, fun a na => k a na⟩
def spStep (K : PySem.W.Frag) : Sp := fun vs H Q _ => ∃ (S : Sh) (B : BagId) (v : V) (dd : PyData), vs = [.ref B.p, v] ∧ Live S H ∧ S B.p ∧ Bag B H ∧ Ds K S H v dd ∧
  ∀ (v' : V) (m : Str) (n : Int) (H' : Hp), Bag B H' → Ext B.p H H' → Ds K S H' v' (.tuple [.str m, .int n, dd]) → nameD 4 (.str m) = true → -99 ≤ n → n ≤ 99 → Q v' H'
theorem ok_Lstep (T : TopOk K mg A) : FnOk P w K mg base CX0 3 A.f_Lstep A.d_Lstep P_Lstep (spStep K) := by
  have G_Ldraw : FnOk P w K mg base CX0 1 A.f_Ldraw A.d_Ldraw P_Ldraw spDraw := ok_Ldraw T
  have G_Lmarks : FnOk P w K mg base CX0 1 A.f_Lmarks A.d_Lmarks P_Lmarks spMarks := ok_Lmarks T
  have G_Lof : FnOk P w K mg base CX0 2 A.f_Lof A.d_Lof P_Lof (spOf K) := ok_Lof T
  refine T.F_Lstep.ok sc_Lstep (fun vs H Q E h => ?_) (fun cdv Ar outer s H vs Q E hr h => ?_)
  · obtain ⟨S, B, v, dd, rfl, _⟩ := h
    rfl
  · obtain ⟨S, B, v, dd, rfl, hL, hS, hB, hv, k⟩ := h
    refine ⟨_, (pss_one (ps_ret (pe_tup (pa_cons (pe_call G_Lof (hr.mono (by decide)) (by rfl) T.g_Lof T.F_Lof.kp T.a_Lof .nil pass0 (pa_cons (pv 0) (pa_cons (pe_slice sl_list (pe_call0 G_Lmarks (hr.mono (by decide)) (by rfl) T.g_Lmarks T.F_Lmarks.kp T.a_Lmarks .nil pass0) po_none (po_some (pe_op op_add pe_int (pe_call G_Ldraw (hr.mono (by decide)) (by rfl) T.g_Ldraw T.F_Ldraw.kp T.a_Ldraw .nil pass0 (pa_cons (pv 0) (pa_cons pe_int pa_nil)))))) pa_nil))) (pa_cons (pe_call G_Lof (hr.mono (by decide)) (by rfl) T.g_Lof T.F_Lof.kp T.a_Lof .nil pass0 (pa_cons (pv 0) (pa_cons (pe_lst (pa_cons pe_int (pa_cons pe_int (pa_cons (pe_un un_neg pe_int) (pa_cons (pe_op op_sub (pe_call G_Ldraw (hr.mono (by decide)) (by rfl) T.g_Ldraw T.F_Ldraw.kp T.a_Ldraw .nil pass0 (pa_cons (pv 0) (pa_cons pe_int pa_nil))) pe_int) (pa_cons (pe_op op_sub (pe_call G_Ldraw (hr.mono (by decide)) (by rfl) T.g_Ldraw T.F_Ldraw.kp T.a_Ldraw .nil pass0 (pa_cons (pv 0) (pa_cons pe_int pa_nil))) pe_int) pa_nil)))))) pa_nil))) (pa_cons (pv 1) pa_nil)))))), ?_⟩
    show tRet _ _ [some (.ref B.p), some v] H
    refine ⟨_, rfl, rfl, fun a na => ?_⟩
    have hap : a ≠ B.p := hB.ne na
    refine ⟨_, rfl, B, 4, rfl, hB.ext (same_upd na), by decide, by decide, fun r H1 r0 r1 hB1 ex1 => ⟨_, _, rfl, rfl, _, rfl, a, _, rfl, lsq (ex1 _ _ upd_same hap), fun u nu => ?_⟩⟩
    have x1 : Ext B.p H H1 := fun b o e n => ex1 _ _ (same_upd na _ _ e) n
    obtain ⟨j, rfl⟩ := Int.eq_ofNat_of_zero_le r0
    have hc := cut_marks ⟨j, by omega⟩
    refine ⟨B, .ref u, rfl, hB1.ext (same_upd nu), .inl ⟨u, _, rfl, hB1.ne nu, .inl (lsq upd_same), hc.1, Nat.lt_of_le_of_lt hc.2 (by decide), fun m1 H2 hm hB2 ex2 => ?_⟩⟩
    have x2 : Ext B.p H H2 := fun b o e n => ex2 _ _ (same_upd nu _ _ (x1 b o e n)) n
    obtain ⟨m, mm, rfl⟩ := List.mem_map.mp (cut_mem hm)
    refine ⟨_, rfl, _, rfl, ?_⟩
    refine ⟨_, rfl, B, 199, rfl, hB2, by decide, by decide, fun r2 H3 r20 r21 hB3 ex3 => ⟨_, _, rfl, rfl, ?_⟩⟩
    refine ⟨_, rfl, B, 7, rfl, hB3, by decide, by decide, fun r3 H4 r30 r31 hB4 ex4 => ⟨_, _, rfl, rfl, ?_⟩⟩
    have x4 : Ext B.p H H4 := fun b o e n => ex4 _ _ (ex3 _ _ (x2 b o e n) n) n
    refine ⟨by show 5 ≤ sizeLine; decide, fun q nq => ?_⟩
    refine ⟨B, .ref q, rfl, hB4.ext (same_upd nq), .inl ⟨q, _, rfl, hB4.ne nq, .inl (lsq upd_same), by show 0 < 5; decide, by show 5 < 1073741824; decide, fun n1 H5 hn hB5 ex5 => ?_⟩⟩
    have x5 : Ext B.p H H5 := fun b o e n => ex5 _ _ (same_upd nq _ _ (x4 b o e n)) n
    obtain ⟨n, rfl, n0, n1⟩ : ∃ n, n1 = V.int n ∧ -99 ≤ n ∧ n ≤ 99 := by
      simp only [List.mem_cons, List.not_mem_nil, or_false] at hn
      rcases hn with rfl | rfl | rfl | rfl | rfl
      · exact ⟨_, rfl, by decide, by decide⟩
      · exact ⟨_, rfl, by decide, by decide⟩
      · exact ⟨_, rfl, by decide, by decide⟩
      · exact ⟨_, rfl, by omega, by omega⟩
      · exact ⟨_, rfl, by omega, by omega⟩
    have l5 : Live S H5 := fun b hb => by
      by_cases z : b = B.p
      · rw [z]; exact hB5.there
      · obtain ⟨o, e⟩ := hL b hb
        exact ⟨o, x5 b o e z⟩
    refine ⟨_, rfl, by show 3 ≤ sizeLine; decide, fun z nz => ?_⟩
    exact k _ m n _ (hB5.ext (same_upd nz)) (fun b o e h => same_upd nz _ _ (x5 b o e h)) (new_tup l5 nz (.cons (.str _) (.cons (.int _) (.cons (hv.byX (XS.ext x5 hS)) .nil)))) (marks_ok m mm) n0 n1
end
end My
set_option Elab.async false
set_option Elab.async false
set_option linter.all false
set_option maxRecDepth 100000
namespace My
open PySem PySem.Spec PyProof.Rows L2 TL
section
variable {P : Program} {w : World} {K : PySem.W.Frag} {mg : Str → Option Value} {base : Heap} {A : Top}
theorem sv_cat {S : Sh} {σ : L2.St} {H : Hp} {ta tb : TE} {ds es : List PyData} (ha : SV K S ta σ H (.list ds)) (hb : SV K S tb σ H (.list es)) (hl : ds.length + es.length ≤ 5000) : SV K S (tOp rCat ta tb) σ H (.list (ds ++ es)) := sv_op ha hb fun S1 H1 u v Q l hx hy q => by
  obtain ⟨a, xs, rfl, l1, h1⟩ := hx.l
  obtain ⟨b, ys, rfl, l2, h2⟩ := hy.l
  refine ⟨a, b, xs, ys, rfl, rfl, l1.2, l2.2, by rw [h1.length, h2.length]; exact sz (by omega), fun p np => q _ _ (same_upd np) (new_lst l np (h1.app h2))⟩
end
end My
set_option Elab.async false
set_option linter.all false
set_option maxRecDepth 100000
namespace My
open PySem PySem.Spec PyProof.Rows L2 TL
/-! ### rows that grow by a step -/
def addR (r : Row) (s : Stp) : Row := ⟨r.n, r.k, r.s ++ [s]⟩
def addS : List Row → Nat → Stp → List Row
  | [], _, _ => []
  | r :: rs, 0, s => addR r s :: rs
  | r :: rs, i + 1, s => r :: addS rs i s
theorem addS_at (s : Stp) : ∀ (rs : List Row) (i j : Nat), (addS rs i s)[j]? = if j = i then (rs[j]?).map (fun r => addR r s) else rs[j]?
  | [], i, j => by simp [addS]
  | r :: rs, 0, 0 => rfl
  | r :: rs, 0, j + 1 => rfl
  | r :: rs, i + 1, 0 => rfl
  | r :: rs, i + 1, j + 1 => by
    show (addS rs i s)[j]? = _
    rw [addS_at s rs i j]
    by_cases h : j = i
    · subst h; simp
    · rw [if_neg h, if_neg (by omega)]; rfl
theorem addS_names (s : Stp) : ∀ (rs : List Row) (i : Nat), (addS rs i s).map (·.n) = rs.map (·.n)
  | [], _ => rfl
  | r :: rs, 0 => rfl
  | r :: rs, i + 1 => by
    show r.n :: (addS rs i s).map (·.n) = _
    rw [addS_names s rs i]
    rfl
theorem addS_len (s : Stp) (rs : List Row) (i : Nat) : (addS rs i s).length = rs.length := by
  have := congrArg List.length (addS_names s rs i)
  simpa using this
theorem addS_mem {s : Stp} : ∀ {rs : List Row} {i : Nat} {r : Row}, r ∈ addS rs i s → r ∈ rs ∨ ∃ r0, rs[i]? = some r0 ∧ r = addR r0 s
  | [], _, _, h => by cases h
  | q :: rs, 0, r, h => by
    rcases List.mem_cons.mp h with rfl | h
    · exact .inr ⟨q, rfl, rfl⟩
    · exact .inl (List.mem_cons_of_mem _ h)
  | q :: rs, i + 1, r, h => by
    rcases List.mem_cons.mp h with rfl | h
    · exact .inl (List.mem_cons_self ..)
    · rcases addS_mem h with h | ⟨r0, a, b⟩
      · exact .inl (List.mem_cons_of_mem _ h)
      · exact .inr ⟨r0, a, b⟩
theorem deeds_cons (r : Row) (rs : List Row) : deeds (r :: rs) = r.s.filterMap (·.d) ++ deeds rs := rfl
theorem addS_deeds {s : Stp} : ∀ {rs : List Row} {i : Nat}, i < rs.length → (deeds (addS rs i s)).Perm (s.d.toList ++ deeds rs)
  | [], _, h => by cases h
  | r :: rs, 0, _ => by
    show (deeds (addR r s :: rs)).Perm _
    rw [deeds_cons, deeds_cons]
    show ((r.s ++ [s]).filterMap (·.d) ++ deeds rs).Perm _
    rw [List.filterMap_append]
    have e : [s].filterMap (·.d) = s.d.toList := by
      cases hd : s.d <;> simp [hd]
    rw [e, ← List.append_assoc]
    exact List.perm_append_comm.append_right _
  | r :: rs, i + 1, h => by
    show (deeds (r :: addS rs i s)).Perm _
    rw [deeds_cons, deeds_cons]
    refine ((addS_deeds (s := s) (rs := rs) (i := i) (by simpa using h)).append_left _).trans ?_
    rw [← List.append_assoc, ← List.append_assoc]
    exact List.perm_append_comm.append_right _
theorem addS_step {s : Stp} {rs : List Row} {i : Nat} {r : Row} (hr : rs[i]? = some r) (a b : Nat) : stepAt (addS rs i s) a b = if a = i ∧ b = r.s.length then some s else stepAt rs a b := by
  unfold stepAt
  rw [addS_at]
  by_cases h : a = i
  · subst h
    rw [if_pos rfl, hr]
    show (r.s ++ [s])[b]? = _
    by_cases hb : b = r.s.length
    · subst hb
      rw [if_pos ⟨rfl, rfl⟩, List.getElem?_concat_length]
    · rw [if_neg fun z => hb z.2]
      show _ = r.s[b]?
      by_cases hl : b < r.s.length
      · rw [List.getElem?_append_left hl]
      · rw [List.getElem?_eq_none (by simp; omega), List.getElem?_eq_none (by omega)]
  · rw [if_neg h, if_neg fun z => h z.1]
/-- a line of the steps: all of them, each behind those before it in its row, what is received behind what is sent -/
def LinV (rs : List Row) : Prop := ∃ L : List (Nat × Nat), (∀ p ∈ L, (stepAt rs p.1 p.2).isSome = true) ∧ (∀ i j s, stepAt rs i j = some s → (i, j) ∈ L) ∧ ∀ k i j, L[k]? = some (i, j) → (∀ j', j' < j → (i, j') ∈ L.take k) ∧
  ∀ s w, stepAt rs i j = some s → s.d = some (false, w) → ∃ i' j' s', (i', j') ∈ L.take k ∧ stepAt rs i' j' = some s' ∧ s'.d = some (true, w)
theorem LinV.lin {rs : List Row} (h : LinV rs) : Lin rs := by
  obtain ⟨L, _, a, b⟩ := h
  exact ⟨L, a, b⟩
theorem LinV.add {rs : List Row} {i : Nat} {s : Stp} {r : Row} (h : LinV rs) (hr : rs[i]? = some r) (hs : ∀ w, s.d = some (false, w) → (true, w) ∈ deeds rs) : LinV (addS rs i s) := by
  obtain ⟨L, h0, h1, h2⟩ := h
  have hnew : stepAt rs i r.s.length = none := by
    unfold stepAt
    rw [hr]
    exact List.getElem?_eq_none (Nat.le_refl _)
  have mono : ∀ a b s', stepAt rs a b = some s' → stepAt (addS rs i s) a b = some s' := fun a b s' e => by
    rw [addS_step hr, if_neg]
    · exact e
    · rintro ⟨rfl, rfl⟩
      rw [hnew] at e
      cases e
  have hin : ∀ a b, (a, b) ∈ L → ¬ (a = i ∧ b = r.s.length) := fun a b m z => by
    have := h0 _ m
    dsimp only at this
    rw [z.1, z.2, hnew] at this
    cases this
  refine ⟨L ++ [(i, r.s.length)], fun p m => ?_, fun a b s' e => ?_, fun k a b e => ?_⟩
  · rcases List.mem_append.mp m with m | m
    · obtain ⟨s', hs'⟩ := Option.isSome_iff_exists.mp (h0 p m)
      rw [mono _ _ _ hs']
      rfl
    · rw [List.mem_singleton.mp m]
      show (stepAt (addS rs i s) i r.s.length).isSome = true
      rw [addS_step hr, if_pos ⟨rfl, rfl⟩]
      rfl
  · rw [addS_step hr] at e
    by_cases z : a = i ∧ b = r.s.length
    · rw [z.1, z.2]
      exact List.mem_append_right _ (List.mem_singleton.mpr rfl)
    · rw [if_neg z] at e
      exact List.mem_append_left _ (h1 a b s' e)
  · by_cases hk : k < L.length
    · rw [List.getElem?_append_left hk] at e
      obtain ⟨c1, c2⟩ := h2 k a b e
      have et : (L ++ [(i, r.s.length)]).take k = L.take k := List.take_append_of_le_length (Nat.le_of_lt hk)
      rw [et]
      refine ⟨c1, fun s' w es hw => ?_⟩
      rw [addS_step hr, if_neg (hin a b (List.mem_of_getElem? e))] at es
      obtain ⟨i', j', s2, m2, e2, d2⟩ := c2 s' w es hw
      exact ⟨i', j', s2, m2, mono _ _ _ e2, d2⟩
    · rw [List.getElem?_append_right (Nat.le_of_not_lt hk)] at e
      have hk' : k = L.length := by
        by_cases z : k - L.length = 0
        · omega
        · rw [List.getElem?_eq_none (by simp; omega)] at e
          cases e
      subst hk'
      rw [Nat.sub_self] at e
      have e' : (i, r.s.length) = (a, b) := Option.some.inj e
      cases e'
      have et : (L ++ [(i, r.s.length)]).take L.length = L := by rw [List.take_append_of_le_length (Nat.le_refl _), List.take_length]
      rw [et]
      refine ⟨fun j' hj => ?_, fun s' w es hw => ?_⟩
      · exact h1 i j' _ (stepAt_of hr (List.getElem?_eq_getElem hj))
      · rw [addS_step hr, if_pos ⟨rfl, rfl⟩] at es
        cases es
        obtain ⟨i', j', s2, e2, d2⟩ := mem_deeds.mp (hs w hw)
        exact ⟨i', j', s2, h1 _ _ _ e2, mono _ _ _ e2, d2⟩
/-! ### what holds between two turns of the law -/
structure MI (ns ws : List Str) (rs : List Row) (op : List Str) (fr : Nat) : Prop where
  names : rs.map (·.n) = ns
  kind : ∀ r ∈ rs, r.k = true
  len : ∀ r ∈ rs, r.s.length ≤ 20
  step : ∀ r ∈ rs, ∀ s ∈ r.s, stepD (stpP s) = true
  once : (deeds rs).Nodup
  used : ∀ b w, (b, w) ∈ deeds rs → w ∈ ws.take fr
  opn : op.Nodup
  opl : op.length ≤ fr
  ops : ∀ w ∈ op, (true, w) ∈ deeds rs ∧ (false, w) ∉ deeds rs
  sent : ∀ w, (false, w) ∈ deeds rs → (true, w) ∈ deeds rs
  lin : LinV rs
theorem MI.valid {ns ws : List Str} {rs : List Row} {op : List Str} {fr : Nat} (h : MI ns ws rs op fr) (h6 : ns.length ≤ 6) (hn : ∀ n ∈ ns, nameD 6 (.str n) = true) (hd : ns.Nodup) : Valid rs where
  few := by have := congrArg List.length h.names; rw [List.length_map] at this; omega
  name := fun r m => hn _ (by rw [← h.names]; exact List.mem_map_of_mem m)
  nd := by rw [h.names]; exact hd
  len := h.len
  step := h.step
  once := h.once
  sent := h.sent
  done := lin_done h.lin.lin
theorem MI.start {ns ws : List Str} : MI ns ws (ns.map fun n => ⟨n, true, []⟩) [] 0 where
  names := by rw [List.map_map]; exact List.map_id _
  kind := fun r m => by obtain ⟨n, _, rfl⟩ := List.mem_map.mp m; rfl
  len := fun r m => by obtain ⟨n, _, rfl⟩ := List.mem_map.mp m; exact Nat.zero_le _
  step := fun r m => by obtain ⟨n, _, rfl⟩ := List.mem_map.mp m; exact fun _ h => by cases h
  once := by
    have : deeds (ns.map fun n => ⟨n, true, []⟩) = [] := by
      induction ns with
      | nil => rfl
      | cons n ns ih => rw [List.map_cons, deeds_cons, ih]; rfl
    rw [this]
    exact List.nodup_nil
  used := fun b w h => by
    obtain ⟨i, j, s, e, _⟩ := mem_deeds.mp h
    obtain ⟨r, a, b⟩ := stepAt_row e
    obtain ⟨n, _, rfl⟩ := List.mem_map.mp (List.mem_of_getElem? a)
    cases b
  opn := List.nodup_nil
  opl := Nat.le_refl _
  ops := fun w h => by cases h
  sent := fun w h => by
    obtain ⟨i, j, s, e, _⟩ := mem_deeds.mp h
    obtain ⟨r, a, b⟩ := stepAt_row e
    obtain ⟨n, _, rfl⟩ := List.mem_map.mp (List.mem_of_getElem? a)
    cases b
  lin := by
    refine ⟨[], fun p h => ?_, fun i j s e => ?_, fun k i j e => ?_⟩
    · cases h
    · obtain ⟨r, a, b⟩ := stepAt_row e
      obtain ⟨n, _, rfl⟩ := List.mem_map.mp (List.mem_of_getElem? a)
      cases b
    · cases e
theorem mem_take_mono {ws : List Str} {a b : Nat} {w : Str} (h : w ∈ ws.take a) (hab : a ≤ b) : w ∈ ws.take b := by
  have e : ws.take a = (ws.take b).take a := by rw [List.take_take, Nat.min_eq_left hab]
  rw [e] at h
  exact List.mem_of_mem_take h
theorem MI.more {ns ws : List Str} {rs : List Row} {op : List Str} {fr fr' : Nat} (h : MI ns ws rs op fr) (hf : fr ≤ fr') : MI ns ws rs op fr' := { h with
  used := fun b w m => mem_take_mono (h.used b w m) hf
  opl := Nat.le_trans h.opl hf }
theorem MI.perm {ns ws : List Str} {rs : List Row} {op op' : List Str} {fr : Nat} (h : MI ns ws rs op fr) (hp : op'.Perm op) : MI ns ws rs op' fr := { h with
  opn := hp.nodup_iff.mpr h.opn
  opl := by rw [hp.length_eq]; exact h.opl
  ops := fun w m => h.ops w (hp.mem_iff.mp m) }
/-- a step with what it does, and what is open then -/
theorem MI.add {ns ws : List Str} {rs : List Row} {op op' : List Str} {fr : Nat} {i : Nat} {r : Row} {s : Stp} (h : MI ns ws rs op fr) (hr : rs[i]? = some r) (hl : r.s.length < 20) (hs : stepD (stpP s) = true)
    (h1 : ∀ d, s.d = some d → d ∉ deeds rs) (h2 : ∀ b w, s.d = some (b, w) → w ∈ ws.take fr) (h3 : ∀ w, s.d = some (false, w) → (true, w) ∈ deeds rs) (h4 : op'.Nodup) (h6 : op'.length ≤ fr)
    (h5 : ∀ w ∈ op', ((true, w) ∈ deeds rs ∨ s.d = some (true, w)) ∧ (false, w) ∉ deeds rs ∧ s.d ≠ some (false, w)) : MI ns ws (addS rs i s) op' fr := by
  have hp := addS_deeds (s := s) (List.getElem?_eq_some_iff.mp hr).1
  have hm : ∀ d, d ∈ deeds (addS rs i s) ↔ s.d = some d ∨ d ∈ deeds rs := fun d => by
    rw [hp.mem_iff, List.mem_append, Option.mem_toList]
  refine ⟨by rw [addS_names]; exact h.names, fun q m => ?_, fun q m => ?_, fun q m => ?_, ?_, fun b w m => ?_, h4, h6, fun w m => ?_, fun w m => ?_, h.lin.add hr h3⟩
  · rcases addS_mem m with m | ⟨r0, e, rfl⟩
    · exact h.kind q m
    · exact h.kind r0 (List.mem_of_getElem? e)
  · rcases addS_mem m with m | ⟨r0, e, rfl⟩
    · exact h.len q m
    · rw [hr] at e
      cases e
      show (r.s ++ [s]).length ≤ 20
      rw [List.length_append]
      exact hl
  · rcases addS_mem m with m | ⟨r0, e, rfl⟩
    · exact h.step q m
    · intro s' ms
      rcases List.mem_append.mp ms with ms | ms
      · exact h.step r0 (List.mem_of_getElem? e) s' ms
      · rw [List.mem_singleton.mp ms]; exact hs
  · rw [hp.nodup_iff]
    cases hd : s.d with
    | none => exact h.once
    | some d => exact List.nodup_cons.mpr ⟨h1 d hd, h.once⟩
  · rcases (hm _).mp m with m | m
    · exact h2 b w m
    · exact h.used b w m
  · obtain ⟨a, b, c⟩ := h5 w m
    refine ⟨(hm _).mpr (a.symm), fun z => ?_⟩
    rcases (hm _).mp z with z | z
    · exact c z
    · exact b z
  · rcases (hm _).mp m with m | m
    · exact (hm _).mpr (.inr (h3 w m))
    · exact (hm _).mpr (.inr (h.sent w m))
end My
set_option Elab.async false
set_option linter.all false
set_option maxRecDepth 100000
namespace My
open PySem PySem.Spec PyProof.Rows L2 TL
/-- what is left if the row is full -/
def FullQ (ns ws : List Str) (rs : List Row) (op : List Str) (fr : Nat) : Option (Bool × Str) → Prop
  | none => MI ns ws rs op fr
  | some (true, w) => ∃ j, op[j]? = some w ∧ (∀ m, m < j → op[m]? ≠ some w) ∧ MI ns ws rs (op.eraseIdx j) fr
  | some (false, w) => MI ns ws rs (op ++ [w]) fr
/-- what is drawn for a step, what is open then; and what is left if the row is full -/
structure Out (ns ws : List Str) (rs : List Row) (d : Option (Bool × Str)) (op : List Str) (fr : Nat) : Prop where
  ok : ∀ i r m n, rs[i]? = some r → r.s.length < 20 → stepD (stpP ⟨m, n, d⟩) = true → MI ns ws (addS rs i ⟨m, n, d⟩) op fr
  deed : ∀ b w, d = some (b, w) → nameD 4 (.str w) = true
  full : FullQ ns ws rs op fr d
theorem nodup_take {ws : List Str} {fr : Nat} (h : ws.Nodup) (hf : fr < ws.length) : ws[fr] ∉ ws.take fr := fun m => by
  obtain ⟨j, hj⟩ := List.getElem?_of_mem m
  rw [List.getElem?_take] at hj
  by_cases z : j < fr
  · rw [if_pos z] at hj
    have := (List.getElem?_inj (by omega) h).mp (hj.trans (List.getElem?_eq_getElem hf).symm)
    omega
  · rw [if_neg z] at hj
    cases hj
theorem out_none {ns ws : List Str} {rs : List Row} {op : List Str} {fr : Nat} (h : MI ns ws rs op fr) : Out ns ws rs none op fr :=
  ⟨fun i r m n hr hl hs => h.add hr hl hs (fun d e => (by cases e)) (fun b w e => (by cases e)) (fun w e => (by cases e)) h.opn h.opl fun w m' => ⟨.inl (h.ops w m').1, (h.ops w m').2, fun e => (by cases e)⟩, fun b w e => (by cases e), h⟩
theorem out_send {ns ws : List Str} {rs : List Row} {op : List Str} {fr : Nat} (h : MI ns ws rs op fr) (hw : ws.Nodup) (hf : fr < ws.length) (h4 : ∀ w ∈ ws, nameD 4 (.str w) = true) : Out ns ws rs (some (true, ws[fr])) (op ++ [ws[fr]]) (fr + 1) := by
  have hn := nodup_take hw hf
  have hd : ∀ b, (b, ws[fr]) ∉ deeds rs := fun b z => hn (h.used b _ z)
  have ho : ws[fr] ∉ op := fun z => hd true (h.ops _ z).1
  have hm : ws[fr] ∈ ws.take (fr + 1) := by
    rw [List.take_add_one, List.getElem?_eq_getElem hf]
    exact List.mem_append_right _ (List.mem_singleton.mpr rfl)
  refine ⟨fun i r m n hr hl hs => (h.more (Nat.le_succ fr)).add hr hl hs (fun d e => ?_) (fun b w e => ?_) (fun w e => ?_) ?_ (by rw [List.length_append]; exact Nat.succ_le_succ h.opl) fun w m' => ?_, fun b w e => ?_, ⟨op.length, ?_, fun m hm' => ?_, ?_⟩⟩
  · cases e; exact hd true
  · cases e; exact hm
  · cases e
  · refine List.nodup_append.mpr ⟨h.opn, List.nodup_cons.mpr ⟨List.not_mem_nil, List.nodup_nil⟩, fun a ha b hb => ?_⟩
    rw [List.mem_singleton.mp hb]
    exact fun z => ho (z ▸ ha)
  · rcases List.mem_append.mp m' with m' | m'
    · exact ⟨.inl (h.ops w m').1, (h.ops w m').2, fun e => by cases e⟩
    · rw [List.mem_singleton.mp m']
      exact ⟨.inr rfl, hd false, fun e => by cases e⟩
  · cases e; exact h4 _ (List.getElem_mem hf)
  · exact List.getElem?_concat_length
  · rw [List.getElem?_append_left hm']
    exact fun z => ho (List.mem_of_getElem? z)
  · rw [List.eraseIdx_append_of_length_le (Nat.le_refl _), Nat.sub_self]
    show MI ns ws rs (op ++ []) (fr + 1)
    rw [List.append_nil]
    exact h.more (Nat.le_succ fr)
theorem out_recv {ns ws : List Str} {rs : List Row} {op : List Str} {fr : Nat} (h : MI ns ws rs op fr) {j : Nat} (hj : j < op.length) (h4 : ∀ w ∈ ws, nameD 4 (.str w) = true) : Out ns ws rs (some (false, op[j])) (op.eraseIdx j) fr := by
  have hp := perm_erase op j hj
  have hnd := List.nodup_cons.mp (hp.nodup_iff.mpr h.opn)
  obtain ⟨o1, o2⟩ := h.ops _ (List.getElem_mem hj)
  refine ⟨fun i r m n hr hl hs => h.add hr hl hs (fun d e => ?_) (fun b w e => ?_) (fun w e => ?_) hnd.2 (by rw [List.length_eraseIdx_of_lt hj]; have := h.opl; omega) fun w m' => ?_, fun b w e => ?_, ?_⟩
  · cases e; exact o2
  · cases e; exact h.used true _ o1
  · cases e; exact o1
  · obtain ⟨a, b⟩ := h.ops w (hp.mem_iff.mp (List.mem_cons_of_mem _ m'))
    refine ⟨.inl a, b, fun e => ?_⟩
    have e' : op[j] = w := by cases e; rfl
    exact hnd.1 (e' ▸ m')
  · cases e; exact h4 _ (List.mem_of_mem_take (h.used true _ o1))
  · exact h.perm (List.perm_append_comm.trans hp)
theorem step_ok {m : Str} {n : Int} {d : Option (Bool × Str)} (hm : nameD 4 (.str m) = true) (h0 : -99 ≤ n) (h1 : n ≤ 99) (hd : ∀ b w, d = some (b, w) → nameD 4 (.str w) = true) : stepD (stpP ⟨m, n, d⟩) = true := by
  show (nameD 4 (.str m) && ((decide (-99 ≤ n) && decide (n ≤ 99)) && deedD (deedP d))) = true
  rw [hm, decide_eq_true h0, decide_eq_true h1]
  cases d with
  | none => rfl
  | some d =>
    obtain ⟨b, w⟩ := d
    have := hd b w rfl
    cases b
    · show (true && (true && (([PyData.str "send", PyData.str "receive"].any fun z => PyData.eqv z (.str "receive")) && nameD 4 (.str w)))) = true
      rw [this]
      decide +kernel
    · show (true && (true && (([PyData.str "send", PyData.str "receive"].any fun z => PyData.eqv z (.str "send")) && nameD 4 (.str w)))) = true
      rw [this]
      decide +kernel
def lawMore : List Str := ["aa", "bc", "long", "x", "y", "dd"]
def lawWords : List Str := (("mnopkhijuvwrst" : Str).cps.toList.map fun c => (⟨#[c]⟩ : Str)) ++ lawMore
theorem words_nd : lawWords.Nodup := by decide +kernel
theorem words_ok : ∀ w ∈ lawWords, nameD 4 (.str w) = true := by decide +kernel
theorem words_len : lawWords.length = 20 := by decide +kernel
def lawNames : List Str := ["a", "b", "low", "q", "zetas", "cc"]
theorem names_nd : lawNames.Nodup := by decide +kernel
theorem names_ok : ∀ w ∈ lawNames, nameD 6 (.str w) = true := by decide +kernel
end My
set_option Elab.async false
set_option linter.all false
set_option maxRecDepth 100000
namespace My
open PySem PySem.Spec PyProof.Rows L2 TL
/-- what the law may change while it makes rows -/
def SR (B : BagId) (O : Addr) (ls : List Addr) : Sh := fun a => a = B.p ∨ a = O ∨ a ∈ ls
/-- the rows as they stand: a list R of pairs ts, their lists ls; what is open at O; the words at W -/
structure HR (K : PySem.W.Frag) (B : BagId) (H0 H : Hp) (R O W : Addr) (ts ls : List Addr) (rs : List Row) (op : List Str) : Prop where
  b0 : Bag B H0
  bag : Bag B H
  ext : Ext B.p H0 H
  new : ∀ a, a = O ∨ a ∈ ls → H0 a = none
  hR : H R = some (.lst (ts.map V.ref))
  hO : H O = some (.lst (op.map V.str))
  hW : H W = some (.lst (lawWords.map V.str))
  nR : ¬ SR B O ls R
  nW : ¬ SR B O ls W
  nO : O ∉ ls
  nd : ls.Nodup
  tl : ts.length = rs.length
  ll : ls.length = rs.length
  row : ∀ (i : Nat) (r : Row), rs[i]? = some r → ∃ t l vs, ts[i]? = some t ∧ ls[i]? = some l ∧ ¬ SR B O ls t ∧ H t = some (.tup [.str r.n, .ref l]) ∧ H l = some (.lst vs) ∧ DsAll K (SR B O ls) H vs (r.s.map stpP)
  live : Live (SR B O ls) H
section
variable {K : PySem.W.Frag} {B : BagId} {H0 H H' : Hp} {R O W : Addr} {ts ls : List Addr} {rs : List Row} {op op' : List Str}
theorem HR.ne (h : HR K B H0 H R O W ts ls rs op) {a : Addr} (ha : a = O ∨ a ∈ ls) : a ≠ B.p ∧ a ≠ B.l := ⟨h.b0.ne (h.new a ha), h.b0.neL (h.new a ha)⟩
theorem HR.keep (h : HR K B H0 H R O W ts ls rs op) (hb : Bag B H') (ex : Ext B.p H H') : HR K B H0 H' R O W ts ls rs op := { h with
  bag := hb
  ext := fun b o e n => ex _ _ (h.ext b o e n) n
  hR := ex _ _ h.hR fun z => h.nR (.inl z)
  hO := ex _ _ h.hO (h.ne (.inl rfl)).1
  hW := ex _ _ h.hW fun z => h.nW (.inl z)
  row := fun i r e => by
    obtain ⟨t, l, vs, a1, a2, a3, a4, a5, a6⟩ := h.row i r e
    exact ⟨t, l, vs, a1, a2, a3, ex _ _ a4 fun z => a3 (.inl z), ex _ _ a5 (h.ne (.inr (List.mem_of_getElem? a2))).1, a6.byX (XS.ext ex (.inl rfl))⟩
  live := fun a ha => by
    rcases ha with rfl | ha
    · exact hb.there
    · obtain ⟨o, e⟩ := h.live a (.inr ha)
      exact ⟨o, ex _ _ e (h.ne ha).1⟩ }
theorem HR.same (h : HR K B H0 H R O W ts ls rs op) (s : Same H H') : HR K B H0 H' R O W ts ls rs op := h.keep (h.bag.ext s) fun b o e _ => s _ _ e
theorem HR.setO (h : HR K B H0 H R O W ts ls rs op) : HR K B H0 (upd H O (.lst (op'.map V.str))) R O W ts ls rs op' := { h with
  bag := h.bag.upd (h.ne (.inl rfl)).1 (h.ne (.inl rfl)).2
  ext := fun b o e n => by
    rw [upd_ne fun z => by rw [z, h.new O (.inl rfl)] at e; cases e]
    exact h.ext b o e n
  hR := by rw [upd_ne fun z => h.nR (.inr (.inl z))]; exact h.hR
  hO := upd_same
  hW := by rw [upd_ne fun z => h.nW (.inr (.inl z))]; exact h.hW
  row := fun i r e => by
    obtain ⟨t, l, vs, a1, a2, a3, a4, a5, a6⟩ := h.row i r e
    refine ⟨t, l, vs, a1, a2, a3, ?_, ?_, a6.byX (XS.upd (.inr (.inl rfl)))⟩
    · rw [upd_ne fun z => a3 (.inr (.inl z))]; exact a4
    · rw [upd_ne fun z => h.nO (by rw [← z]; exact List.mem_of_getElem? a2)]; exact a5
  live := h.live.upd }
theorem HR.push (h : HR K B H0 H R O W ts ls rs op) {i : Nat} {l : Addr} {vs : List V} {v : V} {r : Row} {s : Stp} (hr : rs[i]? = some r) (hl : ls[i]? = some l) (hv : H l = some (.lst vs)) (hd : Ds K (SR B O ls) H v (stpP s)) : HR K B H0 (upd H l (.lst (vs ++ [v]))) R O W ts ls (addS rs i s) op := by
  have ml : l ∈ ls := List.mem_of_getElem? hl
  exact { h with
  bag := h.bag.upd (h.ne (.inr ml)).1 (h.ne (.inr ml)).2
  ext := fun b o e n => by
    rw [upd_ne fun z => by rw [z, h.new l (.inr ml)] at e; cases e]
    exact h.ext b o e n
  hR := by rw [upd_ne fun z => h.nR (.inr (.inr (by rw [z]; exact ml)))]; exact h.hR
  hO := by rw [upd_ne fun z => h.nO (by rw [z]; exact ml)]; exact h.hO
  hW := by rw [upd_ne fun z => h.nW (.inr (.inr (by rw [z]; exact ml)))]; exact h.hW
  tl := by rw [addS_len]; exact h.tl
  ll := by rw [addS_len]; exact h.ll
  row := fun j r' e => by
    rw [addS_at] at e
    by_cases z : j = i
    · subst z
      rw [if_pos rfl, hr] at e
      cases e
      obtain ⟨t, l', vs', a1, a2, a3, a4, a5, a6⟩ := h.row j r hr
      rw [hl] at a2
      cases a2
      rw [hv] at a5
      cases a5
      refine ⟨t, l, vs ++ [v], a1, hl, a3, ?_, upd_same, ?_⟩
      · rw [upd_ne fun z => a3 (.inr (.inr (by rw [z]; exact ml)))]; exact a4
      · have e : (addR r s).s.map stpP = r.s.map stpP ++ [stpP s] := by
          show (r.s ++ [s]).map stpP = _
          rw [List.map_append]
          rfl
        rw [e]
        exact (a6.app (.cons hd .nil)).byX (XS.upd (.inr (.inr ml)))
    · rw [if_neg z] at e
      obtain ⟨t, l', vs', a1, a2, a3, a4, a5, a6⟩ := h.row j r' e
      refine ⟨t, l', vs', a1, a2, a3, ?_, ?_, a6.byX (XS.upd (.inr (.inr ml)))⟩
      · rw [upd_ne fun z => a3 (.inr (.inr (by rw [z]; exact ml)))]; exact a4
      · rw [upd_ne fun q => z ?_]
        · exact a5
        · subst q
          exact (List.getElem?_inj (List.getElem?_eq_some_iff.mp a2).1 h.nd).mp (a2.trans hl.symm)
  live := h.live.upd }
/-- what stands there at the end -/
theorem HR.data (h : HR K B H0 H R O W ts ls rs op) (hk : ∀ r ∈ rs, r.k = true) : Ds K (fun a => a = B.p) H (.ref R) (.list (rs.map rowP)) := by
  refine .lst ⟨fun z => h.nR (.inl z), h.hR⟩ ?_
  have key : ∀ (n : Nat), n ≤ rs.length → DsAll K (fun a => a = B.p) H ((ts.take n).map V.ref) ((rs.take n).map rowP) := by
    intro n
    induction n with
    | zero => intro _; exact .nil
    | succ n ih =>
      intro hn
      have er : rs[n]? = some rs[n] := List.getElem?_eq_getElem (by omega)
      obtain ⟨t, l, vs, a1, a2, a3, a4, a5, a6⟩ := h.row n _ er
      rw [List.take_add_one, List.take_add_one, a1, er, List.map_append, List.map_append]
      refine (ih (by omega)).app (.cons ?_ .nil)
      show Ds K _ H (.ref t) (rowP rs[n])
      unfold rowP
      rw [hk _ (List.getElem_mem _)]
      exact .tup ⟨fun z => a3 (.inl z), a4⟩ (.cons (.str _) (.cons (.lst ⟨(h.ne (.inr (List.mem_of_getElem? a2))).1, a5⟩ (a6.less fun b z => .inl z)) .nil))
  have := key rs.length (Nat.le_refl _)
  rw [List.take_length, ← h.tl, List.take_length] at this
  exact this
/-- [(name, []) for name in names] -/
theorem mk_rows {S : Sh} {σ : L2.St} {nm : Addr} {ns : List Str} {j : Nat} {Q : VK} (l : Live S H) (hσ : σ[3]? = some (some (.ref nm))) (hj : ∀ v, wipe ((wipe σ [12]).set 12 (some v)) [12] = wipe σ [12]) (hs : ∀ v, ((wipe σ [12]).set 12 (some v))[12]? = some (some v)) (hnm : ¬ S nm ∧ H nm = some (.lst (ns.map V.str))) (hl : ns.length ≤ 5000)
    (q : ∀ (R : Addr) (ts ls : List Addr) (H' : Hp), Same H H' → H R = none → H' R = some (.lst (ts.map V.ref)) → ls.Nodup → (∀ l ∈ ls, H l = none ∧ l ≠ R) → ts.length = ns.length → ls.length = ns.length →
      (∀ (i : Nat) (n : Str), ns[i]? = some n → ∃ t l, ts[i]? = some t ∧ ls[i]? = some l ∧ H t = none ∧ H' t = some (.tup [.str n, .ref l]) ∧ H' l = some (.lst [])) → Q (.ref R) H') :
    tLc (iAny K (tVar 3)) (gName 12) tYes (tTup (tCons (tVar 12) (tCons (tLst tNil) tNil))) [12] σ H Q := by
  have hv : Ds K S H (.ref nm) (.list (ns.map PyData.str)) := .lst hnm ds_strs
  refine si_l (sv_var hσ hv) S H (Now.refl l) _ fun J H2 s2 w D nD => ?_
  have l2 : Live S H2 := l.same s2
  refine lc_it w (fun i H3 => ∃ ts ls : List Addr, H3 D = some (.lst (ts.map V.ref)) ∧ Same H2 H3 ∧ ls.Nodup ∧ (∀ l ∈ ls, H2 l = none ∧ l ≠ D) ∧ ts.length = i ∧ ls.length = i ∧
      (∀ (k : Nat) (n : Str), k < i → ns[k]? = some n → ∃ t l, ts[k]? = some t ∧ ls[k]? = some l ∧ H2 t = none ∧ t ≠ D ∧ H3 t = some (.tup [.str n, .ref l]) ∧ H3 l = some (.lst [])))
    ⟨[], [], upd_same, same_upd nD, List.nodup_nil, fun l h => (by cases h), rfl, rfl, fun k n h => (by omega)⟩ (fun i H3 _ ⟨_, _, _, z, _⟩ => ⟨_, (Now.of l2 z).step⟩) (fun i x H3 H4 hi ⟨ts, ls, e3, s3, nd, fr, lt, ll, ht⟩ ⟨s4, d, ed, hd⟩ => ?_) fun H3 ⟨ts, ls, e3, s3, nd, fr, lt, ll, ht⟩ => ?_
  · obtain ⟨n, en, rfl⟩ := map_inv ed
    have hx := (hd S (Now.of l2 s3).step).s
    subst hx
    refine ⟨hj _, ?_⟩
    dsimp only [tYes]
    rw [if_pos rfl]
    refine ⟨_, hs _, Nat.zero_le _, fun lA nl => ⟨szl (by show 1 < 100000; decide), fun tA nt => ?_⟩⟩
    have nl3 : H3 lA = none := s4.free nl
    have nl2 : H2 lA = none := s3.free nl3
    have ntl : (upd H4 lA (.lst [])) tA = none := nt
    have nt4 : H4 tA = none := (same_upd (o := .lst []) nl).free ntl
    have nt2 : H2 tA = none := s3.free (s4.free nt4)
    have s6 : Same H4 (upd (upd H4 lA (.lst [])) tA (.tup [.str n, .ref lA])) := (same_upd nl).trans (same_upd nt)
    have eD4 := s4 _ _ e3
    have hlD : lA ≠ D := fun z => by rw [z, eD4] at nl; cases nl
    have htD : tA ≠ D := fun z => by rw [z, eD4] at nt4; cases nt4
    have htl : tA ≠ lA := fun z => by rw [z, upd_same] at nt; cases nt
    have et : (upd (upd H4 lA (.lst [])) tA (.tup [.str n, .ref lA])) tA = some (.tup [.str n, .ref lA]) := upd_same
    have el : (upd (upd H4 lA (.lst [])) tA (.tup [.str n, .ref lA])) lA = some (.lst []) := same_upd nt _ _ upd_same
    generalize upd (upd H4 lA (.lst [])) tA (.tup [.str n, .ref lA]) = H6 at s6 et el
    have hlnew : lA ∉ ls := fun z => by
      obtain ⟨k, hk⟩ := List.getElem?_of_mem z
      have hk' : k < i := by rw [← ll]; exact (List.getElem?_eq_some_iff.mp hk).1
      obtain ⟨t, l', a1, a2, a3, a4, a5, a6⟩ := ht k _ hk' (List.getElem?_eq_getElem (by rw [List.length_map] at hi; omega))
      rw [hk] at a2
      cases a2
      rw [nl3] at a6
      cases a6
    refine ⟨ts.map V.ref, s6 _ _ eD4, szl (by rw [List.length_map, lt]; rw [List.length_map] at hi; omega), ts ++ [tA], ls ++ [lA], ?_, ?_, ?_, ?_, ?_, ?_, fun k m hk em => ?_⟩
    · rw [upd_same, List.map_append]
      rfl
    · exact fun b o e => by
        rw [upd_ne fun z => by rw [z, nD] at e; cases e]
        exact s6 _ _ (s4 _ _ (s3 _ _ e))
    · refine List.nodup_append.mpr ⟨nd, List.nodup_cons.mpr ⟨List.not_mem_nil, List.nodup_nil⟩, fun a ha b hb => ?_⟩
      rw [List.mem_singleton.mp hb]
      exact fun z => hlnew (by rw [← z]; exact ha)
    · intro l' hl'
      rcases List.mem_append.mp hl' with hl' | hl'
      · exact fr l' hl'
      · rw [List.mem_singleton.mp hl']; exact ⟨nl2, hlD⟩
    · rw [List.length_append, lt]; rfl
    · rw [List.length_append, ll]; rfl
    · by_cases z : k < i
      · obtain ⟨t, l', a1, a2, a3, a4, a5, a6⟩ := ht k m z em
        refine ⟨t, l', ?_, ?_, a3, a4, ?_, ?_⟩
        · rw [List.getElem?_append_left (by omega)]; exact a1
        · rw [List.getElem?_append_left (by omega)]; exact a2
        · rw [upd_ne a4]; exact s6 _ _ (s4 _ _ a5)
        · rw [upd_ne (fr l' (List.mem_of_getElem? a2)).2]; exact s6 _ _ (s4 _ _ a6)
      · have hk' : k = i := by omega
        subst hk'
        rw [en] at em
        cases em
        refine ⟨tA, lA, ?_, ?_, nt2, htD, ?_, ?_⟩
        · rw [List.getElem?_append_right (by omega), lt, Nat.sub_self]; rfl
        · rw [List.getElem?_append_right (by omega), ll, Nat.sub_self]; rfl
        · rw [upd_ne htD]; exact et
        · rw [upd_ne hlD]; exact el
  · rw [List.length_map] at lt ll ht
    refine q D ts ls H3 (s2.trans s3) (s2.free nD) e3 nd (fun l' h => ⟨s2.free (fr l' h).1, (fr l' h).2⟩) lt ll fun i n e => ?_
    obtain ⟨t, l', a1, a2, a3, a4, a5, a6⟩ := ht i n (List.getElem?_eq_some_iff.mp e).1 e
    exact ⟨t, l', a1, a2, s2.free a3, a5, a6⟩
end
end My
set_option Elab.async false
set_option linter.all false
set_option maxRecDepth 100000
namespace My
open PySem PySem.Spec PyProof.Rows L2 TL
abbrev rLenQ (K : PySem.W.Frag) : List V → Hp → VK → Prop := fun xs H Q => ∃ x n, xs = [x] ∧ LenV K x H n ∧ Q (.int (n : Nat)) H
abbrev tCellQ (K : PySem.W.Frag) : TE := tOp (rIx K) (tOp (rIx K) (tVar 6) (tVar 9)) (tC (.int 1))
abbrev rowTS (K : PySem.W.Frag) : TS := tIfS (tTest (tOp (rI0 fun i j => .bl (decide (i < j))) (tCB (rLenQ K) (tCons (tCellQ K) tNil)) (tC (.int 20))))
  (tDrop (tBM K "list" rAppend (tCellQ K) (tCons (tCall (spStep K) [] E0 (tCons (tVar 0) (tCons (tVar 11) tNil))) tNil)))
  (tIfS (tAnd (tTest (tOp (fun x y H Q => y = V.non ∧ Q (.bl (!decide (x = V.non))) H) (tVar 11) (tC .non))) (tTest (tOp rEq (tOp (rIx K) (tVar 11) (tC (.int 0))) (tC (.str "send")))))
    (tDrop (tBM K "list" rRemS (tVar 7) (tCons (tOp (rIx K) (tVar 11) (tC (.int 1))) tNil)))
    (tIfS (tTest (tOp (fun x y H Q => y = V.non ∧ Q (.bl (!decide (x = V.non))) H) (tVar 11) (tC .non))) (tDrop (tBM K "list" rAppend (tVar 7) (tCons (tOp (rIx K) (tVar 11) (tC (.int 1))) tNil))) tNext))
/-- how many steps -/
def tot (rs : List Row) : Nat := (rs.map fun r => r.s.length).sum
theorem addS_tot (s : Stp) : ∀ (rs : List Row) (i : Nat), tot (addS rs i s) ≤ tot rs + 1
  | [], i => by simp [addS, tot]
  | r :: rs, 0 => by
    show ((r.s ++ [s]).length + (rs.map fun r => r.s.length).sum) ≤ (r.s.length + (rs.map fun r => r.s.length).sum) + 1
    rw [List.length_append]
    show r.s.length + 1 + _ ≤ _
    omega
  | r :: rs, i + 1 => by
    have h := addS_tot s rs i
    show r.s.length + tot (addS rs i s) ≤ r.s.length + tot rs + 1
    omega
section
variable {K : PySem.W.Frag} {B : BagId} {H0 H H' : Hp} {R O W : Addr} {ts ls : List Addr} {rs : List Row} {op op' : List Str}
theorem cell_run {σ : L2.St} {Q : VK} {i : Nat} {t l : Addr} {n : Str} (h6 : σ[6]? = some (some (.ref R))) (h9 : σ[9]? = some (some (.int (i : Nat)))) (hR : H R = some (.lst (ts.map V.ref))) (ht : ts[i]? = some t) (hT : H t = some (.tup [.str n, .ref l])) (q : Q (.ref l) H) : tCellQ K σ H Q := by
  refine ⟨_, h6, _, h9, .inl ⟨R, _, _, .ref t, rfl, rfl, lsq hR, L2.atI_nat (by rw [List.getElem?_map, ht]; rfl), ?_⟩⟩
  exact .inr (.inl ⟨t, _, _, .ref l, rfl, rfl, .inl (.inl hT), L2.atI_nat (j := 1) rfl, q⟩)
theorem row_phase {D : Ends} {σ : L2.St} {ns ws : List Str} {d : Option (Bool × Str)} {fr i : Nat} {vd : V} (h : HR K B H0 H R O W ts ls rs op) (ho : Out ns ws rs d op fr) (hi : i < rs.length) (hd : Ds K (SR B O ls) H vd (deedP d)) (h120 : op.length ≤ 1000)
    (h0 : σ[0]? = some (some (.ref B.p))) (h6 : σ[6]? = some (some (.ref R))) (h7 : σ[7]? = some (some (.ref O))) (h9 : σ[9]? = some (some (.int (i : Nat)))) (h11 : σ[11]? = some (some vd))
    (k : ∀ H' rs' op', HR K B H0 H' R O W ts ls rs' op' → MI ns ws rs' op' fr → rs'.length = rs.length → tot rs' ≤ tot rs + 1 → D.nx σ H') : rowTS K D σ H := by
  have er : rs[i]? = some rs[i] := List.getElem?_eq_getElem hi
  obtain ⟨t, l, vs, a1, a2, a3, a4, a5, a6⟩ := h.row i _ er
  refine cell_run h6 h9 h.hR a1 a4 ⟨_, _, rfl, .inl ⟨_, lsq a5, rfl⟩, _, _, rfl, rfl, _, rfl, ite2 (fun e => ?_) (fun e => ?_)⟩
  · have e' := of_decide_eq_true e
    rw [a6.length, List.length_map] at e'
    refine cell_run h6 h9 h.hR a1 a4 ⟨.inl ⟨rfl, _, lsq a5⟩, ?_⟩
    refine ⟨_, h0, _, h11, SR B O ls, B, vd, deedP d, rfl, h.live, .inl rfl, h.bag, hd, fun v' m n H1 hB1 ex1 hv' hm h99 h100 => ?_⟩
    have g := h.keep hB1 ex1
    have a5' : H1 l = some (.lst vs) := ex1 _ _ a5 (h.ne (.inr (List.mem_of_getElem? a2))).1
    refine ⟨l, vs, v', rfl, rfl, a5', szl (by rw [a6.length, List.length_map]; omega), ?_⟩
    exact k _ _ _ (g.push (s := ⟨m, n, d⟩) er a2 a5' hv') (ho.ok i _ m n er (by omega) (step_ok hm h99 h100 ho.deed)) (addS_len _ _ _) (addS_tot _ _ _)
  · have hf := ho.full
    cases d with
    | none =>
      rw [hd.n] at h11
      exact ⟨_, h11, rfl, _, rfl, iteF ⟨_, h11, rfl, _, rfl, iteF (k _ _ _ h hf rfl (Nat.le_succ _))⟩⟩
    | some d =>
      obtain ⟨b, w⟩ := d
      obtain ⟨z, xs, rfl, lz, hs⟩ := Ds.t (ds := [.str (kindS b), .str w]) hd
      obtain ⟨v1, v2, rfl, hv1, hv2⟩ := hs.two
      rw [hv1.s, hv2.s] at lz
      have hz : SqT K H z [.str (kindS b), .str w] := lz.sq
      have i0 : ∀ Q2 : VK, Q2 (.str (kindS b)) H → (tOp (rIx K) (tVar 11) (tC (.int 0))) σ H Q2 := fun Q2 q => ⟨_, h11, .inr (.inl ⟨z, _, _, _, rfl, rfl, hz, L2.atI_nat (j := 0) rfl, q⟩)⟩
      have i1 : ∀ Q2 : VK, Q2 (.str w) H → (tOp (rIx K) (tVar 11) (tC (.int 1))) σ H Q2 := fun Q2 q => ⟨_, h11, .inr (.inl ⟨z, _, _, _, rfl, rfl, hz, L2.atI_nat (j := 1) rfl, q⟩)⟩
      refine ⟨_, h11, rfl, _, rfl, iteT (i0 _ ?_)⟩
      cases b with
      | true =>
        obtain ⟨j, hj, hm, mi⟩ := hf
        refine ⟨rfl, _, rfl, ite2 (fun _ => ?_) (fun e => absurd (decide_eq_true rfl) e)⟩
        refine ⟨_, h7, .inl ⟨rfl, _, lsq h.hO⟩, i1 _ ?_⟩
        exact ⟨O, op, w, j, rfl, rfl, h.hO, hj, hm, k _ _ _ (h.setO (op' := op.eraseIdx j)) mi rfl (Nat.le_succ _)⟩
      | false =>
        refine ⟨rfl, _, rfl, ite2 (fun e => absurd e (by decide +kernel)) (fun _ => ?_)⟩
        refine ⟨_, h11, rfl, _, rfl, iteT ⟨_, h7, .inl ⟨rfl, _, lsq h.hO⟩, i1 _ ?_⟩⟩
        refine ⟨O, _, _, rfl, rfl, h.hO, szl (by rw [List.length_map]; omega), ?_⟩
        have := k _ _ _ (h.setO (op' := op ++ [w])) hf rfl (Nat.le_succ _)
        rw [List.map_append] at this
        exact this
end
end My
set_option Elab.async false
set_option linter.all false
set_option maxRecDepth 100000
namespace My
open PySem PySem.Spec PyProof.Rows L2 TL
theorem ext_none {B : BagId} {H H' : Hp} {a : Addr} (hb : Bag B H') (ex : Ext B.p H H') (h : H' a = none) : H a = none := by
  cases e : H a with
  | none => rfl
  | some o =>
    have := ex a o e (hb.ne h)
    rw [h] at this
    cases this
abbrev deedTS (K : PySem.W.Frag) : TS := tIfS (tAnd (tTest (tOp rEq (tVar 10) (tC (.int 1)))) (tTest (tOp (rI0 fun i j => .bl (decide (i < j))) (tVar 8) (tCB (rLenQ K) (tCons (tVar 4) tNil)))))
  (tSeq (tPar 11 8 (tCons (tTup (tCons (tC (.str "send")) (tCons (tOp (rIx K) (tVar 4) (tVar 8)) tNil))) (tCons (tOp (rI0 fun i j => .int (i + j)) (tVar 8) (tC (.int 1))) tNil)))
    (tDrop (tBM K "list" rAppend (tVar 7) (tCons (tOp (rIx K) (tVar 11) (tC (.int 1))) tNil))))
  (tIfS (tAnd (tTest (tOp rEq (tVar 10) (tC (.int 2)))) (tTest (tOp (rNeD K) (tVar 7) (tLst tNil))))
    (tAsg (tTup (tCons (tC (.str "receive")) (tCons (tBM K "list" rPopAt (tVar 7) (tCons (tCall spDraw [] E0 (tCons (tVar 0) (tCons (tCB (rLenQ K) (tCons (tVar 7) tNil)) tNil))) tNil)) tNil))) (gName 11)) tNext)
section
variable {K : PySem.W.Frag} {B : BagId} {H0 H H' H2 H3 H4 : Hp} {R O W : Addr} {ts ls : List Addr} {rs : List Row} {op op' ns : List Str}
theorem HR.start (hB : Bag B H) (hB2 : Bag B H2) (x2 : Ext B.p H H2) (s3 : Same H2 H3) (s4 : Same H3 H4) (nR : H2 R = none) (eR : H3 R = some (.lst (ts.map V.ref))) (nd : ls.Nodup) (hl : ∀ l ∈ ls, H2 l = none ∧ l ≠ R) (tl : ts.length = ns.length) (ll : ls.length = ns.length)
    (hrow : ∀ (i : Nat) (n : Str), ns[i]? = some n → ∃ t l, ts[i]? = some t ∧ ls[i]? = some l ∧ H2 t = none ∧ H3 t = some (.tup [.str n, .ref l]) ∧ H3 l = some (.lst []))
    (nO : H3 O = none) (eO : H4 O = some (.lst [])) (nW : H3 W = none) (hWO : W ≠ O) (eW : H4 W = some (.lst (lawWords.map V.str))) : HR K B H H4 R O W ts ls (ns.map fun n => ⟨n, true, []⟩) [] := by
  have hls : ∀ l ∈ ls, H3 l = some (.lst []) := fun l m => by
    obtain ⟨k, hk⟩ := List.getElem?_of_mem m
    have hk' := (List.getElem?_eq_some_iff.mp hk).1
    obtain ⟨t, l', a1, a2, a3, a4, a5⟩ := hrow k _ (List.getElem?_eq_getElem (by omega))
    rw [hk] at a2
    cases a2
    exact a5
  exact {
    b0 := hB
    bag := hB2.ext (s3.trans s4)
    ext := fun b o e n => s4 _ _ (s3 _ _ (x2 b o e n))
    new := fun a ha => by
      rcases ha with rfl | ha
      · exact ext_none hB2 x2 (s3.free nO)
      · exact ext_none hB2 x2 (hl a ha).1
    hR := s4 _ _ eR
    hO := eO
    hW := eW
    nR := fun z => by
      rcases z with z | z | z
      · exact hB2.ne nR z
      · rw [z, nO] at eR; cases eR
      · exact (hl R z).2 rfl
    nW := fun z => by
      rcases z with z | z | z
      · exact hB2.ne (s3.free nW) z
      · exact hWO z
      · have := hls W z
        rw [nW] at this
        cases this
    nO := fun z => by
      have := hls O z
      rw [nO] at this
      cases this
    nd := nd
    tl := by rw [List.length_map]; exact tl
    ll := by rw [List.length_map]; exact ll
    row := fun i r e => by
      rw [List.getElem?_map] at e
      cases en : ns[i]? with
      | none => rw [en] at e; cases e
      | some n =>
        rw [en] at e
        cases e
        obtain ⟨t, l, a1, a2, a3, a4, a5⟩ := hrow i n en
        refine ⟨t, l, [], a1, a2, fun z => ?_, s4 _ _ a4, s4 _ _ a5, .nil⟩
        rcases z with z | z | z
        · exact hB2.ne a3 z
        · rw [z, nO] at a4; cases a4
        · have := hls t z
          rw [a4] at this
          cases this
    live := fun a ha => by
      rcases ha with rfl | rfl | ha
      · exact (hB2.ext (s3.trans s4)).there
      · exact ⟨_, eO⟩
      · exact ⟨_, s4 _ _ (hls a ha)⟩ }
theorem turns_run {σ : L2.St} {Q : VK} {many most : Nat} (hB : Bag B H) (hm : most ≤ 1000) (h0 : σ[0]? = some (some (.ref B.p))) (h1 : σ[1]? = some (some (.int (many : Nat)))) (h2 : σ[2]? = some (some (.int (most : Nat))))
    (k : ∀ (n : Nat) H', Bag B H' → Ext B.p H H' → (0 < n → 0 < many) → n ≤ most → Q (.int (n : Nat)) H') :
    (tIf (tTest (tOp (rI0 fun i j => .bl (decide (j < i))) (tVar 1) (tC (.int 0)))) (tCall spDraw [] E0 (tCons (tVar 0) (tCons (tOp (rI0 fun i j => .int (i + j)) (tVar 2) (tC (.int 1))) tNil))) (tC (.int 0))) σ H Q := by
  refine ⟨_, h1, _, _, rfl, rfl, _, rfl, ite2 (fun e => ?_) (fun e => ?_)⟩
  · have := of_decide_eq_true e
    refine ⟨_, h0, _, h2, _, _, rfl, rfl, B, _, rfl, hB, by omega, by omega, fun r H5 r0 r1 hB5 ex5 => ?_⟩
    obtain ⟨n, rfl⟩ := Int.eq_ofNat_of_zero_le r0
    exact k n H5 hB5 ex5 (fun _ => by omega) (by omega)
  · exact k 0 H hB (fun b o e _ => e) (fun z => by omega) (Nat.zero_le _)
abbrev stL (B : BagId) (R O W : Addr) (a1 a2 a3 x5 : Option V) (fr : Nat) (x9 : Option V) (way : Nat) (vd : V) (x12 : Option V) : L2.St := [some (.ref B.p), a1, a2, a3, some (.ref W), x5, some (.ref R), some (.ref O), some (.int (fr : Nat)), x9, some (.int (way : Nat)), some vd, x12]
theorem deed_phase {D : Ends} {a1 a2 a3 x5 x9 x12 : Option V} {fr way : Nat} (h : HR K B H0 H R O W ts ls rs op) (mi : MI ns lawWords rs op fr) (hfr : fr ≤ 20)
    (k : ∀ d op' fr' vd H', HR K B H0 H' R O W ts ls rs op' → Out ns lawWords rs d op' fr' → fr' ≤ 20 → op'.length ≤ 1000 → Ds K (SR B O ls) H' vd (deedP d) → D.nx (stL B R O W a1 a2 a3 x5 fr' x9 way vd x12) H') : deedTS K D (stL B R O W a1 a2 a3 x5 fr x9 way .non x12) H := by
  have hopl := mi.opl
  have hkeep : ∀ H', HR K B H0 H' R O W ts ls rs op → D.nx (stL B R O W a1 a2 a3 x5 fr x9 way .non x12) H' := fun H' g => k none op fr .non H' g (out_none mi) hfr (by omega) .non
  have recv : (tIfS (tAnd (tTest (tOp rEq (tVar 10) (tC (.int 2)))) (tTest (tOp (rNeD K) (tVar 7) (tLst tNil))))
    (tAsg (tTup (tCons (tC (.str "receive")) (tCons (tBM K "list" rPopAt (tVar 7) (tCons (tCall spDraw [] E0 (tCons (tVar 0) (tCons (tCB (rLenQ K) (tCons (tVar 7) tNil)) tNil))) tNil)) tNil))) (gName 11)) tNext) D (stL B R O W a1 a2 a3 x5 fr x9 way .non x12) H := by
    refine ⟨_, rfl, rfl, _, rfl, ite2 (fun e => ?_) (fun _ => iteF (hkeep H h))⟩
    have hw : ∀ x ∈ op, fine (.str x) = true := fun x m => name_fine (words_ok x (List.mem_of_mem_take (mi.used true x (mi.ops x m).1))) (by decide)
    refine ⟨_, rfl, Nat.zero_le _, fun z nz => ?_⟩
    have s1 : Same H (upd H z (.lst [])) := same_upd nz
    refine ⟨_, _, dp_strs (s1 _ _ h.hO), dp_strs (xs := []) upd_same, fine_shaped (fine_strs (by omega) hw), by decide, ?_⟩
    have g1 := h.same s1
    generalize upd H z (.lst []) = H1 at s1 g1
    rw [show (List.map PyData.str ([] : List Str)) = [] from rfl, ne_nil]
    refine ⟨_, rfl, ite2 (fun e => ?_) (fun _ => hkeep H1 g1)⟩
    have hpos : 0 < op.length := List.length_pos_iff.mpr (of_decide_eq_true e)
    refine ⟨_, rfl, .inl ⟨rfl, _, lsq g1.hO⟩, _, rfl, _, rfl, V.ref O, op.length, rfl, .inl ⟨_, lsq g1.hO, by rw [List.length_map]⟩, B, _, rfl, g1.bag, by omega, by omega, fun r H3 r0 r1 hB3 ex3 => ?_⟩
    obtain ⟨j, rfl⟩ := Int.eq_ofNat_of_zero_le r0
    have g3 := g1.keep hB3 ex3
    have hj : j < (op.map V.str).length := by rw [List.length_map]; omega
    obtain ⟨k', b1, b2, b3⟩ := ixS hj
    rw [List.length_map] at b3
    have ev : (op.map V.str)[j] = V.str op[k'] := by
      rw [List.getElem?_map, List.getElem?_eq_getElem b3] at b2
      exact (Option.some.inj b2).symm
    refine ⟨O, _, _, k', _, rfl, rfl, g3.hO, by omega, by omega, b1, b2, ?_⟩
    rw [ev, erase_mapS]
    have g4 := g3.setO (op' := op.eraseIdx k')
    refine ⟨szl (by show 1 < 100000; decide), fun t nt => ?_⟩
    have g5 := g4.same (same_upd (o := .tup [.str "receive", .str op[k']]) nt)
    refine k (some (false, op[k'])) _ fr (.ref t) _ g5 (out_recv mi b3 words_ok) hfr (by rw [List.length_eraseIdx_of_lt b3]; omega) ?_
    exact .tup ⟨fun z => (by obtain ⟨o, e'⟩ := g4.live t z; rw [nt] at e'; cases e'), upd_same⟩ (.cons (.str _) (.cons (.str _) .nil))
  refine ⟨_, rfl, rfl, _, rfl, ite2 (fun e => ?_) (fun _ => iteF recv)⟩
  refine ⟨_, rfl, _, rfl, _, _, rfl, .inl ⟨_, lsq h.hW, rfl⟩, _, _, rfl, rfl, _, rfl, ite2 (fun e => ?_) (fun _ => recv)⟩
  have hlt : fr < lawWords.length := by
    have := of_decide_eq_true e
    rw [List.length_map] at this
    omega
  refine ⟨_, rfl, _, rfl, .inl ⟨W, _, _, .str lawWords[fr], rfl, rfl, lsq h.hW, L2.atI_nat (by rw [List.getElem?_map, List.getElem?_eq_getElem hlt]; rfl), ?_⟩⟩
  refine ⟨szl (by show 1 < 100000; decide), fun t nt => ?_⟩
  have s1 : Same H (upd H t (.tup [.str "send", .str lawWords[fr]])) := same_upd nt
  have g1 := h.same s1
  have et : (upd H t (.tup [.str "send", .str lawWords[fr]])) t = some (.tup [.str "send", .str lawWords[fr]]) := upd_same
  have nS : ¬ SR B O ls t := fun z => by obtain ⟨o, e'⟩ := h.live t z; rw [nt] at e'; cases e'
  generalize upd H t (.tup [.str "send", .str lawWords[fr]]) = H1 at s1 g1 et
  refine ⟨_, rfl, _, _, rfl, rfl, _, _, rfl, ?_⟩
  refine ⟨_, rfl, .inl ⟨rfl, _, lsq g1.hO⟩, _, rfl, .inr (.inl ⟨t, _, _, .str lawWords[fr], rfl, rfl, .inl (.inl et), L2.atI_nat (j := 1) rfl, ?_⟩)⟩
  refine ⟨O, _, _, rfl, rfl, g1.hO, szl (by rw [List.length_map]; omega), ?_⟩
  have g2 := g1.setO (op' := op ++ [lawWords[fr]])
  rw [List.map_append] at g2
  have hd : Ds K (SR B O ls) (upd H1 O (.lst (op.map V.str ++ [lawWords[fr]].map V.str))) (.ref t) (deedP (some (true, lawWords[fr]))) := .tup ⟨nS, by rw [upd_ne fun z => nS (.inr (.inl z))]; exact et⟩ (.cons (.str _) (.cons (.str _) .nil))
  exact k (some (true, lawWords[fr])) _ (fr + 1) (.ref t) _ g2 (out_send mi words_nd hlt words_ok) (by rw [words_len] at hlt; omega) (by rw [List.length_append]; show _ + 1 ≤ 1000; omega) hd
theorem body_phase {D : Ends} {a1 a2 a3 x5 x12 : Option V} {fr way spot : Nat} (h : HR K B H0 H R O W ts ls rs op) (mi : MI ns lawWords rs op fr) (hfr : fr ≤ 20) (hi : spot < rs.length)
    (k : ∀ H' rs' op' fr' vd, HR K B H0 H' R O W ts ls rs' op' → MI ns lawWords rs' op' fr' → fr' ≤ 20 → rs'.length = rs.length → tot rs' ≤ tot rs + 1 → D.nx (stL B R O W a1 a2 a3 x5 fr' (some (.int (spot : Nat))) way vd x12) H') : tSeq (deedTS K) (rowTS K) D (stL B R O W a1 a2 a3 x5 fr (some (.int (spot : Nat))) way .non x12) H :=
  deed_phase (D := { D with nx := rowTS K D }) h mi hfr fun d op' fr' vd H' h9 ho hfr' hop hd => row_phase (D := D) h9 ho hi hd hop rfl rfl rfl rfl rfl fun H10 rs' op'' h10 mi' hl' ht' => k H10 rs' op'' fr' vd h10 mi' hfr' hl' ht'
end
end My
set_option Elab.async false
set_option linter.all false
set_option maxRecDepth 100000
namespace My
open PySem PySem.Spec PyProof.Rows L2 TL
theorem tot_start {ns : List Str} {i : Nat} : tot (ns.map fun n => ⟨n, true, []⟩) ≤ i := by
  unfold tot
  rw [List.map_map]
  have : ∀ l : List Str, (l.map ((fun r : Row => r.s.length) ∘ fun n => ⟨n, true, []⟩)).sum = 0 := fun l => by
    induction l with
    | nil => rfl
    | cons x l ih => rw [List.map_cons, List.sum_cons, ih]; rfl
  rw [this]
  exact Nat.zero_le _
theorem cutV_to {xs : List V} {n : Nat} : cutV xs none (some (n : Int)) = xs.take n := cutD_to xs n
theorem words_eq : signsV "mnopkhijuvwrst" ++ lawMore.map V.str = lawWords.map V.str := by
  unfold signsV lawWords
  rw [List.map_append, List.map_map]
  rfl
theorem par3_of {ta : TE} {tr : TA} {tz : TS} {D : Ends} {σ : L2.St} {H : Hp} {i j l : Nat} (h : ta σ H fun x H1 => tr σ H1 fun xs H2 => ∃ u v w, x :: xs = [u, v, w] ∧ tz D (((σ.set i (some u)).set j (some v)).set l (some w)) H2) : tSeq (tPar3 i j l (tCons ta tr)) tz D σ H := h
theorem for_rng {ta : TE} {g : TG} {tb tz : TS} {D : Ends} {σ : L2.St} {H : Hp} (M : Nat → Hp → Prop) (h : ∀ Q : VK, (∀ (n : Nat) H', M n H' → Q (.int (n : Nat)) H') → ta σ H Q)
    (hM : ∀ n H', M n H' → ((n : Nat) : Int) < 2 ^ 62 ∧ ∃ Pv : L2.St → Hp → Prop, Pv σ H' ∧ (∀ v σ2 H2, 0 < n → Pv σ2 H2 → g v σ2 H2 fun σ3 H3 => tb { D with nx := Pv, ct := Pv, bk := tz D } σ3 H3) ∧ ∀ σ2 H2, Pv σ2 H2 → tz D σ2 H2) : tSeq (tFor (iRng1 (tCons ta tNil)) g tb) tz D σ H := h _ fun n H' m => by
  obtain ⟨hn, Pv, p0, ps, pd⟩ := hM n H' m
  exact ⟨((n : Nat) : Int), rfl, by omega, hn, for_range (n := n) (lo := 0) (D := { D with nx := tz D }) (fun _ => Pv) p0 (fun i σ2 H2 hi p => ps _ σ2 H2 (by omega) p) pd⟩
/-- the same, the turns counted -/
theorem for_rngI {ta : TE} {g : TG} {tb tz : TS} {D : Ends} {σ : L2.St} {H : Hp} (M : Nat → Hp → Prop) (h : ∀ Q : VK, (∀ (n : Nat) H', M n H' → Q (.int (n : Nat)) H') → ta σ H Q)
    (hM : ∀ n H', M n H' → ((n : Nat) : Int) < 2 ^ 62 ∧ ∃ Pv : Nat → L2.St → Hp → Prop, Pv 0 σ H' ∧ (∀ i σ2 H2, i < n → Pv i σ2 H2 → g (.int (i : Nat)) σ2 H2 fun σ3 H3 => tb { D with nx := Pv (i + 1), ct := Pv (i + 1), bk := tz D } σ3 H3) ∧ ∀ σ2 H2, Pv n σ2 H2 → tz D σ2 H2) : tSeq (tFor (iRng1 (tCons ta tNil)) g tb) tz D σ H := h _ fun n H' m => by
  obtain ⟨hn, Pv, p0, ps, pd⟩ := hM n H' m
  refine ⟨((n : Nat) : Int), rfl, by omega, hn, for_range (n := n) (lo := 0) (D := { D with nx := tz D }) Pv p0 (fun i σ2 H2 hi p => ?_) pd⟩
  have := ps i σ2 H2 (by omega) p
  rw [Int.zero_add]
  exact this
section
variable {P : Program} {w : World} {K : PySem.W.Frag} {mg : Str → Option Value} {base : Heap} {A : Top}
def spLrows (K : PySem.W.Frag) : Sp := fun vs H Q _ => ∃ (B : BagId) (many most : Nat), vs = [.ref B.p, .int (many : Nat), .int (most : Nat)] ∧ Bag B H ∧ many ≤ 6 ∧ most ≤ 1000 ∧
  ∀ (v : V) (rs : List Row) (H' : Hp), Bag B H' → Ext B.p H H' → Ds K (fun a => a = B.p) H' v (.list (rs.map rowP)) → Valid rs → (∀ r ∈ rs, r.k = true) → rs.length = many → tot rs ≤ most → (∀ r ∈ rs, r.n ∈ lawNames) → Q v H'
set_option maxHeartbeats 1000000 in
theorem ok_Lrows (T : TopOk K mg A) : FnOk P w K mg base CX0 4 A.f_Lrows A.d_Lrows P_Lrows (spLrows K) := by
  have G_Ldraw : FnOk P w K mg base CX0 1 A.f_Ldraw A.d_Ldraw P_Ldraw spDraw := ok_Ldraw T
  have G_Lmixed : FnOk P w K mg base CX0 2 A.f_Lmixed A.d_Lmixed P_Lmixed spMixed := ok_Lmixed T
  have G_Lstep : FnOk P w K mg base CX0 3 A.f_Lstep A.d_Lstep P_Lstep (spStep K) := ok_Lstep T
  refine T.F_Lrows.ok sc_Lrows (fun vs H Q E h => ?_) (fun cdv Ar outer s H vs Q E hr h => ?_)
  · obtain ⟨B, many, most, rfl, _⟩ := h
    rfl
  · obtain ⟨B, many, most, rfl, hB, h6, hmost, k⟩ := h
    refine ⟨_, (pss_cons (ps_set (i := 3) sc_Lrows.nd rfl (by first | exact Or.inl rfl | exact Or.inr rfl) (pe_slice sl_list (pe_call G_Lmixed (hr.mono (by decide)) (by rfl) T.g_Lmixed T.F_Lmixed.kp T.a_Lmixed .nil pass0 (pa_cons (pv 0) (pa_cons (pe_lst (pa_cons pe_str (pa_cons pe_str (pa_cons pe_str (pa_cons pe_str (pa_cons pe_str (pa_cons pe_str pa_nil))))))) pa_nil))) po_none (po_some (pv 1))))
      (pss_cons (ps_par3 (i := 6) (j := 7) (l := 8) (by rfl) sc_Lrows.nd rfl rfl rfl (by decide) (by decide) (by decide) rfl rfl rfl (pa_cons (pe_lc (own := [("_law_name_y", 12)]) (g := gName 12) (by rfl) sc_Lrows.nd (pi_any (pv 3)) (blkOk_by (own := [("_law_name_y", 12)]) (N := N_Lrows) (sc := defScope s_Lrows) (by decide +kernel)) (fun _ _ _ _ _ => (pg_name (i := 12) sc_Lrows.nd rfl (by first | exact Or.inl rfl | exact Or.inr rfl))) (fun _ _ _ _ _ => pts_nil) (fun _ _ _ _ _ => (pe_tup (pa_cons (pv 12) (pa_cons (pe_lst pa_nil) pa_nil))))) (pa_cons (pe_lst pa_nil) (pa_cons pe_int pa_nil))) (by rfl))
      (pss_cons (ps_set (i := 4) sc_Lrows.nd rfl (by first | exact Or.inl rfl | exact Or.inr rfl) (pe_op L2.op_cat (pe_callTy (call_listT (by rfl)) (by rfl) T.b_list (by decide +kernel) (pa_cons pe_str pa_nil)) (pe_lst (pa_cons pe_str (pa_cons pe_str (pa_cons pe_str (pa_cons pe_str (pa_cons pe_str (pa_cons pe_str pa_nil)))))))))
      (pss_cons (ps_for PassesOwn.never rfl (pi_range1 (by rfl) T.b_range (pa_cons (pe_ifExp (pt_cmpR op_gt (pv 1) pe_int (nomark _)) (pe_call G_Ldraw (hr.mono (by decide)) (by rfl) T.g_Ldraw T.F_Ldraw.kp T.a_Ldraw .nil pass0 (pa_cons (pv 0) (pa_cons (pe_op op_add (pv 2) pe_int) pa_nil))) pe_int) pa_nil)) (pg_name (i := 5) sc_Lrows.nd rfl (by first | exact Or.inl rfl | exact Or.inr rfl))
      (pss_cons (ps_par3 (i := 9) (j := 10) (l := 11) (by rfl) sc_Lrows.nd rfl rfl rfl (by decide) (by decide) (by decide) rfl rfl rfl (pa_cons (pe_call G_Ldraw (hr.mono (by decide)) (by rfl) T.g_Ldraw T.F_Ldraw.kp T.a_Ldraw .nil pass0 (pa_cons (pv 0) (pa_cons (pv 1) pa_nil))) (pa_cons (pe_call G_Ldraw (hr.mono (by decide)) (by rfl) T.g_Ldraw T.F_Ldraw.kp T.a_Ldraw .nil pass0 (pa_cons (pv 0) (pa_cons pe_int pa_nil))) (pa_cons pe_non pa_nil))) (by rfl))
      (pss_cons (ps_if (PW.pt (pw_and (pt_cmpR op_eq (pv 10) pe_int (nomark _)) (pw_and1 (pt_cmpR op_lt (pv 8) (pe_callB call_len (by rfl) T.b_len (by decide +kernel) (pa_cons (pv 4) pa_nil)) (nomark _)))))
      (pss_cons (ps_par (i := 11) (j := 8) (by rfl) sc_Lrows.nd rfl rfl (by decide) rfl rfl (pa_cons (pe_tup (pa_cons pe_str (pa_cons (pe_ix ix_seq (pv 4) (pv 8) (fun _ _ => rfl)) pa_nil))) (pa_cons (pe_op op_add (pv 8) pe_int) pa_nil)) (by rfl))
      (pss_one (ps_expr (pe_bm PySem.F.plainAttrs_list PySem.F.slot_list_append PySem.F.type_list_append mt_append (pv 7) (pa_cons (pe_ix ix_seq (pv 11) pe_int (fun _ _ => rfl)) pa_nil)))))
      (pss_one (ps_if (PW.pt (pw_and (pt_cmpR op_eq (pv 10) pe_int (nomark _)) (pw_and1 (pt_cmpR (L2.op_neD hr.units) (pv 7) (pe_lst pa_nil) (nomark _)))))
      (pss_one (ps_set (i := 11) sc_Lrows.nd rfl (by first | exact Or.inl rfl | exact Or.inr rfl) (pe_tup (pa_cons pe_str (pa_cons (pe_bm PySem.F.plainAttrs_list PySem.F.slot_list_pop PySem.F.type_list_pop mt_popAt (pv 7) (pa_cons (pe_call G_Ldraw (hr.mono (by decide)) (by rfl) T.g_Ldraw T.F_Ldraw.kp T.a_Ldraw .nil pass0 (pa_cons (pv 0) (pa_cons (pe_callB call_len (by rfl) T.b_len (by decide +kernel) (pa_cons (pv 7) pa_nil)) pa_nil))) pa_nil)) pa_nil)))))
      pss_nil)))
      (pss_one (ps_if (pt_cmpR op_lt (pe_callB call_len (by rfl) T.b_len (by decide +kernel) (pa_cons (pe_ix ix_seq (pe_ix ix_seq (pv 6) (pv 9) (fun _ _ => rfl)) pe_int (fun _ _ => rfl)) pa_nil)) pe_int (nomark _))
      (pss_one (ps_expr (pe_bm PySem.F.plainAttrs_list PySem.F.slot_list_append PySem.F.type_list_append mt_append (pe_ix ix_seq (pe_ix ix_seq (pv 6) (pv 9) (fun _ _ => rfl)) pe_int (fun _ _ => rfl)) (pa_cons (pe_call G_Lstep (hr.mono (by decide)) (by rfl) T.g_Lstep T.F_Lstep.kp T.a_Lstep .nil pass0 (pa_cons (pv 0) (pa_cons (pv 11) pa_nil))) pa_nil))))
      (pss_one (ps_if (PW.pt (pw_and (pt_cmpR op_notN (pv 11) pe_non (nomark _)) (pw_and1 (pt_cmpR op_eq (pe_ix ix_seq (pv 11) pe_int (fun _ _ => rfl)) pe_str (nomark _)))))
      (pss_one (ps_expr (pe_bm PySem.F.plainAttrs_list PySem.F.slot_list_remove PySem.F.type_list_remove mt_removeS (pv 7) (pa_cons (pe_ix ix_seq (pv 11) pe_int (fun _ _ => rfl)) pa_nil))))
      (pss_one (ps_if (pt_cmpR op_notN (pv 11) pe_non (nomark _))
      (pss_one (ps_expr (pe_bm PySem.F.plainAttrs_list PySem.F.slot_list_append PySem.F.type_list_append mt_append (pv 7) (pa_cons (pe_ix ix_seq (pv 11) pe_int (fun _ _ => rfl)) pa_nil))))
      pss_nil)))))))))
      (pss_one (ps_ret (pv 6))))))), ?_⟩
    show tSeq _ _ _ [some (.ref B.p), some (.int (many : Nat)), some (.int (most : Nat)), none, none, none, none, none, none, none, none, none, none] H
    refine ⟨_, rfl, szl (by decide), fun q nq => ?_⟩
    refine ⟨B, q, lawNames, rfl, hB.ext (same_upd nq), upd_same, by decide, fun x hx => name_fine (names_ok x hx) (by decide), fun a ys H1 na hB1 ex1 ea hp => ?_⟩
    have x1 : Ext B.p H H1 := fun b o e n => ex1 _ _ (same_upd nq _ _ e) n
    refine ⟨_, rfl, _, rfl, a, _, rfl, lsq ea, fun u nu => ?_⟩
    rw [cutV_to, ← List.map_take]
    have hns : (ys.take many).Nodup := List.Nodup.sublist (List.take_sublist _ _) (hp.nodup_iff.mpr names_nd)
    have hnn : ∀ n ∈ ys.take many, nameD 6 (.str n) = true := fun n m => names_ok n (hp.mem_iff.mp (List.mem_of_mem_take m))
    have hnl : (ys.take many).length = many := by rw [List.length_take, hp.length_eq]; show min many 6 = many; omega
    have hnm0 : ∀ n ∈ ys.take many, n ∈ lawNames := fun n m => hp.mem_iff.mp (List.mem_of_mem_take m)
    generalize ys.take many = ns at hns hnn hnl hnm0
    have e2 : (upd H1 u (.lst (ns.map V.str))) u = some (.lst (ns.map V.str)) := upd_same
    have hB2 := hB1.ext (same_upd (o := .lst (ns.map V.str)) nu)
    have x2 : Ext B.p H (upd H1 u (.lst (ns.map V.str))) := fun b o e n => same_upd nu _ _ (x1 b o e n)
    have hup : u ≠ B.p := hB1.ne nu
    generalize upd H1 u (.lst (ns.map V.str)) = H2 at e2 hB2 x2
    dsimp only [gName, List.set]
    show tSeq (tPar3 6 7 8 _) _ _ [some (.ref B.p), some (.int (many : Nat)), some (.int (most : Nat)), some (.ref u), none, none, none, none, none, none, none, none, none] H2
    refine par3_of (ta := tLc (iAny K (tVar 3)) (gName 12) tYes (tTup (tCons (tVar 12) (tCons (tLst tNil) tNil))) [12]) (mk_rows (K := K) (S := fun a => a = B.p) (σ := [some (.ref B.p), some (.int (many : Nat)), some (.int (most : Nat)), some (.ref u), none, none, none, none, none, none, none, none, none]) (nm := u) (ns := ns) (j := 0) (fun a e => by rw [e]; exact hB2.there) rfl (fun v => rfl) (fun v => rfl) ⟨hup, e2⟩ (by omega) fun R ts ls H3 s3 nR eR nd hl tl ll hrow => ?_)
    refine ⟨Nat.zero_le _, fun O nO => ⟨_, _, _, rfl, ?_⟩⟩
    show tSeq (tAsg _ (gName 4)) _ _ [some (.ref B.p), some (.int (many : Nat)), some (.int (most : Nat)), some (.ref u), none, none, some (.ref R), some (.ref O), some (.int 0), none, none, none, none] _
    refine ⟨_, rfl, by decide, fun l1 n1 => ⟨szl (by decide), fun l2 n2 => ⟨l1, l2, _, _, rfl, rfl, same_upd n2 _ _ upd_same, upd_same, by decide, fun W nW => ?_⟩⟩⟩
    have eO : (upd H3 O (.lst [])) O = some (.lst []) := upd_same
    have sO : Same H3 (upd H3 O (.lst [])) := same_upd nO
    generalize upd H3 O (.lst []) = G1 at n1 n2 nW eO sO ⊢
    have s1 : Same G1 (upd G1 l1 (.lst (signsV "mnopkhijuvwrst"))) := same_upd n1
    generalize upd G1 l1 (.lst (signsV "mnopkhijuvwrst")) = G2 at n2 nW s1 ⊢
    have s2 : Same G2 (upd G2 l2 (.lst (lawMore.map V.str))) := same_upd n2
    have nW : (upd G2 l2 (.lst (lawMore.map V.str))) W = none := nW
    have hWO : W ≠ O := fun z => by
      have := s2 _ _ (s1 _ _ eO)
      rw [← z, nW] at this
      cases this
    have eW : (upd (upd G2 l2 (.lst (lawMore.map V.str))) W (.lst (signsV "mnopkhijuvwrst" ++ lawMore.map V.str))) W = some (.lst (lawWords.map V.str)) := by rw [upd_same, words_eq]
    have s4 : Same H3 (upd (upd G2 l2 (.lst (lawMore.map V.str))) W (.lst (signsV "mnopkhijuvwrst" ++ lawMore.map V.str))) := ((sO.trans s1).trans s2).trans (same_upd nW)
    have hs := HR.start (K := K) hB hB2 x2 s3 s4 nR eR nd hl tl ll hrow nO ((s1.trans s2 |>.trans (same_upd nW)) _ _ eO) ((sO.trans s1 |>.trans s2).free nW) hWO eW
    dsimp only [gName, List.set]
    show tSeq (tFor _ _ _) _ _ [some (.ref B.p), some (.int (many : Nat)), some (.int (most : Nat)), some (.ref u), some (.ref W), none, some (.ref R), some (.ref O), some (.int 0), none, none, none, none] (upd (upd G2 l2 (.lst (lawMore.map V.str))) W (.lst (signsV "mnopkhijuvwrst" ++ lawMore.map V.str)))
    generalize upd (upd G2 l2 (.lst (lawMore.map V.str))) W (.lst (signsV "mnopkhijuvwrst" ++ lawMore.map V.str)) = H4 at hs ⊢
    refine for_rngI (fun n H' => Bag B H' ∧ Ext B.p H4 H' ∧ (0 < n → 0 < many) ∧ n ≤ most) (fun Q q => turns_run hs.bag hmost rfl rfl rfl fun n H' a b c d => q n H' ⟨a, b, c, d⟩) fun n H5 ⟨hB5, ex5, hn, hnm⟩ => ⟨by omega, ?_⟩
    have h5 := hs.keep hB5 ex5
    refine ⟨fun i σ H' => ∃ x5 x9 x10 x11 fr rs op, σ = [some (.ref B.p), some (.int (many : Nat)), some (.int (most : Nat)), some (.ref u), some (.ref W), x5, some (.ref R), some (.ref O), some (.int (fr : Nat)), x9, x10, x11, none] ∧ HR K B H H' R O W ts ls rs op ∧ MI ns lawWords rs op fr ∧ fr ≤ 20 ∧ rs.length = many ∧ tot rs ≤ i, ⟨none, none, none, none, 0, _, _, rfl, h5, MI.start, Nat.zero_le _, by rw [List.length_map]; exact hnl, tot_start⟩, ?_, ?_⟩
    · rintro i σ H6 hpos ⟨x5, x9, x10, x11, fr, rs, op, rfl, h6', mi, hfr, hlen, htot⟩
      have hmany := hn (by omega)
      dsimp only [gName, List.set]
      refine ⟨_, rfl, _, rfl, B, _, rfl, h6'.bag, by omega, by omega, fun r1 H7 r10 r11 hB7 ex7 => ⟨_, rfl, B, _, rfl, hB7, by decide, by decide, fun r2 H8 r20 r21 hB8 ex8 => ⟨_, _, _, rfl, ?_⟩⟩⟩
      have h8 := (h6'.keep hB7 ex7).keep hB8 ex8
      obtain ⟨spot, rfl⟩ := Int.eq_ofNat_of_zero_le r10
      obtain ⟨way, rfl⟩ := Int.eq_ofNat_of_zero_le r20
      dsimp only [List.set]
      show tSeq (deedTS K) (rowTS K) _ (stL B R O W (some (.int (many : Nat))) (some (.int (most : Nat))) (some (.ref u)) (some (.int (i : Nat))) fr (some (.int (spot : Nat))) way .non none) H8
      refine body_phase h8 mi hfr (by omega) fun H10 rs' op'' fr' vd h10 mi' hfr' hl' ht' => ?_
      exact ⟨_, _, _, _, fr', rs', op'', rfl, h10, mi', hfr', by omega, by omega⟩
    · rintro σ H6 ⟨x5, x9, x10, x11, fr, rs, op, rfl, h6', mi, hfr, hlen, htot⟩
      exact ⟨_, rfl, k _ rs H6 h6'.bag h6'.ext (h6'.data mi.kind) (mi.valid (by omega) hnn hns) mi.kind hlen (by omega) fun r m => hnm0 _ (by rw [← mi.names]; exact List.mem_map_of_mem m)⟩
end
end My
set_option Elab.async false
set_option linter.all false
set_option maxRecDepth 100000
/-! Texts: repeated, cut, walked. -/
namespace My
open PySem PySem.Spec PyProof.Rows L2
section
variable {K : PySem.W.Frag} {S : Sh} {σ : L2.St} {H : Hp} {ta tb te : TE}
/-- a text, walked: its signs -/
def signsD (x : Str) : List PyData := x.cps.toList.map fun c => PyData.str ⟨#[c]⟩
theorem signs_len (x : Str) : (signsD x).length = x.cps.size := by unfold signsD; rw [List.length_map, Array.length_toList]
theorem si_str {x : Str} (h : SV K S te σ H (.str x)) : SI K S (iStr te) σ H (signsD x) := fun S1 H1 n R q => h S1 H1 n _ fun v H2 s2 hv => ⟨x, hv.s, q _ _ s2 (by
  rw [signs_len]
  refine (walk_str (z := x)).mono (fun _ _ => trivial) fun i H3 v H4 hi _ y => ?_
  obtain ⟨rfl, c, ec, rfl⟩ := y
  refine ⟨Same.refl _, .str ⟨#[c]⟩, ?_, fun S2 _ => .str _⟩
  unfold signsD
  rw [List.getElem?_map, Array.getElem?_toList, ec]
  rfl)⟩
end
end My
set_option Elab.async false
set_option linter.all false
set_option maxRecDepth 100000
/-! len(o) by an own __len__. -/
namespace My
open PySem PySem.Spec PyProof.Rows L2 StX ClX
theorem call_lenOwn {X : Cx} {CX : CXT} {k : Nat} {C f : Addr} {sp : Sp} {E : XK} (hs : PySem.W.findIn X.K (.ref C) "__len__" = some (some (.ref f))) (hf : PySem.W.isFn X.K (.ref f) = true) (F : FnR X.prog X.w X.K X.mg X.base CX k f sp) (hr : Room (k + 1) X.A)
    (hx : Passes CX X E) : CallR X (.builtin "len") (fun xs H Q => ∃ a dx fs, xs = [.ref a] ∧ H a = some (.ins C dx fs) ∧ sp [.ref a] H (fun v H' => (∃ n : Int, v = .int n ∧ 0 ≤ n ∧ n < 2 ^ 63) ∧ Q v H') E) := by
  intro pins s σ H xs us Q I r h
  obtain ⟨a, dx, fs, rfl, ha, q⟩ := h
  obtain ⟨u, rfl, ru⟩ := r.one
  cases ru
  obtain ⟨mA, J, _⟩ := ins_get I.hok ha
  obtain ⟨od, J, _⟩ := J.look
  have hr1 : Room k X.A.in1 := hr.in1
  obtain ⟨m, ns, _⟩ := I.loc
  refine PySem.W.len_K (m := m) ⟨ns, I.bk, Nat.le_trans I.ok.bsz I.ok.above⟩ I.ok.mod.kin J hs hf ?_
  have e0 : Env0 X.prog X.w X.K X.mg X.base X.A.in1 X.stack s H := I.env0.in1
  refine wpAny_call (codeAny_mono (F X.A.in1 X.stack s H [.ref a] [.ref a] _ E hr1 e0 (.cons rfl .nil) q) fun r s' hq => ?_)
  cases r with
  | error e => exact hx pins σ H s e s' I hq
  | ok fl =>
    cases fl with
    | ret w =>
      obtain ⟨z, H', I', rz, ⟨n, ez, n0, n1⟩, qz⟩ := I.after hq
      subst ez
      obtain ⟨t, ew⟩ := rz
      subst ew
      exact ⟨⟨n0, n1⟩, .int n, H', I'.tok _, ⟨_, rfl⟩, qz⟩
    | next => exact False.elim hq
    | brk => exact False.elim hq
    | cont => exact False.elim hq
end My
set_option Elab.async false
set_option linter.all false
set_option maxRecDepth 100000
namespace My
open PySem PySem.Spec PyProof.Rows L2 TL L2H LamX
/-! ### draws and choices as worths -/
section
variable {K : PySem.W.Frag} {B : BagId} {S : Sh} {σ : L2.St} {H : Hp} {ta tb te : TE} {tr : TA} {ds : List PyData} {E : XK} {Q : VK} {i : Nat}
theorem sn_lst (h : SA K S tr σ H ds) (hl : decide (ds.length ≤ 5000) = true) : SN K S (tLst tr) σ H ds := fun S1 H1 n Q q =>
  h S1 H1 n _ fun vs H2 s2 hs => ⟨by rw [DsAll.length hs]; exact sz (by have := of_decide_eq_true hl; omega), fun a na =>
    q a vs _ (s2.trans (same_upd na)) (s2.free na) upd_same (hs.same (same_upd na))⟩
/-- _law_of(bag, xs) -/
theorem of_sv {k : Bool} (hi : σ[i]? = some (some (.ref B.p))) (hB : Bag B H) (l : Live (fun a => a = B.p) H) (h : SV K (fun a => a = B.p) te σ H (seqD k ds)) (h0 : 0 < ds.length) (h1 : ds.length ≤ 5000)
    (q : ∀ v d H', d ∈ ds → Bag B H' → Ext B.p H H' → Ds K (fun a => a = B.p) H' v d → Q v H') : tCall (spOf K) [] E (tCons (tVar i) (tCons te tNil)) σ H Q :=
  ⟨_, hi, h.run l fun v H2 s2 hv => by
    have fin : ∀ (a : Addr) (xs : List V), ¬ a = B.p → (SqL K H2 a xs ∨ SqT K H2 a xs) → DsAll K (fun a => a = B.p) H2 xs ds → spOf K [.ref B.p, .ref a] H2 Q E := fun a xs ne hq hx =>
      ⟨B, .ref a, rfl, hB.ext s2, .inl ⟨a, xs, rfl, ne, hq, by rw [hx.length]; exact h0, by rw [hx.length]; omega, fun v H' hm hB' ex => by
        obtain ⟨j, hj⟩ := List.getElem?_of_mem hm
        obtain ⟨d, e, hd⟩ := hx.get hj
        exact q v d H' (List.mem_of_getElem? e) hB' ((Ext.of s2).trans ex) (hd.byX (XS.ext ex rfl))⟩⟩
    cases k with
    | true => obtain ⟨a, xs, rfl, la, hx⟩ := Ds.l hv; exact fin a xs la.1 (.inl la.sq) hx
    | false => obtain ⟨a, xs, rfl, la, hx⟩ := Ds.t hv; exact fin a xs la.1 (.inr la.sq) hx⟩
/-- _law_draw(bag, n) -/
theorem draw_sv {n : Nat} (hi : σ[i]? = some (some (.ref B.p))) (hB : Bag B H) (l : Live S H) (h : SV K S te σ H (.int (n : Nat))) (h0 : 0 < n) (h1 : n ≤ 5000)
    (q : ∀ (j : Nat) H', j < n → Bag B H' → Ext B.p H H' → Q (.int (j : Nat)) H') : tCall spDraw [] E (tCons (tVar i) (tCons te tNil)) σ H Q :=
  ⟨_, hi, h.run l fun v H2 s2 hv => ⟨B, (n : Nat), by rw [hv.i]; rfl, hB.ext s2, by omega, by omega, fun r H' r0 r1 hB' ex => by
    obtain ⟨j, rfl⟩ := Int.eq_ofNat_of_zero_le r0
    exact q j H' (by omega) hB' ((Ext.of s2).trans ex)⟩⟩
end
/-! ### the bag and the table of lambdas at the law -/
abbrev qL : Str := (envOfC "law" (defScope s_law) 0 0 .none).qual ++ "<lambda>"
def SP2 (B : BagId) (Pt : Addr) : Sh := fun b => b = B.p ∨ b = Pt
def Tb (Pt : Addr) (H : Hp) : Prop := Tabs [(Pt, qL)] H
theorem lam_pass {t : LamT} {X : Cx} {A : Around} {outer : List Env} {s : Shared} {H : Hp} {E : XK} {f c' : Addr} : Passes (L2N.CX X.prog X.w) (t.cx X A outer s H E f c') E := L2N.passes_call (W := fun cls d _ H' => E cls d H') (L2N.takes_of rfl rfl rfl rfl) fun _ _ _ _ h => h
section
variable {K : PySem.W.Frag} {B : BagId} {Pt : Addr} {H H' : Hp} {v : V} {d : PyData} {C a : Addr} {rs : List Row}
theorem Tb.at (t : Tb Pt H) : ∃ ps, H Pt = some (.tbl ps) := by
  obtain ⟨ps, h, _⟩ := t _ (.head _)
  exact ⟨ps, h⟩
theorem Tb.same (t : Tb Pt H) (s : Same H H') : Tb Pt H' := fun p m => (t p m).ext s
theorem Tb.bag (t : Tb Pt H) (b : Bag B H) (x : Ext B.p H H') : Tb Pt H' := fun p m => by
  obtain ⟨ps, h1, h2, h3⟩ := t p m
  obtain ⟨i, g, mm, c, e, _⟩ := b
  have ne : ∀ (q : Addr) (o : HO), H q = some o → (∀ xs, o ≠ .lst xs) → q ≠ B.p := fun q o hq no z => by
    rw [z, e] at hq
    exact no _ (Option.some.inj hq).symm
  refine ⟨ps, x _ _ h1 (ne _ _ h1 fun xs z => by cases z), h2, fun pos cv hc => ?_⟩
  obtain ⟨c0, e1, e2⟩ := h3 pos cv hc
  exact ⟨c0, e1, x _ _ e2 (ne _ _ e2 fun xs z => by unfold CodeO at z; cases z)⟩
theorem Tb.ne (t : Tb Pt H) (b : Bag B H) : B.p ≠ Pt ∧ B.l ≠ Pt := by
  obtain ⟨ps, h⟩ := t.at
  obtain ⟨i, g, mm, c, e, e2, _⟩ := b
  exact ⟨fun z => (by rw [z, h] at e; cases e), fun z => (by rw [z, h] at e2; cases e2)⟩
theorem bag_tab (b : Bag B H) (t : Tb Pt H) (x : Ext Pt H H') : Bag B H' := by
  obtain ⟨n1, n2⟩ := t.ne b
  obtain ⟨i, g, m, c, h1, h2, r⟩ := b
  exact ⟨i, g, m, c, x _ _ h1 n1, x _ _ h2 n2, r⟩
theorem live2 (b : Bag B H) (t : Tb Pt H) : Live (SP2 B Pt) H := fun a z => by
  rcases z with z | z
  · rw [z]; exact b.there
  · rw [z]; obtain ⟨ps, h⟩ := t.at; exact ⟨_, h⟩
theorem Ds.wide (t : Tb Pt H) (h : Ds K (fun a => a = B.p) H v d) : Ds K (SP2 B Pt) H v d := by
  obtain ⟨ps, e⟩ := t.at
  refine Ds.map (fun a xs l => ⟨fun z => ?_, l.2⟩) (fun a xs l => ⟨fun z => ?_, l.2⟩) _ _ h
  · rcases z with z | z
    · exact l.1 z
    · have := l.2
      rw [z, e] at this; cases this
  · rcases z with z | z
    · exact l.1 z
    · have := l.2
      rw [z, e] at this; cases this
theorem Ds.thin (h : Ds K (SP2 B Pt) H v d) : Ds K (fun a => a = B.p) H v d := h.less fun _ z => .inl z
theorem x_bag (x : Ext B.p H H') : XS (SP2 B Pt) H H' := XS.ext x (.inl rfl)
theorem x_tab (x : Ext Pt H H') : XS (SP2 B Pt) H H' := XS.ext x (.inr rfl)
end
section
variable {K : PySem.W.Frag} {S : Sh} {C cI : Addr} {σ : L2.St} {H : Hp} {rs : List Row} {ta tb : TE} {d : PyData} {ds : List PyData} {tr : TA}
theorem sv_same {E : XK} {n : Nat} (ha : SV K S ta σ H d) (hb : SV K S tb σ H d) (hd : d.depth ≤ n) (hs : small d = true) : SV K S (tCall (spSameLt K (n + 1)) [] E (tCons ta (tCons tb tNil))) σ H (.bool true) := fun S1 H1 m Q q =>
  ha S1 H1 m _ fun v H2 s2 hv => hb S1 H2 (m.then s2) _ fun u H3 s3 hu => ⟨v, u, d, rfl, Ds.dp _ _ (hv.same s3), Ds.dp _ _ hu, hd, hs, fun H4 s4 => q _ _ ((s2.trans s3).trans s4) (.bl true)⟩
end
section
variable {P : Program} {w : World} {K : PySem.W.Frag} {mg : Str → Option Value} {base : Heap} {A : Top}
/-- a def whose code object is known -/
theorem fun_okC {x qual : Str} {st : Stmt} {f : Addr} {fd : FuncData} {N ps : List Str} {k : Nat} {sp : Sp} (F : Fun K x qual st f fd) (S : FnScope N ps (defScope st)) (len : ∀ vs H Q E, sp vs H Q E → vs.length = ps.length)
    (runs : ∀ (code : Value) (A : Around) (outer : List Env) (s : Shared) (H : Hp) (vs : List V) (Q : VK) (E : XK), fd.code = code → Room k (A.deeper (envOfC qual (defScope st) s.heap.objs.size f code)) → sp vs H Q E →
      ∃ t : TS, PSs (cxOf CX0 P w K mg base N qual (defScope st) f code A outer s H E).nox (defBody st) t ∧ t { nx := fun _ H1 => Q .non H1, rt := Q } (start N vs) H) : FnOk P w K mg base CX0 (k + 1) f fd ps sp := by
  obtain ⟨_, _, _, _, _, _, code, _, _, rfl, at_, coded⟩ := F.ex
  exact fn_of at_ coded S len fun A outer s H vs Q E room want => (runs code A outer s H vs Q E rfl room want).imp fun t h => ⟨h.1.nox, h.2⟩
end
def spLaw (K : PySem.W.Frag) (Pt : Addr) : Sp := fun vs H Q _ => ∃ (a : Addr) (ns : List Int), vs = [.ref a] ∧ SqL K H a (ns.map V.int) ∧ ns.length ≤ 63 ∧ H Pt = some (.tbl #[]) ∧ ∀ H', Q (.bl true) H'
theorem rep_one (x : PyData) : ∀ k : Nat, (List.replicate k [x]).flatten = List.replicate k x
  | 0 => rfl
  | k + 1 => by rw [List.replicate_succ, List.replicate_succ, List.flatten_cons, rep_one x k]; rfl
theorem Tb.nil {Pt : Addr} {H : Hp} (h : H Pt = some (.tbl #[])) : Tb Pt H := fun p m => by
  cases List.mem_singleton.mp m
  exact TabS.nil h
section
variable {K : PySem.W.Frag} {B : BagId} {Pt : Addr} {σ : L2.St} {H : Hp} {te : TE} {ds : List PyData} {E : XK} {Q : VK} {i : Nat}
/-- _law_of(bag, xs) at the law -/
theorem of2 {k : Bool} (hi : σ[i]? = some (some (.ref B.p))) (hB : Bag B H) (t : Tb Pt H) (h : SV K (fun a => a = B.p) te σ H (seqD k ds)) (h0 : 0 < ds.length) (h1 : ds.length ≤ 5000)
    (q : ∀ v d H', d ∈ ds → Bag B H' → Tb Pt H' → XS (SP2 B Pt) H H' → Ds K (SP2 B Pt) H' v d → Q v H') : tCall (spOf K) [] E (tCons (tVar i) (tCons te tNil)) σ H Q :=
  of_sv hi hB (Live.one hB.there) h h0 h1 fun v d H' m b x hv => q v d H' m b (t.bag hB x) (x_bag x) (Ds.wide (t.bag hB x) hv)
end
/-- a, b = .., .. -/
theorem par_sv {K : PySem.W.Frag} {S : Sh} {σ : L2.St} {H : Hp} {ta tb : TE} {tr : TS} {D : Ends} {d e : PyData} {i j : Nat} (l : Live S H) (ha : SV K S ta σ H d) (hb : SV K S tb σ H e)
    (k : ∀ v u H', Same H H' → Live S H' → Ds K S H' v d → Ds K S H' u e → tr D ((σ.set i (some v)).set j (some u)) H') : tSeq (tPar i j (tCons ta (tCons tb tNil))) tr D σ H :=
  ha S H (Now.refl l) _ fun v H2 s2 hv => hb S H2 (Now.of l s2) _ fun u H3 s3 hu => ⟨v, u, rfl, k v u H3 (s2.trans s3) ((l.same s2).same s3) (hv.same s3) hu⟩
/-- if what is false: .. -/
theorem seq_skip {S : Sh} {σ : L2.St} {H : Hp} {tt : TT} {tz tr : TS} {D : Ends} (l : Live S H) (h : SB S tt σ H false) (k : ∀ H', Same H H' → Live S H' → tr D σ H') : tSeq (tIfS tt tz tNext) tr D σ H := seq_if (S := S) (b := false) l h (fun z => Bool.noConfusion z) fun _ H' s l => k H' s l
theorem end_skip {S : Sh} {σ : L2.St} {H : Hp} {tt : TT} {tz : TS} {D : Ends} (l : Live S H) (h : SB S tt σ H false) (k : ∀ H', Same H H' → Live S H' → D.nx σ H') : tIfS tt tz tNext D σ H := if_sb (S := S) (b := false) l h (fun z => Bool.noConfusion z) fun _ H' s l => k H' s l
section
variable {X : Cx} {T : List (Addr × Str)} {c P : Addr} {ps : Arguments} {body : Expr} {sc : Scope} {pos : Pos}
theorem pe_lamA (TB : TabB X.base X.mg c P) (hcode : X.env.code = .ref c) (hm : (P, X.env.qual ++ "<lambda>") ∈ T) (hu : ∀ p ∈ T, p.1 = P → p.2 = X.env.qual ++ "<lambda>") (L : LamC X sc) (hdef : defaultsOf ps X.env = ([], [])) :
    PE X (.Lambda ps body sc pos) (tLam0 ⟨ps, body, sc⟩ X T P) := pe_lam0 (t := ⟨ps, body, sc⟩) TB hcode hm hu (fun ok => L.has ok) hdef
theorem pe_lamB {e0 : Expr} {td : TE} (TB : TabB X.base X.mg c P) (hcode : X.env.code = .ref c) (hm : (P, X.env.qual ++ "<lambda>") ∈ T) (hu : ∀ p ∈ T, p.1 = P → p.2 = X.env.qual ++ "<lambda>") (L : LamC X sc) (he : PE X e0 td) (hdef : defaultsOf ps X.env = ([eval e0 X.env], [])) (hk : ps.kwonlyargs = []) :
    PE X (.Lambda ps body sc pos) (tLam1 ⟨ps, body, sc⟩ X T P td) := pe_lam1 (t := ⟨ps, body, sc⟩) TB hcode hm hu (fun ok => L.has ok) hdef hk he
end
/-! ### lambdas stay -/
theorem LamIn.same {t : LamT} {X : Cx} {H H' : Hp} {f : Addr} {dv : Value} (h : LamIn t X H f dv) (s : Same H H') : LamIn t X H' f dv := h.imp fun _ e => ⟨s _ _ e.1, s _ _ e.2⟩
theorem LamIn.tab {t : LamT} {X : Cx} {H H' : Hp} {f Pt : Addr} {dv : Value} (h : LamIn t X H f dv) (tb : Tb Pt H) (e : Ext Pt H H') : LamIn t X H' f dv := by
  obtain ⟨ps, hP⟩ := tb.at
  obtain ⟨c', h1, h2⟩ := h
  refine ⟨c', e _ _ h1 fun z => ?_, e _ _ h2 fun z => ?_⟩
  · rw [z, hP] at h1
    cases h1
  · rw [z] at h2
    exact codeO_ne ps (Option.some.inj (h2.symm.trans hP))
theorem lam_bind0 {t : LamT} {X : Cx} (h : ∀ (pm ct : Value) (c' : Addr), bindArgs { t.fd X pm ct c' with defaults := .none } ⟨[], []⟩ = pure []) (pm ct : Value) (c' : Addr) (s2 : Shared) (us : List Value) (_ : DvIn s2.heap .none us) (_ : us.length = ([] : List Str).length) : BindsTo s2 { t.fd X pm ct c' with defaults := .none } ⟨[], []⟩ (([] : List Str).zip us) := by
  rw [List.zip_nil_left]
  exact .of_eq (h pm ct c')
theorem lam_bind1 {t : LamT} {X : Cx} {y : Str} {d : Addr} (h : ∀ (pm ct : Value) (c' : Addr), ∃ k, bindArgs { t.fd X pm ct c' with defaults := .ref d } ⟨[], []⟩ = seqItems? (.ref d) >>= k ∧ ∀ u, k (some #[u]) = pure [(y, u)]) (pm ct : Value) (c' : Addr) (s2 : Shared) (us : List Value) (hd : DvIn s2.heap (.ref d) us) (hl : us.length = [y].length) :
    BindsTo s2 { t.fd X pm ct c' with defaults := .ref d } ⟨[], []⟩ ([y].zip us) := by
  rcases hd with ⟨z, _⟩ | ⟨d', e, o, ho, _, n, hs⟩
  · cases z
  · cases e
    match us, hl with
    | [u], _ =>
      obtain ⟨k, h1, h2⟩ := h pm ct c'
      exact .of_defaults rfl ho hs h1 (h2 u)
theorem cells_fst : ∀ (names : List (Str × NameKind)) (n m : Nat) (a b : List (Str × Addr)), a.map (·.1) = b.map (·.1) → (cellsFrom n names a).map (·.1) = (cellsFrom m names b).map (·.1)
  | [], _, _, _, _, h => h
  | (y, kd) :: r, n, m, a, b, h => by
    unfold cellsFrom
    split
    · exact cells_fst r (n + 1) (m + 1) _ _ (by rw [List.map_cons, List.map_cons, h])
    · exact cells_fst r n m a b h
theorem nd_cells {names : List (Str × NameKind)} {n : Nat} (h : decide ((cellsFrom 0 names []).map (·.1)).Nodup = true) : ((cellsFrom n names []).map (·.1)).Nodup := by
  rw [cells_fst names n 0 [] [] rfl]
  exact of_decide_eq_true h
/-! ### _law_why(lambda: ..) in the def that makes the lambda -/
end My
set_option Elab.async false
set_option linter.all false
set_option maxRecDepth 100000
namespace My
open PySem PySem.Spec PyProof.Rows L2 TL
/-! ### lines, joined and read -/
/-! ### what lines are worth -/
end My
set_option Elab.async false
set_option linter.all false
set_option maxRecDepth 100000
namespace My
open PySem PySem.Spec PyProof.Rows L2 TL L2H LamX
/-! ### the classes of the errors -/
def clA (A : Top) (s : Str) : Addr := if s = "TooMany" then A.c_TooMany else if s = "InvalidRow" then A.c_InvalidRow else if s = "DuplicateName" then A.c_DuplicateName else if s = "InvalidStep" then A.c_InvalidStep else if s = "DuplicateMessage" then A.c_DuplicateMessage else if s = "Unsent" then A.c_Unsent else if s = "Ring" then A.c_Ring else A.c_InvalidText
theorem clA_of (A : Top) : ClsOf A (clA A) := by
  refine ⟨?_, ?_, ?_, ?_, ?_, ?_, ?_⟩ <;> unfold clA <;> repeat (first | exact if_pos (by decide +kernel) | refine (if_neg (by decide +kernel)).trans ?_)
section
variable {P : Program} {w : World} {K : PySem.W.Frag} {mg : Str → Option Value} {base : Heap} {A : Top}
theorem errC_mess (T : TopOk K mg A) : ErrC K (caughtC A) (clA A "DuplicateMessage") "DuplicateMessage" (fieldsOf "DuplicateMessage") := by
  rw [(clA_of A).mess]
  refine ⟨T.X_DuplicateMessage.field, of_decide_eq_true T.em_DuplicateMessage, fun n m => ?_, rfl⟩
  rw [fields_at.2.2.2.2.1] at m
  exact noB_at T.no_DuplicateMessage m
theorem errC_sent (T : TopOk K mg A) : ErrC K (caughtC A) (clA A "Unsent") "Unsent" (fieldsOf "Unsent") := by
  rw [(clA_of A).sent]
  refine ⟨T.X_Unsent.field, of_decide_eq_true T.em_Unsent, fun n m => ?_, rfl⟩
  rw [fields_at.2.2.2.2.2.1] at m
  exact noB_at T.no_Unsent m
theorem sv_order {S : Sh} {H : Hp} {a C : Addr} {rs : List Row} {σ : L2.St} {i : Nat} (cl : Cls K C) (na : NoAttr K C "_order") (h : LogAt K C S H a rs) (hi : σ[i]? = some (some (.ref a))) : SV K S (tFld K (tVar i) "_order") σ H (orderP rs) := by
  obtain ⟨v, dx, r, o, h1, h2, h3, h4⟩ := h
  exact sv_fld hi h2 cl na rfl h4
theorem ok_Log_len (T : TopOk K mg A) : FnOk P w K mg base CX0 1 A.f_Log_len A.d_Log_len P_Log_len (spMeth K A.c_Log fun rs => .int ((lastO rs).od.length : Nat)) := by
  refine T.F_Log_len.ok sc_Log_len (fun vs H Q E h => ?_) (fun cdv Ar outer s H vs Q E hr h => ?_)
  · obtain ⟨S, a, rs, rfl, _⟩ := h
    rfl
  · obtain ⟨S, a, rs, rfl, hL, hlog, k⟩ := h
    refine ⟨_, (pss_one (ps_ret (pe_callB call_lenK (by rfl) T.b_len (by decide +kernel) (pa_cons (pe_fld (pv 0) rfl) pa_nil)))), ?_⟩
    show tRet _ _ [some (.ref a)] H
    have ho := sv_order T.cl_Log T.na_Log_order hlog (σ := [some (.ref a)]) (i := 0) rfl
    unfold orderP at ho
    refine ret_sv hL (sv_is (sv_lenL ho) (by rw [List.length_map])) k
end
/-! ### lists of lambdas -/
def LamAt (X : Cx) (H : Hp) (f : Addr) : LamT × Bool → Prop
  | (t, false) => LamIn t X H f .none
  | (t, true) => ∃ D, LamIn t X H f (.ref D) ∧ H D = some (.tup [.int 0])
inductive LamsAt (X : Cx) (H : Hp) : List Addr → List (LamT × Bool) → Prop
  | nil : LamsAt X H [] []
  | cons {f fs p ps} : LamAt X H f p → LamsAt X H fs ps → LamsAt X H (f :: fs) (p :: ps)
/-- _law_why(the lambda) is worth d -/
def LamOk (X : Cx) (A : Top) (k : Nat) (σ : L2.St) (S : Sh) (H : Hp) (p : LamT × Bool) (d : PyData) : Prop := ∀ S' H', Now S H S' H' → ∀ (cl : Still) (f : Addr), Caps X σ cl → Apart cl H' → LamAt X H' f p → WhyOk X A S' (kept cl H') k f d
inductive LamsOk (X : Cx) (A : Top) (k : Nat) (σ : L2.St) (S : Sh) (H : Hp) : List (LamT × Bool) → List PyData → Prop
  | nil : LamsOk X A k σ S H [] []
  | cons {p ps d ds} : LamOk X A k σ S H p d → LamsOk X A k σ S H ps ds → LamsOk X A k σ S H (p :: ps) (d :: ds)
section
variable {X : Cx} {A : Top} {B : BagId} {Pt : Addr} {S : Sh} {H H' : Hp} {f : Addr} {fs : List Addr} {p : LamT × Bool} {ps : List (LamT × Bool)} {σ : L2.St} {k : Nat} {ta : TA} {ds : List PyData} {d : PyData} {t : LamT} {e : Fault} {te tx : TE} {bs : List Bool} {y : Str}
theorem tab_tup {D : Addr} {xs : List V} (t : Tb Pt H) (e : Ext Pt H H') (h : H D = some (.tup xs)) : H' D = some (.tup xs) := e _ _ h fun z => by
  obtain ⟨ps, hp⟩ := t.at
  rw [z, hp] at h
  cases h
theorem LamAt.same (h : LamAt X H f p) (s : Same H H') : LamAt X H' f p := by
  obtain ⟨t, b⟩ := p
  cases b with
  | false => exact LamIn.same h s
  | true => exact h.imp fun D e => ⟨e.1.same s, s _ _ e.2⟩
theorem LamAt.tab (h : LamAt X H f p) (t : Tb Pt H) (e : Ext Pt H H') : LamAt X H' f p := by
  obtain ⟨u, b⟩ := p
  cases b with
  | false => exact LamIn.tab h t e
  | true => exact h.imp fun D z => ⟨z.1.tab t e, tab_tup t e z.2⟩
theorem LamsAt.same (h : LamsAt X H fs ps) (s : Same H H') : LamsAt X H' fs ps := by
  induction h with
  | nil => exact .nil
  | cons a _ ih => exact .cons (a.same s) ih
theorem LamsAt.length (h : LamsAt X H fs ps) : fs.length = ps.length := by
  induction h with
  | nil => rfl
  | cons a _ ih => rw [List.length_cons, List.length_cons, ih]
def SLam (X : Cx) (Pt : Addr) (ta : TA) (ps : List (LamT × Bool)) : Prop := ∀ (σ : L2.St) (H : Hp) (Q : List V → Hp → Prop), Tb Pt H → (∀ fs H', Ext Pt H H' → Tb Pt H' → LamsAt X H' fs ps → Q (fs.map V.ref) H') → ta σ H Q
theorem slam_nil : SLam X Pt tNil [] := fun σ H Q t q => q [] H (Ext.of (Same.refl _)) t .nil
theorem slam_0 (h : SLam X Pt ta ps) : SLam X Pt (tCons (tLam0 t X [(Pt, qL)] Pt) ta) ((t, false) :: ps) := fun σ H Q tb q => ⟨tb, fun H1 f e t1 _ li => h σ H1 _ t1 fun fs H2 e2 t2 ls => q (f :: fs) H2 (e.trans e2) t2 (.cons (LamAt.tab (p := (t, false)) li t1 e2) ls)⟩
theorem slam_1 (h : SLam X Pt ta ps) : SLam X Pt (tCons (tLam1 t X [(Pt, qL)] Pt (tC (.int 0))) ta) ((t, true) :: ps) := fun σ H Q tb q => ⟨tb, fun H1 f D e t1 _ _ hD li => h σ H1 _ t1 fun fs H2 e2 t2 ls => q (f :: fs) H2 (e.trans e2) t2 (.cons (LamAt.tab (p := (t, true)) ⟨D, li, hD⟩ t1 e2) ls)⟩
/-- what the bag and the table may have become -/
def Moved (B : BagId) (Pt : Addr) (H H' : Hp) : Prop := XS (SP2 B Pt) H H' ∧ Bag B H' ∧ Tb Pt H'
theorem lst_run {σ : L2.St} {Q : VK} (hB : Bag B H) (tb : Tb Pt H) (h : SLam X Pt ta ps) (hl : decide (ps.length ≤ 100) = true) (q : ∀ l fs H', Moved B Pt H H' → ¬ SP2 B Pt l → H' l = some (.lst (fs.map V.ref)) → LamsAt X H' fs ps → Q (.ref l) H') : tLst ta σ H Q :=
  h σ H _ tb fun fs H1 e t1 ls => ⟨by rw [List.length_map, ls.length]; exact sz (by have := of_decide_eq_true hl; omega), fun p np => q p fs _ ⟨(x_tab e).trans (XS.of (same_upd np)), (bag_tab hB tb e).ext (same_upd np), t1.same (same_upd np)⟩ ((live2 (bag_tab hB tb e) t1).ne np) upd_same (ls.same (same_upd np))⟩
theorem set_lams {D : Ends} {tz : TS} {i : Nat} (hB : Bag B H) (tb : Tb Pt H) (h : SLam X Pt ta ps) (hl : decide (ps.length ≤ 100) = true) (q : ∀ l fs H', Moved B Pt H H' → ¬ SP2 B Pt l → H' l = some (.lst (fs.map V.ref)) → LamsAt X H' fs ps → tz D (σ.set i (some (.ref l))) H') : tSeq (tAsg (tLst ta) (gName i)) tz D σ H := show tLst ta σ H (fun x H1 => tz D (σ.set i (some x)) H1) from lst_run hB tb h hl q
theorem LamsOk.length (h : LamsOk X A k σ S H ps ds) : ds.length = ps.length := by
  induction h with
  | nil => rfl
  | cons a _ ih => rw [List.length_cons, List.length_cons, ih]
theorem LamsOk.each (h : LamsOk X A k σ S H ps ds) : ∀ {fs : List Addr} {H0 : Hp}, LamsAt X H0 fs ps → ∀ S' H', Now S H S' H' → Same H0 H' → ∀ cl : Still, Caps X σ cl → Apart cl H' → ∀ (j : Nat) (f : Addr) (d : PyData), fs[j]? = some f → ds[j]? = some d → WhyOk X A S' (kept cl H') k f d := by
  induction h with
  | nil => exact fun _ _ _ _ _ _ _ _ j f d _ e => by cases e
  | cons a _ ih =>
    intro fs H0 ls S' H' n s cl cs ap j f d ef ed
    cases ls with
    | cons la ls =>
      cases j with
      | zero =>
        cases ef
        cases ed
        exact a S' H' n cl f cs ap (la.same s)
      | succ j => exact ih ls S' H' n s cl cs ap j f d ef ed
/-! ### lambdas that raise -/
theorem hides_none {N : List Str} {sc : Scope} (h : (N.all fun y => !decide (sc.names.lookup y = some .local)) = true) (bs : List Bool) : hidesB N sc bs = true := by
  unfold hidesB
  rw [List.all_eq_true]
  intro p mp
  have := List.all_eq_true.mp h p.1 (List.of_mem_zip mp).1
  rw [Bool.not_eq_true'] at this
  rw [this, Bool.and_false]
  rfl
variable {tb : XK → TE} {cI : Addr} {code : Str} {names : List Str}
theorem lam_err0 (hb : ∀ (f : Addr) (E2 : XK) (A2 : Around) (l2 : List Env) (s2 : Shared) (H2 : Hp) (c' : Addr), Room k (A2.deeper (lamEnv X t.sc s2.heap.objs.size f c')) → PE (t.cx X A2 l2 s2 H2 E2 f c') t.body (tb E2))
    (hno : (X.N.all fun y => !decide (t.sc.names.lookup y = some .local)) = true) (L : lamCB X.env.scope t.sc = true) (h0 : ∀ (pm ct : Value) (c' : Addr), bindArgs { t.fd X pm ct c' with defaults := .none } ⟨[], []⟩ = pure [])
    (ec : ErrC X.K (caughtC A) cI code names) (hl : ds.length = names.length) (ht : code ≠ "told") (raises : ∀ (E2 : XK) (S2 : Sh) (H2 : Hp) (Q2 : VK), Now S H S2 H2 → errD X.K cI code names E2 ds S2 H2 → tb E2 σ H2 Q2) : LamOk X A k σ S H (t, false) (.tuple [.str code, .tuple ds]) :=
  fun S' H' n cl f cs ap li => why_ok (as := []) (vs := []) (σm := σ) li (.inl ⟨rfl, rfl⟩) rfl cs ap n.live less_refl rfl rfl (hides_none hno _) L (lam_bind0 h0) (fun y hy => by cases hy) (hb f) ec hl ht fun E2 S2 H2 Q2 n2 he => raises E2 S2 H2 Q2 (n.trans n2) he
theorem lam_err1 (hb : ∀ (f : Addr) (E2 : XK) (A2 : Around) (l2 : List Env) (s2 : Shared) (H2 : Hp) (c' : Addr), Room k (A2.deeper (lamEnv X t.sc s2.heap.objs.size f c')) → PE (t.cx X A2 l2 s2 H2 E2 f c') t.body (tb E2))
    (hno : (X.N.all fun y => !decide (t.sc.names.lookup y = some .local)) = true) (L : lamCB X.env.scope t.sc = true) (h0 : ∀ (d : Addr) (pm ct : Value) (c' : Addr), ∃ k, bindArgs { t.fd X pm ct c' with defaults := .ref d } ⟨[], []⟩ = seqItems? (.ref d) >>= k ∧ ∀ u, k (some #[u]) = pure [(y, u)]) (hy : t.sc.names.lookup y = some .local)
    (ec : ErrC X.K (caughtC A) cI code names) (hl : ds.length = names.length) (ht : code ≠ "told") (raises : ∀ (E2 : XK) (S2 : Sh) (H2 : Hp) (Q2 : VK), Now S H S2 H2 → errD X.K cI code names E2 ds S2 H2 → tb E2 σ H2 Q2) : LamOk X A k σ S H (t, true) (.tuple [.str code, .tuple ds]) :=
  fun S' H' n cl f cs ap ⟨D, li, hD⟩ => why_ok (as := [y]) (vs := [.int 0]) (σm := σ) li (.inr ⟨_, rfl, hD⟩) rfl cs ap n.live less_refl rfl rfl (hides_none hno _) L (lam_bind1 (h0 D)) (fun y hy' => by rw [List.mem_singleton.mp hy']; exact hy) (hb f) ec hl ht fun E2 S2 H2 Q2 n2 he => raises E2 S2 H2 Q2 (n.trans n2) he
theorem lam_told1 (hb : ∀ (f : Addr) (E2 : XK) (A2 : Around) (l2 : List Env) (s2 : Shared) (H2 : Hp) (c' : Addr), Room k (A2.deeper (lamEnv X t.sc s2.heap.objs.size f c')) → PE (t.cx X A2 l2 s2 H2 E2 f c') t.body (tb E2))
    (hno : (X.N.all fun y => !decide (t.sc.names.lookup y = some .local)) = true) (L : lamCB X.env.scope t.sc = true) (h0 : ∀ (d : Addr) (pm ct : Value) (c' : Addr), ∃ k, bindArgs { t.fd X pm ct c' with defaults := .ref d } ⟨[], []⟩ = seqItems? (.ref d) >>= k ∧ ∀ u, k (some #[u]) = pure [(y, u)]) (hy : t.sc.names.lookup y = some .local)
    (tells : ∀ (E2 : XK) (S2 : Sh) (H2 : Hp) (Q2 : VK), Now S H S2 H2 → (∀ v H3, Same H2 H3 → Q2 v H3) → tb E2 σ H2 Q2) : LamOk X A k σ S H (t, true) (.tuple [.str "told", .none]) :=
  fun S' H' n cl f cs ap ⟨D, li, hD⟩ => why_told (as := [y]) (vs := [.int 0]) (σm := σ) li (.inr ⟨_, rfl, hD⟩) rfl cs ap n.live less_refl rfl rfl (hides_none hno _) L (lam_bind1 (h0 D)) (fun y hy' => by rw [List.mem_singleton.mp hy']; exact hy) (hb f) fun E2 S2 H2 Q2 n2 he => tells E2 S2 H2 Q2 (n.trans n2) he
/-! ### lambdas that read -/
variable {K : PySem.W.Frag} {cl : Str → Addr} {C : Addr} {E : XK} {Q : VK}
end
end My
set_option Elab.async false
set_option linter.all false
set_option maxRecDepth 100000
namespace My
open PySem PySem.Spec PyProof.Rows L2 TL L2H LamX
/-! ### _law_log, any rows -/
section
variable {P : Program} {w : World} {K : PySem.W.Frag} {mg : Str → Option Value} {base : Heap} {A : Top} {cl : Str → Addr}
def spLlogE (K : PySem.W.Frag) (cl : Str → Addr) (C : Addr) : Sp := fun vs H Q E => ∃ (S : Sh) (v : V) (ds : List PyData), vs = [v] ∧ Live S H ∧ Ds K S H v (.list ds) ∧ ds.length ≤ 7 ∧ fine (.list ds) = true ∧ (∀ d ∈ ds, fine d = true) ∧ wishLog K cl C S H Q E ds
set_option maxHeartbeats 3000000 in
theorem ok_LlogE (T : TopOk K mg A) (CL : ClsOf A cl) : FnOk P w K mg base (L2N.CX P w) 10 A.f_Llog A.d_Llog P_Llog (spLlogE K cl A.c_Log) := by
  have G_i_Log : FnR P w K mg base (L2N.CX P w) 8 A.f_i_Log (spInit K cl A.c_Log) := ok_init T CL
  refine fun_okN T.F_Llog sc_Llog (fun vs H Q E h => ?_) (fun cdv Ar outer s H vs Q E hr h TK => ?_)
  · obtain ⟨S, v, ds, rfl, _⟩ := h
    rfl
  · obtain ⟨S, v, ds, rfl, hL, hv, h7, hf, hfs, k⟩ := h
    refine ⟨_, (pss_cons (ps_if (pt_cmpR op_lt (pe_callB call_len (by rfl) T.b_len (by decide +kernel) (pa_cons (pv 0) pa_nil)) pe_int (nomark _))
      (pss_one (ps_ret (pe_ifExp (pt_cmpR (L2.op_eqD hr.units) (pv 0) (pe_lst pa_nil) (nomark _)) (pe_makeR0 (E := E) T.mk_Log G_i_Log (hr.mono (by decide)) (by rfl) T.m_Log (L2N.passes_call (W := fun cls d _ H' => E cls d H') (L2N.takes_of rfl rfl rfl rfl) fun _ _ _ _ h => h)) (StX.pe_makeR (E := E) T.mk_Log G_i_Log (hr.mono (by decide)) (by rfl) T.m_Log (L2N.passes_call (W := fun cls d _ H' => E cls d H') (L2N.takes_of rfl rfl rfl rfl) fun _ _ _ _ h => h) (pa_cons (pe_ix ix_seq (pv 0) pe_int (fun _ _ => rfl)) pa_nil)))))
      pss_nil)
      (pss_cons (ps_if (pt_cmpR op_lt (pe_callB call_len (by rfl) T.b_len (by decide +kernel) (pa_cons (pv 0) pa_nil)) pe_int (nomark _))
      (pss_one (ps_ret (pe_ifExp (pt_cmpR op_eq (pe_callB call_len (by rfl) T.b_len (by decide +kernel) (pa_cons (pv 0) pa_nil)) pe_int (nomark _)) (StX.pe_makeR (E := E) T.mk_Log G_i_Log (hr.mono (by decide)) (by rfl) T.m_Log (L2N.passes_call (W := fun cls d _ H' => E cls d H') (L2N.takes_of rfl rfl rfl rfl) fun _ _ _ _ h => h) (pa_cons (pe_ix ix_seq (pv 0) pe_int (fun _ _ => rfl)) (pa_cons (pe_ix ix_seq (pv 0) pe_int (fun _ _ => rfl)) pa_nil))) (StX.pe_makeR (E := E) T.mk_Log G_i_Log (hr.mono (by decide)) (by rfl) T.m_Log (L2N.passes_call (W := fun cls d _ H' => E cls d H') (L2N.takes_of rfl rfl rfl rfl) fun _ _ _ _ h => h) (pa_cons (pe_ix ix_seq (pv 0) pe_int (fun _ _ => rfl)) (pa_cons (pe_ix ix_seq (pv 0) pe_int (fun _ _ => rfl)) (pa_cons (pe_ix ix_seq (pv 0) pe_int (fun _ _ => rfl)) pa_nil)))))))
      pss_nil)
      (pss_cons (ps_if (pt_cmpR op_eq (pe_callB call_len (by rfl) T.b_len (by decide +kernel) (pa_cons (pv 0) pa_nil)) pe_int (nomark _))
      (pss_one (ps_ret (StX.pe_makeR (E := E) T.mk_Log G_i_Log (hr.mono (by decide)) (by rfl) T.m_Log (L2N.passes_call (W := fun cls d _ H' => E cls d H') (L2N.takes_of rfl rfl rfl rfl) fun _ _ _ _ h => h) (pa_cons (pe_ix ix_seq (pv 0) pe_int (fun _ _ => rfl)) (pa_cons (pe_ix ix_seq (pv 0) pe_int (fun _ _ => rfl)) (pa_cons (pe_ix ix_seq (pv 0) pe_int (fun _ _ => rfl)) (pa_cons (pe_ix ix_seq (pv 0) pe_int (fun _ _ => rfl)) pa_nil)))))))
      pss_nil)
      (pss_cons (ps_if (pt_cmpR op_eq (pe_callB call_len (by rfl) T.b_len (by decide +kernel) (pa_cons (pv 0) pa_nil)) pe_int (nomark _))
      (pss_one (ps_ret (StX.pe_makeR (E := E) T.mk_Log G_i_Log (hr.mono (by decide)) (by rfl) T.m_Log (L2N.passes_call (W := fun cls d _ H' => E cls d H') (L2N.takes_of rfl rfl rfl rfl) fun _ _ _ _ h => h) (pa_cons (pe_ix ix_seq (pv 0) pe_int (fun _ _ => rfl)) (pa_cons (pe_ix ix_seq (pv 0) pe_int (fun _ _ => rfl)) (pa_cons (pe_ix ix_seq (pv 0) pe_int (fun _ _ => rfl)) (pa_cons (pe_ix ix_seq (pv 0) pe_int (fun _ _ => rfl)) (pa_cons (pe_ix ix_seq (pv 0) pe_int (fun _ _ => rfl)) pa_nil))))))))
      pss_nil)
      (pss_cons (ps_if (pt_cmpR op_eq (pe_callB call_len (by rfl) T.b_len (by decide +kernel) (pa_cons (pv 0) pa_nil)) pe_int (nomark _))
      (pss_one (ps_ret (StX.pe_makeR (E := E) T.mk_Log G_i_Log (hr.mono (by decide)) (by rfl) T.m_Log (L2N.passes_call (W := fun cls d _ H' => E cls d H') (L2N.takes_of rfl rfl rfl rfl) fun _ _ _ _ h => h) (pa_cons (pe_ix ix_seq (pv 0) pe_int (fun _ _ => rfl)) (pa_cons (pe_ix ix_seq (pv 0) pe_int (fun _ _ => rfl)) (pa_cons (pe_ix ix_seq (pv 0) pe_int (fun _ _ => rfl)) (pa_cons (pe_ix ix_seq (pv 0) pe_int (fun _ _ => rfl)) (pa_cons (pe_ix ix_seq (pv 0) pe_int (fun _ _ => rfl)) (pa_cons (pe_ix ix_seq (pv 0) pe_int (fun _ _ => rfl)) pa_nil)))))))))
      pss_nil)
      (pss_one (ps_ret (StX.pe_makeR (E := E) T.mk_Log G_i_Log (hr.mono (by decide)) (by rfl) T.m_Log (L2N.passes_call (W := fun cls d _ H' => E cls d H') (L2N.takes_of rfl rfl rfl rfl) fun _ _ _ _ h => h) (pa_cons (pe_ix ix_seq (pv 0) pe_int (fun _ _ => rfl)) (pa_cons (pe_ix ix_seq (pv 0) pe_int (fun _ _ => rfl)) (pa_cons (pe_ix ix_seq (pv 0) pe_int (fun _ _ => rfl)) (pa_cons (pe_ix ix_seq (pv 0) pe_int (fun _ _ => rfl)) (pa_cons (pe_ix ix_seq (pv 0) pe_int (fun _ _ => rfl)) (pa_cons (pe_ix ix_seq (pv 0) pe_int (fun _ _ => rfl)) (pa_cons (pe_ix ix_seq (pv 0) pe_int (fun _ _ => rfl)) pa_nil))))))))))))))), ?_⟩
    have hx : ∀ (j : Nat) (H' : Hp) (d : PyData), Same H H' → ds[j]? = some d → SV K S (tOp (rIx K) (tVar 0) (tC (.int (j : Nat)))) [some v] H' d := fun j H' d s e => sv_ixL (sv_var rfl (hv.same s)) sv_int (atI_of e)
    have hlt : ∀ (n : Nat) (H' : Hp), Same H H' → SB S (tTest (tOp (rI0 fun i j => .bl (decide (i < j))) (tCB (fun xs H Q => ∃ x n, xs = [x] ∧ LenV K x H n ∧ Q (.int (n : Nat)) H) (tCons (tVar 0) tNil)) (tC (.int (n : Nat))))) [some v] H' (decide (ds.length < n)) := fun n H' s => sb_is (sb_test (sv_lt (sv_lenL (sv_var rfl (hv.same s))) sv_int)) (decide_eq_decide.mpr (by omega))
    have heq : ∀ (n : Nat) (H' : Hp), Same H H' → SB S (tTest (tOp rEq (tCB (fun xs H Q => ∃ x n, xs = [x] ∧ LenV K x H n ∧ Q (.int (n : Nat)) H) (tCons (tVar 0) tNil)) (tC (.int (n : Nat))))) [some v] H' (decide (ds.length = n)) := fun n H' s => sb_is (sb_test (sv_eqI (sv_lenL (sv_var rfl (hv.same s))) sv_int)) (decide_eq_decide.mpr (by omega))
    have mk : ∀ {es : List PyData} {ta : TA} {H' : Hp}, es = ds → Same H H' → Live S H' → SA K S ta [some v] H' es → StX.tMakeR A.c_Log (spInit K cl A.c_Log) E ta [some v] H' Q := fun e s l h => by
      subst e
      exact mk_logV l h (by omega) hfs (k.same s)
    show tSeq _ _ _ [some v] H
    refine seq_if hL (hlt 2 H (Same.refl _)) (fun z H1 s1 l1 => ?_) fun z H1 s1 l1 => ?_
    · refine SB.run (sb_test (sv_eqD (K := K) (sv_var (i := 0) rfl (hv.same s1)) (sv_lst sa_nil (by decide)) hf (by decide))) l1 fun H2 s2 => ?_
      have s12 := s1.trans s2
      rcases ds with _ | ⟨r0, ds⟩
      · exact iteT (mk rfl s12 (l1.same s2) sa_nil)
      · rcases ds with _ | ⟨r1, ds⟩
        · exact iteF (mk rfl s12 (l1.same s2) (sa_cons (hx 0 H2 _ s12 rfl) sa_nil))
        · have := of_decide_eq_true z
          simp at this
          omega
    have z := of_decide_eq_false z
    rcases ds with _ | ⟨r0, ds⟩
    · exact absurd (by decide) z
    rcases ds with _ | ⟨r1, ds⟩
    · exact absurd (by show 1 < 2; decide) z
    refine seq_if l1 (hlt 4 H1 s1) (fun z H2 s2 l2 => ?_) fun z H2 s2 l2 => ?_
    · refine SB.run (heq 2 H2 (s1.trans s2)) l2 fun H3 s3 => ?_
      have s13 := (s1.trans s2).trans s3
      rcases ds with _ | ⟨r2, ds⟩
      · exact iteT (mk rfl s13 (l2.same s3) (sa_cons (hx 0 H3 _ s13 rfl) (sa_cons (hx 1 H3 _ s13 rfl) sa_nil)))
      rcases ds with _ | ⟨r3, ds⟩
      · exact iteF (mk rfl s13 (l2.same s3) (sa_cons (hx 0 H3 _ s13 rfl) (sa_cons (hx 1 H3 _ s13 rfl) (sa_cons (hx 2 H3 _ s13 rfl) sa_nil))))
      · have := of_decide_eq_true z
        simp at this
        omega
    have z := of_decide_eq_false z
    rcases ds with _ | ⟨r2, ds⟩
    · exact absurd (by show 2 < 4; decide) z
    rcases ds with _ | ⟨r3, ds⟩
    · exact absurd (by show 3 < 4; decide) z
    have s02 := s1.trans s2
    refine seq_if l2 (heq 4 H2 s02) (fun z H3 s3 l3 => ?_) fun z H3 s3 l3 => ?_
    · have z := of_decide_eq_true z
      rcases ds with _ | ⟨r4, ds⟩
      · exact mk rfl (s02.trans s3) l3 (sa_cons (hx 0 H3 _ (s02.trans s3) rfl) (sa_cons (hx 1 H3 _ (s02.trans s3) rfl) (sa_cons (hx 2 H3 _ (s02.trans s3) rfl) (sa_cons (hx 3 H3 _ (s02.trans s3) rfl) sa_nil))))
      · simp at z
    have z := of_decide_eq_false z
    rcases ds with _ | ⟨r4, ds⟩
    · exact absurd rfl z
    have s03 := s02.trans s3
    refine seq_if l3 (heq 5 H3 s03) (fun z H4 s4 l4 => ?_) fun z H4 s4 l4 => ?_
    · have z := of_decide_eq_true z
      rcases ds with _ | ⟨r5, ds⟩
      · exact mk rfl (s03.trans s4) l4 (sa_cons (hx 0 H4 _ (s03.trans s4) rfl) (sa_cons (hx 1 H4 _ (s03.trans s4) rfl) (sa_cons (hx 2 H4 _ (s03.trans s4) rfl) (sa_cons (hx 3 H4 _ (s03.trans s4) rfl) (sa_cons (hx 4 H4 _ (s03.trans s4) rfl) sa_nil)))))
      · simp at z
    have z := of_decide_eq_false z
    rcases ds with _ | ⟨r5, ds⟩
    · exact absurd rfl z
    have s04 := s03.trans s4
    refine seq_if l4 (heq 6 H4 s04) (fun z H5 s5 l5 => ?_) fun z H5 s5 l5 => ?_
    · have z := of_decide_eq_true z
      rcases ds with _ | ⟨r6, ds⟩
      · exact mk rfl (s04.trans s5) l5 (sa_cons (hx 0 H5 _ (s04.trans s5) rfl) (sa_cons (hx 1 H5 _ (s04.trans s5) rfl) (sa_cons (hx 2 H5 _ (s04.trans s5) rfl) (sa_cons (hx 3 H5 _ (s04.trans s5) rfl) (sa_cons (hx 4 H5 _ (s04.trans s5) rfl) (sa_cons (hx 5 H5 _ (s04.trans s5) rfl) sa_nil))))))
      · simp at z
    have z := of_decide_eq_false z
    rcases ds with _ | ⟨r6, ds⟩
    · exact absurd rfl z
    rcases ds with _ | ⟨r7, ds⟩
    · have s05 := s04.trans s5
      exact mk rfl s05 l5 (sa_cons (hx 0 H5 _ s05 rfl) (sa_cons (hx 1 H5 _ s05 rfl) (sa_cons (hx 2 H5 _ s05 rfl) (sa_cons (hx 3 H5 _ s05 rfl) (sa_cons (hx 4 H5 _ s05 rfl) (sa_cons (hx 5 H5 _ s05 rfl) (sa_cons (hx 6 H5 _ s05 rfl) sa_nil)))))))
    · simp at h7
end
end My
set_option Elab.async false
set_option linter.all false
set_option maxRecDepth 100000
namespace My
open PySem PySem.Spec PyProof.Rows L2 TL L2H LamX
/-! ### the classes of two more errors -/
section
variable {K : PySem.W.Frag} {mg : Str → Option Value} {A : Top}
theorem errC_many (T : TopOk K mg A) : ErrC K (caughtC A) (clA A "TooMany") "TooMany" (fieldsOf "TooMany") := by
  rw [(clA_of A).many]
  refine ⟨T.X_TooMany.field, of_decide_eq_true T.em_TooMany, fun n m => ?_, rfl⟩
  rw [fields_at.1] at m
  exact noB_at T.no_TooMany m
end
/-! ### verdicts on spoilt rows -/
theorem firstAt_no {α : Type} {p : α → Bool} : ∀ {l : List α} {i : Nat}, (∀ y ∈ l, p y = false) → firstAt p l i = none
  | [], _, _ => rfl
  | y :: l, i, h => by rw [firstAt_cons, if_neg (by rw [h y (.head _)]; simp), firstAt_no fun z m => h z (.tail _ m)]
theorem dup_no {α : Type} [DecidableEq α] : ∀ {l seen : List α}, (seen ++ l).Nodup → dupOf seen l = none
  | [], _, _ => rfl
  | x :: l, seen, h => by
    have h1 : x ∉ seen := fun m => by
      have := (List.nodup_append.mp h).2.2 x m x (.head _)
      exact this rfl
    rw [dup_cons, if_neg h1]
    exact dup_no (by rw [List.append_assoc]; exact h)
theorem list_ok {n : Str} {ds : List PyData} (hn : nameD 6 (.str n) = true) : rowD (.tuple [.str n, .list ds]) = true ∧ nmD (.tuple [.str n, .list ds]) = n ∧ innD (.tuple [.str n, .list ds]) = ds := ⟨by show (nameD 6 (.str n) && _) = true; rw [hn]; rfl, rfl, rfl⟩
theorem rowsV_ok {ds : List PyData} (h6 : ds.length ≤ 6) (h : ∀ d ∈ ds, rowD d = true) (nd : (ds.map nmD).Nodup) : rowsV ds = none := by
  unfold rowsV
  rw [if_neg (by omega), firstAt_no (fun d m => by rw [h d m]; rfl), dup_no (seen := []) nd]
end My
set_option Elab.async false
set_option linter.all false
set_option maxRecDepth 100000
namespace My
open PySem PySem.Spec PyProof.Rows L2 TL L2H LamX
/-! ### rows that are written out, and their verdicts -/
abbrev rw_ (n : Str) (ds : List PyData) : PyData := .tuple [.str n, .list ds]
abbrev stX : PyData := .tuple [.str "x", .int 0, .none]
def d5 : List PyData := [rw_ "a" [], rw_ "a" [], .none]
def d6 : List PyData := [rw_ "a" [.int 3], rw_ "b" (List.replicate 21 stX)]
def sevenD : List PyData := (["a", "b", "c", "d", "e", "f", "g"] : List Str).map fun n => rw_ n []
def d4 : List PyData := cutD sevenD none (some 6) ++ [.none]
theorem ne_told : ("InvalidRow" : Str) ≠ "told" ∧ ("DuplicateName" : Str) ≠ "told" ∧ ("DuplicateMessage" : Str) ≠ "told" ∧ ("Unsent" : Str) ≠ "told" ∧ ("Ring" : Str) ≠ "told" ∧ ("TooMany" : Str) ≠ "told" ∧ ("InvalidStep" : Str) ≠ "told" := by decide +kernel
theorem fl_all : 1 = (fieldsOf "InvalidRow").length ∧ 1 = (fieldsOf "DuplicateName").length ∧ 1 = (fieldsOf "DuplicateMessage").length ∧ 1 = (fieldsOf "Unsent").length ∧ 1 = (fieldsOf "Ring").length ∧ 2 = (fieldsOf "TooMany").length ∧ 2 = (fieldsOf "InvalidStep").length := by decide +kernel
/-! ### lambdas that make logs -/
end My
set_option Elab.async false
set_option linter.all false
set_option maxRecDepth 100000
namespace My
open PySem PySem.Spec PyProof.Rows L2 TL L2H LamX
section
variable {K : PySem.W.Frag} {S : Sh} {σ : L2.St} {H : Hp} {te ta tb : TE} {d e d1 d2 d3 d4 : PyData} {D : Ends} {tz : TS} {i j k l : Nat} {v : V}
/-- a, b = .. -/
theorem asgT_sv (lv : Live S H) (h : SV K S te σ H (.tuple [d, e])) (q : ∀ v u H', Same H H' → Live S H' → Ds K S H' v d → Ds K S H' u e → tz D ((σ.set i (some v)).set j (some u)) H') : tSeq (tAsg te (gTup K 2 (gCons (gName i) (gCons (gName j) gNil)))) tz D σ H :=
  h.run lv fun v H' s hv => g_tup2 hv fun x y hx hy => q x y H' s (lv.same s) hx hy
end
/-! ### sizes -/
end My
set_option Elab.async false
set_option linter.all false
set_option maxRecDepth 100000
namespace My
open PySem PySem.Spec PyProof.Rows L2 TL
/-! ### what is made up to a point -/
def rowW (r : Row) (n : Nat) (b : Bool) : List Str := (((r.s.take n).filterMap (·.d)).filter fun d => decide (d.1 = b)).map (·.2)
def wAt (rs : List Row) (pl : List Nat) (b : Bool) (i : Nat) : List Str := match rs[i]? with
  | some r => rowW r (pl.getD i 0) b
  | none => []
def cutWords (rs : List Row) (pl : List Nat) (b : Bool) : List Str := (List.range rs.length).flatMap (wAt rs pl b)
theorem mem_rowW {r : Row} {n : Nat} {b : Bool} {w : Str} : w ∈ rowW r n b ↔ ∃ (i : Nat) (s : Stp), i < n ∧ r.s[i]? = some s ∧ s.d = some (b, w) := by
  unfold rowW
  rw [List.mem_map]
  constructor
  · rintro ⟨d, m, rfl⟩
    obtain ⟨m1, m2⟩ := List.mem_filter.mp m
    obtain ⟨s, ms, e⟩ := List.mem_filterMap.mp m1
    obtain ⟨i, hi⟩ := List.getElem?_of_mem ms
    have hi' := (List.getElem?_eq_some_iff.mp hi).1
    rw [List.length_take] at hi'
    rw [List.getElem?_take_of_lt (by omega)] at hi
    refine ⟨i, s, by omega, hi, ?_⟩
    rw [e]
    have : d.1 = b := of_decide_eq_true m2
    rw [← this]
  · rintro ⟨i, s, hi, e, ed⟩
    refine ⟨(b, w), List.mem_filter.mpr ⟨List.mem_filterMap.mpr ⟨s, ?_, ed⟩, decide_eq_true rfl⟩, rfl⟩
    exact List.mem_of_getElem? (i := i) (by rw [List.getElem?_take_of_lt hi]; exact e)
theorem mem_cutT {rs : List Row} {pl : List Nat} {b : Bool} {w : Str} : w ∈ cutWords rs pl b ↔ ∃ i j s, j < pl.getD i 0 ∧ stepAt rs i j = some s ∧ s.d = some (b, w) := by
  unfold cutWords
  rw [List.mem_flatMap]
  constructor
  · rintro ⟨i, mi, m⟩
    unfold wAt at m
    cases e : rs[i]? with
    | none => rw [e] at m; cases m
    | some r =>
      rw [e] at m
      obtain ⟨j, s, h1, h2, h3⟩ := mem_rowW.mp m
      exact ⟨i, j, s, h1, stepAt_of e h2, h3⟩
  · rintro ⟨i, j, s, h1, h2, h3⟩
    obtain ⟨r, e, h4⟩ := stepAt_row h2
    refine ⟨i, List.mem_range.mpr (List.getElem?_eq_some_iff.mp e).1, ?_⟩
    unfold wAt
    rw [e]
    exact mem_rowW.mpr ⟨j, s, h1, h4, h3⟩
/-! ### sweeps -/
/-- whether a deed can be done where these are made -/
def canP (rs : List Row) (pl : List Nat) : Option (Bool × Str) → Bool
  | none => true
  | some (true, _) => true
  | some (false, w) => decide (w ∈ cutWords rs pl true)
def Le (p q : List Nat) : Prop := ∀ i : Nat, p.getD i 0 ≤ q.getD i 0
theorem Le.refl (p : List Nat) : Le p p := fun _ => Nat.le_refl _
theorem Le.trans {p q r : List Nat} (a : Le p q) (b : Le q r) : Le p r := fun i => Nat.le_trans (a i) (b i)
theorem canP_mono {rs : List Row} {p q : List Nat} (h : Le p q) {d : Option (Bool × Str)} (c : canP rs p d = true) : canP rs q d = true := by
  match d, c with
  | none, _ => rfl
  | some (true, _), _ => rfl
  | some (false, w), c =>
    obtain ⟨i, j, s, h1, h2, h3⟩ := mem_cutT.mp (of_decide_eq_true c)
    exact decide_eq_true (mem_cutT.mpr ⟨i, j, s, Nat.lt_of_lt_of_le h1 (h i), h2, h3⟩)
theorem canP_false {rs : List Row} {p : List Nat} {d : Option (Bool × Str)} (c : canP rs p d = false) : ∃ w, d = some (false, w) := by
  match d, c with
  | none, c => cases c
  | some (true, _), c => cases c
  | some (false, w), _ => exact ⟨w, rfl⟩
def Closed (rs : List Row) (pl : List Nat) : Prop := ∀ i s, stepAt rs i (pl.getD i 0) = some s → canP rs pl s.d = false
def NextRecv (rs : List Row) (pl : List Nat) : Prop := ∀ i s, stepAt rs i (pl.getD i 0) = some s → ∃ w, s.d = some (false, w)
theorem run_le {rs : List Row} {pl : List Nat} (hc : Closed rs pl) : ∀ (m : Nat) (t : Sta), Good rs t → Le t.pl pl → Le (runO rs m t).pl pl
  | 0, _, _, h => h
  | m + 1, t, g, h => by
    cases e : ready rs t.pl t.md with
    | none => rw [runO_fix e]; exact h
    | some i =>
      obtain ⟨r, s, a, b, cc⟩ := ready_some e
      have hs := stepAt_of a b
      rw [runO_step e hs]
      refine run_le hc m _ (good_adv g hs) fun j => ?_
      have hi : i < t.pl.length := by rw [g.pl]; exact (List.getElem?_eq_some_iff.mp a).1
      show (t.pl.set i (t.pl.getD i 0 + 1)).getD j 0 ≤ _
      rw [getD_set hi]
      split
      · rename_i z
        subst z
        refine Nat.lt_of_le_of_ne (h i) fun z => ?_
        rw [z] at hs
        have := hc i s hs
        have c2 : canP rs pl s.d = true := by
          cases ed : s.d with
          | none => rfl
          | some d =>
            obtain ⟨k, w⟩ := d
            cases k with
            | true => rfl
            | false =>
              rw [ed] at cc
              obtain ⟨i', j', s', h1, h2, h3⟩ := (g.md _).mp (of_decide_eq_true (show decide ((true, w) ∈ t.md) = true from cc))
              exact decide_eq_true (mem_cutT.mpr ⟨i', j', s', Nat.lt_of_lt_of_le h1 (h i'), h2, h3⟩)
        rw [c2] at this
        cases this
      · exact h j
theorem closed_ge {rs : List Row} {pl : List Nat} (hc : Closed rs pl) : Le (lastO rs).pl pl := run_le hc _ _ (good0 rs) fun i => by
  show (rs.map fun _ => 0).getD i 0 ≤ _
  rw [getD_zeros]
  exact Nat.zero_le _
/-! how many deeds are made -/
def dN (r : Row) (n : Nat) : Nat := ((r.s.take n).filterMap (·.d)).length
def dL (rs : List Row) (pl : List Nat) : List Nat := rs.zipIdx.map fun p => dN p.1 (pl.getD p.2 0)
def cnt (rs : List Row) (pl : List Nat) : Nat := (dL rs pl).sum
theorem dN_mono (r : Row) {n m : Nat} (h : n ≤ m) : dN r n ≤ dN r m := by
  unfold dN
  exact ((List.take_sublist_take_left h).filterMap _).length_le
theorem dN_step {r : Row} {j : Nat} {s : Stp} {d : Bool × Str} (h : r.s[j]? = some s) (hd : s.d = some d) : dN r (j + 1) = dN r j + 1 := by
  unfold dN
  rw [List.take_add_one, h, List.filterMap_append, List.length_append]
  show _ + (List.filterMap (·.d) [s]).length = _
  rw [List.filterMap_cons_some hd]
  rfl
theorem dL_at (rs : List Row) (pl : List Nat) (i : Nat) : (dL rs pl).getD i 0 = match rs[i]? with | some r => dN r (pl.getD i 0) | none => 0 := by
  unfold dL
  rw [List.getD_eq_getElem?_getD, List.getElem?_map, List.getElem?_zipIdx]
  cases rs[i]? with
  | none => rfl
  | some r => simp
theorem dL_len (rs : List Row) (pl : List Nat) : (dL rs pl).length = rs.length := by
  unfold dL
  rw [List.length_map, List.length_zipIdx]
theorem cnt_lt {rs : List Row} {p q : List Nat} (h : Le p q) {i : Nat} {s : Stp} {d : Bool × Str} (hlt : p.getD i 0 < q.getD i 0) (hs : stepAt rs i (p.getD i 0) = some s) (hd : s.d = some d) : cnt rs p < cnt rs q := by
  obtain ⟨r, hr, hj⟩ := stepAt_row hs
  refine sum_lt _ _ (by rw [dL_len, dL_len]) (fun k => ?_) i ?_
  · rw [dL_at, dL_at]
    cases rs[k]? with
    | none => exact Nat.le_refl _
    | some r => exact dN_mono r (h k)
  · rw [dL_at, dL_at, hr]
    have := dN_mono r hlt
    have e := dN_step hj hd
    show dN r (p.getD i 0) < dN r (q.getD i 0)
    have : dN r (p.getD i 0 + 1) ≤ dN r (q.getD i 0) := this
    omega
def fullL (rs : List Row) : List Nat := rs.map fun r => r.s.length
theorem cnt_full (rs : List Row) : cnt rs (fullL rs) = (deeds rs).length := by
  have key : ∀ (l : List Row) (k : Nat) (pl : List Nat), (∀ j r, l[j]? = some r → pl.getD (k + j) 0 = r.s.length) → ((l.zipIdx k).map fun p => dN p.1 (pl.getD p.2 0)).sum = (l.flatMap fun r => r.s.filterMap (·.d)).length := by
    intro l
    induction l with
    | nil => intro k pl _; rfl
    | cons r l ih =>
      intro k pl h
      rw [List.zipIdx_cons, List.map_cons, List.sum_cons, List.flatMap_cons, List.length_append, ih (k + 1) pl fun j r' e => by
        have := h (j + 1) r' e
        rw [show k + 1 + j = k + (j + 1) by omega]
        exact this]
      have := h 0 r rfl
      rw [Nat.add_zero] at this
      rw [this]
      unfold dN
      rw [List.take_length]
  exact key rs 0 (fullL rs) fun j r e => by
    rw [Nat.zero_add]
    unfold fullL
    rw [List.getD_eq_getElem?_getD, List.getElem?_map, e]
    rfl
theorem last_full (rs : List Row) : Le (lastO rs).pl (fullL rs) := fun i => by
  unfold fullL
  rw [total_eq]
  cases e : rs[i]? with
  | some r => exact (last_good rs).1.le i r e
  | none =>
    rw [List.getD_eq_getElem?_getD, List.getElem?_eq_none]
    · exact Nat.zero_le _
    · rw [(last_good rs).1.pl]; exact List.getElem?_eq_none_iff.mp e
theorem step_full {rs : List Row} {i j : Nat} {s : Stp} (h : stepAt rs i j = some s) : j < (fullL rs).getD i 0 := by
  obtain ⟨r, hr, hj⟩ := stepAt_row h
  unfold fullL
  rw [total_eq, hr]
  exact (List.getElem?_eq_some_iff.mp hj).1
/-- where t turns have led -/
structure Tn (rs : List Row) (t : Nat) (pl : List Nat) : Prop where
  le : Le pl (lastO rs).pl
  len : pl.length = rs.length
  far : t = 0 ∨ (NextRecv rs pl ∧ (Closed rs pl ∨ t ≤ cnt rs pl + 1))
theorem Tn.start (rs : List Row) : Tn rs 0 (rs.map fun _ => 0) := ⟨fun i => by rw [getD_zeros]; exact Nat.zero_le _, by rw [List.length_map], .inl rfl⟩
theorem Tn.fin {rs : List Row} {pl : List Nat} (h : Tn rs ((deeds rs).length + 1) pl) : ∀ i : Nat, (lastO rs).pl.getD i 0 = pl.getD i 0 := by
  rcases h.far with z | ⟨nr, z | z⟩
  · cases z
  · exact fun i => Nat.le_antisymm (closed_ge z i) (h.le i)
  · have : Closed rs pl := fun i s hs => by
      obtain ⟨w, e⟩ := nr i s hs
      have := cnt_lt (h.le.trans (last_full rs)) (step_full hs) hs e
      rw [cnt_full] at this
      omega
    exact fun i => Nat.le_antisymm (closed_ge this i) (h.le i)
/-- within a turn: the rows ahead of k are done -/
structure Sp' (rs : List Row) (p0 : List Nat) (k : Nat) (pl : List Nat) : Prop where
  up : Le p0 pl
  le : Le pl (lastO rs).pl
  len : pl.length = rs.length
  rest : ∀ j, k ≤ j → pl.getD j 0 = p0.getD j 0
  recv : ∀ j s, j < k → stepAt rs j (pl.getD j 0) = some s → ∃ w, s.d = some (false, w)
  far : (∀ j s, j < k → stepAt rs j (p0.getD j 0) = some s → canP rs p0 s.d = false) ∧ Le pl p0 ∨ ∃ i, p0.getD i 0 < pl.getD i 0
theorem Sp'.start {rs : List Row} {t : Nat} {pl : List Nat} (h : Tn rs t pl) : Sp' rs pl 0 pl := ⟨Le.refl _, h.le, h.len, fun _ _ => rfl, fun _ _ h => absurd h (Nat.not_lt_zero _), .inl ⟨fun _ _ h => absurd h (Nat.not_lt_zero _), Le.refl _⟩⟩
theorem Sp'.fin {rs : List Row} {t : Nat} {p0 pl : List Nat} (h0 : Tn rs t p0) (h : Sp' rs p0 rs.length pl) : Tn rs (t + 1) pl := by
  have small : ∀ {i j s}, stepAt rs i j = some s → i < rs.length := fun e => by
    obtain ⟨r, hr, _⟩ := stepAt_row e
    exact (List.getElem?_eq_some_iff.mp hr).1
  refine ⟨h.le, h.len, .inr ⟨fun i s hs => h.recv i s (small hs) hs, ?_⟩⟩
  rcases h.far with ⟨z, lq⟩ | ⟨i, z⟩
  · refine .inl fun i s hs => ?_
    have e : pl.getD i 0 = p0.getD i 0 := Nat.le_antisymm (lq i) (h.up i)
    rw [e] at hs
    have := z i s (small hs) hs
    refine Bool.eq_false_iff.mpr fun c => ?_
    rw [canP_mono lq c] at this
    cases this
  · rcases h0.far with e | ⟨nr, c | c⟩
    · rw [e]
      exact .inr (by omega)
    · have := closed_ge c i
      have := h.le i
      omega
    · have hlt : p0.getD i 0 < (fullL rs).getD i 0 := Nat.lt_of_lt_of_le z (Nat.le_trans (h.le i) (last_full rs i))
      have hi : i < rs.length := by
        refine Nat.lt_of_not_le fun hle => ?_
        have : (fullL rs).getD i 0 = 0 := by
          rw [List.getD_eq_getElem?_getD, List.getElem?_eq_none (by unfold fullL; rw [List.length_map]; exact hle)]
          rfl
        omega
      have er : rs[i]? = some rs[i] := List.getElem?_eq_getElem hi
      have hlt2 : p0.getD i 0 < rs[i].s.length := by
        unfold fullL at hlt
        rw [total_eq, er] at hlt
        exact hlt
      have hs := stepAt_of er (List.getElem?_eq_getElem hlt2)
      obtain ⟨w, e⟩ := nr i _ hs
      have := cnt_lt h.up z hs e
      exact .inr (by omega)
/-- within a row: it stands at m, index k comes next -/
structure In' (rs : List Row) (pl : List Nat) (i k m : Nat) : Prop where
  lo : pl.getD i 0 ≤ m
  hi : m ≤ k
  le : Le (pl.set i m) (lastO rs).pl
  at_ : m = k ∨ ∀ s, stepAt rs i m = some s → canP rs (pl.set i m) s.d = false
theorem set_same {pl : List Nat} {i : Nat} : Le (pl.set i (pl.getD i 0)) pl ∧ Le pl (pl.set i (pl.getD i 0)) := by
  by_cases h : i < pl.length
  · refine ⟨fun j => ?_, fun j => ?_⟩ <;> rw [getD_set h] <;> split <;> first | (rename_i z; subst z; exact Nat.le_refl _) | exact Nat.le_refl _
  · rw [List.set_eq_of_length_le (by omega)]
    exact ⟨Le.refl _, Le.refl _⟩
theorem In'.start {rs : List Row} {pl : List Nat} {i : Nat} (h : Le pl (lastO rs).pl) : In' rs pl i (pl.getD i 0) (pl.getD i 0) := ⟨Nat.le_refl _, Nat.le_refl _, set_same.1.trans h, .inl rfl⟩
theorem In'.fin {rs : List Row} {p0 pl : List Nat} {i m : Nat} {r : Row} (hs : Sp' rs p0 i pl) (hr : rs[i]? = some r) (h : In' rs pl i r.s.length m) : Sp' rs p0 (i + 1) (pl.set i m) := by
  have hi : i < pl.length := by rw [hs.len]; exact (List.getElem?_eq_some_iff.mp hr).1
  have e : ∀ j, (pl.set i m).getD j 0 = if i = j then m else pl.getD j 0 := fun j => getD_set hi
  have bl : ∀ s, stepAt rs i m = some s → canP rs (pl.set i m) s.d = false := fun s hs2 => by
    rcases h.at_ with z | z
    · obtain ⟨r', hr', hj⟩ := stepAt_row hs2
      rw [hr] at hr'
      cases hr'
      have := (List.getElem?_eq_some_iff.mp hj).1
      omega
    · exact z s hs2
  have r0 := hs.rest i (Nat.le_refl _)
  have lo := h.lo
  have up : Le p0 (pl.set i m) := fun j => by
    rw [e]
    split
    · rename_i z
      subst z
      omega
    · exact hs.up j
  refine ⟨up, h.le, by rw [List.length_set]; exact hs.len, fun j hj => ?_, fun j s hj hs2 => ?_, ?_⟩
  · rw [e, if_neg (by omega)]
    exact hs.rest j (by omega)
  · rw [e] at hs2
    split at hs2
    · rename_i z
      subst z
      exact canP_false (bl s hs2)
    · exact hs.recv j s (by omega) hs2
  · by_cases hm : p0.getD i 0 < m
    · exact .inr ⟨i, by rw [e, if_pos rfl]; exact hm⟩
    · have em : m = p0.getD i 0 := by omega
      rcases hs.far with ⟨z, lq⟩ | ⟨k, z⟩
      · have lq2 : Le (pl.set i m) p0 := fun j => by
          rw [e]
          split
          · rename_i y
            subst y
            omega
          · exact lq j
        refine .inl ⟨fun j s hj hs2 => ?_, lq2⟩
        by_cases y : j = i
        · subst y
          rw [← em] at hs2
          refine Bool.eq_false_iff.mpr fun c => ?_
          have := bl s hs2
          rw [canP_mono up c] at this
          cases this
        · exact z j s (by omega) hs2
      · refine .inr ⟨k, ?_⟩
        rw [e]
        split
        · rename_i y
          subst y
          omega
        · exact z
/-! what is late -/
/-! ### things that may change, as they stand -/
end My
set_option Elab.async false
set_option linter.all false
set_option maxRecDepth 100000
namespace My
open PySem PySem.Spec PyProof.Rows L2 TL
/-! ### what is made up to a point, by the law's own words -/
def ptP (p : List Nat) : PyData := .tuple (p.map fun n => .int (n : Nat))
def tstD (b : Bool) : PyData → Bool
  | .tuple [_, _, .tuple [.str k, _]] => decide (k = kindS b)
  | _ => false
def elD : PyData → PyData
  | .tuple [_, _, .tuple [_, x]] => x
  | _ => .none
theorem rowW_is (b : Bool) : ∀ l : List Stp, ((l.map stpP).filter (tstD b)).map elD = (((l.filterMap (·.d)).filter fun d => decide (d.1 = b)).map (·.2)).map PyData.str
  | [] => rfl
  | s :: l => by
    have ih := rowW_is b l
    cases e : s.d with
    | none =>
      rw [List.map_cons, List.filter_cons_of_neg (by unfold stpP; rw [e]; exact Bool.false_ne_true), List.filterMap_cons_none e, ih]
    | some d =>
      have e2 : stpP s = .tuple [.str s.m, .int s.n, .tuple [.str (kindS d.1), .str d.2]] := by unfold stpP; rw [e]; rfl
      have et : tstD b (stpP s) = decide (d.1 = b) := by
        rw [e2]
        show decide (kindS d.1 = kindS b) = decide (d.1 = b)
        rw [Bool.eq_iff_iff, decide_eq_true_iff, decide_eq_true_iff]
        exact ⟨kind_inj, fun e => by rw [e]⟩
      rw [List.map_cons, List.filterMap_cons_some e]
      by_cases hd : d.1 = b
      · rw [List.filter_cons_of_pos (by rw [et]; exact decide_eq_true hd), List.filter_cons_of_pos (by exact decide_eq_true hd), List.map_cons, List.map_cons, List.map_cons, ih, e2]
        rfl
      · rw [List.filter_cons_of_neg (by rw [et]; exact fun z => hd (of_decide_eq_true z)), List.filter_cons_of_neg (by exact fun z => hd (of_decide_eq_true z)), ih]
theorem cut_take (rs : List Row) (pl : List Nat) (b : Bool) (i : Nat) : (List.range (i + 1)).flatMap (wAt rs pl b) = (List.range i).flatMap (wAt rs pl b) ++ wAt rs pl b i := by
  rw [List.range_succ, List.flatMap_append]
  show _ ++ (List.flatMap _ [i]) = _
  rw [List.flatMap_singleton]
theorem wAt_len {rs : List Row} {pl : List Nat} {b : Bool} (h : ∀ r ∈ rs, r.s.length ≤ 20) (i : Nat) : (wAt rs pl b i).length ≤ 20 := by
  unfold wAt
  cases e : rs[i]? with
  | none => exact Nat.zero_le _
  | some r =>
    show (rowW r (pl.getD i 0) b).length ≤ 20
    unfold rowW
    rw [List.length_map]
    refine Nat.le_trans (List.length_filter_le _ _) (Nat.le_trans (List.length_filterMap_le _ _) ?_)
    rw [List.length_take]
    exact Nat.le_trans (Nat.min_le_right _ _) (h r (List.mem_of_getElem? e))
theorem cut_len {rs : List Row} {pl : List Nat} {b : Bool} (h : ∀ r ∈ rs, r.s.length ≤ 20) : ∀ i, ((List.range i).flatMap (wAt rs pl b)).length ≤ 20 * i
  | 0 => by simp
  | i + 1 => by
    have := cut_len (pl := pl) (b := b) h i
    have h2 := wAt_len (pl := pl) (b := b) h i
    rw [cut_take, List.length_append]
    omega
section
variable {P : Program} {w : World} {K : PySem.W.Frag} {mg : Str → Option Value} {base : Heap} {A : Top}
abbrev tDeed (K : PySem.W.Frag) : TT := tAnd (tTest (tOp (fun x y H Q => y = .non ∧ Q (.bl (!decide (x = .non))) H) (tOp (rIx K) (tVar 5) (tC (.int 2))) (tC .non))) (tTest (tOp rEq (tOp (rIx K) (tOp (rIx K) (tVar 5) (tC (.int 2))) (tC (.int 0))) (tVar 2)))
theorem sb_deed {S : Sh} {σ : L2.St} {H : Hp} {s : Stp} {v u : V} {b : Bool} (h5 : σ[5]? = some (some v)) (h2 : σ[2]? = some (some u)) (hv : Ds K S H v (stpP s)) (hu : Ds K S H u (.str (kindS b))) : SB S (tDeed K) σ H (tstD b (stpP s)) := by
  have h3 : SV K S (tOp (rIx K) (tVar 5) (tC (.int 2))) σ H (deedP s.d) := sv_ixA (ds := [.str s.m, .int s.n, deedP s.d]) (sv_var h5 hv) sv_int rfl
  cases hx : s.d with
  | none =>
    rw [hx] at h3
    exact sb_is (sb_and (c := true) (sb_test (sv_notN h3)) fun z => Bool.noConfusion z) (by unfold stpP; rw [hx]; rfl)
  | some d =>
    rw [hx] at h3
    refine sb_is (sb_and (sb_test (sv_notN h3)) fun _ => sb_test (sv_eqS (sv_ixA (ds := [.str (kindS d.1), .str d.2]) h3 sv_int (d := .str (kindS d.1)) rfl) (sv_var h2 hu))) ?_
    unfold stpP
    rw [hx]
    rfl
def spLdeeds (K : PySem.W.Frag) : Sp := spT K (fun x : (List Row × List Nat) × Bool => [.list (x.1.1.map rowP), ptP x.1.2, .str (kindS x.2)]) (fun x => x.1.1.length ≤ 6 ∧ (∀ r ∈ x.1.1, r.k = true ∧ r.s.length ≤ 20) ∧ x.1.2.length = x.1.1.length) fun x => .list ((cutWords x.1.1 x.1.2 x.2).map PyData.str)
theorem ok_Ldeeds (T : TopOk K mg A) : FnOk P w K mg base CX0 1 A.f_Ldeeds A.d_Ldeeds P_Ldeeds (spLdeeds K) := by
  refine T.F_Ldeeds.ok sc_Ldeeds (fun vs H Q E h => ?_) (fun cdv Ar outer s H vs Q E hr h => ?_)
  · obtain ⟨S, x, _, h, _⟩ := h
    obtain ⟨v, u, z, rfl, _⟩ := h.three
    rfl
  · obtain ⟨S, ⟨⟨rs, pl⟩, b⟩, hL, hds, hp, k⟩ := h
    obtain ⟨v, u, z, rfl, hv, hu, hz⟩ := hds.three
    obtain ⟨h6, hk, hpl⟩ : rs.length ≤ 6 ∧ (∀ r ∈ rs, r.k = true ∧ r.s.length ≤ 20) ∧ pl.length = rs.length := hp
    have hv : Ds K S H v (.list (rs.map rowP)) := hv
    have hu : Ds K S H u (.tuple (pl.map fun n => .int (n : Nat))) := hu
    have hz : Ds K S H z (.str (kindS b)) := hz
    have k : ∀ w H', Same H H' → Ds K S H' w (.list ((cutWords rs pl b).map PyData.str)) → Q w H' := k
    refine ⟨_, (pss_cons (ps_set (i := 3) sc_Ldeeds.nd rfl (by first | exact Or.inl rfl | exact Or.inr rfl) (pe_lst pa_nil))
      (pss_cons (ps_for PassesOwn.never rfl (pi_range1 (by rfl) T.b_range (pa_cons (pe_callB call_len (by rfl) T.b_len (by decide +kernel) (pa_cons (pv 0) pa_nil)) pa_nil)) (pg_name (i := 4) sc_Ldeeds.nd rfl (by first | exact Or.inl rfl | exact Or.inr rfl))
      (pss_one (ps_set (i := 3) sc_Ldeeds.nd rfl (by first | exact Or.inl rfl | exact Or.inr rfl) (pe_op L2.op_cat (pv 3) (pe_lc (own := [("_law_step_y", 5)]) (g := gName 5) (te := tOp (rIx K) (tOp (rIx K) (tVar 5) (tC (.int 2))) (tC (.int 1))) (tt := (tDeed K)) (by rfl) sc_Ldeeds.nd (pi_any (pe_slice sl_list (pe_ix ix_seq (pe_ix ix_seq (pv 0) (pv 4) (fun _ _ => rfl)) pe_int (fun _ _ => rfl)) po_none (po_some (pe_ix ix_seq (pv 1) (pv 4) (fun _ _ => rfl))))) (blkOk_by (own := [("_law_step_y", 5)]) (N := N_Ldeeds) (sc := defScope s_Ldeeds) (by decide +kernel)) (fun _ _ _ _ _ => (pg_name (i := 5) sc_Ldeeds.nd rfl (by first | exact Or.inl rfl | exact Or.inr rfl))) (fun _ _ _ _ _ => (pts_one (PW.pt (pw_and (pt_cmpR op_notN (pe_ix ix_seq (pv 5) pe_int (fun _ _ => rfl)) pe_non (nomark _)) (pw_and1 (pt_cmpR op_eq (pe_ix ix_seq (pe_ix ix_seq (pv 5) pe_int (fun _ _ => rfl)) pe_int (fun _ _ => rfl)) (pv 2) (nomark _))))))) (fun _ _ _ _ _ => (pe_ix ix_seq (pe_ix ix_seq (pv 5) pe_int (fun _ _ => rfl)) pe_int (fun _ _ => rfl))))))))
      (pss_one (ps_ret (pv 3))))), ?_⟩
    show tSeq _ _ _ [some v, some u, some z, none, none, none] H
    refine set_sv (K := K) (S := S) hL (sv_lst sa_nil rfl) fun y H1 s1 l1 hy => ?_
    dsimp only [gName, List.set]
    show tSeq _ _ _ [some v, some u, some z, some y, none, none] H1
    refine seq_for (K := K) (S := S) l1 (si_rng (n := rs.length) (sv_is (sv_lenL (sv_var rfl (hv.same s1))) (by rw [List.length_map])) (by omega)) fun H2 s2 l2 => ⟨fun i σ H3 => (∃ y x4, σ = [some v, some u, some z, some y, x4, none] ∧ Ds K S H3 y (.list (((List.range i).flatMap (wAt rs pl b)).map PyData.str))) ∧ Same H2 H3, ⟨⟨_, _, rfl, hy.same s2⟩, Same.refl _⟩, fun i σ H3 _ ⟨_, s3⟩ => ⟨S, (Now.of l2 s3).step⟩, fun i d v' σ H3 H4 ed ⟨⟨y, x4, e, hy3⟩, s3⟩ s4 hd => ?_, fun σ H3 ⟨⟨y, x4, e, hy3⟩, s3⟩ => ?_⟩
    · subst e
      obtain ⟨j, ej, rfl⟩ := map_inv ed
      have hi : i < rs.length := by have := (List.getElem?_eq_some_iff.mp ej).1; rwa [List.length_range] at this
      rw [List.getElem?_range hi] at ej
      cases ej
      have l4 := (l2.same s3).same s4
      have sH := ((s1.trans s2).trans s3).trans s4
      have hd4 : Ds K S H4 v' (.int (i : Nat)) := hd S (Now.of l2 s3).step
      have er : rs[i]? = some rs[i] := List.getElem?_eq_getElem hi
      have mr : rs[i] ∈ rs := List.getElem_mem hi
      generalize rs[i] = r at er mr
      obtain ⟨hkr, h20⟩ := hk r mr
      have ep : pl[i]? = some (pl.getD i 0) := by rw [List.getD_eq_getElem?_getD, List.getElem?_eq_getElem (by omega)]; rfl
      have erow : rowP r = .tuple [.str r.n, .list (r.s.map stpP)] := by unfold rowP; rw [hkr]; rfl
      have ew : wAt rs pl b i = rowW r (pl.getD i 0) b := by unfold wAt; rw [er]
      refine (sv_is (sv_cat (K := K) (S := S) (ds := ((List.range i).flatMap (wAt rs pl b)).map PyData.str) (es := (rowW r (pl.getD i 0) b).map PyData.str) (sv_var (i := 3) rfl (hy3.same s4)) (sv_is (sv_lcF (K := K) (S := S) (ds := (r.s.take (pl.getD i 0)).map stpP) (si_l (sv_is (sv_slL (ds := r.s.map stpP) (hi := some ((pl.getD i 0 : Nat) : Int)) (sv_ixA (ds := [.str r.n, .list (r.s.map stpP)]) (sv_is (sv_ixL (ds := rs.map rowP) (sv_var (i := 0) rfl (hv.same sH)) (sv_var (i := 4) rfl hd4) (atI_of (by rw [List.getElem?_map, er]; rfl))) erow) sv_int rfl) sp_no (sp_some (sv_ixA (ds := pl.map fun n => .int (n : Nat)) (sv_var (i := 1) rfl (hu.same sH)) (sv_var (i := 4) rfl hd4) (atI_of (by rw [List.getElem?_map, ep]; rfl))))) (by rw [cutD_to, List.map_take]))) ?_ (tstD b) elD fun d S' H' v2 Q' m n' hd' kk => ?_) ?_) ?_) ?_).run l4 fun y' H5 s5 hy5 => ⟨⟨y', _, rfl, hy5⟩, (s3.trans s4).trans s5⟩
      · rw [List.length_map, List.length_take]; have := Nat.min_le_right (pl.getD i 0) r.s.length; omega
      · obtain ⟨s, ms, rfl⟩ := List.mem_map.mp m
        refine kk [some v, some u, some z, some y, some v', some v2] rfl (sb_deed rfl rfl hd' (((hz.same sH)).now n')) fun e => ?_
        cases hx : s.d with
        | none => unfold stpP at e; rw [hx] at e; cases e
        | some d =>
          have e2 : stpP s = .tuple [.str s.m, .int s.n, .tuple [.str (kindS d.1), .str d.2]] := by unfold stpP; rw [hx]; rfl
          rw [e2] at hd' ⊢
          exact sv_ixA (ds := [.str (kindS d.1), .str d.2]) (sv_ixA (ds := [.str s.m, .int s.n, .tuple [.str (kindS d.1), .str d.2]]) (sv_var rfl hd') sv_int rfl) sv_int rfl
      · rw [rowW_is]; rfl
      · have := cut_len (pl := pl) (b := b) (fun r m => (hk r m).2) i
        have h2 := wAt_len (pl := pl) (b := b) (fun r m => (hk r m).2) i
        rw [ew] at h2
        rw [List.length_map, List.length_map]
        omega
      · rw [cut_take, ew, List.map_append]
    · subst e
      rw [rngD_len] at hy3
      exact ret_sv (K := K) (S := S) (l2.same s3) (sv_var rfl hy3) fun w H4 s4 hw => k w H4 (((s1.trans s2).trans s3).trans s4) hw
end
end My
set_option Elab.async false
set_option linter.all false
set_option maxRecDepth 100000
namespace My
open PySem PySem.Spec PyProof.Rows L2 TL L2H LamX
/-! ### _law_got(lambda: ..) in the def that makes the lambda -/
/-- what is wished of _law_got(e), e a lambda of this def's with the body tb -/
def tGotL (X : Cx) (A : Top) (t : LamT) (tb : XK → TE) (te : TE) : TE := fun σ H Q => te σ H fun v H1 => ∃ f : Addr, v = .ref f ∧ LamIn t X H1 f .none ∧ ∀ (E2 : XK) (Q2 : VK), (∀ c e H2, gotX X.K (caughtC A) Q c e H2 → E2 c e H2) → (∀ u H3, gotT Q u H3 → Q2 u H3) → tb E2 σ H1 Q2
theorem kept_upd {cl : Still} {H : Hp} {p : Addr} {o : HO} (ap : Apart cl H) (n : kept cl H p = none) : KeptIn cl (upd (kept cl H) p o) ∧ loose cl (upd (kept cl H) p o) = upd H p o ∧ H p = none := by
  have out : cl p = none := by
    cases e : cl p with
    | some u => rw [kept_at e] at n; cases n
    | none => rfl
  refine ⟨fun b u e => ?_, ?_, by rw [kept_no out] at n; exact n⟩
  · rw [upd_ne fun z => by rw [z, out] at e; cases e]
    exact kept_at e
  · funext b
    by_cases z : b = p
    · subst z
      rw [loose_no out, upd_same, upd_same]
    · rw [upd_ne z]
      cases e : cl b with
      | some u => rw [loose_at e, ap b u e]
      | none => rw [loose_no e, upd_ne z, kept_no e]
theorem gotT_kept {cl : Still} {Q : VK} {v : V} {H : Hp} (h : gotT Q v H) (ap : Apart cl H) : gotT (fun u H' => KeptIn cl H' ∧ Q u (loose cl H')) v (kept cl H) := ⟨h.1, fun p np => by
  obtain ⟨k1, k2, k3⟩ := kept_upd (o := .tup [.str "told", v]) ap np
  exact ⟨k1, by rw [k2]; exact h.2 p k3⟩⟩
theorem gotX_kept {K : PySem.W.Frag} {cs : List Value} {cl : Still} {Q : VK} {c : Value} {e : Option Addr} {H : Hp} (h : gotX K cs Q c e H) (ap : Apart cl H) : gotX K cs (fun u H' => KeptIn cl H' ∧ Q u (loose cl H')) c e (kept cl H) := by
  obtain ⟨C, dd, code, names, ws, h1, h2, h3, h4, h5, h6⟩ := h
  refine ⟨C, dd, code, names, ws, h1, h2, h3, ⟨h4.xf, h4.no, h4.len, ap.stay h4.at_⟩, h5, fun p q H2 s np nq hp hq => ?_⟩
  have kin : KeptIn cl H2 := fun b o z => s _ _ (kept_at z)
  have out : ∀ {b : Addr}, kept cl H b = none → cl b = none ∧ H b = none := fun {b} n => by
    have o : cl b = none := by
      cases z : cl b with
      | some u => rw [kept_at z] at n; cases n
      | none => rfl
    exact ⟨o, by rw [kept_no o] at n; exact n⟩
  refine ⟨kin, h6 p q _ (fun b o z => ?_) (out np).2 (out nq).2 ?_ ?_⟩
  · rw [loose_no (ap.other z)]
    exact s _ _ (ap.stay z)
  · rw [loose_no (out np).1]; exact hp
  · rw [loose_no (out nq).1]; exact hq
theorem pe_gotL {X : Cx} {A : Top} {k : Nat} {e : Expr} {p1 p3 : Pos} {t : LamT} {T0 : List (Addr × Str)} {Pt : Addr} {tb : XK → TE} (T : TopOk X.K X.mg A) (hr : Room (k + 6) X.A) (O : OwnCells X) (nd : (X.env.cells.map (·.1)).Nodup) (hg : Gl X "_law_got") (he : PE X e (tLam0 t X T0 Pt))
    (hb : ∀ (f : Addr) (E2 : XK) (A2 : Around) (l2 : List Env) (s2 : Shared) (H2 : Hp) (c' : Addr), Room k (A2.deeper (lamEnv X t.sc s2.heap.objs.size f c')) → PE (t.cx X A2 l2 s2 H2 E2 f c') t.body (tb E2))
    (hno : (X.N.all fun y => !decide (t.sc.names.lookup y = some .local)) = true) (L : lamCB X.env.scope t.sc = true) (h0 : ∀ (pm ct : Value) (c' : Addr), bindArgs { t.fd X pm ct c' with defaults := .none } ⟨[], []⟩ = pure [])
    (hst : starEach [e] X.env = [(false, eval e X.env)] := by rfl) (hpl : (backTo p3 (starEach [] X.env)).any (·.1) = false := by rfl) : PE X (.Call (.Name "_law_got" p1) [e] [] p3) (tGotL X A t tb (tLam0 t X T0 Pt)) := ⟨fun pins s1 σ H1 Q1 I1 h => by
  have args := pa_cons he pa_nil (hs := hst)
  refine wpAny_Call_Name_kw (ld_glob I1 hg T.g_Lgot (PySem.W.callWith_K (h₀ := X.base) I1.ok.mod.kin T.F_Lgot.kp (thn (args.run p3 pins s1 σ H1 (fun xs G => ∃ v, xs = [v] ∧ ∃ f : Addr, v = .ref f ∧ LamIn t X G f .none ∧ ∀ (E2 : XK) (Q2 : VK), (∀ c e H2, gotX X.K (caughtC A) Q1 c e H2 → E2 c e H2) → (∀ u H3, gotT Q1 u H3 → Q2 u H3) → tb E2 σ G Q2) I1 ?_) fun us s2 ⟨vs, G, I2, r, v, evs, f, ev, li, wish⟩ => ⟨I2.kIn, ?_⟩) hst hpl) (by decide))
  · show tLam0 t X T0 Pt σ H1 _
    exact cast (congrArg (tLam0 t X T0 Pt σ H1) (funext fun v => funext fun G => propext ⟨fun z => ⟨v, rfl, z⟩, fun ⟨v2, e, z⟩ => by cases e; exact z⟩)) h
  subst evs ev
  cases r with
  | cons r0 rr =>
  cases rr
  have eu : _ = Value.ref f := r0
  subst eu
  have ap := cells_apart I2 nd
  have th : There (cellsOf X s2) s2.heap := cellsOf_there
  have e1 := env0_kept I2.env0 ap th (cells_base I2 O) (cells_frames I2 O)
  have cs := caps_of I2
  have ask : Ask X k (fun Hz => LamIn t X Hz f .none ∧ KeptIn (cellsOf X s2) Hz) f (fun E Hz Q => tb (fun c d H2 => Apart (cellsOf X s2) H2 → E c d (kept (cellsOf X s2) H2)) σ (loose (cellsOf X s2) Hz) fun v H3 => Apart (cellsOf X s2) H3 → Q v (kept (cellsOf X s2) H3)) := fun CXg Eg E Ng qg a sg g cdg i pn xe W p1 p2 A2 outer s0 H0 tk hW hr hN hvis ha ha2 =>
    pe_less (pe_cap (E := E) (t := t) (f := f) (dv := .none) (as := []) (tb := tb) (p1 := p1) (p2 := p2) cs (lamC_by L) (hides_by rfl (hides_none hno _)) (lam_bind0 h0) (fun y hy => by cases hy) tk hW hr (hb f) hN hvis ha ha2) fun σz Hz Q ⟨h1, ⟨h2, kin⟩, h3⟩ => ⟨h1, h2, ⟨[], .inl ⟨rfl, rfl⟩, rfl⟩, kin, h3⟩
  obtain ⟨c', o1, o2⟩ := li
  have run := got_run (X := X) (Q := fun u H' => KeptIn (cellsOf X s2) H' ∧ Q1 u (loose (cellsOf X s2) H')) T ask e1 hr ⟨⟨c', ap.stay o1, ap.stay o2⟩, kept_in⟩ (by
    rw [loose_kept ap]
    exact wish _ _ (fun c e H2 z ap2 => gotX_kept z ap2) fun u H3 z ap3 => gotT_kept z ap3)
  refine wpAny_call (codeAny_mono run fun rs s3 hq => ?_)
  match rs, hq with
  | .ok (.ret u), hq => exact I2.after (ce_loose ap th (cells_frames I2 O) hq)⟩
/-- _law_got(lambda: ..): the lambda is made, its body runs -/
theorem got_lam {X : Cx} {A : Top} {B : BagId} {Pt : Addr} {t : LamT} {tb : XK → TE} {σ : L2.St} {H : Hp} {Q : VK} (hB : Bag B H) (tab : Tb Pt H) (q : ∀ (E2 : XK) (Q2 : VK) (H1 : Hp), Moved B Pt H H1 → (∀ c e H2, gotX X.K (caughtC A) Q c e H2 → E2 c e H2) → (∀ u H3, gotT Q u H3 → Q2 u H3) → tb E2 σ H1 Q2) : tGotL X A t tb (tLam0 t X [(Pt, qL)] Pt) σ H Q :=
  ⟨tab, fun H1 f e t1 _ li => ⟨f, rfl, li, fun E2 Q2 h1 h2 => q E2 Q2 H1 ⟨x_tab e, bag_tab hB tab e, t1⟩ h1 h2⟩⟩
/-- an error that the law writes down -/
theorem got_err {K : PySem.W.Frag} {cs : List Value} {cI : Addr} {code : Str} {names : List Str} {E2 : XK} {Q : VK} {S : Sh} {H : Hp} {ds : List PyData} (l : Live S H) (ec : ErrC K cs cI code names) (hl : ds.length = names.length) (h : ∀ c e H2, gotX K cs Q c e H2 → E2 c e H2) (q : ∀ u H', Same H H' → Ds K S H' u (.tuple [.str code, .tuple ds]) → Q u H') : errD K cI code names E2 ds S H := fun us H' s hu dd H2 s2 nd => h _ _ _ (by
  have hu2 := (hu.same s2).same (same_upd nd (o := .xd (flds code names us)))
  have s02 := (s.trans s2).trans (same_upd nd (o := .xd (flds code names us)))
  have l2 := l.same s02
  refine ⟨cI, dd, code, names, us, rfl, rfl, ec.ex, ⟨ec.xf, ec.no, hu.length.trans hl, upd_same⟩, ec.is, fun p r H3 s3 np nr hp hr => ?_⟩
  exact q _ H3 (s02.trans s3) (.tup ⟨l2.ne nr, hr⟩ (.cons (.str _) (.cons (.tup ⟨l2.ne np, hp⟩ (hu2.same s3)) .nil))))
end My
set_option Elab.async false
set_option linter.all false
set_option maxRecDepth 100000
namespace My
open PySem PySem.Spec PyProof.Rows L2 TL L2H LamX
/-- if ..: (raise or return); what follows -/
theorem seq_ifN {S : Sh} {σ : L2.St} {H : Hp} {tt : TT} {tz tr : TS} {D : Ends} {b : Bool} (l : Live S H) (h : SB S tt σ H b) (k1 : b = true → ∀ H', Same H H' → Live S H' → tz { D with nx := tr D } σ H') (k2 : b = false → ∀ H', Same H H' → Live S H' → tr D σ H') : tSeq (tIfS tt tz tNext) tr D σ H := seq_if (S := S) l h k1 fun e H' s l' => k2 e H' s l'
/-! ### the row of a process, logs that grow -/
def nmIs (d : PyData) (r : Row) : Bool := PyData.eqv (.str r.n) d
def rowFor (rs : List Row) (d : PyData) : Option Row := rs.find? (nmIs d)
def wishRow (K : PySem.W.Frag) (cU : Addr) (S : Sh) (H : Hp) (Q : VK) (E : XK) (rs : List Row) (d : PyData) : Prop := match rowFor rs d with
  | some r => ∀ u H', Same H H' → Ds K S H' u (.list (r.s.map stpP)) → Q u H'
  | none => errD K cU "UnknownProcess" ["name"] E [d] S H
def spRow (K : PySem.W.Frag) (C cU : Addr) : Sp := fun vs H Q E => ∃ (S : Sh) (a : Addr) (rs : List Row) (v : V) (d : PyData), vs = [.ref a, v] ∧ Live S H ∧ LogAt K C S H a rs ∧ Ds K S H v d ∧ fine d = true ∧ wishRow K cU S H Q E rs d
def growD (d e : PyData) : PyData → PyData
  | .tuple [.str n, .tuple l] => .tuple [.str n, .tuple (if PyData.eqv (.str n) d = true then l ++ [e] else l)]
  | _ => .none
def grown (rs : List Row) (d e : PyData) : List PyData := (rs.map rowT).map (growD d e)
def wishStep (K : PySem.W.Frag) (cl : Str → Addr) (C cU cI : Addr) (S : Sh) (H : Hp) (Q : VK) (E : XK) (rs : List Row) (d e : PyData) : Prop := match rowFor rs d with
  | some r => if stepD e = true then wishLog K cl C S H Q E (grown rs d e) else errD K cI "InvalidStep" ["process", "index"] E [d, .int (r.s.length : Nat)] S H
  | none => errD K cU "UnknownProcess" ["name"] E [d] S H
def spWith (K : PySem.W.Frag) (cl : Str → Addr) (C cU cI : Addr) : Sp := fun vs H Q E => ∃ (S : Sh) (a : Addr) (rs : List Row) (v u : V) (d e : PyData), vs = [.ref a, v, u] ∧ Live S H ∧ LogAt K C S H a rs ∧ Ds K S H v d ∧ Ds K S H u e ∧ fine d = true ∧ fine e = true ∧ wishStep K cl C cU cI S H Q E rs d e
def wideR (rs : List Row) (d : PyData) : List PyData := rs.map rowT ++ [.tuple [d, .tuple []]]
def wishProc (K : PySem.W.Frag) (cl : Str → Addr) (C cN cD : Addr) (S : Sh) (H : Hp) (Q : VK) (E : XK) (rs : List Row) (d : PyData) : Prop :=
  if nameD 6 d = true then (if (rs.map fun r => PyData.str r.n).any (fun z => PyData.eqv z d) = true then errD K cD "DuplicateName" ["name"] E [d] S H else wishLog K cl C S H Q E (wideR rs d)) else errD K cN "InvalidName" ["value"] E [d] S H
def spProc (K : PySem.W.Frag) (cl : Str → Addr) (C cN cD : Addr) : Sp := fun vs H Q E => ∃ (S : Sh) (a : Addr) (rs : List Row) (v : V) (d : PyData), vs = [.ref a, v] ∧ Live S H ∧ LogAt K C S H a rs ∧ Ds K S H v d ∧ fine d = true ∧ wishProc K cl C cN cD S H Q E rs d
theorem list_ok_t {n : Str} {ds : List PyData} (hn : nameD 6 (.str n) = true) : rowD (.tuple [.str n, .tuple ds]) = true ∧ nmD (.tuple [.str n, .tuple ds]) = n ∧ innD (.tuple [.str n, .tuple ds]) = ds := ⟨by show (nameD 6 (.str n) && _) = true; rw [hn]; rfl, rfl, rfl⟩
theorem step_fine {e : PyData} (h : stepD e = true) : fine e = true ∧ e.depth ≤ 2 := by
  have hb := stp_back h
  have := stp_fine (s := stpOf e) (by rw [hb]; exact h)
  rw [hb] at this
  exact this
theorem rowT_fine {rs : List Row} (hv : Valid rs) {r : Row} (m : r ∈ rs) {l : List PyData} (hl : l.length ≤ 30) (h : ∀ e ∈ l, fine e = true ∧ e.depth ≤ 2) : fine (.tuple [.str r.n, .tuple l]) = true ∧ (PyData.tuple [.str r.n, .tuple l]).depth ≤ 4 := by
  have f1 : fine (.tuple l) = true := fine_seq (k := false) (by omega) fun d m => ⟨(h d m).1, Nat.le_trans (h d m).2 (by decide)⟩
  have d1 : (PyData.tuple l).depth ≤ 3 := depth_seq (k := false) (n := 2) fun d m => (h d m).2
  refine ⟨fine_seq (k := false) (by show 2 ≤ 5000; decide) fun d md => ?_, depth_seq (k := false) (n := 3) fun d md => ?_⟩
  · rcases List.mem_cons.mp md with rfl | md
    · exact ⟨name_fine (hv.name r m) (by decide), by simp [PyData.depth]⟩
    · rw [List.mem_singleton.mp md]; exact ⟨f1, by omega⟩
  · rcases List.mem_cons.mp md with rfl | md
    · simp [PyData.depth]
    · rw [List.mem_singleton.mp md]; exact d1
theorem steps_ok {rs : List Row} (hv : Valid rs) {r : Row} (m : r ∈ rs) : ∀ e ∈ r.s.map stpP, fine e = true ∧ e.depth ≤ 2 := fun e me => by
  obtain ⟨s, ms, rfl⟩ := List.mem_map.mp me
  exact stp_fine (hv.step r m s ms)
theorem grown_fine {rs : List Row} (hv : Valid rs) {d e : PyData} (he : stepD e = true) : ∀ x ∈ grown rs d e, fine x = true := fun x m => by
  obtain ⟨y, my, rfl⟩ := List.mem_map.mp m
  obtain ⟨r, mr, rfl⟩ := List.mem_map.mp my
  have hl := hv.len r mr
  show fine (.tuple [.str r.n, .tuple (if PyData.eqv (.str r.n) d = true then r.s.map stpP ++ [e] else r.s.map stpP)]) = true
  split
  · refine (rowT_fine hv mr (by rw [List.length_append, List.length_map]; show _ + 1 ≤ 30; omega) fun z mz => ?_).1
    rcases List.mem_append.mp mz with mz | mz
    · exact steps_ok hv mr z mz
    · rw [List.mem_singleton.mp mz]; exact step_fine he
  · exact (rowT_fine hv mr (by rw [List.length_map]; omega) (steps_ok hv mr)).1
section
variable {P : Program} {w : World} {K : PySem.W.Frag} {mg : Str → Option Value} {base : Heap} {A : Top} {cl : Str → Addr}
theorem ok_row (T : TopOk K mg A) : FnOk P w K mg base (L2N.CX P w) 3 A.f_Log_row A.d_Log_row P_Log_row (spRow K A.c_Log A.c_UnknownProcess) := by
  refine fun_okN T.F_Log_row sc_Log_row (fun vs H Q E h => ?_) (fun cdv Ar outer s H vs Q E hr h TK => ?_)
  · obtain ⟨S, a, rs, v, d, rfl, _⟩ := h
    rfl
  · obtain ⟨S, a, rs, v, d, rfl, hL, hlog, hv, hf, k⟩ := h
    have val := hlog.val
    refine ⟨_, (pss_cons (ps_for (passes_of rfl) rfl (pi_any (pe_fld (pv 0) rfl)) (pg_tup rfl (pgs_cons (pg_name (i := 2) sc_Log_row.nd rfl (by first | exact Or.inl rfl | exact Or.inr rfl)) (pgs_cons (pg_name (i := 3) sc_Log_row.nd rfl (by first | exact Or.inl rfl | exact Or.inr rfl)) pgs_nil)))
      (pss_one (ps_if (pt_cmpR (L2.op_eqD hr.units) (pv 2) (pv 1) (nomark _))
      (pss_one (ps_ret (pe_callTy call_listK (by rfl) T.b_list (by decide +kernel) (pa_cons (pv 3) pa_nil))))
      pss_nil)))
      (pss_one (L2N.ps_raise rfl TK (pmk_oxt T.X_UnknownProcess T.tt_UnknownProcess T.i_UnknownProcess T.t_UnknownProcess (ok_i_UnknownProcess T) (hr.mono (by decide)) T.a_i_UnknownProcess rfl (by decide) pass0 (by rfl) T.m_UnknownProcess (pa_cons (pv 1) pa_nil))))), ?_⟩
    show tSeq (tFor _ _ _) _ _ [some (.ref a), some v, none, none] H
    refine seq_for (K := K) (S := S) hL (si_l (ds := rs.map rowT) (sv_rows (i := 0) T.cl_Log T.na_Log_rows hlog rfl)) fun H2 s2 l2 => ⟨fun i σ H3 => (∃ x2 x3, σ = [some (.ref a), some v, x2, x3]) ∧ Same H2 H3 ∧ rowFor rs d = (rs.drop i).find? (nmIs d), ⟨⟨_, _, rfl⟩, Same.refl _, rfl⟩, fun i σ H3 _ ⟨_, s3, _⟩ => ⟨S, (Now.of l2 s3).step⟩, fun i e v' σ H3 H4 ed ⟨⟨x2, x3, e1⟩, s3, ei⟩ s4 hd => ?_, fun σ H3 ⟨⟨x2, x3, e1⟩, s3, ei⟩ => ?_⟩
    · subst e1
      obtain ⟨r, er, rfl⟩ := map_inv ed
      have mr := List.mem_of_getElem? er
      have hd4 : Ds K S H4 v' (.tuple [.str r.n, .tuple (r.s.map stpP)]) := hd S (Now.of l2 s3).step
      have s14 := (s2.trans s3).trans s4
      refine g_tup2 hd4 fun x y hx hy => ?_
      rw [drop_at er, List.find?_cons] at ei
      refine if_sb (S := S) (b := nmIs d r) (hL.same s14) (sb_test (sv_eqD (K := K) (sv_var (i := 2) rfl hx) (sv_var (i := 1) rfl (hv.same s14)) (name_fine (val.name r mr) (by decide)) hf)) (fun z H5 s5 l5 => ?_) fun z H5 s5 l5 => ?_
      · rw [z] at ei
        have ei : rowFor rs d = some r := ei
        unfold wishRow at k
        rw [ei] at k
        exact ret_sv (K := K) (S := S) l5 (sv_listK (k := false) (ds := r.s.map stpP) (sv_var (i := 3) rfl (hy.same s5))) fun u H6 s6 hu => k u H6 ((s14.trans s5).trans s6) hu
      · rw [z] at ei
        exact ⟨⟨_, _, rfl⟩, (s3.trans s4).trans s5, ei⟩
    · subst e1
      rw [List.length_map, drop_end] at ei
      have ei : rowFor rs d = none := ei
      unfold wishRow at k
      rw [ei] at k
      have s13 := s2.trans s3
      exact raise_sa (K := K) (S := S) (hL.same s13) (sa_cons (sv_var (i := 1) rfl (hv.same s13)) sa_nil) rfl (k.same s13)
theorem grow_run {S S' : Sh} {H' : Hp} {σ : L2.St} {n : Str} {l : List PyData} {x y v u : V} {d e : PyData} (h1 : σ[1]? = some (some v)) (h2 : σ[2]? = some (some u)) (h5 : σ[5]? = some (some x)) (h6 : σ[6]? = some (some y)) (hv : Ds K S' H' v d) (hu : Ds K S' H' u e) (hx : Ds K S' H' x (.str n)) (hy : Ds K S' H' y (.tuple l))
    (fn : fine (.str n) = true) (fd : fine d = true) (hl : l.length ≤ 100) : SV K S' (tTup (tCons (tVar 5) (tCons (tIf (tTest (tOp (rEqD K) (tVar 5) (tVar 1))) (tTup (StX.tStar K (tVar 6) (tCons (tVar 2) tNil))) (tVar 6)) tNil))) σ H' (growD d e (.tuple [.str n, .tuple l])) := by
  refine sv_tup (sa_cons (sv_var h5 hx) (sa_cons (sv_if (a := PyData.eqv (.str n) d) (sb_test (sv_eqD (sv_var h5 hx) (sv_var h1 hv) fn fd)) (fun z => ?_) fun z => ?_) sa_nil)) rfl
  · exact sv_is (sv_tup (sa_star (k := false) (ds := l) (sv_var h6 hy) (sa_cons (sv_var h2 hu) sa_nil)) (decide_eq_true (by rw [List.length_append]; show _ + 1 ≤ 5000; omega))) (by rw [if_pos z])
  · exact sv_is (sv_var h6 hy) (by rw [if_neg (by rw [z]; decide)])
theorem ok_with_step (T : TopOk K mg A) (CL : ClsOf A cl) : FnOk P w K mg base (L2N.CX P w) 10 A.f_Log_with_step A.d_Log_with_step P_Log_with_step (spWith K cl A.c_Log A.c_UnknownProcess A.c_InvalidStep) := by
  have G_Log_row : FnOk P w K mg base (L2N.CX P w) 3 A.f_Log_row A.d_Log_row P_Log_row (spRow K A.c_Log A.c_UnknownProcess) := ok_row T
  have G_is_step : FnOk P w K mg base CX0 4 A.f_is_step A.d_is_step P_is_step (spD K stepD) := ok_is_step T
  have G_i_Log : FnR P w K mg base (L2N.CX P w) 8 A.f_i_Log (spInit K cl A.c_Log) := ok_init T CL
  refine fun_okN T.F_Log_with_step sc_Log_with_step (fun vs H Q E h => ?_) (fun cdv Ar outer s H vs Q E hr h TK => ?_)
  · obtain ⟨S, a, rs, v, u, d, e, rfl, _⟩ := h
    rfl
  · obtain ⟨S, a, rs, v, u, d, e, rfl, hL, hlog, hv, hu, fd, fe, k⟩ := h
    have val := hlog.val
    refine ⟨_, (pss_cons (ps_set (i := 3) sc_Log_with_step.nd rfl (by first | exact Or.inl rfl | exact Or.inr rfl) (pe_meth (E := E) (pv 0) T.cl_Log T.me_Log_row G_Log_row (hr.mono (by decide)) T.a_Log_row .nil (L2N.passes_call (W := fun cls d _ H' => E cls d H') (L2N.takes_of rfl rfl rfl rfl) fun _ _ _ _ h => h) (pa_cons (pv 1) pa_nil)))
      (pss_cons (ps_if (pt_not (pt_val (pe_call G_is_step (hr.mono (by decide)) (by rfl) T.g_is_step T.F_is_step.kp T.a_is_step .nil pass0 (pa_cons (pv 2) pa_nil))))
      (pss_one (L2N.ps_raise rfl TK (pmk_oxt T.X_InvalidStep T.tt_InvalidStep T.i_InvalidStep T.t_InvalidStep (ok_i_InvalidStep T) (hr.mono (by decide)) T.a_i_InvalidStep rfl (by decide) pass0 (by rfl) T.m_InvalidStep (pa_cons (pv 1) (pa_cons (pe_callB call_len (by rfl) T.b_len (by decide +kernel) (pa_cons (pv 3) pa_nil)) pa_nil)))))
      pss_nil)
      (pss_cons (ps_setLc (i := 4) (own := [("name", 5), ("row", 6)]) (g := gTup K 2 (gCons (gName 5) (gCons (gName 6) gNil))) (te := tTup (tCons (tVar 5) (tCons (tIf (tTest (tOp (rEqD K) (tVar 5) (tVar 1))) (tTup (StX.tStar K (tVar 6) (tCons (tVar 2) tNil))) (tVar 6)) tNil))) (by rfl) sc_Log_with_step.nd rfl rfl (sw_true rfl rfl rfl (by decide +kernel)) (pi_any (pe_fld (pv 0) rfl)) (blkOk_by (own := [("name", 5), ("row", 6)]) (N := N_Log_with_step) (sc := defScope s_Log_with_step) (by decide +kernel)) (fun _ _ _ _ _ => (pg_tup rfl (pgs_cons (pg_name (i := 5) sc_Log_with_step.nd rfl (by first | exact Or.inl rfl | exact Or.inr rfl)) (pgs_cons (pg_name (i := 6) sc_Log_with_step.nd rfl (by first | exact Or.inl rfl | exact Or.inr rfl)) pgs_nil)))) (fun _ _ _ _ _ => pts_nil) (fun _ _ _ _ _ => (pe_tup (pa_cons (pv 5) (pa_cons (pe_ifExp (pt_cmpR (L2.op_eqD hr.units) (pv 5) (pv 1) (nomark _)) (pe_tup (StX.pa_star (pv 6) (pa_cons (pv 2) pa_nil))) (pv 6)) pa_nil)))))
      (pss_one (ps_ret (pe_makeS1 (E := E) T.mk_Log G_i_Log (hr.mono (by decide)) (by rfl) T.m_Log (L2N.passes_call (W := fun cls d _ H' => E cls d H') (L2N.takes_of rfl rfl rfl rfl) fun _ _ _ _ h => h) (pv 4))))))), ?_⟩
    show tSeq (tAsg _ (gName 3)) _ _ [some (.ref a), some v, some u, none, none, none, none] H
    obtain ⟨dx, r0, o0, h4, h5, h6, h7⟩ := hlog.at_
    refine ⟨_, rfl, a, dx, _, rfl, h5, rfl, _, rfl, S, a, rs, v, d, rfl, hL, hlog, hv, fd, ?_⟩
    unfold wishStep at k
    unfold wishRow
    cases er : rowFor rs d with
    | none => rw [er] at k; exact k
    | some r =>
      rw [er] at k
      dsimp only at k ⊢
      intro w1 H1 s1 hw1
      have l1 := hL.same s1
      dsimp only [gName, List.set]
      show tSeq (tIfS _ _ tNext) _ _ [some (.ref a), some v, some u, some w1, none, none, none] H1
      refine seq_ifN (S := S) (b := !stepD e) l1 (sb_not (sb_val (sv_spD (f := stepD) (sv_var (i := 2) rfl (hu.same s1)) fe))) (fun z H2 s2 l2 => ?_) fun z H2 s2 l2 => ?_
      · have z : stepD e = false := by simpa using z
        rw [if_neg (by rw [z]; decide)] at k
        have s12 := s1.trans s2
        exact raise_sa (K := K) (S := S) l2 (sa_cons (sv_var (i := 1) rfl (hv.same s12)) (sa_cons (sv_is (sv_lenL (sv_var (i := 3) rfl (hw1.same s2))) (congrArg PyData.int (by rw [List.length_map]))) sa_nil)) rfl (k.same s12)
      · have z : stepD e = true := by simpa using z
        rw [if_pos z] at k
        have s12 := s1.trans s2
        have hlog2 := hlog.same s12
        have hv2 := hv.same s12
        have hu2 := hu.same s12
        refine set_sv (K := K) (S := S) (d := .list (grown rs d e)) l2 (sv_lcM (K := K) (S := S) (vs := [5, 6]) (g := gTup K 2 (gCons (gName 5) (gCons (gName 6) gNil))) (si_l (ds := rs.map rowT) (sv_rows (i := 0) T.cl_Log T.na_Log_rows hlog2 rfl)) (by rw [List.length_map]; have := val.few; omega) (growD d e) fun x S' H' v' Q' m n hd kk => ?_) fun vr H3 s3 l3 hvr => ?_
        · obtain ⟨q, mq, rfl⟩ := List.mem_map.mp m
          refine g_tup2 hd fun x y hx hy => kk [some (.ref a), some v, some u, some w1, none, some x, some y] rfl (grow_run (S := S) rfl rfl rfl rfl (hv2.now n) (hu2.now n) hx hy (name_fine (val.name q mq) (by decide)) fd (by rw [List.length_map]; have := val.len q mq; omega))
        · dsimp only [gName, List.set]
          show tRet _ _ [some (.ref a), some v, some u, some w1, some vr, none, none] H3
          exact mk_logSV (b := true) (ds := grown rs d e) l3 (sv_var (i := 4) rfl hvr) (by unfold grown; rw [List.length_map, List.length_map]; have := val.few; omega) (grown_fine val z) (k.same (s12.trans s3))
theorem ok_with_process (T : TopOk K mg A) (CL : ClsOf A cl) : FnOk P w K mg base (L2N.CX P w) 10 A.f_Log_with_process A.d_Log_with_process P_Log_with_process (spProc K cl A.c_Log A.c_InvalidName A.c_DuplicateName) := by
  have G_is_name : FnOk P w K mg base CX0 2 A.f_is_name A.d_is_name P_is_name (spD K (nameD 6)) := ok_is_name T
  have G_names : FnOk P w K mg base CX0 1 A.f_names A.d_names P_names (spNamesD K) := ok_namesD T
  have G_i_Log : FnR P w K mg base (L2N.CX P w) 8 A.f_i_Log (spInit K cl A.c_Log) := ok_init T CL
  refine fun_okN T.F_Log_with_process sc_Log_with_process (fun vs H Q E h => ?_) (fun cdv Ar outer s H vs Q E hr h TK => ?_)
  · obtain ⟨S, a, rs, v, d, rfl, _⟩ := h
    rfl
  · obtain ⟨S, a, rs, v, d, rfl, hL, hlog, hv, fd, k⟩ := h
    have val := hlog.val
    have few := val.few
    have each : ∀ x ∈ rs.map rowT, rowD x = true ∧ fine x = true := fun x m => by
      obtain ⟨r, mr, rfl⟩ := List.mem_map.mp m
      have := val.len r mr
      exact ⟨(list_ok_t (val.name r mr)).1, (rowT_fine val mr (by rw [List.length_map]; omega) (steps_ok val mr)).1⟩
    refine ⟨_, (pss_cons (ps_if (pt_not (pt_val (pe_call G_is_name (hr.mono (by decide)) (by rfl) T.g_is_name T.F_is_name.kp T.a_is_name .nil pass0 (pa_cons (pv 1) pa_nil))))
      (pss_one (L2N.ps_raise rfl TK (pmk_oxt T.X_InvalidName T.tt_InvalidName T.i_InvalidName T.t_InvalidName (ok_i_InvalidName T) (hr.mono (by decide)) T.a_i_InvalidName rfl (by decide) pass0 (by rfl) T.m_InvalidName (pa_cons (pv 1) pa_nil))))
      pss_nil)
      (pss_cons (ps_if (pt_cmpR (L2.op_inD (hu65 hr)) (pv 1) (pe_call G_names (hr.mono (by decide)) (by rfl) T.g_names T.F_names.kp T.a_names .nil pass0 (pa_cons (pe_fld (pv 0) rfl) pa_nil)) (by rfl))
      (pss_one (L2N.ps_raise rfl TK (pmk_oxt T.X_DuplicateName T.tt_DuplicateName T.i_DuplicateName T.t_DuplicateName (ok_i_DuplicateName T) (hr.mono (by decide)) T.a_i_DuplicateName rfl (by decide) pass0 (by rfl) T.m_DuplicateName (pa_cons (pv 1) pa_nil))))
      pss_nil)
      (pss_one (ps_ret (pe_makeS2 (E := E) T.mk_Log G_i_Log (hr.mono (by decide)) (by rfl) T.m_Log (L2N.passes_call (W := fun cls d _ H' => E cls d H') (L2N.takes_of rfl rfl rfl rfl) fun _ _ _ _ h => h) (StX.pa_star (pe_fld (pv 0) rfl) (pa_cons (pe_tup (pa_cons (pv 1) (pa_cons (pe_tup pa_nil) pa_nil))) pa_nil))))))), ?_⟩
    unfold wishProc at k
    show tSeq (tIfS _ _ tNext) _ _ [some (.ref a), some v] H
    refine seq_ifN (S := S) (b := !nameD 6 d) hL (sb_not (sb_val (sv_spD (f := nameD 6) (sv_var (i := 1) rfl hv) fd))) (fun z H1 s1 l1 => ?_) fun z H1 s1 l1 => ?_
    · have z : nameD 6 d = false := by simpa using z
      rw [if_neg (by rw [z]; decide)] at k
      exact raise_sa (K := K) (S := S) l1 (sa_cons (sv_var (i := 1) rfl (hv.same s1)) sa_nil) rfl (k.same s1)
    · have z : nameD 6 d = true := by simpa using z
      rw [if_pos z] at k
      have hlog1 := hlog.same s1
      have e1 : ((rs.map rowT).map fun x => PyData.str (nmD x)) = rs.map fun r => PyData.str r.n := by
        rw [List.map_map]
        exact List.map_congr_left fun r m => rfl
      have hn : SV K S (tCall (spNamesD K) [] E0 (tCons (tFld K (tVar 0) "_rows") tNil)) [some (.ref a), some v] H1 (.list (rs.map fun r => PyData.str r.n)) := sv_is (sv_T (f := fun x : Bool × List PyData => PyData.list (x.2.map fun d => .str (nmD d))) (enc := fun x : Bool × List PyData => [seqD x.1 x.2]) (pre := fun x : Bool × List PyData => x.2.length ≤ 1000 ∧ ∀ d ∈ x.2, rowD d = true) (true, rs.map rowT) (sa_cons (sv_rows (i := 0) T.cl_Log T.na_Log_rows hlog1 rfl) sa_nil) rfl ⟨by show (rs.map rowT).length ≤ 1000; rw [List.length_map]; omega, fun x m => (each x m).1⟩) (congrArg PyData.list e1)
      have fl : fine (.list (rs.map fun r => PyData.str r.n)) = true := fine_seq (k := true) (by rw [List.length_map]; omega) fun x m => by
        obtain ⟨r, mr, rfl⟩ := List.mem_map.mp m
        exact ⟨name_fine (val.name r mr) (by decide), by simp [PyData.depth]⟩
      refine seq_ifN (S := S) (b := (rs.map fun r : Row => PyData.str r.n).any fun z => PyData.eqv z d) l1 (sb_test (sv_inD (sv_var (i := 1) rfl (hv.same s1)) hn fd fl)) (fun y H2 s2 l2 => ?_) fun y H2 s2 l2 => ?_
      · rw [if_pos y] at k
        exact raise_sa (K := K) (S := S) l2 (sa_cons (sv_var (i := 1) rfl (hv.same (s1.trans s2))) sa_nil) rfl (k.same (s1.trans s2))
      · rw [if_neg (by rw [y]; decide)] at k
        have s12 := s1.trans s2
        refine mk_logV (ds := wideR rs d) l2 (sa_star (k := true) (ds := rs.map rowT) (sv_rows (i := 0) T.cl_Log T.na_Log_rows (hlog.same s12) rfl) (sa_cons (sv_tup (sa_cons (sv_var (i := 1) rfl (hv.same s12)) (sa_cons (sv_tup sa_nil rfl) sa_nil)) rfl) sa_nil)) (by unfold wideR; rw [List.length_append, List.length_map]; show _ + 1 ≤ 5000; omega) (fun x m => ?_) (k.same s12)
        rcases List.mem_append.mp m with m | m
        · exact (each x m).2
        · rw [List.mem_singleton.mp m]
          obtain ⟨n, rfl⟩ := nameIs z
          refine fine_seq (k := false) (by show 2 ≤ 5000; decide) fun q mq => ?_
          rcases List.mem_cons.mp mq with rfl | mq
          · exact ⟨name_fine z (by decide), by simp [PyData.depth]⟩
          · rw [List.mem_singleton.mp mq]; exact ⟨by decide, by simp [PyData.depth, PyData.depthAll]⟩
end
end My
set_option Elab.async false
set_option linter.all false
set_option maxRecDepth 100000
namespace My
open PySem PySem.Spec PyProof.Rows L2 TL L2H LamX
/-! ### a log's steps stand in a line -/
def StepOk (rs : List Row) (L1 : List (Nat × Nat)) (p : Nat × Nat) : Prop := (∀ j', j' < p.2 → (p.1, j') ∈ L1) ∧ ∀ s w, stepAt rs p.1 p.2 = some s → s.d = some (false, w) → ∃ i' j' s', (i', j') ∈ L1 ∧ stepAt rs i' j' = some s' ∧ s'.d = some (true, w)
def LineOk (rs : List Row) (L : List (Nat × Nat)) : Prop := ∀ L1 p L2, L = L1 ++ p :: L2 → StepOk rs L1 p
structure OdOk (rs : List Row) (t : Sta) : Prop where
  line : LineOk rs t.od
  all : ∀ i j, i < rs.length → j < t.pl.getD i 0 → (i, j) ∈ t.od
section
variable {rs : List Row}
theorem od0 (rs : List Row) : OdOk rs (sta0 rs) := ⟨fun L1 p L2 e => by
  have e : ([] : List (Nat × Nat)) = L1 ++ p :: L2 := e
  simp at e, fun i j _ h => by
  rw [show (sta0 rs).pl.getD i 0 = 0 from getD_zeros rs i] at h
  exact absurd h (Nat.not_lt_zero _)⟩
theorem line_snoc {L : List (Nat × Nat)} {q : Nat × Nat} (h : LineOk rs L) (hq : StepOk rs L q) : LineOk rs (L ++ [q]) := fun L1 p L2 e => by
  rcases List.eq_nil_or_concat L2 with rfl | ⟨L3, x, rfl⟩
  · have e2 := List.append_inj' e rfl
    rw [← e2.1, ← (List.cons.inj e2.2).1]
    exact hq
  · have e2 : L ++ [q] = (L1 ++ p :: L3) ++ [x] := by rw [e]; simp
    exact h L1 p L3 (List.append_inj' e2 rfl).1
theorem od_adv {t : Sta} {i : Nat} {s : Stp} (g : Good rs t) (o : OdOk rs t) (hs : stepAt rs i (t.pl.getD i 0) = some s) (hc : canD t.md s.d = true) : OdOk rs (adv t i s) := by
  obtain ⟨r, hr, hj⟩ := stepAt_row hs
  have hi : i < rs.length := (List.getElem?_eq_some_iff.mp hr).1
  refine ⟨line_snoc o.line ⟨fun j' h => o.all i j' hi h, fun s' w h1 h2 => ?_⟩, fun i' j hi' h => ?_⟩
  · have h1 : stepAt rs i (t.pl.getD i 0) = some s' := h1
    rw [hs] at h1
    cases h1
    rw [h2] at hc
    obtain ⟨i', j', s', a, b, c⟩ := (g.md _).mp (of_decide_eq_true hc)
    obtain ⟨r', hr', _⟩ := stepAt_row b
    exact ⟨i', j', s', o.all i' j' (List.getElem?_eq_some_iff.mp hr').1 a, b, c⟩
  · have e : (adv t i s).pl.getD i' 0 = if i = i' then t.pl.getD i 0 + 1 else t.pl.getD i' 0 := getD_set (by rw [g.pl]; exact hi)
    rw [e] at h
    show (i', j) ∈ t.od ++ [(i, t.pl.getD i 0)]
    split at h
    · rename_i z
      subst z
      by_cases y : j = t.pl.getD i 0
      · rw [y]
        exact List.mem_append_right _ (List.mem_singleton.mpr rfl)
      · exact List.mem_append_left _ (o.all i j hi (by omega))
    · exact List.mem_append_left _ (o.all i' j hi' h)
theorem run_od : ∀ (m : Nat) (t : Sta), Good rs t → OdOk rs t → OdOk rs (runO rs m t)
  | 0, _, _, o => o
  | m + 1, t, g, o => by
    cases e : ready rs t.pl t.md with
    | none =>
      rw [runO_fix e]
      exact o
    | some i =>
      obtain ⟨r, s, a, b, c⟩ := ready_some e
      have hs := stepAt_of a b
      rw [runO_step e hs]
      exact run_od m _ (good_adv g hs) (od_adv g o hs c)
theorem valid_linv (hv : Valid rs) : LinV rs := by
  have o : OdOk rs (lastO rs) := run_od (total rs) (sta0 rs) (good0 rs) (od0 rs)
  refine ⟨(lastO rs).od, fun p m => ?_, fun i j s hs => ?_, fun k i j e => ?_⟩
  · obtain ⟨_, s, hs⟩ := last_step m
    rw [hs]
    rfl
  · obtain ⟨r, hr, hj⟩ := stepAt_row hs
    exact o.all i j (List.getElem?_eq_some_iff.mp hr).1 (by rw [hv.done i r hr]; exact (List.getElem?_eq_some_iff.mp hj).1)
  · have e2 : (lastO rs).od = (lastO rs).od.take k ++ (i, j) :: (lastO rs).od.drop (k + 1) := by
      rw [← drop_at e, List.take_append_drop]
    exact o.line _ _ _ e2
end
/-! ### rows as tuples -/
def tupR (r : Row) : Row := ⟨r.n, false, r.s⟩
def tupL (rs : List Row) : List Row := rs.map tupR
section
variable {rs : List Row}
theorem stepAt_tup (i j : Nat) : stepAt (tupL rs) i j = stepAt rs i j := by
  unfold stepAt tupL
  rw [List.getElem?_map]
  cases rs[i]? <;> rfl
theorem ready_tup (pl : List Nat) (md : List (Bool × Str)) : ready (tupL rs) pl md = ready rs pl md := by
  have e : (fun i => readyAt (tupL rs) pl md i) = fun i => readyAt rs pl md i := funext fun i => by unfold readyAt; rw [stepAt_tup]
  unfold ready
  rw [e]
  unfold tupL
  rw [List.length_map]
theorem runO_tup : ∀ (m : Nat) (t : Sta), runO (tupL rs) m t = runO rs m t
  | 0, _ => rfl
  | m + 1, t => by
    unfold runO
    rw [ready_tup]
    cases ready rs t.pl t.md with
    | none => rfl
    | some i =>
      dsimp only
      rw [stepAt_tup]
      cases stepAt rs i (t.pl.getD i 0) with
      | none => rfl
      | some s => exact runO_tup m _
theorem lens_tup : (tupL rs).map (fun r => r.s.length) = rs.map fun r => r.s.length := by
  unfold tupL
  rw [List.map_map]
  rfl
theorem lastO_tup : lastO (tupL rs) = lastO rs := by
  have e1 : total (tupL rs) = total rs := by unfold total; rw [lens_tup]
  have e2 : sta0 (tupL rs) = sta0 rs := by
    unfold sta0 tupL
    rw [List.map_map]
    rfl
  unfold lastO
  rw [e1, e2, runO_tup]
theorem deeds_tup : deeds (tupL rs) = deeds rs := by
  unfold deeds tupL
  rw [List.flatMap_map]
  rfl
theorem lateV_tup : ∀ (l : List Row) (i : Nat), lateV (tupL rs) i (tupL l) = lateV rs i l
  | [], _ => rfl
  | r :: l, i => by
    show lateV (tupL rs) i (tupR r :: tupL l) = _
    rw [lateV_cons, lateV_cons, lastO_tup, lateV_tup l (i + 1)]
    rfl
theorem logV_tup : logV (tupL rs) = logV rs := by
  unfold logV messV
  rw [deeds_tup, lateV_tup]
theorem tup_at {i : Nat} {r : Row} (h : rs[i]? = some r) : (tupL rs)[i]? = some (tupR r) := by unfold tupL; rw [List.getElem?_map, h]; rfl
theorem valid_tup (h : Valid rs) : Valid (tupL rs) where
  few := by unfold tupL; rw [List.length_map]; exact h.few
  name := fun r m => by obtain ⟨q, mq, rfl⟩ := List.mem_map.mp m; exact h.name q mq
  nd := by
    have : (tupL rs).map (·.n) = rs.map (·.n) := by unfold tupL; rw [List.map_map]; rfl
    rw [this]; exact h.nd
  len := fun r m => by obtain ⟨q, mq, rfl⟩ := List.mem_map.mp m; exact h.len q mq
  step := fun r m => by obtain ⟨q, mq, rfl⟩ := List.mem_map.mp m; exact h.step q mq
  once := by rw [deeds_tup]; exact h.once
  sent := fun w m => by rw [deeds_tup] at m ⊢; exact h.sent w m
  done := fun i r e => by
    unfold tupL at e
    rw [List.getElem?_map] at e
    obtain ⟨q, eq, rfl⟩ := Option.map_eq_some_iff.mp e
    rw [lastO_tup]
    exact h.done i q eq
theorem tup_valid (h : Valid (tupL rs)) : Valid rs where
  few := by have := h.few; unfold tupL at this; rw [List.length_map] at this; exact this
  name := fun r m => h.name (tupR r) (List.mem_map.mpr ⟨r, m, rfl⟩)
  nd := by
    have : (tupL rs).map (·.n) = rs.map (·.n) := by unfold tupL; rw [List.map_map]; rfl
    rw [← this]; exact h.nd
  len := fun r m => h.len (tupR r) (List.mem_map.mpr ⟨r, m, rfl⟩)
  step := fun r m => h.step (tupR r) (List.mem_map.mpr ⟨r, m, rfl⟩)
  once := by have := h.once; rwa [deeds_tup] at this
  sent := fun w m => by have := h.sent w (by rw [deeds_tup]; exact m); rwa [deeds_tup] at this
  done := fun i r e => by
    have := h.done i (tupR r) (tup_at e)
    rw [lastO_tup] at this
    exact this
theorem order_tup : orderP (tupL rs) = orderP rs := by
  unfold orderP
  rw [lastO_tup]
  refine congrArg PyData.list (List.map_congr_left fun p _ => ?_)
  unfold tripP tupL
  rw [List.getElem?_map]
  cases rs[p.1]? <;> rfl
theorem LogAt.tup {K : PySem.W.Frag} {C : Addr} {S : Sh} {H : Hp} {a : Addr} (h : LogAt K C S H a rs) : LogAt K C S H a (tupL rs) := by
  obtain ⟨v, dx, r, o, h1, h2, h3, h4⟩ := h
  refine ⟨valid_tup v, dx, r, o, h1, h2, ?_, by rw [order_tup]; exact h4⟩
  have : (tupL rs).map rowT = rs.map rowT := by unfold tupL; rw [List.map_map]; rfl
  rw [this]
  exact h3
theorem LogAt.untup {K : PySem.W.Frag} {C : Addr} {S : Sh} {H : Hp} {a : Addr} (h : LogAt K C S H a (tupL rs)) : LogAt K C S H a rs := by
  obtain ⟨v, dx, r, o, h1, h2, h3, h4⟩ := h
  refine ⟨tup_valid v, dx, r, o, h1, h2, ?_, by rw [order_tup] at h4; exact h4⟩
  have : (tupL rs).map rowT = rs.map rowT := by unfold tupL; rw [List.map_map]; rfl
  rw [this] at h3
  exact h3
theorem stpOf_P (s : Stp) : stpOf (stpP s) = s := by
  obtain ⟨m, n, d⟩ := s
  cases d with
  | none => rfl
  | some d =>
    obtain ⟨b, w⟩ := d
    show (⟨m, n, some (decide (kindS b = "send"), w)⟩ : Stp) = _
    have : decide (kindS b = "send") = b := by cases b <;> decide +kernel
    rw [this]
theorem rowOf_T (r : Row) : rowOf (rowT r) = tupR r := by
  show (⟨r.n, false, (r.s.map stpP).map stpOf⟩ : Row) = ⟨r.n, false, r.s⟩
  rw [List.map_map]
  have : r.s.map (stpOf ∘ stpP) = r.s.map id := List.map_congr_left fun x _ => stpOf_P x
  rw [this, List.map_id]
theorem rows_backT : (rs.map rowT).map rowOf = tupL rs := by
  rw [List.map_map]
  exact List.map_congr_left fun r _ => rowOf_T r
/-- right rows, but for their messages -/
structure OkT (rs : List Row) : Prop where
  few : rs.length ≤ 6
  name : ∀ r ∈ rs, nameD 6 (.str r.n) = true
  nd : (rs.map (·.n)).Nodup
  len : ∀ r ∈ rs, r.s.length ≤ 20
  step : ∀ r ∈ rs, ∀ s ∈ r.s, stepD (stpP s) = true
theorem Valid.okT (h : Valid rs) : OkT rs := ⟨h.few, h.name, h.nd, h.len, h.step⟩
theorem verdict_T (h : OkT rs) : verdict (rs.map rowT) = logV rs := by
  have rk : ∀ r ∈ rs, rowD (rowT r) = true ∧ nmD (rowT r) = r.n ∧ innD (rowT r) = r.s.map stpP := fun r m => list_ok_t (h.name r m)
  have v1 : rowsV (rs.map rowT) = none := rowsV_ok (by rw [List.length_map]; exact h.few) (fun d m => by
    obtain ⟨r, mr, rfl⟩ := List.mem_map.mp m
    exact (rk r mr).1) (by
    rw [List.map_map]
    have : rs.map (nmD ∘ rowT) = rs.map (·.n) := List.map_congr_left fun r m => (rk r m).2.1
    rw [this]
    exact h.nd)
  have v2 : longV (rs.map rowT) = none := by
    unfold longV
    have : ((rs.map rowT).any fun d => decide (20 < (innD d).length)) = false := List.any_eq_false.mpr fun d m => by
      obtain ⟨r, mr, rfl⟩ := List.mem_map.mp m
      rw [(rk r mr).2.2, List.length_map]
      have := h.len r mr
      simp
      omega
    rw [this]
    rfl
  have v3 : ∀ l : List Row, (∀ r ∈ l, r ∈ rs) → stepsV (l.map rowT) = none := fun l => by
    induction l with
    | nil => intro _; rfl
    | cons r l ih =>
      intro hl
      have mr := hl r (List.mem_cons_self ..)
      rw [List.map_cons, stepsV_cons, firstAt_no fun s ms => ?_]
      · exact ih fun x m => hl x (List.mem_cons_of_mem _ m)
      · rw [(rk r mr).2.2] at ms
        obtain ⟨t, mt, rfl⟩ := List.mem_map.mp ms
        rw [h.step r mr t mt]
        rfl
  unfold verdict
  rw [v1, v2, v3 rs fun _ m => m, rows_backT, logV_tup]
  rfl
/-! ### a log with one more step -/
theorem grow_okT {i : Nat} {r : Row} {s : Stp} (hv : Valid rs) (hr : rs[i]? = some r) (hl : r.s.length < 20) (hs : stepD (stpP s) = true) : OkT (addS rs i s) := ⟨by rw [addS_len]; exact hv.few, fun q m => by
  rcases addS_mem m with m | ⟨r0, e, rfl⟩
  · exact hv.name q m
  · exact hv.name r0 (List.mem_of_getElem? e), by rw [addS_names]; exact hv.nd, fun q m => by
  obtain ⟨j, ej⟩ := List.getElem?_of_mem m
  rw [addS_at] at ej
  split at ej
  · rename_i z
    subst z
    rw [hr] at ej
    cases ej
    show (r.s ++ [s]).length ≤ 20
    rw [List.length_append]
    show _ + 1 ≤ 20
    omega
  · exact hv.len q (List.mem_of_getElem? ej), fun q m t mt => by
  rcases addS_mem m with m | ⟨r0, e, rfl⟩
  · exact hv.step q m t mt
  · rcases List.mem_append.mp mt with mt | mt
    · exact hv.step r0 (List.mem_of_getElem? e) t mt
    · rw [List.mem_singleton.mp mt]; exact hs⟩
theorem dup_twice {α : Type} [DecidableEq α] {x : α} : ∀ {l seen : List α}, dupOf seen l = some x → 2 ≤ (seen ++ l).count x
  | [], _, h => by cases h
  | y :: l, seen, h => by
    rw [dup_cons] at h
    split at h
    · rename_i m
      cases h
      have h1 : 1 ≤ seen.count x := List.count_pos_iff.mpr m
      rw [List.count_append, List.count_cons_self]
      omega
    · have := dup_twice h
      rw [List.append_assoc] at this
      exact this
theorem dup_grown {α : Type} [DecidableEq α] {l l' : List α} {d : α} (hp : l'.Perm (d :: l)) (nd : l.Nodup) (m : d ∈ l) : dupOf [] l' = some d := by
  cases e : dupOf [] l' with
  | none =>
    have := dup_none e List.nodup_nil
    rw [List.nil_append] at this
    exact absurd m (List.nodup_cons.mp (hp.nodup_iff.mp this)).1
  | some x =>
    have h2 := dup_twice e
    rw [List.nil_append, hp.count_eq, List.count_cons] at h2
    have h1 : l.count x ≤ 1 := List.nodup_iff_count.mp nd x
    by_cases z : d = x
    · rw [z]
    · rw [if_neg (by simpa using z)] at h2
      omega
theorem grow_deeds {i : Nat} {r : Row} {s : Stp} {d : Bool × Str} (hr : rs[i]? = some r) (hd : s.d = some d) : (deeds (addS rs i s)).Perm (d :: deeds rs) := by
  have := addS_deeds (s := s) (rs := rs) (i := i) (List.getElem?_eq_some_iff.mp hr).1
  rw [hd] at this
  exact this
theorem grow_dup {i : Nat} {r : Row} {s : Stp} {d : Bool × Str} (hv : Valid rs) (hr : rs[i]? = some r) (hd : s.d = some d) (m : d ∈ deeds rs) : logV (addS rs i s) = some (("DuplicateMessage" : Str), [PyData.str d.2]) := by
  unfold logV messV
  rw [dup_grown (grow_deeds hr hd) hv.once m]
  rfl
theorem grow_lack {i : Nat} {r : Row} {s : Stp} {w : Str} (hv : Valid rs) (hr : rs[i]? = some r) (hd : s.d = some (false, w)) (m : (false, w) ∉ deeds rs) (ms : (true, w) ∉ deeds rs) : logV (addS rs i s) = some (("Unsent" : Str), [PyData.str w]) := by
  have hp := grow_deeds hr hd
  have hn : dupOf [] (deeds (addS rs i s)) = none := dup_no (seen := []) (hp.nodup_iff.mpr (List.nodup_cons.mpr ⟨m, hv.once⟩))
  have lack : lackD (deeds (addS rs i s)) (false, w) = true := by
    unfold lackD
    have : (true, w) ∉ deeds (addS rs i s) := fun z => by
      rcases List.mem_cons.mp (hp.mem_iff.mp z) with z | z
      · cases z
      · exact ms z
    simp [this]
  have hf : (deeds (addS rs i s)).find? (lackD (deeds (addS rs i s))) = some (false, w) := by
    cases e : (deeds (addS rs i s)).find? (lackD (deeds (addS rs i s))) with
    | none =>
      have := List.find?_eq_none.mp e (false, w) (hp.mem_iff.mpr (List.mem_cons_self ..))
      rw [lack] at this
      exact absurd rfl this
    | some x =>
      have h1 := List.find?_some e
      have h2 := hp.mem_iff.mp (List.mem_of_find?_eq_some e)
      rcases List.mem_cons.mp h2 with z | z
      · rw [z]
      · obtain ⟨b, y⟩ := x
        unfold lackD at h1
        cases b with
        | true => cases h1
        | false =>
          have := hp.mem_iff.mpr (List.mem_cons_of_mem _ (hv.sent y z))
          simp [this] at h1
  unfold logV messV
  rw [hn]
  dsimp only
  rw [hf]
  rfl
theorem late_ok : ∀ (l : List Row) (i : Nat), (∀ (j : Nat) (r : Row), l[j]? = some r → r.s.length ≤ (lastO rs).pl.getD (i + j) 0) → lateV rs i l = none
  | [], _, _ => rfl
  | r :: l, i, h => by
    rw [lateV_cons, if_neg (by have := h 0 r rfl; rw [Nat.add_zero] at this; omega)]
    exact late_ok l (i + 1) fun j q e => by
      have := h (j + 1) q e
      rw [show i + 1 + j = i + (j + 1) by omega]
      exact this
theorem grow_fine {i : Nat} {r : Row} {s : Stp} (hv : Valid rs) (hr : rs[i]? = some r) (h1 : ∀ d, s.d = some d → d ∉ deeds rs) (h2 : ∀ w, s.d = some (false, w) → (true, w) ∈ deeds rs) : logV (addS rs i s) = none := by
  have nd : (deeds (addS rs i s)).Nodup ∧ ∀ w, (false, w) ∈ deeds (addS rs i s) → (true, w) ∈ deeds (addS rs i s) := by
    cases ed : s.d with
    | none =>
      have hp := addS_deeds (s := s) (rs := rs) (i := i) (List.getElem?_eq_some_iff.mp hr).1
      rw [ed] at hp
      exact ⟨hp.nodup_iff.mpr hv.once, fun w m => hp.mem_iff.mpr (hv.sent w (hp.mem_iff.mp m))⟩
    | some d =>
      have hp := grow_deeds hr ed
      refine ⟨hp.nodup_iff.mpr (List.nodup_cons.mpr ⟨h1 d ed, hv.once⟩), fun w m => hp.mem_iff.mpr (List.mem_cons_of_mem _ ?_)⟩
      rcases List.mem_cons.mp (hp.mem_iff.mp m) with z | z
      · exact h2 w (by rw [ed, z])
      · exact hv.sent w z
  have hf : (deeds (addS rs i s)).find? (lackD (deeds (addS rs i s))) = none := List.find?_eq_none.mpr fun d m => by
    obtain ⟨b, w⟩ := d
    unfold lackD
    cases b with
    | true => simp
    | false => simp [nd.2 w m]
  have hdone := lin_done (LinV.add (valid_linv hv) hr h2).lin
  have hn : dupOf [] (deeds (addS rs i s)) = none := dup_no (seen := []) nd.1
  unfold logV messV
  rw [hn]
  dsimp only
  rw [hf]
  exact late_ok _ 0 fun j q e => by rw [Nat.zero_add, hdone j q e]; exact Nat.le_refl _
/-- the row with the step, among the names -/
theorem grown_is {i : Nat} {r : Row} {s : Stp} (nd : (rs.map (·.n)).Nodup) (hr : rs[i]? = some r) : grown rs (.str r.n) (stpP s) = (addS rs i s).map rowT := by
  refine List.ext_getElem? fun j => ?_
  unfold grown
  rw [List.map_map, List.getElem?_map, List.getElem?_map, addS_at]
  cases e : rs[j]? with
  | none =>
    split <;> rfl
  | some q =>
    have key : PyData.eqv (.str q.n) (.str r.n) = decide (j = i) := by
      rw [Bool.eq_iff_iff, decide_eq_true_iff]
      have hq : (rs.map (·.n))[j]? = some q.n := by rw [List.getElem?_map, e]; rfl
      have hr2 : (rs.map (·.n))[i]? = some r.n := by rw [List.getElem?_map, hr]; rfl
      constructor
      · intro z
        have z : q.n = r.n := by simpa [PyData.eqv] using z
        rw [z] at hq
        exact (List.getElem?_inj (List.getElem?_eq_some_iff.mp hq).1 nd).mp (hq.trans hr2.symm)
      · intro z
        subst z
        rw [e] at hr
        cases hr
        simp [PyData.eqv]
    show some (PyData.tuple [.str q.n, .tuple (if PyData.eqv (.str q.n) (.str r.n) = true then q.s.map stpP ++ [stpP s] else q.s.map stpP)]) = _
    rw [key]
    by_cases z : j = i
    · rw [if_pos (decide_eq_true z), if_pos z]
      show _ = some (PyData.tuple [.str q.n, .tuple ((q.s ++ [s]).map stpP)])
      rw [List.map_append]
      rfl
    · rw [if_neg (by simpa using z), if_neg z]
      rfl
theorem rowFor_at {i : Nat} {r : Row} (nd : (rs.map (·.n)).Nodup) (hr : rs[i]? = some r) : rowFor rs (.str r.n) = some r := by
  unfold rowFor
  rw [List.find?_eq_some_iff_getElem]
  refine ⟨by unfold nmIs; simp [PyData.eqv], i, (List.getElem?_eq_some_iff.mp hr).1, (List.getElem?_eq_some_iff.mp hr).2, fun j hj => ?_⟩
  have hjl : j < rs.length := Nat.lt_trans hj (List.getElem?_eq_some_iff.mp hr).1
  have hne : rs[j].n ≠ r.n := fun z => by
    have h1 : (rs.map (·.n))[j]? = some r.n := by rw [List.getElem?_map, List.getElem?_eq_getElem hjl]; exact congrArg some z
    have h2 : (rs.map (·.n))[i]? = some r.n := by rw [List.getElem?_map, hr]; rfl
    have := (List.getElem?_inj (by rw [List.length_map]; exact hjl) nd).mp (h1.trans h2.symm)
    omega
  unfold nmIs
  simp [PyData.eqv, hne]
end
end My
set_option Elab.async false
set_option linter.all false
set_option maxRecDepth 100000
namespace My
open PySem PySem.Spec PyProof.Rows L2 TL L2H LamX
/-! ### _law_whys(xs), also where the last lambda draws from the bag -/
/-- what the call of _law_whys comes to -/
def RunW (X : Cx) (A : Top) (k : Nat) (l : Addr) (H0 : Hp) (Q : VK) : Prop := ∀ (A0 : Around) (outer : List Env) (s0 : Shared), Env0 X.prog X.w X.K X.mg X.base A0 outer s0 H0 → Room (k + 10) A0 →
  codeAny (model X.prog X.w) A0 (.call (.ref A.f_Lwhys) ⟨[.ref l], []⟩) (CR CX0 outer X.prog X.w H0 s0 Q E0) s0
def tWhysG (X : Cx) (A : Top) (k : Nat) (te : TE) : TE := fun σ H Q => te σ H fun v H1 => ∃ (l : Addr), v = .ref l ∧ ∀ cl : Still, Caps X σ cl → Apart cl H1 → RunW X A k l (kept cl H1) fun u H' => KeptIn cl H' ∧ Q u (loose cl H')
theorem pe_whysG {X : Cx} {A : Top} {k : Nat} {e : Expr} {te : TE} {p1 p3 : Pos} (T : TopOk X.K X.mg A) (hr : Room (k + 10) X.A) (O : OwnCells X) (nd : (X.env.cells.map (·.1)).Nodup) (hg : Gl X "_law_whys") (he : PE X e te) (hst : starEach [e] X.env = [(false, eval e X.env)] := by rfl) (hpl : (backTo p3 (starEach [] X.env)).any (·.1) = false := by rfl) :
    PE X (.Call (.Name "_law_whys" p1) [e] [] p3) (tWhysG X A k te) := ⟨fun pins s1 σ H1 Q1 I1 h => by
  have args := pa_cons he pa_nil (hs := hst)
  refine wpAny_Call_Name_kw (ld_glob I1 hg T.g_Lwhys (PySem.W.callWith_K (h₀ := X.base) I1.ok.mod.kin T.F_Lwhys.kp (thn (args.run p3 pins s1 σ H1 (fun xs G => ∃ v, xs = [v] ∧ ∃ (l : Addr), v = .ref l ∧ ∀ cl : Still, Caps X σ cl → Apart cl G → RunW X A k l (kept cl G) fun u H' => KeptIn cl H' ∧ Q1 u (loose cl H')) I1 ?_) fun us s2 ⟨vs, G, I2, r, v, evs, l, ev, wish⟩ => ⟨I2.kIn, ?_⟩) hst hpl) (by decide))
  · show te σ H1 _
    exact cast (congrArg (te σ H1) (funext fun v => funext fun G => propext ⟨fun z => ⟨v, rfl, z⟩, fun ⟨v2, e, z⟩ => by cases e; exact z⟩)) h
  subst evs ev
  cases r with
  | cons r0 rr =>
  cases rr
  have eu : _ = Value.ref l := r0
  subst eu
  have ap := cells_apart I2 nd
  have th : There (cellsOf X s2) s2.heap := cellsOf_there
  have e1 := env0_kept I2.env0 ap th (cells_base I2 O) (cells_frames I2 O)
  refine wpAny_call (codeAny_mono (wish _ (caps_of I2) ap _ _ _ e1 hr) fun rs s3 hq => ?_)
  match rs, hq with
  | .ok (.ret u), hq => exact I2.after (ce_loose ap th (cells_frames I2 O) hq)⟩
section
variable {X : Cx} {A : Top} {B : BagId} {Pt : Addr} {S : Sh} {H0 H : Hp} {Q : VK} {σ : L2.St} {fs : List Addr} {ds : List PyData} {ps : List (LamT × Bool)} {l fl : Addr} {k i : Nat} {P : PyData → Prop}
/-- all pure -/
theorem sv_whysG (T : TopOk X.K X.mg A) (hv : σ[i]? = some (some (.ref l))) (hl : H l = some (.lst (fs.map V.ref))) (ls : LamsAt X H fs ps) (hn : decide (ps.length ≤ 100) = true) (ok : LamsOk X A k σ S H ps ds) : SV X.K S (tWhysG X A k (tVar i)) σ H (.list ds) := fun S1 H1 n Q q => by
  have e1 := ls.length
  have e2 := ok.length
  have := of_decide_eq_true hn
  refine ⟨_, hv, l, rfl, fun cl cs ap A0 outer s0 e0 hr => ?_⟩
  have lS' : Live S1 (kept cl H1) := fun a z => by
    obtain ⟨o, eo⟩ := n.live a z
    exact ⟨o, ap.stay eo⟩
  refine whys_run (X := X) (k := k) (ds := ds) T e0 hr lS' (ap.stay (n.same _ _ hl)) (by omega) (by omega) (ok.each ls S1 H1 n n.same cl cs ap) fun u H' s' hu => ?_
  have kin : KeptIn cl H' := fun b o e => s' _ _ (kept_at e)
  exact ⟨kin, q u _ (fun b o eo => by rw [loose_no (ap.other eo)]; exact s' _ _ (ap.stay eo)) (hu.loose kin)⟩
/-- what a lambda that draws comes to -/
def WhyM (X : Cx) (A : Top) (B : BagId) (S : Sh) (H0 : Hp) (k : Nat) (f : Addr) (P : PyData → Prop) : Prop := ∃ (know : Hp → Prop) (tl : XK → Hp → VK → Prop), Ask X k know f tl ∧ MonoT tl ∧ ∀ S' Hz, Now S H0 S' Hz → know Hz ∧ ∀ Q : VK, (∀ u d H', P d → Ext B.p Hz H' → Bag B H' → Ds X.K S' H' u d → Q u H') → tl (gotX X.K (caughtC A) (whyQ Q)) Hz (gotT (whyQ Q))
theorem whys_runM (T : TopOk X.K X.mg A) {A0 : Around} {outer : List Env} {s0 : Shared} (e0 : Env0 X.prog X.w X.K X.mg X.base A0 outer s0 H0) (hr : Room (k + 10) A0) (lS : Live S H0) (hp : S B.p) (hb : Bag B H0) (hl : H0 l = some (.lst ((fs ++ [fl]).map V.ref))) (hll : l ≠ B.p) (hn : fs.length ≤ 1000) (hlen : ds.length = fs.length)
    (each : ∀ (i : Nat) (f : Addr) (d : PyData), fs[i]? = some f → ds[i]? = some d → WhyOk X A S H0 k f d) (last : WhyM X A B S H0 k fl P) (q : ∀ u d H', P d → Ext B.p H0 H' → Bag B H' → Ds X.K S H' u (.list (ds ++ [d])) → Q u H') :
    codeAny (model X.prog X.w) A0 (.call (.ref A.f_Lwhys) ⟨[.ref l], []⟩) (CR CX0 outer X.prog X.w H0 s0 Q E0) s0 := by
  refine fun_S (k := k + 9) (vs := [.ref l]) T.F_Lwhys sc_Lwhys hr e0 T.a_Lwhys (.cons rfl .nil) rfl fun cdv hr2 => ?_
  refine ⟨_, (pss_one (ps_ret (pe_lc (own := [("_law_ask", 1)]) (g := gName 1) (te := tWhyC X A k (tVar 1)) (by rfl) sc_Lwhys.nd (pi_any (pv 0)) (blkOk_by (own := [("_law_ask", 1)]) (N := N_Lwhys) (sc := defScope s_Lwhys) (by decide +kernel)) (fun _ _ _ _ _ => (pg_name (i := 1) sc_Lwhys.nd rfl (by first | exact Or.inl rfl | exact Or.inr rfl))) (fun _ _ _ _ _ => pts_nil) (fun _ _ _ _ _ => (pe_whyC (X := X) (A := A) T (hr2.mono (by omega)) (by rfl) (pv 1)))))), ?_⟩
  show tLc (iAny X.K (tVar 0)) (gName 1) tYes (tWhyC X A k (tVar 1)) [1] [some (.ref l), none] H0 Q
  refine ⟨_, rfl, l, rfl, .inl ⟨⟨(fs ++ [fl]).map V.ref, .inl (.inl hl)⟩, fun D nD => ?_⟩⟩
  refine lc_it (walk_list (xs := (fs ++ [fl]).map V.ref)) (fun i H3 => (i ≤ ds.length ∧ ∃ vs, H3 D = some (.lst vs) ∧ Now S H0 (fun a => S a ∨ a = D) H3 ∧ DsAll X.K (fun a => S a ∨ a = D) H3 vs (ds.take i)) ∨ (i = ds.length + 1 ∧ ∃ vs d, P d ∧ H3 D = some (.lst vs) ∧ Ext B.p H0 H3 ∧ Bag B H3 ∧ DsAll X.K (fun a => S a ∨ a = D) H3 vs (ds ++ [d])))
    (.inl ⟨Nat.zero_le _, [], upd_same, Now.add lS nD, .nil⟩) (fun i H3 _ z => ?_) (fun i x H3 H4 hi z ⟨e4, ex⟩ => ?_) fun H3 z => ?_
  · rcases z with ⟨_, _, _, z, _⟩ | ⟨_, _, _, _, _, z, _⟩
    · exact .inl (.inl (z.same _ _ hl))
    · exact .inl (.inl (z _ _ hl hll))
  · subst e4
    rw [List.getElem?_map] at ex
    obtain ⟨f, ef, rfl⟩ := Option.map_eq_some_iff.mp ex
    have hi2 := (List.getElem?_eq_some_iff.mp ef).1
    rw [List.length_append] at hi2
    have hi3 : i < fs.length + 1 := hi2
    rcases z with ⟨hle, vs3, e3, n3, d3⟩ | ⟨e, _⟩
    · by_cases hlt : i < fs.length
      · rw [List.getElem?_append_left hlt] at ef
        have ed : ds[i]? = some (ds[i]'(by omega)) := List.getElem?_eq_getElem _
        generalize ds[i]'(by omega) = d at ed
        obtain ⟨know, tl, ask, mt, hk⟩ := each i f d ef ed
        obtain ⟨k1, k2⟩ := hk _ _ n3
        refine ⟨rfl, ?_⟩
        dsimp only [tYes]
        rw [if_pos rfl]
        refine ⟨_, rfl, f, know, tl, rfl, ask, mt, k1, k2 _ fun u H5 s5 hu => ⟨vs3, s5 _ _ e3, ?_, .inl ⟨by omega, vs3 ++ [u], upd_same, (n3.then s5).put (.inr rfl) (lS.ne nD), ?_⟩⟩⟩
        · have h1 := d3.length
          rw [List.length_take] at h1
          exact szl (by omega)
        · rw [List.take_add_one, ed]
          exact ((d3.same s5).app (.cons hu .nil)).byX (XS.upd (.inr rfl))
      · have ei : i = fs.length := by omega
        subst ei
        rw [List.getElem?_append_right (Nat.le_refl _), Nat.sub_self] at ef
        have ef : fl = f := Option.some.inj ef
        subst ef
        rw [List.take_of_length_le (by omega)] at d3
        obtain ⟨know, tl, ask, mt, hk⟩ := last
        obtain ⟨k1, k2⟩ := hk _ _ n3
        have dp : D ≠ B.p := fun z => (lS.ne nD) (z ▸ hp)
        refine ⟨rfl, ?_⟩
        dsimp only [tYes]
        rw [if_pos rfl]
        refine ⟨_, rfl, fl, know, tl, rfl, ask, mt, k1, k2 _ fun u d H5 pd x5 b5 hu => ?_⟩
        have eD := x5 _ _ e3 dp
        have dl : D ≠ B.l := fun z => by
          obtain ⟨o, eo⟩ := hb.thereL
          rw [← z, nD] at eo
          cases eo
        refine ⟨vs3, eD, szl (by rw [d3.length]; omega), .inr ⟨by omega, vs3 ++ [u], d, pd, upd_same, fun b o e n => ?_, b5.upd dp dl, ?_⟩⟩
        · rw [upd_ne fun z => by rw [z, nD] at e; cases e]
          exact x5 _ _ (n3.same _ _ e) n
        · exact (((d3.byX (XS.ext x5 (.inl hp))).app (.cons hu .nil))).byX (XS.upd (.inr rfl))
    · omega
  · rcases z with ⟨hle, _⟩ | ⟨_, vs3, d, pd, e3, x3, b3, d3⟩
    · rw [List.length_map, List.length_append] at hle
      have : fs.length + 1 ≤ ds.length := hle
      omega
    · exact q _ d _ pd x3 b3 (.lst ⟨lS.ne nD, e3⟩ (d3.less fun _ => .inl))
end
end My
set_option Elab.async false
set_option linter.all false
set_option maxRecDepth 100000
namespace My
open PySem PySem.Spec PyProof.Rows L2 TL L2H LamX
/-! ### a last lambda that draws and raises -/
section
variable {X : Cx} {A : Top} {B : BagId} {σ σm : L2.St} {t : LamT} {S : Sh} {H1 : Hp} {cl : Still} {k : Nat} {f cI : Addr} {dv : Value} {as : List Str} {vs ws : List V} {v : V} {ds : List PyData} {tb : XK → TE} {code : Str} {names : List Str} {bs : List Bool} {P' : List PyData → Prop}
theorem Bag.move {H H' : Hp} (b : Bag B H) (h : ∀ p o, H p = some o → H' p = some o) : Bag B H' := Bag.ext b h
/-- what is wished where the lambda may draw before it raises -/
def drawE (K : PySem.W.Frag) (B : BagId) (cI : Addr) (code : Str) (names : List Str) (E : XK) (P' : List PyData → Prop) (S : Sh) (H : Hp) : Prop := ∀ (ds : List PyData) (us : List V) (H3 : Hp), P' ds → Ext B.p H H3 → Bag B H3 → DsAll K S H3 us ds → errE cI code names E us H3
theorem why_errM {Q : VK} {S' : Sh} {Hz H0 : Hp} (ec : ErrC X.K (caughtC A) cI code names) (hl : ds.length = names.length) (ht : code ≠ "told")
    (kin : KeptIn cl Hz) (lz : Live S' Hz) (x0 : Ext B.p (loose cl Hz) H0) (hb : Bag B H0) (hcb : cl B.p = none) (hp : P' ds) (hv : DsAll X.K S' H0 ws ds) (q : ∀ u d H', (∃ ds, P' ds ∧ d = PyData.tuple [.str code, .tuple ds]) → Ext B.p Hz H' → Bag B H' → Ds X.K S' H' u d → Q u H') :
    errE cI code names (fun c e H2 => Apart cl H2 → gotX X.K (caughtC A) (whyQ Q) c e (kept cl H2)) ws H0 := fun dd H2 s2 nd ap2 => by
  have sz : Ext B.p Hz (kept cl (upd H2 dd (.xd (flds code names ws)))) := fun b o e n => by
    cases z : cl b with
    | some o2 =>
      rw [kin b o2 z] at e
      cases e
      exact kept_at z
    | none =>
      rw [kept_no z]
      exact same_upd nd _ _ (s2 _ _ (x0 _ _ (by rw [loose_no z]; exact e) n))
  have at_ : kept cl (upd H2 dd (.xd (flds code names ws))) dd = some (.xd (flds code names ws)) := ap2.stay upd_same
  have hz : DsAll X.K S' (kept cl (upd H2 dd (.xd (flds code names ws)))) ws ds := DsAll.map (fun a xs l => ⟨l.1, ap2.stay l.2⟩) (fun a xs l => ⟨l.1, ap2.stay l.2⟩) _ _ ((hv.same s2).same (same_upd nd (o := .xd (flds code names ws))))
  have hbk : Bag B (kept cl (upd H2 dd (.xd (flds code names ws)))) := ((hb.ext s2).ext (same_upd nd)).move fun p o e => ap2.stay e
  refine ⟨cI, dd, code, names, ws, rfl, rfl, ec.ex, ⟨ec.xf, ec.no, hv.length.trans hl, at_⟩, ec.is, fun p r H3 s3 np nr hpp hq => ?_⟩
  have s4 : Ext B.p Hz H3 := sz.trans (Ext.of s3)
  have out : ∀ a, kept cl (upd H2 dd (.xd (flds code names ws))) a = none → ¬ S' a := fun a n z => by
    obtain ⟨o, eo⟩ := lz a z
    by_cases y : a = B.p
    · obtain ⟨o2, e2⟩ := hbk.there
      rw [y, e2] at n
      cases n
    · rw [sz _ _ eo y] at n
      cases n
  exact ⟨r, code, .ref p, rfl, hq, fun z => absurd z ht, fun _ => q _ _ H3 ⟨ds, hp, rfl⟩ s4 (hbk.ext s3) (.tup ⟨out _ nr, hq⟩ (.cons (.str _) (.cons (.tup ⟨out _ np, hpp⟩ (hz.same s3)) .nil)))⟩
theorem why_okM (li : LamIn t X H1 f dv) (hdv : DvAt H1 dv vs) (hn : vs.length = as.length) (cs0 : Caps X σ cl) (ap : Apart cl H1) (l : Live S H1) (hB : Bag B H1)
    (hm : ∀ (i : Nat) (v : V), σm[i]? = some (some v) → σ[i]? = some (some v)) (hlen : σm.length = σ.length) (hb0 : σm.map Option.isSome = bs) (hid : hidesB X.N t.sc bs = true) (L : lamCB X.env.scope t.sc = true)
    (hbind : ∀ (pm ct : Value) (c' : Addr) (s2 : Shared) (us : List Value), DvIn s2.heap dv us → us.length = as.length → BindsTo s2 { t.fd X pm ct c' with defaults := dv } ⟨[], []⟩ (as.zip us))
    (has : ∀ y ∈ as, t.sc.names.lookup y = some .local) (hb : ∀ (E2 : XK) (A2 : Around) (l2 : List Env) (s2 : Shared) (H2 : Hp) (c' : Addr), Room k (A2.deeper (lamEnv X t.sc s2.heap.objs.size f c')) → PE (t.cx X A2 l2 s2 H2 E2 f c') t.body (tb E2))
    (ec : ErrC X.K (caughtC A) cI code names) (hl : ∀ ds, P' ds → ds.length = names.length) (ht : code ≠ "told")
    (raises : ∀ (E2 : XK) (S2 : Sh) (H2 : Hp) (Q2 : VK), Now S H1 S2 H2 → drawE X.K B cI code names E2 P' S2 H2 → tb E2 σm H2 Q2) : WhyM X A B S (kept cl H1) k f fun d => ∃ ds, P' ds ∧ d = PyData.tuple [.str code, .tuple ds] := by
  have cs := cs0.less hm hlen
  have toZ : ∀ {Hz : Hp}, Same (kept cl H1) Hz → ∀ b o, H1 b = some o → Hz b = some o := fun s b o e => s _ _ (ap.stay e)
  have hcb : cl B.p = none := by
    obtain ⟨o, eo⟩ := hB.there
    exact ap.other eo
  refine ⟨fun _ => True, fun E Hz _ => ∃ S', Now S (kept cl H1) S' Hz ∧ drawE X.K B cI code names (fun c e H2 => Apart cl H2 → E c e (kept cl H2)) P' S' (loose cl Hz), fun CXg Eg E Ng qg a sg g cdg i pn xe W p1 p2 A2 outer s0 H0 tk hW hr hN hvis ha ha2 => ?_, fun E E' _ _ H he _ ⟨S', n, h⟩ => ⟨S', n, fun ds us H3 hp x b hu dd H4 s3 z ap3 => he _ _ _ (h ds us H3 hp x b hu dd H4 s3 z ap3)⟩, fun S' Hz n => ⟨trivial, fun Q q => ?_⟩⟩
  · refine pe_less (pe_cap (E := E) (t := t) (f := f) (dv := dv) (as := as) (tb := tb) (p1 := p1) (p2 := p2) cs (lamC_by L) (hides_by hb0 hid) hbind has tk hW hr hb hN hvis ha ha2) fun σz Hz Q ⟨h1, _, S', n, h3⟩ => ?_
    obtain ⟨kin, nl⟩ := now_loose l ap n
    obtain ⟨c', o1, o2⟩ := li
    exact ⟨h1, ⟨c', toZ n.same _ _ o1, toZ n.same _ _ o2⟩, ⟨vs, hdv.imp id fun ⟨d0, e0, h0⟩ => ⟨d0, e0, toZ n.same _ _ h0⟩, hn⟩, kin, raises _ S' _ _ nl h3⟩
  · obtain ⟨kin, nl⟩ := now_loose l ap n
    exact ⟨S', n, fun ds us H3 hp x b hu => why_errM ec (hl ds hp) ht kin n.live x b hcb hp hu q⟩
/-- the last of the list -/
def LamM (X : Cx) (A : Top) (B : BagId) (k : Nat) (σ : L2.St) (S : Sh) (H : Hp) (p : LamT × Bool) (P : PyData → Prop) : Prop := ∀ (cl : Still) (f : Addr), Caps X σ cl → Apart cl H → LamAt X H f p → WhyM X A B S (kept cl H) k f P
theorem lam_errM1 {y : Str} {H : Hp} (l : Live S H) (hB : Bag B H) (hb : ∀ (f : Addr) (E2 : XK) (A2 : Around) (l2 : List Env) (s2 : Shared) (H2 : Hp) (c' : Addr), Room k (A2.deeper (lamEnv X t.sc s2.heap.objs.size f c')) → PE (t.cx X A2 l2 s2 H2 E2 f c') t.body (tb E2))
    (hno : (X.N.all fun y => !decide (t.sc.names.lookup y = some .local)) = true) (L : lamCB X.env.scope t.sc = true) (h0 : ∀ (d : Addr) (pm ct : Value) (c' : Addr), ∃ k, bindArgs { t.fd X pm ct c' with defaults := .ref d } ⟨[], []⟩ = seqItems? (.ref d) >>= k ∧ ∀ u, k (some #[u]) = pure [(y, u)]) (hy : t.sc.names.lookup y = some .local)
    (ec : ErrC X.K (caughtC A) cI code names) (hl : ∀ ds, P' ds → ds.length = names.length) (ht : code ≠ "told") (raises : ∀ (E2 : XK) (S2 : Sh) (H2 : Hp) (Q2 : VK), Now S H S2 H2 → drawE X.K B cI code names E2 P' S2 H2 → tb E2 σ H2 Q2) : LamM X A B k σ S H (t, true) fun d => ∃ ds, P' ds ∧ d = PyData.tuple [.str code, .tuple ds] :=
  fun cl f cs ap ⟨D, li, hD⟩ => why_okM (as := [y]) (vs := [.int 0]) (σm := σ) li (.inr ⟨_, rfl, hD⟩) rfl cs ap l hB less_refl rfl rfl (hides_none hno _) L (lam_bind1 (h0 D)) (fun y hy' => by rw [List.mem_singleton.mp hy']; exact hy) (hb f) ec hl ht raises
theorem LamsAt.snoc {H : Hp} {p : LamT × Bool} : ∀ {ps : List (LamT × Bool)} {gs : List Addr}, LamsAt X H gs (ps ++ [p]) → ∃ fs fl, gs = fs ++ [fl] ∧ LamsAt X H fs ps ∧ LamAt X H fl p
  | [], _, h => by
    cases h with
    | cons a b => cases b; exact ⟨[], _, rfl, .nil, a⟩
  | q :: ps, _, h => by
    cases h with
    | cons a b =>
      obtain ⟨fs, fl, rfl, h1, h2⟩ := LamsAt.snoc b
      exact ⟨_ :: fs, fl, rfl, .cons a h1, h2⟩
/-- _law_whys(_law_asks), the last of which draws -/
theorem whysM_run {Pt : Addr} {H : Hp} {i : Nat} {l : Addr} {gs : List Addr} {ps : List (LamT × Bool)} {p : LamT × Bool} {P : PyData → Prop} {Q : VK} (T : TopOk X.K X.mg A) (hB : Bag B H) (tab : Tb Pt H) (hv : σ[i]? = some (some (.ref l))) (hl : H l = some (.lst (gs.map V.ref))) (hnl : ¬ SP2 B Pt l) (ls : LamsAt X H gs (ps ++ [p])) (hn : decide (ps.length ≤ 100) = true)
    (ok : LamsOk X A k σ (SP2 B Pt) H ps ds) (last : LamM X A B k σ (SP2 B Pt) H p P) (q : ∀ u d H', P d → Moved B Pt H H' → Ds X.K (SP2 B Pt) H' u (.list (ds ++ [d])) → Q u H') : tWhysG X A k (tVar i) σ H Q := by
  obtain ⟨fs, fl, rfl, l1, l2⟩ := ls.snoc
  have e1 := l1.length
  have e2 := ok.length
  have e3 := of_decide_eq_true hn
  have lv := live2 hB tab
  refine ⟨_, hv, l, rfl, fun cl cs ap A0 outer s0 e0 hr => ?_⟩
  have lv' : Live (SP2 B Pt) (kept cl H) := fun a z => by
    obtain ⟨o, eo⟩ := lv a z
    exact ⟨o, ap.stay eo⟩
  refine whys_runM (X := X) (k := k) (ds := ds) T e0 hr lv' (.inl rfl) (hB.move fun p o e => ap.stay e) (ap.stay hl) (fun z => hnl (.inl z)) (by omega) (by omega) (fun j f d ef ed => ok.each l1 (SP2 B Pt) H (Now.refl lv) (Same.refl _) cl cs ap j f d ef ed) (last cl fl cs ap l2) fun u d H' pd x b hu => ?_
  have hcb : ∀ q o, cl q = some o → q ≠ B.p := fun q o e z => by
    obtain ⟨o2, e2⟩ := hB.there
    rw [z, ap.other e2] at e
    cases e
  have kin : KeptIn cl H' := fun b o e => x _ _ (kept_at e) (hcb b o e)
  have xl : Ext B.p H (loose cl H') := fun b o eo n => by rw [loose_no (ap.other eo)]; exact x _ _ (ap.stay eo) n
  have bl : Bag B (loose cl H') := by
    obtain ⟨i, g, m, c, h1, h2, r⟩ := b
    exact ⟨i, g, m, c, by rw [loose_no (kin.other h1 fun φ z => by cases z)]; exact h1, by rw [loose_no (kin.other h2 fun φ z => by cases z)]; exact h2, r⟩
  exact ⟨kin, q u d _ pd ⟨x_bag xl, bl, tab.bag hB xl⟩ (hu.loose kin)⟩
end
/-! ### _law_odd, _law_lengths -/
def oddsD : List PyData := [.none, .bool true, .bool false, .str "", .str "A", .int (-1), .int 1000000, .tuple [.int 1], .list [.int 1], .tuple [], .tuple [.int 0, .bool true], .str "1"]
def spOddA (K : PySem.W.Frag) : Sp := fun vs H Q _ => ∃ (S : Sh) (B : BagId) (u : V) (ds : List PyData), vs = [.ref B.p, u] ∧ Live S H ∧ S B.p ∧ Bag B H ∧ Ds K S H u (.list ds) ∧ ds.length ≤ 100 ∧ ∀ v d H', d ∈ oddsD ++ ds → Bag B H' → Ext B.p H H' → Ds K S H' v d → Q v H'
/-- _law_of(bag, xs), for any S that holds the bag -/
theorem of_svS {K : PySem.W.Frag} {B : BagId} {S : Sh} {σ : L2.St} {H : Hp} {te : TE} {ds : List PyData} {E : XK} {Q : VK} {i : Nat} {k : Bool} (hS : S B.p) (hi : σ[i]? = some (some (.ref B.p))) (hB : Bag B H) (l : Live S H) (h : SV K S te σ H (seqD k ds)) (h0 : 0 < ds.length) (h1 : ds.length ≤ 5000)
    (q : ∀ v d H', d ∈ ds → Bag B H' → Ext B.p H H' → Ds K S H' v d → Q v H') : tCall (spOf K) [] E (tCons (tVar i) (tCons te tNil)) σ H Q :=
  ⟨_, hi, h.run l fun v H2 s2 hv => by
    have fin : ∀ (a : Addr) (xs : List V), ¬ S a → (SqL K H2 a xs ∨ SqT K H2 a xs) → DsAll K S H2 xs ds → spOf K [.ref B.p, .ref a] H2 Q E := fun a xs ne hq hx =>
      ⟨B, .ref a, rfl, hB.ext s2, .inl ⟨a, xs, rfl, fun z => ne (z ▸ hS), hq, by rw [hx.length]; exact h0, by rw [hx.length]; omega, fun v H' hm hB' ex => by
        obtain ⟨j, hj⟩ := List.getElem?_of_mem hm
        obtain ⟨d, e, hd⟩ := hx.get hj
        exact q v d H' (List.mem_of_getElem? e) hB' ((Ext.of s2).trans ex) (hd.byX (XS.ext ex hS))⟩⟩
    cases k with
    | true => obtain ⟨a, xs, rfl, la, hx⟩ := Ds.l hv; exact fin a xs la.1 (.inl la.sq) hx
    | false => obtain ⟨a, xs, rfl, la, hx⟩ := Ds.t hv; exact fin a xs la.1 (.inr la.sq) hx⟩
def lenQ : PyData → PyData
  | .tuple [_, .list l] => .int (l.length : Nat)
  | _ => .none
def spLlensR (K : PySem.W.Frag) : Sp := spT K (fun rs : List Row => [.list (rs.map rowP)]) (fun rs => rs.length ≤ 6 ∧ ∀ r ∈ rs, r.k = true) fun rs => .tuple (rs.map fun r => PyData.int (r.s.length : Nat))
theorem sv_pow {K : PySem.W.Frag} {S : Sh} {σ : L2.St} {H : Hp} {ta tb : TE} {x y : Int} (ha : SV K S ta σ H (.int x)) (hb : SV K S tb σ H (.int y)) (hc : CPow x y) : SV K S (tOp (rI CPow fun i j => .int (i ^ j.toNat)) ta tb) σ H (.int (x ^ y.toNat)) := sv_op ha hb fun _ _ _ _ Q _ hx hy q => ⟨x, y, hx.i, hy.i, hc, q _ _ (Same.refl _) (.int _)⟩
section
variable {P : Program} {w : World} {K : PySem.W.Frag} {mg : Str → Option Value} {base : Heap} {A : Top}
theorem ok_Lodd (T : TopOk K mg A) : FnOk P w K mg base CX0 3 A.f_Lodd A.d_Lodd P_Lodd (spOddA K) := by
  have G_Lof : FnOk P w K mg base CX0 2 A.f_Lof A.d_Lof P_Lof (spOf K) := ok_Lof T
  refine T.F_Lodd.ok sc_Lodd (fun vs H Q E h => ?_) (fun cdv Ar outer s H vs Q E hr h => ?_)
  · obtain ⟨S, B, u, ds, rfl, _⟩ := h
    rfl
  · obtain ⟨S, B, u, ds, rfl, hL, hS, hB, hu, hn, k⟩ := h
    refine ⟨_, (pss_one (ps_ret (pe_call G_Lof (hr.mono (by decide)) (by rfl) T.g_Lof T.F_Lof.kp T.a_Lof .nil pass0 (pa_cons (pv 0) (pa_cons (pe_op L2.op_cat (pe_lst (pa_cons pe_non (pa_cons pe_bl (pa_cons pe_bl (pa_cons pe_str (pa_cons pe_str (pa_cons (pe_un un_neg pe_int) (pa_cons (pe_op op_pow pe_int pe_int) (pa_cons (pe_tup (pa_cons pe_int pa_nil)) (pa_cons (pe_lst (pa_cons pe_int pa_nil)) (pa_cons (pe_tup pa_nil) (pa_cons (pe_tup (pa_cons pe_int (pa_cons pe_bl pa_nil))) (pa_cons pe_str pa_nil))))))))))))) (pv 1)) pa_nil))))), ?_⟩
    show tRet _ _ [some (.ref B.p), some u] H
    refine of_svS (B := B) (S := S) (k := true) (ds := oddsD ++ ds) (i := 0) hS rfl hB hL (sv_cat (sv_lst (ds := oddsD) (sa_cons sv_non (sa_cons sv_bl (sa_cons sv_bl (sa_cons sv_str (sa_cons sv_str (sa_cons (sv_neg sv_int) (sa_cons (sv_pow sv_int sv_int ⟨by decide, by decide, by decide⟩) (sa_cons (sv_tup (sa_cons sv_int sa_nil) rfl) (sa_cons (sv_lst (sa_cons sv_int sa_nil) rfl) (sa_cons (sv_tup sa_nil rfl) (sa_cons (sv_tup (sa_cons sv_int (sa_cons sv_bl sa_nil)) rfl) (sa_cons sv_str sa_nil)))))))))))) rfl) (sv_var (i := 1) rfl hu) (by show 12 + _ ≤ 5000; omega)) (by rw [List.length_append]; show 0 < 12 + _; omega) (by rw [List.length_append]; show 12 + _ ≤ 5000; omega) k
/-- _law_lengths of rows that are told -/
theorem ok_Llengths (T : TopOk K mg A) : FnOk P w K mg base CX0 1 A.f_Llengths A.d_Llengths P_Llengths (spLlensR K) := by
  refine T.F_Llengths.ok sc_Llengths (fun vs H Q E h => ?_) (fun cdv Ar outer s H vs Q E hr h => ?_)
  · obtain ⟨S, x, _, h, _⟩ := h
    obtain ⟨v, rfl, _⟩ := h.one
    rfl
  · obtain ⟨S, rs, hL, hds, ⟨h6, hk⟩, k⟩ := h
    obtain ⟨v, rfl, hv⟩ := hds.one
    refine ⟨_, (pss_one (ps_ret (pe_callTy call_tupleK (by rfl) T.b_tuple (by decide +kernel) (pa_cons (pe_lc (own := [("_law_row", 1)]) (g := gName 1) (te := tCB (rLenK K) (tCons (tOp (rIx K) (tVar 1) (tC (.int 1))) tNil)) (by rfl) sc_Llengths.nd (pi_any (pv 0)) (blkOk_by (own := [("_law_row", 1)]) (N := N_Llengths) (sc := defScope s_Llengths) (by decide +kernel)) (fun _ _ _ _ _ => (pg_name (i := 1) sc_Llengths.nd rfl (by first | exact Or.inl rfl | exact Or.inr rfl))) (fun _ _ _ _ _ => pts_nil) (fun _ _ _ _ _ => (pe_callB call_lenK (by rfl) T.b_len (by decide +kernel) (pa_cons (pe_ix ix_seq (pv 1) pe_int (fun _ _ => rfl)) pa_nil)))) pa_nil)))), ?_⟩
    show tRet _ _ [some v, none] H
    refine ret_sv hL (sv_is (d := .tuple ((rs.map rowP).map lenQ)) (sv_tuple (k := true) (sv_lcM (K := K) (S := S) (si_l (sv_var rfl hv)) (by rw [List.length_map]; omega) lenQ fun d S' H' v' Q m n hd kk => ?_)) ?_) k
    · obtain ⟨r, mr, rfl⟩ := List.mem_map.mp m
      have e : rowP r = .tuple [.str r.n, .list (r.s.map stpP)] := by unfold rowP; rw [hk r mr]; rfl
      rw [e] at hd kk
      exact kk [some v, some v'] rfl (sv_lenL (sv_ixA (ds := [.str r.n, .list (r.s.map stpP)]) (sv_var rfl hd) sv_int rfl))
    · show PyData.tuple (List.map lenQ (List.map rowP rs)) = PyData.tuple (List.map (fun r => PyData.int (r.s.length : Nat)) rs)
      rw [List.map_map]
      refine congrArg PyData.tuple (List.map_congr_left fun r m => ?_)
      show lenQ (rowP r) = _
      unfold rowP
      rw [hk r m]
      exact congrArg PyData.int (congrArg Int.ofNat (List.length_map ..))
end
end My
set_option Elab.async false
set_option linter.all false
set_option maxRecDepth 100000
namespace My
open PySem PySem.Spec PyProof.Rows L2 TL L2H LamX
/-! ### rows as lists, one step more, one row more -/
section
variable {rs : List Row} {K : PySem.W.Frag}
theorem rowOf_L (r : Row) : rowOf (rowL r) = ⟨r.n, true, r.s⟩ := by
  show (⟨r.n, true, (r.s.map stpP).map stpOf⟩ : Row) = ⟨r.n, true, r.s⟩
  rw [List.map_map]
  have : r.s.map (stpOf ∘ stpP) = r.s.map id := List.map_congr_left fun x _ => stpOf_P x
  rw [this, List.map_id]
theorem rows_backL (hk : ∀ r ∈ rs, r.k = true) : (rs.map rowL).map rowOf = rs := by
  rw [List.map_map]
  have : rs.map (rowOf ∘ rowL) = rs.map id := List.map_congr_left fun r m => by
    show rowOf (rowL r) = r
    rw [rowOf_L, ← hk r m]
  rw [this, List.map_id]
theorem rowP_L (hk : ∀ r ∈ rs, r.k = true) : rs.map rowP = rs.map rowL := List.map_congr_left fun r m => by
  unfold rowP
  rw [hk r m]
  rfl
theorem verdict_L (h : OkT rs) (hk : ∀ r ∈ rs, r.k = true) : verdict (rs.map rowL) = logV rs := by
  have rk : ∀ r ∈ rs, rowD (rowL r) = true ∧ nmD (rowL r) = r.n ∧ innD (rowL r) = r.s.map stpP := fun r m => list_ok (h.name r m)
  have v1 : rowsV (rs.map rowL) = none := rowsV_ok (by rw [List.length_map]; exact h.few) (fun d m => by
    obtain ⟨r, mr, rfl⟩ := List.mem_map.mp m
    exact (rk r mr).1) (by
    rw [List.map_map]
    have : rs.map (nmD ∘ rowL) = rs.map (·.n) := List.map_congr_left fun r m => (rk r m).2.1
    rw [this]
    exact h.nd)
  have v2 : longV (rs.map rowL) = none := by
    unfold longV
    have : ((rs.map rowL).any fun d => decide (20 < (innD d).length)) = false := List.any_eq_false.mpr fun d m => by
      obtain ⟨r, mr, rfl⟩ := List.mem_map.mp m
      rw [(rk r mr).2.2, List.length_map]
      have := h.len r mr
      simp
      omega
    rw [this]
    rfl
  have v3 : ∀ l : List Row, (∀ r ∈ l, r ∈ rs) → stepsV (l.map rowL) = none := fun l => by
    induction l with
    | nil => intro _; rfl
    | cons r l ih =>
      intro hl
      have mr := hl r (List.mem_cons_self ..)
      rw [List.map_cons, stepsV_cons, firstAt_no fun s ms => ?_]
      · exact ih fun x m => hl x (List.mem_cons_of_mem _ m)
      · rw [(rk r mr).2.2] at ms
        obtain ⟨t, mt, rfl⟩ := List.mem_map.mp ms
        rw [h.step r mr t mt]
        rfl
  unfold verdict
  rw [v1, v2, v3 rs fun _ m => m, rows_backL hk]
  rfl
theorem logV_ok (h : LinV rs) (nd : (deeds rs).Nodup) (hs : ∀ w, (false, w) ∈ deeds rs → (true, w) ∈ deeds rs) : logV rs = none := by
  have hn : dupOf [] (deeds rs) = none := dup_no (seen := []) nd
  have hf : (deeds rs).find? (lackD (deeds rs)) = none := List.find?_eq_none.mpr fun d m => by
    obtain ⟨b, w⟩ := d
    unfold lackD
    cases b with
    | true => simp
    | false => simp [hs w m]
  have hdone := lin_done h.lin
  unfold logV messV
  rw [hn]
  dsimp only
  rw [hf]
  exact late_ok _ 0 fun j q e => by rw [Nat.zero_add, hdone j q e]; exact Nat.le_refl _
theorem valid_logV (h : Valid rs) : logV rs = none := logV_ok (valid_linv h) h.once h.sent
theorem late_isL : ∀ {rs : List Row} {i : Nat} {r : Row} {s : Stp}, rs[i]? = some r → (rs.map rowL).take i ++ [.tuple [.str r.n, .list (r.s.map stpP ++ [stpP s])]] ++ (rs.map rowL).drop (i + 1) = (addS rs i s).map rowL
  | q :: rs, 0, r, s, h => by
    cases h
    show PyData.tuple [.str q.n, .list (q.s.map stpP ++ [stpP s])] :: rs.map rowL = rowL (addR q s) :: rs.map rowL
    unfold rowL addR
    rw [List.map_append]
    rfl
  | q :: rs, i + 1, r, s, h => by
    show rowL q :: ((rs.map rowL).take i ++ [.tuple [.str r.n, .list (r.s.map stpP ++ [stpP s])]] ++ (rs.map rowL).drop (i + 1)) = rowL q :: (addS rs i s).map rowL
    rw [late_isL (rs := rs) (i := i) (s := s) (show rs[i]? = some r from h)]
theorem addS_k {i : Nat} {s : Stp} (hk : ∀ r ∈ rs, r.k = true) : ∀ r ∈ addS rs i s, r.k = true := fun r m => by
  rcases addS_mem m with m | ⟨r0, e, rfl⟩
  · exact hk r m
  · exact hk r0 (List.mem_of_getElem? e)
theorem fineL (h : OkT rs) : (∀ d ∈ rs.map rowL, fine d = true) ∧ fine (.list (rs.map rowL)) = true ∧ (PyData.list (rs.map rowL)).depth ≤ 5 ∧ (rs.map rowL).length ≤ 6 := by
  have hf := h.few
  have each : ∀ d ∈ rs.map rowL, fine d = true ∧ d.depth ≤ 4 := fun d m => by
    obtain ⟨r, mr, rfl⟩ := List.mem_map.mp m
    have := row_fine (r := ⟨r.n, true, r.s⟩) (h.name r mr) (Nat.le_trans (h.len r mr) (by decide)) (h.step r mr)
    exact ⟨this.1, this.2.1⟩
  exact ⟨fun d m => (each d m).1, fine_seq (k := true) (by rw [List.length_map]; omega) fun d m => ⟨(each d m).1, Nat.le_trans (each d m).2 (by decide)⟩, depth_seq (k := true) (n := 4) fun d m => (each d m).2, by rw [List.length_map]; exact hf⟩
/-! ### one row more -/
def wide (rs : List Row) (n : Str) : List Row := rs ++ [⟨n, true, []⟩]
theorem deeds_wide (n : Str) : deeds (wide rs n) = deeds rs := by
  unfold deeds wide
  rw [List.flatMap_append]
  exact List.append_nil _
theorem stepAt_wide (n : Str) (i j : Nat) : stepAt (wide rs n) i j = stepAt rs i j := by
  unfold stepAt wide
  by_cases h : i < rs.length
  · rw [List.getElem?_append_left h]
  · rw [List.getElem?_append_right (by omega), List.getElem?_eq_none (by omega : rs.length ≤ i)]
    cases i - rs.length <;> rfl
theorem linv_wide (h : LinV rs) (n : Str) : LinV (wide rs n) := by
  have e : stepAt (wide rs n) = stepAt rs := funext fun i => funext fun j => stepAt_wide n i j
  unfold LinV at h ⊢
  rw [e]
  exact h
theorem wide_okT (h : Valid rs) {n : Str} (h5 : rs.length ≤ 5) (hn : nameD 6 (.str n) = true) (nm : n ∉ rs.map (·.n)) : OkT (wide rs n) := by
  unfold wide
  refine ⟨by rw [List.length_append]; show _ + 1 ≤ 6; omega, fun r m => ?_, ?_, fun r m => ?_, fun r m => ?_⟩
  · rcases List.mem_append.mp m with m | m
    · exact h.name r m
    · rw [List.mem_singleton.mp m]; exact hn
  · rw [List.map_append]
    exact List.nodup_append.mpr ⟨h.nd, by simp, fun x mx y my z => by
      rw [List.map_singleton, List.mem_singleton] at my
      exact nm (by have my : y = n := my; rw [← my, ← z]; exact mx)⟩
  · rcases List.mem_append.mp m with m | m
    · exact h.len r m
    · rw [List.mem_singleton.mp m]; exact Nat.zero_le _
  · rcases List.mem_append.mp m with m | m
    · exact h.step r m
    · rw [List.mem_singleton.mp m]; exact fun _ z => by cases z
theorem wide_logV (h : Valid rs) (n : Str) : logV (wide rs n) = none := logV_ok (linv_wide (valid_linv h) n) (by rw [deeds_wide]; exact h.once) (by rw [deeds_wide]; exact h.sent)
theorem wideR_is (n : Str) : wideR rs (.str n) = (wide rs n).map rowT := by
  unfold wideR wide
  rw [List.map_append]
  rfl
theorem names_any {n : Str} : (rs.map fun r => PyData.str r.n).any (fun z => PyData.eqv z (.str n)) = decide (n ∈ rs.map (·.n)) := by
  rw [Bool.eq_iff_iff, List.any_eq_true, decide_eq_true_iff, List.mem_map]
  constructor
  · rintro ⟨x, mx, e⟩
    obtain ⟨r, mr, rfl⟩ := List.mem_map.mp mx
    exact ⟨r, mr, by simpa [PyData.eqv] using e⟩
  · rintro ⟨r, mr, e⟩
    exact ⟨_, List.mem_map_of_mem mr, by simpa [PyData.eqv] using e⟩
/-! ### the logs that are made -/
variable {cl : Str → Addr} {C cU cI cN cD a : Addr} {S : Sh} {H : Hp} {Q : VK} {E : XK} {v u : V} {i : Nat} {r : Row} {s : Stp}
theorem log_okL (l : Live S H) (h : OkT rs) (hk : ∀ r ∈ rs, r.k = true) (hn : logV rs = none) (hv : Ds K S H v (.list (rs.map rowL))) (q : ∀ b H', Same H H' → LogAt K C S H' b rs → Q (.ref b) H') : spLlogE K cl C [v] H Q E := by
  obtain ⟨f1, f2, _, f4⟩ := fineL h
  refine ⟨S, v, rs.map rowL, rfl, l, hv, by omega, f2, f1, ?_⟩
  unfold wishLog
  rw [verdict_L h hk, hn]
  dsimp only
  rw [rows_backL hk]
  exact q
theorem with_is (l : Live S H) (hl : LogAt K C S H a rs) (hr : rs[i]? = some r) (h20 : r.s.length < 20) (hs : stepD (stpP s) = true) (hv : Ds K S H v (.str r.n)) (hu : Ds K S H u (stpP s))
    (k : match logV (addS rs i s) with | none => ∀ b H', Same H H' → LogAt K C S H' b (addS rs i s) → Q (.ref b) H' | some e => errD K (cl e.1) e.1 (fieldsOf e.1) E e.2 S H) : spWith K cl C cU cI [.ref a, v, u] H Q E := by
  have val := hl.val
  refine ⟨S, a, rs, v, u, _, _, rfl, l, hl, hv, hu, name_fine (val.name r (List.mem_of_getElem? hr)) (by decide), (stp_fine hs).1, ?_⟩
  unfold wishStep
  rw [rowFor_at val.nd hr]
  dsimp only
  rw [if_pos hs, grown_is val.nd hr]
  unfold wishLog
  rw [verdict_T (grow_okT val hr h20 hs)]
  cases e : logV (addS rs i s) with
  | none =>
    rw [e] at k
    dsimp only at k ⊢
    intro b H' s1 h1
    rw [rows_backT] at h1
    exact k b H' s1 h1.untup
  | some e' => rw [e] at k; exact k
theorem wide_is {n : Str} (l : Live S H) (hl : LogAt K C S H a rs) (h5 : rs.length ≤ 5) (hn : nameD 6 (.str n) = true) (nm : n ∉ rs.map (·.n)) (hv : Ds K S H v (.str n)) (k : ∀ b H', Same H H' → LogAt K C S H' b (wide rs n) → Q (.ref b) H') : spProc K cl C cN cD [.ref a, v] H Q E := by
  have val := hl.val
  refine ⟨S, a, rs, v, _, rfl, l, hl, hv, name_fine hn (by decide), ?_⟩
  unfold wishProc
  rw [if_pos hn, names_any, if_neg (by simpa using nm), wideR_is]
  unfold wishLog
  rw [verdict_T (wide_okT val h5 hn nm), wide_logV val]
  dsimp only
  intro b H' s1 h1
  rw [rows_backT] at h1
  exact k b H' s1 h1.untup
theorem lens_deeds {b : Bool} {w : Str} : w ∈ cutWords rs (rs.map fun r => r.s.length) b ↔ (b, w) ∈ deeds rs := by
  rw [mem_cutT, mem_deeds]
  constructor
  · rintro ⟨i, j, s, _, h2, h3⟩
    exact ⟨i, j, s, h2, h3⟩
  · rintro ⟨i, j, s, h2, h3⟩
    obtain ⟨r, e, h4⟩ := stepAt_row h2
    refine ⟨i, j, s, ?_, h2, h3⟩
    rw [List.getD_eq_getElem?_getD, List.getElem?_map, e]
    exact (List.getElem?_eq_some_iff.mp h4).1
end
end My
set_option Elab.async false
set_option linter.all false
set_option maxRecDepth 100000
namespace My
open PySem PySem.Spec PyProof.Rows L2 TL L2H LamX
/-! ### logs as worths -/
theorem seq_te {te : TE} {i : Nat} {tz : TS} {D : Ends} {σ : L2.St} {H : Hp} (h : te σ H fun v H1 => tz D (σ.set i (some v)) H1) : tSeq (tAsg te (gName i)) tz D σ H := h
/-- an item of a tuple that stands there -/
theorem sv_ixR {K : PySem.W.Frag} {S : Sh} {σ : L2.St} {H : Hp} {p : Addr} {xs : List V} {i : Nat} {j : Int} {v : V} {d : PyData} (hi : σ[i]? = some (some (.ref p))) (hp : H p = some (.tup xs)) (he : L2.atI xs j = some v) (hv : Ds K S H v d) : SV K S (tOp (rIx K) (tVar i) (tC (.int j))) σ H d := fun S1 H1 n Q q =>
  ⟨_, hi, .inr (.inl ⟨p, xs, j, v, rfl, rfl, .inl (.inl (n.same _ _ hp)), he, q _ _ (Same.refl _) (hv.now n)⟩)⟩
def SL (K : PySem.W.Frag) (C : Addr) (S : Sh) (ta : TE) (σ : L2.St) (H : Hp) (rs : List Row) : Prop := ∀ S' H', Now S H S' H' → ∀ Q : VK, (∀ a H2, Same H' H2 → LogAt K C S' H2 a rs → Q (.ref a) H2) → ta σ H' Q
section
variable {K : PySem.W.Frag} {cl : Str → Addr} {C cU cI cN cD a : Addr} {S : Sh} {ta tb tc te : TE} {σ : L2.St} {H : Hp} {rs : List Row} {E : XK} {m : Str} {i : Nat} {r : Row} {s : Stp}
theorem sl_var (hi : σ[i]? = some (some (.ref a))) (h : LogAt K C S H a rs) : SL K C S (tVar i) σ H rs := fun S' H' n Q q => ⟨_, hi, q a H' (Same.refl _) (h.now n)⟩
theorem sl_meth {f : List Row → PyData} (h : SL K C S ta σ H rs) (hm : ∀ r o, (fldsL r o).lookup m = none) : SV K S (tMeth C m (spMeth K C f) [] E ta tNil) σ H (f rs) := fun S1 H1 n Q q =>
  h S1 H1 n _ fun a H2 s2 h2 => by
    obtain ⟨dx, r, o, h4, h5, h6, h7⟩ := h2.at_
    exact ⟨a, dx, _, rfl, h5, hm _ _, S1, a, rs, rfl, n.live.same s2, h2, fun v H3 s3 hv => q v H3 (s2.trans s3) hv⟩
theorem sl_ixR {p : Addr} {xs : List V} {j : Int} (hi : σ[i]? = some (some (.ref p))) (hp : H p = some (.tup xs)) (he : L2.atI xs j = some (.ref a)) (hv : LogAt K C S H a rs) : SL K C S (tOp (rIx K) (tVar i) (tC (.int j))) σ H rs := fun S1 H1 n Q q =>
  ⟨_, hi, .inr (.inl ⟨p, xs, j, .ref a, rfl, rfl, .inl (.inl (n.same _ _ hp)), he, q _ _ (Same.refl _) (hv.now n)⟩)⟩
/-- _law_log(rows) -/
theorem sl_log (h : SV K S te σ H (.list (rs.map rowL))) (ok : OkT rs) (hk : ∀ r ∈ rs, r.k = true) (hn : logV rs = none) : SL K C S (tCall (spLlogE K cl C) [] E (tCons te tNil)) σ H rs := fun S1 H1 n Q q =>
  h S1 H1 n _ fun v H2 s2 hv => log_okL (n.live.same s2) ok hk hn hv fun b H3 s3 h3 => q b H3 (s2.trans s3) h3
/-- log.with_step(step=.., process=..) -/
theorem sl_stepN (ha : SL K C S ta σ H rs) (hb : SV K S tb σ H (stpP s)) (hc : SV K S tc σ H (.str r.n)) (val : Valid rs) (hr : rs[i]? = some r) (h20 : r.s.length < 20) (hs : stepD (stpP s) = true) (hn : logV (addS rs i s) = none) :
    SL K C S (tMethN C "with_step" 2 (spWith K cl C cU cI) (fun us ws => List.take 1 (List.drop 0 us) ++ List.take 1 (List.drop 1 ws) ++ List.take 1 (List.drop 0 ws)) E ta (tCons tb (tCons tc tNil))) σ H (addS rs i s) := fun S1 H1 n Q q =>
  ha S1 H1 n _ fun a H2 s2 h2 => by
    obtain ⟨dx, r0, o, h4, h5, h6, h7⟩ := h2.at_
    refine ⟨a, dx, _, rfl, h5, rfl, hb S1 H2 (n.then s2) _ fun u H3 s3 hu => hc S1 H3 ((n.then s2).then s3) _ fun v H4 s4 hv => ⟨rfl, ?_⟩⟩
    refine with_is (i := i) (r := r) (s := s) ((n.live.same s2).same (s3.trans s4)) (h2.same (s3.trans s4)) hr h20 hs hv (hu.same s4) ?_
    rw [hn]
    exact fun b H5 s5 h5 => q b H5 (((s2.trans s3).trans s4).trans s5) h5
/-- log.with_process(name=..), log.with_process(..) -/
theorem sl_procN {n : Str} (ha : SL K C S ta σ H rs) (hb : SV K S tb σ H (.str n)) (h5 : rs.length ≤ 5) (hn : nameD 6 (.str n) = true) (nm : n ∉ rs.map (·.n)) :
    SL K C S (tMethN C "with_process" 1 (spProc K cl C cN cD) (fun us ws => List.take 1 (List.drop 0 us) ++ List.take 1 (List.drop 0 ws)) E ta (tCons tb tNil)) σ H (wide rs n) := fun S1 H1 n Q q =>
  ha S1 H1 n _ fun a H2 s2 h2 => by
    obtain ⟨dx, r0, o, h4, h5', h6, h7⟩ := h2.at_
    exact ⟨a, dx, _, rfl, h5', rfl, hb S1 H2 (n.then s2) _ fun u H3 s3 hu => ⟨rfl, wide_is ((n.live.same s2).same s3) (h2.same s3) h5 hn nm hu fun b H4 s4 h4 => q b H4 ((s2.trans s3).trans s4) h4⟩⟩
theorem sl_proc {n : Str} (ha : SL K C S ta σ H rs) (hb : SV K S tb σ H (.str n)) (h5 : rs.length ≤ 5) (hn : nameD 6 (.str n) = true) (nm : n ∉ rs.map (·.n)) :
    SL K C S (tMeth C "with_process" (spProc K cl C cN cD) [] E ta (tCons tb tNil)) σ H (wide rs n) := fun S1 H1 n Q q =>
  ha S1 H1 n _ fun a H2 s2 h2 => by
    obtain ⟨dx, r0, o, h4, h5', h6, h7⟩ := h2.at_
    exact ⟨a, dx, _, rfl, h5', rfl, hb S1 H2 (n.then s2) _ fun u H3 s3 hu => wide_is ((n.live.same s2).same s3) (h2.same s3) h5 hn nm hu fun b H4 s4 h4 => q b H4 ((s2.trans s3).trans s4) h4⟩
/-- a != b of like logs -/
theorem sv_neL (ha : SL K C S ta σ H rs) (hb : SL K C S tb σ H rs) : SV K S (tOp (rOwn C (spEq (LogEq K C)) E fun c => !c) ta tb) σ H (.bool false) := fun S1 H1 n Q q =>
  ha S1 H1 n _ fun a H2 s2 h2 => hb S1 H2 (n.then s2) _ fun b H3 s3 h3 => by
    have h2 := h2.same s3
    obtain ⟨dx, r0, o, h4, h5, h6, h7⟩ := h2.at_
    obtain ⟨dy, r1, o1, k4, k5, k6, k7⟩ := h3.at_
    exact ⟨a, b, dx, dy, _, _, rfl, rfl, h5, k5, a, b, rfl, ⟨S1, rs, (n.live.same s2).same s3, h2, h3⟩, fun H4 s4 => ⟨true, rfl, q _ _ ((s2.trans s3).trans s4) (.bl _)⟩⟩
theorem sv_eqL (ha : SL K C S ta σ H rs) (hb : SL K C S tb σ H rs) : SV K S (tOp (rEqG (DIns C (LogEq K C))) ta tb) σ H (.bool true) := fun S1 H1 n Q q =>
  ha S1 H1 n _ fun a H2 s2 h2 => hb S1 H2 (n.then s2) _ fun b H3 s3 h3 => by
    have h2 := h2.same s3
    obtain ⟨dx, r0, o, h4, h5, h6, h7⟩ := h2.at_
    obtain ⟨dy, r1, o1, k4, k5, k6, k7⟩ := h3.at_
    exact ⟨⟨a, b, dx, dy, _, _, rfl, rfl, h5, k5, ⟨S1, rs, (n.live.same s2).same s3, h2, h3⟩⟩, fun H4 s4 => q _ _ ((s2.trans s3).trans s4) (.bl _)⟩
/-- len(log) -/
theorem sl_len (ha : SL K C S ta σ H rs) (h : (lastO rs).od.length ≤ 5000) : SV K S (tCB (fun xs H Q => ∃ a dx fs, xs = [.ref a] ∧ H a = some (.ins C dx fs) ∧ spMeth K C (fun rs => .int ((lastO rs).od.length : Nat)) ([.ref a] ++ []) H (fun v H' => (∃ n : Int, v = .int n ∧ 0 ≤ n ∧ n < 2 ^ 63) ∧ Q v H') E) (tCons ta tNil)) σ H (.int ((lastO rs).od.length : Nat)) := fun S1 H1 n Q q =>
  ha S1 H1 n _ fun a H2 s2 h2 => by
    obtain ⟨dx, r0, o, h4, h5, h6, h7⟩ := h2.at_
    exact ⟨a, dx, _, rfl, h5, S1, a, rs, rfl, n.live.same s2, h2, fun v H3 s3 hv => ⟨⟨_, hv.i, by omega, by omega⟩, q v H3 (s2.trans s3) hv⟩⟩
end
/-! ### what is due -/
def faultP : Option Fault → PyData
  | none => .tuple [.str "told", .none]
  | some e => .tuple [.str e.1, .tuple e.2]
def dueV (rs : List Row) : Option (Bool × Str) → Option Fault
  | none => none
  | some (b, w) => if (b, w) ∈ deeds rs then some (("DuplicateMessage" : Str), [PyData.str w]) else if b = false ∧ (true, w) ∉ deeds rs then some (("Unsent" : Str), [PyData.str w]) else none
theorem dueV_is {rs : List Row} {i : Nat} {r : Row} {s : Stp} (hv : Valid rs) (hr : rs[i]? = some r) : logV (addS rs i s) = dueV rs s.d := by
  cases e : s.d with
  | none => exact grow_fine hv hr (fun d z => by rw [e] at z; cases z) fun w z => by rw [e] at z; cases z
  | some d =>
    obtain ⟨b, w⟩ := d
    unfold dueV
    dsimp only
    split
    · rename_i m
      exact grow_dup hv hr e m
    · rename_i m
      split
      · rename_i z
        obtain ⟨rfl, z⟩ := z
        exact grow_lack hv hr e m z
      · rename_i z
        refine grow_fine hv hr (fun d y => by rw [e] at y; cases y; exact m) fun w' y => ?_
        rw [e] at y
        cases y
        exact Classical.byContradiction fun x => z ⟨rfl, x⟩
theorem due_kinds {rs : List Row} {od : Option (Bool × Str)} {e : Fault} (h : dueV rs od = some e) : ∃ b w, od = some (b, w) ∧ (e = (("DuplicateMessage" : Str), [PyData.str w]) ∨ e = (("Unsent" : Str), [PyData.str w])) := by
  cases od with
  | none => cases h
  | some d =>
    obtain ⟨b, w⟩ := d
    unfold dueV at h
    dsimp only at h
    split at h
    · cases h; exact ⟨b, w, rfl, .inl rfl⟩
    · split at h
      · cases h; exact ⟨b, w, rfl, .inr rfl⟩
      · cases h
section
variable {K : PySem.W.Frag} {S : Sh} {σ : L2.St} {H : Hp} {rs : List Row} {D : Ends} {tr : TS} {v5 v16 v17 v19 : V} {od : Option (Bool × Str)} {sw gw : List Str}
abbrev tDueA (K : PySem.W.Frag) : TT := tAnd (tTest (tOp (fun x y H Q => y = V.non ∧ Q (V.bl !decide (x = V.non)) H) (tVar 5) (tC V.non))) (tOr (tAnd (tTest (tOp rEq (tOp (rIx K) (tVar 5) (tC (V.int 0))) (tC (V.str "send")))) (tTest (tOp (rInD K) (tOp (rIx K) (tVar 5) (tC (V.int 1))) (tVar 16)))) (tAnd (tTest (tOp rEq (tOp (rIx K) (tVar 5) (tC (V.int 0))) (tC (V.str "receive")))) (tTest (tOp (rInD K) (tOp (rIx K) (tVar 5) (tC (V.int 1))) (tVar 17)))))
abbrev tDueB (K : PySem.W.Frag) : TT := tAnd (tTest (tOp (fun x y H Q => y = V.non ∧ Q (V.bl !decide (x = V.non)) H) (tVar 5) (tC V.non))) (tAnd (tTest (tOp rEq (tOp (rIx K) (tVar 5) (tC (V.int 0))) (tC (V.str "receive")))) (tTest (tOp (rNotInD K) (tOp (rIx K) (tVar 5) (tC (V.int 1))) (tVar 16))))
abbrev tDueW (K : PySem.W.Frag) (x : Str) : TS := tAsg (tTup (tCons (tC (V.str x)) (tCons (tTup (tCons (tOp (rIx K) (tVar 5) (tC (V.int 1))) tNil)) tNil))) (gName 19)
theorem due_run (l : Live S H) (e5 : σ[5]? = some (some v5)) (e16 : σ[16]? = some (some v16)) (e17 : σ[17]? = some (some v17)) (e19 : σ[19]? = some (some v19)) (h5 : Ds K S H v5 (deedP od)) (h16 : Ds K S H v16 (.list (sw.map PyData.str))) (h17 : Ds K S H v17 (.list (gw.map PyData.str))) (h19 : Ds K S H v19 (faultP none))
    (hs : ∀ w, w ∈ sw ↔ (true, w) ∈ deeds rs) (hg : ∀ w, w ∈ gw ↔ (false, w) ∈ deeds rs) (fs : fine (.list (sw.map PyData.str)) = true) (fg : fine (.list (gw.map PyData.str)) = true) (fw : ∀ b w, od = some (b, w) → fine (.str w) = true)
    (q : ∀ v H', Same H H' → Live S H' → Ds K S H' v (faultP (dueV rs od)) → tr D (σ.set 19 (some v)) H') : tSeq (tIfS (tDueA K) (tDueW K "DuplicateMessage") (tIfS (tDueB K) (tDueW K "Unsent") tNext)) tr D σ H := by
  have keep : σ.set 19 (some v19) = σ := by
    obtain ⟨hlt, he⟩ := List.getElem?_eq_some_iff.mp e19
    rw [← he, List.set_getElem_self]
  cases od with
  | none =>
    refine seq_if (S := S) (b := false) l (sb_is (sb_and (b := false) (c := false) (sb_test (sv_notN (K := K) (sv_var e5 h5))) fun z => Bool.noConfusion z) rfl) (fun z => Bool.noConfusion z) fun _ H1 s1 l1 => ?_
    refine if_sb (S := S) (b := false) l1 (sb_is (sb_and (b := false) (c := false) (sb_test (sv_notN (K := K) (sv_var e5 (h5.same s1)))) fun z => Bool.noConfusion z) rfl) (fun z => Bool.noConfusion z) fun _ H2 s2 l2 => ?_
    have := q v19 H2 (s1.trans s2) l2 (h19.same (s1.trans s2))
    rw [keep] at this
    exact this
  | some d =>
    obtain ⟨b, w⟩ := d
    have h5 : Ds K S H v5 (.tuple [.str (kindS b), .str w]) := h5
    have hw := fw b w rfl
    have kT : ∀ H', Same H H' → SV K S (tOp (rIx K) (tVar 5) (tC (V.int 0))) σ H' (.str (kindS b)) := fun H' s => sv_ixA (ds := [.str (kindS b), .str w]) (sv_var e5 (h5.same s)) sv_int rfl
    have wT : ∀ H', Same H H' → SV K S (tOp (rIx K) (tVar 5) (tC (V.int 1))) σ H' (.str w) := fun H' s => sv_ixA (ds := [.str (kindS b), .str w]) (sv_var e5 (h5.same s)) sv_int rfl
    have r0 := Same.refl H
    have e1 : (true && (decide (kindS b = "send") && ((sw.map PyData.str).any fun z => PyData.eqv z (.str w)) || decide (kindS b = "receive") && ((gw.map PyData.str).any fun z => PyData.eqv z (.str w)))) = decide ((b, w) ∈ deeds rs) := by
      rw [any_names, any_names, Bool.true_and]
      have d1 : decide (w ∈ sw) = decide ((true, w) ∈ deeds rs) := decide_eq_decide.mpr (hs w)
      have d2 : decide (w ∈ gw) = decide ((false, w) ∈ deeds rs) := decide_eq_decide.mpr (hg w)
      rw [d1, d2]
      cases b with
      | true =>
        rw [show decide (kindS true = "send") = true by decide +kernel, show decide (kindS true = "receive") = false by decide +kernel, Bool.true_and, Bool.false_and, Bool.or_false]
      | false =>
        rw [show decide (kindS false = "send") = false by decide +kernel, show decide (kindS false = "receive") = true by decide +kernel, Bool.true_and, Bool.false_and, Bool.false_or]
    refine seq_if (S := S) (b := decide ((b, w) ∈ deeds rs)) l (sb_is (sb_and (b := true) (sb_test (sv_notN (K := K) (sv_var e5 h5))) fun _ => sb_or (sb_and (sb_test (sv_eqS (kT H r0) sv_str)) fun _ => sb_test (sv_inD (wT H r0) (sv_var e16 h16) hw fs)) fun _ => sb_and (sb_test (sv_eqS (kT H r0) sv_str)) fun _ => sb_test (sv_inD (wT H r0) (sv_var e17 h17) hw fg)) e1) (fun z H1 s1 l1 => ?_) fun z H1 s1 l1 => ?_
    · have z := of_decide_eq_true z
      refine set_sv (K := K) (S := S) (d := .tuple [.str "DuplicateMessage", .tuple [.str w]]) l1 (sv_tup (sa_cons sv_str (sa_cons (sv_tup (sa_cons (wT H1 s1) sa_nil) rfl) sa_nil)) rfl) fun v H2 s2 l2 hv => q v H2 (s1.trans s2) l2 ?_
      unfold dueV
      dsimp only
      rw [if_pos z]
      exact hv
    · have z := of_decide_eq_false z
      have e2 : (true && (decide (kindS b = "receive") && !((sw.map PyData.str).any fun z => PyData.eqv z (.str w)))) = decide (b = false ∧ (true, w) ∉ deeds rs) := by
        rw [any_names, Bool.true_and, show decide (w ∈ sw) = decide ((true, w) ∈ deeds rs) from decide_eq_decide.mpr (hs w)]
        cases b with
        | true => rw [show decide (kindS true = "receive") = false by decide +kernel]; simp
        | false => rw [show decide (kindS false = "receive") = true by decide +kernel]; simp
      refine if_sb (S := S) (b := decide (b = false ∧ (true, w) ∉ deeds rs)) l1 (sb_is (sb_and (b := true) (sb_test (sv_notN (K := K) (sv_var e5 (h5.same s1)))) fun _ => sb_and (sb_test (sv_eqS (kT H1 s1) sv_str)) fun _ => sb_test (sv_notInD (wT H1 s1) (sv_var e16 (h16.same s1)) hw fs)) e2) (fun y H2 s2 l2 => ?_) fun y H2 s2 l2 => ?_
      · have y := of_decide_eq_true y
        refine set_sv (K := K) (S := S) (d := .tuple [.str "Unsent", .tuple [.str w]]) l2 (sv_tup (sa_cons sv_str (sa_cons (sv_tup (sa_cons (wT H2 (s1.trans s2)) sa_nil) rfl) sa_nil)) rfl) fun v H3 s3 l3 hv => q v H3 ((s1.trans s2).trans s3) l3 ?_
        unfold dueV
        dsimp only
        rw [if_neg z, if_pos y]
        exact hv
      · have y := of_decide_eq_false y
        have := q v19 H2 (s1.trans s2) l2 (by unfold dueV; dsimp only; rw [if_neg z, if_neg y]; exact h19.same (s1.trans s2))
        rw [keep] at this
        exact this
end
end My
set_option Elab.async false
set_option linter.all false
set_option maxRecDepth 100000
namespace My
open PySem PySem.Spec PyProof.Rows L2 TL L2H LamX
abbrev tWst (K : PySem.W.Frag) (A : Top) (E : XK) (ta tb tc : TE) : TE := tMeth A.c_Log "with_step" (spWith K (clA A) A.c_Log A.c_UnknownProcess A.c_InvalidStep) [] E ta (tCons tb (tCons tc tNil))
abbrev tWpr (K : PySem.W.Frag) (A : Top) (E : XK) (ta tb : TE) : TE := tMeth A.c_Log "with_process" (spProc K (clA A) A.c_Log A.c_InvalidName A.c_DuplicateName) [] E ta (tCons tb tNil)
abbrev tIx (K : PySem.W.Frag) (te : TE) (i : Int) : TE := tOp (rIx K) te (tC (.int i))
abbrev tGrA (K : PySem.W.Frag) : TT := tAnd (tTest (tOp rNe (tIx K (tVar 19) 0) (tC (V.str "told")))) (tNot (tB (tCall (spSameLt K 9) [] E0 (tCons (tVar 6) (tCons (tVar 19) tNil)))))
abbrev tLate (K : PySem.W.Frag) : TE := tOp rCat (tOp rCat (tSl (rSlL K) (tVar 4) tNoPart (tPart (tVar 13))) (tLst (tCons (tTup (tCons (tVar 14) (tCons (tOp rCat (tIx K (tOp (rIx K) (tVar 4) (tVar 13)) 1) (tLst (tCons (tVar 18) tNil))) tNil))) tNil))) (tSl (rSlL K) (tVar 4) (tPart (tOp (rI0 fun i j => V.int (i + j)) (tVar 13) (tC (V.int 1)))) tNoPart)
abbrev tGrB (K : PySem.W.Frag) (A : Top) : TT := tAnd (tTest (tOp rEq (tIx K (tVar 19) 0) (tC (V.str "told")))) (tOr (tTest (tOp rNe (tIx K (tVar 6) 0) (tC (V.str "told")))) (tOr (tNot (tB (tCall (spSameLt K 9) [] E0 (tCons (tMeth A.c_Log "rows" (spMeth K A.c_Log fun rs => PyData.list (List.map rowL rs)) [] E0 (tIx K (tVar 6) 1) tNil) (tCons (tVar 7) tNil)))))
  (tTest (tOp (rOwn A.c_Log (spEq (LogEq K A.c_Log)) E0 fun c => !c) (tMethN A.c_Log "with_step" 2 (spWith K (clA A) A.c_Log A.c_UnknownProcess A.c_InvalidStep) (fun us ws => List.take 1 (List.drop 0 us) ++ List.take 1 (List.drop 1 ws) ++ List.take 1 (List.drop 0 ws)) E0 (tVar 12) (tCons (tVar 18) (tCons (tVar 14) tNil))) (tCall (spLlogE K (clA A) A.c_Log) [] E0 (tCons (tVar 7) tNil))))))
theorem wst_go {K : PySem.W.Frag} {A : Top} {S : Sh} {H : Hp} {Q : VK} {E : XK} {σ : L2.St} {tb tc : TE} {i : Nat} {a : Addr} {rs : List Row} {d e : PyData} (l : Live S H) (hi : σ[i]? = some (some (.ref a))) (h : LogAt K A.c_Log S H a rs) (hb : SV K S tb σ H d) (hc : SV K S tc σ H e)
    (q : ∀ v u H', Same H H' → Live S H' → LogAt K A.c_Log S H' a rs → Ds K S H' v d → Ds K S H' u e → spWith K (clA A) A.c_Log A.c_UnknownProcess A.c_InvalidStep [.ref a, v, u] H' Q E) : tWst K A E (tVar i) tb tc σ H Q := by
  obtain ⟨dx, r0, o, h4, h5, h6, h7⟩ := h.at_
  exact ⟨_, hi, a, dx, _, rfl, h5, rfl, hb S H (Now.refl l) _ fun v H1 s1 hv => hc S H1 (Now.of l s1) _ fun u H2 s2 hu => q v u H2 (s1.trans s2) ((l.same s1).same s2) (h.same (s1.trans s2)) (hv.same s2) hu⟩
theorem wpr_go {K : PySem.W.Frag} {A : Top} {S : Sh} {H : Hp} {Q : VK} {E : XK} {σ : L2.St} {tb : TE} {i : Nat} {a : Addr} {rs : List Row} {d : PyData} (l : Live S H) (hi : σ[i]? = some (some (.ref a))) (h : LogAt K A.c_Log S H a rs) (hb : SV K S tb σ H d)
    (q : ∀ v H', Same H H' → Live S H' → LogAt K A.c_Log S H' a rs → Ds K S H' v d → spProc K (clA A) A.c_Log A.c_InvalidName A.c_DuplicateName [.ref a, v] H' Q E) : tWpr K A E (tVar i) tb σ H Q := by
  obtain ⟨dx, r0, o, h4, h5, h6, h7⟩ := h.at_
  exact ⟨_, hi, a, dx, _, rfl, h5, rfl, hb S H (Now.refl l) _ fun v H1 s1 hv => q v H1 s1 (l.same s1) (h.same s1) hv⟩
section
variable {X : Cx} {A : Top} {B : BagId} {Pt : Addr} {t : LamT} {H : Hp} {D : Ends} {tr : TS} {rs : List Row} {i : Nat} {r : Row} {s : Stp} {la : Addr} {v4 v18 v19 : V} {x0 x1 x2 x3 x5 x6 x7 x8 x9 x10 x11 x15 x16 x17 x20 x21 x22 : Option V}
theorem grown_run (T : TopOk X.K X.mg A) (hB : Bag B H) (tab : Tb Pt H) (hlog : LogAt X.K A.c_Log (SP2 B Pt) H la rs) (hk : ∀ r ∈ rs, r.k = true) (hr : rs[i]? = some r) (h20 : r.s.length < 20) (hs : stepD (stpP s) = true)
    (h4 : Ds X.K (SP2 B Pt) H v4 (.list (rs.map rowL))) (h18 : Ds X.K (SP2 B Pt) H v18 (stpP s)) (h19 : Ds X.K (SP2 B Pt) H v19 (faultP (dueV rs s.d)))
    (q : ∀ x6 x7 H', Moved B Pt H H' → tr D [x0, x1, x2, x3, some v4, x5, x6, x7, x8, x9, x10, x11, some (.ref la), some (.int (i : Nat)), some (.str r.n), x15, x16, x17, some v18, some v19, x20, x21, x22] H') :
    tSeq (tAsg (tGotL X A t (fun E2 => tWst X.K A E2 (tVar 12) (tVar 14) (tVar 18)) (tLam0 t X [(Pt, qL)] Pt)) (gName 6)) (tSeq (tIfS (tGrA X.K) (tRet (tC (V.bl false))) tNext) (tSeq (tAsg (tLate X.K) (gName 7)) (tSeq (tIfS (tGrB X.K A) (tRet (tC (V.bl false))) tNext) tr))) D
      [x0, x1, x2, x3, some v4, x5, x6, x7, x8, x9, x10, x11, some (.ref la), some (.int (i : Nat)), some (.str r.n), x15, x16, x17, some v18, some v19, x20, x21, x22] H := by
  have val := hlog.val
  have okT := val.okT
  have hn := val.name r (List.mem_of_getElem? hr)
  have ok' := grow_okT val hr h20 hs
  have hk' : ∀ q ∈ addS rs i s, q.k = true := addS_k hk
  have hdue : logV (addS rs i s) = dueV rs s.d := dueV_is val hr
  have f4 := (fineL okT).2.2.2
  have lateV_ : ∀ (y6 y7 : Option V) (H' : Hp), Ds X.K (SP2 B Pt) H' v4 (.list (rs.map rowL)) → Ds X.K (SP2 B Pt) H' v18 (stpP s) → SV X.K (SP2 B Pt) (tLate X.K) [x0, x1, x2, x3, some v4, x5, y6, y7, x8, x9, x10, x11, some (.ref la), some (.int (i : Nat)), some (.str r.n), x15, x16, x17, some v18, some v19, x20, x21, x22] H' (.list ((addS rs i s).map rowL)) := fun y6 y7 H' g4 g18 => by
    have b1 : (cutD (rs.map rowL) none (some ((i : Nat) : Int))).length ≤ 6 := Nat.le_trans (cutD_len _ _ _) f4
    have b2 : (cutD (rs.map rowL) (some (((i : Nat) : Int) + 1)) none).length ≤ 6 := Nat.le_trans (cutD_len _ _ _) f4
    refine sv_is (sv_cat (sv_cat (sv_slL (sv_var (i := 4) rfl g4) sp_no (sp_some (sv_vi (i := 13) (j := ((i : Nat) : Int)) rfl))) (sv_lst (sa_cons (sv_tup (sa_cons (sv_vs (i := 14) (j := r.n) rfl) (sa_cons (sv_cat (sv_ixA (ds := [.str r.n, .list (r.s.map stpP)]) (sv_ixL (sv_var (i := 4) rfl g4) (sv_vi (i := 13) (j := ((i : Nat) : Int)) rfl) (atI_of (j := i) (x := rowL r) (by rw [List.getElem?_map, hr]; rfl))) sv_int rfl) (sv_lst (sa_cons (sv_var (i := 18) rfl g18) sa_nil) rfl) (by rw [List.length_map]; show _ + 1 ≤ 5000; omega)) sa_nil)) rfl) sa_nil) rfl) (by show _ + 1 ≤ 5000; omega)) (sv_slL (sv_var (i := 4) rfl g4) (sp_some (sv_add (sv_vi (i := 13) (j := ((i : Nat) : Int)) rfl) sv_int)) sp_no) (by rw [List.length_append]; show _ + 1 + _ ≤ 5000; omega)) ?_
    rw [show ((i : Nat) : Int) + 1 = ((i + 1 : Nat) : Int) by omega, cutD_to, cutD_from, late_isL hr]
  refine seq_te (got_lam (X := X) (A := A) hB tab fun E2 Q2 H1 m1 hE hQ => ?_)
  have l1 := live2 m1.2.1 m1.2.2
  have h41 := h4.byX m1.1
  have h181 := h18.byX m1.1
  have h191 := h19.byX m1.1
  refine wst_go l1 rfl (hlog.byX m1.1) (sv_vs (i := 14) (j := r.n) rfl) (sv_var (i := 18) rfl h181) fun v u H2 s2 l2 hlog2 hv hu => with_is l2 hlog2 hr h20 hs hv hu ?_
  cases ev : dueV rs s.d with
  | none =>
    rw [ev] at h191
    rw [hdue, ev]
    dsimp only
    intro b H3 s3 h3
    refine hQ _ _ ⟨sz (by show 2 ≤ 100000; decide), fun p np => ?_⟩
    have s4 := same_upd np (o := .tup [.str "told", .ref b])
    have hp : (upd H3 p (.tup [.str "told", .ref b])) p = some (.tup [.str "told", .ref b]) := upd_same
    have s14 := (s2.trans s3).trans s4
    have h3 := h3.same s4
    have l4 := ((l1.same s2).same s3).same s4
    have hlog4 := (hlog2.same s3).same s4
    generalize upd H3 p (.tup [.str "told", .ref b]) = H4 at s4 hp s14 h3 l4 hlog4 ⊢
    have h44 := h41.same s14
    have h184 := h181.same s14
    have h194 : Ds X.K (SP2 B Pt) H4 v19 (.tuple [.str "told", .none]) := h191.same s14
    dsimp only [gName, List.set]
    refine seq_skip (S := SP2 B Pt) l4 (sb_is (sb_and (b := false) (c := false) (sb_test (sv_is (sv_neS (sv_ixA (ds := [.str "told", .none]) (sv_var (i := 19) rfl h194) sv_int rfl) sv_str) (congrArg PyData.bool (by decide +kernel)))) fun z => Bool.noConfusion z) rfl) fun H5 s5 l5 => ?_
    refine set_sv (K := X.K) (S := SP2 B Pt) l5 (lateV_ _ _ H5 (h44.same s5) (h184.same s5)) fun v7 H6 s6 l6 h7 => ?_
    dsimp only [gName, List.set]
    have s46 := s5.trans s6
    have h196 := h194.same s46
    have hp6 := s46 _ _ hp
    have h36 := h3.same s46
    have hlog6 := hlog4.same s46
    have h186 := h184.same s46
    have hno : logV (addS rs i s) = none := hdue.trans ev
    obtain ⟨f1, f2, f3, _⟩ := fineL ok'
    refine seq_skip (S := SP2 B Pt) l6 (sb_is (sb_and (b := true) (c := false) (sb_test (sv_is (sv_eqS (sv_ixA (ds := [.str "told", .none]) (sv_var (i := 19) rfl h196) sv_int rfl) sv_str) (congrArg PyData.bool (by decide +kernel)))) fun _ => sb_is (sb_or (b := false) (c := false) (sb_test (sv_is (sv_neS (sv_ixR (i := 6) rfl hp6 rfl (.str "told")) sv_str) (congrArg PyData.bool (by decide +kernel)))) fun _ => sb_is (sb_or (b := false) (c := false) (sb_is (sb_not (sb_val (sv_same (n := 8) (sl_meth (f := fun rs => PyData.list (rs.map rowL)) (sl_ixR (i := 6) rfl hp6 rfl h36) (fun _ _ => rfl)) (sv_var (i := 7) rfl h7) (by omega) (fine_small f2)))) rfl) fun _ => sb_test (sv_neL (sl_stepN (i := i) (r := r) (sl_var (i := 12) rfl hlog6) (sv_var (i := 18) rfl h186) (sv_vs (i := 14) (j := r.n) rfl) val hr h20 hs hno) (sl_log (sv_var (i := 7) rfl h7) ok' hk' hno))) rfl) rfl) rfl) fun H7 s7 l7 => ?_
    exact q _ _ H7 ⟨m1.1.trans (XS.of ((s14.trans s46).trans s7)), m1.2.1.ext ((s14.trans s46).trans s7), m1.2.2.same ((s14.trans s46).trans s7)⟩
  | some e =>
    obtain ⟨b, w, ed, kinds⟩ := due_kinds ev
    have hw := (stp_inv hs).2.2.2 b w ed
    have hwl : w.length ≤ 100 := by have := (name_inv hw).2.2; omega
    rw [ev] at h191
    rw [hdue, ev]
    dsimp only
    have fin : ∀ code : Str, e = (code, [PyData.str w]) → ErrC X.K (caughtC A) (clA A code) code (fieldsOf code) → 1 = (fieldsOf code).length → code.length ≤ 100 → code ≠ "told" → errD X.K (clA A e.1) e.1 (fieldsOf e.1) E2 e.2 (SP2 B Pt) H2 := fun code ee ec he hcl hct => by
      subst ee
      have hsz : (PyData.tuple [.str code, .tuple [.str w]]).depth ≤ 8 ∧ small (PyData.tuple [.str code, .tuple [.str w]]) = true := by
        refine ⟨of_decide_eq_true (by kernel_rfl), ?_⟩
        simp only [small, smallAll]
        rw [decide_eq_true (show code.length ≤ 5000 by omega), decide_eq_true (show w.length ≤ 5000 by omega)]
        kernel_rfl
      refine got_err l2 ec he hE fun u H3 s3 hu => ?_
      have s13 := s2.trans s3
      have l3 := l2.same s3
      have h193 : Ds X.K (SP2 B Pt) H3 v19 (.tuple [.str code, .tuple [.str w]]) := h191.same s13
      dsimp only [gName, List.set]
      refine seq_skip (S := SP2 B Pt) l3 (sb_is (sb_and (b := true) (c := false) (sb_test (sv_is (sv_neS (sv_ixA (ds := [.str code, .tuple [.str w]]) (sv_var (i := 19) rfl h193) sv_int rfl) sv_str) (by rw [decide_eq_false hct]; rfl))) fun _ => sb_is (sb_not (sb_val (sv_same (n := 8) (sv_var (i := 6) rfl hu) (sv_var (i := 19) rfl h193) hsz.1 hsz.2))) rfl) rfl) fun H4 s4 l4 => ?_
      have s14 := s13.trans s4
      refine set_sv (K := X.K) (S := SP2 B Pt) l4 (lateV_ _ _ H4 (h41.same s14) (h181.same s14)) fun v7 H5 s5 l5 h7 => ?_
      dsimp only [gName, List.set]
      refine seq_skip (S := SP2 B Pt) l5 (sb_is (sb_and (b := false) (c := false) (sb_test (sv_is (sv_eqS (sv_ixA (ds := [.str code, .tuple [.str w]]) (sv_var (i := 19) rfl ((h193.same s4).same s5)) sv_int rfl) sv_str) (by rw [decide_eq_false hct]))) fun z => Bool.noConfusion z) rfl) fun H6 s6 l6 => ?_
      exact q _ _ H6 ⟨m1.1.trans (XS.of ((s14.trans s5).trans s6)), m1.2.1.ext ((s14.trans s5).trans s6), m1.2.2.same ((s14.trans s5).trans s6)⟩
    rcases kinds with ee | ee
    · exact fin _ ee (errC_mess T) fl_all.2.2.1 (by decide) ne_told.2.2.1
    · exact fin _ ee (errC_sent T) fl_all.2.2.2.1 (by decide) ne_told.2.2.2.1
end
end My
set_option Elab.async false
set_option linter.all false
set_option maxRecDepth 100000
namespace My
open PySem PySem.Spec PyProof.Rows L2 TL L2H LamX
/-! ### classes -/
section
variable {K : PySem.W.Frag} {mg : Str → Option Value} {A : Top}
theorem errC_unk (T : TopOk K mg A) : ErrC K (caughtC A) A.c_UnknownProcess "UnknownProcess" ["name"] := ⟨T.X_UnknownProcess.field, of_decide_eq_true T.em_UnknownProcess, fun n m => noB_at T.no_UnknownProcess m, by decide +kernel⟩
theorem errC_inv (T : TopOk K mg A) : ErrC K (caughtC A) A.c_InvalidName "InvalidName" ["value"] := ⟨T.X_InvalidName.field, of_decide_eq_true T.em_InvalidName, fun n m => noB_at T.no_InvalidName m, by decide +kernel⟩
theorem errC_stp (T : TopOk K mg A) : ErrC K (caughtC A) A.c_InvalidStep "InvalidStep" ["process", "index"] := ⟨T.X_InvalidStep.field, of_decide_eq_true T.em_InvalidStep, fun n m => noB_at T.no_InvalidStep m, by decide +kernel⟩
theorem errC_dup (T : TopOk K mg A) : ErrC K (caughtC A) A.c_DuplicateName "DuplicateName" ["name"] := ⟨T.X_DuplicateName.field, of_decide_eq_true T.em_DuplicateName, fun n m => noB_at T.no_DuplicateName m, by decide +kernel⟩
end
/-! ### odd names, wrong steps -/
def odd2 : List PyData := oddsD ++ [.str "abcdefg", .str "none"]
def odd1 : List PyData := oddsD ++ [.str "abcdefg"]
def wrong5 : List PyData := [.none, .str "x", .tuple [.str "x", .int 0], .tuple [.str "x", .int 100, .none], .list [.str "x", .int 0, .none]]
theorem odd2_ok : ∀ d ∈ odd2, fine d = true ∧ d.depth ≤ 2 ∧ ∀ n ∈ lawNames, PyData.eqv (.str n) d = false := by decide +kernel
theorem odd1_ok : ∀ d ∈ odd1, fine d = true ∧ d.depth ≤ 2 ∧ nameD 6 d = false := by decide +kernel
theorem wrong5_ok : ∀ d ∈ wrong5, fine d = true ∧ d.depth ≤ 2 ∧ stepD d = false := by decide +kernel
theorem fresh_ok : nameD 6 (.str "fresh") = true ∧ ("fresh" : Str) ∉ lawNames := by decide +kernel
section
variable {rs : List Row} {K : PySem.W.Frag} {cl : Str → Addr} {C cU cI cN cD a : Addr} {S : Sh} {H : Hp} {Q : VK} {E : XK} {v u : V} {i : Nat} {r : Row} {s : Stp} {d e : PyData} {B : BagId} {tb te : TE} {A : Top} {σ : L2.St}
theorem od_tot (h : Valid rs) : (lastO rs).od.length = (rs.map fun r => r.s.length).sum := by
  have g := (last_good rs).1
  rw [g.odl]
  refine congrArg List.sum (List.ext_getElem? fun i => ?_)
  by_cases hi : i < rs.length
  · have e : rs[i]? = some rs[i] := List.getElem?_eq_getElem hi
    have hd := lin_done (valid_linv h).lin i _ e
    rw [List.getD_eq_getElem?_getD, List.getElem?_eq_getElem (by rw [g.pl]; exact hi)] at hd
    rw [List.getElem?_map, e, List.getElem?_eq_getElem (by rw [g.pl]; exact hi)]
    exact congrArg some hd
  · rw [List.getElem?_eq_none (by rw [g.pl]; omega), List.getElem?_eq_none (by rw [List.length_map]; omega)]
theorem with_unk (l : Live S H) (hl : LogAt K C S H a rs) (hd : ∀ r ∈ rs, PyData.eqv (.str r.n) d = false) (fd : fine d = true) (fe : fine e = true) (hv : Ds K S H v d) (hu : Ds K S H u e) (k : errD K cU "UnknownProcess" ["name"] E [d] S H) : spWith K cl C cU cI [.ref a, v, u] H Q E := by
  refine ⟨S, a, rs, v, u, d, e, rfl, l, hl, hv, hu, fd, fe, ?_⟩
  have : rowFor rs d = none := List.find?_eq_none.mpr fun r m z => by
    unfold nmIs at z
    rw [hd r m] at z
    cases z
  unfold wishStep
  rw [this]
  exact k
theorem with_inv (l : Live S H) (hl : LogAt K C S H a rs) (hr : rs[i]? = some r) (he : stepD e = false) (fe : fine e = true) (hv : Ds K S H v (.str r.n)) (hu : Ds K S H u e) (k : errD K cI "InvalidStep" ["process", "index"] E [.str r.n, .int (r.s.length : Nat)] S H) : spWith K cl C cU cI [.ref a, v, u] H Q E := by
  have val := hl.val
  refine ⟨S, a, rs, v, u, _, e, rfl, l, hl, hv, hu, name_fine (val.name r (List.mem_of_getElem? hr)) (by decide), fe, ?_⟩
  unfold wishStep
  rw [rowFor_at val.nd hr]
  dsimp only
  rw [if_neg (by rw [he]; decide)]
  exact k
theorem proc_dup {n : Str} (l : Live S H) (hl : LogAt K C S H a rs) (hn : n ∈ rs.map (·.n)) (hv : Ds K S H v (.str n)) (k : errD K cD "DuplicateName" ["name"] E [.str n] S H) : spProc K cl C cN cD [.ref a, v] H Q E := by
  obtain ⟨r, mr, rfl⟩ := List.mem_map.mp hn
  have nn := hl.val.name r mr
  refine ⟨S, a, rs, v, _, rfl, l, hl, hv, name_fine nn (by decide), ?_⟩
  unfold wishProc
  rw [if_pos nn, names_any, if_pos (by simpa using hn)]
  exact k
theorem proc_inv (l : Live S H) (hl : LogAt K C S H a rs) (fd : fine d = true) (hd : nameD 6 d = false) (hv : Ds K S H v d) (k : errD K cN "InvalidName" ["value"] E [d] S H) : spProc K cl C cN cD [.ref a, v] H Q E := by
  refine ⟨S, a, rs, v, d, rfl, l, hl, hv, fd, ?_⟩
  unfold wishProc
  rw [if_neg (by rw [hd]; decide)]
  exact k
/-- log.with_process(_law_odd(bag, ['abcdefg'])) -/
theorem proc_draw {E0' : XK} (l : Live S H) (hS : S B.p) (hB : Bag B H) (e1 : σ[1]? = some (some (.ref B.p))) (e12 : σ[12]? = some (some (.ref a))) (hl : LogAt K A.c_Log S H a rs) (k : drawE K B A.c_InvalidName "InvalidName" ["value"] E (fun ds => ∃ d, ds = [d] ∧ d ∈ odd1) S H) :
    tWpr K A E (tVar 12) (tCall (spOddA K) [] E0' (tCons (tVar 1) (tCons (tLst (tCons (tC (.str "abcdefg")) tNil)) tNil))) σ H Q := by
  obtain ⟨dx, r0, o, h4, h5, h6, h7⟩ := hl.at_
  have hls : SV K S (tLst (tCons (tC (.str "abcdefg")) tNil)) σ H (.list [.str "abcdefg"]) := sv_lst (sa_cons sv_str sa_nil) rfl
  refine ⟨_, e12, a, dx, _, rfl, h5, rfl, _, e1, hls S H (Now.refl l) _ fun u H1 s1 hu => ⟨S, B, u, [.str "abcdefg"], rfl, l.same s1, hS, hB.ext s1, hu, by decide, fun v d H2 md hB2 x2 hv => ?_⟩⟩
  have md : d ∈ odd1 := md
  obtain ⟨f1, f2, f3⟩ := odd1_ok d md
  have hx := XS.ext x2 hS
  have l2 : Live S H2 := fun b z => by
    obtain ⟨o, eo⟩ := (l.same s1) b z
    by_cases y : b = B.p
    · rw [y]; exact hB2.there
    · exact ⟨o, x2 _ _ eo y⟩
  exact proc_inv l2 ((hl.same s1).byX hx) f1 f3 hv fun us H3 s3 hu => k [d] us H3 ⟨d, rfl, md⟩ (((Ext.of s1).trans x2).trans (Ext.of s3)) (hB2.ext s3) hu
end
/-! ### the two great logs -/
def fullR : List Row := [⟨"a", true, List.replicate 20 ⟨"x", 0, none⟩⟩, ⟨"b", true, []⟩]
def sixR : List Row := (["a", "b", "c", "d", "e", "f"] : List Str).map fun n => ⟨n, true, []⟩
def stX0 : PyData := .tuple [.str "x", .int 0, .none]
def stY0 : PyData := .tuple [.str "y", .int 1, .none]
theorem full_v : verdict (fullR.map rowL) = none ∧ (fullR.map rowL).map rowOf = fullR ∧ verdict (sixR.map rowL) = none ∧ (sixR.map rowL).map rowOf = sixR := by refine ⟨?_, ?_, ?_, ?_⟩ <;> kernel_rfl
theorem full_f : (∀ d ∈ fullR.map rowL, fine d = true) ∧ fine (.list (fullR.map rowL)) = true ∧ (∀ d ∈ sixR.map rowL, fine d = true) ∧ fine (.list (sixR.map rowL)) = true := by decide +kernel
theorem full_1 : rowFor fullR (.str "a") = some ⟨"a", true, List.replicate 20 ⟨"x", 0, none⟩⟩ ∧ rowFor fullR (.str "b") = some ⟨"b", true, []⟩ := by refine ⟨?_, ?_⟩ <;> kernel_rfl
theorem full_2 : verdict (grown fullR (.str "a") stX0) = some (("TooMany" : Str), [PyData.str "steps", PyData.int 20]) := by kernel_rfl
theorem full_3 : verdict (grown fullR (.str "b") stY0) = none := by kernel_rfl
theorem full_4 : (lastO ((grown fullR (.str "b") stY0).map rowOf)).od.length ≤ 5000 := by decide +kernel
theorem six_1 : verdict (wideR sixR (.str "g")) = some (("TooMany" : Str), [PyData.str "processes", PyData.int 6]) := by kernel_rfl
theorem six_2 : nameD 6 (.str "g") = true ∧ nameD 6 (.str "A") = false ∧ ("g" : Str) ∉ sixR.map (·.n) ∧ ("a" : Str) ∈ sixR.map (·.n) ∧ stepD stX0 = true ∧ stepD stY0 = true ∧ fine stX0 = true ∧ fine stY0 = true := by decide +kernel
end My
set_option Elab.async false
set_option linter.all false
set_option maxRecDepth 100000
namespace My
open PySem PySem.Spec PyProof.Rows L2 TL L2H LamX
/-- a, b = .., ..: both at hand -/
theorem tup2_end {K : PySem.W.Frag} {σ : L2.St} {H : Hp} {x y : V} {i j : Nat} {Q : L2.St → Hp → Prop} (k : ∀ H', Same H H' → Q ((σ.set i (some x)).set j (some y)) H') : [x, y].length ≤ sizeLine ∧ ∀ p, H p = none → gTup K 2 (gCons (gName i) (gCons (gName j) gNil)) (.ref p) σ (upd H p (.tup [x, y])) Q :=
  ⟨sz (by show 2 ≤ 100000; decide), fun p np => ⟨p, _, rfl, .inl (.inl upd_same), rfl, x, _, rfl, y, _, rfl, rfl, k _ (same_upd np)⟩⟩
def deedL (sw : List Str) : List PyData := [.none, .tuple [.str "send", .str "zz"], .tuple [.str "receive", .str "zz"]] ++ sw.map (fun w => .tuple [.str "receive", .str w]) ++ sw.map fun w => .tuple [.str "send", .str w]
theorem deedL_ok {sw : List Str} (h : ∀ w ∈ sw, nameD 4 (.str w) = true) {d : PyData} (m : d ∈ deedL sw) : ∃ od : Option (Bool × Str), d = deedP od ∧ ∀ b w, od = some (b, w) → nameD 4 (.str w) = true := by
  have zz : nameD 4 (.str "zz") = true := by decide +kernel
  rcases List.mem_append.mp m with m | m
  · rcases List.mem_append.mp m with m | m
    · rcases List.mem_cons.mp m with rfl | m
      · exact ⟨none, rfl, fun b w e => by cases e⟩
      · rcases List.mem_cons.mp m with rfl | m
        · exact ⟨some (true, "zz"), rfl, fun b w e => by cases e; exact zz⟩
        · rw [List.mem_singleton.mp m]
          exact ⟨some (false, "zz"), rfl, fun b w e => by cases e; exact zz⟩
    · obtain ⟨w, mw, rfl⟩ := List.mem_map.mp m
      exact ⟨some (false, w), rfl, fun b w' e => by cases e; exact h w mw⟩
  · obtain ⟨w, mw, rfl⟩ := List.mem_map.mp m
    exact ⟨some (true, w), rfl, fun b w' e => by cases e; exact h w mw⟩
abbrev lensN (rs : List Row) : List Nat := rs.map fun r => r.s.length
theorem len_tot {r : Row} : ∀ {rs : List Row}, r ∈ rs → r.s.length ≤ tot rs
  | x :: rs, m => by
    unfold tot
    rw [List.map_cons, List.sum_cons]
    rcases List.mem_cons.mp m with rfl | m
    · omega
    · have := len_tot m
      unfold tot at this
      omega
theorem cutW_at {rs : List Row} (val : Valid rs) {b : Bool} {w : Str} (m : w ∈ cutWords rs (lensN rs) b) : nameD 4 (.str w) = true := by
  obtain ⟨i, j, s, hs, e⟩ := mem_deeds.mp (lens_deeds.mp m)
  obtain ⟨r, h1, h2⟩ := stepAt_row hs
  exact (stp_inv (val.step r (List.mem_of_getElem? h1) s (List.mem_of_getElem? h2))).2.2.2 b w e
theorem cutW_len {rs : List Row} (val : Valid rs) (b : Bool) : (cutWords rs (lensN rs) b).length ≤ 120 := by
  have := cut_len (pl := lensN rs) (b := b) val.len rs.length
  have h2 := val.few
  have h3 : (cutWords rs (lensN rs) b).length ≤ 20 * rs.length := this
  omega
theorem cutW_fine {rs : List Row} (val : Valid rs) (b : Bool) : fine (.list ((cutWords rs (lensN rs) b).map PyData.str)) = true := fine_seq (k := true) (by rw [List.length_map]; have := cutW_len val b; omega) fun d m => by
  obtain ⟨w, mw, rfl⟩ := List.mem_map.mp m
  exact ⟨name_fine (cutW_at val mw) (by decide), by simp [PyData.depth]⟩
def lensT (rs : List Row) : PyData := .tuple (rs.map fun r => PyData.int (r.s.length : Nat))
theorem lensT_is (rs : List Row) : lensT rs = ptP (lensN rs) := by
  unfold lensT ptP
  rw [List.map_map]
  rfl
theorem tup2_go {ta tb : TE} {g : TG} {tr : TS} {D : Ends} {σ : L2.St} {H : Hp} (h : ta σ H fun x H1 => tb σ H1 fun y H2 => [x, y].length ≤ sizeLine ∧ ∀ p, H2 p = none → g (.ref p) σ (upd H2 p (.tup [x, y])) fun σ' H' => tr D σ' H') : tSeq (tAsg (tTup (tCons ta (tCons tb tNil))) g) tr D σ H := h
theorem call1_go {sp : Sp} {te : TE} {E : XK} {σ : L2.St} {H : Hp} {Q : VK} (h : te σ H fun v H1 => sp [v] H1 Q E) : tCall sp [] E (tCons te tNil) σ H Q := h
theorem sum_int : ∀ rs : List Row, (rs.map fun r => ((r.s.length : Nat) : Int)).sum = (((rs.map fun r => r.s.length).sum : Nat) : Int)
  | [] => rfl
  | r :: rs => by
    rw [List.map_cons, List.sum_cons, List.map_cons, List.sum_cons, sum_int rs]
    omega
theorem why_fine {code : Str} {ds : List PyData} (hc : fine (.str code) = true) (hl : ds.length ≤ 5) (h : ∀ d ∈ ds, fine d = true ∧ d.depth ≤ 2) : fine (.tuple [.str code, .tuple ds]) = true ∧ (PyData.tuple [.str code, .tuple ds]).depth ≤ 4 := by
  have f1 : fine (.tuple ds) = true := fine_seq (k := false) (by omega) fun d m => ⟨(h d m).1, Nat.le_trans (h d m).2 (by decide)⟩
  have d1 : (PyData.tuple ds).depth ≤ 3 := depth_seq (k := false) (n := 2) fun d m => (h d m).2
  refine ⟨fine_seq (k := false) (by show 2 ≤ 5000; decide) fun d md => ?_, depth_seq (k := false) (n := 3) fun d md => ?_⟩
  · rcases List.mem_cons.mp md with rfl | md
    · exact ⟨hc, by simp [PyData.depth]⟩
    · rw [List.mem_singleton.mp md]; exact ⟨f1, by omega⟩
  · rcases List.mem_cons.mp md with rfl | md
    · simp [PyData.depth]
    · rw [List.mem_singleton.mp md]; exact d1
theorem int_fine (k : Nat) (h : k ≤ 5000) : fine (.int (k : Nat)) = true := rfl
theorem whys_sz {rn_ : Str} {k : Nat} {d : PyData} (rn : nameD 6 (.str rn_) = true) (hk : k ≤ 5000) (o1 : fine d = true) (o2 : d.depth ≤ 2) : (PyData.list [.tuple [.str "UnknownProcess", .tuple [d]], .tuple [.str "InvalidStep", .tuple [.str rn_, .int (k : Nat)]], .tuple [.str "DuplicateName", .tuple [.str rn_]]]).depth ≤ 8 ∧ small (PyData.list [.tuple [.str "UnknownProcess", .tuple [d]], .tuple [.str "InvalidStep", .tuple [.str rn_, .int (k : Nat)]], .tuple [.str "DuplicateName", .tuple [.str rn_]]]) = true := by
  have hn := name_fine rn (by decide)
  have z := int_fine k hk
  have each : ∀ x ∈ [PyData.tuple [.str "UnknownProcess", .tuple [d]], .tuple [.str "InvalidStep", .tuple [.str rn_, .int (k : Nat)]], .tuple [.str "DuplicateName", .tuple [.str rn_]]], fine x = true ∧ x.depth ≤ 4 := fun x m => by
    rcases List.mem_cons.mp m with rfl | m
    · exact why_fine (by decide +kernel) (by show 1 ≤ 5; decide) fun y my => by rw [List.mem_singleton.mp my]; exact ⟨o1, o2⟩
    · rcases List.mem_cons.mp m with rfl | m
      · exact why_fine (by decide +kernel) (by show 2 ≤ 5; decide) fun y my => by
          rcases List.mem_cons.mp my with rfl | my
          · exact ⟨hn, by simp [PyData.depth]⟩
          · rw [List.mem_singleton.mp my]; exact ⟨z, by simp [PyData.depth]⟩
      · rw [List.mem_singleton.mp m]
        exact why_fine (by decide +kernel) (by show 1 ≤ 5; decide) fun y my => by rw [List.mem_singleton.mp my]; exact ⟨hn, by simp [PyData.depth]⟩
  exact ⟨Nat.le_trans (depth_seq (k := true) (n := 4) fun x m => (each x m).2) (by decide), fine_small (fine_seq (k := true) (by show 3 ≤ 5000; decide) fun x m => ⟨(each x m).1, Nat.le_trans (each x m).2 (by decide)⟩)⟩
theorem wide_sz {rs rs' : List Row} (h : OkT rs) (h' : OkT rs') (k : Nat) (hk : k ≤ 5000) : (PyData.list [.list (rs'.map rowL), .bool true, .list (rs.map rowL), .int (k : Nat)]).depth ≤ 8 ∧ small (PyData.list [.list (rs'.map rowL), .bool true, .list (rs.map rowL), .int (k : Nat)]) = true := by
  obtain ⟨_, a2, a3, _⟩ := fineL h
  obtain ⟨_, b2, b3, _⟩ := fineL h'
  have z := int_fine k hk
  have each : ∀ x ∈ [PyData.list (rs'.map rowL), .bool true, .list (rs.map rowL), .int (k : Nat)], fine x = true ∧ x.depth ≤ 5 := fun x m => by
    rcases List.mem_cons.mp m with rfl | m
    · exact ⟨b2, b3⟩
    · rcases List.mem_cons.mp m with rfl | m
      · exact ⟨by decide, by simp [PyData.depth]⟩
      · rcases List.mem_cons.mp m with rfl | m
        · exact ⟨a2, a3⟩
        · rw [List.mem_singleton.mp m]; exact ⟨z, by simp [PyData.depth]⟩
  exact ⟨Nat.le_trans (depth_seq (k := true) (n := 5) fun x m => (each x m).2) (by decide), fine_small (fine_seq (k := true) (by show 4 ≤ 5000; decide) fun x m => ⟨(each x m).1, Nat.le_trans (each x m).2 (by decide)⟩)⟩
abbrev tWstLen (K : PySem.W.Frag) (A : Top) (E : XK) (ta tb tc : TE) : TE := tCB (fun xs H Q => ∃ a dx fs, xs = [.ref a] ∧ H a = some (.ins A.c_Log dx fs) ∧ spMeth K A.c_Log (fun rs => .int ((lastO rs).od.length : Nat)) ([.ref a] ++ []) H (fun v H' => (∃ n : Int, v = .int n ∧ 0 ≤ n ∧ n < 2 ^ 63) ∧ Q v H') E) (tCons (tWst K A E ta tb tc) tNil)
section
variable {K : PySem.W.Frag} {A : Top} {S : Sh} {H : Hp} {Q : VK} {E : XK} {a : Addr} {v u : V}
theorem full_many (l : Live S H) (hl : LogAt K A.c_Log S H a fullR) (hv : Ds K S H v (.str "a")) (hu : Ds K S H u stX0) (k : errD K (clA A "TooMany") "TooMany" (fieldsOf "TooMany") E [.str "steps", .int 20] S H) : spWith K (clA A) A.c_Log A.c_UnknownProcess A.c_InvalidStep [.ref a, v, u] H Q E := by
  refine ⟨S, a, fullR, v, u, _, _, rfl, l, hl, hv, hu, by decide +kernel, six_2.2.2.2.2.2.2.1, ?_⟩
  unfold wishStep
  rw [full_1.1]
  dsimp only
  rw [if_pos six_2.2.2.2.2.1]
  unfold wishLog
  rw [full_2]
  exact k
theorem full_len (l : Live S H) (hl : LogAt K A.c_Log S H a fullR) (hv : Ds K S H v (.str "b")) (hu : Ds K S H u stY0) (q : ∀ w H', Same H H' → Q w H') : spWith K (clA A) A.c_Log A.c_UnknownProcess A.c_InvalidStep [.ref a, v, u] H (fun x H1 => ∃ b dx fs, [x] = [V.ref b] ∧ H1 b = some (.ins A.c_Log dx fs) ∧ spMeth K A.c_Log (fun rs => .int ((lastO rs).od.length : Nat)) ([.ref b] ++ []) H1 (fun v H' => (∃ n : Int, v = .int n ∧ 0 ≤ n ∧ n < 2 ^ 63) ∧ Q v H') E) E := by
  refine ⟨S, a, fullR, v, u, _, _, rfl, l, hl, hv, hu, by decide +kernel, six_2.2.2.2.2.2.2.2, ?_⟩
  unfold wishStep
  rw [full_1.2]
  dsimp only
  rw [if_pos six_2.2.2.2.2.2.1]
  unfold wishLog
  rw [full_3]
  dsimp only
  intro b H' s hb
  obtain ⟨dx, r0, o, h4, h5, h6, h7⟩ := hb.at_
  exact ⟨b, dx, _, rfl, h5, S, b, _, rfl, l.same s, hb, fun w H2 s2 hw => ⟨⟨_, hw.i, by omega, by have := full_4; omega⟩, q w H2 (s.trans s2)⟩⟩
theorem six_many (l : Live S H) (hl : LogAt K A.c_Log S H a sixR) (hv : Ds K S H v (.str "g")) (k : errD K (clA A "TooMany") "TooMany" (fieldsOf "TooMany") E [.str "processes", .int 6] S H) : spProc K (clA A) A.c_Log A.c_InvalidName A.c_DuplicateName [.ref a, v] H Q E := by
  refine ⟨S, a, sixR, v, _, rfl, l, hl, hv, by decide +kernel, ?_⟩
  unfold wishProc
  rw [if_pos six_2.1, names_any, if_neg (by rw [decide_eq_true_iff]; exact six_2.2.2.1)]
  unfold wishLog
  rw [six_1]
  exact k
end
section
variable {P : Program} {w : World} {K : PySem.W.Frag} {mg : Str → Option Value} {base : Heap} {A : Top}
set_option maxHeartbeats 3000000 in
theorem ok_law (T : TopOk K mg A) {c Pt : Addr} (hc : A.d_law.code = .ref c) (TB : TabB base mg c Pt) : FnOk P w K mg base CX0 26 A.f_law A.d_law P_law (spLaw K Pt) := by
  have G_Lbag : FnOk P w K mg base CX0 1 A.f_Lbag A.d_Lbag P_Lbag (spBag K) := ok_Lbag T
  have G_Ldraw : FnOk P w K mg base CX0 1 A.f_Ldraw A.d_Ldraw P_Ldraw spDraw := ok_Ldraw T
  have G_Lof : FnOk P w K mg base CX0 2 A.f_Lof A.d_Lof P_Lof (spOf K) := ok_Lof T
  have G_Lodd : FnOk P w K mg base CX0 3 A.f_Lodd A.d_Lodd P_Lodd (spOddA K) := ok_Lodd T
  have G_Lrows : FnOk P w K mg base CX0 4 A.f_Lrows A.d_Lrows P_Lrows (spLrows K) := ok_Lrows T
  have G_Llengths : FnOk P w K mg base CX0 1 A.f_Llengths A.d_Llengths P_Llengths (spLlensR K) := ok_Llengths T
  have G_Ldeeds : FnOk P w K mg base CX0 1 A.f_Ldeeds A.d_Ldeeds P_Ldeeds (spLdeeds K) := ok_Ldeeds T
  have G_Lstep : FnOk P w K mg base CX0 3 A.f_Lstep A.d_Lstep P_Lstep (spStep K) := ok_Lstep T
  have G_Lsame : FnOk P w K mg base CX0 9 A.f_Lsame A.d_Lsame P_Lsame (spSameLt K 9) := ok_Lsame T 9
  have G_i_Log : FnR P w K mg base (L2N.CX P w) 8 A.f_i_Log (spInit K (clA A) A.c_Log) := ok_init T (clA_of A)
  have G_Llog : FnOk P w K mg base (L2N.CX P w) 10 A.f_Llog A.d_Llog P_Llog (spLlogE K (clA A) A.c_Log) := ok_LlogE T (clA_of A)
  have G_Log_rows : FnOk P w K mg base CX0 1 A.f_Log_rows A.d_Log_rows P_Log_rows (spMeth K A.c_Log fun rs => .list (rs.map rowL)) := ok_rows T
  have G_Log_len : FnOk P w K mg base CX0 1 A.f_Log_len A.d_Log_len P_Log_len (spMeth K A.c_Log fun rs => .int ((lastO rs).od.length : Nat)) := ok_Log_len T
  have G_Log_eq : FnOk P w K mg base CX0 1 A.f_Log_eq A.d_Log_eq P_Log_eq (spEq (LogEq K A.c_Log)) := ok_eq T
  have G_Log_with_step : FnOk P w K mg base (L2N.CX P w) 10 A.f_Log_with_step A.d_Log_with_step P_Log_with_step (spWith K (clA A) A.c_Log A.c_UnknownProcess A.c_InvalidStep) := ok_with_step T (clA_of A)
  have G_Log_with_process : FnOk P w K mg base (L2N.CX P w) 10 A.f_Log_with_process A.d_Log_with_process P_Log_with_process (spProc K (clA A) A.c_Log A.c_InvalidName A.c_DuplicateName) := ok_with_process T (clA_of A)
  refine fun_okC T.F_law sc_law (fun vs H Q E h => ?_) (fun cdv Ar outer s H vs Q E ec hr h => ?_)
  · obtain ⟨a, ns, rfl, _⟩ := h
    rfl
  · obtain ⟨a, ns, rfl, hS, hl, hP, q⟩ := h
    obtain rfl : cdv = .ref c := ec.symm.trans hc
    have OC : OwnCells (cxOf CX0 P w K mg base N_law "law" (defScope s_law) A.f_law (.ref c) Ar outer s H E).nox := ⟨rfl, rfl, fun p m => (cells_above (defScope s_law).names (s.heap.objs.size + 1) [] (fun _ h => by cases h) p m).elim id (fun h => by cases h), rfl⟩
    have ND : ((cxOf CX0 P w K mg base N_law "law" (defScope s_law) A.f_law (.ref c) Ar outer s H E).nox.env.cells.map (·.1)).Nodup := nd_cells (names := (defScope s_law).names) (n := s.heap.objs.size + 1) (by decide +kernel)
    refine ⟨_, (pss_cons (ps_set (i := 1) sc_law.nd rfl (by first | exact Or.inl rfl | exact Or.inr rfl) (pe_call G_Lbag (hr.mono (by decide)) (by rfl) T.g_Lbag T.F_Lbag.kp T.a_Lbag .nil pass0 (pa_cons (pv 0) pa_nil)))
      (pss_cons (ps_for PassesOwn.never rfl (pi_range1 (by rfl) T.b_range (pa_cons pe_int pa_nil)) (pg_name (i := 2) sc_law.nd rfl (by first | exact Or.inl rfl | exact Or.inr rfl))
      (pss_cons (ps_set (i := 4) sc_law.nd rfl (by first | exact Or.inl rfl | exact Or.inr rfl) (pe_call G_Lrows (hr.mono (by decide)) (by rfl) T.g_Lrows T.F_Lrows.kp T.a_Lrows .nil pass0 (pa_cons (pv 1) (pa_cons (pe_op op_add pe_int (pe_call G_Ldraw (hr.mono (by decide)) (by rfl) T.g_Ldraw T.F_Ldraw.kp T.a_Ldraw .nil pass0 (pa_cons (pv 1) (pa_cons pe_int pa_nil)))) (pa_cons pe_int pa_nil)))))
      (pss_cons (ps_asg (pe_tup (pa_cons (pe_call (E := E0) G_Llog (hr.mono (by decide)) (by rfl) T.g_Llog T.F_Llog.kp T.a_Llog .nil passN0 (pa_cons (pv 4) pa_nil)) (pa_cons (pe_call G_Ldraw (hr.mono (by decide)) (by rfl) T.g_Ldraw T.F_Ldraw.kp T.a_Ldraw .nil pass0 (pa_cons (pv 1) (pa_cons (pe_callB call_len (by rfl) T.b_len (by decide +kernel) (pa_cons (pv 4) pa_nil)) pa_nil))) pa_nil))) (pg_tup rfl (pgs_cons (pg_name (i := 12) sc_law.nd rfl (by first | exact Or.inl rfl | exact Or.inr rfl)) (pgs_cons (pg_name (i := 13) sc_law.nd rfl (by first | exact Or.inl rfl | exact Or.inr rfl)) pgs_nil))))
      (pss_cons (ps_asg (pe_tup (pa_cons (pe_ix ix_seq (pe_ix ix_seq (pv 4) (pv 13) (fun _ _ => rfl)) pe_int (fun _ _ => rfl)) (pa_cons (pe_call G_Llengths (hr.mono (by decide)) (by rfl) T.g_Llengths T.F_Llengths.kp T.a_Llengths .nil pass0 (pa_cons (pv 4) pa_nil)) pa_nil))) (pg_tup rfl (pgs_cons (pg_name (i := 14) sc_law.nd rfl (by first | exact Or.inl rfl | exact Or.inr rfl)) (pgs_cons (pg_name (i := 15) sc_law.nd rfl (by first | exact Or.inl rfl | exact Or.inr rfl)) pgs_nil))))
      (pss_cons (ps_par (i := 16) (j := 17) (by rfl) sc_law.nd rfl rfl (by decide) rfl rfl (pa_cons (pe_call G_Ldeeds (hr.mono (by decide)) (by rfl) T.g_Ldeeds T.F_Ldeeds.kp T.a_Ldeeds .nil pass0 (pa_cons (pv 4) (pa_cons (pv 15) (pa_cons pe_str pa_nil)))) (pa_cons (pe_call G_Ldeeds (hr.mono (by decide)) (by rfl) T.g_Ldeeds T.F_Ldeeds.kp T.a_Ldeeds .nil pass0 (pa_cons (pv 4) (pa_cons (pv 15) (pa_cons pe_str pa_nil)))) pa_nil)) (by rfl))
      (pss_cons (ps_set (i := 5) sc_law.nd rfl (by first | exact Or.inl rfl | exact Or.inr rfl) (pe_call G_Lof (hr.mono (by decide)) (by rfl) T.g_Lof T.F_Lof.kp T.a_Lof .nil pass0 (pa_cons (pv 1) (pa_cons (pe_op L2.op_cat (pe_op L2.op_cat (pe_lst (pa_cons pe_non (pa_cons (pe_tup (pa_cons pe_str (pa_cons pe_str pa_nil))) (pa_cons (pe_tup (pa_cons pe_str (pa_cons pe_str pa_nil))) pa_nil)))) (pe_lc (own := [("_law_one", 22)]) (g := gName 22) (by rfl) sc_law.nd (pi_any (pv 16)) (blkOk_by (own := [("_law_one", 22)]) (N := N_law) (sc := defScope s_law) (by decide +kernel)) (fun _ _ _ _ _ => (pg_name (i := 22) sc_law.nd rfl (by first | exact Or.inl rfl | exact Or.inr rfl))) (fun _ _ _ _ _ => pts_nil) (fun _ _ _ _ _ => (pe_tup (pa_cons pe_str (pa_cons (pv 22) pa_nil)))))) (pe_lc (own := [("_law_one", 22)]) (g := gName 22) (by rfl) sc_law.nd (pi_any (pv 16)) (blkOk_by (own := [("_law_one", 22)]) (N := N_law) (sc := defScope s_law) (by decide +kernel)) (fun _ _ _ _ _ => (pg_name (i := 22) sc_law.nd rfl (by first | exact Or.inl rfl | exact Or.inr rfl))) (fun _ _ _ _ _ => pts_nil) (fun _ _ _ _ _ => (pe_tup (pa_cons pe_str (pa_cons (pv 22) pa_nil)))))) pa_nil))))
      (pss_cons (ps_asg (pe_tup (pa_cons (pe_call G_Lstep (hr.mono (by decide)) (by rfl) T.g_Lstep T.F_Lstep.kp T.a_Lstep .nil pass0 (pa_cons (pv 1) (pa_cons (pv 5) pa_nil))) (pa_cons (pe_tup (pa_cons pe_str (pa_cons pe_non pa_nil))) pa_nil))) (pg_tup rfl (pgs_cons (pg_name (i := 18) sc_law.nd rfl (by first | exact Or.inl rfl | exact Or.inr rfl)) (pgs_cons (pg_name (i := 19) sc_law.nd rfl (by first | exact Or.inl rfl | exact Or.inr rfl)) pgs_nil))))
      (pss_cons (ps_if (PW.pt (pw_and (pt_cmpR op_notN (pv 5) pe_non (nomark _)) (pw_and1 (PW.pt (pw_or (PW.pt (pw_and (pt_cmpR op_eq (pe_ix ix_seq (pv 5) pe_int (fun _ _ => rfl)) pe_str (nomark _)) (pw_and1 (pt_cmpR (L2.op_inD (hu65 hr)) (pe_ix ix_seq (pv 5) pe_int (fun _ _ => rfl)) (pv 16) (by rfl))))) (pw_or1 (PW.pt (pw_and (pt_cmpR op_eq (pe_ix ix_seq (pv 5) pe_int (fun _ _ => rfl)) pe_str (nomark _)) (pw_and1 (pt_cmpR (L2.op_inD (hu65 hr)) (pe_ix ix_seq (pv 5) pe_int (fun _ _ => rfl)) (pv 17) (by rfl)))))))))))
      (pss_one (ps_set (i := 19) sc_law.nd rfl (by first | exact Or.inl rfl | exact Or.inr rfl) (pe_tup (pa_cons pe_str (pa_cons (pe_tup (pa_cons (pe_ix ix_seq (pv 5) pe_int (fun _ _ => rfl)) pa_nil)) pa_nil)))))
      (pss_one (ps_if (PW.pt (pw_and (pt_cmpR op_notN (pv 5) pe_non (nomark _)) (pw_and (pt_cmpR op_eq (pe_ix ix_seq (pv 5) pe_int (fun _ _ => rfl)) pe_str (nomark _)) (pw_and1 (pt_cmpR (L2.op_notInD (hu65 hr)) (pe_ix ix_seq (pv 5) pe_int (fun _ _ => rfl)) (pv 16) (by rfl))))))
      (pss_one (ps_set (i := 19) sc_law.nd rfl (by first | exact Or.inl rfl | exact Or.inr rfl) (pe_tup (pa_cons pe_str (pa_cons (pe_tup (pa_cons (pe_ix ix_seq (pv 5) pe_int (fun _ _ => rfl)) pa_nil)) pa_nil)))))
      pss_nil)))
      (pss_cons (ps_set (i := 6) sc_law.nd rfl (by first | exact Or.inl rfl | exact Or.inr rfl) (pe_gotL (k := 12) (A := A) (tb := fun E2 => tWst K A E2 (tVar 12) (tVar 14) (tVar 18)) T (hr.mono (by decide)) OC ND (by rfl) (pe_lamA (T := [(Pt, qL)]) TB rfl (.head _) (fun p hp _ => by cases List.mem_singleton.mp hp; rfl) (lamC_by (by show lamCB (defScope s_law) _ = true; decide +kernel)) rfl) (fun f E2 A2 l2 s2 H2 c' hr3 => (pe_meth (E := E2) (pv 12) T.cl_Log T.me_Log_with_step G_Log_with_step (hr3.mono (by decide)) T.a_Log_with_step .nil lam_pass (pa_cons (pv 14) (pa_cons (pv 18) pa_nil)))) (by show (N_law.all _) = true; decide +kernel) (by show lamCB (defScope s_law) _ = true; decide +kernel) (fun _ _ _ => rfl)))
      (pss_cons (ps_if (PW.pt (pw_and (pt_cmpR op_ne (pe_ix ix_seq (pv 19) pe_int (fun _ _ => rfl)) pe_str (nomark _)) (pw_and1 (pt_not (pt_val (pe_call G_Lsame (hr.mono (by decide)) (by rfl) T.g_Lsame T.F_Lsame.kp T.a_Lsame .nil pass0 (pa_cons (pv 6) (pa_cons (pv 19) pa_nil))))))))
      (pss_one (ps_ret pe_bl))
      pss_nil)
      (pss_cons (ps_set (i := 7) sc_law.nd rfl (by first | exact Or.inl rfl | exact Or.inr rfl) (pe_op L2.op_cat (pe_op L2.op_cat (pe_slice sl_list (pv 4) po_none (po_some (pv 13))) (pe_lst (pa_cons (pe_tup (pa_cons (pv 14) (pa_cons (pe_op L2.op_cat (pe_ix ix_seq (pe_ix ix_seq (pv 4) (pv 13) (fun _ _ => rfl)) pe_int (fun _ _ => rfl)) (pe_lst (pa_cons (pv 18) pa_nil))) pa_nil))) pa_nil))) (pe_slice sl_list (pv 4) (po_some (pe_op op_add (pv 13) pe_int)) po_none)))
      (pss_cons (ps_if (PW.pt (pw_and (pt_cmpR op_eq (pe_ix ix_seq (pv 19) pe_int (fun _ _ => rfl)) pe_str (nomark _)) (pw_and1 (PW.pt (pw_or (pt_cmpR op_ne (pe_ix ix_seq (pv 6) pe_int (fun _ _ => rfl)) pe_str (nomark _)) (pw_or (pt_not (pt_val (pe_call G_Lsame (hr.mono (by decide)) (by rfl) T.g_Lsame T.F_Lsame.kp T.a_Lsame .nil pass0 (pa_cons (pe_meth0 (pe_ix ix_seq (pv 6) pe_int (fun _ _ => rfl)) T.cl_Log T.me_Log_rows G_Log_rows (hr.mono (by decide)) T.a_Log_rows .nil pass0) (pa_cons (pv 7) pa_nil))))) (pw_or1 (pt_cmpR (op_neOwn (E := E0) G_Log_eq T.me_Log_eq.at_ T.me_Log_eq.fn T.nq_Log T.ic_Log.hm T.a_Log_eq pass0 (hr.mono (by decide))) (pe_methK (pv 12) T.cl_Log T.me_Log_with_step G_Log_with_step (hr.mono (by decide)) T.kb_Log_with_step_1_step_process passN0 (pk_cons (pv 18) (pk_cons (pv 14) pk_nil))) (pe_call (E := E0) G_Llog (hr.mono (by decide)) (by rfl) T.g_Llog T.F_Llog.kp T.a_Llog .nil passN0 (pa_cons (pv 7) pa_nil)) (nomark _)))))))))
      (pss_one (ps_ret pe_bl))
      pss_nil)
      (pss_cons (ps_asg (pe_tup (pa_cons (pe_call G_Lodd (hr.mono (by decide)) (by rfl) T.g_Lodd T.F_Lodd.kp T.a_Lodd .nil pass0 (pa_cons (pv 1) (pa_cons (pe_lst (pa_cons pe_str (pa_cons pe_str pa_nil))) pa_nil))) (pa_cons (pe_call G_Lof (hr.mono (by decide)) (by rfl) T.g_Lof T.F_Lof.kp T.a_Lof .nil pass0 (pa_cons (pv 1) (pa_cons (pe_lst (pa_cons pe_non (pa_cons pe_str (pa_cons (pe_tup (pa_cons pe_str (pa_cons pe_int pa_nil))) (pa_cons (pe_tup (pa_cons pe_str (pa_cons pe_int (pa_cons pe_non pa_nil)))) (pa_cons (pe_lst (pa_cons pe_str (pa_cons pe_int (pa_cons pe_non pa_nil)))) pa_nil)))))) pa_nil))) pa_nil))) (pg_tup rfl (pgs_cons (pg_name (i := 20) sc_law.nd rfl (by first | exact Or.inl rfl | exact Or.inr rfl)) (pgs_cons (pg_name (i := 21) sc_law.nd rfl (by first | exact Or.inl rfl | exact Or.inr rfl)) pgs_nil))))
      (pss_cons (ps_set (i := 3) sc_law.nd rfl (by first | exact Or.inl rfl | exact Or.inr rfl) (pe_lst (pa_cons (pe_lamA (T := [(Pt, qL)]) TB rfl (.head _) (fun p hp _ => by cases List.mem_singleton.mp hp; rfl) (lamC_by (by show lamCB (defScope s_law) _ = true; decide +kernel)) rfl) (pa_cons (pe_lamB (T := [(Pt, qL)]) TB rfl (.head _) (fun p hp _ => by cases List.mem_singleton.mp hp; rfl) (lamC_by (by show lamCB (defScope s_law) _ = true; decide +kernel)) pe_int rfl rfl) (pa_cons (pe_lamB (T := [(Pt, qL)]) TB rfl (.head _) (fun p hp _ => by cases List.mem_singleton.mp hp; rfl) (lamC_by (by show lamCB (defScope s_law) _ = true; decide +kernel)) pe_int rfl rfl) (pa_cons (pe_lamB (T := [(Pt, qL)]) TB rfl (.head _) (fun p hp _ => by cases List.mem_singleton.mp hp; rfl) (lamC_by (by show lamCB (defScope s_law) _ = true; decide +kernel)) pe_int rfl rfl) pa_nil))))))
      (pss_cons (ps_set (i := 8) sc_law.nd rfl (by first | exact Or.inl rfl | exact Or.inr rfl) (pe_whysG (k := 12) (A := A) T (hr.mono (by decide)) OC ND (by rfl) (pv 3)))
      (pss_cons (ps_if (PW.pt (pw_or (pt_not (pt_val (pe_call G_Lsame (hr.mono (by decide)) (by rfl) T.g_Lsame T.F_Lsame.kp T.a_Lsame .nil pass0 (pa_cons (pe_slice sl_list (pv 8) po_none (po_some pe_int)) (pa_cons (pe_lst (pa_cons (pe_tup (pa_cons pe_str (pa_cons (pe_tup (pa_cons (pv 20) pa_nil)) pa_nil))) (pa_cons (pe_tup (pa_cons pe_str (pa_cons (pe_tup (pa_cons (pv 14) (pa_cons (pe_callB call_len (by rfl) T.b_len (by decide +kernel) (pa_cons (pe_ix ix_seq (pe_ix ix_seq (pv 4) (pv 13) (fun _ _ => rfl)) pe_int (fun _ _ => rfl)) pa_nil)) pa_nil))) pa_nil))) (pa_cons (pe_tup (pa_cons pe_str (pa_cons (pe_tup (pa_cons (pv 14) pa_nil)) pa_nil))) pa_nil)))) pa_nil))))) (pw_or1 (pt_cmpR op_ne (pe_ix ix_seq (pe_ix ix_seq (pv 8) pe_int (fun _ _ => rfl)) pe_int (fun _ _ => rfl)) pe_str (nomark _)))))
      (pss_one (ps_ret pe_bl))
      pss_nil)
      (pss_cons (ps_set (i := 9) sc_law.nd rfl (by first | exact Or.inl rfl | exact Or.inr rfl) (pe_meth (E := E0) (pv 12) T.cl_Log T.me_Log_with_process G_Log_with_process (hr.mono (by decide)) T.a_Log_with_process .nil passN0 (pa_cons pe_str pa_nil)))
      (pss_one (ps_if (pt_not (pt_val (pe_call G_Lsame (hr.mono (by decide)) (by rfl) T.g_Lsame T.F_Lsame.kp T.a_Lsame .nil pass0 (pa_cons (pe_lst (pa_cons (pe_meth0 (pv 9) T.cl_Log T.me_Log_rows G_Log_rows (hr.mono (by decide)) T.a_Log_rows .nil pass0) (pa_cons (pe_cmpR (L2.op_eqG (L2.rcG_ins G_Log_eq T.me_Log_eq.at_ T.me_Log_eq.fn T.a_Log_eq pass0) (hr.mono (by decide))) (pe_methK (pv 12) T.cl_Log T.me_Log_with_process G_Log_with_process (hr.mono (by decide)) T.kb_Log_with_process_1_name passN0 (pk_cons pe_str pk_nil)) (pv 9) (nomark _)) (pa_cons (pe_meth0 (pv 12) T.cl_Log T.me_Log_rows G_Log_rows (hr.mono (by decide)) T.a_Log_rows .nil pass0) (pa_cons (pe_callB (call_lenOwn (E := E0) (sp := fun vs H Q E => spMeth K A.c_Log (fun rs => .int ((lastO rs).od.length : Nat)) (vs ++ []) H Q E) T.me_Log_len.at_ T.me_Log_len.fn (FnOk.raw G_Log_len T.a_Log_len .nil) (hr.mono (by decide)) pass0) (by rfl) T.b_len (by decide +kernel) (pa_cons (pv 12) pa_nil)) pa_nil))))) (pa_cons (pe_lst (pa_cons (pe_op L2.op_cat (pv 4) (pe_lst (pa_cons (pe_tup (pa_cons pe_str (pa_cons (pe_lst pa_nil) pa_nil))) pa_nil))) (pa_cons pe_bl (pa_cons (pv 4) (pa_cons (pe_callB (cr_sumT rfl) (by rfl) T.b_sum (by decide +kernel) (pa_cons (pv 15) pa_nil)) pa_nil))))) pa_nil)))))
      (pss_one (ps_ret pe_bl))
      pss_nil)))))))))))))))))))
      (pss_cons (ps_asg (pe_tup (pa_cons (StX.pe_makeR (E := E0) T.mk_Log G_i_Log (hr.mono (by decide)) (by rfl) T.m_Log passN0 (pa_cons (pe_tup (pa_cons pe_str (pa_cons (pe_op L2.op_rep (pe_lst (pa_cons (pe_tup (pa_cons pe_str (pa_cons pe_int (pa_cons pe_non pa_nil)))) pa_nil)) pe_int) pa_nil))) (pa_cons (pe_tup (pa_cons pe_str (pa_cons (pe_lst pa_nil) pa_nil))) pa_nil))) (pa_cons (pe_call (E := E0) G_Llog (hr.mono (by decide)) (by rfl) T.g_Llog T.F_Llog.kp T.a_Llog .nil passN0 (pa_cons (pe_lc (own := [("_law_name_y", 14)]) (g := gName 14) (by rfl) sc_law.nd (pi_str pe_str) (blkOk_by (own := [("_law_name_y", 14)]) (N := N_law) (sc := defScope s_law) (by decide +kernel)) (fun _ _ _ _ _ => (pg_name (i := 14) sc_law.nd rfl (by first | exact Or.inl rfl | exact Or.inr rfl))) (fun _ _ _ _ _ => pts_nil) (fun _ _ _ _ _ => (pe_tup (pa_cons (pv 14) (pa_cons (pe_lst pa_nil) pa_nil))))) pa_nil)) pa_nil))) (pg_tup rfl (pgs_cons (pg_name (i := 10) sc_law.nd rfl (by first | exact Or.inl rfl | exact Or.inr rfl)) (pgs_cons (pg_name (i := 11) sc_law.nd rfl (by first | exact Or.inl rfl | exact Or.inr rfl)) pgs_nil))))
      (pss_cons (ps_set (i := 3) sc_law.nd rfl (by first | exact Or.inl rfl | exact Or.inr rfl) (pe_lst (pa_cons (pe_lamA (T := [(Pt, qL)]) TB rfl (.head _) (fun p hp _ => by cases List.mem_singleton.mp hp; rfl) (lamC_by (by show lamCB (defScope s_law) _ = true; decide +kernel)) rfl) (pa_cons (pe_lamB (T := [(Pt, qL)]) TB rfl (.head _) (fun p hp _ => by cases List.mem_singleton.mp hp; rfl) (lamC_by (by show lamCB (defScope s_law) _ = true; decide +kernel)) pe_int rfl rfl) (pa_cons (pe_lamB (T := [(Pt, qL)]) TB rfl (.head _) (fun p hp _ => by cases List.mem_singleton.mp hp; rfl) (lamC_by (by show lamCB (defScope s_law) _ = true; decide +kernel)) pe_int rfl rfl) (pa_cons (pe_lamB (T := [(Pt, qL)]) TB rfl (.head _) (fun p hp _ => by cases List.mem_singleton.mp hp; rfl) (lamC_by (by show lamCB (defScope s_law) _ = true; decide +kernel)) pe_int rfl rfl) (pa_cons (pe_lamB (T := [(Pt, qL)]) TB rfl (.head _) (fun p hp _ => by cases List.mem_singleton.mp hp; rfl) (lamC_by (by show lamCB (defScope s_law) _ = true; decide +kernel)) pe_int rfl rfl) (pa_cons (pe_lamB (T := [(Pt, qL)]) TB rfl (.head _) (fun p hp _ => by cases List.mem_singleton.mp hp; rfl) (lamC_by (by show lamCB (defScope s_law) _ = true; decide +kernel)) pe_int rfl rfl) pa_nil))))))))
      (pss_one (ps_ret (pe_call G_Lsame (hr.mono (by decide)) (by rfl) T.g_Lsame T.F_Lsame.kp T.a_Lsame .nil pass0 (pa_cons (pe_whysG (k := 12) (A := A) T (hr.mono (by decide)) OC ND (by rfl) (pv 3)) (pa_cons (pe_lst (pa_cons (pe_tup (pa_cons pe_str (pa_cons (pe_tup (pa_cons pe_str (pa_cons pe_int pa_nil))) pa_nil))) (pa_cons (pe_tup (pa_cons pe_str (pa_cons (pe_tup (pa_cons pe_str (pa_cons pe_int pa_nil))) pa_nil))) (pa_cons (pe_tup (pa_cons pe_str (pa_cons (pe_tup (pa_cons pe_str (pa_cons pe_int pa_nil))) pa_nil))) (pa_cons (pe_tup (pa_cons pe_str (pa_cons (pe_tup (pa_cons pe_str pa_nil)) pa_nil))) (pa_cons (pe_tup (pa_cons pe_str (pa_cons pe_non pa_nil))) (pa_cons (pe_tup (pa_cons pe_str (pa_cons (pe_tup (pa_cons pe_str pa_nil)) pa_nil))) pa_nil))))))) pa_nil))))))))), ?_⟩
    show tSeq (tAsg _ (gName 1)) _ _ [some (.ref a), none, none, none, none, none, none, none, none, none, none, none, none, none, none, none, none, none, none, none, none, none, none] H
    refine ⟨_, rfl, a, ns, rfl, hS, hl, fun B H1 nB hB s1 => ?_⟩
    have t1 : Tb Pt H1 := Tb.nil (s1 _ _ hP)
    dsimp only [gName, List.set]
    show tSeq (tFor (iRng1 (tCons (tC (.int 4)) tNil)) (gName 2) _) _ _ [some (.ref a), some (.ref B.p), none, none, none, none, none, none, none, none, none, none, none, none, none, none, none, none, none, none, none, none, none] H1
    refine for_rng (fun n H' => n = 4 ∧ H' = H1) (fun Q q => q 4 H1 ⟨rfl, rfl⟩) fun n H5 e => ?_
    obtain ⟨rfl, rfl⟩ := e
    refine ⟨by decide, fun σ H' => ∃ x2 x3 x4 x5 x6 x7 x8 x9 x12 x13 x14 x15 x16 x17 x18 x19 x20 x21, σ = [some (.ref a), some (.ref B.p), x2, x3, x4, x5, x6, x7, x8, x9, none, none, x12, x13, x14, x15, x16, x17, x18, x19, x20, x21, none] ∧ Bag B H' ∧ Tb Pt H', ⟨_, _, _, _, _, _, _, _, _, _, _, _, _, _, _, _, _, _, rfl, hB, t1⟩, ?_, ?_⟩
    · rintro v σ H2 _ ⟨x2, x3, x4, x5, x6, x7, x8, x9, x12, x13, x14, x15, x16, x17, x18, x19, x20, x21, rfl, hB2, t2⟩
      dsimp only [gName, List.set]
      show tSeq (tAsg _ (gName 4)) _ _ [some (.ref a), some (.ref B.p), some v, x3, x4, x5, x6, x7, x8, x9, none, none, x12, x13, x14, x15, x16, x17, x18, x19, x20, x21, none] H2
      refine ⟨_, rfl, _, rfl, B, 5, rfl, hB2, by decide, by decide, fun r H3 r0 r1 hB3 ex3 => ?_⟩
      obtain ⟨many, rfl⟩ := Int.eq_ofNat_of_zero_le r0
      have e1 : (1 : Int) + (many : Int) = ((1 + many : Nat) : Int) := by omega
      refine ⟨1, _, rfl, rfl, B, 1 + many, 8, congrArg (fun z => [V.ref B.p, V.int z, V.int 8]) e1, hB3, by omega, by decide, fun vr rs H4 hB4 ex4 hv0 val hk hlen htot hnm => ?_⟩
      have t4 : Tb Pt H4 := (t2.bag hB2 ex3).bag hB3 ex4
      have hv0 := Ds.wide t4 hv0
      rw [rowP_L hk] at hv0
      have l4 := live2 hB4 t4
      have h5 : rs.length ≤ 5 := by omega
      have okT := val.okT
      obtain ⟨f1, f2, f3, f4⟩ := fineL okT
      have hll : (rs.map rowL).length = rs.length := List.length_map ..
      dsimp only [gName, List.set]
      show tSeq (tAsg (tTup (tCons _ (tCons _ tNil))) _) _ _ [some (.ref a), some (.ref B.p), some v, x3, some vr, x5, x6, x7, x8, x9, none, none, x12, x13, x14, x15, x16, x17, x18, x19, x20, x21, none] H4
      refine ⟨_, rfl, log_okL l4 okT hk (valid_logV val) hv0 fun la H5 s5 hlog => ?_⟩
      refine draw_sv (K := K) (S := SP2 B Pt) (B := B) (n := rs.length) (i := 1) rfl (hB4.ext s5) (l4.same s5) (sv_is (sv_lenL (sv_var (i := 4) rfl (hv0.same s5))) (congrArg (fun n : Nat => PyData.int n) hll)) (by omega) (by omega) fun j H6 hj hB6 ex6 => tup2_end fun H7 s7 => ?_
      have hB7 := hB6.ext s7
      have t7 := ((t4.same s5).bag (hB4.ext s5) ex6).same s7
      have hv := ((hv0.same s5).byX (x_bag ex6)).same s7
      have hlog := (hlog.byX (x_bag ex6)).same s7
      have l7 := live2 hB7 t7
      obtain ⟨r, hr⟩ : ∃ r, rs[j]? = some r := ⟨_, List.getElem?_eq_getElem hj⟩
      have mr := List.mem_of_getElem? hr
      have rn := val.name r mr
      have h20 : r.s.length < 20 := by
        have h1 : r.s.length ≤ tot rs := by
          exact len_tot mr
        omega
      have atj : (rs.map rowL)[j]? = some (.tuple [.str r.n, .list (r.s.map stpP)]) := by rw [List.getElem?_map, hr]; rfl
      dsimp only [gName, List.set]
      show tSeq (tAsg _ (gTup K 2 _)) _ _ [some (.ref a), some (.ref B.p), some v, x3, some vr, x5, x6, x7, x8, x9, none, none, some (.ref la), some (.int (j : Nat)), x14, x15, x16, x17, x18, x19, x20, x21, none] H7
      refine asgT_sv (K := K) (S := SP2 B Pt) (d := .str r.n) (e := lensT rs) l7 (sv_tup (sa_cons (sv_ixA (ds := [.str r.n, .list (r.s.map stpP)]) (sv_ixL (sv_var (i := 4) rfl hv) (sv_vi (i := 13) (j := ((j : Nat) : Int)) rfl) (atI_of atj)) sv_int rfl) (sa_cons (sv_T (K := K) (f := fun rs : List Row => lensT rs) (enc := fun rs : List Row => [.list (rs.map rowP)]) rs (sa_cons (sv_var (i := 4) rfl hv) sa_nil) (congrArg (fun l => [PyData.list l]) (rowP_L hk).symm) ⟨by omega, hk⟩) sa_nil)) rfl) fun vn v15 H8 s8 l8 hvn h15 => ?_
      obtain rfl : vn = .str r.n := Ds.s hvn
      have hB8 := hB7.ext s8
      have t8 := t7.same s8
      have hv := hv.same s8
      have hlog := hlog.same s8
      dsimp only [gName, List.set]
      show tSeq (tPar 16 17 _) _ _ [some (.ref a), some (.ref B.p), some v, x3, some vr, x5, x6, x7, x8, x9, none, none, some (.ref la), some (.int (j : Nat)), some (.str r.n), some v15, x16, x17, x18, x19, x20, x21, none] H8
      have dsv : ∀ (b : Bool) (H' : Hp), Same H8 H' → SV K (SP2 B Pt) (tCall (spLdeeds K) [] E0 (tCons (tVar 4) (tCons (tVar 15) (tCons (tC (.str (kindS b))) tNil)))) [some (.ref a), some (.ref B.p), some v, x3, some vr, x5, x6, x7, x8, x9, none, none, some (.ref la), some (.int (j : Nat)), some (.str r.n), some v15, x16, x17, x18, x19, x20, x21, none] H' (.list ((cutWords rs (lensN rs) b).map PyData.str)) := fun b H' s => sv_T (K := K) (f := fun x : (List Row × List Nat) × Bool => PyData.list ((cutWords x.1.1 x.1.2 x.2).map PyData.str)) (enc := fun x : (List Row × List Nat) × Bool => [.list (x.1.1.map rowP), ptP x.1.2, .str (kindS x.2)]) ((rs, lensN rs), b) (sa_cons (sv_var (i := 4) rfl (hv.same s)) (sa_cons (sv_var (i := 15) rfl (h15.same s)) (sa_cons sv_str sa_nil))) (by
        show [PyData.list (rs.map rowL), lensT rs, .str (kindS b)] = [.list (rs.map rowP), ptP (lensN rs), .str (kindS b)]
        rw [rowP_L hk, lensT_is]) ⟨by show rs.length ≤ 6; omega, fun r m => ⟨hk r m, val.len r m⟩, List.length_map ..⟩
      refine par_sv (K := K) (S := SP2 B Pt) l8 (dsv true H8 (Same.refl _)) (dsv false H8 (Same.refl _)) fun v16 v17 H9 s9 l9 h16 h17 => ?_
      have hB9 := hB8.ext s9
      have t9 := t8.same s9
      have hv := hv.same s9
      have hlog := hlog.same s9
      have h15 := h15.same s9
      have fsw := cutW_fine val true
      have fgw := cutW_fine val false
      have hsw : ∀ w, w ∈ cutWords rs (lensN rs) true ↔ (true, w) ∈ deeds rs := fun w => lens_deeds
      have hgw : ∀ w, w ∈ cutWords rs (lensN rs) false ↔ (false, w) ∈ deeds rs := fun w => lens_deeds
      have nsw : ∀ w ∈ cutWords rs (lensN rs) true, nameD 4 (.str w) = true := fun w m => cutW_at val m
      have lsw := cutW_len val true
      generalize cutWords rs (lensN rs) true = sw at h16 fsw hsw nsw lsw
      generalize cutWords rs (lensN rs) false = gw at h17 fgw hgw
      dsimp only [gName, List.set]
      show tSeq (tAsg _ (gName 5)) _ _ [some (.ref a), some (.ref B.p), some v, x3, some vr, x5, x6, x7, x8, x9, none, none, some (.ref la), some (.int (j : Nat)), some (.str r.n), some v15, some v16, some v17, x18, x19, x20, x21, none] H9
      have lml : (sw.map PyData.str).length ≤ 120 := by rw [List.length_map]; exact lsw
      have lc : ∀ k : Str, SV K (fun a => a = B.p) (tLc (iAny K (tVar 16)) (gName 22) tYes (tTup (tCons (tC (.str k)) (tCons (tVar 22) tNil))) [22]) [some (.ref a), some (.ref B.p), some v, x3, some vr, x5, x6, x7, x8, x9, none, none, some (.ref la), some (.int (j : Nat)), some (.str r.n), some v15, some v16, some v17, x18, x19, x20, x21, none] H9 (.list (sw.map fun w => .tuple [.str k, .str w])) := fun k => sv_is (sv_lcM (vs := [22]) (g := gName 22) (te := tTup (tCons (tC (.str k)) (tCons (tVar 22) tNil))) (si_l (sv_var (i := 16) rfl (Ds.thin h16))) (by omega) (fun d => .tuple [.str k, d]) fun d S' H' v' Q m n hd kk => kk [some (.ref a), some (.ref B.p), some v, x3, some vr, x5, x6, x7, x8, x9, none, none, some (.ref la), some (.int (j : Nat)), some (.str r.n), some v15, some v16, some v17, x18, x19, x20, x21, some v'] rfl (sv_tup (sa_cons sv_str (sa_cons (sv_var (i := 22) rfl hd) sa_nil)) rfl)) (by rw [List.map_map]; rfl)
      refine seq_te (of2 (B := B) (Pt := Pt) (k := true) (ds := deedL sw) (i := 1) rfl hB9 t9 (sv_cat (sv_cat (sv_lst (ds := [.none, .tuple [.str "send", .str "zz"], .tuple [.str "receive", .str "zz"]]) (sa_cons sv_non (sa_cons (sv_tup (sa_cons sv_str (sa_cons sv_str sa_nil)) rfl) (sa_cons (sv_tup (sa_cons sv_str (sa_cons sv_str sa_nil)) rfl) sa_nil))) rfl) (lc "receive") (by rw [List.length_map]; show 3 + _ ≤ 5000; omega)) (lc "send") (by rw [List.length_append, List.length_map, List.length_map]; show 3 + _ + _ ≤ 5000; omega)) (by unfold deedL; rw [List.length_append, List.length_append]; show 0 < 3 + _ + _; omega) (by unfold deedL; rw [List.length_append, List.length_append, List.length_map, List.length_map]; show 3 + _ + _ ≤ 5000; omega) fun v5 d5 H10 m5 hB10 t10 x10 h5d => ?_)
      obtain ⟨od, rfl, hod⟩ := deedL_ok nsw m5
      have l10 := live2 hB10 t10
      have hv := hv.byX x10
      have hlog := hlog.byX x10
      have h15 := h15.byX x10
      have h16 := h16.byX x10
      have h17 := h17.byX x10
      dsimp only [gName, List.set]
      show tSeq (tAsg (tTup (tCons _ (tCons _ tNil))) _) _ _ [some (.ref a), some (.ref B.p), some v, x3, some vr, some v5, x6, x7, x8, x9, none, none, some (.ref la), some (.int (j : Nat)), some (.str r.n), some v15, some v16, some v17, x18, x19, x20, x21, none] H10
      refine ⟨_, rfl, _, rfl, SP2 B Pt, B, v5, deedP od, rfl, l10, .inl rfl, hB10, h5d, fun v18 m n H11 hB11 ex11 h18 hm h1 h2 => ?_⟩
      have t11 := t10.bag hB10 ex11
      have l11 := live2 hB11 t11
      refine (sv_tup (K := K) (S := SP2 B Pt) (σ := [some (.ref a), some (.ref B.p), some v, x3, some vr, some v5, x6, x7, x8, x9, none, none, some (.ref la), some (.int (j : Nat)), some (.str r.n), some v15, some v16, some v17, x18, x19, x20, x21, none]) (H := H11) (sa_cons (sv_str (x := "told")) (sa_cons sv_non sa_nil)) rfl) _ H11 (Now.refl l11) _ fun v19 H12 s12 h19 => tup2_end fun H13 s13 => ?_
      have s113 := s12.trans s13
      have hs : stepD (stpP ⟨m, n, od⟩) = true := step_ok hm h1 h2 hod
      have x13 := (x_bag (Pt := Pt) ex11).trans (XS.of s113)
      have hB13 := hB11.ext s113
      have t13 := t11.same s113
      have l13 := live2 hB13 t13
      have hv := hv.byX x13
      have hlog := hlog.byX x13
      have h15 := h15.byX x13
      have h16 := h16.byX x13
      have h17 := h17.byX x13
      have h5d := h5d.byX x13
      have h18 : Ds K (SP2 B Pt) H13 v18 (stpP ⟨m, n, od⟩) := h18.same s113
      have h19 : Ds K (SP2 B Pt) H13 v19 (faultP none) := h19.same s13
      dsimp only [gName, List.set]
      refine due_run (K := K) (S := SP2 B Pt) (rs := rs) (od := od) (sw := sw) (gw := gw) l13 rfl rfl rfl rfl h5d h16 h17 h19 hsw hgw fsw fgw (fun b w e => name_fine (hod b w e) (by decide)) fun v19 H14 s14 l14 h19 => ?_
      have hB14 := hB13.ext s14
      have t14 := t13.same s14
      have hv := hv.same s14
      have hlog := hlog.same s14
      have h15 := h15.same s14
      have h18 := h18.same s14
      dsimp only [gName, List.set]
      refine grown_run (X := (cxOf CX0 P w K mg base N_law "law" (defScope s_law) A.f_law (.ref c) Ar outer s H E).nox) (A := A) (B := B) (Pt := Pt) (rs := rs) (i := j) (r := r) (s := ⟨m, n, od⟩) T hB14 t14 hlog hk hr h20 hs hv h18 h19 fun x6 x7 H15 m15 => ?_
      have hB15 := m15.2.1
      have t15 := m15.2.2
      have l15 := live2 hB15 t15
      have hv := hv.byX m15.1
      have hlog := hlog.byX m15.1
      have h15 := h15.byX m15.1
      show tSeq (tAsg (tTup (tCons _ (tCons _ tNil))) _) _ _ [some (.ref a), some (.ref B.p), some v, x3, some vr, some v5, x6, x7, x8, x9, none, none, some (.ref la), some (.int (j : Nat)), some (.str r.n), some v15, some v16, some v17, some v18, some v19, x20, x21, none] H15
      refine ⟨_, rfl, (sv_lst (K := K) (S := SP2 B Pt) (σ := [some (.ref a), some (.ref B.p), some v, x3, some vr, some v5, x6, x7, x8, x9, none, none, some (.ref la), some (.int (j : Nat)), some (.str r.n), some v15, some v16, some v17, some v18, some v19, x20, x21, none]) (H := H15) (sa_cons (sv_str (x := "abcdefg")) (sa_cons (sv_str (x := "none")) sa_nil)) rfl) _ H15 (Now.refl l15) _ fun u H16 s16 hu => ⟨SP2 B Pt, B, u, [.str "abcdefg", .str "none"], rfl, l15.same s16, .inl rfl, hB15.ext s16, hu, by decide, fun v20 dod H17 mod hB17 ex17 h20d => ?_⟩⟩
      have t17 := (t15.same s16).bag (hB15.ext s16) ex17
      have mod : dod ∈ odd2 := mod
      obtain ⟨o1, o2, o3⟩ := odd2_ok dod mod
      refine of2 (B := B) (Pt := Pt) (k := true) (ds := wrong5) (i := 1) rfl hB17 t17 (sv_lst (sa_cons sv_non (sa_cons sv_str (sa_cons (sv_tup (sa_cons sv_str (sa_cons sv_int sa_nil)) rfl) (sa_cons (sv_tup (sa_cons sv_str (sa_cons sv_int (sa_cons sv_non sa_nil))) rfl) (sa_cons (sv_lst (sa_cons sv_str (sa_cons sv_int (sa_cons sv_non sa_nil))) rfl) sa_nil))))) rfl) (by decide) (by decide) fun v21 dwr H18 mwr hB18 t18 x18 h21d => tup2_end fun H19 s19 => ?_
      obtain ⟨w1, w2, w3⟩ := wrong5_ok dwr mwr
      have x19 : XS (SP2 B Pt) H15 H19 := (((XS.of s16).trans (x_bag ex17)).trans x18).trans (XS.of s19)
      have hB19 := hB18.ext s19
      have t19 := t18.same s19
      have l19 := live2 hB19 t19
      have hv := hv.byX x19
      have hlog := hlog.byX x19
      have h15 := h15.byX x19
      have h20d := (h20d.byX x18).same s19
      have h21d := h21d.same s19
      dsimp only [gName, List.set]
      show tSeq (tAsg (tLst _) (gName 3)) _ _ [some (.ref a), some (.ref B.p), some v, x3, some vr, some v5, x6, x7, x8, x9, none, none, some (.ref la), some (.int (j : Nat)), some (.str r.n), some v15, some v16, some v17, some v18, some v19, some v20, some v21, none] H19
      refine set_lams (X := (cxOf CX0 P w K mg base N_law "law" (defScope s_law) A.f_law (.ref c) Ar outer s H E).nox) hB19 t19 (slam_0 (slam_1 (slam_1 (slam_1 slam_nil)))) rfl fun l gs H20 m20 hnl hl20 ls => ?_
      have hB20 := m20.2.1
      have t20 := m20.2.2
      have l20 := live2 hB20 t20
      have hv := hv.byX m20.1
      have hlog := hlog.byX m20.1
      have h15 := h15.byX m20.1
      have h20d := h20d.byX m20.1
      have h21d := h21d.byX m20.1
      dsimp only [gName, List.set]
      show tSeq (tAsg (tWhysG _ A 12 (tVar 3)) (gName 8)) _ _ [some (.ref a), some (.ref B.p), some v, some (.ref l), some vr, some v5, x6, x7, x8, x9, none, none, some (.ref la), some (.int (j : Nat)), some (.str r.n), some v15, some v16, some v17, some v18, some v19, some v20, some v21, none] H20
      refine seq_te (whysM_run (X := (cxOf CX0 P w K mg base N_law "law" (defScope s_law) A.f_law (.ref c) Ar outer s H E).nox) (A := A) (B := B) (Pt := Pt) (k := 12) (ds := [.tuple [.str "UnknownProcess", .tuple [dod]], .tuple [.str "InvalidStep", .tuple [.str r.n, .int (r.s.length : Nat)]], .tuple [.str "DuplicateName", .tuple [.str r.n]]]) (P := fun d => ∃ ds, (∃ d, ds = [d] ∧ d ∈ odd1) ∧ d = PyData.tuple [.str "InvalidName", .tuple ds]) T hB20 t20 rfl hl20 hnl (show LamsAt _ _ gs ([_, _, _] ++ [_]) from ls) rfl ?_ ?_ fun u8 dN H21 pN m21 hu8 => ?_)
      · exact .cons (lam_err0 (X := (cxOf CX0 P w K mg base N_law "law" (defScope s_law) A.f_law (.ref c) Ar outer s H E).nox) (A := A) (k := 12) (ds := [dod]) (tb := fun E => tWst K A E (tVar 12) (tVar 20) (tVar 21)) (fun f E2 A2 l2 s2 H2 c' hr3 => (pe_meth (E := E2) (pv 12) T.cl_Log T.me_Log_with_step G_Log_with_step (hr3.mono (by decide)) T.a_Log_with_step .nil lam_pass (pa_cons (pv 20) (pa_cons (pv 21) pa_nil)))) (by show (N_law.all _) = true; decide +kernel) (by show lamCB (defScope s_law) _ = true; decide +kernel) (fun _ _ _ => rfl) (errC_unk T) rfl (by decide +kernel) fun E2 S2 H2 Q2 n2 he => wst_go n2.live rfl (hlog.now n2) (sv_var (i := 20) rfl (h20d.now n2)) (sv_var (i := 21) rfl (h21d.now n2)) fun v u H3 s3 l3 hl3 hv3 hu3 => with_unk l3 hl3 (fun r m => o3 r.n (hnm r m)) o1 w1 hv3 hu3 (he.same s3))
          (.cons (lam_err1 (X := (cxOf CX0 P w K mg base N_law "law" (defScope s_law) A.f_law (.ref c) Ar outer s H E).nox) (A := A) (k := 12) (ds := [PyData.str r.n, PyData.int (r.s.length : Nat)]) (y := "_law_a") (tb := fun E => tWst K A E (tVar 12) (tVar 14) (tVar 21)) (fun f E2 A2 l2 s2 H2 c' hr3 => (pe_meth (E := E2) (pv 12) T.cl_Log T.me_Log_with_step G_Log_with_step (hr3.mono (by decide)) T.a_Log_with_step .nil lam_pass (pa_cons (pv 14) (pa_cons (pv 21) pa_nil)))) (by show (N_law.all _) = true; decide +kernel) (by show lamCB (defScope s_law) _ = true; decide +kernel) (fun _ _ _ _ => ⟨_, rfl, fun _ => rfl⟩) rfl (errC_stp T) rfl (by decide +kernel) fun E2 S2 H2 Q2 n2 he => wst_go n2.live rfl (hlog.now n2) (sv_vs (i := 14) (j := r.n) rfl) (sv_var (i := 21) rfl (h21d.now n2)) fun v u H3 s3 l3 hl3 hv3 hu3 => with_inv l3 hl3 hr w3 w1 hv3 hu3 (he.same s3))
          (.cons (lam_err1 (X := (cxOf CX0 P w K mg base N_law "law" (defScope s_law) A.f_law (.ref c) Ar outer s H E).nox) (A := A) (k := 12) (ds := [PyData.str r.n]) (y := "_law_b") (tb := fun E => tWpr K A E (tVar 12) (tVar 14)) (fun f E2 A2 l2 s2 H2 c' hr3 => (pe_meth (E := E2) (pv 12) T.cl_Log T.me_Log_with_process G_Log_with_process (hr3.mono (by decide)) T.a_Log_with_process .nil lam_pass (pa_cons (pv 14) pa_nil))) (by show (N_law.all _) = true; decide +kernel) (by show lamCB (defScope s_law) _ = true; decide +kernel) (fun _ _ _ _ => ⟨_, rfl, fun _ => rfl⟩) rfl (errC_dup T) rfl (by decide +kernel) fun E2 S2 H2 Q2 n2 he => wpr_go n2.live rfl (hlog.now n2) (sv_vs (i := 14) (j := r.n) rfl) fun v H3 s3 l3 hl3 hv3 => proc_dup l3 hl3 (List.mem_map_of_mem mr) hv3 (he.same s3)) .nil))
      · exact lam_errM1 (X := (cxOf CX0 P w K mg base N_law "law" (defScope s_law) A.f_law (.ref c) Ar outer s H E).nox) (A := A) (B := B) (S := SP2 B Pt) (H := H20) (k := 12) (y := "_law_c") (cI := A.c_InvalidName) (code := "InvalidName") (names := ["value"]) (P' := fun ds => ∃ d, ds = [d] ∧ d ∈ odd1) (tb := fun E => tWpr K A E (tVar 12) (tCall (spOddA K) [] E0 (tCons (tVar 1) (tCons (tLst (tCons (tC (.str "abcdefg")) tNil)) tNil)))) l20 hB20 (fun f E2 A2 l2 s2 H2 c' hr3 => (pe_meth (E := E2) (pv 12) T.cl_Log T.me_Log_with_process G_Log_with_process (hr3.mono (by decide)) T.a_Log_with_process .nil lam_pass (pa_cons (pe_call G_Lodd (hr3.mono (by decide)) (by rfl) T.g_Lodd T.F_Lodd.kp T.a_Lodd .nil pass0 (pa_cons (pv 1) (pa_cons (pe_lst (pa_cons pe_str pa_nil)) pa_nil))) pa_nil))) (by show (N_law.all _) = true; decide +kernel) (by show lamCB (defScope s_law) _ = true; decide +kernel) (fun _ _ _ _ => ⟨_, rfl, fun _ => rfl⟩) rfl (errC_inv T) (fun ds ⟨d, e, _⟩ => by rw [e]; rfl) (by decide +kernel) fun E2 S2 H2 Q2 n2 he => proc_draw n2.live (n2.sub _ (.inl rfl)) (hB20.ext n2.same) rfl rfl (hlog.now n2) he
      obtain ⟨_, ⟨dd, rfl, mdd⟩, rfl⟩ := pN
      obtain ⟨d1, d2, d3⟩ := odd1_ok dd mdd
      have hB21 := m21.2.1
      have t21 := m21.2.2
      have l21 := live2 hB21 t21
      have hv := hv.byX m21.1
      have hlog := hlog.byX m21.1
      have h15 := h15.byX m21.1
      have h20d := h20d.byX m21.1
      dsimp only [gName, List.set]
      show tSeq (tIfS _ _ tNext) _ _ [some (.ref a), some (.ref B.p), some v, some (.ref l), some vr, some v5, x6, x7, some u8, x9, none, none, some (.ref la), some (.int (j : Nat)), some (.str r.n), some v15, some v16, some v17, some v18, some v19, some v20, some v21, none] H21
      have wz := whys_sz (rn := rn) (k := r.s.length) (by omega) o1 o2
      refine seq_skip (S := SP2 B Pt) l21 (sb_is (sb_or (b := false) (c := false) (sb_is (sb_not (sb_val (sv_same (n := 8) (sv_is (sv_slL (sv_var (i := 8) rfl hu8) sp_no (sp_some (i := 3) sv_int)) (by rw [show (3 : Int) = ((3 : Nat) : Int) from rfl, cutD_to]; rfl)) (sv_lst (sa_cons (sv_tup (sa_cons sv_str (sa_cons (sv_tup (sa_cons (sv_var (i := 20) rfl h20d) sa_nil) rfl) sa_nil)) rfl) (sa_cons (sv_tup (sa_cons sv_str (sa_cons (sv_tup (sa_cons (sv_vs (i := 14) (j := r.n) rfl) (sa_cons (sv_is (sv_lenL (sv_ixA (ds := [.str r.n, .list (r.s.map stpP)]) (sv_ixL (sv_var (i := 4) rfl hv) (sv_vi (i := 13) (j := ((j : Nat) : Int)) rfl) (atI_of atj)) (sv_int (i := 1)) rfl)) (congrArg (fun n : Nat => PyData.int n) (List.length_map ..))) sa_nil)) rfl) sa_nil)) rfl) (sa_cons (sv_tup (sa_cons sv_str (sa_cons (sv_tup (sa_cons (sv_vs (i := 14) (j := r.n) rfl) sa_nil) rfl) sa_nil)) rfl) sa_nil))) rfl) wz.1 wz.2))) rfl) fun _ => sb_test (sv_is (sv_neS (sv_ixA (ds := [.str "InvalidName", .tuple [dd]]) (sv_ixL (i := 3) (sv_var (i := 8) rfl hu8) sv_int rfl) sv_int rfl) sv_str) (congrArg PyData.bool (by decide +kernel)))) rfl) fun H22 s22 l22 => ?_
      have hB22 := hB21.ext s22
      have t22 := t21.same s22
      have hv := hv.same s22
      have hlog := hlog.same s22
      have h15 := h15.same s22
      have nf : ("fresh" : Str) ∉ rs.map (·.n) := fun m => by
        obtain ⟨r', mr', e⟩ := List.mem_map.mp m
        exact fresh_ok.2 (e ▸ hnm r' mr')
      show tSeq (tAsg _ (gName 9)) _ _ [some (.ref a), some (.ref B.p), some v, some (.ref l), some vr, some v5, x6, x7, some u8, x9, none, none, some (.ref la), some (.int (j : Nat)), some (.str r.n), some v15, some v16, some v17, some v18, some v19, some v20, some v21, none] H22
      refine seq_te (sl_proc (n := "fresh") (sl_var (i := 12) rfl hlog) sv_str h5 fresh_ok.1 nf (SP2 B Pt) H22 (Now.refl l22) _ fun wa H23 s23 hwa => ?_)
      have hB23 := hB22.ext s23
      have t23 := t22.same s23
      have l23 := l22.same s23
      have hv := hv.same s23
      have hlog := hlog.same s23
      have h15 := h15.same s23
      have odl := od_tot val
      have odm : (lastO rs).od.length ≤ 5000 := by
        rw [odl]
        have : (rs.map fun r => r.s.length).sum = tot rs := rfl
        omega
      have fz := wide_sz (rs := rs) okT (wide_okT val h5 fresh_ok.1 nf) (lastO rs).od.length odm
      dsimp only [gName, List.set]
      show tIfS _ _ tNext _ [some (.ref a), some (.ref B.p), some v, some (.ref l), some vr, some v5, x6, x7, some u8, some (.ref wa), none, none, some (.ref la), some (.int (j : Nat)), some (.str r.n), some v15, some v16, some v17, some v18, some v19, some v20, some v21, none] H23
      refine end_skip (S := SP2 B Pt) l23 (sb_is (sb_not (sb_val (sv_same (n := 8) (sv_lst (sa_cons (sl_meth (f := fun rs => PyData.list (rs.map rowL)) (sl_var (i := 9) rfl hwa) fun _ _ => rfl) (sa_cons (sv_eqL (sl_procN (n := "fresh") (sl_var (i := 12) rfl hlog) sv_str h5 fresh_ok.1 nf) (sl_var (i := 9) rfl hwa)) (sa_cons (sl_meth (f := fun rs => PyData.list (rs.map rowL)) (sl_var (i := 12) rfl hlog) fun _ _ => rfl) (sa_cons (sl_len (sl_var (i := 12) rfl hlog) odm) sa_nil)))) rfl) (sv_lst (sa_cons (sv_is (sv_cat (sv_var (i := 4) rfl hv) (sv_lst (sa_cons (sv_tup (sa_cons (sv_str (x := "fresh")) (sa_cons (sv_lst sa_nil rfl) sa_nil)) rfl) sa_nil) rfl) (by show _ + 1 ≤ 5000; omega)) (by unfold wide; rw [List.map_append]; rfl)) (sa_cons sv_bl (sa_cons (sv_var (i := 4) rfl hv) (sa_cons (sv_is (sv_sumT (ns := rs.map fun r => ((r.s.length : Nat) : Int)) (sv_is (sv_var (i := 15) rfl h15) (by unfold lensT; rw [List.map_map]; rfl))) (by rw [odl, sum_int])) sa_nil)))) rfl) fz.1 fz.2))) rfl) fun H24 s24 l24 => ⟨_, _, _, _, _, _, _, _, _, _, _, _, _, _, _, _, _, _, rfl, hB23.ext s24, t23.same s24⟩
    · rintro σ H2 ⟨x2, x3, x4, x5, x6, x7, x8, x9, x12, x13, x14, x15, x16, x17, x18, x19, x20, x21, rfl, hB2, t2⟩
      have l2 := live2 hB2 t2
      show tSeq (tAsg (tTup (tCons _ (tCons _ tNil))) _) _ _ [some (.ref a), some (.ref B.p), x2, x3, x4, x5, x6, x7, x8, x9, none, none, x12, x13, x14, x15, x16, x17, x18, x19, x20, x21, none] H2
      refine tup2_go (mk_logV (K := K) (S := SP2 B Pt) (ds := fullR.map rowL) l2 (sa_cons (sv_is (d := .tuple [.str "a", .list (List.replicate 20 [stX0]).flatten]) (sv_tup (sa_cons sv_str (sa_cons (sv_rep (ds := [stX0]) (tb := tC (.int 20)) (k := 20) sv_int (by decide) (by decide) (sn_lst (sa_cons (sv_tup (sa_cons sv_str (sa_cons sv_int (sa_cons sv_non sa_nil))) rfl) sa_nil) rfl)) sa_nil)) rfl) (by rw [rep_one]; rfl)) (sa_cons (sv_tup (sa_cons sv_str (sa_cons (sv_lst sa_nil rfl) sa_nil)) rfl) sa_nil)) (by decide) full_f.1 ?_)
      unfold wishLog
      rw [full_v.1]
      dsimp only
      rw [full_v.2.1]
      intro la H3 s3 hla
      have l3 := l2.same s3
      refine call1_go (sp := spLlogE K (clA A) A.c_Log) ((sv_is (d' := .list (sixR.map rowL)) (sv_lcM (K := K) (S := SP2 B Pt) (H := H3) (σ := [some (.ref a), some (.ref B.p), x2, x3, x4, x5, x6, x7, x8, x9, none, none, x12, x13, x14, x15, x16, x17, x18, x19, x20, x21, none]) (vs := [14]) (g := gName 14) (te := tTup (tCons (tVar 14) (tCons (tLst tNil) tNil))) (si_str (x := "abcdef") sv_str) (by rw [signs_len]; decide) (fun d => .tuple [d, .list []]) fun d S' H' v Q m n hd kk => kk [some (.ref a), some (.ref B.p), x2, x3, x4, x5, x6, x7, x8, x9, none, none, x12, x13, some v, x15, x16, x17, x18, x19, x20, x21, none] rfl (sv_tup (sa_cons (sv_var (i := 14) rfl hd) (sa_cons (sv_lst sa_nil rfl) sa_nil)) rfl)) (by kernel_rfl)) _ H3 (Now.refl l3) _ fun u H4 s4 hu => ⟨SP2 B Pt, u, sixR.map rowL, rfl, l3.same s4, hu, by decide, full_f.2.2.2, full_f.2.2.1, ?_⟩)
      unfold wishLog
      rw [full_v.2.2.1]
      dsimp only
      rw [full_v.2.2.2]
      intro lb H5 s5 hlb
      refine tup2_end fun H6 s6 => ?_
      have s26 := ((s3.trans s4).trans s5).trans s6
      have hB6 := hB2.ext s26
      have t6 := t2.same s26
      have hla := ((hla.same s4).same s5).same s6
      have hlb := hlb.same s6
      dsimp only [gName, List.set]
      show tSeq (tAsg (tLst _) (gName 3)) _ _ [some (.ref a), some (.ref B.p), x2, x3, x4, x5, x6, x7, x8, x9, some (.ref la), some (.ref lb), x12, x13, x14, x15, x16, x17, x18, x19, x20, x21, none] H6
      refine set_lams (X := (cxOf CX0 P w K mg base N_law "law" (defScope s_law) A.f_law (.ref c) Ar outer s H E).nox) hB6 t6 (slam_0 (slam_1 (slam_1 (slam_1 (slam_1 (slam_1 slam_nil)))))) rfl fun l gs H7 m7 hnl hl7 ls => ?_
      have hB7 := m7.2.1
      have t7 := m7.2.2
      have l7 := live2 hB7 t7
      have hla := hla.byX m7.1
      have hlb := hlb.byX m7.1
      dsimp only [gName, List.set]
      show tRet _ _ [some (.ref a), some (.ref B.p), x2, some (.ref l), x4, x5, x6, x7, x8, x9, some (.ref la), some (.ref lb), x12, x13, x14, x15, x16, x17, x18, x19, x20, x21, none] H7
      have lsv : SV K (SP2 B Pt) (tWhysG (cxOf CX0 P w K mg base N_law "law" (defScope s_law) A.f_law (.ref c) Ar outer s H E).nox A 12 (tVar 3)) [some (.ref a), some (.ref B.p), x2, some (.ref l), x4, x5, x6, x7, x8, x9, some (.ref la), some (.ref lb), x12, x13, x14, x15, x16, x17, x18, x19, x20, x21, none] H7 (.list [PyData.tuple [.str "TooMany", .tuple [.str "steps", .int 20]], .tuple [.str "InvalidStep", .tuple [.str "a", .int 20]], .tuple [.str "TooMany", .tuple [.str "processes", .int 6]], .tuple [.str "DuplicateName", .tuple [.str "a"]], .tuple [.str "told", .none], .tuple [.str "InvalidName", .tuple [.str "A"]]]) := by
        refine sv_whysG (X := (cxOf CX0 P w K mg base N_law "law" (defScope s_law) A.f_law (.ref c) Ar outer s H E).nox) (A := A) T rfl hl7 ls rfl ?_
        exact .cons (lam_err0 (X := (cxOf CX0 P w K mg base N_law "law" (defScope s_law) A.f_law (.ref c) Ar outer s H E).nox) (A := A) (k := 12) (ds := [PyData.str "steps", PyData.int 20]) (tb := fun E => tWst K A E (tVar 10) (tC (.str "a")) (tTup (tCons (tC (.str "x")) (tCons (tC (.int 0)) (tCons (tC .non) tNil))))) (fun f E2 A2 l2 s2 H2 c' hr3 => (pe_meth (E := E2) (pv 10) T.cl_Log T.me_Log_with_step G_Log_with_step (hr3.mono (by decide)) T.a_Log_with_step .nil lam_pass (pa_cons pe_str (pa_cons (pe_tup (pa_cons pe_str (pa_cons pe_int (pa_cons pe_non pa_nil)))) pa_nil)))) (by show (N_law.all _) = true; decide +kernel) (by show lamCB (defScope s_law) _ = true; decide +kernel) (fun _ _ _ => rfl) (errC_many T) fl_all.2.2.2.2.2.1 ne_told.2.2.2.2.2.1 fun E2 S2 H2 Q2 n2 he => wst_go n2.live rfl (hla.now n2) sv_str (sv_tup (sa_cons sv_str (sa_cons sv_int (sa_cons sv_non sa_nil))) rfl) fun v u H3 s3 l3 hl3 hv3 hu3 => full_many l3 hl3 hv3 hu3 (he.same s3))
          (.cons (lam_err1 (X := (cxOf CX0 P w K mg base N_law "law" (defScope s_law) A.f_law (.ref c) Ar outer s H E).nox) (A := A) (k := 12) (ds := [PyData.str "a", PyData.int 20]) (y := "_law_a") (tb := fun E => tWst K A E (tVar 10) (tC (.str "a")) (tC .non)) (fun f E2 A2 l2 s2 H2 c' hr3 => (pe_meth (E := E2) (pv 10) T.cl_Log T.me_Log_with_step G_Log_with_step (hr3.mono (by decide)) T.a_Log_with_step .nil lam_pass (pa_cons pe_str (pa_cons pe_non pa_nil)))) (by show (N_law.all _) = true; decide +kernel) (by show lamCB (defScope s_law) _ = true; decide +kernel) (fun _ _ _ _ => ⟨_, rfl, fun _ => rfl⟩) rfl (errC_stp T) rfl (by decide +kernel) fun E2 S2 H2 Q2 n2 he => wst_go n2.live rfl (hla.now n2) sv_str sv_non fun v u H3 s3 l3 hl3 hv3 hu3 => with_inv (i := 0) (r := ⟨"a", true, List.replicate 20 ⟨"x", 0, none⟩⟩) l3 hl3 rfl rfl rfl hv3 hu3 (he.same s3))
          (.cons (lam_err1 (X := (cxOf CX0 P w K mg base N_law "law" (defScope s_law) A.f_law (.ref c) Ar outer s H E).nox) (A := A) (k := 12) (ds := [PyData.str "processes", PyData.int 6]) (y := "_law_b") (tb := fun E => tWpr K A E (tVar 11) (tC (.str "g"))) (fun f E2 A2 l2 s2 H2 c' hr3 => (pe_meth (E := E2) (pv 11) T.cl_Log T.me_Log_with_process G_Log_with_process (hr3.mono (by decide)) T.a_Log_with_process .nil lam_pass (pa_cons pe_str pa_nil))) (by show (N_law.all _) = true; decide +kernel) (by show lamCB (defScope s_law) _ = true; decide +kernel) (fun _ _ _ _ => ⟨_, rfl, fun _ => rfl⟩) rfl (errC_many T) fl_all.2.2.2.2.2.1 ne_told.2.2.2.2.2.1 fun E2 S2 H2 Q2 n2 he => wpr_go n2.live rfl (hlb.now n2) sv_str fun v H3 s3 l3 hl3 hv3 => six_many l3 hl3 hv3 (he.same s3))
          (.cons (lam_err1 (X := (cxOf CX0 P w K mg base N_law "law" (defScope s_law) A.f_law (.ref c) Ar outer s H E).nox) (A := A) (k := 12) (ds := [PyData.str "a"]) (y := "_law_c") (tb := fun E => tWpr K A E (tVar 11) (tC (.str "a"))) (fun f E2 A2 l2 s2 H2 c' hr3 => (pe_meth (E := E2) (pv 11) T.cl_Log T.me_Log_with_process G_Log_with_process (hr3.mono (by decide)) T.a_Log_with_process .nil lam_pass (pa_cons pe_str pa_nil))) (by show (N_law.all _) = true; decide +kernel) (by show lamCB (defScope s_law) _ = true; decide +kernel) (fun _ _ _ _ => ⟨_, rfl, fun _ => rfl⟩) rfl (errC_dup T) rfl (by decide +kernel) fun E2 S2 H2 Q2 n2 he => wpr_go n2.live rfl (hlb.now n2) sv_str fun v H3 s3 l3 hl3 hv3 => proc_dup l3 hl3 six_2.2.2.2.1 hv3 (he.same s3))
          (.cons (lam_told1 (X := (cxOf CX0 P w K mg base N_law "law" (defScope s_law) A.f_law (.ref c) Ar outer s H E).nox) (A := A) (k := 12) (y := "_law_d") (tb := fun E => tWstLen K A E (tVar 10) (tC (.str "b")) (tTup (tCons (tC (.str "y")) (tCons (tC (.int 1)) (tCons (tC .non) tNil))))) (fun f E2 A2 l2 s2 H2 c' hr3 => (pe_callB (call_lenOwn (E := E2) (sp := fun vs H Q E => spMeth K A.c_Log (fun rs => .int ((lastO rs).od.length : Nat)) (vs ++ []) H Q E) T.me_Log_len.at_ T.me_Log_len.fn (FnOk.raw G_Log_len T.a_Log_len .nil) (hr3.mono (by decide)) pass0) (by rfl) T.b_len (by decide +kernel) (pa_cons (pe_meth (E := E2) (pv 10) T.cl_Log T.me_Log_with_step G_Log_with_step (hr3.mono (by decide)) T.a_Log_with_step .nil lam_pass (pa_cons pe_str (pa_cons (pe_tup (pa_cons pe_str (pa_cons pe_int (pa_cons pe_non pa_nil)))) pa_nil))) pa_nil))) (by show (N_law.all _) = true; decide +kernel) (by show lamCB (defScope s_law) _ = true; decide +kernel) (fun _ _ _ _ => ⟨_, rfl, fun _ => rfl⟩) rfl fun E2 S2 H2 Q2 n2 q => wst_go n2.live rfl (hla.now n2) sv_str (sv_tup (sa_cons sv_str (sa_cons sv_int (sa_cons sv_non sa_nil))) rfl) fun v u H3 s3 l3 hl3 hv3 hu3 => full_len l3 hl3 hv3 hu3 fun w H4 s4 => q w H4 (s3.trans s4))
          (.cons (lam_err1 (X := (cxOf CX0 P w K mg base N_law "law" (defScope s_law) A.f_law (.ref c) Ar outer s H E).nox) (A := A) (k := 12) (ds := [PyData.str "A"]) (y := "_law_e") (tb := fun E => tWpr K A E (tVar 11) (tC (.str "A"))) (fun f E2 A2 l2 s2 H2 c' hr3 => (pe_meth (E := E2) (pv 11) T.cl_Log T.me_Log_with_process G_Log_with_process (hr3.mono (by decide)) T.a_Log_with_process .nil lam_pass (pa_cons pe_str pa_nil))) (by show (N_law.all _) = true; decide +kernel) (by show lamCB (defScope s_law) _ = true; decide +kernel) (fun _ _ _ _ => ⟨_, rfl, fun _ => rfl⟩) rfl (errC_inv T) rfl (by decide +kernel) fun E2 S2 H2 Q2 n2 he => wpr_go n2.live rfl (hlb.now n2) sv_str fun v H3 s3 l3 hl3 hv3 => proc_inv l3 hl3 (by decide +kernel) six_2.2.1 hv3 (he.same s3)) .nil)))))
      refine ret_sv (K := K) (S := SP2 B Pt) l7 (sv_same (n := 8) lsv (sv_lst (sa_cons (sv_tup (sa_cons sv_str (sa_cons (sv_tup (sa_cons sv_str (sa_cons sv_int sa_nil)) rfl) sa_nil)) rfl) (sa_cons (sv_tup (sa_cons sv_str (sa_cons (sv_tup (sa_cons sv_str (sa_cons sv_int sa_nil)) rfl) sa_nil)) rfl) (sa_cons (sv_tup (sa_cons sv_str (sa_cons (sv_tup (sa_cons sv_str (sa_cons sv_int sa_nil)) rfl) sa_nil)) rfl) (sa_cons (sv_tup (sa_cons sv_str (sa_cons (sv_tup (sa_cons sv_str sa_nil) rfl) sa_nil)) rfl) (sa_cons (sv_tup (sa_cons sv_str (sa_cons sv_non sa_nil)) rfl) (sa_cons (sv_tup (sa_cons sv_str (sa_cons (sv_tup (sa_cons sv_str sa_nil) rfl) sa_nil)) rfl) sa_nil)))))) rfl) (of_decide_eq_true (by kernel_rfl)) (by kernel_rfl)) fun u H9 s9 hu => ?_
      obtain rfl : u = .bl true := hu.b
      exact q H9
end
end My
set_option Elab.async false
set_option linter.all false
set_option maxRecDepth 100000
set_option maxHeartbeats 0
namespace My
open PySem PySem.Spec PyProof.Rows L2 TL He
abbrev rowR : PySem.W.OpenRow := PySem.W.OpenLaw.row PySem.Challenge.rw_tiedmoments_k10_logs_grown
abbrev viewR : Program := PySem.W.view rowR.prog [75]
def looseR : List Str := (["_wall", "__name__", "LogError", "InvalidName", "InvalidRow", "DuplicateName", "InvalidStep", "DuplicateMessage", "Unsent", "Ring", "TooMany", "UnlikeLogs", "InvalidNumber", "InvalidText", "Missing", "UnknownProcess", "NothingLeft", "LETTERS", "DIGITS", "NAME_LENGTH", "WORD_LENGTH", "LEAST", "MOST", "START", "DEEDS"] : List Str) ++ (["is_name", "is_word", "is_number", "is_step", "step_text", "read_step", "read_number", "_consists_of", "_is_deed", "_split_deed", "Log", "_check_rows", "_is_row", "_check_steps", "_check_messages", "_check_ends", "_names", "_deeds", "_first_unsent", "_order_of", "_first_ready", "_can_be_made", "_are_like", "_pairs", "_is_beginning"] : List Str) ++ (["_common_beginning", "_without_unsent", "_ahead_of", "_row_text", "read_row", "_law_bag", "_law_draw", "_law_of", "_law_mixed", "_law_same", "_law_field", "_law_other_field", "_law_got", "_law_why", "_law_whys", "_law_odd", "_law_marks", "_law_step", "_law_rows", "_law_log", "_law_lengths", "_law_deeds"] : List Str)
def dfA : List He5.DefA := ([⟨fun K => ma K (ga K "InvalidName") "__init__", "__init__", "InvalidName.__init__", defArgs s_i_InvalidName, defBody s_i_InvalidName, defScope s_i_InvalidName, [], []⟩, ⟨fun K => ma K (ga K "InvalidRow") "__init__", "__init__", "InvalidRow.__init__", defArgs s_i_InvalidRow, defBody s_i_InvalidRow, defScope s_i_InvalidRow, [], []⟩, ⟨fun K => ma K (ga K "DuplicateName") "__init__", "__init__", "DuplicateName.__init__", defArgs s_i_DuplicateName, defBody s_i_DuplicateName, defScope s_i_DuplicateName, [], []⟩, ⟨fun K => ma K (ga K "InvalidStep") "__init__", "__init__", "InvalidStep.__init__", defArgs s_i_InvalidStep, defBody s_i_InvalidStep, defScope s_i_InvalidStep, [], []⟩, ⟨fun K => ma K (ga K "DuplicateMessage") "__init__", "__init__", "DuplicateMessage.__init__", defArgs s_i_DuplicateMessage, defBody s_i_DuplicateMessage, defScope s_i_DuplicateMessage, [], []⟩, ⟨fun K => ma K (ga K "Unsent") "__init__", "__init__", "Unsent.__init__", defArgs s_i_Unsent, defBody s_i_Unsent, defScope s_i_Unsent, [], []⟩, ⟨fun K => ma K (ga K "Ring") "__init__", "__init__", "Ring.__init__", defArgs s_i_Ring, defBody s_i_Ring, defScope s_i_Ring, [], []⟩, ⟨fun K => ma K (ga K "TooMany") "__init__", "__init__", "TooMany.__init__", defArgs s_i_TooMany, defBody s_i_TooMany, defScope s_i_TooMany, [], []⟩, ⟨fun K => ma K (ga K "InvalidText") "__init__", "__init__", "InvalidText.__init__", defArgs s_i_InvalidText, defBody s_i_InvalidText, defScope s_i_InvalidText, [], []⟩, ⟨fun K => ma K (ga K "UnknownProcess") "__init__", "__init__", "UnknownProcess.__init__", defArgs s_i_UnknownProcess, defBody s_i_UnknownProcess, defScope s_i_UnknownProcess, [], []⟩, ⟨fun K => ma K (ga K "Log") "__init__", "__init__", "Log.__init__", defArgs s_i_Log, defBody s_i_Log, defScope s_i_Log, [], []⟩, ⟨fun K => ma K (ga K "Log") "rows", "rows", "Log.rows", defArgs s_Log_rows, defBody s_Log_rows, defScope s_Log_rows, [], []⟩, ⟨fun K => ma K (ga K "Log") "processes", "processes", "Log.processes", defArgs s_Log_processes, defBody s_Log_processes, defScope s_Log_processes, [], []⟩, ⟨fun K => ma K (ga K "Log") "row", "row", "Log.row", defArgs s_Log_row, defBody s_Log_row, defScope s_Log_row, [], []⟩, ⟨fun K => ma K (ga K "Log") "lengths", "lengths", "Log.lengths", defArgs s_Log_lengths, defBody s_Log_lengths, defScope s_Log_lengths, [], []⟩, ⟨fun K => ma K (ga K "Log") "text", "text", "Log.text", defArgs s_Log_text, defBody s_Log_text, defScope s_Log_text, [], []⟩, ⟨fun K => He5.wf K (ga K "Log") "classmethod" "read", "read", "Log.read", defArgs s_Log_read, defBody s_Log_read, defScope s_Log_read, [], []⟩, ⟨fun K => ma K (ga K "Log") "with_step", "with_step", "Log.with_step", defArgs s_Log_with_step, defBody s_Log_with_step, defScope s_Log_with_step, [], []⟩, ⟨fun K => ma K (ga K "Log") "with_process", "with_process", "Log.with_process", defArgs s_Log_with_process, defBody s_Log_with_process, defScope s_Log_with_process, [], []⟩, ⟨fun K => ma K (ga K "Log") "__eq__", "__eq__", "Log.__eq__", defArgs s_Log_eq, defBody s_Log_eq, defScope s_Log_eq, [], []⟩, ⟨fun K => ma K (ga K "Log") "__len__", "__len__", "Log.__len__", defArgs s_Log_len, defBody s_Log_len, defScope s_Log_len, [], []⟩, ⟨fun K => ma K (ga K "Log") "__str__", "__str__", "Log.__str__", defArgs s_Log_str, defBody s_Log_str, defScope s_Log_str, [], []⟩, ⟨fun K => ga K "is_name", "is_name", "is_name", defArgs s_is_name, defBody s_is_name, defScope s_is_name, [], []⟩, ⟨fun K => ga K "is_word", "is_word", "is_word", defArgs s_is_word, defBody s_is_word, defScope s_is_word, [], []⟩, ⟨fun K => ga K "is_number", "is_number", "is_number", defArgs s_is_number, defBody s_is_number, defScope s_is_number, [], []⟩] : List He5.DefA) ++ ([⟨fun K => ga K "is_step", "is_step", "is_step", defArgs s_is_step, defBody s_is_step, defScope s_is_step, [], []⟩, ⟨fun K => ga K "step_text", "step_text", "step_text", defArgs s_step_text, defBody s_step_text, defScope s_step_text, [], []⟩, ⟨fun K => ga K "read_step", "read_step", "read_step", defArgs s_read_step, defBody s_read_step, defScope s_read_step, [], []⟩, ⟨fun K => ga K "read_number", "read_number", "read_number", defArgs s_read_number, defBody s_read_number, defScope s_read_number, [], []⟩, ⟨fun K => ga K "_consists_of", "_consists_of", "_consists_of", defArgs s_consists_of, defBody s_consists_of, defScope s_consists_of, [], []⟩, ⟨fun K => ga K "_is_deed", "_is_deed", "_is_deed", defArgs s_is_deed, defBody s_is_deed, defScope s_is_deed, [], []⟩, ⟨fun K => ga K "_split_deed", "_split_deed", "_split_deed", defArgs s_split_deed, defBody s_split_deed, defScope s_split_deed, [], []⟩, ⟨fun K => ga K "_check_rows", "_check_rows", "_check_rows", defArgs s_check_rows, defBody s_check_rows, defScope s_check_rows, [], []⟩, ⟨fun K => ga K "_is_row", "_is_row", "_is_row", defArgs s_is_row, defBody s_is_row, defScope s_is_row, [], []⟩, ⟨fun K => ga K "_check_steps", "_check_steps", "_check_steps", defArgs s_check_steps, defBody s_check_steps, defScope s_check_steps, [], []⟩, ⟨fun K => ga K "_check_messages", "_check_messages", "_check_messages", defArgs s_check_messages, defBody s_check_messages, defScope s_check_messages, [], []⟩, ⟨fun K => ga K "_check_ends", "_check_ends", "_check_ends", defArgs s_check_ends, defBody s_check_ends, defScope s_check_ends, [], []⟩, ⟨fun K => ga K "_names", "_names", "_names", defArgs s_names, defBody s_names, defScope s_names, [], []⟩, ⟨fun K => ga K "_deeds", "_deeds", "_deeds", defArgs s_deeds, defBody s_deeds, defScope s_deeds, [], []⟩, ⟨fun K => ga K "_first_unsent", "_first_unsent", "_first_unsent", defArgs s_first_unsent, defBody s_first_unsent, defScope s_first_unsent, [], []⟩, ⟨fun K => ga K "_order_of", "_order_of", "_order_of", defArgs s_order_of, defBody s_order_of, defScope s_order_of, [], []⟩, ⟨fun K => ga K "_first_ready", "_first_ready", "_first_ready", defArgs s_first_ready, defBody s_first_ready, defScope s_first_ready, [], []⟩, ⟨fun K => ga K "_can_be_made", "_can_be_made", "_can_be_made", defArgs s_can_be_made, defBody s_can_be_made, defScope s_can_be_made, [], []⟩, ⟨fun K => ga K "_row_text", "_row_text", "_row_text", defArgs s_row_text, defBody s_row_text, defScope s_row_text, [], []⟩, ⟨fun K => ga K "read_row", "read_row", "read_row", defArgs s_read_row, defBody s_read_row, defScope s_read_row, [], []⟩, ⟨fun K => ga K "_law_bag", "_law_bag", "_law_bag", defArgs s_Lbag, defBody s_Lbag, defScope s_Lbag, [], []⟩, ⟨fun K => ga K "_law_draw", "_law_draw", "_law_draw", defArgs s_Ldraw, defBody s_Ldraw, defScope s_Ldraw, [], []⟩, ⟨fun K => ga K "_law_of", "_law_of", "_law_of", defArgs s_Lof, defBody s_Lof, defScope s_Lof, [], []⟩, ⟨fun K => ga K "_law_mixed", "_law_mixed", "_law_mixed", defArgs s_Lmixed, defBody s_Lmixed, defScope s_Lmixed, [], []⟩, ⟨fun K => ga K "_law_same", "_law_same", "_law_same", defArgs s_Lsame, defBody s_Lsame, defScope s_Lsame, [], []⟩] : List He5.DefA) ++ ([⟨fun K => ga K "_law_field", "_law_field", "_law_field", defArgs s_Lfield, defBody s_Lfield, defScope s_Lfield, [], []⟩, ⟨fun K => ga K "_law_other_field", "_law_other_field", "_law_other_field", defArgs s_Lother_field, defBody s_Lother_field, defScope s_Lother_field, [], []⟩, ⟨fun K => ga K "_law_got", "_law_got", "_law_got", defArgs s_Lgot, defBody s_Lgot, defScope s_Lgot, [], []⟩, ⟨fun K => ga K "_law_why", "_law_why", "_law_why", defArgs s_Lwhy, defBody s_Lwhy, defScope s_Lwhy, [], []⟩, ⟨fun K => ga K "_law_whys", "_law_whys", "_law_whys", defArgs s_Lwhys, defBody s_Lwhys, defScope s_Lwhys, [], []⟩, ⟨fun K => ga K "_law_odd", "_law_odd", "_law_odd", defArgs s_Lodd, defBody s_Lodd, defScope s_Lodd, [], []⟩, ⟨fun K => ga K "_law_marks", "_law_marks", "_law_marks", defArgs s_Lmarks, defBody s_Lmarks, defScope s_Lmarks, [], []⟩, ⟨fun K => ga K "_law_step", "_law_step", "_law_step", defArgs s_Lstep, defBody s_Lstep, defScope s_Lstep, [], []⟩, ⟨fun K => ga K "_law_rows", "_law_rows", "_law_rows", defArgs s_Lrows, defBody s_Lrows, defScope s_Lrows, [], []⟩, ⟨fun K => ga K "_law_log", "_law_log", "_law_log", defArgs s_Llog, defBody s_Llog, defScope s_Llog, [], []⟩, ⟨fun K => ga K "_law_lengths", "_law_lengths", "_law_lengths", defArgs s_Llengths, defBody s_Llengths, defScope s_Llengths, [], []⟩, ⟨fun K => ga K "_law_deeds", "_law_deeds", "_law_deeds", defArgs s_Ldeeds, defBody s_Ldeeds, defScope s_Ldeeds, [], []⟩, ⟨fun K => ga K "law", "law", "law", defArgs s_law, defBody s_law, defScope s_law, [], []⟩] : List He5.DefA)
def ex0 (K : Fr) : List Bool := [glB K "DuplicateMessage",
  glB K "DuplicateName",
  glB K "InvalidName",
  glB K "InvalidRow",
  glB K "InvalidStep",
  glB K "InvalidText",
  glB K "Log",
  glB K "LogError",
  glB K "Missing",
  glB K "NothingLeft",
  glB K "Ring",
  glB K "TooMany",
  glB K "UnknownProcess",
  glB K "Unsent",
  oxB K (ga K "InvalidName") "ValueError.__new__" [.type "ValueError", .type "Exception", .type "BaseException", .type "object"] ("code" :: ["value"]) (ma K (ga K "InvalidName") "__init__"),
  atB K (ga K "InvalidName") "__init__",
  tyB K (ga K "InvalidName") "type",
  decide (PySem.W.exmAny K (.ref (ga K "InvalidName")) [.ref (ga K "LogError"), .ref (ga K "Missing"), .ref (ga K "NothingLeft")] = some true),
  oxB K (ga K "InvalidRow") "ValueError.__new__" [.type "ValueError", .type "Exception", .type "BaseException", .type "object"] ("code" :: ["at"]) (ma K (ga K "InvalidRow") "__init__"),
  atB K (ga K "InvalidRow") "__init__"]
def ex1 (K : Fr) : List Bool := [tyB K (ga K "InvalidRow") "type",
  decide (PySem.W.exmAny K (.ref (ga K "InvalidRow")) [.ref (ga K "LogError"), .ref (ga K "Missing"), .ref (ga K "NothingLeft")] = some true),
  oxB K (ga K "DuplicateName") "ValueError.__new__" [.type "ValueError", .type "Exception", .type "BaseException", .type "object"] ("code" :: ["name"]) (ma K (ga K "DuplicateName") "__init__"),
  atB K (ga K "DuplicateName") "__init__",
  tyB K (ga K "DuplicateName") "type",
  decide (PySem.W.exmAny K (.ref (ga K "DuplicateName")) [.ref (ga K "LogError"), .ref (ga K "Missing"), .ref (ga K "NothingLeft")] = some true),
  oxB K (ga K "InvalidStep") "ValueError.__new__" [.type "ValueError", .type "Exception", .type "BaseException", .type "object"] ("code" :: ["process", "index"]) (ma K (ga K "InvalidStep") "__init__"),
  atB K (ga K "InvalidStep") "__init__",
  tyB K (ga K "InvalidStep") "type",
  decide (PySem.W.exmAny K (.ref (ga K "InvalidStep")) [.ref (ga K "LogError"), .ref (ga K "Missing"), .ref (ga K "NothingLeft")] = some true),
  oxB K (ga K "DuplicateMessage") "ValueError.__new__" [.type "ValueError", .type "Exception", .type "BaseException", .type "object"] ("code" :: ["message"]) (ma K (ga K "DuplicateMessage") "__init__"),
  atB K (ga K "DuplicateMessage") "__init__",
  tyB K (ga K "DuplicateMessage") "type",
  decide (PySem.W.exmAny K (.ref (ga K "DuplicateMessage")) [.ref (ga K "LogError"), .ref (ga K "Missing"), .ref (ga K "NothingLeft")] = some true),
  oxB K (ga K "Unsent") "ValueError.__new__" [.type "ValueError", .type "Exception", .type "BaseException", .type "object"] ("code" :: ["message"]) (ma K (ga K "Unsent") "__init__"),
  atB K (ga K "Unsent") "__init__",
  tyB K (ga K "Unsent") "type",
  decide (PySem.W.exmAny K (.ref (ga K "Unsent")) [.ref (ga K "LogError"), .ref (ga K "Missing"), .ref (ga K "NothingLeft")] = some true),
  oxB K (ga K "Ring") "ValueError.__new__" [.type "ValueError", .type "Exception", .type "BaseException", .type "object"] ("code" :: ["process"]) (ma K (ga K "Ring") "__init__"),
  atB K (ga K "Ring") "__init__"]
def ex2 (K : Fr) : List Bool := [tyB K (ga K "Ring") "type",
  decide (PySem.W.exmAny K (.ref (ga K "Ring")) [.ref (ga K "LogError"), .ref (ga K "Missing"), .ref (ga K "NothingLeft")] = some true),
  oxB K (ga K "TooMany") "ValueError.__new__" [.type "ValueError", .type "Exception", .type "BaseException", .type "object"] ("code" :: ["subject", "most"]) (ma K (ga K "TooMany") "__init__"),
  atB K (ga K "TooMany") "__init__",
  tyB K (ga K "TooMany") "type",
  decide (PySem.W.exmAny K (.ref (ga K "TooMany")) [.ref (ga K "LogError"), .ref (ga K "Missing"), .ref (ga K "NothingLeft")] = some true),
  oxB K (ga K "InvalidText") "ValueError.__new__" [.type "ValueError", .type "Exception", .type "BaseException", .type "object"] ("code" :: ["at"]) (ma K (ga K "InvalidText") "__init__"),
  atB K (ga K "InvalidText") "__init__",
  tyB K (ga K "InvalidText") "type",
  decide (PySem.W.exmAny K (.ref (ga K "InvalidText")) [.ref (ga K "LogError"), .ref (ga K "Missing"), .ref (ga K "NothingLeft")] = some true),
  oxB K (ga K "UnknownProcess") "LookupError.__new__" [.type "LookupError", .type "Exception", .type "BaseException", .type "object"] ("code" :: ["name"]) (ma K (ga K "UnknownProcess") "__init__"),
  atB K (ga K "UnknownProcess") "__init__",
  tyB K (ga K "UnknownProcess") "type",
  decide (PySem.W.exmAny K (.ref (ga K "UnknownProcess")) [.ref (ga K "LogError"), .ref (ga K "Missing"), .ref (ga K "NothingLeft")] = some true),
  ownB K (ga K "Log"),
  atB K (ga K "Log") "__init__",
  isFnB K (ma K (ga K "Log") "__init__"),
  eqO (PySem.W.findIn K (.ref (ga K "Log")) "__ne__") (some (some (.builtin "object.__ne__"))),
  noAtB K (ga K "Log") "_rows",
  noAtB K (ga K "Log") "_order"]
def ex3 (K : Fr) : List Bool := [cvB K (ga K "Log") "PROCESSES" 6,
  cvB K (ga K "Log") "STEPS" 20,
  atB K (ga K "Log") "rows",
  isFnB K (ma K (ga K "Log") "rows"),
  atB K (ga K "Log") "processes",
  isFnB K (ma K (ga K "Log") "processes"),
  atB K (ga K "Log") "row",
  isFnB K (ma K (ga K "Log") "row"),
  atB K (ga K "Log") "lengths",
  isFnB K (ma K (ga K "Log") "lengths"),
  atB K (ga K "Log") "text",
  isFnB K (ma K (ga K "Log") "text"),
  cmB K (ga K "Log") "read",
  atB K (ga K "Log") "with_step",
  isFnB K (ma K (ga K "Log") "with_step"),
  atB K (ga K "Log") "with_process",
  isFnB K (ma K (ga K "Log") "with_process"),
  atB K (ga K "Log") "__eq__",
  isFnB K (ma K (ga K "Log") "__eq__"),
  atB K (ga K "Log") "__len__"]
def ex4 (K : Fr) : List Bool := [isFnB K (ma K (ga K "Log") "__len__"),
  atB K (ga K "Log") "__str__",
  isFnB K (ma K (ga K "Log") "__str__"),
  glB K "is_name",
  glB K "is_word",
  glB K "is_number",
  glB K "is_step",
  glB K "step_text",
  glB K "read_step",
  glB K "read_number",
  glB K "_consists_of",
  glB K "_is_deed",
  glB K "_split_deed",
  glB K "_check_rows",
  glB K "_is_row",
  glB K "_check_steps",
  glB K "_check_messages",
  glB K "_check_ends",
  glB K "_names",
  glB K "_deeds"]
def ex5 (K : Fr) : List Bool := [glB K "_first_unsent",
  glB K "_order_of",
  glB K "_first_ready",
  glB K "_can_be_made",
  glB K "_row_text",
  glB K "read_row",
  glB K "_law_bag",
  glB K "_law_draw",
  glB K "_law_of",
  glB K "_law_mixed",
  glB K "_law_same",
  glB K "_law_field",
  glB K "_law_other_field",
  glB K "_law_got",
  glB K "_law_why",
  glB K "_law_whys",
  glB K "_law_odd",
  glB K "_law_marks",
  glB K "_law_step",
  glB K "_law_rows"]
def ex6 (K : Fr) : List Bool := [glB K "_law_log",
  glB K "_law_lengths",
  glB K "_law_deeds",
  glB K "law",
  glB K "DEEDS",
  datB K (.tuple [(.tuple [(.str "send"), (.str "!")]), (.tuple [(.str "receive"), (.str "?")])]) (.ref (ga K "DEEDS")),
  constB K "DIGITS" (.str "0123456789"),
  constB K "LEAST" (.int (-99)),
  constB K "LETTERS" (.str "abcdefghijklmnopqrstuvwxyz"),
  constB K "MOST" (.int 99),
  constB K "NAME_LENGTH" (.int 6),
  constB K "WORD_LENGTH" (.int 4),
  noGlB K "all",
  noGlB K "bool",
  noGlB K "enumerate",
  noGlB K "int",
  noGlB K "isinstance",
  noGlB K "len",
  noGlB K "list",
  noGlB K "range"]
def ex7 (K : Fr) : List Bool := [noGlB K "str",
  noGlB K "sum",
  noGlB K "tuple",
  noGlB K "zip"]
def exB (K : Fr) : Bool := [(ex0 K).all id, (ex1 K).all id, (ex2 K).all id, (ex3 K).all id, (ex4 K).all id, (ex5 K).all id, (ex6 K).all id, (ex7 K).all id].all id
def tfR : List Defn := [("law", none)]
abbrev hkR : PySem.W.Hook := hookM 3 dfA tfR exB
def obR (s : PySem.W.SharedT) : ObsM := obsM 3 dfA tfR exB (HandSHeadRun.getT s)
theorem obR_eq (s : PySem.W.SharedT) : obR s = hkR.obs s.abs := obsM_eq (HandSHeadRun.getT_eq s)
theorem runR (w : World) : HandSHeadRun.RunEq rowR viewR hkR obR 10000 looseR w := by
  intro os
  kernel_rfl
theorem top_mk {K : Fr} {h : Heap} {mg : Str → Option Value} (X : K.In h) (G : h.Ns mainGlobals mg) (dd : He5.SaysA [] dfA K) (ex : exB K = true) : ∃ A : Top, TopOk K mg A ∧ A.f_law = ga K "law" ∧ A.d_law.code = .ref (cT K ("law", none)).1 ∧ ∀ (s : Shared) (v : Value), BindsTo s A.d_law ⟨[v], []⟩ [("_law_script", v)] := by
  obtain ⟨fd_i_InvalidName, D_i_InvalidName⟩ := dd.def_ 0 (d := dfA.getD 0 ⟨fun _ => 0, "", "", ⟨[], [], none, [], [], none, []⟩, [], ⟨.function, [], false, false, []⟩, [], []⟩) rfl
  have F_i_InvalidName : Fun K "__init__" "InvalidName.__init__" s_i_InvalidName (ma K (ga K "InvalidName") "__init__") fd_i_InvalidName := He5.fun_of (st := s_i_InvalidName) D_i_InvalidName
  have O_InvalidName := oxB_ok gVE (all_at (all_at ex 0 rfl) 14 rfl)
  obtain ⟨fd_i_InvalidRow, D_i_InvalidRow⟩ := dd.def_ 1 (d := dfA.getD 1 ⟨fun _ => 0, "", "", ⟨[], [], none, [], [], none, []⟩, [], ⟨.function, [], false, false, []⟩, [], []⟩) rfl
  have F_i_InvalidRow : Fun K "__init__" "InvalidRow.__init__" s_i_InvalidRow (ma K (ga K "InvalidRow") "__init__") fd_i_InvalidRow := He5.fun_of (st := s_i_InvalidRow) D_i_InvalidRow
  have O_InvalidRow := oxB_ok gVE (all_at (all_at ex 0 rfl) 18 rfl)
  obtain ⟨fd_i_DuplicateName, D_i_DuplicateName⟩ := dd.def_ 2 (d := dfA.getD 2 ⟨fun _ => 0, "", "", ⟨[], [], none, [], [], none, []⟩, [], ⟨.function, [], false, false, []⟩, [], []⟩) rfl
  have F_i_DuplicateName : Fun K "__init__" "DuplicateName.__init__" s_i_DuplicateName (ma K (ga K "DuplicateName") "__init__") fd_i_DuplicateName := He5.fun_of (st := s_i_DuplicateName) D_i_DuplicateName
  have O_DuplicateName := oxB_ok gVE (all_at (all_at ex 1 rfl) 2 rfl)
  obtain ⟨fd_i_InvalidStep, D_i_InvalidStep⟩ := dd.def_ 3 (d := dfA.getD 3 ⟨fun _ => 0, "", "", ⟨[], [], none, [], [], none, []⟩, [], ⟨.function, [], false, false, []⟩, [], []⟩) rfl
  have F_i_InvalidStep : Fun K "__init__" "InvalidStep.__init__" s_i_InvalidStep (ma K (ga K "InvalidStep") "__init__") fd_i_InvalidStep := He5.fun_of (st := s_i_InvalidStep) D_i_InvalidStep
  have O_InvalidStep := oxB_ok gVE (all_at (all_at ex 1 rfl) 6 rfl)
  obtain ⟨fd_i_DuplicateMessage, D_i_DuplicateMessage⟩ := dd.def_ 4 (d := dfA.getD 4 ⟨fun _ => 0, "", "", ⟨[], [], none, [], [], none, []⟩, [], ⟨.function, [], false, false, []⟩, [], []⟩) rfl
  have F_i_DuplicateMessage : Fun K "__init__" "DuplicateMessage.__init__" s_i_DuplicateMessage (ma K (ga K "DuplicateMessage") "__init__") fd_i_DuplicateMessage := He5.fun_of (st := s_i_DuplicateMessage) D_i_DuplicateMessage
  have O_DuplicateMessage := oxB_ok gVE (all_at (all_at ex 1 rfl) 10 rfl)
  obtain ⟨fd_i_Unsent, D_i_Unsent⟩ := dd.def_ 5 (d := dfA.getD 5 ⟨fun _ => 0, "", "", ⟨[], [], none, [], [], none, []⟩, [], ⟨.function, [], false, false, []⟩, [], []⟩) rfl
  have F_i_Unsent : Fun K "__init__" "Unsent.__init__" s_i_Unsent (ma K (ga K "Unsent") "__init__") fd_i_Unsent := He5.fun_of (st := s_i_Unsent) D_i_Unsent
  have O_Unsent := oxB_ok gVE (all_at (all_at ex 1 rfl) 14 rfl)
  obtain ⟨fd_i_Ring, D_i_Ring⟩ := dd.def_ 6 (d := dfA.getD 6 ⟨fun _ => 0, "", "", ⟨[], [], none, [], [], none, []⟩, [], ⟨.function, [], false, false, []⟩, [], []⟩) rfl
  have F_i_Ring : Fun K "__init__" "Ring.__init__" s_i_Ring (ma K (ga K "Ring") "__init__") fd_i_Ring := He5.fun_of (st := s_i_Ring) D_i_Ring
  have O_Ring := oxB_ok gVE (all_at (all_at ex 1 rfl) 18 rfl)
  obtain ⟨fd_i_TooMany, D_i_TooMany⟩ := dd.def_ 7 (d := dfA.getD 7 ⟨fun _ => 0, "", "", ⟨[], [], none, [], [], none, []⟩, [], ⟨.function, [], false, false, []⟩, [], []⟩) rfl
  have F_i_TooMany : Fun K "__init__" "TooMany.__init__" s_i_TooMany (ma K (ga K "TooMany") "__init__") fd_i_TooMany := He5.fun_of (st := s_i_TooMany) D_i_TooMany
  have O_TooMany := oxB_ok gVE (all_at (all_at ex 2 rfl) 2 rfl)
  obtain ⟨fd_i_InvalidText, D_i_InvalidText⟩ := dd.def_ 8 (d := dfA.getD 8 ⟨fun _ => 0, "", "", ⟨[], [], none, [], [], none, []⟩, [], ⟨.function, [], false, false, []⟩, [], []⟩) rfl
  have F_i_InvalidText : Fun K "__init__" "InvalidText.__init__" s_i_InvalidText (ma K (ga K "InvalidText") "__init__") fd_i_InvalidText := He5.fun_of (st := s_i_InvalidText) D_i_InvalidText
  have O_InvalidText := oxB_ok gVE (all_at (all_at ex 2 rfl) 6 rfl)
  obtain ⟨fd_i_UnknownProcess, D_i_UnknownProcess⟩ := dd.def_ 9 (d := dfA.getD 9 ⟨fun _ => 0, "", "", ⟨[], [], none, [], [], none, []⟩, [], ⟨.function, [], false, false, []⟩, [], []⟩) rfl
  have F_i_UnknownProcess : Fun K "__init__" "UnknownProcess.__init__" s_i_UnknownProcess (ma K (ga K "UnknownProcess") "__init__") fd_i_UnknownProcess := He5.fun_of (st := s_i_UnknownProcess) D_i_UnknownProcess
  have O_UnknownProcess := oxB_ok gLE (all_at (all_at ex 2 rfl) 10 rfl)
  have W_Log := own_ok (all_at (all_at ex 2 rfl) 14 rfl)
  obtain ⟨fd_i_Log, D_i_Log⟩ := dd.def_ 10 (d := dfA.getD 10 ⟨fun _ => 0, "", "", ⟨[], [], none, [], [], none, []⟩, [], ⟨.function, [], false, false, []⟩, [], []⟩) rfl
  have F_i_Log : Fun K "__init__" "Log.__init__" s_i_Log (ma K (ga K "Log") "__init__") fd_i_Log := He5.fun_of (st := s_i_Log) D_i_Log
  obtain ⟨fd_Log_rows, D_Log_rows⟩ := dd.def_ 11 (d := dfA.getD 11 ⟨fun _ => 0, "", "", ⟨[], [], none, [], [], none, []⟩, [], ⟨.function, [], false, false, []⟩, [], []⟩) rfl
  have F_Log_rows : Fun K "rows" "Log.rows" s_Log_rows (ma K (ga K "Log") "rows") fd_Log_rows := He5.fun_of (st := s_Log_rows) D_Log_rows
  obtain ⟨fd_Log_processes, D_Log_processes⟩ := dd.def_ 12 (d := dfA.getD 12 ⟨fun _ => 0, "", "", ⟨[], [], none, [], [], none, []⟩, [], ⟨.function, [], false, false, []⟩, [], []⟩) rfl
  have F_Log_processes : Fun K "processes" "Log.processes" s_Log_processes (ma K (ga K "Log") "processes") fd_Log_processes := He5.fun_of (st := s_Log_processes) D_Log_processes
  obtain ⟨fd_Log_row, D_Log_row⟩ := dd.def_ 13 (d := dfA.getD 13 ⟨fun _ => 0, "", "", ⟨[], [], none, [], [], none, []⟩, [], ⟨.function, [], false, false, []⟩, [], []⟩) rfl
  have F_Log_row : Fun K "row" "Log.row" s_Log_row (ma K (ga K "Log") "row") fd_Log_row := He5.fun_of (st := s_Log_row) D_Log_row
  obtain ⟨fd_Log_lengths, D_Log_lengths⟩ := dd.def_ 14 (d := dfA.getD 14 ⟨fun _ => 0, "", "", ⟨[], [], none, [], [], none, []⟩, [], ⟨.function, [], false, false, []⟩, [], []⟩) rfl
  have F_Log_lengths : Fun K "lengths" "Log.lengths" s_Log_lengths (ma K (ga K "Log") "lengths") fd_Log_lengths := He5.fun_of (st := s_Log_lengths) D_Log_lengths
  obtain ⟨fd_Log_text, D_Log_text⟩ := dd.def_ 15 (d := dfA.getD 15 ⟨fun _ => 0, "", "", ⟨[], [], none, [], [], none, []⟩, [], ⟨.function, [], false, false, []⟩, [], []⟩) rfl
  have F_Log_text : Fun K "text" "Log.text" s_Log_text (ma K (ga K "Log") "text") fd_Log_text := He5.fun_of (st := s_Log_text) D_Log_text
  obtain ⟨fd_Log_read, D_Log_read⟩ := dd.def_ 16 (d := dfA.getD 16 ⟨fun _ => 0, "", "", ⟨[], [], none, [], [], none, []⟩, [], ⟨.function, [], false, false, []⟩, [], []⟩) rfl
  have F_Log_read : Fun K "read" "Log.read" s_Log_read (He5.wf K (ga K "Log") "classmethod" "read") fd_Log_read := He5.fun_of (st := s_Log_read) D_Log_read
  obtain ⟨fd_Log_with_step, D_Log_with_step⟩ := dd.def_ 17 (d := dfA.getD 17 ⟨fun _ => 0, "", "", ⟨[], [], none, [], [], none, []⟩, [], ⟨.function, [], false, false, []⟩, [], []⟩) rfl
  have F_Log_with_step : Fun K "with_step" "Log.with_step" s_Log_with_step (ma K (ga K "Log") "with_step") fd_Log_with_step := He5.fun_of (st := s_Log_with_step) D_Log_with_step
  obtain ⟨fd_Log_with_process, D_Log_with_process⟩ := dd.def_ 18 (d := dfA.getD 18 ⟨fun _ => 0, "", "", ⟨[], [], none, [], [], none, []⟩, [], ⟨.function, [], false, false, []⟩, [], []⟩) rfl
  have F_Log_with_process : Fun K "with_process" "Log.with_process" s_Log_with_process (ma K (ga K "Log") "with_process") fd_Log_with_process := He5.fun_of (st := s_Log_with_process) D_Log_with_process
  obtain ⟨fd_Log_eq, D_Log_eq⟩ := dd.def_ 19 (d := dfA.getD 19 ⟨fun _ => 0, "", "", ⟨[], [], none, [], [], none, []⟩, [], ⟨.function, [], false, false, []⟩, [], []⟩) rfl
  have F_Log_eq : Fun K "__eq__" "Log.__eq__" s_Log_eq (ma K (ga K "Log") "__eq__") fd_Log_eq := He5.fun_of (st := s_Log_eq) D_Log_eq
  obtain ⟨fd_Log_len, D_Log_len⟩ := dd.def_ 20 (d := dfA.getD 20 ⟨fun _ => 0, "", "", ⟨[], [], none, [], [], none, []⟩, [], ⟨.function, [], false, false, []⟩, [], []⟩) rfl
  have F_Log_len : Fun K "__len__" "Log.__len__" s_Log_len (ma K (ga K "Log") "__len__") fd_Log_len := He5.fun_of (st := s_Log_len) D_Log_len
  obtain ⟨fd_Log_str, D_Log_str⟩ := dd.def_ 21 (d := dfA.getD 21 ⟨fun _ => 0, "", "", ⟨[], [], none, [], [], none, []⟩, [], ⟨.function, [], false, false, []⟩, [], []⟩) rfl
  have F_Log_str : Fun K "__str__" "Log.__str__" s_Log_str (ma K (ga K "Log") "__str__") fd_Log_str := He5.fun_of (st := s_Log_str) D_Log_str
  obtain ⟨fd_is_name, D_is_name⟩ := dd.def_ 22 (d := dfA.getD 22 ⟨fun _ => 0, "", "", ⟨[], [], none, [], [], none, []⟩, [], ⟨.function, [], false, false, []⟩, [], []⟩) rfl
  have F_is_name : Fun K "is_name" "is_name" s_is_name (ga K "is_name") fd_is_name := He5.fun_of (st := s_is_name) D_is_name
  obtain ⟨fd_is_word, D_is_word⟩ := dd.def_ 23 (d := dfA.getD 23 ⟨fun _ => 0, "", "", ⟨[], [], none, [], [], none, []⟩, [], ⟨.function, [], false, false, []⟩, [], []⟩) rfl
  have F_is_word : Fun K "is_word" "is_word" s_is_word (ga K "is_word") fd_is_word := He5.fun_of (st := s_is_word) D_is_word
  obtain ⟨fd_is_number, D_is_number⟩ := dd.def_ 24 (d := dfA.getD 24 ⟨fun _ => 0, "", "", ⟨[], [], none, [], [], none, []⟩, [], ⟨.function, [], false, false, []⟩, [], []⟩) rfl
  have F_is_number : Fun K "is_number" "is_number" s_is_number (ga K "is_number") fd_is_number := He5.fun_of (st := s_is_number) D_is_number
  obtain ⟨fd_is_step, D_is_step⟩ := dd.def_ 25 (d := dfA.getD 25 ⟨fun _ => 0, "", "", ⟨[], [], none, [], [], none, []⟩, [], ⟨.function, [], false, false, []⟩, [], []⟩) rfl
  have F_is_step : Fun K "is_step" "is_step" s_is_step (ga K "is_step") fd_is_step := He5.fun_of (st := s_is_step) D_is_step
  obtain ⟨fd_step_text, D_step_text⟩ := dd.def_ 26 (d := dfA.getD 26 ⟨fun _ => 0, "", "", ⟨[], [], none, [], [], none, []⟩, [], ⟨.function, [], false, false, []⟩, [], []⟩) rfl
  have F_step_text : Fun K "step_text" "step_text" s_step_text (ga K "step_text") fd_step_text := He5.fun_of (st := s_step_text) D_step_text
  obtain ⟨fd_read_step, D_read_step⟩ := dd.def_ 27 (d := dfA.getD 27 ⟨fun _ => 0, "", "", ⟨[], [], none, [], [], none, []⟩, [], ⟨.function, [], false, false, []⟩, [], []⟩) rfl
  have F_read_step : Fun K "read_step" "read_step" s_read_step (ga K "read_step") fd_read_step := He5.fun_of (st := s_read_step) D_read_step
  obtain ⟨fd_read_number, D_read_number⟩ := dd.def_ 28 (d := dfA.getD 28 ⟨fun _ => 0, "", "", ⟨[], [], none, [], [], none, []⟩, [], ⟨.function, [], false, false, []⟩, [], []⟩) rfl
  have F_read_number : Fun K "read_number" "read_number" s_read_number (ga K "read_number") fd_read_number := He5.fun_of (st := s_read_number) D_read_number
  obtain ⟨fd_consists_of, D_consists_of⟩ := dd.def_ 29 (d := dfA.getD 29 ⟨fun _ => 0, "", "", ⟨[], [], none, [], [], none, []⟩, [], ⟨.function, [], false, false, []⟩, [], []⟩) rfl
  have F_consists_of : Fun K "_consists_of" "_consists_of" s_consists_of (ga K "_consists_of") fd_consists_of := He5.fun_of (st := s_consists_of) D_consists_of
  obtain ⟨fd_is_deed, D_is_deed⟩ := dd.def_ 30 (d := dfA.getD 30 ⟨fun _ => 0, "", "", ⟨[], [], none, [], [], none, []⟩, [], ⟨.function, [], false, false, []⟩, [], []⟩) rfl
  have F_is_deed : Fun K "_is_deed" "_is_deed" s_is_deed (ga K "_is_deed") fd_is_deed := He5.fun_of (st := s_is_deed) D_is_deed
  obtain ⟨fd_split_deed, D_split_deed⟩ := dd.def_ 31 (d := dfA.getD 31 ⟨fun _ => 0, "", "", ⟨[], [], none, [], [], none, []⟩, [], ⟨.function, [], false, false, []⟩, [], []⟩) rfl
  have F_split_deed : Fun K "_split_deed" "_split_deed" s_split_deed (ga K "_split_deed") fd_split_deed := He5.fun_of (st := s_split_deed) D_split_deed
  obtain ⟨fd_check_rows, D_check_rows⟩ := dd.def_ 32 (d := dfA.getD 32 ⟨fun _ => 0, "", "", ⟨[], [], none, [], [], none, []⟩, [], ⟨.function, [], false, false, []⟩, [], []⟩) rfl
  have F_check_rows : Fun K "_check_rows" "_check_rows" s_check_rows (ga K "_check_rows") fd_check_rows := He5.fun_of (st := s_check_rows) D_check_rows
  obtain ⟨fd_is_row, D_is_row⟩ := dd.def_ 33 (d := dfA.getD 33 ⟨fun _ => 0, "", "", ⟨[], [], none, [], [], none, []⟩, [], ⟨.function, [], false, false, []⟩, [], []⟩) rfl
  have F_is_row : Fun K "_is_row" "_is_row" s_is_row (ga K "_is_row") fd_is_row := He5.fun_of (st := s_is_row) D_is_row
  obtain ⟨fd_check_steps, D_check_steps⟩ := dd.def_ 34 (d := dfA.getD 34 ⟨fun _ => 0, "", "", ⟨[], [], none, [], [], none, []⟩, [], ⟨.function, [], false, false, []⟩, [], []⟩) rfl
  have F_check_steps : Fun K "_check_steps" "_check_steps" s_check_steps (ga K "_check_steps") fd_check_steps := He5.fun_of (st := s_check_steps) D_check_steps
  obtain ⟨fd_check_messages, D_check_messages⟩ := dd.def_ 35 (d := dfA.getD 35 ⟨fun _ => 0, "", "", ⟨[], [], none, [], [], none, []⟩, [], ⟨.function, [], false, false, []⟩, [], []⟩) rfl
  have F_check_messages : Fun K "_check_messages" "_check_messages" s_check_messages (ga K "_check_messages") fd_check_messages := He5.fun_of (st := s_check_messages) D_check_messages
  obtain ⟨fd_check_ends, D_check_ends⟩ := dd.def_ 36 (d := dfA.getD 36 ⟨fun _ => 0, "", "", ⟨[], [], none, [], [], none, []⟩, [], ⟨.function, [], false, false, []⟩, [], []⟩) rfl
  have F_check_ends : Fun K "_check_ends" "_check_ends" s_check_ends (ga K "_check_ends") fd_check_ends := He5.fun_of (st := s_check_ends) D_check_ends
  obtain ⟨fd_names, D_names⟩ := dd.def_ 37 (d := dfA.getD 37 ⟨fun _ => 0, "", "", ⟨[], [], none, [], [], none, []⟩, [], ⟨.function, [], false, false, []⟩, [], []⟩) rfl
  have F_names : Fun K "_names" "_names" s_names (ga K "_names") fd_names := He5.fun_of (st := s_names) D_names
  obtain ⟨fd_deeds, D_deeds⟩ := dd.def_ 38 (d := dfA.getD 38 ⟨fun _ => 0, "", "", ⟨[], [], none, [], [], none, []⟩, [], ⟨.function, [], false, false, []⟩, [], []⟩) rfl
  have F_deeds : Fun K "_deeds" "_deeds" s_deeds (ga K "_deeds") fd_deeds := He5.fun_of (st := s_deeds) D_deeds
  obtain ⟨fd_first_unsent, D_first_unsent⟩ := dd.def_ 39 (d := dfA.getD 39 ⟨fun _ => 0, "", "", ⟨[], [], none, [], [], none, []⟩, [], ⟨.function, [], false, false, []⟩, [], []⟩) rfl
  have F_first_unsent : Fun K "_first_unsent" "_first_unsent" s_first_unsent (ga K "_first_unsent") fd_first_unsent := He5.fun_of (st := s_first_unsent) D_first_unsent
  obtain ⟨fd_order_of, D_order_of⟩ := dd.def_ 40 (d := dfA.getD 40 ⟨fun _ => 0, "", "", ⟨[], [], none, [], [], none, []⟩, [], ⟨.function, [], false, false, []⟩, [], []⟩) rfl
  have F_order_of : Fun K "_order_of" "_order_of" s_order_of (ga K "_order_of") fd_order_of := He5.fun_of (st := s_order_of) D_order_of
  obtain ⟨fd_first_ready, D_first_ready⟩ := dd.def_ 41 (d := dfA.getD 41 ⟨fun _ => 0, "", "", ⟨[], [], none, [], [], none, []⟩, [], ⟨.function, [], false, false, []⟩, [], []⟩) rfl
  have F_first_ready : Fun K "_first_ready" "_first_ready" s_first_ready (ga K "_first_ready") fd_first_ready := He5.fun_of (st := s_first_ready) D_first_ready
  obtain ⟨fd_can_be_made, D_can_be_made⟩ := dd.def_ 42 (d := dfA.getD 42 ⟨fun _ => 0, "", "", ⟨[], [], none, [], [], none, []⟩, [], ⟨.function, [], false, false, []⟩, [], []⟩) rfl
  have F_can_be_made : Fun K "_can_be_made" "_can_be_made" s_can_be_made (ga K "_can_be_made") fd_can_be_made := He5.fun_of (st := s_can_be_made) D_can_be_made
  obtain ⟨fd_row_text, D_row_text⟩ := dd.def_ 43 (d := dfA.getD 43 ⟨fun _ => 0, "", "", ⟨[], [], none, [], [], none, []⟩, [], ⟨.function, [], false, false, []⟩, [], []⟩) rfl
  have F_row_text : Fun K "_row_text" "_row_text" s_row_text (ga K "_row_text") fd_row_text := He5.fun_of (st := s_row_text) D_row_text
  obtain ⟨fd_read_row, D_read_row⟩ := dd.def_ 44 (d := dfA.getD 44 ⟨fun _ => 0, "", "", ⟨[], [], none, [], [], none, []⟩, [], ⟨.function, [], false, false, []⟩, [], []⟩) rfl
  have F_read_row : Fun K "read_row" "read_row" s_read_row (ga K "read_row") fd_read_row := He5.fun_of (st := s_read_row) D_read_row
  obtain ⟨fd_Lbag, D_Lbag⟩ := dd.def_ 45 (d := dfA.getD 45 ⟨fun _ => 0, "", "", ⟨[], [], none, [], [], none, []⟩, [], ⟨.function, [], false, false, []⟩, [], []⟩) rfl
  have F_Lbag : Fun K "_law_bag" "_law_bag" s_Lbag (ga K "_law_bag") fd_Lbag := He5.fun_of (st := s_Lbag) D_Lbag
  obtain ⟨fd_Ldraw, D_Ldraw⟩ := dd.def_ 46 (d := dfA.getD 46 ⟨fun _ => 0, "", "", ⟨[], [], none, [], [], none, []⟩, [], ⟨.function, [], false, false, []⟩, [], []⟩) rfl
  have F_Ldraw : Fun K "_law_draw" "_law_draw" s_Ldraw (ga K "_law_draw") fd_Ldraw := He5.fun_of (st := s_Ldraw) D_Ldraw
  obtain ⟨fd_Lof, D_Lof⟩ := dd.def_ 47 (d := dfA.getD 47 ⟨fun _ => 0, "", "", ⟨[], [], none, [], [], none, []⟩, [], ⟨.function, [], false, false, []⟩, [], []⟩) rfl
  have F_Lof : Fun K "_law_of" "_law_of" s_Lof (ga K "_law_of") fd_Lof := He5.fun_of (st := s_Lof) D_Lof
  obtain ⟨fd_Lmixed, D_Lmixed⟩ := dd.def_ 48 (d := dfA.getD 48 ⟨fun _ => 0, "", "", ⟨[], [], none, [], [], none, []⟩, [], ⟨.function, [], false, false, []⟩, [], []⟩) rfl
  have F_Lmixed : Fun K "_law_mixed" "_law_mixed" s_Lmixed (ga K "_law_mixed") fd_Lmixed := He5.fun_of (st := s_Lmixed) D_Lmixed
  obtain ⟨fd_Lsame, D_Lsame⟩ := dd.def_ 49 (d := dfA.getD 49 ⟨fun _ => 0, "", "", ⟨[], [], none, [], [], none, []⟩, [], ⟨.function, [], false, false, []⟩, [], []⟩) rfl
  have F_Lsame : Fun K "_law_same" "_law_same" s_Lsame (ga K "_law_same") fd_Lsame := He5.fun_of (st := s_Lsame) D_Lsame
  obtain ⟨fd_Lfield, D_Lfield⟩ := dd.def_ 50 (d := dfA.getD 50 ⟨fun _ => 0, "", "", ⟨[], [], none, [], [], none, []⟩, [], ⟨.function, [], false, false, []⟩, [], []⟩) rfl
  have F_Lfield : Fun K "_law_field" "_law_field" s_Lfield (ga K "_law_field") fd_Lfield := He5.fun_of (st := s_Lfield) D_Lfield
  obtain ⟨fd_Lother_field, D_Lother_field⟩ := dd.def_ 51 (d := dfA.getD 51 ⟨fun _ => 0, "", "", ⟨[], [], none, [], [], none, []⟩, [], ⟨.function, [], false, false, []⟩, [], []⟩) rfl
  have F_Lother_field : Fun K "_law_other_field" "_law_other_field" s_Lother_field (ga K "_law_other_field") fd_Lother_field := He5.fun_of (st := s_Lother_field) D_Lother_field
  obtain ⟨fd_Lgot, D_Lgot⟩ := dd.def_ 52 (d := dfA.getD 52 ⟨fun _ => 0, "", "", ⟨[], [], none, [], [], none, []⟩, [], ⟨.function, [], false, false, []⟩, [], []⟩) rfl
  have F_Lgot : Fun K "_law_got" "_law_got" s_Lgot (ga K "_law_got") fd_Lgot := He5.fun_of (st := s_Lgot) D_Lgot
  obtain ⟨fd_Lwhy, D_Lwhy⟩ := dd.def_ 53 (d := dfA.getD 53 ⟨fun _ => 0, "", "", ⟨[], [], none, [], [], none, []⟩, [], ⟨.function, [], false, false, []⟩, [], []⟩) rfl
  have F_Lwhy : Fun K "_law_why" "_law_why" s_Lwhy (ga K "_law_why") fd_Lwhy := He5.fun_of (st := s_Lwhy) D_Lwhy
  obtain ⟨fd_Lwhys, D_Lwhys⟩ := dd.def_ 54 (d := dfA.getD 54 ⟨fun _ => 0, "", "", ⟨[], [], none, [], [], none, []⟩, [], ⟨.function, [], false, false, []⟩, [], []⟩) rfl
  have F_Lwhys : Fun K "_law_whys" "_law_whys" s_Lwhys (ga K "_law_whys") fd_Lwhys := He5.fun_of (st := s_Lwhys) D_Lwhys
  obtain ⟨fd_Lodd, D_Lodd⟩ := dd.def_ 55 (d := dfA.getD 55 ⟨fun _ => 0, "", "", ⟨[], [], none, [], [], none, []⟩, [], ⟨.function, [], false, false, []⟩, [], []⟩) rfl
  have F_Lodd : Fun K "_law_odd" "_law_odd" s_Lodd (ga K "_law_odd") fd_Lodd := He5.fun_of (st := s_Lodd) D_Lodd
  obtain ⟨fd_Lmarks, D_Lmarks⟩ := dd.def_ 56 (d := dfA.getD 56 ⟨fun _ => 0, "", "", ⟨[], [], none, [], [], none, []⟩, [], ⟨.function, [], false, false, []⟩, [], []⟩) rfl
  have F_Lmarks : Fun K "_law_marks" "_law_marks" s_Lmarks (ga K "_law_marks") fd_Lmarks := He5.fun_of (st := s_Lmarks) D_Lmarks
  obtain ⟨fd_Lstep, D_Lstep⟩ := dd.def_ 57 (d := dfA.getD 57 ⟨fun _ => 0, "", "", ⟨[], [], none, [], [], none, []⟩, [], ⟨.function, [], false, false, []⟩, [], []⟩) rfl
  have F_Lstep : Fun K "_law_step" "_law_step" s_Lstep (ga K "_law_step") fd_Lstep := He5.fun_of (st := s_Lstep) D_Lstep
  obtain ⟨fd_Lrows, D_Lrows⟩ := dd.def_ 58 (d := dfA.getD 58 ⟨fun _ => 0, "", "", ⟨[], [], none, [], [], none, []⟩, [], ⟨.function, [], false, false, []⟩, [], []⟩) rfl
  have F_Lrows : Fun K "_law_rows" "_law_rows" s_Lrows (ga K "_law_rows") fd_Lrows := He5.fun_of (st := s_Lrows) D_Lrows
  obtain ⟨fd_Llog, D_Llog⟩ := dd.def_ 59 (d := dfA.getD 59 ⟨fun _ => 0, "", "", ⟨[], [], none, [], [], none, []⟩, [], ⟨.function, [], false, false, []⟩, [], []⟩) rfl
  have F_Llog : Fun K "_law_log" "_law_log" s_Llog (ga K "_law_log") fd_Llog := He5.fun_of (st := s_Llog) D_Llog
  obtain ⟨fd_Llengths, D_Llengths⟩ := dd.def_ 60 (d := dfA.getD 60 ⟨fun _ => 0, "", "", ⟨[], [], none, [], [], none, []⟩, [], ⟨.function, [], false, false, []⟩, [], []⟩) rfl
  have F_Llengths : Fun K "_law_lengths" "_law_lengths" s_Llengths (ga K "_law_lengths") fd_Llengths := He5.fun_of (st := s_Llengths) D_Llengths
  obtain ⟨fd_Ldeeds, D_Ldeeds⟩ := dd.def_ 61 (d := dfA.getD 61 ⟨fun _ => 0, "", "", ⟨[], [], none, [], [], none, []⟩, [], ⟨.function, [], false, false, []⟩, [], []⟩) rfl
  have F_Ldeeds : Fun K "_law_deeds" "_law_deeds" s_Ldeeds (ga K "_law_deeds") fd_Ldeeds := He5.fun_of (st := s_Ldeeds) D_Ldeeds
  obtain ⟨fd_law, D_law⟩ := dd.def_ 62 (d := dfA.getD 62 ⟨fun _ => 0, "", "", ⟨[], [], none, [], [], none, []⟩, [], ⟨.function, [], false, false, []⟩, [], []⟩) rfl
  have F_law : Fun K "law" "law" s_law (ga K "law") fd_law := He5.fun_of (st := s_law) D_law
  have bl := fun (s : Shared) (v : Value) => FunD.bindsA (ps := ["_law_script"]) D_law (fun _ _ _ _ _ _ us hl => match us, hl with | [_], _ => rfl) s [v] rfl
  exact ⟨⟨ga K "DuplicateMessage",
    ga K "DuplicateName",
    ga K "InvalidName",
    ga K "InvalidRow",
    ga K "InvalidStep",
    ga K "InvalidText",
    ga K "Log",
    ga K "LogError",
    ga K "Missing",
    ga K "NothingLeft",
    ga K "Ring",
    ga K "TooMany",
    ga K "UnknownProcess",
    ga K "Unsent",
    ma K (ga K "InvalidName") "__init__",
    fd_i_InvalidName,
    ma K (ga K "InvalidRow") "__init__",
    fd_i_InvalidRow,
    ma K (ga K "DuplicateName") "__init__",
    fd_i_DuplicateName,
    ma K (ga K "InvalidStep") "__init__",
    fd_i_InvalidStep,
    ma K (ga K "DuplicateMessage") "__init__",
    fd_i_DuplicateMessage,
    ma K (ga K "Unsent") "__init__",
    fd_i_Unsent,
    ma K (ga K "Ring") "__init__",
    fd_i_Ring,
    ma K (ga K "TooMany") "__init__",
    fd_i_TooMany,
    ma K (ga K "InvalidText") "__init__",
    fd_i_InvalidText,
    ma K (ga K "UnknownProcess") "__init__",
    fd_i_UnknownProcess,
    ma K (ga K "Log") "__init__",
    fd_i_Log,
    ma K (ga K "Log") "rows",
    fd_Log_rows,
    ma K (ga K "Log") "processes",
    fd_Log_processes,
    ma K (ga K "Log") "row",
    fd_Log_row,
    ma K (ga K "Log") "lengths",
    fd_Log_lengths,
    ma K (ga K "Log") "text",
    fd_Log_text,
    He5.wf K (ga K "Log") "classmethod" "read",
    fd_Log_read,
    ma K (ga K "Log") "with_step",
    fd_Log_with_step,
    ma K (ga K "Log") "with_process",
    fd_Log_with_process,
    ma K (ga K "Log") "__eq__",
    fd_Log_eq,
    ma K (ga K "Log") "__len__",
    fd_Log_len,
    ma K (ga K "Log") "__str__",
    fd_Log_str,
    ma K (ga K "Log") "read",
    cvOf K (ga K "Log") "PROCESSES",
    cvOf K (ga K "Log") "STEPS",
    ga K "is_name",
    fd_is_name,
    ga K "is_word",
    fd_is_word,
    ga K "is_number",
    fd_is_number,
    ga K "is_step",
    fd_is_step,
    ga K "step_text",
    fd_step_text,
    ga K "read_step",
    fd_read_step,
    ga K "read_number",
    fd_read_number,
    ga K "_consists_of",
    fd_consists_of,
    ga K "_is_deed",
    fd_is_deed,
    ga K "_split_deed",
    fd_split_deed,
    ga K "_check_rows",
    fd_check_rows,
    ga K "_is_row",
    fd_is_row,
    ga K "_check_steps",
    fd_check_steps,
    ga K "_check_messages",
    fd_check_messages,
    ga K "_check_ends",
    fd_check_ends,
    ga K "_names",
    fd_names,
    ga K "_deeds",
    fd_deeds,
    ga K "_first_unsent",
    fd_first_unsent,
    ga K "_order_of",
    fd_order_of,
    ga K "_first_ready",
    fd_first_ready,
    ga K "_can_be_made",
    fd_can_be_made,
    ga K "_row_text",
    fd_row_text,
    ga K "read_row",
    fd_read_row,
    ga K "_law_bag",
    fd_Lbag,
    ga K "_law_draw",
    fd_Ldraw,
    ga K "_law_of",
    fd_Lof,
    ga K "_law_mixed",
    fd_Lmixed,
    ga K "_law_same",
    fd_Lsame,
    ga K "_law_field",
    fd_Lfield,
    ga K "_law_other_field",
    fd_Lother_field,
    ga K "_law_got",
    fd_Lgot,
    ga K "_law_why",
    fd_Lwhy,
    ga K "_law_whys",
    fd_Lwhys,
    ga K "_law_odd",
    fd_Lodd,
    ga K "_law_marks",
    fd_Lmarks,
    ga K "_law_step",
    fd_Lstep,
    ga K "_law_rows",
    fd_Lrows,
    ga K "_law_log",
    fd_Llog,
    ga K "_law_lengths",
    fd_Llengths,
    ga K "_law_deeds",
    fd_Ldeeds,
    ga K "law",
    fd_law,
    ga K "DEEDS",
    .ref (ga K "DEEDS"),
    gv K "DIGITS",
    gv K "LEAST",
    gv K "LETTERS",
    gv K "MOST",
    gv K "NAME_LENGTH",
    gv K "WORD_LENGTH"⟩, ⟨gl_ok X G (all_at (all_at ex 0 rfl) 0 rfl),
    gl_ok X G (all_at (all_at ex 0 rfl) 1 rfl),
    gl_ok X G (all_at (all_at ex 0 rfl) 2 rfl),
    gl_ok X G (all_at (all_at ex 0 rfl) 3 rfl),
    gl_ok X G (all_at (all_at ex 0 rfl) 4 rfl),
    gl_ok X G (all_at (all_at ex 0 rfl) 5 rfl),
    gl_ok X G (all_at (all_at ex 0 rfl) 6 rfl),
    gl_ok X G (all_at (all_at ex 0 rfl) 7 rfl),
    gl_ok X G (all_at (all_at ex 0 rfl) 8 rfl),
    gl_ok X G (all_at (all_at ex 0 rfl) 9 rfl),
    gl_ok X G (all_at (all_at ex 0 rfl) 10 rfl),
    gl_ok X G (all_at (all_at ex 0 rfl) 11 rfl),
    gl_ok X G (all_at (all_at ex 0 rfl) 12 rfl),
    gl_ok X G (all_at (all_at ex 0 rfl) 13 rfl),
    O_InvalidName.1,
    O_InvalidName.2.1,
    eqO_ok (all_at (all_at ex 0 rfl) 15 rfl),
    O_InvalidName.2.2,
    F_i_InvalidName,
    F_i_InvalidName.binds (ps := P_i_InvalidName) fun _ _ _ _ _ _ us hl => match us, hl with | [_, _], _ => rfl,
    of_decide_eq_true (all_at (all_at ex 0 rfl) 16 rfl),
    (all_at (all_at ex 0 rfl) 17 rfl),
    O_InvalidRow.1,
    O_InvalidRow.2.1,
    eqO_ok (all_at (all_at ex 0 rfl) 19 rfl),
    O_InvalidRow.2.2,
    F_i_InvalidRow,
    F_i_InvalidRow.binds (ps := P_i_InvalidRow) fun _ _ _ _ _ _ us hl => match us, hl with | [_, _], _ => rfl,
    of_decide_eq_true (all_at (all_at ex 1 rfl) 0 rfl),
    (all_at (all_at ex 1 rfl) 1 rfl),
    O_DuplicateName.1,
    O_DuplicateName.2.1,
    eqO_ok (all_at (all_at ex 1 rfl) 3 rfl),
    O_DuplicateName.2.2,
    F_i_DuplicateName,
    F_i_DuplicateName.binds (ps := P_i_DuplicateName) fun _ _ _ _ _ _ us hl => match us, hl with | [_, _], _ => rfl,
    of_decide_eq_true (all_at (all_at ex 1 rfl) 4 rfl),
    (all_at (all_at ex 1 rfl) 5 rfl),
    O_InvalidStep.1,
    O_InvalidStep.2.1,
    eqO_ok (all_at (all_at ex 1 rfl) 7 rfl),
    O_InvalidStep.2.2,
    F_i_InvalidStep,
    F_i_InvalidStep.binds (ps := P_i_InvalidStep) fun _ _ _ _ _ _ us hl => match us, hl with | [_, _, _], _ => rfl,
    of_decide_eq_true (all_at (all_at ex 1 rfl) 8 rfl),
    (all_at (all_at ex 1 rfl) 9 rfl),
    O_DuplicateMessage.1,
    O_DuplicateMessage.2.1,
    eqO_ok (all_at (all_at ex 1 rfl) 11 rfl),
    O_DuplicateMessage.2.2,
    F_i_DuplicateMessage,
    F_i_DuplicateMessage.binds (ps := P_i_DuplicateMessage) fun _ _ _ _ _ _ us hl => match us, hl with | [_, _], _ => rfl,
    of_decide_eq_true (all_at (all_at ex 1 rfl) 12 rfl),
    (all_at (all_at ex 1 rfl) 13 rfl),
    O_Unsent.1,
    O_Unsent.2.1,
    eqO_ok (all_at (all_at ex 1 rfl) 15 rfl),
    O_Unsent.2.2,
    F_i_Unsent,
    F_i_Unsent.binds (ps := P_i_Unsent) fun _ _ _ _ _ _ us hl => match us, hl with | [_, _], _ => rfl,
    of_decide_eq_true (all_at (all_at ex 1 rfl) 16 rfl),
    (all_at (all_at ex 1 rfl) 17 rfl),
    O_Ring.1,
    O_Ring.2.1,
    eqO_ok (all_at (all_at ex 1 rfl) 19 rfl),
    O_Ring.2.2,
    F_i_Ring,
    F_i_Ring.binds (ps := P_i_Ring) fun _ _ _ _ _ _ us hl => match us, hl with | [_, _], _ => rfl,
    of_decide_eq_true (all_at (all_at ex 2 rfl) 0 rfl),
    (all_at (all_at ex 2 rfl) 1 rfl),
    O_TooMany.1,
    O_TooMany.2.1,
    eqO_ok (all_at (all_at ex 2 rfl) 3 rfl),
    O_TooMany.2.2,
    F_i_TooMany,
    F_i_TooMany.binds (ps := P_i_TooMany) fun _ _ _ _ _ _ us hl => match us, hl with | [_, _, _], _ => rfl,
    of_decide_eq_true (all_at (all_at ex 2 rfl) 4 rfl),
    (all_at (all_at ex 2 rfl) 5 rfl),
    O_InvalidText.1,
    O_InvalidText.2.1,
    eqO_ok (all_at (all_at ex 2 rfl) 7 rfl),
    O_InvalidText.2.2,
    F_i_InvalidText,
    F_i_InvalidText.binds (ps := P_i_InvalidText) fun _ _ _ _ _ _ us hl => match us, hl with | [_, _], _ => rfl,
    of_decide_eq_true (all_at (all_at ex 2 rfl) 8 rfl),
    (all_at (all_at ex 2 rfl) 9 rfl),
    O_UnknownProcess.1,
    O_UnknownProcess.2.1,
    eqO_ok (all_at (all_at ex 2 rfl) 11 rfl),
    O_UnknownProcess.2.2,
    F_i_UnknownProcess,
    F_i_UnknownProcess.binds (ps := P_i_UnknownProcess) fun _ _ _ _ _ _ us hl => match us, hl with | [_, _], _ => rfl,
    of_decide_eq_true (all_at (all_at ex 2 rfl) 12 rfl),
    (all_at (all_at ex 2 rfl) 13 rfl),
    W_Log.cl,
    ⟨W_Log.mkr, eqO_ok (all_at (all_at ex 2 rfl) 15 rfl), (all_at (all_at ex 2 rfl) 16 rfl), W_Log.kp⟩,
    W_Log.rd,
    W_Log.ic,
    eqO_ok (all_at (all_at ex 2 rfl) 17 rfl),
    eqO_ok (all_at (all_at ex 2 rfl) 18 rfl),
    eqO_ok (all_at (all_at ex 2 rfl) 19 rfl),
    cv_ok (all_at (all_at ex 3 rfl) 0 rfl),
    cv_ok (all_at (all_at ex 3 rfl) 1 rfl),
    F_i_Log,
    F_Log_rows,
    ⟨eqO_ok (all_at (all_at ex 3 rfl) 2 rfl), (all_at (all_at ex 3 rfl) 3 rfl), F_Log_rows.kp⟩,
    F_Log_rows.binds (ps := P_Log_rows) fun _ _ _ _ _ _ us hl => match us, hl with | [_], _ => rfl,
    F_Log_processes,
    ⟨eqO_ok (all_at (all_at ex 3 rfl) 4 rfl), (all_at (all_at ex 3 rfl) 5 rfl), F_Log_processes.kp⟩,
    F_Log_processes.binds (ps := P_Log_processes) fun _ _ _ _ _ _ us hl => match us, hl with | [_], _ => rfl,
    F_Log_row,
    ⟨eqO_ok (all_at (all_at ex 3 rfl) 6 rfl), (all_at (all_at ex 3 rfl) 7 rfl), F_Log_row.kp⟩,
    F_Log_row.binds (ps := P_Log_row) fun _ _ _ _ _ _ us hl => match us, hl with | [_, _], _ => rfl,
    F_Log_lengths,
    ⟨eqO_ok (all_at (all_at ex 3 rfl) 8 rfl), (all_at (all_at ex 3 rfl) 9 rfl), F_Log_lengths.kp⟩,
    F_Log_lengths.binds (ps := P_Log_lengths) fun _ _ _ _ _ _ us hl => match us, hl with | [_], _ => rfl,
    F_Log_text,
    ⟨eqO_ok (all_at (all_at ex 3 rfl) 10 rfl), (all_at (all_at ex 3 rfl) 11 rfl), F_Log_text.kp⟩,
    F_Log_text.binds (ps := P_Log_text) fun _ _ _ _ _ _ us hl => match us, hl with | [_], _ => rfl,
    F_Log_read,
    cm_ok (all_at (all_at ex 3 rfl) 12 rfl),
    F_Log_read.binds (ps := P_Log_read) fun _ _ _ _ _ _ us hl => match us, hl with | [_, _], _ => rfl,
    F_Log_with_step,
    ⟨eqO_ok (all_at (all_at ex 3 rfl) 13 rfl), (all_at (all_at ex 3 rfl) 14 rfl), F_Log_with_step.kp⟩,
    F_Log_with_step.binds (ps := P_Log_with_step) fun _ _ _ _ _ _ us hl => match us, hl with | [_, _, _], _ => rfl,
    F_Log_with_process,
    ⟨eqO_ok (all_at (all_at ex 3 rfl) 15 rfl), (all_at (all_at ex 3 rfl) 16 rfl), F_Log_with_process.kp⟩,
    F_Log_with_process.binds (ps := P_Log_with_process) fun _ _ _ _ _ _ us hl => match us, hl with | [_, _], _ => rfl,
    F_Log_eq,
    ⟨eqO_ok (all_at (all_at ex 3 rfl) 17 rfl), (all_at (all_at ex 3 rfl) 18 rfl), F_Log_eq.kp⟩,
    F_Log_eq.binds (ps := P_Log_eq) fun _ _ _ _ _ _ us hl => match us, hl with | [_, _], _ => rfl,
    F_Log_len,
    ⟨eqO_ok (all_at (all_at ex 3 rfl) 19 rfl), (all_at (all_at ex 4 rfl) 0 rfl), F_Log_len.kp⟩,
    F_Log_len.binds (ps := P_Log_len) fun _ _ _ _ _ _ us hl => match us, hl with | [_], _ => rfl,
    F_Log_str,
    ⟨eqO_ok (all_at (all_at ex 4 rfl) 1 rfl), (all_at (all_at ex 4 rfl) 2 rfl), F_Log_str.kp⟩,
    F_Log_str.binds (ps := P_Log_str) fun _ _ _ _ _ _ us hl => match us, hl with | [_], _ => rfl,
    F_is_name,
    gl_ok X G (all_at (all_at ex 4 rfl) 3 rfl),
    F_is_name.binds (ps := P_is_name) fun _ _ _ _ _ _ us hl => match us, hl with | [_], _ => rfl,
    F_is_word,
    gl_ok X G (all_at (all_at ex 4 rfl) 4 rfl),
    F_is_word.binds (ps := P_is_word) fun _ _ _ _ _ _ us hl => match us, hl with | [_], _ => rfl,
    F_is_number,
    gl_ok X G (all_at (all_at ex 4 rfl) 5 rfl),
    F_is_number.binds (ps := P_is_number) fun _ _ _ _ _ _ us hl => match us, hl with | [_, _, _], _ => rfl,
    F_is_step,
    gl_ok X G (all_at (all_at ex 4 rfl) 6 rfl),
    F_is_step.binds (ps := P_is_step) fun _ _ _ _ _ _ us hl => match us, hl with | [_], _ => rfl,
    F_step_text,
    gl_ok X G (all_at (all_at ex 4 rfl) 7 rfl),
    F_step_text.binds (ps := P_step_text) fun _ _ _ _ _ _ us hl => match us, hl with | [_], _ => rfl,
    F_read_step,
    gl_ok X G (all_at (all_at ex 4 rfl) 8 rfl),
    F_read_step.binds (ps := P_read_step) fun _ _ _ _ _ _ us hl => match us, hl with | [_], _ => rfl,
    F_read_number,
    gl_ok X G (all_at (all_at ex 4 rfl) 9 rfl),
    F_read_number.binds (ps := P_read_number) fun _ _ _ _ _ _ us hl => match us, hl with | [_], _ => rfl,
    F_consists_of,
    gl_ok X G (all_at (all_at ex 4 rfl) 10 rfl),
    F_consists_of.binds (ps := P_consists_of) fun _ _ _ _ _ _ us hl => match us, hl with | [_, _], _ => rfl,
    F_is_deed,
    gl_ok X G (all_at (all_at ex 4 rfl) 11 rfl),
    F_is_deed.binds (ps := P_is_deed) fun _ _ _ _ _ _ us hl => match us, hl with | [_], _ => rfl,
    F_split_deed,
    gl_ok X G (all_at (all_at ex 4 rfl) 12 rfl),
    F_split_deed.binds (ps := P_split_deed) fun _ _ _ _ _ _ us hl => match us, hl with | [_], _ => rfl,
    F_check_rows,
    gl_ok X G (all_at (all_at ex 4 rfl) 13 rfl),
    F_check_rows.binds (ps := P_check_rows) fun _ _ _ _ _ _ us hl => match us, hl with | [_], _ => rfl,
    F_is_row,
    gl_ok X G (all_at (all_at ex 4 rfl) 14 rfl),
    F_is_row.binds (ps := P_is_row) fun _ _ _ _ _ _ us hl => match us, hl with | [_], _ => rfl,
    F_check_steps,
    gl_ok X G (all_at (all_at ex 4 rfl) 15 rfl),
    F_check_steps.binds (ps := P_check_steps) fun _ _ _ _ _ _ us hl => match us, hl with | [_], _ => rfl,
    F_check_messages,
    gl_ok X G (all_at (all_at ex 4 rfl) 16 rfl),
    F_check_messages.binds (ps := P_check_messages) fun _ _ _ _ _ _ us hl => match us, hl with | [_], _ => rfl,
    F_check_ends,
    gl_ok X G (all_at (all_at ex 4 rfl) 17 rfl),
    F_check_ends.binds (ps := P_check_ends) fun _ _ _ _ _ _ us hl => match us, hl with | [_, _], _ => rfl,
    F_names,
    gl_ok X G (all_at (all_at ex 4 rfl) 18 rfl),
    F_names.binds (ps := P_names) fun _ _ _ _ _ _ us hl => match us, hl with | [_], _ => rfl,
    F_deeds,
    gl_ok X G (all_at (all_at ex 4 rfl) 19 rfl),
    F_deeds.binds (ps := P_deeds) fun _ _ _ _ _ _ us hl => match us, hl with | [_], _ => rfl,
    F_first_unsent,
    gl_ok X G (all_at (all_at ex 5 rfl) 0 rfl),
    F_first_unsent.binds (ps := P_first_unsent) fun _ _ _ _ _ _ us hl => match us, hl with | [_], _ => rfl,
    F_order_of,
    gl_ok X G (all_at (all_at ex 5 rfl) 1 rfl),
    F_order_of.binds (ps := P_order_of) fun _ _ _ _ _ _ us hl => match us, hl with | [_], _ => rfl,
    F_first_ready,
    gl_ok X G (all_at (all_at ex 5 rfl) 2 rfl),
    F_first_ready.binds (ps := P_first_ready) fun _ _ _ _ _ _ us hl => match us, hl with | [_, _, _], _ => rfl,
    F_can_be_made,
    gl_ok X G (all_at (all_at ex 5 rfl) 3 rfl),
    F_can_be_made.binds (ps := P_can_be_made) fun _ _ _ _ _ _ us hl => match us, hl with | [_, _], _ => rfl,
    F_row_text,
    gl_ok X G (all_at (all_at ex 5 rfl) 4 rfl),
    F_row_text.binds (ps := P_row_text) fun _ _ _ _ _ _ us hl => match us, hl with | [_, _], _ => rfl,
    F_read_row,
    gl_ok X G (all_at (all_at ex 5 rfl) 5 rfl),
    F_read_row.binds (ps := P_read_row) fun _ _ _ _ _ _ us hl => match us, hl with | [_], _ => rfl,
    F_Lbag,
    gl_ok X G (all_at (all_at ex 5 rfl) 6 rfl),
    F_Lbag.binds (ps := P_Lbag) fun _ _ _ _ _ _ us hl => match us, hl with | [_], _ => rfl,
    F_Ldraw,
    gl_ok X G (all_at (all_at ex 5 rfl) 7 rfl),
    F_Ldraw.binds (ps := P_Ldraw) fun _ _ _ _ _ _ us hl => match us, hl with | [_, _], _ => rfl,
    F_Lof,
    gl_ok X G (all_at (all_at ex 5 rfl) 8 rfl),
    F_Lof.binds (ps := P_Lof) fun _ _ _ _ _ _ us hl => match us, hl with | [_, _], _ => rfl,
    F_Lmixed,
    gl_ok X G (all_at (all_at ex 5 rfl) 9 rfl),
    F_Lmixed.binds (ps := P_Lmixed) fun _ _ _ _ _ _ us hl => match us, hl with | [_, _], _ => rfl,
    F_Lsame,
    gl_ok X G (all_at (all_at ex 5 rfl) 10 rfl),
    F_Lsame.binds (ps := P_Lsame) fun _ _ _ _ _ _ us hl => match us, hl with | [_, _], _ => rfl,
    F_Lfield,
    gl_ok X G (all_at (all_at ex 5 rfl) 11 rfl),
    F_Lfield.binds (ps := P_Lfield) fun _ _ _ _ _ _ us hl => match us, hl with | [_], _ => rfl,
    F_Lother_field,
    gl_ok X G (all_at (all_at ex 5 rfl) 12 rfl),
    F_Lother_field.binds (ps := P_Lother_field) fun _ _ _ _ _ _ us hl => match us, hl with | [_], _ => rfl,
    F_Lgot,
    gl_ok X G (all_at (all_at ex 5 rfl) 13 rfl),
    F_Lgot.binds (ps := P_Lgot) fun _ _ _ _ _ _ us hl => match us, hl with | [_], _ => rfl,
    F_Lwhy,
    gl_ok X G (all_at (all_at ex 5 rfl) 14 rfl),
    F_Lwhy.binds (ps := P_Lwhy) fun _ _ _ _ _ _ us hl => match us, hl with | [_], _ => rfl,
    F_Lwhys,
    gl_ok X G (all_at (all_at ex 5 rfl) 15 rfl),
    F_Lwhys.binds (ps := P_Lwhys) fun _ _ _ _ _ _ us hl => match us, hl with | [_], _ => rfl,
    F_Lodd,
    gl_ok X G (all_at (all_at ex 5 rfl) 16 rfl),
    F_Lodd.binds (ps := P_Lodd) fun _ _ _ _ _ _ us hl => match us, hl with | [_, _], _ => rfl,
    F_Lmarks,
    gl_ok X G (all_at (all_at ex 5 rfl) 17 rfl),
    F_Lmarks.binds (ps := P_Lmarks) fun _ _ _ _ _ _ us hl => match us, hl with | [], _ => rfl,
    F_Lstep,
    gl_ok X G (all_at (all_at ex 5 rfl) 18 rfl),
    F_Lstep.binds (ps := P_Lstep) fun _ _ _ _ _ _ us hl => match us, hl with | [_, _], _ => rfl,
    F_Lrows,
    gl_ok X G (all_at (all_at ex 5 rfl) 19 rfl),
    F_Lrows.binds (ps := P_Lrows) fun _ _ _ _ _ _ us hl => match us, hl with | [_, _, _], _ => rfl,
    F_Llog,
    gl_ok X G (all_at (all_at ex 6 rfl) 0 rfl),
    F_Llog.binds (ps := P_Llog) fun _ _ _ _ _ _ us hl => match us, hl with | [_], _ => rfl,
    F_Llengths,
    gl_ok X G (all_at (all_at ex 6 rfl) 1 rfl),
    F_Llengths.binds (ps := P_Llengths) fun _ _ _ _ _ _ us hl => match us, hl with | [_], _ => rfl,
    F_Ldeeds,
    gl_ok X G (all_at (all_at ex 6 rfl) 2 rfl),
    F_Ldeeds.binds (ps := P_Ldeeds) fun _ _ _ _ _ _ us hl => match us, hl with | [_, _, _], _ => rfl,
    F_law,
    gl_ok X G (all_at (all_at ex 6 rfl) 3 rfl),
    F_law.binds (ps := P_law) fun _ _ _ _ _ _ us hl => match us, hl with | [_], _ => rfl,
    gl_ok X G (all_at (all_at ex 6 rfl) 4 rfl),
    rfl,
    fun H => dat_at (all_at (all_at ex 6 rfl) 5 rfl) H,
    (const_ok X G (all_at (all_at ex 6 rfl) 6 rfl)).1,
    (const_ok X G (all_at (all_at ex 6 rfl) 6 rfl)).2,
    (const_ok X G (all_at (all_at ex 6 rfl) 7 rfl)).1,
    (const_ok X G (all_at (all_at ex 6 rfl) 7 rfl)).2,
    (const_ok X G (all_at (all_at ex 6 rfl) 8 rfl)).1,
    (const_ok X G (all_at (all_at ex 6 rfl) 8 rfl)).2,
    (const_ok X G (all_at (all_at ex 6 rfl) 9 rfl)).1,
    (const_ok X G (all_at (all_at ex 6 rfl) 9 rfl)).2,
    (const_ok X G (all_at (all_at ex 6 rfl) 10 rfl)).1,
    (const_ok X G (all_at (all_at ex 6 rfl) 10 rfl)).2,
    (const_ok X G (all_at (all_at ex 6 rfl) 11 rfl)).1,
    (const_ok X G (all_at (all_at ex 6 rfl) 11 rfl)).2,
    noGl_ok X G (all_at (all_at ex 6 rfl) 12 rfl),
    noGl_ok X G (all_at (all_at ex 6 rfl) 13 rfl),
    noGl_ok X G (all_at (all_at ex 6 rfl) 14 rfl),
    noGl_ok X G (all_at (all_at ex 6 rfl) 15 rfl),
    noGl_ok X G (all_at (all_at ex 6 rfl) 16 rfl),
    noGl_ok X G (all_at (all_at ex 6 rfl) 17 rfl),
    noGl_ok X G (all_at (all_at ex 6 rfl) 18 rfl),
    noGl_ok X G (all_at (all_at ex 6 rfl) 19 rfl),
    noGl_ok X G (all_at (all_at ex 7 rfl) 0 rfl),
    noGl_ok X G (all_at (all_at ex 7 rfl) 1 rfl),
    noGl_ok X G (all_at (all_at ex 7 rfl) 2 rfl),
    noGl_ok X G (all_at (all_at ex 7 rfl) 3 rfl),
    kb_mk F_Log_with_process (fun _ _ _ _ _ _ us ws h1 h2 => match us, ws, h1, h2 with | [_], [_], _, _ => rfl) (fun r1 r2 => (((r1.drop 0).take 1).append ((r2.drop 0).take 1))),
    kb_mk F_Log_with_step (fun _ _ _ _ _ _ us ws h1 h2 => match us, ws, h1, h2 with | [_], [_, _], _, _ => rfl) (fun r1 r2 => ((((r1.drop 0).take 1).append ((r2.drop 1).take 1)).append ((r2.drop 0).take 1)))⟩, rfl, code_at D_law, bl⟩
theorem law_at {l : PySem.W.OpenLaw} {w : World} {h : Heap} {mg : Str → Option Value} {fa : Addr} (Y : hkR.says w h) (G : h.Ns mainGlobals mg) (hfa : mg "law" = some (.ref fa)) : ∃ K : Fr, K.In h ∧ LamX.LawAtS l w K CX0 26 63 "_law_script" mg fa h := by
  obtain ⟨K, X, t⟩ := Y
  obtain ⟨A, T, e1, e2, e3⟩ := top_mk X G t.defs t.facts
  have e : A.f_law = fa := Value.ref.inj (Option.some.inj (T.g_law.symm.trans hfa))
  subst e
  have one : ∀ {Q : Addr × Addr → Prop}, Q (cT K ("law", none)) → ∀ p ∈ [cT K ("law", none)], Q p := fun q p m => by
    cases List.mem_singleton.mp m
    exact q
  exact ⟨K, X, A.d_law, [cT K ("law", none)], spLaw K (cT K ("law", none)).2, one (t.bare _ (.head _)), one (t.out _ (.head _)), one (PySem.W.codeHd_of_K X (t.hd _ (.head _))), e3, fun H a ns hl _ hH hS => ⟨a, ns, rfl, hS, hl, hH _ (.head _), fun _ => rfl⟩, fun base _ _ tb => ok_law T e2 (tb _ (.head _))⟩
end My
set_option Elab.async false
set_option linter.all false
set_option maxRecDepth 100000
open PySem PySem.W PySem.Calls PyProof.Rows
set_option maxRecDepth 100000 in
set_option maxHeartbeats 0 in
theorem PySem.Challenge.cw_tiedmoments_k10_logs_grown_holds : PySem.Challenge.rw_tiedmoments_k10_logs_grown.Holds := by
  w_on; o_law
  refine HandSHeadRun.head_any (r := OpenLaw.row PySem.Challenge.rw_tiedmoments_k10_logs_grown) (q := My.viewR) (H := My.hkR) (ob := My.obR) (M := 10000) (loose := My.looseR) (d := HandSHeadRun.topDef (OpenLaw.row PySem.Challenge.rw_tiedmoments_k10_logs_grown).prog 75) (kwd := []) My.obR_eq
    (by kernel_rfl) (fun s => by kernel_rfl) My.runR (by kernel_rfl) (by kernel_rfl) (by kernel_rfl) (by rfl) (by first | assumption | decide +kernel) (by decide +kernel) ⟨rfl, rfl, rfl, rfl, rfl, by decide +kernel⟩ ?hw ?hc
  case hw => w_witness2
  case hc =>
    refine LamX.walk_ofTsE (l := PySem.Challenge.rw_tiedmoments_k10_logs_grown) (n := 63) (k := 26) (x := "_law_script") (CX := fun _ => L2.CX0) rfl (by decide) (by kernel_rfl) ⟨rfl, by decide, by decide⟩ ?F (fun _ _ _ _ _ h => h)
    intro w mg fa h Y G hmg0
    have hmg : mg ("law" : PySem.Str) = some (.ref fa) := by
      have e : (HandSHeadRun.topDef (OpenLaw.row PySem.Challenge.rw_tiedmoments_k10_logs_grown).prog 75).name = ("law" : PySem.Str) := by kernel_rfl
      rw [← e]
      exact hmg0
    exact My.law_at Y G hmg
