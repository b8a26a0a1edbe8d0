import PyProof.Rows.All
import Wide.All
import OpenK.AllK
import Wide.FinOn
import HandS.ForMost
import HandS.IsInst
import HandS.Zip
import HandS.Walk
import HandS.Defaults
import HandS.FStr
import HandS.TupLe
import HandS.Evl
import HandS.Style
import HandS.StrMore
import HandS.Deep
import KE.GoesMore
import PyProof.Draws
import HandS.SetFor
import HandS.Star
import HandS.ClsMeth
import HandS.OwnEq
import HandS.Codes
import KE.KCallOwn
import KE.SortData
import KE.GoesZip
import KE.KDictZip
import HandS.More
import HandS.DictComp
import HandS.TupAny
import KE.KTupSum
import HandS.ExcInit
import HandS.ExcField
import HandS.ExcIs
import HandS.ExcValue
import KE.KExcIs
import KE.KExcInit
import HandS.ExcCtx
import HandS.HotCalls
import KE.KExcHand
import HandS.Lambda
import HandS.TupMul
import KE.IntTextLaws
import HandS.RaiseMore
import HandS.EndTab
import PySem.Challenge.RW_tiedmoments_k12_logs_cut_at_moments
set_option Elab.async false
set_option linter.all false
set_option maxRecDepth 100000
/-! Own ground: rules that lacked, data in the heap, the bag of the laws. -/
namespace My
open PySem PySem.Spec PyProof.Rows L2
/-! ### a call by keywords alone -/
/-! ### is not True, of an int -/
/-! ### heaps -/
/-- all but what stands at p is as it was -/
def Ext (p : Addr) (H H' : Hp) : Prop := ∀ b o, H b = some o → b ≠ p → H' b = some o
theorem Ext.refl (p : Addr) (H : Hp) : Ext p H H := fun _ _ h _ => h
theorem Ext.trans {p : Addr} {H H1 H2 : Hp} (a : Ext p H H1) (b : Ext p H1 H2) : Ext p H H2 := fun c o h n => b c o (a c o h n) n
theorem Ext.of {p : Addr} {H H' : Hp} (a : Same H H') : Ext p H H' := fun c o h _ => a c o h
theorem same_upd {o : HO} {p : Addr} {H : Hp} (h : H p = none) : Same H (upd H p o) := fun b x e => by
  rw [upd_ne (ne_of_none e h)]
  exact e
theorem Same.at {H H' : Hp} (s : Same H H') {a : Addr} {o : HO} (h : H a = some o) : H' a = some o := s a o h
theorem Rd.same {H H' : Hp} (s : Same H H') {a : Addr} {o : HO} (h : Rd H a o) : Rd H' a o := by
  rcases h with h | ⟨u, h⟩
  · exact .inl (s _ _ h)
  · exact .inr ⟨u, s _ _ h⟩
theorem Rd.ext {p : Addr} {H H' : Hp} (s : Ext p H H') {a : Addr} {o : HO} (n : a ≠ p) (h : Rd H a o) : Rd H' a o := by
  rcases h with h | ⟨u, h⟩
  · exact .inl (s _ _ h n)
  · exact .inr ⟨u, s _ _ h n⟩
theorem SqL.same {K : PySem.W.Frag} {H H' : Hp} (s : Same H H') {a : Addr} {xs : List V} (h : SqL K H a xs) : SqL K H' a xs := by
  rcases h with h | h
  · exact .inl (Rd.same s h)
  · exact .inr h
theorem SqT.same {K : PySem.W.Frag} {H H' : Hp} (s : Same H H') {a : Addr} {xs : List V} (h : SqT K H a xs) : SqT K H' a xs := by
  rcases h with h | h
  · exact .inl (Rd.same s h)
  · exact .inr h
theorem SqL.ext {K : PySem.W.Frag} {p : Addr} {H H' : Hp} (s : Ext p H H') {a : Addr} {xs : List V} (n : a ≠ p) (h : SqL K H a xs) : SqL K H' a xs := by
  rcases h with h | h
  · exact .inl (Rd.ext s n h)
  · exact .inr h
theorem SqT.ext {K : PySem.W.Frag} {p : Addr} {H H' : Hp} (s : Ext p H H') {a : Addr} {xs : List V} (n : a ≠ p) (h : SqT K H a xs) : SqT K H' a xs := by
  rcases h with h | h
  · exact .inl (Rd.ext s n h)
  · exact .inr h
theorem lsq {K : PySem.W.Frag} {H : Hp} {a : Addr} {xs : List V} (h : H a = some (.lst xs)) : SqL K H a xs := .inl (.inl h)
theorem tsq {K : PySem.W.Frag} {H : Hp} {a : Addr} {xs : List V} (h : H a = some (.tup xs)) : SqT K H a xs := .inl (.inl h)
theorem sz {n : Nat} (h : n ≤ 100000) : n ≤ sizeLine := Nat.le_trans h (by decide)
theorem szl {n : Nat} (h : n < 100000) : n < sizeLine := Nat.lt_of_lt_of_le h (by decide)
/-! ### data in the heap, away from p -/
mutual
inductive Dd (K : PySem.W.Frag) (p : Addr) (H : Hp) : V → PyData → Prop
  | non : Dd K p H .non .none
  | bl (b : Bool) : Dd K p H (.bl b) (.bool b)
  | int (i : Int) : Dd K p H (.int i) (.int i)
  | str (x : Str) : Dd K p H (.str x) (.str x)
  | lst {a : Addr} {xs : List V} {ds : List PyData} : a ≠ p → SqL K H a xs → DdAll K p H xs ds → Dd K p H (.ref a) (.list ds)
  | tup {a : Addr} {xs : List V} {ds : List PyData} : a ≠ p → SqT K H a xs → DdAll K p H xs ds → Dd K p H (.ref a) (.tuple ds)
inductive DdAll (K : PySem.W.Frag) (p : Addr) (H : Hp) : List V → List PyData → Prop
  | nil : DdAll K p H [] []
  | cons {v : V} {vs : List V} {d : PyData} {ds : List PyData} : Dd K p H v d → DdAll K p H vs ds → DdAll K p H (v :: vs) (d :: ds)
end
section
variable {K : PySem.W.Frag} {p : Addr} {H H' : Hp}
mutual
theorem Dd.ext (s : Ext p H H') : ∀ (d : PyData) (v : V), Dd K p H v d → Dd K p H' v d
  | .none, _, h => by cases h; exact .non
  | .bool _, _, h => by cases h; exact .bl _
  | .int _, _, h => by cases h; exact .int _
  | .str _, _, h => by cases h; exact .str _
  | .list ds, _, h => by
    cases h with
    | lst n a b => exact .lst n (SqL.ext s n a) (DdAll.ext s ds _ b)
  | .tuple ds, _, h => by
    cases h with
    | tup n a b => exact .tup n (SqT.ext s n a) (DdAll.ext s ds _ b)
  | .dict _, _, h => by cases h
theorem DdAll.ext (s : Ext p H H') : ∀ (ds : List PyData) (vs : List V), DdAll K p H vs ds → DdAll K p H' vs ds
  | [], _, h => by cases h; exact .nil
  | d :: ds, _, h => by
    cases h with
    | cons a b => exact .cons (Dd.ext s d _ a) (DdAll.ext s ds _ b)
end
mutual
theorem Dd.dp : ∀ (d : PyData) (v : V), Dd K p H v d → Dp K H v d
  | .none, _, h => by cases h; exact .non
  | .bool _, _, h => by cases h; exact .bl _
  | .int _, _, h => by cases h; exact .int _
  | .str _, _, h => by cases h; exact .str _
  | .list ds, _, h => by
    cases h with
    | lst n a b => exact .lst a (DdAll.dp ds _ b)
  | .tuple ds, _, h => by
    cases h with
    | tup n a b => exact .tup a (DdAll.dp ds _ b)
  | .dict _, _, h => by cases h
theorem DdAll.dp : ∀ (ds : List PyData) (vs : List V), DdAll K p H vs ds → DpAll K H vs ds
  | [], _, h => by cases h; exact .nil
  | d :: ds, _, h => by
    cases h with
    | cons a b => exact .cons (Dd.dp d _ a) (DdAll.dp ds _ b)
end
mutual
theorem Dp.same (s : Same H H') : ∀ (d : PyData) (v : V), Dp K H v d → Dp K H' v d
  | .none, _, h => by cases h; exact .non
  | .bool _, _, h => by cases h; exact .bl _
  | .int _, _, h => by cases h; exact .int _
  | .str _, _, h => by cases h; exact .str _
  | .list ds, _, h => by
    cases h with
    | lst a b => exact .lst (SqL.same s a) (DpAll.same s ds _ b)
  | .tuple ds, _, h => by
    cases h with
    | tup a b => exact .tup (SqT.same s a) (DpAll.same s ds _ b)
  | .dict _, _, h => by cases h
theorem DpAll.same (s : Same H H') : ∀ (ds : List PyData) (vs : List V), DpAll K H vs ds → DpAll K H' vs ds
  | [], _, h => by cases h; exact .nil
  | d :: ds, _, h => by
    cases h with
    | cons a b => exact .cons (Dp.same s d _ a) (DpAll.same s ds _ b)
end
theorem DpAll.length : ∀ {ds : List PyData} {vs : List V}, DpAll K H vs ds → vs.length = ds.length
  | [], _, h => by cases h; rfl
  | d :: ds, _, h => by
    cases h with
    | cons a b => exact congrArg Nat.succ (DpAll.length b)
theorem DpAll.get : ∀ {ds : List PyData} {vs : List V} {i : Nat} {v : V}, DpAll K H vs ds → vs[i]? = some v → ∃ d, ds[i]? = some d ∧ Dp K H v d
  | [], _, _, _, h, e => by cases h; simp at e
  | d :: ds, _, 0, _, h, e => by
    cases h with
    | cons a b => simp at e; subst e; exact ⟨d, rfl, a⟩
  | d :: ds, _, i + 1, _, h, e => by
    cases h with
    | cons a b =>
      obtain ⟨d', e1, e2⟩ := DpAll.get (i := i) b (by simpa using e)
      exact ⟨d', by simpa using e1, e2⟩
end
/-! ### the bag of the laws -/
/-- where a bag stands: its list, its list of cells, the cells -/
structure BagId where
  p : Addr
  l : Addr
  ns : List Int
def Bag (B : BagId) (H : Hp) : Prop := ∃ (i g m c : Int), H B.p = some (.lst [.ref B.l, .int i, .int g, .int m, .int c]) ∧ H B.l = some (.lst (B.ns.map V.int)) ∧ B.l ≠ B.p ∧ 0 ≤ i ∧ i ≤ B.ns.length ∧ B.ns.length ≤ 63 ∧ 0 ≤ g ∧ 0 ≤ m ∧ m < 2147483549
theorem Bag.ext {B : BagId} {H H' : Hp} (b : Bag B H) (s : Same H H') : Bag B H' := by
  obtain ⟨i, g, m, c, h1, h2, r⟩ := b
  exact ⟨i, g, m, c, s _ _ h1, s _ _ h2, r⟩
theorem Bag.there {B : BagId} {H : Hp} (b : Bag B H) : ∃ o, H B.p = some o := by
  obtain ⟨i, g, m, c, h1, _⟩ := b
  exact ⟨_, h1⟩
theorem Bag.thereL {B : BagId} {H : Hp} (b : Bag B H) : ∃ o, H B.l = some o := by
  obtain ⟨i, g, m, c, h1, h2, _⟩ := b
  exact ⟨_, h2⟩
theorem Bag.ne {B : BagId} {a : Addr} {H : Hp} (b : Bag B H) (h : H a = none) : a ≠ B.p := by
  obtain ⟨o, e⟩ := b.there
  exact (ne_of_none e h).symm
theorem Bag.neL {B : BagId} {a : Addr} {H : Hp} (b : Bag B H) (h : H a = none) : a ≠ B.l := by
  obtain ⟨o, e⟩ := b.thereL
  exact (ne_of_none e h).symm
theorem Bag.upd {B : BagId} {a : Addr} {o : HO} {H : Hp} (b : Bag B H) (h1 : a ≠ B.p) (h2 : a ≠ B.l) : Bag B (upd H a o) := by
  obtain ⟨i, g, m, c, e1, e2, r⟩ := b
  exact ⟨i, g, m, c, by rw [upd_ne h1.symm]; exact e1, by rw [upd_ne h2.symm]; exact e2, r⟩
def spBag (K : PySem.W.Frag) : Sp := fun vs H Q _ => ∃ (a : Addr) (ns : List Int), vs = [.ref a] ∧ SqL K H a (ns.map V.int) ∧ ns.length ≤ 63 ∧ ∀ (B : BagId) (H' : Hp), H B.p = none → Bag B H' → Same H H' → Q (.ref B.p) H'
def spDraw : Sp := fun vs H Q _ => ∃ (B : BagId) (n : Int), vs = [.ref B.p, .int n] ∧ Bag B H ∧ 0 < n ∧ n < 1073741824 ∧ ∀ (r : Int) (H' : Hp), 0 ≤ r → r < n → Bag B H' → Ext B.p H H' → Q (.int r) H'
def spOf (K : PySem.W.Frag) : Sp := fun vs H Q _ => ∃ (B : BagId) (y : V), vs = [.ref B.p, y] ∧ Bag B H ∧
  ((∃ (q : Addr) (xs : List V), y = .ref q ∧ q ≠ B.p ∧ (SqL K H q xs ∨ SqT K H q xs) ∧ 0 < xs.length ∧ xs.length < 1073741824 ∧ ∀ (v : V) (H' : Hp), v ∈ xs → Bag B H' → Ext B.p H H' → Q v H') ∨
   (∃ z : Str, y = .str z ∧ 0 < z.length ∧ z.length ≤ sizeLine ∧ ∀ (c : Nat) (H' : Hp), c ∈ z.cps.toList → Bag B H' → Ext B.p H H' → Q (.str ⟨#[c]⟩) H'))
mutual
/-- no list in it is long -/
def small : PyData → Bool
  | .list ds => decide (ds.length ≤ 5000) && smallAll ds
  | .tuple ds => decide (ds.length ≤ 5000) && smallAll ds
  | .dict _ => false
  | .none => true
  | .bool _ => true
  | .int _ => true
  | .str x => decide (x.length ≤ 5000)
def smallAll : List PyData → Bool
  | [] => true
  | d :: ds => small d && smallAll ds
end
theorem smallAll_get : ∀ {ds : List PyData} {i : Nat} {d : PyData}, smallAll ds = true → ds[i]? = some d → small d = true
  | [], _, _, _, e => by simp at e
  | x :: ds, 0, d, h, e => by
    simp at e; subst e
    unfold smallAll at h
    exact (Bool.and_eq_true_iff.mp h).1
  | x :: ds, i + 1, d, h, e => by
    unfold smallAll at h
    exact smallAll_get (i := i) (Bool.and_eq_true_iff.mp h).2 (by simpa using e)
theorem depthAll_get : ∀ {ds : List PyData} {i : Nat} {d : PyData}, ds[i]? = some d → d.depth ≤ PyData.depthAll ds
  | [], _, _, e => by simp at e
  | x :: ds, 0, d, e => by
    simp at e; subst e
    unfold PyData.depthAll
    exact Nat.le_max_left _ _
  | x :: ds, i + 1, d, e => by
    unfold PyData.depthAll
    exact Nat.le_trans (depthAll_get (i := i) (by simpa using e)) (Nat.le_max_right _ _)
def spSame (K : PySem.W.Frag) (n : Nat) : Sp := fun vs H Q _ => ∃ (v w : V) (d : PyData), vs = [v, w] ∧ Dp K H v d ∧ Dp K H w d ∧ d.depth ≤ n ∧ small d = true ∧ ∀ H', Same H H' → Q (.bl true) H'
/-- the promise one depth less; none of depth nought -/
def spSameLt (K : PySem.W.Frag) : Nat → Sp
  | 0 => fun _ _ _ _ => False
  | n + 1 => spSame K n
/-! ### rules whose sides are read off -/
section
variable {X : Cx}
theorem CallR.imp {f : Value} {r r' : List V → Hp → VK → Prop} (h : CallR X f r) (i : ∀ xs H Q, r' xs H Q → r xs H Q) : CallR X f r' := fun pins s σ H xs us Q I rv q => h pins s σ H xs us Q I rv (i _ _ _ q)
theorem OpR.imp {f : Value → Value → Sem Value} {r r' : R2} (h : OpR X f r) (i : ∀ x y H Q, r' x y H Q → r x y H Q) : OpR X f r' := fun pins s σ H x y v u Q I rx ry q => h pins s σ H x y v u Q I rx ry (i _ _ _ _ q)
theorem IxR.imp {r r' : R2} (h : IxR X r) (i : ∀ x y H Q, r' x y H Q → r x y H Q) : IxR X r' := by
  intro value slice pins s σ H x y v u Q I rx ry q hs
  exact h _ _ _ _ _ _ _ _ _ _ _ I rx ry (i _ _ _ _ q) hs
theorem call_intI : CallR X (.type "int") (fun xs H Q => ∃ i, xs = [.int i] ∧ Q (.int i) H) := CallR.imp call_int1 fun _ _ _ h => .inl h
def CMulC (_ j : Int) : Prop := decide (-(2 ^ 64) < j ∧ j < 2 ^ 64) = true
theorem op_mulC : OpR X (binaryOp .Mult) (rI CMulC fun i j => .int (i * j)) := OpR.imp op_mul fun _ _ _ _ ⟨i, j, a, b, c, q⟩ => ⟨i, j, a, b, .inr (of_decide_eq_true c), q⟩
def CModC (_ j : Int) : Prop := decide (0 < j) = true
theorem op_modC : OpR X (binaryOp .Mod) (rI CModC fun i j => .int (i % j)) := OpR.imp op_mod fun _ _ _ _ ⟨i, j, a, b, c, q⟩ => ⟨i, j, a, b, of_decide_eq_true c, q⟩
def CDivC (_ j : Int) : Prop := decide (0 < j ∧ j < 1073741824) = true
theorem op_fdivC : OpR X (binaryOp .FloorDiv) (rI CDivC fun i j => .int (i / j)) := OpR.imp op_fdiv fun _ _ _ _ ⟨i, j, a, b, c, q⟩ => ⟨i, j, a, b, (of_decide_eq_true c : 0 < j ∧ j < 1073741824), q⟩
/-- the k-th item of a written place in a tracked list -/
def rIxB (K : PySem.W.Frag) : R2 := fun x y H Q => ∃ p i xs v, x = .ref p ∧ y = .int i ∧ H p = some (.lst xs) ∧ atI xs i = some v ∧ Q v H
theorem ix_bag : IxR X (rIxB X.K) := IxR.imp ix_list fun _ _ _ _ ⟨p, i, xs, v, a, b, c, d, q⟩ => ⟨p, xs, i, v, a, b, lsq c, d, q⟩
theorem call_lenL : CallR X (.builtin "len") (fun xs H Q => ∃ p ys, xs = [.ref p] ∧ SqL X.K H p ys ∧ Q (.int ys.length) H) := CallR.imp call_len_seq fun _ _ _ ⟨p, ys, a, b, q⟩ => ⟨p, ys, a, .inl b, q⟩
theorem call_listL : CallR X (.type "list") (fun xs H Q => ∃ p ys, xs = [.ref p] ∧ SqL X.K H p ys ∧ ∀ l, H l = none → Q (.ref l) (upd H l (.lst ys))) := CallR.imp call_list_of fun _ _ _ ⟨p, ys, a, b, q⟩ => ⟨p, ys, a, .inl b, q⟩
/-! ### isinstance of data -/
def tyName : PyData → String
  | .none => "NoneType"
  | .bool _ => "bool"
  | .int _ => "int"
  | .str _ => "str"
  | .list _ => "list"
  | .tuple _ => "tuple"
  | .dict _ => "dict"
def isT (t n : String) : Bool := t == n || (t == "bool" && n == "int")
def okT (n : String) : Bool := n == "int" || n == "bool" || n == "str" || n == "list" || n == "tuple"
theorem tyx {K : PySem.W.Frag} {H : Hp} {x : V} {d : PyData} (h : Dp K H x d) : TyX K H x (.type (tyName d)) := by
  cases h with
  | non => exact .base .non
  | bl b => exact .base (.bl b)
  | int i => exact .base (.int i)
  | str z => exact .base (.str z)
  | lst a b =>
    rcases a with (a | ⟨o, a⟩) | ⟨o, its, n, a, c, _⟩
    · exact .base (.lst a)
    · exact .base (.frz a)
    · exact .kList a c
  | tup a b =>
    rcases a with (a | ⟨o, a⟩) | ⟨o, its, n, a, c, _⟩
    · exact .base (.tup a)
    · exact .fTuple a
    · exact .kTuple a c
theorem kitB_ok (d : PyData) (n : String) (h : okT n = true) (hd : ∀ kvs, d ≠ .dict kvs) : kitB (tyName d) n = some (isT (tyName d) n) := by
  have e : n = "int" ∨ n = "bool" ∨ n = "str" ∨ n = "list" ∨ n = "tuple" := by
    unfold okT at h
    simpa [or_assoc] using h
  rcases e with rfl | rfl | rfl | rfl | rfl <;> cases d <;> first | exact absurd rfl (hd _) | (dsimp only [tyName]; decide +kernel)
def isD (n : String) (d : PyData) : Bool := isT (tyName d) n
theorem call_isD : CallR X (.builtin "isinstance") (fun xs H Q => ∃ x n d, xs = [x, .ty n] ∧ okT n = true ∧ Dp X.K H x d ∧ Q (.bl (isD n d)) H) := CallR.imp call_isi fun xs H Q ⟨x, n, d, a, b, c, q⟩ =>
  ⟨x, .ty n, _, _, isD n d, a, .ty n, tyx c, kit_ty (kitB_ok d n b fun kvs e => by subst e; cases c), q⟩
/-- of two classes, the tuple made on the way -/
theorem call_isD2 : CallR X (.builtin "isinstance") (fun xs H Q => ∃ x t m n d, xs = [x, .ref t] ∧ H t = some (.tup [.ty m, .ty n]) ∧ okT m = true ∧ okT n = true ∧ Dp X.K H x d ∧ Q (.bl (isD m d || isD n d)) H) := CallR.imp call_isiT fun xs H Q ⟨x, t, m, n, d, a, ht, b, b', c, q⟩ => by
  have hd : ∀ kvs, d ≠ .dict kvs := fun kvs e => by subst e; cases c
  refine ⟨x, t, _, _, [.type m, .type n], isD m d || isD n d, a, ht, .cons (.ty m) (.cons (.ty n) .nil), tyx c, ?_, q⟩
  refine kitAny_cons (kit_ty (kitB_ok d m b hd)) (fun e => ?_) (fun e => ?_)
  · refine kitAny_cons (kit_ty (kitB_ok d n b' hd)) (fun e' => ?_) (fun e' => ?_)
    · rw [show isD m d = false from e, show isD n d = false from e']; exact kitAny_nil
    · rw [show isD n d = true from e']; exact Bool.or_true _
  · rw [show isD m d = true from e]; rfl
end
theorem Dp.lenL {K : PySem.W.Frag} {H : Hp} {x : V} {ds : List PyData} (h : Dp K H x (.list ds)) : ∃ a xs, x = .ref a ∧ SqL K H a xs ∧ DpAll K H xs ds := by
  cases h with
  | lst a b => exact ⟨_, _, rfl, a, b⟩
theorem Dp.lenT {K : PySem.W.Frag} {H : Hp} {x : V} {ds : List PyData} (h : Dp K H x (.tuple ds)) : ∃ a xs, x = .ref a ∧ SqT K H a xs ∧ DpAll K H xs ds := by
  cases h with
  | tup a b => exact ⟨_, _, rfl, a, b⟩
/-! ### the comprehension of _law_same -/
theorem walk_zipT {K : PySem.W.Frag} {a b : Addr} {xs ys : List V} {n : Nat} (hn : n = min xs.length ys.length) : Walk (RZ.ItzT K a b) n (fun H => SqT K H a xs ∧ SqT K H b ys) (YPair (fun i => xs[i]?) (fun i => ys[i]?)) := by
  subst hn
  constructor
  · intro i H hi q
    exact ⟨xs, ys, xs[i]'(by omega), ys[i]'(by omega), q.1, q.2, List.getElem?_eq_getElem _, List.getElem?_eq_getElem _⟩
  · intro H q
    exact ⟨xs, ys, q.1, q.2, by omega⟩
  · intro i H v H' hi q y
    obtain ⟨T, a', b', e1, e2, e3, e4, e5⟩ := y
    exact ⟨T, a', b', e1, e2, e3, e4 _ q.1, e5 _ q.2⟩
theorem same_all {K : PySem.W.Frag} {J : It} {xs ys : List V} {ds : List PyData} {G : Hp → Prop} {H0 : Hp} {n : Nat} {D : Addr} {Qd : Hp → Prop} {σ : L2.St} {E : XK} (w : Walk J ds.length G (YPair (fun i => xs[i]?) (fun i => ys[i]?)))
    (hx : DpAll K H0 xs ds) (hy : DpAll K H0 ys ds) (hG : ∀ H, Same H0 H → G H) (hD : H0 D = none) (hsz : ds.length ≤ 5000) (hsm : smallAll ds = true) (hdp : PyData.depthAll ds + 1 ≤ n) (hσ : ∃ a b, σ = [a, b, none, none])
    (hq : ∀ H', Same H0 H' → H' D = some (.lst (List.replicate ds.length (.bl true))) → Qd H') :
    ∃ W : Nat → Nat → Hp → Prop, (∃ m, W 0 m (upd H0 D (.lst []))) ∧ ∀ i m H, W i m H →
      (J.stop i H ∧ Qd H) ∨ (J.go i H ∧ ∃ Nx : Hp → Prop, (∀ H', Nx H' → ∃ m', m' < m ∧ W (i + 1) m' H') ∧ ∀ x H', J.yld i H x H' → (gTup K 2 (gCons (gName 2) (gCons (gName 3) gNil))) x (wipe σ [2, 3]) H' fun σ2 H2 => wipe σ2 [2, 3] = wipe σ [2, 3] ∧ tYes σ2 H2 fun b H3 =>
        if b = true then (tCall (spSameLt K n) [] E (tCons (tVar 2) (tCons (tVar 3) tNil))) σ2 H3 fun y H4 => ∃ acc, H4 D = some (.lst acc) ∧ acc.length < sizeLine ∧ Nx (upd H4 D (.lst (acc ++ [y]))) else Nx H3) := by
  obtain ⟨a, b, rfl⟩ := hσ
  refine lc_it w (fun i H => Same H0 H ∧ H D = some (.lst (List.replicate i (.bl true)))) ⟨same_upd hD, upd_same⟩ (fun i H _ h => hG H h.1) (fun i x H H' hi h y => ?_) fun H h => hq H h.1 h.2
  obtain ⟨s1, h1⟩ := h
  obtain ⟨T, v, u, rfl, nT, rfl, ev, eu⟩ := y
  obtain ⟨d, ed, dv⟩ := DpAll.get hx ev
  obtain ⟨d', ed', du⟩ := DpAll.get hy eu
  have e1 : d' = d := Option.some.inj (ed'.symm.trans ed)
  subst e1
  have s2 : Same H0 (upd H T (.tup [v, u])) := s1.trans (same_upd nT)
  refine ⟨T, [v, u], rfl, .inl (.inl upd_same), rfl, v, [u], rfl, u, [], rfl, rfl, rfl, ?_⟩
  cases n with
  | zero => omega
  | succ n =>
    refine ⟨_, rfl, _, rfl, v, u, d', rfl, Dp.same s2 _ _ dv, Dp.same s2 _ _ du, ?_, smallAll_get hsm ed, fun H2 s3 => ?_⟩
    · have := depthAll_get ed
      omega
    · have hD2 : H2 D = some (.lst (List.replicate i (.bl true))) := s3 _ _ (same_upd nT _ _ h1)
      refine ⟨_, hD2, ?_, fun c o hc => ?_, ?_⟩
      · rw [List.length_replicate]; exact szl (by omega)
      · rw [upd_ne (ne_of_none hc hD)]
        exact s3 _ _ (s2 _ _ hc)
      · rw [upd_same, List.replicate_succ']
theorem hu65 {k : Nat} {A : Around} (hr : Room k A) : A.units + 65 < cLine := by
  have := hr.un
  omega
/-- data that the rules may compare -/
def fine (d : PyData) : Bool := small d && SeqAt.shaped d
theorem fine_small {d : PyData} (h : fine d = true) : small d = true := (Bool.and_eq_true_iff.mp h).1
theorem fine_shaped {d : PyData} (h : fine d = true) : SeqAt.shaped d = true := (Bool.and_eq_true_iff.mp h).2
/-- the signs of a text, each asked: is it one of z's -/
theorem str_all {x : Str} {H0 : Hp} {D : Addr} {Qd : Hp → Prop} {σ : L2.St} {vs : List Nat} {j : Nat} {te : TE} (hD : H0 D = none) (hl : x.length ≤ 5000) (f : Nat → Bool) (hw : ∀ v, wipe ((wipe σ vs).set j (some v)) vs = wipe σ vs)
    (he : ∀ (c : Nat) (H : Hp) (Q : VK), Q (.bl (f c)) H → te ((wipe σ vs).set j (some (.str ⟨#[c]⟩))) H Q)
    (hq : ∀ H', Same H0 H' → H' D = some (.lst ((x.cps.toList.map f).map V.bl)) → Qd H') :
    ∃ W : Nat → Nat → Hp → Prop, (∃ m, W 0 m (upd H0 D (.lst []))) ∧ ∀ i m H, W i m H →
      ((Its x).stop i H ∧ Qd H) ∨ ((Its x).go i H ∧ ∃ Nx : Hp → Prop, (∀ H', Nx H' → ∃ m', m' < m ∧ W (i + 1) m' H') ∧ ∀ v H', (Its x).yld i H v H' → (gName j) v (wipe σ vs) H' fun σ2 H2 => wipe σ2 vs = wipe σ vs ∧ tYes σ2 H2 fun b H3 =>
        if b = true then te σ2 H3 fun y H4 => ∃ acc, H4 D = some (.lst acc) ∧ acc.length < sizeLine ∧ Nx (upd H4 D (.lst (acc ++ [y]))) else Nx H3) := by
  have hlen : x.length = x.cps.toList.length := by simp [Str.length]
  refine lc_it walk_str (fun i H => Same H0 H ∧ H D = some (.lst (((x.cps.toList.take i).map f).map V.bl))) ⟨same_upd hD, upd_same⟩ (fun _ _ _ _ => trivial) (fun i v H H' hi h y => ?_) fun H h => hq H h.1 ?_
  · obtain ⟨s1, h1⟩ := h
    obtain ⟨rfl, c, ec, rfl⟩ := y
    refine ⟨hw _, ?_⟩
    refine he c H' _ ⟨_, h1, ?_, fun b o hb => ?_, ?_⟩
    · rw [List.length_map, List.length_map]
      exact szl (Nat.lt_of_le_of_lt (List.length_take_le' _ _) (by omega))
    · rw [upd_ne (ne_of_none hb hD)]
      exact s1 _ _ hb
    · rw [upd_same, List.take_add_one, show x.cps.toList[i]? = some c by rw [Array.getElem?_toList]; exact ec]
      simp
  · have h2 := h.2
    rw [List.take_of_length_le (by simp)] at h2
    exact h2
/-- what stands in the written part stands at every heap -/
theorem SqT.static {K : PySem.W.Frag} {a : Addr} {xs : List V} (h : SqT K (fun _ => none) a xs) (H : Hp) : SqT K H a xs := by
  rcases h with (h | ⟨o, h⟩) | h
  · cases h
  · cases h
  · exact .inr h
/-- how a call with keywords binds, no defaults -/
theorem kb_mk {K : PySem.W.Frag} {x qual : Str} {st : Stmt} {f : Addr} {fd : FuncData} {ps ks : List Str} {n : Nat} {g : List Value → List Value → List Value} {gV : List V → List V → List V} (F : Fun K x qual st f fd)
    (h : ∀ (kV doc pm : Value) (an : Option Addr) (cdv ct : Value) (us ws : List Value), us.length = n → ws.length = ks.length → bindArgs (PySem.W.fnOf x qual (defArgs st) (defBody st) (defScope st) .none kV doc pm an cdv ct) ⟨us, ks.zip ws⟩ = pure (ps.zip (g us ws)))
    (hr : ∀ {vs : List V} {us : List Value} {zs : List V} {ws : List Value}, Vals vs us → Vals zs ws → Vals (gV vs zs) (g us ws)) : KBn K fd ps n ks g gV := by
  obtain ⟨_, _, kV, doc, pm, an, cdv, ct, _, e, _⟩ := F.ex
  subst e
  exact ⟨fun s us ws _ h1 h2 => .of_eq (h kV doc pm an cdv ct us ws h1 h2), hr⟩
/-- a tuple of the written part -/
theorem tup_k {K : PySem.W.Frag} {H : Hp} {a : Addr} {dd : Option Addr} {its : Array Value} {n : Nat} {sl : Array (Option Value)} {xs : List V} {ds : List PyData} (h : K.lookup a = some ⟨.type "tuple", dd, .seq its n, sl⟩) (hz : its.size ≤ sizeLine) (hv : Vals xs its.toList) (hd : DpAll K H xs ds) :
    Dp K H (.ref a) (.tuple ds) := .tup (.inr ⟨_, _, _, h, rfl, rfl, hz, hv⟩) hd
end My
set_option Elab.async false
set_option linter.all false
set_option maxRecDepth 100000
/-! What an expression that changes nothing is worth, as data away from p (DV, DA): by its parts. -/
namespace My
open PySem PySem.Spec PyProof.Rows L2
def spD (K : PySem.W.Frag) (f : PyData → Bool) : Sp := fun vs H Q _ => ∃ (v : V) (d : PyData), vs = [v] ∧ Dp K H v d ∧ fine d = true ∧ ∀ H', Same H H' → Q (.bl (f d)) H'
/-- te gives a value of the data d, at any heap that keeps H -/
def DV (K : PySem.W.Frag) (p : Addr) (te : TE) (σ : L2.St) (H : Hp) (d : PyData) : Prop := ∀ H1, Same H H1 → ∀ Q : VK, (∀ v H2, Same H1 H2 → Dd K p H2 v d → Q v H2) → te σ H1 Q
section
variable {K : PySem.W.Frag} {p : Addr} {σ : L2.St} {H H' : Hp} {ta tb te tc : TE} {tr tk : TA} {d e : PyData} {ds : List PyData} {v : V}
theorem DV.mono (s : Same H H') (h : DV K p te σ H d) : DV K p te σ H' d := fun H1 a Q q => h H1 (s.trans a) Q q
theorem DdAll.length : ∀ {ds : List PyData} {vs : List V}, DdAll K p H vs ds → vs.length = ds.length
  | [], _, h => by cases h; rfl
  | d :: ds, _, h => by
    cases h with
    | cons a b => exact congrArg Nat.succ (DdAll.length b)
theorem DdAll.mem : ∀ {ds : List PyData} {vs : List V} {v : V}, DdAll K p H vs ds → v ∈ vs → ∃ d, d ∈ ds ∧ Dd K p H v d
  | [], _, v, h, m => by cases h; cases m
  | d :: ds, _, v, h, m => by
    cases h with
    | cons a b =>
      rcases List.mem_cons.mp m with rfl | m
      · exact ⟨d, List.mem_cons_self .., a⟩
      · obtain ⟨d', m', h'⟩ := DdAll.mem b m
        exact ⟨d', List.mem_cons_of_mem _ m', h'⟩
theorem DdAll.take : ∀ (n : Nat) {ds : List PyData} {vs : List V}, DdAll K p H vs ds → DdAll K p H (vs.take n) (ds.take n)
  | 0, _, _, _ => .nil
  | n + 1, [], _, h => by cases h; exact .nil
  | n + 1, d :: ds, _, h => by
    cases h with
    | cons a b => exact .cons a (DdAll.take n b)
theorem DdAll.app : ∀ {ds es : List PyData} {vs ws : List V}, DdAll K p H vs ds → DdAll K p H ws es → DdAll K p H (vs ++ ws) (ds ++ es)
  | [], _, _, _, h, g => by cases h; exact g
  | d :: ds, _, _, _, h, g => by
    cases h with
    | cons a b => exact .cons a (DdAll.app b g)
theorem DdAll.one (h : DdAll K p H vs [d]) : ∃ v, vs = [v] ∧ Dd K p H v d := by
  cases h with
  | cons a b => cases b; exact ⟨_, rfl, a⟩
theorem Dd.i {i : Int} (h : Dd K p H v (.int i)) : v = .int i := by cases h; rfl
theorem Dd.s {i : Str} (h : Dd K p H v (.str i)) : v = .str i := by cases h; rfl
theorem Dd.b {i : Bool} (h : Dd K p H v (.bool i)) : v = .bl i := by cases h; rfl
theorem Dd.n (h : Dd K p H v .none) : v = .non := by cases h; rfl
end
end My
set_option Elab.async false
set_option linter.all false
set_option maxRecDepth 100000
/-! Data away from a set S of addresses that may change; what an expression is worth (SV), a test (SB), what a walk gives (SI), by their parts. -/
namespace My
open PySem PySem.Spec PyProof.Rows L2
abbrev Sh := Addr → Prop
/-- all that stands outside S is as it was -/
def XS (S : Sh) (H H' : Hp) : Prop := ∀ b o, H b = some o → ¬ S b → H' b = some o
def Live (S : Sh) (H : Hp) : Prop := ∀ a, S a → ∃ o, H a = some o
/-- later: S has grown by new things alone -/
structure Step (S : Sh) (H : Hp) (S' : Sh) (H' : Hp) : Prop where
  keep : XS S H H'
  sub : ∀ a, S a → S' a
  new : ∀ a, S' a → ¬ S a → H a = none
  live : Live S' H'
/-- later, and nothing has changed -/
structure Now (S : Sh) (H : Hp) (S' : Sh) (H' : Hp) : Prop where
  same : Same H H'
  sub : ∀ a, S a → S' a
  new : ∀ a, S' a → ¬ S a → H a = none
  live : Live S' H'
section
variable {S S' S1 S2 : Sh} {H H' H1 H2 : Hp} {p D : Addr} {o : HO}
theorem XS.refl : XS S H H := fun _ _ h _ => h
theorem XS.trans (a : XS S H H1) (b : XS S H1 H2) : XS S H H2 := fun c o h n => b c o (a c o h n) n
theorem XS.of (a : Same H H') : XS S H H' := fun c o h _ => a c o h
theorem XS.ext (a : Ext p H H') (h : S p) : XS S H H' := fun c o e n => a c o e fun z => n (by rw [z]; exact h)
theorem XS.upd (h : S p) : XS S H (upd H p o) := fun b u e n => by rw [upd_ne fun z => n (by rw [z]; exact h)]; exact e
theorem Live.same (l : Live S H) (s : Same H H') : Live S H' := fun a h => let ⟨o, e⟩ := l a h; ⟨o, s _ _ e⟩
theorem Live.upd (l : Live S H) : Live S (upd H p o) := fun a h => by
  by_cases e : a = p
  · rw [e]; exact ⟨_, upd_same⟩
  · rw [upd_ne e]; exact l a h
theorem Live.ne (l : Live S H) {a : Addr} (h : H a = none) : ¬ S a := fun z => by
  obtain ⟨o, e⟩ := l a z
  rw [h] at e
  cases e
theorem Live.one (h : ∃ o, H p = some o) : Live (fun a => a = p) H := fun a e => by rw [e]; exact h
theorem Now.refl (l : Live S H) : Now S H S H := ⟨Same.refl _, fun _ h => h, fun _ a b => absurd a b, l⟩
theorem Now.of (l : Live S H) (s : Same H H') : Now S H S H' := ⟨s, fun _ h => h, fun _ a b => absurd a b, l.same s⟩
theorem Now.trans (a : Now S H S1 H1) (b : Now S1 H1 S2 H2) : Now S H S2 H2 := ⟨a.same.trans b.same, fun x h => b.sub x (a.sub x h), fun x h n => by
  rcases Classical.em (S1 x) with c | c
  · exact a.new x c n
  · exact a.same.free (b.new x h c), b.live⟩
theorem Now.then (a : Now S H S1 H1) (s : Same H1 H2) : Now S H S1 H2 := ⟨a.same.trans s, a.sub, a.new, a.live.same s⟩
/-- one more thing that may change, new -/
theorem Now.add (l : Live S H) (h : H D = none) : Now S H (fun a => S a ∨ a = D) (upd H D o) := ⟨same_upd h, fun _ => .inl, fun a z n => by
  rcases z with z | z
  · exact absurd z n
  · rw [z]; exact h, fun a z => by
  rcases z with z | z
  · exact l.upd a z
  · rw [z]; exact ⟨_, upd_same⟩⟩
theorem Now.put (a : Now S H S1 H1) (h1 : S1 p) (h2 : ¬ S p) : Now S H S1 (upd H1 p o) := ⟨fun b u e => by
  rw [upd_ne fun z => by rw [z, a.new p h1 h2] at e; cases e]
  exact a.same b u e, a.sub, a.new, a.live.upd⟩
/-- one more, just made by what changed nothing else -/
theorem Now.more (l : Live S H) (s : Same H H1) (na : H D = none) (ha : H1 D = some o) : Now S H (fun a => S a ∨ a = D) H1 := ⟨s, fun _ => .inl, fun a z n => by
  rcases z with z | z
  · exact absurd z n
  · rw [z]; exact na, fun a z => by
  rcases z with z | z
  · exact l.same s a z
  · rw [z]; exact ⟨_, ha⟩⟩
theorem Now.step (a : Now S H S1 H1) : Step S H S1 H1 := ⟨XS.of a.same, a.sub, a.new, a.live⟩
theorem Step.refl (l : Live S H) : Step S H S H := (Now.refl l).step
theorem Step.free (a : Step S H S1 H1) (h : H1 D = none) (l : Live S H) : H D = none := by
  cases e : H D with
  | none => rfl
  | some o =>
    rcases Classical.em (S D) with c | c
    · exact absurd (a.sub D c) (a.live.ne h)
    · rw [a.keep D o e c] at h
      cases h
theorem Step.trans (l : Live S H) (a : Step S H S1 H1) (b : Step S1 H1 S2 H2) : Step S H S2 H2 := by
  refine ⟨fun c u e n => b.keep c u (a.keep c u e n) fun z => ?_, fun x h => b.sub x (a.sub x h), fun x h n => ?_, b.live⟩
  · rw [a.new c z n] at e
    cases e
  · rcases Classical.em (S1 x) with c | c
    · exact a.new x c n
    · exact a.free (b.new x h c) l
theorem Step.then (a : Step S H S1 H1) (s : Same H1 H2) : Step S H S1 H2 := ⟨fun b u e n => s _ _ (a.keep b u e n), a.sub, a.new, a.live.same s⟩
theorem Step.put (a : Step S H S1 H1) (h1 : S1 p) : Step S H S1 (upd H1 p o) := by
  refine ⟨fun b u e n => ?_, a.sub, a.new, a.live.upd⟩
  rw [upd_ne fun z => by rw [← z] at h1; rw [a.new b h1 n] at e; cases e]
  exact a.keep b u e n
end
/-! ### data -/
def LS (S : Sh) (H : Hp) (a : Addr) (xs : List V) : Prop := ¬ S a ∧ H a = some (.lst xs)
def TS' (S : Sh) (H : Hp) (a : Addr) (xs : List V) : Prop := ¬ S a ∧ H a = some (.tup xs)
mutual
inductive Ds (K : PySem.W.Frag) (S : Sh) (H : Hp) : V → PyData → Prop
  | non : Ds K S H .non .none
  | bl (b : Bool) : Ds K S H (.bl b) (.bool b)
  | int (i : Int) : Ds K S H (.int i) (.int i)
  | str (x : Str) : Ds K S H (.str x) (.str x)
  | lst {a : Addr} {xs : List V} {ds : List PyData} : LS S H a xs → DsAll K S H xs ds → Ds K S H (.ref a) (.list ds)
  | tup {a : Addr} {xs : List V} {ds : List PyData} : TS' S H a xs → DsAll K S H xs ds → Ds K S H (.ref a) (.tuple ds)
inductive DsAll (K : PySem.W.Frag) (S : Sh) (H : Hp) : List V → List PyData → Prop
  | nil : DsAll K S H [] []
  | cons {v : V} {vs : List V} {d : PyData} {ds : List PyData} : Ds K S H v d → DsAll K S H vs ds → DsAll K S H (v :: vs) (d :: ds)
end
section
variable {K : PySem.W.Frag} {S S' : Sh} {H H' : Hp} {a : Addr} {xs : List V} {v : V} {d : PyData} {ds : List PyData}
theorem LS.sq (h : LS S H a xs) : SqL K H a xs := .inl (.inl h.2)
theorem TS'.sq (h : TS' S H a xs) : SqT K H a xs := .inl (.inl h.2)
theorem at_step {u : HO} (s : Step S H S' H') (n : ¬ S a) (h : H a = some u) : ¬ S' a ∧ H' a = some u := by
  refine ⟨fun z => ?_, s.keep _ _ h n⟩
  rw [s.new a z n] at h
  cases h
mutual
theorem Ds.map (fl : ∀ a xs, LS S H a xs → LS S' H' a xs) (ft : ∀ a xs, TS' S H a xs → TS' S' H' a xs) : ∀ (d : PyData) (v : V), Ds K S H v d → Ds K S' H' v d
  | .none, _, h => by cases h; exact .non
  | .bool _, _, h => by cases h; exact .bl _
  | .int _, _, h => by cases h; exact .int _
  | .str _, _, h => by cases h; exact .str _
  | .list ds, _, h => by
    cases h with
    | lst a b => exact .lst (fl _ _ a) (DsAll.map fl ft ds _ b)
  | .tuple ds, _, h => by
    cases h with
    | tup a b => exact .tup (ft _ _ a) (DsAll.map fl ft ds _ b)
  | .dict _, _, h => by cases h
theorem DsAll.map (fl : ∀ a xs, LS S H a xs → LS S' H' a xs) (ft : ∀ a xs, TS' S H a xs → TS' S' H' a xs) : ∀ (ds : List PyData) (vs : List V), DsAll K S H vs ds → DsAll K S' H' vs ds
  | [], _, h => by cases h; exact .nil
  | d :: ds, _, h => by
    cases h with
    | cons a b => exact .cons (Ds.map fl ft d _ a) (DsAll.map fl ft ds _ b)
end
theorem Ds.step (s : Step S H S' H') (h : Ds K S H v d) : Ds K S' H' v d := Ds.map (fun _ _ l => at_step s l.1 l.2) (fun _ _ l => at_step s l.1 l.2) _ _ h
theorem DsAll.step (s : Step S H S' H') (h : DsAll K S H xs ds) : DsAll K S' H' xs ds := DsAll.map (fun _ _ l => at_step s l.1 l.2) (fun _ _ l => at_step s l.1 l.2) _ _ h
theorem Ds.now (s : Now S H S' H') (h : Ds K S H v d) : Ds K S' H' v d := h.step s.step
theorem DsAll.now (s : Now S H S' H') (h : DsAll K S H xs ds) : DsAll K S' H' xs ds := h.step s.step
theorem Ds.byX (s : XS S H H') (h : Ds K S H v d) : Ds K S H' v d := Ds.map (fun _ _ z => ⟨z.1, s _ _ z.2 z.1⟩) (fun _ _ z => ⟨z.1, s _ _ z.2 z.1⟩) _ _ h
theorem DsAll.byX (s : XS S H H') (h : DsAll K S H xs ds) : DsAll K S H' xs ds := DsAll.map (fun _ _ z => ⟨z.1, s _ _ z.2 z.1⟩) (fun _ _ z => ⟨z.1, s _ _ z.2 z.1⟩) _ _ h
theorem Ds.same (s : Same H H') (h : Ds K S H v d) : Ds K S H' v d := h.byX (XS.of s)
theorem DsAll.same (s : Same H H') (h : DsAll K S H xs ds) : DsAll K S H' xs ds := h.byX (XS.of s)
theorem Ds.less (f : ∀ b, S' b → S b) (h : Ds K S H v d) : Ds K S' H v d := Ds.map (fun _ _ l => ⟨fun z => l.1 (f _ z), l.2⟩) (fun _ _ l => ⟨fun z => l.1 (f _ z), l.2⟩) _ _ h
theorem DsAll.less (f : ∀ b, S' b → S b) (h : DsAll K S H xs ds) : DsAll K S' H xs ds := DsAll.map (fun _ _ l => ⟨fun z => l.1 (f _ z), l.2⟩) (fun _ _ l => ⟨fun z => l.1 (f _ z), l.2⟩) _ _ h
mutual
theorem Ds.dp : ∀ (d : PyData) (v : V), Ds K S H v d → Dp K H v d
  | .none, _, h => by cases h; exact .non
  | .bool _, _, h => by cases h; exact .bl _
  | .int _, _, h => by cases h; exact .int _
  | .str _, _, h => by cases h; exact .str _
  | .list ds, _, h => by
    cases h with
    | lst a b => exact .lst a.sq (DsAll.dp ds _ b)
  | .tuple ds, _, h => by
    cases h with
    | tup a b => exact .tup a.sq (DsAll.dp ds _ b)
  | .dict _, _, h => by cases h
theorem DsAll.dp : ∀ (ds : List PyData) (vs : List V), DsAll K S H vs ds → DpAll K H vs ds
  | [], _, h => by cases h; exact .nil
  | d :: ds, _, h => by
    cases h with
    | cons a b => exact .cons (Ds.dp d _ a) (DsAll.dp ds _ b)
end
theorem DsAll.length : ∀ {ds : List PyData} {vs : List V}, DsAll K S H vs ds → vs.length = ds.length
  | [], _, h => by cases h; rfl
  | d :: ds, _, h => by
    cases h with
    | cons a b => exact congrArg Nat.succ (DsAll.length b)
theorem DsAll.get : ∀ {ds : List PyData} {vs : List V} {i : Nat} {v : V}, DsAll K S H vs ds → vs[i]? = some v → ∃ d, ds[i]? = some d ∧ Ds K S H v d
  | [], _, _, _, h, e => by cases h; simp at e
  | d :: ds, _, 0, _, h, e => by
    cases h with
    | cons a b => simp at e; subst e; exact ⟨d, rfl, a⟩
  | d :: ds, _, i + 1, _, h, e => by
    cases h with
    | cons a b =>
      obtain ⟨d', e1, e2⟩ := DsAll.get (i := i) b (by simpa using e)
      exact ⟨d', by simpa using e1, e2⟩
theorem DsAll.at : ∀ {ds : List PyData} {vs : List V} {i : Nat} {d : PyData}, DsAll K S H vs ds → ds[i]? = some d → ∃ v, vs[i]? = some v ∧ Ds K S H v d
  | [], _, _, _, h, e => by simp at e
  | d :: ds, _, 0, _, h, e => by
    cases h with
    | cons a b => simp at e; subst e; exact ⟨_, rfl, a⟩
  | d :: ds, _, i + 1, _, h, e => by
    cases h with
    | cons a b =>
      obtain ⟨d', e1, e2⟩ := DsAll.at (i := i) b (by simpa using e)
      exact ⟨d', by simpa using e1, e2⟩
theorem DsAll.mem : ∀ {ds : List PyData} {vs : List V} {v : V}, DsAll K S H vs ds → v ∈ vs → ∃ d, d ∈ ds ∧ Ds K S H v d
  | [], _, v, h, m => by cases h; cases m
  | d :: ds, _, v, h, m => by
    cases h with
    | cons a b =>
      rcases List.mem_cons.mp m with rfl | m
      · exact ⟨d, List.mem_cons_self .., a⟩
      · obtain ⟨d', m', h'⟩ := DsAll.mem b m
        exact ⟨d', List.mem_cons_of_mem _ m', h'⟩
theorem DsAll.take : ∀ (n : Nat) {ds : List PyData} {vs : List V}, DsAll K S H vs ds → DsAll K S H (vs.take n) (ds.take n)
  | 0, _, _, _ => .nil
  | n + 1, [], _, h => by cases h; exact .nil
  | n + 1, d :: ds, _, h => by
    cases h with
    | cons a b => exact .cons a (DsAll.take n b)
theorem DsAll.drop : ∀ (n : Nat) {ds : List PyData} {vs : List V}, DsAll K S H vs ds → DsAll K S H (vs.drop n) (ds.drop n)
  | 0, _, _, h => h
  | n + 1, [], _, h => by cases h; exact .nil
  | n + 1, d :: ds, _, h => by
    cases h with
    | cons a b => exact DsAll.drop n b
theorem DsAll.app : ∀ {ds es : List PyData} {vs ws : List V}, DsAll K S H vs ds → DsAll K S H ws es → DsAll K S H (vs ++ ws) (ds ++ es)
  | [], _, _, _, h, g => by cases h; exact g
  | d :: ds, _, _, _, h, g => by
    cases h with
    | cons a b => exact .cons a (DsAll.app b g)
theorem DsAll.one (h : DsAll K S H xs [d]) : ∃ v, xs = [v] ∧ Ds K S H v d := by
  cases h with
  | cons a b => cases b; exact ⟨_, rfl, a⟩
theorem DsAll.two {d e : PyData} (h : DsAll K S H xs [d, e]) : ∃ v w, xs = [v, w] ∧ Ds K S H v d ∧ Ds K S H w e := by
  cases h with
  | cons a b =>
    obtain ⟨w, rfl, c⟩ := b.one
    exact ⟨_, _, rfl, a, c⟩
theorem DsAll.three {d e f : PyData} (h : DsAll K S H xs [d, e, f]) : ∃ v w u, xs = [v, w, u] ∧ Ds K S H v d ∧ Ds K S H w e ∧ Ds K S H u f := by
  cases h with
  | cons a b =>
    obtain ⟨w, u, rfl, c⟩ := b.two
    exact ⟨_, _, _, rfl, a, c⟩
theorem Ds.i {i : Int} (h : Ds K S H v (.int i)) : v = .int i := by cases h; rfl
theorem Ds.s {i : Str} (h : Ds K S H v (.str i)) : v = .str i := by cases h; rfl
theorem Ds.b {i : Bool} (h : Ds K S H v (.bool i)) : v = .bl i := by cases h; rfl
theorem Ds.n (h : Ds K S H v .none) : v = .non := by cases h; rfl
theorem Ds.l (h : Ds K S H v (.list ds)) : ∃ a xs, v = .ref a ∧ LS S H a xs ∧ DsAll K S H xs ds := by
  cases h with
  | lst a b => exact ⟨_, _, rfl, a, b⟩
theorem Ds.t (h : Ds K S H v (.tuple ds)) : ∃ a xs, v = .ref a ∧ TS' S H a xs ∧ DsAll K S H xs ds := by
  cases h with
  | tup a b => exact ⟨_, _, rfl, a, b⟩
theorem DsAll.strs : ∀ {ys : List Str} {vs : List V}, DsAll K S H vs (ys.map PyData.str) → vs = ys.map V.str
  | [], _, h => by cases h; rfl
  | y :: ys, _, h => by
    cases h with
    | cons a b => rw [a.s, DsAll.strs b]; rfl
theorem DsAll.ints : ∀ {ys : List Int} {vs : List V}, DsAll K S H vs (ys.map PyData.int) → vs = ys.map V.int
  | [], _, h => by cases h; rfl
  | y :: ys, _, h => by
    cases h with
    | cons a b => rw [a.i, DsAll.ints b]; rfl
theorem DsAll.bools : ∀ {ys : List Bool} {vs : List V}, DsAll K S H vs (ys.map PyData.bool) → vs = ys.map V.bl
  | [], _, h => by cases h; rfl
  | y :: ys, _, h => by
    cases h with
    | cons a b => rw [a.b, DsAll.bools b]; rfl
theorem ds_strs : ∀ {ys : List Str}, DsAll K S H (ys.map V.str) (ys.map PyData.str)
  | [] => .nil
  | y :: ys => .cons (.str y) ds_strs
end
/-! ### worths -/
def SV (K : PySem.W.Frag) (S : Sh) (te : TE) (σ : L2.St) (H : Hp) (d : PyData) : Prop := ∀ S' H', Now S H S' H' → ∀ Q : VK, (∀ v H2, Same H' H2 → Ds K S' H2 v d → Q v H2) → te σ H' Q
def SA (K : PySem.W.Frag) (S : Sh) (ta : TA) (σ : L2.St) (H : Hp) (ds : List PyData) : Prop := ∀ S' H', Now S H S' H' → ∀ Q : List V → Hp → Prop, (∀ vs H2, Same H' H2 → DsAll K S' H2 vs ds → Q vs H2) → ta σ H' Q
def SB (S : Sh) (tt : TT) (σ : L2.St) (H : Hp) (b : Bool) : Prop := ∀ S' H', Now S H S' H' → ∀ Q : Bool → Hp → Prop, (∀ H2, Same H' H2 → Q b H2) → tt σ H' Q
section
variable {K : PySem.W.Frag} {S S' : Sh} {σ : L2.St} {H H' : Hp} {ta tb te tc : TE} {tr tk : TA} {tt tu : TT} {d e : PyData} {ds es : List PyData} {v : V} {b c : Bool}
theorem SV.now (n : Now S H S' H') (h : SV K S te σ H d) : SV K S' te σ H' d := fun S2 H2 m => h S2 H2 (n.trans m)
theorem SA.now (n : Now S H S' H') (h : SA K S tr σ H ds) : SA K S' tr σ H' ds := fun S2 H2 m => h S2 H2 (n.trans m)
theorem SB.now (n : Now S H S' H') (h : SB S tt σ H b) : SB S' tt σ H' b := fun S2 H2 m => h S2 H2 (n.trans m)
theorem SV.run (h : SV K S te σ H d) (l : Live S H) {Q : VK} (k : ∀ v H2, Same H H2 → Ds K S H2 v d → Q v H2) : te σ H Q := h S H (Now.refl l) Q k
theorem SA.run (h : SA K S tr σ H ds) (l : Live S H) {Q : List V → Hp → Prop} (k : ∀ v H2, Same H H2 → DsAll K S H2 v ds → Q v H2) : tr σ H Q := h S H (Now.refl l) Q k
theorem SB.run (h : SB S tt σ H b) (l : Live S H) {Q : Bool → Hp → Prop} (k : ∀ H2, Same H H2 → Q b H2) : tt σ H Q := h S H (Now.refl l) Q k
theorem sv_int {i : Int} : SV K S (tC (.int i)) σ H (.int i) := fun _ _ _ Q q => q _ _ (Same.refl _) (.int i)
theorem sv_bl : SV K S (tC (.bl b)) σ H (.bool b) := fun _ _ _ Q q => q _ _ (Same.refl _) (.bl b)
theorem sv_str {x : Str} : SV K S (tC (.str x)) σ H (.str x) := fun _ _ _ Q q => q _ _ (Same.refl _) (.str x)
theorem sv_non : SV K S (tC .non) σ H .none := fun _ _ _ Q q => q _ _ (Same.refl _) .non
theorem sv_var {i : Nat} (h : σ[i]? = some (some v)) (hd : Ds K S H v d) : SV K S (tVar i) σ H d := fun _ _ n Q q => ⟨v, h, q _ _ (Same.refl _) (hd.now n)⟩
theorem sv_vi {i : Nat} {j : Int} (h : σ[i]? = some (some (.int j))) : SV K S (tVar i) σ H (.int j) := sv_var h (.int j)
theorem sv_vs {i : Nat} {j : Str} (h : σ[i]? = some (some (.str j))) : SV K S (tVar i) σ H (.str j) := sv_var h (.str j)
theorem sv_is {d' : PyData} (h : SV K S te σ H d) (e : d = d') : SV K S te σ H d' := e ▸ h
theorem sa_nil : SA K S tNil σ H [] := fun _ _ _ Q q => q _ _ (Same.refl _) .nil
theorem sa_cons (h : SV K S ta σ H d) (hr : SA K S tr σ H ds) : SA K S (tCons ta tr) σ H (d :: ds) := fun S1 H1 n Q q =>
  h S1 H1 n _ fun v H2 s2 hv => hr S1 H2 (n.then s2) _ fun vs H3 s3 hs => q _ _ (s2.trans s3) (.cons (hv.same s3) hs)
theorem new_tup {a : Addr} {xs : List V} (l : Live S H) (na : H a = none) (h : DsAll K S H xs ds) : Ds K S (upd H a (.tup xs)) (.ref a) (.tuple ds) := .tup ⟨l.ne na, upd_same⟩ (h.same (same_upd na))
theorem new_lst {a : Addr} {xs : List V} (l : Live S H) (na : H a = none) (h : DsAll K S H xs ds) : Ds K S (upd H a (.lst xs)) (.ref a) (.list ds) := .lst ⟨l.ne na, upd_same⟩ (h.same (same_upd na))
theorem sv_tup (h : SA K S tr σ H ds) (hl : decide (ds.length ≤ 5000) = true) : SV K S (tTup tr) σ H (.tuple ds) := fun S1 H1 n Q q =>
  h S1 H1 n _ fun vs H2 s2 hs => ⟨by rw [DsAll.length hs]; exact sz (by have := of_decide_eq_true hl; omega), fun a na =>
    q _ _ (s2.trans (same_upd na)) (new_tup (n.live.same s2) na hs)⟩
theorem sv_lst (h : SA K S tr σ H ds) (hl : decide (ds.length ≤ 5000) = true) : SV K S (tLst tr) σ H (.list ds) := fun S1 H1 n Q q =>
  h S1 H1 n _ fun vs H2 s2 hs => ⟨by rw [DsAll.length hs]; exact sz (by have := of_decide_eq_true hl; omega), fun a na =>
    q _ _ (s2.trans (same_upd na)) (new_lst (n.live.same s2) na hs)⟩
/-- two values and a rule that changes nothing -/
theorem sv_op {r : R2} (ha : SV K S ta σ H d) (hb : SV K S tb σ H e) {f : PyData} (hr : ∀ S' H1 x y (Q : VK), Live S' H1 → Ds K S' H1 x d → Ds K S' H1 y e → (∀ v H2, Same H1 H2 → Ds K S' H2 v f → Q v H2) → r x y H1 Q) : SV K S (tOp r ta tb) σ H f := fun S1 H1 n Q q =>
  ha S1 H1 n _ fun x H2 s2 hx => hb S1 H2 (n.then s2) _ fun y H3 s3 hy => hr S1 H3 x y Q (n.live.same (s2.trans s3)) (hx.same s3) hy fun v H4 s4 hv => q v H4 ((s2.trans s3).trans s4) hv
theorem sv_I0 {g : Int → Int → V} {i j : Int} (ha : SV K S ta σ H (.int i)) (hb : SV K S tb σ H (.int j)) (hg : ∀ S' H', Ds K S' H' (g i j) d) : SV K S (tOp (rI0 g) ta tb) σ H d := sv_op ha hb fun _ _ _ _ Q _ hx hy q => ⟨i, j, hx.i, hy.i, q _ _ (Same.refl _) (hg _ _)⟩
theorem sv_add {i j : Int} (ha : SV K S ta σ H (.int i)) (hb : SV K S tb σ H (.int j)) : SV K S (tOp (rI0 fun i j => .int (i + j)) ta tb) σ H (.int (i + j)) := sv_I0 ha hb fun _ _ => .int _
theorem sv_sub {i j : Int} (ha : SV K S ta σ H (.int i)) (hb : SV K S tb σ H (.int j)) : SV K S (tOp (rI0 fun i j => .int (i - j)) ta tb) σ H (.int (i - j)) := sv_I0 ha hb fun _ _ => .int _
theorem sv_lt {i j : Int} (ha : SV K S ta σ H (.int i)) (hb : SV K S tb σ H (.int j)) : SV K S (tOp (rI0 fun i j => .bl (decide (i < j))) ta tb) σ H (.bool (decide (i < j))) := sv_I0 ha hb fun _ _ => .bl _
theorem sv_neg {i : Int} (ha : SV K S ta σ H (.int i)) : SV K S (tUn (rU fun i => .int (-i)) ta) σ H (.int (-i)) := fun S1 H1 n Q q =>
  ha S1 H1 n _ fun x H2 s2 hx => ⟨i, hx.i, q _ _ s2 (.int _)⟩
theorem sv_eqD (ha : SV K S ta σ H d) (hb : SV K S tb σ H e) (hd : fine d = true) (he : fine e = true) : SV K S (tOp (rEqD K) ta tb) σ H (.bool (PyData.eqv d e)) := sv_op ha hb fun _ _ _ _ Q _ hx hy q =>
  ⟨d, e, Ds.dp _ _ hx, Ds.dp _ _ hy, fine_shaped hd, fine_shaped he, q _ _ (Same.refl _) (.bl _)⟩
theorem sv_inD (ha : SV K S ta σ H d) (hb : SV K S tb σ H (.list ds)) (hd : fine d = true) (he : fine (.list ds) = true) : SV K S (tOp (rInD K) ta tb) σ H (.bool (ds.any fun z => PyData.eqv z d)) := sv_op ha hb fun _ _ _ _ Q _ hx hy q =>
  ⟨d, ds, Ds.dp _ _ hx, Ds.dp _ _ hy, fine_shaped hd, fine_shaped he, q _ _ (Same.refl _) (.bl _)⟩
theorem sv_notInD (ha : SV K S ta σ H d) (hb : SV K S tb σ H (.list ds)) (hd : fine d = true) (he : fine (.list ds) = true) : SV K S (tOp (rNotInD K) ta tb) σ H (.bool (!ds.any fun z => PyData.eqv z d)) := sv_op ha hb fun _ _ _ _ Q _ hx hy q =>
  ⟨d, ds, Ds.dp _ _ hx, Ds.dp _ _ hy, fine_shaped hd, fine_shaped he, q _ _ (Same.refl _) (.bl _)⟩
theorem sv_if {a : Bool} (ht : SB S tt σ H a) (h1 : a = true → SV K S ta σ H d) (h2 : a = false → SV K S tb σ H d) : SV K S (tIf tt ta tb) σ H d := fun S1 H1 n Q q =>
  ht S1 H1 n _ fun H2 s2 => by
    cases a with
    | true => exact iteT (h1 rfl S1 H2 (n.then s2) _ fun z H3 s3 hz => q _ _ (s2.trans s3) hz)
    | false => exact iteF (h2 rfl S1 H2 (n.then s2) _ fun z H3 s3 hz => q _ _ (s2.trans s3) hz)
theorem sb_is {b' : Bool} (h : SB S tt σ H b) (e : b = b') : SB S tt σ H b' := e ▸ h
theorem sb_val (h : SV K S te σ H (.bool b)) : SB S (tB te) σ H b := fun S1 H1 n Q q => h S1 H1 n _ fun x H2 s2 hx => ⟨b, hx.b, q _ s2⟩
theorem sb_test (h : SV K S te σ H (.bool b)) : SB S (tTest te) σ H b := fun S1 H1 n Q q => h S1 H1 n _ fun x H2 s2 hx => ⟨b, hx.b, q _ s2⟩
theorem sb_not (h : SB S tt σ H b) : SB S (tNot tt) σ H (!b) := fun S1 H1 n Q q => h S1 H1 n _ q
theorem sb_and (h : SB S tt σ H b) (h2 : b = true → SB S tu σ H c) : SB S (tAnd tt tu) σ H (b && c) := fun S1 H1 n Q q => h S1 H1 n _ fun H2 s2 => by
  cases b with
  | true => exact iteT (h2 rfl S1 H2 (n.then s2) _ fun H3 s3 => q _ (s2.trans s3))
  | false => exact iteF (q _ s2)
theorem sb_or (h : SB S tt σ H b) (h2 : b = false → SB S tu σ H c) : SB S (tOr tt tu) σ H (b || c) := fun S1 H1 n Q q => h S1 H1 n _ fun H2 s2 => by
  cases b with
  | true => exact iteT (q _ s2)
  | false => exact iteF (h2 rfl S1 H2 (n.then s2) _ fun H3 s3 => q _ (s2.trans s3))
theorem sb_yes : SB S tYes σ H true := fun S1 H1 n Q q => q _ (Same.refl _)
/-! ### statements -/
variable {D : Ends} {tz ty : TS}
theorem set_sv {i : Nat} (l : Live S H) (h : SV K S te σ H d) (k : ∀ v H', Same H H' → Live S H' → Ds K S H' v d → tz D (σ.set i (some v)) H') : tSeq (tAsg te (gName i)) tz D σ H := h.run l fun v H' s hv => k v H' s (l.same s) hv
theorem ret_sv (l : Live S H) (h : SV K S te σ H d) (k : ∀ v H', Same H H' → Ds K S H' v d → D.rt v H') : tRet te D σ H := h.run l k
theorem if_sb (l : Live S H) (h : SB S tt σ H b) (k1 : b = true → ∀ H', Same H H' → Live S H' → tz D σ H') (k2 : b = false → ∀ H', Same H H' → Live S H' → ty D σ H') : tIfS tt tz ty D σ H := h.run l fun H' s => by
  cases b with
  | true => exact iteT (k1 rfl H' s (l.same s))
  | false => exact iteF (k2 rfl H' s (l.same s))
/-! ### calls of what promises data of data -/
/-- x: the arguments as they are meant, enc: their data -/
def spT (K : PySem.W.Frag) {α : Type} (enc : α → List PyData) (pre : α → Prop) (f : α → PyData) : Sp := fun vs H Q _ => ∃ (S : Sh) (x : α), Live S H ∧ DsAll K S H vs (enc x) ∧ pre x ∧ ∀ v H', Same H H' → Ds K S H' v (f x) → Q v H'
theorem sv_T {α : Type} {enc : α → List PyData} {pre : α → Prop} {f : α → PyData} {E : XK} (x : α) (h : SA K S tr σ H ds) (e : ds = enc x) (hp : pre x) : SV K S (tCall (spT K enc pre f) [] E tr) σ H (f x) := fun S1 H1 n Q q =>
  h S1 H1 n _ fun vs H2 s2 hs => ⟨S1, x, n.live.same s2, by rw [← e, List.append_nil]; exact hs, hp, fun v H3 s3 hv => q v H3 (s2.trans s3) hv⟩
end
/-! ### walks -/
/-- what is walked gives the data ds -/
def SI (K : PySem.W.Frag) (S : Sh) (wi : TI) (σ : L2.St) (H : Hp) (ds : List PyData) : Prop := ∀ S' H', Now S H S' H' → ∀ R : It → Hp → Prop,
  (∀ J H2, Same H' H2 → Walk J ds.length (fun H3 => ∃ S2, Step S' H2 S2 H3) (fun i H3 v H4 => Same H3 H4 ∧ ∃ d, ds[i]? = some d ∧ ∀ S2, Step S' H2 S2 H3 → Ds K S2 H4 v d) → R J H2) → wi σ H' R
/-- a list or a tuple, walked -/
def iAny (K : PySem.W.Frag) (tl : TE) : TI := fun σ H R => tl σ H fun x H1 => ∃ a, x = .ref a ∧ (((∃ xs, SqL K H1 a xs) ∧ R (Itl K a) H1) ∨ ((∃ xs, SqT K H1 a xs) ∧ R (Itt K a) H1))
theorem pi_any {X : Cx} {tg l : Expr} {tl : TE} (hl : PE X l tl) : PI X tg l (iAny X.K tl) := by
  refine ⟨fun pins s σ H R I h => thn (hl.run pins s σ H _ I h) fun v s1 ⟨x, H1, I1, r1, a, e, q⟩ => ?_⟩
  subst e
  cases r1
  have hfp : ∀ b ∈ [s1.heap.objs.size], FpOk X pins H1 b := fun b hb => by
    rw [List.mem_singleton.mp hb]
    exact I1.fpOk (Nat.le_refl _) (I1.hok.fresh (Nat.le_refl _))
  rcases q with ⟨⟨xs, hq⟩, q⟩ | ⟨⟨xs, hq⟩, q⟩
  · obtain ⟨its, _, p, _⟩ := I1.list hq
    exact wpAny_pyIter_list p.isList ⟨_, _, _, _, H1, rfl, I1.kept (t' := s1.toks) fun b o z => Heap.get?_push_of_some _ z, turn_list a _, ⟨_, Heap.get?_push_size _ rfl, rfl, rfl⟩, hfp, q⟩
  · obtain ⟨its, _, p, _⟩ := I1.tuple hq
    exact wpAny_pyIter_tuple (show s1.heap.IsTuple a its.toArray from p) ⟨_, _, _, _, H1, rfl, I1.kept (t' := s1.toks) fun b o z => Heap.get?_push_of_some _ z, turn_tuple a _, ⟨_, Heap.get?_push_size _ rfl, rfl, rfl⟩, hfp, q⟩
section
variable {K : PySem.W.Frag} {S S' : Sh} {σ : L2.St} {H H' : Hp} {ta tb te tc : TE} {tr tk : TA} {tt tu : TT} {d e : PyData} {ds es : List PyData} {v : V} {b c : Bool} {wi : TI} {g : TG}
/-- a list where k is true, else a tuple -/
def seqD (k : Bool) (ds : List PyData) : PyData := if k = true then .list ds else .tuple ds
theorem walkL {a : Addr} {xs : List V} (h : LS S H a xs) (hs : DsAll K S H xs ds) : Walk (Itl K a) ds.length (fun H3 => ∃ S2, Step S H S2 H3) (fun i H3 v H4 => Same H3 H4 ∧ ∃ d, ds[i]? = some d ∧ ∀ S2, Step S H S2 H3 → Ds K S2 H4 v d) := by
  rw [← hs.length]
  refine (walk_list (xs := xs)).mono (fun H3 ⟨S2, z⟩ => at_step z h.1 h.2 |> fun y => .inl (.inl y.2)) fun i H3 v H4 hi _ y => ?_
  obtain ⟨rfl, e⟩ := y
  obtain ⟨d, e1, e2⟩ := hs.get e
  exact ⟨Same.refl _, d, e1, fun S2 z => e2.step z⟩
theorem walkT {a : Addr} {xs : List V} (h : TS' S H a xs) (hs : DsAll K S H xs ds) : Walk (Itt K a) ds.length (fun H3 => ∃ S2, Step S H S2 H3) (fun i H3 v H4 => Same H3 H4 ∧ ∃ d, ds[i]? = some d ∧ ∀ S2, Step S H S2 H3 → Ds K S2 H4 v d) := by
  rw [← hs.length]
  refine (walk_tup (xs := xs)).mono (fun H3 ⟨S2, z⟩ => at_step z h.1 h.2 |> fun y => .inl (.inl y.2)) fun i H3 v H4 hi _ y => ?_
  obtain ⟨rfl, e⟩ := y
  obtain ⟨d, e1, e2⟩ := hs.get e
  exact ⟨Same.refl _, d, e1, fun S2 z => e2.step z⟩
theorem si_any {k : Bool} (h : SV K S te σ H (seqD k ds)) : SI K S (iAny K te) σ H ds := fun S1 H1 n R q => h S1 H1 n _ fun x H2 s2 hx => by
  cases k with
  | true =>
    obtain ⟨a, xs, rfl, l, hs⟩ := Ds.l hx
    exact ⟨a, rfl, .inl ⟨⟨xs, l.sq⟩, q _ _ s2 (walkL l hs)⟩⟩
  | false =>
    obtain ⟨a, xs, rfl, l, hs⟩ := Ds.t hx
    exact ⟨a, rfl, .inr ⟨⟨xs, l.sq⟩, q _ _ s2 (walkT l hs)⟩⟩
theorem si_l (h : SV K S te σ H (.list ds)) : SI K S (iAny K te) σ H ds := si_any (k := true) h
theorem si_t (h : SV K S te σ H (.tuple ds)) : SI K S (iAny K te) σ H ds := si_any (k := false) h
/-- a for over it -/
theorem for_si {D : Ends} {tb : TS} (l : Live S H) (h : SI K S wi σ H ds)
    (k : ∀ H2, Same H H2 → Live S H2 → ∃ Pv : Nat → L2.St → Hp → Prop, Pv 0 σ H2 ∧ (∀ i σ H3, i ≤ ds.length → Pv i σ H3 → ∃ S2, Step S H2 S2 H3) ∧
      (∀ i d v σ H3 H4, ds[i]? = some d → Pv i σ H3 → Same H3 H4 → (∀ S2, Step S H2 S2 H3 → Ds K S2 H4 v d) → g v σ H4 fun σ2 H5 => tb { D with nx := Pv (i + 1), ct := Pv (i + 1), bk := D.nx } σ2 H5) ∧ ∀ σ H3, Pv ds.length σ H3 → D.nx σ H3) : tFor wi g tb D σ H :=
  h S H (Now.refl l) _ fun J H2 s w => by
    obtain ⟨Pv, k0, kG, kt, kd⟩ := k H2 s (l.same s)
    exact for_it w Pv k0 kG (fun i x σ H3 H4 hi hp ⟨sm, d, ed, hd⟩ => kt i d x σ H3 H4 ed hp sm hd) kd
/-- a comprehension over it, f of each item, of those where t is true -/
def SN (K : PySem.W.Frag) (S : Sh) (te : TE) (σ : L2.St) (H : Hp) (ds : List PyData) : Prop := ∀ S' H', Now S H S' H' → ∀ Q : VK, (∀ a xs H2, Same H' H2 → H' a = none → H2 a = some (.lst xs) → DsAll K S' H2 xs ds → Q (.ref a) H2) → te σ H' Q
theorem SN.sv (h : SN K S te σ H ds) : SV K S te σ H (.list ds) := fun S1 H1 n Q q => h S1 H1 n Q fun a xs H2 s na ha hs => q _ _ s (.lst ⟨n.live.ne na, ha⟩ hs)
theorem SN.is (h : SN K S te σ H ds) (e : ds = es) : SN K S te σ H es := e ▸ h
theorem sn_lc {vs : List Nat} (h : SI K S wi σ H ds) (hl : ds.length ≤ 5000) (t : Nat → PyData → Bool) (f : Nat → PyData → PyData)
    (hs : ∀ i d S' H' v (Q : L2.St → Hp → Prop), ds[i]? = some d → Now S H S' H' → Ds K S' H' v d → (∀ σ2, wipe σ2 vs = wipe σ vs → SB S' tt σ2 H' (t i d) → (t i d = true → SV K S' te σ2 H' (f i d)) → Q σ2 H') → g v (wipe σ vs) H' Q) :
    SN K S (tLc wi g tt te vs) σ H ((ds.zipIdx.filter fun p => t p.2 p.1).map fun p => f p.2 p.1) := fun S1 H1 n Q q =>
  h S1 H1 n _ fun J H2 s2 w D nD => by
    have l2 : Live S1 H2 := n.live.same s2
    refine lc_it w (fun i H3 => ∃ vs, H3 D = some (.lst vs) ∧ Now S1 H2 (fun a => S1 a ∨ a = D) H3 ∧ DsAll K (fun a => S1 a ∨ a = D) H3 vs (((ds.zipIdx.take i).filter fun p => t p.2 p.1).map fun p => f p.2 p.1))
      ⟨[], upd_same, Now.add l2 nD, .nil⟩ (fun i H3 _ ⟨_, _, z, _⟩ => ⟨_, z.step⟩) (fun i x H3 H4 hi ⟨vs3, e3, n3, d3⟩ ⟨s4, d, ed, hd⟩ => ?_) fun H3 ⟨vs3, e3, n3, d3⟩ => ?_
    · have n4 : Now S1 H2 (fun a => S1 a ∨ a = D) H4 := n3.then s4
      refine hs i d _ H4 x _ ed ((n.then s2).trans n4) (hd _ n3.step) fun σ2 ew hb hv => ⟨ew, hb.run n4.live fun H5 s5 => ?_⟩
      have ei : ds.zipIdx[i]? = some (d, i) := by rw [List.getElem?_zipIdx, ed]; simp
      have n5 := n4.then s5
      cases et : t i d with
      | true =>
        refine iteT ((hv et).now (Now.of n4.live s5) |>.run n5.live fun y H6 s6 hy => ⟨vs3, s6 _ _ (s5 _ _ (s4 _ _ e3)), ?_, vs3 ++ [y], upd_same, (n5.then s6).put (.inr rfl) (l2.ne nD), ?_⟩)
        · have h1 := d3.length
          have h2 := List.length_filter_le (fun p : PyData × Nat => t p.2 p.1) (ds.zipIdx.take i)
          have h3 := List.length_take_le i ds.zipIdx
          rw [List.length_map] at h1
          have h4 : (ds.zipIdx.take i).length ≤ ds.length := by rw [List.length_take, List.length_zipIdx]; omega
          exact szl (by omega)
        · have e1 : ((ds.zipIdx.take (i + 1)).filter fun p => t p.2 p.1).map (fun p => f p.2 p.1) = ((ds.zipIdx.take i).filter fun p => t p.2 p.1).map (fun p => f p.2 p.1) ++ [f i d] := by
            rw [List.take_add_one, ei]
            simp [et]
          rw [e1]
          exact ((d3.same s4).same s5 |>.same s6 |>.app (.cons hy .nil)).byX (XS.upd (.inr rfl))
      | false =>
        refine iteF ⟨vs3, s5 _ _ (s4 _ _ e3), n5, ?_⟩
        have e1 : ((ds.zipIdx.take (i + 1)).filter fun p => t p.2 p.1).map (fun p => f p.2 p.1) = ((ds.zipIdx.take i).filter fun p => t p.2 p.1).map (fun p => f p.2 p.1) := by
          rw [List.take_add_one, ei]
          simp [et]
        rw [e1]
        exact (d3.same s4).same s5
    · rw [List.take_of_length_le (by simp)] at d3
      exact q _ _ _ (s2.trans n3.same) (s2.free nD) e3 (d3.less fun _ => .inl)
theorem filter_zipIdx_map (ds : List PyData) (t : PyData → Bool) (f : PyData → PyData) : ((ds.zipIdx.filter fun p => t p.1).map fun p => f p.1) = (ds.filter t).map f := by
  have : ∀ (l : List PyData) (k : Nat), (((l.zipIdx k).filter fun p => t p.1).map fun p => f p.1) = (l.filter t).map f := by
    intro l
    induction l with
    | nil => intro k; rfl
    | cons a l ih =>
      intro k
      rw [List.zipIdx_cons]
      by_cases h : t a = true
      · rw [List.filter_cons_of_pos (by simpa using h), List.filter_cons_of_pos h, List.map_cons, List.map_cons, ih]
      · rw [List.filter_cons_of_neg (by simpa using h), List.filter_cons_of_neg h, ih]
  exact this ds 0
/-- .. by the item alone -/
theorem sn_lcF {vs : List Nat} (h : SI K S wi σ H ds) (hl : ds.length ≤ 5000) (t : PyData → Bool) (f : PyData → PyData)
    (hs : ∀ d S' H' v (Q : L2.St → Hp → Prop), d ∈ ds → Now S H S' H' → Ds K S' H' v d → (∀ σ2, wipe σ2 vs = wipe σ vs → SB S' tt σ2 H' (t d) → (t d = true → SV K S' te σ2 H' (f d)) → Q σ2 H') → g v (wipe σ vs) H' Q) :
    SN K S (tLc wi g tt te vs) σ H ((ds.filter t).map f) := by
  rw [← filter_zipIdx_map]
  exact sn_lc h hl (fun _ d => t d) (fun _ d => f d) fun i d S' H' v Q e n hd k => hs d S' H' v Q (List.mem_of_getElem? e) n hd k
theorem sn_lcM {vs : List Nat} (h : SI K S wi σ H ds) (hl : ds.length ≤ 5000) (f : PyData → PyData)
    (hs : ∀ d S' H' v (Q : L2.St → Hp → Prop), d ∈ ds → Now S H S' H' → Ds K S' H' v d → (∀ σ2, wipe σ2 vs = wipe σ vs → SV K S' te σ2 H' (f d) → Q σ2 H') → g v (wipe σ vs) H' Q) :
    SN K S (tLc wi g tYes te vs) σ H (ds.map f) := by
  have z := sn_lcF (tt := tYes) h hl (fun _ => true) f fun d S' H' v Q m n hd k => hs d S' H' v Q m n hd fun σ2 ew hv => k σ2 ew sb_yes fun _ => hv
  rw [List.filter_eq_self.mpr fun _ _ => rfl] at z
  exact z
theorem sv_lcF {vs : List Nat} (h : SI K S wi σ H ds) (hl : ds.length ≤ 5000) (t : PyData → Bool) (f : PyData → PyData)
    (hs : ∀ d S' H' v (Q : L2.St → Hp → Prop), d ∈ ds → Now S H S' H' → Ds K S' H' v d → (∀ σ2, wipe σ2 vs = wipe σ vs → SB S' tt σ2 H' (t d) → (t d = true → SV K S' te σ2 H' (f d)) → Q σ2 H') → g v (wipe σ vs) H' Q) :
    SV K S (tLc wi g tt te vs) σ H (.list ((ds.filter t).map f)) := (sn_lcF h hl t f hs).sv
theorem sv_lcM {vs : List Nat} (h : SI K S wi σ H ds) (hl : ds.length ≤ 5000) (f : PyData → PyData)
    (hs : ∀ d S' H' v (Q : L2.St → Hp → Prop), d ∈ ds → Now S H S' H' → Ds K S' H' v d → (∀ σ2, wipe σ2 vs = wipe σ vs → SV K S' te σ2 H' (f d) → Q σ2 H') → g v (wipe σ vs) H' Q) :
    SV K S (tLc wi g tYes te vs) σ H (.list (ds.map f)) := (sn_lcM h hl f hs).sv
/-! ### targets -/
theorem g_tup2 {i j : Nat} {d1 d2 : PyData} {Q : L2.St → Hp → Prop} (h : Ds K S H v (.tuple [d1, d2])) (k : ∀ x y, Ds K S H x d1 → Ds K S H y d2 → Q ((σ.set i (some x)).set j (some y)) H) : gTup K 2 (gCons (gName i) (gCons (gName j) gNil)) v σ H Q := by
  obtain ⟨a, xs, rfl, l, hs⟩ := h.t
  obtain ⟨x, y, rfl, hx, hy⟩ := hs.two
  exact ⟨a, _, rfl, l.sq, rfl, x, _, rfl, y, _, rfl, rfl, k x y hx hy⟩
theorem g_tup3 {i j m : Nat} {d1 d2 d3 : PyData} {Q : L2.St → Hp → Prop} (h : Ds K S H v (.tuple [d1, d2, d3])) (k : ∀ x y z, Ds K S H x d1 → Ds K S H y d2 → Ds K S H z d3 → Q (((σ.set i (some x)).set j (some y)).set m (some z)) H) :
    gTup K 3 (gCons (gName i) (gCons (gName j) (gCons (gName m) gNil))) v σ H Q := by
  obtain ⟨a, xs, rfl, l, hs⟩ := h.t
  obtain ⟨x, y, z, rfl, hx, hy, hz⟩ := hs.three
  exact ⟨a, _, rfl, l.sq, rfl, x, _, rfl, y, _, rfl, z, _, rfl, rfl, k x y z hx hy hz⟩
end
end My
set_option Elab.async false
set_option linter.all false
set_option maxRecDepth 100000
/-! enumerate over a tuple or a list; list.count of texts. -/
namespace My
open PySem PySem.Spec PyProof.Rows L2
/-! ### enumerate(v), v anything that begins -/
abbrev enumO (i : Addr) : Obj := { cls := .type "enumerate", data := .fields #[.none, .bool false, .ref i, rawInt 0, .none, .none] }
set_option maxHeartbeats 1000000 in
theorem meets_enumV {v : Value} {o : Obj} {G : Heap → Prop} (B : Begins v o G) : Meets (Builtin.«enumerate.__new__» ⟨[.type "enumerate", v], []⟩)
    (fun _ R s => G s.heap ∧ R (.ok (.ret (.ref (s.heap.push o).objs.size))) { s with heap := (s.heap.push o).push (enumO s.heap.objs.size) }) := by
  refine .of_wp fun prog w A R s h => ?_
  obtain ⟨hp, g, d, tk, os⟩ := s
  obtain ⟨hG, h⟩ := h
  have hsub := sub_enumerate
  have it : ∀ {A' : Around} {E Q : Value → Shared → Prop}, Q (.ref hp.objs.size) ⟨hp.push o, g, d, tk, os⟩ → wpAny (model prog w) A' (pyIter v) Q E ⟨hp, g, d, tk, os⟩ := fun z => B.iter prog w _ _ _ _ hG z
  wp_walk
  refine wpAny_stack_any fun st => wpAny_pure ?_
  split
  · rename_i c _ _ _ _ _
    cases (c == Value.type "enumerate") <;> (wp_walk using it; exact ⟨_, rfl, h⟩)
  · wp_walk using it
    exact ⟨_, rfl, h⟩
theorem call_enumV {prog : Program} {w : World} {A : Around} {E Q : Value → Shared → Prop} {s : Shared} {v : Value} {o : Obj} {G : Heap → Prop} (B : Begins v o G) (hG : G s.heap)
    (h : ∀ h', IsEnum h' (s.heap.objs.size + 1) s.heap.objs.size 0 .none → h'.get? s.heap.objs.size = some o → (∀ b u, s.heap.get? b = some u → h'.get? b = some u) → Q (.ref (s.heap.objs.size + 1)) { s with heap := h' }) :
    wpAny (model prog w) A (call (.type "enumerate") [v]) Q E s := by
  refine callType_new F.called_enumerate (by decide) (F.typeCall_enumerate_1 _) (F.newCall_enumerate_1 _) (fun obj => F.args_object_init_2 obj _) F.entry_enumerate_new (meets_enumV B) ⟨hG, ?_⟩
  have z1 : (s.heap.push o).objs.size = s.heap.objs.size + 1 := Heap.size_push ..
  have e1 : IsEnum ((s.heap.push o).push (enumO s.heap.objs.size)) (s.heap.objs.size + 1) s.heap.objs.size 0 .none := by
    rw [← z1]
    exact Heap.get?_push_size _ rfl
  show _ ∧ _
  rw [z1]
  exact ⟨⟨_, e1, rfl⟩, h _ e1 (Heap.get?_push_of_some _ (Heap.get?_push_size _ B.free)) fun b u z => Heap.get?_push_of_some _ (Heap.get?_push_of_some _ z)⟩
/-- the tuple at a, each item in a new pair -/
def IteT (K : PySem.W.Frag) (a : Addr) : It :=
  ⟨fun i H => ∃ (xs : List V) (x : V), SqT K H a xs ∧ xs[i]? = some x, fun i H v H' => ∃ T x, v = .ref T ∧ H T = none ∧ H' = upd H T (.tup [.int (i : Nat), x]) ∧ ∀ xs, SqT K H a xs → xs[i]? = some x, fun i H => ∃ xs : List V, SqT K H a xs ∧ xs.length ≤ i⟩
theorem turn_enumT {P : Program} {w : World} {K : PySem.W.Frag} {elts : List Expr} {kk : Nat} {tpos : Pos} (a e it : Addr) (h1 : e ≠ it) (h2 : e ≠ a) (h3 : a ≠ it) :
    Turn P w K (.Tuple elts kk tpos) (IteT K a) [e, it] e (fun i h => (∃ old, IsEnum h e it ((i : Nat) : Int) old) ∧ h.IsTupleIter it a i) where
  mem := by simp
  obj := fun i h st b hb => by
    obtain ⟨⟨old, he⟩, o, ho, hc, hd⟩ := st
    rcases List.mem_cons.mp hb with rfl | hb
    · exact ⟨_, he, fun v q => nomatch q⟩
    · rw [List.mem_singleton.mp hb]
      exact ⟨o, ho, fun v q => by rw [hd] at q; cases q⟩
  keep := fun i h h' st k => by
    obtain ⟨⟨old, he⟩, hi⟩ := st
    exact ⟨⟨old, k e (by simp) _ he⟩, hi.at fun o q => k it (by simp) o q⟩
  item := by
    intro X hP hw hK hc i pins s σ H E I hf st hg
    subst hP hw hK
    obtain ⟨⟨old, he⟩, hit⟩ := st
    obtain ⟨xs, x, hq, hx⟩ := hg
    obtain ⟨its, rv, p, hz⟩ := I.tuple hq
    have hlen := rv.length
    have hi : i < its.toArray.size := by
      have := (List.getElem?_eq_some_iff.mp hx).1
      rw [List.size_toArray]
      omega
    have le : e < s.heap.objs.size := Heap.lt_size he
    have li : it < s.heap.objs.size := by obtain ⟨_, q, _⟩ := hit; exact Heap.lt_size q
    have D := Draws.tuple (prog := X.prog) (w := X.w) (A := X.A.in1) (I.ok.hd hc) it a h3 its.toArray
    refine wpAny_pyNext_enum_itemD D he ⟨hit, p⟩ hi h1 (fun m => ?_) fun u h' tk hu ho st' hT hsz hk => ?_
    · rcases List.mem_cons.mp m with m | m
      · exact h1 m
      · exact h2 (List.mem_singleton.mp m)
    have hu2 : its[i]? = some u := by simpa using hu
    obtain ⟨u', hu', ru⟩ := rv.get hx
    have eu : u' = u := Option.some.inj (hu'.symm.trans hu2)
    subst eu
    refine ⟨_, rfl, wpAny_letOwnedTupleGo_enum (s := { s with heap := h', toks := tk + 1 }) ho fun h'' he' sb => ?_⟩
    have new : ObjOk X.prog X.w (upd H s.heap.objs.size (.tup [.int (i : Nat), x])) h'' s.heap.objs.size (.tup [.int (i : Nat), x]) :=
      ⟨by show 2 ≤ sizeLine; decide, [.int i tk, u'], .cons ⟨_, rfl⟩ (.cons ru .nil), _, (sb.2 _ (Nat.ne_of_gt le)).trans hT, rfl, _, rfl⟩
    have kp : ∀ b ob, b ∉ [e, it] → s.heap.get? b = some ob → h''.get? b = some ob := fun b ob hb q => by
      have n1 : b ≠ e := fun z => hb (by simp [z])
      have n2 : b ≠ it := fun z => hb (by simp [z])
      exact (sb.2 b n1).trans (hk b ob n1 n2 q)
    refine ⟨.ref s.heap.objs.size, _, I.turnedNew (t' := tk + 1) kp hf (Nat.le_refl _) new, rfl, ⟨_, x, rfl, I.hok.fresh (Nat.le_refl _), rfl, fun ys hy => by rw [I.tuple_inj hy hq]; exact hx⟩, ⟨⟨u', ?_⟩, st'.1.at fun o q => (sb.2 it h1.symm).trans q⟩, fun b hb => ?_⟩
    · rw [show ((i + 1 : Nat) : Int) = (i : Int) + 1 by omega]
      exact he'
    · have hb' : b < s.heap.objs.size := by
        rcases List.mem_cons.mp hb with rfl | hb
        · exact le
        · rw [List.mem_singleton.mp hb]; exact li
      rw [upd_ne (Nat.ne_of_lt hb')]
      exact (hf b hb).1
  done := by
    intro X hP hw hK hc i pins s σ H E I hf st hg
    subst hP hw hK
    obtain ⟨⟨old, he⟩, hit⟩ := st
    obtain ⟨xs, hq, hx⟩ := hg
    obtain ⟨its, rv, p, hz⟩ := I.tuple hq
    have hlen := rv.length
    obtain ⟨f0, f1, f2, f3, f4, f5⟩ := hf it (by simp)
    obtain ⟨o, ho, hc', hd⟩ := id hit
    have D := Draws.tuple (prog := X.prog) (w := X.w) (A := X.A.in1) (I.ok.hd hc) it a h3 its.toArray
    -- the tuple's iterator stands at its end, or beyond
    unfold pyNext
    have hT : s.TypeIs (.ref e) "enumerate" := ⟨_, he, rfl⟩
    refine wpAny_bind (wpAny_attempt (wpAny_callSpecial?_slot (name := Str.ofString "__next__") hT F.slot_enumerate_next (wpAny_call_entry F.slot_enumerate_next hT F.entry_enumerate_next ?_ (F.args_enumerate_next_1 _))))
    show wpAny _ _ (field (.ref e) 2 >>= _) _ _ _
    refine wpAny_bind (wpAny_field he rfl (x := .ref it) rfl (wpAny_bind (wpAny_nextOf_tuple_end (I.ok.hd hc) hit p (by simp; omega) fun h' x he' hx' => ?_)))
    obtain ⟨ob, hob, hcb⟩ := hx'
    refine wpAny_bind (wpAny_isInstance (T := "StopIteration") (b := true) ⟨ob, hob, hcb⟩ isSubtype_stop (wpAny_pure ?_))
    exact ⟨rfl, I.turned (t' := s.toks) (fun b o hb q => he' b o hb q) f0 f1 f3 f4 f5⟩
  self := fun A i s Q E st h => by
    obtain ⟨⟨_, he⟩, _⟩ := st
    exact wpAny_pyIter_enum he h
def iEnumA (K : PySem.W.Frag) (ta : TA) : TI := fun σ H R => ta σ H fun vs H1 => ∃ a, vs = [.ref a] ∧ (((∃ xs, SqL K H1 a xs) ∧ R (Ite K a) H1) ∨ ((∃ xs, SqT K H1 a xs) ∧ R (IteT K a) H1))
theorem pi_enumA {X : Cx} {e : Expr} {ta : TA} {p pos tpos : Pos} {elts : List Expr} {kk : Nat} (hg : Gl X "enumerate") (hm : X.mg "enumerate" = none) (ha : PA X [e] ta) (hs : starEach [e] X.env = [(false, eval e X.env)] := by rfl) :
    PI X (.Tuple elts kk tpos) (.Call (.Name "enumerate" p) [e] [] pos) (iEnumA X.K ta) := by
  refine ⟨fun pins s σ H R I h => Call_ (ld_blt I hg hm boot_enumerate (PyProof.Rows.callWith_type1 (thn (ha.run pos pins s σ H _ I h) fun us s1 ⟨vs, H1, I1, r1, q1⟩ => ?_) hs rfl))⟩
  obtain ⟨a, rfl, q⟩ := q1
  obtain ⟨u, rfl, ru⟩ := r1.one
  cases ru
  have hfp : ∀ b ∈ [s1.heap.objs.size + 1, s1.heap.objs.size], FpOk X pins H1 b := fun b hb => by
    have hle : s1.heap.objs.size ≤ b := by
      rcases List.mem_cons.mp hb with rfl | hb
      · exact Nat.le_succ _
      · rw [List.mem_singleton.mp hb]; exact Nat.le_refl _
    exact I1.fpOk hle (I1.hok.fresh hle)
  rcases q with ⟨⟨xs, hq⟩, q⟩ | ⟨⟨xs, hq⟩, q⟩
  · obtain ⟨its, rv, p', hz⟩ := I1.list hq
    refine call_enumV (begins_list a its.toArray) p'.isList fun h' he hit hk => wpAny_pyIter_enum he ?_
    exact ⟨_, _, _, _, H1, rfl, I1.kept (t' := s1.toks) hk, turn_enum a (s1.heap.objs.size + 1) s1.heap.objs.size, ⟨⟨.none, he⟩, ⟨_, hit, rfl, rfl⟩, Nat.succ_ne_self _⟩, hfp, q⟩
  · obtain ⟨its, rv, p', hz⟩ := I1.tuple hq
    have la : a < s1.heap.objs.size := by obtain ⟨o, ho, _⟩ := id p'; exact Heap.lt_size ho
    refine call_enumV (begins_tuple a its.toArray) p' fun h' he hit hk => wpAny_pyIter_enum he ?_
    exact ⟨_, _, _, _, H1, rfl, I1.kept (t' := s1.toks) hk, turn_enumT a (s1.heap.objs.size + 1) s1.heap.objs.size (Nat.succ_ne_self _) (Nat.ne_of_gt (Nat.lt_succ_of_lt la)) (Nat.ne_of_lt la), ⟨⟨.none, he⟩, ⟨_, hit, rfl, rfl⟩⟩, hfp, q⟩
section
variable {K : PySem.W.Frag} {S : Sh} {σ : L2.St} {H : Hp} {tr : TA} {ds : List PyData} {a : Addr} {xs : List V}
theorem walk_enumT : Walk (IteT K a) xs.length (fun H => SqT K H a xs) (YPair (fun i => some (.int (i : Nat))) (fun i => xs[i]?)) :=
  ⟨fun i _ hi q => ⟨xs, xs[i], q, by simp [hi]⟩, fun _ q => ⟨xs, q, Nat.le_refl _⟩, fun i H v H' _ q ⟨T, x, h1, h2, h3, h4⟩ => ⟨T, _, x, h1, h2, h3, rfl, h4 xs q⟩⟩
/-- index and data -/
def enumD (ds : List PyData) : List PyData := ds.zipIdx.map fun p => .tuple [.int (p.2 : Nat), p.1]
theorem enumD_len (ds : List PyData) : (enumD ds).length = ds.length := by simp [enumD]
theorem enumD_at {ds : List PyData} {i : Nat} {d : PyData} (h : ds[i]? = some d) : (enumD ds)[i]? = some (.tuple [.int (i : Nat), d]) := by
  unfold enumD
  rw [List.getElem?_map, List.getElem?_zipIdx, h]
  simp
theorem walkE {J : It} {G : Hp → Prop} (hG : ∀ S2 H3, Step S H S2 H3 → G H3) (w : Walk J xs.length G (YPair (fun i => some (.int (i : Nat))) (fun i => xs[i]?))) (hs : DsAll K S H xs ds) :
    Walk J (enumD ds).length (fun H3 => ∃ S2, Step S H S2 H3) (fun i H3 v H4 => Same H3 H4 ∧ ∃ d, (enumD ds)[i]? = some d ∧ ∀ S2, Step S H S2 H3 → Ds K S2 H4 v d) := by
  rw [enumD_len, ← hs.length]
  refine w.mono (fun H3 ⟨S2, z⟩ => hG S2 H3 z) fun i H3 v H4 hi _ ⟨T, x, y, e1, nT, e4, ex, ey⟩ => ?_
  subst e1 e4
  cases ex
  obtain ⟨d, ed, hd⟩ := hs.get ey
  exact ⟨same_upd nT, _, enumD_at ed, fun S2 z => new_tup z.live nT (.cons (.int _) (.cons (hd.step z) .nil))⟩
theorem si_enum {k : Bool} (h : SA K S tr σ H [seqD k ds]) : SI K S (iEnumA K tr) σ H (enumD ds) := fun S1 H1 n R q => h S1 H1 n _ fun vs H2 s2 hx => by
  obtain ⟨v, rfl, hv⟩ := hx.one
  cases k with
  | true =>
    obtain ⟨a, xs, rfl, l, hs⟩ := Ds.l hv
    exact ⟨a, rfl, .inl ⟨⟨xs, l.sq⟩, q _ _ s2 (walkE (fun S2 H3 z => Or.inl (.inl (at_step z l.1 l.2).2)) walk_enum hs)⟩⟩
  | false =>
    obtain ⟨a, xs, rfl, l, hs⟩ := Ds.t hv
    exact ⟨a, rfl, .inr ⟨⟨xs, l.sq⟩, q _ _ s2 (walkE (fun S2 H3 z => Or.inl (.inl (at_step z l.1 l.2).2)) walk_enumT hs)⟩⟩
/-- for i, (a, b) in enumerate(..) -/
theorem g_enum2 {i j m : Nat} {v : V} {n d1 d2 : PyData} {Q : L2.St → Hp → Prop} (h : Ds K S H v (.tuple [n, .tuple [d1, d2]])) (k : ∀ x y z, Ds K S H x n → Ds K S H y d1 → Ds K S H z d2 → Q (((σ.set i (some x)).set j (some y)).set m (some z)) H) :
    gTup K 2 (gCons (gName i) (gCons (gTup K 2 (gCons (gName j) (gCons (gName m) gNil))) gNil)) v σ H Q := by
  obtain ⟨a, xs, rfl, l, hs⟩ := h.t
  obtain ⟨x, y, rfl, hx, hy⟩ := hs.two
  refine ⟨a, _, rfl, l.sq, rfl, x, _, rfl, y, _, rfl, ?_⟩
  exact g_tup2 hy fun z w hz hw => ⟨rfl, k x z w hx hz hw⟩
end
/-! ### list.count of texts -/
def eqS (k : Str) (v : Value) : Bool := match v with
  | .str n _ => n == k
  | _ => false
theorem eqS_at {A : Around} {s : Shared} {k : Str} {t : Tok} : ∀ {xs : List Str} {us : List Value}, Vals (xs.map V.str) us → ∀ y ∈ us, SeqAt.EqAt A s y (.str k t) (eqS k y)
  | [], _, h => fun y hy => by cases h; cases hy
  | x :: xs, _, h => fun y hy => by
    cases h with
    | cons r rs =>
      obtain ⟨u, rfl⟩ := r
      rcases List.mem_cons.mp hy with rfl | hy
      · exact SeqAt.EqAt.str_str x u k t
      · exact eqS_at rs y hy
theorem eqS_count {k : Str} : ∀ {xs : List Str} {us : List Value}, Vals (xs.map V.str) us → us.countP (eqS k) = xs.count k
  | [], _, h => by cases h; rfl
  | x :: xs, _, h => by
    cases h with
    | cons r rs =>
      obtain ⟨u, rfl⟩ := r
      rw [List.countP_cons, List.count_cons, eqS_count rs]
      rfl
def rCntS (K : PySem.W.Frag) : V → List V → Hp → VK → Prop := fun x xs H Q => ∃ (p : Addr) (ns : List Str) (k : Str), x = .ref p ∧ xs = [.str k] ∧ SqL K H p (ns.map V.str) ∧ Q (.int (ns.count k : Nat)) H
theorem mt_countS {X : Cx} : MtR X "list.count" (rCntS X.K) := by
  intro pins s σ H x xs v us Q I rx rxs h
  obtain ⟨p, ns, k, rfl, rfl, hs, q⟩ := h
  cases rx
  obtain ⟨u, rfl, t, rfl⟩ := rxs.one
  obtain ⟨its, rv, ⟨o, n, ho, hc, hdn, hd⟩, hlen⟩ := I.list hs
  obtain ⟨cls, dd, data, sl⟩ := o
  simp only at hc hd
  subst hc hd
  refine call_meets PySem.F.slot_list_count ⟨_, ho, rfl⟩ PySem.F.entry_list_count (PySem.F.args_list_count_2 _ _) (SeqAt.list_countAt p its.toArray n dd sl (.str k t) (eqS k)) ⟨ho, fun y hy => eqS_at rv y (by simpa using hy), ?_⟩
  refine ⟨.int (ns.count k : Nat), H, I.tok _, ⟨s.toks, ?_⟩, q⟩
  rw [← eqS_count rv]
end My
set_option Elab.async false
set_option linter.all false
set_option maxRecDepth 100000
/-! own classes: made with *rows, str(o), classmethods by keyword; list.remove of texts. -/
namespace My
open PySem PySem.Spec PyProof.Rows L2 StX ClX
section
variable {X : Cx} {CX : CXT} {k i : Nat} {f C : Addr} {sp : Sp} {E : XK} {x : Str} {e : Expr} {te : TE} {p pos spos : Pos}
/-- C() -/
theorem pe_makeR0 (M : Mk X.K C f) (F : FnR X.prog X.w X.K X.mg X.base CX k f sp) (hr : Room (k + 1) X.A) (hg : Gl X x) (hm : X.mg x = some (.ref C)) (hx : Passes CX X E) (hdb : (x == ("__debug__" : Str)) = false := by decide) : PE X (.Call (.Name x p) [] [] pos) (tMakeR C sp E tNil) := by
  refine ⟨fun pins s σ H Q I h => wpAny_Call_Name_kw (ld_glob I hg hm ?_ hdb)⟩
  exact PySem.W.callWith_K0 I.kIn M.kp (run_makeR (us := []) M F hr hx I .nil h)
/-- C(*e) -/
def tMakeS (K : PySem.W.Frag) (C : Addr) (sp : Sp) (E : XK) (te : TE) : TE := fun σ H Q => te σ H fun y H1 => ∃ a xs, y = V.ref a ∧ (SqT K H1 a xs ∨ SqL K H1 a xs) ∧ ∀ x dx, H1 x = none → H1 dx = none → dx ≠ x →
  sp (V.ref x :: xs) (upd (upd H1 dx (.own x)) x (.ins C dx [])) (fun v H2 => v = .non ∧ Q (.ref x) H2) E
theorem pe_makeS1 (M : Mk X.K C f) (F : FnR X.prog X.w X.K X.mg X.base CX k f sp) (hr : Room (k + 1) X.A) (hg : Gl X x) (hm : X.mg x = some (.ref C)) (hx : Passes CX X E) (he : PE X e te) (hd : (x == ("__debug__" : Str)) = false := by decide)
    (hst : starEach [.Starred e spos] X.env = [(true, eval e X.env)] := by rfl) : PE X (.Call (.Name x p) [.Starred e spos] [] pos) (tMakeS X.K C sp E te) := by
  refine ⟨fun pins s σ H Q I h => wpAny_Call_Name_kw (ld_glob I hg hm ?_ hd)⟩
  refine PySem.W.callWith_S (h₀ := X.base) I.ok.mod.kin M.kp (thn (he.run pins s σ H _ I h) fun v s1 ⟨y, H1, I1, ry, a, xs, ey, hxs, q⟩ => ?_) hst
  subst ey
  cases ry
  exact star_any I1 hxs fun us s2 I2 rv => ⟨I2.kIn, run_makeR M F hr hx I2 rv q⟩
end
/-! ### str(o) by an own __str__ -/
/-! ### C.m(k=..) -/
/-! ### list.remove of texts -/
theorem erase_mapS : ∀ (l : List Str) (j : Nat), (l.map V.str).eraseIdx j = (l.eraseIdx j).map V.str
  | [], j => by simp
  | a :: r, 0 => by simp
  | a :: r, j + 1 => by simp [erase_mapS r j]
theorem eqS_gives {k : Str} {t : Tok} : ∀ {xs : List Str} {us : List Value}, Vals (xs.map V.str) us → ∀ y ∈ us, MeetsSeq.EqGives y (.str k t) (eqS k y)
  | [], _, h => fun y hy => by cases h; cases hy
  | x :: xs, _, h => fun y hy => by
    cases h with
    | cons r rs =>
      obtain ⟨u, rfl⟩ := r
      rcases List.mem_cons.mp hy with rfl | hy
      · show MeetsSeq.EqGives _ _ (x == k)
        rw [← SeqAt.str_beq]
        exact SeqRoads2.EqGives.str x k u t
      · exact eqS_gives rs y hy
def rRemS : V → List V → Hp → VK → Prop := fun x xs H Q => ∃ (l : Addr) (ns : List Str) (k : Str) (j : Nat), x = .ref l ∧ xs = [.str k] ∧ H l = some (.lst (ns.map V.str)) ∧ ns[j]? = some k ∧ (∀ m : Nat, m < j → ns[m]? ≠ some k) ∧ Q .non (upd H l (.lst ((ns.eraseIdx j).map V.str)))
theorem vals_str {xs : List Str} {us : List Value} (r : Vals (xs.map V.str) us) {j : Nat} {x : Str} (h : xs[j]? = some x) : ∃ t, us[j]? = some (.str x t) := by
  obtain ⟨u, hu, t, rfl⟩ := r.get (i := j) (x := .str x) (by rw [List.getElem?_map, h]; rfl)
  exact ⟨t, hu⟩
theorem mt_removeS {X : Cx} : MtM X "list.remove" rRemS := by
  intro pins s σ H x xs v us Q I rx rxs h
  obtain ⟨l, ns, k, j, rfl, rfl, hH, hj, hno, q⟩ := h
  cases rx
  obtain ⟨u, rfl, t, rfl⟩ := rxs.one
  obtain ⟨z, its, n, r, hl, e⟩ := I.lstM hH
  rw [List.length_map] at hl z
  have hjn : j < ns.length := (List.getElem?_eq_some_iff.mp hj).1
  have at_ : ∀ m (h : m < its.toArray.size) x, ns[m]? = some x → ∃ t, its.toArray[m] = .str x t := fun m h x hx => by
    obtain ⟨t, ht⟩ := vals_str r hx
    obtain ⟨_, h2⟩ := List.getElem?_eq_some_iff.mp ht
    exact ⟨t, by simpa using h2⟩
  refine call_meets PySem.F.slot_list_remove ⟨_, e, rfl⟩ PySem.F.entry_list_remove (PySem.F.args_list_remove_2 _ _)
    (MeetsSeq.list_remove l its.toArray n (.str k t) (eqS k) (fun y hy => eqS_gives r y (by simpa using hy)) j (by rw [List.size_toArray]; omega) ?_ ?_ (by rw [List.size_toArray]; omega)) ⟨e, ?_⟩
  · obtain ⟨tj, e1⟩ := at_ j (by rw [List.size_toArray]; omega) k hj
    rw [e1]
    exact beq_self_eq_true k
  · intro m hm hmj
    obtain ⟨tm, e1⟩ := at_ m hm _ (List.getElem?_eq_getElem (by omega))
    rw [e1]
    exact beq_eq_false_iff_ne.mpr fun e2 => hno m hmj (by rw [List.getElem?_eq_getElem (by omega), e2])
  · have rr := r.eraseIdx j
    rw [erase_mapS] at rr
    refine ⟨.non, _, I.lset (its' := its.eraseIdx j) (t' := s.toks) hH e ?_ rr ?_, rfl, q⟩
    · rw [← List.eraseIdxIfInBounds_toArray]
    · rw [List.length_map]
      have := List.length_eraseIdx_le ns j
      omega
end My
set_option Elab.async false
set_option linter.all false
set_option maxRecDepth 100000
/-! More worths: len, items, slices, isinstance, texts. -/
namespace My
open PySem PySem.Spec PyProof.Rows L2
section
variable {K : PySem.W.Frag} {S S' : Sh} {σ : L2.St} {H H' : Hp} {ta tb te tc : TE} {tr tk : TA} {tt tu : TT} {d e : PyData} {ds es : List PyData} {v : V} {b c k : Bool}
theorem sv_cb {r : List V → Hp → VK → Prop} {f : PyData} (ha : SA K S tr σ H ds) (hr : ∀ S' H1 vs (Q : VK), Live S' H1 → DsAll K S' H1 vs ds → (∀ v H2, Same H1 H2 → Ds K S' H2 v f → Q v H2) → r vs H1 Q) : SV K S (tCB r tr) σ H f := fun S1 H1 n Q q =>
  ha S1 H1 n _ fun vs H2 s2 hs => hr S1 H2 vs Q (n.live.same s2) hs fun v H3 s3 hv => q v H3 (s2.trans s3) hv
/-- a list's or a tuple's items -/
theorem Ds.sq (h : Ds K S H v (seqD k ds)) : ∃ a xs, v = .ref a ∧ (SqL K H a xs ∨ SqT K H a xs) ∧ DsAll K S H xs ds := by
  cases k with
  | true => obtain ⟨a, xs, e, l, hs⟩ := Ds.l h; exact ⟨a, xs, e, .inl l.sq, hs⟩
  | false => obtain ⟨a, xs, e, l, hs⟩ := Ds.t h; exact ⟨a, xs, e, .inr l.sq, hs⟩
theorem sv_len (h : SV K S ta σ H (seqD k ds)) : SV K S (tCB (fun xs H Q => ∃ x n, xs = [x] ∧ LenV K x H n ∧ Q (.int (n : Nat)) H) (tCons ta tNil)) σ H (.int (ds.length : Nat)) := sv_cb (sa_cons h sa_nil) fun S1 H1 vs Q l hs q => by
  obtain ⟨v, rfl, hv⟩ := hs.one
  obtain ⟨a, xs, rfl, hq, hx⟩ := hv.sq
  refine ⟨_, ds.length, rfl, ?_, q _ _ (Same.refl _) (.int _)⟩
  rw [← hx.length]
  exact hq.imp (fun z => ⟨xs, z, rfl⟩) fun z => ⟨xs, z, rfl⟩
theorem sv_lenL (h : SV K S ta σ H (.list ds)) : SV K S (tCB (fun xs H Q => ∃ x n, xs = [x] ∧ LenV K x H n ∧ Q (.int (n : Nat)) H) (tCons ta tNil)) σ H (.int (ds.length : Nat)) := sv_len (k := true) h
theorem sv_lenT (h : SV K S ta σ H (.tuple ds)) : SV K S (tCB (fun xs H Q => ∃ x n, xs = [x] ∧ LenV K x H n ∧ Q (.int (n : Nat)) H) (tCons ta tNil)) σ H (.int (ds.length : Nat)) := sv_len (k := false) h
theorem DsAll.atI {i : Int} {xs : List V} (h : DsAll K S H xs ds) (e : L2.atI ds i = some d) : ∃ v, L2.atI xs i = some v ∧ Ds K S H v d := by
  unfold L2.atI at e ⊢
  rw [h.length]
  cases z : ixN ds.length i with
  | none => rw [z] at e; cases e
  | some j =>
    rw [z] at e
    exact h.at (i := j) e
theorem sv_ix {i : Int} (ha : SV K S ta σ H (seqD k ds)) (hb : SV K S tb σ H (.int i)) (he : L2.atI ds i = some d) : SV K S (tOp (rIx K) ta tb) σ H d := sv_op ha hb fun S1 H1 x y Q l hx hy q => by
  cases k with
  | true =>
    obtain ⟨a, xs, rfl, l, hs⟩ := Ds.l hx
    obtain ⟨v, e1, hv⟩ := hs.atI he
    exact .inl ⟨a, xs, i, v, rfl, hy.i, l.sq, e1, q _ _ (Same.refl _) hv⟩
  | false =>
    obtain ⟨a, xs, rfl, l, hs⟩ := Ds.t hx
    obtain ⟨v, e1, hv⟩ := hs.atI he
    exact .inr (.inl ⟨a, xs, i, v, rfl, hy.i, l.sq, e1, q _ _ (Same.refl _) hv⟩)
theorem sv_ixL {i : Int} (ha : SV K S ta σ H (.list ds)) (hb : SV K S tb σ H (.int i)) (he : L2.atI ds i = some d) : SV K S (tOp (rIx K) ta tb) σ H d := sv_ix (k := true) ha hb he
theorem sv_ixA {i : Int} (ha : SV K S ta σ H (.tuple ds)) (hb : SV K S tb σ H (.int i)) (he : L2.atI ds i = some d) : SV K S (tOp (rIx K) ta tb) σ H d := sv_ix (k := false) ha hb he
theorem sv_ixT {i : Int} (ha : SV K S ta σ H (.tuple ds)) (hb : SV K S tb σ H (.int i)) (he : L2.atI ds i = some d) : SV K S (tOp (rIxT K) ta tb) σ H d := sv_op ha hb fun S1 H1 x y Q l hx hy q => by
  obtain ⟨a, xs, rfl, l, hs⟩ := Ds.t hx
  obtain ⟨v, e1, hv⟩ := hs.atI he
  exact ⟨a, xs, i, v, rfl, hy.i, l.sq, e1, q _ _ (Same.refl _) hv⟩
theorem atI_of {α : Type} {xs : List α} {j : Nat} {x : α} (h : xs[j]? = some x) : L2.atI xs (j : Int) = some x := L2.atI_nat h
/-- an item of a list that may change, as it stands -/
theorem sv_ixM {p : Addr} {xs : List V} {i : Nat} {j : Int} (hi : σ[i]? = some (some (.ref p))) (hp : H p = some (.lst xs)) (hb : SV K S tb σ H (.int j)) (he : L2.atI xs j = some v) (hv : Ds K S H v d) : SV K S (tOp (rIx K) (tVar i) tb) σ H d := fun S1 H1 n Q q =>
  ⟨_, hi, hb S1 H1 n _ fun w H2 s2 hw => .inl ⟨p, xs, j, v, rfl, hw.i, .inl (.inl (s2 _ _ (n.same _ _ hp))), he, q _ _ s2 ((hv.now n).same s2)⟩⟩
theorem sv_countS {ys : List Str} {x : Str} (ha : SV K S ta σ H (.list (ys.map PyData.str))) (hb : SV K S tb σ H (.str x)) : SV K S (tBM K "list" (rCntS K) ta (tCons tb tNil)) σ H (.int (ys.count x : Nat)) := fun S1 H1 n Q q =>
  ha S1 H1 n _ fun v H2 s2 hv => by
    obtain ⟨a, xs, rfl, l, hs⟩ := Ds.l hv
    rw [hs.strs] at l
    refine ⟨.inl ⟨rfl, _, l.sq⟩, hb S1 H2 (n.then s2) _ fun w H3 s3 hw => ⟨a, ys, x, rfl, by rw [hw.s], .inl (.inl (s3 _ _ l.2)), q _ _ (s2.trans s3) (.int _)⟩⟩
/-- cut -/
def cutD {α : Type} (xs : List α) (lo hi : Option Int) : List α := (xs.drop (HT.sIx xs.length 0 lo)).take (HT.sIx xs.length xs.length hi - HT.sIx xs.length 0 lo)
theorem DsAll.cut {xs : List V} (h : DsAll K S H xs ds) (lo hi : Option Int) : DsAll K S H (cutV xs lo hi) (cutD ds lo hi) := by
  unfold cutV cutD
  rw [h.length]
  exact (h.drop _).take _
theorem cutD_to {α : Type} (xs : List α) (n : Nat) : cutD xs none (some (n : Int)) = xs.take n := by
  unfold cutD
  rw [HT.sIx_none, HT.sIx_nat, Nat.sub_zero, List.drop_zero]
  rcases Nat.le_total n xs.length with h | h
  · rw [Nat.min_eq_left h]
  · rw [Nat.min_eq_right h, List.take_of_length_le (Nat.le_refl _), List.take_of_length_le h]
theorem cutD_from {α : Type} (xs : List α) (n : Nat) : cutD xs (some (n : Int)) none = xs.drop n := by
  unfold cutD
  rw [HT.sIx_none, HT.sIx_nat]
  rcases Nat.le_total n xs.length with h | h
  · rw [Nat.min_eq_left h, List.take_of_length_le (by rw [List.length_drop]; exact Nat.le_refl _)]
  · rw [Nat.min_eq_right h, List.drop_of_length_le (Nat.le_refl _), List.drop_of_length_le h]
    simp
def SP (K : PySem.W.Frag) (S : Sh) (tl : TO) (σ : L2.St) (H : Hp) (o : Option Int) : Prop := ∀ S' H', Now S H S' H' → ∀ Q : Option Int → Hp → Prop, (∀ H2, Same H' H2 → Q o H2) → tl σ H' Q
theorem sp_no : SP K S tNoPart σ H none := fun _ _ _ _ q => q _ (Same.refl _)
theorem sp_some {i : Int} (h : SV K S te σ H (.int i)) : SP K S (tPart te) σ H (some i) := fun S1 H1 n Q q => h S1 H1 n _ fun v H2 s2 hv => ⟨i, hv.i, q _ s2⟩
theorem sv_slL {tl th : TO} {lo hi : Option Int} (h : SV K S te σ H (.list ds)) (hl : SP K S tl σ H lo) (hh : SP K S th σ H hi) : SV K S (tSl (rSlL K) te tl th) σ H (.list (cutD ds lo hi)) := fun S1 H1 n Q q =>
  h S1 H1 n _ fun v H2 s2 hv => hl S1 H2 (n.then s2) _ fun H3 s3 => hh S1 H3 ((n.then s2).then s3) _ fun H4 s4 => by
    obtain ⟨a, xs, rfl, l, hs⟩ := Ds.l (hv.same (s3.trans s4))
    refine ⟨a, xs, rfl, l.sq, fun p np => q _ _ (((s2.trans s3).trans s4).trans (same_upd np)) (new_lst (n.live.same ((s2.trans s3).trans s4)) np (hs.cut lo hi))⟩
/-- list(x), tuple(x) -/
theorem sv_list (h : SV K S ta σ H (seqD k ds)) : SV K S (tCB (fun xs H Q => ∃ p ys, xs = [.ref p] ∧ (SqL K H p ys ∨ SqT K H p ys) ∧ ∀ l, H l = none → Q (.ref l) (upd H l (.lst ys))) (tCons ta tNil)) σ H (.list ds) := sv_cb (sa_cons h sa_nil) fun S1 H1 vs Q l hs q => by
  obtain ⟨v, rfl, hv⟩ := hs.one
  obtain ⟨a, xs, rfl, hq, hx⟩ := hv.sq
  exact ⟨a, xs, rfl, hq, fun p np => q _ _ (same_upd np) (new_lst l np hx)⟩
def rListOf (K : PySem.W.Frag) : List V → Hp → VK → Prop := fun xs H Q => ∃ p ys, xs = [.ref p] ∧ (SqL K H p ys ∨ SqT K H p ys) ∧ ∀ l, H l = none → Q (.ref l) (upd H l (.lst ys))
theorem call_listK {X : Cx} : CallR X (.type "list") (rListOf X.K) := call_list_of
def rTupOf (K : PySem.W.Frag) : List V → Hp → VK → Prop := fun xs H Q => ∃ p ys, xs = [.ref p] ∧ ((SqL K H p ys ∧ ∀ l, H l = none → Q (.ref l) (upd H l (.tup ys))) ∨ (SqT K H p ys ∧ Q (.ref p) H))
theorem call_tupleK {X : Cx} : CallR X (.type "tuple") (rTupOf X.K) := call_tuple_of
theorem sv_listK (h : SV K S ta σ H (seqD k ds)) : SV K S (tCB (rListOf K) (tCons ta tNil)) σ H (.list ds) := sv_list h
theorem sv_tuple (h : SV K S ta σ H (seqD k ds)) : SV K S (tCB (rTupOf K) (tCons ta tNil)) σ H (.tuple ds) := sv_cb (sa_cons h sa_nil) fun S1 H1 vs Q l hs q => by
  obtain ⟨v, rfl, hv⟩ := hs.one
  cases k with
  | true =>
    obtain ⟨a, xs, rfl, hq, hx⟩ := Ds.l hv
    exact ⟨a, xs, rfl, .inl ⟨hq.sq, fun p np => q _ _ (same_upd np) (new_tup l np hx)⟩⟩
  | false =>
    obtain ⟨a, xs, rfl, hq, hx⟩ := Ds.t hv
    exact ⟨a, xs, rfl, .inr ⟨hq.sq, q _ _ (Same.refl _) hv⟩⟩
/-! ### isinstance -/
theorem sv_isD {n : String} (h : SV K S ta σ H d) (hn : okT n = true) : SV K S (tCB (fun xs H Q => ∃ x n d, xs = [x, .ty n] ∧ okT n = true ∧ Dp K H x d ∧ Q (.bl (isD n d)) H) (tCons ta (tCons (tC (.ty n)) tNil))) σ H (.bool (isD n d)) := fun S1 H1 m Q q =>
  h S1 H1 m _ fun v H2 s2 hv => ⟨v, n, d, rfl, hn, Ds.dp _ _ hv, q _ _ s2 (.bl _)⟩
theorem sv_spD {f : PyData → Bool} {E : XK} (h : SV K S ta σ H d) (hf : fine d = true) : SV K S (tCall (spD K f) [] E (tCons ta tNil)) σ H (.bool (f d)) := fun S1 H1 n Q q =>
  h S1 H1 n _ fun v H2 s2 hv => ⟨v, d, rfl, Ds.dp _ _ hv, hf, fun H3 s3 => q _ _ (s2.trans s3) (.bl _)⟩
def isNonD : PyData → Bool
  | .none => true
  | _ => false
theorem Ds.non_is (h : Ds K S H v d) : decide (v = .non) = isNonD d := by cases h <;> rfl
theorem sv_notN (h : SV K S ta σ H d) : SV K S (tOp (fun x y H Q => y = .non ∧ Q (.bl (!decide (x = .non))) H) ta (tC .non)) σ H (.bool (!isNonD d)) := fun S1 H1 n Q q => h S1 H1 n _ fun v H2 s2 hv => ⟨rfl, q _ _ s2 (by rw [hv.non_is]; exact .bl _)⟩
theorem dec_vs {x y : Str} : decide (V.str x = V.str y) = decide (x = y) := by
  rw [Bool.eq_iff_iff, decide_eq_true_iff, decide_eq_true_iff]
  exact ⟨V.str.inj, fun e => by rw [e]⟩
theorem dec_vi {x y : Int} : decide (V.int x = V.int y) = decide (x = y) := by
  rw [Bool.eq_iff_iff, decide_eq_true_iff, decide_eq_true_iff]
  exact ⟨V.int.inj, fun e => by rw [e]⟩
theorem sv_eqS {x y : Str} (ha : SV K S ta σ H (.str x)) (hb : SV K S tb σ H (.str y)) : SV K S (tOp rEq ta tb) σ H (.bool (decide (x = y))) := sv_op ha hb fun S1 H1 u w Q l hx hy q => by
  rw [hx.s, hy.s]
  exact ⟨rfl, by rw [dec_vs]; exact q _ _ (Same.refl _) (.bl _)⟩
theorem sv_eqI {x y : Int} (ha : SV K S ta σ H (.int x)) (hb : SV K S tb σ H (.int y)) : SV K S (tOp rEq ta tb) σ H (.bool (decide (x = y))) := sv_op ha hb fun S1 H1 u w Q l hx hy q => by
  rw [hx.i, hy.i]
  exact ⟨rfl, by rw [dec_vi]; exact q _ _ (Same.refl _) (.bl _)⟩
theorem sv_neI {x y : Int} (ha : SV K S ta σ H (.int x)) (hb : SV K S tb σ H (.int y)) : SV K S (tOp rNe ta tb) σ H (.bool (!decide (x = y))) := sv_op ha hb fun S1 H1 u w Q l hx hy q => by
  rw [hx.i, hy.i]
  exact ⟨rfl, by rw [dec_vi]; exact q _ _ (Same.refl _) (.bl _)⟩
theorem sv_gt {i j : Int} (ha : SV K S ta σ H (.int i)) (hb : SV K S tb σ H (.int j)) : SV K S (tOp (rI0 fun i j => .bl (decide (j < i))) ta tb) σ H (.bool (decide (j < i))) := sv_I0 ha hb fun _ _ => .bl _
/-! ### texts -/
/-- e.f of an instance -/
theorem sv_fld {a C dx : Addr} {fs : List (Str × V)} {f : Str} {i : Nat} (hi : σ[i]? = some (some (.ref a))) (ha : H a = some (.ins C dx fs)) (cl : Cls K C) (na : NoAttr K C f) (hf : fs.lookup f = some v) (hv : Ds K S H v d) : SV K S (tFld K (tVar i) f) σ H d := fun S1 H1 n Q q =>
  ⟨_, hi, a, C, dx, fs, v, rfl, n.same _ _ ha, cl, na, hf, q _ _ (Same.refl _) (hv.now n)⟩
theorem sv_cval {C : Addr} {f : Str} {mc u : Value} (r : ClX.CRead K C mc) (c : ClX.CVal K C mc f v u) (hd : ∀ S' H', Ds K S' H' v d) : SV K S (ClX.tCVal K (tC (.ref C)) f) σ H d := fun S1 H1 n Q q => ⟨C, mc, v, u, rfl, r, c, q _ _ (Same.refl _) (hd _ _)⟩
end
end My
set_option Elab.async false
set_option linter.all false
set_option maxRecDepth 100000
/-! sorted(xs) of data that are alike: the worth is the data merge-sorted. -/
namespace My
open PySem PySem.Spec PyProof.Rows L2
abbrev leD : PyData → PyData → Bool := PySem.W.dataLe false id
/-- the items with their data, as they come out -/
def outD (ps : List (PyData × V)) : List (PyData × V) := ps.mergeSort (PySem.W.dataLe false Prod.fst)
def rSortedD (K : PySem.W.Frag) : List V → Hp → VK → Prop := fun vs H Q => ∃ (a : Addr) (ps : List (PyData × V)), vs = [.ref a] ∧ SqL K H a (ps.map (·.2)) ∧ (∀ p ∈ ps, Dp K H p.2 p.1) ∧
  PySem.W.AllAlike (ps.map (·.1)) ∧ PySem.W.Sortable (ps.map (·.1)) ∧ (∀ p ∈ ps, p.1.depth ≤ 60) ∧ ∀ q, H q = none → Q (.ref q) (upd H q (.lst ((outD ps).map (·.2))))
theorem each_vals : ∀ {ps : List (PyData × V)} {us : List Value}, PySem.W.EachIs (fun u p => RelV p.2 u) us ps → Vals (ps.map (·.2)) us
  | _, _, .nil => .nil
  | _, _, .cons r t => .cons r (each_vals t)
theorem each_reads {X : Cx} {pins : List (Addr × Obj)} {σ : L2.St} {H : Hp} {s : Shared} (I : Inv X pins σ H s) : ∀ {ps : List (PyData × V)} {us : List Value}, Vals (ps.map (·.2)) us → (∀ p ∈ ps, Dp X.K H p.2 p.1) → PySem.W.EachIs (fun u (p : PyData × V) => ∃ as, Reads s.heap u p.1 as) us ps
  | [], _, r, _ => by cases r; exact .nil
  | p :: ps, _, r, k => by
    cases r with
    | cons r1 r2 => exact .cons (Dp.reads I _ _ _ (k p (List.mem_cons_self ..)) r1) (each_reads I r2 fun q hq => k q (List.mem_cons_of_mem _ hq))
theorem each_rel : ∀ {ps : List (PyData × V)} {us : List Value}, Vals (ps.map (·.2)) us → PySem.W.EachIs (fun u (p : PyData × V) => RelV p.2 u) us ps
  | [], _, r => by cases r; exact .nil
  | p :: ps, _, r => by
    cases r with
    | cons r1 r2 => exact .cons r1 (each_rel r2)
theorem outD_len (ps : List (PyData × V)) : (outD ps).length = ps.length := List.length_mergeSort _
theorem cr_sortedD {X : Cx} (hu : X.A.units + 64 < cLine) : CallR X (.builtin "sorted") (rSortedD X.K) := by
  intro pins s σ H vs us Q I r h
  obtain ⟨a, ps, rfl, hs, hd, hal, hk, hdp, q⟩ := h
  obtain ⟨its, rv, hl, hz⟩ := I.list hs
  obtain ⟨u, rfl, ru⟩ := vals1 r
  obtain rfl : u = Value.ref a := ru
  rw [List.length_map] at hz
  refine PySem.W.sorted_data (bs := ps) (enc := Prod.fst) (R := fun u p => RelV p.2 u) hl.isList (each_rel rv) (each_reads I rv hd) hal hk hz (fun p hp => by have := hdp p hp; omega) fun out hlen he => ?_
  have hv := each_vals he
  have I2 : Inv X pins σ (upd H (s.heap.objs.size + 1) (.lst ((outD ps).map (·.2)))) { s with heap := sortedAll s.heap its (List.toArray out) } := by
    refine I.laid (t' := s.toks) (fun b o e => sortedAll_old e) (Nat.le_succ _) ⟨?_, out, ?_⟩
    · rw [List.length_map, outD_len]; exact hz
    · obtain ⟨n, e⟩ := sortedAll_at s.heap its (List.toArray out)
      exact ⟨n, hv, e⟩
  exact ⟨.ref (s.heap.objs.size + 1), _, I2, rfl, q _ (I.hok.fresh (Nat.le_succ _))⟩
end My
set_option Elab.async false
set_option linter.all false
set_option maxRecDepth 100000
/-! dict(zip(xs, ys)), xs a list and ys a tuple: the zip is made, and drawn while its last pair is still held. -/
namespace My
open PySem PySem.Spec PyProof.Rows L2
/-! ### the zip of a list and a tuple is made -/
section
abbrev pushIt (h : Heap) (c : String) (l : Addr) : Heap := h.push { cls := .type c, data := .fields #[.ref l, .int 0 0] }
abbrev pushT (h : Heap) (a b : Value) : Heap := h.push { cls := .type "tuple", data := .seq #[a, b] }
abbrev its2 (h : Heap) (l t : Addr) : Heap := pushIt (pushIt h "list_iterator" l) "tuple_iterator" t
abbrev tis2 (h : Heap) (l t : Addr) : Heap := pushT (pushT (its2 h l t) (.ref h.objs.size) (.ref (pushIt h "list_iterator" l).objs.size)) .none .none
abbrev zips2 (h : Heap) (l t : Addr) : Heap := (tis2 h l t).push { cls := .type "zip", data := .fields #[.none, .bool false, .bool false, .ref (its2 h l t).objs.size, .ref (pushT (its2 h l t) (.ref h.objs.size) (.ref (pushIt h "list_iterator" l).objs.size)).objs.size] }
theorem meets_zipLT (l t : Addr) (xs ys : Array Value) : Meets (Builtin.«zip.__new__» ⟨[.type "zip", .ref l, .ref t], []⟩) (fun _ R s => s.heap.IsList l xs ∧ s.heap.IsTuple t ys ∧ R (.ok (.ret (.ref (tis2 s.heap l t).objs.size))) { s with heap := zips2 s.heap l t }) :=
  .of_wp fun prog w A R s h => by
    obtain ⟨h0, g, d, tk, os⟩ := s
    obtain ⟨a1, a2, h⟩ := h
    have sub := sub_zip
    have b1 : Heap.IsList (Shared.heap ⟨h0, g, d, tk, os⟩) l xs := a1
    have b2 : Heap.IsTuple (Shared.heap ⟨pushIt h0 "list_iterator" l, g, d, tk, os⟩) t ys := Heap.IsTuple.push a2 _
    wp_walk using wpAny_pyIter_list b1, wpAny_pyIter_tuple b2
    exact ⟨_, rfl, h⟩
variable {prog : Program} {w : World} {A : Around} {E : Value → Shared → Prop} {s : Shared}
/-- n: the heap's size before -/
structure ZipLT (h : Heap) (n : Addr) (l t : Addr) : Prop where
  z : IsZip h (n + 4) (n + 2) (n + 3) .none
  ti : IsTupOf2 h (n + 2) (.ref n) (.ref (n + 1))
  to : IsTupOf2 h (n + 3) .none .none
  i1 : h.IsListIter n l 0
  i2 : h.IsTupleIter (n + 1) t 0
theorem call_zipLT {l t : Addr} {xs ys : Array Value} {Q : Value → Shared → Prop} (hl : s.heap.IsList l xs) (ht : s.heap.IsTuple t ys)
    (h : ∀ h', ZipLT h' s.heap.objs.size l t → (∀ c o, s.heap.get? c = some o → h'.get? c = some o) → Q (.ref (s.heap.objs.size + 4)) { s with heap := h' }) : wpAny (model prog w) A (call (.type "zip") [.ref l, .ref t]) Q E s := by
  refine callType_new F.called_zip (by decide) (F.typeCall_zip_2 _ _) (F.newCall_zip_2 _ _) (fun obj => F.args_object_init_3 obj _ _) F.entry_zip_new (meets_zipLT l t xs ys) ⟨hl, ht, ?_⟩
  have up : ∀ {h : Heap} {x : Obj} {c : Addr} {o : Obj}, h.get? c = some o → (h.push x).get? c = some o := fun e => Heap.get?_push_of_some _ e
  have k1 : (pushIt s.heap "list_iterator" l).objs.size = s.heap.objs.size + 1 := Heap.size_push ..
  have k2 : (its2 s.heap l t).objs.size = s.heap.objs.size + 2 := by rw [Heap.size_push, k1]
  have k3 : (pushT (its2 s.heap l t) (.ref s.heap.objs.size) (.ref (pushIt s.heap "list_iterator" l).objs.size)).objs.size = s.heap.objs.size + 3 := by rw [Heap.size_push, k2]
  have k4 : (tis2 s.heap l t).objs.size = s.heap.objs.size + 4 := by rw [Heap.size_push, k3]
  have m0 : (zips2 s.heap l t).get? s.heap.objs.size = some _ := up (up (up (up (Heap.get?_push_size _ rfl))))
  have m1 : (zips2 s.heap l t).get? (pushIt s.heap "list_iterator" l).objs.size = some _ := up (up (up (Heap.get?_push_size _ rfl)))
  have m2 : (zips2 s.heap l t).get? (its2 s.heap l t).objs.size = some _ := up (up (Heap.get?_push_size _ rfl))
  have m3 : (zips2 s.heap l t).get? (pushT (its2 s.heap l t) (.ref s.heap.objs.size) (.ref (pushIt s.heap "list_iterator" l).objs.size)).objs.size = some _ := up (Heap.get?_push_size _ rfl)
  have m4 : (zips2 s.heap l t).get? (tis2 s.heap l t).objs.size = some _ := Heap.get?_push_size _ rfl
  have old : ∀ c o, s.heap.get? c = some o → (zips2 s.heap l t).get? c = some o := fun c o e => up (up (up (up (up e))))
  show _ ∧ _
  rw [k1] at m1
  rw [k2, k1] at m2
  rw [k3] at m3
  rw [k4, k3, k2] at m4
  rw [k4]
  exact ⟨⟨_, m4, rfl⟩, h _ ⟨m4, m2, m3, ⟨_, m0, rfl, rfl⟩, ⟨_, m1, rfl, rfl⟩⟩ old⟩
end
/-! ### as a worth -/
theorem sep_nat {n a b : Nat} (la : a < n) (lb : b < n) : ZipSep2 (n + 4) (n + 2) (n + 3) n (n + 1) [n, a] [n + 1, b] := by
  have no : ∀ {x y c : Nat}, x ≠ y → x ≠ c → x ∉ [y, c] := fun h1 h2 h => by
    rcases List.mem_cons.mp h with e | m
    · exact h1 e
    · exact h2 (List.mem_singleton.mp m)
  exact ⟨Nat.ne_of_lt (by omega), Nat.ne_of_lt (by omega), Nat.ne_of_lt (by omega), Nat.ne_of_gt (by omega), List.mem_cons_self .., no (Nat.ne_of_gt (by omega)) (Nat.ne_of_gt (by omega)), no (Nat.ne_of_gt (by omega)) (Nat.ne_of_gt (by omega)), Nat.ne_of_gt (by omega), List.mem_cons_self ..,
    no (Nat.ne_of_gt (by omega)) (Nat.ne_of_gt (by omega)), no (Nat.ne_of_gt (by omega)) (Nat.ne_of_gt (by omega)), no (Nat.ne_of_lt (by omega)) (Nat.ne_of_gt (by omega)), no (Nat.ne_of_gt (by omega)) (Nat.ne_of_gt (by omega))⟩
end My
set_option Elab.async false
set_option linter.all false
set_option maxRecDepth 100000
/-! A comprehension of two clauses. -/
namespace My
open PySem PySem.Spec PyProof.Rows L2
section
variable {K : PySem.W.Frag} {S : Sh} {σ : L2.St} {H : Hp} {wi wi1 : TI} {g g1 : TG} {tt1 : TT} {te : TE} {ds : List PyData}
theorem len_flat {α β : Type} (f : α → List β) : ∀ (l : List α) (i : Nat), ((l.take i).flatMap f).length ≤ (l.map fun a => (f a).length).sum
  | [], i => by simp
  | a :: l, 0 => by simp
  | a :: l, i + 1 => by
    have := len_flat f l i
    rw [List.take_succ_cons, List.flatMap_cons, List.length_append, List.map_cons, List.sum_cons]
    omega
theorem sv_lc2D {vs vs1 : List Nat} (h : SI K S wi σ H ds) (inn : PyData → List PyData) (hl : (ds.map fun d => (inn d).length).sum ≤ 5000) (t : PyData → PyData → Bool) (f : PyData → PyData → PyData)
    (hs : ∀ d S' H' v (Q : L2.St → Hp → Prop), d ∈ ds → Now S H S' H' → Ds K S' H' v d → (∀ σ2, wipe σ2 vs = wipe σ vs → SI K S' wi1 σ2 H' (inn d) →
      (∀ e S2 H2 v (Q2 : L2.St → Hp → Prop), e ∈ inn d → Now S H S2 H2 → Step S' H' S2 H2 → Ds K S2 H2 v e → (∀ σ3, wipe σ3 vs1 = wipe σ2 vs1 → SB S2 tt1 σ3 H2 (t d e) → (t d e = true → SV K S2 te σ3 H2 (f d e)) → Q2 σ3 H2) → g1 v (wipe σ2 vs1) H2 Q2) → Q σ2 H') → g v (wipe σ vs) H' Q) :
    SV K S (tLc2 wi g tYes wi1 g1 tt1 te vs vs1) σ H (.list (ds.flatMap fun d => ((inn d).filter (t d)).map (f d))) := fun S1 H1 n Q q =>
  h S1 H1 n _ fun J H2 s2 w D nD => by
    have l2 : Live S1 H2 := n.live.same s2
    let out : PyData → List PyData := fun d => ((inn d).filter (t d)).map (f d)
    have hout : ∀ d, (out d).length ≤ (inn d).length := fun d => by
      show (((inn d).filter (t d)).map (f d)).length ≤ _
      rw [List.length_map]
      exact List.length_filter_le _ _
    have hpart : ∀ i, ((ds.take i).flatMap out).length ≤ 5000 := fun i => by
      refine Nat.le_trans (len_flat out ds i) (Nat.le_trans ?_ hl)
      clear hl
      generalize ds = l
      induction l with
      | nil => exact Nat.le_refl _
      | cons a l ih => rw [List.map_cons, List.map_cons, List.sum_cons, List.sum_cons]; have := hout a; omega
    refine ⟨fun i m H3 => m = ds.length - i ∧ i ≤ ds.length ∧ ∃ vs, H3 D = some (.lst vs) ∧ Now S1 H2 (fun a => S1 a ∨ a = D) H3 ∧ DsAll K (fun a => S1 a ∨ a = D) H3 vs ((ds.take i).flatMap out),
      ⟨ds.length, by simp, Nat.zero_le _, [], upd_same, Now.add l2 nD, .nil⟩, ?_⟩
    rintro i m H3 ⟨rfl, hi, vs3, e3, n3, d3⟩
    by_cases hlt : i < ds.length
    · refine .inr ⟨w.goes i H3 hlt ⟨_, n3.step⟩, fun H4 => i + 1 ≤ ds.length ∧ ∃ vs, H4 D = some (.lst vs) ∧ Now S1 H2 (fun a => S1 a ∨ a = D) H4 ∧ DsAll K (fun a => S1 a ∨ a = D) H4 vs ((ds.take (i + 1)).flatMap out), fun H4 ⟨a, b⟩ => ⟨ds.length - (i + 1), by omega, rfl, a, b⟩, fun x H4 y => ?_⟩
      obtain ⟨s4, d, ed, hd⟩ := w.yields i H3 x H4 hlt ⟨_, n3.step⟩ y
      have n4 : Now S1 H2 (fun a => S1 a ∨ a = D) H4 := n3.then s4
      have epart : (ds.take (i + 1)).flatMap out = (ds.take i).flatMap out ++ out d := by
        rw [List.take_add_one, ed, List.flatMap_append]
        simp
      have hlen := hpart (i + 1)
      rw [epart, List.length_append] at hlen
      refine hs d _ H4 x _ (List.mem_of_getElem? ed) ((n.then s2).trans n4) (hd _ n3.step) fun σ2 ew hi1 hs1 => ⟨ew, ?_⟩
      dsimp only [tYes]
      rw [if_pos rfl]
      refine hi1 _ H4 (Now.refl n4.live) _ fun J1 H5 s5 w1 => ?_
      have n5 := n4.then s5
      refine ⟨fun j k H6 => k = (inn d).length - j ∧ j ≤ (inn d).length ∧ ∃ vs, H6 D = some (.lst vs) ∧ Now S1 H2 (fun a => S1 a ∨ a = D) H6 ∧ Step (fun a => S1 a ∨ a = D) H5 (fun a => S1 a ∨ a = D) H6 ∧ DsAll K (fun a => S1 a ∨ a = D) H6 vs ((ds.take i).flatMap out ++ (((inn d).take j).filter (t d)).map (f d)),
        ⟨(inn d).length, by simp, Nat.zero_le _, vs3, s5 _ _ (s4 _ _ e3), n5, Step.refl n5.live, by simpa using (d3.same s4).same s5⟩, ?_⟩
      rintro j k H6 ⟨rfl, hj, vs6, e6, n6, t6, d6⟩
      by_cases hjl : j < (inn d).length
      · refine .inr ⟨w1.goes j H6 hjl ⟨_, t6⟩, fun H7 => j + 1 ≤ (inn d).length ∧ ∃ vs, H7 D = some (.lst vs) ∧ Now S1 H2 (fun a => S1 a ∨ a = D) H7 ∧ Step (fun a => S1 a ∨ a = D) H5 (fun a => S1 a ∨ a = D) H7 ∧ DsAll K (fun a => S1 a ∨ a = D) H7 vs ((ds.take i).flatMap out ++ (((inn d).take (j + 1)).filter (t d)).map (f d)), fun H7 ⟨a, b⟩ => ⟨(inn d).length - (j + 1), by omega, rfl, a, b⟩, fun x1 H7 y1 => ?_⟩
        obtain ⟨s7, e, ee, he⟩ := w1.yields j H6 x1 H7 hjl ⟨_, t6⟩ y1
        have n7 := n6.then s7
        refine hs1 e _ H7 x1 _ (List.mem_of_getElem? ee) ((n.then s2).trans n7) ((Step.trans n4.live (Now.of n4.live s5).step t6).then s7) (he _ t6) fun σ3 ew1 hb hv => ⟨ew1, ?_⟩
        refine hb.run n7.live fun H8 s8 => ?_
        have n8 := n7.then s8
        have t8 := (t6.then s7).then s8
        cases et : t d e with
        | true =>
          refine iteT ((hv et).now (Now.of n7.live s8) |>.run n8.live fun y H9 s9 hy => ⟨vs6, s9 _ _ (s8 _ _ (s7 _ _ e6)), ?_, hjl, vs6 ++ [y], upd_same, (n8.then s9).put (.inr rfl) (l2.ne nD), (t8.then s9).put (.inr rfl), ?_⟩)
          · have h1 := d6.length
            have h2 : ((((inn d).take j).filter (t d)).map (f d)).length ≤ (out d).length := by
              show _ ≤ (((inn d).filter (t d)).map (f d)).length
              rw [List.length_map, List.length_map]
              exact List.Sublist.length_le ((List.take_sublist j (inn d)).filter (t d))
            rw [List.length_append] at h1
            exact szl (by omega)
          · have e1 : (((inn d).take (j + 1)).filter (t d)).map (f d) = (((inn d).take j).filter (t d)).map (f d) ++ [f d e] := by
              rw [List.take_add_one, ee]
              simp [et]
            rw [e1, ← List.append_assoc]
            exact (((d6.same s7).same s8).same s9 |>.app (.cons hy .nil)).byX (XS.upd (.inr rfl))
        | false =>
          refine iteF ⟨hjl, vs6, s8 _ _ (s7 _ _ e6), n8, t8, ?_⟩
          have e1 : (((inn d).take (j + 1)).filter (t d)).map (f d) = (((inn d).take j).filter (t d)).map (f d) := by
            rw [List.take_add_one, ee]
            simp [et]
          rw [e1]
          exact (d6.same s7).same s8
      · have ej : j = (inn d).length := by omega
        subst ej
        refine .inl ⟨w1.stops H6 ⟨_, t6⟩, hlt, vs6, e6, n6, ?_⟩
        rw [List.take_of_length_le (Nat.le_refl _)] at d6
        rw [epart]
        exact d6
    · have ei : i = ds.length := by omega
      subst ei
      rw [List.take_of_length_le (Nat.le_refl _)] at d3
      exact .inl ⟨w.stops H3 ⟨_, n3.step⟩, q _ _ (s2.trans n3.same) (.lst ⟨l2.ne nD, e3⟩ (d3.less fun _ => .inl))⟩
theorem sv_lc2 {vs vs1 : List Nat} (h : SI K S wi σ H ds) (inn : PyData → List PyData) (hl : (ds.map fun d => (inn d).length).sum ≤ 5000) (t : PyData → Bool) (f : PyData → PyData)
    (hs : ∀ d S' H' v (Q : L2.St → Hp → Prop), d ∈ ds → Now S H S' H' → Ds K S' H' v d → (∀ σ2, wipe σ2 vs = wipe σ vs → SI K S' wi1 σ2 H' (inn d) →
      (∀ e S2 H2 v (Q2 : L2.St → Hp → Prop), e ∈ inn d → Now S H S2 H2 → Step S' H' S2 H2 → Ds K S2 H2 v e → (∀ σ3, wipe σ3 vs1 = wipe σ2 vs1 → SB S2 tt1 σ3 H2 (t e) → (t e = true → SV K S2 te σ3 H2 (f e)) → Q2 σ3 H2) → g1 v (wipe σ2 vs1) H2 Q2) → Q σ2 H') → g v (wipe σ vs) H' Q) :
    SV K S (tLc2 wi g tYes wi1 g1 tt1 te vs vs1) σ H (.list (ds.flatMap fun d => ((inn d).filter t).map f)) := sv_lc2D h inn hl (fun _ => t) (fun _ => f) hs
end
end My
namespace My
open PySem PySem.Spec PyProof.Rows L2
section
variable {K : PySem.W.Frag} {S : Sh} {σ : L2.St} {H : Hp} {wi : TI} {g : TG} {tt : TT} {te : TE} {ds : List PyData} {D : Ends} {tz ty tr tb : TS} {b : Bool} {d : PyData}
theorem seq_if (l : Live S H) (h : SB S tt σ H b) (k1 : b = true → ∀ H', Same H H' → Live S H' → tz { D with nx := tr D } σ H') (k2 : b = false → ∀ H', Same H H' → Live S H' → ty { D with nx := tr D } σ H') : tSeq (tIfS tt tz ty) tr D σ H := if_sb (D := { D with nx := tr D }) l h k1 k2
theorem seq_for (l : Live S H) (h : SI K S wi σ H ds)
    (k : ∀ H2, Same H H2 → Live S H2 → ∃ Pv : Nat → L2.St → Hp → Prop, Pv 0 σ H2 ∧ (∀ i σ H3, i ≤ ds.length → Pv i σ H3 → ∃ S2, Step S H2 S2 H3) ∧
      (∀ i d v σ H3 H4, ds[i]? = some d → Pv i σ H3 → Same H3 H4 → (∀ S2, Step S H2 S2 H3 → Ds K S2 H4 v d) → g v σ H4 fun σ2 H5 => tb { D with nx := Pv (i + 1), ct := Pv (i + 1), bk := tr D } σ2 H5) ∧ ∀ σ H3, Pv ds.length σ H3 → tr D σ H3) : tSeq (tFor wi g tb) tr D σ H :=
  for_si (D := { D with nx := tr D }) l h k
theorem set_sn {i : Nat} (l : Live S H) (h : SN K S te σ H ds) (k : ∀ a xs H1, Same H H1 → H a = none → H1 a = some (.lst xs) → DsAll K S H1 xs ds → tr D (σ.set i (some (.ref a))) H1) : tSeq (tAsg te (gName i)) tr D σ H := h S H (Now.refl l) _ k
theorem fld_sv {ta : TE} {f : Str} (l : Live S H) (h : SV K S te σ H d) (k : ∀ v H', Same H H' → Live S H' → Ds K S H' v d → ta σ H' fun x H2 => ∃ a C dx fs, x = .ref a ∧ H2 a = some (.ins C dx fs) ∧ Cls K C ∧ NoAttr K C f ∧ fs.length < 1000 ∧ tr D σ (upd H2 a (.ins C dx (putF f v fs)))) : tSeq (sFld K ta te f) tr D σ H := h.run l fun v H' s hv => k v H' s (l.same s) hv
theorem asg_sv (l : Live S H) (h : SV K S te σ H d) (k : ∀ v H', Same H H' → Live S H' → Ds K S H' v d → g v σ H' (tr D)) : tSeq (tAsg te g) tr D σ H := h.run l fun v H' s hv => k v H' s (l.same s) hv
end
end My
set_option Elab.async false
set_option linter.all false
set_option maxRecDepth 100000
/-! list(text) -/
namespace MyStr
open PySem PySem.Spec PyProof.Rows
section
variable {prog : Program} {w : World} {A : Around} {E : Value → Shared → Prop} {s : Shared}
/-- what a text says of its length ahead of being walked: that nothing must be made room for -/
theorem room_str {x : Str} {t : Tok} {Q : Bool → Shared → Prop} (q : Q false s) : wpAny (model prog w) A (Builtin.List.listLengthHint (.str x t)) Q E s := by
  have ty : s.TypeIs (.str x t) "str" := typeIs_str s x t
  unfold Builtin.List.listLengthHint
  refine wpAny_bind (wpAny_specialOf ty PySem.F.slot_str_len.lookup ?_)
  generalize hn : ("str.__len__" : String) = nm
  wp_delta
  rw [show splitId nm = some ("str", "__len__") from by subst hn; decide +kernel]
  subst hn
  refine wpAny_bind (wpAny_isInstance (T := "str") (b := true) ty (by rw [isSubtype_type]; kernel_rfl) ?_)
  refine wpAny_ite_split (fun z => absurd z (by decide)) (fun _ => ?_)
  refine wpAny_ite_split (fun _ => ?_) (fun z => absurd (by decide +kernel) z)
  exact wpAny_bind (wpAny_typeOf ty (wpAny_pure q))
/-- the new list at D is filled with the signs -/
theorem fill_str (hh : A.handled = none) (x : Str) (t : Tok) (D : Addr) {R : Result → Shared → Prop} (hD : s.heap.get? D = some { cls := .type "list", data := .seq #[] }) (hx : x.cps.size ≤ sizeLine)
    (k : ∀ h' tk acc c', s.toks ≤ tk → (∀ b o, b ≠ D → s.heap.get? b = some o → h'.get? b = some o) → h'.get? D = some { cls := .type "list", dict := none, data := .seq acc c', slots := #[] } → ItemsOf (SignAt x) acc x.cps.size → R (.ok (.ret .none)) { s with heap := h', toks := tk }) :
    wpAny (model prog w) A.in1 (Builtin.«list.__init__» ⟨[.ref D, .str x t], []⟩)
      (fun fin s' => match fin with | .done f => R (.ok f) s' | .again c' => c'.quiet = true ∧ codeAny (model prog w) A c' R s') (fun e s' => R (.error e) s') s := by
  show wpAny _ _ (do let old ← Builtin.List.listItems (.ref D); Builtin.List.listUpdate (.ref D) (fun _ => #[]); letGo old.toList.reverse; Builtin.List.listExtendWith (.ref D) (.str x t) .none) _ _ s
  refine wpAny_bind ?_
  unfold Builtin.List.listItems
  refine wpAny_bind (wpAny_seqItems hD rfl (wpAny_pure ?_))
  show wpAny _ _ (updateSeq D (fun _ => #[]) >>= fun _ => letGo (#[] : Array Value).toList.reverse >>= fun _ => Builtin.List.listExtendWith (.ref D) (.str x t) .none) _ _ s
  refine wpAny_bind (wpAny_updateSeq hD rfl ?_)
  have hD2 := Heap.get?_update_self (Obj.mapSeq (fun _ => (#[] : Array Value))) hD rfl
  have hoth : ∀ b o, b ≠ D → s.heap.get? b = some o → (s.heap.update D (Obj.mapSeq (fun _ => (#[] : Array Value)))).get? b = some o := fun b o n e => (Heap.get?_update_other _ _ (Ne.symm n)).trans e
  refine wpAny_bind (wpAny_letGo ?_)
  revert hD2 hoth
  generalize s.heap.update D (Obj.mapSeq (fun _ => (#[] : Array Value))) = g
  intro hD2 hoth
  unfold Builtin.List.listExtendWith
  refine wpAny_bind (wpAny_typeOf (typeIs_str _ x t) ?_)
  rw [if_neg (by simp [Builtin.List.listSameRef])]
  refine wpAny_bind (wpAny_pyIter_str fun o St W st => ?_)
  refine wpAny_bind (wpAny_holding (room_str ?_))
  rw [if_neg (by first | decide | decide +kernel)]
  have hne : D ≠ g.objs.size := Nat.ne_of_lt (Heap.lt_size hD2)
  refine wpAny_pure ⟨plainId_quiet PySem.F.plain_extend_loop _, codeAny_extend_loopS (W A.in1 hh).toS hx _ (fun m => hne (List.mem_singleton.mp m)) _ x.cps.size 0 _ _ _ rfl (Nat.zero_le _) st (Heap.get?_push_of_some _ hD2) (ItemsOf.nil _) fun s' acc c' hm hS hacc => ?_⟩
  rw [Moved.eq_with hm]
  refine k s'.heap s'.toks acc c' hm.toks (fun b ob hb e => hm.heap b ob (fun m => ?_) (Heap.get?_push_of_some _ (hoth b ob hb e))) hS hacc
  rcases List.mem_cons.mp m with e' | m
  · exact hb e'
  · exact absurd (Heap.lt_size (hoth b ob hb e)) (by rw [List.mem_singleton.mp m]; exact Nat.lt_irrefl _)
end
end MyStr
namespace My
open PySem PySem.Spec PyProof.Rows L2
def signsV (x : Str) : List V := x.cps.toList.map fun c => .str ⟨#[c]⟩
theorem call_listT {X : Cx} (hc : X.calm = true) : CallR X (.type "list") (fun xs H Q => ∃ x : Str, xs = [.str x] ∧ x.cps.size ≤ 1000 ∧ ∀ l, H l = none → Q (.ref l) (upd H l (.lst (signsV x)))) := by
  intro pins s σ H xs us Q I r h
  obtain ⟨x, rfl, hx, q⟩ := h
  obtain ⟨u, rfl, t, rfl⟩ := vals1 r
  refine callType_codes (Q₁ := fun obj s₁ => obj = .ref s.heap.objs.size ∧ s₁ = { s with heap := s.heap.push { cls := .type "list", data := .seq #[] } }) PySem.F.called_list (PySem.F.typeCall_list_1 _) PySem.F.entry_list_init
    (code_list_new _ ⟨rfl, rfl⟩) fun obj s₁ h₁ => ?_
  obtain ⟨rfl, rfl⟩ := h₁
  have hD : (s.heap.push { cls := .type "list", data := .seq #[] }).get? s.heap.objs.size = some { cls := .type "list", data := .seq #[] } := Heap.get?_push_size _ rfl
  refine ⟨⟨_, hD, rfl⟩, PySem.F.args_list_init_2 _ _, MyStr.fill_str (A := X.A.in1) (I.ok.hd hc) x t _ hD (Nat.le_trans hx (by decide)) fun h' tk acc c' htk kp e hacc => ?_⟩
  refine ⟨rfl, .ref s.heap.objs.size, _, I.laid (t' := tk) (fun b o e => kp b o (Nat.ne_of_lt (Heap.lt_size e)) (Heap.get?_push_of_some _ e)) ?_ (show ObjOk X.prog X.w _ h' _ (.lst (signsV x)) from ⟨?_, acc.toList, c', ?_, by simpa using e⟩), rfl, q _ (I.hok.fresh (Nat.le_refl _))⟩
  · exact Nat.le_refl _
  · show (signsV x).length ≤ sizeLine
    unfold signsV
    rw [List.length_map, Array.length_toList]
    exact Nat.le_trans hx (by decide)
  · refine vals_of_idx _ _ (by unfold signsV; rw [List.length_map, Array.length_toList, Array.length_toList]; exact hacc.1) fun j u e' => ?_
    obtain ⟨c, tk', hc', rfl⟩ := hacc.2 j u (by simpa using e')
    refine ⟨.str ⟨#[c]⟩, ?_, tk', rfl⟩
    unfold signsV
    rw [List.getElem?_map, Array.getElem?_toList, hc']
    rfl
end My
set_option Elab.async false
set_option linter.all false
set_option maxRecDepth 100000
/-! Worths: all(..), min, max, sum; a walk over the zip of two tuples; sorted; tuples end to end; dicts of texts. -/
namespace My
open PySem PySem.Spec PyProof.Rows L2
abbrev rLenK (K : PySem.W.Frag) : List V → Hp → VK → Prop := fun xs H Q => ∃ x n, xs = [x] ∧ LenV K x H n ∧ Q (.int (n : Nat)) H
theorem call_lenK {X : Cx} : CallR X (.builtin "len") (rLenK X.K) := call_len
section
variable {K : PySem.W.Frag} {S S' : Sh} {σ : L2.St} {H H' : Hp} {ta tb te tc : TE} {tr tk : TA} {tt tu : TT} {d e : PyData} {ds es : List PyData} {v : V} {b c k : Bool} {D : Ends} {tz : TS}
theorem sv_all {bs : List Bool} (h : SV K S ta σ H (.list (bs.map PyData.bool))) : SV K S (tCB (rAll K) (tCons ta tNil)) σ H (.bool (bs.all id)) := sv_cb (sa_cons h sa_nil) fun S1 H1 vs Q l hs q => by
  obtain ⟨v, rfl, hv⟩ := hs.one
  obtain ⟨a, xs, rfl, la, hx⟩ := Ds.l hv
  rw [hx.bools] at la
  exact ⟨a, bs, rfl, la.sq, q _ _ (Same.refl _) (.bl _)⟩
/-- the pairs of two lists of data -/
def zipD (ds es : List PyData) : List PyData := (ds.zip es).map fun p => .tuple [p.1, p.2]
theorem zipD_len (ds es : List PyData) : (zipD ds es).length = min ds.length es.length := by simp [zipD]
theorem zipD_at {i : Nat} (h : ds[i]? = some d) (h2 : es[i]? = some e) : (zipD ds es)[i]? = some (.tuple [d, e]) := by
  unfold zipD
  rw [List.getElem?_map, (List.getElem?_zip_eq_some (z := (d, e))).mpr ⟨h, h2⟩]
  rfl
theorem si_zipT (h : SV K S ta σ H (.tuple ds)) (h2 : SV K S tb σ H (.tuple es)) : SI K S (RZ.iZipA K (tCons ta (tCons tb tNil))) σ H (zipD ds es) := fun S1 H1 n R q => h S1 H1 n _ fun x H2 s2 hx => h2 S1 H2 (n.then s2) _ fun y H3 s3 hy => by
  obtain ⟨a, xs, rfl, la, hxs⟩ := Ds.t (hx.same s3)
  obtain ⟨b, ys, rfl, lb, hys⟩ := Ds.t hy
  refine ⟨a, b, xs, ys, rfl, .inr ⟨la.sq, lb.sq, q _ H3 (s2.trans s3) ?_⟩⟩
  have wz := walk_zipT (K := K) (a := a) (b := b) (xs := xs) (ys := ys) (n := (zipD ds es).length) (by rw [zipD_len, hxs.length, hys.length])
  refine wz.mono (fun H4 ⟨S2, z⟩ => ⟨(at_step z la.1 la.2 |> fun w => .inl (.inl w.2)), (at_step z lb.1 lb.2 |> fun w => .inl (.inl w.2))⟩) fun i H4 w H5 hi ⟨S9, z9⟩ y => ?_
  obtain ⟨T, u, u2, rfl, nT, rfl, e1, e2⟩ := y
  obtain ⟨d1, f1, g1⟩ := hxs.get e1
  obtain ⟨d2, f2, g2⟩ := hys.get e2
  exact ⟨same_upd nT, _, zipD_at f1 f2, fun S2 z => .tup ⟨z.live.ne nT, upd_same⟩ (((DsAll.cons (g1.step z) (.cons (g2.step z) .nil))).same (same_upd nT))⟩
/-- sorted(xs) -/
theorem sv_sorted (h : SV K S ta σ H (.list ds)) (hal : PySem.W.AllAlike ds) (hk : PySem.W.Sortable ds) (hd : ∀ d ∈ ds, d.depth ≤ 60) : SV K S (tCB (rSortedD K) (tCons ta tNil)) σ H (.list (ds.mergeSort leD)) := sv_cb (sa_cons h sa_nil) fun S1 H1 vs Q l hs q => by
  obtain ⟨v, rfl, hv⟩ := hs.one
  obtain ⟨a, xs, rfl, la, hx⟩ := Ds.l hv
  have hl := hx.length
  have e1 : (ds.zip xs).map (·.1) = ds := List.map_fst_zip (by omega)
  have e2 : (ds.zip xs).map (·.2) = xs := List.map_snd_zip (by omega)
  have hp : ∀ p ∈ ds.zip xs, Ds K S1 H1 p.2 p.1 := fun p m => by
    obtain ⟨i, hi, e⟩ := List.getElem_of_mem m
    have e' : (ds.zip xs)[i]? = some p := by rw [List.getElem?_eq_getElem hi, e]
    obtain ⟨f1, f2⟩ := List.getElem?_zip_eq_some.mp e'
    obtain ⟨d', g1, g2⟩ := hx.get f2
    rw [Option.some.inj (f1.symm.trans g1)]
    exact g2
  refine ⟨a, ds.zip xs, rfl, by rw [e2]; exact la.sq, fun p m => Ds.dp _ _ (hp p m), by rw [e1]; exact hal, by rw [e1]; exact hk, fun p m => hd _ ?_, fun r nr => q _ _ (same_upd nr) (new_lst l nr ?_)⟩
  · rw [← e1]; exact List.mem_map_of_mem m
  · have e3 : ds.mergeSort leD = (outD (ds.zip xs)).map (·.1) := by
      unfold outD
      have m := List.map_mergeSort (r := PySem.W.dataLe false Prod.fst) (s := leD) (f := Prod.fst) (l := ds.zip xs) fun _ _ _ _ => rfl
      exact ((m.trans (congrArg (fun l => List.mergeSort l leD) e1)).symm)
    rw [e3]
    have : ∀ l : List (PyData × V), (∀ p ∈ l, Ds K S1 H1 p.2 p.1) → DsAll K S1 H1 (l.map (·.2)) (l.map (·.1)) := fun l => by
      induction l with
      | nil => exact fun _ => .nil
      | cons p l ih => exact fun h => .cons (h p (List.mem_cons_self ..)) (ih fun q m => h q (List.mem_cons_of_mem _ m))
    exact this _ fun p m => hp p ((List.mergeSort_perm _ _).mem_iff.mp m)
end
end My
set_option Elab.async false
set_option linter.all false
set_option maxRecDepth 100000
/-! Dicts of texts with data: dict(zip(..)), a dict comprehension, d[k]. -/
namespace My
open PySem PySem.Spec PyProof.Rows L2
/-- at a stands a dict of the texts and data es, in their order -/
def DK (K : PySem.W.Frag) (S : Sh) (H : Hp) (a : Addr) (es : List (Str × PyData)) : Prop := ¬ S a ∧ ∃ kvs : List (Key × V), H a = some (.dK kvs) ∧ DsAll K S H (kvs.map (·.2)) (es.map (·.2)) ∧ kvs.map (·.1) = es.map fun p => (Sum.inr p.1 : Key)
section
variable {K : PySem.W.Frag} {S S' : Sh} {σ : L2.St} {H H' : Hp} {ta tb te tc td : TE} {tr tk : TA} {tt tu : TT} {d e : PyData} {ds : List PyData} {es : List (Str × PyData)} {v : V} {b c k : Bool} {a : Addr} {wi : TI} {g : TG}
theorem DK.step (s : Step S H S' H') (h : DK K S H a es) : DK K S' H' a es := by
  obtain ⟨n, kvs, h1, h2, h3⟩ := h
  exact ⟨(at_step s n h1).1, kvs, (at_step s n h1).2, h2.step s, h3⟩
theorem DK.now (s : Now S H S' H') (h : DK K S H a es) : DK K S' H' a es := h.step s.step
theorem DK.same (s : Same H H') (h : DK K S H a es) : DK K S H' a es := by
  obtain ⟨n, kvs, h1, h2, h3⟩ := h
  exact ⟨n, kvs, s _ _ h1, h2.same s, h3⟩
/-- te gives a dict -/
def SD (K : PySem.W.Frag) (S : Sh) (te : TE) (σ : L2.St) (H : Hp) (es : List (Str × PyData)) : Prop := ∀ S' H', Now S H S' H' → ∀ Q : VK, (∀ a H2, Same H' H2 → DK K S' H2 a es → Q (.ref a) H2) → te σ H' Q
theorem SD.run (h : SD K S te σ H es) (l : Live S H) {Q : VK} (k : ∀ a H2, Same H H2 → DK K S H2 a es → Q (.ref a) H2) : te σ H Q := h S H (Now.refl l) Q k
end
/-! ### y = {k: e for ..}: kept by its name before the comprehension's cells go -/
end My
set_option Elab.async false
set_option linter.all false
set_option maxRecDepth 100000
/-! Worths: sums and slices of tuples, tuples end to end, range, a list so many times over. -/
namespace My
open PySem PySem.Spec PyProof.Rows L2
def rSumT (K : PySem.W.Frag) : List V → Hp → VK → Prop := fun vs H Q => ∃ (a : Addr) (ns : List Int), vs = [V.ref a] ∧ SqT K H a (ns.map V.int) ∧ Q (.int ns.sum) H
theorem cr_sumT {X : Cx} (hc : X.calm = true) : CallR X (.builtin "sum") (rSumT X.K) := by
  intro pins s σ H vs us Q I r h
  obtain ⟨a, ns, rfl, hs, q⟩ := h
  obtain ⟨its, rv, hl, _⟩ := I.tuple hs
  rw [Vals.ref1 r]
  have hi := rv.ints
  have hl : s.heap.IsTuple a its.toArray := hl
  obtain ⟨xs, hx⟩ := hi.allInts.items
  have hn : numsOf its.toArray.toList = ns := by rw [show its.toArray.toList = its from rfl, hi.numsOf]
  rw [hx] at hl hn
  rw [nums_intItems] at hn
  refine PySem.W.ktm_sumG (I.ok.hd hc) hl fun h' tk t' hk => ⟨.int _, H, I.kept hk, ⟨_, rfl⟩, ?_⟩
  rw [preSum_eq, List.take_of_length_le (by simp), hn]
  exact q
section
variable {K : PySem.W.Frag} {S : Sh} {σ : L2.St} {H : Hp} {ta tb te : TE} {tr : TA} {ds es : List PyData} {d : PyData}
theorem sv_sumT {ns : List Int} (h : SV K S ta σ H (.tuple (ns.map PyData.int))) : SV K S (tCB (rSumT K) (tCons ta tNil)) σ H (.int ns.sum) := sv_cb (sa_cons h sa_nil) fun S1 H1 vs Q l hs q => by
  obtain ⟨v, rfl, hv⟩ := hs.one
  obtain ⟨a, xs, rfl, la, hx⟩ := Ds.t hv
  rw [hx.ints] at la
  exact ⟨a, ns, rfl, la.sq, q _ _ (Same.refl _) (.int _)⟩
theorem sv_catA (ha : SV K S ta σ H (.tuple ds)) (hb : SV K S tb σ H (.tuple es)) (hl : ds.length + es.length ≤ 5000) : SV K S (tOp (rCatA K) ta tb) σ H (.tuple (ds ++ es)) := sv_op ha hb fun S1 H1 x y Q l hx hy q => by
  obtain ⟨a, xs, rfl, la, hxs⟩ := Ds.t hx
  obtain ⟨b, ys, rfl, lb, hys⟩ := Ds.t hy
  refine ⟨a, b, xs, ys, rfl, rfl, la.sq, lb.sq, sz (by rw [hxs.length, hys.length]; omega), fun e => ?_, fun _ e => ?_, fun _ _ p np => q _ _ (same_upd np) (new_tup l np (hxs.app hys))⟩
  · subst e
    cases hxs
    exact q _ _ (Same.refl _) hy
  · subst e
    cases hys
    rw [List.append_nil] at q
    exact q _ _ (Same.refl _) hx
theorem sv_slA {tl th : TO} {lo hi : Option Int} (h : SV K S te σ H (.tuple ds)) (hl : SP K S tl σ H lo) (hh : SP K S th σ H hi) : SV K S (tSl (rSlA K) te tl th) σ H (.tuple (cutD ds lo hi)) := fun S1 H1 n Q q =>
  h S1 H1 n _ fun v H2 s2 hv => hl S1 H2 (n.then s2) _ fun H3 s3 => hh S1 H3 ((n.then s2).then s3) _ fun H4 s4 => by
    have hv4 := hv.same (s3.trans s4)
    obtain ⟨a, xs, rfl, l, hs⟩ := Ds.t hv4
    refine ⟨a, xs, rfl, l.sq, fun ⟨e1, e2⟩ => ?_, fun _ p np => q _ _ (((s2.trans s3).trans s4).trans (same_upd np)) (new_tup (n.live.same ((s2.trans s3).trans s4)) np (hs.cut lo hi))⟩
    have e : cutD ds lo hi = ds := by
      unfold cutD
      rw [hs.length] at e1 e2
      rw [e1, e2, List.drop_zero, Nat.sub_zero, List.take_length]
    rw [e] at q
    exact q _ _ ((s2.trans s3).trans s4) hv4
/-- range(n) -/
def rngD (n : Nat) : List PyData := (List.range n).map fun i => .int (i : Nat)
theorem rngD_len (n : Nat) : (rngD n).length = n := by simp [rngD]
theorem si_rng {n : Nat} (h : SV K S ta σ H (.int (n : Nat))) (hn : n ≤ 100000) : SI K S (iRng1 (tCons ta tNil)) σ H (rngD n) := fun S1 H1 m R q => h S1 H1 m _ fun v H2 s2 hv => by
  refine ⟨(n : Nat), by rw [hv.i], by omega, by omega, ?_⟩
  refine q _ H2 s2 ?_
  rw [rngD_len, Int.toNat_natCast]
  refine (walk_range (lo := 0) (n := n)).mono (fun _ _ => trivial) fun i H3 v H4 hi _ y => ?_
  obtain ⟨rfl, rfl⟩ := y
  refine ⟨Same.refl _, .int (i : Nat), ?_, fun S2 _ => by show Ds K S2 H4 (V.int (0 + (i : Int))) _; rw [Int.zero_add]; exact .int _⟩
  unfold rngD
  rw [List.getElem?_map, List.getElem?_range hi]
  rfl
end
end My
set_option Elab.async false
set_option linter.all false
set_option maxRecDepth 100000
set_option maxHeartbeats 2000000
/-! Exceptions as values: an own class over any built-in one, with an own __init__: the call with keywords, and the stores. -/
namespace My
open PySem PySem.Spec
/-! ### the class called with keywords too -/
section
variable {B newId initId nm : String} {prog : Program} {w : World} {A : Around} {hp : Heap} {gs : Array GenState} {dr : Drawn} {tk : Nat} {o : OsState} {C N : Addr} {n1 n2 : Str} {l1 l2 l3 l5 : List Value} {l4 : List Str} {b1 b2 : Bool} {co : Option Bool} {da : Option Addr} {y0 y1 y2 y3 y5 : Option Value} {vs : List Value} {kw : List (Str × Value)}
/-- what stands at C; the built-in names of its chain -/
structure AtC (hp : Heap) (C : Addr) (newId : String) (l3 : List Value) (n1 n2 : Str) (N : Addr) (l1 l2 l5 : List Value) (l4 : List Str) (b1 b2 : Bool) (co : Option Bool) (da : Option Addr) (y0 y1 y2 y3 y5 : Option Value) : Prop where
  here : hp.get? C = some (excClassObj n1 n2 C N l1 l2 b1 l4 l5 b2 co da y0 y1 y2 y3 y5 newId)
  names : ∀ T : String, l2.contains (.type T) = l3.contains (.type T)
theorem AtC.isB (c : AtC hp C newId l3 n1 n2 N l1 l2 l5 l4 b1 b2 co da y0 y1 y2 y3 y5) (T : String) : (Value.ref C :: l2).contains (.type T) = l3.contains (.type T) := by
  rw [List.contains_cons, c.names]
  rfl
theorem AtC.born (c : AtC hp C newId l3 n1 n2 N l1 l2 l5 l4 b1 b2 co da y0 y1 y2 y3 y5) (F : ExcBaseFacts B newId initId l3) {M : Model} {Q : Unit → Shared → Prop} {E : Value → Shared → Prop} (q : Q () ⟨hp, gs, dr, tk, o⟩) :
    wpAny M A (checkBuiltinCall newId ⟨.ref C :: vs, kw⟩) Q E ⟨hp, gs, dr, tk, o⟩ := by
  have here := c.here
  have star := F.noStar
  simp only [checkBuiltinCall, F.newKind, F.newRow, F.newSplit]
  repeat (first
    | refine wpAny_isSubtype_exc here ?_; rw [c.isB, F.hasB]
    | refine wpAny_staticBase_exc here ?_
    | refine wpAny_madeBy_exc here ?_
    | refine wpAny_loadPart_at here ?_
    | simp only [bne_self_eq_false, Bool.false_eq_true, if_false]
    | wp_step)
  exact q
theorem AtC.newborn (c : AtC hp C newId l3 n1 n2 N l1 l2 l5 l4 b1 b2 co da y0 y1 y2 y3 y5) (F : ExcBaseFacts B newId initId l3) (z : vs.length ≤ sizeLine) {R : Result → Shared → Prop}
    (q : R (.ok (.ret (.ref (hp.objs.size + 1)))) ⟨(hp.push (W.kdv_tup vs)).push (HandSPX.excO C hp.objs.size), gs, dr, tk, o⟩) : codeAny (model prog w) A (.builtin newId ⟨.ref C :: vs, kw⟩) R ⟨hp, gs, dr, tk, o⟩ := by
  have here := c.here
  have ends := F.ends
  apply codeAny_builtinAt F.entry
  delta Builtin.«BaseException.__new__»
  apply wpAt_bind
  apply wpAt_bind
  refine wpAt_stack fun _ _ => ?_
  apply wpAt_of_wpAny
  wp_walk
  apply wpAt_of_wpAny
  rw [F.owner]
  repeat (first
    | with_reducible refine wpAny_isSubtype_exc here ?_; rw [c.isB]; first | rw [F.hasB] | rw [F.noAttr] | rw [F.noName]
    | with_reducible refine wpAny_madeHere_exc F.canon here ?_
    | with_reducible refine wpAny_loadPart_at here ?_
    | wp_step)
  show R (.ok (.ret (.ref (Heap.push _ _).objs.size))) _
  rw [Heap.size_push]
  exact q
theorem AtC.typed (c : AtC hp C newId l3 n1 n2 N l1 l2 l5 l4 b1 b2 co da y0 y1 y2 y3 y5) {M : Model} {Q : Unit → Shared → Prop} {E : Value → Shared → Prop} (q : Q () ⟨hp, gs, dr, tk, o⟩) :
    wpAny M A (checkBuiltinCall "type.__call__" ⟨.ref C :: vs, kw⟩) Q E ⟨hp, gs, dr, tk, o⟩ := by
  have here := c.here
  have sub := tc_sub
  have ty : Shared.TypeIs ⟨hp, gs, dr, tk, o⟩ (.ref C) "type" := ⟨_, c.here, rfl⟩
  simp only [checkBuiltinCall, tc_split, tc_kind]
  repeat (any_goals (first | with_reducible refine wpAny_map ?_ | with_reducible refine wpAny_onRaise ?_ | with_reducible refine wpAny_loadPart_at here ?_ | assumption | wp_step))
/-- what is wished of __init__'s end -/
abbrev InitEnds (e : Addr) (Q : Fin → Shared → Prop) (E : Value → Shared → Prop) : Result → Shared → Prop := fun r s' => match r with
  | .ok (.ret v) => v = .none ∧ Q (.done (.ret (.ref e))) s'
  | .ok _ => False
  | .error x => E x s'
theorem AtC.calls (c : AtC hp C newId l3 n1 n2 N l1 l2 l5 l4 b1 b2 co da y0 y1 y2 y3 y5) (F : ExcBaseFacts B newId initId l3) (z : vs.length ≤ sizeLine) {fI : Addr} {Q : Fin → Shared → Prop} {E : Value → Shared → Prop}
    (li : W.Looks (model prog w) hp (typeLookup (.ref C) "__init__") (some (.ref fI))) (lb : ∀ self, W.Looks (model prog w) hp (bindSpecial (.ref fI) self) (.ref fI, [self]))
    (q : codeAny (model prog w) A (.call (.ref fI) ⟨.ref (hp.objs.size + 1) :: vs, kw⟩) (InitEnds (hp.objs.size + 1) Q E) ⟨(hp.push (W.kdv_tup vs)).push (HandSPX.excO C hp.objs.size), gs, dr, tk, o⟩) :
    wpAny (model prog w) A (Builtin.«type.__call__» ⟨.ref C :: vs, kw⟩) Q E ⟨hp, gs, dr, tk, o⟩ := by
  have here := c.here
  repeat (first | with_reducible refine wpAny_madeBy_exc here ?_ | with_reducible refine wpAny_loadPart_at here ?_ | wp_step)
  apply codeAny_call_builtin_code (Code.quiet_builtin _ F.quiet)
  apply c.born F
  apply c.newborn F z
  show wpAny (model prog w) A _ Q E _
  have kept : ∀ b u, hp.get? b = some u → ((hp.push (W.kdv_tup vs)).push (HandSPX.excO C hp.objs.size)).get? b = some u := fun b u e => (Heap.get?_push_of_some _ ∘ Heap.get?_push_of_some _) e
  have c' : AtC ((hp.push (W.kdv_tup vs)).push (HandSPX.excO C hp.objs.size)) C newId l3 n1 n2 N l1 l2 l5 l4 b1 b2 co da y0 y1 y2 y3 y5 := ⟨kept _ _ c.here, c.names⟩
  have here' := c'.here
  have at_e : ((hp.push (W.kdv_tup vs)).push (HandSPX.excO C hp.objs.size)).get? (hp.objs.size + 1) = some (HandSPX.excO C hp.objs.size) := by heap_get
  have self : (Value.ref C :: l2).contains (.ref C) = true := by simp
  delta isInstance
  repeat (first | with_reducible refine wpAny_loadPart_at at_e ?_ | (with_reducible refine wpAny_isSubtype_exc here' ?_); rw [self] | wp_step)
  show wpAny (model prog w) A (typeLookup (.ref C) "__init__") _ E _
  apply (li.keeps kept).at
  apply wpAny_holding
  apply wpAny_bind
  apply ((lb (.ref (hp.objs.size + 1))).keeps kept).at
  apply wpAny_bind
  apply wpAny_call
  refine codeAny_mono q fun r s' h => ?_
  match r, h with
  | .ok (.ret _), ⟨rfl, h⟩ => first | exact wpAny_pure (wpAny_pure h) | (wp_walk; exact h)
  | .error _, h => exact h
theorem AtC.call (c : AtC hp C newId l3 n1 n2 N l1 l2 l5 l4 b1 b2 co da y0 y1 y2 y3 y5) (F : ExcBaseFacts B newId initId l3) (z : vs.length ≤ sizeLine) {fI : Addr} {R : Result → Shared → Prop}
    (li : W.Looks (model prog w) hp (typeLookup (.ref C) "__init__") (some (.ref fI))) (lb : ∀ self, W.Looks (model prog w) hp (bindSpecial (.ref fI) self) (.ref fI, [self]))
    (q : codeAny (model prog w) (A.under (.builtin "type.__call__" ⟨.ref C :: vs, kw⟩)) (.call (.ref fI) ⟨.ref (hp.objs.size + 1) :: vs, kw⟩) (W.InitBack (hp.objs.size + 1) R) ⟨(hp.push (W.kdv_tup vs)).push (HandSPX.excO C hp.objs.size), gs, dr, tk, o⟩) :
    codeAny (model prog w) A (.call (.ref C) ⟨vs, kw⟩) R ⟨hp, gs, dr, tk, o⟩ := by
  have here := c.here
  have look := tc_lookup
  have bnd := tc_bind (.ref C)
  have ty : Shared.TypeIs ⟨hp, gs, dr, tk, o⟩ (.ref C) "type" := ⟨_, c.here, rfl⟩
  apply codeAny_of_tree
  show wpAny (model prog w) _ (callAny (.ref C) ⟨vs, kw⟩) _ _ _
  repeat (any_goals (first | with_reducible refine wpAny_loadPart_at here ?_ | assumption | wp_step))
  refine ⟨rfl, codeAny_call_builtin_at (Code.quiet_builtin _ (by decide +kernel)) entry_typeCall (c.typed (c.calls F z li lb (codeAny_mono q fun r s' h => ?_)))⟩
  match r, h with
  | .ok (.ret _), h => exact h
  | .error _, h => exact h
end
end My
set_option Elab.async false
set_option linter.all false
set_option maxRecDepth 100000
set_option maxHeartbeats 2000000
/-! Exceptions as values: what an own class says (OxC), an error made (ErrAt), its fields stored and read, its kinds asked. -/
namespace L2
open PySem PySem.Spec PyProof.Rows My
/-- an own exception class with an own __init__, over any built-in one -/
structure OxC (K : PySem.W.Frag) (C : Addr) : Prop where
  base : ∃ (B newId initId : String) (l : List Value), ExcBaseFacts B newId initId l ∧ StoreFacts B l "object.__setattr__" "object" ∧ PySem.W.excInitIn K C l newId = true ∧ PySem.W.excOver K C l = true
  field : XfC K C
  kind : ExcC K C
  store : (PySem.W.findIn K (.ref C) "__setattr__") = some (some (.builtin "object.__setattr__"))
  keep : (PySem.W.keepIn K (.ref C)) = true
/-- no such name in the class -/
def noB (K : PySem.W.Frag) (C : Addr) (l : List Str) : Bool := l.all fun f => decide (PySem.W.findIn K (.ref C) f = some none)
theorem noB_at {K : PySem.W.Frag} {C : Addr} {l : List Str} (h : noB K C l = true) {f : Str} (m : f ∈ l) : PySem.W.findIn K (.ref C) f = some none := of_decide_eq_true (List.all_eq_true.mp h f m)
theorem noTaker {K : PySem.W.Frag} {C : Addr} {f : Str} (h : PySem.W.findIn K (.ref C) f = some none) : PySem.W.takerIn K C f = some none := by
  unfold PySem.W.takerIn
  rw [h]
  rfl
/-! ### stores -/
section
variable {X : Cx} {pins : List (Addr × Obj)} {σ : St} {H : Hp} {s : Shared} {e C d : Addr} {f : Str} {y : V} {u : Value} {l : List (Str × V)} {A : Around} {Q : Unit → Shared → Prop} {E : Value → Shared → Prop}
/-- the first field: the error gets its dict -/
theorem oxt_first (T : OxC X.K C) (I : Inv X pins σ H s) (he : H e = some (exo e C none)) (hno : PySem.W.findIn X.K (.ref C) f = some none) (ry : RelV y u)
    (k : ∀ d s', H d = none → d ≠ e → Inv X pins σ (upd (upd H e (exo e C (some d))) d (exd d [(f, y)])) s' → Q () s') : wpAny (model X.prog X.w) A (setAttr (.ref e) f u) Q E s := by
  obtain ⟨B, newId, initId, bl, _, SF, _, over⟩ := T.base
  obtain ⟨cd, hcd, hdict⟩ := PySem.W.any_some T.field.hdC
  obtain ⟨t1, ho⟩ := exo_at I.hok he
  obtain ⟨hp, gs, dr, tk, os⟩ := s
  have J : PySem.W.InstAt hp e _ C none := ⟨ho, rfl, rfl, trivial⟩
  refine PySem.W.set_plain I.kIn J T.store (PySem.W.osa_openX (r := none) SF I.kIn J over (noTaker hno) fun b => ?_)
  have look : PySem.W.Looks (model X.prog X.w) hp (classData C) cd := PySem.W.looks_clsIn I.kIn hcd
  have new : e ≠ hp.objs.size := Nat.ne_of_lt (Heap.lt_size ho)
  have at_e := Heap.get?_push_of_some ({ cls := .type "dict", data := .dict #[] } : Obj) ho
  dsimp only
  delta Builtin.ObjectAttr.storeInOwnDict Builtin.ObjectAttr.ownDictForStores
  cases cd with
  | mk c1 c2 c3 c4 c5 c6 c7 c8 c9 c10 c11 =>
    obtain rfl : c6 = true := hdict
    repeat (first | with_reducible refine look.at ?_ | with_reducible refine wpAny_loadPart_at ho ?_ | with_reducible refine HandSPX.store_in_new ?_ ?_ | wp_step)
    · exact ⟨_, #[], _, Eq.trans (Heap.get?_update_ne _ _ _ _ new.symm) (Heap.get?_push_at rfl rfl), rfl, (fun z hz => absurd hz (by simp)), fun _ => rfl⟩
    · intro h' tk' ns same
      have obj : h'.get? e = some { cls := .ref C, dict := some hp.objs.size, data := .fields #[.ref t1, .none, .none, .none, .bool false, .none] } := by
        rw [same.2 e new]
        exact Heap.get?_update_self _ at_e rfl
      have old : ∀ b v, b ≠ e → hp.get? b = some v → h'.get? b = some v := fun b v n z => by
        rw [same.2 b (Nat.ne_of_lt (Heap.lt_size z)), Heap.get?_update_ne _ _ _ _ n]
        exact Heap.get?_push_of_some _ z
      have free : H hp.objs.size = none := I.hok.fresh (Nat.le_refl _)
      -- without the dict first, then the dict
      obtain ⟨G, g1, g2⟩ := restrict h' fun b => decide (b ≠ hp.objs.size)
      have gk : ∀ b, b ≠ hp.objs.size → G.get? b = h'.get? b := fun b n => g1 b (decide_eq_true n)
      have gd : G.get? hp.objs.size = none := g2 _ (by simp)
      have up : ∀ b v, G.get? b = some v → h'.get? b = some v := fun b v z => by
        rw [← gk b fun n => by rw [n, gd] at z; cases z]
        exact z
      have J1 := I.write (t' := tk') (x := e) (e := e) (o := exo e C (some hp.objs.size)) (h' := G) (by rw [he]; exact trivial) (.inl rfl) (fun b v n z => by rw [gk b (Nat.ne_of_lt (Heap.lt_size z))]; exact old b v n z)
        ⟨_, by rw [gk e new]; exact obj⟩ (exo_ok (by rw [gk e new]; exact obj))
      have J2 := Inv.laidN (t' := tk') (o := exd hp.objs.size [(f, y)]) J1 up gd (by rw [upd_ne new.symm]; exact free) (exd_ok ns (relO_put (fs := []) ry fun _ => trivial))
      exact k _ _ free new.symm J2
/-- a further field -/
theorem oxt_more (T : OxC X.K C) (I : Inv X pins σ H s) (he : H e = some (exo e C (some d))) (hd : H d = some (exd d l)) (hl : l.length ≤ 900) (hno : PySem.W.findIn X.K (.ref C) f = some none) (ry : RelV y u)
    (k : ∀ s', Inv X pins σ (upd H d (exd d ((f, y) :: l))) s' → Q () s') : wpAny (model X.prog X.w) A (setAttr (.ref e) f u) Q E s := by
  obtain ⟨B, newId, initId, bl, _, SF, _, over⟩ := T.base
  obtain ⟨cd, hcd, hdict⟩ := PySem.W.any_some T.field.hdC
  obtain ⟨t1, ho⟩ := exo_at I.hok he
  obtain ⟨m, ns, rel⟩ := exd_at I.hok hd
  have within := within_of rel
  have short : (l.map (·.1)).length ≤ 1000 := by rw [List.length_map]; omega
  obtain ⟨hp, gs, dr, tk, os⟩ := s
  obtain ⟨od, _, _, hod, _⟩ := ns.count within
  have J : PySem.W.InstAt hp e _ C (some od) := ⟨ho, rfl, rfl, hod⟩
  refine PySem.W.set_plain I.kIn J T.store (PySem.W.osa_openX (r := none) SF I.kIn J over (noTaker hno) fun b => ?_)
  have look : PySem.W.Looks (model X.prog X.w) hp (classData C) cd := PySem.W.looks_clsIn I.kIn hcd
  dsimp only
  delta Builtin.ObjectAttr.storeInOwnDict Builtin.ObjectAttr.ownDictForStores
  cases cd with
  | mk c1 c2 c3 c4 c5 c6 c7 c8 c9 c10 c11 =>
    obtain rfl : c6 = true := hdict
    repeat (first | with_reducible refine look.at ?_ | with_reducible refine wpAny_loadPart_at ho ?_ | with_reducible refine OEX.store_in_old ns within short ?_ | wp_step)
    intro h' tk' ns' same
    have there : ∃ v, h'.get? d = some v := by
      obtain ⟨v, _, _, z, _⟩ := ns'
      exact ⟨v, z⟩
    exact k _ (I.write (t' := tk') (x := d) (e := d) (by rw [hd]; exact trivial) (.inl rfl) (fun b v n z => (same.2 b n).trans z) there (exd_ok ns' (relO_put ry rel)))
end
/-- self.f = value, self an error: its first field, or a further one -/
def tOxt (K : PySem.W.Frag) (f : Str) (to te : TE) : TS := fun D σ H => te σ H fun y H1 => to σ H1 fun x H2 => ∃ e C : Addr, x = .ref e ∧ OxC K C ∧ PySem.W.findIn K (.ref C) f = some none ∧
  ((H2 e = some (exo e C none) ∧ ∀ d, H2 d = none → d ≠ e → D.nx σ (upd (upd H2 e (exo e C (some d))) d (exd d [(f, y)]))) ∨
    ∃ (d : Addr) (l : List (Str × V)), H2 e = some (exo e C (some d)) ∧ H2 d = some (exd d l) ∧ l.length ≤ 900 ∧ D.nx σ (upd H2 d (exd d ((f, y) :: l))))
/-- the fields of a made error -/
def flds (code : Str) (names : List Str) (ws : List V) : List (Str × V) := (names.zip ws).reverse ++ [(("code" : Str), V.str code)]
/-- at e: an error of the class at C, made with ws -/
def ErrAt (K : PySem.W.Frag) (H : Hp) (e C : Addr) (code : Str) (names : List Str) (ws : List V) : Prop :=
  OxC K C ∧ noB K C ("code" :: names) = true ∧ ws.length = names.length ∧ ∃ dx, H e = some (exo e C (some dx)) ∧ H dx = some (exd dx (flds code names ws))
theorem ErrAt.same {K : PySem.W.Frag} {H H' : Hp} {e C : Addr} {code : Str} {names : List Str} {ws : List V} (s : Same H H') (h : ErrAt K H e C code names ws) : ErrAt K H' e C code names ws := by
  obtain ⟨h1, h2, h3, dx, h4, h5⟩ := h
  exact ⟨h1, h2, h3, dx, s _ _ h4, s _ _ h5⟩
/-- C.__init__(self, ..) -/
def spInit (C : Addr) (code : Str) (names : List Str) : Sp := fun vs H Q _ => ∃ (a : Addr) (ws : List V), vs = .ref a :: ws ∧ ws.length = names.length ∧ H a = some (exo a C none) ∧
  ∀ (H' : Hp) (dx : Addr), H dx = none → dx ≠ a → H' a = some (exo a C (some dx)) → H' dx = some (exd dx (flds code names ws)) → (∀ b, b ≠ a → b ≠ dx → H' b = H b) → Q .non H'
section
variable {X : Cx} {CX : CXT} {o e : Expr} {es : List Expr} {kws : List Keyword} {to te : TE} {ta tk : TA} {f x : Str} {p p' pos : Pos} {C fI : Addr} {fd : FuncData} {ps ks names : List Str} {code : Str} {k : Nat}
theorem ps_oxt (ho : PE X o to) (he : PE X e te) (hs : swapsWith e (some (.Attribute o f p')) pos.line X.env = pure false := by rfl) : PS X (.Assign [.Attribute o f p'] e pos) (tOxt X.K f to te) := ⟨fun pins s σ H D I h => by
  refine plainObj_wpAny_Assign_Attribute (thn (he.run pins s σ H _ I h) fun v s1 ⟨y, H1, I1, ry, q1⟩ => ?_) hs
  refine thn (ho.run pins s1 σ H1 _ I1 q1) fun u s2 ⟨x, H2, I2, rx, a, C, ex, T, hno, q⟩ => ?_
  cases ex
  cases (show u = Value.ref a from rx)
  exact match q with
  | .inl ⟨ea, q⟩ => oxt_first T I2 ea hno ry fun d s' n ne J => ⟨σ, _, J, q d n ne⟩
  | .inr ⟨d, l, ea, ed, hl, q⟩ => oxt_more T I2 ea ed hl hno ry fun s' J => ⟨σ, _, J, q⟩⟩
/-! ### reads -/
end
/-! ### the class's facts as one question -/
def kindB (K : PySem.W.Frag) (C : Addr) : Bool := [PySem.W.findIn K (.ref C) "__class__" == some (some (.builtin "object.__class__")), PySem.W.specialIn K (.builtin "object.__class__") "__get__" == some (some (.builtin "getset_descriptor.__get__")),
  PySem.W.takesIn K (.builtin "object.__class__") == some true, PySem.W.mroIn K C (.type "object") == some true].all id
def oxB (K : PySem.W.Frag) (C : Addr) (newId : String) (l : List Value) (names : List Str) (fI : Addr) : Bool :=
  [PySem.W.excInitIn K C l newId, PySem.W.excOver K C l, xfB K C, kindB K C, PySem.W.findIn K (.ref C) "__setattr__" == some (some (.builtin "object.__setattr__")), PySem.W.keepIn K (.ref C), noB K C names, PySem.W.typeIn K (.ref fI) == some (.type "function")].all id
theorem oxB_ok {K : PySem.W.Frag} {C fI : Addr} {B newId initId : String} {l : List Value} {names : List Str} (G : ExcBaseFacts B newId initId l ∧ StoreFacts B l "object.__setattr__" "object") (h : oxB K C newId l names fI = true) :
    OxC K C ∧ noB K C names = true ∧ PySem.W.typeIn K (.ref fI) = some (.type "function") := by
  simp only [oxB, kindB, List.all_cons, List.all_nil, id, Bool.and_true, Bool.and_eq_true, beq_iff_eq] at h
  obtain ⟨i1, i2, i3, ⟨k1, k2, k3, k4⟩, i4, i5, i6, i7⟩ := h
  have T := xfB_ok i3
  exact ⟨⟨⟨B, newId, initId, l, G.1, G.2, i1, i2⟩, T, ⟨T.ga, T.gg, T.exC, T.hdC, k1, k2, k3, k4⟩, i4, i5⟩, i6, i7⟩
theorem gVE : ExcBaseFacts "ValueError" "ValueError.__new__" "ValueError.__init__" [.type "ValueError", .type "Exception", .type "BaseException", .type "object"] ∧ StoreFacts "ValueError" [.type "ValueError", .type "Exception", .type "BaseException", .type "object"] "object.__setattr__" "object" := ⟨PySem.F.excBase_ValueError, PySem.F.store_ValueError⟩
end L2
set_option Elab.async false
set_option linter.all false
set_option maxRecDepth 100000
set_option maxHeartbeats 2000000
/-! Errors of own classes over any built-in one, made to be raised. -/
namespace L2
open PySem PySem.Spec PyProof.Rows My
/-- raise C(e, ..): of the heap there is left what the error's dict holds -/
def tMkR (C : Addr) (code : Str) (names : List Str) (ta : TA) : St → Hp → XK → Prop := fun σ H Q => ta σ H fun vs H1 => vs.length = names.length ∧ ∀ d, H1 d = none → Q (.ref C) (some d) (upd H1 d (.xd (flds code names vs)))
section
variable {X : Cx} {CX : CXT} {e : Expr} {es : List Expr} {ta : TA} {x : Str} {p pos : Pos} {C fI : Addr} {fd : FuncData} {ps names : List Str} {code : Str} {k : Nat}
theorem run_mkR {pins : List (Addr × Obj)} {σ : St} {H : Hp} {s : Shared} {Q : XK} {us : List Value} {ws : List V} (T : OxC X.K C) (tC : PySem.W.typeIn X.K (.ref C) = some (.type "type"))
    (iC : PySem.W.findIn X.K (.ref C) "__init__" = some (some (.ref fI))) (tI : PySem.W.typeIn X.K (.ref fI) = some (.type "function")) (F : FnOk X.prog X.w X.K X.mg X.base CX k fI fd ps (spInit C code names)) (hr : Room (k + 1) X.A)
    (hb : Binds X.K fd ps []) (hpn : ps.length = names.length + 1) (hn9 : names.length ≤ 9) (hx : Passes CX X (fun _ _ _ => False)) (I : Inv X pins σ H s) (r : Vals ws us) (hl : ws.length = names.length)
    (h : ∀ d, H d = none → Q (.ref C) (some d) (upd H d (.xd (flds code names ws)))) : wpAny (model X.prog X.w) X.A (call (.ref C) us) (L2N.MkP X pins σ Q) X.xe s := by
  obtain ⟨B, newId, initId, bl, EF, _, init, _⟩ := T.base
  obtain ⟨hp, gs, dr, tk, os⟩ := s
  obtain ⟨n1, N, n2, l1, l2, b1, l4, l5, b2, co, da, y0, y1, y2, y3, y5, at_C, nms⟩ := PySem.W.excInit_of I.kIn init
  have c : AtC hp C newId bl n1 n2 N l1 l2 l5 l4 b1 b2 co da y0 y1 y2 y3 y5 := ⟨at_C, nms⟩
  have hul : us.length = names.length := r.length.symm.trans hl
  have fresh : H (hp.objs.size + 1) = none := I.hok.fresh (Nat.le_succ _)
  have kept : ∀ b v, hp.get? b = some v → ((hp.push (PySem.W.kdv_tup us)).push (HandSPX.excO C hp.objs.size)).get? b = some v := fun b v z => (Heap.get?_push_of_some _ ∘ Heap.get?_push_of_some _) z
  have at_e : ((hp.push (PySem.W.kdv_tup us)).push (HandSPX.excO C hp.objs.size)).get? (hp.objs.size + 1) = some (HandSPX.excO C hp.objs.size) := by heap_get
  have I2 := I.laid (t' := tk) (a := hp.objs.size + 1) (o := exo (hp.objs.size + 1) C none) (h' := (hp.push (PySem.W.kdv_tup us)).push (HandSPX.excO C hp.objs.size)) kept (Nat.le_succ _) (exo_ok at_e)
  have want : spInit C code names (.ref (hp.objs.size + 1) :: ws) (upd H (hp.objs.size + 1) (exo (hp.objs.size + 1) C none))
      (fun v H2 => v = .non ∧ ∃ d, H2 (hp.objs.size + 1) = some (exo (hp.objs.size + 1) C (some d)) ∧ H2 d = some (exd d (flds code names ws)) ∧ H d = none ∧ Q (.ref C) (some d) (upd (del H2 (hp.objs.size + 1)) d (.xd (flds code names ws)))) (fun _ _ _ => False) := by
    refine ⟨_, ws, rfl, hl, upd_same, fun H' d nd ne ha hd hot => ⟨rfl, d, ha, hd, ?_, ?_⟩⟩
    · rwa [upd_ne ne] at nd
    · rw [upd_ne ne] at nd
      have same : upd (del H' (hp.objs.size + 1)) d (.xd (flds code names ws)) = upd H d (.xd (flds code names ws)) := by
        funext b
        by_cases b1 : b = d
        · rw [b1, upd_same, upd_same]
        · rw [upd_ne b1, upd_ne b1]
          by_cases b2 : b = hp.objs.size + 1
          · rw [b2, del_same, fresh]
          · rw [del_ne b2, hot b b2 b1, upd_ne b2]
      rw [same]
      exact h d nd
  have bind := hb ⟨(hp.push (PySem.W.kdv_tup us)).push (HandSPX.excO C hp.objs.size), gs, dr, tk, os⟩ (.ref (hp.objs.size + 1) :: us) I2.kIn (by rw [List.append_nil, List.length_cons, hul, hpn])
  rw [List.append_nil] at bind
  refine wpAny_call (c.call EF (sz (by omega)) (PySem.W.looks_findIn I.kIn iC) (fun self => PySem.W.bind_fn I.kIn self tI) (codeAny_mono (F.run _ X.stack _ _ ⟨.ref (hp.objs.size + 1) :: us, []⟩ (.ref (hp.objs.size + 1) :: us) _ _ (fun _ _ _ => False) (hr.make C us []) (I2.env0.make C us []) bind (show Vals (V.ref (hp.objs.size + 1) :: ws) (Value.ref (hp.objs.size + 1) :: us) from .cons rfl r) want) fun z s' hz => ?_))
  match z, hz with
  | .error er, hz => exact hx pins σ _ _ er s' I2 hz
  | .ok (.ret u), hz =>
    obtain ⟨v, H2, os2, bare2, un2, hok2, rv, ev, d, ea, ed, hd1, q⟩ := hz
    cases ev
    obtain ⟨h2, g2, d2, t2, os'⟩ := s'
    obtain ⟨t0, G, J, kG, ge, at_a, na⟩ := mk_end0 (d2 := d2) (t2 := t2) I (Nat.le_succ _) kept un2 hok2 os2 bare2 ea ed hd1
    exact ⟨rv, _, _, _, ⟨G, g2, d2, t2, os'⟩, _, .ref C, some d, rfl, J, kG, ge, at_a, ⟨rfl, rfl, fun vs e => by cases e; rfl⟩, rfl, rfl, na, rfl, bare2, raises_own T.field.exC tC, q⟩
theorem pmk_oxt (T : OxC X.K C) (tC : PySem.W.typeIn X.K (.ref C) = some (.type "type")) (iC : PySem.W.findIn X.K (.ref C) "__init__" = some (some (.ref fI))) (tI : PySem.W.typeIn X.K (.ref fI) = some (.type "function"))
    (F : FnOk X.prog X.w X.K X.mg X.base CX k fI fd ps (spInit C code names)) (hr : Room (k + 1) X.A) (hb : Binds X.K fd ps []) (hpn : ps.length = names.length + 1) (hn9 : names.length ≤ 9) (hx : Passes CX X (fun _ _ _ => False)) (hg : Gl X x) (hm : X.mg x = some (.ref C)) (ha : PA X (e :: es) ta)
    (hdb : (x == ("__debug__" : Str)) = false := by decide) (hpl : (backTo pos (starEach es X.env)).any (·.1) = false := by rfl) (he : starEach (e :: es) X.env = (false, eval e X.env) :: starEach es X.env := by rfl) :
    L2N.PMk X (.Call (.Name x p) (e :: es) [] pos) (tMkR C code names ta) := fun pins s σ H Q I h =>
  wpAny_Call_Name_kw (ld_glob I hg hm (PySem.W.callWith_K (h₀ := X.base) I.ok.mod.kin T.keep (thn (ha.run pos pins s σ H _ I h) fun us s1 ⟨vs, H1, I1, r1, hl, q1⟩ => ⟨I1.kIn, run_mkR T tC iC tI F hr hb hpn hn9 hx I1 r1 hl q1⟩) he hpl) hdb)
end
end L2
set_option Elab.async false
set_option linter.all false
set_option maxRecDepth 100000
set_option maxHeartbeats 1000000
/-! try: .. except (A, B, C) as n: .. -/
namespace My
open PySem PySem.Spec PyProof.Rows L2
/-- an error in flight, the heap grown -/
theorem flies_on {B h h' : Heap} {l : List Env} {a : Addr} {Z : Obj → Prop} (f : HandSPX.FlyingZ B l a Z h) (k : ∀ b o, h.get? b = some o → h'.get? b = some o) : HandSPX.FlyingZ B l a Z h' := by
  obtain ⟨x1, x2, x3, oe, vs, T, oT, ts, y1, y2, y3, y4, y5, y6, y7, y8, y9⟩ := f
  exact ⟨fun b o e => k b o (x1 b o e), x2, x3.of_keeps (fun b o e _ => ⟨o, k b o e, rfl⟩), oe, vs, T, oT, ts, k _ _ y1, y2, y3, y4, y5, y6, k _ _ y7, y8, y9⟩
/-- what a clause of several classes wishes of the body's error, where it takes every one that may come -/
def wAsT (K : PySem.W.Frag) (cs : List Value) (i : Nat) (ts : Addr → Value → Option Addr → TS) (D : Ends) : WX := fun cls d σ H => PySem.W.exmAny K cls cs = some true ∧ ∀ a, H a = none →
  ts a cls d { nx := fun σ' H' => D.nx (σ'.set i none) H', rt := D.rt, bk := fun σ' H' => D.bk (σ'.set i none) H', ct := fun σ' H' => D.ct (σ'.set i none) H' } (σ.set i (some (.ref a))) H
section
variable {X : Cx} {x1 x2 x3 n : Str} {c1 c2 c3 : Value} {i : Nat} {body suite : List Stmt} {b₀ : Stmt} {q1 q2 q3 tq pos pos' : Pos} {m : Nat} {tb : WX → TS} {ts : Addr → Value → Option Addr → TS}
theorem named_of {a : Addr} {oe : Obj} {pn : List (Addr × Obj)} {pins : List (Addr × Obj)} {σ : L2.St} {H : Hp} {s : Shared} {x : Str} {c : Value} {q : Pos} {Q : Value → Shared → Prop} {E : Value → Shared → Prop} (S : Inv (X.suite a ((a, oe) :: pn)) pins σ H s) (hc : Names X x c) (h : Q c s) :
    wpAny (model X.prog X.w) (X.A.mark (some (.ref a))) (eval (.Name x q) X.env) Q E s := by
  obtain ⟨g, dbg, m | ⟨m, v, nn⟩⟩ := hc
  · exact ld_glob (X := X.suite a ((a, oe) :: pn)) S g m h dbg
  · exact ld_blt (X := X.suite a ((a, oe) :: pn)) S g m v h nn dbg
theorem ps_try_asT (hs : X.stack = X.env :: X.outer) (hf : X.env.frame = some X.env.locals) (hN : X.N.Nodup) (hi : X.N[i]? = some n) (hln : X.env.kindOf n = some .local) (n1 : Names X x1 c1) (n2 : Names X x2 c2) (n3 : Names X x3 c3)
    (hb : ∀ (W : WX) (pn : List (Addr × Obj)) (xe : Value → Shared → Prop), L2N.Takes (X.tr pn xe) W → PassesOwn (model X.prog X.w) X.A X.env xe → PSs (X.tr pn xe) body (tb W))
    (hsu : ∀ (a : Addr) (oe : Obj) (cls : Value) (d : Option Addr) (pn : List (Addr × Obj)), L2N.Zn cls d oe → (∃ vs, oe.data = .fields vs) → PSs (X.suite a ((a, oe) :: pn)) (b₀ :: suite) (ts a cls d)) :
    PS X (.Try body [.ExceptHandler (some (.Tuple [.Name x1 q1, .Name x2 q2, .Name x3 q3] m tq)) (some n) (b₀ :: suite) pos'] [] [] pos) (fun D σ H => tb (wAsT X.K [c1, c2, c3] i ts D) D σ H) := by
  refine ⟨fun pins s σ H D I h => ?_⟩
  have ok := I.ok
  refine wpAny_Try_except ?_
  have landing : L2N.Takes (X.tr (X.pn ++ pins) (fun er t1 => wpAny (model X.prog X.w) X.A (noteFrame er X.env) (fun _ t2 => wpAny (model X.prog X.w) X.A (setFlight er none) (fun _ t3 =>
      wpAny (model X.prog X.w) X.A (handleBy er X.env [.ExceptHandler (some (.Tuple [.Name x1 q1, .Name x2 q2, .Name x3 q3] m tq)) (some n) (b₀ :: suite) pos']) (L2.SP X pins D) X.xe t3) X.xe t2) X.xe t1)) (wAsT X.K [c1, c2, c3] i ts D) := by
    rintro u s' ⟨a, B, sI, pins', σ', H', cls, d, rfl, J', nb, up, sky, na, os, ag, hm, go⟩
    have J : Inv X pins σ' H' sI := J'.ofTry ok
    have framesAre : X.A.frames = some (X.env :: X.outer) := by rw [ok.frames, hs]
    refine L2N.Sky.land L2N.Zn.steady framesAre hf (by rw [← hs]; exact sky) fun g1 f1 u1 => ?_
    have J1 : Inv X pins σ' H' { s' with heap := g1 } := J.landed nb f1.1 (up.trans u1) os ag
    obtain ⟨oe, vs, he, hz, hd⟩ := f1.there
    have out : a ∉ frs (X.env :: X.outer) := fun m => by
      obtain ⟨_, o', e', no⟩ := f1.2.2.1.mem m
      rw [he] at e'
      cases e'
      exact no _ hd
    have nL : a ≠ X.env.locals := fun z => out (List.mem_filterMap.mpr ⟨X.env, .head _, by rw [hf, z]⟩)
    have nF : a ∉ X.fs := fun m => by
      obtain ⟨e, he, q⟩ := List.mem_filterMap.mp m
      exact out (List.mem_filterMap.mpr ⟨e, .tail _ he, q⟩)
    have S1 := J1.suite he hd na nL nF
    refine PySem.W.exc_clause_as ?_
    refine wpAny_Tuple_spliced (Calls.spliced_cons (named_of S1 n1 ?_))
    show wpAny _ _ (spliced [(false, eval (.Name x2 q2) X.env), (false, eval (.Name x3 q3) X.env)]) _ _ _
    refine Calls.spliced_cons (named_of S1 n2 (Calls.spliced_cons (named_of S1 n3 (Calls.spliced_nil ⟨sz (by show 3 ≤ 100000; decide), true, ?_, ?_⟩))))
    · refine PySem.W.exm_tup3 (K := X.K) (cls := cls) (J1.kIn.keeps fun b o e => Heap.get?_push_of_some _ e) (fun A2 Q2 E2 t2 k q => wpAny_typeOf_ref (k _ _ (Heap.get?_push_of_some _ he)) (by rw [hz.1]; exact q)) (Heap.get?_push_size _ rfl) hm
    rw [if_pos rfl]
    refine HandSPX.lands_againZ (flies_on f1 fun b o e => Heap.get?_push_of_some _ e) fun g2 f2 u2 => ?_
    have J2 : Inv X pins σ' H' { s' with heap := g2 } := J.landed nb f2.1 (((up.trans u1).trans (Heap.UpToSlots.of_keeps fun b o e => Heap.get?_push_of_some _ e)).trans u2) os ag
    obtain ⟨oe2, vs2, he2, hz2, hd2⟩ := f2.there
    refine store_ok (X := X.suite a ((a, oe2) :: (X.pn ++ pins))) (v := .ref a) (J2.suite he2 hd2 na nL nF) hN hi (.inl hln) rfl (fun s5 S5 => ?_) (.inr hln)
    refine wpAny_mono ((hsu a oe2 cls d (X.pn ++ pins) hz2 ⟨_, hd2⟩).run [] s5 _ H' _ S5 (go a na)) (fun f t hsp => ?_) (fun _ _ z => False.elim z)
    have gone : ∀ {σ6 : L2.St} {H6 : Hp} {Q : Shared → Prop}, Inv (X.suite a ((a, oe2) :: (X.pn ++ pins))) [] σ6 H6 t → (∀ t2, Inv X pins (σ6.set i none) H6 t2 → Q t2) →
        wpAny (model X.prog X.w) X.A (do bindName X.env n .none; unbindBehindTheSuite X.env n pos') (fun _ t2 => Q t2) X.xe t := fun S6 k => gone_ok (S6.unsuite ok) hN hi hln k
    match f, hsp with
    | .next, ⟨σ6, H6, S6, w⟩ => exact gone S6 fun t2 J7 => ⟨_, _, J7, w⟩
    | .brk, ⟨σ6, H6, S6, w⟩ => exact gone S6 fun t2 J7 => ⟨_, _, J7, w⟩
    | .cont, ⟨σ6, H6, S6, w⟩ => exact gone S6 fun t2 J7 => ⟨_, _, J7, w⟩
    | .ret u, ⟨v6, σ6, H6, S6, r6, w⟩ => exact gone S6 fun t2 J7 => ⟨_, _, _, J7, r6, w⟩
  refine wpAny_mono ((hb _ _ _ landing PassesOwn.looking).run [] s σ H D (I.toTry _) h) (fun f t hsp => ?_) (fun e t he => he)
  match f, hsp with
  | .next, ⟨σ', H', J', q⟩ => exact wpAny_execs_nil ⟨σ', H', J'.ofTry ok, q⟩
  | .brk, ⟨σ', H', J', q⟩ => exact ⟨σ', H', J'.ofTry ok, q⟩
  | .cont, ⟨σ', H', J', q⟩ => exact ⟨σ', H', J'.ofTry ok, q⟩
  | .ret u, ⟨v, σ', H', J', r, q⟩ => exact ⟨v, σ', H', J'.ofTry ok, r, q⟩
end
end My
set_option Elab.async false
set_option linter.all false
set_option maxRecDepth 100000
set_option maxHeartbeats 1000000
/-! Within an except suite: a def that is handed the very error; its fields read there. -/
namespace My
open PySem PySem.Spec PyProof.Rows L2 L2H
theorem notCls_of {o : Obj} {vs : Array Value} (h : o.data = .fields vs) : PySem.W.notCls o = true := by
  unfold PySem.W.notCls
  rw [h] <;> rfl
/-- the same, the class told by what stands there -/
def tErr (K : PySem.W.Frag) (a : Addr) (cls : Value) (d : Option Addr) (n : Str) (te : TE) : TE := fun σ H Q => te σ H fun x H1 => x = .ref a ∧ ∃ (C dd : Addr) (fs : List (Str × V)) (v : V), cls = .ref C ∧ XfC K C ∧ PySem.W.findIn K (.ref C) n = some none ∧ d = some dd ∧ H1 dd = some (.xd fs) ∧ fs.lookup n = some v ∧ Q v H1
theorem pe_err {X : Cx} {a : Addr} {oe : Obj} {cls : Value} {d : Option Addr} {e : Expr} {te : TE} {pos : Pos} {n : Str} (hz : Zc cls d oe) (hd : ∃ vs, oe.data = .fields vs) (hp : (a, oe) ∈ X.pn) (he : PE X e te) (hb : attributeBase e n X.env (eval e X.env) = eval e X.env := by rfl) :
    PE X (.Attribute e n pos) (tErr X.K a cls d n te) := ⟨fun pins s σ H Q I h => by
  refine attr_of hb (thn (he.run pins s σ H _ I h) fun u t ⟨x, H1, I1, rx, ex, C, dd, fs, v, ec, T, hno, ed, ea, look, q⟩ => ?_)
  subst ex ec ed
  have eu : u = .ref a := rx
  subst eu
  obtain ⟨vs, fields⟩ := hd
  obtain ⟨mA, ns, same⟩ := (I1.hok dd _ ea : ObjOk X.prog X.w H1 t.heap dd (.xd fs))
  obtain ⟨od, at_, looks⟩ := lookIn_ns ns
  obtain ⟨y, hy, ry⟩ := RelO.some_of (v := v) (o := mA n) (look ▸ same n)
  exact HandSPX.exc_get I1.kIn ⟨(I1.pin _ (List.mem_append_left _ hp)).1, hz.1, notCls_of fields, by rw [hz.2]; exact at_⟩ T.ga T.gg T.exC (PySem.W.findObj_own T.hdC hno rfl (by rw [looks, hy])) (handed_of ry) ⟨v, H1, I1.tok _, ry, q⟩⟩
/-- what a def promises that is handed the handled error -/
structure FnE (P : Program) (w : World) (K : PySem.W.Frag) (mg : Str → Option Value) (base : Heap) (k : Nat) (f : Addr) (fd : FuncData) (ps : List Str) (sp : Addr → Value → Option Addr → Sp) : Prop where
  len : ∀ a cls d vs H Q E, sp a cls d vs H Q E → vs.length = ps.length
  run : ∀ (A : Around) (outer : List Env) (s : Shared) (H : Hp) (args : Args) (us : List Value) (vs : List V) (Q : VK) (E : XK) (a : Addr) (oe : Obj) (cls : Value) (d : Option Addr),
    RoomH k A → Hot1 A (a, oe) → PinOk outer H s (a, oe) → Zc cls d oe → Env0 P w K mg base A outer s H → BindsTo s fd args (ps.zip us) → Vals vs us → sp a cls d vs H Q E →
    codeAny (model P w) A (.call (.ref f) args) (CR CX0 outer P w H s Q E) s
/-- by its body -/
theorem fnE_of {P : Program} {w : World} {K : PySem.W.Frag} {mg : Str → Option Value} {base : Heap} {k : Nat} {f : Addr} {name qual : Str} {params : Arguments} {body : List Stmt} {scope : Scope} {dV kV doc pm cdv ct oc : Value} {an od : Option Addr}
    {osl : Array (Option Value)} {N ps : List Str} {sp : Addr → Value → Option Addr → Sp} (lk : K.lookup f = some ⟨oc, od, .func (PySem.W.fnOf name qual params body scope dV kV doc pm an cdv ct), osl⟩) (code : PySem.W.codeIn K cdv qual = true) (S : FnScope N ps scope)
    (len : ∀ a cls d vs H Q E, sp a cls d vs H Q E → vs.length = ps.length)
    (runs : ∀ (A : Around) (outer : List Env) (s : Shared) (H : Hp) (vs : List V) (Q : VK) (E : XK) (a : Addr) (oe : Obj) (cls : Value) (d : Option Addr), Hot1 A (a, oe) → Zc cls d oe → RoomH k (A.deeper (envOfC qual scope s.heap.objs.size f cdv)) → sp a cls d vs H Q E →
      ∃ t, PSs (cxH CX0 P w K mg base N qual scope f cdv A outer s H E (a, oe)) body t ∧ t { nx := fun _ H' => Q .non H', rt := Q } (L2.start N vs) H) :
    FnE P w K mg base (k + 1) f (PySem.W.fnOf name qual params body scope dV kV doc pm an cdv ct) ps sp where
  len := len
  run A outer s H args us vs Q E a oe cls d hr hot hpin hz e0 bind rv h := by
    have keep : ∀ b o, base.get? b = some o → s.heap.get? b = some o := fun b o e => (e0.bs b o e).1
    have KX := e0.mod.kin.keeps keep
    obtain ⟨t, body_t, q⟩ := runs A outer s H vs Q E a oe cls d hot hz (hr.deeper _) h
    refine codeAny_call_function hr.depth (KX _ _ lk) rfl S.co S.gen rfl (PySem.W.codeRec_of KX code) (bind _ _ _ _ (wpAny_newFunctionEnv_cells S.kind (fun y m => ?_) fun env ee s1 x => ?_))
    · obtain ⟨n, v⟩ := y
      exact (S.par n (List.of_mem_zip m).1).imp id fun z => ⟨z, PySem.W.cellsFrom_some _ _ _ (.inl z)⟩
    · subst ee
      refine ⟨(e0.mod.nolimit.keeps keep).keeps x.toInCall.keep, codeAny_func (wpAny_mono (body_t.run [] s1 _ H _ (inv_startH S hpin e0 (len _ _ _ _ _ _ _ h) rv x) q) (fun fl s2 hs => ?_) fun e s2 z => z)⟩
      have fin : ∀ {σ2 : L2.St} {H2 : Hp} {v : V} {u : Value}, Inv (cxH CX0 P w K mg base N qual scope f cdv A outer s H E (a, oe)) [] σ2 H2 s2 → RelV v u → Q v H2 → CE outer P w H s Q u s2 := fun {_ H2 v _} J rr z => ⟨v, H2, J.os, J.bare, J.base, J.hok, rr, z⟩
      cases fl with
      | ret u =>
        obtain ⟨v, σ2, H2, J, rr, z⟩ := hs
        exact fin J rr z
      | next =>
        obtain ⟨σ2, H2, J, z⟩ := hs
        exact fin (v := V.non) (u := Value.none) J rfl z
      | brk => exact hs.elim fun _ h => h.elim fun _ h => h.2.elim
      | cont => exact hs.elim fun _ h => h.elim fun _ h => h.2.elim
/-- f(e), e the error that the context holds and handles -/
def tCallE (sp : Addr → Value → Option Addr → Sp) (a : Addr) (cls : Value) (d : Option Addr) (E : XK) (t : TA) : TE := fun σ H Q => t σ H fun vs H1 => sp a cls d vs H1 Q E
theorem pe_callE {X : Cx} {k : Nat} {f a : Addr} {oe : Obj} {cls : Value} {d : Option Addr} {fd : FuncData} {ps : List Str} {sp : Addr → Value → Option Addr → Sp} {E : XK} {x : Str} {q pos : Pos} {e : Expr} {es : List Expr} {t : TA} (F : FnE X.prog X.w X.K X.mg X.base k f fd ps sp) (hr : RoomH k X.A) (hot : Hot1 X.A (a, oe)) (hp : (a, oe) ∈ X.pn) (hz : Zc cls d oe)
    (hg : Gl X x) (hm : X.mg x = some (.ref f)) (keep : PySem.W.keepIn X.K (.ref f) = true) (bind : Binds X.K fd ps []) (ha : PA X (e :: es) t) (hdb : (x == ("__debug__" : Str)) = false := by decide)
    (he : starEach (e :: es) X.env = (false, eval e X.env) :: starEach es X.env := by rfl) (hpl : (backTo pos (starEach es X.env)).any (·.1) = false := by rfl) : PE X (.Call (.Name x q) (e :: es) [] pos) (tCallE sp a cls d E t) := ⟨fun pins s σ H Q I h => by
  refine wpAny_Call_Name_kw (ld_glob I hg hm (PySem.W.callWith_K (h₀ := X.base) I.ok.mod.kin keep (thn (ha.run pos pins s σ H _ I h) fun us s1 ⟨vs, H1, I1, r, w⟩ => ⟨I1.kIn, ?_⟩) he hpl) hdb)
  obtain ⟨g1, g2, g3, g4, g5⟩ := I1.pin _ (List.mem_append_left _ hp)
  have lens : us.length = ps.length := r.length.symm.trans (F.len _ _ _ _ _ _ _ w)
  have b := bind s1 us I1.kIn (by rw [List.append_nil]; exact lens)
  rw [List.append_nil] at b
  refine wpAny_call (codeAny_mono (F.run X.A X.stack s1 H1 ⟨us, []⟩ us vs Q E a oe cls d hr hot ⟨g1, g2, fun m => (List.mem_cons.mp (I1.stkSub a m)).elim g3 g4, g5⟩ hz I1.env0 b r w) fun rs s2 hq => ?_)
  match rs, hq with
  | .ok (.ret u), hq => exact I1.after hq⟩
end My
set_option Elab.async false
set_option linter.all false
set_option maxRecDepth 100000
set_option maxHeartbeats 1000000
/-! A lambda without parameters that is handed on: called from any depth of defs below the one that made it. -/
namespace My
open PySem PySem.Spec PyProof.Rows L2 LamX
/-- what happened since (H, s), where the frame of X went to sleep, up to (H', s'), where the frames `outer` stand -/
structure Sleeps (X : Cx) (H : Hp) (s : Shared) (outer : List Env) (H' : Hp) (s' : Shared) : Prop where
  un : Un (frs X.stack) [] H H' s.heap s'.heap
  new : ∀ b ∈ frs outer, b ∈ frs X.stack ∨ s.heap.get? b = none
  size : s.heap.objs.size ≤ s'.heap.objs.size
section
variable {X Z : Cx} {pins pz : List (Addr × Obj)} {σ σz : L2.St} {H H1 H2 : Hp} {s s1 s2 : Shared} {outer : List Env}
theorem Sleeps.start : Sleeps X H s X.stack H s := ⟨Un.refl, fun b hb => .inl hb, Nat.le_refl _⟩
/-- what is done over frames that are younger, or that sleep as well -/
theorem un_over {fs gs : List Addr} {h h1 h2 : Heap} (a : Un fs [] H H1 h h1) (b : Un gs [] H1 H2 h1 h2) (hn : ∀ x ∈ gs, x ∈ fs ∨ h.get? x = none) : Un fs [] H H2 h h2 where
  keep c o e n hf hx := b.keep c o (a.keep c o e n hf hx) (a.free c o e n hx) (fun z => (hn c z).elim hf fun w => by rw [w] at e; cases e) hx
  slot c o e n hf hx := by
    obtain ⟨sl, q⟩ := a.slot c o e n hf hx
    obtain ⟨sl2, q2⟩ := b.any q (a.free c o e n hx) hx
    exact ⟨sl2, q2⟩
  free c o e n hx := by
    obtain ⟨sl, q⟩ := a.any e n hx
    exact b.free c _ q (a.free c o e n hx) hx
  there c o e hx := by
    obtain ⟨o1, q⟩ := a.there c o e hx
    exact b.there c o1 q hx
  tups c xs e := b.tups c xs (a.tups c xs e)
  frzs c o u e := b.frzs c o u (a.frzs c o u e)
  tbls c ps e := by
    obtain ⟨m1, q1⟩ := a.tbls c ps e
    obtain ⟨m2, q2⟩ := b.tbls c _ q1
    exact ⟨m1 ++ m2, by rw [q2, Array.append_assoc]⟩
theorem Sleeps.on (w : Sleeps X H s Z.outer Z.H_0 Z.s_0) (hx : Z.ex = []) (I : Inv Z pz σz H2 s2) : Sleeps X H s Z.outer H2 s2 := ⟨un_over w.un (hx ▸ I.base) w.new, w.new, Nat.le_trans w.size I.sz⟩
/-- a def is called from there -/
theorem Sleeps.down (w : Sleeps X H s Z.outer Z.H_0 Z.s_0) (hx : Z.ex = []) (hs : Z.stack = Z.env :: Z.outer) (hf : Z.env.frame = some Z.env.locals) (I : Inv Z pz σz H2 s2) : Sleeps X H s Z.stack H2 s2 := by
  refine ⟨(w.on hx I).un, fun b hb => ?_, (w.on hx I).size⟩
  rw [hs] at hb
  obtain ⟨e, he, q⟩ := List.mem_filterMap.mp hb
  rcases List.mem_cons.mp he with rfl | he
  · rw [hf] at q
    cases q
    exact .inr (Heap.get?_none_of_le (Nat.le_trans w.size I.ok.above))
  · exact w.new b (List.mem_filterMap.mpr ⟨e, he, q⟩)
/-- the lambda's text: parameters, body, names -/
structure LamT where
  params : Arguments
  body : Expr
  sc : Scope
/-- its function, made in X; pm, ct, c': what the making adds -/
abbrev LamT.fd (t : LamT) (X : Cx) (pm ct : Value) (c' : Addr) : FuncData := PySem.W.kla_fn "<lambda>" (X.env.qual ++ "<lambda>") t.params t.body t.sc (cloFrom X.env.cells t.sc.names []) pm (.ref c') ct
/-- the context of the lambda's body -/
def LamT.cx (t : LamT) (X : Cx) (A : Around) (outer : List Env) (s : Shared) (H : Hp) (E : XK) (f c' : Addr) : Cx := (lamCx X A outer s H E t.sc f c').tr []
  (fun er s1 => wpAny (model X.prog X.w) (A.deeper (lamEnv X t.sc s.heap.objs.size f c')) (leaving (lamEnv X t.sc s.heap.objs.size f c') er) (fun _ => L2N.CX X.prog X.w outer H s E er) (L2N.CX X.prog X.w outer H s E) s1)
end
end My
set_option Elab.async false
set_option linter.all false
set_option maxRecDepth 100000
set_option maxHeartbeats 1000000
/-! Lambdas made: their objects are known from then on (kept in lists, handed on); a parameter with a default, too. -/
namespace My
open PySem PySem.Spec PyProof.Rows L2 LamX
/-- at f: the function of the lambda t, made in X; dv: the tuple of its defaults -/
def LamO (t : LamT) (X : Cx) (f c' : Addr) (dv : Value) : HO := .ext fun h => ∃ pm ct, h.get? f = some { cls := .type "function", data := .func { t.fd X pm ct c' with defaults := dv } }
section
variable {X : Cx} {pins : List (Addr × Obj)} {σ : L2.St} {H : Hp} {s : Shared} {T : List (Addr × Str)} {c P : Addr}
theorem lamO_ok {t : LamT} {f c' : Addr} {dv pm ct : Value} {h : Heap} {H : Hp} (e : h.get? f = some { cls := .type "function", data := .func { t.fd X pm ct c' with defaults := dv } }) : ObjOk X.prog X.w H h f (LamO t X f c' dv) :=
  ⟨⟨pm, ct, e⟩, ⟨_, e⟩, fun _ _ ⟨pm, ct, e⟩ k => ⟨pm, ct, k _ e⟩⟩
/-- a code object is found or made: the table grows, no more -/
theorem code_step {q name : Str} {params : Arguments} {body : FuncBody} {sc : Scope} {pos : Pos} {n : Nat} {E : Value → Shared → Prop} {Q : Value → Shared → Prop} (I : Inv X pins σ H s) (TB : TabB X.base X.mg c P) (hcode : X.env.code = .ref c) (hm : (P, q) ∈ T) (hu : ∀ p ∈ T, p.1 = P → p.2 = q) (hT : Tabs T H)
    (h : ∀ c' H1 s1, Inv X pins σ H1 s1 → Ext P H H1 → Tabs T H1 → H1 c' = some (CodeO c' q) → s.heap.objs.size ≤ s1.heap.objs.size → Q (.ref c') s1) : wpAny (model X.prog X.w) X.A (functionCode X.env pos n name q params sc body) Q E s := by
  obtain ⟨ps, hP, triples, among⟩ := hT _ hm
  have at_ : s.heap.get? P = some { cls := .none, data := .fields ps } := I.hok P _ hP
  have CH := TB.code.keeps I.bk
  cases hit : codeAmong pos ps.toList with
  | some cv =>
    obtain ⟨c', rfl, known⟩ := among pos cv hit
    exact wpAny_functionCode_hit hcode (CH.code at_ triples) hit (h c' H s I (Ext.refl P H) hT known (Nat.le_refl _))
  | none =>
    refine wpAny_functionCodeX hcode (CH.code at_ triples) (CH.tab at_) hit fun c' h' tk but ge lt _ rec tab _ => ?_
    obtain ⟨c2, oc, vs, tq, e2, hoc, hd, hv⟩ := rec
    cases e2
    have nC : H c' = none := I.hok.fresh ge
    have I1 := inv_table (q := q) (t' := tk) (more := #[rawInt pos.line, rawInt pos.col, .ref c']) I hP but tab.2 ge ⟨oc, vs, tq, hoc, hd, hv⟩
    have nc : ∀ (b : Addr) (q' : Str), H b = some (CodeO b q') → b ≠ P := fun b q' e z => by
      subst z
      exact codeO_ne ps (Option.some.inj (e.symm.trans hP))
    have ext : Ext P H (upd (upd H P (.tbl (ps ++ #[rawInt pos.line, rawInt pos.col, .ref c']))) c' (CodeO c' q)) := fun b o e no => by
      have n1 : b ≠ c' := fun z => by rw [z, nC] at e; cases e
      rw [upd_ne n1, upd_ne no]
      exact e
    have nPc : P ≠ c' := fun z => by rw [z, nC] at hP; cases hP
    refine h c' _ _ I1 ext (fun p mp => ?_) upd_same (Nat.le_trans ge (Nat.le_of_lt lt))
    · by_cases z : p.1 = P
      · rw [hu p mp z, z]
        have el : (ps ++ #[rawInt pos.line, rawInt pos.col, .ref c']).toList = ps.toList ++ [rawInt pos.line, rawInt pos.col, .ref c'] := by simp
        refine ⟨_, (upd_ne nPc).trans upd_same, by rw [el]; exact PySem.TriplesOk_snoc _ _ _ _ triples, fun p' cv hc => ?_⟩
        rw [el] at hc
        rcases among_app _ triples hc with w | w
        · obtain ⟨c0, e1, e2⟩ := among p' cv w
          exact ⟨c0, e1, ext _ _ e2 (nc _ _ e2)⟩
        · exact ⟨c', w, upd_same⟩
      · obtain ⟨ps', a1, a2, a3⟩ := hT p mp
        have ne : p.1 ≠ c' := fun w => by rw [w, nC] at a1; cases a1
        exact ⟨ps', by rw [upd_ne ne, upd_ne z]; exact a1, a2, fun p' cv hc => (a3 p' cv hc).imp fun c0 e => ⟨e.1, ext _ _ e.2 (nc _ _ e.2)⟩⟩
/-- behind the closure: the code object, the object itself -/
def lamEnd (t : LamT) (X : Cx) (ct dv : Value) (pos : Pos) (n : Nat) : Sem Value := do
  let code ← functionCode X.env pos n "<lambda>" (X.env.qual ++ "<lambda>") t.params t.sc (.expr t.body)
  let bi ← builtinsFor mainGlobals X.env.builtins
  let m ← nsGet mainGlobals "__name__"
  newObj (.type "function") (.func { PySem.W.kla_fn "<lambda>" (X.env.qual ++ "<lambda>") t.params t.body t.sc (cloFrom X.env.cells t.sc.names []) (m.getD .none) code ct with builtins := bi, defaults := dv })
/-- the rest of the making -/
theorem tail_step {t : LamT} {dv : Value} {pos : Pos} {n : Nat} {E : Value → Shared → Prop} {Q : Value → Shared → Prop} (I : Inv X pins σ H s) (TB : TabB X.base X.mg c P) (hcode : X.env.code = .ref c) (hm : (P, X.env.qual ++ "<lambda>") ∈ T) (hu : ∀ p ∈ T, p.1 = P → p.2 = X.env.qual ++ "<lambda>") (hT : Tabs T H)
    (hfree : ∀ y ∈ t.sc.names, y.2 = .free → ∃ c, X.env.cells.lookup y.1 = some c)
    (h : ∀ f c' H1 s1, Inv X pins σ (upd H1 f (LamO t X f c' dv)) s1 → Ext P H H1 → Tabs T H1 → H1 c' = some (CodeO c' (X.env.qual ++ "<lambda>")) → H1 f = none → H f = none → Q (.ref f) s1) :
    wpAny (model X.prog X.w) X.A (makeTail "<lambda>" (X.env.qual ++ "<lambda>") t.params (.expr t.body) t.sc X.env dv .none none pos n) Q E s := by
  have last : ∀ (s0 : Shared) (ct : Value), s.heap.objs.size ≤ s0.heap.objs.size → Inv X pins σ H s0 → wpAny (model X.prog X.w) X.A (lamEnd t X ct dv pos n) Q E s0 := fun s0 ct hsz I0 => by
    unfold lamEnd
    refine wpAny_bind (code_step I0 TB hcode hm hu hT fun c' H1 s1 I1 ext tabs known sz1 => ?_)
    obtain ⟨bm, ob, b1, b2, b3, b4, b5, b6, b7, b8⟩ := TB.bm
    have G := I1.mod.glob.keeps I1.bk
    refine wpAny_bind (wpAny_builtinsFor G b1 b2 (I1.bk _ _ b5) b6 b7 b8 (wpAny_bind (wpAny_nsGet G (wpAny_newObj_type ?_ (by size_fits)))))
    have fresh : H1 s1.heap.objs.size = none := I1.hok.fresh (Nat.le_refl _)
    exact h s1.heap.objs.size c' H1 _ (I1.laid (t' := s1.toks) (fun b o e => Heap.get?_push_of_some _ e) (Nat.le_refl _) (lamO_ok (Heap.get?_push_size _ rfl))) ext tabs known fresh (I.hok.fresh (Nat.le_trans hsz sz1))
  unfold makeTail
  rw [closure_ok hfree, I.ok.glob]
  refine wpAny_bind (wpAny_pure ?_)
  cases hc : cloFrom X.env.cells t.sc.names [] with
  | nil =>
    simp only [List.isEmpty_nil, if_true]
    refine wpAny_bind (wpAny_pure ?_)
    have e := last s .none (Nat.le_refl _) I
    unfold lamEnd at e
    rw [hc] at e
    exact e
  | cons q r =>
    simp only [List.isEmpty_cons, Bool.false_eq_true, if_false]
    refine wpAny_bind (wpAny_newTextTuple ?_)
    have := last _ (.ref s.heap.objs.size) (by rw [Heap.size_push]; omega) (I.kept (t' := s.toks) fun b o e => Heap.get?_push_of_some { cls := .type "tuple", data := .seq (((q :: r).mergeSort fun a b => a.1.cps.toList ≤ b.1.cps.toList).map (Value.ref ·.2)).toArray } e)
    unfold lamEnd at this
    rw [hc] at this
    exact this
end
end My
set_option Elab.async false
set_option linter.all false
set_option maxRecDepth 100000
set_option maxHeartbeats 1000000
/-! Lambda expressions: without parameters, or with one parameter that has a default. -/
namespace My
open PySem PySem.Spec PyProof.Rows L2 LamX
section
variable {X : Cx} {T : List (Addr × Str)} {c P : Addr} {t : LamT} {pos : Pos}
theorem track_ext {H H1 : Hp} {f : Addr} {o : HO} (e : Ext P H H1) (n : H f = none) : Ext P H (upd H1 f o) := fun b u hb k => by
  have ne : b ≠ f := fun z => by rw [z, n] at hb; cases hb
  rw [upd_ne ne]
  exact e b u hb k
theorem track_tabs {H1 : Hp} {f : Addr} {o : HO} (h : Tabs T H1) (n : H1 f = none) : Tabs T (upd H1 f o) := fun p mp => (h p mp).ext fun b u hb => by
  have ne : b ≠ f := fun z => by rw [z, n] at hb; cases hb
  rw [upd_ne ne]
  exact hb
/-- what is known of a lambda's object -/
def LamIn (t : LamT) (X : Cx) (H : Hp) (f : Addr) (dv : Value) : Prop := ∃ c', H f = some (LamO t X f c' dv) ∧ H c' = some (CodeO c' (X.env.qual ++ "<lambda>"))
/-- lambda: e -/
def tLam0 (t : LamT) (X : Cx) (T : List (Addr × Str)) (P : Addr) : TE := fun σ H Q => Tabs T H ∧ ∀ H1 f, Ext P H H1 → Tabs T H1 → H f = none → LamIn t X H1 f .none → Q (.ref f) H1
theorem pe_lam0 (TB : TabB X.base X.mg c P) (hcode : X.env.code = .ref c) (hm : (P, X.env.qual ++ "<lambda>") ∈ T) (hu : ∀ p ∈ T, p.1 = P → p.2 = X.env.qual ++ "<lambda>") (hfree : X.Ok → ∀ y ∈ t.sc.names, y.2 = .free → ∃ c, X.env.cells.lookup y.1 = some c) (hdef : defaultsOf t.params X.env = ([], [])) :
    PE X (.Lambda t.params t.body t.sc pos) (tLam0 t X T P) := ⟨fun pins s σ H Q I ⟨hT, h⟩ => by
  refine PySem.W.kla_eval hdef ?_
  rw [makeFunction_eq]
  simp only [List.zip_nil_right, List.filterMap_nil, List.isEmpty_nil, if_true, pure_bind]
  exact tail_step I TB hcode hm hu hT (hfree I.ok) fun f c' H1 s1 J e tb known n1 n => ⟨.ref f, _, J, rfl, h _ f (track_ext e n) (track_tabs tb n1) n ⟨c', upd_same, by
    have ne : c' ≠ f := fun z => by rw [z, n1] at known; cases known
    rw [upd_ne ne]
    exact known⟩⟩⟩
end
end My
set_option Elab.async false
set_option linter.all false
set_option maxRecDepth 100000
set_option maxHeartbeats 1000000
/-! A known lambda is called: at any depth below the frame that made it, its parameter at its default. -/
namespace My
open PySem PySem.Spec PyProof.Rows L2 LamX
/-- the names of a lambda: captured ones, globals, and a parameter that its maker does not know -/
structure LamN (X : Cx) (scope : Scope) : Prop where
  kind : scope.kind = .function
  co : scope.isCoroutine = false
  gen : scope.isGenerator = false
  nocell : ∀ y ∈ scope.names, y.2 ≠ .cell
  own : ∀ y ∈ scope.names, y.2 = .local → y.1 ∉ X.N
  free : ∀ y ∈ scope.names, y.2 = .free → X.env.scope.names.lookup y.1 = some .cell ∨ X.env.scope.names.lookup y.1 = some .free
def lamNB (N : List Str) (sc scope : Scope) : Bool :=
  decide (scope.kind = .function) && (!scope.isCoroutine && (!scope.isGenerator && scope.names.all fun y => match y.2 with
    | .cell => false
    | .local => !N.contains y.1
    | .free => decide (sc.names.lookup y.1 = some .cell) || decide (sc.names.lookup y.1 = some .free)
    | _ => true))
theorem lamN_by {X : Cx} {scope : Scope} (h : lamNB X.N X.env.scope scope = true) : LamN X scope := by
  unfold lamNB at h
  obtain ⟨h1, h⟩ := Bool.and_eq_true_iff.mp h
  obtain ⟨h2, h⟩ := Bool.and_eq_true_iff.mp h
  obtain ⟨h3, h⟩ := Bool.and_eq_true_iff.mp h
  have each := List.all_eq_true.mp h
  refine ⟨of_decide_eq_true h1, by simpa using h2, by simpa using h3, fun y m e => ?_, fun y m e => ?_, fun y m e => ?_⟩
  · have := each y m
    rw [e] at this
    cases this
  · have := each y m
    rw [e] at this
    simpa using this
  · have := each y m
    rw [e] at this
    simpa using this
section
variable {X : Cx} {pins : List (Addr × Obj)} {σ : L2.St} {H HZ : Hp} {s s1 : Shared}
theorem LamN.has {sc : Scope} (L : LamN X sc) (ok : X.Ok) : ∀ y ∈ sc.names, y.2 = .free → ∃ c, X.env.cells.lookup y.1 = some c := fun y m e => ok.has _ (L.free y m e)
/-- the body's context begins -/
theorem lam_begins {A : Around} {outer : List Env} {E : XK} {t : LamT} {f c' : Addr} {h2 : Heap} {tk : Nat} {m : Str → Option Value} (I : Inv X pins σ H s) (L : LamN X t.sc) (e0 : Env0 X.prog X.w X.K X.mg X.base A outer s1 HZ) (hd : A.handled = none)
    (un : Un (frs X.stack) [] H HZ s.heap s1.heap) (ns : h2.Ns s1.heap.objs.size m) (kp : ∀ b o, s1.heap.get? b = some o → h2.get? b = some o) : Inv (t.cx X A outer s1 HZ E f c') [] σ HZ { s1 with heap := h2, toks := tk } := by
  have inX : ∀ {y c}, (cloFrom X.env.cells t.sc.names []).lookup y = some c → X.env.cells.lookup y = some c := fun {y c} e => by
    rcases cloFrom_mem (PySem.mem_of_lookup e) with w | ⟨w1, w2⟩
    · cases w
    · obtain ⟨c1, e1⟩ := L.has I.ok _ w1 rfl
      have e1 : X.env.cells.lookup y = some c1 := e1
      rw [e1] at w2
      rw [e1, w2]
      rfl
  have found : ∀ {y}, t.sc.names.lookup y = some .free → ∃ c, (cloFrom X.env.cells t.sc.names []).lookup y = some c := fun {y} e => mem_lookup (cloFrom_has (cells := X.env.cells) (acc := []) (PySem.mem_of_lookup e))
  have still : ∀ {c : Addr} {v : Option Value}, H c = none → s.heap.IsCell c v → h2.IsCell c v := fun {c v} n ⟨o, e, d⟩ => by
    obtain ⟨sl, q⟩ := un.any e n (by simp)
    exact ⟨_, kp _ _ q, d⟩
  have nox : ∀ b : Addr, ¬ b ∈ (t.cx X A outer s1 HZ E f c').ex := fun b z => absurd (show b ∈ ([] : List Addr) from z) (by simp)
  exact {
    ok := {
      mod := e0.mod
      kind := L.kind
      glob := rfl
      blt := rfl
      above := Nat.le_refl _
      inj := fun y z c a b => I.ok.inj y z c (inX a) (inX b)
      has := fun y hy => by
        have hy : t.sc.names.lookup y = some .cell ∨ t.sc.names.lookup y = some .free := hy
        rcases hy with w | w
        · exact absurd rfl (L.nocell _ (PySem.mem_of_lookup w))
        · exact found w
      cab := fun y c z _ => Bool.noConfusion (show false = true from z)
      hd := fun _ => hd
      frames := Around.frames_deeper e0.frames
      stk := .inr ⟨rfl, rfl⟩
      exf := fun b z => absurd z (nox b)
      bs := e0.bs
      bsz := e0.bsz
      noex := fun b _ _ => nox b
      exfs := fun b z => absurd z (nox b)
      funs := e0.funs
      frf := e0.frf }
    os := rfl
    bare := e0.bare
    base := Un.kept kp
    loc := ⟨m, ns, fun i y v a b vis => by
      have vis : Vis t.sc y := vis
      rcases vis with w | w | w
      · exact absurd (List.mem_of_getElem? a) (L.own _ (PySem.mem_of_lookup w) rfl)
      · exact absurd rfl (L.nocell _ (PySem.mem_of_lookup w))
      · obtain ⟨m0, _, hl⟩ := I.loc
        obtain ⟨u, r, q⟩ := hl i y v a b ((L.free _ (PySem.mem_of_lookup w) rfl).elim (fun k => .inr (.inl k)) fun k => .inr (.inr k))
        obtain ⟨c2, e2⟩ := found w
        refine ⟨u, r, .inr ⟨.inr w, c2, e2, ?_⟩⟩
        rcases q with ⟨k, _⟩ | ⟨_, c3, e3, z⟩
        · have k : X.env.scope.names.lookup y = some .local := k
          rcases L.free _ (PySem.mem_of_lookup w) rfl with k2 | k2 <;> rw [show X.env.scope.names.lookup y = _ from k2] at k <;> cases k
        · rw [inX e2] at e3
          cases e3
          exact still (I.freeC y _ (inX e2)) z⟩
    cell := fun y c e => (I.cell y c (inX e)).imp fun v z => still (I.freeC y c (inX e)) z
    free := e0.hok.fresh (Nat.le_refl _)
    freeC := fun y c e => by
      obtain ⟨v, o, ho, _⟩ := I.cell y c (inX e)
      exact un.free c o ho (I.freeC y c (inX e)) (by simp)
    pin := fun q z => absurd (show q ∈ ([] : List (Addr × Obj)) ++ [] from z) (by simp)
    hok := e0.hok.kept kp
    len := I.len }
/-- the tuple of defaults holds us -/
def DvIn (h : Heap) (dv : Value) (us : List Value) : Prop := (dv = .none ∧ us = []) ∨ ∃ d, dv = .ref d ∧ IsTup h d us.toArray
def DvAt (H : Hp) (dv : Value) (vs : List V) : Prop := (dv = .none ∧ vs = []) ∨ ∃ d, dv = .ref d ∧ H d = some (.tup vs)
/-- what is wished of f(), f a known lambda -/
def tAct (X : Cx) (t : LamT) (σ : L2.St) (i n : Nat) (dv : Value) (f : Addr) (tb : TE) : TE := fun σz Hz Q => σz[i]? = some (some (.ref f)) ∧ LamIn t X Hz f dv ∧ (∃ vs, DvAt Hz dv vs ∧ vs.length = n) ∧ tb σ Hz Q
/-- x(), at any depth -/
theorem pe_act {CXg : CXT} {Eg E : XK} {Ng as : List Str} {qg a : Str} {sg : Scope} {g f : Addr} {cdg dv : Value} {t : LamT} {k i : Nat} {pn : List (Addr × Obj)} {xe : Value → Shared → Prop} {W : WX} {tb : TE} {p1 p2 : Pos} {A : Around} {outer : List Env} {s0 : Shared} {H0 : Hp}
    (I : Inv X pins σ H s) (L : LamN X t.sc) (w : Sleeps X H s outer H0 s0)
    (hbind : ∀ (pm ct : Value) (c' : Addr) (s2 : Shared) (us : List Value), DvIn s2.heap dv us → us.length = as.length → BindsTo s2 { t.fd X pm ct c' with defaults := dv } ⟨[], []⟩ (as.zip us))
    (has : ∀ y ∈ as, t.sc.names.lookup y = some .local)
    (tk : L2N.Takes ((cxOf CXg X.prog X.w X.K X.mg X.base Ng qg sg g cdg A outer s0 H0 Eg).tr pn xe) W) (hW : ∀ cls d σ' H', σ'.length = Ng.length → E cls d H' → W cls d σ' H')
    (hr : Room (k + 1) (A.deeper (envOfC qg sg s0.heap.objs.size g cdg)))
    (hb : ∀ (A2 : Around) (l2 : List Env) (s2 : Shared) (H2 : Hp) (c' : Addr), Room k (A2.deeper (lamEnv X t.sc s2.heap.objs.size f c')) → PE (t.cx X A2 l2 s2 H2 E f c') t.body tb)
    (hN : Ng[i]? = some a) (hv : Vis sg a) (ha : (a == ("__debug__" : Str)) = false := by decide) (ha2 : (a == ("__classdict__" : Str)) = false := by decide) :
    PE ((cxOf CXg X.prog X.w X.K X.mg X.base Ng qg sg g cdg A outer s0 H0 Eg).tr pn xe) (.Call (.Name a p1) [] [] p2) (tAct X t σ i as.length dv f tb) := by
  refine ⟨fun pz sz σz Hz Q Iz ⟨e1, ⟨c', eO, eC⟩, ⟨vs, hdv, hlen⟩, e3⟩ => ?_⟩
  have look := (pe_var (X := (cxOf CXg X.prog X.w X.K X.mg X.base Ng qg sg g cdg A outer s0 H0 Eg).tr pn xe) (pos := p1) (i := i) hN hv ha ha2).run pz sz σz Hz (fun v G => v = .ref f ∧ G = Hz) Iz ⟨.ref f, e1, rfl, rfl⟩
  refine wpAny_Call_Name_kw (thn look fun u s1 ⟨v, G, I1, r1, ev, eG⟩ => ?_)
  subst ev eG
  have eu : u = .ref f := r1
  subst eu
  have w1 : Sleeps X H s outer G s1 := w.on (Z := (cxOf CXg X.prog X.w X.K X.mg X.base Ng qg sg g cdg A outer s0 H0 Eg).tr pn xe) rfl I1
  obtain ⟨⟨pm, ct, there⟩, _, _⟩ := I1.hok f _ eO
  obtain ⟨⟨oc, fs, tq, hoc, hdc, hvc⟩, _, _⟩ := I1.hok c' _ eC
  have hdef : ∃ us, DvIn s1.heap dv us ∧ us.length = as.length := by
    rcases hdv with ⟨rfl, rfl⟩ | ⟨d, rfl, ed⟩
    · exact ⟨[], .inl ⟨rfl, rfl⟩, hlen⟩
    · obtain ⟨_, its, rv, it⟩ := I1.hok d _ ed
      exact ⟨its, .inr ⟨d, rfl, it⟩, rv.length.symm.trans hlen⟩
  obtain ⟨us, hin, hul⟩ := hdef
  refine PySem.W.callWith_F0 ⟨_, _, _, _, there⟩ (wpAny_call ?_)
  have runs : codeAny (model X.prog X.w) (A.deeper (envOfC qg sg s0.heap.objs.size g cdg)) (.call (.ref f) ⟨[], []⟩) (CR (L2N.CX X.prog X.w) (envOfC qg sg s0.heap.objs.size g cdg :: outer) X.prog X.w G s1 Q E) s1 := by
    refine PySem.W.kla_callFunE hr.depth there rfl L.co L.gen rfl ⟨c', oc, fs, tq, rfl, hoc, hdc, hvc⟩ (hbind pm ct c' s1 us hin hul _ _ _ _ ?_)
    refine wpAny_newFunctionEnv L.nocell (fun y m => has _ (List.of_mem_zip m).1) (fun h2 ns2 but => ⟨I1.nolimit.fresh _ but, ?_⟩) L.kind
    have more : ∀ b o, s1.heap.get? b = some o → h2.get? b = some o := fun b o e => but.extBut b o (Nat.ne_of_lt (Heap.lt_size e)) (Heap.get?_push_of_some _ e)
    have J := lam_begins (E := E) (t := t) (tk := s1.toks + (as.zip us).length) (f := f) (c' := c') I L I1.env0 hr.hd w1.un ns2 more
    exact PySem.W.kla_codeExpr (wpAny_mono ((hb _ _ s1 G c' (hr.deeper _)).run [] _ _ G Q J e3) (fun v s3 ⟨x, G3, J3, rx, qx⟩ => ⟨x, G3, J3.os, J3.bare, J3.base, J3.hok, rx, qx⟩) fun _ _ z => z)
  refine codeAny_mono runs fun r s3 hq => ?_
  match r, hq with
  | .error e, hq => exact tk e s3 (L2N.XE.of_call I1 (fun cls d H' h => hW cls d σz H' I1.len h) hq)
  | .ok (.ret u), hq => exact I1.after hq
end
end My
set_option Elab.async false
set_option linter.all false
set_option maxRecDepth 100000
set_option maxHeartbeats 1000000
/-! A method of an own class called by keyword; defs that let errors out, in the flavour that hot calls want. -/
namespace My
open PySem PySem.Spec PyProof.Rows L2
/-- o.m(k=e, ..) of an instance of the class at C -/
def tMethN (C : Addr) (m : Str) (n : Nat) (sp : Sp) (gV : List V → List V → List V) (E : XK) (ta : TE) (tk : TA) : TE := fun σ H Q => ta σ H fun x H1 => ∃ a dx fs, x = .ref a ∧ H1 a = some (.ins C dx fs) ∧ fs.lookup m = none ∧ tk σ H1 fun zs H2 => zs.length = n ∧ sp (gV [x] zs) H2 Q E
section
variable {X : Cx} {CX : CXT} {k : Nat} {f C : Addr} {fd : FuncData} {ps ks : List Str} {sp : Sp} {E : XK} {m : Str} {pos apos : Pos} {o : Expr} {kws : List Keyword} {ta : TE} {tk : TA} {g : List Value → List Value → List Value} {gV : List V → List V → List V}
theorem pe_methK {pl : Sem Bool} (he : PE X o ta) (c : Cls X.K C) (hm : Meth X.K C m f) (F : FnOk X.prog X.w X.K X.mg X.base CX k f fd ps sp) (hr : Room k X.A) (hb : KBn X.K fd ps 1 ks g gV) (hx : Passes CX X E) (hkw : PK X kws tk)
    (plain : ((backTo pos (starEach [] X.env)).any (·.1) || (backToKw pos (keywordEach kws X.env)).any (·.1.isNone)) = false := by rfl) (named : (backToKw pos (keywordEach kws X.env)).all (·.1.isSome) = true := by rfl)
    (names : (backToKw pos (keywordEach kws X.env)).filterMap (·.1) = ks := by rfl)
    (ht : eval (.Call (.Attribute o m apos) [] kws pos) X.env = (do
      let ov ← eval o X.env
      standAt apos.atName
      let (fn, self) ← holding [ov] (getMethod ov m pl)
      callWith pos fn self (backTo pos (starEach [] X.env)) (backToKw pos (keywordEach kws X.env))) := by rfl) :
    PE X (.Call (.Attribute o m apos) [] kws pos) (tMethN C m ks.length sp gV E ta tk) := ⟨fun pins s σ H Q I h => by
  have obj := he.run pins s σ H _ I h
  refine PySem.W.methodCall_KW (pl := pl) (thn obj fun u s1 ⟨x, H1, I1, rx, a, dx, fs, ex, there, none_, want1⟩ => ?_) ht
  subst ex
  have eu : u = Value.ref a := rx
  subst eu
  have go := hkw.run pos pins s1 σ H1 _ I1 want1
  refine getmeth_ok I1 there c hm none_ (PySem.W.callWith_KW0 (first := [.ref a]) (h₀ := X.base) I1.ok.mod.kin hm.kp named (thn go fun vals s2 ⟨zs, H2, I2, rz, n1, want⟩ => ⟨I2.kIn, ?_⟩) plain)
  rw [names]
  exact run_fnN (us := [.ref a]) (vs := [.ref a]) F hr hb hx I2 (.cons rfl .nil) rz rfl n1 want⟩
end
section
variable {P : Program} {w : World} {K : PySem.W.Frag} {mg : Str → Option Value} {base : Heap}
/-- a def that may let errors out -/
theorem fun_okN {x qual : Str} {st : Stmt} {f : Addr} {fd : FuncData} {N ps : List Str} {k : Nat} {sp : Sp} (F : Fun K x qual st f fd) (S : FnScope N ps (defScope st)) (len : ∀ vs H Q E, sp vs H Q E → vs.length = ps.length)
    (runs : ∀ (cdv : Value) (A : Around) (outer : List Env) (s : Shared) (H : Hp) (vs : List V) (Q : VK) (E : XK), Room k (A.deeper (envOfC qual (defScope st) s.heap.objs.size f cdv)) → sp vs H Q E →
      L2N.Takes (cxOf (L2N.CX P w) P w K mg base N qual (defScope st) f cdv A outer s H E) (fun cls d _ H' => E cls d H') →
      ∃ t, PSs (cxOf (L2N.CX P w) P w K mg base N qual (defScope st) f cdv A outer s H E) (defBody st) t ∧ t { nx := fun _ H' => Q .non H', rt := Q } (start N vs) H) : FnOk P w K mg base (L2N.CX P w) (k + 1) f fd ps sp := by
  obtain ⟨_, _, _, _, _, _, code, _, _, rfl, at_, coded⟩ := F.ex
  exact fn_of at_ coded S len fun A outer s H vs Q E hr h => runs code A outer s H vs Q E hr h (L2N.takes_of rfl rfl rfl rfl)
theorem passN0 {X : Cx} : Passes (L2N.CX X.prog X.w) X E0 := fun _ _ _ _ _ _ _ ⟨_, _, _, _, _, _, _, _, _, _, _, _, h⟩ => h.elim
end
end My
set_option Elab.async false
set_option linter.all false
set_option maxRecDepth 100000
set_option maxHeartbeats 1000000
/-! A walk over zip(xs, ys), xs a list and ys a tuple. -/
namespace My
open PySem PySem.Spec PyProof.Rows L2
/-- the list at a and the tuple at b as they stand, their items in new pairs -/
def ItzLT (K : PySem.W.Frag) (a b : Addr) : It where
  go i H := ∃ (xs ys : List V) (x y : V), SqL K H a xs ∧ SqT K H b ys ∧ xs[i]? = some x ∧ ys[i]? = some y
  yld i H v H' := ∃ T x y, v = .ref T ∧ H T = none ∧ H' = upd H T (.tup [x, y]) ∧ (∀ xs, SqL K H a xs → xs[i]? = some x) ∧ ∀ ys, SqT K H b ys → ys[i]? = some y
  stop i H := ∃ xs ys : List V, SqL K H a xs ∧ SqT K H b ys ∧ i ≤ xs.length ∧ i ≤ ys.length ∧ (i = xs.length ∨ i = ys.length)
/-- how the zip stands -/
structure ZStands (z TI TO i1 i2 a b : Addr) (i : Nat) (h : Heap) : Prop where
  zip : IsZip h z TI TO .none
  ti : IsTupOf2 h TI (.ref i1) (.ref i2)
  to : ∃ x y, IsTupOf2 h TO x y
  first : h.IsListIter i1 a i
  second : h.IsTupleIter i2 b i
theorem turn_zipLT {P : Program} {w : World} {K : PySem.W.Frag} {elts : List Expr} {kk : Nat} {tpos : Pos} {a b z TI TO i1 i2 : Addr} (D : ZipSep2 z TI TO i1 i2 [i1, a] [i2, b]) (n1 : a ≠ i1) (n2 : b ≠ i2) (n12 : i1 ≠ TO) (n22 : i2 ≠ TO) (m1 : i1 ≠ z) (m2 : i2 ≠ z) :
    Turn P w K (.Tuple elts kk tpos) (ItzLT K a b) [z, TI, TO, i1, i2] z (ZStands z TI TO i1 i2 a b) where
  mem := .head _
  obj i h st c hc := by
    obtain ⟨o1, e1, _, d1⟩ := st.first
    obtain ⟨o2, e2, _, d2⟩ := st.second
    obtain ⟨x, y, e3⟩ := st.to
    simp only [List.mem_cons, List.not_mem_nil, or_false] at hc
    rcases hc with rfl | rfl | rfl | rfl | rfl
    · exact ⟨_, st.zip, fun v q => nomatch q⟩
    · exact ⟨_, st.ti, fun v q => nomatch q⟩
    · exact ⟨_, e3, fun v q => nomatch q⟩
    · exact ⟨o1, e1, fun v q => by rw [d1] at q; cases q⟩
    · exact ⟨o2, e2, fun v q => by rw [d2] at q; cases q⟩
  keep i h h' st k := ⟨k z (by simp) _ st.zip, k TI (by simp) _ st.ti, st.to.imp fun x e => e.imp fun y e => k TO (by simp) _ e, st.first.at fun o q => k i1 (by simp) o q, st.second.at fun o q => k i2 (by simp) o q⟩
  item := by
    intro X hP hw hK hc i pins s σ H E I hf st ⟨xs, ys, x, y, qx, qy, hx, hy⟩
    subst hP hw hK
    obtain ⟨is1, rv1, p1, _⟩ := I.list qx
    obtain ⟨is2, rv2, p2, _⟩ := I.tuple qy
    obtain ⟨x0, y0, hTO⟩ := st.to
    obtain ⟨t1, g1, r1⟩ := rv1.get hx
    obtain ⟨t2, g2, r2⟩ := rv2.get hy
    have hzl : z < s.heap.objs.size := Heap.lt_size st.zip
    have calm : X.A.in1.handled = none := I.ok.hd hc
    have l1 : i < is1.toArray.size := by rw [List.size_toArray]; exact (List.getElem?_eq_some_iff.mp g1).1
    have l2 : i < is2.toArray.size := by rw [List.size_toArray]; exact (List.getElem?_eq_some_iff.mp g2).1
    refine wpAny_pyNext_zipD2_item D (Draws.list calm i1 a n1 is1.toArray) (Draws.tuple calm i2 b n2 is2.toArray) st.zip st.ti hTO ⟨st.first, p1.isList⟩ ⟨st.second, p2⟩ l1 l2 fun u1 u2 h1 tk a1 a2 z1 to1 b1 b2 new1 sz1 same1 => ?_
    have e1 : u1 = t1 := by
      rw [List.getElem?_toArray] at a1
      exact Option.some.inj (a1.symm.trans g1)
    have e2 : u2 = t2 := by
      rw [List.getElem?_toArray] at a2
      exact Option.some.inj (a2.symm.trans g2)
    subst e1 e2
    refine ⟨_, rfl, wpAny_letOwnedTupleGo_zip (s := { s with heap := h1, toks := tk }) z1 fun h2 z2 sb => ?_⟩
    have at2 : h2.get? s.heap.objs.size = some { cls := .type "tuple", data := .seq #[u1, u2] } := (sb.2 _ (Nat.ne_of_gt hzl)).trans new1
    have pairOk : ObjOk X.prog X.w (upd H s.heap.objs.size (.tup [x, y])) h2 s.heap.objs.size (.tup [x, y]) := ⟨sz (by show 2 ≤ 100000; decide), [u1, u2], .cons r1 (.cons r2 .nil), ⟨_, at2, rfl, _, rfl⟩⟩
    have I2 : Inv X pins σ (upd H s.heap.objs.size (.tup [x, y])) { s with heap := h2, toks := tk } := I.turnedNew (t' := tk) (ch := [z, TI, TO, i1, i2]) (fun c o no q => by
      simp only [List.mem_cons, List.not_mem_nil, or_false, not_or] at no
      exact (sb.2 c no.1).trans (same1 c o no.1 no.2.2.1 no.2.2.2.1 no.2.2.2.2 q)) hf (Nat.le_refl _) pairOk
    have fresh := I.hok.fresh (Nat.le_refl s.heap.objs.size)
    refine ⟨.ref s.heap.objs.size, _, I2, rfl, ⟨_, x, y, rfl, fresh, rfl, fun l hl => by rw [I.list_inj hl qx]; exact hx, fun l hl => by rw [I.tuple_inj hl qy]; exact hy⟩, ⟨z2, ?_, ⟨u1, u2, ?_⟩, ?_, ?_⟩, fun c hcm => ?_⟩
    · exact (sb.2 _ D.TIz).trans (same1 _ _ D.TIz D.TITO D.TIi1 D.TIi2 st.ti)
    · exact (sb.2 _ D.TOz).trans to1
    · exact b1.1.at fun o q => (sb.2 _ m1).trans q
    · exact b2.1.at fun o q => (sb.2 _ m2).trans q
    · have old : ∃ o, s.heap.get? c = some o := by
        obtain ⟨o1, e1, _⟩ := st.first
        obtain ⟨o2, e2, _⟩ := st.second
        simp only [List.mem_cons, List.not_mem_nil, or_false] at hcm
        rcases hcm with rfl | rfl | rfl | rfl | rfl
        · exact ⟨_, st.zip⟩
        · exact ⟨_, st.ti⟩
        · exact ⟨_, hTO⟩
        · exact ⟨_, e1⟩
        · exact ⟨_, e2⟩
      obtain ⟨o, e⟩ := old
      rw [upd_ne (Nat.ne_of_lt (Heap.lt_size e))]
      exact (hf c hcm).1
  done := by
    intro X hP hw hK hc i pins s σ H E I hf st ⟨xs, ys, qx, qy, hi1, hi2, hend⟩
    subst hP hw hK
    obtain ⟨is1, rv1, p1, _⟩ := I.list qx
    obtain ⟨is2, rv2, p2, _⟩ := I.tuple qy
    obtain ⟨x0, y0, hTO⟩ := st.to
    have z1 : is1.toArray.size = xs.length := by rw [List.size_toArray]; exact rv1.length.symm
    have z2 : is2.toArray.size = ys.length := by rw [List.size_toArray]; exact rv2.length.symm
    have calm : X.A.in1.handled = none := I.ok.hd hc
    refine wpAny_pyNext_zipD2_end D (Draws.list calm i1 a n1 is1.toArray) (Draws.tuple calm i2 b n2 is2.toArray) st.zip st.ti hTO ⟨st.first, p1.isList⟩ ⟨st.second, p2⟩ (by omega) (by omega) (by omega) fun h1 tk same1 => ⟨rfl, ?_⟩
    exact I.turnedL (t' := tk) (ch := [z, TI, TO, i1, i2]) (fun c o no q => by
      simp only [List.mem_cons, List.not_mem_nil, or_false, not_or] at no
      exact same1 c o no.1 no.2.2.1 no.2.2.2.1 no.2.2.2.2 q) hf
  self A i s Q E st h := wpAny_pyIter_zip st.zip h
def iZipLT (K : PySem.W.Frag) (ta : TA) : TI := fun σ H R => ta σ H fun vs H1 => ∃ a b xs ys, vs = [.ref a, .ref b] ∧ SqL K H1 a xs ∧ SqT K H1 b ys ∧ R (ItzLT K a b) H1
theorem apart_nat {n : Nat} (i j : Nat) (h : i < j) : n + i ≠ n + j := by omega
theorem pi_zipLT {X : Cx} {e e2 : Expr} {ta : TA} {p pos tpos : Pos} {elts : List Expr} {kk : Nat} (hg : Gl X "zip") (hm : X.mg "zip" = none) (ha : PA X [e, e2] ta)
    (hs : starEach [e, e2] X.env = (false, eval e X.env) :: starEach [e2] X.env := by rfl) (hpl : (backTo pos (starEach [e2] X.env)).any (·.1) = false := by rfl) : PI X (.Tuple elts kk tpos) (.Call (.Name "zip" p) [e, e2] [] pos) (iZipLT X.K ta) := ⟨fun pins s σ H R I h => by
  refine Call_ (ld_blt I hg hm PyProof.Rows.boot_zip (PyProof.Rows.callWith_type1 (thn (ha.run pos pins s σ H _ I h) fun us t ⟨vs, G, J, r, a, b, xs, ys, ev, qx, qy, q⟩ => ?_) hs hpl))
  subst ev
  obtain ⟨u1, u2, rfl, ra, rb⟩ := vals2 r
  obtain rfl : u1 = Value.ref a := ra
  obtain rfl : u2 = Value.ref b := rb
  obtain ⟨is1, rv1, p1, _⟩ := J.list qx
  obtain ⟨is2, rv2, p2, _⟩ := J.tuple qy
  have p2 : t.heap.IsTuple b is2.toArray := p2
  refine call_zipLT p1.isList p2 fun h2 Z kept => wpAny_pyIter_zip Z.z ?_
  have la : a < t.heap.objs.size := let ⟨o, e, _⟩ := p1.isList; Heap.lt_size e
  have lb : b < t.heap.objs.size := let ⟨o, e, _⟩ := p2; Heap.lt_size e
  refine ⟨_, [t.heap.objs.size + 4, t.heap.objs.size + 2, t.heap.objs.size + 3, t.heap.objs.size, t.heap.objs.size + 1], _, _, G, rfl, J.kept (t' := t.toks) kept, turn_zipLT (sep_nat la lb) (Nat.ne_of_lt la) (Nat.ne_of_lt (Nat.lt_succ_of_lt lb)) (apart_nat 0 3 (by decide)) (apart_nat 1 3 (by decide)) (apart_nat 0 4 (by decide)) (apart_nat 1 4 (by decide)), ⟨Z.z, Z.ti, ⟨_, _, Z.to⟩, Z.i1, Z.i2⟩, fun c hc => ?_, q⟩
  have hge : t.heap.objs.size ≤ c := by
    simp only [List.mem_cons, List.not_mem_nil, or_false] at hc
    rcases hc with e | e | e | e | e <;> rw [e]
    · exact Nat.le_add_right _ _
    · exact Nat.le_add_right _ _
    · exact Nat.le_add_right _ _
    · exact Nat.le_refl _
    · exact Nat.le_add_right _ _
  exact (J.fpOk hge (J.hok.fresh hge))⟩
theorem walk_zipLT {K : PySem.W.Frag} {a b : Addr} {xs ys : List V} {n : Nat} (hn : n = min xs.length ys.length) : Walk (ItzLT K a b) n (fun H => SqL K H a xs ∧ SqT K H b ys) (YPair (fun i => xs[i]?) (fun i => ys[i]?)) where
  goes i H hi g := ⟨xs, ys, xs[i]'(by omega), ys[i]'(by omega), g.1, g.2, List.getElem?_eq_getElem _, List.getElem?_eq_getElem _⟩
  stops H g := ⟨xs, ys, g.1, g.2, by omega, by omega, by omega⟩
  yields i H x H' hi g := fun ⟨T, u, v, e1, e2, e3, e4, e5⟩ => ⟨T, u, v, e1, e2, e3, e4 xs g.1, e5 ys g.2⟩
section
variable {K : PySem.W.Frag} {S : Sh} {σ : L2.St} {H : Hp} {ta tb : TE} {ds es : List PyData}
theorem si_zipLT (h : SV K S ta σ H (.list ds)) (h2 : SV K S tb σ H (.tuple es)) : SI K S (iZipLT K (tCons ta (tCons tb tNil))) σ H (zipD ds es) := fun S1 H1 n R q => h S1 H1 n _ fun x H2 s2 hx => h2 S1 H2 (n.then s2) _ fun y H3 s3 hy => by
  obtain ⟨a, xs, rfl, la, hxs⟩ := Ds.l (hx.same s3)
  obtain ⟨b, ys, rfl, lb, hys⟩ := Ds.t hy
  refine ⟨a, b, xs, ys, rfl, la.sq, lb.sq, q _ H3 (s2.trans s3) ?_⟩
  have wz := walk_zipLT (K := K) (a := a) (b := b) (xs := xs) (ys := ys) (n := (zipD ds es).length) (by rw [zipD_len, hxs.length, hys.length])
  refine wz.mono (fun H4 ⟨S2, z⟩ => ⟨(at_step z la.1 la.2 |> fun w => .inl (.inl w.2)), (at_step z lb.1 lb.2 |> fun w => .inl (.inl w.2))⟩) fun i H4 w H5 hi ⟨S9, z9⟩ y => ?_
  obtain ⟨T, u, u2, rfl, nT, rfl, e1, e2⟩ := y
  obtain ⟨d1, f1, g1⟩ := hxs.get e1
  obtain ⟨d2, f2, g2⟩ := hys.get e2
  exact ⟨same_upd nT, _, zipD_at f1 f2, fun S2 z => .tup ⟨z.live.ne nT, upd_same⟩ (((DsAll.cons (g1.step z) (.cons (g2.step z) .nil))).same (same_upd nT))⟩
end
end My
set_option Elab.async false
set_option linter.all false
set_option maxRecDepth 100000
set_option maxHeartbeats 2000000
/-! xs * n of a tuple, n = 1 too: then it is the tuple itself. -/
namespace My
open PySem PySem.Spec PyProof.Rows L2
theorem tuple_once (l : Addr) (items : Array Value) (n : Nat) (dd : Option Addr) (sl : Array (Option Value)) (u : Tok) :
    Meets (Builtin.«tuple.__mul__» ⟨[.ref l, .int 1 u], []⟩) (fun _ R s => s.heap.get? l = some { cls := .type "tuple", dict := dd, data := .seq items n, slots := sl } ∧ R (.ok (.ret (Value.ref l))) s) :=
  .of_wp fun _ _ _ R s want => by
    obtain ⟨mem, gens, drawn, toks, osS⟩ := s
    obtain ⟨hl, h⟩ := want
    have f1 := AutoSeq1.idx_int
    have c1 : (items.isEmpty || (1 : Int) == 1) = true := by simp
    wp_walk using wpAny_loadPart' hl
    repeat (first
      | (refine wpAny_ite_false (by decide) ?_; wp_walk using wpAny_loadPart' hl)
      | (refine wpAny_ite_true c1 ?_; wp_walk using wpAny_loadPart' hl)
      | (refine wpAny_ite_true (by simp) ?_; wp_walk using wpAny_loadPart' hl))
    exact ⟨_, rfl, h⟩
def rRepT1 (K : PySem.W.Frag) : R2 := fun x y H Q => ∃ l k xs, x = .ref l ∧ y = .int k ∧ SqT K H l xs ∧ xs ≠ [] ∧ 1 ≤ k ∧ k ≤ 1000 ∧ xs.length ≤ 1000 ∧ (k = 1 → Q (.ref l) H) ∧ (2 ≤ k → ∀ p, H p = none → Q (.ref p) (upd H p (.tup (List.replicate k.toNat xs).flatten)))
theorem op_repT1 {X : Cx} : OpR X (binaryOp .Mult) (rRepT1 X.K) := by
  intro pins s σ H x y v u Q I rx ry ⟨l, k, xs, ex, ey, hT, hne, h1, h2, hz, q1, q2⟩
  by_cases hk : k = 1
  · subst ex ey hk
    have ev : v = Value.ref l := rx
    subst ev
    obtain ⟨t, eu⟩ := ry
    subst eu
    obtain ⟨items, _, ⟨⟨k1, dd, k2, sl⟩, ho, e1, n, e2⟩, _⟩ := I.tuple hT
    simp only at e1 e2
    subst e1 e2
    exact wpAny_binaryOp_repeat_ref (T := "tuple") (U := "int") (by decide) ⟨_, ho, rfl⟩ (fun s' => typeIs_int s' 1 t) noFill_tuple_mul F.fills_int_mul F.slot_int_rmul repeat_tuple F.slot_int_index.lookup
      (call_meets F.slot_int_rmul (typeIs_int s 1 t) F.entry_int_rmul (F.args_int_rmul_2 _ _) (int_rmul_tuple 1 t l items.toArray n dd sl)
        ⟨ho, rfl, ⟨_, ho, rfl⟩, call_meets F.slot_tuple_mul ⟨_, ho, rfl⟩ F.entry_tuple_mul (F.args_tuple_mul_2 _ _) (tuple_once l items.toArray n dd sl t) ⟨ho, ⟨.ref l, H, I, rfl, q1 rfl⟩⟩⟩)
  · exact op_repT pins s σ H x y v u Q I rx ry ⟨l, k, xs, ex, ey, hT, hne, by omega, h2, hz, q2 (by omega)⟩
section
variable {K : PySem.W.Frag} {S : Sh} {σ : L2.St} {H : Hp} {ta tb : TE} {ds : List PyData}
theorem DsAll.often {xs : List V} (h : DsAll K S H xs ds) : ∀ k : Nat, DsAll K S H (List.replicate k xs).flatten (List.replicate k ds).flatten
  | 0 => .nil
  | k + 1 => by
    rw [List.replicate_succ, List.replicate_succ, List.flatten_cons, List.flatten_cons]
    exact h.app (h.often k)
theorem sv_repT {k : Nat} (ha : SV K S ta σ H (.tuple ds)) (hb : SV K S tb σ H (.int (k : Nat))) (hne : ds ≠ []) (h1 : 1 ≤ k) (h2 : k ≤ 1000) (hl : ds.length ≤ 1000) : SV K S (tOp (rRepT1 K) ta tb) σ H (.tuple (List.replicate k ds).flatten) := sv_op ha hb fun S1 H1 x y Q l hx hy q => by
  obtain ⟨a, xs, rfl, la, hs⟩ := Ds.t hx
  refine ⟨a, (k : Nat), xs, rfl, hy.i, la.sq, fun z => hne ?_, by omega, by omega, by rw [hs.length]; exact hl, fun z => ?_, fun _ p np => q _ _ (same_upd np) (.tup ⟨l.ne np, upd_same⟩ (by rw [Int.toNat_natCast]; exact (hs.often k).same (same_upd np)))⟩
  · rw [z] at hs
    cases hs
    rfl
  · have e : k = 1 := by omega
    subst e
    exact q _ _ (Same.refl _) (.tup la (hs.often 1 |> fun w => by simpa using hs))
end
end My
set_option Elab.async false
set_option linter.all false
set_option maxRecDepth 100000
namespace My
open PySem PySem.Spec PyProof.Rows L2
def topS (i : Nat) : Stmt := PySem.Challenge.pw_tiedmoments_k12_logs_cut_at_moments.main.body.getD i (.Pass ⟨0, 0, 0, 0⟩)
abbrev s_i_InvalidMoment : Stmt := inClass (topS 10) 0
abbrev N_i_InvalidMoment : List Str := ["self", "value"]
abbrev P_i_InvalidMoment : List Str := ["self", "value"]
abbrev s_i_Log : Stmt := inClass (topS 37) 2
abbrev N_i_Log : List Str := ["self", "rows", "order", "name", "steps"]
abbrev P_i_Log : List Str := ["self", "rows"]
abbrev s_Log_rows : Stmt := inClass (topS 37) 6
abbrev N_Log_rows : List Str := ["self", "name", "steps"]
abbrev P_Log_rows : List Str := ["self"]
abbrev s_Log_processes : Stmt := inClass (topS 37) 3
abbrev P_Log_processes : List Str := ["self"]
abbrev s_Log_lengths : Stmt := inClass (topS 37) 7
abbrev N_Log_lengths : List Str := ["self", "name", "steps"]
abbrev P_Log_lengths : List Str := ["self"]
abbrev s_Log_upto : Stmt := inClass (topS 37) 11
abbrev N_Log_upto : List Str := ["self", "moment", "rows", "place", "name", "steps"]
abbrev P_Log_upto : List Str := ["self", "moment"]
abbrev s_Log_text : Stmt := inClass (topS 37) 15
abbrev P_Log_text : List Str := ["self"]
abbrev s_Log_read : Stmt := inClass (topS 37) 16
abbrev P_Log_read : List Str := ["cls", "text"]
abbrev s_Log_eq : Stmt := inClass (topS 37) 19
abbrev P_Log_eq : List Str := ["self", "other"]
abbrev s_Log_str : Stmt := inClass (topS 37) 23
abbrev P_Log_str : List Str := ["self"]
abbrev s_is_name : Stmt := topS 26
abbrev N_is_name : List Str := ["value"]
abbrev P_is_name : List Str := ["value"]
abbrev s_is_word : Stmt := topS 27
abbrev N_is_word : List Str := ["value"]
abbrev P_is_word : List Str := ["value"]
abbrev s_is_number : Stmt := topS 28
abbrev N_is_number : List Str := ["value", "least", "most"]
abbrev P_is_number : List Str := ["value", "least", "most"]
abbrev s_is_step : Stmt := topS 29
abbrev N_is_step : List Str := ["value", "mark", "number", "deed"]
abbrev P_is_step : List Str := ["value"]
abbrev s_step_text : Stmt := topS 30
abbrev P_step_text : List Str := ["step"]
abbrev s_read_step : Stmt := topS 31
abbrev P_read_step : List Str := ["text"]
abbrev s_read_number : Stmt := topS 32
abbrev P_read_number : List Str := ["text"]
abbrev s_consists_of : Stmt := topS 33
abbrev N_consists_of : List Str := ["text", "signs", "sign"]
abbrev P_consists_of : List Str := ["text", "signs"]
abbrev s_is_deed : Stmt := topS 34
abbrev N_is_deed : List Str := ["value", "kind", "sign"]
abbrev P_is_deed : List Str := ["value"]
abbrev s_split_deed : Stmt := topS 35
abbrev P_split_deed : List Str := ["text"]
abbrev s_check_rows : Stmt := topS 38
abbrev N_check_rows : List Str := ["rows", "names", "at", "row", "name"]
abbrev P_check_rows : List Str := ["rows"]
abbrev s_is_row : Stmt := topS 39
abbrev N_is_row : List Str := ["value"]
abbrev P_is_row : List Str := ["value"]
abbrev s_check_steps : Stmt := topS 40
abbrev N_check_steps : List Str := ["rows", "name", "steps", "index", "step"]
abbrev P_check_steps : List Str := ["rows"]
abbrev s_check_messages : Stmt := topS 41
abbrev N_check_messages : List Str := ["rows", "found", "deed", "message"]
abbrev P_check_messages : List Str := ["rows"]
abbrev s_check_ends : Stmt := topS 42
abbrev N_check_ends : List Str := ["rows", "order", "made", "name", "steps", "process", "index", "step"]
abbrev P_check_ends : List Str := ["rows", "order"]
abbrev s_names : Stmt := topS 43
abbrev N_names : List Str := ["rows", "name", "steps"]
abbrev P_names : List Str := ["rows"]
abbrev s_deeds : Stmt := topS 44
abbrev N_deeds : List Str := ["rows", "name", "steps", "mark", "number", "deed"]
abbrev P_deeds : List Str := ["rows"]
abbrev s_first_unsent : Stmt := topS 45
abbrev N_first_unsent : List Str := ["rows", "deeds", "kind", "message"]
abbrev P_first_unsent : List Str := ["rows"]
abbrev s_order_of : Stmt := topS 46
abbrev N_order_of : List Str := ["rows", "places", "made", "order", "at", "step", "row", "name", "steps"]
abbrev P_order_of : List Str := ["rows"]
abbrev s_first_ready : Stmt := topS 47
abbrev N_first_ready : List Str := ["rows", "places", "made", "at", "name", "steps"]
abbrev P_first_ready : List Str := ["rows", "places", "made"]
abbrev s_can_be_made : Stmt := topS 48
abbrev N_can_be_made : List Str := ["step", "made", "deed"]
abbrev P_can_be_made : List Str := ["step", "made"]
abbrev s_are_places : Stmt := topS 49
abbrev N_are_places : List Str := ["value", "lengths", "place", "length"]
abbrev P_are_places : List Str := ["value", "lengths"]
abbrev s_row_text : Stmt := topS 56
abbrev P_row_text : List Str := ["name", "steps"]
abbrev s_read_row : Stmt := topS 57
abbrev P_read_row : List Str := ["line"]
abbrev s_Lbag : Stmt := topS 59
abbrev N_Lbag : List Str := ["_law_script", "_law_mixed_here", "_law_cell"]
abbrev P_Lbag : List Str := ["_law_script"]
abbrev s_Ldraw : Stmt := topS 60
abbrev N_Ldraw : List Str := ["_law_bag_here", "_law_many", "_law_own", "_law_cell", "_law_digit"]
abbrev P_Ldraw : List Str := ["_law_bag_here", "_law_many"]
abbrev s_Lof : Stmt := topS 61
abbrev N_Lof : List Str := ["_law_bag_here", "_law_some"]
abbrev P_Lof : List Str := ["_law_bag_here", "_law_some"]
abbrev s_Lmixed : Stmt := topS 62
abbrev N_Lmixed : List Str := ["_law_bag_here", "_law_some", "_law_left", "_law_found"]
abbrev P_Lmixed : List Str := ["_law_bag_here", "_law_some"]
abbrev s_Lsame : Stmt := topS 63
abbrev N_Lsame : List Str := ["_law_found", "_law_due", "_law_one", "_law_two"]
abbrev P_Lsame : List Str := ["_law_found", "_law_due"]
abbrev s_Lfield : Stmt := topS 64
abbrev N_Lfield : List Str := ["_law_e"]
abbrev P_Lfield : List Str := ["_law_e"]
abbrev s_Lother_field : Stmt := topS 65
abbrev P_Lother_field : List Str := ["_law_e"]
abbrev s_Lgot : Stmt := topS 66
abbrev N_Lgot : List Str := ["_law_ask", "_law_e"]
abbrev P_Lgot : List Str := ["_law_ask"]
abbrev s_Lwhy : Stmt := topS 67
abbrev N_Lwhy : List Str := ["_law_ask", "_law_found"]
abbrev P_Lwhy : List Str := ["_law_ask"]
abbrev s_Lmarks : Stmt := topS 68
abbrev N_Lmarks : List Str := []
abbrev P_Lmarks : List Str := []
abbrev s_Lstep : Stmt := topS 69
abbrev N_Lstep : List Str := ["_law_bag_here", "_law_deed"]
abbrev P_Lstep : List Str := ["_law_bag_here", "_law_deed"]
abbrev s_Lrows : Stmt := topS 70
abbrev N_Lrows : List Str := ["_law_bag_here", "_law_many", "_law_most", "_law_names", "_law_words", "_law_k", "_law_rows_here", "_law_open_y", "_law_fresh", "_law_spot", "_law_way", "_law_deed", "_law_name"]
abbrev P_Lrows : List Str := ["_law_bag_here", "_law_many", "_law_most"]
abbrev s_Llog : Stmt := topS 71
abbrev N_Llog : List Str := ["_law_rows_here"]
abbrev P_Llog : List Str := ["_law_rows_here"]
abbrev s_Lsmall_rows : Stmt := topS 72
abbrev N_Lsmall_rows : List Str := ["_law_bag_here"]
abbrev P_Lsmall_rows : List Str := ["_law_bag_here"]
abbrev s_Llengths : Stmt := topS 73
abbrev N_Llengths : List Str := ["_law_rows_here", "_law_row"]
abbrev P_Llengths : List Str := ["_law_rows_here"]
abbrev s_Lpoints : Stmt := topS 74
abbrev N_Lpoints : List Str := ["_law_lengths_here", "_law_found", "_law_length", "_law_pair", "_law_point"]
abbrev P_Lpoints : List Str := ["_law_lengths_here"]
abbrev s_Llonger : Stmt := topS 75
abbrev N_Llonger : List Str := ["_law_points_here", "_law_length", "_law_found", "_law_point", "_law_place"]
abbrev P_Llonger : List Str := ["_law_points_here", "_law_length"]
abbrev s_Ldeeds : Stmt := topS 76
abbrev N_Ldeeds : List Str := ["_law_rows_here", "_law_point", "_law_word", "_law_found", "_law_spot", "_law_step_here"]
abbrev P_Ldeeds : List Str := ["_law_rows_here", "_law_point", "_law_word"]
abbrev s_Lcan_be : Stmt := topS 77
abbrev N_Lcan_be : List Str := ["_law_rows_here", "_law_point", "_law_sent", "_law_message"]
abbrev P_Lcan_be : List Str := ["_law_rows_here", "_law_point"]
abbrev s_Lmoments : Stmt := topS 78
abbrev N_Lmoments : List Str := ["_law_rows_here", "_law_point"]
abbrev P_Lmoments : List Str := ["_law_rows_here"]
abbrev s_Lupto : Stmt := topS 79
abbrev N_Lupto : List Str := ["_law_rows_here", "_law_point", "_law_spot"]
abbrev P_Lupto : List Str := ["_law_rows_here", "_law_point"]
abbrev s_law : Stmt := topS 80
abbrev N_law : List Str := ["_law_script", "_law_bag_here", "_law_turn", "_law_rows_here", "_law_point", "_law_last", "_law_odd", "_law_due", "_law_log_here", "_law_known", "_law_place"]
abbrev P_law : List Str := ["_law_script"]
theorem sc_i_InvalidMoment : FnScope N_i_InvalidMoment P_i_InvalidMoment (defScope s_i_InvalidMoment) := ⟨rfl, rfl, rfl, by decide +kernel, rfl, by decide +kernel, by decide +kernel⟩
theorem sc_i_Log : FnScope N_i_Log P_i_Log (defScope s_i_Log) := ⟨rfl, rfl, rfl, by decide +kernel, rfl, by decide +kernel, by decide +kernel⟩
theorem sc_Log_rows : FnScope N_Log_rows P_Log_rows (defScope s_Log_rows) := ⟨rfl, rfl, rfl, by decide +kernel, rfl, by decide +kernel, by decide +kernel⟩
theorem sc_Log_lengths : FnScope N_Log_lengths P_Log_lengths (defScope s_Log_lengths) := ⟨rfl, rfl, rfl, by decide +kernel, rfl, by decide +kernel, by decide +kernel⟩
theorem sc_Log_upto : FnScope N_Log_upto P_Log_upto (defScope s_Log_upto) := ⟨rfl, rfl, rfl, by decide +kernel, rfl, by decide +kernel, by decide +kernel⟩
theorem sc_is_name : FnScope N_is_name P_is_name (defScope s_is_name) := ⟨rfl, rfl, rfl, by decide +kernel, rfl, by decide +kernel, by decide +kernel⟩
theorem sc_is_word : FnScope N_is_word P_is_word (defScope s_is_word) := ⟨rfl, rfl, rfl, by decide +kernel, rfl, by decide +kernel, by decide +kernel⟩
theorem sc_is_number : FnScope N_is_number P_is_number (defScope s_is_number) := ⟨rfl, rfl, rfl, by decide +kernel, rfl, by decide +kernel, by decide +kernel⟩
theorem sc_is_step : FnScope N_is_step P_is_step (defScope s_is_step) := ⟨rfl, rfl, rfl, by decide +kernel, rfl, by decide +kernel, by decide +kernel⟩
theorem sc_consists_of : FnScope N_consists_of P_consists_of (defScope s_consists_of) := ⟨rfl, rfl, rfl, by decide +kernel, rfl, by decide +kernel, by decide +kernel⟩
theorem sc_is_deed : FnScope N_is_deed P_is_deed (defScope s_is_deed) := ⟨rfl, rfl, rfl, by decide +kernel, rfl, by decide +kernel, by decide +kernel⟩
theorem sc_check_rows : FnScope N_check_rows P_check_rows (defScope s_check_rows) := ⟨rfl, rfl, rfl, by decide +kernel, rfl, by decide +kernel, by decide +kernel⟩
theorem sc_is_row : FnScope N_is_row P_is_row (defScope s_is_row) := ⟨rfl, rfl, rfl, by decide +kernel, rfl, by decide +kernel, by decide +kernel⟩
theorem sc_check_steps : FnScope N_check_steps P_check_steps (defScope s_check_steps) := ⟨rfl, rfl, rfl, by decide +kernel, rfl, by decide +kernel, by decide +kernel⟩
theorem sc_check_messages : FnScope N_check_messages P_check_messages (defScope s_check_messages) := ⟨rfl, rfl, rfl, by decide +kernel, rfl, by decide +kernel, by decide +kernel⟩
theorem sc_check_ends : FnScope N_check_ends P_check_ends (defScope s_check_ends) := ⟨rfl, rfl, rfl, by decide +kernel, rfl, by decide +kernel, by decide +kernel⟩
theorem sc_names : FnScope N_names P_names (defScope s_names) := ⟨rfl, rfl, rfl, by decide +kernel, rfl, by decide +kernel, by decide +kernel⟩
theorem sc_deeds : FnScope N_deeds P_deeds (defScope s_deeds) := ⟨rfl, rfl, rfl, by decide +kernel, rfl, by decide +kernel, by decide +kernel⟩
theorem sc_first_unsent : FnScope N_first_unsent P_first_unsent (defScope s_first_unsent) := ⟨rfl, rfl, rfl, by decide +kernel, rfl, by decide +kernel, by decide +kernel⟩
theorem sc_order_of : FnScope N_order_of P_order_of (defScope s_order_of) := ⟨rfl, rfl, rfl, by decide +kernel, rfl, by decide +kernel, by decide +kernel⟩
theorem sc_first_ready : FnScope N_first_ready P_first_ready (defScope s_first_ready) := ⟨rfl, rfl, rfl, by decide +kernel, rfl, by decide +kernel, by decide +kernel⟩
theorem sc_can_be_made : FnScope N_can_be_made P_can_be_made (defScope s_can_be_made) := ⟨rfl, rfl, rfl, by decide +kernel, rfl, by decide +kernel, by decide +kernel⟩
theorem sc_are_places : FnScope N_are_places P_are_places (defScope s_are_places) := ⟨rfl, rfl, rfl, by decide +kernel, rfl, by decide +kernel, by decide +kernel⟩
theorem sc_Lbag : FnScope N_Lbag P_Lbag (defScope s_Lbag) := ⟨rfl, rfl, rfl, by decide +kernel, rfl, by decide +kernel, by decide +kernel⟩
theorem sc_Ldraw : FnScope N_Ldraw P_Ldraw (defScope s_Ldraw) := ⟨rfl, rfl, rfl, by decide +kernel, rfl, by decide +kernel, by decide +kernel⟩
theorem sc_Lof : FnScope N_Lof P_Lof (defScope s_Lof) := ⟨rfl, rfl, rfl, by decide +kernel, rfl, by decide +kernel, by decide +kernel⟩
theorem sc_Lmixed : FnScope N_Lmixed P_Lmixed (defScope s_Lmixed) := ⟨rfl, rfl, rfl, by decide +kernel, rfl, by decide +kernel, by decide +kernel⟩
theorem sc_Lsame : FnScope N_Lsame P_Lsame (defScope s_Lsame) := ⟨rfl, rfl, rfl, by decide +kernel, rfl, by decide +kernel, by decide +kernel⟩
theorem sc_Lfield : FnScope N_Lfield P_Lfield (defScope s_Lfield) := ⟨rfl, rfl, rfl, by decide +kernel, rfl, by decide +kernel, by decide +kernel⟩
theorem sc_Lgot : FnScope N_Lgot P_Lgot (defScope s_Lgot) := ⟨rfl, rfl, rfl, by decide +kernel, rfl, by decide +kernel, by decide +kernel⟩
theorem sc_Lwhy : FnScope N_Lwhy P_Lwhy (defScope s_Lwhy) := ⟨rfl, rfl, rfl, by decide +kernel, rfl, by decide +kernel, by decide +kernel⟩
theorem sc_Lmarks : FnScope N_Lmarks P_Lmarks (defScope s_Lmarks) := ⟨rfl, rfl, rfl, by decide +kernel, rfl, by decide +kernel, by decide +kernel⟩
theorem sc_Lstep : FnScope N_Lstep P_Lstep (defScope s_Lstep) := ⟨rfl, rfl, rfl, by decide +kernel, rfl, by decide +kernel, by decide +kernel⟩
theorem sc_Lrows : FnScope N_Lrows P_Lrows (defScope s_Lrows) := ⟨rfl, rfl, rfl, by decide +kernel, rfl, by decide +kernel, by decide +kernel⟩
theorem sc_Llog : FnScope N_Llog P_Llog (defScope s_Llog) := ⟨rfl, rfl, rfl, by decide +kernel, rfl, by decide +kernel, by decide +kernel⟩
theorem sc_Lsmall_rows : FnScope N_Lsmall_rows P_Lsmall_rows (defScope s_Lsmall_rows) := ⟨rfl, rfl, rfl, by decide +kernel, rfl, by decide +kernel, by decide +kernel⟩
theorem sc_Llengths : FnScope N_Llengths P_Llengths (defScope s_Llengths) := ⟨rfl, rfl, rfl, by decide +kernel, rfl, by decide +kernel, by decide +kernel⟩
theorem sc_Lpoints : FnScope N_Lpoints P_Lpoints (defScope s_Lpoints) := ⟨rfl, rfl, rfl, by decide +kernel, rfl, by decide +kernel, by decide +kernel⟩
theorem sc_Llonger : FnScope N_Llonger P_Llonger (defScope s_Llonger) := ⟨rfl, rfl, rfl, by decide +kernel, rfl, by decide +kernel, by decide +kernel⟩
theorem sc_Ldeeds : FnScope N_Ldeeds P_Ldeeds (defScope s_Ldeeds) := ⟨rfl, rfl, rfl, by decide +kernel, rfl, by decide +kernel, by decide +kernel⟩
theorem sc_Lcan_be : FnScope N_Lcan_be P_Lcan_be (defScope s_Lcan_be) := ⟨rfl, rfl, rfl, by decide +kernel, rfl, by decide +kernel, by decide +kernel⟩
theorem sc_Lmoments : FnScope N_Lmoments P_Lmoments (defScope s_Lmoments) := ⟨rfl, rfl, rfl, by decide +kernel, rfl, by decide +kernel, by decide +kernel⟩
theorem sc_Lupto : FnScope N_Lupto P_Lupto (defScope s_Lupto) := ⟨rfl, rfl, rfl, by decide +kernel, rfl, by decide +kernel, by decide +kernel⟩
theorem sc_law : FnScope N_law P_law (defScope s_law) := ⟨rfl, rfl, rfl, by decide +kernel, rfl, by decide +kernel, by decide +kernel⟩
structure Top where
  c_InvalidMoment : Addr
  c_Log : Addr
  c_LogError : Addr
  c_Missing : Addr
  c_NothingLeft : Addr
  f_i_InvalidMoment : Addr
  d_i_InvalidMoment : FuncData
  f_i_Log : Addr
  d_i_Log : FuncData
  f_Log_rows : Addr
  d_Log_rows : FuncData
  f_Log_processes : Addr
  d_Log_processes : FuncData
  f_Log_lengths : Addr
  d_Log_lengths : FuncData
  f_Log_upto : Addr
  d_Log_upto : FuncData
  f_Log_text : Addr
  d_Log_text : FuncData
  f_Log_read : Addr
  d_Log_read : FuncData
  f_Log_eq : Addr
  d_Log_eq : FuncData
  f_Log_str : Addr
  d_Log_str : FuncData
  p_Log_read : Addr
  u_Log_PROCESSES : Value
  u_Log_STEPS : Value
  f_is_name : Addr
  d_is_name : FuncData
  f_is_word : Addr
  d_is_word : FuncData
  f_is_number : Addr
  d_is_number : FuncData
  f_is_step : Addr
  d_is_step : FuncData
  f_step_text : Addr
  d_step_text : FuncData
  f_read_step : Addr
  d_read_step : FuncData
  f_read_number : Addr
  d_read_number : FuncData
  f_consists_of : Addr
  d_consists_of : FuncData
  f_is_deed : Addr
  d_is_deed : FuncData
  f_split_deed : Addr
  d_split_deed : FuncData
  f_check_rows : Addr
  d_check_rows : FuncData
  f_is_row : Addr
  d_is_row : FuncData
  f_check_steps : Addr
  d_check_steps : FuncData
  f_check_messages : Addr
  d_check_messages : FuncData
  f_check_ends : Addr
  d_check_ends : FuncData
  f_names : Addr
  d_names : FuncData
  f_deeds : Addr
  d_deeds : FuncData
  f_first_unsent : Addr
  d_first_unsent : FuncData
  f_order_of : Addr
  d_order_of : FuncData
  f_first_ready : Addr
  d_first_ready : FuncData
  f_can_be_made : Addr
  d_can_be_made : FuncData
  f_are_places : Addr
  d_are_places : FuncData
  f_row_text : Addr
  d_row_text : FuncData
  f_read_row : Addr
  d_read_row : FuncData
  f_Lbag : Addr
  d_Lbag : FuncData
  f_Ldraw : Addr
  d_Ldraw : FuncData
  f_Lof : Addr
  d_Lof : FuncData
  f_Lmixed : Addr
  d_Lmixed : FuncData
  f_Lsame : Addr
  d_Lsame : FuncData
  f_Lfield : Addr
  d_Lfield : FuncData
  f_Lother_field : Addr
  d_Lother_field : FuncData
  f_Lgot : Addr
  d_Lgot : FuncData
  f_Lwhy : Addr
  d_Lwhy : FuncData
  f_Lmarks : Addr
  d_Lmarks : FuncData
  f_Lstep : Addr
  d_Lstep : FuncData
  f_Lrows : Addr
  d_Lrows : FuncData
  f_Llog : Addr
  d_Llog : FuncData
  f_Lsmall_rows : Addr
  d_Lsmall_rows : FuncData
  f_Llengths : Addr
  d_Llengths : FuncData
  f_Lpoints : Addr
  d_Lpoints : FuncData
  f_Llonger : Addr
  d_Llonger : FuncData
  f_Ldeeds : Addr
  d_Ldeeds : FuncData
  f_Lcan_be : Addr
  d_Lcan_be : FuncData
  f_Lmoments : Addr
  d_Lmoments : FuncData
  f_Lupto : Addr
  d_Lupto : FuncData
  f_law : Addr
  d_law : FuncData
  q_DEEDS : Addr
  u_DEEDS : Value
  u_DIGITS : Value
  u_LEAST : Value
  u_LETTERS : Value
  u_MOST : Value
  u_NAME_LENGTH : Value
  u_WORD_LENGTH : Value
structure TopOk (K : PySem.W.Frag) (mg : Str → Option Value) (A : Top) : Prop where
  m_InvalidMoment : mg "InvalidMoment" = some (.ref A.c_InvalidMoment)
  m_Log : mg "Log" = some (.ref A.c_Log)
  m_LogError : mg "LogError" = some (.ref A.c_LogError)
  m_Missing : mg "Missing" = some (.ref A.c_Missing)
  m_NothingLeft : mg "NothingLeft" = some (.ref A.c_NothingLeft)
  X_InvalidMoment : OxC K A.c_InvalidMoment
  no_InvalidMoment : noB K A.c_InvalidMoment ("code" :: ["value"]) = true
  i_InvalidMoment : PySem.W.findIn K (.ref A.c_InvalidMoment) "__init__" = some (some (.ref A.f_i_InvalidMoment))
  t_InvalidMoment : PySem.W.typeIn K (.ref A.f_i_InvalidMoment) = some (.type "function")
  F_i_InvalidMoment : Fun K "__init__" "InvalidMoment.__init__" s_i_InvalidMoment A.f_i_InvalidMoment A.d_i_InvalidMoment
  a_i_InvalidMoment : Binds K A.d_i_InvalidMoment P_i_InvalidMoment []
  tt_InvalidMoment : PySem.W.typeIn K (.ref A.c_InvalidMoment) = some (.type "type")
  em_InvalidMoment : decide (PySem.W.exmAny K (.ref A.c_InvalidMoment) [.ref A.c_LogError, .ref A.c_Missing, .ref A.c_NothingLeft] = some true) = true
  cl_Log : Cls K A.c_Log
  mk_Log : Mk K A.c_Log A.f_i_Log
  rd_Log : ClX.CRead K A.c_Log (.type "type")
  ic_Log : C8.InsC K A.c_Log
  na_Log_rows : NoAttr K A.c_Log "_rows"
  na_Log_order : NoAttr K A.c_Log "_order"
  cv_Log_PROCESSES : ClX.CVal K A.c_Log (.type "type") "PROCESSES" (.int 6) A.u_Log_PROCESSES
  cv_Log_STEPS : ClX.CVal K A.c_Log (.type "type") "STEPS" (.int 20) A.u_Log_STEPS
  F_i_Log : Fun K "__init__" "Log.__init__" s_i_Log A.f_i_Log A.d_i_Log
  F_Log_rows : Fun K "rows" "Log.rows" s_Log_rows A.f_Log_rows A.d_Log_rows
  me_Log_rows : Meth K A.c_Log "rows" A.f_Log_rows
  a_Log_rows : Binds K A.d_Log_rows P_Log_rows []
  F_Log_processes : Fun K "processes" "Log.processes" s_Log_processes A.f_Log_processes A.d_Log_processes
  me_Log_processes : Meth K A.c_Log "processes" A.f_Log_processes
  a_Log_processes : Binds K A.d_Log_processes P_Log_processes []
  F_Log_lengths : Fun K "lengths" "Log.lengths" s_Log_lengths A.f_Log_lengths A.d_Log_lengths
  me_Log_lengths : Meth K A.c_Log "lengths" A.f_Log_lengths
  a_Log_lengths : Binds K A.d_Log_lengths P_Log_lengths []
  F_Log_upto : Fun K "upto" "Log.upto" s_Log_upto A.f_Log_upto A.d_Log_upto
  me_Log_upto : Meth K A.c_Log "upto" A.f_Log_upto
  a_Log_upto : Binds K A.d_Log_upto P_Log_upto []
  F_Log_text : Fun K "text" "Log.text" s_Log_text A.f_Log_text A.d_Log_text
  me_Log_text : Meth K A.c_Log "text" A.f_Log_text
  a_Log_text : Binds K A.d_Log_text P_Log_text []
  F_Log_read : Fun K "read" "Log.read" s_Log_read A.f_Log_read A.d_Log_read
  cm_Log_read : ClX.CMet K A.c_Log (.type "type") "read" A.p_Log_read A.f_Log_read
  a_Log_read : Binds K A.d_Log_read P_Log_read []
  F_Log_eq : Fun K "__eq__" "Log.__eq__" s_Log_eq A.f_Log_eq A.d_Log_eq
  me_Log_eq : Meth K A.c_Log "__eq__" A.f_Log_eq
  a_Log_eq : Binds K A.d_Log_eq P_Log_eq []
  F_Log_str : Fun K "__str__" "Log.__str__" s_Log_str A.f_Log_str A.d_Log_str
  me_Log_str : Meth K A.c_Log "__str__" A.f_Log_str
  a_Log_str : Binds K A.d_Log_str P_Log_str []
  F_is_name : Fun K "is_name" "is_name" s_is_name A.f_is_name A.d_is_name
  g_is_name : mg "is_name" = some (.ref A.f_is_name)
  a_is_name : Binds K A.d_is_name P_is_name []
  F_is_word : Fun K "is_word" "is_word" s_is_word A.f_is_word A.d_is_word
  g_is_word : mg "is_word" = some (.ref A.f_is_word)
  a_is_word : Binds K A.d_is_word P_is_word []
  F_is_number : Fun K "is_number" "is_number" s_is_number A.f_is_number A.d_is_number
  g_is_number : mg "is_number" = some (.ref A.f_is_number)
  a_is_number : Binds K A.d_is_number P_is_number []
  F_is_step : Fun K "is_step" "is_step" s_is_step A.f_is_step A.d_is_step
  g_is_step : mg "is_step" = some (.ref A.f_is_step)
  a_is_step : Binds K A.d_is_step P_is_step []
  F_step_text : Fun K "step_text" "step_text" s_step_text A.f_step_text A.d_step_text
  g_step_text : mg "step_text" = some (.ref A.f_step_text)
  a_step_text : Binds K A.d_step_text P_step_text []
  F_read_step : Fun K "read_step" "read_step" s_read_step A.f_read_step A.d_read_step
  g_read_step : mg "read_step" = some (.ref A.f_read_step)
  a_read_step : Binds K A.d_read_step P_read_step []
  F_read_number : Fun K "read_number" "read_number" s_read_number A.f_read_number A.d_read_number
  g_read_number : mg "read_number" = some (.ref A.f_read_number)
  a_read_number : Binds K A.d_read_number P_read_number []
  F_consists_of : Fun K "_consists_of" "_consists_of" s_consists_of A.f_consists_of A.d_consists_of
  g_consists_of : mg "_consists_of" = some (.ref A.f_consists_of)
  a_consists_of : Binds K A.d_consists_of P_consists_of []
  F_is_deed : Fun K "_is_deed" "_is_deed" s_is_deed A.f_is_deed A.d_is_deed
  g_is_deed : mg "_is_deed" = some (.ref A.f_is_deed)
  a_is_deed : Binds K A.d_is_deed P_is_deed []
  F_split_deed : Fun K "_split_deed" "_split_deed" s_split_deed A.f_split_deed A.d_split_deed
  g_split_deed : mg "_split_deed" = some (.ref A.f_split_deed)
  a_split_deed : Binds K A.d_split_deed P_split_deed []
  F_check_rows : Fun K "_check_rows" "_check_rows" s_check_rows A.f_check_rows A.d_check_rows
  g_check_rows : mg "_check_rows" = some (.ref A.f_check_rows)
  a_check_rows : Binds K A.d_check_rows P_check_rows []
  F_is_row : Fun K "_is_row" "_is_row" s_is_row A.f_is_row A.d_is_row
  g_is_row : mg "_is_row" = some (.ref A.f_is_row)
  a_is_row : Binds K A.d_is_row P_is_row []
  F_check_steps : Fun K "_check_steps" "_check_steps" s_check_steps A.f_check_steps A.d_check_steps
  g_check_steps : mg "_check_steps" = some (.ref A.f_check_steps)
  a_check_steps : Binds K A.d_check_steps P_check_steps []
  F_check_messages : Fun K "_check_messages" "_check_messages" s_check_messages A.f_check_messages A.d_check_messages
  g_check_messages : mg "_check_messages" = some (.ref A.f_check_messages)
  a_check_messages : Binds K A.d_check_messages P_check_messages []
  F_check_ends : Fun K "_check_ends" "_check_ends" s_check_ends A.f_check_ends A.d_check_ends
  g_check_ends : mg "_check_ends" = some (.ref A.f_check_ends)
  a_check_ends : Binds K A.d_check_ends P_check_ends []
  F_names : Fun K "_names" "_names" s_names A.f_names A.d_names
  g_names : mg "_names" = some (.ref A.f_names)
  a_names : Binds K A.d_names P_names []
  F_deeds : Fun K "_deeds" "_deeds" s_deeds A.f_deeds A.d_deeds
  g_deeds : mg "_deeds" = some (.ref A.f_deeds)
  a_deeds : Binds K A.d_deeds P_deeds []
  F_first_unsent : Fun K "_first_unsent" "_first_unsent" s_first_unsent A.f_first_unsent A.d_first_unsent
  g_first_unsent : mg "_first_unsent" = some (.ref A.f_first_unsent)
  a_first_unsent : Binds K A.d_first_unsent P_first_unsent []
  F_order_of : Fun K "_order_of" "_order_of" s_order_of A.f_order_of A.d_order_of
  g_order_of : mg "_order_of" = some (.ref A.f_order_of)
  a_order_of : Binds K A.d_order_of P_order_of []
  F_first_ready : Fun K "_first_ready" "_first_ready" s_first_ready A.f_first_ready A.d_first_ready
  g_first_ready : mg "_first_ready" = some (.ref A.f_first_ready)
  a_first_ready : Binds K A.d_first_ready P_first_ready []
  F_can_be_made : Fun K "_can_be_made" "_can_be_made" s_can_be_made A.f_can_be_made A.d_can_be_made
  g_can_be_made : mg "_can_be_made" = some (.ref A.f_can_be_made)
  a_can_be_made : Binds K A.d_can_be_made P_can_be_made []
  F_are_places : Fun K "are_places" "are_places" s_are_places A.f_are_places A.d_are_places
  g_are_places : mg "are_places" = some (.ref A.f_are_places)
  a_are_places : Binds K A.d_are_places P_are_places []
  F_row_text : Fun K "_row_text" "_row_text" s_row_text A.f_row_text A.d_row_text
  g_row_text : mg "_row_text" = some (.ref A.f_row_text)
  a_row_text : Binds K A.d_row_text P_row_text []
  F_read_row : Fun K "read_row" "read_row" s_read_row A.f_read_row A.d_read_row
  g_read_row : mg "read_row" = some (.ref A.f_read_row)
  a_read_row : Binds K A.d_read_row P_read_row []
  F_Lbag : Fun K "_law_bag" "_law_bag" s_Lbag A.f_Lbag A.d_Lbag
  g_Lbag : mg "_law_bag" = some (.ref A.f_Lbag)
  a_Lbag : Binds K A.d_Lbag P_Lbag []
  F_Ldraw : Fun K "_law_draw" "_law_draw" s_Ldraw A.f_Ldraw A.d_Ldraw
  g_Ldraw : mg "_law_draw" = some (.ref A.f_Ldraw)
  a_Ldraw : Binds K A.d_Ldraw P_Ldraw []
  F_Lof : Fun K "_law_of" "_law_of" s_Lof A.f_Lof A.d_Lof
  g_Lof : mg "_law_of" = some (.ref A.f_Lof)
  a_Lof : Binds K A.d_Lof P_Lof []
  F_Lmixed : Fun K "_law_mixed" "_law_mixed" s_Lmixed A.f_Lmixed A.d_Lmixed
  g_Lmixed : mg "_law_mixed" = some (.ref A.f_Lmixed)
  a_Lmixed : Binds K A.d_Lmixed P_Lmixed []
  F_Lsame : Fun K "_law_same" "_law_same" s_Lsame A.f_Lsame A.d_Lsame
  g_Lsame : mg "_law_same" = some (.ref A.f_Lsame)
  a_Lsame : Binds K A.d_Lsame P_Lsame []
  F_Lfield : Fun K "_law_field" "_law_field" s_Lfield A.f_Lfield A.d_Lfield
  g_Lfield : mg "_law_field" = some (.ref A.f_Lfield)
  a_Lfield : Binds K A.d_Lfield P_Lfield []
  F_Lother_field : Fun K "_law_other_field" "_law_other_field" s_Lother_field A.f_Lother_field A.d_Lother_field
  g_Lother_field : mg "_law_other_field" = some (.ref A.f_Lother_field)
  a_Lother_field : Binds K A.d_Lother_field P_Lother_field []
  F_Lgot : Fun K "_law_got" "_law_got" s_Lgot A.f_Lgot A.d_Lgot
  g_Lgot : mg "_law_got" = some (.ref A.f_Lgot)
  a_Lgot : Binds K A.d_Lgot P_Lgot []
  F_Lwhy : Fun K "_law_why" "_law_why" s_Lwhy A.f_Lwhy A.d_Lwhy
  g_Lwhy : mg "_law_why" = some (.ref A.f_Lwhy)
  a_Lwhy : Binds K A.d_Lwhy P_Lwhy []
  F_Lmarks : Fun K "_law_marks" "_law_marks" s_Lmarks A.f_Lmarks A.d_Lmarks
  g_Lmarks : mg "_law_marks" = some (.ref A.f_Lmarks)
  a_Lmarks : Binds K A.d_Lmarks P_Lmarks []
  F_Lstep : Fun K "_law_step" "_law_step" s_Lstep A.f_Lstep A.d_Lstep
  g_Lstep : mg "_law_step" = some (.ref A.f_Lstep)
  a_Lstep : Binds K A.d_Lstep P_Lstep []
  F_Lrows : Fun K "_law_rows" "_law_rows" s_Lrows A.f_Lrows A.d_Lrows
  g_Lrows : mg "_law_rows" = some (.ref A.f_Lrows)
  a_Lrows : Binds K A.d_Lrows P_Lrows []
  F_Llog : Fun K "_law_log" "_law_log" s_Llog A.f_Llog A.d_Llog
  g_Llog : mg "_law_log" = some (.ref A.f_Llog)
  a_Llog : Binds K A.d_Llog P_Llog []
  F_Lsmall_rows : Fun K "_law_small_rows" "_law_small_rows" s_Lsmall_rows A.f_Lsmall_rows A.d_Lsmall_rows
  g_Lsmall_rows : mg "_law_small_rows" = some (.ref A.f_Lsmall_rows)
  a_Lsmall_rows : Binds K A.d_Lsmall_rows P_Lsmall_rows []
  F_Llengths : Fun K "_law_lengths" "_law_lengths" s_Llengths A.f_Llengths A.d_Llengths
  g_Llengths : mg "_law_lengths" = some (.ref A.f_Llengths)
  a_Llengths : Binds K A.d_Llengths P_Llengths []
  F_Lpoints : Fun K "_law_points" "_law_points" s_Lpoints A.f_Lpoints A.d_Lpoints
  g_Lpoints : mg "_law_points" = some (.ref A.f_Lpoints)
  a_Lpoints : Binds K A.d_Lpoints P_Lpoints []
  F_Llonger : Fun K "_law_longer" "_law_longer" s_Llonger A.f_Llonger A.d_Llonger
  g_Llonger : mg "_law_longer" = some (.ref A.f_Llonger)
  a_Llonger : Binds K A.d_Llonger P_Llonger []
  F_Ldeeds : Fun K "_law_deeds" "_law_deeds" s_Ldeeds A.f_Ldeeds A.d_Ldeeds
  g_Ldeeds : mg "_law_deeds" = some (.ref A.f_Ldeeds)
  a_Ldeeds : Binds K A.d_Ldeeds P_Ldeeds []
  F_Lcan_be : Fun K "_law_can_be" "_law_can_be" s_Lcan_be A.f_Lcan_be A.d_Lcan_be
  g_Lcan_be : mg "_law_can_be" = some (.ref A.f_Lcan_be)
  a_Lcan_be : Binds K A.d_Lcan_be P_Lcan_be []
  F_Lmoments : Fun K "_law_moments" "_law_moments" s_Lmoments A.f_Lmoments A.d_Lmoments
  g_Lmoments : mg "_law_moments" = some (.ref A.f_Lmoments)
  a_Lmoments : Binds K A.d_Lmoments P_Lmoments []
  F_Lupto : Fun K "_law_upto" "_law_upto" s_Lupto A.f_Lupto A.d_Lupto
  g_Lupto : mg "_law_upto" = some (.ref A.f_Lupto)
  a_Lupto : Binds K A.d_Lupto P_Lupto []
  F_law : Fun K "law" "law" s_law A.f_law A.d_law
  g_law : mg "law" = some (.ref A.f_law)
  a_law : Binds K A.d_law P_law []
  c_DEEDS : mg "DEEDS" = some A.u_DEEDS
  r_DEEDS : RelV (.ref A.q_DEEDS) A.u_DEEDS
  t_DEEDS : ∀ H : Hp, Dp K H (.ref A.q_DEEDS) (.tuple [.tuple [.str "send", .str "!"], .tuple [.str "receive", .str "?"]])
  c_DIGITS : mg "DIGITS" = some A.u_DIGITS
  r_DIGITS : RelV (.str "0123456789") A.u_DIGITS
  c_LEAST : mg "LEAST" = some A.u_LEAST
  r_LEAST : RelV (.int (-99)) A.u_LEAST
  c_LETTERS : mg "LETTERS" = some A.u_LETTERS
  r_LETTERS : RelV (.str "abcdefghijklmnopqrstuvwxyz") A.u_LETTERS
  c_MOST : mg "MOST" = some A.u_MOST
  r_MOST : RelV (.int 99) A.u_MOST
  c_NAME_LENGTH : mg "NAME_LENGTH" = some A.u_NAME_LENGTH
  r_NAME_LENGTH : RelV (.int 6) A.u_NAME_LENGTH
  c_WORD_LENGTH : mg "WORD_LENGTH" = some A.u_WORD_LENGTH
  r_WORD_LENGTH : RelV (.int 4) A.u_WORD_LENGTH
  b_all : mg "all" = none
  b_bool : mg "bool" = none
  b_enumerate : mg "enumerate" = none
  b_int : mg "int" = none
  b_isinstance : mg "isinstance" = none
  b_len : mg "len" = none
  b_list : mg "list" = none
  b_range : mg "range" = none
  b_sorted : mg "sorted" = none
  b_str : mg "str" = none
  b_sum : mg "sum" = none
  b_tuple : mg "tuple" = none
  b_zip : mg "zip" = none
  kb_Log_upto_1_moment : KBn K A.d_Log_upto P_Log_upto 1 ["moment"] (fun us ws => (us.drop 0).take 1 ++ (ws.drop 0).take 1) (fun us ws => (us.drop 0).take 1 ++ (ws.drop 0).take 1)
end My
set_option Elab.async false
set_option linter.all false
set_option maxRecDepth 100000
local macro_rules | `(tactic| walk_at "st") => `(tactic| repeat (first | refine ⟨_, _, rfl, rfl, rfl, ?_⟩ | refine ⟨_, _, rfl, rfl, ?_⟩ | refine ⟨_, rfl, ?_⟩))
namespace My
open PySem PySem.Spec PyProof.Rows L2
section
variable {P : Program} {w : World} {K : PySem.W.Frag} {mg : Str → Option Value} {base : Heap} {A : Top}
theorem cut63 {xs : List V} (h : xs.length ≤ 63) : cutV xs none (some 63) = xs := by
  unfold cutV
  rw [HT.sIx_none, show HT.sIx xs.length xs.length (some 63) = min 63 xs.length from HT.sIx_nat xs.length xs.length 63, Nat.min_eq_right h]
  show (xs.drop 0).take (xs.length - 0) = xs
  rw [List.drop_zero, Nat.sub_zero, List.take_length]
theorem ok_Lbag (T : TopOk K mg A) : FnOk P w K mg base CX0 1 A.f_Lbag A.d_Lbag P_Lbag (spBag K) := by
  refine T.F_Lbag.ok sc_Lbag (fun vs H Q E h => ?_) (fun cdv Ar outer s H vs Q E hr h => ?_)
  · obtain ⟨a, ns, rfl, _⟩ := h
    rfl
  · obtain ⟨a, ns, rfl, hS, hl, q⟩ := h
    have hl' : (ns.map V.int).length ≤ 63 := by rw [List.length_map]; exact hl
    refine ⟨_, (pss_cons (ps_set (i := 1) sc_Lbag.nd rfl (by first | exact Or.inl rfl | exact Or.inr rfl) pe_int)
      (pss_cons (ps_for PassesOwn.never rfl (pi_list (pe_slice sl_list (pv 0) po_none (po_some pe_int))) (pg_name (i := 2) sc_Lbag.nd rfl (by first | exact Or.inl rfl | exact Or.inr rfl))
      (pss_one (ps_set (i := 1) sc_Lbag.nd rfl (by first | exact Or.inl rfl | exact Or.inr rfl) (pe_op op_modC (pe_callTy call_intI (by rfl) T.b_int (by decide +kernel) (pa_cons (pe_op op_add (pe_op op_add (pe_op op_mulC (pv 1) pe_int) (pe_op op_modC (pe_callTy call_intI (by rfl) T.b_int (by decide +kernel) (pa_cons (pv 2) pa_nil)) pe_int)) pe_int) pa_nil)) pe_int))))
      (pss_one (ps_ret (pe_lst (pa_cons (pe_callTy call_listL (by rfl) T.b_list (by decide +kernel) (pa_cons (pe_slice sl_list (pv 0) po_none (po_some pe_int)) pa_nil)) (pa_cons pe_int (pa_cons pe_int (pa_cons (pv 1) (pa_cons pe_int pa_nil)))))))))), ?_⟩
    refine ⟨_, rfl, 63, rfl, a, _, rfl, hS, fun u nu => ?_⟩
    rw [cut63 hl']
    refine ⟨u, rfl, ⟨_, lsq upd_same⟩, for_list (K := K) (a := u) (xs := ns.map V.int)
      (fun i σ H2 => ∃ (m : Int) (c : Option V), σ = [some (.ref a), some (.int m), c] ∧ 0 ≤ m ∧ m < 2147483549 ∧ Same H H2 ∧ H2 u = some (.lst (ns.map V.int)))
      ⟨12001, none, rfl, by decide, by decide, same_upd nu, upd_same⟩ (fun i σ H2 _ ⟨_, _, _, _, _, _, h2⟩ => lsq h2) ?_ ?_⟩
    · rintro i y σ H2 hi ⟨m, c, rfl, m0, m1, s2, h2⟩
      obtain ⟨z, rfl⟩ : ∃ z, y = V.int z := by
        obtain ⟨z, _, e⟩ := List.mem_map.mp (List.mem_of_getElem? hi)
        exact ⟨z, e.symm⟩
      walk_at "st"
      exact ⟨_, _, rfl, Int.emod_nonneg _ (by decide), Int.emod_lt_of_pos _ (by decide), s2, h2⟩
    · rintro σ H2 ⟨m, c, rfl, m0, m1, s2, h2⟩
      refine ⟨_, rfl, 63, rfl, a, _, rfl, SqL.same s2 hS, fun v nv => ?_⟩
      rw [cut63 hl']
      refine ⟨v, _, rfl, lsq upd_same, fun x nx => ⟨_, rfl, by show 5 ≤ sizeLine; decide, fun p np => ?_⟩⟩
      have s3 : Same H2 (upd H2 v (.lst (ns.map V.int))) := same_upd nv
      have s4 := s3.trans (same_upd (o := .lst (ns.map V.int)) nx)
      have s5 := s4.trans (same_upd (o := .lst [.ref x, .int 0, .int 0, .int m, .int 0]) np)
      refine q ⟨p, x, ns⟩ _ (Same.free (s2.trans s4) np) ⟨0, 0, m, 0, upd_same, ?_, ?_, by decide, by omega, hl, by decide, m0, m1⟩ (s2.trans s5)
      · rw [upd_ne (ne_of_none upd_same np)]
        exact upd_same
      · exact ne_of_none upd_same np
theorem ok_Ldraw (T : TopOk K mg A) : FnOk P w K mg base CX0 1 A.f_Ldraw A.d_Ldraw P_Ldraw spDraw := by
  refine T.F_Ldraw.ok sc_Ldraw (fun vs H Q E h => ?_) (fun cdv Ar outer s H vs Q E hr h => ?_)
  · obtain ⟨p, n, rfl, _⟩ := h
    rfl
  · obtain ⟨⟨p, l, ns⟩, n, rfl, ⟨i, g, m, c, hp, hl, nlp, i0, i1, n63, g0, m0, m1⟩, n0, n1, q⟩ := h
    dsimp only at hp hl nlp i1 n63 q ⊢
    refine ⟨_, (pss_cons (ps_asg (pe_op op_add (pe_ix ix_bag (pv 0) pe_int (fun _ _ => rfl)) pe_int) (pg_sub (pv 0) pe_int set_list))
      (Evl.pss_cut (ps_if (PW.pt (pw_and (pt_cmpR op_eq (pe_ix ix_bag (pv 0) pe_int (fun _ _ => rfl)) pe_int (nomark _)) (pw_and1 (pt_cmpR op_lt (pe_ix ix_bag (pv 0) pe_int (fun _ _ => rfl)) (pe_callB call_lenL (by rfl) T.b_len (by decide +kernel) (pa_cons (pe_ix ix_bag (pv 0) pe_int (fun _ _ => rfl)) pa_nil)) (nomark _)))))
      (pss_cons (ps_set (i := 3) sc_Ldraw.nd rfl (by first | exact Or.inl rfl | exact Or.inr rfl) (pe_ix ix_bag (pe_ix ix_bag (pv 0) pe_int (fun _ _ => rfl)) (pe_ix ix_bag (pv 0) pe_int (fun _ _ => rfl)) (fun _ _ => rfl)))
      (pss_cons (ps_asg (pe_op op_add (pe_ix ix_bag (pv 0) pe_int (fun _ _ => rfl)) pe_int) (pg_sub (pv 0) pe_int set_list))
      (pss_one (ps_if (pt_cmpR op_ge (pv 3) (pe_op op_pow pe_int pe_int) (nomark _))
      (pss_one (ps_asg (pv 3) (pg_sub (pv 0) pe_int set_list)))
      (pss_one (ps_asg (pe_op op_modC (pe_callTy call_intI (by rfl) T.b_int (by decide +kernel) (pa_cons (pe_op op_add (pe_op op_add (pe_op op_mulC (pe_ix ix_bag (pv 0) pe_int (fun _ _ => rfl)) pe_int) (pe_op op_mulC (pe_op op_modC (pe_callTy call_intI (by rfl) T.b_int (by decide +kernel) (pa_cons (pv 3) pa_nil)) pe_int) pe_int)) pe_int) pa_nil)) pe_int) (pg_sub (pv 0) pe_int set_list)))))))
      pss_nil)
      (pss_cons (ps_if (pt_cmpR op_gt (pe_ix ix_bag (pv 0) pe_int (fun _ _ => rfl)) pe_int (nomark _))
      (pss_cons (ps_set (i := 4) sc_Ldraw.nd rfl (by first | exact Or.inl rfl | exact Or.inr rfl) (pe_op op_mod (pe_callTy call_intI (by rfl) T.b_int (by decide +kernel) (pa_cons (pe_ix ix_bag (pv 0) pe_int (fun _ _ => rfl)) pa_nil)) (pv 1)))
      (pss_cons (ps_asg (pe_op op_fdiv (pe_ix ix_bag (pv 0) pe_int (fun _ _ => rfl)) (pv 1)) (pg_sub (pv 0) pe_int set_list))
      (pss_one (ps_ret (pv 4)))))
      pss_nil)
      (pss_cons (ps_set (i := 2) sc_Ldraw.nd rfl (by first | exact Or.inl rfl | exact Or.inr rfl) (pe_callTy call_intI (by rfl) T.b_int (by decide +kernel) (pa_cons (pe_ix ix_bag (pv 0) pe_int (fun _ _ => rfl)) pa_nil)))
      (pss_cons (ps_asg (pe_op op_modC (pe_callTy call_intI (by rfl) T.b_int (by decide +kernel) (pa_cons (pe_op op_add (pe_op op_add (pe_op op_add (pe_op op_pow (pv 2) pe_int) (pe_op op_mulC (pv 2) pe_int)) (pe_op op_mulC (pe_ix ix_bag (pv 0) pe_int (fun _ _ => rfl)) pe_int)) pe_int) pa_nil)) pe_int) (pg_sub (pv 0) pe_int set_list))
      (pss_one (ps_ret (pe_op op_mod (pe_callTy call_intI (by rfl) T.b_int (by decide +kernel) (pa_cons (pe_op op_add (pe_op op_fdivC (pe_ix ix_bag (pv 0) pe_int (fun _ _ => rfl)) pe_int) (pe_op op_mulC (pe_op op_modC (pe_callTy call_intI (by rfl) T.b_int (by decide +kernel) (pa_cons (pe_ix ix_bag (pv 0) pe_int (fun _ _ => rfl)) pa_nil)) pe_int) pe_int)) pa_nil)) (pv 1))))))))), ?_⟩
    -- bag[4] = bag[4] + 1
    refine ⟨_, rfl, _, _, _, _, rfl, rfl, hp, rfl, _, _, rfl, rfl, _, rfl, p, _, 4, 4, rfl, rfl, hp, rfl, ?_⟩
    have hp1 : (upd H p (.lst [.ref l, .int i, .int g, .int m, .int (c + 1)])) p = some (.lst [.ref l, .int i, .int g, .int m, .int (c + 1)]) := upd_same
    have hl1 : (upd H p (.lst [.ref l, .int i, .int g, .int m, .int (c + 1)])) l = some (.lst (ns.map V.int)) := by rw [upd_ne nlp]; exact hl
    -- the mixing of the next cell
    refine ⟨fun σ' H' => ∃ (i g m c : Int) (x3 : Option V), σ' = [some (.ref p), some (.int n), none, x3, none] ∧ H' p = some (.lst [.ref l, .int i, .int g, .int m, .int c]) ∧ H' l = some (.lst (ns.map V.int)) ∧ 0 ≤ i ∧ i ≤ ns.length ∧ 0 ≤ g ∧ 0 ≤ m ∧ m < 2147483549 ∧ Ext p H H', ?_, ?_⟩
    · have ex1 : Ext p H (upd H p (.lst [.ref l, .int i, .int g, .int m, .int (c + 1)])) := fun b o hb nb => by rw [upd_ne nb]; exact hb
      refine ⟨_, rfl, _, _, _, _, rfl, rfl, hp1, rfl, rfl, _, rfl, ite2 (fun e => ?_) (fun e => ?_)⟩
      · have e0 : g = 0 := V.int.inj (of_decide_eq_true e)
        subst e0
        refine ⟨_, rfl, _, _, _, _, rfl, rfl, hp1, rfl, _, rfl, _, _, _, _, rfl, rfl, hp1, rfl, l, _, rfl, lsq hl1, _, _, rfl, rfl, _, rfl, ite2 (fun e => ?_) (fun e => ?_)⟩
        · have e1 : i < ((ns.map V.int).length : Int) := of_decide_eq_true e
          rw [List.length_map] at e1
          obtain ⟨j, rfl⟩ := Int.eq_ofNat_of_zero_le i0
          have hj : j < ns.length := by omega
          have hat : atI (ns.map V.int) (j : Int) = some (V.int ns[j]) := atI_nat (by rw [List.getElem?_map, List.getElem?_eq_getElem hj]; rfl)
          refine ⟨_, rfl, _, _, _, _, rfl, rfl, hp1, rfl, _, rfl, _, _, _, _, rfl, rfl, hp1, rfl, l, _, _, _, rfl, rfl, hl1, hat, ?_⟩
          refine ⟨_, rfl, _, _, _, _, rfl, rfl, hp1, rfl, _, _, rfl, rfl, _, rfl, p, _, 1, 1, rfl, rfl, hp1, rfl, ?_⟩
          have ex2 : Ext p H (upd (upd H p (.lst [.ref l, .int j, .int 0, .int m, .int (c + 1)])) p (.lst [.ref l, .int (j + 1), .int 0, .int m, .int (c + 1)])) := fun b o hb nb => by rw [upd_ne nb, upd_ne nb]; exact hb
          have hp2 : (upd (upd H p (.lst [.ref l, .int j, .int 0, .int m, .int (c + 1)])) p (.lst [.ref l, .int (j + 1), .int 0, .int m, .int (c + 1)])) p = some (.lst [.ref l, .int (j + 1), .int 0, .int m, .int (c + 1)]) := upd_same
          have hl2 : (upd (upd H p (.lst [.ref l, .int j, .int 0, .int m, .int (c + 1)])) p (.lst [.ref l, .int (j + 1), .int 0, .int m, .int (c + 1)])) l = some (.lst (ns.map V.int)) := by rw [upd_ne nlp]; exact hl1
          refine ⟨_, rfl, _, _, rfl, rfl, ⟨by decide, by decide, by decide⟩, _, _, rfl, rfl, _, rfl, ite2 (fun e => ?_) (fun e => ?_)⟩
          · have e2 : (10 ^ (18 : Int).toNat : Int) ≤ ns[j] := of_decide_eq_true e
            have e3 : (0 : Int) ≤ ns[j] := Int.le_trans (by decide) e2
            refine ⟨_, rfl, _, rfl, p, _, 2, 2, rfl, rfl, hp2, rfl, ?_⟩
            refine ⟨(j : Int) + 1, ns[j], m, c + 1, some (V.int ns[j]), rfl, upd_same, ?_, by omega, by omega, e3, m0, m1, fun b o hb nb => ?_⟩
            · rw [upd_ne nlp]; exact hl2
            · rw [upd_ne nb]; exact ex2 b o hb nb
          · refine ⟨_, rfl, _, _, _, _, rfl, rfl, hp2, rfl, _, _, rfl, rfl, rfl, _, rfl, _, rfl, _, _, rfl, rfl, rfl, _, _, rfl, rfl, rfl, _, _, rfl, rfl, _, _, rfl, rfl, _, rfl, _, _, rfl, rfl, rfl, _, rfl, p, _, 3, 3, rfl, rfl, hp2, rfl, ?_⟩
            refine ⟨(j : Int) + 1, 0, _, c + 1, some (V.int ns[j]), rfl, upd_same, ?_, by omega, by omega, by decide, Int.emod_nonneg _ (by decide), Int.emod_lt_of_pos _ (by decide), fun b o hb nb => ?_⟩
            · rw [upd_ne nlp]; exact hl2
            · rw [upd_ne nb]; exact ex2 b o hb nb
        · exact ⟨i, 0, m, c + 1, none, rfl, hp1, hl1, i0, i1, g0, m0, m1, ex1⟩
      · refine iteF ?_
        exact ⟨i, g, m, c + 1, none, rfl, hp1, hl1, i0, i1, g0, m0, m1, ex1⟩
    · rintro σ' H' ⟨i, g, m, c, x3, rfl, hp1, hl1, i0, i1, g0, m0, m1, ex1⟩
      -- if bag[2] > 0
      refine ⟨_, rfl, _, _, _, _, rfl, rfl, hp1, rfl, _, _, rfl, rfl, _, rfl, ite2 (fun e => ?_) (fun e => ?_)⟩
      · refine ⟨_, rfl, _, _, _, _, rfl, rfl, hp1, rfl, _, rfl, _, rfl, _, _, rfl, rfl, n0, ?_⟩
        refine ⟨_, rfl, _, _, _, _, rfl, rfl, hp1, rfl, _, rfl, _, _, rfl, rfl, ⟨n0, n1⟩, _, rfl, p, _, 2, 2, rfl, rfl, hp1, rfl, _, rfl, ?_⟩
        refine q _ _ (Int.emod_nonneg _ (by omega)) (Int.emod_lt_of_pos _ n0) ⟨i, g / n, m, c, upd_same, ?_, nlp, i0, i1, n63, Int.ediv_nonneg g0 (by omega), m0, m1⟩ fun b o hb nb => ?_
        · rw [upd_ne nlp]; exact hl1
        · rw [upd_ne nb]; exact ex1 b o hb nb
      · refine ⟨_, rfl, _, _, _, _, rfl, rfl, hp1, rfl, _, rfl, ?_⟩
        refine ⟨_, rfl, _, _, rfl, rfl, ⟨by decide, by decide, by omega⟩, _, rfl, _, _, rfl, rfl, rfl, _, _, rfl, rfl, _, rfl, _, _, _, _, rfl, rfl, hp1, rfl, _, _, rfl, rfl, rfl, _, _, rfl, rfl, _, _, rfl, rfl, _, rfl, _, _, rfl, rfl, rfl, _, rfl, p, _, 3, 3, rfl, rfl, hp1, rfl, ?_⟩
        refine ⟨_, rfl, _, _, _, _, rfl, rfl, upd_same, rfl, _, _, rfl, rfl, rfl, _, rfl, _, _, _, _, rfl, rfl, upd_same, rfl, _, rfl, _, _, rfl, rfl, rfl, _, _, rfl, rfl, rfl, _, _, rfl, rfl, _, rfl, _, rfl, _, _, rfl, rfl, n0, ?_⟩
        refine q _ _ (Int.emod_nonneg _ (by omega)) (Int.emod_lt_of_pos _ n0) ⟨i, g, _, c, upd_same, ?_, nlp, i0, i1, n63, g0, Int.emod_nonneg _ (by decide), Int.emod_lt_of_pos _ (by decide)⟩ fun b o hb nb => ?_
        · rw [upd_ne nlp]; exact hl1
        · rw [upd_ne nb]; exact ex1 b o hb nb
theorem ok_Lof (T : TopOk K mg A) : FnOk P w K mg base CX0 2 A.f_Lof A.d_Lof P_Lof (spOf K) := by
  have G_Ldraw : FnOk P w K mg base CX0 1 A.f_Ldraw A.d_Ldraw P_Ldraw spDraw := ok_Ldraw T
  refine T.F_Lof.ok sc_Lof (fun vs H Q E h => ?_) (fun cdv Ar outer s H vs Q E hr h => ?_)
  · obtain ⟨p, y, rfl, _⟩ := h
    rfl
  · obtain ⟨B, y, rfl, hB, h⟩ := h
    refine ⟨_, (pss_one (ps_ret (pe_ix ix_seq (pv 1) (pe_call G_Ldraw (hr.mono (by decide)) (by rfl) T.g_Ldraw T.F_Ldraw.kp T.a_Ldraw .nil pass0 (pa_cons (pv 0) (pa_cons (pe_callB call_len (by rfl) T.b_len (by decide +kernel) (pa_cons (pv 1) pa_nil)) pa_nil))) (fun _ _ => rfl)))), ?_⟩
    rcases h with ⟨q, xs, rfl, nq, hS, h0, h1, k⟩ | ⟨z, rfl, h0, h1, k⟩
    · refine ⟨_, rfl, _, rfl, _, rfl, V.ref q, xs.length, rfl, ?_, B, _, rfl, hB, by omega, by omega, fun r H' r0 r1 hB' ex => ?_⟩
      · rcases hS with hS | hS
        · exact .inl ⟨_, hS, rfl⟩
        · exact .inr ⟨_, hS, rfl⟩
      · obtain ⟨j, rfl⟩ := Int.eq_ofNat_of_zero_le r0
        have hj : j < xs.length := by omega
        have hat : atI xs (j : Int) = some xs[j] := atI_nat (List.getElem?_eq_getElem hj)
        have kk := k xs[j] H' (List.getElem_mem hj) hB' ex
        rcases hS with hS | hS
        · exact .inl ⟨q, xs, _, _, rfl, rfl, SqL.ext ex nq hS, hat, kk⟩
        · exact .inr (.inl ⟨q, xs, _, _, rfl, rfl, SqT.ext ex nq hS, hat, kk⟩)
    · refine ⟨_, rfl, _, rfl, _, rfl, V.str z, z.length, rfl, ⟨h1, rfl⟩, B, _, rfl, hB, by omega, ?_, fun r H' r0 r1 hB' ex => ?_⟩
      · have : (sizeLine : Nat) = 16777216 := by decide
        omega
      · obtain ⟨j, rfl⟩ := Int.eq_ofNat_of_zero_le r0
        have hj : j < z.cps.toList.length := by
          have : z.length = z.cps.toList.length := by simp [Str.length]
          omega
        exact .inr (.inr ⟨z, _, _, rfl, rfl, h1, atI_nat (List.getElem?_eq_getElem hj), k _ H' (List.getElem_mem hj) hB' ex⟩)
theorem ok_Lsame (T : TopOk K mg A) : ∀ n, FnOk P w K mg base CX0 n A.f_Lsame A.d_Lsame P_Lsame (spSameLt K n)
  | 0 => ⟨fun _ _ _ _ h => h.elim, fun _ _ _ _ _ _ _ _ _ _ _ _ _ h => h.elim⟩
  | n + 1 => by
    have G_Lsame : FnOk P w K mg base CX0 n A.f_Lsame A.d_Lsame P_Lsame (spSameLt K n) := ok_Lsame T n
    refine T.F_Lsame.ok sc_Lsame (fun vs H Q E h => ?_) (fun cdv Ar outer s H vs Q E hr h => ?_)
    · obtain ⟨v, w, d, rfl, _⟩ := h
      rfl
    · obtain ⟨v, u, d, rfl, hv, hu, hd, hs, k⟩ := h
      refine ⟨_, (pss_cons (ps_if (PW.pt (pw_or (pt_cmpR op_isN (pv 1) pe_non (nomark _)) (pw_or1 (pt_cmpR op_isN (pv 0) pe_non (nomark _)))))
      (pss_one (ps_ret (pe_and (pe_cmpR op_isN (pv 1) pe_non (nomark _)) (pe_one (pe_cmpR op_isN (pv 0) pe_non (nomark _))))))
      pss_nil)
      (pss_cons (ps_if (pt_val (pe_callB call_isD2 (by rfl) T.b_isinstance (by decide +kernel) (pa_cons (pv 1) (pa_cons (pe_tup (pa_cons (pe_bltn (v := .ty "list") (by rfl) T.b_list (by decide +kernel) rfl) (pa_cons (pe_bltn (v := .ty "tuple") (by rfl) T.b_tuple (by decide +kernel) rfl) pa_nil))) pa_nil))))
      (pss_cons (ps_if (PW.pt (pw_or (pt_cmpR op_ne (pe_callB call_isD (by rfl) T.b_isinstance (by decide +kernel) (pa_cons (pv 0) (pa_cons (pe_bltn (v := .ty "list") (by rfl) T.b_list (by decide +kernel) rfl) pa_nil))) (pe_callB call_isD (by rfl) T.b_isinstance (by decide +kernel) (pa_cons (pv 1) (pa_cons (pe_bltn (v := .ty "list") (by rfl) T.b_list (by decide +kernel) rfl) pa_nil))) (nomark _)) (pw_or1 (pt_cmpR op_ne (pe_callB call_isD (by rfl) T.b_isinstance (by decide +kernel) (pa_cons (pv 0) (pa_cons (pe_bltn (v := .ty "tuple") (by rfl) T.b_tuple (by decide +kernel) rfl) pa_nil))) (pe_callB call_isD (by rfl) T.b_isinstance (by decide +kernel) (pa_cons (pv 1) (pa_cons (pe_bltn (v := .ty "tuple") (by rfl) T.b_tuple (by decide +kernel) rfl) pa_nil))) (nomark _)))))
      (pss_one (ps_ret pe_bl))
      pss_nil)
      (pss_one (ps_ret (pe_and (pe_cmpR op_eq (pe_callB call_len (by rfl) T.b_len (by decide +kernel) (pa_cons (pv 0) pa_nil)) (pe_callB call_len (by rfl) T.b_len (by decide +kernel) (pa_cons (pv 1) pa_nil)) (nomark _)) (pe_one (pe_callB (cr_all rfl) (by rfl) T.b_all (by decide +kernel) (pa_cons (pe_lc (own := [("_law_one", 2), ("_law_two", 3)]) (g := gTup K 2 (gCons (gName 2) (gCons (gName 3) gNil))) (by rfl) sc_Lsame.nd (RZ.pi_zipA (by rfl) T.b_zip (pa_cons (pv 0) (pa_cons (pv 1) pa_nil))) (blkOk_by (own := [("_law_one", 2), ("_law_two", 3)]) (N := N_Lsame) (sc := defScope s_Lsame) (by decide +kernel)) (fun _ _ _ _ _ => (pg_tup rfl (pgs_cons (pg_name (i := 2) sc_Lsame.nd rfl (by first | exact Or.inl rfl | exact Or.inr rfl)) (pgs_cons (pg_name (i := 3) sc_Lsame.nd rfl (by first | exact Or.inl rfl | exact Or.inr rfl)) pgs_nil)))) (fun _ _ _ _ _ => pts_nil) (fun _ _ _ _ _ => (pe_call G_Lsame hr (by rfl) T.g_Lsame T.F_Lsame.kp T.a_Lsame .nil pass0 (pa_cons (pv 2) (pa_cons (pv 3) pa_nil))))) pa_nil)))))))
      pss_nil)
      (pss_cons (ps_if (PW.pt (pw_or (pt_cmpR op_ne (pe_callB call_isD (by rfl) T.b_isinstance (by decide +kernel) (pa_cons (pv 0) (pa_cons (pe_bltn (v := .ty "bool") (by rfl) T.b_bool (by decide +kernel) rfl) pa_nil))) (pe_callB call_isD (by rfl) T.b_isinstance (by decide +kernel) (pa_cons (pv 1) (pa_cons (pe_bltn (v := .ty "bool") (by rfl) T.b_bool (by decide +kernel) rfl) pa_nil))) (nomark _)) (pw_or1 (pt_cmpR op_ne (pe_callB call_isD (by rfl) T.b_isinstance (by decide +kernel) (pa_cons (pv 0) (pa_cons (pe_bltn (v := .ty "int") (by rfl) T.b_int (by decide +kernel) rfl) pa_nil))) (pe_callB call_isD (by rfl) T.b_isinstance (by decide +kernel) (pa_cons (pv 1) (pa_cons (pe_bltn (v := .ty "int") (by rfl) T.b_int (by decide +kernel) rfl) pa_nil))) (nomark _)))))
      (pss_one (ps_ret pe_bl))
      pss_nil)
      (pss_one (ps_ret (pe_and (pe_cmpR op_eq (pe_callB call_isD (by rfl) T.b_isinstance (by decide +kernel) (pa_cons (pv 0) (pa_cons (pe_bltn (v := .ty "str") (by rfl) T.b_str (by decide +kernel) rfl) pa_nil))) (pe_callB call_isD (by rfl) T.b_isinstance (by decide +kernel) (pa_cons (pv 1) (pa_cons (pe_bltn (v := .ty "str") (by rfl) T.b_str (by decide +kernel) rfl) pa_nil))) (nomark _)) (pe_one (pe_cmpR op_eq (pv 0) (pv 1) (nomark _))))))))), ?_⟩
      cases d with
      | none =>
        cases hv
        cases hu
        exact ⟨_, rfl, rfl, _, rfl, iteT (iteT ⟨_, rfl, rfl, true, rfl, iteT ⟨_, rfl, rfl, k _ (Same.refl _)⟩⟩)⟩
      | bool b =>
        cases hv
        cases hu
        have hb : ∀ H', Dp K H' (V.bl b) (.bool b) := fun _ => .bl b
        refine ⟨_, rfl, rfl, _, rfl, iteF ⟨_, rfl, rfl, _, rfl, iteF ?_⟩⟩
        refine ⟨_, rfl, by show 2 ≤ sizeLine; decide, fun t nt => ⟨_, t, _, _, _, rfl, upd_same, rfl, rfl, hb _, _, rfl, iteF ?_⟩⟩
        refine ⟨_, rfl, _, _, _, rfl, rfl, hb _, _, rfl, _, _, _, rfl, rfl, hb _, rfl, _, rfl, iteF ?_⟩
        refine ⟨_, rfl, _, _, _, rfl, rfl, hb _, _, rfl, _, _, _, rfl, rfl, hb _, rfl, _, rfl, iteF ?_⟩
        refine ⟨_, rfl, _, _, _, rfl, rfl, hb _, _, rfl, _, _, _, rfl, rfl, hb _, rfl, _, rfl, iteT ?_⟩
        refine ⟨_, rfl, _, rfl, rfl, ?_⟩
        rw [decide_eq_true rfl]
        exact k _ (same_upd nt)
      | int b =>
        cases hv
        cases hu
        have hb : ∀ H', Dp K H' (V.int b) (.int b) := fun _ => .int b
        refine ⟨_, rfl, rfl, _, rfl, iteF ⟨_, rfl, rfl, _, rfl, iteF ?_⟩⟩
        refine ⟨_, rfl, by show 2 ≤ sizeLine; decide, fun t nt => ⟨_, t, _, _, _, rfl, upd_same, rfl, rfl, hb _, _, rfl, iteF ?_⟩⟩
        refine ⟨_, rfl, _, _, _, rfl, rfl, hb _, _, rfl, _, _, _, rfl, rfl, hb _, rfl, _, rfl, iteF ?_⟩
        refine ⟨_, rfl, _, _, _, rfl, rfl, hb _, _, rfl, _, _, _, rfl, rfl, hb _, rfl, _, rfl, iteF ?_⟩
        refine ⟨_, rfl, _, _, _, rfl, rfl, hb _, _, rfl, _, _, _, rfl, rfl, hb _, rfl, _, rfl, iteT ?_⟩
        refine ⟨_, rfl, _, rfl, rfl, ?_⟩
        rw [decide_eq_true rfl]
        exact k _ (same_upd nt)
      | str b =>
        cases hv
        cases hu
        have hb : ∀ H', Dp K H' (V.str b) (.str b) := fun _ => .str b
        refine ⟨_, rfl, rfl, _, rfl, iteF ⟨_, rfl, rfl, _, rfl, iteF ?_⟩⟩
        refine ⟨_, rfl, by show 2 ≤ sizeLine; decide, fun t nt => ⟨_, t, _, _, _, rfl, upd_same, rfl, rfl, hb _, _, rfl, iteF ?_⟩⟩
        refine ⟨_, rfl, _, _, _, rfl, rfl, hb _, _, rfl, _, _, _, rfl, rfl, hb _, rfl, _, rfl, iteF ?_⟩
        refine ⟨_, rfl, _, _, _, rfl, rfl, hb _, _, rfl, _, _, _, rfl, rfl, hb _, rfl, _, rfl, iteF ?_⟩
        refine ⟨_, rfl, _, _, _, rfl, rfl, hb _, _, rfl, _, _, _, rfl, rfl, hb _, rfl, _, rfl, iteT ?_⟩
        refine ⟨_, rfl, _, rfl, rfl, ?_⟩
        rw [decide_eq_true rfl]
        exact k _ (same_upd nt)
      | list ds =>
        obtain ⟨a, xs, rfl, sx, dx⟩ := Dp.lenL hv
        obtain ⟨b, ys, rfl, sy, dy⟩ := Dp.lenL hu
        have hsm : decide (ds.length ≤ 5000) = true ∧ smallAll ds = true := by
          unfold small at hs
          exact Bool.and_eq_true_iff.mp hs
        have hsz : ds.length ≤ 5000 := of_decide_eq_true hsm.1
        have lx := DpAll.length dx
        have ly := DpAll.length dy
        refine ⟨_, rfl, rfl, _, rfl, iteF ⟨_, rfl, rfl, _, rfl, iteF ?_⟩⟩
        refine ⟨_, rfl, by show 2 ≤ sizeLine; decide, fun t nt => ?_⟩
        have s1 : Same H (upd H t (.tup [.ty "list", .ty "tuple"])) := same_upd nt
        have hv1 := Dp.same s1 _ _ hv
        have hu1 := Dp.same s1 _ _ hu
        refine ⟨_, t, _, _, _, rfl, upd_same, rfl, rfl, hu1, _, rfl, iteT ?_⟩
        refine ⟨_, rfl, _, _, _, rfl, rfl, hv1, _, rfl, _, _, _, rfl, rfl, hu1, rfl, _, rfl, iteF ?_⟩
        refine ⟨_, rfl, _, _, _, rfl, rfl, hv1, _, rfl, _, _, _, rfl, rfl, hu1, rfl, _, rfl, iteF ?_⟩
        refine ⟨_, rfl, .ref a, xs.length, rfl, .inl ⟨xs, SqL.same s1 sx, rfl⟩, _, rfl, .ref b, ys.length, rfl, .inl ⟨ys, SqL.same s1 sy, rfl⟩, rfl, _, rfl, ?_⟩
        rw [lx, ly, decide_eq_true rfl]
        refine iteT ?_
        refine ⟨_, rfl, _, rfl, a, b, xs, ys, rfl, .inl ⟨SqL.same s1 sx, SqL.same s1 sy, fun D nD => ?_⟩⟩
        refine same_all (walk_zip (K := K) (xs := xs) (ys := ys) (by rw [lx, ly, Nat.min_self])) (DpAll.same s1 _ _ dx) (DpAll.same s1 _ _ dy) (fun H2 s2 => ⟨SqL.same (s1.trans s2) sx, SqL.same (s1.trans s2) sy⟩) nD hsz hsm.2 hd ⟨_, _, rfl⟩ fun H2 s2 h2 => ?_
        refine ⟨D, List.replicate ds.length true, rfl, lsq ?_, ?_⟩
        · rw [h2, List.map_replicate]
        · rw [show (List.replicate ds.length true).all id = true by simp]
          exact k _ (s1.trans s2)
      | tuple ds =>
        obtain ⟨a, xs, rfl, sx, dx⟩ := Dp.lenT hv
        obtain ⟨b, ys, rfl, sy, dy⟩ := Dp.lenT hu
        have hsm : decide (ds.length ≤ 5000) = true ∧ smallAll ds = true := by
          unfold small at hs
          exact Bool.and_eq_true_iff.mp hs
        have hsz : ds.length ≤ 5000 := of_decide_eq_true hsm.1
        have lx := DpAll.length dx
        have ly := DpAll.length dy
        refine ⟨_, rfl, rfl, _, rfl, iteF ⟨_, rfl, rfl, _, rfl, iteF ?_⟩⟩
        refine ⟨_, rfl, by show 2 ≤ sizeLine; decide, fun t nt => ?_⟩
        have s1 : Same H (upd H t (.tup [.ty "list", .ty "tuple"])) := same_upd nt
        have hv1 := Dp.same s1 _ _ hv
        have hu1 := Dp.same s1 _ _ hu
        refine ⟨_, t, _, _, _, rfl, upd_same, rfl, rfl, hu1, _, rfl, iteT ?_⟩
        refine ⟨_, rfl, _, _, _, rfl, rfl, hv1, _, rfl, _, _, _, rfl, rfl, hu1, rfl, _, rfl, iteF ?_⟩
        refine ⟨_, rfl, _, _, _, rfl, rfl, hv1, _, rfl, _, _, _, rfl, rfl, hu1, rfl, _, rfl, iteF ?_⟩
        refine ⟨_, rfl, .ref a, xs.length, rfl, .inr ⟨xs, SqT.same s1 sx, rfl⟩, _, rfl, .ref b, ys.length, rfl, .inr ⟨ys, SqT.same s1 sy, rfl⟩, rfl, _, rfl, ?_⟩
        rw [lx, ly, decide_eq_true rfl]
        refine iteT ?_
        refine ⟨_, rfl, _, rfl, a, b, xs, ys, rfl, .inr ⟨SqT.same s1 sx, SqT.same s1 sy, fun D nD => ?_⟩⟩
        refine same_all (walk_zipT (K := K) (xs := xs) (ys := ys) (by rw [lx, ly, Nat.min_self])) (DpAll.same s1 _ _ dx) (DpAll.same s1 _ _ dy) (fun H2 s2 => ⟨SqT.same (s1.trans s2) sx, SqT.same (s1.trans s2) sy⟩) nD hsz hsm.2 hd ⟨_, _, rfl⟩ fun H2 s2 h2 => ?_
        refine ⟨D, List.replicate ds.length true, rfl, lsq ?_, ?_⟩
        · rw [h2, List.map_replicate]
        · rw [show (List.replicate ds.length true).all id = true by simp]
          exact k _ (s1.trans s2)
      | dict ds => cases hv
end
end My
set_option Elab.async false
set_option linter.all false
set_option maxRecDepth 100000
namespace My
open PySem PySem.Spec PyProof.Rows L2
/-! ### what the words are worth -/
def letters : Str := "abcdefghijklmnopqrstuvwxyz"
def consS (x z : Str) : Bool := !decide (V.str x = V.str "") && (x.cps.toList.map fun c => decide (c ∈ z.cps.toList)).all id
def nameD (m : Int) : PyData → Bool
  | .str x => decide ((x.length : Int) ≤ m) && consS x letters
  | _ => false
def numD (lo hi : Int) : PyData → Bool
  | .int i => decide (lo ≤ i) && decide (i ≤ hi)
  | _ => false
def deedD : PyData → Bool
  | .none => true
  | .tuple [k, m] => ([PyData.str "send", PyData.str "receive"].any fun z => PyData.eqv z k) && nameD 4 m
  | _ => false
def stepD : PyData → Bool
  | .tuple [m, n, d] => nameD 4 m && (numD (-99) 99 n && deedD d)
  | _ => false
def spCons : Sp := fun vs H Q _ => ∃ x z : Str, vs = [.str x, .str z] ∧ x.length ≤ 5000 ∧ ∀ H', Same H H' → Q (.bl (consS x z)) H'
def spNum (K : PySem.W.Frag) : Sp := fun vs H Q _ => ∃ (v : V) (d : PyData) (lo hi : Int), vs = [v, .int lo, .int hi] ∧ Dp K H v d ∧ fine d = true ∧ Q (.bl (numD lo hi d)) H
section
variable {P : Program} {w : World} {K : PySem.W.Frag} {mg : Str → Option Value} {base : Heap} {A : Top}
theorem ok_cons (T : TopOk K mg A) : FnOk P w K mg base CX0 1 A.f_consists_of A.d_consists_of P_consists_of spCons := by
  refine T.F_consists_of.ok sc_consists_of (fun vs H Q E h => ?_) (fun cdv Ar outer s H vs Q E hr h => ?_)
  · obtain ⟨x, z, rfl, _⟩ := h
    rfl
  · obtain ⟨x, z, rfl, hl, k⟩ := h
    refine ⟨_, (pss_one (ps_ret (pe_and (pe_cmpR op_ne (pv 0) pe_str (nomark _)) (pe_one (pe_callB (cr_all rfl) (by rfl) T.b_all (by decide +kernel) (pa_cons (pe_lc (own := [("sign", 2)]) (g := gName 2) (by rfl) sc_consists_of.nd (pi_str (pv 0)) (blkOk_by (own := [("sign", 2)]) (N := N_consists_of) (sc := defScope s_consists_of) (by decide +kernel)) (fun _ _ _ _ _ => (pg_name (i := 2) sc_consists_of.nd rfl (by first | exact Or.inl rfl | exact Or.inr rfl))) (fun _ _ _ _ _ => pts_nil) (fun _ _ _ _ _ => (pe_cmpR op_in_sign (pv 2) (pv 1) (by rfl)))) pa_nil)))))), ?_⟩
    refine ⟨_, rfl, rfl, _, rfl, ite2 (fun e => ?_) (fun e => ?_)⟩
    · refine ⟨_, rfl, x, rfl, fun D nD => str_all nD hl (fun c => decide (c ∈ z.cps.toList)) (fun _ => rfl) (fun c H2 Q2 q2 => ⟨_, rfl, _, rfl, c, z, rfl, rfl, q2⟩) fun H2 s2 h2 => ?_⟩
      refine ⟨D, x.cps.toList.map fun c => decide (c ∈ z.cps.toList), rfl, lsq h2, ?_⟩
      have e2 : consS x z = (x.cps.toList.map fun c => decide (c ∈ z.cps.toList)).all id := by
        unfold consS
        rw [e, Bool.true_and]
      rw [← e2]
      exact k _ s2
    · have e2 : consS x z = false := by
        unfold consS
        rw [Bool.eq_false_iff.mpr e, Bool.false_and]
      have := k H (Same.refl _)
      rw [e2] at this
      exact this
theorem ok_is_name (T : TopOk K mg A) : FnOk P w K mg base CX0 2 A.f_is_name A.d_is_name P_is_name (spD K (nameD 6)) := by
  have G_consists_of : FnOk P w K mg base CX0 1 A.f_consists_of A.d_consists_of P_consists_of spCons := ok_cons T
  refine T.F_is_name.ok sc_is_name (fun vs H Q E h => ?_) (fun cdv Ar outer s H vs Q E hr h => ?_)
  · obtain ⟨x, z, rfl, _⟩ := h
    rfl
  · obtain ⟨v, d, rfl, hv, hf, k⟩ := h
    refine ⟨_, (pss_one (ps_ret (pe_and (pe_callB call_isD (by rfl) T.b_isinstance (by decide +kernel) (pa_cons (pv 0) (pa_cons (pe_bltn (v := .ty "str") (by rfl) T.b_str (by decide +kernel) rfl) pa_nil))) (pe_and (pe_cmpR op_le (pe_callB call_len (by rfl) T.b_len (by decide +kernel) (pa_cons (pv 0) pa_nil)) (pe_glob (by rfl) T.c_NAME_LENGTH T.r_NAME_LENGTH) (nomark _)) (pe_one (pe_call G_consists_of (hr.mono (by decide)) (by rfl) T.g_consists_of T.F_consists_of.kp T.a_consists_of .nil pass0 (pa_cons (pv 0) (pa_cons (pe_glob (by rfl) T.c_LETTERS T.r_LETTERS) pa_nil)))))))), ?_⟩
    refine ⟨_, rfl, _, _, _, rfl, rfl, hv, _, rfl, ?_⟩
    cases d with
    | str x =>
      cases hv
      have hl : x.length ≤ 5000 := by
        have := fine_small hf
        unfold small at this
        exact of_decide_eq_true this
      refine iteT ⟨_, rfl, _, _, rfl, ⟨sz (by omega), rfl⟩, _, _, rfl, rfl, _, rfl, ite2 (fun e => ?_) (fun e => ?_)⟩
      · refine ⟨_, rfl, x, letters, rfl, hl, fun H' s' => ?_⟩
        have e2 : nameD 6 (.str x) = consS x letters := by
          show (decide ((x.length : Int) ≤ 6) && consS x letters) = _
          rw [e, Bool.true_and]
        rw [← e2]
        exact k H' s'
      · have e2 : nameD 6 (.str x) = false := by
          show (decide ((x.length : Int) ≤ 6) && consS x letters) = _
          rw [Bool.eq_false_iff.mpr e, Bool.false_and]
        have := k H (Same.refl _)
        rw [e2] at this
        exact this
    | _ => exact iteF (k H (Same.refl _))
theorem ok_is_word (T : TopOk K mg A) : FnOk P w K mg base CX0 2 A.f_is_word A.d_is_word P_is_word (spD K (nameD 4)) := by
  have G_consists_of : FnOk P w K mg base CX0 1 A.f_consists_of A.d_consists_of P_consists_of spCons := ok_cons T
  refine T.F_is_word.ok sc_is_word (fun vs H Q E h => ?_) (fun cdv Ar outer s H vs Q E hr h => ?_)
  · obtain ⟨x, z, rfl, _⟩ := h
    rfl
  · obtain ⟨v, d, rfl, hv, hf, k⟩ := h
    refine ⟨_, (pss_one (ps_ret (pe_and (pe_callB call_isD (by rfl) T.b_isinstance (by decide +kernel) (pa_cons (pv 0) (pa_cons (pe_bltn (v := .ty "str") (by rfl) T.b_str (by decide +kernel) rfl) pa_nil))) (pe_and (pe_cmpR op_le (pe_callB call_len (by rfl) T.b_len (by decide +kernel) (pa_cons (pv 0) pa_nil)) (pe_glob (by rfl) T.c_WORD_LENGTH T.r_WORD_LENGTH) (nomark _)) (pe_one (pe_call G_consists_of (hr.mono (by decide)) (by rfl) T.g_consists_of T.F_consists_of.kp T.a_consists_of .nil pass0 (pa_cons (pv 0) (pa_cons (pe_glob (by rfl) T.c_LETTERS T.r_LETTERS) pa_nil)))))))), ?_⟩
    refine ⟨_, rfl, _, _, _, rfl, rfl, hv, _, rfl, ?_⟩
    cases d with
    | str x =>
      cases hv
      have hl : x.length ≤ 5000 := by
        have := fine_small hf
        unfold small at this
        exact of_decide_eq_true this
      refine iteT ⟨_, rfl, _, _, rfl, ⟨sz (by omega), rfl⟩, _, _, rfl, rfl, _, rfl, ite2 (fun e => ?_) (fun e => ?_)⟩
      · refine ⟨_, rfl, x, letters, rfl, hl, fun H' s' => ?_⟩
        have e2 : nameD 4 (.str x) = consS x letters := by
          show (decide ((x.length : Int) ≤ 4) && consS x letters) = _
          rw [e, Bool.true_and]
        rw [← e2]
        exact k H' s'
      · have e2 : nameD 4 (.str x) = false := by
          show (decide ((x.length : Int) ≤ 4) && consS x letters) = _
          rw [Bool.eq_false_iff.mpr e, Bool.false_and]
        have := k H (Same.refl _)
        rw [e2] at this
        exact this
    | _ => exact iteF (k H (Same.refl _))
theorem ok_is_number (T : TopOk K mg A) : FnOk P w K mg base CX0 1 A.f_is_number A.d_is_number P_is_number (spNum K) := by
  refine T.F_is_number.ok sc_is_number (fun vs H Q E h => ?_) (fun cdv Ar outer s H vs Q E hr h => ?_)
  · obtain ⟨x, d, lo, hi, rfl, _⟩ := h
    rfl
  · obtain ⟨v, d, lo, hi, rfl, hv, hf, k⟩ := h
    refine ⟨_, (pss_one (ps_ret (pe_and (pe_callB call_isD (by rfl) T.b_isinstance (by decide +kernel) (pa_cons (pv 0) (pa_cons (pe_bltn (v := .ty "int") (by rfl) T.b_int (by decide +kernel) rfl) pa_nil))) (pe_and (pe_not (pe_callB call_isD (by rfl) T.b_isinstance (by decide +kernel) (pa_cons (pv 0) (pa_cons (pe_bltn (v := .ty "bool") (by rfl) T.b_bool (by decide +kernel) rfl) pa_nil)))) (pe_one (pe_chain op_le op_le (pv 1) (pv 0) (pv 2))))))), ?_⟩
    refine ⟨_, rfl, _, _, _, rfl, rfl, hv, _, rfl, ?_⟩
    cases d with
    | int i =>
      cases hv
      refine iteT ⟨_, rfl, _, _, _, rfl, rfl, .int i, _, rfl, _, rfl, iteT ⟨_, rfl, _, rfl, _, _, rfl, rfl, _, rfl, ite2 (fun e => ?_) (fun e => ?_)⟩⟩
      · refine ⟨_, rfl, _, _, rfl, rfl, ?_⟩
        have e2 : numD lo hi (.int i) = decide (i ≤ hi) := by
          show (decide (lo ≤ i) && decide (i ≤ hi)) = _
          rw [e, Bool.true_and]
        rw [e2] at k
        exact k
      · have e2 : numD lo hi (.int i) = false := by
          show (decide (lo ≤ i) && decide (i ≤ hi)) = _
          rw [Bool.eq_false_iff.mpr e, Bool.false_and]
        rw [e2] at k
        exact k
    | bool b =>
      cases hv
      exact iteT ⟨_, rfl, _, _, _, rfl, rfl, .bl b, _, rfl, _, rfl, iteF k⟩
    | _ => exact iteF k
theorem smallT {ds : List PyData} (h : fine (.tuple ds) = true) : ds.length ≤ 5000 ∧ smallAll ds = true := by
  have := fine_small h
  unfold small at this
  exact ⟨of_decide_eq_true (Bool.and_eq_true_iff.mp this).1, (Bool.and_eq_true_iff.mp this).2⟩
theorem shapedAll : ∀ {ds : List PyData} {i : Nat} {d : PyData}, PyData.canLayAll0 ds = true → PyData.depthAll ds ≤ 63 → ds[i]? = some d → SeqAt.shaped d = true
  | [], _, _, _, _, e => by simp at e
  | x :: ds, 0, d, h, hd, e => by
    simp at e; subst e
    unfold PyData.canLayAll0 at h
    unfold PyData.depthAll at hd
    unfold SeqAt.shaped
    rw [(Bool.and_eq_true_iff.mp h).1, Bool.true_and]
    exact decide_eq_true (by omega)
  | x :: ds, i + 1, d, h, hd, e => by
    unfold PyData.canLayAll0 at h
    unfold PyData.depthAll at hd
    exact shapedAll (i := i) (Bool.and_eq_true_iff.mp h).2 (by omega) (by simpa using e)
theorem fine_get {ds : List PyData} {i : Nat} {d : PyData} (h : fine (.tuple ds) = true) (e : ds[i]? = some d) : fine d = true := by
  have h1 := (smallT h).2
  have h2 := fine_shaped h
  unfold SeqAt.shaped at h2
  have h3 : PyData.canLayAll0 ds = true := (Bool.and_eq_true_iff.mp h2).1
  have h4 : PyData.depthAll ds + 1 ≤ 64 := of_decide_eq_true (Bool.and_eq_true_iff.mp h2).2
  unfold fine
  rw [smallAll_get h1 e, shapedAll h3 (by omega) e]
  rfl
def deedsD : PyData := .tuple [.tuple [.str "send", .str "!"], .tuple [.str "receive", .str "?"]]
theorem deeds_rows {q : Addr} (hq : ∀ H, Dp K H (.ref q) deedsD) : ∃ r1 r2, ∀ H, SqT K H q [r1, r2] ∧ (∃ t1, r1 = .ref t1 ∧ SqT K H t1 [.str "send", .str "!"]) ∧ (∃ t2, r2 = .ref t2 ∧ SqT K H t2 [.str "receive", .str "?"]) := by
  obtain ⟨a, xs, e, sx, dx⟩ := Dp.lenT (hq fun _ => none)
  cases e
  cases dx with
  | @cons r1 _ _ _ h1 dx =>
    cases dx with
    | @cons r2 _ _ _ h2 dx =>
      cases dx
      obtain ⟨t1, ys, rfl, s1, d1⟩ := Dp.lenT h1
      obtain ⟨t2, zs, rfl, s2, d2⟩ := Dp.lenT h2
      refine ⟨_, _, fun H => ⟨SqT.static sx H, ⟨t1, rfl, ?_⟩, ⟨t2, rfl, ?_⟩⟩⟩
      · cases d1 with
        | cons a b =>
          cases a
          cases b with
          | cons a b =>
            cases a
            cases b
            exact SqT.static s1 H
      · cases d2 with
        | cons a b =>
          cases a
          cases b with
          | cons a b =>
            cases a
            cases b
            exact SqT.static s2 H
theorem deeds_lc {H0 : Hp} {q D : Addr} {Qd : Hp → Prop} {σ : L2.St} (hq : ∀ H, Dp K H (.ref q) deedsD) (hD : H0 D = none) (hσ : ∃ a b c, σ = [a, b, c])
    (hk : ∀ H', Same H0 H' → H' D = some (.lst [.str "send", .str "receive"]) → Qd H') :
    ∃ W : Nat → Nat → Hp → Prop, (∃ m, W 0 m (upd H0 D (.lst []))) ∧ ∀ i m H, W i m H →
      ((Itt K q).stop i H ∧ Qd H) ∨ ((Itt K q).go i H ∧ ∃ Nx : Hp → Prop, (∀ H', Nx H' → ∃ m', m' < m ∧ W (i + 1) m' H') ∧ ∀ x H', (Itt K q).yld i H x H' → (gTup K 2 (gCons (gName 1) (gCons (gName 2) gNil))) x (wipe σ [1, 2]) H' fun σ2 H2 => wipe σ2 [1, 2] = wipe σ [1, 2] ∧ tYes σ2 H2 fun b H3 =>
        if b = true then (tVar 1) σ2 H3 fun y H4 => ∃ acc, H4 D = some (.lst acc) ∧ acc.length < sizeLine ∧ Nx (upd H4 D (.lst (acc ++ [y]))) else Nx H3) := by
  obtain ⟨a, b, c, rfl⟩ := hσ
  obtain ⟨r1, r2, hx⟩ := deeds_rows hq
  refine lc_it (walk_tup (xs := [r1, r2])) (fun i H => Same H0 H ∧ H D = some (.lst ([V.str "send", V.str "receive"].take i))) ⟨same_upd hD, upd_same⟩ (fun _ H _ _ => (hx H).1) (fun i x H H' hi h y => ?_) fun H h => hk H h.1 h.2
  obtain ⟨s1, h1⟩ := h
  obtain ⟨rfl, ex⟩ := y
  obtain ⟨_, ⟨t1, rfl, q1⟩, ⟨t2, rfl, q2⟩⟩ := hx H'
  match i, hi with
  | 0, _ =>
    have e : x = .ref t1 := (Option.some.inj ex).symm
    subst e
    refine ⟨t1, _, rfl, q1, rfl, _, _, rfl, _, _, rfl, rfl, rfl, _, rfl, _, h1, (by decide), fun c o hc => ?_, upd_same⟩
    rw [upd_ne (ne_of_none hc hD)]
    exact s1 _ _ hc
  | 1, _ =>
    have e : x = .ref t2 := (Option.some.inj ex).symm
    subst e
    refine ⟨t2, _, rfl, q2, rfl, _, _, rfl, _, _, rfl, rfl, rfl, _, rfl, _, h1, (by decide), fun c o hc => ?_, upd_same⟩
    rw [upd_ne (ne_of_none hc hD)]
    exact s1 _ _ hc
theorem ok_is_deed (T : TopOk K mg A) : FnOk P w K mg base CX0 3 A.f_is_deed A.d_is_deed P_is_deed (spD K deedD) := by
  have G_is_word : FnOk P w K mg base CX0 2 A.f_is_word A.d_is_word P_is_word (spD K (nameD 4)) := ok_is_word T
  refine T.F_is_deed.ok sc_is_deed (fun vs H Q E h => ?_) (fun cdv Ar outer s H vs Q E hr h => ?_)
  · obtain ⟨x, d, rfl, _⟩ := h
    rfl
  · obtain ⟨v, d, rfl, hv, hf, k⟩ := h
    refine ⟨_, (pss_cons (ps_if (pt_cmpR op_isN (pv 0) pe_non (nomark _))
      (pss_one (ps_ret pe_bl))
      pss_nil)
      (pss_cons (ps_if (PW.pt (pw_or (pt_not (pt_val (pe_callB call_isD (by rfl) T.b_isinstance (by decide +kernel) (pa_cons (pv 0) (pa_cons (pe_bltn (v := .ty "tuple") (by rfl) T.b_tuple (by decide +kernel) rfl) pa_nil))))) (pw_or1 (pt_cmpR op_ne (pe_callB call_len (by rfl) T.b_len (by decide +kernel) (pa_cons (pv 0) pa_nil)) pe_int (nomark _)))))
      (pss_one (ps_ret pe_bl))
      pss_nil)
      (pss_one (ps_ret (pe_and (pe_cmpR (L2.op_inD (hu65 hr)) (pe_ix ix_tup (pv 0) pe_int (fun _ _ => rfl)) (pe_lc (own := [("kind", 1), ("sign", 2)]) (g := gTup K 2 (gCons (gName 1) (gCons (gName 2) gNil))) (by rfl) sc_is_deed.nd (pi_tup (pe_glob (by rfl) T.c_DEEDS T.r_DEEDS)) (blkOk_by (own := [("kind", 1), ("sign", 2)]) (N := N_is_deed) (sc := defScope s_is_deed) (by decide +kernel)) (fun _ _ _ _ _ => (pg_tup rfl (pgs_cons (pg_name (i := 1) sc_is_deed.nd rfl (by first | exact Or.inl rfl | exact Or.inr rfl)) (pgs_cons (pg_name (i := 2) sc_is_deed.nd rfl (by first | exact Or.inl rfl | exact Or.inr rfl)) pgs_nil)))) (fun _ _ _ _ _ => pts_nil) (fun _ _ _ _ _ => (pv 1))) (by rfl)) (pe_one (pe_call G_is_word (hr.mono (by decide)) (by rfl) T.g_is_word T.F_is_word.kp T.a_is_word .nil pass0 (pa_cons (pe_ix ix_tup (pv 0) pe_int (fun _ _ => rfl)) pa_nil)))))))), ?_⟩
    cases d with
    | none =>
      cases hv
      exact ⟨_, rfl, rfl, _, rfl, iteT (k H (Same.refl _))⟩
    | tuple ds =>
      obtain ⟨a, xs, rfl, sx, dx⟩ := Dp.lenT hv
      have lx := DpAll.length dx
      refine ⟨_, rfl, rfl, _, rfl, iteF ?_⟩
      refine ⟨_, rfl, _, _, _, rfl, rfl, hv, _, rfl, iteF ?_⟩
      refine ⟨_, rfl, .ref a, xs.length, rfl, .inr ⟨xs, sx, rfl⟩, rfl, _, rfl, ?_⟩
      match ds, dx, lx, hf, k with
      | [dk, dm], dx, lx, hf, k =>
        cases dx with
        | @cons vk _ _ _ hk dx =>
          cases dx with
          | @cons vm _ _ _ hm dx =>
            cases dx
            refine iteF ?_
            have fk : fine dk = true := fine_get (i := 0) hf rfl
            have fm : fine dm = true := fine_get (i := 1) hf rfl
            refine ⟨_, rfl, a, _, _, vk, rfl, rfl, sx, rfl, A.q_DEEDS, rfl, ?_⟩
            obtain ⟨r1, r2, hx⟩ := deeds_rows T.t_DEEDS
            refine ⟨⟨_, (hx H).1⟩, fun D nD => deeds_lc T.t_DEEDS nD ⟨_, _, _, rfl⟩ fun H2 s2 h2 => ?_⟩
            refine ⟨dk, [.str "send", .str "receive"], Dp.same s2 _ _ hk, .lst (lsq h2) (.cons (.str _) (.cons (.str _) .nil)), fine_shaped fk, by decide +kernel, _, rfl, ite2 (fun e => ?_) (fun e => ?_)⟩
            · refine ⟨_, rfl, a, _, _, vm, rfl, rfl, SqT.same s2 sx, rfl, vm, dm, rfl, Dp.same s2 _ _ hm, fm, fun H3 s3 => ?_⟩
              have e2 : deedD (.tuple [dk, dm]) = nameD 4 dm := by
                show (([PyData.str "send", PyData.str "receive"].any fun z => PyData.eqv z dk) && nameD 4 dm) = _
                rw [e, Bool.true_and]
              have := k H3 (s2.trans s3)
              rw [e2] at this
              exact this
            · have e2 : deedD (.tuple [dk, dm]) = false := by
                show (([PyData.str "send", PyData.str "receive"].any fun z => PyData.eqv z dk) && nameD 4 dm) = _
                rw [Bool.eq_false_iff.mpr e, Bool.false_and]
              have := k H2 s2
              rw [e2] at this
              exact this
      | [], dx, lx, hf, k =>
        rw [show xs.length = 0 from lx]
        exact iteT (k H (Same.refl _))
      | [_], dx, lx, hf, k =>
        rw [show xs.length = 1 from lx]
        exact iteT (k H (Same.refl _))
      | _ :: _ :: _ :: ds, dx, lx, hf, k =>
        rw [show xs.length = ds.length + 3 from lx]
        have hne : (!decide (V.int ((ds.length + 3 : Nat) : Int) = V.int 2)) = true := by
          rw [Bool.not_eq_true', decide_eq_false_iff_not]
          intro z
          have := V.int.inj z
          omega
        rw [hne]
        exact iteT (k H (Same.refl _))
    | bool b =>
      cases hv
      exact ⟨_, rfl, rfl, _, rfl, iteF ⟨_, rfl, _, _, _, rfl, rfl, .bl b, _, rfl, iteT (iteT (k H (Same.refl _)))⟩⟩
    | int b =>
      cases hv
      exact ⟨_, rfl, rfl, _, rfl, iteF ⟨_, rfl, _, _, _, rfl, rfl, .int b, _, rfl, iteT (iteT (k H (Same.refl _)))⟩⟩
    | str b =>
      cases hv
      exact ⟨_, rfl, rfl, _, rfl, iteF ⟨_, rfl, _, _, _, rfl, rfl, .str b, _, rfl, iteT (iteT (k H (Same.refl _)))⟩⟩
    | list ds =>
      obtain ⟨a, xs, rfl, sx, dx⟩ := Dp.lenL hv
      exact ⟨_, rfl, rfl, _, rfl, iteF ⟨_, rfl, _, _, _, rfl, rfl, hv, _, rfl, iteT (iteT (k H (Same.refl _)))⟩⟩
    | dict ds => cases hv
end
end My
set_option Elab.async false
set_option linter.all false
set_option maxRecDepth 100000
namespace My
open PySem PySem.Spec PyProof.Rows L2 TL PySem.PyData
/-! ### the mathematics of names -/
theorem empty_len {z : Str} : decide (V.str z = V.str "") = decide (z.length = 0) := by
  rw [Bool.eq_iff_iff, decide_eq_true_iff, decide_eq_true_iff]
  constructor
  · intro e
    rw [V.str.inj e]
    rfl
  · intro e
    have : z = "" := ext_tl (by
      rw [len_tl] at e
      rw [List.eq_nil_of_length_eq_zero e]
      rfl)
    rw [this]
/-! ### steps -/
section
variable {P : Program} {w : World} {K : PySem.W.Frag} {mg : Str → Option Value} {base : Heap} {A : Top}
theorem ok_is_step (T : TopOk K mg A) : FnOk P w K mg base CX0 4 A.f_is_step A.d_is_step P_is_step (spD K stepD) := by
  have G_is_word : FnOk P w K mg base CX0 2 A.f_is_word A.d_is_word P_is_word (spD K (nameD 4)) := ok_is_word T
  have G_is_number : FnOk P w K mg base CX0 1 A.f_is_number A.d_is_number P_is_number (spNum K) := ok_is_number T
  have G_is_deed : FnOk P w K mg base CX0 3 A.f_is_deed A.d_is_deed P_is_deed (spD K deedD) := ok_is_deed T
  refine T.F_is_step.ok sc_is_step (fun vs H Q E h => ?_) (fun cdv Ar outer s H vs Q E hr h => ?_)
  · obtain ⟨x, d, rfl, _⟩ := h
    rfl
  · obtain ⟨v, d, rfl, hv, hf, k⟩ := h
    refine ⟨_, (pss_cons (ps_if (PW.pt (pw_or (pt_not (pt_val (pe_callB call_isD (by rfl) T.b_isinstance (by decide +kernel) (pa_cons (pv 0) (pa_cons (pe_bltn (v := .ty "tuple") (by rfl) T.b_tuple (by decide +kernel) rfl) pa_nil))))) (pw_or1 (pt_cmpR op_ne (pe_callB call_len (by rfl) T.b_len (by decide +kernel) (pa_cons (pv 0) pa_nil)) pe_int (nomark _)))))
      (pss_one (ps_ret pe_bl))
      pss_nil)
      (pss_cons (ps_asg (pv 0) (pg_tup rfl (pgs_cons (pg_name (i := 1) sc_is_step.nd rfl (by first | exact Or.inl rfl | exact Or.inr rfl)) (pgs_cons (pg_name (i := 2) sc_is_step.nd rfl (by first | exact Or.inl rfl | exact Or.inr rfl)) (pgs_cons (pg_name (i := 3) sc_is_step.nd rfl (by first | exact Or.inl rfl | exact Or.inr rfl)) pgs_nil)))))
      (pss_one (ps_ret (pe_and (pe_call G_is_word (hr.mono (by decide)) (by rfl) T.g_is_word T.F_is_word.kp T.a_is_word .nil pass0 (pa_cons (pv 1) pa_nil)) (pe_and (pe_call G_is_number (hr.mono (by decide)) (by rfl) T.g_is_number T.F_is_number.kp T.a_is_number .nil pass0 (pa_cons (pv 2) (pa_cons (pe_glob (by rfl) T.c_LEAST T.r_LEAST) (pa_cons (pe_glob (by rfl) T.c_MOST T.r_MOST) pa_nil)))) (pe_one (pe_call G_is_deed (hr.mono (by decide)) (by rfl) T.g_is_deed T.F_is_deed.kp T.a_is_deed .nil pass0 (pa_cons (pv 3) pa_nil))))))))), ?_⟩
    cases d with
    | tuple ds =>
      obtain ⟨a, xs, rfl, sx, dx⟩ := Dp.lenT hv
      have lx := DpAll.length dx
      refine ⟨_, rfl, _, _, _, rfl, rfl, hv, _, rfl, iteF ?_⟩
      refine ⟨_, rfl, .ref a, xs.length, rfl, .inr ⟨xs, sx, rfl⟩, rfl, _, rfl, ?_⟩
      match ds, dx, lx, hf, k with
      | [dm, dn, dd], dx, lx, hf, k =>
        cases dx with
        | @cons vm _ _ _ hm dx =>
          cases dx with
          | @cons vn _ _ _ hn dx =>
            cases dx with
            | @cons vd _ _ _ hd dx =>
              cases dx
              refine iteF ?_
              have fm : fine dm = true := fine_get (i := 0) hf rfl
              have fn : fine dn = true := fine_get (i := 1) hf rfl
              have fd : fine dd = true := fine_get (i := 2) hf rfl
              refine ⟨_, rfl, a, _, rfl, sx, rfl, _, _, rfl, _, _, rfl, _, _, rfl, rfl, ?_⟩
              refine ⟨_, rfl, vm, dm, rfl, hm, fm, fun H1 s1 => ⟨_, rfl, ite2 (fun e => ?_) (fun e => ?_)⟩⟩
              · refine ⟨_, rfl, vn, dn, -99, 99, rfl, Dp.same s1 _ _ hn, fn, _, rfl, ite2 (fun e' => ?_) (fun e' => ?_)⟩
                · refine ⟨_, rfl, vd, dd, rfl, Dp.same s1 _ _ hd, fd, fun H2 s2 => ?_⟩
                  have e2 : stepD (.tuple [dm, dn, dd]) = deedD dd := by
                    show (nameD 4 dm && (numD (-99) 99 dn && deedD dd)) = _
                    rw [e, e', Bool.true_and, Bool.true_and]
                  have := k H2 (s1.trans s2)
                  rw [e2] at this
                  exact this
                · have e2 : stepD (.tuple [dm, dn, dd]) = false := by
                    show (nameD 4 dm && (numD (-99) 99 dn && deedD dd)) = _
                    rw [Bool.eq_false_iff.mpr e', Bool.false_and, Bool.and_false]
                  have := k H1 s1
                  rw [e2] at this
                  exact this
              · have e2 : stepD (.tuple [dm, dn, dd]) = false := by
                  show (nameD 4 dm && (numD (-99) 99 dn && deedD dd)) = _
                  rw [Bool.eq_false_iff.mpr e, Bool.false_and]
                have := k H1 s1
                rw [e2] at this
                exact this
      | [], dx, lx, hf, k =>
        rw [show xs.length = 0 from lx]
        exact iteT (k H (Same.refl _))
      | [_], dx, lx, hf, k =>
        rw [show xs.length = 1 from lx]
        exact iteT (k H (Same.refl _))
      | [_, _], dx, lx, hf, k =>
        rw [show xs.length = 2 from lx]
        exact iteT (k H (Same.refl _))
      | _ :: _ :: _ :: _ :: ds, dx, lx, hf, k =>
        rw [show xs.length = ds.length + 4 from lx]
        have hne : (!decide (V.int ((ds.length + 4 : Nat) : Int) = V.int 3)) = true := by
          rw [Bool.not_eq_true', decide_eq_false_iff_not]
          intro z
          have := V.int.inj z
          omega
        rw [hne]
        exact iteT (k H (Same.refl _))
    | dict ds => cases hv
    | _ => exact ⟨_, rfl, _, _, _, rfl, rfl, hv, _, rfl, iteT (iteT (k H (Same.refl _)))⟩
end
end My
set_option Elab.async false
set_option linter.all false
set_option maxRecDepth 100000
namespace My
open PySem PySem.Spec PyProof.Rows L2 TL
/-! ### the texts of steps, as the program reckons them -/
/-! ### what a right step is -/
theorem name_inv {x : Str} {k : Int} (h : nameD k (.str x) = true) : (∀ c ∈ tl x, c ∈ letters.cps.toList) ∧ tl x ≠ [] ∧ (x.length : Int) ≤ k := by
  have h' : (decide ((x.length : Int) ≤ k) && (!decide (V.str x = V.str "") && (x.cps.toList.map fun c => decide (c ∈ letters.cps.toList)).all id)) = true := h
  rw [empty_len] at h'
  obtain ⟨h1, h2⟩ := Bool.and_eq_true_iff.mp h'
  obtain ⟨h2, h3⟩ := Bool.and_eq_true_iff.mp h2
  refine ⟨fun c hc => ?_, fun e => ?_, of_decide_eq_true h1⟩
  · have := List.all_eq_true.mp h3 (decide (c ∈ letters.cps.toList)) (List.mem_map.mpr ⟨c, hc, rfl⟩)
    exact of_decide_eq_true this
  · have e0 : x.length = 0 := by rw [len_tl, e]; rfl
    rw [e0] at h2
    exact absurd h2 (by decide)
theorem name_str {d : PyData} {k : Int} (h : nameD k d = true) : ∃ x, d = .str x := by
  cases d with
  | str x => exact ⟨x, rfl⟩
  | _ => exact absurd h (by simp [nameD])
def Deed : PyData → Prop := fun d => d = .none ∨ ∃ w, nameD 4 (.str w) = true ∧ (d = .tuple [.str "send", .str w] ∨ d = .tuple [.str "receive", .str w])
theorem eqv_str {k : PyData} {z : Str} (h : PyData.eqv (.str z) k = true) : k = .str z := by
  cases k with
  | str x => exact congrArg PyData.str (eq_of_beq h).symm
  | _ => exact absurd h (by simp [PyData.eqv])
theorem deed_inv {d : PyData} (h : deedD d = true) : Deed d := by
  unfold deedD at h
  split at h
  · exact .inl rfl
  · rename_i k m
    obtain ⟨h1, h2⟩ := Bool.and_eq_true_iff.mp h
    obtain ⟨w, rfl⟩ := name_str h2
    refine .inr ⟨w, h2, ?_⟩
    have h3 : (PyData.eqv (.str "send") k || (PyData.eqv (.str "receive") k || false)) = true := h1
    rcases Bool.or_eq_true_iff.mp h3 with h3 | h3
    · exact .inl (by rw [eqv_str h3])
    · rw [Bool.or_false] at h3
      exact .inr (by rw [eqv_str h3])
  · exact absurd h (by decide)
theorem step_inv {d : PyData} (h : stepD d = true) : ∃ m n dd, d = .tuple [.str m, .int n, dd] ∧ nameD 4 (.str m) = true ∧ -99 ≤ n ∧ n ≤ 99 ∧ Deed dd := by
  unfold stepD at h
  split at h
  · rename_i m n dd
    obtain ⟨h1, h2⟩ := Bool.and_eq_true_iff.mp h
    obtain ⟨h2, h3⟩ := Bool.and_eq_true_iff.mp h2
    obtain ⟨x, rfl⟩ := name_str h1
    cases n with
    | int i =>
      obtain ⟨h4, h5⟩ := Bool.and_eq_true_iff.mp (show (decide (-99 ≤ i) && decide (i ≤ 99)) = true from h2)
      exact ⟨x, i, dd, rfl, h1, of_decide_eq_true h4, of_decide_eq_true h5, deed_inv h3⟩
    | _ => exact absurd h2 (by simp [numD])
  · exact absurd h (by decide)
/-! ### numbers, each by itself -/
/-! ### the text of a right step is read back -/
theorem letter_of {c : Nat} (h : c ∈ letters.cps.toList) : 97 ≤ c ∧ c ≤ 122 := by
  have : ∀ c ∈ letters.cps.toList, 97 ≤ c ∧ c ≤ 122 := by decide +kernel
  exact this c h
end My
set_option Elab.async false
set_option linter.all false
set_option maxRecDepth 100000
namespace My
open PySem PySem.Spec PyProof.Rows L2 TL PySem.StrLaws NumText
/-! ### the two kinds of deeds, one behind the other -/
def kd (i : Nat) : Str := if i = 0 then "send" else "receive"
def sg (i : Nat) : Str := if i = 0 then "!" else "?"
end My
set_option Elab.async false
set_option linter.all false
set_option maxRecDepth 100000
namespace My
open PySem PySem.Spec PyProof.Rows L2 TL
/-! ### parts are right data -/
def GoodS (x : Str) : Prop := x.length ≤ 5000 ∧ ∀ c ∈ tl x, c < 1114112
theorem good_fine {x : Str} (h : GoodS x) : fine (.str x) = true := by
  show (decide (x.length ≤ 5000) && (PyData.strOk x && decide (0 ≤ 64))) = true
  have e : PyData.strOk x = true := by
    unfold PyData.strOk
    rw [← Array.all_toList, List.all_eq_true]
    intro c hc
    exact decide_eq_true (h.2 c hc)
  rw [e, decide_eq_true h.1]
  rfl
theorem fine_list {ds : List PyData} (h : ∀ d ∈ ds, small d = true ∧ PyData.canLay0 d = true ∧ d.depth ≤ 20) : smallAll ds = true ∧ PyData.canLayAll0 ds = true ∧ PyData.depthAll ds ≤ 20 := by
  induction ds with
  | nil => exact ⟨rfl, rfl, by show 0 ≤ 20; decide⟩
  | cons d ds ih =>
    obtain ⟨a, b, c⟩ := h d (List.mem_cons_self ..)
    obtain ⟨a', b', c'⟩ := ih fun x hx => h x (List.mem_cons_of_mem _ hx)
    refine ⟨?_, ?_, ?_⟩
    · show (small d && smallAll ds) = true
      rw [a, a']
      rfl
    · show (PyData.canLay0 d && PyData.canLayAll0 ds) = true
      rw [b, b']
      rfl
    · show max d.depth (PyData.depthAll ds) ≤ 20
      omega
end My
set_option Elab.async false
set_option linter.all false
set_option maxRecDepth 100000
namespace My
open PySem PySem.Spec PyProof.Rows L2 TL
/-! ### logs, as they are meant -/
structure Stp where
  m : Str
  n : Int
  d : Option (Bool × Str)
structure Row where
  n : Str
  k : Bool
  s : List Stp
def kindS (b : Bool) : Str := if b = true then "send" else "receive"
def deedQ (d : Bool × Str) : PyData := .tuple [.str (kindS d.1), .str d.2]
def deedP : Option (Bool × Str) → PyData
  | none => .none
  | some d => deedQ d
def stpP (s : Stp) : PyData := .tuple [.str s.m, .int s.n, deedP s.d]
def rowP (r : Row) : PyData := .tuple [.str r.n, seqD r.k (r.s.map stpP)]
def rowsP (k : Bool) (rs : List Row) : PyData := seqD k (rs.map rowP)
def deeds (rs : List Row) : List (Bool × Str) := rs.flatMap fun r => r.s.filterMap (·.d)
def stepAt (rs : List Row) (i j : Nat) : Option Stp := (rs[i]?).bind fun r => r.s[j]?
structure Sta where
  pl : List Nat
  md : List (Bool × Str)
  od : List (Nat × Nat)
def canD (md : List (Bool × Str)) : Option (Bool × Str) → Bool
  | none => true
  | some (true, _) => true
  | some (false, w) => decide ((true, w) ∈ md)
def readyAt (rs : List Row) (pl : List Nat) (md : List (Bool × Str)) (i : Nat) : Bool := match stepAt rs i (pl.getD i 0) with
  | some s => canD md s.d
  | none => false
def ready (rs : List Row) (pl : List Nat) (md : List (Bool × Str)) : Option Nat := (List.range rs.length).find? fun i => readyAt rs pl md i
def addD (md : List (Bool × Str)) : Option (Bool × Str) → List (Bool × Str)
  | none => md
  | some d => md ++ [d]
def adv (t : Sta) (i : Nat) (s : Stp) : Sta := ⟨t.pl.set i (t.pl.getD i 0 + 1), addD t.md s.d, t.od ++ [(i, t.pl.getD i 0)]⟩
def runO (rs : List Row) : Nat → Sta → Sta
  | 0, t => t
  | f + 1, t => match ready rs t.pl t.md with
    | none => t
    | some i => match stepAt rs i (t.pl.getD i 0) with
      | some s => runO rs f (adv t i s)
      | none => t
def sta0 (rs : List Row) : Sta := ⟨rs.map fun _ => 0, [], []⟩
def total (rs : List Row) : Nat := (rs.map fun r => r.s.length).sum
def lastO (rs : List Row) : Sta := runO rs (total rs) (sta0 rs)
def tripP (rs : List Row) (p : Nat × Nat) : PyData := match rs[p.1]? with
  | some r => match r.s[p.2]? with
    | some s => .tuple [.str r.n, .int (p.2 : Nat), stpP s]
    | none => .none
  | none => .none
def orderP (rs : List Row) : PyData := .list ((lastO rs).od.map (tripP rs))
/-- right rows -/
structure Valid (rs : List Row) : Prop where
  few : rs.length ≤ 6
  name : ∀ r ∈ rs, nameD 6 (.str r.n) = true
  nd : (rs.map (·.n)).Nodup
  len : ∀ r ∈ rs, r.s.length ≤ 20
  step : ∀ r ∈ rs, ∀ s ∈ r.s, stepD (stpP s) = true
  once : (deeds rs).Nodup
  sent : ∀ w, (false, w) ∈ deeds rs → (true, w) ∈ deeds rs
  done : ∀ i r, rs[i]? = some r → (lastO rs).pl.getD i 0 = r.s.length
theorem stepAt_row {rs : List Row} {i j : Nat} {s : Stp} (h : stepAt rs i j = some s) : ∃ r, rs[i]? = some r ∧ r.s[j]? = some s := by
  unfold stepAt at h
  cases e : rs[i]? with
  | none => rw [e] at h; cases h
  | some r => rw [e] at h; exact ⟨r, rfl, h⟩
theorem stepAt_of {rs : List Row} {i j : Nat} {s : Stp} {r : Row} (h : rs[i]? = some r) (h2 : r.s[j]? = some s) : stepAt rs i j = some s := by
  unfold stepAt
  rw [h]
  exact h2
theorem mem_deeds {rs : List Row} {d : Bool × Str} : d ∈ deeds rs ↔ ∃ i j s, stepAt rs i j = some s ∧ s.d = some d := by
  unfold deeds
  rw [List.mem_flatMap]
  constructor
  · rintro ⟨r, hr, hd⟩
    obtain ⟨s, hs, e⟩ := List.mem_filterMap.mp hd
    obtain ⟨i, hi⟩ := List.getElem?_of_mem hr
    obtain ⟨j, hj⟩ := List.getElem?_of_mem hs
    exact ⟨i, j, s, stepAt_of hi hj, e⟩
  · rintro ⟨i, j, s, h, e⟩
    obtain ⟨r, h1, h2⟩ := stepAt_row h
    exact ⟨r, List.mem_of_getElem? h1, List.mem_filterMap.mpr ⟨s, List.mem_of_getElem? h2, e⟩⟩
theorem ready_some {rs : List Row} {pl : List Nat} {md : List (Bool × Str)} {i : Nat} (h : ready rs pl md = some i) : ∃ r s, rs[i]? = some r ∧ r.s[pl.getD i 0]? = some s ∧ canD md s.d = true := by
  have h1 := List.find?_some h
  unfold readyAt at h1
  split at h1
  · rename_i s e
    obtain ⟨r, a, b⟩ := stepAt_row e
    exact ⟨r, s, a, b, h1⟩
  · cases h1
theorem ready_none {rs : List Row} {pl : List Nat} {md : List (Bool × Str)} (h : ready rs pl md = none) {i : Nat} {s : Stp} (hs : stepAt rs i (pl.getD i 0) = some s) : canD md s.d = false := by
  obtain ⟨r, a, _⟩ := stepAt_row hs
  have hi : i < rs.length := (List.getElem?_eq_some_iff.mp a).1
  have h1 := List.find?_eq_none.mp h i (List.mem_range.mpr hi)
  unfold readyAt at h1
  rw [hs] at h1
  exact Bool.eq_false_iff.mpr h1
theorem runO_fix {rs : List Row} {t : Sta} (h : ready rs t.pl t.md = none) : ∀ m, runO rs m t = t
  | 0 => rfl
  | m + 1 => by
    unfold runO
    rw [h]
theorem runO_step {rs : List Row} {t : Sta} {i : Nat} {s : Stp} (h : ready rs t.pl t.md = some i) (hs : stepAt rs i (t.pl.getD i 0) = some s) (m : Nat) : runO rs (m + 1) t = runO rs m (adv t i s) := by
  show (match ready rs t.pl t.md with | none => t | some i => match stepAt rs i (t.pl.getD i 0) with | some s => runO rs m (adv t i s) | none => t) = _
  rw [h]
  dsimp only
  rw [hs]
/-! ### sums -/
theorem sum_le : ∀ (a b : List Nat), a.length = b.length → (∀ i, a.getD i 0 ≤ b.getD i 0) → a.sum ≤ b.sum
  | [], [], _, _ => Nat.le_refl _
  | x :: a, y :: b, hl, h => by
    have h0 := h 0
    have ih := sum_le a b (by simpa using hl) fun i => by simpa using h (i + 1)
    simp at h0 ⊢
    omega
theorem sum_lt : ∀ (a b : List Nat), a.length = b.length → (∀ i, a.getD i 0 ≤ b.getD i 0) → ∀ i, a.getD i 0 < b.getD i 0 → a.sum < b.sum
  | [], [], _, _, i, h => by simp at h
  | x :: a, y :: b, hl, h, 0, hi => by
    have ih := sum_le a b (by simpa using hl) fun i => by simpa using h (i + 1)
    simp at hi ⊢
    omega
  | x :: a, y :: b, hl, h, i + 1, hi => by
    have h0 := h 0
    have ih := sum_lt a b (by simpa using hl) (fun i => by simpa using h (i + 1)) i (by simpa using hi)
    simp at h0 ⊢
    omega
theorem sum_set : ∀ (a : List Nat) (i : Nat), i < a.length → (a.set i (a.getD i 0 + 1)).sum = a.sum + 1
  | x :: a, 0, _ => by simp; omega
  | x :: a, i + 1, h => by
    have := sum_set a i (by simpa using h)
    simp at this ⊢
    omega
theorem getD_set {a : List Nat} {i j v : Nat} (h : i < a.length) : (a.set i v).getD j 0 = if i = j then v else a.getD j 0 := by
  rw [List.getD_eq_getElem?_getD, List.getD_eq_getElem?_getD, List.getElem?_set]
  split
  · rename_i e
    subst e
    first | rfl | (rw [if_pos h]; rfl)
  · rfl
/-! ### how far the run is -/
structure Good (rs : List Row) (t : Sta) : Prop where
  pl : t.pl.length = rs.length
  le : ∀ i r, rs[i]? = some r → t.pl.getD i 0 ≤ r.s.length
  cnt : ∀ i, i < rs.length → (t.od.map (·.1)).count i = t.pl.getD i 0
  od : ∀ p ∈ t.od, p.1 < rs.length ∧ p.2 < t.pl.getD p.1 0
  md : ∀ d, d ∈ t.md ↔ ∃ i j s, j < t.pl.getD i 0 ∧ stepAt rs i j = some s ∧ s.d = some d
  odl : t.od.length = t.pl.sum
  mdl : t.md.length ≤ t.pl.sum
theorem sum_zeros : ∀ rs : List Row, (rs.map fun _ => 0).sum = 0
  | [] => rfl
  | r :: rs => by rw [List.map_cons, List.sum_cons, sum_zeros rs]
theorem getD_zeros (rs : List Row) (i : Nat) : (rs.map fun _ => 0).getD i 0 = 0 := by
  rw [List.getD_eq_getElem?_getD, List.getElem?_map]
  cases rs[i]? <;> rfl
theorem good0 (rs : List Row) : Good rs (sta0 rs) := by
  refine ⟨by simp [sta0], fun i r _ => ?_, fun i _ => ?_, fun p hp => ?_, fun d => ⟨fun h => ?_, fun ⟨i, j, s, h, _⟩ => ?_⟩, (sum_zeros rs).symm, Nat.zero_le _⟩
  · show (rs.map fun _ => 0).getD i 0 ≤ _
    rw [getD_zeros]
    exact Nat.zero_le _
  · show _ = (rs.map fun _ => 0).getD i 0
    rw [getD_zeros]
    rfl
  · cases hp
  · cases h
  · rw [show (sta0 rs).pl.getD i 0 = 0 from getD_zeros rs i] at h
    exact absurd h (Nat.not_lt_zero _)
theorem good_adv {rs : List Row} {t : Sta} {i : Nat} {s : Stp} (g : Good rs t) (hs : stepAt rs i (t.pl.getD i 0) = some s) : Good rs (adv t i s) := by
  obtain ⟨r, hr, hj⟩ := stepAt_row hs
  have hi : i < rs.length := (List.getElem?_eq_some_iff.mp hr).1
  have hip : i < t.pl.length := by rw [g.pl]; exact hi
  have hjl : t.pl.getD i 0 < r.s.length := (List.getElem?_eq_some_iff.mp hj).1
  have e : ∀ j, (adv t i s).pl.getD j 0 = if i = j then t.pl.getD i 0 + 1 else t.pl.getD j 0 := fun j => getD_set hip
  refine ⟨?_, fun j q hq => ?_, fun j hj2 => ?_, fun p hp => ?_, fun d => ?_, by
    show (t.od ++ [(i, t.pl.getD i 0)]).length = (t.pl.set i (t.pl.getD i 0 + 1)).sum
    rw [List.length_append, g.odl, sum_set _ _ hip]
    rfl, by
    show (addD t.md s.d).length ≤ (t.pl.set i (t.pl.getD i 0 + 1)).sum
    rw [sum_set _ _ hip]
    have := g.mdl
    unfold addD
    split
    · omega
    · rw [List.length_append]
      show _ + 1 ≤ _
      omega⟩
  · show (t.pl.set i _).length = _
    rw [List.length_set, g.pl]
  · rw [e]
    split
    · rename_i z
      subst z
      rw [hr] at hq
      cases hq
      exact hjl
    · exact g.le j q hq
  · rw [e]
    show ((t.od ++ [(i, t.pl.getD i 0)]).map (·.1)).count j = _
    rw [List.map_append, List.count_append, g.cnt j hj2]
    show _ + List.count j [i] = _
    rw [List.count_singleton]
    by_cases z : i = j
    · subst z
      simp
    · rw [if_neg z, if_neg (by simpa using z)]
      rfl
  · rw [e]
    rcases List.mem_append.mp hp with h | h
    · obtain ⟨a, b⟩ := g.od p h
      refine ⟨a, ?_⟩
      split
      · rename_i z
        rw [← z] at b
        omega
      · exact b
    · rw [List.mem_singleton.mp h]
      exact ⟨hi, by rw [if_pos rfl]; exact Nat.lt_succ_self _⟩
  · have old : d ∈ t.md ↔ _ := g.md d
    constructor
    · intro h
      have h' : d ∈ t.md ∨ s.d = some d := by
        have h2 : d ∈ addD t.md s.d := h
        unfold addD at h2
        split at h2
        · exact .inl h2
        · rename_i d' ed
          rcases List.mem_append.mp h2 with h2 | h2
          · exact .inl h2
          · rw [List.mem_singleton.mp h2]; exact .inr ed
      rcases h' with h' | h'
      · obtain ⟨i', j', s', a, b, c⟩ := old.mp h'
        refine ⟨i', j', s', ?_, b, c⟩
        rw [e]
        split
        · rename_i z
          rw [← z] at a
          omega
        · exact a
      · exact ⟨i, _, s, by rw [e, if_pos rfl]; exact Nat.lt_succ_self _, hs, h'⟩
    · rintro ⟨i', j', s', a, b, c⟩
      show d ∈ addD t.md s.d
      by_cases z : i = i' ∧ j' = t.pl.getD i 0
      · obtain ⟨z1, z2⟩ := z
        subst z1 z2
        rw [hs] at b
        cases b
        rw [c]
        exact List.mem_append_right _ (List.mem_singleton.mpr rfl)
      · have : d ∈ t.md := old.mpr ⟨i', j', s', by
          rw [e] at a
          split at a
          · rename_i q
            subst q
            have : j' ≠ t.pl.getD i 0 := fun y => z ⟨rfl, y⟩
            omega
          · exact a, b, c⟩
        unfold addD
        split
        · exact this
        · exact List.mem_append_left _ this
theorem total_eq (rs : List Row) (i : Nat) : (rs.map fun r => r.s.length).getD i 0 = match rs[i]? with | some r => r.s.length | none => 0 := by
  rw [List.getD_eq_getElem?_getD, List.getElem?_map]
  cases rs[i]? <;> rfl
theorem good_lt {rs : List Row} {t : Sta} {i : Nat} {s : Stp} (g : Good rs t) (hs : stepAt rs i (t.pl.getD i 0) = some s) : t.pl.sum < total rs := by
  obtain ⟨r, hr, hj⟩ := stepAt_row hs
  have hjl : t.pl.getD i 0 < r.s.length := (List.getElem?_eq_some_iff.mp hj).1
  refine sum_lt t.pl (rs.map fun r => r.s.length) (by rw [g.pl, List.length_map]) (fun j => ?_) i (by rw [total_eq, hr]; exact hjl)
  rw [total_eq]
  cases e : rs[j]? with
  | some q => exact g.le j q e
  | none =>
    rw [List.getD_eq_getElem?_getD, List.getElem?_eq_none]
    · exact Nat.zero_le _
    · rw [g.pl]; exact List.getElem?_eq_none_iff.mp e
theorem adv_sum {rs : List Row} {t : Sta} {i : Nat} {s : Stp} (g : Good rs t) (hs : stepAt rs i (t.pl.getD i 0) = some s) : (adv t i s).pl.sum = t.pl.sum + 1 := by
  obtain ⟨r, hr, _⟩ := stepAt_row hs
  exact sum_set t.pl i (by rw [g.pl]; exact (List.getElem?_eq_some_iff.mp hr).1)
/-- on the way to the end -/
structure Way (rs : List Row) (t : Sta) : Prop where
  g : Good rs t
  run : runO rs (total rs - t.pl.sum) t = lastO rs
theorem way0 (rs : List Row) : Way rs (sta0 rs) := ⟨good0 rs, by
  have : (sta0 rs).pl.sum = 0 := by
    show (rs.map fun _ => 0).sum = 0
    induction rs with
    | nil => rfl
    | cons r rs ih => simpa using ih
  rw [this]
  rfl⟩
theorem Way.adv {rs : List Row} {t : Sta} {i : Nat} {s : Stp} (h : Way rs t) (hi : ready rs t.pl t.md = some i) (hs : stepAt rs i (t.pl.getD i 0) = some s) : Way rs (adv t i s) := by
  refine ⟨good_adv h.g hs, ?_⟩
  have h1 := good_lt h.g hs
  rw [adv_sum h.g hs, ← h.run, show total rs - t.pl.sum = (total rs - (t.pl.sum + 1)) + 1 by omega, runO_step hi hs]
theorem Way.fin {rs : List Row} {t : Sta} (h : Way rs t) (hi : ready rs t.pl t.md = none) : t = lastO rs := by
  rw [← h.run, runO_fix hi]
theorem run_good {rs : List Row} : ∀ (m : Nat) (t : Sta), Good rs t → total rs - t.pl.sum ≤ m → Good rs (runO rs m t) ∧ ready rs (runO rs m t).pl (runO rs m t).md = none
  | 0, t, g, h => by
    refine ⟨g, ?_⟩
    show ready rs t.pl t.md = none
    cases e : ready rs t.pl t.md with
    | none => rfl
    | some i =>
      obtain ⟨r, s, a, b, _⟩ := ready_some e
      have := good_lt g (stepAt_of a b)
      omega
  | m + 1, t, g, h => by
    cases e : ready rs t.pl t.md with
    | none =>
      rw [runO_fix e]
      exact ⟨g, e⟩
    | some i =>
      obtain ⟨r, s, a, b, _⟩ := ready_some e
      have hs := stepAt_of a b
      rw [runO_step e hs]
      refine run_good m _ (good_adv g hs) ?_
      rw [adv_sum g hs]
      have := good_lt g hs
      omega
theorem last_good (rs : List Row) : Good rs (lastO rs) ∧ ready rs (lastO rs).pl (lastO rs).md = none := run_good _ _ (good0 rs) (Nat.sub_le _ _)
/-! ### what can be put in a line can be made -/
def Lin (rs : List Row) : Prop := ∃ L : List (Nat × Nat), (∀ i j s, stepAt rs i j = some s → (i, j) ∈ L) ∧ ∀ k i j, L[k]? = some (i, j) → (∀ j', j' < j → (i, j') ∈ L.take k) ∧
  ∀ s w, stepAt rs i j = some s → s.d = some (false, w) → ∃ i' j' s', (i', j') ∈ L.take k ∧ stepAt rs i' j' = some s' ∧ s'.d = some (true, w)
theorem lin_done {rs : List Row} (h : Lin rs) : ∀ i r, rs[i]? = some r → (lastO rs).pl.getD i 0 = r.s.length := by
  obtain ⟨L, hall, hL⟩ := h
  obtain ⟨g, hn⟩ := last_good rs
  have key : ∀ k, ∀ p ∈ L.take k, (stepAt rs p.1 p.2).isSome = true → p.2 < (lastO rs).pl.getD p.1 0 := by
    intro k
    induction k with
    | zero => intro p hp; simp at hp
    | succ k ih =>
      intro p hp hsome
      rw [List.take_add_one] at hp
      rcases List.mem_append.mp hp with h | h
      · exact ih p h hsome
      · obtain ⟨i, j⟩ := p
        have hk : L[k]? = some (i, j) := by
          cases e : L[k]? with
          | none => rw [e] at h; simp at h
          | some q => rw [e] at h; simp at h; rw [← h]
        obtain ⟨h1, h2⟩ := hL k i j hk
        obtain ⟨s, hs⟩ := Option.isSome_iff_exists.mp hsome
        obtain ⟨r, hr, hj⟩ := stepAt_row hs
        refine Nat.lt_of_not_le fun hle => ?_
        have e : (lastO rs).pl.getD i 0 = j := by
          refine Nat.le_antisymm hle (Nat.le_of_not_lt fun hlt => ?_)
          have hm := ih (i, (lastO rs).pl.getD i 0) (h1 _ hlt) (by
            have : (lastO rs).pl.getD i 0 < r.s.length := Nat.lt_trans hlt (List.getElem?_eq_some_iff.mp hj).1
            rw [stepAt_of hr (List.getElem?_eq_getElem this)]
            rfl)
          exact Nat.lt_irrefl _ hm
        have hs2 : stepAt rs i ((lastO rs).pl.getD i 0) = some s := by rw [e]; exact hs
        have hc := ready_none hn hs2
        cases ed : s.d with
        | none => rw [ed] at hc; cases hc
        | some d =>
          obtain ⟨b, w⟩ := d
          cases b with
          | true => rw [ed] at hc; cases hc
          | false =>
            rw [ed] at hc
            obtain ⟨i', j', s', a, b, c⟩ := h2 s w hs ed
            have hm := ih (i', j') a (by rw [b]; rfl)
            have : (true, w) ∈ (lastO rs).md := (g.md _).mpr ⟨i', j', s', hm, b, c⟩
            exact absurd (decide_eq_true this) (by rw [show decide ((true, w) ∈ (lastO rs).md) = false from hc]; decide)
  intro i r hr
  refine Nat.le_antisymm (g.le i r hr) (Nat.le_of_not_lt fun hlt => ?_)
  have hs := stepAt_of hr (List.getElem?_eq_getElem hlt)
  have := key L.length (i, (lastO rs).pl.getD i 0) (by rw [List.take_of_length_le (Nat.le_refl _)]; exact hall _ _ _ hs) (by rw [hs]; rfl)
  exact Nat.lt_irrefl _ this
end My
set_option Elab.async false
set_option linter.all false
set_option maxRecDepth 100000
namespace My
open PySem PySem.Spec PyProof.Rows L2 TL
local macro_rules | `(tactic| walk_at "sv") => `(tactic| repeat (first | exact sv_int | exact sv_bl | exact sv_non | exact sv_str | exact sa_nil | exact sv_vi rfl | exact sv_vs rfl | exact sv_var rfl (by assumption) | apply sa_cons | (refine sv_tup ?_ ?_) | (refine sv_lst ?_ ?_) | apply sv_add | apply sv_sub | assumption | rfl))
/-! ### right data -/
theorem fine_seq {k : Bool} {ds : List PyData} (hl : ds.length ≤ 5000) (h : ∀ d ∈ ds, fine d = true ∧ d.depth ≤ 20) : fine (seqD k ds) = true := by
  obtain ⟨a, b, c⟩ := fine_list (ds := ds) fun d hd => by
    obtain ⟨h1, h2⟩ := h d hd
    refine ⟨fine_small h1, ?_, h2⟩
    have := fine_shaped h1
    unfold SeqAt.shaped at this
    exact (Bool.and_eq_true_iff.mp this).1
  cases k with
  | true =>
    show ((decide (ds.length ≤ 5000) && smallAll ds) && (PyData.canLayAll0 ds && decide (PyData.depthAll ds + 1 ≤ 64))) = true
    rw [a, b, decide_eq_true hl, decide_eq_true (show PyData.depthAll ds + 1 ≤ 64 by omega)]
    rfl
  | false =>
    show ((decide (ds.length ≤ 5000) && smallAll ds) && (PyData.canLayAll0 ds && decide (PyData.depthAll ds + 1 ≤ 64))) = true
    rw [a, b, decide_eq_true hl, decide_eq_true (show PyData.depthAll ds + 1 ≤ 64 by omega)]
    rfl
theorem depth_seq {k : Bool} {ds : List PyData} {n : Nat} (h : ∀ d ∈ ds, d.depth ≤ n) : (seqD k ds).depth ≤ n + 1 := by
  have : PyData.depthAll ds ≤ n := by
    induction ds with
    | nil => exact Nat.zero_le _
    | cons d ds ih =>
      show max d.depth (PyData.depthAll ds) ≤ n
      have h1 := h d (List.mem_cons_self ..)
      have h2 := ih fun x hx => h x (List.mem_cons_of_mem _ hx)
      omega
  cases k with
  | true => show PyData.depthAll ds + 1 ≤ n + 1; omega
  | false => show PyData.depthAll ds + 1 ≤ n + 1; omega
theorem name_good2 {x : Str} {k : Int} (h : nameD k (.str x) = true) (hk : k ≤ 100) : GoodS x := by
  obtain ⟨a, b, c⟩ := name_inv h
  refine ⟨by omega, fun y hy => ?_⟩
  have := letter_of (a y hy)
  omega
theorem name_fine {x : Str} {k : Int} (h : nameD k (.str x) = true) (hk : k ≤ 100) : fine (.str x) = true := good_fine (name_good2 h hk)
theorem deedQ_fine {d : Bool × Str} (h : nameD 4 (.str d.2) = true) : fine (deedQ d) = true ∧ (deedQ d).depth ≤ 1 := by
  refine ⟨fine_seq (k := false) (ds := [.str (kindS d.1), .str d.2]) (by simp) fun x hx => ?_, depth_seq (k := false) (n := 0) fun x hx => ?_⟩
  · simp only [List.mem_cons, List.not_mem_nil, or_false] at hx
    rcases hx with rfl | rfl
    · refine ⟨?_, by simp [PyData.depth]⟩
      unfold kindS
      split <;> decide +kernel
    · exact ⟨name_fine h (by decide), by simp [PyData.depth]⟩
  · simp only [List.mem_cons, List.not_mem_nil, or_false] at hx
    rcases hx with rfl | rfl <;> simp [PyData.depth]
/-- what a right step is -/
theorem stp_inv {s : Stp} (h : stepD (stpP s) = true) : nameD 4 (.str s.m) = true ∧ -99 ≤ s.n ∧ s.n ≤ 99 ∧ ∀ b w, s.d = some (b, w) → nameD 4 (.str w) = true := by
  obtain ⟨m, n, dd, e, hm, h1, h2, hd⟩ := step_inv h
  have e' : PyData.tuple [.str s.m, .int s.n, deedP s.d] = .tuple [.str m, .int n, dd] := e
  simp only [PyData.tuple.injEq, List.cons.injEq, PyData.str.injEq, PyData.int.injEq, and_true] at e'
  obtain ⟨e1, e2, e3⟩ := e'
  subst e1 e2 e3
  refine ⟨hm, h1, h2, fun b w e => ?_⟩
  rw [e] at hd
  rcases hd with h | ⟨w', hw, h | h⟩
  · cases h
  · have h' : PyData.tuple [.str (kindS b), .str w] = .tuple [.str "send", .str w'] := h
    simp only [PyData.tuple.injEq, List.cons.injEq, PyData.str.injEq, and_true] at h'
    rw [h'.2]; exact hw
  · have h' : PyData.tuple [.str (kindS b), .str w] = .tuple [.str "receive", .str w'] := h
    simp only [PyData.tuple.injEq, List.cons.injEq, PyData.str.injEq, and_true] at h'
    rw [h'.2]; exact hw
theorem stp_fine {s : Stp} (h : stepD (stpP s) = true) : fine (stpP s) = true ∧ (stpP s).depth ≤ 2 := by
  obtain ⟨hm, h1, h2, hd⟩ := stp_inv h
  have hdd : fine (deedP s.d) = true ∧ (deedP s.d).depth ≤ 1 := by
    cases e : s.d with
    | none => exact ⟨by decide +kernel, by simp [deedP, PyData.depth]⟩
    | some d => exact deedQ_fine (hd d.1 d.2 e)
  refine ⟨fine_seq (k := false) (ds := [.str s.m, .int s.n, deedP s.d]) (by simp) fun x hx => ?_, depth_seq (k := false) (n := 1) (ds := [.str s.m, .int s.n, deedP s.d]) fun x hx => ?_⟩
  · simp only [List.mem_cons, List.not_mem_nil, or_false] at hx
    rcases hx with rfl | rfl | rfl
    · exact ⟨name_fine hm (by decide), by simp [PyData.depth]⟩
    · exact ⟨by rfl, by simp [PyData.depth]⟩
    · exact ⟨hdd.1, by omega⟩
  · simp only [List.mem_cons, List.not_mem_nil, or_false] at hx
    rcases hx with rfl | rfl | rfl
    · simp [PyData.depth]
    · simp [PyData.depth]
    · exact hdd.2
def fstD : PyData → PyData
  | .tuple (x :: _) => x
  | _ => .none
def rowD : PyData → Bool
  | .tuple [a, b] => nameD 6 a && (isD "list" b || isD "tuple" b)
  | _ => false
abbrev RowsX := Bool × List Row
def encR (x : RowsX) : List PyData := [rowsP x.1 x.2]
section
variable {P : Program} {w : World} {K : PySem.W.Frag} {mg : Str → Option Value} {base : Heap} {A : Top}
def spNames (K : PySem.W.Frag) : Sp := spT K encR (fun x => x.2.length ≤ 1000) fun x => .list (x.2.map fun r => .str r.n)
theorem ok_names (T : TopOk K mg A) : FnOk P w K mg base CX0 1 A.f_names A.d_names P_names (spNames K) := by
  refine T.F_names.ok sc_names (fun vs H Q E h => ?_) (fun cdv Ar outer s H vs Q E hr h => ?_)
  · obtain ⟨S, x, _, h, _⟩ := h
    obtain ⟨v, rfl, _⟩ := h.one
    rfl
  · obtain ⟨S, ⟨ko, rs⟩, hL, hds, hp, k⟩ := h
    obtain ⟨v, rfl, hv⟩ := hds.one
    refine ⟨_, (pss_one (ps_ret (pe_lc (own := [("name", 1), ("steps", 2)]) (g := gTup K 2 (gCons (gName 1) (gCons (gName 2) gNil))) (by rfl) sc_names.nd (pi_any (pv 0)) (blkOk_by (own := [("name", 1), ("steps", 2)]) (N := N_names) (sc := defScope s_names) (by decide +kernel)) (fun _ _ _ _ _ => (pg_tup rfl (pgs_cons (pg_name (i := 1) sc_names.nd rfl (by first | exact Or.inl rfl | exact Or.inr rfl)) (pgs_cons (pg_name (i := 2) sc_names.nd rfl (by first | exact Or.inl rfl | exact Or.inr rfl)) pgs_nil)))) (fun _ _ _ _ _ => pts_nil) (fun _ _ _ _ _ => (pv 1))))), ?_⟩
    refine ret_sv hL (sv_is (sv_lcM (K := K) (S := S) (si_any (k := ko) (ds := rs.map rowP) (sv_var rfl hv)) (by rw [List.length_map]; show rs.length ≤ 5000; have : rs.length ≤ 1000 := hp; omega) fstD fun d S' H' v' Q m n hd kk => ?_) ?_) k
    · obtain ⟨r, hr', rfl⟩ := List.mem_map.mp m
      exact g_tup2 hd fun x y hx hy => kk _ rfl (sv_var rfl hx)
    · rw [List.map_map]
      rfl
theorem ok_is_row (T : TopOk K mg A) : FnOk P w K mg base CX0 3 A.f_is_row A.d_is_row P_is_row (spD K rowD) := by
  have G_is_name : FnOk P w K mg base CX0 2 A.f_is_name A.d_is_name P_is_name (spD K (nameD 6)) := ok_is_name T
  refine T.F_is_row.ok sc_is_row (fun vs H Q E h => ?_) (fun cdv Ar outer s H vs Q E hr h => ?_)
  · obtain ⟨x, d, rfl, _⟩ := h
    rfl
  · obtain ⟨v, d, rfl, hv, hf, k⟩ := h
    refine ⟨_, (pss_cons (ps_if (PW.pt (pw_or (pt_not (pt_val (pe_callB call_isD (by rfl) T.b_isinstance (by decide +kernel) (pa_cons (pv 0) (pa_cons (pe_bltn (v := .ty "tuple") (by rfl) T.b_tuple (by decide +kernel) rfl) pa_nil))))) (pw_or1 (pt_cmpR op_ne (pe_callB call_len (by rfl) T.b_len (by decide +kernel) (pa_cons (pv 0) pa_nil)) pe_int (nomark _)))))
      (pss_one (ps_ret pe_bl))
      pss_nil)
      (pss_one (ps_ret (pe_and (pe_call G_is_name (hr.mono (by decide)) (by rfl) T.g_is_name T.F_is_name.kp T.a_is_name .nil pass0 (pa_cons (pe_ix ix_tup (pv 0) pe_int (fun _ _ => rfl)) pa_nil)) (pe_one (pe_callB call_isD2 (by rfl) T.b_isinstance (by decide +kernel) (pa_cons (pe_ix ix_tup (pv 0) pe_int (fun _ _ => rfl)) (pa_cons (pe_tup (pa_cons (pe_bltn (v := .ty "list") (by rfl) T.b_list (by decide +kernel) rfl) (pa_cons (pe_bltn (v := .ty "tuple") (by rfl) T.b_tuple (by decide +kernel) rfl) pa_nil))) pa_nil)))))))), ?_⟩
    cases d with
    | tuple ds =>
      obtain ⟨a, xs, rfl, sx, dx⟩ := Dp.lenT hv
      have lx := DpAll.length dx
      refine ⟨_, rfl, _, _, _, rfl, rfl, hv, _, rfl, iteF ?_⟩
      refine ⟨_, rfl, .ref a, xs.length, rfl, .inr ⟨xs, sx, rfl⟩, rfl, _, rfl, ?_⟩
      match ds, dx, lx, hf, k with
      | [dk, dm], dx, lx, hf, k =>
        cases dx with
        | @cons vk _ _ _ hk dx =>
          cases dx with
          | @cons vm _ _ _ hm dx =>
            cases dx
            refine iteF ?_
            have fk : fine dk = true := fine_get (i := 0) hf rfl
            refine ⟨_, rfl, a, _, _, vk, rfl, rfl, sx, rfl, vk, dk, rfl, hk, fk, fun H2 s2 => ⟨_, rfl, ite2 (fun e => ?_) (fun e => ?_)⟩⟩
            · refine ⟨_, rfl, a, _, _, vm, rfl, rfl, SqT.same s2 sx, rfl, by show 2 ≤ sizeLine; decide, fun t nt => ⟨vm, t, "list", "tuple", dm, rfl, upd_same, rfl, rfl, Dp.same (s2.trans (same_upd nt)) _ _ hm, ?_⟩⟩
              have e2 : rowD (.tuple [dk, dm]) = (isD "list" dm || isD "tuple" dm) := by
                show (nameD 6 dk && _) = _
                rw [e, Bool.true_and]
              rw [e2] at k
              exact k _ (s2.trans (same_upd nt))
            · have e2 : rowD (.tuple [dk, dm]) = false := by
                show (nameD 6 dk && _) = _
                rw [Bool.eq_false_iff.mpr e, Bool.false_and]
              have := k H2 s2
              rw [e2] at this
              exact this
      | [], dx, lx, hf, k =>
        rw [show xs.length = 0 from lx]
        exact iteT (k H (Same.refl _))
      | [_], dx, lx, hf, k =>
        rw [show xs.length = 1 from lx]
        exact iteT (k H (Same.refl _))
      | _ :: _ :: _ :: ds, dx, lx, hf, k =>
        rw [show xs.length = ds.length + 3 from lx]
        have hne : (!decide (V.int ((ds.length + 3 : Nat) : Int) = V.int 2)) = true := by
          rw [Bool.not_eq_true', decide_eq_false_iff_not]
          intro z
          have := V.int.inj z
          omega
        rw [hne]
        exact iteT (k H (Same.refl _))
    | dict ds => cases hv
    | _ => exact ⟨_, rfl, _, _, _, rfl, rfl, hv, _, rfl, iteT (iteT (k H (Same.refl _)))⟩
end
end My
set_option Elab.async false
set_option linter.all false
set_option maxRecDepth 100000
namespace My
open PySem PySem.Spec PyProof.Rows L2 TL
/-! ### the parts of rows -/
def itemsD : PyData → List PyData
  | .list l => l
  | .tuple l => l
  | _ => []
def innD : PyData → List PyData
  | .tuple [_, s] => itemsD s
  | _ => []
def hasD : PyData → Bool
  | .tuple [_, _, d] => !isNonD d
  | _ => false
def thirdD : PyData → PyData
  | .tuple [_, _, d] => d
  | _ => .none
theorem items_seq (k : Bool) (l : List PyData) : itemsD (seqD k l) = l := by cases k <;> rfl
theorem inn_row (r : Row) : innD (rowP r) = r.s.map stpP := items_seq r.k _
theorem deeds_out (rs : List Row) : ((rs.map rowP).flatMap fun d => ((innD d).filter hasD).map thirdD) = (deeds rs).map deedQ := by
  unfold deeds
  rw [List.flatMap_map, List.map_flatMap]
  refine congrArg (fun f => List.flatMap f rs) (funext fun r => ?_)
  rw [inn_row]
  generalize r.s = l
  induction l with
  | nil => rfl
  | cons s l ih =>
    rw [List.map_cons]
    cases e : s.d with
    | none =>
      rw [List.filter_cons_of_neg (by simp [hasD, stpP, e, deedP, isNonD]), List.filterMap_cons_none e, ih]
    | some d =>
      rw [List.filter_cons_of_pos (by simp [hasD, stpP, e, deedP, deedQ, isNonD]), List.filterMap_cons_some e, List.map_cons, List.map_cons, ih]
      simp [thirdD, stpP, e, deedP]
theorem kind_inj {a b : Bool} (h : kindS a = kindS b) : a = b := by
  cases a <;> cases b <;> first | rfl | exact absurd h (by decide +kernel)
theorem eqv_deed (a b : Bool × Str) : PyData.eqv (deedQ a) (deedQ b) = decide (a = b) := by
  obtain ⟨a1, a2⟩ := a
  obtain ⟨b1, b2⟩ := b
  show ((kindS a1 == kindS b1) && ((a2 == b2) && true)) = _
  rw [Bool.eq_iff_iff, decide_eq_true_iff, Bool.and_true, Bool.and_eq_true_iff, beq_iff_eq, beq_iff_eq]
  constructor
  · rintro ⟨h1, h2⟩
    rw [kind_inj h1, h2]
  · intro h
    cases h
    exact ⟨rfl, rfl⟩
theorem any_deed (ds : List (Bool × Str)) (d : Bool × Str) : ((ds.map deedQ).any fun z => PyData.eqv z (deedQ d)) = decide (d ∈ ds) := by
  rw [Bool.eq_iff_iff, decide_eq_true_iff, List.any_eq_true]
  constructor
  · rintro ⟨z, hz, e⟩
    obtain ⟨d', hd', rfl⟩ := List.mem_map.mp hz
    rw [eqv_deed] at e
    rw [← of_decide_eq_true e]
    exact hd'
  · intro h
    exact ⟨_, List.mem_map.mpr ⟨d, h, rfl⟩, by rw [eqv_deed]; exact decide_eq_true rfl⟩
def lackD (ds : List (Bool × Str)) (d : Bool × Str) : Bool := !d.1 && !decide ((true, d.2) ∈ ds)
def lackP (ds : List (Bool × Str)) : PyData := match ds.find? (lackD ds) with
  | some d => .str d.2
  | none => .none
/-- rows of a size that is right, their words too -/
structure Small (rs : List Row) : Prop where
  few : rs.length ≤ 1000
  len : (rs.map fun r => r.s.length).sum ≤ 5000
  word : ∀ d ∈ deeds rs, nameD 4 (.str d.2) = true
theorem sum_map_le : ∀ (l : List Nat) (k : Nat), (∀ x ∈ l, x ≤ k) → l.sum ≤ l.length * k
  | [], _, _ => by simp
  | a :: l, k, h => by
    have h1 := h a (List.mem_cons_self ..)
    have h2 := sum_map_le l k fun x hx => h x (List.mem_cons_of_mem _ hx)
    rw [List.sum_cons, List.length_cons, Nat.succ_mul]
    omega
theorem Valid.small {rs : List Row} (h : Valid rs) : Small rs := by
  refine ⟨Nat.le_trans h.few (by decide), ?_, fun d hd => ?_⟩
  · have := sum_map_le (rs.map fun r => r.s.length) 20 fun x hx => by
      obtain ⟨r, hr, rfl⟩ := List.mem_map.mp hx
      exact h.len r hr
    rw [List.length_map] at this
    have := h.few
    omega
  · obtain ⟨i, j, s, hs, e⟩ := mem_deeds.mp hd
    obtain ⟨r, h1, h2⟩ := stepAt_row hs
    exact (stp_inv (h.step r (List.mem_of_getElem? h1) s (List.mem_of_getElem? h2))).2.2.2 d.1 d.2 e
theorem len_deeds (rs : List Row) : (deeds rs).length ≤ (rs.map fun r => r.s.length).sum := by
  unfold deeds
  induction rs with
  | nil => exact Nat.le_refl _
  | cons r rs ih =>
    rw [List.flatMap_cons, List.length_append, List.map_cons, List.sum_cons]
    have := List.length_filterMap_le (fun s : Stp => s.d) r.s
    omega
theorem deeds_fine {rs : List Row} (h : Small rs) : fine (.list ((deeds rs).map deedQ)) = true := by
  refine fine_seq (k := true) (by rw [List.length_map]; exact Nat.le_trans (len_deeds rs) h.len) fun d hd => ?_
  obtain ⟨d', hd', rfl⟩ := List.mem_map.mp hd
  obtain ⟨a, b⟩ := deedQ_fine (h.word d' hd')
  exact ⟨a, by omega⟩
section
variable {P : Program} {w : World} {K : PySem.W.Frag} {mg : Str → Option Value} {base : Heap} {A : Top}
def spDeeds (K : PySem.W.Frag) : Sp := spT K encR (fun x => (x.2.map fun r => r.s.length).sum ≤ 5000) fun x => .list ((deeds x.2).map deedQ)
theorem ok_deeds (T : TopOk K mg A) : FnOk P w K mg base CX0 1 A.f_deeds A.d_deeds P_deeds (spDeeds K) := by
  refine T.F_deeds.ok sc_deeds (fun vs H Q E h => ?_) (fun cdv Ar outer s H vs Q E hr h => ?_)
  · obtain ⟨S, x, _, h, _⟩ := h
    obtain ⟨v, rfl, _⟩ := h.one
    rfl
  · obtain ⟨S, ⟨ko, rs⟩, hL, hds, hp, k⟩ := h
    obtain ⟨v, rfl, hv⟩ := hds.one
    refine ⟨_, (pss_one (ps_ret (pe_lc2 (own := [("name", 1), ("steps", 2), ("mark", 3), ("number", 4), ("deed", 5)]) (vs1 := [3, 4, 5]) (wi1 := iAny K (tVar 2)) (g := gTup K 2 (gCons (gName 1) (gCons (gName 2) gNil))) (g1 := gTup K 3 (gCons (gName 3) (gCons (gName 4) (gCons (gName 5) gNil)))) (by rfl) sc_deeds.nd (pi_any (pv 0)) (blkOk_by (own := [("name", 1), ("steps", 2), ("mark", 3), ("number", 4), ("deed", 5)]) (N := N_deeds) (sc := defScope s_deeds) (by decide +kernel)) (by decide) (fun _ _ _ _ _ => (pg_tup rfl (pgs_cons (pg_name (i := 1) sc_deeds.nd rfl (by first | exact Or.inl rfl | exact Or.inr rfl)) (pgs_cons (pg_name (i := 2) sc_deeds.nd rfl (by first | exact Or.inl rfl | exact Or.inr rfl)) pgs_nil)))) (fun _ _ _ _ _ => pts_nil) (fun _ _ _ _ _ => (pi_any (pv 2))) (fun _ _ _ _ _ => (pg_tup rfl (pgs_cons (pg_name (i := 3) sc_deeds.nd rfl (by first | exact Or.inl rfl | exact Or.inr rfl)) (pgs_cons (pg_name (i := 4) sc_deeds.nd rfl (by first | exact Or.inl rfl | exact Or.inr rfl)) (pgs_cons (pg_name (i := 5) sc_deeds.nd rfl (by first | exact Or.inl rfl | exact Or.inr rfl)) pgs_nil))))) (fun _ _ _ _ _ => (pts_one (pt_cmpR op_notN (pv 5) pe_non (nomark _)))) (fun _ _ _ _ _ => (pv 5))))), ?_⟩
    show tRet _ _ [some v, none, none, none, none, none] H
    refine ret_sv hL (sv_is (sv_lc2 (K := K) (S := S) (si_any (k := ko) (ds := rs.map rowP) (sv_var rfl hv)) innD ?_ hasD thirdD fun d S' H' v' Q m n hd kk => ?_) (congrArg PyData.list (deeds_out rs))) k
    · rw [List.map_map]
      have e : (rs.map ((fun d => (innD d).length) ∘ rowP)) = rs.map fun r => r.s.length := List.map_congr_left fun r _ => by
        show (innD (rowP r)).length = _
        rw [inn_row, List.length_map]
      rw [e]
      exact hp
    · obtain ⟨r, hr', rfl⟩ := List.mem_map.mp m
      refine g_tup2 hd fun x y hx hy => kk [some v, some x, some y, none, none, none] rfl (by rw [inn_row]; exact si_any (k := r.k) (sv_var rfl hy)) fun e S2 H2 v2 Q2 me n2 st2 he k2 => ?_
      rw [inn_row] at me
      obtain ⟨s, hs, rfl⟩ := List.mem_map.mp me
      exact g_tup3 he fun a b c ha hb hc => k2 [some v, some x, some y, some a, some b, some c] rfl (sb_test (sv_notN (sv_var rfl hc))) fun _ => sv_var rfl hc
def spLack (K : PySem.W.Frag) : Sp := spT K encR (fun x => Small x.2) fun x => lackP (deeds x.2)
theorem ok_first_unsent (T : TopOk K mg A) : FnOk P w K mg base CX0 2 A.f_first_unsent A.d_first_unsent P_first_unsent (spLack K) := by
  have G_deeds : FnOk P w K mg base CX0 1 A.f_deeds A.d_deeds P_deeds (spDeeds K) := ok_deeds T
  refine T.F_first_unsent.ok sc_first_unsent (fun vs H Q E h => ?_) (fun cdv Ar outer s H vs Q E hr h => ?_)
  · obtain ⟨S, x, _, h, _⟩ := h
    obtain ⟨v, rfl, _⟩ := h.one
    rfl
  · obtain ⟨S, ⟨ko, rs⟩, hL, hds, hp, k⟩ := h
    obtain ⟨v, rfl, hv⟩ := hds.one
    refine ⟨_, (pss_cons (ps_set (i := 1) sc_first_unsent.nd rfl (by first | exact Or.inl rfl | exact Or.inr rfl) (pe_call G_deeds (hr.mono (by decide)) (by rfl) T.g_deeds T.F_deeds.kp T.a_deeds .nil pass0 (pa_cons (pv 0) pa_nil)))
      (pss_cons (ps_for PassesOwn.never rfl (pi_any (pv 1)) (pg_tup rfl (pgs_cons (pg_name (i := 2) sc_first_unsent.nd rfl (by first | exact Or.inl rfl | exact Or.inr rfl)) (pgs_cons (pg_name (i := 3) sc_first_unsent.nd rfl (by first | exact Or.inl rfl | exact Or.inr rfl)) pgs_nil)))
      (pss_one (ps_if (PW.pt (pw_and (pt_cmpR op_eq (pv 2) pe_str (nomark _)) (pw_and1 (pt_cmpR (L2.op_notInD (hu65 hr)) (pe_tup (pa_cons pe_str (pa_cons (pv 3) pa_nil))) (pv 1) (by rfl)))))
      (pss_one (ps_ret (pv 3)))
      pss_nil)))
      (pss_one (ps_ret pe_non)))), ?_⟩
    have hp : Small rs := hp
    refine set_sv (K := K) (S := S) hL (sv_T (enc := encR) (ko, rs) (sa_cons (sv_var rfl hv) sa_nil) rfl hp.len) fun vd H1 s1 l1 hvd => ?_
    dsimp only [List.set]
    refine seq_for (K := K) (S := S) l1 (si_l (sv_var rfl hvd)) fun H2 s2 l2 => ⟨fun i σ H3 => (∃ x2 x3, σ = [some v, some vd, x2, x3]) ∧ Same H2 H3 ∧ ∀ j d, j < i → (deeds rs)[j]? = some d → lackD (deeds rs) d = false,
      ⟨⟨_, _, rfl⟩, Same.refl _, fun j d hj => absurd hj (Nat.not_lt_zero j)⟩, fun i σ H3 _ ⟨_, s3, _⟩ => ⟨S, (Now.of l2 s3).step⟩, fun i d v' σ H3 H4 ed ⟨⟨x2, x3, e⟩, s3, hj⟩ s4 hd => ?_, fun σ H3 ⟨⟨x2, x3, e⟩, s3, hj⟩ => ?_⟩
    · subst e
      have n3 : Now S H2 S H3 := Now.of l2 s3
      have l4 := n3.live.same s4
      rw [List.getElem?_map] at ed
      cases e0 : (deeds rs)[i]? with
      | none => rw [e0] at ed; cases ed
      | some dd =>
        rw [e0] at ed
        cases ed
        refine g_tup2 (hd S n3.step) fun x y hx hy => ?_
        have hvd4 := ((hvd.same s2).same s3).same s4
        have hw := hp.word dd (List.mem_of_getElem? e0)
        refine if_sb l4 (sb_is (b' := lackD (deeds rs) dd) (sb_and (b := decide (kindS dd.1 = "receive")) (sb_test (sv_eqS (sv_var rfl hx) sv_str)) fun _ => sb_test (sv_notInD (sv_tup (sa_cons sv_str (sa_cons (sv_var rfl hy) sa_nil)) rfl) (sv_var rfl hvd4) (deedQ_fine (d := (true, dd.2)) hw).1 (deeds_fine hp))) ?_) (fun e1 H5 s5 l5 => ?_) fun e1 H5 s5 l5 => ?_
        · have e2 : decide (kindS dd.1 = "receive") = !dd.1 := by
            cases dd.1 with
            | true => exact decide_eq_false (by decide +kernel)
            | false => rfl
          rw [e2]
          exact congrArg (fun b => !dd.1 && !b) (any_deed (deeds rs) (true, dd.2))
        · refine ret_sv l5 (sv_var rfl (hy.same s5)) fun v5 H6 s6 hv6 => k _ _ (((((s1.trans s2).trans s3).trans s4).trans s5).trans s6) ?_
          have ef : (deeds rs).find? (lackD (deeds rs)) = some dd := by
            rw [List.find?_eq_some_iff_getElem]
            obtain ⟨hi, hii⟩ := List.getElem?_eq_some_iff.mp e0
            refine ⟨e1, i, hi, hii, fun j hjl => ?_⟩
            rw [hj j _ hjl (List.getElem?_eq_getElem (Nat.lt_trans hjl hi))]
            rfl
          show Ds K S H6 v5 (lackP (deeds rs))
          unfold lackP
          rw [ef]
          exact hv6
        · refine ⟨⟨_, _, rfl⟩, (s3.trans s4).trans s5, fun j d' hjl hd' => ?_⟩
          rcases Nat.lt_succ_iff_lt_or_eq.mp hjl with h | h
          · exact hj j d' h hd'
          · subst h
            rw [e0] at hd'
            cases hd'
            exact e1
    · subst e
      refine ret_sv (K := K) (l2.same s3) sv_non fun v5 H6 s6 hv6 => k _ _ (((s1.trans s2).trans s3).trans s6) ?_
      have ef : (deeds rs).find? (lackD (deeds rs)) = none := by
        rw [List.find?_eq_none]
        intro d hd
        obtain ⟨j, hjd⟩ := List.getElem?_of_mem hd
        have hjl : j < ((deeds rs).map deedQ).length := by
          rw [List.length_map]
          exact (List.getElem?_eq_some_iff.mp hjd).1
        rw [hj j d hjl hjd]
        decide
      show Ds K S H6 v5 (lackP (deeds rs))
      unfold lackP
      rw [ef]
      exact hv6
end
end My
set_option Elab.async false
set_option linter.all false
set_option maxRecDepth 100000
namespace My
open PySem PySem.Spec PyProof.Rows L2 TL
theorem enumD_inv {ds : List PyData} {i : Nat} {d : PyData} (h : (enumD ds)[i]? = some d) : ∃ e, ds[i]? = some e ∧ d = .tuple [.int (i : Nat), e] := by
  cases e : ds[i]? with
  | none =>
    have : i < (enumD ds).length := (List.getElem?_eq_some_iff.mp h).1
    rw [enumD_len] at this
    rw [List.getElem?_eq_none_iff] at e
    omega
  | some x =>
    rw [enumD_at e] at h
    exact ⟨x, rfl, (Option.some.inj h).symm⟩
theorem map_inv {α : Type} {f : α → PyData} {l : List α} {i : Nat} {d : PyData} (h : (l.map f)[i]? = some d) : ∃ x, l[i]? = some x ∧ d = f x := by
  rw [List.getElem?_map] at h
  cases e : l[i]? with
  | none => rw [e] at h; cases h
  | some x => rw [e] at h; exact ⟨x, rfl, (Option.some.inj h).symm⟩
theorem isD_seq (k : Bool) (l : List PyData) : (isD "list" (seqD k l) || isD "tuple" (seqD k l)) = true := by
  cases k <;> rfl
theorem row_fine {r : Row} (h1 : nameD 6 (.str r.n) = true) (h2 : r.s.length ≤ 1000) (h3 : ∀ s ∈ r.s, stepD (stpP s) = true) : fine (rowP r) = true ∧ (rowP r).depth ≤ 4 ∧ rowD (rowP r) = true := by
  have hs : ∀ d ∈ r.s.map stpP, fine d = true ∧ d.depth ≤ 2 := fun d hd => by
    obtain ⟨s, m, rfl⟩ := List.mem_map.mp hd
    exact stp_fine (h3 s m)
  have f2 : fine (seqD r.k (r.s.map stpP)) = true := fine_seq (by rw [List.length_map]; omega) fun d hd => ⟨(hs d hd).1, Nat.le_trans (hs d hd).2 (by decide)⟩
  have d2 : (seqD r.k (r.s.map stpP)).depth ≤ 3 := depth_seq fun d hd => (hs d hd).2
  refine ⟨fine_seq (k := false) (ds := [.str r.n, seqD r.k (r.s.map stpP)]) (by simp) fun d hd => ?_, depth_seq (k := false) (ds := [.str r.n, seqD r.k (r.s.map stpP)]) (n := 3) fun d hd => ?_, ?_⟩
  · simp only [List.mem_cons, List.not_mem_nil, or_false] at hd
    rcases hd with rfl | rfl
    · exact ⟨name_fine h1 (by decide), by simp [PyData.depth]⟩
    · exact ⟨f2, by omega⟩
  · simp only [List.mem_cons, List.not_mem_nil, or_false] at hd
    rcases hd with rfl | rfl
    · simp [PyData.depth]
    · exact d2
  · show (nameD 6 (.str r.n) && (isD "list" (seqD r.k (r.s.map stpP)) || isD "tuple" (seqD r.k (r.s.map stpP)))) = true
    rw [h1, isD_seq]
    rfl
theorem Valid.row {rs : List Row} (h : Valid rs) {r : Row} (m : r ∈ rs) : fine (rowP r) = true ∧ (rowP r).depth ≤ 4 ∧ rowD (rowP r) = true := row_fine (h.name r m) (Nat.le_trans (h.len r m) (by decide)) (h.step r m)
/-- the dict of what is made -/
def keyD (d : Bool × Str) : List Key := [.inr (kindS d.1), .inr d.2]
theorem key_inj {a b : Bool × Str} (h : keyD a = keyD b) : a = b := by
  have h' : [(Sum.inr (kindS a.1) : Key), .inr a.2] = [.inr (kindS b.1), .inr b.2] := h
  simp only [List.cons.injEq, Sum.inr.injEq, and_true] at h'
  exact Prod.ext (kind_inj h'.1) h'.2
def MdOk (H : Hp) (m : Addr) (md : List (Bool × Str)) : Prop := ∃ kvs : List (List Key × V), H m = some (.dT kvs) ∧ kvs.length ≤ md.length ∧ ∀ d, (valV kvs (keyD d)).isSome = decide (d ∈ md)
theorem MdOk.same {H H' : Hp} {m : Addr} {md : List (Bool × Str)} (h : MdOk H m md) (s : Same H H') : MdOk H' m md := by
  obtain ⟨kvs, a, b⟩ := h
  exact ⟨kvs, s _ _ a, b⟩
theorem mdok_nil {H : Hp} {m : Addr} (h : H m = some (.dT [])) : MdOk H m [] := ⟨[], h, Nat.le_refl _, fun d => by simp [valV]⟩
theorem mdok_put {H : Hp} {m : Addr} {kvs : List (List Key × V)} {md : List (Bool × Str)} {d : Bool × Str} (hl : kvs.length ≤ md.length) (h : ∀ d, (valV kvs (keyD d)).isSome = decide (d ∈ md)) : MdOk (upd H m (.dT (putK kvs (keyD d) (.bl true)))) m (md ++ [d]) := by
  refine ⟨_, upd_same, ?_, fun e => ?_⟩
  · unfold putK
    split
    · rw [List.length_map, List.length_append]; omega
    · rw [List.length_append, List.length_append]; show _ + 1 ≤ _ + 1; omega
  · rw [valV_put]
    by_cases z : e = d
    · subst z
      rw [if_pos rfl, decide_eq_true (List.mem_append_right _ (List.mem_singleton.mpr rfl))]
      rfl
    · rw [if_neg fun q => z (key_inj q), h e]
      rw [Bool.eq_iff_iff, decide_eq_true_iff, decide_eq_true_iff, List.mem_append, List.mem_singleton]
      exact ⟨.inl, fun q => q.resolve_right z⟩
section
variable {P : Program} {w : World} {K : PySem.W.Frag} {mg : Str → Option Value} {base : Heap} {A : Top}
theorem deed_at {S : Sh} {H : Hp} {v : V} {d : Bool × Str} (h : Ds K S H v (deedQ d)) : ∃ b, v = .ref b ∧ H b = some (.tup ((keyD d).map kV)) := by
  obtain ⟨a, xs, rfl, l, hs⟩ := Ds.t h
  obtain ⟨x, y, rfl, hx, hy⟩ := hs.two
  rw [hx.s, hy.s] at l
  exact ⟨a, rfl, l.2⟩
def spOk (K : PySem.W.Frag) : Sp := spT K encR (fun x => Valid x.2) fun _ => .none
theorem ok_check_rows (T : TopOk K mg A) : FnOk P w K mg base CX0 4 A.f_check_rows A.d_check_rows P_check_rows (spOk K) := by
  have G_is_row : FnOk P w K mg base CX0 3 A.f_is_row A.d_is_row P_is_row (spD K rowD) := ok_is_row T
  have G_names : FnOk P w K mg base CX0 1 A.f_names A.d_names P_names (spNames K) := ok_names T
  refine T.F_check_rows.ok sc_check_rows (fun vs H Q E h => ?_) (fun cdv Ar outer s H vs Q E hr h => ?_)
  · obtain ⟨S, x, _, h, _⟩ := h
    obtain ⟨v, rfl, _⟩ := h.one
    rfl
  · obtain ⟨S, ⟨ko, rs⟩, hL, hds, hp, k⟩ := h
    obtain ⟨v, rfl, hv⟩ := hds.one
    refine ⟨_, (pss_cons (ps_if (pt_cmpR op_gt (pe_callB call_len (by rfl) T.b_len (by decide +kernel) (pa_cons (pv 0) pa_nil)) (ClX.pe_cval (pe_glob (v := .ref A.c_Log) (by rfl) T.m_Log rfl)) (nomark _))
      (pss_one ps_never)
      pss_nil)
      (pss_cons (ps_for PassesOwn.never rfl (pi_enumA (by rfl) T.b_enumerate (pa_cons (pv 0) pa_nil)) (pg_tup rfl (pgs_cons (pg_name (i := 2) sc_check_rows.nd rfl (by first | exact Or.inl rfl | exact Or.inr rfl)) (pgs_cons (pg_name (i := 3) sc_check_rows.nd rfl (by first | exact Or.inl rfl | exact Or.inr rfl)) pgs_nil)))
      (pss_one (ps_if (pt_not (pt_val (pe_call G_is_row (hr.mono (by decide)) (by rfl) T.g_is_row T.F_is_row.kp T.a_is_row .nil pass0 (pa_cons (pv 3) pa_nil))))
      (pss_one ps_never)
      pss_nil)))
      (pss_cons (ps_set (i := 1) sc_check_rows.nd rfl (by first | exact Or.inl rfl | exact Or.inr rfl) (pe_call G_names (hr.mono (by decide)) (by rfl) T.g_names T.F_names.kp T.a_names .nil pass0 (pa_cons (pv 0) pa_nil)))
      (pss_one (ps_for PassesOwn.never rfl (pi_enumA (by rfl) T.b_enumerate (pa_cons (pv 1) pa_nil)) (pg_tup rfl (pgs_cons (pg_name (i := 2) sc_check_rows.nd rfl (by first | exact Or.inl rfl | exact Or.inr rfl)) (pgs_cons (pg_name (i := 4) sc_check_rows.nd rfl (by first | exact Or.inl rfl | exact Or.inr rfl)) pgs_nil)))
      (pss_one (ps_if (pt_cmpR (L2.op_inD (hu65 hr)) (pv 4) (pe_slice sl_list (pv 1) po_none (po_some (pv 2))) (by rfl))
      (pss_one ps_never)
      pss_nil))))))), ?_⟩
    have hp : Valid rs := hp
    have hv : Ds K S H v (seqD ko (rs.map rowP)) := hv
    show tSeq _ _ _ [some v, none, none, none, none] H
    refine seq_if hL (sb_test (sv_gt (sv_len (k := ko) (sv_var rfl hv)) (sv_cval T.rd_Log T.cv_Log_PROCESSES fun _ _ => .int _))) (fun e => ?_) fun _ H1 s1 l1 => ?_
    · have := of_decide_eq_true e
      rw [List.length_map] at this
      have := hp.few
      omega
    have hv1 := hv.same s1
    refine seq_for (K := K) (S := S) l1 (si_enum (k := ko) (ds := rs.map rowP) (sa_cons (sv_var rfl hv1) sa_nil)) fun H2 s2 l2 => ⟨fun i σ H3 => (∃ x2 x3, σ = [some v, none, x2, x3, none]) ∧ Same H2 H3, ⟨⟨_, _, rfl⟩, Same.refl _⟩, fun i σ H3 _ ⟨_, s3⟩ => ⟨S, (Now.of l2 s3).step⟩, fun i d v' σ H3 H4 ed ⟨⟨x2, x3, e⟩, s3⟩ s4 hd => ?_, fun σ H3 ⟨⟨x2, x3, e⟩, s3⟩ => ?_⟩
    · subst e
      have n3 : Now S H2 S H3 := Now.of l2 s3
      obtain ⟨e, ee, rfl⟩ := enumD_inv ed
      obtain ⟨r, er, rfl⟩ := map_inv ee
      obtain ⟨f1, _, f3⟩ := hp.row (List.mem_of_getElem? er)
      refine g_tup2 (hd S n3.step) fun x y hx hy => ?_
      refine if_sb (n3.live.same s4) (sb_is (b' := false) (sb_not (sb_val (sv_spD (sv_var rfl hy) f1))) (by rw [f3]; rfl)) (fun z => Bool.noConfusion z) fun _ H5 s5 l5 => ?_
      exact ⟨⟨_, _, rfl⟩, (s3.trans s4).trans s5⟩
    · subst e
      have hv3 := (hv1.same s2).same s3
      have l3 := l2.same s3
      refine set_sv (K := K) (S := S) l3 (sv_T (enc := encR) (ko, rs) (sa_cons (sv_var rfl hv3) sa_nil) rfl (Nat.le_trans hp.few (by decide))) fun vn H4 s4 l4 hvn => ?_
      dsimp only [List.set]
      have hvn : Ds K S H4 vn (seqD true (rs.map fun r => PyData.str r.n)) := hvn
      refine for_si (K := K) (S := S) l4 (si_enum (k := true) (ds := rs.map fun r => .str r.n) (sa_cons (sv_var rfl hvn) sa_nil)) fun H5 s5 l5 => ⟨fun i σ H6 => (∃ x2 x4, σ = [some v, some vn, x2, x3, x4]) ∧ Same H5 H6, ⟨⟨_, _, rfl⟩, Same.refl _⟩, fun i σ H6 _ ⟨_, s6⟩ => ⟨S, (Now.of l5 s6).step⟩, fun i d v' σ H6 H7 ed ⟨⟨x2, x4, e⟩, s6⟩ s7 hd => ?_, fun σ H6 ⟨⟨x2, x4, e⟩, s6⟩ => ?_⟩
      · subst e
        have n6 : Now S H5 S H6 := Now.of l5 s6
        obtain ⟨e, ee, rfl⟩ := enumD_inv ed
        obtain ⟨r, er, rfl⟩ := map_inv ee
        refine g_tup2 (hd S n6.step) fun x y hx hy => ?_
        have hvn7 := ((hvn.same s5).same s6).same s7
        have fn : ∀ d ∈ (rs.map fun r => PyData.str r.n), fine d = true ∧ d.depth ≤ 20 := fun d hd => by
          obtain ⟨q, hq, rfl⟩ := List.mem_map.mp hd
          exact ⟨name_fine (hp.name q hq) (by decide), by simp [PyData.depth]⟩
        refine if_sb (n6.live.same s7) (sb_is (b' := false) (sb_test (sv_inD (sv_var rfl hy) (sv_slL (sv_var rfl hvn7) sp_no (sp_some (sv_var rfl hx))) (fn _ (List.mem_map.mpr ⟨r, List.mem_of_getElem? er, rfl⟩)).1 ?_)) ?_) (fun z => Bool.noConfusion z) fun _ H8 s8 l8 => ?_
        · rw [cutD_to]
          refine fine_seq (k := true) ?_ fun d hd => fn d (List.mem_of_mem_take hd)
          rw [List.length_take, List.length_map]
          have := hp.few
          show min i rs.length ≤ 5000
          omega
        · rw [cutD_to, List.any_eq_false]
          intro d hd he
          obtain ⟨j, hj⟩ := List.getElem?_of_mem hd
          have hji : j < i := by
            have := (List.getElem?_eq_some_iff.mp hj).1
            rw [List.length_take] at this
            omega
          rw [List.getElem?_take_of_lt hji] at hj
          obtain ⟨q, hq, rfl⟩ := map_inv hj
          have hqr : q.n = r.n := eq_of_beq (show (q.n == r.n) = true from he)
          have h1 : (rs.map (·.n))[j]? = some r.n := by rw [List.getElem?_map, hq]; exact congrArg some hqr
          have h2 : (rs.map (·.n))[i]? = some r.n := by rw [List.getElem?_map, er]; rfl
          have hi := (List.getElem?_eq_some_iff.mp h2).1
          have := (List.getElem?_inj (Nat.lt_trans hji hi) hp.nd).mp (h1.trans h2.symm)
          omega
        · exact ⟨⟨_, _, rfl⟩, (s6.trans s7).trans s8⟩
      · exact k .non _ ((((((s1.trans s2).trans s3).trans s4).trans s5).trans s6)) .non
theorem ok_check_steps (T : TopOk K mg A) : FnOk P w K mg base CX0 5 A.f_check_steps A.d_check_steps P_check_steps (spOk K) := by
  have G_is_step : FnOk P w K mg base CX0 4 A.f_is_step A.d_is_step P_is_step (spD K stepD) := ok_is_step T
  refine T.F_check_steps.ok sc_check_steps (fun vs H Q E h => ?_) (fun cdv Ar outer s H vs Q E hr h => ?_)
  · obtain ⟨S, x, _, h, _⟩ := h
    obtain ⟨v, rfl, _⟩ := h.one
    rfl
  · obtain ⟨S, ⟨ko, rs⟩, hL, hds, hp, k⟩ := h
    obtain ⟨v, rfl, hv⟩ := hds.one
    refine ⟨_, (pss_cons (ps_for PassesOwn.never rfl (pi_any (pv 0)) (pg_tup rfl (pgs_cons (pg_name (i := 1) sc_check_steps.nd rfl (by first | exact Or.inl rfl | exact Or.inr rfl)) (pgs_cons (pg_name (i := 2) sc_check_steps.nd rfl (by first | exact Or.inl rfl | exact Or.inr rfl)) pgs_nil)))
      (pss_one (ps_if (pt_cmpR op_gt (pe_callB call_len (by rfl) T.b_len (by decide +kernel) (pa_cons (pv 2) pa_nil)) (ClX.pe_cval (pe_glob (v := .ref A.c_Log) (by rfl) T.m_Log rfl)) (nomark _))
      (pss_one ps_never)
      pss_nil)))
      (pss_one (ps_for PassesOwn.never rfl (pi_any (pv 0)) (pg_tup rfl (pgs_cons (pg_name (i := 1) sc_check_steps.nd rfl (by first | exact Or.inl rfl | exact Or.inr rfl)) (pgs_cons (pg_name (i := 2) sc_check_steps.nd rfl (by first | exact Or.inl rfl | exact Or.inr rfl)) pgs_nil)))
      (pss_one (ps_for PassesOwn.never rfl (pi_enumA (by rfl) T.b_enumerate (pa_cons (pv 2) pa_nil)) (pg_tup rfl (pgs_cons (pg_name (i := 3) sc_check_steps.nd rfl (by first | exact Or.inl rfl | exact Or.inr rfl)) (pgs_cons (pg_name (i := 4) sc_check_steps.nd rfl (by first | exact Or.inl rfl | exact Or.inr rfl)) pgs_nil)))
      (pss_one (ps_if (pt_not (pt_val (pe_call G_is_step (hr.mono (by decide)) (by rfl) T.g_is_step T.F_is_step.kp T.a_is_step .nil pass0 (pa_cons (pv 4) pa_nil))))
      (pss_one ps_never)
      pss_nil))))))), ?_⟩
    have hp : Valid rs := hp
    have hv : Ds K S H v (seqD ko (rs.map rowP)) := hv
    show tSeq _ _ _ [some v, none, none, none, none] H
    refine seq_for (K := K) (S := S) hL (si_any (k := ko) (ds := rs.map rowP) (sv_var rfl hv)) fun H2 s2 l2 => ⟨fun i σ H3 => (∃ x1 x2, σ = [some v, x1, x2, none, none]) ∧ Same H2 H3, ⟨⟨_, _, rfl⟩, Same.refl _⟩, fun i σ H3 _ ⟨_, s3⟩ => ⟨S, (Now.of l2 s3).step⟩, fun i d v' σ H3 H4 ed ⟨⟨x1, x2, e⟩, s3⟩ s4 hd => ?_, fun σ H3 ⟨⟨x1, x2, e⟩, s3⟩ => ?_⟩
    · subst e
      have n3 : Now S H2 S H3 := Now.of l2 s3
      obtain ⟨r, er, rfl⟩ := map_inv ed
      refine g_tup2 (hd S n3.step) fun x y hx hy => ?_
      refine if_sb (n3.live.same s4) (sb_test (sv_gt (sv_len (k := r.k) (sv_var rfl hy)) (sv_cval T.rd_Log T.cv_Log_STEPS fun _ _ => .int _))) (fun z => ?_) fun _ H5 s5 l5 => ?_
      · have := of_decide_eq_true z
        rw [List.length_map] at this
        have := hp.len r (List.mem_of_getElem? er)
        omega
      · exact ⟨⟨_, _, rfl⟩, (s3.trans s4).trans s5⟩
    · subst e
      have hv3 := (hv.same s2).same s3
      have l3 := l2.same s3
      refine for_si (K := K) (S := S) l3 (si_any (k := ko) (ds := rs.map rowP) (sv_var rfl hv3)) fun H4 s4 l4 => ⟨fun i σ H5 => (∃ x1 x2 x3 x4, σ = [some v, x1, x2, x3, x4]) ∧ Same H4 H5, ⟨⟨_, _, _, _, rfl⟩, Same.refl _⟩, fun i σ H5 _ ⟨_, s5⟩ => ⟨S, (Now.of l4 s5).step⟩, fun i d v' σ H5 H6 ed ⟨⟨y1, y2, y3, y4, e⟩, s5⟩ s6 hd => ?_, fun σ H5 ⟨⟨y1, y2, y3, y4, e⟩, s5⟩ => ?_⟩
      · subst e
        have n5 : Now S H4 S H5 := Now.of l4 s5
        obtain ⟨r, er, rfl⟩ := map_inv ed
        refine g_tup2 (hd S n5.step) fun x y hx hy => ?_
        refine for_si (K := K) (S := S) (n5.live.same s6) (si_enum (k := r.k) (ds := r.s.map stpP) (sa_cons (sv_var rfl hy) sa_nil)) fun H7 s7 l7 => ⟨fun j σ H8 => (∃ x3 x4, σ = [some v, some x, some y, x3, x4]) ∧ Same H7 H8, ⟨⟨_, _, rfl⟩, Same.refl _⟩, fun j σ H8 _ ⟨_, s8⟩ => ⟨S, (Now.of l7 s8).step⟩, fun j d v' σ H8 H9 ed2 ⟨⟨x3, x4, e⟩, s8⟩ s9 hd2 => ?_, fun σ H8 ⟨⟨x3, x4, e⟩, s8⟩ => ?_⟩
        · subst e
          have n8 : Now S H7 S H8 := Now.of l7 s8
          obtain ⟨e, ee, rfl⟩ := enumD_inv ed2
          obtain ⟨st, est, rfl⟩ := map_inv ee
          have hst := hp.step r (List.mem_of_getElem? er) st (List.mem_of_getElem? est)
          refine g_tup2 (hd2 S n8.step) fun a b ha hb => ?_
          refine if_sb (n8.live.same s9) (sb_is (b' := false) (sb_not (sb_val (sv_spD (sv_var rfl hb) (stp_fine hst).1))) (by rw [hst]; rfl)) (fun z => Bool.noConfusion z) fun _ H10 s10 l10 => ?_
          exact ⟨⟨_, _, rfl⟩, (s8.trans s9).trans s10⟩
        · subst e
          exact ⟨⟨_, _, _, _, rfl⟩, ((s5.trans s6).trans s7).trans s8⟩
      · exact k .non _ (((s2.trans s3).trans s4).trans s5) .non
theorem lack_none {rs : List Row} (h : Valid rs) : lackP (deeds rs) = .none := by
  have e : (deeds rs).find? (lackD (deeds rs)) = none := by
    rw [List.find?_eq_none]
    intro d hd he
    obtain ⟨h1, h2⟩ := Bool.and_eq_true_iff.mp he
    obtain ⟨b, w'⟩ := d
    cases b with
    | true => cases h1
    | false => rw [decide_eq_true (h.sent w' hd)] at h2; cases h2
  unfold lackP
  rw [e]
theorem ok_check_messages (T : TopOk K mg A) : FnOk P w K mg base CX0 3 A.f_check_messages A.d_check_messages P_check_messages (spOk K) := by
  have G_deeds : FnOk P w K mg base CX0 1 A.f_deeds A.d_deeds P_deeds (spDeeds K) := ok_deeds T
  have G_first_unsent : FnOk P w K mg base CX0 2 A.f_first_unsent A.d_first_unsent P_first_unsent (spLack K) := ok_first_unsent T
  refine T.F_check_messages.ok sc_check_messages (fun vs H Q E h => ?_) (fun cdv Ar outer s H vs Q E hr h => ?_)
  · obtain ⟨S, x, _, h, _⟩ := h
    obtain ⟨v, rfl, _⟩ := h.one
    rfl
  · obtain ⟨S, ⟨ko, rs⟩, hL, hds, hp, k⟩ := h
    obtain ⟨v, rfl, hv⟩ := hds.one
    refine ⟨_, (pss_cons (ps_set (i := 1) sc_check_messages.nd rfl (by first | exact Or.inl rfl | exact Or.inr rfl) pe_dnewT)
      (pss_cons (ps_for PassesOwn.never rfl (pi_any (pe_call G_deeds (hr.mono (by decide)) (by rfl) T.g_deeds T.F_deeds.kp T.a_deeds .nil pass0 (pa_cons (pv 0) pa_nil))) (pg_name (i := 2) sc_check_messages.nd rfl (by first | exact Or.inl rfl | exact Or.inr rfl))
      (pss_cons (ps_if (pt_cmp (pc_din (hu_of hr) (pv 2) (pv 1)))
      (pss_one ps_never)
      pss_nil)
      (pss_one (ps_dput (hu_of hr) (pv 1) (pv 2) pe_bl rfl))))
      (pss_cons (ps_set (i := 3) sc_check_messages.nd rfl (by first | exact Or.inl rfl | exact Or.inr rfl) (pe_call G_first_unsent (hr.mono (by decide)) (by rfl) T.g_first_unsent T.F_first_unsent.kp T.a_first_unsent .nil pass0 (pa_cons (pv 0) pa_nil)))
      (pss_one (ps_if (pt_cmpR op_notN (pv 3) pe_non (nomark _))
      (pss_one ps_never)
      pss_nil))))), ?_⟩
    have hp : Valid rs := hp
    have hv : Ds K S H v (seqD ko (rs.map rowP)) := hv
    intro p np
    show tSeq _ _ _ [some v, some (.ref p), none, none] _
    have n1 : Now S H (fun a => S a ∨ a = p) (upd H p (.dT [])) := Now.add hL np
    have hv1 := hv.now n1
    have m1 : MdOk (upd H p (.dT [])) p [] := mdok_nil upd_same
    generalize upd H p (.dT []) = H1 at n1 hv1 m1
    have hI : SI K (fun a => S a ∨ a = p) (iAny K (tCall (spDeeds K) [] E0 (tCons (tVar 0) tNil))) [some v, some (.ref p), none, none] H1 ((deeds rs).map deedQ) := si_l (sv_T (enc := encR) (ko, rs) (sa_cons (sv_var rfl hv1) sa_nil) rfl hp.small.len)
    refine seq_for (K := K) (S := fun a => S a ∨ a = p) n1.live hI fun H2 s2 l2 => ⟨fun i σ H3 => (∃ x2, σ = [some v, some (.ref p), x2, none]) ∧ Step (fun a => S a ∨ a = p) H2 (fun a => S a ∨ a = p) H3 ∧ Same H H3 ∧ MdOk H3 p ((deeds rs).take i),
      ⟨⟨_, rfl⟩, Step.refl l2, n1.same.trans s2, m1.same s2⟩, fun i σ H3 _ ⟨_, t3, _⟩ => ⟨_, t3⟩, fun i d v' σ H3 H4 ed ⟨⟨x2, e⟩, t3, s3, kvs, m1, m2, m3⟩ s4 hd => ?_, fun σ H3 ⟨⟨x2, e⟩, t3, s3, _⟩ => ?_⟩
    · subst e
      obtain ⟨dd, edd, rfl⟩ := map_inv ed
      obtain ⟨b, rfl, hb⟩ := deed_at (hd _ t3)
      have notin : dd ∉ (deeds rs).take i := fun m => by
        obtain ⟨j, hj⟩ := List.getElem?_of_mem m
        have hji : j < i := by
          have := (List.getElem?_eq_some_iff.mp hj).1
          rw [List.length_take] at this
          omega
        rw [List.getElem?_take_of_lt hji] at hj
        have := (List.getElem?_inj (Nat.lt_trans hji (List.getElem?_eq_some_iff.mp edd).1) hp.once).mp (hj.trans edd.symm)
        omega
      have m4 : H4 p = some (.dT kvs) := s4 _ _ m1
      refine ⟨_, rfl, _, rfl, p, _, rfl, DGet.t m4 hb, _, rfl, ?_⟩
      rw [m3 dd, decide_eq_false notin]
      refine iteF ?_
      have hlen : kvs.length < sizeLine := by
        have h1 := len_deeds rs
        have h2 := hp.small.len
        rw [List.length_take] at m2
        exact szl (by omega)
      refine ⟨_, rfl, _, rfl, p, _, rfl, DPut.t m4 hb hlen, ⟨_, rfl⟩, (t3.then s4).put (.inr rfl), fun c u hc => ?_, ?_⟩
      · rw [upd_ne (ne_of_none hc np)]
        exact s4 _ _ (s3 _ _ hc)
      · have e1 : (deeds rs).take (i + 1) = (deeds rs).take i ++ [dd] := by
          rw [List.take_add_one, edd]
          rfl
        rw [e1]
        exact mdok_put m2 m3
    · subst e
      have hv3 := hv.same s3
      have l3 : Live S H3 := hL.same s3
      refine set_sv (K := K) (S := S) l3 (sv_T (enc := encR) (ko, rs) (sa_cons (sv_var rfl hv3) sa_nil) rfl hp.small) fun vm H4 s4 l4 hvm => ?_
      dsimp only [List.set]
      rw [lack_none hp] at hvm
      refine if_sb (S := S) l4 (sb_test (sv_notN (K := K) (d := .none) (sv_var rfl hvm))) (fun z => Bool.noConfusion z) fun _ H5 s5 l5 => ?_
      exact k .non _ ((s3.trans s4).trans s5) .non
end
end My
set_option Elab.async false
set_option linter.all false
set_option maxRecDepth 100000
namespace My
open PySem PySem.Spec PyProof.Rows L2 TL
def readyV : Option Nat → V
  | none => .non
  | some i => .int (i : Nat)
def natsV (l : List Nat) : List V := l.map fun n => .int (n : Nat)
def spCan (K : PySem.W.Frag) : Sp := fun vs H Q _ => ∃ (S : Sh) (v : V) (m : Addr) (s : Stp) (md : List (Bool × Str)), vs = [v, .ref m] ∧ Live S H ∧ Ds K S H v (stpP s) ∧ MdOk H m md ∧ ∀ H', Same H H' → Q (.bl (canD md s.d)) H'
def spReady (K : PySem.W.Frag) : Sp := fun vs H Q _ => ∃ (S : Sh) (v : V) (p m : Addr) (ko : Bool) (rs : List Row) (pl : List Nat) (md : List (Bool × Str)), vs = [v, .ref p, .ref m] ∧ Live S H ∧ Ds K S H v (rowsP ko rs) ∧ H p = some (.lst (natsV pl)) ∧ pl.length = rs.length ∧ MdOk H m md ∧
  ∀ H', Same H H' → Q (readyV (ready rs pl md)) H'
section
variable {P : Program} {w : World} {K : PySem.W.Frag} {mg : Str → Option Value} {base : Heap} {A : Top}
theorem ok_can_be_made (T : TopOk K mg A) : FnOk P w K mg base CX0 1 A.f_can_be_made A.d_can_be_made P_can_be_made (spCan K) := by
  refine T.F_can_be_made.ok sc_can_be_made (fun vs H Q E h => ?_) (fun cdv Ar outer s H vs Q E hr h => ?_)
  · obtain ⟨S, v, m, s, md, rfl, _⟩ := h
    rfl
  · obtain ⟨S, v, m, st, md, rfl, hL, hv, hm, k⟩ := h
    refine ⟨_, (pss_cons (ps_set (i := 2) sc_can_be_made.nd rfl (by first | exact Or.inl rfl | exact Or.inr rfl) (pe_ix ix_tup (pv 0) pe_int (fun _ _ => rfl)))
      (pss_one (ps_ret (pe_or (pe_cmpR op_isN (pv 2) pe_non (nomark _)) (pe_or (pe_cmpR op_eq (pe_ix ix_tup (pv 2) pe_int (fun _ _ => rfl)) pe_str (nomark _)) (pe_one (pe_cmp (pc_din (hu_of hr) (pe_tup (pa_cons pe_str (pa_cons (pe_ix ix_tup (pv 2) pe_int (fun _ _ => rfl)) pa_nil))) (pv 1)) rfl))))))), ?_⟩
    show tSeq _ _ _ [some v, some (.ref m), none] H
    refine set_sv (K := K) (S := S) hL (sv_ixT (ds := [.str st.m, .int st.n, deedP st.d]) (i := ((2 : Nat) : Int)) (sv_var rfl hv) sv_int (atI_of rfl)) fun vd H1 s1 l1 hvd => ?_
    dsimp only [List.set]
    have hm1 := hm.same s1
    cases e : st.d with
    | none =>
      rw [e] at hvd k
      cases hvd
      exact ⟨_, rfl, rfl, true, rfl, iteT (k H1 s1)⟩
    | some d =>
      rw [e] at hvd k
      obtain ⟨b, rfl, hb⟩ := deed_at hvd
      refine ⟨_, rfl, rfl, false, rfl, iteF ?_⟩
      refine ⟨_, rfl, b, _, _, _, rfl, rfl, tsq hb, rfl, rfl, _, rfl, ?_⟩
      obtain ⟨kd, w'⟩ := d
      cases kd with
      | true => exact iteT (k H1 s1)
      | false =>
        have ne : decide (V.str (kindS false) = V.str "send") = false := decide_eq_false fun z => absurd (V.str.inj z) (by decide +kernel)
        show if decide (V.str (kindS false) = V.str "send") = true then _ else _
        rw [ne]
        refine iteF ?_
        refine ⟨_, rfl, b, _, _, _, rfl, rfl, tsq hb, rfl, by show 2 ≤ sizeLine; decide, fun t nt => ?_⟩
        have s2 : Same H1 (upd H1 t (.tup [.str "send", .str w'])) := same_upd nt
        obtain ⟨kvs, m1, m2, m3⟩ := hm1.same s2
        refine ⟨_, rfl, m, _, rfl, DGet.t (k := keyD (true, w')) m1 upd_same, ?_⟩
        rw [m3]
        exact k _ (s1.trans s2)
theorem ok_first_ready (T : TopOk K mg A) : FnOk P w K mg base CX0 2 A.f_first_ready A.d_first_ready P_first_ready (spReady K) := by
  have G_can_be_made : FnOk P w K mg base CX0 1 A.f_can_be_made A.d_can_be_made P_can_be_made (spCan K) := ok_can_be_made T
  refine T.F_first_ready.ok sc_first_ready (fun vs H Q E h => ?_) (fun cdv Ar outer s H vs Q E hr h => ?_)
  · obtain ⟨S, v, p, m, ko, rs, pl, md, rfl, _⟩ := h
    rfl
  · obtain ⟨S, v, p, m, ko, rs, pl, md, rfl, hL, hv, hp, hl, hm, k⟩ := h
    refine ⟨_, (pss_cons (ps_for PassesOwn.never rfl (pi_enumA (by rfl) T.b_enumerate (pa_cons (pv 0) pa_nil)) (pg_tup rfl (pgs_cons (pg_name (i := 3) sc_first_ready.nd rfl (by first | exact Or.inl rfl | exact Or.inr rfl)) (pgs_cons (pg_tup rfl (pgs_cons (pg_name (i := 4) sc_first_ready.nd rfl (by first | exact Or.inl rfl | exact Or.inr rfl)) (pgs_cons (pg_name (i := 5) sc_first_ready.nd rfl (by first | exact Or.inl rfl | exact Or.inr rfl)) pgs_nil))) pgs_nil)))
      (pss_one (ps_if (PW.pt (pw_and (pt_cmpR op_lt (pe_ix ix_seq (pv 1) (pv 3) (fun _ _ => rfl)) (pe_callB call_len (by rfl) T.b_len (by decide +kernel) (pa_cons (pv 5) pa_nil)) (nomark _)) (pw_and1 (pt_val (pe_call G_can_be_made (hr.mono (by decide)) (by rfl) T.g_can_be_made T.F_can_be_made.kp T.a_can_be_made .nil pass0 (pa_cons (pe_ix ix_seq (pv 5) (pe_ix ix_seq (pv 1) (pv 3) (fun _ _ => rfl)) (fun _ _ => rfl)) (pa_cons (pv 2) pa_nil)))))))
      (pss_one (ps_ret (pv 3)))
      pss_nil)))
      (pss_one (ps_ret pe_non))), ?_⟩
    have hv : Ds K S H v (seqD ko (rs.map rowP)) := hv
    show tSeq _ _ _ [some v, some (.ref p), some (.ref m), none, none, none] H
    refine seq_for (K := K) (S := S) hL (si_enum (k := ko) (ds := rs.map rowP) (sa_cons (sv_var rfl hv) sa_nil)) fun H2 s2 l2 => ⟨fun i σ H3 => (∃ x3 x4 x5, σ = [some v, some (.ref p), some (.ref m), x3, x4, x5]) ∧ Same H2 H3 ∧ ∀ j, j < i → readyAt rs pl md j = false,
      ⟨⟨_, _, _, rfl⟩, Same.refl _, fun j hj => absurd hj (Nat.not_lt_zero j)⟩, fun i σ H3 _ ⟨_, s3, _⟩ => ⟨S, (Now.of l2 s3).step⟩, fun i d v' σ H3 H4 ed ⟨⟨x3, x4, x5, e⟩, s3, hj⟩ s4 hd => ?_, fun σ H3 ⟨⟨x3, x4, x5, e⟩, s3, hj⟩ => ?_⟩
    · subst e
      have n3 : Now S H2 S H3 := Now.of l2 s3
      obtain ⟨e, ee, rfl⟩ := enumD_inv ed
      obtain ⟨r, er, rfl⟩ := map_inv ee
      have s04 := (s2.trans s3).trans s4
      have l4 := n3.live.same s4
      have hi : i < pl.length := by rw [hl]; exact (List.getElem?_eq_some_iff.mp er).1
      have epl : pl[i]? = some (pl.getD i 0) := by rw [List.getD_eq_getElem?_getD, List.getElem?_eq_getElem hi]; rfl
      have eV : L2.atI (natsV pl) (i : Int) = some (.int ((pl.getD i 0 : Nat) : Int)) := atI_of (by unfold natsV; rw [List.getElem?_map, epl]; rfl)
      refine g_enum2 (hd S n3.step) fun x y z hx hy hz => ?_
      have hx' := hx.i
      subst hx'
      have pl4 := s04 _ _ hp
      have hsv : SV K S (tOp (rIx K) (tVar 1) (tVar 3)) [some v, some (.ref p), some (.ref m), some (.int (i : Nat)), some y, some z] H4 (.int ((pl.getD i 0 : Nat) : Int)) := sv_ixM rfl pl4 (sv_vi rfl) eV (.int _)
      have fin : ∀ H', Same H4 H' → readyAt rs pl md i = false → (∃ x3 x4 x5, [some v, some (V.ref p), some (V.ref m), some (V.int (i : Nat)), some y, some z] = [some v, some (.ref p), some (.ref m), x3, x4, x5]) ∧ Same H2 H' ∧ ∀ j, j < i + 1 → readyAt rs pl md j = false := fun H' s' e => ⟨⟨_, _, _, rfl⟩, (s3.trans s4).trans s', fun j hjl => by
        rcases Nat.lt_succ_iff_lt_or_eq.mp hjl with h | h
        · exact hj j h
        · rw [h]; exact e⟩
      refine if_sb (b := readyAt rs pl md i) l4 (sb_is (b := decide (((pl.getD i 0 : Nat) : Int) < ((r.s.map stpP).length : Nat)) && (match r.s[pl.getD i 0]? with | some st => canD md st.d | none => false)) (sb_and (sb_test (sv_lt hsv (sv_len (k := r.k) (sv_var rfl hz)))) fun elt => ?_) ?_) (fun e1 H5 s5 l5 => ?_) fun e1 H5 s5 l5 => fin H5 s5 e1
      · have hlt : pl.getD i 0 < r.s.length := by
          have := of_decide_eq_true elt
          rw [List.length_map] at this
          omega
        rw [List.getElem?_eq_getElem hlt]
        have eS : (r.s.map stpP)[pl.getD i 0]? = some (stpP r.s[pl.getD i 0]) := by rw [List.getElem?_map, List.getElem?_eq_getElem hlt]; rfl
        have hst0 : SV K S (tOp (rIx K) (tVar 5) (tOp (rIx K) (tVar 1) (tVar 3))) [some v, some (.ref p), some (.ref m), some (.int (i : Nat)), some y, some z] H4 (stpP r.s[pl.getD i 0]) := sv_ix (k := r.k) (sv_var rfl hz) hsv (atI_of eS)
        have hm4 := hm.same s04
        refine sb_val (K := K) fun S1 H5 n5 Q5 q5 => ?_
        refine (hst0.now n5).run n5.live fun vst H6 s6 hst => ?_
        exact ⟨_, rfl, S1, vst, m, _, md, rfl, n5.live.same s6, hst, (hm4.same n5.same).same s6, fun H7 s7 => q5 _ _ (s6.trans s7) (.bl _)⟩
      · unfold readyAt stepAt
        rw [er]
        show _ = match r.s[pl.getD i 0]? with | some s => canD md s.d | none => false
        rw [List.length_map]
        cases e : r.s[pl.getD i 0]? with
        | none => exact Bool.and_false _
        | some st =>
          have := (List.getElem?_eq_some_iff.mp e).1
          rw [decide_eq_true (show ((pl.getD i 0 : Nat) : Int) < (r.s.length : Nat) by omega)]
          rfl
      · refine ret_sv (K := K) l5 (sv_vi rfl) fun v5 H6 s6 hv6 => ?_
        have ef : ready rs pl md = some i := by
          unfold ready
          rw [List.find?_eq_some_iff_getElem]
          have hi2 : i < rs.length := (List.getElem?_eq_some_iff.mp er).1
          refine ⟨e1, i, by rw [List.length_range]; exact hi2, List.getElem_range _, fun j hjl => ?_⟩
          rw [List.getElem_range, hj j hjl]
          rfl
        rw [hv6.i]
        have := k H6 ((s04.trans s5).trans s6)
        rw [ef] at this
        exact this
    · subst e
      have ef : ready rs pl md = none := by
        unfold ready
        rw [List.find?_eq_none]
        intro j hjm
        have hj2 := List.mem_range.mp hjm
        rw [hj j (by rw [enumD_len, List.length_map]; exact hj2)]
        decide
      have := k H3 (s2.trans s3)
      rw [ef] at this
      exact this
theorem natsV_set (l : List Nat) (i v : Nat) : (natsV l).set i (.int (v : Nat)) = natsV (l.set i v) := by
  unfold natsV
  rw [List.map_set]
/-- where the loop stands -/
structure Loop (K : PySem.W.Frag) (S : Sh) (H H3 : Hp) (rs : List Row) (a1 a2 a3 : Addr) (t : Sta) : Prop where
  now : Now S H (fun a => ((S a ∨ a = a1) ∨ a = a2) ∨ a = a3) H3
  way : Way rs t
  h1 : H3 a1 = some (.lst (natsV t.pl))
  h2 : MdOk H3 a2 t.md
  na : H a3 = none
  na1 : H a1 = none
  na2 : H a2 = none
  ne : a1 ≠ a2 ∧ a1 ≠ a3 ∧ a2 ≠ a3
  h3 : ∃ vs, H3 a3 = some (.lst vs) ∧ DsAll K (fun a => ((S a ∨ a = a1) ∨ a = a2) ∨ a = a3) H3 vs (t.od.map (tripP rs))
def spOrder (K : PySem.W.Frag) : Sp := spT K encR (fun x => Small x.2) fun x => orderP x.2
set_option maxHeartbeats 1000000 in
theorem ok_order_of (T : TopOk K mg A) : FnOk P w K mg base CX0 3 A.f_order_of A.d_order_of P_order_of (spOrder K) := by
  have G_first_ready : FnOk P w K mg base CX0 2 A.f_first_ready A.d_first_ready P_first_ready (spReady K) := ok_first_ready T
  refine T.F_order_of.ok sc_order_of (fun vs H Q E h => ?_) (fun cdv Ar outer s H vs Q E hr h => ?_)
  · obtain ⟨S, x, _, h, _⟩ := h
    obtain ⟨v, rfl, _⟩ := h.one
    rfl
  · obtain ⟨S, ⟨ko, rs⟩, hL, hds, hp, k⟩ := h
    obtain ⟨v, rfl, hv⟩ := hds.one
    refine ⟨_, (pss_cons (ps_setLc (i := 1) (own := [("row", 6)]) (g := gName 6) (by rfl) sc_order_of.nd rfl rfl (sw_true rfl rfl rfl (by decide +kernel)) (pi_any (pv 0)) (blkOk_by (own := [("row", 6)]) (N := N_order_of) (sc := defScope s_order_of) (by decide +kernel)) (fun _ _ _ _ _ => (pg_name (i := 6) sc_order_of.nd rfl (by first | exact Or.inl rfl | exact Or.inr rfl))) (fun _ _ _ _ _ => pts_nil) (fun _ _ _ _ _ => pe_int))
      (pss_cons (ps_set (i := 2) sc_order_of.nd rfl (by first | exact Or.inl rfl | exact Or.inr rfl) pe_dnewT)
      (pss_cons (ps_set (i := 3) sc_order_of.nd rfl (by first | exact Or.inl rfl | exact Or.inr rfl) (pe_lst pa_nil))
      (pss_cons (ps_set (i := 4) sc_order_of.nd rfl (by first | exact Or.inl rfl | exact Or.inr rfl) (pe_call G_first_ready (hr.mono (by decide)) (by rfl) T.g_first_ready T.F_first_ready.kp T.a_first_ready .nil pass0 (pa_cons (pv 0) (pa_cons (pv 1) (pa_cons (pv 2) pa_nil)))))
      (pss_cons (ps_while PassesOwn.never (pt_cmpR op_notN (pv 4) pe_non (nomark _))
      (pss_cons (ps_asg (pe_ix ix_seq (pv 0) (pv 4) (fun _ _ => rfl)) (pg_tup rfl (pgs_cons (pg_name (i := 7) sc_order_of.nd rfl (by first | exact Or.inl rfl | exact Or.inr rfl)) (pgs_cons (pg_name (i := 8) sc_order_of.nd rfl (by first | exact Or.inl rfl | exact Or.inr rfl)) pgs_nil))))
      (pss_cons (ps_set (i := 5) sc_order_of.nd rfl (by first | exact Or.inl rfl | exact Or.inr rfl) (pe_ix ix_seq (pv 8) (pe_ix ix_seq (pv 1) (pv 4) (fun _ _ => rfl)) (fun _ _ => rfl)))
      (pss_cons (ps_expr (pe_bm PySem.F.plainAttrs_list PySem.F.slot_list_append PySem.F.type_list_append mt_append (pv 3) (pa_cons (pe_tup (pa_cons (pv 7) (pa_cons (pe_ix ix_seq (pv 1) (pv 4) (fun _ _ => rfl)) (pa_cons (pv 5) pa_nil)))) pa_nil)))
      (pss_cons (ps_asg (pe_op op_add (pe_ix ix_seq (pv 1) (pv 4) (fun _ _ => rfl)) pe_int) (pg_sub (pv 1) (pv 4) set_list))
      (pss_cons (ps_if (pt_cmpR op_notN (pe_ix ix_seq (pv 5) pe_int (fun _ _ => rfl)) pe_non (nomark _))
      (pss_one (ps_dput (hu_of hr) (pv 2) (pe_ix ix_seq (pv 5) pe_int (fun _ _ => rfl)) pe_bl rfl))
      pss_nil)
      (pss_one (ps_set (i := 4) sc_order_of.nd rfl (by first | exact Or.inl rfl | exact Or.inr rfl) (pe_call G_first_ready (hr.mono (by decide)) (by rfl) T.g_first_ready T.F_first_ready.kp T.a_first_ready .nil pass0 (pa_cons (pv 0) (pa_cons (pv 1) (pa_cons (pv 2) pa_nil))))))))))))
      (pss_one (ps_ret (pv 3)))))))), ?_⟩
    have hp : Small rs := hp
    have hv : Ds K S H v (seqD ko (rs.map rowP)) := hv
    show tSeq _ _ _ [some v, none, none, none, none, none, none, none, none] H
    have hsn : SN K S (tLc (iAny K (tVar 0)) (gName 6) tYes (tC (.int 0)) [6]) [some v, none, none, none, none, none, none, none, none] H (((rs.map fun _ => 0 : List Nat)).map fun n => PyData.int (n : Nat)) := SN.is (sn_lcM (si_any (k := ko) (ds := rs.map rowP) (sv_var rfl hv)) (by rw [List.length_map]; have := hp.few; omega) (fun _ => .int 0) fun d S' H' v' Q m n hd kk => kk [some v, none, none, none, none, none, some v', none, none] rfl sv_int) (by rw [List.map_map, List.map_map]; rfl)
    refine set_sn (K := K) (S := S) hL hsn fun a1 xs H1 s1 na1 ha1 hxs => ?_
    have exs : xs = natsV (rs.map fun _ => 0) := by
      unfold natsV
      have := DsAll.ints (ys := (rs.map fun _ => 0 : List Nat).map fun n => ((n : Nat) : Int)) (by rw [List.map_map]; exact hxs)
      rw [this, List.map_map]
      rfl
    subst exs
    have n1 : Now S H (fun a => S a ∨ a = a1) H1 := Now.more hL s1 na1 ha1
    intro a2 na2
    have n2 := n1.trans (Now.add (o := .dT []) n1.live na2)
    have hm2 : MdOk (upd H1 a2 (.dT [])) a2 [] := mdok_nil upd_same
    have ha12 : (upd H1 a2 (.dT [])) a1 = some (.lst (natsV (rs.map fun _ => 0))) := same_upd na2 _ _ ha1
    have ne12 : a1 ≠ a2 := ne_of_none ha1 na2
    have na02 : H a2 = none := s1.free na2
    have ex2 : ∃ o, (upd H1 a2 (.dT [])) a2 = some o := ⟨_, upd_same⟩
    generalize upd H1 a2 (.dT []) = H2 at n2 hm2 ha12 ex2
    refine ⟨Nat.zero_le _, fun a3 na3 => ?_⟩
    have n3 := n2.trans (Now.add (o := .lst []) n2.live na3)
    have s3 : Same H2 (upd H2 a3 (.lst [])) := same_upd na3
    have L0 : Loop K S H (upd H2 a3 (.lst [])) rs a1 a2 a3 (sta0 rs) := ⟨n3, way0 rs, s3 _ _ ha12, hm2.same s3, n2.same.free na3, na1, na02, ⟨ne12, ne_of_none ha12 na3, by obtain ⟨o, e⟩ := ex2; exact ne_of_none e na3⟩, [], upd_same, .nil⟩
    generalize upd H2 a3 (.lst []) = H3 at L0
    clear n3 s3 n2 n1 hm2 ha12
    have tail : ∀ (σ : L2.St) (t : Sta) (H4 : Hp) (Q2 : VK), (∃ x4 x5 x6 x7 x8, σ = [some v, some (.ref a1), some (.ref a2), some (.ref a3), x4, x5, x6, x7, x8]) → Loop K S H H4 rs a1 a2 a3 t → (∀ H5, Loop K S H H5 rs a1 a2 a3 t → Q2 (readyV (ready rs t.pl t.md)) H5) →
        (tCall (spReady K) [] E0 (tCons (tVar 0) (tCons (tVar 1) (tCons (tVar 2) tNil)))) σ H4 Q2 := by
      rintro σ t H4 Q2 ⟨x4, x5, x6, x7, x8, rfl⟩ L q
      obtain ⟨vs3, e3, d3⟩ := L.h3
      refine ⟨_, rfl, _, rfl, _, rfl, _, v, a1, a2, ko, rs, t.pl, t.md, rfl, L.now.live, hv.now L.now, L.h1, L.way.g.pl, L.h2, fun H5 s5 => q H5 ⟨L.now.then s5, L.way, s5 _ _ L.h1, L.h2.same s5, L.na, L.na1, L.na2, L.ne, vs3, s5 _ _ e3, d3.same s5⟩⟩
    refine tail _ (sta0 rs) H3 _ ⟨_, _, _, _, _, rfl⟩ L0 fun H4 L4 => ?_
    show tSeq _ _ _ [some v, some (.ref a1), some (.ref a2), some (.ref a3), some (readyV (ready rs (sta0 rs).pl (sta0 rs).md)), none, none, none, none] H4
    refine ⟨fun m σ H5 => ∃ t x5 x6 x7 x8, σ = [some v, some (.ref a1), some (.ref a2), some (.ref a3), some (readyV (ready rs t.pl t.md)), x5, x6, x7, x8] ∧ m = total rs - t.pl.sum ∧ Loop K S H H5 rs a1 a2 a3 t, ⟨_, sta0 rs, _, _, _, _, rfl, rfl, L4⟩, ?_⟩
    rintro m σ H5 ⟨t, x5, x6, x7, x8, rfl, rfl, L⟩
    cases er : ready rs t.pl t.md with
    | none =>
      refine ⟨_, rfl, rfl, _, rfl, iteF ?_⟩
      have et := L.way.fin er
      obtain ⟨vs3, e3, d3⟩ := L.h3
      exact ⟨_, rfl, k _ _ L.now.same (.lst ⟨hL.ne L.na, e3⟩ (DsAll.less (fun b hb => Or.inl (Or.inl (Or.inl hb))) (by rw [← et]; exact d3)))⟩
    | some i =>
      obtain ⟨r, st, er1, er2, ec⟩ := ready_some er
      have hs := stepAt_of er1 er2
      have hi : i < t.pl.length := by rw [L.way.g.pl]; exact (List.getElem?_eq_some_iff.mp er1).1
      have epl : t.pl[i]? = some (t.pl.getD i 0) := by rw [List.getD_eq_getElem?_getD, List.getElem?_eq_getElem hi]; rfl
      have eV : L2.atI (natsV t.pl) (i : Int) = some (.int ((t.pl.getD i 0 : Nat) : Int)) := atI_of (by unfold natsV; rw [List.getElem?_map, epl]; rfl)
      have eS : (r.s.map stpP)[t.pl.getD i 0]? = some (stpP st) := by rw [List.getElem?_map, er2]; rfl
      have eR : (rs.map rowP)[i]? = some (rowP r) := by rw [List.getElem?_map, er1]; rfl
      have hlt := good_lt L.way.g hs
      refine ⟨_, rfl, rfl, _, rfl, iteT ⟨fun σ' H' => ∃ x5 x6 x7 x8, σ' = [some v, some (.ref a1), some (.ref a2), some (.ref a3), some (readyV (ready rs (adv t i st).pl (adv t i st).md)), x5, x6, x7, x8] ∧ Loop K S H H' rs a1 a2 a3 (adv t i st),
        fun σ' H' ⟨y5, y6, y7, y8, e, L'⟩ => ⟨_, by rw [adv_sum L.way.g hs]; omega, adv t i st, y5, y6, y7, y8, e, rfl, L'⟩, ?_⟩⟩
      have l5 := L.now.live
      obtain ⟨vs3, e3, d3⟩ := L.h3
      refine asg_sv (K := K) (S := fun a => ((S a ∨ a = a1) ∨ a = a2) ∨ a = a3) l5 (sv_ix (k := ko) (i := ((i : Nat) : Int)) (sv_var rfl (hv.now L.now)) (sv_vi rfl) (atI_of eR)) fun vr H6 s6 l6 hvr => ?_
      refine g_tup2 hvr fun x y hx hy => ?_
      have hix : SV K (fun a => ((S a ∨ a = a1) ∨ a = a2) ∨ a = a3) (tOp (rIx K) (tVar 1) (tVar 4)) [some v, some (.ref a1), some (.ref a2), some (.ref a3), some (.int (i : Nat)), x5, x6, some x, some y] H6 (.int ((t.pl.getD i 0 : Nat) : Int)) := sv_ixM rfl (s6 _ _ L.h1) (sv_vi rfl) eV (.int _)
      show tSeq _ _ _ [some v, some (.ref a1), some (.ref a2), some (.ref a3), some (.int (i : Nat)), x5, x6, some x, some y] H6
      refine set_sv (K := K) l6 (sv_ix (k := r.k) (sv_var rfl hy) hix (atI_of eS)) fun vst H7 s7 l7 hvst => ?_
      have hx7 := hx.same s7
      have e37 := s7 _ _ (s6 _ _ e3)
      have d37 := (d3.same s6).same s7
      have h17 := s7 _ _ (s6 _ _ L.h1)
      have h27 := (L.h2.same s6).same s7
      have n7 := (L.now.then s6).then s7
      clear hix
      have hix : SV K (fun a => ((S a ∨ a = a1) ∨ a = a2) ∨ a = a3) (tOp (rIx K) (tVar 1) (tVar 4)) [some v, some (.ref a1), some (.ref a2), some (.ref a3), some (.int (i : Nat)), some vst, x6, some x, some y] H7 (.int ((t.pl.getD i 0 : Nat) : Int)) := sv_ixM rfl h17 (sv_vi rfl) eV (.int _)
      show tSeq _ _ _ [some v, some (.ref a1), some (.ref a2), some (.ref a3), some (.int (i : Nat)), some vst, x6, some x, some y] H7
      refine ⟨_, rfl, .inl ⟨rfl, _, lsq e37⟩, ?_⟩
      have hsa : SA K (fun a => ((S a ∨ a = a1) ∨ a = a2) ∨ a = a3) (tCons (tTup (tCons (tVar 7) (tCons (tOp (rIx K) (tVar 1) (tVar 4)) (tCons (tVar 5) tNil)))) tNil) [some v, some (.ref a1), some (.ref a2), some (.ref a3), some (.int (i : Nat)), some vst, x6, some x, some y] H7 [.tuple [.str r.n, .int ((t.pl.getD i 0 : Nat) : Int), stpP st]] := sa_cons (sv_tup (sa_cons (sv_var rfl hx7) (sa_cons hix (sa_cons (sv_var rfl hvst) sa_nil))) rfl) sa_nil
      refine hsa.run l7 fun vs8 H8 s8 h8 => ?_
      obtain ⟨v8, rfl, hv8⟩ := h8.one
      have l3 := d37.length
      have hod : t.od.length < 5000 := by rw [L.way.g.odl]; have : total rs ≤ 5000 := hp.len; omega
      refine ⟨a3, vs3, v8, rfl, rfl, s8 _ _ e37, szl (by rw [l3, List.length_map]; omega), ?_⟩
      have n8 := n7.then s8
      obtain ⟨ne12, ne13, ne23⟩ := L.ne
      have n9 := n8.put (p := a3) (o := .lst (vs3 ++ [v8])) (.inr rfl) (hL.ne L.na)
      have h19 : (upd H8 a3 (.lst (vs3 ++ [v8]))) a1 = some (.lst (natsV t.pl)) := by rw [upd_ne ne13]; exact s8 _ _ h17
      have h29 : MdOk (upd H8 a3 (.lst (vs3 ++ [v8]))) a2 t.md := by
        obtain ⟨kvs, b1, b2⟩ := h27.same s8
        exact ⟨kvs, by rw [upd_ne ne23]; exact b1, b2⟩
      have e39 : (upd H8 a3 (.lst (vs3 ++ [v8]))) a3 = some (.lst (vs3 ++ [v8])) := upd_same
      have d39 : DsAll K (fun a => ((S a ∨ a = a1) ∨ a = a2) ∨ a = a3) (upd H8 a3 (.lst (vs3 ++ [v8]))) (vs3 ++ [v8]) ((adv t i st).od.map (tripP rs)) := by
        have e : (adv t i st).od.map (tripP rs) = t.od.map (tripP rs) ++ [.tuple [.str r.n, .int ((t.pl.getD i 0 : Nat) : Int), stpP st]] := by
          show (t.od ++ [(i, t.pl.getD i 0)]).map (tripP rs) = _
          rw [List.map_append]
          congr 1
          show [tripP rs (i, t.pl.getD i 0)] = _
          unfold tripP
          rw [er1]
          dsimp only
          rw [er2]
        rw [e]
        exact ((d37.same s8).app (.cons hv8 .nil)).byX (XS.upd (.inr rfl))
      have hvst9 := (hvst.same s8).byX (XS.upd (S := fun a => ((S a ∨ a = a1) ∨ a = a2) ∨ a = a3) (p := a3) (o := .lst (vs3 ++ [v8])) (.inr rfl))
      generalize upd H8 a3 (.lst (vs3 ++ [v8])) = H9 at n9 h19 h29 e39 d39 hvst9
      show tSeq _ _ _ [some v, some (.ref a1), some (.ref a2), some (.ref a3), some (.int (i : Nat)), some vst, x6, some x, some y] H9
      refine asg_sv (K := K) (S := fun a => ((S a ∨ a = a1) ∨ a = a2) ∨ a = a3) n9.live (sv_add (sv_ixM (i := 1) rfl h19 (sv_vi rfl) eV (.int _)) sv_int) fun vv H10 s10 l10 hvv => ?_
      rw [hvv.i]
      refine ⟨_, rfl, _, rfl, a1, natsV t.pl, ((i : Nat) : Int), i, rfl, rfl, s10 _ _ h19, ?_, ?_⟩
      · have hl : (natsV t.pl).length = t.pl.length := by unfold natsV; rw [List.length_map]
        unfold ixN
        rw [if_pos (by omega), hl]
        simp [hi]
      rw [show ((t.pl.getD i 0 : Nat) : Int) + 1 = ((t.pl.getD i 0 + 1 : Nat) : Int) by omega, natsV_set]
      have n11 := (n9.then s10).put (p := a1) (o := .lst (natsV (t.pl.set i (t.pl.getD i 0 + 1)))) (.inl (.inl (.inr rfl))) (hL.ne L.na1)
      have h111 : (upd H10 a1 (.lst (natsV (t.pl.set i (t.pl.getD i 0 + 1))))) a1 = some (.lst (natsV (adv t i st).pl)) := upd_same
      have h211 : MdOk (upd H10 a1 (.lst (natsV (t.pl.set i (t.pl.getD i 0 + 1))))) a2 t.md := by
        obtain ⟨kvs, b1, b2⟩ := h29.same s10
        exact ⟨kvs, by rw [upd_ne ne12.symm]; exact b1, b2⟩
      have e311 : (upd H10 a1 (.lst (natsV (t.pl.set i (t.pl.getD i 0 + 1))))) a3 = some (.lst (vs3 ++ [v8])) := by rw [upd_ne ne13.symm]; exact s10 _ _ e39
      have d311 := (d39.same s10).byX (XS.upd (S := fun a => ((S a ∨ a = a1) ∨ a = a2) ∨ a = a3) (p := a1) (o := .lst (natsV (t.pl.set i (t.pl.getD i 0 + 1)))) (.inl (.inl (.inr rfl))))
      have hvst11 := (hvst9.same s10).byX (XS.upd (S := fun a => ((S a ∨ a = a1) ∨ a = a2) ∨ a = a3) (p := a1) (o := .lst (natsV (t.pl.set i (t.pl.getD i 0 + 1)))) (.inl (.inl (.inr rfl))))
      generalize upd H10 a1 (.lst (natsV (t.pl.set i (t.pl.getD i 0 + 1)))) = H11 at n11 h111 h211 e311 d311 hvst11
      have hdd : ∀ H12, Same H11 H12 → SV K (fun a => ((S a ∨ a = a1) ∨ a = a2) ∨ a = a3) (tOp (rIx K) (tVar 5) (tC (.int 2))) [some v, some (.ref a1), some (.ref a2), some (.ref a3), some (.int (i : Nat)), some vst, x6, some x, some y] H12 (deedP st.d) := fun H12 s12 => sv_ixA (ds := [.str st.m, .int st.n, deedP st.d]) (i := ((2 : Nat) : Int)) (sv_var rfl (hvst11.same s12)) sv_int (atI_of rfl)
      refine seq_if (S := fun a => ((S a ∨ a = a1) ∨ a = a2) ∨ a = a3) n11.live (sb_test (sv_notN (hdd H11 (Same.refl _)))) (fun eb H12 s12 l12 => ?_) fun eb H12 s12 l12 => ?_
      · cases ed : st.d with
        | none => rw [ed] at eb; cases eb
        | some d =>
          refine ⟨_, rfl, (hdd H12 s12).run l12 fun vd H13 s13 hvd => ?_⟩
          rw [ed] at hvd
          obtain ⟨b, rfl, hb⟩ := deed_at hvd
          obtain ⟨kvs, b1, b2, b3⟩ := (h211.same s12).same s13
          have hmd : t.md.length ≤ 5000 := by
            have h1 := L.way.g.mdl
            have h2 : total rs ≤ 5000 := hp.len
            omega
          refine ⟨a2, _, rfl, DPut.t b1 hb (szl (by omega)), ?_⟩
          refine tail _ (adv t i st) _ _ ⟨_, _, _, _, _, rfl⟩ ⟨((n11.then s12).then s13).put (.inl (.inr rfl)) (hL.ne L.na2), L.way.adv er hs, ?_, ?_, L.na, L.na1, L.na2, L.ne, vs3 ++ [v8], ?_, ?_⟩ fun H14 L14 => ⟨_, _, _, _, rfl, L14⟩
          · rw [upd_ne ne12]; exact s13 _ _ (s12 _ _ h111)
          · show MdOk _ a2 (addD t.md st.d)
            rw [ed]
            exact mdok_put b2 b3
          · rw [upd_ne ne23.symm]; exact s13 _ _ (s12 _ _ e311)
          · exact ((d311.same s12).same s13).byX (XS.upd (.inl (.inr rfl)))
      · cases ed : st.d with
        | some d => rw [ed] at eb; cases eb
        | none =>
          refine tail _ (adv t i st) _ _ ⟨_, _, _, _, _, rfl⟩ ⟨n11.then s12, L.way.adv er hs, s12 _ _ h111, ?_, L.na, L.na1, L.na2, L.ne, vs3 ++ [v8], s12 _ _ e311, d311.same s12⟩ fun H14 L14 => ⟨_, _, _, _, rfl, L14⟩
          show MdOk _ a2 (addD t.md st.d)
          rw [ed]
          exact h211.same s12
end
end My
set_option Elab.async false
set_option linter.all false
set_option maxRecDepth 100000
namespace My
open PySem PySem.Spec PyProof.Rows L2 TL
/-! ### what a log is -/
def rowT (r : Row) : PyData := .tuple [.str r.n, .tuple (r.s.map stpP)]
def fldsL (r o : Addr) : List (Str × V) := [("_rows", .ref r), ("_order", .ref o)]
/-- a log of the rows rs stands at a -/
structure LogAt (K : PySem.W.Frag) (C : Addr) (S : Sh) (H : Hp) (a : Addr) (rs : List Row) : Prop where
  val : Valid rs
  at_ : ∃ dx r o, ¬ S a ∧ H a = some (.ins C dx (fldsL r o)) ∧ Ds K S H (.ref r) (.list (rs.map rowT)) ∧ Ds K S H (.ref o) (orderP rs)
theorem LogAt.step {K : PySem.W.Frag} {C : Addr} {S S' : Sh} {H H' : Hp} {a : Addr} {rs : List Row} (h : LogAt K C S H a rs) (s : Step S H S' H') : LogAt K C S' H' a rs := by
  obtain ⟨v, dx, r, o, h1, h2, h3, h4⟩ := h
  exact ⟨v, dx, r, o, (at_step s h1 h2).1, (at_step s h1 h2).2, h3.step s, h4.step s⟩
theorem LogAt.now {K : PySem.W.Frag} {C : Addr} {S S' : Sh} {H H' : Hp} {a : Addr} {rs : List Row} (h : LogAt K C S H a rs) (s : Now S H S' H') : LogAt K C S' H' a rs := h.step s.step
theorem LogAt.byX {K : PySem.W.Frag} {C : Addr} {S : Sh} {H H' : Hp} {a : Addr} {rs : List Row} (h : LogAt K C S H a rs) (s : XS S H H') : LogAt K C S H' a rs := by
  obtain ⟨v, dx, r, o, h1, h2, h3, h4⟩ := h
  exact ⟨v, dx, r, o, h1, s _ _ h2 h1, h3.byX s, h4.byX s⟩
theorem LogAt.same {K : PySem.W.Frag} {C : Addr} {S : Sh} {H H' : Hp} {a : Addr} {rs : List Row} (h : LogAt K C S H a rs) (s : Same H H') : LogAt K C S H' a rs := h.byX (XS.of s)
theorem trip_fst {rs : List Row} {p : Nat × Nat} (h1 : p.1 < rs.length) (h2 : ∃ s, stepAt rs p.1 p.2 = some s) : fstD (tripP rs p) = .str ((rs[p.1]?.map (·.n)).getD "") ∧ ∃ x y z, tripP rs p = .tuple [x, y, z] := by
  obtain ⟨s, hs⟩ := h2
  obtain ⟨r, hr, hj⟩ := stepAt_row hs
  unfold tripP
  rw [hr]
  dsimp only
  rw [hj]
  exact ⟨rfl, _, _, _, rfl⟩
theorem last_step {rs : List Row} {p : Nat × Nat} (h : p ∈ (lastO rs).od) : p.1 < rs.length ∧ ∃ s, stepAt rs p.1 p.2 = some s := by
  obtain ⟨g, _⟩ := last_good rs
  obtain ⟨h1, h2⟩ := g.od p h
  refine ⟨h1, ?_⟩
  have h3 := g.le p.1 rs[p.1] (List.getElem?_eq_getElem h1)
  exact ⟨_, stepAt_of (List.getElem?_eq_getElem h1) (List.getElem?_eq_getElem (Nat.lt_of_lt_of_le h2 h3))⟩
def nameOf (rs : List Row) (i : Nat) : Str := (rs[i]?.map (·.n)).getD ""
theorem names_count {rs : List Row} (nd : (rs.map (·.n)).Nodup) : ∀ (l : List (Nat × Nat)), (∀ p ∈ l, p.1 < rs.length) → ∀ i r, rs[i]? = some r → (l.map fun p => nameOf rs p.1).count r.n = (l.map (·.1)).count i
  | [], _, _, _, _ => rfl
  | p :: l, h, i, r, hr => by
    rw [List.map_cons, List.map_cons, List.count_cons, List.count_cons, names_count nd l (fun q hq => h q (List.mem_cons_of_mem _ hq)) i r hr]
    have hp := h p (List.mem_cons_self ..)
    have e : (nameOf rs p.1 == r.n) = (p.1 == i) := by
      rw [Bool.eq_iff_iff, beq_iff_eq, beq_iff_eq]
      have h1 : (rs.map (·.n))[p.1]? = some (nameOf rs p.1) := by
        unfold nameOf
        rw [List.getElem?_map, List.getElem?_eq_getElem hp]
        rfl
      have h2 : (rs.map (·.n))[i]? = some r.n := by rw [List.getElem?_map, hr]; rfl
      constructor
      · intro z
        rw [z] at h1
        exact (List.getElem?_inj (by rw [List.length_map]; exact hp) nd).mp (h1.trans h2.symm)
      · intro z
        rw [z, h2] at h1
        rw [z]
        exact (Option.some.inj h1).symm
    rw [e]
section
variable {P : Program} {w : World} {K : PySem.W.Frag} {mg : Str → Option Value} {base : Heap} {A : Top}
def spEnds (K : PySem.W.Frag) : Sp := spT K (fun x : RowsX => [rowsP x.1 x.2, orderP x.2]) (fun x => Valid x.2) fun _ => .none
theorem ok_check_ends (T : TopOk K mg A) : FnOk P w K mg base CX0 1 A.f_check_ends A.d_check_ends P_check_ends (spEnds K) := by
  refine T.F_check_ends.ok sc_check_ends (fun vs H Q E h => ?_) (fun cdv Ar outer s H vs Q E hr h => ?_)
  · obtain ⟨S, x, _, h, _⟩ := h
    obtain ⟨v, u, rfl, _⟩ := h.two
    rfl
  · obtain ⟨S, ⟨ko, rs⟩, hL, hds, hp, k⟩ := h
    obtain ⟨v, vo, rfl, hv, ho⟩ := hds.two
    refine ⟨_, (pss_cons (ps_setLc (i := 2) (own := [("process", 5), ("index", 6), ("step", 7)]) (g := gTup K 3 (gCons (gName 5) (gCons (gName 6) (gCons (gName 7) gNil)))) (by rfl) sc_check_ends.nd rfl rfl (sw_true rfl rfl rfl (by decide +kernel)) (pi_any (pv 1)) (blkOk_by (own := [("process", 5), ("index", 6), ("step", 7)]) (N := N_check_ends) (sc := defScope s_check_ends) (by decide +kernel)) (fun _ _ _ _ _ => (pg_tup rfl (pgs_cons (pg_name (i := 5) sc_check_ends.nd rfl (by first | exact Or.inl rfl | exact Or.inr rfl)) (pgs_cons (pg_name (i := 6) sc_check_ends.nd rfl (by first | exact Or.inl rfl | exact Or.inr rfl)) (pgs_cons (pg_name (i := 7) sc_check_ends.nd rfl (by first | exact Or.inl rfl | exact Or.inr rfl)) pgs_nil))))) (fun _ _ _ _ _ => pts_nil) (fun _ _ _ _ _ => (pv 5)))
      (pss_one (ps_for PassesOwn.never rfl (pi_any (pv 0)) (pg_tup rfl (pgs_cons (pg_name (i := 3) sc_check_ends.nd rfl (by first | exact Or.inl rfl | exact Or.inr rfl)) (pgs_cons (pg_name (i := 4) sc_check_ends.nd rfl (by first | exact Or.inl rfl | exact Or.inr rfl)) pgs_nil)))
      (pss_one (ps_if (pt_cmpR op_lt (pe_bm PySem.F.plainAttrs_list PySem.F.slot_list_count PySem.F.type_list_count mt_countS (pv 2) (pa_cons (pv 3) pa_nil)) (pe_callB call_len (by rfl) T.b_len (by decide +kernel) (pa_cons (pv 4) pa_nil)) (nomark _))
      (pss_one ps_never)
      pss_nil))))), ?_⟩
    have hp : Valid rs := hp
    have hv : Ds K S H v (seqD ko (rs.map rowP)) := hv
    have hlen : (lastO rs).od.length ≤ 5000 := by
      rw [(last_good rs).1.odl]
      have h1 : (lastO rs).pl.sum ≤ total rs := by
        refine sum_le _ (rs.map fun r => r.s.length) (by rw [(last_good rs).1.pl, List.length_map]) fun i => ?_
        rw [total_eq]
        cases e : rs[i]? with
        | some r => exact (last_good rs).1.le i r e
        | none =>
          rw [List.getD_eq_getElem?_getD, List.getElem?_eq_none]
          · exact Nat.zero_le _
          · rw [(last_good rs).1.pl]; exact List.getElem?_eq_none_iff.mp e
      have h2 : total rs ≤ 5000 := hp.small.len
      omega
    show tSeq _ _ _ [some v, some vo, none, none, none, none, none, none] H
    refine set_sv (K := K) (S := S) hL (sv_is (d' := .list (((lastO rs).od.map fun p => nameOf rs p.1).map PyData.str)) (sv_lcM (K := K) (S := S) (si_l (ds := (lastO rs).od.map (tripP rs)) (sv_var rfl ho)) (by rw [List.length_map]; exact hlen) fstD fun d S' H' v' Q m n hd kk => ?_) ?_) fun vm H1 s1 l1 hvm => ?_
    · obtain ⟨p, hpm, rfl⟩ := List.mem_map.mp m
      obtain ⟨h1, h2⟩ := last_step hpm
      obtain ⟨_, x, y, z, e⟩ := trip_fst h1 h2
      have ef : fstD (tripP rs p) = x := by rw [e]; rfl
      rw [e] at hd
      exact g_tup3 hd fun a b c ha hb hc => kk [some v, some vo, none, none, none, some a, some b, some c] rfl (by rw [ef]; exact sv_var rfl ha)
    · rw [List.map_map, List.map_map]
      congr 1
      refine List.map_congr_left fun p hpm => ?_
      obtain ⟨h1, h2⟩ := last_step hpm
      exact (trip_fst h1 h2).1
    · dsimp only [List.set]
      have hv1 := hv.same s1
      refine for_si (K := K) (S := S) l1 (si_any (k := ko) (ds := rs.map rowP) (sv_var rfl hv1)) fun H2 s2 l2 => ⟨fun i σ H3 => (∃ x3 x4, σ = [some v, some vo, some vm, x3, x4, none, none, none]) ∧ Same H2 H3, ⟨⟨_, _, rfl⟩, Same.refl _⟩, fun i σ H3 _ ⟨_, s3⟩ => ⟨S, (Now.of l2 s3).step⟩, fun i d v' σ H3 H4 ed ⟨⟨x3, x4, e⟩, s3⟩ s4 hd => ?_, fun σ H3 ⟨⟨x3, x4, e⟩, s3⟩ => ?_⟩
      · subst e
        have n3 : Now S H2 S H3 := Now.of l2 s3
        obtain ⟨r, er, rfl⟩ := map_inv ed
        have hvm4 := ((hvm.same s2).same s3).same s4
        refine g_tup2 (hd S n3.step) fun x y hx hy => ?_
        refine if_sb (n3.live.same s4) (sb_test (sv_lt (sv_countS (sv_var rfl hvm4) (sv_var rfl hx)) (sv_len (k := r.k) (sv_var rfl hy)))) (fun z => ?_) fun _ H5 s5 l5 => ?_
        · have hz := of_decide_eq_true z
          rw [List.length_map, names_count hp.nd _ (fun p hpm => (last_step hpm).1) i r er] at hz
          have hi := (List.getElem?_eq_some_iff.mp er).1
          rw [(last_good rs).1.cnt i hi, hp.done i r er] at hz
          omega
        · exact ⟨⟨_, _, rfl⟩, (s3.trans s4).trans s5⟩
      · exact k .non _ ((s1.trans s2).trans s3) .non
/-- Log(*rows) -/
def spInit (K : PySem.W.Frag) (C : Addr) : Sp := fun vs H Q _ => ∃ (S : Sh) (x dx : Addr) (rest : List V) (rs : List Row), vs = .ref x :: rest ∧ Live S H ∧ S x ∧ H x = some (.ins C dx []) ∧ DsAll K S H rest (rs.map rowP) ∧ Valid rs ∧
  ∀ r o H', (∀ b u, H b = some u → b ≠ x → H' b = some u) → H' x = some (.ins C dx (fldsL r o)) → Ds K S H' (.ref r) (.list (rs.map rowT)) → Ds K S H' (.ref o) (orderP rs) → Q .non H'
theorem ok_init (T : TopOk K mg A) : FnR P w K mg base CX0 8 A.f_i_Log (spInit K A.c_Log) := by
  have G_check_rows : FnOk P w K mg base CX0 4 A.f_check_rows A.d_check_rows P_check_rows (spOk K) := ok_check_rows T
  have G_check_steps : FnOk P w K mg base CX0 5 A.f_check_steps A.d_check_steps P_check_steps (spOk K) := ok_check_steps T
  have G_check_messages : FnOk P w K mg base CX0 3 A.f_check_messages A.d_check_messages P_check_messages (spOk K) := ok_check_messages T
  have G_order_of : FnOk P w K mg base CX0 3 A.f_order_of A.d_order_of P_order_of (spOrder K) := ok_order_of T
  have G_check_ends : FnOk P w K mg base CX0 1 A.f_check_ends A.d_check_ends P_check_ends (spEnds K) := ok_check_ends T
  obtain ⟨oc, od, kV, doc, pm, an, cdv, ct, osl, efd, lk, hcd⟩ := T.F_i_Log.ex
  have R := StX.fn_star (P := P) (w := w) (mg := mg) (base := base) (k := 7) (ps := ["self"]) (pv := "rows") (N := N_i_Log) (CX := CX0) (sp := fun vs H Q _ => ∃ (S : Sh) (x dx p : Addr) (rs : List Row), vs = [.ref x, .ref p] ∧ Live S H ∧ S x ∧ H x = some (.ins A.c_Log dx []) ∧ Ds K S H (.ref p) (.tuple (rs.map rowP)) ∧ Valid rs ∧
    ∀ r o H', (∀ b u, H b = some u → b ≠ x → H' b = some u) → H' x = some (.ins A.c_Log dx (fldsL r o)) → Ds K S H' (.ref r) (.list (rs.map rowT)) → Ds K S H' (.ref o) (orderP rs) → Q .non H') (efd ▸ lk) hcd sc_i_Log StX.cxUp_none (fun us rest hl => match us, rest, hl with | [_], [], _ => rfl | [_], _ :: _, _ => rfl) fun Ar outer s H vs Q E hr h => ?_
  · refine R.imp fun vs H Q E h => ?_
    obtain ⟨S, x, dx, rest, rs, rfl, hL, hS, hx, hds, hv, q⟩ := h
    refine ⟨[.ref x], rest, rfl, rfl, ?_, fun p np => ⟨S, x, dx, p, rs, rfl, hL.same (same_upd np), hS, same_upd np _ _ hx, new_tup hL np hds, hv, fun r o H' hk hx' hr ho => q r o H' (fun b u hb hne => hk b u (same_upd np _ _ hb) hne) hx' hr ho⟩⟩
    rw [hds.length, List.length_map]
    exact sz (Nat.le_trans hv.few (by decide))
  · obtain ⟨S, x, dx, p, rs, rfl, hL, hS, hx, hds, hp, q⟩ := h
    have key : ∃ t, PSs (cxOf CX0 P w K mg base N_i_Log "Log.__init__" (defScope s_i_Log) A.f_i_Log cdv Ar outer s H E).nox (defBody s_i_Log) t ∧ t { nx := fun _ H' => Q .non H', rt := Q } (start N_i_Log [.ref x, .ref p]) H := by
      refine ⟨_, (pss_cons (ps_expr (pe_call G_check_rows (hr.mono (by decide)) (by rfl) T.g_check_rows T.F_check_rows.kp T.a_check_rows .nil pass0 (pa_cons (pv 1) pa_nil)))
      (pss_cons (ps_expr (pe_call G_check_steps (hr.mono (by decide)) (by rfl) T.g_check_steps T.F_check_steps.kp T.a_check_steps .nil pass0 (pa_cons (pv 1) pa_nil)))
      (pss_cons (ps_expr (pe_call G_check_messages (hr.mono (by decide)) (by rfl) T.g_check_messages T.F_check_messages.kp T.a_check_messages .nil pass0 (pa_cons (pv 1) pa_nil)))
      (pss_cons (ps_set (i := 2) sc_i_Log.nd rfl (by first | exact Or.inl rfl | exact Or.inr rfl) (pe_call G_order_of (hr.mono (by decide)) (by rfl) T.g_order_of T.F_order_of.kp T.a_order_of .nil pass0 (pa_cons (pv 1) pa_nil)))
      (pss_cons (ps_expr (pe_call G_check_ends (hr.mono (by decide)) (by rfl) T.g_check_ends T.F_check_ends.kp T.a_check_ends .nil pass0 (pa_cons (pv 1) (pa_cons (pv 2) pa_nil))))
      (pss_cons (ps_fld (pv 0) (pe_lc (own := [("name", 3), ("steps", 4)]) (g := gTup K 2 (gCons (gName 3) (gCons (gName 4) gNil))) (te := tTup (tCons (tVar 3) (tCons (tCB (rTupOf K) (tCons (tVar 4) tNil)) tNil))) (by rfl) sc_i_Log.nd (pi_any (pv 1)) (blkOk_by (own := [("name", 3), ("steps", 4)]) (N := N_i_Log) (sc := defScope s_i_Log) (by decide +kernel)) (fun _ _ _ _ _ => (pg_tup rfl (pgs_cons (pg_name (i := 3) sc_i_Log.nd rfl (by first | exact Or.inl rfl | exact Or.inr rfl)) (pgs_cons (pg_name (i := 4) sc_i_Log.nd rfl (by first | exact Or.inl rfl | exact Or.inr rfl)) pgs_nil)))) (fun _ _ _ _ _ => pts_nil) (fun _ _ _ _ _ => (pe_tup (pa_cons (pv 3) (pa_cons (pe_callTy call_tupleK (by rfl) T.b_tuple (by decide +kernel) (pa_cons (pv 4) pa_nil)) pa_nil))))) rfl)
      (pss_one (ps_fld (pv 0) (pv 2) rfl)))))))), ?_⟩
      show tSeq _ _ _ [some (.ref x), some (.ref p), none, none, none] H
      have hd0 : Ds K S H (.ref p) (rowsP false rs) := hds
      refine ⟨_, rfl, S, (false, rs), hL, .cons hd0 .nil, hp, fun v1 H1 s1 _ => ?_⟩
      refine ⟨_, rfl, S, (false, rs), hL.same s1, .cons (hd0.same s1) .nil, hp, fun v2 H2 s2 _ => ?_⟩
      have s02 := s1.trans s2
      refine ⟨_, rfl, S, (false, rs), hL.same s02, .cons (hd0.same s02) .nil, hp, fun v3 H3 s3 _ => ?_⟩
      have s03 := s02.trans s3
      refine ⟨_, rfl, S, (false, rs), hL.same s03, .cons (hd0.same s03) .nil, hp.small, fun vo H4 s4 ho => ?_⟩
      have s04 := s03.trans s4
      refine ⟨_, rfl, _, rfl, S, (false, rs), hL.same s04, .cons (hd0.same s04) (.cons ho .nil), hp, fun v5 H5 s5 _ => ?_⟩
      have s05 := s04.trans s5
      have l5 := hL.same s05
      have hsv : SV K S (tLc (iAny K (tVar 1)) (gTup K 2 (gCons (gName 3) (gCons (gName 4) gNil))) tYes (tTup (tCons (tVar 3) (tCons (tCB (rTupOf K) (tCons (tVar 4) tNil)) tNil))) [3, 4]) [some (.ref x), some (.ref p), some vo, none, none] H5 (.list (rs.map rowT)) :=
        sv_is (d := .list ((rs.map rowP).map fun d => .tuple [fstD d, .tuple (innD d)])) (sv_lcM (si_t (ds := rs.map rowP) (sv_var rfl (hds.same s05))) (by rw [List.length_map]; have := hp.few; omega) _ fun d S' H' v' Q m n hd kk => by
          obtain ⟨r, hr', rfl⟩ := List.mem_map.mp m
          refine g_tup2 hd fun a b ha hb => kk [some (.ref x), some (.ref p), some vo, some a, some b] rfl ?_
          rw [inn_row]
          exact sv_tup (sa_cons (sv_var rfl ha) (sa_cons (sv_tuple (k := r.k) (sv_var rfl hb)) sa_nil)) rfl) (by
          rw [List.map_map]
          congr 1
          refine List.map_congr_left fun r _ => ?_
          show PyData.tuple [_, .tuple (innD (rowP r))] = _
          rw [inn_row]
          rfl)
      refine fld_sv (K := K) (S := S) l5 hsv fun vr H6 s6 _ hvr => ?_
      obtain ⟨ar, xr, rfl, lr, _⟩ := Ds.l hvr
      obtain ⟨ao, xo, rfl, lo, _⟩ := Ds.l (ds := (lastO rs).od.map (tripP rs)) ho
      have s06 := s05.trans s6
      have hx6 := s06 _ _ hx
      refine ⟨_, rfl, x, A.c_Log, dx, [], rfl, hx6, T.cl_Log, T.na_Log_rows, by show 0 < 1000; decide, ?_⟩
      refine ⟨_, rfl, _, rfl, x, A.c_Log, dx, _, rfl, upd_same, T.cl_Log, T.na_Log_order, by show 1 < 1000; decide, ?_⟩
      have hk : ∀ b u, H b = some u → b ≠ x → (upd (upd H6 x (.ins A.c_Log dx (putF "_rows" (.ref ar) []))) x (.ins A.c_Log dx (putF "_order" (.ref ao) (putF "_rows" (.ref ar) [])))) b = some u := fun b u hb hne => by
        rw [upd_ne hne, upd_ne hne]
        exact s06 _ _ hb
      refine q ar ao _ hk ?_ ?_ ?_
      · rw [upd_same]
        congr 2
      · exact (hvr.byX (XS.upd hS)).byX (XS.upd hS)
      · exact (((ho.same s5).same s6).byX (XS.upd hS)).byX (XS.upd hS)
    obtain ⟨t, h1, h2⟩ := key
    exact ⟨t, h1.nox, h2⟩
end
end My
set_option Elab.async false
set_option linter.all false
set_option maxRecDepth 100000
namespace My
open PySem PySem.Spec PyProof.Rows L2 TL
/-! ### the texts of logs -/
section
variable {P : Program} {w : World} {K : PySem.W.Frag} {mg : Str → Option Value} {base : Heap} {A : Top}
def spMeth (K : PySem.W.Frag) (C : Addr) (f : List Row → PyData) : Sp := fun vs H Q _ => ∃ (S : Sh) (a : Addr) (rs : List Row), vs = [.ref a] ∧ Live S H ∧ LogAt K C S H a rs ∧ ∀ v H', Same H H' → Ds K S H' v (f rs) → Q v H'
theorem sv_rows {S : Sh} {H : Hp} {a C : Addr} {rs : List Row} {σ : L2.St} {i : Nat} (cl : Cls K C) (na : NoAttr K C "_rows") (h : LogAt K C S H a rs) (hi : σ[i]? = some (some (.ref a))) : SV K S (tFld K (tVar i) "_rows") σ H (.list (rs.map rowT)) := by
  obtain ⟨v, dx, r, o, h1, h2, h3, h4⟩ := h
  exact sv_fld hi h2 cl na rfl h3
def rowL (r : Row) : PyData := .tuple [.str r.n, .list (r.s.map stpP)]
theorem ok_rows (T : TopOk K mg A) : FnOk P w K mg base CX0 1 A.f_Log_rows A.d_Log_rows P_Log_rows (spMeth K A.c_Log fun rs => .list (rs.map rowL)) := by
  refine T.F_Log_rows.ok sc_Log_rows (fun vs H Q E h => ?_) (fun cdv Ar outer s H vs Q E hr h => ?_)
  · obtain ⟨S, a, rs, rfl, _⟩ := h
    rfl
  · obtain ⟨S, a, rs, rfl, hL, hlog, k⟩ := h
    refine ⟨_, (pss_one (ps_ret (pe_lc (own := [("name", 1), ("steps", 2)]) (g := gTup K 2 (gCons (gName 1) (gCons (gName 2) gNil))) (te := tTup (tCons (tVar 1) (tCons (tCB (rListOf K) (tCons (tVar 2) tNil)) tNil))) (by rfl) sc_Log_rows.nd (pi_any (pe_fld (pv 0) rfl)) (blkOk_by (own := [("name", 1), ("steps", 2)]) (N := N_Log_rows) (sc := defScope s_Log_rows) (by decide +kernel)) (fun _ _ _ _ _ => (pg_tup rfl (pgs_cons (pg_name (i := 1) sc_Log_rows.nd rfl (by first | exact Or.inl rfl | exact Or.inr rfl)) (pgs_cons (pg_name (i := 2) sc_Log_rows.nd rfl (by first | exact Or.inl rfl | exact Or.inr rfl)) pgs_nil)))) (fun _ _ _ _ _ => pts_nil) (fun _ _ _ _ _ => (pe_tup (pa_cons (pv 1) (pa_cons (pe_callTy call_listK (by rfl) T.b_list (by decide +kernel) (pa_cons (pv 2) pa_nil)) pa_nil))))))), ?_⟩
    show tRet _ _ [some (.ref a), none, none] H
    refine ret_sv hL (sv_is (d := .list ((rs.map rowT).map fun d => .tuple [fstD d, .list (innD d)])) (sv_lcM (K := K) (S := S) (si_l (sv_rows T.cl_Log T.na_Log_rows hlog rfl)) (by rw [List.length_map]; have := hlog.val.few; omega) _ fun d S' H' v' Q m n' hd kk => ?_) ?_) k
    · obtain ⟨r, mr, rfl⟩ := List.mem_map.mp m
      exact g_tup2 hd fun x y hx hy => kk [some (.ref a), some x, some y] rfl (sv_tup (sa_cons (sv_var rfl hx) (sa_cons (sv_listK (k := false) (sv_var rfl hy)) sa_nil)) rfl)
    · rw [List.map_map]
      rfl
end
end My
set_option Elab.async false
set_option linter.all false
set_option maxRecDepth 100000
namespace My
open PySem PySem.Spec PyProof.Rows L2 TL
/-! ### logs read back -/
end My
set_option Elab.async false
set_option linter.all false
set_option maxRecDepth 100000
namespace My
open PySem PySem.Spec PyProof.Rows L2 TL
section
variable {P : Program} {w : World} {K : PySem.W.Frag} {mg : Str → Option Value} {base : Heap} {A : Top}
theorem fine_refl {d : PyData} (h : fine d = true) : PyData.eqv d d = true := SeqAt.eqv_refl d (SeqAt.canLay_of_shaped (fine_shaped h))
end
end My
set_option Elab.async false
set_option linter.all false
set_option maxRecDepth 100000
namespace My
open PySem PySem.Spec PyProof.Rows L2 TL
theorem dp_strs {K : PySem.W.Frag} {H : Hp} {l : Addr} {xs : List Str} (h : H l = some (.lst (xs.map V.str))) : Dp K H (.ref l) (.list (xs.map PyData.str)) := Ds.dp _ _ (Ds.lst (S := fun _ => False) ⟨id, h⟩ ds_strs)
theorem fine_strs {xs : List Str} (hl : xs.length ≤ 5000) (h : ∀ x ∈ xs, fine (.str x) = true) : fine (.list (xs.map PyData.str)) = true := fine_seq (k := true) (by rw [List.length_map]; exact hl) fun d hd => by
  obtain ⟨x, m, rfl⟩ := List.mem_map.mp hd
  exact ⟨h x m, by simp [PyData.depth]⟩
theorem ne_nil {xs : List Str} : (!PyData.eqv (.list (xs.map PyData.str)) (.list [])) = decide (xs ≠ []) := by
  cases xs <;> rfl
theorem ixS {xs : List V} {j : Nat} (h : j < xs.length) : ∃ k, seqIndex? ((j : Nat) : Int) xs.length = some k ∧ xs[k]? = some xs[j] ∧ k < xs.length := by
  obtain ⟨k, a, b, c, _⟩ := L2.atI_get (L2.atI_nat (List.getElem?_eq_getElem h))
  exact ⟨k, a, b, c⟩
theorem perm_erase {α : Type} : ∀ (l : List α) (k : Nat) (h : k < l.length), (l[k] :: l.eraseIdx k).Perm l
  | a :: l, 0, _ => .refl _
  | a :: l, k + 1, h => (List.Perm.swap a _ _).trans ((perm_erase l k (by simpa using h)).cons a)
section
variable {P : Program} {w : World} {K : PySem.W.Frag} {mg : Str → Option Value} {base : Heap} {A : Top}
def spMixed : Sp := fun vs H Q _ => ∃ (B : BagId) (q : Addr) (xs : List Str), vs = [.ref B.p, .ref q] ∧ Bag B H ∧ H q = some (.lst (xs.map V.str)) ∧ xs.length ≤ 100 ∧ (∀ x ∈ xs, fine (.str x) = true) ∧
  ∀ (a : Addr) (ys : List Str) (H' : Hp), H a = none → Bag B H' → Ext B.p H H' → H' a = some (.lst (ys.map V.str)) → ys.Perm xs → Q (.ref a) H'
theorem ok_Lmixed (T : TopOk K mg A) : FnOk P w K mg base CX0 2 A.f_Lmixed A.d_Lmixed P_Lmixed spMixed := by
  have G_Ldraw : FnOk P w K mg base CX0 1 A.f_Ldraw A.d_Ldraw P_Ldraw spDraw := ok_Ldraw T
  refine T.F_Lmixed.ok sc_Lmixed (fun vs H Q E h => ?_) (fun cdv Ar outer s H vs Q E hr h => ?_)
  · obtain ⟨B, q, xs, rfl, _⟩ := h
    rfl
  · obtain ⟨B, q, xs, rfl, hB, hq, hlen, hfin, k⟩ := h
    refine ⟨_, (pss_cons (ps_par (i := 2) (j := 3) (by rfl) sc_Lmixed.nd rfl rfl (by decide) rfl rfl (pa_cons (pe_callTy call_listL (by rfl) T.b_list (by decide +kernel) (pa_cons (pv 1) pa_nil)) (pa_cons (pe_lst pa_nil) pa_nil)) (by rfl))
      (pss_cons (ps_while PassesOwn.never (pt_cmpR (L2.op_neD hr.units) (pv 2) (pe_lst pa_nil) (nomark _))
      (pss_one (ps_expr (pe_bm PySem.F.plainAttrs_list PySem.F.slot_list_append PySem.F.type_list_append mt_append (pv 3) (pa_cons (pe_bm PySem.F.plainAttrs_list PySem.F.slot_list_pop PySem.F.type_list_pop mt_popAt (pv 2) (pa_cons (pe_call G_Ldraw (hr.mono (by decide)) (by rfl) T.g_Ldraw T.F_Ldraw.kp T.a_Ldraw .nil pass0 (pa_cons (pv 0) (pa_cons (pe_callB call_len (by rfl) T.b_len (by decide +kernel) (pa_cons (pv 2) pa_nil)) pa_nil))) pa_nil)) pa_nil)))))
      (pss_one (ps_ret (pv 3))))), ?_⟩
    show tSeq _ _ _ [some (.ref B.p), some (.ref q), none, none] H
    refine ⟨_, rfl, q, _, rfl, lsq hq, fun l nl => ⟨Nat.zero_le _, fun m nm => ⟨_, _, rfl, ?_⟩⟩⟩
    have s1 : Same H (upd H l (.lst (xs.map V.str))) := same_upd nl
    have s2 := s1.trans (same_upd (o := .lst []) nm)
    have el : (upd (upd H l (.lst (xs.map V.str))) m (.lst [])) l = some (.lst (xs.map V.str)) := same_upd nm _ _ upd_same
    have em : (upd (upd H l (.lst (xs.map V.str))) m (.lst [])) m = some (.lst []) := upd_same
    have nm0 : H m = none := s1.free nm
    have nlm : l ≠ m := ne_of_none upd_same nm
    generalize upd (upd H l (.lst (xs.map V.str))) m (.lst []) = H0 at s2 el em
    have hlp : l ≠ B.p := fun z => by obtain ⟨o, e⟩ := hB.there; rw [← z, nl] at e; cases e
    have hll : l ≠ B.l := fun z => by obtain ⟨o, e⟩ := hB.thereL; rw [← z, nl] at e; cases e
    have hmp : m ≠ B.p := fun z => by obtain ⟨o, e⟩ := hB.there; rw [← z, nm0] at e; cases e
    have hml : m ≠ B.l := fun z => by obtain ⟨o, e⟩ := hB.thereL; rw [← z, nm0] at e; cases e
    show tSeq _ _ _ [some (.ref B.p), some (.ref q), some (.ref l), some (.ref m)] H0
    refine ⟨fun n σ H1 => ∃ ls fs, σ = [some (.ref B.p), some (.ref q), some (.ref l), some (.ref m)] ∧ n = ls.length ∧ Bag B H1 ∧ Ext B.p H H1 ∧ H1 l = some (.lst (ls.map V.str)) ∧ H1 m = some (.lst (fs.map V.str)) ∧ (fs ++ ls).Perm xs, ⟨_, xs, [], rfl, rfl, hB.ext s2, fun b o e _ => s2 _ _ e, el, em, by simp⟩, ?_⟩
    rintro n σ H1 ⟨ls, fs, rfl, rfl, hB1, ex1, hl1, hm1, hp⟩
    have hlen1 : fs.length + ls.length = xs.length := by rw [← List.length_append]; exact hp.length_eq
    have hfl : ∀ x ∈ ls, fine (.str x) = true := fun x hx => hfin x (hp.mem_iff.mp (List.mem_append_right _ hx))
    have hff := fine_strs (xs := ls) (by omega) hfl
    refine ⟨_, rfl, Nat.zero_le _, fun z nz => ?_⟩
    have s3 : Same H1 (upd H1 z (.lst [])) := same_upd nz
    have ez : (upd H1 z (.lst [])) z = some (.lst []) := upd_same
    refine ⟨_, _, dp_strs (s3 _ _ hl1), dp_strs (xs := []) ez, fine_shaped hff, by decide, ?_⟩
    generalize upd H1 z (.lst []) = H2 at s3 ez
    rw [show (List.map PyData.str ([] : List Str)) = [] from rfl, ne_nil]
    refine ⟨_, rfl, ite2 (fun e => ?_) (fun e => ?_)⟩
    · have hne : ls ≠ [] := of_decide_eq_true e
      have hpos : 0 < ls.length := List.length_pos_iff.mpr hne
      refine ⟨fun σ' H' => ∃ ls' fs', σ' = [some (.ref B.p), some (.ref q), some (.ref l), some (.ref m)] ∧ ls'.length < ls.length ∧ Bag B H' ∧ Ext B.p H H' ∧ H' l = some (.lst (ls'.map V.str)) ∧ H' m = some (.lst (fs'.map V.str)) ∧ (fs' ++ ls').Perm xs, fun σ' H' ⟨ls', fs', a1, a2, a3⟩ => ⟨_, a2, ls', fs', a1, rfl, a3⟩, ?_⟩
      refine ⟨_, rfl, .inl ⟨rfl, _, lsq (s3 _ _ hm1)⟩, _, rfl, .inl ⟨rfl, _, lsq (s3 _ _ hl1)⟩, ?_⟩
      refine ⟨_, rfl, _, rfl, V.ref l, ls.length, rfl, .inl ⟨_, lsq (s3 _ _ hl1), by rw [List.length_map]⟩, B, _, rfl, hB1.ext s3, by omega, by omega, fun r H3 r0 r1 hB3 ex3 => ?_⟩
      obtain ⟨j, rfl⟩ := Int.eq_ofNat_of_zero_le r0
      have hj : j < (ls.map V.str).length := by rw [List.length_map]; omega
      obtain ⟨k', a1, a2, a3⟩ := ixS hj
      have hl3 := ex3 _ _ (s3 _ _ hl1) hlp
      have hm3 := ex3 _ _ (s3 _ _ hm1) hmp
      rw [List.length_map] at a1 a3
      refine ⟨l, _, _, k', _, rfl, rfl, hl3, by omega, by omega, by rw [List.length_map]; exact a1, a2, ?_⟩
      have hk : k' < ls.length := a3
      have ev : (ls.map V.str)[j] = V.str ls[k'] := by
        rw [List.getElem?_map, List.getElem?_eq_getElem hk] at a2
        exact (Option.some.inj a2).symm
      rw [ev, erase_mapS]
      have el4 : (upd H3 l (.lst ((ls.eraseIdx k').map V.str))) l = some (.lst ((ls.eraseIdx k').map V.str)) := upd_same
      have em4 : (upd H3 l (.lst ((ls.eraseIdx k').map V.str))) m = some (.lst (fs.map V.str)) := by rw [upd_ne nlm.symm]; exact hm3
      have hB4 := hB3.upd (o := .lst ((ls.eraseIdx k').map V.str)) hlp hll
      have ex4 : Ext B.p H (upd H3 l (.lst ((ls.eraseIdx k').map V.str))) := fun b o e n => by
        rw [upd_ne fun z => by rw [z, nl] at e; cases e]
        exact ex3 _ _ (s3 _ _ (ex1 b o e n)) n
      generalize upd H3 l (.lst ((ls.eraseIdx k').map V.str)) = H4 at el4 em4 hB4 ex4
      refine ⟨m, _, _, rfl, rfl, em4, szl (by rw [List.length_map]; omega), ?_⟩
      refine ⟨ls.eraseIdx k', fs ++ [ls[k']], rfl, by rw [List.length_eraseIdx_of_lt hk]; omega, hB4.upd hmp hml, fun b o e n => ?_, by rw [upd_ne nlm]; exact el4, by rw [upd_same, List.map_append]; rfl, ?_⟩
      · rw [upd_ne fun z => by rw [z, nm0] at e; cases e]
        exact ex4 b o e n
      · rw [List.append_assoc]
        exact ((perm_erase ls k' hk).append_left fs).trans hp
    · have hnil : ls = [] := by simpa using e
      subst hnil
      rw [List.append_nil] at hp
      refine ⟨_, rfl, k m fs H2 nm0 (hB1.ext s3) (fun b o e n => s3 _ _ (ex1 b o e n)) (s3 _ _ hm1) hp⟩
end
end My
set_option Elab.async false
set_option linter.all false
set_option maxRecDepth 100000
namespace My
open PySem PySem.Spec PyProof.Rows L2 TL
def marks : List Str := ["x", "y", "do", "wait", "z"]
theorem marks_ok : ∀ m ∈ marks, nameD 4 (.str m) = true := by decide +kernel
theorem cut_mem {xs : List V} {lo hi : Option Int} {v : V} (h : v ∈ cutV xs lo hi) : v ∈ xs := by
  unfold cutV at h
  exact List.mem_of_mem_drop (List.mem_of_mem_take h)
theorem cut_marks : ∀ r : Fin 4, 0 < (cutV (marks.map V.str) none (some (2 + ((r.val : Nat) : Int)))).length ∧ (cutV (marks.map V.str) none (some (2 + ((r.val : Nat) : Int)))).length ≤ 5 := by decide +kernel
section
variable {P : Program} {w : World} {K : PySem.W.Frag} {mg : Str → Option Value} {base : Heap} {A : Top}
def spMarks : Sp := fun vs H Q _ => vs = [] ∧ ∀ a, H a = none → Q (.ref a) (upd H a (.lst (marks.map V.str)))
theorem ok_Lmarks (T : TopOk K mg A) : FnOk P w K mg base CX0 1 A.f_Lmarks A.d_Lmarks P_Lmarks spMarks := by
  refine T.F_Lmarks.ok sc_Lmarks (fun vs H Q E h => ?_) (fun cdv Ar outer s H vs Q E hr h => ?_)
  · obtain ⟨rfl, _⟩ := h
    rfl
  · obtain ⟨rfl, k⟩ := h
    refine ⟨_, (pss_one (ps_ret (pe_lst (pa_cons pe_str (pa_cons pe_str (pa_cons pe_str (pa_cons pe_str (pa_cons pe_str pa_nil)))))))), ?_⟩
    refine ⟨by decide, fun a na => k a na⟩
def spStep (K : PySem.W.Frag) : Sp := fun vs H Q _ => ∃ (S : Sh) (B : BagId) (v : V) (dd : PyData), vs = [.ref B.p, v] ∧ Live S H ∧ S B.p ∧ Bag B H ∧ Ds K S H v dd ∧
  ∀ (v' : V) (m : Str) (n : Int) (H' : Hp), Bag B H' → Ext B.p H H' → Ds K S H' v' (.tuple [.str m, .int n, dd]) → nameD 4 (.str m) = true → -99 ≤ n → n ≤ 99 → Q v' H'
theorem ok_Lstep (T : TopOk K mg A) : FnOk P w K mg base CX0 3 A.f_Lstep A.d_Lstep P_Lstep (spStep K) := by
  have G_Ldraw : FnOk P w K mg base CX0 1 A.f_Ldraw A.d_Ldraw P_Ldraw spDraw := ok_Ldraw T
  have G_Lmarks : FnOk P w K mg base CX0 1 A.f_Lmarks A.d_Lmarks P_Lmarks spMarks := ok_Lmarks T
  have G_Lof : FnOk P w K mg base CX0 2 A.f_Lof A.d_Lof P_Lof (spOf K) := ok_Lof T
  refine T.F_Lstep.ok sc_Lstep (fun vs H Q E h => ?_) (fun cdv Ar outer s H vs Q E hr h => ?_)
  · obtain ⟨S, B, v, dd, rfl, _⟩ := h
    rfl
  · obtain ⟨S, B, v, dd, rfl, hL, hS, hB, hv, k⟩ := h
    refine ⟨_, (pss_one (ps_ret (pe_tup (pa_cons (pe_call G_Lof (hr.mono (by decide)) (by rfl) T.g_Lof T.F_Lof.kp T.a_Lof .nil pass0 (pa_cons (pv 0) (pa_cons (pe_slice sl_list (pe_call0 G_Lmarks (hr.mono (by decide)) (by rfl) T.g_Lmarks T.F_Lmarks.kp T.a_Lmarks .nil pass0) po_none (po_some (pe_op op_add pe_int (pe_call G_Ldraw (hr.mono (by decide)) (by rfl) T.g_Ldraw T.F_Ldraw.kp T.a_Ldraw .nil pass0 (pa_cons (pv 0) (pa_cons pe_int pa_nil)))))) pa_nil))) (pa_cons (pe_call G_Lof (hr.mono (by decide)) (by rfl) T.g_Lof T.F_Lof.kp T.a_Lof .nil pass0 (pa_cons (pv 0) (pa_cons (pe_lst (pa_cons pe_int (pa_cons pe_int (pa_cons (pe_un un_neg pe_int) (pa_cons (pe_op op_sub (pe_call G_Ldraw (hr.mono (by decide)) (by rfl) T.g_Ldraw T.F_Ldraw.kp T.a_Ldraw .nil pass0 (pa_cons (pv 0) (pa_cons pe_int pa_nil))) pe_int) (pa_cons (pe_op op_sub (pe_call G_Ldraw (hr.mono (by decide)) (by rfl) T.g_Ldraw T.F_Ldraw.kp T.a_Ldraw .nil pass0 (pa_cons (pv 0) (pa_cons pe_int pa_nil))) pe_int) pa_nil)))))) pa_nil))) (pa_cons (pv 1) pa_nil)))))), ?_⟩
    show tRet _ _ [some (.ref B.p), some v] H
    refine ⟨_, rfl, rfl, fun a na => ?_⟩
    have hap : a ≠ B.p := hB.ne na
    refine ⟨_, rfl, B, 4, rfl, hB.ext (same_upd na), by decide, by decide, fun r H1 r0 r1 hB1 ex1 => ⟨_, _, rfl, rfl, _, rfl, a, _, rfl, lsq (ex1 _ _ upd_same hap), fun u nu => ?_⟩⟩
    have x1 : Ext B.p H H1 := fun b o e n => ex1 _ _ (same_upd na _ _ e) n
    obtain ⟨j, rfl⟩ := Int.eq_ofNat_of_zero_le r0
    have hc := cut_marks ⟨j, by omega⟩
    refine ⟨B, .ref u, rfl, hB1.ext (same_upd nu), .inl ⟨u, _, rfl, hB1.ne nu, .inl (lsq upd_same), hc.1, Nat.lt_of_le_of_lt hc.2 (by decide), fun m1 H2 hm hB2 ex2 => ?_⟩⟩
    have x2 : Ext B.p H H2 := fun b o e n => ex2 _ _ (same_upd nu _ _ (x1 b o e n)) n
    obtain ⟨m, mm, rfl⟩ := List.mem_map.mp (cut_mem hm)
    refine ⟨_, rfl, _, rfl, ?_⟩
    refine ⟨_, rfl, B, 199, rfl, hB2, by decide, by decide, fun r2 H3 r20 r21 hB3 ex3 => ⟨_, _, rfl, rfl, ?_⟩⟩
    refine ⟨_, rfl, B, 7, rfl, hB3, by decide, by decide, fun r3 H4 r30 r31 hB4 ex4 => ⟨_, _, rfl, rfl, ?_⟩⟩
    have x4 : Ext B.p H H4 := fun b o e n => ex4 _ _ (ex3 _ _ (x2 b o e n) n) n
    refine ⟨by show 5 ≤ sizeLine; decide, fun q nq => ?_⟩
    refine ⟨B, .ref q, rfl, hB4.ext (same_upd nq), .inl ⟨q, _, rfl, hB4.ne nq, .inl (lsq upd_same), by show 0 < 5; decide, by show 5 < 1073741824; decide, fun n1 H5 hn hB5 ex5 => ?_⟩⟩
    have x5 : Ext B.p H H5 := fun b o e n => ex5 _ _ (same_upd nq _ _ (x4 b o e n)) n
    obtain ⟨n, rfl, n0, n1⟩ : ∃ n, n1 = V.int n ∧ -99 ≤ n ∧ n ≤ 99 := by
      simp only [List.mem_cons, List.not_mem_nil, or_false] at hn
      rcases hn with rfl | rfl | rfl | rfl | rfl
      · exact ⟨_, rfl, by decide, by decide⟩
      · exact ⟨_, rfl, by decide, by decide⟩
      · exact ⟨_, rfl, by decide, by decide⟩
      · exact ⟨_, rfl, by omega, by omega⟩
      · exact ⟨_, rfl, by omega, by omega⟩
    have l5 : Live S H5 := fun b hb => by
      by_cases z : b = B.p
      · rw [z]; exact hB5.there
      · obtain ⟨o, e⟩ := hL b hb
        exact ⟨o, x5 b o e z⟩
    refine ⟨_, rfl, by show 3 ≤ sizeLine; decide, fun z nz => ?_⟩
    exact k _ m n _ (hB5.ext (same_upd nz)) (fun b o e h => same_upd nz _ _ (x5 b o e h)) (new_tup l5 nz (.cons (.str _) (.cons (.int _) (.cons (hv.byX (XS.ext x5 hS)) .nil)))) (marks_ok m mm) n0 n1
end
end My
set_option Elab.async false
set_option linter.all false
set_option maxRecDepth 100000
namespace My
open PySem PySem.Spec PyProof.Rows L2 TL
section
variable {P : Program} {w : World} {K : PySem.W.Frag} {mg : Str → Option Value} {base : Heap} {A : Top}
theorem mk_log {S : Sh} {H : Hp} {C : Addr} {σ : L2.St} {ta : TA} {rs : List Row} {E : XK} {Q : VK} (l : Live S H) (h : SA K S ta σ H (rs.map rowP)) (hv : Valid rs) (k : ∀ a H', Same H H' → LogAt K C S H' a rs → Q (.ref a) H') : StX.tMakeR C (spInit K C) E ta σ H Q := by
  refine h.run l fun vs H1 s1 hvs => ?_
  intro x dx nx ndx ne
  have l1 := l.same s1
  have nn : Now S H1 (fun a => S a ∨ a = x) (upd (upd H1 dx (.own x)) x (.ins C dx [])) := (Now.of l1 (same_upd ndx)).trans (Now.add (l1.same (same_upd ndx)) (by rw [upd_ne ne.symm]; exact nx))
  refine ⟨_, x, dx, vs, rs, rfl, nn.live, .inr rfl, upd_same, hvs.now nn, hv, fun r o H' hk' hx' hr' ho' => ⟨rfl, ?_⟩⟩
  refine k x H' (fun b u hb => ?_) ⟨hv, dx, r, o, l1.ne nx, hx', hr'.less fun b z => .inl z, ho'.less fun b z => .inl z⟩
  have hb1 := s1 _ _ hb
  exact hk' b u (nn.same _ _ hb1) fun z => by rw [z, nx] at hb1; cases hb1
def spLlog (K : PySem.W.Frag) (C : Addr) : Sp := fun vs H Q _ => ∃ (S : Sh) (v : V) (rs : List Row), vs = [v] ∧ Live S H ∧ Ds K S H v (.list (rs.map rowP)) ∧ Valid rs ∧ ∀ a H', Same H H' → LogAt K C S H' a rs → Q (.ref a) H'
theorem rowsP_fine {rs : List Row} (h : Valid rs) : fine (.list (rs.map rowP)) = true := fine_seq (k := true) (by rw [List.length_map]; have := h.few; omega) fun d hd => by
  obtain ⟨r, m, rfl⟩ := List.mem_map.mp hd
  exact ⟨(h.row m).1, Nat.le_trans (h.row m).2.1 (by decide)⟩
set_option maxHeartbeats 0 in
theorem ok_Llog (T : TopOk K mg A) : FnOk P w K mg base CX0 10 A.f_Llog A.d_Llog P_Llog (spLlog K A.c_Log) := by
  have G_i_Log : FnR P w K mg base CX0 8 A.f_i_Log (spInit K A.c_Log) := ok_init T
  refine T.F_Llog.ok sc_Llog (fun vs H Q E h => ?_) (fun cdv Ar outer s H vs Q E hr h => ?_)
  · obtain ⟨S, v, rs, rfl, _⟩ := h
    rfl
  · obtain ⟨S, v, rs, rfl, hL, hv, hp, k⟩ := h
    refine ⟨_, (pss_cons (ps_if (pt_cmpR op_lt (pe_callB call_len (by rfl) T.b_len (by decide +kernel) (pa_cons (pv 0) pa_nil)) pe_int (nomark _))
      (pss_one (ps_ret (pe_ifExp (pt_cmpR (L2.op_eqD hr.units) (pv 0) (pe_lst pa_nil) (nomark _)) (pe_makeR0 T.mk_Log G_i_Log (hr.mono (by decide)) (by rfl) T.m_Log pass0) (StX.pe_makeR T.mk_Log G_i_Log (hr.mono (by decide)) (by rfl) T.m_Log pass0 (pa_cons (pe_ix ix_seq (pv 0) pe_int (fun _ _ => rfl)) pa_nil)))))
      pss_nil)
      (pss_cons (ps_if (pt_cmpR op_lt (pe_callB call_len (by rfl) T.b_len (by decide +kernel) (pa_cons (pv 0) pa_nil)) pe_int (nomark _))
      (pss_one (ps_ret (pe_ifExp (pt_cmpR op_eq (pe_callB call_len (by rfl) T.b_len (by decide +kernel) (pa_cons (pv 0) pa_nil)) pe_int (nomark _)) (StX.pe_makeR T.mk_Log G_i_Log (hr.mono (by decide)) (by rfl) T.m_Log pass0 (pa_cons (pe_ix ix_seq (pv 0) pe_int (fun _ _ => rfl)) (pa_cons (pe_ix ix_seq (pv 0) pe_int (fun _ _ => rfl)) pa_nil))) (StX.pe_makeR T.mk_Log G_i_Log (hr.mono (by decide)) (by rfl) T.m_Log pass0 (pa_cons (pe_ix ix_seq (pv 0) pe_int (fun _ _ => rfl)) (pa_cons (pe_ix ix_seq (pv 0) pe_int (fun _ _ => rfl)) (pa_cons (pe_ix ix_seq (pv 0) pe_int (fun _ _ => rfl)) pa_nil)))))))
      pss_nil)
      (pss_cons (ps_if (pt_cmpR op_eq (pe_callB call_len (by rfl) T.b_len (by decide +kernel) (pa_cons (pv 0) pa_nil)) pe_int (nomark _))
      (pss_one (ps_ret (StX.pe_makeR T.mk_Log G_i_Log (hr.mono (by decide)) (by rfl) T.m_Log pass0 (pa_cons (pe_ix ix_seq (pv 0) pe_int (fun _ _ => rfl)) (pa_cons (pe_ix ix_seq (pv 0) pe_int (fun _ _ => rfl)) (pa_cons (pe_ix ix_seq (pv 0) pe_int (fun _ _ => rfl)) (pa_cons (pe_ix ix_seq (pv 0) pe_int (fun _ _ => rfl)) pa_nil)))))))
      pss_nil)
      (pss_cons (ps_if (pt_cmpR op_eq (pe_callB call_len (by rfl) T.b_len (by decide +kernel) (pa_cons (pv 0) pa_nil)) pe_int (nomark _))
      (pss_one (ps_ret (StX.pe_makeR T.mk_Log G_i_Log (hr.mono (by decide)) (by rfl) T.m_Log pass0 (pa_cons (pe_ix ix_seq (pv 0) pe_int (fun _ _ => rfl)) (pa_cons (pe_ix ix_seq (pv 0) pe_int (fun _ _ => rfl)) (pa_cons (pe_ix ix_seq (pv 0) pe_int (fun _ _ => rfl)) (pa_cons (pe_ix ix_seq (pv 0) pe_int (fun _ _ => rfl)) (pa_cons (pe_ix ix_seq (pv 0) pe_int (fun _ _ => rfl)) pa_nil))))))))
      pss_nil)
      (pss_cons (ps_if (pt_cmpR op_eq (pe_callB call_len (by rfl) T.b_len (by decide +kernel) (pa_cons (pv 0) pa_nil)) pe_int (nomark _))
      (pss_one (ps_ret (StX.pe_makeR T.mk_Log G_i_Log (hr.mono (by decide)) (by rfl) T.m_Log pass0 (pa_cons (pe_ix ix_seq (pv 0) pe_int (fun _ _ => rfl)) (pa_cons (pe_ix ix_seq (pv 0) pe_int (fun _ _ => rfl)) (pa_cons (pe_ix ix_seq (pv 0) pe_int (fun _ _ => rfl)) (pa_cons (pe_ix ix_seq (pv 0) pe_int (fun _ _ => rfl)) (pa_cons (pe_ix ix_seq (pv 0) pe_int (fun _ _ => rfl)) (pa_cons (pe_ix ix_seq (pv 0) pe_int (fun _ _ => rfl)) pa_nil)))))))))
      pss_nil)
      (pss_one (ps_ret (StX.pe_makeR T.mk_Log G_i_Log (hr.mono (by decide)) (by rfl) T.m_Log pass0 (pa_cons (pe_ix ix_seq (pv 0) pe_int (fun _ _ => rfl)) (pa_cons (pe_ix ix_seq (pv 0) pe_int (fun _ _ => rfl)) (pa_cons (pe_ix ix_seq (pv 0) pe_int (fun _ _ => rfl)) (pa_cons (pe_ix ix_seq (pv 0) pe_int (fun _ _ => rfl)) (pa_cons (pe_ix ix_seq (pv 0) pe_int (fun _ _ => rfl)) (pa_cons (pe_ix ix_seq (pv 0) pe_int (fun _ _ => rfl)) (pa_cons (pe_ix ix_seq (pv 0) pe_int (fun _ _ => rfl)) pa_nil))))))))))))))), ?_⟩
    have hf := rowsP_fine hp
    have hx : ∀ (j : Nat) (H' : Hp) (d : PyData), Same H H' → (rs.map rowP)[j]? = some d → SV K S (tOp (rIx K) (tVar 0) (tC (.int (j : Nat)))) [some v] H' d := fun j H' d s e => sv_ixL (sv_var rfl (hv.same s)) sv_int (atI_of e)
    have hlt : ∀ (n : Nat) (H' : Hp), Same H H' → SB S (tTest (tOp (rI0 fun i j => .bl (decide (i < j))) (tCB (fun xs H Q => ∃ x n, xs = [x] ∧ LenV K x H n ∧ Q (.int (n : Nat)) H) (tCons (tVar 0) tNil)) (tC (.int (n : Nat))))) [some v] H' (decide (rs.length < n)) := fun n H' s => sb_is (sb_test (sv_lt (sv_lenL (sv_var rfl (hv.same s))) sv_int)) (by rw [List.length_map]; exact decide_eq_decide.mpr (by omega))
    have heq : ∀ (n : Nat) (H' : Hp), Same H H' → SB S (tTest (tOp rEq (tCB (fun xs H Q => ∃ x n, xs = [x] ∧ LenV K x H n ∧ Q (.int (n : Nat)) H) (tCons (tVar 0) tNil)) (tC (.int (n : Nat))))) [some v] H' (decide (rs.length = n)) := fun n H' s => sb_is (sb_test (sv_eqI (sv_lenL (sv_var rfl (hv.same s))) sv_int)) (by rw [List.length_map]; exact decide_eq_decide.mpr (by omega))
    have hfew := hp.few
    show tSeq _ _ _ [some v] H
    refine seq_if hL (hlt 2 H (Same.refl _)) (fun z H1 s1 l1 => ?_) fun z H1 s1 l1 => ?_
    · refine SB.run (sb_test (sv_eqD (K := K) (sv_var (i := 0) rfl (hv.same s1)) (sv_lst sa_nil (by decide)) hf (by decide))) l1 fun H2 s2 => ?_
      have s12 := s1.trans s2
      rcases rs with _ | ⟨r0, rs⟩
      · exact iteT (mk_log (K := K) (S := S) (rs := []) (l1.same s2) sa_nil hp fun a H3 s3 hl => k a H3 (s12.trans s3) hl)
      · rcases rs with _ | ⟨r1, rs⟩
        · exact iteF (mk_log (K := K) (S := S) (rs := [r0]) (l1.same s2) (sa_cons (hx 0 H2 _ s12 rfl) sa_nil) hp fun a H3 s3 hl => k a H3 (s12.trans s3) hl)
        · have := of_decide_eq_true z
          simp at this
          omega
    have z := of_decide_eq_false z
    rcases rs with _ | ⟨r0, rs⟩
    · exact absurd (by decide) z
    rcases rs with _ | ⟨r1, rs⟩
    · exact absurd (by show 1 < 2; decide) z
    refine seq_if l1 (hlt 4 H1 s1) (fun z H2 s2 l2 => ?_) fun z H2 s2 l2 => ?_
    · refine SB.run (heq 2 H2 (s1.trans s2)) l2 fun H3 s3 => ?_
      have s13 := (s1.trans s2).trans s3
      rcases rs with _ | ⟨r2, rs⟩
      · exact iteT (mk_log (K := K) (S := S) (rs := [r0, r1]) (l2.same s3) (sa_cons (hx 0 H3 _ s13 rfl) (sa_cons (hx 1 H3 _ s13 rfl) sa_nil)) hp fun a H4 s4 hl => k a H4 (s13.trans s4) hl)
      rcases rs with _ | ⟨r3, rs⟩
      · exact iteF (mk_log (K := K) (S := S) (rs := [r0, r1, r2]) (l2.same s3) (sa_cons (hx 0 H3 _ s13 rfl) (sa_cons (hx 1 H3 _ s13 rfl) (sa_cons (hx 2 H3 _ s13 rfl) sa_nil))) hp fun a H4 s4 hl => k a H4 (s13.trans s4) hl)
      · have := of_decide_eq_true z
        simp at this
        omega
    have z := of_decide_eq_false z
    rcases rs with _ | ⟨r2, rs⟩
    · exact absurd (by show 2 < 4; decide) z
    rcases rs with _ | ⟨r3, rs⟩
    · exact absurd (by show 3 < 4; decide) z
    have s02 := s1.trans s2
    refine seq_if l2 (heq 4 H2 s02) (fun z H3 s3 l3 => ?_) fun z H3 s3 l3 => ?_
    · have z := of_decide_eq_true z
      rcases rs with _ | ⟨r4, rs⟩
      · exact mk_log (K := K) (S := S) (rs := [r0, r1, r2, r3]) l3 (sa_cons (hx 0 H3 _ (s02.trans s3) rfl) (sa_cons (hx 1 H3 _ (s02.trans s3) rfl) (sa_cons (hx 2 H3 _ (s02.trans s3) rfl) (sa_cons (hx 3 H3 _ (s02.trans s3) rfl) sa_nil)))) hp fun a H4 s4 hl => k a H4 ((s02.trans s3).trans s4) hl
      · simp at z
    have z := of_decide_eq_false z
    rcases rs with _ | ⟨r4, rs⟩
    · exact absurd rfl z
    have s03 := s02.trans s3
    refine seq_if l3 (heq 5 H3 s03) (fun z H4 s4 l4 => ?_) fun z H4 s4 l4 => ?_
    · have z := of_decide_eq_true z
      rcases rs with _ | ⟨r5, rs⟩
      · exact mk_log (K := K) (S := S) (rs := [r0, r1, r2, r3, r4]) l4 (sa_cons (hx 0 H4 _ (s03.trans s4) rfl) (sa_cons (hx 1 H4 _ (s03.trans s4) rfl) (sa_cons (hx 2 H4 _ (s03.trans s4) rfl) (sa_cons (hx 3 H4 _ (s03.trans s4) rfl) (sa_cons (hx 4 H4 _ (s03.trans s4) rfl) sa_nil))))) hp fun a H5 s5 hl => k a H5 ((s03.trans s4).trans s5) hl
      · simp at z
    have z := of_decide_eq_false z
    rcases rs with _ | ⟨r5, rs⟩
    · exact absurd rfl z
    have s04 := s03.trans s4
    refine seq_if l4 (heq 6 H4 s04) (fun z H5 s5 l5 => ?_) fun z H5 s5 l5 => ?_
    · have z := of_decide_eq_true z
      rcases rs with _ | ⟨r6, rs⟩
      · exact mk_log (K := K) (S := S) (rs := [r0, r1, r2, r3, r4, r5]) l5 (sa_cons (hx 0 H5 _ (s04.trans s5) rfl) (sa_cons (hx 1 H5 _ (s04.trans s5) rfl) (sa_cons (hx 2 H5 _ (s04.trans s5) rfl) (sa_cons (hx 3 H5 _ (s04.trans s5) rfl) (sa_cons (hx 4 H5 _ (s04.trans s5) rfl) (sa_cons (hx 5 H5 _ (s04.trans s5) rfl) sa_nil)))))) hp fun a H6 s6 hl => k a H6 ((s04.trans s5).trans s6) hl
      · simp at z
    have z := of_decide_eq_false z
    have h6 := hfew
    simp only [List.length_cons] at h6 z
    omega
end
end My
set_option Elab.async false
set_option linter.all false
set_option maxRecDepth 100000
namespace My
open PySem PySem.Spec PyProof.Rows L2 TL
section
variable {P : Program} {w : World} {K : PySem.W.Frag} {mg : Str → Option Value} {base : Heap} {A : Top}
theorem sv_cat {S : Sh} {σ : L2.St} {H : Hp} {ta tb : TE} {ds es : List PyData} (ha : SV K S ta σ H (.list ds)) (hb : SV K S tb σ H (.list es)) (hl : ds.length + es.length ≤ 5000) : SV K S (tOp rCat ta tb) σ H (.list (ds ++ es)) := sv_op ha hb fun S1 H1 u v Q l hx hy q => by
  obtain ⟨a, xs, rfl, l1, h1⟩ := hx.l
  obtain ⟨b, ys, rfl, l2, h2⟩ := hy.l
  refine ⟨a, b, xs, ys, rfl, rfl, l1.2, l2.2, by rw [h1.length, h2.length]; exact sz (by omega), fun p np => q _ _ (same_upd np) (new_lst l np (h1.app h2))⟩
end
end My
set_option Elab.async false
set_option linter.all false
set_option maxRecDepth 100000
namespace My
open PySem PySem.Spec PyProof.Rows L2 TL
/-! ### rows that grow by a step -/
def addR (r : Row) (s : Stp) : Row := ⟨r.n, r.k, r.s ++ [s]⟩
def addS : List Row → Nat → Stp → List Row
  | [], _, _ => []
  | r :: rs, 0, s => addR r s :: rs
  | r :: rs, i + 1, s => r :: addS rs i s
theorem addS_at (s : Stp) : ∀ (rs : List Row) (i j : Nat), (addS rs i s)[j]? = if j = i then (rs[j]?).map (fun r => addR r s) else rs[j]?
  | [], i, j => by simp [addS]
  | r :: rs, 0, 0 => rfl
  | r :: rs, 0, j + 1 => rfl
  | r :: rs, i + 1, 0 => rfl
  | r :: rs, i + 1, j + 1 => by
    show (addS rs i s)[j]? = _
    rw [addS_at s rs i j]
    by_cases h : j = i
    · subst h; simp
    · rw [if_neg h, if_neg (by omega)]; rfl
theorem addS_names (s : Stp) : ∀ (rs : List Row) (i : Nat), (addS rs i s).map (·.n) = rs.map (·.n)
  | [], _ => rfl
  | r :: rs, 0 => rfl
  | r :: rs, i + 1 => by
    show r.n :: (addS rs i s).map (·.n) = _
    rw [addS_names s rs i]
    rfl
theorem addS_len (s : Stp) (rs : List Row) (i : Nat) : (addS rs i s).length = rs.length := by
  have := congrArg List.length (addS_names s rs i)
  simpa using this
theorem addS_mem {s : Stp} : ∀ {rs : List Row} {i : Nat} {r : Row}, r ∈ addS rs i s → r ∈ rs ∨ ∃ r0, rs[i]? = some r0 ∧ r = addR r0 s
  | [], _, _, h => by cases h
  | q :: rs, 0, r, h => by
    rcases List.mem_cons.mp h with rfl | h
    · exact .inr ⟨q, rfl, rfl⟩
    · exact .inl (List.mem_cons_of_mem _ h)
  | q :: rs, i + 1, r, h => by
    rcases List.mem_cons.mp h with rfl | h
    · exact .inl (List.mem_cons_self ..)
    · rcases addS_mem h with h | ⟨r0, a, b⟩
      · exact .inl (List.mem_cons_of_mem _ h)
      · exact .inr ⟨r0, a, b⟩
theorem deeds_cons (r : Row) (rs : List Row) : deeds (r :: rs) = r.s.filterMap (·.d) ++ deeds rs := rfl
theorem addS_deeds {s : Stp} : ∀ {rs : List Row} {i : Nat}, i < rs.length → (deeds (addS rs i s)).Perm (s.d.toList ++ deeds rs)
  | [], _, h => by cases h
  | r :: rs, 0, _ => by
    show (deeds (addR r s :: rs)).Perm _
    rw [deeds_cons, deeds_cons]
    show ((r.s ++ [s]).filterMap (·.d) ++ deeds rs).Perm _
    rw [List.filterMap_append]
    have e : [s].filterMap (·.d) = s.d.toList := by
      cases hd : s.d <;> simp [hd]
    rw [e, ← List.append_assoc]
    exact List.perm_append_comm.append_right _
  | r :: rs, i + 1, h => by
    show (deeds (r :: addS rs i s)).Perm _
    rw [deeds_cons, deeds_cons]
    refine ((addS_deeds (s := s) (rs := rs) (i := i) (by simpa using h)).append_left _).trans ?_
    rw [← List.append_assoc, ← List.append_assoc]
    exact List.perm_append_comm.append_right _
theorem addS_step {s : Stp} {rs : List Row} {i : Nat} {r : Row} (hr : rs[i]? = some r) (a b : Nat) : stepAt (addS rs i s) a b = if a = i ∧ b = r.s.length then some s else stepAt rs a b := by
  unfold stepAt
  rw [addS_at]
  by_cases h : a = i
  · subst h
    rw [if_pos rfl, hr]
    show (r.s ++ [s])[b]? = _
    by_cases hb : b = r.s.length
    · subst hb
      rw [if_pos ⟨rfl, rfl⟩, List.getElem?_concat_length]
    · rw [if_neg fun z => hb z.2]
      show _ = r.s[b]?
      by_cases hl : b < r.s.length
      · rw [List.getElem?_append_left hl]
      · rw [List.getElem?_eq_none (by simp; omega), List.getElem?_eq_none (by omega)]
  · rw [if_neg h, if_neg fun z => h z.1]
/-- a line of the steps: all of them, each behind those before it in its row, what is received behind what is sent -/
def LinV (rs : List Row) : Prop := ∃ L : List (Nat × Nat), (∀ p ∈ L, (stepAt rs p.1 p.2).isSome = true) ∧ (∀ i j s, stepAt rs i j = some s → (i, j) ∈ L) ∧ ∀ k i j, L[k]? = some (i, j) → (∀ j', j' < j → (i, j') ∈ L.take k) ∧
  ∀ s w, stepAt rs i j = some s → s.d = some (false, w) → ∃ i' j' s', (i', j') ∈ L.take k ∧ stepAt rs i' j' = some s' ∧ s'.d = some (true, w)
theorem LinV.lin {rs : List Row} (h : LinV rs) : Lin rs := by
  obtain ⟨L, _, a, b⟩ := h
  exact ⟨L, a, b⟩
theorem LinV.add {rs : List Row} {i : Nat} {s : Stp} {r : Row} (h : LinV rs) (hr : rs[i]? = some r) (hs : ∀ w, s.d = some (false, w) → (true, w) ∈ deeds rs) : LinV (addS rs i s) := by
  obtain ⟨L, h0, h1, h2⟩ := h
  have hnew : stepAt rs i r.s.length = none := by
    unfold stepAt
    rw [hr]
    exact List.getElem?_eq_none (Nat.le_refl _)
  have mono : ∀ a b s', stepAt rs a b = some s' → stepAt (addS rs i s) a b = some s' := fun a b s' e => by
    rw [addS_step hr, if_neg]
    · exact e
    · rintro ⟨rfl, rfl⟩
      rw [hnew] at e
      cases e
  have hin : ∀ a b, (a, b) ∈ L → ¬ (a = i ∧ b = r.s.length) := fun a b m z => by
    have := h0 _ m
    dsimp only at this
    rw [z.1, z.2, hnew] at this
    cases this
  refine ⟨L ++ [(i, r.s.length)], fun p m => ?_, fun a b s' e => ?_, fun k a b e => ?_⟩
  · rcases List.mem_append.mp m with m | m
    · obtain ⟨s', hs'⟩ := Option.isSome_iff_exists.mp (h0 p m)
      rw [mono _ _ _ hs']
      rfl
    · rw [List.mem_singleton.mp m]
      show (stepAt (addS rs i s) i r.s.length).isSome = true
      rw [addS_step hr, if_pos ⟨rfl, rfl⟩]
      rfl
  · rw [addS_step hr] at e
    by_cases z : a = i ∧ b = r.s.length
    · rw [z.1, z.2]
      exact List.mem_append_right _ (List.mem_singleton.mpr rfl)
    · rw [if_neg z] at e
      exact List.mem_append_left _ (h1 a b s' e)
  · by_cases hk : k < L.length
    · rw [List.getElem?_append_left hk] at e
      obtain ⟨c1, c2⟩ := h2 k a b e
      have et : (L ++ [(i, r.s.length)]).take k = L.take k := List.take_append_of_le_length (Nat.le_of_lt hk)
      rw [et]
      refine ⟨c1, fun s' w es hw => ?_⟩
      rw [addS_step hr, if_neg (hin a b (List.mem_of_getElem? e))] at es
      obtain ⟨i', j', s2, m2, e2, d2⟩ := c2 s' w es hw
      exact ⟨i', j', s2, m2, mono _ _ _ e2, d2⟩
    · rw [List.getElem?_append_right (Nat.le_of_not_lt hk)] at e
      have hk' : k = L.length := by
        by_cases z : k - L.length = 0
        · omega
        · rw [List.getElem?_eq_none (by simp; omega)] at e
          cases e
      subst hk'
      rw [Nat.sub_self] at e
      have e' : (i, r.s.length) = (a, b) := Option.some.inj e
      cases e'
      have et : (L ++ [(i, r.s.length)]).take L.length = L := by rw [List.take_append_of_le_length (Nat.le_refl _), List.take_length]
      rw [et]
      refine ⟨fun j' hj => ?_, fun s' w es hw => ?_⟩
      · exact h1 i j' _ (stepAt_of hr (List.getElem?_eq_getElem hj))
      · rw [addS_step hr, if_pos ⟨rfl, rfl⟩] at es
        cases es
        obtain ⟨i', j', s2, e2, d2⟩ := mem_deeds.mp (hs w hw)
        exact ⟨i', j', s2, h1 _ _ _ e2, mono _ _ _ e2, d2⟩
/-! ### what holds between two turns of the law -/
structure MI (ns ws : List Str) (rs : List Row) (op : List Str) (fr : Nat) : Prop where
  names : rs.map (·.n) = ns
  kind : ∀ r ∈ rs, r.k = true
  len : ∀ r ∈ rs, r.s.length ≤ 20
  step : ∀ r ∈ rs, ∀ s ∈ r.s, stepD (stpP s) = true
  once : (deeds rs).Nodup
  used : ∀ b w, (b, w) ∈ deeds rs → w ∈ ws.take fr
  opn : op.Nodup
  opl : op.length ≤ fr
  ops : ∀ w ∈ op, (true, w) ∈ deeds rs ∧ (false, w) ∉ deeds rs
  sent : ∀ w, (false, w) ∈ deeds rs → (true, w) ∈ deeds rs
  lin : LinV rs
theorem MI.valid {ns ws : List Str} {rs : List Row} {op : List Str} {fr : Nat} (h : MI ns ws rs op fr) (h6 : ns.length ≤ 6) (hn : ∀ n ∈ ns, nameD 6 (.str n) = true) (hd : ns.Nodup) : Valid rs where
  few := by have := congrArg List.length h.names; rw [List.length_map] at this; omega
  name := fun r m => hn _ (by rw [← h.names]; exact List.mem_map_of_mem m)
  nd := by rw [h.names]; exact hd
  len := h.len
  step := h.step
  once := h.once
  sent := h.sent
  done := lin_done h.lin.lin
theorem MI.start {ns ws : List Str} : MI ns ws (ns.map fun n => ⟨n, true, []⟩) [] 0 where
  names := by rw [List.map_map]; exact List.map_id _
  kind := fun r m => by obtain ⟨n, _, rfl⟩ := List.mem_map.mp m; rfl
  len := fun r m => by obtain ⟨n, _, rfl⟩ := List.mem_map.mp m; exact Nat.zero_le _
  step := fun r m => by obtain ⟨n, _, rfl⟩ := List.mem_map.mp m; exact fun _ h => by cases h
  once := by
    have : deeds (ns.map fun n => ⟨n, true, []⟩) = [] := by
      induction ns with
      | nil => rfl
      | cons n ns ih => rw [List.map_cons, deeds_cons, ih]; rfl
    rw [this]
    exact List.nodup_nil
  used := fun b w h => by
    obtain ⟨i, j, s, e, _⟩ := mem_deeds.mp h
    obtain ⟨r, a, b⟩ := stepAt_row e
    obtain ⟨n, _, rfl⟩ := List.mem_map.mp (List.mem_of_getElem? a)
    cases b
  opn := List.nodup_nil
  opl := Nat.le_refl _
  ops := fun w h => by cases h
  sent := fun w h => by
    obtain ⟨i, j, s, e, _⟩ := mem_deeds.mp h
    obtain ⟨r, a, b⟩ := stepAt_row e
    obtain ⟨n, _, rfl⟩ := List.mem_map.mp (List.mem_of_getElem? a)
    cases b
  lin := by
    refine ⟨[], fun p h => ?_, fun i j s e => ?_, fun k i j e => ?_⟩
    · cases h
    · obtain ⟨r, a, b⟩ := stepAt_row e
      obtain ⟨n, _, rfl⟩ := List.mem_map.mp (List.mem_of_getElem? a)
      cases b
    · cases e
theorem mem_take_mono {ws : List Str} {a b : Nat} {w : Str} (h : w ∈ ws.take a) (hab : a ≤ b) : w ∈ ws.take b := by
  have e : ws.take a = (ws.take b).take a := by rw [List.take_take, Nat.min_eq_left hab]
  rw [e] at h
  exact List.mem_of_mem_take h
theorem MI.more {ns ws : List Str} {rs : List Row} {op : List Str} {fr fr' : Nat} (h : MI ns ws rs op fr) (hf : fr ≤ fr') : MI ns ws rs op fr' := { h with
  used := fun b w m => mem_take_mono (h.used b w m) hf
  opl := Nat.le_trans h.opl hf }
theorem MI.perm {ns ws : List Str} {rs : List Row} {op op' : List Str} {fr : Nat} (h : MI ns ws rs op fr) (hp : op'.Perm op) : MI ns ws rs op' fr := { h with
  opn := hp.nodup_iff.mpr h.opn
  opl := by rw [hp.length_eq]; exact h.opl
  ops := fun w m => h.ops w (hp.mem_iff.mp m) }
/-- a step with what it does, and what is open then -/
theorem MI.add {ns ws : List Str} {rs : List Row} {op op' : List Str} {fr : Nat} {i : Nat} {r : Row} {s : Stp} (h : MI ns ws rs op fr) (hr : rs[i]? = some r) (hl : r.s.length < 20) (hs : stepD (stpP s) = true)
    (h1 : ∀ d, s.d = some d → d ∉ deeds rs) (h2 : ∀ b w, s.d = some (b, w) → w ∈ ws.take fr) (h3 : ∀ w, s.d = some (false, w) → (true, w) ∈ deeds rs) (h4 : op'.Nodup) (h6 : op'.length ≤ fr)
    (h5 : ∀ w ∈ op', ((true, w) ∈ deeds rs ∨ s.d = some (true, w)) ∧ (false, w) ∉ deeds rs ∧ s.d ≠ some (false, w)) : MI ns ws (addS rs i s) op' fr := by
  have hp := addS_deeds (s := s) (List.getElem?_eq_some_iff.mp hr).1
  have hm : ∀ d, d ∈ deeds (addS rs i s) ↔ s.d = some d ∨ d ∈ deeds rs := fun d => by
    rw [hp.mem_iff, List.mem_append, Option.mem_toList]
  refine ⟨by rw [addS_names]; exact h.names, fun q m => ?_, fun q m => ?_, fun q m => ?_, ?_, fun b w m => ?_, h4, h6, fun w m => ?_, fun w m => ?_, h.lin.add hr h3⟩
  · rcases addS_mem m with m | ⟨r0, e, rfl⟩
    · exact h.kind q m
    · exact h.kind r0 (List.mem_of_getElem? e)
  · rcases addS_mem m with m | ⟨r0, e, rfl⟩
    · exact h.len q m
    · rw [hr] at e
      cases e
      show (r.s ++ [s]).length ≤ 20
      rw [List.length_append]
      exact hl
  · rcases addS_mem m with m | ⟨r0, e, rfl⟩
    · exact h.step q m
    · intro s' ms
      rcases List.mem_append.mp ms with ms | ms
      · exact h.step r0 (List.mem_of_getElem? e) s' ms
      · rw [List.mem_singleton.mp ms]; exact hs
  · rw [hp.nodup_iff]
    cases hd : s.d with
    | none => exact h.once
    | some d => exact List.nodup_cons.mpr ⟨h1 d hd, h.once⟩
  · rcases (hm _).mp m with m | m
    · exact h2 b w m
    · exact h.used b w m
  · obtain ⟨a, b, c⟩ := h5 w m
    refine ⟨(hm _).mpr (a.symm), fun z => ?_⟩
    rcases (hm _).mp z with z | z
    · exact c z
    · exact b z
  · rcases (hm _).mp m with m | m
    · exact (hm _).mpr (.inr (h3 w m))
    · exact (hm _).mpr (.inr (h.sent w m))
end My
set_option Elab.async false
set_option linter.all false
set_option maxRecDepth 100000
namespace My
open PySem PySem.Spec PyProof.Rows L2 TL
/-- what is left if the row is full -/
def FullQ (ns ws : List Str) (rs : List Row) (op : List Str) (fr : Nat) : Option (Bool × Str) → Prop
  | none => MI ns ws rs op fr
  | some (true, w) => ∃ j, op[j]? = some w ∧ (∀ m, m < j → op[m]? ≠ some w) ∧ MI ns ws rs (op.eraseIdx j) fr
  | some (false, w) => MI ns ws rs (op ++ [w]) fr
/-- what is drawn for a step, what is open then; and what is left if the row is full -/
structure Out (ns ws : List Str) (rs : List Row) (d : Option (Bool × Str)) (op : List Str) (fr : Nat) : Prop where
  ok : ∀ i r m n, rs[i]? = some r → r.s.length < 20 → stepD (stpP ⟨m, n, d⟩) = true → MI ns ws (addS rs i ⟨m, n, d⟩) op fr
  deed : ∀ b w, d = some (b, w) → nameD 4 (.str w) = true
  full : FullQ ns ws rs op fr d
theorem nodup_take {ws : List Str} {fr : Nat} (h : ws.Nodup) (hf : fr < ws.length) : ws[fr] ∉ ws.take fr := fun m => by
  obtain ⟨j, hj⟩ := List.getElem?_of_mem m
  rw [List.getElem?_take] at hj
  by_cases z : j < fr
  · rw [if_pos z] at hj
    have := (List.getElem?_inj (by omega) h).mp (hj.trans (List.getElem?_eq_getElem hf).symm)
    omega
  · rw [if_neg z] at hj
    cases hj
theorem out_none {ns ws : List Str} {rs : List Row} {op : List Str} {fr : Nat} (h : MI ns ws rs op fr) : Out ns ws rs none op fr :=
  ⟨fun i r m n hr hl hs => h.add hr hl hs (fun d e => (by cases e)) (fun b w e => (by cases e)) (fun w e => (by cases e)) h.opn h.opl fun w m' => ⟨.inl (h.ops w m').1, (h.ops w m').2, fun e => (by cases e)⟩, fun b w e => (by cases e), h⟩
theorem out_send {ns ws : List Str} {rs : List Row} {op : List Str} {fr : Nat} (h : MI ns ws rs op fr) (hw : ws.Nodup) (hf : fr < ws.length) (h4 : ∀ w ∈ ws, nameD 4 (.str w) = true) : Out ns ws rs (some (true, ws[fr])) (op ++ [ws[fr]]) (fr + 1) := by
  have hn := nodup_take hw hf
  have hd : ∀ b, (b, ws[fr]) ∉ deeds rs := fun b z => hn (h.used b _ z)
  have ho : ws[fr] ∉ op := fun z => hd true (h.ops _ z).1
  have hm : ws[fr] ∈ ws.take (fr + 1) := by
    rw [List.take_add_one, List.getElem?_eq_getElem hf]
    exact List.mem_append_right _ (List.mem_singleton.mpr rfl)
  refine ⟨fun i r m n hr hl hs => (h.more (Nat.le_succ fr)).add hr hl hs (fun d e => ?_) (fun b w e => ?_) (fun w e => ?_) ?_ (by rw [List.length_append]; exact Nat.succ_le_succ h.opl) fun w m' => ?_, fun b w e => ?_, ⟨op.length, ?_, fun m hm' => ?_, ?_⟩⟩
  · cases e; exact hd true
  · cases e; exact hm
  · cases e
  · refine List.nodup_append.mpr ⟨h.opn, List.nodup_cons.mpr ⟨List.not_mem_nil, List.nodup_nil⟩, fun a ha b hb => ?_⟩
    rw [List.mem_singleton.mp hb]
    exact fun z => ho (z ▸ ha)
  · rcases List.mem_append.mp m' with m' | m'
    · exact ⟨.inl (h.ops w m').1, (h.ops w m').2, fun e => by cases e⟩
    · rw [List.mem_singleton.mp m']
      exact ⟨.inr rfl, hd false, fun e => by cases e⟩
  · cases e; exact h4 _ (List.getElem_mem hf)
  · exact List.getElem?_concat_length
  · rw [List.getElem?_append_left hm']
    exact fun z => ho (List.mem_of_getElem? z)
  · rw [List.eraseIdx_append_of_length_le (Nat.le_refl _), Nat.sub_self]
    show MI ns ws rs (op ++ []) (fr + 1)
    rw [List.append_nil]
    exact h.more (Nat.le_succ fr)
theorem out_recv {ns ws : List Str} {rs : List Row} {op : List Str} {fr : Nat} (h : MI ns ws rs op fr) {j : Nat} (hj : j < op.length) (h4 : ∀ w ∈ ws, nameD 4 (.str w) = true) : Out ns ws rs (some (false, op[j])) (op.eraseIdx j) fr := by
  have hp := perm_erase op j hj
  have hnd := List.nodup_cons.mp (hp.nodup_iff.mpr h.opn)
  obtain ⟨o1, o2⟩ := h.ops _ (List.getElem_mem hj)
  refine ⟨fun i r m n hr hl hs => h.add hr hl hs (fun d e => ?_) (fun b w e => ?_) (fun w e => ?_) hnd.2 (by rw [List.length_eraseIdx_of_lt hj]; have := h.opl; omega) fun w m' => ?_, fun b w e => ?_, ?_⟩
  · cases e; exact o2
  · cases e; exact h.used true _ o1
  · cases e; exact o1
  · obtain ⟨a, b⟩ := h.ops w (hp.mem_iff.mp (List.mem_cons_of_mem _ m'))
    refine ⟨.inl a, b, fun e => ?_⟩
    have e' : op[j] = w := by cases e; rfl
    exact hnd.1 (e' ▸ m')
  · cases e; exact h4 _ (List.mem_of_mem_take (h.used true _ o1))
  · exact h.perm (List.perm_append_comm.trans hp)
theorem step_ok {m : Str} {n : Int} {d : Option (Bool × Str)} (hm : nameD 4 (.str m) = true) (h0 : -99 ≤ n) (h1 : n ≤ 99) (hd : ∀ b w, d = some (b, w) → nameD 4 (.str w) = true) : stepD (stpP ⟨m, n, d⟩) = true := by
  show (nameD 4 (.str m) && ((decide (-99 ≤ n) && decide (n ≤ 99)) && deedD (deedP d))) = true
  rw [hm, decide_eq_true h0, decide_eq_true h1]
  cases d with
  | none => rfl
  | some d =>
    obtain ⟨b, w⟩ := d
    have := hd b w rfl
    cases b
    · show (true && (true && (([PyData.str "send", PyData.str "receive"].any fun z => PyData.eqv z (.str "receive")) && nameD 4 (.str w)))) = true
      rw [this]
      decide +kernel
    · show (true && (true && (([PyData.str "send", PyData.str "receive"].any fun z => PyData.eqv z (.str "send")) && nameD 4 (.str w)))) = true
      rw [this]
      decide +kernel
def lawMore : List Str := ["aa", "bc", "long", "x", "y", "dd"]
def lawWords : List Str := (("mnopkhijuvwrst" : Str).cps.toList.map fun c => (⟨#[c]⟩ : Str)) ++ lawMore
theorem words_nd : lawWords.Nodup := by decide +kernel
theorem words_ok : ∀ w ∈ lawWords, nameD 4 (.str w) = true := by decide +kernel
theorem words_len : lawWords.length = 20 := by decide +kernel
def lawNames : List Str := ["a", "b", "low", "q", "zetas", "cc"]
theorem names_nd : lawNames.Nodup := by decide +kernel
theorem names_ok : ∀ w ∈ lawNames, nameD 6 (.str w) = true := by decide +kernel
end My
set_option Elab.async false
set_option linter.all false
set_option maxRecDepth 100000
namespace My
open PySem PySem.Spec PyProof.Rows L2 TL
/-- what the law may change while it makes rows -/
def SR (B : BagId) (O : Addr) (ls : List Addr) : Sh := fun a => a = B.p ∨ a = O ∨ a ∈ ls
/-- the rows as they stand: a list R of pairs ts, their lists ls; what is open at O; the words at W -/
structure HR (K : PySem.W.Frag) (B : BagId) (H0 H : Hp) (R O W : Addr) (ts ls : List Addr) (rs : List Row) (op : List Str) : Prop where
  b0 : Bag B H0
  bag : Bag B H
  ext : Ext B.p H0 H
  new : ∀ a, a = O ∨ a ∈ ls → H0 a = none
  hR : H R = some (.lst (ts.map V.ref))
  hO : H O = some (.lst (op.map V.str))
  hW : H W = some (.lst (lawWords.map V.str))
  nR : ¬ SR B O ls R
  nW : ¬ SR B O ls W
  nO : O ∉ ls
  nd : ls.Nodup
  tl : ts.length = rs.length
  ll : ls.length = rs.length
  row : ∀ (i : Nat) (r : Row), rs[i]? = some r → ∃ t l vs, ts[i]? = some t ∧ ls[i]? = some l ∧ ¬ SR B O ls t ∧ H t = some (.tup [.str r.n, .ref l]) ∧ H l = some (.lst vs) ∧ DsAll K (SR B O ls) H vs (r.s.map stpP)
  live : Live (SR B O ls) H
section
variable {K : PySem.W.Frag} {B : BagId} {H0 H H' : Hp} {R O W : Addr} {ts ls : List Addr} {rs : List Row} {op op' : List Str}
theorem HR.ne (h : HR K B H0 H R O W ts ls rs op) {a : Addr} (ha : a = O ∨ a ∈ ls) : a ≠ B.p ∧ a ≠ B.l := ⟨h.b0.ne (h.new a ha), h.b0.neL (h.new a ha)⟩
theorem HR.keep (h : HR K B H0 H R O W ts ls rs op) (hb : Bag B H') (ex : Ext B.p H H') : HR K B H0 H' R O W ts ls rs op := { h with
  bag := hb
  ext := fun b o e n => ex _ _ (h.ext b o e n) n
  hR := ex _ _ h.hR fun z => h.nR (.inl z)
  hO := ex _ _ h.hO (h.ne (.inl rfl)).1
  hW := ex _ _ h.hW fun z => h.nW (.inl z)
  row := fun i r e => by
    obtain ⟨t, l, vs, a1, a2, a3, a4, a5, a6⟩ := h.row i r e
    exact ⟨t, l, vs, a1, a2, a3, ex _ _ a4 fun z => a3 (.inl z), ex _ _ a5 (h.ne (.inr (List.mem_of_getElem? a2))).1, a6.byX (XS.ext ex (.inl rfl))⟩
  live := fun a ha => by
    rcases ha with rfl | ha
    · exact hb.there
    · obtain ⟨o, e⟩ := h.live a (.inr ha)
      exact ⟨o, ex _ _ e (h.ne ha).1⟩ }
theorem HR.same (h : HR K B H0 H R O W ts ls rs op) (s : Same H H') : HR K B H0 H' R O W ts ls rs op := h.keep (h.bag.ext s) fun b o e _ => s _ _ e
theorem HR.setO (h : HR K B H0 H R O W ts ls rs op) : HR K B H0 (upd H O (.lst (op'.map V.str))) R O W ts ls rs op' := { h with
  bag := h.bag.upd (h.ne (.inl rfl)).1 (h.ne (.inl rfl)).2
  ext := fun b o e n => by
    rw [upd_ne fun z => by rw [z, h.new O (.inl rfl)] at e; cases e]
    exact h.ext b o e n
  hR := by rw [upd_ne fun z => h.nR (.inr (.inl z))]; exact h.hR
  hO := upd_same
  hW := by rw [upd_ne fun z => h.nW (.inr (.inl z))]; exact h.hW
  row := fun i r e => by
    obtain ⟨t, l, vs, a1, a2, a3, a4, a5, a6⟩ := h.row i r e
    refine ⟨t, l, vs, a1, a2, a3, ?_, ?_, a6.byX (XS.upd (.inr (.inl rfl)))⟩
    · rw [upd_ne fun z => a3 (.inr (.inl z))]; exact a4
    · rw [upd_ne fun z => h.nO (by rw [← z]; exact List.mem_of_getElem? a2)]; exact a5
  live := h.live.upd }
theorem HR.push (h : HR K B H0 H R O W ts ls rs op) {i : Nat} {l : Addr} {vs : List V} {v : V} {r : Row} {s : Stp} (hr : rs[i]? = some r) (hl : ls[i]? = some l) (hv : H l = some (.lst vs)) (hd : Ds K (SR B O ls) H v (stpP s)) : HR K B H0 (upd H l (.lst (vs ++ [v]))) R O W ts ls (addS rs i s) op := by
  have ml : l ∈ ls := List.mem_of_getElem? hl
  exact { h with
  bag := h.bag.upd (h.ne (.inr ml)).1 (h.ne (.inr ml)).2
  ext := fun b o e n => by
    rw [upd_ne fun z => by rw [z, h.new l (.inr ml)] at e; cases e]
    exact h.ext b o e n
  hR := by rw [upd_ne fun z => h.nR (.inr (.inr (by rw [z]; exact ml)))]; exact h.hR
  hO := by rw [upd_ne fun z => h.nO (by rw [z]; exact ml)]; exact h.hO
  hW := by rw [upd_ne fun z => h.nW (.inr (.inr (by rw [z]; exact ml)))]; exact h.hW
  tl := by rw [addS_len]; exact h.tl
  ll := by rw [addS_len]; exact h.ll
  row := fun j r' e => by
    rw [addS_at] at e
    by_cases z : j = i
    · subst z
      rw [if_pos rfl, hr] at e
      cases e
      obtain ⟨t, l', vs', a1, a2, a3, a4, a5, a6⟩ := h.row j r hr
      rw [hl] at a2
      cases a2
      rw [hv] at a5
      cases a5
      refine ⟨t, l, vs ++ [v], a1, hl, a3, ?_, upd_same, ?_⟩
      · rw [upd_ne fun z => a3 (.inr (.inr (by rw [z]; exact ml)))]; exact a4
      · have e : (addR r s).s.map stpP = r.s.map stpP ++ [stpP s] := by
          show (r.s ++ [s]).map stpP = _
          rw [List.map_append]
          rfl
        rw [e]
        exact (a6.app (.cons hd .nil)).byX (XS.upd (.inr (.inr ml)))
    · rw [if_neg z] at e
      obtain ⟨t, l', vs', a1, a2, a3, a4, a5, a6⟩ := h.row j r' e
      refine ⟨t, l', vs', a1, a2, a3, ?_, ?_, a6.byX (XS.upd (.inr (.inr ml)))⟩
      · rw [upd_ne fun z => a3 (.inr (.inr (by rw [z]; exact ml)))]; exact a4
      · rw [upd_ne fun q => z ?_]
        · exact a5
        · subst q
          exact (List.getElem?_inj (List.getElem?_eq_some_iff.mp a2).1 h.nd).mp (a2.trans hl.symm)
  live := h.live.upd }
/-- what stands there at the end -/
theorem HR.data (h : HR K B H0 H R O W ts ls rs op) (hk : ∀ r ∈ rs, r.k = true) : Ds K (fun a => a = B.p) H (.ref R) (.list (rs.map rowP)) := by
  refine .lst ⟨fun z => h.nR (.inl z), h.hR⟩ ?_
  have key : ∀ (n : Nat), n ≤ rs.length → DsAll K (fun a => a = B.p) H ((ts.take n).map V.ref) ((rs.take n).map rowP) := by
    intro n
    induction n with
    | zero => intro _; exact .nil
    | succ n ih =>
      intro hn
      have er : rs[n]? = some rs[n] := List.getElem?_eq_getElem (by omega)
      obtain ⟨t, l, vs, a1, a2, a3, a4, a5, a6⟩ := h.row n _ er
      rw [List.take_add_one, List.take_add_one, a1, er, List.map_append, List.map_append]
      refine (ih (by omega)).app (.cons ?_ .nil)
      show Ds K _ H (.ref t) (rowP rs[n])
      unfold rowP
      rw [hk _ (List.getElem_mem _)]
      exact .tup ⟨fun z => a3 (.inl z), a4⟩ (.cons (.str _) (.cons (.lst ⟨(h.ne (.inr (List.mem_of_getElem? a2))).1, a5⟩ (a6.less fun b z => .inl z)) .nil))
  have := key rs.length (Nat.le_refl _)
  rw [List.take_length, ← h.tl, List.take_length] at this
  exact this
/-- [(name, []) for name in names] -/
theorem mk_rows {S : Sh} {σ : L2.St} {nm : Addr} {ns : List Str} {j : Nat} {Q : VK} (l : Live S H) (hσ : σ[3]? = some (some (.ref nm))) (hj : ∀ v, wipe ((wipe σ [12]).set 12 (some v)) [12] = wipe σ [12]) (hs : ∀ v, ((wipe σ [12]).set 12 (some v))[12]? = some (some v)) (hnm : ¬ S nm ∧ H nm = some (.lst (ns.map V.str))) (hl : ns.length ≤ 5000)
    (q : ∀ (R : Addr) (ts ls : List Addr) (H' : Hp), Same H H' → H R = none → H' R = some (.lst (ts.map V.ref)) → ls.Nodup → (∀ l ∈ ls, H l = none ∧ l ≠ R) → ts.length = ns.length → ls.length = ns.length →
      (∀ (i : Nat) (n : Str), ns[i]? = some n → ∃ t l, ts[i]? = some t ∧ ls[i]? = some l ∧ H t = none ∧ H' t = some (.tup [.str n, .ref l]) ∧ H' l = some (.lst [])) → Q (.ref R) H') :
    tLc (iAny K (tVar 3)) (gName 12) tYes (tTup (tCons (tVar 12) (tCons (tLst tNil) tNil))) [12] σ H Q := by
  have hv : Ds K S H (.ref nm) (.list (ns.map PyData.str)) := .lst hnm ds_strs
  refine si_l (sv_var hσ hv) S H (Now.refl l) _ fun J H2 s2 w D nD => ?_
  have l2 : Live S H2 := l.same s2
  refine lc_it w (fun i H3 => ∃ ts ls : List Addr, H3 D = some (.lst (ts.map V.ref)) ∧ Same H2 H3 ∧ ls.Nodup ∧ (∀ l ∈ ls, H2 l = none ∧ l ≠ D) ∧ ts.length = i ∧ ls.length = i ∧
      (∀ (k : Nat) (n : Str), k < i → ns[k]? = some n → ∃ t l, ts[k]? = some t ∧ ls[k]? = some l ∧ H2 t = none ∧ t ≠ D ∧ H3 t = some (.tup [.str n, .ref l]) ∧ H3 l = some (.lst [])))
    ⟨[], [], upd_same, same_upd nD, List.nodup_nil, fun l h => (by cases h), rfl, rfl, fun k n h => (by omega)⟩ (fun i H3 _ ⟨_, _, _, z, _⟩ => ⟨_, (Now.of l2 z).step⟩) (fun i x H3 H4 hi ⟨ts, ls, e3, s3, nd, fr, lt, ll, ht⟩ ⟨s4, d, ed, hd⟩ => ?_) fun H3 ⟨ts, ls, e3, s3, nd, fr, lt, ll, ht⟩ => ?_
  · obtain ⟨n, en, rfl⟩ := map_inv ed
    have hx := (hd S (Now.of l2 s3).step).s
    subst hx
    refine ⟨hj _, ?_⟩
    dsimp only [tYes]
    rw [if_pos rfl]
    refine ⟨_, hs _, Nat.zero_le _, fun lA nl => ⟨szl (by show 1 < 100000; decide), fun tA nt => ?_⟩⟩
    have nl3 : H3 lA = none := s4.free nl
    have nl2 : H2 lA = none := s3.free nl3
    have ntl : (upd H4 lA (.lst [])) tA = none := nt
    have nt4 : H4 tA = none := (same_upd (o := .lst []) nl).free ntl
    have nt2 : H2 tA = none := s3.free (s4.free nt4)
    have s6 : Same H4 (upd (upd H4 lA (.lst [])) tA (.tup [.str n, .ref lA])) := (same_upd nl).trans (same_upd nt)
    have eD4 := s4 _ _ e3
    have hlD : lA ≠ D := fun z => by rw [z, eD4] at nl; cases nl
    have htD : tA ≠ D := fun z => by rw [z, eD4] at nt4; cases nt4
    have htl : tA ≠ lA := fun z => by rw [z, upd_same] at nt; cases nt
    have et : (upd (upd H4 lA (.lst [])) tA (.tup [.str n, .ref lA])) tA = some (.tup [.str n, .ref lA]) := upd_same
    have el : (upd (upd H4 lA (.lst [])) tA (.tup [.str n, .ref lA])) lA = some (.lst []) := same_upd nt _ _ upd_same
    generalize upd (upd H4 lA (.lst [])) tA (.tup [.str n, .ref lA]) = H6 at s6 et el
    have hlnew : lA ∉ ls := fun z => by
      obtain ⟨k, hk⟩ := List.getElem?_of_mem z
      have hk' : k < i := by rw [← ll]; exact (List.getElem?_eq_some_iff.mp hk).1
      obtain ⟨t, l', a1, a2, a3, a4, a5, a6⟩ := ht k _ hk' (List.getElem?_eq_getElem (by rw [List.length_map] at hi; omega))
      rw [hk] at a2
      cases a2
      rw [nl3] at a6
      cases a6
    refine ⟨ts.map V.ref, s6 _ _ eD4, szl (by rw [List.length_map, lt]; rw [List.length_map] at hi; omega), ts ++ [tA], ls ++ [lA], ?_, ?_, ?_, ?_, ?_, ?_, fun k m hk em => ?_⟩
    · rw [upd_same, List.map_append]
      rfl
    · exact fun b o e => by
        rw [upd_ne fun z => by rw [z, nD] at e; cases e]
        exact s6 _ _ (s4 _ _ (s3 _ _ e))
    · refine List.nodup_append.mpr ⟨nd, List.nodup_cons.mpr ⟨List.not_mem_nil, List.nodup_nil⟩, fun a ha b hb => ?_⟩
      rw [List.mem_singleton.mp hb]
      exact fun z => hlnew (by rw [← z]; exact ha)
    · intro l' hl'
      rcases List.mem_append.mp hl' with hl' | hl'
      · exact fr l' hl'
      · rw [List.mem_singleton.mp hl']; exact ⟨nl2, hlD⟩
    · rw [List.length_append, lt]; rfl
    · rw [List.length_append, ll]; rfl
    · by_cases z : k < i
      · obtain ⟨t, l', a1, a2, a3, a4, a5, a6⟩ := ht k m z em
        refine ⟨t, l', ?_, ?_, a3, a4, ?_, ?_⟩
        · rw [List.getElem?_append_left (by omega)]; exact a1
        · rw [List.getElem?_append_left (by omega)]; exact a2
        · rw [upd_ne a4]; exact s6 _ _ (s4 _ _ a5)
        · rw [upd_ne (fr l' (List.mem_of_getElem? a2)).2]; exact s6 _ _ (s4 _ _ a6)
      · have hk' : k = i := by omega
        subst hk'
        rw [en] at em
        cases em
        refine ⟨tA, lA, ?_, ?_, nt2, htD, ?_, ?_⟩
        · rw [List.getElem?_append_right (by omega), lt, Nat.sub_self]; rfl
        · rw [List.getElem?_append_right (by omega), ll, Nat.sub_self]; rfl
        · rw [upd_ne htD]; exact et
        · rw [upd_ne hlD]; exact el
  · rw [List.length_map] at lt ll ht
    refine q D ts ls H3 (s2.trans s3) (s2.free nD) e3 nd (fun l' h => ⟨s2.free (fr l' h).1, (fr l' h).2⟩) lt ll fun i n e => ?_
    obtain ⟨t, l', a1, a2, a3, a4, a5, a6⟩ := ht i n (List.getElem?_eq_some_iff.mp e).1 e
    exact ⟨t, l', a1, a2, s2.free a3, a5, a6⟩
end
end My
set_option Elab.async false
set_option linter.all false
set_option maxRecDepth 100000
namespace My
open PySem PySem.Spec PyProof.Rows L2 TL
abbrev rLenQ (K : PySem.W.Frag) : List V → Hp → VK → Prop := fun xs H Q => ∃ x n, xs = [x] ∧ LenV K x H n ∧ Q (.int (n : Nat)) H
abbrev tCellQ (K : PySem.W.Frag) : TE := tOp (rIx K) (tOp (rIx K) (tVar 6) (tVar 9)) (tC (.int 1))
abbrev rowTS (K : PySem.W.Frag) : TS := tIfS (tTest (tOp (rI0 fun i j => .bl (decide (i < j))) (tCB (rLenQ K) (tCons (tCellQ K) tNil)) (tC (.int 20))))
  (tDrop (tBM K "list" rAppend (tCellQ K) (tCons (tCall (spStep K) [] E0 (tCons (tVar 0) (tCons (tVar 11) tNil))) tNil)))
  (tIfS (tAnd (tTest (tOp (fun x y H Q => y = V.non ∧ Q (.bl (!decide (x = V.non))) H) (tVar 11) (tC .non))) (tTest (tOp rEq (tOp (rIx K) (tVar 11) (tC (.int 0))) (tC (.str "send")))))
    (tDrop (tBM K "list" rRemS (tVar 7) (tCons (tOp (rIx K) (tVar 11) (tC (.int 1))) tNil)))
    (tIfS (tTest (tOp (fun x y H Q => y = V.non ∧ Q (.bl (!decide (x = V.non))) H) (tVar 11) (tC .non))) (tDrop (tBM K "list" rAppend (tVar 7) (tCons (tOp (rIx K) (tVar 11) (tC (.int 1))) tNil))) tNext))
/-- how many steps -/
def tot (rs : List Row) : Nat := (rs.map fun r => r.s.length).sum
theorem addS_tot (s : Stp) : ∀ (rs : List Row) (i : Nat), tot (addS rs i s) ≤ tot rs + 1
  | [], i => by simp [addS, tot]
  | r :: rs, 0 => by
    show ((r.s ++ [s]).length + (rs.map fun r => r.s.length).sum) ≤ (r.s.length + (rs.map fun r => r.s.length).sum) + 1
    rw [List.length_append]
    show r.s.length + 1 + _ ≤ _
    omega
  | r :: rs, i + 1 => by
    have h := addS_tot s rs i
    show r.s.length + tot (addS rs i s) ≤ r.s.length + tot rs + 1
    omega
section
variable {K : PySem.W.Frag} {B : BagId} {H0 H H' : Hp} {R O W : Addr} {ts ls : List Addr} {rs : List Row} {op op' : List Str}
theorem cell_run {σ : L2.St} {Q : VK} {i : Nat} {t l : Addr} {n : Str} (h6 : σ[6]? = some (some (.ref R))) (h9 : σ[9]? = some (some (.int (i : Nat)))) (hR : H R = some (.lst (ts.map V.ref))) (ht : ts[i]? = some t) (hT : H t = some (.tup [.str n, .ref l])) (q : Q (.ref l) H) : tCellQ K σ H Q := by
  refine ⟨_, h6, _, h9, .inl ⟨R, _, _, .ref t, rfl, rfl, lsq hR, L2.atI_nat (by rw [List.getElem?_map, ht]; rfl), ?_⟩⟩
  exact .inr (.inl ⟨t, _, _, .ref l, rfl, rfl, .inl (.inl hT), L2.atI_nat (j := 1) rfl, q⟩)
theorem row_phase {D : Ends} {σ : L2.St} {ns ws : List Str} {d : Option (Bool × Str)} {fr i : Nat} {vd : V} (h : HR K B H0 H R O W ts ls rs op) (ho : Out ns ws rs d op fr) (hi : i < rs.length) (hd : Ds K (SR B O ls) H vd (deedP d)) (h120 : op.length ≤ 1000)
    (h0 : σ[0]? = some (some (.ref B.p))) (h6 : σ[6]? = some (some (.ref R))) (h7 : σ[7]? = some (some (.ref O))) (h9 : σ[9]? = some (some (.int (i : Nat)))) (h11 : σ[11]? = some (some vd))
    (k : ∀ H' rs' op', HR K B H0 H' R O W ts ls rs' op' → MI ns ws rs' op' fr → rs'.length = rs.length → tot rs' ≤ tot rs + 1 → D.nx σ H') : rowTS K D σ H := by
  have er : rs[i]? = some rs[i] := List.getElem?_eq_getElem hi
  obtain ⟨t, l, vs, a1, a2, a3, a4, a5, a6⟩ := h.row i _ er
  refine cell_run h6 h9 h.hR a1 a4 ⟨_, _, rfl, .inl ⟨_, lsq a5, rfl⟩, _, _, rfl, rfl, _, rfl, ite2 (fun e => ?_) (fun e => ?_)⟩
  · have e' := of_decide_eq_true e
    rw [a6.length, List.length_map] at e'
    refine cell_run h6 h9 h.hR a1 a4 ⟨.inl ⟨rfl, _, lsq a5⟩, ?_⟩
    refine ⟨_, h0, _, h11, SR B O ls, B, vd, deedP d, rfl, h.live, .inl rfl, h.bag, hd, fun v' m n H1 hB1 ex1 hv' hm h99 h100 => ?_⟩
    have g := h.keep hB1 ex1
    have a5' : H1 l = some (.lst vs) := ex1 _ _ a5 (h.ne (.inr (List.mem_of_getElem? a2))).1
    refine ⟨l, vs, v', rfl, rfl, a5', szl (by rw [a6.length, List.length_map]; omega), ?_⟩
    exact k _ _ _ (g.push (s := ⟨m, n, d⟩) er a2 a5' hv') (ho.ok i _ m n er (by omega) (step_ok hm h99 h100 ho.deed)) (addS_len _ _ _) (addS_tot _ _ _)
  · have hf := ho.full
    cases d with
    | none =>
      rw [hd.n] at h11
      exact ⟨_, h11, rfl, _, rfl, iteF ⟨_, h11, rfl, _, rfl, iteF (k _ _ _ h hf rfl (Nat.le_succ _))⟩⟩
    | some d =>
      obtain ⟨b, w⟩ := d
      obtain ⟨z, xs, rfl, lz, hs⟩ := Ds.t (ds := [.str (kindS b), .str w]) hd
      obtain ⟨v1, v2, rfl, hv1, hv2⟩ := hs.two
      rw [hv1.s, hv2.s] at lz
      have hz : SqT K H z [.str (kindS b), .str w] := lz.sq
      have i0 : ∀ Q2 : VK, Q2 (.str (kindS b)) H → (tOp (rIx K) (tVar 11) (tC (.int 0))) σ H Q2 := fun Q2 q => ⟨_, h11, .inr (.inl ⟨z, _, _, _, rfl, rfl, hz, L2.atI_nat (j := 0) rfl, q⟩)⟩
      have i1 : ∀ Q2 : VK, Q2 (.str w) H → (tOp (rIx K) (tVar 11) (tC (.int 1))) σ H Q2 := fun Q2 q => ⟨_, h11, .inr (.inl ⟨z, _, _, _, rfl, rfl, hz, L2.atI_nat (j := 1) rfl, q⟩)⟩
      refine ⟨_, h11, rfl, _, rfl, iteT (i0 _ ?_)⟩
      cases b with
      | true =>
        obtain ⟨j, hj, hm, mi⟩ := hf
        refine ⟨rfl, _, rfl, ite2 (fun _ => ?_) (fun e => absurd (decide_eq_true rfl) e)⟩
        refine ⟨_, h7, .inl ⟨rfl, _, lsq h.hO⟩, i1 _ ?_⟩
        exact ⟨O, op, w, j, rfl, rfl, h.hO, hj, hm, k _ _ _ (h.setO (op' := op.eraseIdx j)) mi rfl (Nat.le_succ _)⟩
      | false =>
        refine ⟨rfl, _, rfl, ite2 (fun e => absurd e (by decide +kernel)) (fun _ => ?_)⟩
        refine ⟨_, h11, rfl, _, rfl, iteT ⟨_, h7, .inl ⟨rfl, _, lsq h.hO⟩, i1 _ ?_⟩⟩
        refine ⟨O, _, _, rfl, rfl, h.hO, szl (by rw [List.length_map]; omega), ?_⟩
        have := k _ _ _ (h.setO (op' := op ++ [w])) hf rfl (Nat.le_succ _)
        rw [List.map_append] at this
        exact this
end
end My
set_option Elab.async false
set_option linter.all false
set_option maxRecDepth 100000
namespace My
open PySem PySem.Spec PyProof.Rows L2 TL
theorem ext_none {B : BagId} {H H' : Hp} {a : Addr} (hb : Bag B H') (ex : Ext B.p H H') (h : H' a = none) : H a = none := by
  cases e : H a with
  | none => rfl
  | some o =>
    have := ex a o e (hb.ne h)
    rw [h] at this
    cases this
abbrev deedTS (K : PySem.W.Frag) : TS := tIfS (tAnd (tTest (tOp rEq (tVar 10) (tC (.int 1)))) (tTest (tOp (rI0 fun i j => .bl (decide (i < j))) (tVar 8) (tCB (rLenQ K) (tCons (tVar 4) tNil)))))
  (tSeq (tPar 11 8 (tCons (tTup (tCons (tC (.str "send")) (tCons (tOp (rIx K) (tVar 4) (tVar 8)) tNil))) (tCons (tOp (rI0 fun i j => .int (i + j)) (tVar 8) (tC (.int 1))) tNil)))
    (tDrop (tBM K "list" rAppend (tVar 7) (tCons (tOp (rIx K) (tVar 11) (tC (.int 1))) tNil))))
  (tIfS (tAnd (tTest (tOp rEq (tVar 10) (tC (.int 2)))) (tTest (tOp (rNeD K) (tVar 7) (tLst tNil))))
    (tAsg (tTup (tCons (tC (.str "receive")) (tCons (tBM K "list" rPopAt (tVar 7) (tCons (tCall spDraw [] E0 (tCons (tVar 0) (tCons (tCB (rLenQ K) (tCons (tVar 7) tNil)) tNil))) tNil)) tNil))) (gName 11)) tNext)
section
variable {K : PySem.W.Frag} {B : BagId} {H0 H H' H2 H3 H4 : Hp} {R O W : Addr} {ts ls : List Addr} {rs : List Row} {op op' ns : List Str}
theorem HR.start (hB : Bag B H) (hB2 : Bag B H2) (x2 : Ext B.p H H2) (s3 : Same H2 H3) (s4 : Same H3 H4) (nR : H2 R = none) (eR : H3 R = some (.lst (ts.map V.ref))) (nd : ls.Nodup) (hl : ∀ l ∈ ls, H2 l = none ∧ l ≠ R) (tl : ts.length = ns.length) (ll : ls.length = ns.length)
    (hrow : ∀ (i : Nat) (n : Str), ns[i]? = some n → ∃ t l, ts[i]? = some t ∧ ls[i]? = some l ∧ H2 t = none ∧ H3 t = some (.tup [.str n, .ref l]) ∧ H3 l = some (.lst []))
    (nO : H3 O = none) (eO : H4 O = some (.lst [])) (nW : H3 W = none) (hWO : W ≠ O) (eW : H4 W = some (.lst (lawWords.map V.str))) : HR K B H H4 R O W ts ls (ns.map fun n => ⟨n, true, []⟩) [] := by
  have hls : ∀ l ∈ ls, H3 l = some (.lst []) := fun l m => by
    obtain ⟨k, hk⟩ := List.getElem?_of_mem m
    have hk' := (List.getElem?_eq_some_iff.mp hk).1
    obtain ⟨t, l', a1, a2, a3, a4, a5⟩ := hrow k _ (List.getElem?_eq_getElem (by omega))
    rw [hk] at a2
    cases a2
    exact a5
  exact {
    b0 := hB
    bag := hB2.ext (s3.trans s4)
    ext := fun b o e n => s4 _ _ (s3 _ _ (x2 b o e n))
    new := fun a ha => by
      rcases ha with rfl | ha
      · exact ext_none hB2 x2 (s3.free nO)
      · exact ext_none hB2 x2 (hl a ha).1
    hR := s4 _ _ eR
    hO := eO
    hW := eW
    nR := fun z => by
      rcases z with z | z | z
      · exact hB2.ne nR z
      · rw [z, nO] at eR; cases eR
      · exact (hl R z).2 rfl
    nW := fun z => by
      rcases z with z | z | z
      · exact hB2.ne (s3.free nW) z
      · exact hWO z
      · have := hls W z
        rw [nW] at this
        cases this
    nO := fun z => by
      have := hls O z
      rw [nO] at this
      cases this
    nd := nd
    tl := by rw [List.length_map]; exact tl
    ll := by rw [List.length_map]; exact ll
    row := fun i r e => by
      rw [List.getElem?_map] at e
      cases en : ns[i]? with
      | none => rw [en] at e; cases e
      | some n =>
        rw [en] at e
        cases e
        obtain ⟨t, l, a1, a2, a3, a4, a5⟩ := hrow i n en
        refine ⟨t, l, [], a1, a2, fun z => ?_, s4 _ _ a4, s4 _ _ a5, .nil⟩
        rcases z with z | z | z
        · exact hB2.ne a3 z
        · rw [z, nO] at a4; cases a4
        · have := hls t z
          rw [a4] at this
          cases this
    live := fun a ha => by
      rcases ha with rfl | rfl | ha
      · exact (hB2.ext (s3.trans s4)).there
      · exact ⟨_, eO⟩
      · exact ⟨_, s4 _ _ (hls a ha)⟩ }
theorem turns_run {σ : L2.St} {Q : VK} {many most : Nat} (hB : Bag B H) (hm : most ≤ 1000) (h0 : σ[0]? = some (some (.ref B.p))) (h1 : σ[1]? = some (some (.int (many : Nat)))) (h2 : σ[2]? = some (some (.int (most : Nat))))
    (k : ∀ (n : Nat) H', Bag B H' → Ext B.p H H' → (0 < n → 0 < many) → n ≤ most → Q (.int (n : Nat)) H') :
    (tIf (tTest (tOp (rI0 fun i j => .bl (decide (j < i))) (tVar 1) (tC (.int 0)))) (tCall spDraw [] E0 (tCons (tVar 0) (tCons (tOp (rI0 fun i j => .int (i + j)) (tVar 2) (tC (.int 1))) tNil))) (tC (.int 0))) σ H Q := by
  refine ⟨_, h1, _, _, rfl, rfl, _, rfl, ite2 (fun e => ?_) (fun e => ?_)⟩
  · have := of_decide_eq_true e
    refine ⟨_, h0, _, h2, _, _, rfl, rfl, B, _, rfl, hB, by omega, by omega, fun r H5 r0 r1 hB5 ex5 => ?_⟩
    obtain ⟨n, rfl⟩ := Int.eq_ofNat_of_zero_le r0
    exact k n H5 hB5 ex5 (fun _ => by omega) (by omega)
  · exact k 0 H hB (fun b o e _ => e) (fun z => by omega) (Nat.zero_le _)
abbrev stL (B : BagId) (R O W : Addr) (a1 a2 a3 x5 : Option V) (fr : Nat) (x9 : Option V) (way : Nat) (vd : V) (x12 : Option V) : L2.St := [some (.ref B.p), a1, a2, a3, some (.ref W), x5, some (.ref R), some (.ref O), some (.int (fr : Nat)), x9, some (.int (way : Nat)), some vd, x12]
theorem deed_phase {D : Ends} {a1 a2 a3 x5 x9 x12 : Option V} {fr way : Nat} (h : HR K B H0 H R O W ts ls rs op) (mi : MI ns lawWords rs op fr) (hfr : fr ≤ 20)
    (k : ∀ d op' fr' vd H', HR K B H0 H' R O W ts ls rs op' → Out ns lawWords rs d op' fr' → fr' ≤ 20 → op'.length ≤ 1000 → Ds K (SR B O ls) H' vd (deedP d) → D.nx (stL B R O W a1 a2 a3 x5 fr' x9 way vd x12) H') : deedTS K D (stL B R O W a1 a2 a3 x5 fr x9 way .non x12) H := by
  have hopl := mi.opl
  have hkeep : ∀ H', HR K B H0 H' R O W ts ls rs op → D.nx (stL B R O W a1 a2 a3 x5 fr x9 way .non x12) H' := fun H' g => k none op fr .non H' g (out_none mi) hfr (by omega) .non
  have recv : (tIfS (tAnd (tTest (tOp rEq (tVar 10) (tC (.int 2)))) (tTest (tOp (rNeD K) (tVar 7) (tLst tNil))))
    (tAsg (tTup (tCons (tC (.str "receive")) (tCons (tBM K "list" rPopAt (tVar 7) (tCons (tCall spDraw [] E0 (tCons (tVar 0) (tCons (tCB (rLenQ K) (tCons (tVar 7) tNil)) tNil))) tNil)) tNil))) (gName 11)) tNext) D (stL B R O W a1 a2 a3 x5 fr x9 way .non x12) H := by
    refine ⟨_, rfl, rfl, _, rfl, ite2 (fun e => ?_) (fun _ => iteF (hkeep H h))⟩
    have hw : ∀ x ∈ op, fine (.str x) = true := fun x m => name_fine (words_ok x (List.mem_of_mem_take (mi.used true x (mi.ops x m).1))) (by decide)
    refine ⟨_, rfl, Nat.zero_le _, fun z nz => ?_⟩
    have s1 : Same H (upd H z (.lst [])) := same_upd nz
    refine ⟨_, _, dp_strs (s1 _ _ h.hO), dp_strs (xs := []) upd_same, fine_shaped (fine_strs (by omega) hw), by decide, ?_⟩
    have g1 := h.same s1
    generalize upd H z (.lst []) = H1 at s1 g1
    rw [show (List.map PyData.str ([] : List Str)) = [] from rfl, ne_nil]
    refine ⟨_, rfl, ite2 (fun e => ?_) (fun _ => hkeep H1 g1)⟩
    have hpos : 0 < op.length := List.length_pos_iff.mpr (of_decide_eq_true e)
    refine ⟨_, rfl, .inl ⟨rfl, _, lsq g1.hO⟩, _, rfl, _, rfl, V.ref O, op.length, rfl, .inl ⟨_, lsq g1.hO, by rw [List.length_map]⟩, B, _, rfl, g1.bag, by omega, by omega, fun r H3 r0 r1 hB3 ex3 => ?_⟩
    obtain ⟨j, rfl⟩ := Int.eq_ofNat_of_zero_le r0
    have g3 := g1.keep hB3 ex3
    have hj : j < (op.map V.str).length := by rw [List.length_map]; omega
    obtain ⟨k', b1, b2, b3⟩ := ixS hj
    rw [List.length_map] at b3
    have ev : (op.map V.str)[j] = V.str op[k'] := by
      rw [List.getElem?_map, List.getElem?_eq_getElem b3] at b2
      exact (Option.some.inj b2).symm
    refine ⟨O, _, _, k', _, rfl, rfl, g3.hO, by omega, by omega, b1, b2, ?_⟩
    rw [ev, erase_mapS]
    have g4 := g3.setO (op' := op.eraseIdx k')
    refine ⟨szl (by show 1 < 100000; decide), fun t nt => ?_⟩
    have g5 := g4.same (same_upd (o := .tup [.str "receive", .str op[k']]) nt)
    refine k (some (false, op[k'])) _ fr (.ref t) _ g5 (out_recv mi b3 words_ok) hfr (by rw [List.length_eraseIdx_of_lt b3]; omega) ?_
    exact .tup ⟨fun z => (by obtain ⟨o, e'⟩ := g4.live t z; rw [nt] at e'; cases e'), upd_same⟩ (.cons (.str _) (.cons (.str _) .nil))
  refine ⟨_, rfl, rfl, _, rfl, ite2 (fun e => ?_) (fun _ => iteF recv)⟩
  refine ⟨_, rfl, _, rfl, _, _, rfl, .inl ⟨_, lsq h.hW, rfl⟩, _, _, rfl, rfl, _, rfl, ite2 (fun e => ?_) (fun _ => recv)⟩
  have hlt : fr < lawWords.length := by
    have := of_decide_eq_true e
    rw [List.length_map] at this
    omega
  refine ⟨_, rfl, _, rfl, .inl ⟨W, _, _, .str lawWords[fr], rfl, rfl, lsq h.hW, L2.atI_nat (by rw [List.getElem?_map, List.getElem?_eq_getElem hlt]; rfl), ?_⟩⟩
  refine ⟨szl (by show 1 < 100000; decide), fun t nt => ?_⟩
  have s1 : Same H (upd H t (.tup [.str "send", .str lawWords[fr]])) := same_upd nt
  have g1 := h.same s1
  have et : (upd H t (.tup [.str "send", .str lawWords[fr]])) t = some (.tup [.str "send", .str lawWords[fr]]) := upd_same
  have nS : ¬ SR B O ls t := fun z => by obtain ⟨o, e'⟩ := h.live t z; rw [nt] at e'; cases e'
  generalize upd H t (.tup [.str "send", .str lawWords[fr]]) = H1 at s1 g1 et
  refine ⟨_, rfl, _, _, rfl, rfl, _, _, rfl, ?_⟩
  refine ⟨_, rfl, .inl ⟨rfl, _, lsq g1.hO⟩, _, rfl, .inr (.inl ⟨t, _, _, .str lawWords[fr], rfl, rfl, .inl (.inl et), L2.atI_nat (j := 1) rfl, ?_⟩)⟩
  refine ⟨O, _, _, rfl, rfl, g1.hO, szl (by rw [List.length_map]; omega), ?_⟩
  have g2 := g1.setO (op' := op ++ [lawWords[fr]])
  rw [List.map_append] at g2
  have hd : Ds K (SR B O ls) (upd H1 O (.lst (op.map V.str ++ [lawWords[fr]].map V.str))) (.ref t) (deedP (some (true, lawWords[fr]))) := .tup ⟨nS, by rw [upd_ne fun z => nS (.inr (.inl z))]; exact et⟩ (.cons (.str _) (.cons (.str _) .nil))
  exact k (some (true, lawWords[fr])) _ (fr + 1) (.ref t) _ g2 (out_send mi words_nd hlt words_ok) (by rw [words_len] at hlt; omega) (by rw [List.length_append]; show _ + 1 ≤ 1000; omega) hd
theorem body_phase {D : Ends} {a1 a2 a3 x5 x12 : Option V} {fr way spot : Nat} (h : HR K B H0 H R O W ts ls rs op) (mi : MI ns lawWords rs op fr) (hfr : fr ≤ 20) (hi : spot < rs.length)
    (k : ∀ H' rs' op' fr' vd, HR K B H0 H' R O W ts ls rs' op' → MI ns lawWords rs' op' fr' → fr' ≤ 20 → rs'.length = rs.length → tot rs' ≤ tot rs + 1 → D.nx (stL B R O W a1 a2 a3 x5 fr' (some (.int (spot : Nat))) way vd x12) H') : tSeq (deedTS K) (rowTS K) D (stL B R O W a1 a2 a3 x5 fr (some (.int (spot : Nat))) way .non x12) H :=
  deed_phase (D := { D with nx := rowTS K D }) h mi hfr fun d op' fr' vd H' h9 ho hfr' hop hd => row_phase (D := D) h9 ho hi hd hop rfl rfl rfl rfl rfl fun H10 rs' op'' h10 mi' hl' ht' => k H10 rs' op'' fr' vd h10 mi' hfr' hl' ht'
end
end My
set_option Elab.async false
set_option linter.all false
set_option maxRecDepth 100000
namespace My
open PySem PySem.Spec PyProof.Rows L2 TL
theorem tot_start {ns : List Str} {i : Nat} : tot (ns.map fun n => ⟨n, true, []⟩) ≤ i := by
  unfold tot
  rw [List.map_map]
  have : ∀ l : List Str, (l.map ((fun r : Row => r.s.length) ∘ fun n => ⟨n, true, []⟩)).sum = 0 := fun l => by
    induction l with
    | nil => rfl
    | cons x l ih => rw [List.map_cons, List.sum_cons, ih]; rfl
  rw [this]
  exact Nat.zero_le _
theorem cutV_to {xs : List V} {n : Nat} : cutV xs none (some (n : Int)) = xs.take n := cutD_to xs n
theorem words_eq : signsV "mnopkhijuvwrst" ++ lawMore.map V.str = lawWords.map V.str := by
  unfold signsV lawWords
  rw [List.map_append, List.map_map]
  rfl
theorem par3_of {ta : TE} {tr : TA} {tz : TS} {D : Ends} {σ : L2.St} {H : Hp} {i j l : Nat} (h : ta σ H fun x H1 => tr σ H1 fun xs H2 => ∃ u v w, x :: xs = [u, v, w] ∧ tz D (((σ.set i (some u)).set j (some v)).set l (some w)) H2) : tSeq (tPar3 i j l (tCons ta tr)) tz D σ H := h
theorem for_rng {ta : TE} {g : TG} {tb tz : TS} {D : Ends} {σ : L2.St} {H : Hp} (M : Nat → Hp → Prop) (h : ∀ Q : VK, (∀ (n : Nat) H', M n H' → Q (.int (n : Nat)) H') → ta σ H Q)
    (hM : ∀ n H', M n H' → ((n : Nat) : Int) < 2 ^ 62 ∧ ∃ Pv : L2.St → Hp → Prop, Pv σ H' ∧ (∀ v σ2 H2, 0 < n → Pv σ2 H2 → g v σ2 H2 fun σ3 H3 => tb { D with nx := Pv, ct := Pv, bk := tz D } σ3 H3) ∧ ∀ σ2 H2, Pv σ2 H2 → tz D σ2 H2) : tSeq (tFor (iRng1 (tCons ta tNil)) g tb) tz D σ H := h _ fun n H' m => by
  obtain ⟨hn, Pv, p0, ps, pd⟩ := hM n H' m
  exact ⟨((n : Nat) : Int), rfl, by omega, hn, for_range (n := n) (lo := 0) (D := { D with nx := tz D }) (fun _ => Pv) p0 (fun i σ2 H2 hi p => ps _ σ2 H2 (by omega) p) pd⟩
/-- the same, the turns counted -/
theorem for_rngI {ta : TE} {g : TG} {tb tz : TS} {D : Ends} {σ : L2.St} {H : Hp} (M : Nat → Hp → Prop) (h : ∀ Q : VK, (∀ (n : Nat) H', M n H' → Q (.int (n : Nat)) H') → ta σ H Q)
    (hM : ∀ n H', M n H' → ((n : Nat) : Int) < 2 ^ 62 ∧ ∃ Pv : Nat → L2.St → Hp → Prop, Pv 0 σ H' ∧ (∀ i σ2 H2, i < n → Pv i σ2 H2 → g (.int (i : Nat)) σ2 H2 fun σ3 H3 => tb { D with nx := Pv (i + 1), ct := Pv (i + 1), bk := tz D } σ3 H3) ∧ ∀ σ2 H2, Pv n σ2 H2 → tz D σ2 H2) : tSeq (tFor (iRng1 (tCons ta tNil)) g tb) tz D σ H := h _ fun n H' m => by
  obtain ⟨hn, Pv, p0, ps, pd⟩ := hM n H' m
  refine ⟨((n : Nat) : Int), rfl, by omega, hn, for_range (n := n) (lo := 0) (D := { D with nx := tz D }) Pv p0 (fun i σ2 H2 hi p => ?_) pd⟩
  have := ps i σ2 H2 (by omega) p
  rw [Int.zero_add]
  exact this
section
variable {P : Program} {w : World} {K : PySem.W.Frag} {mg : Str → Option Value} {base : Heap} {A : Top}
def spLrows (K : PySem.W.Frag) : Sp := fun vs H Q _ => ∃ (B : BagId) (many most : Nat), vs = [.ref B.p, .int (many : Nat), .int (most : Nat)] ∧ Bag B H ∧ many ≤ 6 ∧ most ≤ 1000 ∧
  ∀ (v : V) (rs : List Row) (H' : Hp), Bag B H' → Ext B.p H H' → Ds K (fun a => a = B.p) H' v (.list (rs.map rowP)) → Valid rs → (∀ r ∈ rs, r.k = true) → rs.length = many → tot rs ≤ most → Q v H'
set_option maxHeartbeats 1000000 in
theorem ok_Lrows (T : TopOk K mg A) : FnOk P w K mg base CX0 4 A.f_Lrows A.d_Lrows P_Lrows (spLrows K) := by
  have G_Ldraw : FnOk P w K mg base CX0 1 A.f_Ldraw A.d_Ldraw P_Ldraw spDraw := ok_Ldraw T
  have G_Lmixed : FnOk P w K mg base CX0 2 A.f_Lmixed A.d_Lmixed P_Lmixed spMixed := ok_Lmixed T
  have G_Lstep : FnOk P w K mg base CX0 3 A.f_Lstep A.d_Lstep P_Lstep (spStep K) := ok_Lstep T
  refine T.F_Lrows.ok sc_Lrows (fun vs H Q E h => ?_) (fun cdv Ar outer s H vs Q E hr h => ?_)
  · obtain ⟨B, many, most, rfl, _⟩ := h
    rfl
  · obtain ⟨B, many, most, rfl, hB, h6, hmost, k⟩ := h
    refine ⟨_, (pss_cons (ps_set (i := 3) sc_Lrows.nd rfl (by first | exact Or.inl rfl | exact Or.inr rfl) (pe_slice sl_list (pe_call G_Lmixed (hr.mono (by decide)) (by rfl) T.g_Lmixed T.F_Lmixed.kp T.a_Lmixed .nil pass0 (pa_cons (pv 0) (pa_cons (pe_lst (pa_cons pe_str (pa_cons pe_str (pa_cons pe_str (pa_cons pe_str (pa_cons pe_str (pa_cons pe_str pa_nil))))))) pa_nil))) po_none (po_some (pv 1))))
      (pss_cons (ps_par3 (i := 6) (j := 7) (l := 8) (by rfl) sc_Lrows.nd rfl rfl rfl (by decide) (by decide) (by decide) rfl rfl rfl (pa_cons (pe_lc (own := [("_law_name", 12)]) (g := gName 12) (by rfl) sc_Lrows.nd (pi_any (pv 3)) (blkOk_by (own := [("_law_name", 12)]) (N := N_Lrows) (sc := defScope s_Lrows) (by decide +kernel)) (fun _ _ _ _ _ => (pg_name (i := 12) sc_Lrows.nd rfl (by first | exact Or.inl rfl | exact Or.inr rfl))) (fun _ _ _ _ _ => pts_nil) (fun _ _ _ _ _ => (pe_tup (pa_cons (pv 12) (pa_cons (pe_lst pa_nil) pa_nil))))) (pa_cons (pe_lst pa_nil) (pa_cons pe_int pa_nil))) (by rfl))
      (pss_cons (ps_set (i := 4) sc_Lrows.nd rfl (by first | exact Or.inl rfl | exact Or.inr rfl) (pe_op L2.op_cat (pe_callTy (call_listT (by rfl)) (by rfl) T.b_list (by decide +kernel) (pa_cons pe_str pa_nil)) (pe_lst (pa_cons pe_str (pa_cons pe_str (pa_cons pe_str (pa_cons pe_str (pa_cons pe_str (pa_cons pe_str pa_nil)))))))))
      (pss_cons (ps_for PassesOwn.never rfl (pi_range1 (by rfl) T.b_range (pa_cons (pe_ifExp (pt_cmpR op_gt (pv 1) pe_int (nomark _)) (pe_call G_Ldraw (hr.mono (by decide)) (by rfl) T.g_Ldraw T.F_Ldraw.kp T.a_Ldraw .nil pass0 (pa_cons (pv 0) (pa_cons (pe_op op_add (pv 2) pe_int) pa_nil))) pe_int) pa_nil)) (pg_name (i := 5) sc_Lrows.nd rfl (by first | exact Or.inl rfl | exact Or.inr rfl))
      (pss_cons (ps_par3 (i := 9) (j := 10) (l := 11) (by rfl) sc_Lrows.nd rfl rfl rfl (by decide) (by decide) (by decide) rfl rfl rfl (pa_cons (pe_call G_Ldraw (hr.mono (by decide)) (by rfl) T.g_Ldraw T.F_Ldraw.kp T.a_Ldraw .nil pass0 (pa_cons (pv 0) (pa_cons (pv 1) pa_nil))) (pa_cons (pe_call G_Ldraw (hr.mono (by decide)) (by rfl) T.g_Ldraw T.F_Ldraw.kp T.a_Ldraw .nil pass0 (pa_cons (pv 0) (pa_cons pe_int pa_nil))) (pa_cons pe_non pa_nil))) (by rfl))
      (pss_cons (ps_if (PW.pt (pw_and (pt_cmpR op_eq (pv 10) pe_int (nomark _)) (pw_and1 (pt_cmpR op_lt (pv 8) (pe_callB call_len (by rfl) T.b_len (by decide +kernel) (pa_cons (pv 4) pa_nil)) (nomark _)))))
      (pss_cons (ps_par (i := 11) (j := 8) (by rfl) sc_Lrows.nd rfl rfl (by decide) rfl rfl (pa_cons (pe_tup (pa_cons pe_str (pa_cons (pe_ix ix_seq (pv 4) (pv 8) (fun _ _ => rfl)) pa_nil))) (pa_cons (pe_op op_add (pv 8) pe_int) pa_nil)) (by rfl))
      (pss_one (ps_expr (pe_bm PySem.F.plainAttrs_list PySem.F.slot_list_append PySem.F.type_list_append mt_append (pv 7) (pa_cons (pe_ix ix_seq (pv 11) pe_int (fun _ _ => rfl)) pa_nil)))))
      (pss_one (ps_if (PW.pt (pw_and (pt_cmpR op_eq (pv 10) pe_int (nomark _)) (pw_and1 (pt_cmpR (L2.op_neD hr.units) (pv 7) (pe_lst pa_nil) (nomark _)))))
      (pss_one (ps_set (i := 11) sc_Lrows.nd rfl (by first | exact Or.inl rfl | exact Or.inr rfl) (pe_tup (pa_cons pe_str (pa_cons (pe_bm PySem.F.plainAttrs_list PySem.F.slot_list_pop PySem.F.type_list_pop mt_popAt (pv 7) (pa_cons (pe_call G_Ldraw (hr.mono (by decide)) (by rfl) T.g_Ldraw T.F_Ldraw.kp T.a_Ldraw .nil pass0 (pa_cons (pv 0) (pa_cons (pe_callB call_len (by rfl) T.b_len (by decide +kernel) (pa_cons (pv 7) pa_nil)) pa_nil))) pa_nil)) pa_nil)))))
      pss_nil)))
      (pss_one (ps_if (pt_cmpR op_lt (pe_callB call_len (by rfl) T.b_len (by decide +kernel) (pa_cons (pe_ix ix_seq (pe_ix ix_seq (pv 6) (pv 9) (fun _ _ => rfl)) pe_int (fun _ _ => rfl)) pa_nil)) pe_int (nomark _))
      (pss_one (ps_expr (pe_bm PySem.F.plainAttrs_list PySem.F.slot_list_append PySem.F.type_list_append mt_append (pe_ix ix_seq (pe_ix ix_seq (pv 6) (pv 9) (fun _ _ => rfl)) pe_int (fun _ _ => rfl)) (pa_cons (pe_call G_Lstep (hr.mono (by decide)) (by rfl) T.g_Lstep T.F_Lstep.kp T.a_Lstep .nil pass0 (pa_cons (pv 0) (pa_cons (pv 11) pa_nil))) pa_nil))))
      (pss_one (ps_if (PW.pt (pw_and (pt_cmpR op_notN (pv 11) pe_non (nomark _)) (pw_and1 (pt_cmpR op_eq (pe_ix ix_seq (pv 11) pe_int (fun _ _ => rfl)) pe_str (nomark _)))))
      (pss_one (ps_expr (pe_bm PySem.F.plainAttrs_list PySem.F.slot_list_remove PySem.F.type_list_remove mt_removeS (pv 7) (pa_cons (pe_ix ix_seq (pv 11) pe_int (fun _ _ => rfl)) pa_nil))))
      (pss_one (ps_if (pt_cmpR op_notN (pv 11) pe_non (nomark _))
      (pss_one (ps_expr (pe_bm PySem.F.plainAttrs_list PySem.F.slot_list_append PySem.F.type_list_append mt_append (pv 7) (pa_cons (pe_ix ix_seq (pv 11) pe_int (fun _ _ => rfl)) pa_nil))))
      pss_nil)))))))))
      (pss_one (ps_ret (pv 6))))))), ?_⟩
    show tSeq _ _ _ [some (.ref B.p), some (.int (many : Nat)), some (.int (most : Nat)), none, none, none, none, none, none, none, none, none, none] H
    refine ⟨_, rfl, szl (by decide), fun q nq => ?_⟩
    refine ⟨B, q, lawNames, rfl, hB.ext (same_upd nq), upd_same, by decide, fun x hx => name_fine (names_ok x hx) (by decide), fun a ys H1 na hB1 ex1 ea hp => ?_⟩
    have x1 : Ext B.p H H1 := fun b o e n => ex1 _ _ (same_upd nq _ _ e) n
    refine ⟨_, rfl, _, rfl, a, _, rfl, lsq ea, fun u nu => ?_⟩
    rw [cutV_to, ← List.map_take]
    have hns : (ys.take many).Nodup := List.Nodup.sublist (List.take_sublist _ _) (hp.nodup_iff.mpr names_nd)
    have hnn : ∀ n ∈ ys.take many, nameD 6 (.str n) = true := fun n m => names_ok n (hp.mem_iff.mp (List.mem_of_mem_take m))
    have hnl : (ys.take many).length = many := by rw [List.length_take, hp.length_eq]; show min many 6 = many; omega
    generalize ys.take many = ns at hns hnn hnl
    have e2 : (upd H1 u (.lst (ns.map V.str))) u = some (.lst (ns.map V.str)) := upd_same
    have hB2 := hB1.ext (same_upd (o := .lst (ns.map V.str)) nu)
    have x2 : Ext B.p H (upd H1 u (.lst (ns.map V.str))) := fun b o e n => same_upd nu _ _ (x1 b o e n)
    have hup : u ≠ B.p := hB1.ne nu
    generalize upd H1 u (.lst (ns.map V.str)) = H2 at e2 hB2 x2
    dsimp only [gName, List.set]
    show tSeq (tPar3 6 7 8 _) _ _ [some (.ref B.p), some (.int (many : Nat)), some (.int (most : Nat)), some (.ref u), none, none, none, none, none, none, none, none, none] H2
    refine par3_of (ta := tLc (iAny K (tVar 3)) (gName 12) tYes (tTup (tCons (tVar 12) (tCons (tLst tNil) tNil))) [12]) (mk_rows (K := K) (S := fun a => a = B.p) (σ := [some (.ref B.p), some (.int (many : Nat)), some (.int (most : Nat)), some (.ref u), none, none, none, none, none, none, none, none, none]) (nm := u) (ns := ns) (j := 0) (fun a e => by rw [e]; exact hB2.there) rfl (fun v => rfl) (fun v => rfl) ⟨hup, e2⟩ (by omega) fun R ts ls H3 s3 nR eR nd hl tl ll hrow => ?_)
    refine ⟨Nat.zero_le _, fun O nO => ⟨_, _, _, rfl, ?_⟩⟩
    show tSeq (tAsg _ (gName 4)) _ _ [some (.ref B.p), some (.int (many : Nat)), some (.int (most : Nat)), some (.ref u), none, none, some (.ref R), some (.ref O), some (.int 0), none, none, none, none] _
    refine ⟨_, rfl, by decide, fun l1 n1 => ⟨szl (by decide), fun l2 n2 => ⟨l1, l2, _, _, rfl, rfl, same_upd n2 _ _ upd_same, upd_same, by decide, fun W nW => ?_⟩⟩⟩
    have eO : (upd H3 O (.lst [])) O = some (.lst []) := upd_same
    have sO : Same H3 (upd H3 O (.lst [])) := same_upd nO
    generalize upd H3 O (.lst []) = G1 at n1 n2 nW eO sO ⊢
    have s1 : Same G1 (upd G1 l1 (.lst (signsV "mnopkhijuvwrst"))) := same_upd n1
    generalize upd G1 l1 (.lst (signsV "mnopkhijuvwrst")) = G2 at n2 nW s1 ⊢
    have s2 : Same G2 (upd G2 l2 (.lst (lawMore.map V.str))) := same_upd n2
    have nW : (upd G2 l2 (.lst (lawMore.map V.str))) W = none := nW
    have hWO : W ≠ O := fun z => by
      have := s2 _ _ (s1 _ _ eO)
      rw [← z, nW] at this
      cases this
    have eW : (upd (upd G2 l2 (.lst (lawMore.map V.str))) W (.lst (signsV "mnopkhijuvwrst" ++ lawMore.map V.str))) W = some (.lst (lawWords.map V.str)) := by rw [upd_same, words_eq]
    have s4 : Same H3 (upd (upd G2 l2 (.lst (lawMore.map V.str))) W (.lst (signsV "mnopkhijuvwrst" ++ lawMore.map V.str))) := ((sO.trans s1).trans s2).trans (same_upd nW)
    have hs := HR.start (K := K) hB hB2 x2 s3 s4 nR eR nd hl tl ll hrow nO ((s1.trans s2 |>.trans (same_upd nW)) _ _ eO) ((sO.trans s1 |>.trans s2).free nW) hWO eW
    dsimp only [gName, List.set]
    show tSeq (tFor _ _ _) _ _ [some (.ref B.p), some (.int (many : Nat)), some (.int (most : Nat)), some (.ref u), some (.ref W), none, some (.ref R), some (.ref O), some (.int 0), none, none, none, none] (upd (upd G2 l2 (.lst (lawMore.map V.str))) W (.lst (signsV "mnopkhijuvwrst" ++ lawMore.map V.str)))
    generalize upd (upd G2 l2 (.lst (lawMore.map V.str))) W (.lst (signsV "mnopkhijuvwrst" ++ lawMore.map V.str)) = H4 at hs ⊢
    refine for_rngI (fun n H' => Bag B H' ∧ Ext B.p H4 H' ∧ (0 < n → 0 < many) ∧ n ≤ most) (fun Q q => turns_run hs.bag hmost rfl rfl rfl fun n H' a b c d => q n H' ⟨a, b, c, d⟩) fun n H5 ⟨hB5, ex5, hn, hnm⟩ => ⟨by omega, ?_⟩
    have h5 := hs.keep hB5 ex5
    refine ⟨fun i σ H' => ∃ x5 x9 x10 x11 fr rs op, σ = [some (.ref B.p), some (.int (many : Nat)), some (.int (most : Nat)), some (.ref u), some (.ref W), x5, some (.ref R), some (.ref O), some (.int (fr : Nat)), x9, x10, x11, none] ∧ HR K B H H' R O W ts ls rs op ∧ MI ns lawWords rs op fr ∧ fr ≤ 20 ∧ rs.length = many ∧ tot rs ≤ i, ⟨none, none, none, none, 0, _, _, rfl, h5, MI.start, Nat.zero_le _, by rw [List.length_map]; exact hnl, tot_start⟩, ?_, ?_⟩
    · rintro i σ H6 hpos ⟨x5, x9, x10, x11, fr, rs, op, rfl, h6', mi, hfr, hlen, htot⟩
      have hmany := hn (by omega)
      dsimp only [gName, List.set]
      refine ⟨_, rfl, _, rfl, B, _, rfl, h6'.bag, by omega, by omega, fun r1 H7 r10 r11 hB7 ex7 => ⟨_, rfl, B, _, rfl, hB7, by decide, by decide, fun r2 H8 r20 r21 hB8 ex8 => ⟨_, _, _, rfl, ?_⟩⟩⟩
      have h8 := (h6'.keep hB7 ex7).keep hB8 ex8
      obtain ⟨spot, rfl⟩ := Int.eq_ofNat_of_zero_le r10
      obtain ⟨way, rfl⟩ := Int.eq_ofNat_of_zero_le r20
      dsimp only [List.set]
      show tSeq (deedTS K) (rowTS K) _ (stL B R O W (some (.int (many : Nat))) (some (.int (most : Nat))) (some (.ref u)) (some (.int (i : Nat))) fr (some (.int (spot : Nat))) way .non none) H8
      refine body_phase h8 mi hfr (by omega) fun H10 rs' op'' fr' vd h10 mi' hfr' hl' ht' => ?_
      exact ⟨_, _, _, _, fr', rs', op'', rfl, h10, mi', hfr', by omega, by omega⟩
    · rintro σ H6 ⟨x5, x9, x10, x11, fr, rs, op, rfl, h6', mi, hfr, hlen, htot⟩
      exact ⟨_, rfl, k _ rs H6 h6'.bag h6'.ext (h6'.data mi.kind) (mi.valid (by omega) hnn hns) mi.kind hlen (by omega)⟩
end
end My
set_option Elab.async false
set_option linter.all false
set_option maxRecDepth 100000
namespace My
open PySem PySem.Spec PyProof.Rows L2 TL
section
variable {P : Program} {w : World} {K : PySem.W.Frag} {mg : Str → Option Value} {base : Heap} {A : Top}
theorem len_1 {ws : List V} (h : ws.length = 1) : ∃ a, ws = [a] := by
  match ws, h with
  | [a], _ => exact ⟨a, rfl⟩
theorem ok_i_InvalidMoment (T : TopOk K mg A) : FnOk P w K mg base CX0 1 A.f_i_InvalidMoment A.d_i_InvalidMoment P_i_InvalidMoment (L2.spInit A.c_InvalidMoment "InvalidMoment" ["value"]) := by
  refine T.F_i_InvalidMoment.ok sc_i_InvalidMoment (fun vs H Q E h => ?_) (fun cdv Ar outer s H vs Q E hr h => ?_)
  · obtain ⟨a, ws, rfl, hl, _⟩ := h
    obtain ⟨w0, rfl⟩ := len_1 hl
    rfl
  · obtain ⟨a, ws, rfl, hl, ha, q⟩ := h
    obtain ⟨w0, rfl⟩ := len_1 hl
    refine ⟨_, (pss_cons (ps_oxt (pv 0) pe_str)
      (pss_one (ps_oxt (pv 0) (pv 1)))), ?_⟩
    refine ⟨_, rfl, _, _, rfl, T.X_InvalidMoment, noB_at T.no_InvalidMoment (by decide), .inl ⟨ha, fun dx nd ne => ?_⟩⟩
    refine ⟨_, rfl, _, rfl, _, _, rfl, T.X_InvalidMoment, noB_at T.no_InvalidMoment (by decide), .inr ⟨dx, _, by simp only [upd_ne (Ne.symm ne), upd_same], by first | exact upd_same | (rw [upd_ne ne]; exact upd_same), by show 1 ≤ 900; decide, ?_⟩⟩
    exact q _ dx nd ne (by simp only [upd_ne (Ne.symm ne), upd_same]) (by first | exact upd_same | (rw [upd_ne ne]; exact upd_same)) (fun b h1 h2 => by simp only [upd_ne h1, upd_ne h2])
end
end My
set_option Elab.async false
set_option linter.all false
set_option maxRecDepth 100000
namespace My
open PySem PySem.Spec PyProof.Rows L2 TL
/-! ### logs as worths -/
section
variable {K : PySem.W.Frag} {S : Sh} {C : Addr} {σ : L2.St} {H : Hp} {rs : List Row} {ta tb : TE} {tr tk : TA} {E : XK} {ds : List PyData}
def SL (K : PySem.W.Frag) (C : Addr) (S : Sh) (ta : TE) (σ : L2.St) (H : Hp) (rs : List Row) : Prop := ∀ S' H', Now S H S' H' → ∀ Q : VK, (∀ a H2, Same H' H2 → LogAt K C S' H2 a rs → Q (.ref a) H2) → ta σ H' Q
theorem sl_var {i : Nat} {a : Addr} (hi : σ[i]? = some (some (.ref a))) (h : LogAt K C S H a rs) : SL K C S (tVar i) σ H rs := fun S1 H1 n Q q => ⟨_, hi, q a H1 (Same.refl _) (h.now n)⟩
theorem sl_meth {m : Str} {f : List Row → PyData} (h : SL K C S ta σ H rs) (hm : ∀ r o, (fldsL r o).lookup m = none) : SV K S (tMeth C m (spMeth K C f) [] E ta tNil) σ H (f rs) := fun S1 H1 n Q q =>
  h S1 H1 n _ fun a H2 s2 h2 => by
    obtain ⟨dx, r, o, h4, h5, h6, h7⟩ := h2.at_
    exact ⟨a, dx, _, rfl, h5, hm _ _, S1, a, rs, rfl, n.live.same s2, h2, fun v H3 s3 hv => q v H3 (s2.trans s3) hv⟩
theorem sv_numS {d : PyData} {lo hi : Int} {tc : TE} (ha : SV K S ta σ H d) (hb : SV K S tb σ H (.int lo)) (hc : SV K S tc σ H (.int hi)) (hf : fine d = true) : SV K S (tCall (spNum K) [] E (tCons ta (tCons tb (tCons tc tNil)))) σ H (.bool (numD lo hi d)) := fun S1 H1 n Q q =>
  ha S1 H1 n _ fun u H2 s2 hu => hb S1 H2 (n.then s2) _ fun w H3 s3 hw => hc S1 H3 ((n.then s2).then s3) _ fun z H4 s4 hz => ⟨u, d, lo, hi, by rw [hw.i, hz.i]; rfl, Ds.dp _ _ ((hu.same s3).same s4), hf, q _ _ ((s2.trans s3).trans s4) (.bl _)⟩
end
/-! ### rows, points -/
def namesS (rs : List Row) : List Str := rs.map (·.n)
/-- a point's places -/
def ptP (pl : List Nat) : PyData := .tuple (pl.map fun n => .int (n : Nat))
def lensOf (rs : List Row) : List Nat := rs.map fun r => r.s.length
section
variable {P : Program} {w : World} {K : PySem.W.Frag} {mg : Str → Option Value} {base : Heap} {A : Top}
theorem ok_lengths (T : TopOk K mg A) : FnOk P w K mg base CX0 1 A.f_Log_lengths A.d_Log_lengths P_Log_lengths (spMeth K A.c_Log fun rs => ptP (lensOf rs)) := by
  refine T.F_Log_lengths.ok sc_Log_lengths (fun vs H Q E h => ?_) (fun cdv Ar outer s H vs Q E hr h => ?_)
  · obtain ⟨S, a, rs, rfl, _⟩ := h
    rfl
  · obtain ⟨S, a, rs, rfl, hL, hlog, k⟩ := h
    refine ⟨_, (pss_one (ps_ret (pe_callTy call_tupleK (by rfl) T.b_tuple (by decide +kernel) (pa_cons (pe_lc (own := [("name", 1), ("steps", 2)]) (g := gTup K 2 (gCons (gName 1) (gCons (gName 2) gNil))) (te := tCB (rLenK K) (tCons (tVar 2) tNil)) (by rfl) sc_Log_lengths.nd (pi_any (pe_fld (pv 0) rfl)) (blkOk_by (own := [("name", 1), ("steps", 2)]) (N := N_Log_lengths) (sc := defScope s_Log_lengths) (by decide +kernel)) (fun _ _ _ _ _ => (pg_tup rfl (pgs_cons (pg_name (i := 1) sc_Log_lengths.nd rfl (by first | exact Or.inl rfl | exact Or.inr rfl)) (pgs_cons (pg_name (i := 2) sc_Log_lengths.nd rfl (by first | exact Or.inl rfl | exact Or.inr rfl)) pgs_nil)))) (fun _ _ _ _ _ => pts_nil) (fun _ _ _ _ _ => (pe_callB call_lenK (by rfl) T.b_len (by decide +kernel) (pa_cons (pv 2) pa_nil)))) pa_nil)))), ?_⟩
    show tRet _ _ [some (.ref a), none, none] H
    refine ret_sv hL (sv_is (d := .tuple ((rs.map rowT).map fun d => .int ((innD d).length : Nat))) (sv_tuple (k := true) (sv_lcM (K := K) (S := S) (si_l (sv_rows T.cl_Log T.na_Log_rows hlog rfl)) (by rw [List.length_map]; have := hlog.val.few; omega) (fun d => .int ((innD d).length : Nat)) fun d S' H' v' Q m n hd kk => ?_)) ?_) k
    · obtain ⟨r, mr, rfl⟩ := List.mem_map.mp m
      exact g_tup2 hd fun x y hx hy => kk [some (.ref a), some x, some y] rfl (sv_lenT (sv_var rfl hy))
    · show PyData.tuple (List.map (fun d => .int ((innD d).length : Nat)) (List.map rowT rs)) = PyData.tuple (List.map (fun n : Nat => .int (n : Nat)) (List.map (fun r => r.s.length) rs))
      rw [List.map_map, List.map_map]
      refine congrArg PyData.tuple (List.map_congr_left fun r _ => ?_)
      show PyData.int (((r.s.map stpP).length : Nat) : Int) = _
      rw [List.length_map]
      rfl
end
end My
set_option Elab.async false
set_option linter.all false
set_option maxRecDepth 100000
namespace My
open PySem PySem.Spec PyProof.Rows L2 TL
/-! ### places -/
def placesB : PyData → List Nat → Bool
  | .tuple ds, ns => decide (ds.length = ns.length) && (ds.zip ns).all fun p => numD 0 (p.2 : Nat) p.1
  | _, _ => false
theorem ptP_zip {ds : List PyData} {ns : List Nat} : (zipD ds (ns.map fun n => PyData.int (n : Nat))) = (ds.zip ns).map fun p => .tuple [p.1, .int (p.2 : Nat)] := by
  unfold zipD
  rw [List.zip_map_right, List.map_map]
  rfl
section
variable {P : Program} {w : World} {K : PySem.W.Frag} {mg : Str → Option Value} {base : Heap} {A : Top}
def spPlaces (K : PySem.W.Frag) : Sp := spT K (fun x : PyData × List Nat => [x.1, ptP x.2]) (fun x => fine x.1 = true ∧ x.2.length ≤ 6) fun x => .bool (placesB x.1 x.2)
def numP : PyData → PyData
  | .tuple [x, .int hi] => .bool (numD 0 hi x)
  | _ => .none
theorem ok_are_places (T : TopOk K mg A) : FnOk P w K mg base CX0 2 A.f_are_places A.d_are_places P_are_places (spPlaces K) := by
  have G_is_number : FnOk P w K mg base CX0 1 A.f_is_number A.d_is_number P_is_number (spNum K) := ok_is_number T
  refine T.F_are_places.ok sc_are_places (fun vs H Q E h => ?_) (fun cdv Ar outer s H vs Q E hr h => ?_)
  · obtain ⟨S, x, _, h, _⟩ := h
    obtain ⟨v, u, rfl, _⟩ := h.two
    rfl
  · obtain ⟨S, ⟨d, ns⟩, hL, hds, hp, k⟩ := h
    obtain ⟨v, u, rfl, hv, hu⟩ := hds.two
    refine ⟨_, (pss_cons (ps_if (PW.pt (pw_or (pt_not (pt_val (pe_callB call_isD (by rfl) T.b_isinstance (by decide +kernel) (pa_cons (pv 0) (pa_cons (pe_bltn (v := .ty "tuple") (by rfl) T.b_tuple (by decide +kernel) rfl) pa_nil))))) (pw_or1 (pt_cmpR op_ne (pe_callB call_len (by rfl) T.b_len (by decide +kernel) (pa_cons (pv 0) pa_nil)) (pe_callB call_len (by rfl) T.b_len (by decide +kernel) (pa_cons (pv 1) pa_nil)) (nomark _)))))
      (pss_one (ps_ret pe_bl))
      pss_nil)
      (pss_one (ps_ret (pe_callB (cr_all rfl) (by rfl) T.b_all (by decide +kernel) (pa_cons (pe_lc (own := [("place", 2), ("length", 3)]) (g := gTup K 2 (gCons (gName 2) (gCons (gName 3) gNil))) (by rfl) sc_are_places.nd (RZ.pi_zipA (by rfl) T.b_zip (pa_cons (pv 0) (pa_cons (pv 1) pa_nil))) (blkOk_by (own := [("place", 2), ("length", 3)]) (N := N_are_places) (sc := defScope s_are_places) (by decide +kernel)) (fun _ _ _ _ _ => (pg_tup rfl (pgs_cons (pg_name (i := 2) sc_are_places.nd rfl (by first | exact Or.inl rfl | exact Or.inr rfl)) (pgs_cons (pg_name (i := 3) sc_are_places.nd rfl (by first | exact Or.inl rfl | exact Or.inr rfl)) pgs_nil)))) (fun _ _ _ _ _ => pts_nil) (fun _ _ _ _ _ => (pe_call G_is_number (hr.mono (by decide)) (by rfl) T.g_is_number T.F_is_number.kp T.a_is_number .nil pass0 (pa_cons (pv 2) (pa_cons pe_int (pa_cons (pv 3) pa_nil)))))) pa_nil))))), ?_⟩
    have hp : fine d = true ∧ ns.length ≤ 6 := hp
    have hv : Ds K S H v d := hv
    have hu : Ds K S H u (.tuple (ns.map fun n => .int (n : Nat))) := hu
    have k : ∀ w H', Same H H' → Ds K S H' w (.bool (placesB d ns)) → Q w H' := k
    show tSeq _ _ _ [some v, some u, none, none] H
    have no : ∀ H', Same H H' → placesB d ns = false → Q (.bl false) H' := fun H' s e => k _ _ s (by rw [e]; exact .bl _)
    cases d with
    | tuple ds =>
      have hz : ds.length ≤ 5000 := (smallT hp.1).1
      refine seq_if (S := S) (b := !decide (((ds.length : Nat) : Int) = ((ns.length : Nat) : Int))) hL (sb_is (b := !(isD "tuple" (.tuple ds)) || !decide (((ds.length : Nat) : Int) = (((ns.map fun n => PyData.int (n : Nat)).length : Nat) : Int)))
        (sb_or (sb_not (sb_val (sv_isD (sv_var rfl hv) rfl))) fun _ => sb_test (sv_neI (sv_lenT (sv_var rfl hv)) (sv_lenT (sv_var rfl hu)))) (by rw [List.length_map]; rfl)) (fun e H1 s1 l1 => ?_) fun e H1 s1 l1 => ?_
      · refine no H1 s1 ?_
        have e : decide (((ds.length : Nat) : Int) = ((ns.length : Nat) : Int)) = false := by simpa using e
        have e := of_decide_eq_false e
        show (decide (ds.length = ns.length) && _) = false
        rw [decide_eq_false (by omega), Bool.false_and]
      · have e : decide (((ds.length : Nat) : Int) = ((ns.length : Nat) : Int)) = true := by simpa using e
        have e := of_decide_eq_true e
        have el : ds.length = ns.length := by omega
        have hv1 := hv.same s1
        have hu1 := hu.same s1
        have ebs : ((zipD ds (ns.map fun n => PyData.int (n : Nat))).map numP) = ((ds.zip ns).map fun p => numD 0 (p.2 : Nat) p.1).map PyData.bool := by
          rw [ptP_zip, List.map_map, List.map_map]
          rfl
        refine ret_sv l1 (sv_is (sv_all (bs := (ds.zip ns).map fun p => numD 0 (p.2 : Nat) p.1) (sv_is (sv_lcM (K := K) (S := S) (si_zipT (sv_var rfl hv1) (sv_var rfl hu1)) (by rw [zipD_len]; omega) numP fun z S' H' v' Q' m n hd kk => ?_) (congrArg PyData.list ebs))) ?_) fun w H' s' hw => k w H' (s1.trans s') hw
        · rw [ptP_zip] at m
          obtain ⟨p, mp, rfl⟩ := List.mem_map.mp m
          have hf : fine p.1 = true := by
            have m2 : p.1 ∈ ds := (List.of_mem_zip mp).1
            obtain ⟨i, hi, e⟩ := List.getElem_of_mem m2
            exact fine_get (ds := ds) (i := i) hp.1 (by rw [List.getElem?_eq_getElem hi, e])
          exact g_tup2 hd fun x y hx hy => kk [some v, some u, some x, some y] rfl (sv_numS (sv_var rfl hx) sv_int (sv_var rfl hy) hf)
        · show PyData.bool _ = .bool (decide (ds.length = ns.length) && _)
          rw [decide_eq_true el, Bool.true_and, List.all_map]
          rfl
    | dict ds => cases hv
    | _ => exact seq_if (S := S) (b := true) hL (sb_is (sb_or (c := true) (sb_not (sb_val (sv_isD (sv_var rfl hv) rfl))) fun z => Bool.noConfusion z) rfl) (fun _ H1 s1 _ => no H1 s1 rfl) fun z => Bool.noConfusion z
end
end My
set_option Elab.async false
set_option linter.all false
set_option maxRecDepth 100000
namespace My
open PySem PySem.Spec PyProof.Rows L2 TL
/-! ### messages -/
abbrev Pair := Str × Nat
def flat (rs : List Row) : List (Pair × Option (Bool × Str)) := rs.flatMap fun r => r.s.zipIdx.map fun p => ((r.n, p.2), p.1.d)
theorem flat_deeds (rs : List Row) : (flat rs).filterMap (·.2) = deeds rs := by
  unfold flat deeds
  rw [List.filterMap_flatMap]
  refine congrArg (fun f => List.flatMap f rs) (funext fun r => ?_)
  rw [List.filterMap_map]
  have : ∀ (l : List Stp) (k : Nat), (l.zipIdx k).filterMap ((·.2) ∘ fun p : Stp × Nat => ((r.n, p.2), p.1.d)) = l.filterMap (·.d) := fun l => by
    induction l with
    | nil => intro k; rfl
    | cons s l ih =>
      intro k
      rw [List.zipIdx_cons]
      cases e : s.d with
      | none => rw [List.filterMap_cons_none (by exact e), List.filterMap_cons_none e, ih]
      | some d => rw [List.filterMap_cons_some (by exact e), List.filterMap_cons_some e, ih]
  exact this r.s 0
def isK (b : Bool) (x : Pair × Option (Bool × Str)) : Bool := match x.2 with
  | some d => decide (d.1 = b)
  | none => false
def wordOf (x : Pair × Option (Bool × Str)) : Str := match x.2 with
  | some d => d.2
  | none => ""
def sends (rs : List Row) : List (Str × Pair) := ((flat rs).filter (isK true)).map fun x => (wordOf x, x.1)
def recvs (rs : List Row) : List (Str × Pair) := ((flat rs).filter (isK false)).map fun x => (wordOf x, x.1)
def senderOf (rs : List Row) (w : Str) : Pair := (((sends rs).find? fun p => decide (p.1 = w)).map (·.2)).getD ("", 0)
theorem word_deeds {rs : List Row} {b : Bool} {w : Str} : w ∈ (((flat rs).filter (isK b)).map wordOf) ↔ (b, w) ∈ deeds rs := by
  rw [← flat_deeds, List.mem_filterMap, List.mem_map]
  constructor
  · rintro ⟨x, m, e⟩
    obtain ⟨m1, m2⟩ := List.mem_filter.mp m
    refine ⟨x, m1, ?_⟩
    unfold isK at m2
    unfold wordOf at e
    cases h : x.2 with
    | none => rw [h] at m2; cases m2
    | some d =>
      rw [h] at m2 e
      obtain ⟨d1, d2⟩ := d
      have : d1 = b := of_decide_eq_true m2
      rw [this]
      exact congrArg (fun z => some (b, z)) e
  · rintro ⟨x, m, e⟩
    refine ⟨x, List.mem_filter.mpr ⟨m, ?_⟩, ?_⟩
    · unfold isK; rw [e]; exact decide_eq_true rfl
    · unfold wordOf; rw [e]
theorem word_nodup {rs : List Row} (h : (deeds rs).Nodup) (b : Bool) : (((flat rs).filter (isK b)).map wordOf).Nodup := by
  have e : ((flat rs).filter (isK b)).map wordOf = ((deeds rs).filter fun d => decide (d.1 = b)).map (·.2) := by
    rw [← flat_deeds]
    generalize flat rs = l
    induction l with
    | nil => rfl
    | cons x l ih =>
      cases hx : x.2 with
      | none =>
        rw [List.filter_cons_of_neg (by unfold isK; rw [hx]; exact Bool.false_ne_true), List.filterMap_cons_none hx, ih]
      | some d =>
        rw [List.filterMap_cons_some hx]
        by_cases hd : d.1 = b
        · rw [List.filter_cons_of_pos (by unfold isK; rw [hx]; exact decide_eq_true hd), List.filter_cons_of_pos (by exact decide_eq_true hd), List.map_cons, List.map_cons, ih]
          unfold wordOf
          rw [hx]
        · rw [List.filter_cons_of_neg (by unfold isK; rw [hx]; exact fun z => hd (of_decide_eq_true z)), List.filter_cons_of_neg (by exact fun z => hd (of_decide_eq_true z)), ih]
  rw [e]
  have h2 := h.filter fun d : Bool × Str => decide (d.1 = b)
  refine List.pairwise_map.mpr (List.Pairwise.imp_of_mem (fun {x y} hx hy hne z => hne ?_) h2)
  have e1 : x.1 = b := of_decide_eq_true (List.mem_filter.mp hx).2
  have e2 : y.1 = b := of_decide_eq_true (List.mem_filter.mp hy).2
  exact Prod.ext (e1.trans e2.symm) z
end My
set_option Elab.async false
set_option linter.all false
set_option maxRecDepth 100000
namespace My
open PySem PySem.Spec PyProof.Rows L2 TL
theorem sends_nd {rs : List Row} (h : (deeds rs).Nodup) : ((sends rs).map (·.1)).Nodup := by
  have := word_nodup h true
  unfold sends
  rw [List.map_map]
  exact this
section
variable {P : Program} {w : World} {K : PySem.W.Frag} {mg : Str → Option Value} {base : Heap} {A : Top}
theorem isK_some {b : Bool} {x : Pair × Option (Bool × Str)} (h : isK b x = true) : x.2 = some (b, wordOf x) := by
  obtain ⟨p, d⟩ := x
  cases d with
  | none => cases h
  | some d => exact congrArg some (Prod.ext (of_decide_eq_true h) rfl)
end
end My
set_option Elab.async false
set_option linter.all false
set_option maxRecDepth 100000
namespace My
open PySem PySem.Spec PyProof.Rows L2 TL
/-! ### moments -/
def placeAt (rs : List Row) (pl : List Nat) (x : Str) : Nat := ((((namesS rs).zip pl).find? fun p => decide (p.1 = x)).map (·.2)).getD 0
def hasN (rs : List Row) (pl : List Nat) (x : Pair) : Bool := decide (x.2 < placeAt rs pl x.1)
theorem sender_mem {rs : List Row} {w : Str} (h : (true, w) ∈ deeds rs) : (w, senderOf rs w) ∈ sends rs := by
  have h1 := word_deeds.mpr h
  have h2 : w ∈ (sends rs).map (·.1) := by unfold sends; rw [List.map_map]; exact h1
  unfold senderOf
  generalize sends rs = l at h2
  induction l with
  | nil => cases h2
  | cons p l ih =>
    by_cases e : p.1 = w
    · rw [List.find?_cons_of_pos (by simpa using e)]
      exact List.mem_cons.mpr (.inl (Prod.ext e.symm rfl))
    · rw [List.find?_cons_of_neg (by simpa using e)]
      refine List.mem_cons.mpr (.inr (ih ?_))
      rcases List.mem_cons.mp h2 with z | z
      · exact absurd z.symm e
      · exact z
/-- the messages received and not sent -/
def lost (rs : List Row) (pl : List Nat) (x : Str × Pair) : Bool := hasN rs pl x.2 && !hasN rs pl (senderOf rs x.1)
end My
set_option Elab.async false
set_option linter.all false
set_option maxRecDepth 100000
namespace My
open PySem PySem.Spec PyProof.Rows L2 TL
def natD : PyData → Nat
  | .int i => i.toNat
  | _ => 0
def plOf : PyData → List Nat
  | .tuple ds => ds.map natD
  | _ => []
def momB (rs : List Row) (d : PyData) : Bool := placesB d (lensOf rs) && ((recvs rs).filter (lost rs (plOf d))).isEmpty
theorem num_nat {d : PyData} {hi : Nat} (h : numD 0 (hi : Nat) d = true) : d = .int (natD d : Nat) ∧ natD d ≤ hi := by
  cases d with
  | int i =>
    have h : (decide (0 ≤ i) && decide (i ≤ (hi : Nat))) = true := h
    obtain ⟨h1, h2⟩ := Bool.and_eq_true_iff.mp h
    have h1 := of_decide_eq_true h1
    have h2 := of_decide_eq_true h2
    show PyData.int i = .int (i.toNat : Nat) ∧ i.toNat ≤ hi
    rw [Int.toNat_of_nonneg h1]
    exact ⟨rfl, by omega⟩
  | _ => cases h
theorem places_is {d : PyData} {ns : List Nat} (h : placesB d ns = true) : d = ptP (plOf d) ∧ (plOf d).length = ns.length ∧ ∀ i n, ns[i]? = some n → (plOf d).getD i 0 ≤ n := by
  cases d with
  | tuple ds =>
    replace h : (decide (ds.length = ns.length) && (ds.zip ns).all fun p => numD 0 (p.2 : Nat) p.1) = true := h
    obtain ⟨h1, h2⟩ := Bool.and_eq_true_iff.mp h
    replace h1 := of_decide_eq_true h1
    clear h
    show PyData.tuple ds = .tuple ((ds.map natD).map fun n => .int (n : Nat)) ∧ (ds.map natD).length = ns.length ∧ ∀ i n, ns[i]? = some n → (ds.map natD).getD i 0 ≤ n
    have : ds = (ds.map natD).map (fun n => PyData.int (n : Nat)) ∧ ∀ i n, ns[i]? = some n → (ds.map natD).getD i 0 ≤ n := by
      induction ds generalizing ns with
      | nil => cases ns with
        | nil => exact ⟨rfl, fun i n e => by cases e⟩
        | cons _ _ => cases h1
      | cons d ds ih => cases ns with
        | nil => cases h1
        | cons m ns =>
          rw [List.zip_cons_cons, List.all_cons] at h2
          obtain ⟨g1, g2⟩ := Bool.and_eq_true_iff.mp h2
          obtain ⟨e1, e2⟩ := num_nat g1
          obtain ⟨e3, e4⟩ := ih (ns := ns) g2 (by simpa using h1)
          refine ⟨?_, fun i n e => ?_⟩
          · rw [List.map_cons, List.map_cons, ← e3, ← e1]
          · cases i with
            | zero =>
              have : m = n := Option.some.inj e
              rw [← this]
              exact e2
            | succ i => exact e4 i n e
    exact ⟨congrArg PyData.tuple this.1, by rw [List.length_map, h1], this.2⟩
  | _ => cases h
end My
set_option Elab.async false
set_option linter.all false
set_option maxRecDepth 100000
namespace My
open PySem PySem.Spec PyProof.Rows L2 TL
/-! ### the law's rows and points -/
section
variable {P : Program} {w : World} {K : PySem.W.Frag} {mg : Str → Option Value} {base : Heap} {A : Top}
def spLsmall (K : PySem.W.Frag) : Sp := fun vs H Q _ => ∃ (B : BagId), vs = [.ref B.p] ∧ Bag B H ∧
  ∀ (v : V) (rs : List Row) (H' : Hp), Bag B H' → Ext B.p H H' → Ds K (fun a => a = B.p) H' v (.list (rs.map rowP)) → Valid rs → (∀ r ∈ rs, r.k = true) → 1 ≤ rs.length → rs.length ≤ 3 → tot rs ≤ 7 → Q v H'
theorem ok_Lsmall_rows (T : TopOk K mg A) : FnOk P w K mg base CX0 5 A.f_Lsmall_rows A.d_Lsmall_rows P_Lsmall_rows (spLsmall K) := by
  have G_Ldraw : FnOk P w K mg base CX0 1 A.f_Ldraw A.d_Ldraw P_Ldraw spDraw := ok_Ldraw T
  have G_Lrows : FnOk P w K mg base CX0 4 A.f_Lrows A.d_Lrows P_Lrows (spLrows K) := ok_Lrows T
  refine T.F_Lsmall_rows.ok sc_Lsmall_rows (fun vs H Q E h => ?_) (fun cdv Ar outer s H vs Q E hr h => ?_)
  · obtain ⟨B, rfl, _⟩ := h
    rfl
  · obtain ⟨B, rfl, hB, k⟩ := h
    refine ⟨_, (pss_one (ps_ret (pe_call G_Lrows (hr.mono (by decide)) (by rfl) T.g_Lrows T.F_Lrows.kp T.a_Lrows .nil pass0 (pa_cons (pv 0) (pa_cons (pe_op op_add pe_int (pe_call G_Ldraw (hr.mono (by decide)) (by rfl) T.g_Ldraw T.F_Ldraw.kp T.a_Ldraw .nil pass0 (pa_cons (pv 0) (pa_cons pe_int pa_nil)))) (pa_cons pe_int pa_nil)))))), ?_⟩
    show tRet _ _ [some (.ref B.p)] H
    refine ⟨_, rfl, _, rfl, B, 3, rfl, hB, by decide, by decide, fun r H1 r0 r1 hB1 ex1 => ?_⟩
    obtain ⟨n, rfl⟩ := Int.eq_ofNat_of_zero_le r0
    refine ⟨_, _, rfl, rfl, B, 1 + n, 7, by simp, hB1, by omega, by decide, fun v rs H2 hB2 ex2 hv val hk hl ht => ?_⟩
    exact k v rs H2 hB2 (fun b o e n => ex2 _ _ (ex1 _ _ e n) n) hv val hk (by omega) (by omega) ht
/-- the rows' lengths -/
def spLlens (K : PySem.W.Frag) : Sp := spT K (fun rs : List Row => [.list (rs.map rowP)]) (fun rs => rs.length ≤ 6 ∧ ∀ r ∈ rs, r.k = true) fun rs => ptP (lensOf rs)
def lenD : PyData → PyData
  | .tuple [_, .list ds] => .int (ds.length : Nat)
  | _ => .none
theorem ok_Llengths (T : TopOk K mg A) : FnOk P w K mg base CX0 1 A.f_Llengths A.d_Llengths P_Llengths (spLlens K) := by
  refine T.F_Llengths.ok sc_Llengths (fun vs H Q E h => ?_) (fun cdv Ar outer s H vs Q E hr h => ?_)
  · obtain ⟨S, x, _, h, _⟩ := h
    obtain ⟨v, rfl, _⟩ := h.one
    rfl
  · obtain ⟨S, rs, hL, hds, ⟨h6, hk⟩, k⟩ := h
    obtain ⟨v, rfl, hv⟩ := hds.one
    refine ⟨_, (pss_one (ps_ret (pe_callTy call_tupleK (by rfl) T.b_tuple (by decide +kernel) (pa_cons (pe_lc (own := [("_law_row", 1)]) (g := gName 1) (te := tCB (rLenK K) (tCons (tOp (rIx K) (tVar 1) (tC (.int 1))) tNil)) (by rfl) sc_Llengths.nd (pi_any (pv 0)) (blkOk_by (own := [("_law_row", 1)]) (N := N_Llengths) (sc := defScope s_Llengths) (by decide +kernel)) (fun _ _ _ _ _ => (pg_name (i := 1) sc_Llengths.nd rfl (by first | exact Or.inl rfl | exact Or.inr rfl))) (fun _ _ _ _ _ => pts_nil) (fun _ _ _ _ _ => (pe_callB call_lenK (by rfl) T.b_len (by decide +kernel) (pa_cons (pe_ix ix_seq (pv 1) pe_int (fun _ _ => rfl)) pa_nil)))) pa_nil)))), ?_⟩
    show tRet _ _ [some v, none] H
    refine ret_sv hL (sv_is (d := .tuple ((rs.map rowP).map lenD)) (sv_tuple (k := true) (sv_lcM (K := K) (S := S) (si_l (sv_var rfl hv)) (by rw [List.length_map]; omega) lenD fun d S' H' v' Q m n hd kk => ?_)) ?_) k
    · obtain ⟨r, mr, rfl⟩ := List.mem_map.mp m
      have e : rowP r = .tuple [.str r.n, .list (r.s.map stpP)] := by unfold rowP; rw [hk r mr]; rfl
      rw [e] at hd kk
      exact kk [some v, some v'] rfl (sv_lenL (sv_ixA (ds := [.str r.n, .list (r.s.map stpP)]) (sv_var rfl hd) sv_int rfl))
    · show PyData.tuple (List.map lenD (List.map rowP rs)) = PyData.tuple (List.map (fun n : Nat => .int (n : Nat)) (List.map (fun r => r.s.length) rs))
      rw [List.map_map, List.map_map]
      refine congrArg PyData.tuple (List.map_congr_left fun r m => ?_)
      have e : rowP r = .tuple [.str r.n, .list (r.s.map stpP)] := by unfold rowP; rw [hk r m]; rfl
      show lenD (rowP r) = .int (r.s.length : Nat)
      rw [e]
      show PyData.int (((r.s.map stpP).length : Nat) : Int) = _
      rw [List.length_map]
end
end My
set_option Elab.async false
set_option linter.all false
set_option maxRecDepth 100000
namespace My
open PySem PySem.Spec PyProof.Rows L2 TL
/-! ### points -/
def longer (pts : List (List Nat)) (n : Nat) : List (List Nat) := pts.flatMap fun p => (List.range (n + 1)).map fun i => p ++ [i]
def allP (ns : List Nat) : List (List Nat) := ns.foldl longer [[]]
theorem longer_len (pts : List (List Nat)) (n : Nat) : (longer pts n).length = pts.length * (n + 1) := by
  unfold longer
  induction pts with
  | nil => simp
  | cons p ps ih =>
    rw [List.flatMap_cons, List.length_append, ih, List.length_map, List.length_range, List.length_cons, Nat.succ_mul]
    omega
theorem pow_ge (n : Nat) : n + 1 ≤ 2 ^ n := Nat.lt_two_pow_self
theorem longer_le (pts : List (List Nat)) (n : Nat) : (longer pts n).length ≤ pts.length * 2 ^ n := by
  rw [longer_len]
  exact Nat.mul_le_mul_left _ (pow_ge n)
def okP (p ns : List Nat) : Prop := p.length = ns.length ∧ ∀ i n, ns[i]? = some n → p.getD i 0 ≤ n
theorem okP_add {p ns : List Nat} {i n : Nat} (h : okP p ns) (hi : i ≤ n) : okP (p ++ [i]) (ns ++ [n]) := by
  refine ⟨by rw [List.length_append, List.length_append, h.1]; rfl, fun j m e => ?_⟩
  by_cases z : j < ns.length
  · rw [List.getElem?_append_left z] at e
    rw [List.getD_eq_getElem?_getD, List.getElem?_append_left (by rw [h.1]; exact z), ← List.getD_eq_getElem?_getD]
    exact h.2 j m e
  · rw [List.getElem?_append_right (by omega)] at e
    rw [List.getD_eq_getElem?_getD, List.getElem?_append_right (by rw [h.1]; omega), h.1]
    obtain ⟨e1, e2⟩ := List.getElem?_eq_some_iff.mp e
    have e1 : j - ns.length < 1 := e1
    have e3 : j - ns.length = 0 := by omega
    rw [e3] at e ⊢
    have : n = m := Option.some.inj e
    show i ≤ m
    omega
theorem longer_ok {pts : List (List Nat)} {ns : List Nat} {n : Nat} (h : ∀ p ∈ pts, okP p ns) : ∀ p ∈ longer pts n, okP p (ns ++ [n]) := fun p m => by
  obtain ⟨q, mq, m⟩ := List.mem_flatMap.mp m
  obtain ⟨i, mi, rfl⟩ := List.mem_map.mp m
  exact okP_add (h q mq) (by have := List.mem_range.mp mi; omega)
theorem fold_ok {ns : List Nat} : ∀ {pts : List (List Nat)} {pre : List Nat}, (∀ p ∈ pts, okP p pre) → ∀ p ∈ ns.foldl longer pts, okP p (pre ++ ns) := by
  induction ns with
  | nil => intro pts pre h p m; rw [List.append_nil]; exact h p m
  | cons n ns ih =>
    intro pts pre h p m
    have := ih (longer_ok (n := n) h) p m
    rw [List.append_assoc] at this
    exact this
theorem allP_ok {ns p : List Nat} (h : p ∈ allP ns) : okP p ns := by
  have := fold_ok (ns := ns) (pts := [[]]) (pre := []) (fun p m => by rw [List.mem_singleton.mp m]; exact ⟨rfl, fun i n e => by cases e⟩) p h
  exact this
theorem fold_len {ns : List Nat} : ∀ {pts : List (List Nat)}, (ns.foldl longer pts).length ≤ pts.length * 2 ^ ns.sum := by
  induction ns with
  | nil => intro pts; simp
  | cons n ns ih =>
    intro pts
    refine Nat.le_trans ih ?_
    rw [List.sum_cons, Nat.pow_add, ← Nat.mul_assoc]
    exact Nat.mul_le_mul_right _ (longer_le pts n)
theorem allP_len (ns : List Nat) : (allP ns).length ≤ 2 ^ ns.sum := by
  have := fold_len (ns := ns) (pts := [[]])
  rw [List.length_singleton, Nat.one_mul] at this
  exact this
theorem longer_take {pts : List (List Nat)} {n i : Nat} {p : List Nat} (h : pts[i]? = some p) : longer (pts.take (i + 1)) n = longer (pts.take i) n ++ (List.range (n + 1)).map fun j => p ++ [j] := by
  unfold longer
  rw [List.take_add_one, h, List.flatMap_append]
  show _ ++ (List.flatMap _ [p]) = _
  rw [List.flatMap_singleton]
theorem longer_mono (pts : List (List Nat)) (n i : Nat) : (longer (pts.take i) n).length ≤ (longer pts n).length := by
  rw [longer_len, longer_len, List.length_take]
  exact Nat.mul_le_mul_right _ (Nat.min_le_right _ _)
section
variable {P : Program} {w : World} {K : PySem.W.Frag} {mg : Str → Option Value} {base : Heap} {A : Top}
def spLlonger (K : PySem.W.Frag) : Sp := spT K (fun x : List (List Nat) × Nat => [.list (x.1.map ptP), .int (x.2 : Nat)]) (fun x => (longer x.1 x.2).length ≤ 2000 ∧ (∀ p ∈ x.1, p.length ≤ 20) ∧ x.2 ≤ 100) fun x => .list ((longer x.1 x.2).map ptP)
def addPt (p : List Nat) : PyData → PyData
  | .int i => .tuple ((p.map fun n => .int (n : Nat)) ++ [.int i])
  | _ => .none
theorem addPt_rng (p : List Nat) (n : Nat) : (rngD n).map (addPt p) = ((List.range n).map fun j => p ++ [j]).map ptP := by
  unfold rngD
  rw [List.map_map, List.map_map]
  refine List.map_congr_left fun i _ => ?_
  show PyData.tuple _ = PyData.tuple _
  rw [List.map_append]
  rfl
theorem ok_Llonger (T : TopOk K mg A) : FnOk P w K mg base CX0 1 A.f_Llonger A.d_Llonger P_Llonger (spLlonger K) := by
  refine T.F_Llonger.ok sc_Llonger (fun vs H Q E h => ?_) (fun cdv Ar outer s H vs Q E hr h => ?_)
  · obtain ⟨S, x, _, h, _⟩ := h
    obtain ⟨v, u, rfl, _⟩ := h.two
    rfl
  · obtain ⟨S, ⟨pts, n⟩, hL, hds, hp, k⟩ := h
    obtain ⟨v, u, rfl, hv, hu⟩ := hds.two
    obtain ⟨h2000, h20, h100⟩ : (longer pts n).length ≤ 2000 ∧ (∀ p ∈ pts, p.length ≤ 20) ∧ n ≤ 100 := hp
    have hv : Ds K S H v (.list (pts.map ptP)) := hv
    have hu : Ds K S H u (.int (n : Nat)) := hu
    have k : ∀ w H', Same H H' → Ds K S H' w (.list ((longer pts n).map ptP)) → Q w H' := k
    refine ⟨_, (pss_cons (ps_set (i := 2) sc_Llonger.nd rfl (by first | exact Or.inl rfl | exact Or.inr rfl) (pe_lst pa_nil))
      (pss_cons (ps_for PassesOwn.never rfl (pi_any (pv 0)) (pg_name (i := 3) sc_Llonger.nd rfl (by first | exact Or.inl rfl | exact Or.inr rfl))
      (pss_one (ps_set (i := 2) sc_Llonger.nd rfl (by first | exact Or.inl rfl | exact Or.inr rfl) (pe_op L2.op_cat (pv 2) (pe_lc (own := [("_law_place", 4)]) (g := gName 4) (te := tOp (rCatA K) (tVar 3) (tTup (tCons (tVar 4) tNil))) (by rfl) sc_Llonger.nd (pi_range1 (by rfl) T.b_range (pa_cons (pe_op op_add (pv 1) pe_int) pa_nil)) (blkOk_by (own := [("_law_place", 4)]) (N := N_Llonger) (sc := defScope s_Llonger) (by decide +kernel)) (fun _ _ _ _ _ => (pg_name (i := 4) sc_Llonger.nd rfl (by first | exact Or.inl rfl | exact Or.inr rfl))) (fun _ _ _ _ _ => pts_nil) (fun _ _ _ _ _ => (pe_op L2.op_catA (pv 3) (pe_tup (pa_cons (pv 4) pa_nil)))))))))
      (pss_one (ps_ret (pv 2))))), ?_⟩
    show tSeq _ _ _ [some v, some u, none, none, none] H
    refine set_sv (K := K) (S := S) hL (sv_lst sa_nil rfl) fun z H1 s1 l1 hz => ?_
    dsimp only [gName, List.set]
    show tSeq _ _ _ [some v, some u, some z, none, none] H1
    refine seq_for (K := K) (S := S) l1 (si_l (sv_var rfl (hv.same s1))) fun H2 s2 l2 => ⟨fun i σ H3 => (∃ z x3, σ = [some v, some u, some z, x3, none] ∧ Ds K S H3 z (.list ((longer (pts.take i) n).map ptP))) ∧ Same H2 H3, ⟨⟨_, _, rfl, hz.same s2⟩, Same.refl _⟩, fun i σ H3 _ ⟨_, s3⟩ => ⟨S, (Now.of l2 s3).step⟩, fun i d v' σ H3 H4 ed ⟨⟨z, x3, e, hz3⟩, s3⟩ s4 hd => ?_, fun σ H3 ⟨⟨z, x3, e, hz3⟩, s3⟩ => ?_⟩
    · subst e
      obtain ⟨p, ep, rfl⟩ := map_inv ed
      have hi := (List.getElem?_eq_some_iff.mp ep).1
      have l4 := (l2.same s3).same s4
      have hd4 : Ds K S H4 v' (.tuple (p.map fun n => .int (n : Nat))) := hd S (Now.of l2 s3).step
      have hm1 := longer_mono pts n (i + 1)
      rw [longer_take ep, List.length_append] at hm1
      have hp20 := h20 p (List.mem_of_getElem? ep)
      refine (sv_is (sv_cat (K := K) (S := S) (ds := (longer (pts.take i) n).map ptP) (sv_var (i := 2) rfl (hz3.same s4)) (sv_lcM (K := K) (S := S) (si_rng (n := n + 1) (sv_is (sv_I0 (sv_var rfl ((((hu.same s1).same s2).same s3).same s4)) sv_int fun _ _ => .int _) rfl) (by omega)) (by rw [rngD_len]; omega) (addPt p) fun d S' H' v2 Q' m n' hd' kk => ?_) ?_) ?_).run l4 fun z' H5 s5 hz5 => ⟨⟨z', _, rfl, hz5⟩, (s3.trans s4).trans s5⟩
      · obtain ⟨j, mj, rfl⟩ := List.mem_map.mp m
        exact kk [some v, some u, some z, some v', some v2] rfl (sv_catA (sv_var rfl (hd4.now n')) (sv_tup (sa_cons (sv_var rfl hd') sa_nil) rfl) (by rw [List.length_map]; show p.length + 1 ≤ 5000; omega))
      · rw [List.length_map, List.length_map, rngD_len]
        rw [List.length_map, List.length_range] at hm1
        omega
      · rw [addPt_rng, longer_take ep, List.map_append]
    · subst e
      rw [List.length_map, List.take_length] at hz3
      exact ret_sv (K := K) (S := S) (l2.same s3) (sv_var rfl hz3) fun w H4 s4 hw => k w H4 (((s1.trans s2).trans s3).trans s4) hw
end
end My
set_option Elab.async false
set_option linter.all false
set_option maxRecDepth 100000
namespace My
open PySem PySem.Spec PyProof.Rows L2 TL
def pairP (p : List Nat) : PyData := .tuple [.int (p.map fun n => ((n : Nat) : Int)).sum, ptP p]
def sndD : PyData → PyData
  | .tuple [_, d] => d
  | _ => .none
/-- the points in their order -/
def ptsD (ns : List Nat) : List PyData := (((allP ns).map pairP).mergeSort leD).map sndD
theorem ptsD_mem {ns : List Nat} {d : PyData} (h : d ∈ ptsD ns) : ∃ p ∈ allP ns, d = ptP p := by
  obtain ⟨e, m, rfl⟩ := List.mem_map.mp h
  obtain ⟨p, mp, rfl⟩ := List.mem_map.mp ((List.mergeSort_perm _ _).mem_iff.mp m)
  exact ⟨p, mp, rfl⟩
theorem ptsD_len (ns : List Nat) : (ptsD ns).length = (allP ns).length := by
  unfold ptsD
  rw [List.length_map, List.length_mergeSort, List.length_map]
theorem alike_ints : ∀ xs ys : List Nat, PySem.W.alikeAll (xs.map fun n => PyData.int (n : Nat)) (ys.map fun n => PyData.int (n : Nat)) = true
  | [], _ => by simp [PySem.W.alikeAll]
  | _ :: _, [] => by simp [PySem.W.alikeAll]
  | x :: xs, y :: ys => by
    rw [List.map_cons, List.map_cons, PySem.W.alikeAll, alike_ints xs ys]
    simp [PySem.W.alike]
theorem alike_pairs (p q : List Nat) : PySem.W.alike (pairP p) (pairP q) = true := by
  unfold pairP ptP
  simp [PySem.W.alike, PySem.W.alikeAll, alike_ints]
theorem ptP_depth (p : List Nat) : (ptP p).depth ≤ 2 := depth_seq (k := false) (n := 1) fun d m => by
  obtain ⟨n, _, rfl⟩ := List.mem_map.mp m
  simp [PyData.depth]
theorem take_sum : ∀ (l : List Nat) (i : Nat), (l.take i).sum ≤ l.sum
  | [], i => by simp
  | a :: l, 0 => by simp
  | a :: l, i + 1 => by
    have := take_sum l i
    rw [List.take_succ_cons, List.sum_cons, List.sum_cons]
    omega
theorem mem_sum {l : List Nat} {n : Nat} (h : n ∈ l) : n ≤ l.sum := by
  induction l with
  | nil => cases h
  | cons a l ih =>
    rw [List.sum_cons]
    rcases List.mem_cons.mp h with e | h
    · omega
    · have := ih h; omega
theorem pow_le {n m : Nat} (h : n ≤ m) : 2 ^ n ≤ 2 ^ m := Nat.pow_le_pow_right (by decide) h
section
variable {P : Program} {w : World} {K : PySem.W.Frag} {mg : Str → Option Value} {base : Heap} {A : Top}
def spLpoints (K : PySem.W.Frag) : Sp := spT K (fun ns : List Nat => [ptP ns]) (fun ns => ns.sum ≤ 7 ∧ ns.length ≤ 6) fun ns => .list (ptsD ns)
theorem ok_Lpoints (T : TopOk K mg A) : FnOk P w K mg base CX0 2 A.f_Lpoints A.d_Lpoints P_Lpoints (spLpoints K) := by
  have G_Llonger : FnOk P w K mg base CX0 1 A.f_Llonger A.d_Llonger P_Llonger (spLlonger K) := ok_Llonger T
  refine T.F_Lpoints.ok sc_Lpoints (fun vs H Q E h => ?_) (fun cdv Ar outer s H vs Q E hr h => ?_)
  · obtain ⟨S, x, _, h, _⟩ := h
    obtain ⟨v, rfl, _⟩ := h.one
    rfl
  · obtain ⟨S, ns, hL, hds, ⟨h7, h6⟩, k⟩ := h
    obtain ⟨v, rfl, hv⟩ := hds.one
    have hv : Ds K S H v (.tuple (ns.map fun n => .int (n : Nat))) := hv
    have k : ∀ w H', Same H H' → Ds K S H' w (.list (ptsD ns)) → Q w H' := k
    refine ⟨_, (pss_cons (ps_set (i := 1) sc_Lpoints.nd rfl (by first | exact Or.inl rfl | exact Or.inr rfl) (pe_lst (pa_cons (pe_tup pa_nil) pa_nil)))
      (pss_cons (ps_for PassesOwn.never rfl (pi_any (pv 0)) (pg_name (i := 2) sc_Lpoints.nd rfl (by first | exact Or.inl rfl | exact Or.inr rfl))
      (pss_one (ps_set (i := 1) sc_Lpoints.nd rfl (by first | exact Or.inl rfl | exact Or.inr rfl) (pe_call G_Llonger (hr.mono (by decide)) (by rfl) T.g_Llonger T.F_Llonger.kp T.a_Llonger .nil pass0 (pa_cons (pv 1) (pa_cons (pv 2) pa_nil))))))
      (pss_one (ps_ret (pe_lc (own := [("_law_pair", 3)]) (g := gName 3) (te := tOp (rIx K) (tVar 3) (tC (.int 1))) (by rfl) sc_Lpoints.nd (pi_any (pe_callB (cr_sortedD hr.units) (by rfl) T.b_sorted (by decide +kernel) (pa_cons (pe_lc (own := [("_law_point", 4)]) (g := gName 4) (te := tTup (tCons (tCB (rSumT K) (tCons (tVar 4) tNil)) (tCons (tVar 4) tNil))) (by rfl) sc_Lpoints.nd (pi_any (pv 1)) (blkOk_by (own := [("_law_point", 4)]) (N := N_Lpoints) (sc := defScope s_Lpoints) (by decide +kernel)) (fun _ _ _ _ _ => (pg_name (i := 4) sc_Lpoints.nd rfl (by first | exact Or.inl rfl | exact Or.inr rfl))) (fun _ _ _ _ _ => pts_nil) (fun _ _ _ _ _ => (pe_tup (pa_cons (pe_callB (cr_sumT rfl) (by rfl) T.b_sum (by decide +kernel) (pa_cons (pv 4) pa_nil)) (pa_cons (pv 4) pa_nil))))) pa_nil))) (blkOk_by (own := [("_law_pair", 3)]) (N := N_Lpoints) (sc := defScope s_Lpoints) (by decide +kernel)) (fun _ _ _ _ _ => (pg_name (i := 3) sc_Lpoints.nd rfl (by first | exact Or.inl rfl | exact Or.inr rfl))) (fun _ _ _ _ _ => pts_nil) (fun _ _ _ _ _ => (pe_ix ix_seq (pv 3) pe_int (fun _ _ => rfl)))))))), ?_⟩
    show tSeq _ _ _ [some v, none, none, none, none] H
    refine set_sv (K := K) (S := S) hL (sv_lst (sa_cons (sv_tup sa_nil rfl) sa_nil) rfl) fun z H1 s1 l1 hz => ?_
    have hz : Ds K S H1 z (.list (((ns.take 0).foldl longer [[]]).map ptP)) := hz
    have hfl : ∀ i, ((ns.take i).foldl longer [[]]).length ≤ 128 := fun i => by
      refine Nat.le_trans (allP_len (ns.take i)) (Nat.le_trans (pow_le (m := 7) ?_) (by decide))
      exact Nat.le_trans (take_sum ns i) h7
    dsimp only [gName, List.set]
    show tSeq _ _ _ [some v, some z, none, none, none] H1
    refine seq_for (K := K) (S := S) l1 (si_t (sv_var rfl (hv.same s1))) fun H2 s2 l2 => ⟨fun i σ H3 => (∃ z x2, σ = [some v, some z, x2, none, none] ∧ Ds K S H3 z (.list (((ns.take i).foldl longer [[]]).map ptP))) ∧ Same H2 H3, ⟨⟨_, _, rfl, hz.same s2⟩, Same.refl _⟩, fun i σ H3 _ ⟨_, s3⟩ => ⟨S, (Now.of l2 s3).step⟩, fun i d v' σ H3 H4 ed ⟨⟨z, x2, e, hz3⟩, s3⟩ s4 hd => ?_, fun σ H3 ⟨⟨z, x2, e, hz3⟩, s3⟩ => ?_⟩
    · subst e
      obtain ⟨n, en, rfl⟩ := map_inv ed
      have l4 := (l2.same s3).same s4
      have hd4 : Ds K S H4 v' (.int (n : Nat)) := hd S (Now.of l2 s3).step
      have e1 : (ns.take (i + 1)).foldl longer [[]] = longer ((ns.take i).foldl longer [[]]) n := by
        rw [List.take_add_one, en, List.foldl_append]
        rfl
      have hm := hfl (i + 1)
      rw [e1] at hm
      refine (sv_is (sv_T (K := K) (S := S) (f := fun x : List (List Nat) × Nat => PyData.list ((longer x.1 x.2).map ptP)) (enc := fun x : List (List Nat) × Nat => [.list (x.1.map ptP), .int (x.2 : Nat)]) ((ns.take i).foldl longer [[]], n) (sa_cons (sv_var rfl (hz3.same s4)) (sa_cons (sv_var rfl hd4) sa_nil)) rfl ⟨Nat.le_trans hm (by decide), fun p m => ?_, ?_⟩) ?_).run l4 fun z' H5 s5 hz5 => ⟨⟨z', _, rfl, hz5⟩, (s3.trans s4).trans s5⟩
      · rw [e1]
      · have := (allP_ok (ns := ns.take i) m).1
        rw [List.length_take] at this
        omega
      · have := mem_sum (List.mem_of_getElem? en)
        show n ≤ 100
        omega
    · subst e
      rw [List.length_map, List.take_length] at hz3
      have l3 := l2.same s3
      have hal : (allP ns).length ≤ 128 := by have := hfl ns.length; rw [List.take_length] at this; exact this
      refine ret_sv (K := K) (S := S) l3 (sv_lcM (K := K) (S := S) (si_l (sv_sorted (K := K) (S := S) (ds := (allP ns).map pairP) (sv_is (sv_lcM (K := K) (S := S) (ds := (allP ns).map ptP) (si_l (sv_var rfl hz3)) (by rw [List.length_map]; omega) (fun d => .tuple [.int (plOf d |>.map fun n => ((n : Nat) : Int)).sum, d]) fun d S' H' v2 Q' m n' hd kk => ?_) ?_) (PySem.W.AllAlike.of alike_pairs) (PySem.W.Sortable.tuples fun p => ⟨_, _, rfl⟩) fun d m => ?_)) ?_ sndD fun d S' H' v2 Q' m n' hd kk => ?_) fun w H4 s4 hw => k w H4 (((s1.trans s2).trans s3).trans s4) hw
      · obtain ⟨p, mp, rfl⟩ := List.mem_map.mp m
        refine kk [some v, some z, x2, none, some v2] rfl ?_
        have e : plOf (ptP p) = p := by
          show (p.map fun n => PyData.int (n : Nat)).map natD = p
          rw [List.map_map]
          exact List.map_id' p |> fun h => by rw [show (natD ∘ fun n : Nat => PyData.int (n : Nat)) = fun n => n from funext fun n => Int.toNat_natCast n]; exact h
        rw [e]
        have hd' : Ds K S' H' v2 (.tuple ((p.map fun n => ((n : Nat) : Int)).map PyData.int)) := by rw [List.map_map]; exact hd
        exact sv_tup (sa_cons (sv_sumT (sv_var rfl hd')) (sa_cons (sv_var rfl hd) sa_nil)) rfl
      · rw [List.map_map]
        refine congrArg PyData.list (List.map_congr_left fun p _ => ?_)
        show PyData.tuple [.int ((plOf (ptP p)).map fun n => ((n : Nat) : Int)).sum, ptP p] = pairP p
        have e : plOf (ptP p) = p := by
          show (p.map fun n => PyData.int (n : Nat)).map natD = p
          rw [List.map_map]
          exact List.map_id' p |> fun h => by rw [show (natD ∘ fun n : Nat => PyData.int (n : Nat)) = fun n => n from funext fun n => Int.toNat_natCast n]; exact h
        rw [e]
        rfl
      · obtain ⟨p, mp, rfl⟩ := List.mem_map.mp m
        refine Nat.le_trans (depth_seq (k := false) (n := 3) fun d m => ?_) (by decide)
        rcases List.mem_cons.mp m with rfl | m
        · simp [PyData.depth]
        · rw [List.mem_singleton.mp m]; exact Nat.le_succ_of_le (ptP_depth p)
      · rw [List.length_mergeSort, List.length_map]; omega
      · obtain ⟨p, mp, rfl⟩ := List.mem_map.mp ((List.mergeSort_perm _ _).mem_iff.mp m)
        exact kk [some v, some z, x2, some v2, none] rfl (sv_ixA (ds := [.int (p.map fun n => ((n : Nat) : Int)).sum, ptP p]) (sv_var rfl hd) sv_int rfl)
end
end My
set_option Elab.async false
set_option linter.all false
set_option maxRecDepth 100000
namespace My
open PySem PySem.Spec PyProof.Rows L2 TL
/-! ### what is made up to a point -/
def rowW (r : Row) (n : Nat) (b : Bool) : List Str := (((r.s.take n).filterMap (·.d)).filter fun d => decide (d.1 = b)).map (·.2)
def wAt (rs : List Row) (pl : List Nat) (b : Bool) (i : Nat) : List Str := match rs[i]? with
  | some r => rowW r (pl.getD i 0) b
  | none => []
def cutWords (rs : List Row) (pl : List Nat) (b : Bool) : List Str := (List.range rs.length).flatMap (wAt rs pl b)
def tstD (b : Bool) : PyData → Bool
  | .tuple [_, _, .tuple [.str k, _]] => decide (k = kindS b)
  | _ => false
def elD : PyData → PyData
  | .tuple [_, _, .tuple [_, x]] => x
  | _ => .none
theorem rowW_is (b : Bool) : ∀ l : List Stp, ((l.map stpP).filter (tstD b)).map elD = (((l.filterMap (·.d)).filter fun d => decide (d.1 = b)).map (·.2)).map PyData.str
  | [] => rfl
  | s :: l => by
    have ih := rowW_is b l
    cases e : s.d with
    | none =>
      rw [List.map_cons, List.filter_cons_of_neg (by unfold stpP; rw [e]; exact Bool.false_ne_true), List.filterMap_cons_none e, ih]
    | some d =>
      have e2 : stpP s = .tuple [.str s.m, .int s.n, .tuple [.str (kindS d.1), .str d.2]] := by unfold stpP; rw [e]; rfl
      have et : tstD b (stpP s) = decide (d.1 = b) := by
        rw [e2]
        show decide (kindS d.1 = kindS b) = decide (d.1 = b)
        rw [Bool.eq_iff_iff, decide_eq_true_iff, decide_eq_true_iff]
        exact ⟨kind_inj, fun e => by rw [e]⟩
      rw [List.map_cons, List.filterMap_cons_some e]
      by_cases hd : d.1 = b
      · rw [List.filter_cons_of_pos (by rw [et]; exact decide_eq_true hd), List.filter_cons_of_pos (by exact decide_eq_true hd), List.map_cons, List.map_cons, List.map_cons, ih, e2]
        rfl
      · rw [List.filter_cons_of_neg (by rw [et]; exact fun z => hd (of_decide_eq_true z)), List.filter_cons_of_neg (by exact fun z => hd (of_decide_eq_true z)), ih]
theorem cut_take (rs : List Row) (pl : List Nat) (b : Bool) (i : Nat) : (List.range (i + 1)).flatMap (wAt rs pl b) = (List.range i).flatMap (wAt rs pl b) ++ wAt rs pl b i := by
  rw [List.range_succ, List.flatMap_append]
  show _ ++ (List.flatMap _ [i]) = _
  rw [List.flatMap_singleton]
theorem wAt_len {rs : List Row} {pl : List Nat} {b : Bool} (h : ∀ r ∈ rs, r.s.length ≤ 20) (i : Nat) : (wAt rs pl b i).length ≤ 20 := by
  unfold wAt
  cases e : rs[i]? with
  | none => exact Nat.zero_le _
  | some r =>
    show (rowW r (pl.getD i 0) b).length ≤ 20
    unfold rowW
    rw [List.length_map]
    refine Nat.le_trans (List.length_filter_le _ _) (Nat.le_trans (List.length_filterMap_le _ _) ?_)
    rw [List.length_take]
    exact Nat.le_trans (Nat.min_le_right _ _) (h r (List.mem_of_getElem? e))
theorem cut_len {rs : List Row} {pl : List Nat} {b : Bool} (h : ∀ r ∈ rs, r.s.length ≤ 20) : ∀ i, ((List.range i).flatMap (wAt rs pl b)).length ≤ 20 * i
  | 0 => by simp
  | i + 1 => by
    have := cut_len (pl := pl) (b := b) h i
    have h2 := wAt_len (pl := pl) (b := b) h i
    rw [cut_take, List.length_append]
    omega
section
variable {P : Program} {w : World} {K : PySem.W.Frag} {mg : Str → Option Value} {base : Heap} {A : Top}
abbrev tDeed (K : PySem.W.Frag) : TT := tAnd (tTest (tOp (fun x y H Q => y = .non ∧ Q (.bl (!decide (x = .non))) H) (tOp (rIx K) (tVar 5) (tC (.int 2))) (tC .non))) (tTest (tOp rEq (tOp (rIx K) (tOp (rIx K) (tVar 5) (tC (.int 2))) (tC (.int 0))) (tVar 2)))
theorem sb_deed {S : Sh} {σ : L2.St} {H : Hp} {s : Stp} {v u : V} {b : Bool} (h5 : σ[5]? = some (some v)) (h2 : σ[2]? = some (some u)) (hv : Ds K S H v (stpP s)) (hu : Ds K S H u (.str (kindS b))) : SB S (tDeed K) σ H (tstD b (stpP s)) := by
  have h3 : SV K S (tOp (rIx K) (tVar 5) (tC (.int 2))) σ H (deedP s.d) := sv_ixA (ds := [.str s.m, .int s.n, deedP s.d]) (sv_var h5 hv) sv_int rfl
  cases hx : s.d with
  | none =>
    rw [hx] at h3
    exact sb_is (sb_and (c := true) (sb_test (sv_notN h3)) fun z => Bool.noConfusion z) (by unfold stpP; rw [hx]; rfl)
  | some d =>
    rw [hx] at h3
    refine sb_is (sb_and (sb_test (sv_notN h3)) fun _ => sb_test (sv_eqS (sv_ixA (ds := [.str (kindS d.1), .str d.2]) h3 sv_int (d := .str (kindS d.1)) rfl) (sv_var h2 hu))) ?_
    unfold stpP
    rw [hx]
    rfl
def spLdeeds (K : PySem.W.Frag) : Sp := spT K (fun x : (List Row × List Nat) × Bool => [.list (x.1.1.map rowP), ptP x.1.2, .str (kindS x.2)]) (fun x => x.1.1.length ≤ 6 ∧ (∀ r ∈ x.1.1, r.k = true ∧ r.s.length ≤ 20) ∧ x.1.2.length = x.1.1.length) fun x => .list ((cutWords x.1.1 x.1.2 x.2).map PyData.str)
theorem ok_Ldeeds (T : TopOk K mg A) : FnOk P w K mg base CX0 1 A.f_Ldeeds A.d_Ldeeds P_Ldeeds (spLdeeds K) := by
  refine T.F_Ldeeds.ok sc_Ldeeds (fun vs H Q E h => ?_) (fun cdv Ar outer s H vs Q E hr h => ?_)
  · obtain ⟨S, x, _, h, _⟩ := h
    obtain ⟨v, u, z, rfl, _⟩ := h.three
    rfl
  · obtain ⟨S, ⟨⟨rs, pl⟩, b⟩, hL, hds, hp, k⟩ := h
    obtain ⟨v, u, z, rfl, hv, hu, hz⟩ := hds.three
    obtain ⟨h6, hk, hpl⟩ : rs.length ≤ 6 ∧ (∀ r ∈ rs, r.k = true ∧ r.s.length ≤ 20) ∧ pl.length = rs.length := hp
    have hv : Ds K S H v (.list (rs.map rowP)) := hv
    have hu : Ds K S H u (.tuple (pl.map fun n => .int (n : Nat))) := hu
    have hz : Ds K S H z (.str (kindS b)) := hz
    have k : ∀ w H', Same H H' → Ds K S H' w (.list ((cutWords rs pl b).map PyData.str)) → Q w H' := k
    refine ⟨_, (pss_cons (ps_set (i := 3) sc_Ldeeds.nd rfl (by first | exact Or.inl rfl | exact Or.inr rfl) (pe_lst pa_nil))
      (pss_cons (ps_for PassesOwn.never rfl (pi_range1 (by rfl) T.b_range (pa_cons (pe_callB call_len (by rfl) T.b_len (by decide +kernel) (pa_cons (pv 0) pa_nil)) pa_nil)) (pg_name (i := 4) sc_Ldeeds.nd rfl (by first | exact Or.inl rfl | exact Or.inr rfl))
      (pss_one (ps_set (i := 3) sc_Ldeeds.nd rfl (by first | exact Or.inl rfl | exact Or.inr rfl) (pe_op L2.op_cat (pv 3) (pe_lc (own := [("_law_step_here", 5)]) (g := gName 5) (te := tOp (rIx K) (tOp (rIx K) (tVar 5) (tC (.int 2))) (tC (.int 1))) (tt := (tDeed K)) (by rfl) sc_Ldeeds.nd (pi_any (pe_slice sl_list (pe_ix ix_seq (pe_ix ix_seq (pv 0) (pv 4) (fun _ _ => rfl)) pe_int (fun _ _ => rfl)) po_none (po_some (pe_ix ix_seq (pv 1) (pv 4) (fun _ _ => rfl))))) (blkOk_by (own := [("_law_step_here", 5)]) (N := N_Ldeeds) (sc := defScope s_Ldeeds) (by decide +kernel)) (fun _ _ _ _ _ => (pg_name (i := 5) sc_Ldeeds.nd rfl (by first | exact Or.inl rfl | exact Or.inr rfl))) (fun _ _ _ _ _ => (pts_one (PW.pt (pw_and (pt_cmpR op_notN (pe_ix ix_seq (pv 5) pe_int (fun _ _ => rfl)) pe_non (nomark _)) (pw_and1 (pt_cmpR op_eq (pe_ix ix_seq (pe_ix ix_seq (pv 5) pe_int (fun _ _ => rfl)) pe_int (fun _ _ => rfl)) (pv 2) (nomark _))))))) (fun _ _ _ _ _ => (pe_ix ix_seq (pe_ix ix_seq (pv 5) pe_int (fun _ _ => rfl)) pe_int (fun _ _ => rfl))))))))
      (pss_one (ps_ret (pv 3))))), ?_⟩
    show tSeq _ _ _ [some v, some u, some z, none, none, none] H
    refine set_sv (K := K) (S := S) hL (sv_lst sa_nil rfl) fun y H1 s1 l1 hy => ?_
    dsimp only [gName, List.set]
    show tSeq _ _ _ [some v, some u, some z, some y, none, none] H1
    refine seq_for (K := K) (S := S) l1 (si_rng (n := rs.length) (sv_is (sv_lenL (sv_var rfl (hv.same s1))) (by rw [List.length_map])) (by omega)) fun H2 s2 l2 => ⟨fun i σ H3 => (∃ y x4, σ = [some v, some u, some z, some y, x4, none] ∧ Ds K S H3 y (.list (((List.range i).flatMap (wAt rs pl b)).map PyData.str))) ∧ Same H2 H3, ⟨⟨_, _, rfl, hy.same s2⟩, Same.refl _⟩, fun i σ H3 _ ⟨_, s3⟩ => ⟨S, (Now.of l2 s3).step⟩, fun i d v' σ H3 H4 ed ⟨⟨y, x4, e, hy3⟩, s3⟩ s4 hd => ?_, fun σ H3 ⟨⟨y, x4, e, hy3⟩, s3⟩ => ?_⟩
    · subst e
      obtain ⟨j, ej, rfl⟩ := map_inv ed
      have hi : i < rs.length := by have := (List.getElem?_eq_some_iff.mp ej).1; rwa [List.length_range] at this
      rw [List.getElem?_range hi] at ej
      cases ej
      have l4 := (l2.same s3).same s4
      have sH := ((s1.trans s2).trans s3).trans s4
      have hd4 : Ds K S H4 v' (.int (i : Nat)) := hd S (Now.of l2 s3).step
      have er : rs[i]? = some rs[i] := List.getElem?_eq_getElem hi
      have mr : rs[i] ∈ rs := List.getElem_mem hi
      generalize rs[i] = r at er mr
      obtain ⟨hkr, h20⟩ := hk r mr
      have ep : pl[i]? = some (pl.getD i 0) := by rw [List.getD_eq_getElem?_getD, List.getElem?_eq_getElem (by omega)]; rfl
      have erow : rowP r = .tuple [.str r.n, .list (r.s.map stpP)] := by unfold rowP; rw [hkr]; rfl
      have ew : wAt rs pl b i = rowW r (pl.getD i 0) b := by unfold wAt; rw [er]
      refine (sv_is (sv_cat (K := K) (S := S) (ds := ((List.range i).flatMap (wAt rs pl b)).map PyData.str) (es := (rowW r (pl.getD i 0) b).map PyData.str) (sv_var (i := 3) rfl (hy3.same s4)) (sv_is (sv_lcF (K := K) (S := S) (ds := (r.s.take (pl.getD i 0)).map stpP) (si_l (sv_is (sv_slL (ds := r.s.map stpP) (hi := some ((pl.getD i 0 : Nat) : Int)) (sv_ixA (ds := [.str r.n, .list (r.s.map stpP)]) (sv_is (sv_ixL (ds := rs.map rowP) (sv_var (i := 0) rfl (hv.same sH)) (sv_var (i := 4) rfl hd4) (atI_of (by rw [List.getElem?_map, er]; rfl))) erow) sv_int rfl) sp_no (sp_some (sv_ixA (ds := pl.map fun n => .int (n : Nat)) (sv_var (i := 1) rfl (hu.same sH)) (sv_var (i := 4) rfl hd4) (atI_of (by rw [List.getElem?_map, ep]; rfl))))) (by rw [cutD_to, List.map_take]))) ?_ (tstD b) elD fun d S' H' v2 Q' m n' hd' kk => ?_) ?_) ?_) ?_).run l4 fun y' H5 s5 hy5 => ⟨⟨y', _, rfl, hy5⟩, (s3.trans s4).trans s5⟩
      · rw [List.length_map, List.length_take]; have := Nat.min_le_right (pl.getD i 0) r.s.length; omega
      · obtain ⟨s, ms, rfl⟩ := List.mem_map.mp m
        refine kk [some v, some u, some z, some y, some v', some v2] rfl (sb_deed rfl rfl hd' (((hz.same sH)).now n')) fun e => ?_
        cases hx : s.d with
        | none => unfold stpP at e; rw [hx] at e; cases e
        | some d =>
          have e2 : stpP s = .tuple [.str s.m, .int s.n, .tuple [.str (kindS d.1), .str d.2]] := by unfold stpP; rw [hx]; rfl
          rw [e2] at hd' ⊢
          exact sv_ixA (ds := [.str (kindS d.1), .str d.2]) (sv_ixA (ds := [.str s.m, .int s.n, .tuple [.str (kindS d.1), .str d.2]]) (sv_var rfl hd') sv_int rfl) sv_int rfl
      · rw [rowW_is]; rfl
      · have := cut_len (pl := pl) (b := b) (fun r m => (hk r m).2) i
        have h2 := wAt_len (pl := pl) (b := b) (fun r m => (hk r m).2) i
        rw [ew] at h2
        rw [List.length_map, List.length_map]
        omega
      · rw [cut_take, ew, List.map_append]
    · subst e
      rw [rngD_len] at hy3
      exact ret_sv (K := K) (S := S) (l2.same s3) (sv_var rfl hy3) fun w H4 s4 hw => k w H4 (((s1.trans s2).trans s3).trans s4) hw
end
end My
set_option Elab.async false
set_option linter.all false
set_option maxRecDepth 100000
namespace My
open PySem PySem.Spec PyProof.Rows L2 TL
theorem mem_rowW {r : Row} {n : Nat} {b : Bool} {w : Str} : w ∈ rowW r n b ↔ ∃ (i : Nat) (s : Stp), i < n ∧ r.s[i]? = some s ∧ s.d = some (b, w) := by
  unfold rowW
  rw [List.mem_map]
  constructor
  · rintro ⟨d, m, rfl⟩
    obtain ⟨m1, m2⟩ := List.mem_filter.mp m
    obtain ⟨s, ms, e⟩ := List.mem_filterMap.mp m1
    obtain ⟨i, hi⟩ := List.getElem?_of_mem ms
    have hi' := (List.getElem?_eq_some_iff.mp hi).1
    rw [List.length_take] at hi'
    rw [List.getElem?_take_of_lt (by omega)] at hi
    refine ⟨i, s, by omega, hi, ?_⟩
    rw [e]
    have : d.1 = b := of_decide_eq_true m2
    rw [← this]
  · rintro ⟨i, s, hi, e, ed⟩
    refine ⟨(b, w), List.mem_filter.mpr ⟨List.mem_filterMap.mpr ⟨s, ?_, ed⟩, decide_eq_true rfl⟩, rfl⟩
    exact List.mem_of_getElem? (i := i) (by rw [List.getElem?_take_of_lt hi]; exact e)
theorem mem_flat {rs : List Row} {p : Pair} {d : Option (Bool × Str)} : (p, d) ∈ flat rs ↔ ∃ (k : Nat) (r : Row) (s : Stp), rs[k]? = some r ∧ r.s[p.2]? = some s ∧ p.1 = r.n ∧ s.d = d := by
  unfold flat
  rw [List.mem_flatMap]
  constructor
  · rintro ⟨r, m, h⟩
    obtain ⟨q, mq, e⟩ := List.mem_map.mp h
    obtain ⟨k, hk⟩ := List.getElem?_of_mem m
    obtain ⟨s, i⟩ := q
    have hi := List.mem_zipIdx_iff_getElem?.mp mq
    cases e
    exact ⟨k, r, s, hk, hi, rfl, rfl⟩
  · rintro ⟨k, r, s, hk, hi, e1, e2⟩
    refine ⟨r, List.mem_of_getElem? hk, List.mem_map.mpr ⟨(s, p.2), List.mem_zipIdx_iff_getElem?.mpr hi, ?_⟩⟩
    rw [e2, ← e1]
theorem placeAt_is {rs : List Row} {pl : List Nat} {k : Nat} {r : Row} (nd : (namesS rs).Nodup) (hl : pl.length = rs.length) (h : rs[k]? = some r) : placeAt rs pl r.n = pl.getD k 0 := by
  unfold placeAt
  have hk : (namesS rs)[k]? = some r.n := by unfold namesS; rw [List.getElem?_map, h]; rfl
  replace hl : (namesS rs).length = pl.length := by unfold namesS; rw [List.length_map, hl]
  clear h
  generalize namesS rs = xs at nd hk hl
  generalize r.n = x at hk
  induction xs generalizing pl k with
  | nil => cases hk
  | cons y ys ih =>
    cases pl with
    | nil => cases hl
    | cons n pl =>
      rw [List.zip_cons_cons]
      cases k with
      | zero =>
        have : y = x := Option.some.inj hk
        rw [List.find?_cons_of_pos (by simpa using this)]
        rfl
      | succ k =>
        have hk : ys[k]? = some x := hk
        have hne : ¬ y = x := fun z => (List.nodup_cons.mp nd).1 (by rw [z]; exact List.mem_of_getElem? hk)
        rw [List.find?_cons_of_neg (by simpa using hne)]
        exact ih (List.nodup_cons.mp nd).2 (by simpa using hl) hk
theorem mem_cut {rs : List Row} {pl : List Nat} {b : Bool} {w : Str} (nd : (namesS rs).Nodup) (hl : pl.length = rs.length) : w ∈ cutWords rs pl b ↔ ∃ p, (p, some (b, w)) ∈ flat rs ∧ hasN rs pl p = true := by
  unfold cutWords
  rw [List.mem_flatMap]
  constructor
  · rintro ⟨k, mk, h⟩
    unfold wAt at h
    cases e : rs[k]? with
    | none => rw [e] at h; cases h
    | some r =>
      rw [e] at h
      obtain ⟨i, s, hi, es, ed⟩ := mem_rowW.mp h
      refine ⟨(r.n, i), mem_flat.mpr ⟨k, r, s, e, es, rfl, ed⟩, ?_⟩
      unfold hasN
      show decide (i < placeAt rs pl r.n) = true
      rw [placeAt_is nd hl e]
      exact decide_eq_true hi
  · rintro ⟨p, h, hh⟩
    obtain ⟨k, r, s, hk, es, e1, e2⟩ := mem_flat.mp h
    refine ⟨k, List.mem_range.mpr (List.getElem?_eq_some_iff.mp hk).1, ?_⟩
    unfold wAt
    rw [hk]
    unfold hasN at hh
    rw [e1, placeAt_is nd hl hk] at hh
    exact mem_rowW.mpr ⟨p.2, s, of_decide_eq_true hh, es, e2⟩
theorem mem_recvs {rs : List Row} {w : Str} {p : Pair} : (w, p) ∈ recvs rs ↔ (p, some (false, w)) ∈ flat rs := by
  unfold recvs
  rw [List.mem_map]
  constructor
  · rintro ⟨x, m, e⟩
    obtain ⟨m1, m2⟩ := List.mem_filter.mp m
    have h := isK_some m2
    cases e
    rw [← h]
    exact m1
  · intro m
    exact ⟨(p, some (false, w)), List.mem_filter.mpr ⟨m, by show decide (false = false) = true; rfl⟩, rfl⟩
theorem mem_sends {rs : List Row} {w : Str} {p : Pair} : (w, p) ∈ sends rs ↔ (p, some (true, w)) ∈ flat rs := by
  unfold sends
  rw [List.mem_map]
  constructor
  · rintro ⟨x, m, e⟩
    obtain ⟨m1, m2⟩ := List.mem_filter.mp m
    have h := isK_some m2
    cases e
    rw [← h]
    exact m1
  · intro m
    exact ⟨(p, some (true, w)), List.mem_filter.mpr ⟨m, by show decide (true = true) = true; rfl⟩, rfl⟩
theorem nd_inj {α β : Type} {l : List (α × β)} (h : (l.map (·.1)).Nodup) {x : α} {y z : β} (h1 : (x, y) ∈ l) (h2 : (x, z) ∈ l) : y = z := by
  induction l with
  | nil => cases h1
  | cons p l ih =>
    obtain ⟨n1, n2⟩ := List.nodup_cons.mp h
    rcases List.mem_cons.mp h1 with e1 | h1 <;> rcases List.mem_cons.mp h2 with e2 | h2
    · rw [← e1] at e2; exact (congrArg Prod.snd e2).symm
    · exact absurd (List.mem_map.mpr ⟨_, h2, by rw [← e1]⟩) n1
    · exact absurd (List.mem_map.mpr ⟨_, h1, by rw [← e2]⟩) n1
    · exact ih n2 h1 h2
theorem flat_deed {rs : List Row} {p : Pair} {d : Bool × Str} (h : (p, some d) ∈ flat rs) : d ∈ deeds rs := by
  rw [← flat_deeds]
  exact List.mem_filterMap.mpr ⟨_, h, rfl⟩
def canB (rs : List Row) (pl : List Nat) : Bool := (cutWords rs pl false).all fun w => decide (w ∈ cutWords rs pl true)
/-- the law's moments are the program's -/
theorem mom_can {rs : List Row} {pl : List Nat} (h : Valid rs) (hl : pl.length = rs.length) : ((recvs rs).filter (lost rs pl)).isEmpty = canB rs pl := by
  rw [Bool.eq_iff_iff, List.isEmpty_iff, List.filter_eq_nil_iff]
  unfold canB
  rw [List.all_eq_true]
  constructor
  · intro hn w m
    obtain ⟨p, mp, hp⟩ := (mem_cut h.nd hl).mp m
    have h1 := hn (w, p) (mem_recvs.mpr mp)
    unfold lost at h1
    rw [hp, Bool.true_and] at h1
    have h2 : hasN rs pl (senderOf rs w) = true := by simpa using h1
    exact decide_eq_true ((mem_cut h.nd hl).mpr ⟨_, mem_sends.mp (sender_mem (h.sent _ (flat_deed mp))), h2⟩)
  · rintro hn ⟨w, p⟩ m hx
    have mp := mem_recvs.mp m
    unfold lost at hx
    obtain ⟨h1, h2⟩ := Bool.and_eq_true_iff.mp hx
    obtain ⟨q, mq, hq⟩ := (mem_cut h.nd hl).mp (of_decide_eq_true (hn w ((mem_cut h.nd hl).mpr ⟨p, mp, h1⟩)))
    have e := nd_inj (sends_nd h.once) (mem_sends.mpr mq) (sender_mem (h.sent _ (flat_deed mp)))
    rw [← e, hq] at h2
    cases h2
section
variable {P : Program} {w : World} {K : PySem.W.Frag} {mg : Str → Option Value} {base : Heap} {A : Top}
theorem cut_fine {rs : List Row} {pl : List Nat} {b : Bool} (h : Valid rs) (hl : pl.length = rs.length) : ∀ w ∈ cutWords rs pl b, fine (.str w) = true := fun w m => by
  obtain ⟨p, mp, _⟩ := (mem_cut h.nd hl).mp m
  exact name_fine (h.small.word _ (flat_deed mp)) (by decide)
theorem cut_120 {rs : List Row} {pl : List Nat} {b : Bool} (h : Valid rs) : (cutWords rs pl b).length ≤ 120 := by
  have := cut_len (rs := rs) (pl := pl) (b := b) h.len rs.length
  have h6 := h.few
  unfold cutWords
  omega
theorem any_strs (ws : List Str) (w : Str) : ((ws.map PyData.str).any fun z => PyData.eqv z (.str w)) = decide (w ∈ ws) := by
  induction ws with
  | nil => rfl
  | cons x ws ih =>
    rw [List.map_cons, List.any_cons, ih, Bool.eq_iff_iff, Bool.or_eq_true, decide_eq_true_iff, decide_eq_true_iff, List.mem_cons]
    have : PyData.eqv (.str x) (.str w) = true ↔ w = x := by
      simp [PyData.eqv]
      exact ⟨fun e => e.symm, fun e => e.symm⟩
    rw [this]
def okRows (x : List Row × List Nat) : Prop := Valid x.1 ∧ (∀ r ∈ x.1, r.k = true) ∧ x.2.length = x.1.length
def spLcan (K : PySem.W.Frag) : Sp := spT K (fun x : List Row × List Nat => [.list (x.1.map rowP), ptP x.2]) okRows fun x => .bool (canB x.1 x.2)
theorem ok_Lcan_be (T : TopOk K mg A) : FnOk P w K mg base CX0 2 A.f_Lcan_be A.d_Lcan_be P_Lcan_be (spLcan K) := by
  have G_Ldeeds : FnOk P w K mg base CX0 1 A.f_Ldeeds A.d_Ldeeds P_Ldeeds (spLdeeds K) := ok_Ldeeds T
  refine T.F_Lcan_be.ok sc_Lcan_be (fun vs H Q E h => ?_) (fun cdv Ar outer s H vs Q E hr h => ?_)
  · obtain ⟨S, x, _, h, _⟩ := h
    obtain ⟨v, u, rfl, _⟩ := h.two
    rfl
  · obtain ⟨S, ⟨rs, pl⟩, hL, hds, ⟨val, hk, hl⟩, k⟩ := h
    obtain ⟨v, u, rfl, hv, hu⟩ := hds.two
    have val : Valid rs := val
    have hk : ∀ r ∈ rs, r.k = true := hk
    have hl : pl.length = rs.length := hl
    have hv : Ds K S H v (.list (rs.map rowP)) := hv
    have hu : Ds K S H u (ptP pl) := hu
    have k : ∀ w H', Same H H' → Ds K S H' w (.bool (canB rs pl)) → Q w H' := k
    have pre : rs.length ≤ 6 ∧ (∀ r ∈ rs, r.k = true ∧ r.s.length ≤ 20) ∧ pl.length = rs.length := ⟨val.few, fun r m => ⟨hk r m, val.len r m⟩, hl⟩
    refine ⟨_, (pss_cons (ps_set (i := 2) sc_Lcan_be.nd rfl (by first | exact Or.inl rfl | exact Or.inr rfl) (pe_call G_Ldeeds (hr.mono (by decide)) (by rfl) T.g_Ldeeds T.F_Ldeeds.kp T.a_Ldeeds .nil pass0 (pa_cons (pv 0) (pa_cons (pv 1) (pa_cons pe_str pa_nil)))))
      (pss_one (ps_ret (pe_callB (cr_all rfl) (by rfl) T.b_all (by decide +kernel) (pa_cons (pe_lc (own := [("_law_message", 3)]) (g := gName 3) (te := tOp (rInD K) (tVar 3) (tVar 2)) (by rfl) sc_Lcan_be.nd (pi_any (pe_call G_Ldeeds (hr.mono (by decide)) (by rfl) T.g_Ldeeds T.F_Ldeeds.kp T.a_Ldeeds .nil pass0 (pa_cons (pv 0) (pa_cons (pv 1) (pa_cons pe_str pa_nil))))) (blkOk_by (own := [("_law_message", 3)]) (N := N_Lcan_be) (sc := defScope s_Lcan_be) (by decide +kernel)) (fun _ _ _ _ _ => (pg_name (i := 3) sc_Lcan_be.nd rfl (by first | exact Or.inl rfl | exact Or.inr rfl))) (fun _ _ _ _ _ => pts_nil) (fun _ _ _ _ _ => (pe_cmpR (L2.op_inD (hu65 hr)) (pv 3) (pv 2) (by rfl)))) pa_nil))))), ?_⟩
    show tSeq _ _ _ [some v, some u, none, none] H
    refine set_sv (K := K) (S := S) hL (sv_T (f := fun x : (List Row × List Nat) × Bool => PyData.list ((cutWords x.1.1 x.1.2 x.2).map PyData.str)) (enc := fun x : (List Row × List Nat) × Bool => [.list (x.1.1.map rowP), ptP x.1.2, .str (kindS x.2)]) ((rs, pl), true) (sa_cons (sv_var rfl hv) (sa_cons (sv_var rfl hu) (sa_cons sv_str sa_nil))) rfl pre) fun z H1 s1 l1 hz => ?_
    have hz : Ds K S H1 z (.list ((cutWords rs pl true).map PyData.str)) := hz
    dsimp only [gName, List.set]
    show tRet _ _ [some v, some u, some z, none] H1
    have h120 := cut_120 (b := true) (pl := pl) val
    have h120' := cut_120 (b := false) (pl := pl) val
    refine ret_sv l1 (sv_is (sv_all (K := K) (S := S) (bs := (cutWords rs pl false).map fun w => decide (w ∈ cutWords rs pl true)) (sv_is (sv_lcM (K := K) (S := S) (ds := (cutWords rs pl false).map PyData.str) (si_l (sv_T (f := fun x : (List Row × List Nat) × Bool => PyData.list ((cutWords x.1.1 x.1.2 x.2).map PyData.str)) (enc := fun x : (List Row × List Nat) × Bool => [.list (x.1.1.map rowP), ptP x.1.2, .str (kindS x.2)]) ((rs, pl), false) (sa_cons (sv_var rfl (hv.same s1)) (sa_cons (sv_var rfl (hu.same s1)) (sa_cons sv_str sa_nil))) rfl pre)) (by rw [List.length_map]; omega) (fun d => .bool (((cutWords rs pl true).map PyData.str).any fun z => PyData.eqv z d)) fun d S' H' v2 Q' m n hd kk => ?_) ?_)) ?_) fun w H2 s2 hw => k w H2 (s1.trans s2) hw
    · obtain ⟨w, mw, rfl⟩ := List.mem_map.mp m
      exact kk [some v, some u, some z, some v2] rfl (sv_inD (sv_var rfl hd) (sv_var rfl (hz.now n)) (cut_fine val hl w mw) (fine_strs (by omega) (cut_fine val hl)))
    · rw [List.map_map, List.map_map]
      refine congrArg PyData.list (List.map_congr_left fun w _ => ?_)
      exact congrArg PyData.bool (any_strs _ _)
    · show PyData.bool _ = .bool (canB rs pl)
      unfold canB
      rw [List.all_map]
      rfl
def canPt (rs : List Row) (d : PyData) : Bool := canB rs (plOf d)
def knownD (rs : List Row) : List PyData := (ptsD (lensOf rs)).filter (canPt rs)
theorem lens_tot (rs : List Row) : (lensOf rs).sum = tot rs := rfl
theorem plOf_ptP (p : List Nat) : plOf (ptP p) = p := by
  show (p.map fun n => PyData.int (n : Nat)).map natD = p
  rw [List.map_map]
  have h := List.map_id' p
  rw [show (natD ∘ fun n : Nat => PyData.int (n : Nat)) = fun n => n from funext fun n => Int.toNat_natCast n]
  exact h
def spLmoments (K : PySem.W.Frag) : Sp := spT K (fun rs : List Row => [.list (rs.map rowP)]) (fun rs => Valid rs ∧ (∀ r ∈ rs, r.k = true) ∧ tot rs ≤ 7) fun rs => .list (knownD rs)
theorem pts_len {rs : List Row} (h : tot rs ≤ 7) : (ptsD (lensOf rs)).length ≤ 128 := by
  rw [ptsD_len]
  exact Nat.le_trans (allP_len _) (pow_le (m := 7) (by rw [lens_tot]; exact h))
theorem ok_Lmoments (T : TopOk K mg A) : FnOk P w K mg base CX0 3 A.f_Lmoments A.d_Lmoments P_Lmoments (spLmoments K) := by
  have G_Llengths : FnOk P w K mg base CX0 1 A.f_Llengths A.d_Llengths P_Llengths (spLlens K) := ok_Llengths T
  have G_Lpoints : FnOk P w K mg base CX0 2 A.f_Lpoints A.d_Lpoints P_Lpoints (spLpoints K) := ok_Lpoints T
  have G_Lcan_be : FnOk P w K mg base CX0 2 A.f_Lcan_be A.d_Lcan_be P_Lcan_be (spLcan K) := ok_Lcan_be T
  refine T.F_Lmoments.ok sc_Lmoments (fun vs H Q E h => ?_) (fun cdv Ar outer s H vs Q E hr h => ?_)
  · obtain ⟨S, x, _, h, _⟩ := h
    obtain ⟨v, rfl, _⟩ := h.one
    rfl
  · obtain ⟨S, rs, hL, hds, ⟨val, hk, ht⟩, k⟩ := h
    obtain ⟨v, rfl, hv⟩ := hds.one
    have hv : Ds K S H v (.list (rs.map rowP)) := hv
    have k : ∀ w H', Same H H' → Ds K S H' w (.list (knownD rs)) → Q w H' := k
    refine ⟨_, (pss_one (ps_ret (pe_lc (own := [("_law_point", 1)]) (g := gName 1) (by rfl) sc_Lmoments.nd (pi_any (pe_call G_Lpoints (hr.mono (by decide)) (by rfl) T.g_Lpoints T.F_Lpoints.kp T.a_Lpoints .nil pass0 (pa_cons (pe_call G_Llengths (hr.mono (by decide)) (by rfl) T.g_Llengths T.F_Llengths.kp T.a_Llengths .nil pass0 (pa_cons (pv 0) pa_nil)) pa_nil))) (blkOk_by (own := [("_law_point", 1)]) (N := N_Lmoments) (sc := defScope s_Lmoments) (by decide +kernel)) (fun _ _ _ _ _ => (pg_name (i := 1) sc_Lmoments.nd rfl (by first | exact Or.inl rfl | exact Or.inr rfl))) (fun _ _ _ _ _ => (pts_one (pt_val (pe_call G_Lcan_be (hr.mono (by decide)) (by rfl) T.g_Lcan_be T.F_Lcan_be.kp T.a_Lcan_be .nil pass0 (pa_cons (pv 0) (pa_cons (pv 1) pa_nil)))))) (fun _ _ _ _ _ => (pv 1))))), ?_⟩
    show tRet _ _ [some v, none] H
    have h128 := pts_len ht
    refine ret_sv (K := K) (S := S) hL (sv_is (sv_lcF (K := K) (S := S) (ds := ptsD (lensOf rs)) (si_l (sv_T (f := fun ns : List Nat => PyData.list (ptsD ns)) (enc := fun ns : List Nat => [ptP ns]) (lensOf rs) (sa_cons (sv_T (f := fun rs : List Row => ptP (lensOf rs)) (enc := fun rs : List Row => [.list (rs.map rowP)]) rs (sa_cons (sv_var rfl hv) sa_nil) rfl ⟨val.few, hk⟩) sa_nil) rfl ⟨ht, by unfold lensOf; rw [List.length_map]; exact val.few⟩)) (by omega) (canPt rs) id fun d S' H' v2 Q' m n hd kk => ?_) ?_) k
    · obtain ⟨p, mp, rfl⟩ := ptsD_mem m
      refine kk [some v, some v2] rfl ?_ fun _ => sv_var rfl hd
      unfold canPt
      rw [plOf_ptP]
      exact sb_val (sv_T (f := fun x : List Row × List Nat => PyData.bool (canB x.1 x.2)) (enc := fun x : List Row × List Nat => [.list (x.1.map rowP), ptP x.2]) (rs, p) (sa_cons (sv_var rfl (hv.now n)) (sa_cons (sv_var rfl hd) sa_nil)) rfl ⟨val, hk, by have := (allP_ok mp).1; unfold lensOf at this; rw [List.length_map] at this; exact this⟩)
    · show PyData.list _ = .list (knownD rs)
      rw [List.map_id]
      rfl
end
end My
set_option Elab.async false
set_option linter.all false
set_option maxRecDepth 100000
namespace My
open PySem PySem.Spec PyProof.Rows L2 TL
/-! ### draws and choices as worths; what the law looks up -/
theorem nil_valid : Valid [] where
  few := by decide
  name := fun r m => by cases m
  nd := List.nodup_nil
  len := fun r m => by cases m
  step := fun r m => by cases m
  once := List.nodup_nil
  sent := fun w h => by cases h
  done := fun i r e => by cases e
section
variable {K : PySem.W.Frag} {B : BagId} {S : Sh} {σ : L2.St} {H : Hp} {ta tb te : TE} {tr : TA} {ds : List PyData} {E : XK} {Q : VK} {i : Nat}
/-- _law_of(bag, xs) -/
theorem of_sv {k : Bool} (hi : σ[i]? = some (some (.ref B.p))) (hB : Bag B H) (l : Live (fun a => a = B.p) H) (h : SV K (fun a => a = B.p) te σ H (seqD k ds)) (h0 : 0 < ds.length) (h1 : ds.length ≤ 5000)
    (q : ∀ v d H', d ∈ ds → Bag B H' → Ext B.p H H' → Ds K (fun a => a = B.p) H' v d → Q v H') : tCall (spOf K) [] E (tCons (tVar i) (tCons te tNil)) σ H Q :=
  ⟨_, hi, h.run l fun v H2 s2 hv => by
    have fin : ∀ (a : Addr) (xs : List V), ¬ a = B.p → (SqL K H2 a xs ∨ SqT K H2 a xs) → DsAll K (fun a => a = B.p) H2 xs ds → spOf K [.ref B.p, .ref a] H2 Q E := fun a xs ne hq hx =>
      ⟨B, .ref a, rfl, hB.ext s2, .inl ⟨a, xs, rfl, ne, hq, by rw [hx.length]; exact h0, by rw [hx.length]; omega, fun v H' hm hB' ex => by
        obtain ⟨j, hj⟩ := List.getElem?_of_mem hm
        obtain ⟨d, e, hd⟩ := hx.get hj
        exact q v d H' (List.mem_of_getElem? e) hB' ((Ext.of s2).trans ex) (hd.byX (XS.ext ex rfl))⟩⟩
    cases k with
    | true => obtain ⟨a, xs, rfl, la, hx⟩ := Ds.l hv; exact fin a xs la.1 (.inl la.sq) hx
    | false => obtain ⟨a, xs, rfl, la, hx⟩ := Ds.t hv; exact fin a xs la.1 (.inr la.sq) hx⟩
theorem sl_mk0 {C : Addr} : SL K C S (StX.tMakeR C (spInit K C) E tNil) σ H [] := fun S1 H1 n Q q => mk_log n.live (rs := []) sa_nil nil_valid fun a H' s hl => q a H' s hl
end
theorem places_ok {pl ns : List Nat} (h : okP pl ns) : placesB (ptP pl) ns = true := by
  show (decide ((pl.map fun n => PyData.int (n : Nat)).length = ns.length) && _) = true
  rw [List.length_map, decide_eq_true h.1, Bool.true_and, List.all_eq_true]
  intro p m
  obtain ⟨i, e⟩ := List.getElem?_of_mem m
  obtain ⟨e1, e2⟩ := List.getElem?_zip_eq_some.mp e
  rw [List.getElem?_map] at e1
  cases en : pl[i]? with
  | none => rw [en] at e1; cases e1
  | some n =>
    rw [en] at e1
    have e1 : PyData.int (n : Nat) = p.1 := Option.some.inj e1
    have := h.2 i _ e2
    rw [List.getD_eq_getElem?_getD, en] at this
    have this : n ≤ p.2 := this
    rw [← e1]
    show (decide ((0 : Int) ≤ (n : Nat)) && decide (((n : Nat) : Int) ≤ (p.2 : Nat))) = true
    rw [decide_eq_true (by omega), decide_eq_true (by omega)]
    rfl
theorem places_len {ds : List PyData} {ns : List Nat} (h : ds.length ≠ ns.length) : placesB (.tuple ds) ns = false := by
  show (decide (ds.length = ns.length) && _) = false
  rw [decide_eq_false h, Bool.false_and]
theorem places_bad {ds : List PyData} {ns : List Nat} {i : Nat} {x : PyData} {n : Nat} (h1 : ds[i]? = some x) (h2 : ns[i]? = some n) (h : numD 0 (n : Nat) x = false) : placesB (.tuple ds) ns = false := by
  refine Bool.eq_false_iff.mpr fun z => ?_
  have z : (decide (ds.length = ns.length) && (ds.zip ns).all fun p => numD 0 (p.2 : Nat) p.1) = true := z
  have z2 := List.all_eq_true.mp (Bool.and_eq_true_iff.mp z).2 (x, n) (List.mem_of_getElem? (List.getElem?_zip_eq_some.mpr ⟨h1, h2⟩))
  rw [show numD 0 ((x, n).2 : Nat) (x, n).1 = numD 0 (n : Nat) x from rfl, h] at z2
  cases z2
theorem mom_bad {rs : List Row} {d : PyData} (h : placesB d (lensOf rs) = false) : momB rs d = false := by
  unfold momB
  rw [h, Bool.false_and]
theorem mom_ok {rs : List Row} {pl : List Nat} (hv : Valid rs) (h : okP pl (lensOf rs)) : momB rs (ptP pl) = canB rs pl := by
  unfold momB
  rw [places_ok h, Bool.true_and, plOf_ptP]
  refine mom_can hv ?_
  rw [h.1]
  unfold lensOf
  rw [List.length_map]
theorem eqv_pt : ∀ xs ys : List Nat, PyData.eqvAll (xs.map fun n => PyData.int (n : Nat)) (ys.map fun n => PyData.int (n : Nat)) = true → xs = ys
  | [], [], _ => rfl
  | [], _ :: _, h => by simp [PyData.eqvAll] at h
  | _ :: _, [], h => by simp [PyData.eqvAll] at h
  | x :: xs, y :: ys, h => by
    rw [List.map_cons, List.map_cons, PyData.eqvAll] at h
    obtain ⟨h1, h2⟩ := Bool.and_eq_true_iff.mp h
    rw [eqv_pt xs ys h2]
    have h3 : ((x : Nat) : Int) = (y : Nat) := by simpa [PyData.eqv] using h1
    have : x = y := by omega
    rw [this]
theorem fine_pt {p : List Nat} (h : p.length ≤ 5000) : fine (ptP p) = true := fine_seq (k := false) (by rw [List.length_map]; exact h) fun d m => by
  obtain ⟨n, _, rfl⟩ := List.mem_map.mp m
  exact ⟨rfl, by simp [PyData.depth]⟩
theorem pt_lens {rs : List Row} {p : List Nat} (h : p ∈ allP (lensOf rs)) : p.length = rs.length := by
  rw [(allP_ok h).1]
  unfold lensOf
  rw [List.length_map]
theorem known_fine {rs : List Row} (ht : tot rs ≤ 7) (h6 : rs.length ≤ 6) : fine (.list (knownD rs)) = true := by
  refine fine_seq (k := true) (Nat.le_trans (List.length_filter_le _ _) (Nat.le_trans (pts_len ht) (by decide))) fun d m => ?_
  obtain ⟨p, mp, rfl⟩ := ptsD_mem (List.mem_filter.mp m).1
  exact ⟨fine_pt (by rw [pt_lens mp]; omega), Nat.le_trans (ptP_depth p) (by decide)⟩
theorem known_is {rs : List Row} {p : List Nat} (h : ptP p ∈ ptsD (lensOf rs)) (hp : p.length ≤ 5000) : ((knownD rs).any fun z => PyData.eqv z (ptP p)) = canB rs p := by
  rw [Bool.eq_iff_iff, List.any_eq_true]
  constructor
  · rintro ⟨z, m, e⟩
    obtain ⟨m1, m2⟩ := List.mem_filter.mp m
    obtain ⟨q, mq, rfl⟩ := ptsD_mem m1
    have : q = p := eqv_pt q p (by simpa [ptP, PyData.eqv] using e)
    unfold canPt at m2
    rw [plOf_ptP, this] at m2
    exact m2
  · intro hc
    refine ⟨_, List.mem_filter.mpr ⟨h, ?_⟩, fine_refl (fine_pt hp)⟩
    unfold canPt
    rw [plOf_ptP]
    exact hc
end My
set_option Elab.async false
set_option linter.all false
set_option maxRecDepth 100000
namespace My
open PySem PySem.Spec PyProof.Rows L2 TL L2H LamX
/-! ### the law's helpers that catch -/
theorem fun_E {P : Program} {w : World} {K : PySem.W.Frag} {mg : Str → Option Value} {base : Heap} {x qual : Str} {st : Stmt} {f : Addr} {fd : FuncData} {N ps : List Str} {k : Nat} {sp : Addr → Value → Option Addr → Sp} (F : Fun K x qual st f fd) (S : FnScope N ps (defScope st)) (len : ∀ a cls d vs H Q E, sp a cls d vs H Q E → vs.length = ps.length)
    (runs : ∀ (cdv : Value) (A : Around) (outer : List Env) (s : Shared) (H : Hp) (vs : List V) (Q : VK) (E : XK) (a : Addr) (oe : Obj) (cls : Value) (d : Option Addr), Hot1 A (a, oe) → Zc cls d oe → RoomH k (A.deeper (envOfC qual (defScope st) s.heap.objs.size f cdv)) → sp a cls d vs H Q E →
      ∃ t, PSs (cxH CX0 P w K mg base N qual (defScope st) f cdv A outer s H E (a, oe)) (defBody st) t ∧ t { nx := fun _ H' => Q .non H', rt := Q } (start N vs) H) : FnE P w K mg base (k + 1) f fd ps sp := by
  obtain ⟨_, _, _, _, _, _, code, _, _, rfl, at_, coded⟩ := F.ex
  exact fnE_of at_ coded S len (runs code)
theorem fun_S {P : Program} {w : World} {K : PySem.W.Frag} {mg : Str → Option Value} {base : Heap} {CX : CXT} {x qual : Str} {st : Stmt} {f : Addr} {fd : FuncData} {N ps : List Str} {k : Nat} {A : Around} {outer : List Env} {s : Shared} {H : Hp} {us : List Value} {vs : List V} {Q : VK} {E : XK} (F : Fun K x qual st f fd) (S : FnScope N ps (defScope st)) (hr : Room (k + 1) A)
    (e0 : Env0 P w K mg base A outer s H) (hb : Binds K fd ps []) (r : Vals vs us) (hl : vs.length = ps.length)
    (runs : ∀ cdv : Value, Room k (A.deeper (envOfC qual (defScope st) s.heap.objs.size f cdv)) → ∃ t, PSs (cxOf CX P w K mg base N qual (defScope st) f cdv A outer s H E) (defBody st) t ∧ t { nx := fun _ H' => Q .non H', rt := Q } (start N vs) H) :
    codeAny (model P w) A (.call (.ref f) ⟨us, []⟩) (CR CX outer P w H s Q E) s := by
  obtain ⟨_, _, _, _, _, _, code, _, _, rfl, at_, coded⟩ := F.ex
  have KX : K.In s.heap := e0.mod.kin.keeps fun _ _ here => (e0.bs _ _ here).1
  have hul : us.length = ps.length := r.length.symm.trans hl
  have b := hb s us KX (by rw [List.append_nil]; exact hul)
  rw [List.append_nil] at b
  exact run_ofS at_ coded S hr e0 b r hl (runs code)
/-- what the law tells of an error: its value -/
def spField (K : PySem.W.Frag) : Addr → Value → Option Addr → Sp := fun a cls d vs H Q _ => vs = [.ref a] ∧ ∃ (C dd : Addr) (fs : List (Str × V)) (v : V), cls = .ref C ∧ XfC K C ∧ PySem.W.findIn K (.ref C) "code" = some none ∧ PySem.W.findIn K (.ref C) "value" = some none ∧ d = some dd ∧ H dd = some (.xd fs) ∧
  fs.lookup ("code" : Str) = some (V.str "InvalidMoment") ∧ fs.lookup ("value" : Str) = some v ∧ ∀ p H', Same H H' → H' p = some (.tup [v]) → Q (.ref p) H'
section
variable {P : Program} {w : World} {K : PySem.W.Frag} {mg : Str → Option Value} {base : Heap} {A : Top}
theorem ok_Lother : FnE P w K mg base 1 A.f_Lother_field A.d_Lother_field P_Lother_field (fun _ _ _ _ _ _ _ => False) := ⟨fun _ _ _ _ _ _ _ h => h.elim, fun _ _ _ _ _ _ _ _ _ _ _ _ _ _ _ _ _ _ _ _ h => h.elim⟩
theorem ok_Lfield (T : TopOk K mg A) : FnE P w K mg base 3 A.f_Lfield A.d_Lfield P_Lfield (spField K) := by
  have G_Lother_field : FnE P w K mg base 1 A.f_Lother_field A.d_Lother_field P_Lother_field (fun _ _ _ _ _ _ _ => False) := ok_Lother
  refine fun_E T.F_Lfield sc_Lfield (fun a cls d vs H Q E h => ?_) (fun cdv Ar outer s H vs Q E a oe cls d hot0 hz hr h => ?_)
  · obtain ⟨rfl, _⟩ := h
    rfl
  · obtain ⟨rfl, C, dd, fs, v, hC, xf, fc, fv, hdd, hH, lc, lv, k⟩ := h
    have hd : ∃ vs, oe.data = .fields vs := hot0.2.elim fun vs z => ⟨vs, z.1⟩
    have hp : (a, oe) ∈ [(a, oe)] := .head _
    have hot : Hot1 (cxH CX0 P w K mg base N_Lfield "_law_field" (defScope s_Lfield) A.f_Lfield cdv Ar outer s H E (a, oe)).A (a, oe) := ⟨hot0.1, hot0.2⟩
    refine ⟨_, (pss_cons (ps_if (pt_cmpR op_in_seq (pe_err hz hd hp (pv 0)) (pe_tup (pa_cons pe_str (pa_cons pe_str (pa_cons pe_str (pa_cons pe_str (pa_cons pe_str pa_nil)))))) (by rfl))
      (pss_one (ps_ret (pe_tup (pa_cons (pe_err hz hd hp (pv 0)) pa_nil))))
      pss_nil)
      (pss_cons (ps_if (pt_cmpR op_in_seq (pe_err hz hd hp (pv 0)) (pe_tup (pa_cons pe_str (pa_cons pe_str (pa_cons pe_str (pa_cons pe_str (pa_cons pe_str pa_nil)))))) (by rfl))
      (pss_one (ps_ret (pe_tup (pa_cons (pe_err hz hd hp (pv 0)) pa_nil))))
      pss_nil)
      (pss_cons (ps_if (pt_cmpR op_in_seq (pe_err hz hd hp (pv 0)) (pe_tup (pa_cons pe_str (pa_cons pe_str (pa_cons pe_str pa_nil)))) (by rfl))
      (pss_one (ps_ret (pe_tup (pa_cons (pe_err hz hd hp (pv 0)) pa_nil))))
      pss_nil)
      (pss_cons (ps_if (pt_cmpR op_in_seq (pe_err hz hd hp (pv 0)) (pe_tup (pa_cons pe_str (pa_cons pe_str pa_nil))) (by rfl))
      (pss_one (ps_ret (pe_tup (pa_cons (pe_err hz hd hp (pv 0)) pa_nil))))
      pss_nil)
      (pss_cons (ps_if (pt_cmpR op_eq (pe_err hz hd hp (pv 0)) pe_str (nomark _))
      (pss_one (ps_ret (pe_tup (pa_cons (pe_err hz hd hp (pv 0)) (pa_cons (pe_err hz hd hp (pv 0)) pa_nil)))))
      pss_nil)
      (pss_cons (ps_if (pt_cmpR op_eq (pe_err hz hd hp (pv 0)) pe_str (nomark _))
      (pss_one (ps_ret (pe_tup (pa_cons (pe_err hz hd hp (pv 0)) (pa_cons (pe_err hz hd hp (pv 0)) (pa_cons (pe_err hz hd hp (pv 0)) pa_nil))))))
      pss_nil)
      (pss_one (ps_ret (pe_callE (E := E0) G_Lother_field (hr.mono (by decide)) hot hp hz (by rfl) T.g_Lother_field T.F_Lother_field.kp T.a_Lother_field (pa_cons (pv 0) pa_nil)))))))))), ?_⟩
    show tSeq (tIfS _ _ _) _ _ [some (.ref a)] H
    refine ⟨_, rfl, rfl, C, dd, fs, _, hC, xf, fc, hdd, hH, lc, szl (by decide), fun p np => ⟨p, _, rfl, .inr (tsq upd_same), rfl, rfl, ?_⟩⟩
    refine ⟨_, rfl, ite2 (fun _ => ?_) (fun z => absurd (by decide +kernel) z)⟩
    have s1 : Same H (upd H p (.tup [.str "InvalidName", .str "InvalidPoint", .str "InvalidMoment", .str "InvalidNumber", .str "InvalidLimit"])) := same_upd np
    refine ⟨_, rfl, rfl, C, dd, fs, v, hC, xf, fv, hdd, s1 _ _ hH, lv, sz (by show 1 ≤ 100000; decide), fun q nq => ?_⟩
    exact k q _ (s1.trans (same_upd nq)) upd_same
end
end My
set_option Elab.async false
set_option linter.all false
set_option maxRecDepth 100000
namespace My
open PySem PySem.Spec PyProof.Rows L2 TL L2H LamX
/-- what a lambda that is handed on does when it is called, at any depth below X that sleeps since (H, s) -/
def Ask (X : Cx) (H : Hp) (s : Shared) (k : Nat) (know : Hp → Prop) (f : Addr) (tl : XK → Hp → VK → Prop) : Prop :=
  ∀ (CXg : CXT) (Eg E : XK) (Ng : List Str) (qg a : Str) (sg : Scope) (g : Addr) (cdg : Value) (i : Nat) (pn : List (Addr × Obj)) (xe : Value → Shared → Prop) (W : WX) (p1 p2 : Pos) (A : Around) (outer : List Env) (s0 : Shared) (H0 : Hp),
    Sleeps X H s outer H0 s0 → L2N.Takes ((cxOf CXg X.prog X.w X.K X.mg X.base Ng qg sg g cdg A outer s0 H0 Eg).tr pn xe) W → (∀ cls d σ' H', σ'.length = Ng.length → E cls d H' → W cls d σ' H') → Room (k + 1) (A.deeper (envOfC qg sg s0.heap.objs.size g cdg)) →
    Ng[i]? = some a → Vis sg a → (a == ("__debug__" : Str)) = false → (a == ("__classdict__" : Str)) = false →
    PE ((cxOf CXg X.prog X.w X.K X.mg X.base Ng qg sg g cdg A outer s0 H0 Eg).tr pn xe) (.Call (.Name a p1) [] [] p2) (fun σz Hz Q => σz[i]? = some (some (.ref f)) ∧ know Hz ∧ tl E Hz Q)
/-- what the law makes of an error -/
def gotX (K : PySem.W.Frag) (cs : List Value) (Q : VK) : XK := fun cls d H1 => ∃ (C dd : Addr) (fs : List (Str × V)) (v : V), cls = .ref C ∧ d = some dd ∧ PySem.W.exmAny K (.ref C) cs = some true ∧ XfC K C ∧ PySem.W.findIn K (.ref C) "code" = some none ∧ PySem.W.findIn K (.ref C) "value" = some none ∧ H1 dd = some (.xd fs) ∧
  fs.lookup ("code" : Str) = some (V.str "InvalidMoment") ∧ fs.lookup ("value" : Str) = some v ∧ ∀ p q H2, Same H1 H2 → H2 p = some (.tup [v]) → H2 q = some (.tup [.str "InvalidMoment", .ref p]) → Q (.ref q) H2
def gotT (Q : VK) : VK := fun v H1 => [V.str "told", v].length ≤ sizeLine ∧ ∀ p, H1 p = none → Q (.ref p) (upd H1 p (.tup [.str "told", v]))
abbrev caughtC (A : Top) : List Value := [.ref A.c_LogError, .ref A.c_Missing, .ref A.c_NothingLeft]
section
variable {X : Cx} {H H0 : Hp} {s s0 : Shared} {k : Nat} {know : Hp → Prop} {f : Addr} {tl : XK → Hp → VK → Prop} {A : Top} {A0 : Around} {outer : List Env} {Q : VK}
theorem got_run (T : TopOk X.K X.mg A) (ask : Ask X H s k know f tl) (w : Sleeps X H s outer H0 s0) (e0 : Env0 X.prog X.w X.K X.mg X.base A0 outer s0 H0) (hr : Room (k + 6) A0) (hk : know H0) (h : tl (gotX X.K (caughtC A) Q) H0 (gotT Q)) :
    codeAny (model X.prog X.w) A0 (.call (.ref A.f_Lgot) ⟨[.ref f], []⟩) (CR CX0 outer X.prog X.w H0 s0 Q E0) s0 := by
  have G_Lfield : FnE X.prog X.w X.K X.mg X.base 3 A.f_Lfield A.d_Lfield P_Lfield (spField X.K) := ok_Lfield T
  refine fun_S (k := k + 5) (vs := [.ref f]) T.F_Lgot sc_Lgot hr e0 T.a_Lgot (.cons rfl .nil) rfl fun cdv hr2 => ?_
  refine ⟨_, pss_one (ps_try_asT (i := 1) (n := "_law_e") (tb := fun W D σ H' => ∃ Ech : XK, (∀ cls d σ' H2, σ'.length = N_Lgot.length → Ech cls d H2 → W cls d σ' H2) ∧ σ[0]? = some (some (.ref f)) ∧ know H' ∧
      tl Ech H' fun v H1 => [V.str "told", v].length ≤ sizeLine ∧ ∀ p, H1 p = none → D.rt (.ref p) (upd H1 p (.tup [.str "told", v])))
    (ts := fun a cls d => tRet (tTup (tCons (tErr X.K a cls d "code" (tVar 1)) (tCons (tCallE (spField X.K) a cls d E0 (tCons (tVar 1) tNil)) tNil))))
    rfl rfl sc_Lgot.nd rfl rfl ⟨by rfl, by decide, .inl T.m_LogError⟩ ⟨by rfl, by decide, .inl T.m_Missing⟩ ⟨by rfl, by decide, .inl T.m_NothingLeft⟩ (fun W pn xe tk _ => ?_) (fun a oe cls d pn hz hf => ?_)), ?_⟩
  · refine ⟨fun pins s' σ H' D I ⟨Ech, hW, h1, h2, h3⟩ => ?_⟩
    have hp := ask CX0 E0 Ech N_Lgot "_law_got" "_law_ask" (defScope s_Lgot) A.f_Lgot cdv 0 pn xe W
    have hp2 := fun p1 p2 => hp p1 p2 A0 outer s0 H0 w tk hW (hr2.mono (by omega)) rfl (.inl rfl) (by decide) (by decide)
    exact (pss_one (ps_ret (pe_tup (pa_cons pe_str (pa_cons (hp2 _ _) pa_nil))))).run pins s' σ H' D I ⟨h1, h2, h3⟩
  · exact pss_one (ps_ret (pe_tup (pa_cons (pe_err hz.zc hf (.head _) (pv 1)) (pa_cons (pe_callE (E := E0) G_Lfield ⟨(hr2.mono (j := 3) (by omega)).dp, (hr2.mono (j := 3) (by omega)).un⟩ ⟨rfl, hf.elim fun vs e => ⟨vs, e, hz.2.2 vs e⟩⟩ (.head _) hz.zc (by rfl) T.g_Lfield T.F_Lfield.kp T.a_Lfield (pa_cons (pv 1) pa_nil)) pa_nil))))
  · refine ⟨gotX X.K (caughtC A) Q, fun cls d σ' H2 hl hx => ?_, rfl, hk, ?_⟩
    · obtain ⟨C, dd, fs, v, rfl, rfl, ex, xf, fc, fv, hd, lc, lv, q⟩ := hx
      refine ⟨ex, fun a na => ?_⟩
      have at1 : (σ'.set 1 (some (V.ref a)))[1]? = some (some (V.ref a)) := by
        have : 1 < σ'.length := by rw [hl]; decide
        rw [List.getElem?_set_self this]
      refine ⟨_, at1, rfl, C, dd, fs, _, rfl, xf, fc, rfl, hd, lc, _, at1, rfl, C, dd, fs, v, rfl, xf, fc, fv, rfl, hd, lc, lv, fun p H3 s3 hp => ⟨sz (by show 2 ≤ 100000; decide), fun t nt => ?_⟩⟩
      exact q p t _ (s3.trans (same_upd nt)) (same_upd nt _ _ hp) upd_same
    · exact h
end
end My
set_option Elab.async false
set_option linter.all false
set_option maxRecDepth 100000
namespace My
open PySem PySem.Spec PyProof.Rows L2 TL L2H LamX
def MonoT (tl : XK → Hp → VK → Prop) : Prop := ∀ (E E' : XK) (Q Q' : VK) (H : Hp), (∀ cls d H', E cls d H' → E' cls d H') → (∀ v H', Q v H' → Q' v H') → tl E H Q → tl E' H Q'
theorem gotX_mono {K : PySem.W.Frag} {cs : List Value} {Q Q' : VK} (h : ∀ v H', Q v H' → Q' v H') : ∀ cls d H', gotX K cs Q cls d H' → gotX K cs Q' cls d H' := fun cls d H' ⟨C, dd, fs, v, a, b, c, e, f, g, i, j, l, q⟩ =>
  ⟨C, dd, fs, v, a, b, c, e, f, g, i, j, l, fun p r H2 x y z => h _ _ (q p r H2 x y z)⟩
theorem gotT_mono {Q Q' : VK} (h : ∀ v H', Q v H' → Q' v H') : ∀ v H', gotT Q v H' → gotT Q' v H' := fun v H' ⟨a, q⟩ => ⟨a, fun p n => h _ _ (q p n)⟩
/-- told or the error, as the law writes it -/
def whyQ (Q : VK) : VK := fun v H1 => ∃ (p : Addr) (x : Str) (y : V), v = .ref p ∧ H1 p = some (.tup [.str x, y]) ∧ (x = "told" → ∀ q, H1 q = none → Q (.ref q) (upd H1 q (.tup [.str "told", .non]))) ∧ (x ≠ "told" → Q v H1)
section
variable {X : Cx} {H H0 : Hp} {s s0 : Shared} {k : Nat} {know : Hp → Prop} {f : Addr} {tl : XK → Hp → VK → Prop} {A : Top} {A0 : Around} {outer : List Env} {Q : VK}
theorem why_run (T : TopOk X.K X.mg A) (ask : Ask X H s k know f tl) (mt : MonoT tl) (w : Sleeps X H s outer H0 s0) (e0 : Env0 X.prog X.w X.K X.mg X.base A0 outer s0 H0) (hr : Room (k + 8) A0) (hk : know H0) (h : tl (gotX X.K (caughtC A) (whyQ Q)) H0 (gotT (whyQ Q))) :
    codeAny (model X.prog X.w) A0 (.call (.ref A.f_Lwhy) ⟨[.ref f], []⟩) (CR CX0 outer X.prog X.w H0 s0 Q E0) s0 := by
  refine fun_S (k := k + 7) (vs := [.ref f]) T.F_Lwhy sc_Lwhy hr e0 T.a_Lwhy (.cons rfl .nil) rfl fun cdv hr2 => ?_
  have PGOT : ∀ {p1 p2 p3 : Pos}, PE (cxOf CX0 X.prog X.w X.K X.mg X.base N_Lwhy "_law_why" (defScope s_Lwhy) A.f_Lwhy cdv A0 outer s0 H0 E0) (.Call (.Name "_law_got" p1) [.Name "_law_ask" p2] [] p3)
      (fun σ H1 Q1 => σ[0]? = some (some (.ref f)) ∧ know H1 ∧ tl (gotX X.K (caughtC A) Q1) H1 (gotT Q1)) := fun {p1 p2 p3} => ⟨fun pins s1 σ H1 Q1 I1 ⟨h1, h2, h3⟩ => by
    have arg : PE (cxOf CX0 X.prog X.w X.K X.mg X.base N_Lwhy "_law_why" (defScope s_Lwhy) A.f_Lwhy cdv A0 outer s0 H0 E0) (.Name "_law_ask" p2) (tVar 0) := pv 0
    have args := pa_cons arg pa_nil
    refine wpAny_Call_Name_kw (ld_glob I1 (by rfl) T.g_Lgot (PySem.W.callWith_K (h₀ := X.base) I1.ok.mod.kin T.F_Lgot.kp (thn (args.run p3 pins s1 σ H1 (fun xs G => xs = [.ref f] ∧ G = H1) I1 ⟨_, h1, rfl, rfl⟩) fun us s2 ⟨vs, G, I2, r, ev, eG⟩ => ⟨I2.kIn, ?_⟩) (by rfl) (by rfl)) (by decide))
    subst ev eG
    cases r with
    | cons r0 rr =>
      cases rr
      have eu : _ = Value.ref f := r0
      subst eu
      have w2 := w.down (Z := cxOf CX0 X.prog X.w X.K X.mg X.base N_Lwhy "_law_why" (defScope s_Lwhy) A.f_Lwhy cdv A0 outer s0 H0 E0) rfl rfl rfl I2
      have grun := got_run (X := X) (Q := Q1) T ask w2 I2.env0 (hr2.mono (by omega)) h2 h3
      refine wpAny_call (codeAny_mono grun fun rs s3 hq => ?_)
      match rs, hq with
      | .ok (.ret u), hq => exact I2.after hq⟩
  refine ⟨_, (pss_cons (ps_set (i := 1) sc_Lwhy.nd rfl (by first | exact Or.inl rfl | exact Or.inr rfl) PGOT)
      (pss_one (ps_ret (pe_ifExp (pt_cmpR op_eq (pe_ix ix_seq (pv 1) pe_int (fun _ _ => rfl)) pe_str (nomark _)) (pe_tup (pa_cons pe_str (pa_cons pe_non pa_nil))) (pv 1))))), ?_⟩
  show tSeq (tAsg _ (gName 1)) _ _ [some (.ref f), none] H0
  refine ⟨rfl, hk, mt _ _ _ _ H0 (gotX_mono ?_) (gotT_mono ?_) h⟩
  all_goals
    rintro v H1 ⟨p, x, y, rfl, hp, q1, q2⟩
    dsimp only [gName, List.set]
    refine ⟨_, rfl, .inr (.inl ⟨p, _, 0, .str x, rfl, rfl, .inl (.inl hp), rfl, ?_⟩)⟩
    refine ⟨rfl, _, rfl, ite2 (fun e => ⟨sz (by show 2 ≤ 100000; decide), fun t nt => q1 ?_ t nt⟩) (fun e => ⟨_, rfl, q2 fun z => e ?_⟩)⟩
    · have := of_decide_eq_true e
      exact V.str.inj this
    · rw [z]
      exact decide_eq_true rfl
end
end My
set_option Elab.async false
set_option linter.all false
set_option maxRecDepth 100000
namespace My
open PySem PySem.Spec PyProof.Rows L2 TL
/-! ### a log cut at a point -/
def cutRow (r : Row) (n : Nat) : Row := ⟨r.n, false, r.s.take n⟩
def cutR (rs : List Row) (pl : List Nat) : List Row := (rs.zip pl).map fun p => cutRow p.1 p.2
section
variable {rs : List Row} {pl : List Nat}
theorem cutR_at (hl : pl.length = rs.length) (i : Nat) : (cutR rs pl)[i]? = (rs[i]?).map fun r => cutRow r (pl.getD i 0) := by
  unfold cutR
  rw [List.getElem?_map]
  cases e : rs[i]? with
  | none =>
    have : (rs.zip pl)[i]? = none := by
      rw [List.getElem?_eq_none_iff, List.length_zip]
      have := List.getElem?_eq_none_iff.mp e
      omega
    rw [this]
    rfl
  | some r =>
    have hi := (List.getElem?_eq_some_iff.mp e).1
    have : (rs.zip pl)[i]? = some (r, pl.getD i 0) := List.getElem?_zip_eq_some.mpr ⟨e, by rw [List.getD_eq_getElem?_getD, List.getElem?_eq_getElem (by omega)]; rfl⟩
    rw [this]
    rfl
theorem cutR_len (hl : pl.length = rs.length) : (cutR rs pl).length = rs.length := by
  unfold cutR
  rw [List.length_map, List.length_zip]
  omega
theorem cut_step (hl : pl.length = rs.length) (i j : Nat) : stepAt (cutR rs pl) i j = if j < pl.getD i 0 then stepAt rs i j else none := by
  unfold stepAt
  rw [cutR_at hl]
  cases e : rs[i]? with
  | none => by_cases h : j < pl.getD i 0 <;> simp [h]
  | some r =>
    show (r.s.take (pl.getD i 0))[j]? = _
    by_cases h : j < pl.getD i 0
    · rw [if_pos h, List.getElem?_take_of_lt h]
      rfl
    · rw [if_neg h, List.getElem?_take, if_neg h]
theorem cut_names (hl : pl.length = rs.length) : (cutR rs pl).map (·.n) = rs.map (·.n) := by
  refine List.ext_getElem? fun i => ?_
  rw [List.getElem?_map, List.getElem?_map, cutR_at hl]
  cases rs[i]? <;> rfl
theorem cut_deeds : ∀ (rs : List Row) (pl : List Nat), List.Sublist (deeds (cutR rs pl)) (deeds rs)
  | [], _ => by simp [cutR, deeds]
  | _ :: _, [] => by simp [cutR, deeds]
  | r :: rs, n :: pl => by
    show List.Sublist ((r.s.take n).filterMap (·.d) ++ deeds (cutR rs pl)) (r.s.filterMap (·.d) ++ deeds rs)
    exact ((List.take_sublist n r.s).filterMap _).append (cut_deeds rs pl)
theorem mem_cutW (hl : pl.length = rs.length) {b : Bool} {w : Str} : w ∈ cutWords rs pl b ↔ (b, w) ∈ deeds (cutR rs pl) := by
  rw [mem_deeds]
  unfold cutWords
  rw [List.mem_flatMap]
  constructor
  · rintro ⟨k, _, h⟩
    unfold wAt at h
    cases e : rs[k]? with
    | none => rw [e] at h; cases h
    | some r =>
      rw [e] at h
      obtain ⟨i, s, hi, es, ed⟩ := mem_rowW.mp h
      refine ⟨k, i, s, ?_, ed⟩
      rw [cut_step hl, if_pos hi]
      exact stepAt_of e es
  · rintro ⟨k, i, s, h, ed⟩
    rw [cut_step hl] at h
    by_cases hi : i < pl.getD k 0
    · rw [if_pos hi] at h
      obtain ⟨r, er, es⟩ := stepAt_row h
      refine ⟨k, List.mem_range.mpr (List.getElem?_eq_some_iff.mp er).1, ?_⟩
      unfold wAt
      rw [er]
      exact mem_rowW.mpr ⟨i, s, hi, es, ed⟩
    · rw [if_neg hi] at h
      cases h
theorem cut_lack (hl : pl.length = rs.length) : isNonD (lackP (deeds (cutR rs pl))) = canB rs pl := by
  unfold lackP canB
  rw [Bool.eq_iff_iff, List.all_eq_true]
  cases hf : (deeds (cutR rs pl)).find? (lackD (deeds (cutR rs pl))) with
  | none =>
    constructor
    · intro _ w m
      have := List.find?_eq_none.mp hf _ ((mem_cutW hl).mp m)
      refine decide_eq_true ((mem_cutW hl).mpr ?_)
      simpa [lackD] using this
    · intro _
      rfl
  | some d =>
    constructor
    · intro z
      exact Bool.noConfusion z
    intro h
    have h1 := List.find?_some hf
    have h2 := List.mem_of_find?_eq_some hf
    obtain ⟨b, w⟩ := d
    cases b with
    | true => simp [lackD] at h1
    | false =>
      have := (mem_cutW hl).mp (of_decide_eq_true (h w ((mem_cutW hl).mpr h2)))
      simp [lackD, this] at h1
end
end My
set_option Elab.async false
set_option linter.all false
set_option maxRecDepth 100000
namespace My
open PySem PySem.Spec PyProof.Rows L2 TL
/-! ### a log cut at a moment is a log -/
def StepOk (rs : List Row) (L1 : List (Nat × Nat)) (p : Nat × Nat) : Prop := (∀ j', j' < p.2 → (p.1, j') ∈ L1) ∧ ∀ s w, stepAt rs p.1 p.2 = some s → s.d = some (false, w) → ∃ i' j' s', (i', j') ∈ L1 ∧ stepAt rs i' j' = some s' ∧ s'.d = some (true, w)
def LineOk (rs : List Row) (L : List (Nat × Nat)) : Prop := ∀ L1 p L2, L = L1 ++ p :: L2 → StepOk rs L1 p
structure OdOk (rs : List Row) (t : Sta) : Prop where
  line : LineOk rs t.od
  all : ∀ i j, i < rs.length → j < t.pl.getD i 0 → (i, j) ∈ t.od
section
variable {rs : List Row} {pl : List Nat}
theorem od0 (rs : List Row) : OdOk rs (sta0 rs) := ⟨fun L1 p L2 e => by
  have e : ([] : List (Nat × Nat)) = L1 ++ p :: L2 := e
  simp at e, fun i j _ h => by
  rw [show (sta0 rs).pl.getD i 0 = 0 from getD_zeros rs i] at h
  exact absurd h (Nat.not_lt_zero _)⟩
theorem line_snoc {L : List (Nat × Nat)} {q : Nat × Nat} (h : LineOk rs L) (hq : StepOk rs L q) : LineOk rs (L ++ [q]) := fun L1 p L2 e => by
  rcases List.eq_nil_or_concat L2 with rfl | ⟨L3, x, rfl⟩
  · have e2 := List.append_inj' e rfl
    rw [← e2.1, ← (List.cons.inj e2.2).1]
    exact hq
  · have e2 : L ++ [q] = (L1 ++ p :: L3) ++ [x] := by rw [e]; simp
    exact h L1 p L3 (List.append_inj' e2 rfl).1
theorem od_adv {t : Sta} {i : Nat} {s : Stp} (g : Good rs t) (o : OdOk rs t) (hs : stepAt rs i (t.pl.getD i 0) = some s) (hc : canD t.md s.d = true) : OdOk rs (adv t i s) := by
  obtain ⟨r, hr, hj⟩ := stepAt_row hs
  have hi : i < rs.length := (List.getElem?_eq_some_iff.mp hr).1
  refine ⟨line_snoc o.line ⟨fun j' h => o.all i j' hi h, fun s' w h1 h2 => ?_⟩, fun i' j hi' h => ?_⟩
  · have h1 : stepAt rs i (t.pl.getD i 0) = some s' := h1
    rw [hs] at h1
    cases h1
    rw [h2] at hc
    obtain ⟨i', j', s', a, b, c⟩ := (g.md _).mp (of_decide_eq_true hc)
    obtain ⟨r', hr', _⟩ := stepAt_row b
    exact ⟨i', j', s', o.all i' j' (List.getElem?_eq_some_iff.mp hr').1 a, b, c⟩
  · have e : (adv t i s).pl.getD i' 0 = if i = i' then t.pl.getD i 0 + 1 else t.pl.getD i' 0 := getD_set (by rw [g.pl]; exact hi)
    rw [e] at h
    show (i', j) ∈ t.od ++ [(i, t.pl.getD i 0)]
    split at h
    · rename_i z
      subst z
      by_cases y : j = t.pl.getD i 0
      · rw [y]
        exact List.mem_append_right _ (List.mem_singleton.mpr rfl)
      · exact List.mem_append_left _ (o.all i j hi (by omega))
    · exact List.mem_append_left _ (o.all i' j hi' h)
theorem run_od : ∀ (m : Nat) (t : Sta), Good rs t → OdOk rs t → OdOk rs (runO rs m t)
  | 0, _, _, o => o
  | m + 1, t, g, o => by
    cases e : ready rs t.pl t.md with
    | none =>
      rw [runO_fix e]
      exact o
    | some i =>
      obtain ⟨r, s, a, b, c⟩ := ready_some e
      have hs := stepAt_of a b
      rw [runO_step e hs]
      exact run_od m _ (good_adv g hs) (od_adv g o hs c)
theorem last_od (rs : List Row) : OdOk rs (lastO rs) := run_od _ _ (good0 rs) (od0 rs)
theorem send_one (h : Valid rs) {i j i' j' : Nat} {s s' : Stp} {w : Str} (a : stepAt rs i j = some s) (b : s.d = some (true, w)) (c : stepAt rs i' j' = some s') (d : s'.d = some (true, w)) : i = i' ∧ j = j' := by
  obtain ⟨r, hr, hj⟩ := stepAt_row a
  obtain ⟨r', hr', hj'⟩ := stepAt_row c
  have m1 : ((r.n, j), some (true, w)) ∈ flat rs := mem_flat.mpr ⟨i, r, s, hr, hj, rfl, b⟩
  have m2 : ((r'.n, j'), some (true, w)) ∈ flat rs := mem_flat.mpr ⟨i', r', s', hr', hj', rfl, d⟩
  have e := nd_inj (sends_nd h.once) (mem_sends.mpr m1) (mem_sends.mpr m2)
  refine ⟨?_, congrArg Prod.snd e⟩
  have en : r.n = r'.n := congrArg Prod.fst e
  refine (List.getElem?_inj (l := rs.map (·.n)) (by rw [List.length_map]; exact (List.getElem?_eq_some_iff.mp hr).1) h.nd).mp ?_
  rw [List.getElem?_map, List.getElem?_map, hr, hr']
  show some r.n = some r'.n
  rw [en]
theorem cut_in {i j : Nat} {s : Stp} (hl : pl.length = rs.length) (h : stepAt (cutR rs pl) i j = some s) : j < pl.getD i 0 ∧ stepAt rs i j = some s := by
  rw [cut_step hl] at h
  split at h
  · rename_i z
    exact ⟨z, h⟩
  · cases h
theorem lin_cut (hv : Valid rs) (hl : pl.length = rs.length) (hc : canB rs pl = true) : Lin (cutR rs pl) := by
  have o := last_od rs
  refine ⟨(lastO rs).od.filter fun p => decide (p.2 < pl.getD p.1 0), fun i j s h => ?_, fun k i j hk => ?_⟩
  · obtain ⟨h1, h2⟩ := cut_in hl h
    obtain ⟨r, hr, hj⟩ := stepAt_row h2
    refine List.mem_filter.mpr ⟨o.all i j (List.getElem?_eq_some_iff.mp hr).1 ?_, decide_eq_true h1⟩
    rw [hv.done i r hr]
    exact (List.getElem?_eq_some_iff.mp hj).1
  · generalize hL : (lastO rs).od.filter (fun p => decide (p.2 < pl.getD p.1 0)) = L at hk
    have hkl := (List.getElem?_eq_some_iff.mp hk).1
    have e : L = L.take k ++ (i, j) :: L.drop (k + 1) := by
      rw [← (List.getElem?_eq_some_iff.mp hk).2, List.getElem_cons_drop, List.take_append_drop]
    rw [e] at hL
    obtain ⟨l1, l2, e1, e2, e3⟩ := List.filter_eq_append_iff.mp hL
    obtain ⟨m1, m2, f1, f2, f3, f4⟩ := List.filter_eq_cons_iff.mp e3
    have hij : j < pl.getD i 0 := of_decide_eq_true f3
    obtain ⟨g1, g2⟩ := o.line (l1 ++ m1) (i, j) m2 (by rw [e1, f1, List.append_assoc])
    have keep : ∀ p : Nat × Nat, p ∈ l1 ++ m1 → p.2 < pl.getD p.1 0 → p ∈ L.take k := fun p mp hp => by
      rw [← e2]
      rcases List.mem_append.mp mp with mp | mp
      · exact List.mem_filter.mpr ⟨mp, decide_eq_true hp⟩
      · exact absurd (decide_eq_true hp) (f2 p mp)
    refine ⟨fun j' h => keep (i, j') (g1 j' h) (Nat.lt_trans h hij), fun s w hs hd => ?_⟩
    obtain ⟨_, hs2⟩ := cut_in hl hs
    obtain ⟨i', j', s', a, b, c⟩ := g2 s w hs2 hd
    have md : (false, w) ∈ deeds (cutR rs pl) := mem_deeds.mpr ⟨i, j, s, hs, hd⟩
    have ms := of_decide_eq_true (List.all_eq_true.mp hc w ((mem_cutW hl).mpr md))
    obtain ⟨i2, j2, s2, a2, b2⟩ := mem_deeds.mp ((mem_cutW hl).mp ms)
    obtain ⟨h1, h2⟩ := cut_in hl a2
    obtain ⟨rfl, rfl⟩ := send_one hv b c h2 b2
    exact ⟨i', j', s2, keep _ a h1, a2, b2⟩
theorem valid_cut (hv : Valid rs) (hl : pl.length = rs.length) (hc : canB rs pl = true) : Valid (cutR rs pl) where
  few := by rw [cutR_len hl]; exact hv.few
  name r m := by
    obtain ⟨p, mp, rfl⟩ := List.mem_map.mp m
    exact hv.name p.1 (List.of_mem_zip mp).1
  nd := by rw [cut_names hl]; exact hv.nd
  len r m := by
    obtain ⟨p, mp, rfl⟩ := List.mem_map.mp m
    have := hv.len _ (List.of_mem_zip mp).1
    show (p.1.s.take p.2).length ≤ 20
    rw [List.length_take]
    omega
  step r m s ms := by
    obtain ⟨p, mp, rfl⟩ := List.mem_map.mp m
    exact hv.step _ (List.of_mem_zip mp).1 s (List.mem_of_mem_take ms)
  once := List.Nodup.sublist (cut_deeds rs pl) hv.once
  sent w m := (mem_cutW hl).mp (of_decide_eq_true (List.all_eq_true.mp hc w ((mem_cutW hl).mpr m)))
  done := lin_done (lin_cut hv hl hc)
end
end My
set_option Elab.async false
set_option linter.all false
set_option maxRecDepth 100000
namespace My
open PySem PySem.Spec PyProof.Rows L2 TL
/-! ### Log.upto -/
def cutF : PyData → PyData
  | .tuple [.tuple [nm, .tuple ds], .int n] => .tuple [nm, .tuple (cutD ds none (some n))]
  | d => d
theorem cutF_row (r : Row) (n : Nat) : cutF (.tuple [rowT r, .int (n : Nat)]) = rowP (cutRow r n) := by
  show PyData.tuple [.str r.n, .tuple (cutD (r.s.map stpP) none (some (n : Int)))] = .tuple [.str r.n, .tuple ((r.s.take n).map stpP)]
  rw [cutD_to, List.map_take]
theorem zip_rows (rs : List Row) (pl : List Nat) : zipD (rs.map rowT) (pl.map fun n => PyData.int (n : Nat)) = (rs.zip pl).map fun p => .tuple [rowT p.1, .int (p.2 : Nat)] := by
  unfold zipD
  rw [List.zip_map, List.map_map]
  rfl
theorem cut_rows (rs : List Row) (pl : List Nat) : (zipD (rs.map rowT) (pl.map fun n => PyData.int (n : Nat))).map cutF = (cutR rs pl).map rowP := by
  unfold cutR
  rw [zip_rows, List.map_map, List.map_map]
  exact List.map_congr_left fun p _ => cutF_row p.1 p.2
theorem lens_few {rs : List Row} (h : Valid rs) : (lensOf rs).length ≤ 6 := by unfold lensOf; rw [List.length_map]; exact h.few
theorem small_cut {rs : List Row} {pl : List Nat} (h : Valid rs) (hl : pl.length = rs.length) : Small (cutR rs pl) := by
  have each : ∀ r ∈ cutR rs pl, r.s.length ≤ 20 := fun r m => by
    obtain ⟨p, mp, rfl⟩ := List.mem_map.mp m
    have := h.len _ (List.of_mem_zip mp).1
    show (p.1.s.take p.2).length ≤ 20
    rw [List.length_take]
    omega
  have few := h.few
  refine ⟨by rw [cutR_len hl]; omega, ?_, fun d m => h.small.word d ((cut_deeds rs pl).subset m)⟩
  have := sum_map_le ((cutR rs pl).map fun r => r.s.length) 20 fun x hx => by
    obtain ⟨r, hr, rfl⟩ := List.mem_map.mp hx
    exact each r hr
  rw [List.length_map, cutR_len hl] at this
  omega
section
variable {K : PySem.W.Frag} {S : Sh} {H : Hp} {σ : L2.St}
theorem g_nest {i j m : Nat} {v : V} {d1 d2 d3 : PyData} {Q : L2.St → Hp → Prop} (h : Ds K S H v (.tuple [.tuple [d1, d2], d3])) (k : ∀ x y z, Ds K S H x d1 → Ds K S H y d2 → Ds K S H z d3 → Q (((σ.set i (some x)).set j (some y)).set m (some z)) H) :
    gTup K 2 (gCons (gTup K 2 (gCons (gName i) (gCons (gName j) gNil))) (gCons (gName m) gNil)) v σ H Q := by
  obtain ⟨a, xs, rfl, l, hs⟩ := h.t
  obtain ⟨p, z, rfl, hp, hz⟩ := hs.two
  exact ⟨a, _, rfl, l.sq, rfl, p, _, rfl, g_tup2 hp fun x y hx hy => ⟨z, _, rfl, rfl, k x y z hx hy hz⟩⟩
theorem mk_logS {C : Addr} {te : TE} {rs : List Row} {E : XK} {Q : VK} (l : Live S H) (h : SV K S te σ H (.list (rs.map rowP))) (hv : Valid rs) (k : ∀ a H', Same H H' → LogAt K C S H' a rs → Q (.ref a) H') : tMakeS K C (spInit K C) E te σ H Q := by
  refine h.run l fun v H1 s1 hd => ?_
  obtain ⟨b, vs, rfl, lb, hvs⟩ := Ds.l hd
  refine ⟨b, vs, rfl, .inr lb.sq, fun x dx nx ndx ne => ?_⟩
  have l1 := l.same s1
  have nn : Now S H1 (fun a => S a ∨ a = x) (upd (upd H1 dx (.own x)) x (.ins C dx [])) := (Now.of l1 (same_upd ndx)).trans (Now.add (l1.same (same_upd ndx)) (by rw [upd_ne ne.symm]; exact nx))
  refine ⟨_, x, dx, vs, rs, rfl, nn.live, .inr rfl, upd_same, hvs.now nn, hv, fun r o H' hk' hx' hr' ho' => ⟨rfl, ?_⟩⟩
  refine k x H' (fun b u hb => ?_) ⟨hv, dx, r, o, l1.ne nx, hx', hr'.less fun b z => .inl z, ho'.less fun b z => .inl z⟩
  have hb1 := s1 _ _ hb
  exact hk' b u (nn.same _ _ hb1) fun z => by rw [z, nx] at hb1; cases hb1
end
def momE (cI : Addr) (E : XK) (v : V) (H : Hp) : Prop := ∀ dd H1, Same H H1 → H1 dd = none → E (.ref cI) (some dd) (upd H1 dd (.xd (flds "InvalidMoment" ["value"] [v])))
def spUpto (K : PySem.W.Frag) (C cI : Addr) : Sp := fun vs H Q E => ∃ (S : Sh) (a : Addr) (v : V) (d : PyData) (rs : List Row), vs = [.ref a, v] ∧ Live S H ∧ LogAt K C S H a rs ∧ Ds K S H v d ∧ fine d = true ∧
  (momB rs d = true → ∀ b H', Same H H' → LogAt K C S H' b (cutR rs (plOf d)) → Q (.ref b) H') ∧ (momB rs d = false → momE cI E v H)
section
variable {P : Program} {w : World} {K : PySem.W.Frag} {mg : Str → Option Value} {base : Heap} {A : Top}
set_option maxHeartbeats 0 in
theorem ok_upto (T : TopOk K mg A) : FnOk P w K mg base (L2N.CX P w) 10 A.f_Log_upto A.d_Log_upto P_Log_upto (spUpto K A.c_Log A.c_InvalidMoment) := by
  have G_are_places : FnOk P w K mg base CX0 2 A.f_are_places A.d_are_places P_are_places (spPlaces K) := ok_are_places T
  have G_Log_lengths : FnOk P w K mg base CX0 1 A.f_Log_lengths A.d_Log_lengths P_Log_lengths (spMeth K A.c_Log fun rs => ptP (lensOf rs)) := ok_lengths T
  have G_first_unsent : FnOk P w K mg base CX0 2 A.f_first_unsent A.d_first_unsent P_first_unsent (spLack K) := ok_first_unsent T
  have G_i_Log : FnR P w K mg base CX0 8 A.f_i_Log (spInit K A.c_Log) := ok_init T
  refine fun_okN T.F_Log_upto sc_Log_upto (fun vs H Q E h => ?_) (fun cdv Ar outer s H vs Q E hr h TK => ?_)
  · obtain ⟨S, a, v, d, rs, rfl, _⟩ := h
    rfl
  · obtain ⟨S, a, v, d, rs, rfl, hL, hlog, hv, hf, kq, ke⟩ := h
    refine ⟨_, (pss_cons (ps_if (pt_not (pt_val (pe_call G_are_places (hr.mono (by decide)) (by rfl) T.g_are_places T.F_are_places.kp T.a_are_places .nil pass0 (pa_cons (pv 1) (pa_cons (pe_meth0 (pv 0) T.cl_Log T.me_Log_lengths G_Log_lengths (hr.mono (by decide)) T.a_Log_lengths .nil pass0) pa_nil)))))
      (pss_one (L2N.ps_raise rfl TK (pmk_oxt T.X_InvalidMoment T.tt_InvalidMoment T.i_InvalidMoment T.t_InvalidMoment (ok_i_InvalidMoment T) (hr.mono (by decide)) T.a_i_InvalidMoment rfl (by decide) pass0 (by rfl) T.m_InvalidMoment (pa_cons (pv 1) pa_nil))))
      pss_nil)
      (pss_cons (ps_setLc (i := 2) (own := [("place", 3), ("name", 4), ("steps", 5)]) (g := gTup K 2 (gCons (gTup K 2 (gCons (gName 4) (gCons (gName 5) gNil))) (gCons (gName 3) gNil))) (te := tTup (tCons (tVar 4) (tCons (tSl (rSlA K) (tVar 5) tNoPart (tPart (tVar 3))) tNil))) (by rfl) sc_Log_upto.nd rfl rfl (sw_true rfl rfl rfl (by decide +kernel)) (pi_zipLT (by rfl) T.b_zip (pa_cons (pe_fld (pv 0) rfl) (pa_cons (pv 1) pa_nil))) (blkOk_by (own := [("place", 3), ("name", 4), ("steps", 5)]) (N := N_Log_upto) (sc := defScope s_Log_upto) (by decide +kernel)) (fun _ _ _ _ _ => (pg_tup rfl (pgs_cons (pg_tup rfl (pgs_cons (pg_name (i := 4) sc_Log_upto.nd rfl (by first | exact Or.inl rfl | exact Or.inr rfl)) (pgs_cons (pg_name (i := 5) sc_Log_upto.nd rfl (by first | exact Or.inl rfl | exact Or.inr rfl)) pgs_nil))) (pgs_cons (pg_name (i := 3) sc_Log_upto.nd rfl (by first | exact Or.inl rfl | exact Or.inr rfl)) pgs_nil)))) (fun _ _ _ _ _ => pts_nil) (fun _ _ _ _ _ => (pe_tup (pa_cons (pv 4) (pa_cons (pe_slice L2.sl_tupA (pv 5) po_none (po_some (pv 3))) pa_nil)))))
      (pss_cons (ps_if (pt_cmpR op_notN (pe_call G_first_unsent (hr.mono (by decide)) (by rfl) T.g_first_unsent T.F_first_unsent.kp T.a_first_unsent .nil pass0 (pa_cons (pv 2) pa_nil)) pe_non (nomark _))
      (pss_one (L2N.ps_raise rfl TK (pmk_oxt T.X_InvalidMoment T.tt_InvalidMoment T.i_InvalidMoment T.t_InvalidMoment (ok_i_InvalidMoment T) (hr.mono (by decide)) T.a_i_InvalidMoment rfl (by decide) pass0 (by rfl) T.m_InvalidMoment (pa_cons (pv 1) pa_nil))))
      pss_nil)
      (pss_one (ps_ret (pe_makeS1 T.mk_Log G_i_Log (hr.mono (by decide)) (by rfl) T.m_Log pass0 (pv 2))))))), ?_⟩
    have val := hlog.val
    show tSeq (tIfS _ _ _) _ _ [some (.ref a), some v, none, none, none, none] H
    refine seq_if (S := S) (b := !placesB d (lensOf rs)) hL (sb_not (sb_val (sv_T (K := K) (S := S) (f := fun x : PyData × List Nat => PyData.bool (placesB x.1 x.2)) (enc := fun x : PyData × List Nat => [x.1, ptP x.2]) (d, lensOf rs) (sa_cons (sv_var rfl hv) (sa_cons (sl_meth (f := fun rs => ptP (lensOf rs)) (sl_var rfl hlog) (fun _ _ => rfl)) sa_nil)) rfl ⟨hf, lens_few val⟩))) (fun e H1 s1 l1 => ?_) fun e H1 s1 l1 => ?_
    · have e : placesB d (lensOf rs) = false := by simpa using e
      exact ⟨v, rfl, rfl, fun dd nd => ke (mom_bad e) dd H1 s1 nd⟩
    · have e : placesB d (lensOf rs) = true := by simpa using e
      obtain ⟨ed, hpl, hle⟩ := places_is e
      have hpl' : (plOf d).length = rs.length := by rw [hpl]; unfold lensOf; rw [List.length_map]
      have em : momB rs d = canB rs (plOf d) := by
        unfold momB
        rw [e, Bool.true_and]
        exact mom_can val hpl'
      generalize plOf d = pl at ed hpl' em kq
      subst ed
      have hv1 : Ds K S H1 v (.tuple (pl.map fun n => .int (n : Nat))) := hv.same s1
      have hlog1 := hlog.same s1
      dsimp only [tNext]
      show tSeq (tAsg _ (gName 2)) _ _ [some (.ref a), some v, none, none, none, none] H1
      refine set_sv (K := K) (S := S) l1 (sv_is (sv_lcM (K := K) (S := S) (si_zipLT (sv_rows T.cl_Log T.na_Log_rows hlog1 rfl) (sv_var (i := 1) rfl hv1)) ?_ cutF fun d S' H' v' Q' m n hd kk => ?_) (congrArg PyData.list (cut_rows rs pl))) fun vr H2 s2 l2 hvr => ?_
      · rw [zipD_len, List.length_map]
        have := val.few
        omega
      · rw [zip_rows] at m
        obtain ⟨p, mp, rfl⟩ := List.mem_map.mp m
        have hd : Ds K S' H' v' (.tuple [.tuple [.str p.1.n, .tuple (p.1.s.map stpP)], .int (p.2 : Nat)]) := hd
        refine g_nest hd fun x y z hx hy hz => kk [some (.ref a), some v, none, some z, some x, some y] rfl ?_
        exact sv_is (sv_tup (sa_cons (sv_var (i := 4) rfl hx) (sa_cons (sv_slA (hi := some ((p.2 : Nat) : Int)) (sv_var (i := 5) rfl hy) sp_no (sp_some (sv_var (i := 3) rfl hz))) sa_nil)) rfl) rfl
      · dsimp only [List.set]
        have s02 := s1.trans s2
        show tSeq (tIfS _ _ _) _ _ [some (.ref a), some v, some vr, none, none, none] H2
        refine seq_if (S := S) (b := !canB rs pl) l2 (sb_is (sb_test (sv_notN (sv_T (K := K) (S := S) (f := fun x : RowsX => lackP (deeds x.2)) (enc := encR) (true, cutR rs pl) (sa_cons (sv_var (i := 2) rfl hvr) sa_nil) rfl (small_cut val hpl')))) (by rw [← cut_lack hpl'])) (fun e H3 s3 l3 => ?_) fun e H3 s3 l3 => ?_
        · have e : canB rs pl = false := by simpa using e
          exact ⟨v, rfl, rfl, fun dd nd => ke (em.trans e) dd H3 (s02.trans s3) nd⟩
        · have e : canB rs pl = true := by simpa using e
          exact mk_logS (K := K) (S := S) l3 (sv_var (i := 2) rfl (hvr.same s3)) (valid_cut val hpl' e) fun b H4 s4 hl => kq (em.trans e) b H4 ((s02.trans s3).trans s4) hl
end
end My
set_option Elab.async false
set_option linter.all false
set_option maxRecDepth 100000
set_option maxHeartbeats 1000000
namespace My
open PySem PySem.Spec PyProof.Rows L2 TL L2H LamX
/-! ### _law_why(lambda: ..) -/
theorem pe_less {X : Cx} {e : Expr} {t t' : TE} (h : PE X e t) (w : ∀ σ H Q, t' σ H Q → t σ H Q) : PE X e t' := ⟨fun pins s σ H Q I q => h.run pins s σ H Q I (w _ _ _ q)⟩
section
variable {X : Cx} {pins : List (Addr × Obj)} {σ : L2.St} {H : Hp} {s : Shared} {t : LamT} {k : Nat} {f : Addr} {know : Hp → Prop} {tl : XK → Hp → VK → Prop} {tbE : XK → TE}
theorem ask_lam (I : Inv X pins σ H s) (L : LamN X t.sc) (hbind : ∀ (pm ct : Value) (c' : Addr) (s2 : Shared), BindsTo s2 { t.fd X pm ct c' with defaults := .none } ⟨[], []⟩ [])
    (hb : ∀ (E : XK) (A2 : Around) (l2 : List Env) (s2 : Shared) (H2 : Hp) (c' : Addr), Room k (A2.deeper (lamEnv X t.sc s2.heap.objs.size f c')) → PE (t.cx X A2 l2 s2 H2 E f c') t.body (tbE E))
    (hk : ∀ E Hz Q, know Hz → tl E Hz Q → LamIn t X Hz f .none ∧ tbE E σ Hz Q) : Ask X H s k know f tl := fun CXg Eg E Ng qg a sg g cdg i pn xe W p1 p2 A outer s0 H0 w tk hW hr hN hv ha ha2 =>
  pe_less (pe_act (as := []) (dv := .none) (tb := tbE E) (p1 := p1) (p2 := p2) I L w (fun pm ct c' s2 us hu hl => by
    rw [List.zip_nil_left]
    exact hbind pm ct c' s2) (fun y hy => by cases hy) tk hW hr (hb E) hN hv ha ha2) fun σz Hz Q ⟨h1, h2, h3⟩ => ⟨h1, (hk E Hz Q h2 h3).1, ⟨[], .inl ⟨rfl, rfl⟩, rfl⟩, (hk E Hz Q h2 h3).2⟩
end
/-- what is wished of _law_why(lambda: ..) -/
def tWhyL (A : Top) (t : LamT) (X : Cx) (T : List (Addr × Str)) (P : Addr) (tbE : XK → TE) : TE := fun σ H Q => Tabs T H ∧ ∀ H1 f, Ext P H H1 → Tabs T H1 → LamIn t X H1 f .none → ∃ (know : Hp → Prop) (tl : XK → Hp → VK → Prop), MonoT tl ∧
  (∀ E Hz Q, know Hz → tl E Hz Q → LamIn t X Hz f .none ∧ tbE E σ Hz Q) ∧ know H1 ∧ tl (gotX X.K (caughtC A) (whyQ Q)) H1 (gotT (whyQ Q))
theorem pe_whyL {X : Cx} {A : Top} {T0 : List (Addr × Str)} {c P : Addr} {ps : Arguments} {body : Expr} {sc : Scope} {k : Nat} {tbE : XK → TE} {p1 p2 p3 : Pos} (T : TopOk X.K X.mg A) (hr : Room (k + 8) X.A) (TB : TabB X.base X.mg c P) (hcode : X.env.code = .ref c)
    (hm : (P, X.env.qual ++ "<lambda>") ∈ T0) (hu : ∀ p ∈ T0, p.1 = P → p.2 = X.env.qual ++ "<lambda>") (L : LamN X sc) (hdef : defaultsOf ps X.env = ([], [])) (hbind : ∀ (pm ct : Value) (c' : Addr) (s2 : Shared), BindsTo s2 { (LamT.mk ps body sc).fd X pm ct c' with defaults := .none } ⟨[], []⟩ [])
    (hb : ∀ (f : Addr) (E : XK) (A2 : Around) (l2 : List Env) (s2 : Shared) (H2 : Hp) (c' : Addr), Room k (A2.deeper (lamEnv X sc s2.heap.objs.size f c')) → PE ((LamT.mk ps body sc).cx X A2 l2 s2 H2 E f c') body (tbE E)) (hg : Gl X "_law_why")
    (hst : starEach [.Lambda ps body sc p2] X.env = [(false, eval (.Lambda ps body sc p2) X.env)] := by rfl) (hpl : (backTo p3 (starEach [] X.env)).any (·.1) = false := by rfl) :
    PE X (.Call (.Name "_law_why" p1) [.Lambda ps body sc p2] [] p3) (tWhyL A ⟨ps, body, sc⟩ X T0 P tbE) := ⟨fun pins s1 σ H1 Q1 I1 ⟨h1, h2⟩ => by
  have lam : PE X (.Lambda ps body sc p2) (tLam0 ⟨ps, body, sc⟩ X T0 P) := pe_lam0 (t := ⟨ps, body, sc⟩) TB hcode hm hu (fun ok => L.has ok) hdef
  have args := pa_cons lam pa_nil
  refine wpAny_Call_Name_kw (ld_glob I1 hg T.g_Lwhy (PySem.W.callWith_K (h₀ := X.base) I1.ok.mod.kin T.F_Lwhy.kp (thn (args.run p3 pins s1 σ H1 (fun xs G => ∃ f, xs = [.ref f] ∧ ∃ (know : Hp → Prop) (tl : XK → Hp → VK → Prop), MonoT tl ∧
    (∀ E Hz Q, know Hz → tl E Hz Q → LamIn ⟨ps, body, sc⟩ X Hz f .none ∧ tbE E σ Hz Q) ∧ know G ∧ tl (gotX X.K (caughtC A) (whyQ Q1)) G (gotT (whyQ Q1))) I1 ⟨h1, fun G f e tb _ li => ⟨f, rfl, h2 G f e tb li⟩⟩) fun us s2 ⟨vs, G, I2, r, f, ev, know, tl, mt, hk, k1, k2⟩ => ⟨I2.kIn, ?_⟩) hst hpl) (by decide))
  subst ev
  cases r with
  | cons r0 rr =>
    cases rr
    have eu : _ = Value.ref f := r0
    subst eu
    have wrun := why_run (X := X) (Q := Q1) T (ask_lam (t := ⟨ps, body, sc⟩) I2 L hbind (hb f) hk) mt Sleeps.start I2.env0 hr k1 k2
    refine wpAny_call (codeAny_mono wrun fun rs s3 hq => ?_)
    match rs, hq with
    | .ok (.ret u), hq => exact I2.after hq⟩
/-! ### the lambdas of the law -/
section
variable {P : Program} {w : World} {K : PySem.W.Frag} {mg : Str → Option Value} {base : Heap} {A : Top}
theorem mono_momE (cI : Addr) (v : V) : MonoT (fun E H _ => momE cI E v H) := fun E E' _ _ H he _ h dd H1 s n => he _ _ _ (h dd H1 s n)
/-- what the law makes of the error -/
theorem why_mom {S : Sh} {H : Hp} {v : V} {d : PyData} {Q : VK} (T : TopOk K mg A) (l : Live S H) (noT : ∀ a xs, S a → H a ≠ some (.tup xs)) (hv : Ds K S H v d) (q : ∀ u H', Same H H' → Ds K S H' u (.tuple [.str "InvalidMoment", .tuple [d]]) → Q u H') :
    momE A.c_InvalidMoment (gotX K (caughtC A) (whyQ Q)) v H := fun dd H1 s1 nd => by
  have s2 := s1.trans (same_upd (o := .xd (flds "InvalidMoment" ["value"] [v])) nd)
  refine ⟨A.c_InvalidMoment, dd, flds "InvalidMoment" ["value"] [v], v, rfl, rfl, of_decide_eq_true T.em_InvalidMoment, T.X_InvalidMoment.field, noB_at T.no_InvalidMoment (by decide), noB_at T.no_InvalidMoment (by decide), upd_same, rfl, rfl, fun p r H2 s3 hp hq => ?_⟩
  have s4 := s2.trans s3
  have out : ∀ a xs, H2 a = some (.tup xs) → ¬ S a := fun a xs e z => by
    obtain ⟨o, eo⟩ := l a z
    have e2 := s4 _ _ eo
    rw [e] at e2
    exact noT a xs z (eo.trans e2.symm)
  refine ⟨r, "InvalidMoment", .ref p, rfl, hq, fun z => absurd z (by decide), fun _ => q _ H2 s4 (.tup ⟨out _ _ hq, hq⟩ (.cons (.str _) (.cons (.tup ⟨out _ _ hp, hp⟩ (.cons (hv.same s4) .nil)) .nil)))⟩
end
end My
set_option Elab.async false
set_option linter.all false
set_option maxRecDepth 100000
namespace My
open PySem PySem.Spec PyProof.Rows L2 TL
section
variable {P : Program} {w : World} {K : PySem.W.Frag} {mg : Str → Option Value} {base : Heap} {A : Top}
def spLupto (K : PySem.W.Frag) : Sp := spT K (fun x : List Row × List Nat => [.list (x.1.map rowP), ptP x.2]) (fun x => x.1.length ≤ 6 ∧ (∀ r ∈ x.1, r.k = true ∧ r.s.length ≤ 20) ∧ x.2.length = x.1.length) fun x => .list ((cutR x.1 x.2).map rowL)
theorem cut_range {rs : List Row} {pl : List Nat} (hl : pl.length = rs.length) (f : PyData → PyData) (h : ∀ i r, rs[i]? = some r → f (.int (i : Nat)) = rowL (cutRow r (pl.getD i 0))) : ((List.range rs.length).map fun i => PyData.int (i : Nat)).map f = (cutR rs pl).map rowL := by
  refine List.ext_getElem? fun i => ?_
  rw [List.getElem?_map, List.getElem?_map, List.getElem?_map, cutR_at hl]
  cases e : rs[i]? with
  | none =>
    rw [List.getElem?_eq_none (by rw [List.length_range]; exact List.getElem?_eq_none_iff.mp e)]
    rfl
  | some r =>
    rw [List.getElem?_range (List.getElem?_eq_some_iff.mp e).1]
    exact congrArg some (h i r e)
def cutI (rs : List Row) (pl : List Nat) : PyData → PyData
  | .int i => match rs[i.toNat]? with
    | some r => rowL (cutRow r (pl.getD i.toNat 0))
    | none => .none
  | _ => .none
theorem ok_Lupto (T : TopOk K mg A) : FnOk P w K mg base CX0 1 A.f_Lupto A.d_Lupto P_Lupto (spLupto K) := by
  refine T.F_Lupto.ok sc_Lupto (fun vs H Q E h => ?_) (fun cdv Ar outer s H vs Q E hr h => ?_)
  · obtain ⟨S, x, _, h, _⟩ := h
    obtain ⟨v, u, rfl, _⟩ := h.two
    rfl
  · obtain ⟨S, ⟨rs, pl⟩, hL, hds, hp, k⟩ := h
    obtain ⟨v, u, rfl, hv, hu⟩ := hds.two
    obtain ⟨h6, hk, hpl⟩ : rs.length ≤ 6 ∧ (∀ r ∈ rs, r.k = true ∧ r.s.length ≤ 20) ∧ pl.length = rs.length := hp
    have hv : Ds K S H v (.list (rs.map rowP)) := hv
    have hu : Ds K S H u (.tuple (pl.map fun n => .int (n : Nat))) := hu
    have k : ∀ w H', Same H H' → Ds K S H' w (.list ((cutR rs pl).map rowL)) → Q w H' := k
    refine ⟨_, (pss_one (ps_ret (pe_lc (own := [("_law_spot", 2)]) (g := gName 2) (te := tTup (tCons (tOp (rIx K) (tOp (rIx K) (tVar 0) (tVar 2)) (tC (.int 0))) (tCons (tSl (rSlL K) (tOp (rIx K) (tOp (rIx K) (tVar 0) (tVar 2)) (tC (.int 1))) tNoPart (tPart (tOp (rIx K) (tVar 1) (tVar 2)))) tNil))) (by rfl) sc_Lupto.nd (pi_range1 (by rfl) T.b_range (pa_cons (pe_callB call_len (by rfl) T.b_len (by decide +kernel) (pa_cons (pv 0) pa_nil)) pa_nil)) (blkOk_by (own := [("_law_spot", 2)]) (N := N_Lupto) (sc := defScope s_Lupto) (by decide +kernel)) (fun _ _ _ _ _ => (pg_name (i := 2) sc_Lupto.nd rfl (by first | exact Or.inl rfl | exact Or.inr rfl))) (fun _ _ _ _ _ => pts_nil) (fun _ _ _ _ _ => (pe_tup (pa_cons (pe_ix ix_seq (pe_ix ix_seq (pv 0) (pv 2) (fun _ _ => rfl)) pe_int (fun _ _ => rfl)) (pa_cons (pe_slice sl_list (pe_ix ix_seq (pe_ix ix_seq (pv 0) (pv 2) (fun _ _ => rfl)) pe_int (fun _ _ => rfl)) po_none (po_some (pe_ix ix_seq (pv 1) (pv 2) (fun _ _ => rfl)))) pa_nil))))))), ?_⟩
    show tRet _ _ [some v, some u, none] H
    refine ret_sv (K := K) (S := S) hL (sv_is (sv_lcM (K := K) (S := S) (si_rng (n := rs.length) (sv_is (sv_lenL (sv_var (i := 0) rfl hv)) (by rw [List.length_map])) (by omega)) ?_ (cutI rs pl) fun d S' H' v' Q' m n hd kk => ?_) (congrArg PyData.list (cut_range hpl _ fun i r e => ?_))) k
    · rw [rngD_len]
      omega
    · obtain ⟨j, mj, rfl⟩ := List.mem_map.mp m
      have hj : j < rs.length := List.mem_range.mp mj
      refine kk [some v, some u, some v'] rfl ?_
      have er : rs[j]? = some rs[j] := List.getElem?_eq_getElem hj
      have mr : rs[j] ∈ rs := List.getElem_mem hj
      generalize rs[j] = r at er mr
      obtain ⟨hkr, h20⟩ := hk r mr
      have ep : pl[j]? = some (pl.getD j 0) := by rw [List.getD_eq_getElem?_getD, List.getElem?_eq_getElem (by omega)]; rfl
      have erow : rowP r = .tuple [.str r.n, .list (r.s.map stpP)] := by unfold rowP; rw [hkr]; rfl
      have hrow : SV K S' (tOp (rIx K) (tVar 0) (tVar 2)) [some v, some u, some v'] H' (.tuple [.str r.n, .list (r.s.map stpP)]) := sv_is (sv_ixL (ds := rs.map rowP) (sv_var (i := 0) rfl (hv.now n)) (sv_var (i := 2) rfl hd) (atI_of (by rw [List.getElem?_map, er]; rfl))) erow
      refine sv_is (sv_tup (sa_cons (sv_ixA (ds := [.str r.n, .list (r.s.map stpP)]) hrow sv_int rfl) (sa_cons (sv_slL (ds := r.s.map stpP) (hi := some ((pl.getD j 0 : Nat) : Int)) (sv_ixA (ds := [.str r.n, .list (r.s.map stpP)]) hrow sv_int rfl) sp_no (sp_some (sv_ixA (ds := pl.map fun n => .int (n : Nat)) (sv_var (i := 1) rfl (hu.now n)) (sv_var (i := 2) rfl hd) (atI_of (by rw [List.getElem?_map, ep]; rfl))))) sa_nil)) rfl) ?_
      show _ = (match rs[j]? with | some r => rowL (cutRow r (pl.getD j 0)) | none => .none)
      rw [er, cutD_to, ← List.map_take]
      rfl
    · show (match rs[i]? with | some r => rowL (cutRow r (pl.getD i 0)) | none => .none) = _
      rw [e]
end
end My
set_option Elab.async false
set_option linter.all false
set_option maxRecDepth 100000
namespace My
open PySem PySem.Spec PyProof.Rows L2 TL
/-! ### what is no moment -/
def addI : PyData → PyData
  | .int i => .int (i + 1)
  | d => d
def intsD (ln : List Nat) : List PyData := ln.map fun n => .int (n : Nat)
def oddL (ln : List Nat) : List PyData := [.none, .int 3, .list [], .list (intsD ln), .tuple (intsD ln ++ [.int 0]), .tuple (cutD (intsD ln) (some (1 : Int)) none), .tuple ((intsD ln).map addI), .tuple (List.replicate ln.length (.bool true)), .tuple ((intsD ln).map fun _ => .int (-1)), .str "00"]
theorem all_len : ∀ (xs ys : List PyData), PyData.eqvAll xs ys = true → xs.length = ys.length
  | [], [], _ => rfl
  | [], _ :: _, h => by simp [PyData.eqvAll] at h
  | _ :: _, [], h => by simp [PyData.eqvAll] at h
  | x :: xs, y :: ys, h => by
    rw [PyData.eqvAll] at h
    rw [List.length_cons, List.length_cons, all_len xs ys (Bool.and_eq_true_iff.mp h).2]
theorem intsD_len (ln : List Nat) : (intsD ln).length = ln.length := List.length_map ..
theorem intsD_fine {ln : List Nat} : ∀ d ∈ intsD ln, fine d = true ∧ d.depth ≤ 20 := fun d m => by
  obtain ⟨n, _, rfl⟩ := List.mem_map.mp m
  exact ⟨rfl, by simp [PyData.depth]⟩
theorem odd12 {ln : List Nat} {kn : List PyData} {od : PyData} (h1 : 1 ≤ ln.length) (h6 : ln.length ≤ 6) (hk : ∀ z ∈ kn, ∃ p, okP p ln ∧ z = ptP p) (m : od ∈ oddL ln) :
    placesB od ln = false ∧ fine od = true ∧ ((kn.any fun z => PyData.eqv z od) = true → od = .tuple (List.replicate ln.length (.bool true))) := by
  have key : (kn.any fun z => PyData.eqv z od) = true → ∃ p, okP p ln ∧ PyData.eqv (ptP p) od = true := fun e => by
    obtain ⟨z, mz, ez⟩ := List.any_eq_true.mp e
    obtain ⟨p, hp, rfl⟩ := hk z mz
    exact ⟨p, hp, ez⟩
  have tupk : ∀ ds, od = .tuple ds → (kn.any fun z => PyData.eqv z od) = true → ∃ p, okP p ln ∧ PyData.eqvAll (intsD p) ds = true := fun ds e h => by
    obtain ⟨p, hp, ez⟩ := key h
    refine ⟨p, hp, ?_⟩
    rw [e] at ez
    have ez2 : PyData.eqvAll (p.map fun n => PyData.int (n : Nat)) ds = true := by simpa [ptP, PyData.eqv] using ez
    exact ez2
  have lenk : ∀ ds, od = .tuple ds → (kn.any fun z => PyData.eqv z od) = true → ds.length = ln.length := fun ds e h => by
    obtain ⟨p, hp, ez⟩ := tupk ds e h
    have := all_len _ _ ez
    rw [intsD_len, hp.1] at this
    exact this.symm
  have headk : ∀ l0 lr d0 dr, ln = l0 :: lr → od = .tuple (d0 :: dr) → (kn.any fun z => PyData.eqv z od) = true → ∃ p0 : Nat, p0 ≤ l0 ∧ PyData.eqv (.int (p0 : Nat)) d0 = true := fun l0 lr d0 dr el e h => by
    obtain ⟨p, hp, ez⟩ := tupk _ e h
    cases p with
    | nil =>
      have := hp.1
      rw [el] at this
      simp at this
    | cons p0 ps =>
      have h2 := hp.2 0 l0 (by rw [el]; rfl)
      have h2 : p0 ≤ l0 := h2
      refine ⟨p0, h2, ?_⟩
      unfold intsD at ez
      rw [List.map_cons, PyData.eqvAll] at ez
      exact (Bool.and_eq_true_iff.mp ez).1
  obtain ⟨l0, lr, el⟩ : ∃ l0 lr, ln = l0 :: lr := by
    cases ln with
    | nil => simp at h1
    | cons a b => exact ⟨a, b, rfl⟩
  have at0 : ln[0]? = some l0 := by rw [el]; rfl
  simp only [oddL, List.mem_cons, List.not_mem_nil, or_false] at m
  rcases m with e | e | e | e | e | e | e | e | e | e
  · subst e
    refine ⟨rfl, rfl, fun h => ?_⟩
    obtain ⟨p, _, ez⟩ := key h
    simp [ptP, PyData.eqv] at ez
  · subst e
    refine ⟨rfl, rfl, fun h => ?_⟩
    obtain ⟨p, _, ez⟩ := key h
    simp [ptP, PyData.eqv] at ez
  · subst e
    refine ⟨rfl, rfl, fun h => ?_⟩
    obtain ⟨p, _, ez⟩ := key h
    simp [ptP, PyData.eqv] at ez
  · subst e
    refine ⟨rfl, fine_seq (k := true) (by rw [intsD_len]; omega) intsD_fine, fun h => ?_⟩
    obtain ⟨p, _, ez⟩ := key h
    simp [ptP, PyData.eqv] at ez
  · have hl : (intsD ln ++ [PyData.int 0]).length = ln.length + 1 := by rw [List.length_append, intsD_len]; rfl
    refine ⟨by rw [e]; exact places_len (by rw [hl]; omega), ?_, fun h => ?_⟩
    · rw [e]
      refine fine_seq (k := false) (by rw [hl]; omega) fun d m => ?_
      rcases List.mem_append.mp m with m | m
      · exact intsD_fine d m
      · rw [List.mem_singleton.mp m]
        exact ⟨rfl, by simp [PyData.depth]⟩
    · have := lenk _ e h
      rw [hl] at this
      omega
  · rw [show (some (1 : Int)) = some ((1 : Nat) : Int) from rfl, cutD_from] at e
    have hl : ((intsD ln).drop 1).length = ln.length - 1 := by rw [List.length_drop, intsD_len]
    refine ⟨by rw [e]; exact places_len (by rw [hl]; omega), ?_, fun h => ?_⟩
    · rw [e]
      exact fine_seq (k := false) (by rw [hl]; omega) fun d m => intsD_fine d (List.mem_of_mem_drop m)
    · have := lenk _ e h
      rw [hl] at this
      omega
  · have ef : (intsD ln).map addI = .int ((l0 : Nat) + 1) :: (intsD lr).map addI := by rw [el]; rfl
    refine ⟨by rw [e]; exact places_bad (i := 0) (by rw [ef]; rfl) at0 (by show (decide ((0 : Int) ≤ (l0 : Nat) + 1) && decide (((l0 : Nat) : Int) + 1 ≤ (l0 : Nat))) = false; rw [decide_eq_false (p := ((l0 : Nat) : Int) + 1 ≤ (l0 : Nat)) (by omega), Bool.and_false]), ?_, fun h => ?_⟩
    · rw [e]
      refine fine_seq (k := false) (by rw [List.length_map, intsD_len]; omega) fun d m => ?_
      obtain ⟨d', m', rfl⟩ := List.mem_map.mp m
      obtain ⟨n, _, rfl⟩ := List.mem_map.mp m'
      exact ⟨rfl, by simp [addI, PyData.depth]⟩
    · obtain ⟨p0, hp, ez⟩ := headk _ _ _ _ el (e.trans (by rw [ef])) h
      have : ((p0 : Nat) : Int) = (l0 : Nat) + 1 := by simpa [PyData.eqv] using ez
      omega
  · refine ⟨by rw [e]; exact places_bad (i := 0) (by rw [el]; rfl) at0 rfl, ?_, fun _ => e⟩
    rw [e]
    refine fine_seq (k := false) (by rw [List.length_replicate]; omega) fun d m => ?_
    rw [(List.mem_replicate.mp m).2]
    exact ⟨rfl, by simp [PyData.depth]⟩
  · have ef : (intsD ln).map (fun _ => PyData.int (-1)) = .int (-1) :: (intsD lr).map (fun _ => PyData.int (-1)) := by rw [el]; rfl
    refine ⟨by rw [e]; exact places_bad (i := 0) (by rw [ef]; rfl) at0 rfl, ?_, fun h => ?_⟩
    · rw [e]
      refine fine_seq (k := false) (by rw [List.length_map, intsD_len]; omega) fun d m => ?_
      obtain ⟨d', m', rfl⟩ := List.mem_map.mp m
      exact ⟨rfl, by simp [PyData.depth]⟩
    · obtain ⟨p0, hp, ez⟩ := headk _ _ _ _ el (e.trans (by rw [ef])) h
      have : ((p0 : Nat) : Int) = -1 := by simpa [PyData.eqv] using ez
      omega
  · subst e
    refine ⟨rfl, by decide +kernel, fun h => ?_⟩
    obtain ⟨p, _, ez⟩ := key h
    simp [ptP, PyData.eqv] at ez
theorem lens_cut {rs : List Row} {p : List Nat} (h : okP p (lensOf rs)) : lensOf (cutR rs p) = p := by
  have hl : p.length = rs.length := by rw [h.1]; unfold lensOf; rw [List.length_map]
  refine List.ext_getElem? fun i => ?_
  unfold lensOf
  rw [List.getElem?_map, cutR_at hl]
  cases e : rs[i]? with
  | none =>
    rw [List.getElem?_eq_none (by rw [hl]; exact List.getElem?_eq_none_iff.mp e)]
    rfl
  | some r =>
    have hi := (List.getElem?_eq_some_iff.mp e).1
    have h2 := h.2 i r.s.length (by unfold lensOf; rw [List.getElem?_map, e]; rfl)
    show some (r.s.take (p.getD i 0)).length = p[i]?
    rw [List.length_take, Nat.min_eq_left h2, List.getD_eq_getElem?_getD, List.getElem?_eq_getElem (by omega)]
    rfl
theorem rowL_p {rs : List Row} (h : ∀ r ∈ rs, r.k = true) : rs.map rowL = rs.map rowP := List.map_congr_left fun r m => by
  unfold rowL rowP
  rw [h r m]
  rfl
theorem rowsL_fine {rs : List Row} (h : Valid rs) : fine (.list (rs.map rowL)) = true ∧ (PyData.list (rs.map rowL)).depth ≤ 5 := by
  have each : ∀ d ∈ rs.map rowL, fine d = true ∧ d.depth ≤ 4 := fun d m => by
    obtain ⟨r, mr, rfl⟩ := List.mem_map.mp m
    have := row_fine (r := ⟨r.n, true, r.s⟩) (h.name r mr) (Nat.le_trans (h.len r mr) (by decide)) (h.step r mr)
    exact ⟨this.1, this.2.1⟩
  exact ⟨fine_seq (k := true) (by rw [List.length_map]; have := h.few; omega) fun d m => ⟨(each d m).1, Nat.le_trans (each d m).2 (by decide)⟩, depth_seq (k := true) (n := 4) fun d m => (each d m).2⟩
end My
set_option Elab.async false
set_option linter.all false
set_option maxRecDepth 100000
namespace My
open PySem PySem.Spec PyProof.Rows L2 TL L2H LamX
/-! ### the law -/
abbrev qL : Str := (envOfC "law" (defScope s_law) 0 0 .none).qual ++ "<lambda>"
abbrev tUp (K : PySem.W.Frag) (A : Top) (ta tb : TE) : XK → TE := fun E => tMeth A.c_Log "upto" (spUpto K A.c_Log A.c_InvalidMoment) [] E ta (tCons tb tNil)
def SP2 (B : BagId) (Pt : Addr) : Sh := fun b => b = B.p ∨ b = Pt
def Tb (Pt : Addr) (H : Hp) : Prop := Tabs [(Pt, qL)] H
theorem lam_pass {t : LamT} {X : Cx} {A : Around} {outer : List Env} {s : Shared} {H : Hp} {E : XK} {f c' : Addr} : Passes (L2N.CX X.prog X.w) (t.cx X A outer s H E f c') E := L2N.passes_call (W := fun cls d _ H' => E cls d H') (L2N.takes_of rfl rfl rfl rfl) fun _ _ _ _ h => h
section
variable {K : PySem.W.Frag} {B : BagId} {Pt : Addr} {H H' : Hp} {v : V} {d : PyData} {C a : Addr} {rs : List Row}
theorem Tb.at (t : Tb Pt H) : ∃ ps, H Pt = some (.tbl ps) := by
  obtain ⟨ps, h, _⟩ := t _ (.head _)
  exact ⟨ps, h⟩
theorem Tb.same (t : Tb Pt H) (s : Same H H') : Tb Pt H' := fun p m => (t p m).ext s
theorem Tb.bag (t : Tb Pt H) (b : Bag B H) (x : Ext B.p H H') : Tb Pt H' := fun p m => by
  obtain ⟨ps, h1, h2, h3⟩ := t p m
  obtain ⟨i, g, mm, c, e, _⟩ := b
  have ne : ∀ (q : Addr) (o : HO), H q = some o → (∀ xs, o ≠ .lst xs) → q ≠ B.p := fun q o hq no z => by
    rw [z, e] at hq
    exact no _ (Option.some.inj hq).symm
  refine ⟨ps, x _ _ h1 (ne _ _ h1 fun xs z => by cases z), h2, fun pos cv hc => ?_⟩
  obtain ⟨c0, e1, e2⟩ := h3 pos cv hc
  exact ⟨c0, e1, x _ _ e2 (ne _ _ e2 fun xs z => by unfold CodeO at z; cases z)⟩
theorem Tb.ne (t : Tb Pt H) (b : Bag B H) : B.p ≠ Pt ∧ B.l ≠ Pt := by
  obtain ⟨ps, h⟩ := t.at
  obtain ⟨i, g, mm, c, e, e2, _⟩ := b
  exact ⟨fun z => (by rw [z, h] at e; cases e), fun z => (by rw [z, h] at e2; cases e2)⟩
theorem bag_tab (b : Bag B H) (t : Tb Pt H) (x : Ext Pt H H') : Bag B H' := by
  obtain ⟨n1, n2⟩ := t.ne b
  obtain ⟨i, g, m, c, h1, h2, r⟩ := b
  exact ⟨i, g, m, c, x _ _ h1 n1, x _ _ h2 n2, r⟩
theorem live2 (b : Bag B H) (t : Tb Pt H) : Live (SP2 B Pt) H := fun a z => by
  rcases z with z | z
  · rw [z]; exact b.there
  · rw [z]; obtain ⟨ps, h⟩ := t.at; exact ⟨_, h⟩
theorem no_tup (b : Bag B H) (t : Tb Pt H) : ∀ a xs, SP2 B Pt a → H a ≠ some (.tup xs) := fun a xs z e => by
  rcases z with z | z
  · obtain ⟨i, g, m, c, h1, _⟩ := b
    rw [z, h1] at e; cases e
  · obtain ⟨ps, h⟩ := t.at
    rw [z, h] at e; cases e
theorem Ds.wide (t : Tb Pt H) (h : Ds K (fun a => a = B.p) H v d) : Ds K (SP2 B Pt) H v d := by
  obtain ⟨ps, e⟩ := t.at
  refine Ds.map (fun a xs l => ⟨fun z => ?_, l.2⟩) (fun a xs l => ⟨fun z => ?_, l.2⟩) _ _ h
  · rcases z with z | z
    · exact l.1 z
    · have := l.2
      rw [z, e] at this; cases this
  · rcases z with z | z
    · exact l.1 z
    · have := l.2
      rw [z, e] at this; cases this
theorem Ds.thin (h : Ds K (SP2 B Pt) H v d) : Ds K (fun a => a = B.p) H v d := h.less fun _ z => .inl z
theorem x_bag (x : Ext B.p H H') : XS (SP2 B Pt) H H' := XS.ext x (.inl rfl)
theorem x_tab (x : Ext Pt H H') : XS (SP2 B Pt) H H' := XS.ext x (.inr rfl)
end
section
variable {K : PySem.W.Frag} {S : Sh} {C cI : Addr} {σ : L2.St} {H : Hp} {rs : List Row} {ta tb : TE} {d : PyData}
theorem sl_upto (h : SL K C S ta σ H rs) (hb : SV K S tb σ H d) (hf : fine d = true) (hm : momB rs d = true) : SL K C S (tMeth C "upto" (spUpto K C cI) [] E0 ta (tCons tb tNil)) σ H (cutR rs (plOf d)) := fun S1 H1 n Q q =>
  h S1 H1 n _ fun a H2 s2 h2 => by
    obtain ⟨dx, r, o, h4, h5, _⟩ := h2.at_
    exact ⟨a, dx, _, rfl, h5, rfl, hb S1 H2 (n.then s2) _ fun v H3 s3 hv => ⟨S1, a, v, d, rs, rfl, (n.live.same s2).same s3, h2.same s3, hv, hf, fun _ b H4 s4 hl => q b H4 ((s2.trans s3).trans s4) hl, fun e => by rw [hm] at e; cases e⟩⟩
theorem sl_uptoK {gV : List V → List V → List V} (h : SL K C S ta σ H rs) (hb : SV K S tb σ H d) (hf : fine d = true) (hm : momB rs d = true) (hg : ∀ u w, gV [u] [w] = [u, w]) : SL K C S (tMethN C "upto" 1 (spUpto K C cI) gV E0 ta (tCons tb tNil)) σ H (cutR rs (plOf d)) := fun S1 H1 n Q q =>
  h S1 H1 n _ fun a H2 s2 h2 => by
    obtain ⟨dx, r, o, h4, h5, _⟩ := h2.at_
    exact ⟨a, dx, _, rfl, h5, rfl, hb S1 H2 (n.then s2) _ fun v H3 s3 hv => ⟨rfl, S1, a, v, d, rs, hg _ _, (n.live.same s2).same s3, h2.same s3, hv, hf, fun _ b H4 s4 hl => q b H4 ((s2.trans s3).trans s4) hl, fun e => by rw [hm] at e; cases e⟩⟩
theorem sv_same {E : XK} {n : Nat} (ha : SV K S ta σ H d) (hb : SV K S tb σ H d) (hd : d.depth ≤ n) (hs : small d = true) : SV K S (tCall (spSameLt K (n + 1)) [] E (tCons ta (tCons tb tNil))) σ H (.bool true) := fun S1 H1 m Q q =>
  ha S1 H1 m _ fun v H2 s2 hv => hb S1 H2 (m.then s2) _ fun u H3 s3 hu => ⟨v, u, d, rfl, Ds.dp _ _ (hv.same s3), Ds.dp _ _ hu, hd, hs, fun H4 s4 => q _ _ ((s2.trans s3).trans s4) (.bl true)⟩
end
section
variable {P : Program} {w : World} {K : PySem.W.Frag} {mg : Str → Option Value} {base : Heap} {A : Top}
/-- what the lambda with the log's cell wishes, when the moment can't be -/
theorem up_why {S : Sh} {X : Cx} {t : LamT} {T0 : List (Addr × Str)} {Pt : Addr} {σ : L2.St} {H : Hp} {Q : VK} {i j : Nat} {b : Addr} {v : V} {d : PyData} {rs : List Row} (T : TopOk X.K X.mg A) (hi : σ[i]? = some (some (.ref b))) (hj : σ[j]? = some (some v)) (tb : Tabs T0 H)
    (hf : fine d = true) (hm : momB rs d = false) (back : ∀ H1, Ext Pt H H1 → Tabs T0 H1 → Live S H1 ∧ (∀ a xs, S a → H1 a ≠ some (.tup xs)) ∧ LogAt X.K A.c_Log S H1 b rs ∧ Ds X.K S H1 v d)
    (q : ∀ u H1 H2, Ext Pt H H1 → Tabs T0 H1 → Same H1 H2 → Ds X.K S H2 u (.tuple [.str "InvalidMoment", .tuple [d]]) → Q u H2) : tWhyL A t X T0 Pt (tUp X.K A (tVar i) (tVar j)) σ H Q := by
  refine ⟨tb, fun H1 f e1 tb1 li => ?_⟩
  obtain ⟨l1, no1, lg1, dv1⟩ := back H1 e1 tb1
  refine ⟨fun Hz => LamIn t X Hz f .none ∧ Live S Hz ∧ LogAt X.K A.c_Log S Hz b rs ∧ Ds X.K S Hz v d, fun E Hz _ => momE A.c_InvalidMoment E v Hz, mono_momE _ _, fun E Hz Q ⟨k1, k2, k3, k4⟩ ke => ⟨k1, ?_⟩, ⟨li, l1, lg1, dv1⟩, why_mom T l1 no1 dv1 fun u H2 s2 hu => q u H1 H2 e1 tb1 s2 hu⟩
  obtain ⟨dx, r, o, h4, h5, _⟩ := k3.at_
  exact ⟨_, hi, b, dx, _, rfl, h5, rfl, _, hj, S, b, v, d, rs, rfl, k2, k3, k4, hf, fun z => (by rw [hm] at z; cases z), fun _ => ke⟩
/-- the lambda that makes its log itself -/
theorem up_why0 {S : Sh} {X : Cx} {t : LamT} {T0 : List (Addr × Str)} {Pt : Addr} {σ : L2.St} {H : Hp} {Q : VK} (T : TopOk X.K X.mg A) (tb : Tabs T0 H) (back : ∀ H1, Ext Pt H H1 → Tabs T0 H1 → Live S H1 ∧ (∀ a xs, S a → H1 a ≠ some (.tup xs)))
    (q : ∀ u H1 H2, Ext Pt H H1 → Tabs T0 H1 → Same H1 H2 → Ds X.K S H2 u (.tuple [.str "InvalidMoment", .tuple [.tuple [.int 0]]]) → Q u H2) : tWhyL A t X T0 Pt (tUp X.K A (StX.tMakeR A.c_Log (spInit X.K A.c_Log) E0 tNil) (tTup (tCons (tC (.int 0)) tNil))) σ H Q := by
  refine ⟨tb, fun H1 f e1 tb1 li => ?_⟩
  obtain ⟨l1, no1⟩ := back H1 e1 tb1
  refine ⟨fun Hz => LamIn t X Hz f .none ∧ Live S Hz, fun E Hz _ => ∀ v H2, Same Hz H2 → Ds X.K S H2 v (.tuple [.int 0]) → momE A.c_InvalidMoment E v H2, fun E E' _ _ H he _ h v H2 s2 hv dd H3 s3 n => he _ _ _ (h v H2 s2 hv dd H3 s3 n), fun E Hz Q ⟨k1, k2⟩ ke => ⟨k1, ?_⟩, ⟨li, l1⟩, fun v H2 s2 hv => why_mom T (l1.same s2) (fun a xs z e => ?_) hv fun u H3 s3 hu => q u H1 H3 e1 tb1 (s2.trans s3) hu⟩
  · refine (sl_mk0 (K := X.K) (C := A.c_Log) (S := S) (E := E0) (σ := σ)) S Hz (Now.refl k2) _ fun b H2 s2 h2 => ?_
    obtain ⟨dx, r, o, h4, h5, _⟩ := h2.at_
    refine ⟨b, dx, _, rfl, h5, rfl, (sv_tup (K := X.K) (S := S) (σ := σ) (H := H2) (sa_cons (sv_int (i := 0)) sa_nil) rfl) S H2 (Now.refl (k2.same s2)) _ fun v H3 s3 hv => ?_⟩
    exact ⟨S, b, v, _, [], rfl, (k2.same s2).same s3, h2.same s3, hv, by decide, fun z => (by rw [mom_bad rfl] at z; cases z), fun _ => ke v H3 (s2.trans s3) hv⟩
  · obtain ⟨o, eo⟩ := l1 a z
    have e2 := s2 _ _ eo
    rw [e] at e2
    exact no1 a xs z (eo.trans e2.symm)
/-- a def whose code object is known -/
theorem fun_okC {x qual : Str} {st : Stmt} {f : Addr} {fd : FuncData} {N ps : List Str} {k : Nat} {sp : Sp} (F : Fun K x qual st f fd) (S : FnScope N ps (defScope st)) (len : ∀ vs H Q E, sp vs H Q E → vs.length = ps.length)
    (runs : ∀ (code : Value) (A : Around) (outer : List Env) (s : Shared) (H : Hp) (vs : List V) (Q : VK) (E : XK), fd.code = code → Room k (A.deeper (envOfC qual (defScope st) s.heap.objs.size f code)) → sp vs H Q E →
      ∃ t : TS, PSs (cxOf CX0 P w K mg base N qual (defScope st) f code A outer s H E).nox (defBody st) t ∧ t { nx := fun _ H1 => Q .non H1, rt := Q } (start N vs) H) : FnOk P w K mg base CX0 (k + 1) f fd ps sp := by
  obtain ⟨_, _, _, _, _, _, code, _, _, rfl, at_, coded⟩ := F.ex
  exact fn_of at_ coded S len fun A outer s H vs Q E room want => (runs code A outer s H vs Q E rfl room want).imp fun t h => ⟨h.1.nox, h.2⟩
end
end My
set_option Elab.async false
set_option linter.all false
set_option maxRecDepth 100000
namespace My
open PySem PySem.Spec PyProof.Rows L2 TL L2H LamX
def spLaw (K : PySem.W.Frag) (Pt : Addr) : Sp := fun vs H Q _ => ∃ (a : Addr) (ns : List Int), vs = [.ref a] ∧ SqL K H a (ns.map V.int) ∧ ns.length ≤ 63 ∧ H Pt = some (.tbl #[]) ∧ ∀ H', Q (.bl true) H'
theorem why_small {d : PyData} (hf : fine d = true) (hd : d.depth ≤ 4) : (PyData.tuple [.str "InvalidMoment", .tuple [d]]).depth ≤ 8 ∧ small (PyData.tuple [.str "InvalidMoment", .tuple [d]]) = true := by
  have h1 : fine (.tuple [d]) = true ∧ (PyData.tuple [d]).depth ≤ 5 := ⟨fine_seq (k := false) (by show 1 ≤ 5000; decide) fun e m => by rw [List.mem_singleton.mp m]; exact ⟨hf, by omega⟩, depth_seq (k := false) (n := 4) fun e m => by rw [List.mem_singleton.mp m]; exact hd⟩
  have h2 : fine (.str "InvalidMoment") = true ∧ (PyData.str "InvalidMoment").depth ≤ 5 := ⟨by decide +kernel, by simp [PyData.depth]⟩
  refine ⟨Nat.le_trans (depth_seq (k := false) (n := 5) fun e m => ?_) (by decide), fine_small (fine_seq (k := false) (by show 2 ≤ 5000; decide) fun e m => ?_)⟩
  · rcases List.mem_cons.mp m with rfl | m
    · exact h2.2
    · rw [List.mem_singleton.mp m]; exact h1.2
  · rcases List.mem_cons.mp m with rfl | m
    · exact ⟨h2.1, by omega⟩
    · rw [List.mem_singleton.mp m]; exact ⟨h1.1, by omega⟩
theorem odd_depth {ln : List Nat} {od : PyData} (m : od ∈ oddL ln) : od.depth ≤ 4 := by
  have it : ∀ {k : Bool} {ds : List PyData}, (∀ d ∈ ds, d.depth ≤ 3) → (seqD k ds).depth ≤ 4 := fun h => depth_seq (n := 3) h
  have ii : ∀ d ∈ intsD ln, d.depth ≤ 3 := fun d m => by
    obtain ⟨n, _, rfl⟩ := List.mem_map.mp m
    simp [PyData.depth]
  simp only [oddL, List.mem_cons, List.not_mem_nil, or_false] at m
  rcases m with e | e | e | e | e | e | e | e | e | e <;> rw [e]
  · simp [PyData.depth]
  · simp [PyData.depth]
  · exact it (k := true) fun d m => by cases m
  · exact it (k := true) ii
  · refine it (k := false) fun d m => ?_
    rcases List.mem_append.mp m with m | m
    · exact ii d m
    · rw [List.mem_singleton.mp m]; simp [PyData.depth]
  · rw [show (some (1 : Int)) = some ((1 : Nat) : Int) from rfl, cutD_from]
    exact it (k := false) fun d m => ii d (List.mem_of_mem_drop m)
  · refine it (k := false) fun d m => ?_
    obtain ⟨d', m', rfl⟩ := List.mem_map.mp m
    obtain ⟨n, _, rfl⟩ := List.mem_map.mp m'
    simp [addI, PyData.depth]
  · refine it (k := false) fun d m => ?_
    rw [(List.mem_replicate.mp m).2]; simp [PyData.depth]
  · refine it (k := false) fun d m => ?_
    obtain ⟨d', m', rfl⟩ := List.mem_map.mp m
    simp [PyData.depth]
  · simp [PyData.depth]
theorem rep_one (x : PyData) : ∀ k : Nat, (List.replicate k [x]).flatten = List.replicate k x
  | 0 => rfl
  | k + 1 => by rw [List.replicate_succ, List.replicate_succ, List.flatten_cons, rep_one x k]; rfl
theorem Tb.nil {Pt : Addr} {H : Hp} (h : H Pt = some (.tbl #[])) : Tb Pt H := fun p m => by
  cases List.mem_singleton.mp m
  exact TabS.nil h
section
variable {P : Program} {w : World} {K : PySem.W.Frag} {mg : Str → Option Value} {base : Heap} {A : Top}
set_option maxHeartbeats 0 in
theorem ok_law (T : TopOk K mg A) {c Pt : Addr} (hc : A.d_law.code = .ref c) (TB : TabB base mg c Pt) : FnOk P w K mg base CX0 22 A.f_law A.d_law P_law (spLaw K Pt) := by
  have G_Lbag : FnOk P w K mg base CX0 1 A.f_Lbag A.d_Lbag P_Lbag (spBag K) := ok_Lbag T
  have G_Lof : FnOk P w K mg base CX0 2 A.f_Lof A.d_Lof P_Lof (spOf K) := ok_Lof T
  have G_Lsmall_rows : FnOk P w K mg base CX0 5 A.f_Lsmall_rows A.d_Lsmall_rows P_Lsmall_rows (spLsmall K) := ok_Lsmall_rows T
  have G_Llog : FnOk P w K mg base CX0 10 A.f_Llog A.d_Llog P_Llog (spLlog K A.c_Log) := ok_Llog T
  have G_i_Log : FnR P w K mg base CX0 8 A.f_i_Log (spInit K A.c_Log) := ok_init T
  have G_Llengths : FnOk P w K mg base CX0 1 A.f_Llengths A.d_Llengths P_Llengths (spLlens K) := ok_Llengths T
  have G_Lpoints : FnOk P w K mg base CX0 2 A.f_Lpoints A.d_Lpoints P_Lpoints (spLpoints K) := ok_Lpoints T
  have G_Lmoments : FnOk P w K mg base CX0 3 A.f_Lmoments A.d_Lmoments P_Lmoments (spLmoments K) := ok_Lmoments T
  have G_Log_rows : FnOk P w K mg base CX0 1 A.f_Log_rows A.d_Log_rows P_Log_rows (spMeth K A.c_Log fun rs => .list (rs.map rowL)) := ok_rows T
  have G_Log_lengths : FnOk P w K mg base CX0 1 A.f_Log_lengths A.d_Log_lengths P_Log_lengths (spMeth K A.c_Log fun rs => ptP (lensOf rs)) := ok_lengths T
  have G_Log_upto : FnOk P w K mg base (L2N.CX P w) 10 A.f_Log_upto A.d_Log_upto P_Log_upto (spUpto K A.c_Log A.c_InvalidMoment) := ok_upto T
  have G_Lupto : FnOk P w K mg base CX0 1 A.f_Lupto A.d_Lupto P_Lupto (spLupto K) := ok_Lupto T
  have G_Lsame : FnOk P w K mg base CX0 9 A.f_Lsame A.d_Lsame P_Lsame (spSameLt K 9) := ok_Lsame T 9
  refine fun_okC T.F_law sc_law (fun vs H Q E h => ?_) (fun cdv Ar outer s H vs Q E ec hr h => ?_)
  · obtain ⟨a, ns, rfl, _⟩ := h
    rfl
  · obtain ⟨a, ns, rfl, hS, hl, hP, q⟩ := h
    obtain rfl : cdv = .ref c := ec.symm.trans hc
    refine ⟨_, (pss_cons (ps_set (i := 1) sc_law.nd rfl (by first | exact Or.inl rfl | exact Or.inr rfl) (pe_call G_Lbag (hr.mono (by decide)) (by rfl) T.g_Lbag T.F_Lbag.kp T.a_Lbag .nil pass0 (pa_cons (pv 0) pa_nil)))
      (pss_cons (ps_for PassesOwn.never rfl (pi_range1 (by rfl) T.b_range (pa_cons pe_int pa_nil)) (pg_name (i := 2) sc_law.nd rfl (by first | exact Or.inl rfl | exact Or.inr rfl))
      (pss_cons (ps_set (i := 3) sc_law.nd rfl (by first | exact Or.inl rfl | exact Or.inr rfl) (pe_call G_Lsmall_rows (hr.mono (by decide)) (by rfl) T.g_Lsmall_rows T.F_Lsmall_rows.kp T.a_Lsmall_rows .nil pass0 (pa_cons (pv 1) pa_nil)))
      (pss_cons (ps_asg (pe_tup (pa_cons (pe_call G_Llog (hr.mono (by decide)) (by rfl) T.g_Llog T.F_Llog.kp T.a_Llog .nil pass0 (pa_cons (pv 3) pa_nil)) (pa_cons (pe_call G_Lmoments (hr.mono (by decide)) (by rfl) T.g_Lmoments T.F_Lmoments.kp T.a_Lmoments .nil pass0 (pa_cons (pv 3) pa_nil)) pa_nil))) (pg_tup rfl (pgs_cons (pg_name (i := 8) sc_law.nd rfl (by first | exact Or.inl rfl | exact Or.inr rfl)) (pgs_cons (pg_name (i := 9) sc_law.nd rfl (by first | exact Or.inl rfl | exact Or.inr rfl)) pgs_nil))))
      (pss_cons (ps_for PassesOwn.never rfl (pi_any (pe_call G_Lpoints (hr.mono (by decide)) (by rfl) T.g_Lpoints T.F_Lpoints.kp T.a_Lpoints .nil pass0 (pa_cons (pe_call G_Llengths (hr.mono (by decide)) (by rfl) T.g_Llengths T.F_Llengths.kp T.a_Llengths .nil pass0 (pa_cons (pv 3) pa_nil)) pa_nil))) (pg_name (i := 4) sc_law.nd rfl (by first | exact Or.inl rfl | exact Or.inr rfl))
      (pss_cons (ps_if (PW.pt (pw_and (pt_cmpR (L2.op_inD (hu65 hr)) (pv 4) (pv 9) (by rfl)) (pw_and1 (pt_not (pt_val (pe_call G_Lsame (hr.mono (by decide)) (by rfl) T.g_Lsame T.F_Lsame.kp T.a_Lsame .nil pass0 (pa_cons (pe_lst (pa_cons (pe_meth0 (pe_meth (E := E0) (pv 8) T.cl_Log T.me_Log_upto G_Log_upto (hr.mono (by decide)) T.a_Log_upto .nil passN0 (pa_cons (pv 4) pa_nil)) T.cl_Log T.me_Log_rows G_Log_rows (hr.mono (by decide)) T.a_Log_rows .nil pass0) (pa_cons (pe_meth0 (pe_methK (pv 8) T.cl_Log T.me_Log_upto G_Log_upto (hr.mono (by decide)) T.kb_Log_upto_1_moment passN0 (pk_cons (pv 4) pk_nil)) T.cl_Log T.me_Log_lengths G_Log_lengths (hr.mono (by decide)) T.a_Log_lengths .nil pass0) pa_nil))) (pa_cons (pe_lst (pa_cons (pe_call G_Lupto (hr.mono (by decide)) (by rfl) T.g_Lupto T.F_Lupto.kp T.a_Lupto .nil pass0 (pa_cons (pv 3) (pa_cons (pv 4) pa_nil))) (pa_cons (pv 4) pa_nil))) pa_nil))))))))
      (pss_one (ps_ret pe_bl))
      pss_nil)
      (pss_one (ps_if (PW.pt (pw_and (pt_cmpR (L2.op_notInD (hu65 hr)) (pv 4) (pv 9) (by rfl)) (pw_and1 (pt_not (pt_val (pe_call G_Lsame (hr.mono (by decide)) (by rfl) T.g_Lsame T.F_Lsame.kp T.a_Lsame .nil pass0 (pa_cons (pe_whyL (A := A) (k := 10) (T0 := [(Pt, qL)]) (tbE := tUp K A (tVar 8) (tVar 4)) T (hr.mono (by decide)) TB rfl (.head _) (fun p hp _ => by cases List.mem_singleton.mp hp; rfl) (lamN_by (by show lamNB N_law (defScope s_law) _ = true; decide +kernel)) rfl (fun _ _ _ _ => .of_eq rfl) (fun f E A2 l2 s2 H2 c' hr2 => pe_meth (E := E) (pv 8) T.cl_Log T.me_Log_upto G_Log_upto hr2 T.a_Log_upto .nil lam_pass (pa_cons (pv 4) pa_nil)) (by rfl)) (pa_cons (pe_tup (pa_cons pe_str (pa_cons (pe_tup (pa_cons (pv 4) pa_nil)) pa_nil))) pa_nil))))))))
      (pss_one (ps_ret pe_bl))
      pss_nil))))
      (pss_cons (ps_set (i := 5) sc_law.nd rfl (by first | exact Or.inl rfl | exact Or.inr rfl) (pe_call G_Llengths (hr.mono (by decide)) (by rfl) T.g_Llengths T.F_Llengths.kp T.a_Llengths .nil pass0 (pa_cons (pv 3) pa_nil)))
      (pss_cons (ps_set (i := 6) sc_law.nd rfl (by first | exact Or.inl rfl | exact Or.inr rfl) (pe_call G_Lof (hr.mono (by decide)) (by rfl) T.g_Lof T.F_Lof.kp T.a_Lof .nil pass0 (pa_cons (pv 1) (pa_cons (pe_lst (pa_cons pe_non (pa_cons pe_int (pa_cons (pe_lst pa_nil) (pa_cons (pe_callTy call_listK (by rfl) T.b_list (by decide +kernel) (pa_cons (pv 5) pa_nil)) (pa_cons (pe_op L2.op_catA (pv 5) (pe_tup (pa_cons pe_int pa_nil))) (pa_cons (pe_slice L2.sl_tupA (pv 5) (po_some pe_int) po_none) (pa_cons (pe_callTy call_tupleK (by rfl) T.b_tuple (by decide +kernel) (pa_cons (pe_lc (own := [("_law_place", 10)]) (g := gName 10) (by rfl) sc_law.nd (pi_any (pv 5)) (blkOk_by (own := [("_law_place", 10)]) (N := N_law) (sc := defScope s_law) (by decide +kernel)) (fun _ _ _ _ _ => (pg_name (i := 10) sc_law.nd rfl (by first | exact Or.inl rfl | exact Or.inr rfl))) (fun _ _ _ _ _ => pts_nil) (fun _ _ _ _ _ => (pe_op op_add (pv 10) pe_int))) pa_nil)) (pa_cons (pe_op op_repT1 (pe_tup (pa_cons pe_bl pa_nil)) (pe_callB call_len (by rfl) T.b_len (by decide +kernel) (pa_cons (pv 5) pa_nil))) (pa_cons (pe_callTy call_tupleK (by rfl) T.b_tuple (by decide +kernel) (pa_cons (pe_lc (own := [("_law_place", 10)]) (g := gName 10) (by rfl) sc_law.nd (pi_any (pv 5)) (blkOk_by (own := [("_law_place", 10)]) (N := N_law) (sc := defScope s_law) (by decide +kernel)) (fun _ _ _ _ _ => (pg_name (i := 10) sc_law.nd rfl (by first | exact Or.inl rfl | exact Or.inr rfl))) (fun _ _ _ _ _ => pts_nil) (fun _ _ _ _ _ => (pe_un un_neg pe_int))) pa_nil)) (pa_cons pe_str pa_nil))))))))))) pa_nil))))
      (pss_cons (ps_set (i := 7) sc_law.nd rfl (by first | exact Or.inl rfl | exact Or.inr rfl) (pe_ifExp (PW.pt (pw_and (pt_cmpR (L2.op_inD (hu65 hr)) (pv 6) (pv 9) (by rfl)) (pw_and1 (pt_cmpR (L2.op_notInD (hu65 hr)) pe_bl (pe_lc (own := [("_law_place", 10)]) (g := gName 10) (te := tCB (fun xs H Q => ∃ x n d, xs = [x, .ty n] ∧ okT n = true ∧ Dp K H x d ∧ Q (.bl (isD n d)) H) (tCons (tVar 10) (tCons (tC (.ty "bool")) tNil))) (by rfl) sc_law.nd (pi_any (pv 6)) (blkOk_by (own := [("_law_place", 10)]) (N := N_law) (sc := defScope s_law) (by decide +kernel)) (fun _ _ _ _ _ => (pg_name (i := 10) sc_law.nd rfl (by first | exact Or.inl rfl | exact Or.inr rfl))) (fun _ _ _ _ _ => pts_nil) (fun _ _ _ _ _ => (pe_callB call_isD (by rfl) T.b_isinstance (by decide +kernel) (pa_cons (pv 10) (pa_cons (pe_bltn (v := .ty "bool") (by rfl) T.b_bool (by decide +kernel) rfl) pa_nil))))) (by rfl))))) (pe_tup (pa_cons pe_str (pa_cons pe_non pa_nil))) (pe_tup (pa_cons pe_str (pa_cons (pe_tup (pa_cons (pv 6) pa_nil)) pa_nil)))))
      (pss_one (ps_if (PW.pt (pw_or (pt_not (pt_val (pe_call G_Lsame (hr.mono (by decide)) (by rfl) T.g_Lsame T.F_Lsame.kp T.a_Lsame .nil pass0 (pa_cons (pe_whyL (A := A) (k := 10) (T0 := [(Pt, qL)]) (tbE := tUp K A (tVar 8) (tVar 6)) T (hr.mono (by decide)) TB rfl (.head _) (fun p hp _ => by cases List.mem_singleton.mp hp; rfl) (lamN_by (by show lamNB N_law (defScope s_law) _ = true; decide +kernel)) rfl (fun _ _ _ _ => .of_eq rfl) (fun f E A2 l2 s2 H2 c' hr2 => pe_meth (E := E) (pv 8) T.cl_Log T.me_Log_upto G_Log_upto hr2 T.a_Log_upto .nil lam_pass (pa_cons (pv 6) pa_nil)) (by rfl)) (pa_cons (pv 7) pa_nil))))) (pw_or1 (pt_not (pt_val (pe_call G_Lsame (hr.mono (by decide)) (by rfl) T.g_Lsame T.F_Lsame.kp T.a_Lsame .nil pass0 (pa_cons (pe_meth0 (pv 8) T.cl_Log T.me_Log_rows G_Log_rows (hr.mono (by decide)) T.a_Log_rows .nil pass0) (pa_cons (pv 3) pa_nil))))))))
      (pss_one (ps_ret pe_bl))
      pss_nil)))))))))
      (pss_one (ps_ret (pe_call G_Lsame (hr.mono (by decide)) (by rfl) T.g_Lsame T.F_Lsame.kp T.a_Lsame .nil pass0 (pa_cons (pe_lst (pa_cons (pe_meth0 (pe_meth (E := E0) (pe_makeR0 T.mk_Log G_i_Log (hr.mono (by decide)) (by rfl) T.m_Log pass0) T.cl_Log T.me_Log_upto G_Log_upto (hr.mono (by decide)) T.a_Log_upto .nil passN0 (pa_cons (pe_tup pa_nil) pa_nil)) T.cl_Log T.me_Log_rows G_Log_rows (hr.mono (by decide)) T.a_Log_rows .nil pass0) (pa_cons (pe_whyL (A := A) (k := 10) (T0 := [(Pt, qL)]) (tbE := tUp K A (StX.tMakeR A.c_Log (spInit K A.c_Log) E0 tNil) (tTup (tCons (tC (.int 0)) tNil))) T (hr.mono (by decide)) TB rfl (.head _) (fun p hp _ => by cases List.mem_singleton.mp hp; rfl) (lamN_by (by show lamNB N_law (defScope s_law) _ = true; decide +kernel)) rfl (fun _ _ _ _ => .of_eq rfl) (fun f E A2 l2 s2 H2 c' hr2 => pe_meth (E := E) (pe_makeR0 T.mk_Log G_i_Log (hr2.mono (by decide)) (by rfl) T.m_Log pass0) T.cl_Log T.me_Log_upto G_Log_upto hr2 T.a_Log_upto .nil lam_pass (pa_cons (pe_tup (pa_cons pe_int pa_nil)) pa_nil)) (by rfl)) pa_nil))) (pa_cons (pe_lst (pa_cons (pe_lst pa_nil) (pa_cons (pe_tup (pa_cons pe_str (pa_cons (pe_tup (pa_cons (pe_tup (pa_cons pe_int pa_nil)) pa_nil)) pa_nil))) pa_nil))) pa_nil))))))), ?_⟩
    show tSeq (tAsg _ (gName 1)) _ _ [some (.ref a), none, none, none, none, none, none, none, none, none, none] H
    refine ⟨_, rfl, a, ns, rfl, hS, hl, fun B H1 nB hB s1 => ?_⟩
    have t1 : Tb Pt H1 := Tb.nil (s1 _ _ hP)
    dsimp only [gName, List.set]
    show tSeq (tFor (iRng1 (tCons (tC (.int 2)) tNil)) (gName 2) _) _ _ [some (.ref a), some (.ref B.p), none, none, none, none, none, none, none, none, none] H1
    refine for_rng (fun n H' => n = 2 ∧ H' = H1) (fun Q q => q 2 H1 ⟨rfl, rfl⟩) fun n H5 e => ?_
    obtain ⟨rfl, rfl⟩ := e
    refine ⟨by decide, fun σ H' => ∃ x2 x3 x4 x5 x6 x7 x8 x9, σ = [some (.ref a), some (.ref B.p), x2, x3, x4, x5, x6, x7, x8, x9, none] ∧ Bag B H' ∧ Tb Pt H', ⟨_, _, _, _, _, _, _, _, rfl, hB, t1⟩, ?_, ?_⟩
    · rintro v σ H2 _ ⟨x2, x3, x4, x5, x6, x7, x8, x9, rfl, hB2, t2⟩
      dsimp only [gName, List.set]
      show tSeq (tAsg _ (gName 3)) _ _ [some (.ref a), some (.ref B.p), some v, x3, x4, x5, x6, x7, x8, x9, none] H2
      refine ⟨_, rfl, B, rfl, hB2, fun vr rs H3 hB3 ex3 hv0 val hk h1 h3 ht => ?_⟩
      have t3 := t2.bag hB2 ex3
      have hv := Ds.wide t3 hv0
      have l3 := live2 hB3 t3
      dsimp only [gName, List.set]
      show tSeq (tAsg _ (gTup _ 2 _)) _ _ [some (.ref a), some (.ref B.p), some v, some vr, x4, x5, x6, x7, x8, x9, none] H3
      refine ⟨_, rfl, SP2 B Pt, vr, rs, rfl, l3, hv, val, fun b H4 s4 hlog => ?_⟩
      have l4 := l3.same s4
      refine (sa_cons (sv_T (K := K) (S := SP2 B Pt) (f := fun rs : List Row => PyData.list (knownD rs)) (enc := fun rs : List Row => [.list (rs.map rowP)]) rs (sa_cons (sv_var (i := 3) rfl (hv.same s4)) sa_nil) rfl ⟨val, hk, ht⟩) sa_nil).run l4 fun us H5 s5 hus => ?_
      obtain ⟨uk, rfl, huk⟩ := hus.one
      refine ⟨sz (by show 2 ≤ 100000; decide), fun p np => ⟨p, _, rfl, .inl (.inl upd_same), rfl, _, _, rfl, _, _, rfl, rfl, ?_⟩⟩
      have s36 : Same H3 (upd H5 p (.tup [.ref b, uk])) := (s4.trans s5).trans (same_upd np)
      have hB6 := hB3.ext s36
      have t6 := t3.same s36
      have hv6 := hv.same s36
      have hlog6 := hlog.same (s5.trans (same_upd np (o := .tup [.ref b, uk])))
      have huk6 : Ds K (SP2 B Pt) _ uk (.list (knownD rs)) := huk.same (same_upd np (o := .tup [.ref b, uk]))
      have l6 := live2 hB6 t6
      dsimp only [gName, List.set]
      generalize upd H5 p (HO.tup [V.ref b, uk]) = H6 at s36 hB6 t6 hv6 hlog6 huk6 l6 ⊢
      have h6 := val.few
      have hkf := known_fine ht h6
      show tSeq (tFor _ (gName 4) _) _ _ [some (.ref a), some (.ref B.p), some v, some vr, x4, x5, x6, x7, some (.ref b), some uk, none] H6
      refine seq_for (K := K) (S := SP2 B Pt) l6 (si_l (sv_T (f := fun ns : List Nat => PyData.list (ptsD ns)) (enc := fun ns : List Nat => [ptP ns]) (lensOf rs) (sa_cons (sv_T (f := fun rs : List Row => ptP (lensOf rs)) (enc := fun rs : List Row => [.list (rs.map rowP)]) rs (sa_cons (sv_var (i := 3) rfl hv6) sa_nil) rfl ⟨val.few, hk⟩) sa_nil) rfl ⟨ht, lens_few val⟩)) fun H7 s7 l7 => ⟨fun i σ H' => (∃ x4, σ = [some (.ref a), some (.ref B.p), some v, some vr, x4, x5, x6, x7, some (.ref b), some uk, none]) ∧ XS (SP2 B Pt) H7 H' ∧ Bag B H' ∧ Tb Pt H', ⟨⟨_, rfl⟩, XS.refl, hB6.ext s7, t6.same s7⟩, fun i σ H' _ ⟨_, x', hB', t'⟩ => ⟨SP2 B Pt, ⟨x', fun _ h => h, fun _ a b => absurd a b, live2 hB' t'⟩⟩, fun i d v' σ H7' H8 ed ⟨⟨x4, e⟩, x7', hB7', t7'⟩ s8 hd => ?_, fun σ H7' ⟨⟨x4, e⟩, x7', hB7', t7'⟩ => ?_⟩
      · subst e
        obtain ⟨p, mp, rfl⟩ := ptsD_mem (List.mem_of_getElem? ed)
        have hp := allP_ok mp
        have hpl := pt_lens mp
        have hf : fine (ptP p) = true := fine_pt (by omega)
        have hB8 := hB7'.ext s8
        have t8 := t7'.same s8
        have l8 := live2 hB8 t8
        have x68 : XS (SP2 B Pt) H6 H8 := ((XS.of s7).trans x7').trans (XS.of s8)
        have x78 : XS (SP2 B Pt) H7 H8 := x7'.trans (XS.of s8)
        have hd8 : Ds K (SP2 B Pt) H8 v' (ptP p) := hd (SP2 B Pt) ⟨x7', fun _ h => h, fun _ a b => absurd a b, live2 hB7' t7'⟩
        have hlog8 := hlog6.byX x68
        have huk8 := huk6.byX x68
        have hv8 := hv6.byX x68
        have em : momB rs (ptP p) = canB rs p := mom_ok val hp
        have any8 := known_is (List.mem_of_getElem? ed) (by omega)
        dsimp only [gName, List.set]
        refine seq_if (S := SP2 B Pt) (b := false) l8 (sb_is (sb_and (b := canB rs p) (c := false) (sb_is (sb_test (sv_inD (sv_var (i := 4) rfl hd8) (sv_var (i := 9) rfl huk8) hf hkf)) any8) fun ec => ?_) (Bool.and_false _)) (fun z => Bool.noConfusion z) fun _ H9 s9 l9 => ?_
        · have g1 := sv_lst (K := K) (S := SP2 B Pt) (σ := [some (.ref a), some (.ref B.p), some v, some vr, some v', x5, x6, x7, some (.ref b), some uk, none]) (H := H8) (sa_cons (sl_meth (m := "rows") (E := E0) (f := fun rs => .list (rs.map rowL)) (sl_upto (C := A.c_Log) (cI := A.c_InvalidMoment) (sl_var (i := 8) rfl hlog8) (sv_var (i := 4) rfl hd8) hf (em.trans ec)) (fun _ _ => rfl)) (sa_cons (sl_meth (m := "lengths") (E := E0) (f := fun rs => ptP (lensOf rs)) (sl_uptoK (C := A.c_Log) (cI := A.c_InvalidMoment) (gV := fun us ws => List.take 1 (List.drop 0 us) ++ List.take 1 (List.drop 0 ws)) (sl_var (i := 8) rfl hlog8) (sv_var (i := 4) rfl hd8) hf (em.trans ec) (fun _ _ => rfl)) (fun _ _ => rfl)) sa_nil)) rfl
          have g2 := sv_lst (K := K) (S := SP2 B Pt) (σ := [some (.ref a), some (.ref B.p), some v, some vr, some v', x5, x6, x7, some (.ref b), some uk, none]) (H := H8) (sa_cons (sv_T (E := E0) (f := fun x : List Row × List Nat => PyData.list ((cutR x.1 x.2).map rowL)) (enc := fun x : List Row × List Nat => [.list (x.1.map rowP), ptP x.2]) (pre := fun x => x.1.length ≤ 6 ∧ (∀ r ∈ x.1, r.k = true ∧ r.s.length ≤ 20) ∧ x.2.length = x.1.length) (rs, p) (sa_cons (sv_var (i := 3) rfl hv8) (sa_cons (sv_var (i := 4) rfl hd8) sa_nil)) rfl ⟨val.few, fun r m => ⟨hk r m, val.len r m⟩, hpl⟩) (sa_cons (sv_var (i := 4) rfl hd8) sa_nil)) rfl
          rw [plOf_ptP, lens_cut hp] at g1
          have fc := rowsL_fine (valid_cut val hpl ec)
          refine sb_is (sb_not (sb_val (sv_same (n := 8) g1 g2 ?_ ?_))) rfl
          · refine Nat.le_trans (depth_seq (k := true) (n := 5) fun d m => ?_) (by decide)
            rcases List.mem_cons.mp m with rfl | m
            · exact fc.2
            · rw [List.mem_singleton.mp m]; exact Nat.le_trans (ptP_depth _) (by decide)
          · refine fine_small (fine_seq (k := true) (by show 2 ≤ 5000; decide) fun d m => ?_)
            rcases List.mem_cons.mp m with rfl | m
            · exact ⟨fc.1, Nat.le_trans fc.2 (by decide)⟩
            · rw [List.mem_singleton.mp m]; exact ⟨hf, Nat.le_trans (ptP_depth _) (by decide)⟩
        · have hB9 := hB8.ext s9
          have t9 := t8.same s9
          have hd9 := hd8.same s9
          have huk9 := huk8.same s9
          have hlog9 := hlog8.same s9
          cases ec : canB rs p with
          | true =>
            exact if_sb (S := SP2 B Pt) (b := false) l9 (sb_is (sb_and (b := false) (c := false) (sb_is (sb_test (sv_notInD (sv_var (i := 4) rfl hd9) (sv_var (i := 9) rfl huk9) hf hkf)) (by rw [any8, ec]; rfl)) fun z => Bool.noConfusion z) rfl) (fun z => Bool.noConfusion z) fun _ H10 s10 l10 => ⟨⟨_, rfl⟩, (x78.trans (XS.of s9)).trans (XS.of s10), hB9.ext s10, t9.same s10⟩
          | false =>
            refine SB.run (b := true) (sb_is (sb_test (sv_notInD (K := K) (S := SP2 B Pt) (sv_var (i := 4) rfl hd9) (sv_var (i := 9) rfl huk9) hf hkf)) (by rw [any8, ec]; rfl)) l9 fun H10 s10 => iteT ?_
            have hB10 := hB9.ext s10
            have t10 := t9.same s10
            have hd10 := hd9.same s10
            have hlog10 := hlog9.same s10
            refine up_why (X := (cxOf CX0 P w K mg base N_law "law" (defScope s_law) A.f_law (.ref c) Ar outer s H E).nox) (S := SP2 B Pt) (T0 := [(Pt, qL)]) (Pt := Pt) (i := 8) (j := 4) (d := ptP p) (rs := rs) T rfl rfl t10 hf (em.trans ec) (fun H1 e1 tb1 => ?_) fun u H11 H12 e11 tb11 s12 hu => ?_
            · have hB' := bag_tab hB10 t10 e1
              exact ⟨live2 hB' tb1, no_tup hB' tb1, hlog10.byX (x_tab e1), hd10.byX (x_tab e1)⟩
            · have hB11 := bag_tab hB10 t10 e11
              have t11 : Tb Pt H11 := tb11
              have l12 := live2 (hB11.ext s12) (t11.same s12)
              have hd12 := (hd10.byX (x_tab e11)).same s12
              have x12 : XS (SP2 B Pt) H7 H12 := (((x78.trans (XS.of s9)).trans (XS.of s10)).trans (x_tab e11)).trans (XS.of s12)
              refine (sa_cons (sv_tup (K := K) (S := SP2 B Pt) (sa_cons sv_str (sa_cons (sv_tup (sa_cons (sv_var (i := 4) rfl hd12) sa_nil) rfl) sa_nil)) rfl) sa_nil).run l12 fun us H13 s13 hus => ?_
              obtain ⟨w', rfl, hw⟩ := hus.one
              have ws := why_small hf (Nat.le_trans (ptP_depth p) (by decide))
              exact ⟨u, w', _, rfl, Ds.dp _ _ (hu.same s13), Ds.dp _ _ hw, ws.1, ws.2, fun H14 s14 => ⟨true, rfl, iteF ⟨⟨_, rfl⟩, (x12.trans (XS.of s13)).trans (XS.of s14), ((hB11.ext s12).ext s13).ext s14, ((t11.same s12).same s13).same s14⟩⟩⟩
      · subst e
        have x67 : XS (SP2 B Pt) H6 H7' := (XS.of s7).trans x7'
        have l7' := live2 hB7' t7'
        have hv7 := hv6.byX x67
        show tSeq (tAsg _ (gName 5)) _ _ [some (.ref a), some (.ref B.p), some v, some vr, x4, x5, x6, x7, some (.ref b), some uk, none] H7'
        refine set_sv (K := K) (S := SP2 B Pt) (d := .tuple (intsD (lensOf rs))) l7' (sv_T (f := fun rs : List Row => ptP (lensOf rs)) (enc := fun rs : List Row => [.list (rs.map rowP)]) rs (sa_cons (sv_var (i := 3) rfl hv7) sa_nil) rfl ⟨val.few, hk⟩) fun ul H9 s9 l9 hul => ?_
        have hB9 := hB7'.ext s9
        have t9 := t7'.same s9
        have x69 := x67.trans (XS.of s9)
        have hul1 := Ds.thin hul
        have hln : (lensOf rs).length = rs.length := by unfold lensOf; rw [List.length_map]
        dsimp only [gName, List.set]
        show tSeq (tAsg _ (gName 6)) _ _ [some (.ref a), some (.ref B.p), some v, some vr, x4, some ul, x6, x7, some (.ref b), some uk, none] H9
        refine of_sv (B := B) (k := true) (ds := oddL (lensOf rs)) (i := 1) rfl hB9 (Live.one hB9.there) (sv_lst (sa_cons sv_non (sa_cons sv_int (sa_cons (sv_lst sa_nil rfl) (sa_cons (sv_listK (k := false) (sv_var (i := 5) rfl hul1)) (sa_cons (sv_catA (sv_var (i := 5) rfl hul1) (sv_tup (sa_cons sv_int sa_nil) rfl) (by rw [intsD_len]; show _ + 1 ≤ 5000; omega)) (sa_cons (sv_slA (sv_var (i := 5) rfl hul1) (sp_some sv_int) sp_no) (sa_cons (sv_tuple (k := true) (sv_lcM (vs := [10]) (g := gName 10) (si_any (k := false) (ds := intsD (lensOf rs)) (sv_var (i := 5) rfl hul1)) (by rw [intsD_len]; omega) addI fun d S' H' v2 Q' m n hd kk => ?_)) (sa_cons (sv_is (sv_repT (k := (lensOf rs).length) (sv_tup (sa_cons (sv_bl (b := true)) sa_nil) rfl) (sv_is (sv_lenT (sv_var (i := 5) rfl hul1)) (by rw [intsD_len])) (by simp) (by omega) (by omega) (by show 1 ≤ 1000; decide)) (by rw [rep_one])) (sa_cons (sv_tuple (k := true) (sv_lcM (vs := [10]) (g := gName 10) (si_any (k := false) (ds := intsD (lensOf rs)) (sv_var (i := 5) rfl hul1)) (by rw [intsD_len]; omega) (fun _ => .int (-1)) fun d S' H' v2 Q' m n hd kk => ?_)) (sa_cons sv_str sa_nil)))))))))) rfl) (Nat.succ_pos _) (by show 10 ≤ 5000; decide) fun vo od H10 mo hB10 ex10 hvo0 => ?_
        · obtain ⟨j, _, rfl⟩ := List.mem_map.mp m
          exact kk [some (.ref a), some (.ref B.p), some v, some vr, x4, some ul, x6, x7, some (.ref b), some uk, some v2] rfl (sv_I0 (sv_var (i := 10) rfl hd) sv_int fun _ _ => .int _)
        · exact kk [some (.ref a), some (.ref B.p), some v, some vr, x4, some ul, x6, x7, some (.ref b), some uk, some v2] rfl (sv_neg sv_int)
        have t10 := t9.bag hB9 ex10
        have l10 := live2 hB10 t10
        have hvo := Ds.wide t10 hvo0
        have x610 := x69.trans (x_bag ex10)
        have huk10 := huk6.byX x610
        obtain ⟨ho1, ho2, ho3⟩ := odd12 (kn := knownD rs) (by omega) (by omega) (fun z m => by
          obtain ⟨p, mp, e⟩ := ptsD_mem (List.mem_filter.mp m).1
          exact ⟨p, allP_ok mp, e⟩) mo
        dsimp only [gName, List.set]
        show tSeq (tAsg _ (gName 7)) _ _ [some (.ref a), some (.ref B.p), some v, some vr, x4, some ul, some vo, x7, some (.ref b), some uk, none] H10
        refine set_sv (K := K) (S := SP2 B Pt) (d := .tuple [.str "InvalidMoment", .tuple [od]]) l10 (sv_if (a := false) ?_ (fun z => Bool.noConfusion z) fun _ => sv_tup (sa_cons sv_str (sa_cons (sv_tup (sa_cons (sv_var (i := 6) rfl hvo) sa_nil) rfl) sa_nil)) rfl) fun vd H11 s11 l11 hvd => ?_
        · cases ea : (knownD rs).any (fun z => PyData.eqv z od) with
          | false => exact sb_is (sb_and (b := false) (c := false) (sb_is (sb_test (sv_inD (sv_var (i := 6) rfl hvo) (sv_var (i := 9) rfl huk10) ho2 hkf)) ea) fun z => Bool.noConfusion z) rfl
          | true =>
            have eo := ho3 ea
            refine sb_is (sb_and (b := true) (c := false) (sb_is (sb_test (sv_inD (sv_var (i := 6) rfl hvo) (sv_var (i := 9) rfl huk10) ho2 hkf)) ea) fun _ => ?_) rfl
            subst eo
            refine sb_is (sb_test (sv_notInD (K := K) (S := SP2 B Pt) (sv_bl (b := true)) (sv_lcM (vs := [10]) (g := gName 10) (si_any (k := false) (ds := List.replicate (lensOf rs).length (.bool true)) (sv_var (i := 6) rfl hvo)) (by rw [List.length_replicate]; omega) (fun d => .bool (isD "bool" d)) fun d S' H' v2 Q' m n hd kk => kk [some (.ref a), some (.ref B.p), some v, some vr, x4, some ul, some vo, x7, some (.ref b), some uk, some v2] rfl (sv_isD (sv_var (i := 10) rfl hd) rfl)) rfl ?_)) ?_
            · refine fine_seq (k := true) (by rw [List.length_map, List.length_replicate]; omega) fun d m => ?_
              obtain ⟨_, _, rfl⟩ := List.mem_map.mp m
              exact ⟨rfl, by simp [PyData.depth]⟩
            · obtain ⟨k', ek⟩ : ∃ k', (lensOf rs).length = k' + 1 := ⟨(lensOf rs).length - 1, by omega⟩
              rw [ek, List.replicate_succ, List.map_cons, List.any_cons]
              rfl
        have hB11 := hB10.ext s11
        have t11 := t10.same s11
        have x611 := x610.trans (XS.of s11)
        have hlog11 := hlog6.byX x611
        have hvo11 := hvo.same s11
        have hv11 := hv6.byX x611
        dsimp only [gName, List.set]
        show tIfS _ _ _ _ [some (.ref a), some (.ref B.p), some v, some vr, x4, some ul, some vo, some vd, some (.ref b), some uk, none] H11
        refine up_why (X := (cxOf CX0 P w K mg base N_law "law" (defScope s_law) A.f_law (.ref c) Ar outer s H E).nox) (S := SP2 B Pt) (T0 := [(Pt, qL)]) (Pt := Pt) (i := 8) (j := 6) (d := od) (rs := rs) T rfl rfl t11 ho2 (mom_bad ho1) (fun H1 e1 tb1 => ?_) fun u H12 H13 e12 tb12 s13 hu => ?_
        · have hB' := bag_tab hB11 t11 e1
          exact ⟨live2 hB' tb1, no_tup hB' tb1, hlog11.byX (x_tab e1), hvo11.byX (x_tab e1)⟩
        · have hB13 := (bag_tab hB11 t11 e12).ext s13
          have t12 : Tb Pt H12 := tb12
          have t13 := t12.same s13
          have x13 : XS (SP2 B Pt) H11 H13 := (x_tab e12).trans (XS.of s13)
          have ws := why_small ho2 (odd_depth mo)
          refine ⟨vd, rfl, u, vd, _, rfl, Ds.dp _ _ hu, Ds.dp _ _ (hvd.byX x13), ws.1, ws.2, fun H14 s14 => ⟨true, rfl, iteF ?_⟩⟩
          have hB14 := hB13.ext s14
          have t14 := t13.same s14
          have l14 := live2 hB14 t14
          have x14 := x13.trans (XS.of s14)
          have g1 := sl_meth (K := K) (S := SP2 B Pt) (σ := [some (.ref a), some (.ref B.p), some v, some vr, x4, some ul, some vo, some vd, some (.ref b), some uk, none]) (H := H14) (E := E0) (C := A.c_Log) (m := "rows") (f := fun rs => .list (rs.map rowL)) (sl_var (i := 8) rfl (hlog11.byX x14)) (fun _ _ => rfl)
          rw [rowL_p hk] at g1
          have fr := rowsL_fine val
          rw [rowL_p hk] at fr
          exact SB.run (b := false) (sb_is (sb_not (sb_val (sv_same (n := 8) g1 (sv_var (i := 3) rfl (hv11.byX x14)) (Nat.le_trans fr.2 (by decide)) (fine_small fr.1)))) rfl) l14 fun H15 s15 => iteF ⟨_, _, _, _, _, _, _, _, rfl, hB14.ext s15, t14.same s15⟩
    · rintro σ H2 ⟨x2, x3, x4, x5, x6, x7, x8, x9, rfl, hB2, t2⟩
      have l2 := live2 hB2 t2
      refine SV.run (K := K) (S := SP2 B Pt) (sl_meth (E := E0) (C := A.c_Log) (m := "rows") (f := fun rs => .list (rs.map rowL)) (sl_upto (C := A.c_Log) (cI := A.c_InvalidMoment) (d := .tuple []) (sl_mk0 (E := E0)) (sv_tup sa_nil rfl) rfl (by decide)) (fun _ _ => rfl)) l2 fun v1 H3 s3 hv1 => ?_
      have hB3 := hB2.ext s3
      have t3 := t2.same s3
      refine up_why0 (X := (cxOf CX0 P w K mg base N_law "law" (defScope s_law) A.f_law (.ref c) Ar outer s H E).nox) (S := SP2 B Pt) (T0 := [(Pt, qL)]) (Pt := Pt) T t3 (fun H1 e1 tb1 => ⟨live2 (bag_tab hB3 t3 e1) tb1, no_tup (bag_tab hB3 t3 e1) tb1⟩) fun u H4 H5 e4 tb4 s5 hu => ?_
      have t4 : Tb Pt H4 := tb4
      have hB5 := (bag_tab hB3 t3 e4).ext s5
      have l5 := live2 hB5 (t4.same s5)
      have hv5 := (hv1.byX (x_tab e4)).same s5
      refine ⟨sz (by show 2 ≤ 100000; decide), fun p np => ?_⟩
      have hleft : Ds K (SP2 B Pt) (upd H5 p (.lst [v1, u])) (.ref p) (.list [.list [], .tuple [.str "InvalidMoment", .tuple [.tuple [.int 0]]]]) := .lst ⟨l5.ne np, upd_same⟩ (.cons (hv5.same (same_upd np)) (.cons (hu.same (same_upd np)) .nil))
      refine (sa_cons (sv_lst (K := K) (S := SP2 B Pt) (sa_cons (sv_lst sa_nil rfl) (sa_cons (sv_tup (sa_cons sv_str (sa_cons (sv_tup (sa_cons (sv_tup (sa_cons sv_int sa_nil) rfl) sa_nil) rfl) sa_nil)) rfl) sa_nil)) rfl) sa_nil).run (l5.same (same_upd np)) fun us H7 s7 hus => ?_
      obtain ⟨w', rfl, hw⟩ := hus.one
      exact ⟨.ref p, w', _, rfl, Ds.dp _ _ (hleft.same s7), Ds.dp _ _ hw, by decide, by decide +kernel, fun H8 s8 => q H8⟩
end
end My
set_option Elab.async false
set_option linter.all false
set_option maxRecDepth 100000
set_option maxHeartbeats 0
namespace My
open PySem PySem.Spec PyProof.Rows L2 TL
theorem all_mk {l : PySem.W.OpenLaw} {w : World} {K : PySem.W.Frag} {h : Heap} {mg : Str → Option Value} {fa : Addr} (X : K.In h) (G : h.Ns mainGlobals mg) (hfa : mg "law" = some (.ref fa))
    {c_InvalidMoment : Addr}
    {c_Log : Addr}
    {c_LogError : Addr}
    {c_Missing : Addr}
    {c_NothingLeft : Addr}
    {f_i_InvalidMoment : Addr} {od_i_InvalidMoment an_i_InvalidMoment : Option Addr} {sl_i_InvalidMoment : Array (Option Value)} {oc_i_InvalidMoment kV_i_InvalidMoment dc_i_InvalidMoment pm_i_InvalidMoment cd_i_InvalidMoment ct_i_InvalidMoment : Value}
    {f_i_Log : Addr} {od_i_Log an_i_Log : Option Addr} {sl_i_Log : Array (Option Value)} {oc_i_Log kV_i_Log dc_i_Log pm_i_Log cd_i_Log ct_i_Log : Value}
    {f_Log_rows : Addr} {od_Log_rows an_Log_rows : Option Addr} {sl_Log_rows : Array (Option Value)} {oc_Log_rows kV_Log_rows dc_Log_rows pm_Log_rows cd_Log_rows ct_Log_rows : Value}
    {f_Log_processes : Addr} {od_Log_processes an_Log_processes : Option Addr} {sl_Log_processes : Array (Option Value)} {oc_Log_processes kV_Log_processes dc_Log_processes pm_Log_processes cd_Log_processes ct_Log_processes : Value}
    {f_Log_lengths : Addr} {od_Log_lengths an_Log_lengths : Option Addr} {sl_Log_lengths : Array (Option Value)} {oc_Log_lengths kV_Log_lengths dc_Log_lengths pm_Log_lengths cd_Log_lengths ct_Log_lengths : Value}
    {f_Log_upto : Addr} {od_Log_upto an_Log_upto : Option Addr} {sl_Log_upto : Array (Option Value)} {oc_Log_upto kV_Log_upto dc_Log_upto pm_Log_upto cd_Log_upto ct_Log_upto : Value}
    {f_Log_text : Addr} {od_Log_text an_Log_text : Option Addr} {sl_Log_text : Array (Option Value)} {oc_Log_text kV_Log_text dc_Log_text pm_Log_text cd_Log_text ct_Log_text : Value}
    {f_Log_read : Addr} {od_Log_read an_Log_read : Option Addr} {sl_Log_read : Array (Option Value)} {oc_Log_read kV_Log_read dc_Log_read pm_Log_read cd_Log_read ct_Log_read : Value}
    {p_Log_read : Addr} {rest_Log_read : List Value}
    {f_Log_eq : Addr} {od_Log_eq an_Log_eq : Option Addr} {sl_Log_eq : Array (Option Value)} {oc_Log_eq kV_Log_eq dc_Log_eq pm_Log_eq cd_Log_eq ct_Log_eq : Value}
    {f_Log_str : Addr} {od_Log_str an_Log_str : Option Addr} {sl_Log_str : Array (Option Value)} {oc_Log_str kV_Log_str dc_Log_str pm_Log_str cd_Log_str ct_Log_str : Value}
    {tk_Log_PROCESSES : Tok}
    {tk_Log_STEPS : Tok}
    {f_is_name : Addr} {od_is_name an_is_name : Option Addr} {sl_is_name : Array (Option Value)} {oc_is_name kV_is_name dc_is_name pm_is_name cd_is_name ct_is_name : Value}
    {f_is_word : Addr} {od_is_word an_is_word : Option Addr} {sl_is_word : Array (Option Value)} {oc_is_word kV_is_word dc_is_word pm_is_word cd_is_word ct_is_word : Value}
    {f_is_number : Addr} {od_is_number an_is_number : Option Addr} {sl_is_number : Array (Option Value)} {oc_is_number kV_is_number dc_is_number pm_is_number cd_is_number ct_is_number : Value}
    {f_is_step : Addr} {od_is_step an_is_step : Option Addr} {sl_is_step : Array (Option Value)} {oc_is_step kV_is_step dc_is_step pm_is_step cd_is_step ct_is_step : Value}
    {f_step_text : Addr} {od_step_text an_step_text : Option Addr} {sl_step_text : Array (Option Value)} {oc_step_text kV_step_text dc_step_text pm_step_text cd_step_text ct_step_text : Value}
    {f_read_step : Addr} {od_read_step an_read_step : Option Addr} {sl_read_step : Array (Option Value)} {oc_read_step kV_read_step dc_read_step pm_read_step cd_read_step ct_read_step : Value}
    {f_read_number : Addr} {od_read_number an_read_number : Option Addr} {sl_read_number : Array (Option Value)} {oc_read_number kV_read_number dc_read_number pm_read_number cd_read_number ct_read_number : Value}
    {f_consists_of : Addr} {od_consists_of an_consists_of : Option Addr} {sl_consists_of : Array (Option Value)} {oc_consists_of kV_consists_of dc_consists_of pm_consists_of cd_consists_of ct_consists_of : Value}
    {f_is_deed : Addr} {od_is_deed an_is_deed : Option Addr} {sl_is_deed : Array (Option Value)} {oc_is_deed kV_is_deed dc_is_deed pm_is_deed cd_is_deed ct_is_deed : Value}
    {f_split_deed : Addr} {od_split_deed an_split_deed : Option Addr} {sl_split_deed : Array (Option Value)} {oc_split_deed kV_split_deed dc_split_deed pm_split_deed cd_split_deed ct_split_deed : Value}
    {f_check_rows : Addr} {od_check_rows an_check_rows : Option Addr} {sl_check_rows : Array (Option Value)} {oc_check_rows kV_check_rows dc_check_rows pm_check_rows cd_check_rows ct_check_rows : Value}
    {f_is_row : Addr} {od_is_row an_is_row : Option Addr} {sl_is_row : Array (Option Value)} {oc_is_row kV_is_row dc_is_row pm_is_row cd_is_row ct_is_row : Value}
    {f_check_steps : Addr} {od_check_steps an_check_steps : Option Addr} {sl_check_steps : Array (Option Value)} {oc_check_steps kV_check_steps dc_check_steps pm_check_steps cd_check_steps ct_check_steps : Value}
    {f_check_messages : Addr} {od_check_messages an_check_messages : Option Addr} {sl_check_messages : Array (Option Value)} {oc_check_messages kV_check_messages dc_check_messages pm_check_messages cd_check_messages ct_check_messages : Value}
    {f_check_ends : Addr} {od_check_ends an_check_ends : Option Addr} {sl_check_ends : Array (Option Value)} {oc_check_ends kV_check_ends dc_check_ends pm_check_ends cd_check_ends ct_check_ends : Value}
    {f_names : Addr} {od_names an_names : Option Addr} {sl_names : Array (Option Value)} {oc_names kV_names dc_names pm_names cd_names ct_names : Value}
    {f_deeds : Addr} {od_deeds an_deeds : Option Addr} {sl_deeds : Array (Option Value)} {oc_deeds kV_deeds dc_deeds pm_deeds cd_deeds ct_deeds : Value}
    {f_first_unsent : Addr} {od_first_unsent an_first_unsent : Option Addr} {sl_first_unsent : Array (Option Value)} {oc_first_unsent kV_first_unsent dc_first_unsent pm_first_unsent cd_first_unsent ct_first_unsent : Value}
    {f_order_of : Addr} {od_order_of an_order_of : Option Addr} {sl_order_of : Array (Option Value)} {oc_order_of kV_order_of dc_order_of pm_order_of cd_order_of ct_order_of : Value}
    {f_first_ready : Addr} {od_first_ready an_first_ready : Option Addr} {sl_first_ready : Array (Option Value)} {oc_first_ready kV_first_ready dc_first_ready pm_first_ready cd_first_ready ct_first_ready : Value}
    {f_can_be_made : Addr} {od_can_be_made an_can_be_made : Option Addr} {sl_can_be_made : Array (Option Value)} {oc_can_be_made kV_can_be_made dc_can_be_made pm_can_be_made cd_can_be_made ct_can_be_made : Value}
    {f_are_places : Addr} {od_are_places an_are_places : Option Addr} {sl_are_places : Array (Option Value)} {oc_are_places kV_are_places dc_are_places pm_are_places cd_are_places ct_are_places : Value}
    {f_row_text : Addr} {od_row_text an_row_text : Option Addr} {sl_row_text : Array (Option Value)} {oc_row_text kV_row_text dc_row_text pm_row_text cd_row_text ct_row_text : Value}
    {f_read_row : Addr} {od_read_row an_read_row : Option Addr} {sl_read_row : Array (Option Value)} {oc_read_row kV_read_row dc_read_row pm_read_row cd_read_row ct_read_row : Value}
    {f_Lbag : Addr} {od_Lbag an_Lbag : Option Addr} {sl_Lbag : Array (Option Value)} {oc_Lbag kV_Lbag dc_Lbag pm_Lbag cd_Lbag ct_Lbag : Value}
    {f_Ldraw : Addr} {od_Ldraw an_Ldraw : Option Addr} {sl_Ldraw : Array (Option Value)} {oc_Ldraw kV_Ldraw dc_Ldraw pm_Ldraw cd_Ldraw ct_Ldraw : Value}
    {f_Lof : Addr} {od_Lof an_Lof : Option Addr} {sl_Lof : Array (Option Value)} {oc_Lof kV_Lof dc_Lof pm_Lof cd_Lof ct_Lof : Value}
    {f_Lmixed : Addr} {od_Lmixed an_Lmixed : Option Addr} {sl_Lmixed : Array (Option Value)} {oc_Lmixed kV_Lmixed dc_Lmixed pm_Lmixed cd_Lmixed ct_Lmixed : Value}
    {f_Lsame : Addr} {od_Lsame an_Lsame : Option Addr} {sl_Lsame : Array (Option Value)} {oc_Lsame kV_Lsame dc_Lsame pm_Lsame cd_Lsame ct_Lsame : Value}
    {f_Lfield : Addr} {od_Lfield an_Lfield : Option Addr} {sl_Lfield : Array (Option Value)} {oc_Lfield kV_Lfield dc_Lfield pm_Lfield cd_Lfield ct_Lfield : Value}
    {f_Lother_field : Addr} {od_Lother_field an_Lother_field : Option Addr} {sl_Lother_field : Array (Option Value)} {oc_Lother_field kV_Lother_field dc_Lother_field pm_Lother_field cd_Lother_field ct_Lother_field : Value}
    {f_Lgot : Addr} {od_Lgot an_Lgot : Option Addr} {sl_Lgot : Array (Option Value)} {oc_Lgot kV_Lgot dc_Lgot pm_Lgot cd_Lgot ct_Lgot : Value}
    {f_Lwhy : Addr} {od_Lwhy an_Lwhy : Option Addr} {sl_Lwhy : Array (Option Value)} {oc_Lwhy kV_Lwhy dc_Lwhy pm_Lwhy cd_Lwhy ct_Lwhy : Value}
    {f_Lmarks : Addr} {od_Lmarks an_Lmarks : Option Addr} {sl_Lmarks : Array (Option Value)} {oc_Lmarks kV_Lmarks dc_Lmarks pm_Lmarks cd_Lmarks ct_Lmarks : Value}
    {f_Lstep : Addr} {od_Lstep an_Lstep : Option Addr} {sl_Lstep : Array (Option Value)} {oc_Lstep kV_Lstep dc_Lstep pm_Lstep cd_Lstep ct_Lstep : Value}
    {f_Lrows : Addr} {od_Lrows an_Lrows : Option Addr} {sl_Lrows : Array (Option Value)} {oc_Lrows kV_Lrows dc_Lrows pm_Lrows cd_Lrows ct_Lrows : Value}
    {f_Llog : Addr} {od_Llog an_Llog : Option Addr} {sl_Llog : Array (Option Value)} {oc_Llog kV_Llog dc_Llog pm_Llog cd_Llog ct_Llog : Value}
    {f_Lsmall_rows : Addr} {od_Lsmall_rows an_Lsmall_rows : Option Addr} {sl_Lsmall_rows : Array (Option Value)} {oc_Lsmall_rows kV_Lsmall_rows dc_Lsmall_rows pm_Lsmall_rows cd_Lsmall_rows ct_Lsmall_rows : Value}
    {f_Llengths : Addr} {od_Llengths an_Llengths : Option Addr} {sl_Llengths : Array (Option Value)} {oc_Llengths kV_Llengths dc_Llengths pm_Llengths cd_Llengths ct_Llengths : Value}
    {f_Lpoints : Addr} {od_Lpoints an_Lpoints : Option Addr} {sl_Lpoints : Array (Option Value)} {oc_Lpoints kV_Lpoints dc_Lpoints pm_Lpoints cd_Lpoints ct_Lpoints : Value}
    {f_Llonger : Addr} {od_Llonger an_Llonger : Option Addr} {sl_Llonger : Array (Option Value)} {oc_Llonger kV_Llonger dc_Llonger pm_Llonger cd_Llonger ct_Llonger : Value}
    {f_Ldeeds : Addr} {od_Ldeeds an_Ldeeds : Option Addr} {sl_Ldeeds : Array (Option Value)} {oc_Ldeeds kV_Ldeeds dc_Ldeeds pm_Ldeeds cd_Ldeeds ct_Ldeeds : Value}
    {f_Lcan_be : Addr} {od_Lcan_be an_Lcan_be : Option Addr} {sl_Lcan_be : Array (Option Value)} {oc_Lcan_be kV_Lcan_be dc_Lcan_be pm_Lcan_be cd_Lcan_be ct_Lcan_be : Value}
    {f_Lmoments : Addr} {od_Lmoments an_Lmoments : Option Addr} {sl_Lmoments : Array (Option Value)} {oc_Lmoments kV_Lmoments dc_Lmoments pm_Lmoments cd_Lmoments ct_Lmoments : Value}
    {f_Lupto : Addr} {od_Lupto an_Lupto : Option Addr} {sl_Lupto : Array (Option Value)} {oc_Lupto kV_Lupto dc_Lupto pm_Lupto cd_Lupto ct_Lupto : Value}
    {f_law : Addr} {od_law an_law : Option Addr} {sl_law : Array (Option Value)} {oc_law kV_law dc_law pm_law cd_law ct_law : Value}
    {q_DEEDS : Addr} {dd_DEEDS : Option Addr} {m_DEEDS : Nat} {sl_DEEDS : Array (Option Value)}
    {q_DEEDS_1 : Addr} {dd_DEEDS_1 : Option Addr} {m_DEEDS_1 : Nat} {sl_DEEDS_1 : Array (Option Value)} {tk_DEEDS_1_0 tk_DEEDS_1_1 : Tok}
    {q_DEEDS_0 : Addr} {dd_DEEDS_0 : Option Addr} {m_DEEDS_0 : Nat} {sl_DEEDS_0 : Array (Option Value)} {tk_DEEDS_0_0 tk_DEEDS_0_1 : Tok}
    {tk_DIGITS : Tok}
    {tk_LEAST : Tok}
    {tk_LETTERS : Tok}
    {tk_MOST : Tok}
    {tk_NAME_LENGTH : Tok}
    {tk_WORD_LENGTH : Tok}
    (n_InvalidMoment : PySem.W.nsIn K mainGlobals "InvalidMoment" = some (some (.ref c_InvalidMoment)))
    (n_Log : PySem.W.nsIn K mainGlobals "Log" = some (some (.ref c_Log)))
    (n_LogError : PySem.W.nsIn K mainGlobals "LogError" = some (some (.ref c_LogError)))
    (n_Missing : PySem.W.nsIn K mainGlobals "Missing" = some (some (.ref c_Missing)))
    (n_NothingLeft : PySem.W.nsIn K mainGlobals "NothingLeft" = some (some (.ref c_NothingLeft)))
    (i_InvalidMoment : PySem.W.findIn K (.ref c_InvalidMoment) "__init__" = some (some (.ref f_i_InvalidMoment))) (l_i_InvalidMoment : K.lookup f_i_InvalidMoment = some ⟨oc_i_InvalidMoment, od_i_InvalidMoment, .func (PySem.W.fnOf "__init__" "InvalidMoment.__init__" (defArgs s_i_InvalidMoment) (defBody s_i_InvalidMoment) (defScope s_i_InvalidMoment) .none kV_i_InvalidMoment dc_i_InvalidMoment pm_i_InvalidMoment an_i_InvalidMoment cd_i_InvalidMoment ct_i_InvalidMoment), sl_i_InvalidMoment⟩) (cc_i_InvalidMoment : PySem.W.codeIn K cd_i_InvalidMoment "InvalidMoment.__init__" = true) (k_i_InvalidMoment : PySem.W.keepIn K (.ref f_i_InvalidMoment) = true)
    (x_InvalidMoment : oxB K c_InvalidMoment "ValueError.__new__" [.type "ValueError", .type "Exception", .type "BaseException", .type "object"] ("code" :: ["value"]) f_i_InvalidMoment = true)
    (tt_InvalidMoment : PySem.W.typeIn K (.ref c_InvalidMoment) = some (.type "type")) (x_em_InvalidMoment : decide (PySem.W.exmAny K (.ref c_InvalidMoment) [.ref c_LogError, .ref c_Missing, .ref c_NothingLeft] = some true) = true)
    (at_i_Log : PySem.W.findIn K (.ref c_Log) "__init__" = some (some (.ref f_i_Log))) (fi_i_Log : PySem.W.isFn K (.ref f_i_Log) = true)
    (l_i_Log : K.lookup f_i_Log = some ⟨oc_i_Log, od_i_Log, .func (PySem.W.fnOf "__init__" "Log.__init__" (defArgs s_i_Log) (defBody s_i_Log) (defScope s_i_Log) .none kV_i_Log dc_i_Log pm_i_Log an_i_Log cd_i_Log ct_i_Log), sl_i_Log⟩) (cc_i_Log : PySem.W.codeIn K cd_i_Log "Log.__init__" = true) (k_i_Log : PySem.W.keepIn K (.ref f_i_Log) = true)
    (at_Log_rows : PySem.W.findIn K (.ref c_Log) "rows" = some (some (.ref f_Log_rows))) (fi_Log_rows : PySem.W.isFn K (.ref f_Log_rows) = true)
    (l_Log_rows : K.lookup f_Log_rows = some ⟨oc_Log_rows, od_Log_rows, .func (PySem.W.fnOf "rows" "Log.rows" (defArgs s_Log_rows) (defBody s_Log_rows) (defScope s_Log_rows) .none kV_Log_rows dc_Log_rows pm_Log_rows an_Log_rows cd_Log_rows ct_Log_rows), sl_Log_rows⟩) (cc_Log_rows : PySem.W.codeIn K cd_Log_rows "Log.rows" = true) (k_Log_rows : PySem.W.keepIn K (.ref f_Log_rows) = true)
    (at_Log_processes : PySem.W.findIn K (.ref c_Log) "processes" = some (some (.ref f_Log_processes))) (fi_Log_processes : PySem.W.isFn K (.ref f_Log_processes) = true)
    (l_Log_processes : K.lookup f_Log_processes = some ⟨oc_Log_processes, od_Log_processes, .func (PySem.W.fnOf "processes" "Log.processes" (defArgs s_Log_processes) (defBody s_Log_processes) (defScope s_Log_processes) .none kV_Log_processes dc_Log_processes pm_Log_processes an_Log_processes cd_Log_processes ct_Log_processes), sl_Log_processes⟩) (cc_Log_processes : PySem.W.codeIn K cd_Log_processes "Log.processes" = true) (k_Log_processes : PySem.W.keepIn K (.ref f_Log_processes) = true)
    (at_Log_lengths : PySem.W.findIn K (.ref c_Log) "lengths" = some (some (.ref f_Log_lengths))) (fi_Log_lengths : PySem.W.isFn K (.ref f_Log_lengths) = true)
    (l_Log_lengths : K.lookup f_Log_lengths = some ⟨oc_Log_lengths, od_Log_lengths, .func (PySem.W.fnOf "lengths" "Log.lengths" (defArgs s_Log_lengths) (defBody s_Log_lengths) (defScope s_Log_lengths) .none kV_Log_lengths dc_Log_lengths pm_Log_lengths an_Log_lengths cd_Log_lengths ct_Log_lengths), sl_Log_lengths⟩) (cc_Log_lengths : PySem.W.codeIn K cd_Log_lengths "Log.lengths" = true) (k_Log_lengths : PySem.W.keepIn K (.ref f_Log_lengths) = true)
    (at_Log_upto : PySem.W.findIn K (.ref c_Log) "upto" = some (some (.ref f_Log_upto))) (fi_Log_upto : PySem.W.isFn K (.ref f_Log_upto) = true)
    (l_Log_upto : K.lookup f_Log_upto = some ⟨oc_Log_upto, od_Log_upto, .func (PySem.W.fnOf "upto" "Log.upto" (defArgs s_Log_upto) (defBody s_Log_upto) (defScope s_Log_upto) .none kV_Log_upto dc_Log_upto pm_Log_upto an_Log_upto cd_Log_upto ct_Log_upto), sl_Log_upto⟩) (cc_Log_upto : PySem.W.codeIn K cd_Log_upto "Log.upto" = true) (k_Log_upto : PySem.W.keepIn K (.ref f_Log_upto) = true)
    (at_Log_text : PySem.W.findIn K (.ref c_Log) "text" = some (some (.ref f_Log_text))) (fi_Log_text : PySem.W.isFn K (.ref f_Log_text) = true)
    (l_Log_text : K.lookup f_Log_text = some ⟨oc_Log_text, od_Log_text, .func (PySem.W.fnOf "text" "Log.text" (defArgs s_Log_text) (defBody s_Log_text) (defScope s_Log_text) .none kV_Log_text dc_Log_text pm_Log_text an_Log_text cd_Log_text ct_Log_text), sl_Log_text⟩) (cc_Log_text : PySem.W.codeIn K cd_Log_text "Log.text" = true) (k_Log_text : PySem.W.keepIn K (.ref f_Log_text) = true)
    (at_Log_read : PySem.W.findCls K (.ref c_Log) (.type "type") "read" = some (.get (.builtin "classmethod.__get__") (.ref p_Log_read) .none (.ref c_Log))) (rc_Log_read : PySem.W.recIn K p_Log_read "classmethod" = some (.ref f_Log_read :: rest_Log_read)) (fi_Log_read : PySem.W.fnIn K f_Log_read = true)
    (l_Log_read : K.lookup f_Log_read = some ⟨oc_Log_read, od_Log_read, .func (PySem.W.fnOf "read" "Log.read" (defArgs s_Log_read) (defBody s_Log_read) (defScope s_Log_read) .none kV_Log_read dc_Log_read pm_Log_read an_Log_read cd_Log_read ct_Log_read), sl_Log_read⟩) (cc_Log_read : PySem.W.codeIn K cd_Log_read "Log.read" = true) (k_Log_read : PySem.W.keepIn K (.ref f_Log_read) = true)
    (at_Log_eq : PySem.W.findIn K (.ref c_Log) "__eq__" = some (some (.ref f_Log_eq))) (fi_Log_eq : PySem.W.isFn K (.ref f_Log_eq) = true)
    (l_Log_eq : K.lookup f_Log_eq = some ⟨oc_Log_eq, od_Log_eq, .func (PySem.W.fnOf "__eq__" "Log.__eq__" (defArgs s_Log_eq) (defBody s_Log_eq) (defScope s_Log_eq) .none kV_Log_eq dc_Log_eq pm_Log_eq an_Log_eq cd_Log_eq ct_Log_eq), sl_Log_eq⟩) (cc_Log_eq : PySem.W.codeIn K cd_Log_eq "Log.__eq__" = true) (k_Log_eq : PySem.W.keepIn K (.ref f_Log_eq) = true)
    (at_Log_str : PySem.W.findIn K (.ref c_Log) "__str__" = some (some (.ref f_Log_str))) (fi_Log_str : PySem.W.isFn K (.ref f_Log_str) = true)
    (l_Log_str : K.lookup f_Log_str = some ⟨oc_Log_str, od_Log_str, .func (PySem.W.fnOf "__str__" "Log.__str__" (defArgs s_Log_str) (defBody s_Log_str) (defScope s_Log_str) .none kV_Log_str dc_Log_str pm_Log_str an_Log_str cd_Log_str ct_Log_str), sl_Log_str⟩) (cc_Log_str : PySem.W.codeIn K cd_Log_str "Log.__str__" = true) (k_Log_str : PySem.W.keepIn K (.ref f_Log_str) = true)
    (pg_Log : PySem.W.plainGet K c_Log Str.empty = true) (hd_Log : PySem.W.hasDictIn K c_Log = true) (po_Log : PySem.W.plainOver K c_Log = true) (sa_Log : PySem.W.findIn K (.ref c_Log) "__setattr__" = some (some (.builtin "object.__setattr__"))) (mk_Log : PySem.W.makesIn K c_Log = true) (kc_Log : PySem.W.keepIn K (.ref c_Log) = true)
    (rd_Log : PySem.W.readsIn K c_Log (.type "type") = true) (ga_Log : PySem.W.specialIn K (.ref c_Log) "__getattribute__" = some (some (.builtin "type.__getattribute__")))
    (ha_Log : PySem.W.findIn K (.ref c_Log) "__class__" = some (some (.builtin "object.__class__"))) (hn_Log : PySem.W.specialIn K (.builtin "object.__class__") "__get__" = some (some (.builtin "getset_descriptor.__get__"))) (ht_Log : PySem.W.takesIn K (.builtin "object.__class__") = some true) (hm_Log : PySem.W.mroIn K c_Log (.type "object") = some true)
    (na_Log_rows : PySem.W.findIn K (.ref c_Log) "_rows" = some none)
    (na_Log_order : PySem.W.findIn K (.ref c_Log) "_order" = some none)
    (cv_Log_PROCESSES : PySem.W.findCls K (.ref c_Log) (.type "type") "PROCESSES" = some (.val (.int 6 tk_Log_PROCESSES)))
    (cv_Log_STEPS : PySem.W.findCls K (.ref c_Log) (.type "type") "STEPS" = some (.val (.int 20 tk_Log_STEPS)))
    (n_is_name : PySem.W.nsIn K mainGlobals "is_name" = some (some (.ref f_is_name))) (l_is_name : K.lookup f_is_name = some ⟨oc_is_name, od_is_name, .func (PySem.W.fnOf "is_name" "is_name" (defArgs s_is_name) (defBody s_is_name) (defScope s_is_name) .none kV_is_name dc_is_name pm_is_name an_is_name cd_is_name ct_is_name), sl_is_name⟩) (c_is_name : PySem.W.codeIn K cd_is_name "is_name" = true) (k_is_name : PySem.W.keepIn K (.ref f_is_name) = true)
    (n_is_word : PySem.W.nsIn K mainGlobals "is_word" = some (some (.ref f_is_word))) (l_is_word : K.lookup f_is_word = some ⟨oc_is_word, od_is_word, .func (PySem.W.fnOf "is_word" "is_word" (defArgs s_is_word) (defBody s_is_word) (defScope s_is_word) .none kV_is_word dc_is_word pm_is_word an_is_word cd_is_word ct_is_word), sl_is_word⟩) (c_is_word : PySem.W.codeIn K cd_is_word "is_word" = true) (k_is_word : PySem.W.keepIn K (.ref f_is_word) = true)
    (n_is_number : PySem.W.nsIn K mainGlobals "is_number" = some (some (.ref f_is_number))) (l_is_number : K.lookup f_is_number = some ⟨oc_is_number, od_is_number, .func (PySem.W.fnOf "is_number" "is_number" (defArgs s_is_number) (defBody s_is_number) (defScope s_is_number) .none kV_is_number dc_is_number pm_is_number an_is_number cd_is_number ct_is_number), sl_is_number⟩) (c_is_number : PySem.W.codeIn K cd_is_number "is_number" = true) (k_is_number : PySem.W.keepIn K (.ref f_is_number) = true)
    (n_is_step : PySem.W.nsIn K mainGlobals "is_step" = some (some (.ref f_is_step))) (l_is_step : K.lookup f_is_step = some ⟨oc_is_step, od_is_step, .func (PySem.W.fnOf "is_step" "is_step" (defArgs s_is_step) (defBody s_is_step) (defScope s_is_step) .none kV_is_step dc_is_step pm_is_step an_is_step cd_is_step ct_is_step), sl_is_step⟩) (c_is_step : PySem.W.codeIn K cd_is_step "is_step" = true) (k_is_step : PySem.W.keepIn K (.ref f_is_step) = true)
    (n_step_text : PySem.W.nsIn K mainGlobals "step_text" = some (some (.ref f_step_text))) (l_step_text : K.lookup f_step_text = some ⟨oc_step_text, od_step_text, .func (PySem.W.fnOf "step_text" "step_text" (defArgs s_step_text) (defBody s_step_text) (defScope s_step_text) .none kV_step_text dc_step_text pm_step_text an_step_text cd_step_text ct_step_text), sl_step_text⟩) (c_step_text : PySem.W.codeIn K cd_step_text "step_text" = true) (k_step_text : PySem.W.keepIn K (.ref f_step_text) = true)
    (n_read_step : PySem.W.nsIn K mainGlobals "read_step" = some (some (.ref f_read_step))) (l_read_step : K.lookup f_read_step = some ⟨oc_read_step, od_read_step, .func (PySem.W.fnOf "read_step" "read_step" (defArgs s_read_step) (defBody s_read_step) (defScope s_read_step) .none kV_read_step dc_read_step pm_read_step an_read_step cd_read_step ct_read_step), sl_read_step⟩) (c_read_step : PySem.W.codeIn K cd_read_step "read_step" = true) (k_read_step : PySem.W.keepIn K (.ref f_read_step) = true)
    (n_read_number : PySem.W.nsIn K mainGlobals "read_number" = some (some (.ref f_read_number))) (l_read_number : K.lookup f_read_number = some ⟨oc_read_number, od_read_number, .func (PySem.W.fnOf "read_number" "read_number" (defArgs s_read_number) (defBody s_read_number) (defScope s_read_number) .none kV_read_number dc_read_number pm_read_number an_read_number cd_read_number ct_read_number), sl_read_number⟩) (c_read_number : PySem.W.codeIn K cd_read_number "read_number" = true) (k_read_number : PySem.W.keepIn K (.ref f_read_number) = true)
    (n_consists_of : PySem.W.nsIn K mainGlobals "_consists_of" = some (some (.ref f_consists_of))) (l_consists_of : K.lookup f_consists_of = some ⟨oc_consists_of, od_consists_of, .func (PySem.W.fnOf "_consists_of" "_consists_of" (defArgs s_consists_of) (defBody s_consists_of) (defScope s_consists_of) .none kV_consists_of dc_consists_of pm_consists_of an_consists_of cd_consists_of ct_consists_of), sl_consists_of⟩) (c_consists_of : PySem.W.codeIn K cd_consists_of "_consists_of" = true) (k_consists_of : PySem.W.keepIn K (.ref f_consists_of) = true)
    (n_is_deed : PySem.W.nsIn K mainGlobals "_is_deed" = some (some (.ref f_is_deed))) (l_is_deed : K.lookup f_is_deed = some ⟨oc_is_deed, od_is_deed, .func (PySem.W.fnOf "_is_deed" "_is_deed" (defArgs s_is_deed) (defBody s_is_deed) (defScope s_is_deed) .none kV_is_deed dc_is_deed pm_is_deed an_is_deed cd_is_deed ct_is_deed), sl_is_deed⟩) (c_is_deed : PySem.W.codeIn K cd_is_deed "_is_deed" = true) (k_is_deed : PySem.W.keepIn K (.ref f_is_deed) = true)
    (n_split_deed : PySem.W.nsIn K mainGlobals "_split_deed" = some (some (.ref f_split_deed))) (l_split_deed : K.lookup f_split_deed = some ⟨oc_split_deed, od_split_deed, .func (PySem.W.fnOf "_split_deed" "_split_deed" (defArgs s_split_deed) (defBody s_split_deed) (defScope s_split_deed) .none kV_split_deed dc_split_deed pm_split_deed an_split_deed cd_split_deed ct_split_deed), sl_split_deed⟩) (c_split_deed : PySem.W.codeIn K cd_split_deed "_split_deed" = true) (k_split_deed : PySem.W.keepIn K (.ref f_split_deed) = true)
    (n_check_rows : PySem.W.nsIn K mainGlobals "_check_rows" = some (some (.ref f_check_rows))) (l_check_rows : K.lookup f_check_rows = some ⟨oc_check_rows, od_check_rows, .func (PySem.W.fnOf "_check_rows" "_check_rows" (defArgs s_check_rows) (defBody s_check_rows) (defScope s_check_rows) .none kV_check_rows dc_check_rows pm_check_rows an_check_rows cd_check_rows ct_check_rows), sl_check_rows⟩) (c_check_rows : PySem.W.codeIn K cd_check_rows "_check_rows" = true) (k_check_rows : PySem.W.keepIn K (.ref f_check_rows) = true)
    (n_is_row : PySem.W.nsIn K mainGlobals "_is_row" = some (some (.ref f_is_row))) (l_is_row : K.lookup f_is_row = some ⟨oc_is_row, od_is_row, .func (PySem.W.fnOf "_is_row" "_is_row" (defArgs s_is_row) (defBody s_is_row) (defScope s_is_row) .none kV_is_row dc_is_row pm_is_row an_is_row cd_is_row ct_is_row), sl_is_row⟩) (c_is_row : PySem.W.codeIn K cd_is_row "_is_row" = true) (k_is_row : PySem.W.keepIn K (.ref f_is_row) = true)
    (n_check_steps : PySem.W.nsIn K mainGlobals "_check_steps" = some (some (.ref f_check_steps))) (l_check_steps : K.lookup f_check_steps = some ⟨oc_check_steps, od_check_steps, .func (PySem.W.fnOf "_check_steps" "_check_steps" (defArgs s_check_steps) (defBody s_check_steps) (defScope s_check_steps) .none kV_check_steps dc_check_steps pm_check_steps an_check_steps cd_check_steps ct_check_steps), sl_check_steps⟩) (c_check_steps : PySem.W.codeIn K cd_check_steps "_check_steps" = true) (k_check_steps : PySem.W.keepIn K (.ref f_check_steps) = true)
    (n_check_messages : PySem.W.nsIn K mainGlobals "_check_messages" = some (some (.ref f_check_messages))) (l_check_messages : K.lookup f_check_messages = some ⟨oc_check_messages, od_check_messages, .func (PySem.W.fnOf "_check_messages" "_check_messages" (defArgs s_check_messages) (defBody s_check_messages) (defScope s_check_messages) .none kV_check_messages dc_check_messages pm_check_messages an_check_messages cd_check_messages ct_check_messages), sl_check_messages⟩) (c_check_messages : PySem.W.codeIn K cd_check_messages "_check_messages" = true) (k_check_messages : PySem.W.keepIn K (.ref f_check_messages) = true)
    (n_check_ends : PySem.W.nsIn K mainGlobals "_check_ends" = some (some (.ref f_check_ends))) (l_check_ends : K.lookup f_check_ends = some ⟨oc_check_ends, od_check_ends, .func (PySem.W.fnOf "_check_ends" "_check_ends" (defArgs s_check_ends) (defBody s_check_ends) (defScope s_check_ends) .none kV_check_ends dc_check_ends pm_check_ends an_check_ends cd_check_ends ct_check_ends), sl_check_ends⟩) (c_check_ends : PySem.W.codeIn K cd_check_ends "_check_ends" = true) (k_check_ends : PySem.W.keepIn K (.ref f_check_ends) = true)
    (n_names : PySem.W.nsIn K mainGlobals "_names" = some (some (.ref f_names))) (l_names : K.lookup f_names = some ⟨oc_names, od_names, .func (PySem.W.fnOf "_names" "_names" (defArgs s_names) (defBody s_names) (defScope s_names) .none kV_names dc_names pm_names an_names cd_names ct_names), sl_names⟩) (c_names : PySem.W.codeIn K cd_names "_names" = true) (k_names : PySem.W.keepIn K (.ref f_names) = true)
    (n_deeds : PySem.W.nsIn K mainGlobals "_deeds" = some (some (.ref f_deeds))) (l_deeds : K.lookup f_deeds = some ⟨oc_deeds, od_deeds, .func (PySem.W.fnOf "_deeds" "_deeds" (defArgs s_deeds) (defBody s_deeds) (defScope s_deeds) .none kV_deeds dc_deeds pm_deeds an_deeds cd_deeds ct_deeds), sl_deeds⟩) (c_deeds : PySem.W.codeIn K cd_deeds "_deeds" = true) (k_deeds : PySem.W.keepIn K (.ref f_deeds) = true)
    (n_first_unsent : PySem.W.nsIn K mainGlobals "_first_unsent" = some (some (.ref f_first_unsent))) (l_first_unsent : K.lookup f_first_unsent = some ⟨oc_first_unsent, od_first_unsent, .func (PySem.W.fnOf "_first_unsent" "_first_unsent" (defArgs s_first_unsent) (defBody s_first_unsent) (defScope s_first_unsent) .none kV_first_unsent dc_first_unsent pm_first_unsent an_first_unsent cd_first_unsent ct_first_unsent), sl_first_unsent⟩) (c_first_unsent : PySem.W.codeIn K cd_first_unsent "_first_unsent" = true) (k_first_unsent : PySem.W.keepIn K (.ref f_first_unsent) = true)
    (n_order_of : PySem.W.nsIn K mainGlobals "_order_of" = some (some (.ref f_order_of))) (l_order_of : K.lookup f_order_of = some ⟨oc_order_of, od_order_of, .func (PySem.W.fnOf "_order_of" "_order_of" (defArgs s_order_of) (defBody s_order_of) (defScope s_order_of) .none kV_order_of dc_order_of pm_order_of an_order_of cd_order_of ct_order_of), sl_order_of⟩) (c_order_of : PySem.W.codeIn K cd_order_of "_order_of" = true) (k_order_of : PySem.W.keepIn K (.ref f_order_of) = true)
    (n_first_ready : PySem.W.nsIn K mainGlobals "_first_ready" = some (some (.ref f_first_ready))) (l_first_ready : K.lookup f_first_ready = some ⟨oc_first_ready, od_first_ready, .func (PySem.W.fnOf "_first_ready" "_first_ready" (defArgs s_first_ready) (defBody s_first_ready) (defScope s_first_ready) .none kV_first_ready dc_first_ready pm_first_ready an_first_ready cd_first_ready ct_first_ready), sl_first_ready⟩) (c_first_ready : PySem.W.codeIn K cd_first_ready "_first_ready" = true) (k_first_ready : PySem.W.keepIn K (.ref f_first_ready) = true)
    (n_can_be_made : PySem.W.nsIn K mainGlobals "_can_be_made" = some (some (.ref f_can_be_made))) (l_can_be_made : K.lookup f_can_be_made = some ⟨oc_can_be_made, od_can_be_made, .func (PySem.W.fnOf "_can_be_made" "_can_be_made" (defArgs s_can_be_made) (defBody s_can_be_made) (defScope s_can_be_made) .none kV_can_be_made dc_can_be_made pm_can_be_made an_can_be_made cd_can_be_made ct_can_be_made), sl_can_be_made⟩) (c_can_be_made : PySem.W.codeIn K cd_can_be_made "_can_be_made" = true) (k_can_be_made : PySem.W.keepIn K (.ref f_can_be_made) = true)
    (n_are_places : PySem.W.nsIn K mainGlobals "are_places" = some (some (.ref f_are_places))) (l_are_places : K.lookup f_are_places = some ⟨oc_are_places, od_are_places, .func (PySem.W.fnOf "are_places" "are_places" (defArgs s_are_places) (defBody s_are_places) (defScope s_are_places) .none kV_are_places dc_are_places pm_are_places an_are_places cd_are_places ct_are_places), sl_are_places⟩) (c_are_places : PySem.W.codeIn K cd_are_places "are_places" = true) (k_are_places : PySem.W.keepIn K (.ref f_are_places) = true)
    (n_row_text : PySem.W.nsIn K mainGlobals "_row_text" = some (some (.ref f_row_text))) (l_row_text : K.lookup f_row_text = some ⟨oc_row_text, od_row_text, .func (PySem.W.fnOf "_row_text" "_row_text" (defArgs s_row_text) (defBody s_row_text) (defScope s_row_text) .none kV_row_text dc_row_text pm_row_text an_row_text cd_row_text ct_row_text), sl_row_text⟩) (c_row_text : PySem.W.codeIn K cd_row_text "_row_text" = true) (k_row_text : PySem.W.keepIn K (.ref f_row_text) = true)
    (n_read_row : PySem.W.nsIn K mainGlobals "read_row" = some (some (.ref f_read_row))) (l_read_row : K.lookup f_read_row = some ⟨oc_read_row, od_read_row, .func (PySem.W.fnOf "read_row" "read_row" (defArgs s_read_row) (defBody s_read_row) (defScope s_read_row) .none kV_read_row dc_read_row pm_read_row an_read_row cd_read_row ct_read_row), sl_read_row⟩) (c_read_row : PySem.W.codeIn K cd_read_row "read_row" = true) (k_read_row : PySem.W.keepIn K (.ref f_read_row) = true)
    (n_Lbag : PySem.W.nsIn K mainGlobals "_law_bag" = some (some (.ref f_Lbag))) (l_Lbag : K.lookup f_Lbag = some ⟨oc_Lbag, od_Lbag, .func (PySem.W.fnOf "_law_bag" "_law_bag" (defArgs s_Lbag) (defBody s_Lbag) (defScope s_Lbag) .none kV_Lbag dc_Lbag pm_Lbag an_Lbag cd_Lbag ct_Lbag), sl_Lbag⟩) (c_Lbag : PySem.W.codeIn K cd_Lbag "_law_bag" = true) (k_Lbag : PySem.W.keepIn K (.ref f_Lbag) = true)
    (n_Ldraw : PySem.W.nsIn K mainGlobals "_law_draw" = some (some (.ref f_Ldraw))) (l_Ldraw : K.lookup f_Ldraw = some ⟨oc_Ldraw, od_Ldraw, .func (PySem.W.fnOf "_law_draw" "_law_draw" (defArgs s_Ldraw) (defBody s_Ldraw) (defScope s_Ldraw) .none kV_Ldraw dc_Ldraw pm_Ldraw an_Ldraw cd_Ldraw ct_Ldraw), sl_Ldraw⟩) (c_Ldraw : PySem.W.codeIn K cd_Ldraw "_law_draw" = true) (k_Ldraw : PySem.W.keepIn K (.ref f_Ldraw) = true)
    (n_Lof : PySem.W.nsIn K mainGlobals "_law_of" = some (some (.ref f_Lof))) (l_Lof : K.lookup f_Lof = some ⟨oc_Lof, od_Lof, .func (PySem.W.fnOf "_law_of" "_law_of" (defArgs s_Lof) (defBody s_Lof) (defScope s_Lof) .none kV_Lof dc_Lof pm_Lof an_Lof cd_Lof ct_Lof), sl_Lof⟩) (c_Lof : PySem.W.codeIn K cd_Lof "_law_of" = true) (k_Lof : PySem.W.keepIn K (.ref f_Lof) = true)
    (n_Lmixed : PySem.W.nsIn K mainGlobals "_law_mixed" = some (some (.ref f_Lmixed))) (l_Lmixed : K.lookup f_Lmixed = some ⟨oc_Lmixed, od_Lmixed, .func (PySem.W.fnOf "_law_mixed" "_law_mixed" (defArgs s_Lmixed) (defBody s_Lmixed) (defScope s_Lmixed) .none kV_Lmixed dc_Lmixed pm_Lmixed an_Lmixed cd_Lmixed ct_Lmixed), sl_Lmixed⟩) (c_Lmixed : PySem.W.codeIn K cd_Lmixed "_law_mixed" = true) (k_Lmixed : PySem.W.keepIn K (.ref f_Lmixed) = true)
    (n_Lsame : PySem.W.nsIn K mainGlobals "_law_same" = some (some (.ref f_Lsame))) (l_Lsame : K.lookup f_Lsame = some ⟨oc_Lsame, od_Lsame, .func (PySem.W.fnOf "_law_same" "_law_same" (defArgs s_Lsame) (defBody s_Lsame) (defScope s_Lsame) .none kV_Lsame dc_Lsame pm_Lsame an_Lsame cd_Lsame ct_Lsame), sl_Lsame⟩) (c_Lsame : PySem.W.codeIn K cd_Lsame "_law_same" = true) (k_Lsame : PySem.W.keepIn K (.ref f_Lsame) = true)
    (n_Lfield : PySem.W.nsIn K mainGlobals "_law_field" = some (some (.ref f_Lfield))) (l_Lfield : K.lookup f_Lfield = some ⟨oc_Lfield, od_Lfield, .func (PySem.W.fnOf "_law_field" "_law_field" (defArgs s_Lfield) (defBody s_Lfield) (defScope s_Lfield) .none kV_Lfield dc_Lfield pm_Lfield an_Lfield cd_Lfield ct_Lfield), sl_Lfield⟩) (c_Lfield : PySem.W.codeIn K cd_Lfield "_law_field" = true) (k_Lfield : PySem.W.keepIn K (.ref f_Lfield) = true)
    (n_Lother_field : PySem.W.nsIn K mainGlobals "_law_other_field" = some (some (.ref f_Lother_field))) (l_Lother_field : K.lookup f_Lother_field = some ⟨oc_Lother_field, od_Lother_field, .func (PySem.W.fnOf "_law_other_field" "_law_other_field" (defArgs s_Lother_field) (defBody s_Lother_field) (defScope s_Lother_field) .none kV_Lother_field dc_Lother_field pm_Lother_field an_Lother_field cd_Lother_field ct_Lother_field), sl_Lother_field⟩) (c_Lother_field : PySem.W.codeIn K cd_Lother_field "_law_other_field" = true) (k_Lother_field : PySem.W.keepIn K (.ref f_Lother_field) = true)
    (n_Lgot : PySem.W.nsIn K mainGlobals "_law_got" = some (some (.ref f_Lgot))) (l_Lgot : K.lookup f_Lgot = some ⟨oc_Lgot, od_Lgot, .func (PySem.W.fnOf "_law_got" "_law_got" (defArgs s_Lgot) (defBody s_Lgot) (defScope s_Lgot) .none kV_Lgot dc_Lgot pm_Lgot an_Lgot cd_Lgot ct_Lgot), sl_Lgot⟩) (c_Lgot : PySem.W.codeIn K cd_Lgot "_law_got" = true) (k_Lgot : PySem.W.keepIn K (.ref f_Lgot) = true)
    (n_Lwhy : PySem.W.nsIn K mainGlobals "_law_why" = some (some (.ref f_Lwhy))) (l_Lwhy : K.lookup f_Lwhy = some ⟨oc_Lwhy, od_Lwhy, .func (PySem.W.fnOf "_law_why" "_law_why" (defArgs s_Lwhy) (defBody s_Lwhy) (defScope s_Lwhy) .none kV_Lwhy dc_Lwhy pm_Lwhy an_Lwhy cd_Lwhy ct_Lwhy), sl_Lwhy⟩) (c_Lwhy : PySem.W.codeIn K cd_Lwhy "_law_why" = true) (k_Lwhy : PySem.W.keepIn K (.ref f_Lwhy) = true)
    (n_Lmarks : PySem.W.nsIn K mainGlobals "_law_marks" = some (some (.ref f_Lmarks))) (l_Lmarks : K.lookup f_Lmarks = some ⟨oc_Lmarks, od_Lmarks, .func (PySem.W.fnOf "_law_marks" "_law_marks" (defArgs s_Lmarks) (defBody s_Lmarks) (defScope s_Lmarks) .none kV_Lmarks dc_Lmarks pm_Lmarks an_Lmarks cd_Lmarks ct_Lmarks), sl_Lmarks⟩) (c_Lmarks : PySem.W.codeIn K cd_Lmarks "_law_marks" = true) (k_Lmarks : PySem.W.keepIn K (.ref f_Lmarks) = true)
    (n_Lstep : PySem.W.nsIn K mainGlobals "_law_step" = some (some (.ref f_Lstep))) (l_Lstep : K.lookup f_Lstep = some ⟨oc_Lstep, od_Lstep, .func (PySem.W.fnOf "_law_step" "_law_step" (defArgs s_Lstep) (defBody s_Lstep) (defScope s_Lstep) .none kV_Lstep dc_Lstep pm_Lstep an_Lstep cd_Lstep ct_Lstep), sl_Lstep⟩) (c_Lstep : PySem.W.codeIn K cd_Lstep "_law_step" = true) (k_Lstep : PySem.W.keepIn K (.ref f_Lstep) = true)
    (n_Lrows : PySem.W.nsIn K mainGlobals "_law_rows" = some (some (.ref f_Lrows))) (l_Lrows : K.lookup f_Lrows = some ⟨oc_Lrows, od_Lrows, .func (PySem.W.fnOf "_law_rows" "_law_rows" (defArgs s_Lrows) (defBody s_Lrows) (defScope s_Lrows) .none kV_Lrows dc_Lrows pm_Lrows an_Lrows cd_Lrows ct_Lrows), sl_Lrows⟩) (c_Lrows : PySem.W.codeIn K cd_Lrows "_law_rows" = true) (k_Lrows : PySem.W.keepIn K (.ref f_Lrows) = true)
    (n_Llog : PySem.W.nsIn K mainGlobals "_law_log" = some (some (.ref f_Llog))) (l_Llog : K.lookup f_Llog = some ⟨oc_Llog, od_Llog, .func (PySem.W.fnOf "_law_log" "_law_log" (defArgs s_Llog) (defBody s_Llog) (defScope s_Llog) .none kV_Llog dc_Llog pm_Llog an_Llog cd_Llog ct_Llog), sl_Llog⟩) (c_Llog : PySem.W.codeIn K cd_Llog "_law_log" = true) (k_Llog : PySem.W.keepIn K (.ref f_Llog) = true)
    (n_Lsmall_rows : PySem.W.nsIn K mainGlobals "_law_small_rows" = some (some (.ref f_Lsmall_rows))) (l_Lsmall_rows : K.lookup f_Lsmall_rows = some ⟨oc_Lsmall_rows, od_Lsmall_rows, .func (PySem.W.fnOf "_law_small_rows" "_law_small_rows" (defArgs s_Lsmall_rows) (defBody s_Lsmall_rows) (defScope s_Lsmall_rows) .none kV_Lsmall_rows dc_Lsmall_rows pm_Lsmall_rows an_Lsmall_rows cd_Lsmall_rows ct_Lsmall_rows), sl_Lsmall_rows⟩) (c_Lsmall_rows : PySem.W.codeIn K cd_Lsmall_rows "_law_small_rows" = true) (k_Lsmall_rows : PySem.W.keepIn K (.ref f_Lsmall_rows) = true)
    (n_Llengths : PySem.W.nsIn K mainGlobals "_law_lengths" = some (some (.ref f_Llengths))) (l_Llengths : K.lookup f_Llengths = some ⟨oc_Llengths, od_Llengths, .func (PySem.W.fnOf "_law_lengths" "_law_lengths" (defArgs s_Llengths) (defBody s_Llengths) (defScope s_Llengths) .none kV_Llengths dc_Llengths pm_Llengths an_Llengths cd_Llengths ct_Llengths), sl_Llengths⟩) (c_Llengths : PySem.W.codeIn K cd_Llengths "_law_lengths" = true) (k_Llengths : PySem.W.keepIn K (.ref f_Llengths) = true)
    (n_Lpoints : PySem.W.nsIn K mainGlobals "_law_points" = some (some (.ref f_Lpoints))) (l_Lpoints : K.lookup f_Lpoints = some ⟨oc_Lpoints, od_Lpoints, .func (PySem.W.fnOf "_law_points" "_law_points" (defArgs s_Lpoints) (defBody s_Lpoints) (defScope s_Lpoints) .none kV_Lpoints dc_Lpoints pm_Lpoints an_Lpoints cd_Lpoints ct_Lpoints), sl_Lpoints⟩) (c_Lpoints : PySem.W.codeIn K cd_Lpoints "_law_points" = true) (k_Lpoints : PySem.W.keepIn K (.ref f_Lpoints) = true)
    (n_Llonger : PySem.W.nsIn K mainGlobals "_law_longer" = some (some (.ref f_Llonger))) (l_Llonger : K.lookup f_Llonger = some ⟨oc_Llonger, od_Llonger, .func (PySem.W.fnOf "_law_longer" "_law_longer" (defArgs s_Llonger) (defBody s_Llonger) (defScope s_Llonger) .none kV_Llonger dc_Llonger pm_Llonger an_Llonger cd_Llonger ct_Llonger), sl_Llonger⟩) (c_Llonger : PySem.W.codeIn K cd_Llonger "_law_longer" = true) (k_Llonger : PySem.W.keepIn K (.ref f_Llonger) = true)
    (n_Ldeeds : PySem.W.nsIn K mainGlobals "_law_deeds" = some (some (.ref f_Ldeeds))) (l_Ldeeds : K.lookup f_Ldeeds = some ⟨oc_Ldeeds, od_Ldeeds, .func (PySem.W.fnOf "_law_deeds" "_law_deeds" (defArgs s_Ldeeds) (defBody s_Ldeeds) (defScope s_Ldeeds) .none kV_Ldeeds dc_Ldeeds pm_Ldeeds an_Ldeeds cd_Ldeeds ct_Ldeeds), sl_Ldeeds⟩) (c_Ldeeds : PySem.W.codeIn K cd_Ldeeds "_law_deeds" = true) (k_Ldeeds : PySem.W.keepIn K (.ref f_Ldeeds) = true)
    (n_Lcan_be : PySem.W.nsIn K mainGlobals "_law_can_be" = some (some (.ref f_Lcan_be))) (l_Lcan_be : K.lookup f_Lcan_be = some ⟨oc_Lcan_be, od_Lcan_be, .func (PySem.W.fnOf "_law_can_be" "_law_can_be" (defArgs s_Lcan_be) (defBody s_Lcan_be) (defScope s_Lcan_be) .none kV_Lcan_be dc_Lcan_be pm_Lcan_be an_Lcan_be cd_Lcan_be ct_Lcan_be), sl_Lcan_be⟩) (c_Lcan_be : PySem.W.codeIn K cd_Lcan_be "_law_can_be" = true) (k_Lcan_be : PySem.W.keepIn K (.ref f_Lcan_be) = true)
    (n_Lmoments : PySem.W.nsIn K mainGlobals "_law_moments" = some (some (.ref f_Lmoments))) (l_Lmoments : K.lookup f_Lmoments = some ⟨oc_Lmoments, od_Lmoments, .func (PySem.W.fnOf "_law_moments" "_law_moments" (defArgs s_Lmoments) (defBody s_Lmoments) (defScope s_Lmoments) .none kV_Lmoments dc_Lmoments pm_Lmoments an_Lmoments cd_Lmoments ct_Lmoments), sl_Lmoments⟩) (c_Lmoments : PySem.W.codeIn K cd_Lmoments "_law_moments" = true) (k_Lmoments : PySem.W.keepIn K (.ref f_Lmoments) = true)
    (n_Lupto : PySem.W.nsIn K mainGlobals "_law_upto" = some (some (.ref f_Lupto))) (l_Lupto : K.lookup f_Lupto = some ⟨oc_Lupto, od_Lupto, .func (PySem.W.fnOf "_law_upto" "_law_upto" (defArgs s_Lupto) (defBody s_Lupto) (defScope s_Lupto) .none kV_Lupto dc_Lupto pm_Lupto an_Lupto cd_Lupto ct_Lupto), sl_Lupto⟩) (c_Lupto : PySem.W.codeIn K cd_Lupto "_law_upto" = true) (k_Lupto : PySem.W.keepIn K (.ref f_Lupto) = true)
    (n_law : PySem.W.nsIn K mainGlobals "law" = some (some (.ref f_law))) (l_law : K.lookup f_law = some ⟨oc_law, od_law, .func (PySem.W.fnOf "law" "law" (defArgs s_law) (defBody s_law) (defScope s_law) .none kV_law dc_law pm_law an_law cd_law ct_law), sl_law⟩) (c_law : PySem.W.codeIn K cd_law "law" = true) (k_law : PySem.W.keepIn K (.ref f_law) = true)
    (n_DEEDS : PySem.W.nsIn K mainGlobals "DEEDS" = some (some (.ref q_DEEDS)))
    (l_DEEDS : K.lookup q_DEEDS = some ⟨.type "tuple", dd_DEEDS, .seq #[.ref q_DEEDS_0, .ref q_DEEDS_1] m_DEEDS, sl_DEEDS⟩)
    (l_DEEDS_1 : K.lookup q_DEEDS_1 = some ⟨.type "tuple", dd_DEEDS_1, .seq #[.str "receive" tk_DEEDS_1_0, .str "?" tk_DEEDS_1_1] m_DEEDS_1, sl_DEEDS_1⟩)
    (l_DEEDS_0 : K.lookup q_DEEDS_0 = some ⟨.type "tuple", dd_DEEDS_0, .seq #[.str "send" tk_DEEDS_0_0, .str "!" tk_DEEDS_0_1] m_DEEDS_0, sl_DEEDS_0⟩)
    (n_DIGITS : PySem.W.nsIn K mainGlobals "DIGITS" = some (some (.str "0123456789" tk_DIGITS)))
    (n_LEAST : PySem.W.nsIn K mainGlobals "LEAST" = some (some (.int (-99) tk_LEAST)))
    (n_LETTERS : PySem.W.nsIn K mainGlobals "LETTERS" = some (some (.str "abcdefghijklmnopqrstuvwxyz" tk_LETTERS)))
    (n_MOST : PySem.W.nsIn K mainGlobals "MOST" = some (some (.int 99 tk_MOST)))
    (n_NAME_LENGTH : PySem.W.nsIn K mainGlobals "NAME_LENGTH" = some (some (.int 6 tk_NAME_LENGTH)))
    (n_WORD_LENGTH : PySem.W.nsIn K mainGlobals "WORD_LENGTH" = some (some (.int 4 tk_WORD_LENGTH)))
    (z_all : PySem.W.nsIn K mainGlobals "all" = some none)
    (z_bool : PySem.W.nsIn K mainGlobals "bool" = some none)
    (z_enumerate : PySem.W.nsIn K mainGlobals "enumerate" = some none)
    (z_int : PySem.W.nsIn K mainGlobals "int" = some none)
    (z_isinstance : PySem.W.nsIn K mainGlobals "isinstance" = some none)
    (z_len : PySem.W.nsIn K mainGlobals "len" = some none)
    (z_list : PySem.W.nsIn K mainGlobals "list" = some none)
    (z_range : PySem.W.nsIn K mainGlobals "range" = some none)
    (z_sorted : PySem.W.nsIn K mainGlobals "sorted" = some none)
    (z_str : PySem.W.nsIn K mainGlobals "str" = some none)
    (z_sum : PySem.W.nsIn K mainGlobals "sum" = some none)
    (z_tuple : PySem.W.nsIn K mainGlobals "tuple" = some none)
    (z_zip : PySem.W.nsIn K mainGlobals "zip" = some none)
    {c_tab Pt : Addr} (hTb : h.get? Pt = some { cls := .none, data := .fields #[] }) (e_cd : cd_law = .ref c_tab) (x_hd : PySem.W.codeHdIn K c_tab Pt = true) (x_nl : (K.lookup Pt).isNone = true)
    : LamX.LawAtS l w K CX0 22 63 "_law_script" mg fa h := by
  have e : f_law = fa := Value.ref.inj (Option.some.inj ((PySem.W.mg_of X G n_law).symm.trans hfa))
  subst e
  have F_i_InvalidMoment := fun_mk (st := s_i_InvalidMoment) l_i_InvalidMoment cc_i_InvalidMoment k_i_InvalidMoment
  have O_InvalidMoment := oxB_ok gVE x_InvalidMoment
  have F_i_Log := fun_mk (st := s_i_Log) l_i_Log cc_i_Log k_i_Log
  have F_Log_rows := fun_mk (st := s_Log_rows) l_Log_rows cc_Log_rows k_Log_rows
  have F_Log_processes := fun_mk (st := s_Log_processes) l_Log_processes cc_Log_processes k_Log_processes
  have F_Log_lengths := fun_mk (st := s_Log_lengths) l_Log_lengths cc_Log_lengths k_Log_lengths
  have F_Log_upto := fun_mk (st := s_Log_upto) l_Log_upto cc_Log_upto k_Log_upto
  have F_Log_text := fun_mk (st := s_Log_text) l_Log_text cc_Log_text k_Log_text
  have F_Log_read := fun_mk (st := s_Log_read) l_Log_read cc_Log_read k_Log_read
  have F_Log_eq := fun_mk (st := s_Log_eq) l_Log_eq cc_Log_eq k_Log_eq
  have F_Log_str := fun_mk (st := s_Log_str) l_Log_str cc_Log_str k_Log_str
  have F_is_name := fun_mk (st := s_is_name) l_is_name c_is_name k_is_name
  have F_is_word := fun_mk (st := s_is_word) l_is_word c_is_word k_is_word
  have F_is_number := fun_mk (st := s_is_number) l_is_number c_is_number k_is_number
  have F_is_step := fun_mk (st := s_is_step) l_is_step c_is_step k_is_step
  have F_step_text := fun_mk (st := s_step_text) l_step_text c_step_text k_step_text
  have F_read_step := fun_mk (st := s_read_step) l_read_step c_read_step k_read_step
  have F_read_number := fun_mk (st := s_read_number) l_read_number c_read_number k_read_number
  have F_consists_of := fun_mk (st := s_consists_of) l_consists_of c_consists_of k_consists_of
  have F_is_deed := fun_mk (st := s_is_deed) l_is_deed c_is_deed k_is_deed
  have F_split_deed := fun_mk (st := s_split_deed) l_split_deed c_split_deed k_split_deed
  have F_check_rows := fun_mk (st := s_check_rows) l_check_rows c_check_rows k_check_rows
  have F_is_row := fun_mk (st := s_is_row) l_is_row c_is_row k_is_row
  have F_check_steps := fun_mk (st := s_check_steps) l_check_steps c_check_steps k_check_steps
  have F_check_messages := fun_mk (st := s_check_messages) l_check_messages c_check_messages k_check_messages
  have F_check_ends := fun_mk (st := s_check_ends) l_check_ends c_check_ends k_check_ends
  have F_names := fun_mk (st := s_names) l_names c_names k_names
  have F_deeds := fun_mk (st := s_deeds) l_deeds c_deeds k_deeds
  have F_first_unsent := fun_mk (st := s_first_unsent) l_first_unsent c_first_unsent k_first_unsent
  have F_order_of := fun_mk (st := s_order_of) l_order_of c_order_of k_order_of
  have F_first_ready := fun_mk (st := s_first_ready) l_first_ready c_first_ready k_first_ready
  have F_can_be_made := fun_mk (st := s_can_be_made) l_can_be_made c_can_be_made k_can_be_made
  have F_are_places := fun_mk (st := s_are_places) l_are_places c_are_places k_are_places
  have F_row_text := fun_mk (st := s_row_text) l_row_text c_row_text k_row_text
  have F_read_row := fun_mk (st := s_read_row) l_read_row c_read_row k_read_row
  have F_Lbag := fun_mk (st := s_Lbag) l_Lbag c_Lbag k_Lbag
  have F_Ldraw := fun_mk (st := s_Ldraw) l_Ldraw c_Ldraw k_Ldraw
  have F_Lof := fun_mk (st := s_Lof) l_Lof c_Lof k_Lof
  have F_Lmixed := fun_mk (st := s_Lmixed) l_Lmixed c_Lmixed k_Lmixed
  have F_Lsame := fun_mk (st := s_Lsame) l_Lsame c_Lsame k_Lsame
  have F_Lfield := fun_mk (st := s_Lfield) l_Lfield c_Lfield k_Lfield
  have F_Lother_field := fun_mk (st := s_Lother_field) l_Lother_field c_Lother_field k_Lother_field
  have F_Lgot := fun_mk (st := s_Lgot) l_Lgot c_Lgot k_Lgot
  have F_Lwhy := fun_mk (st := s_Lwhy) l_Lwhy c_Lwhy k_Lwhy
  have F_Lmarks := fun_mk (st := s_Lmarks) l_Lmarks c_Lmarks k_Lmarks
  have F_Lstep := fun_mk (st := s_Lstep) l_Lstep c_Lstep k_Lstep
  have F_Lrows := fun_mk (st := s_Lrows) l_Lrows c_Lrows k_Lrows
  have F_Llog := fun_mk (st := s_Llog) l_Llog c_Llog k_Llog
  have F_Lsmall_rows := fun_mk (st := s_Lsmall_rows) l_Lsmall_rows c_Lsmall_rows k_Lsmall_rows
  have F_Llengths := fun_mk (st := s_Llengths) l_Llengths c_Llengths k_Llengths
  have F_Lpoints := fun_mk (st := s_Lpoints) l_Lpoints c_Lpoints k_Lpoints
  have F_Llonger := fun_mk (st := s_Llonger) l_Llonger c_Llonger k_Llonger
  have F_Ldeeds := fun_mk (st := s_Ldeeds) l_Ldeeds c_Ldeeds k_Ldeeds
  have F_Lcan_be := fun_mk (st := s_Lcan_be) l_Lcan_be c_Lcan_be k_Lcan_be
  have F_Lmoments := fun_mk (st := s_Lmoments) l_Lmoments c_Lmoments k_Lmoments
  have F_Lupto := fun_mk (st := s_Lupto) l_Lupto c_Lupto k_Lupto
  have F_law := fun_mk (st := s_law) l_law c_law k_law
  have T : TopOk K mg ⟨c_InvalidMoment,
    c_Log,
    c_LogError,
    c_Missing,
    c_NothingLeft,
    f_i_InvalidMoment, PySem.W.fnOf "__init__" "InvalidMoment.__init__" (defArgs s_i_InvalidMoment) (defBody s_i_InvalidMoment) (defScope s_i_InvalidMoment) Value.none kV_i_InvalidMoment dc_i_InvalidMoment pm_i_InvalidMoment an_i_InvalidMoment cd_i_InvalidMoment ct_i_InvalidMoment,
    f_i_Log, PySem.W.fnOf "__init__" "Log.__init__" (defArgs s_i_Log) (defBody s_i_Log) (defScope s_i_Log) Value.none kV_i_Log dc_i_Log pm_i_Log an_i_Log cd_i_Log ct_i_Log,
    f_Log_rows, PySem.W.fnOf "rows" "Log.rows" (defArgs s_Log_rows) (defBody s_Log_rows) (defScope s_Log_rows) Value.none kV_Log_rows dc_Log_rows pm_Log_rows an_Log_rows cd_Log_rows ct_Log_rows,
    f_Log_processes, PySem.W.fnOf "processes" "Log.processes" (defArgs s_Log_processes) (defBody s_Log_processes) (defScope s_Log_processes) Value.none kV_Log_processes dc_Log_processes pm_Log_processes an_Log_processes cd_Log_processes ct_Log_processes,
    f_Log_lengths, PySem.W.fnOf "lengths" "Log.lengths" (defArgs s_Log_lengths) (defBody s_Log_lengths) (defScope s_Log_lengths) Value.none kV_Log_lengths dc_Log_lengths pm_Log_lengths an_Log_lengths cd_Log_lengths ct_Log_lengths,
    f_Log_upto, PySem.W.fnOf "upto" "Log.upto" (defArgs s_Log_upto) (defBody s_Log_upto) (defScope s_Log_upto) Value.none kV_Log_upto dc_Log_upto pm_Log_upto an_Log_upto cd_Log_upto ct_Log_upto,
    f_Log_text, PySem.W.fnOf "text" "Log.text" (defArgs s_Log_text) (defBody s_Log_text) (defScope s_Log_text) Value.none kV_Log_text dc_Log_text pm_Log_text an_Log_text cd_Log_text ct_Log_text,
    f_Log_read, PySem.W.fnOf "read" "Log.read" (defArgs s_Log_read) (defBody s_Log_read) (defScope s_Log_read) Value.none kV_Log_read dc_Log_read pm_Log_read an_Log_read cd_Log_read ct_Log_read,
    f_Log_eq, PySem.W.fnOf "__eq__" "Log.__eq__" (defArgs s_Log_eq) (defBody s_Log_eq) (defScope s_Log_eq) Value.none kV_Log_eq dc_Log_eq pm_Log_eq an_Log_eq cd_Log_eq ct_Log_eq,
    f_Log_str, PySem.W.fnOf "__str__" "Log.__str__" (defArgs s_Log_str) (defBody s_Log_str) (defScope s_Log_str) Value.none kV_Log_str dc_Log_str pm_Log_str an_Log_str cd_Log_str ct_Log_str,
    p_Log_read,
    .int 6 tk_Log_PROCESSES,
    .int 20 tk_Log_STEPS,
    f_is_name, PySem.W.fnOf "is_name" "is_name" (defArgs s_is_name) (defBody s_is_name) (defScope s_is_name) Value.none kV_is_name dc_is_name pm_is_name an_is_name cd_is_name ct_is_name,
    f_is_word, PySem.W.fnOf "is_word" "is_word" (defArgs s_is_word) (defBody s_is_word) (defScope s_is_word) Value.none kV_is_word dc_is_word pm_is_word an_is_word cd_is_word ct_is_word,
    f_is_number, PySem.W.fnOf "is_number" "is_number" (defArgs s_is_number) (defBody s_is_number) (defScope s_is_number) Value.none kV_is_number dc_is_number pm_is_number an_is_number cd_is_number ct_is_number,
    f_is_step, PySem.W.fnOf "is_step" "is_step" (defArgs s_is_step) (defBody s_is_step) (defScope s_is_step) Value.none kV_is_step dc_is_step pm_is_step an_is_step cd_is_step ct_is_step,
    f_step_text, PySem.W.fnOf "step_text" "step_text" (defArgs s_step_text) (defBody s_step_text) (defScope s_step_text) Value.none kV_step_text dc_step_text pm_step_text an_step_text cd_step_text ct_step_text,
    f_read_step, PySem.W.fnOf "read_step" "read_step" (defArgs s_read_step) (defBody s_read_step) (defScope s_read_step) Value.none kV_read_step dc_read_step pm_read_step an_read_step cd_read_step ct_read_step,
    f_read_number, PySem.W.fnOf "read_number" "read_number" (defArgs s_read_number) (defBody s_read_number) (defScope s_read_number) Value.none kV_read_number dc_read_number pm_read_number an_read_number cd_read_number ct_read_number,
    f_consists_of, PySem.W.fnOf "_consists_of" "_consists_of" (defArgs s_consists_of) (defBody s_consists_of) (defScope s_consists_of) Value.none kV_consists_of dc_consists_of pm_consists_of an_consists_of cd_consists_of ct_consists_of,
    f_is_deed, PySem.W.fnOf "_is_deed" "_is_deed" (defArgs s_is_deed) (defBody s_is_deed) (defScope s_is_deed) Value.none kV_is_deed dc_is_deed pm_is_deed an_is_deed cd_is_deed ct_is_deed,
    f_split_deed, PySem.W.fnOf "_split_deed" "_split_deed" (defArgs s_split_deed) (defBody s_split_deed) (defScope s_split_deed) Value.none kV_split_deed dc_split_deed pm_split_deed an_split_deed cd_split_deed ct_split_deed,
    f_check_rows, PySem.W.fnOf "_check_rows" "_check_rows" (defArgs s_check_rows) (defBody s_check_rows) (defScope s_check_rows) Value.none kV_check_rows dc_check_rows pm_check_rows an_check_rows cd_check_rows ct_check_rows,
    f_is_row, PySem.W.fnOf "_is_row" "_is_row" (defArgs s_is_row) (defBody s_is_row) (defScope s_is_row) Value.none kV_is_row dc_is_row pm_is_row an_is_row cd_is_row ct_is_row,
    f_check_steps, PySem.W.fnOf "_check_steps" "_check_steps" (defArgs s_check_steps) (defBody s_check_steps) (defScope s_check_steps) Value.none kV_check_steps dc_check_steps pm_check_steps an_check_steps cd_check_steps ct_check_steps,
    f_check_messages, PySem.W.fnOf "_check_messages" "_check_messages" (defArgs s_check_messages) (defBody s_check_messages) (defScope s_check_messages) Value.none kV_check_messages dc_check_messages pm_check_messages an_check_messages cd_check_messages ct_check_messages,
    f_check_ends, PySem.W.fnOf "_check_ends" "_check_ends" (defArgs s_check_ends) (defBody s_check_ends) (defScope s_check_ends) Value.none kV_check_ends dc_check_ends pm_check_ends an_check_ends cd_check_ends ct_check_ends,
    f_names, PySem.W.fnOf "_names" "_names" (defArgs s_names) (defBody s_names) (defScope s_names) Value.none kV_names dc_names pm_names an_names cd_names ct_names,
    f_deeds, PySem.W.fnOf "_deeds" "_deeds" (defArgs s_deeds) (defBody s_deeds) (defScope s_deeds) Value.none kV_deeds dc_deeds pm_deeds an_deeds cd_deeds ct_deeds,
    f_first_unsent, PySem.W.fnOf "_first_unsent" "_first_unsent" (defArgs s_first_unsent) (defBody s_first_unsent) (defScope s_first_unsent) Value.none kV_first_unsent dc_first_unsent pm_first_unsent an_first_unsent cd_first_unsent ct_first_unsent,
    f_order_of, PySem.W.fnOf "_order_of" "_order_of" (defArgs s_order_of) (defBody s_order_of) (defScope s_order_of) Value.none kV_order_of dc_order_of pm_order_of an_order_of cd_order_of ct_order_of,
    f_first_ready, PySem.W.fnOf "_first_ready" "_first_ready" (defArgs s_first_ready) (defBody s_first_ready) (defScope s_first_ready) Value.none kV_first_ready dc_first_ready pm_first_ready an_first_ready cd_first_ready ct_first_ready,
    f_can_be_made, PySem.W.fnOf "_can_be_made" "_can_be_made" (defArgs s_can_be_made) (defBody s_can_be_made) (defScope s_can_be_made) Value.none kV_can_be_made dc_can_be_made pm_can_be_made an_can_be_made cd_can_be_made ct_can_be_made,
    f_are_places, PySem.W.fnOf "are_places" "are_places" (defArgs s_are_places) (defBody s_are_places) (defScope s_are_places) Value.none kV_are_places dc_are_places pm_are_places an_are_places cd_are_places ct_are_places,
    f_row_text, PySem.W.fnOf "_row_text" "_row_text" (defArgs s_row_text) (defBody s_row_text) (defScope s_row_text) Value.none kV_row_text dc_row_text pm_row_text an_row_text cd_row_text ct_row_text,
    f_read_row, PySem.W.fnOf "read_row" "read_row" (defArgs s_read_row) (defBody s_read_row) (defScope s_read_row) Value.none kV_read_row dc_read_row pm_read_row an_read_row cd_read_row ct_read_row,
    f_Lbag, PySem.W.fnOf "_law_bag" "_law_bag" (defArgs s_Lbag) (defBody s_Lbag) (defScope s_Lbag) Value.none kV_Lbag dc_Lbag pm_Lbag an_Lbag cd_Lbag ct_Lbag,
    f_Ldraw, PySem.W.fnOf "_law_draw" "_law_draw" (defArgs s_Ldraw) (defBody s_Ldraw) (defScope s_Ldraw) Value.none kV_Ldraw dc_Ldraw pm_Ldraw an_Ldraw cd_Ldraw ct_Ldraw,
    f_Lof, PySem.W.fnOf "_law_of" "_law_of" (defArgs s_Lof) (defBody s_Lof) (defScope s_Lof) Value.none kV_Lof dc_Lof pm_Lof an_Lof cd_Lof ct_Lof,
    f_Lmixed, PySem.W.fnOf "_law_mixed" "_law_mixed" (defArgs s_Lmixed) (defBody s_Lmixed) (defScope s_Lmixed) Value.none kV_Lmixed dc_Lmixed pm_Lmixed an_Lmixed cd_Lmixed ct_Lmixed,
    f_Lsame, PySem.W.fnOf "_law_same" "_law_same" (defArgs s_Lsame) (defBody s_Lsame) (defScope s_Lsame) Value.none kV_Lsame dc_Lsame pm_Lsame an_Lsame cd_Lsame ct_Lsame,
    f_Lfield, PySem.W.fnOf "_law_field" "_law_field" (defArgs s_Lfield) (defBody s_Lfield) (defScope s_Lfield) Value.none kV_Lfield dc_Lfield pm_Lfield an_Lfield cd_Lfield ct_Lfield,
    f_Lother_field, PySem.W.fnOf "_law_other_field" "_law_other_field" (defArgs s_Lother_field) (defBody s_Lother_field) (defScope s_Lother_field) Value.none kV_Lother_field dc_Lother_field pm_Lother_field an_Lother_field cd_Lother_field ct_Lother_field,
    f_Lgot, PySem.W.fnOf "_law_got" "_law_got" (defArgs s_Lgot) (defBody s_Lgot) (defScope s_Lgot) Value.none kV_Lgot dc_Lgot pm_Lgot an_Lgot cd_Lgot ct_Lgot,
    f_Lwhy, PySem.W.fnOf "_law_why" "_law_why" (defArgs s_Lwhy) (defBody s_Lwhy) (defScope s_Lwhy) Value.none kV_Lwhy dc_Lwhy pm_Lwhy an_Lwhy cd_Lwhy ct_Lwhy,
    f_Lmarks, PySem.W.fnOf "_law_marks" "_law_marks" (defArgs s_Lmarks) (defBody s_Lmarks) (defScope s_Lmarks) Value.none kV_Lmarks dc_Lmarks pm_Lmarks an_Lmarks cd_Lmarks ct_Lmarks,
    f_Lstep, PySem.W.fnOf "_law_step" "_law_step" (defArgs s_Lstep) (defBody s_Lstep) (defScope s_Lstep) Value.none kV_Lstep dc_Lstep pm_Lstep an_Lstep cd_Lstep ct_Lstep,
    f_Lrows, PySem.W.fnOf "_law_rows" "_law_rows" (defArgs s_Lrows) (defBody s_Lrows) (defScope s_Lrows) Value.none kV_Lrows dc_Lrows pm_Lrows an_Lrows cd_Lrows ct_Lrows,
    f_Llog, PySem.W.fnOf "_law_log" "_law_log" (defArgs s_Llog) (defBody s_Llog) (defScope s_Llog) Value.none kV_Llog dc_Llog pm_Llog an_Llog cd_Llog ct_Llog,
    f_Lsmall_rows, PySem.W.fnOf "_law_small_rows" "_law_small_rows" (defArgs s_Lsmall_rows) (defBody s_Lsmall_rows) (defScope s_Lsmall_rows) Value.none kV_Lsmall_rows dc_Lsmall_rows pm_Lsmall_rows an_Lsmall_rows cd_Lsmall_rows ct_Lsmall_rows,
    f_Llengths, PySem.W.fnOf "_law_lengths" "_law_lengths" (defArgs s_Llengths) (defBody s_Llengths) (defScope s_Llengths) Value.none kV_Llengths dc_Llengths pm_Llengths an_Llengths cd_Llengths ct_Llengths,
    f_Lpoints, PySem.W.fnOf "_law_points" "_law_points" (defArgs s_Lpoints) (defBody s_Lpoints) (defScope s_Lpoints) Value.none kV_Lpoints dc_Lpoints pm_Lpoints an_Lpoints cd_Lpoints ct_Lpoints,
    f_Llonger, PySem.W.fnOf "_law_longer" "_law_longer" (defArgs s_Llonger) (defBody s_Llonger) (defScope s_Llonger) Value.none kV_Llonger dc_Llonger pm_Llonger an_Llonger cd_Llonger ct_Llonger,
    f_Ldeeds, PySem.W.fnOf "_law_deeds" "_law_deeds" (defArgs s_Ldeeds) (defBody s_Ldeeds) (defScope s_Ldeeds) Value.none kV_Ldeeds dc_Ldeeds pm_Ldeeds an_Ldeeds cd_Ldeeds ct_Ldeeds,
    f_Lcan_be, PySem.W.fnOf "_law_can_be" "_law_can_be" (defArgs s_Lcan_be) (defBody s_Lcan_be) (defScope s_Lcan_be) Value.none kV_Lcan_be dc_Lcan_be pm_Lcan_be an_Lcan_be cd_Lcan_be ct_Lcan_be,
    f_Lmoments, PySem.W.fnOf "_law_moments" "_law_moments" (defArgs s_Lmoments) (defBody s_Lmoments) (defScope s_Lmoments) Value.none kV_Lmoments dc_Lmoments pm_Lmoments an_Lmoments cd_Lmoments ct_Lmoments,
    f_Lupto, PySem.W.fnOf "_law_upto" "_law_upto" (defArgs s_Lupto) (defBody s_Lupto) (defScope s_Lupto) Value.none kV_Lupto dc_Lupto pm_Lupto an_Lupto cd_Lupto ct_Lupto,
    f_law, PySem.W.fnOf "law" "law" (defArgs s_law) (defBody s_law) (defScope s_law) Value.none kV_law dc_law pm_law an_law cd_law ct_law,
    q_DEEDS, .ref q_DEEDS,
    .str "0123456789" tk_DIGITS,
    .int (-99) tk_LEAST,
    .str "abcdefghijklmnopqrstuvwxyz" tk_LETTERS,
    .int 99 tk_MOST,
    .int 6 tk_NAME_LENGTH,
    .int 4 tk_WORD_LENGTH⟩ := ⟨PySem.W.mg_of X G n_InvalidMoment,
    PySem.W.mg_of X G n_Log,
    PySem.W.mg_of X G n_LogError,
    PySem.W.mg_of X G n_Missing,
    PySem.W.mg_of X G n_NothingLeft,
    O_InvalidMoment.1,
    O_InvalidMoment.2.1,
    i_InvalidMoment,
    O_InvalidMoment.2.2,
    F_i_InvalidMoment,
    F_i_InvalidMoment.binds (ps := P_i_InvalidMoment) fun _ _ _ _ _ _ us hl => match us, hl with | [_, _], _ => rfl,
    tt_InvalidMoment,
    x_em_InvalidMoment,
    ⟨pg_Log, hd_Log, po_Log, sa_Log⟩,
    ⟨mk_Log, at_i_Log, fi_i_Log, kc_Log⟩,
    ⟨rd_Log, ga_Log⟩,
    ⟨⟨pg_Log, hd_Log, po_Log, sa_Log⟩, ha_Log, hn_Log, ht_Log, hm_Log, if_pos (beq_self_eq_true _)⟩,
    na_Log_rows,
    na_Log_order,
    ⟨cv_Log_PROCESSES, ⟨_, rfl⟩⟩,
    ⟨cv_Log_STEPS, ⟨_, rfl⟩⟩,
    F_i_Log,
    F_Log_rows,
    ⟨at_Log_rows, fi_Log_rows, k_Log_rows⟩,
    F_Log_rows.binds (ps := P_Log_rows) fun _ _ _ _ _ _ us hl => match us, hl with | [_], _ => rfl,
    F_Log_processes,
    ⟨at_Log_processes, fi_Log_processes, k_Log_processes⟩,
    F_Log_processes.binds (ps := P_Log_processes) fun _ _ _ _ _ _ us hl => match us, hl with | [_], _ => rfl,
    F_Log_lengths,
    ⟨at_Log_lengths, fi_Log_lengths, k_Log_lengths⟩,
    F_Log_lengths.binds (ps := P_Log_lengths) fun _ _ _ _ _ _ us hl => match us, hl with | [_], _ => rfl,
    F_Log_upto,
    ⟨at_Log_upto, fi_Log_upto, k_Log_upto⟩,
    F_Log_upto.binds (ps := P_Log_upto) fun _ _ _ _ _ _ us hl => match us, hl with | [_, _], _ => rfl,
    F_Log_text,
    ⟨at_Log_text, fi_Log_text, k_Log_text⟩,
    F_Log_text.binds (ps := P_Log_text) fun _ _ _ _ _ _ us hl => match us, hl with | [_], _ => rfl,
    F_Log_read,
    ⟨at_Log_read, ⟨_, rc_Log_read⟩, fi_Log_read⟩,
    F_Log_read.binds (ps := P_Log_read) fun _ _ _ _ _ _ us hl => match us, hl with | [_, _], _ => rfl,
    F_Log_eq,
    ⟨at_Log_eq, fi_Log_eq, k_Log_eq⟩,
    F_Log_eq.binds (ps := P_Log_eq) fun _ _ _ _ _ _ us hl => match us, hl with | [_, _], _ => rfl,
    F_Log_str,
    ⟨at_Log_str, fi_Log_str, k_Log_str⟩,
    F_Log_str.binds (ps := P_Log_str) fun _ _ _ _ _ _ us hl => match us, hl with | [_], _ => rfl,
    F_is_name,
    PySem.W.mg_of X G n_is_name,
    F_is_name.binds (ps := P_is_name) fun _ _ _ _ _ _ us hl => match us, hl with | [_], _ => rfl,
    F_is_word,
    PySem.W.mg_of X G n_is_word,
    F_is_word.binds (ps := P_is_word) fun _ _ _ _ _ _ us hl => match us, hl with | [_], _ => rfl,
    F_is_number,
    PySem.W.mg_of X G n_is_number,
    F_is_number.binds (ps := P_is_number) fun _ _ _ _ _ _ us hl => match us, hl with | [_, _, _], _ => rfl,
    F_is_step,
    PySem.W.mg_of X G n_is_step,
    F_is_step.binds (ps := P_is_step) fun _ _ _ _ _ _ us hl => match us, hl with | [_], _ => rfl,
    F_step_text,
    PySem.W.mg_of X G n_step_text,
    F_step_text.binds (ps := P_step_text) fun _ _ _ _ _ _ us hl => match us, hl with | [_], _ => rfl,
    F_read_step,
    PySem.W.mg_of X G n_read_step,
    F_read_step.binds (ps := P_read_step) fun _ _ _ _ _ _ us hl => match us, hl with | [_], _ => rfl,
    F_read_number,
    PySem.W.mg_of X G n_read_number,
    F_read_number.binds (ps := P_read_number) fun _ _ _ _ _ _ us hl => match us, hl with | [_], _ => rfl,
    F_consists_of,
    PySem.W.mg_of X G n_consists_of,
    F_consists_of.binds (ps := P_consists_of) fun _ _ _ _ _ _ us hl => match us, hl with | [_, _], _ => rfl,
    F_is_deed,
    PySem.W.mg_of X G n_is_deed,
    F_is_deed.binds (ps := P_is_deed) fun _ _ _ _ _ _ us hl => match us, hl with | [_], _ => rfl,
    F_split_deed,
    PySem.W.mg_of X G n_split_deed,
    F_split_deed.binds (ps := P_split_deed) fun _ _ _ _ _ _ us hl => match us, hl with | [_], _ => rfl,
    F_check_rows,
    PySem.W.mg_of X G n_check_rows,
    F_check_rows.binds (ps := P_check_rows) fun _ _ _ _ _ _ us hl => match us, hl with | [_], _ => rfl,
    F_is_row,
    PySem.W.mg_of X G n_is_row,
    F_is_row.binds (ps := P_is_row) fun _ _ _ _ _ _ us hl => match us, hl with | [_], _ => rfl,
    F_check_steps,
    PySem.W.mg_of X G n_check_steps,
    F_check_steps.binds (ps := P_check_steps) fun _ _ _ _ _ _ us hl => match us, hl with | [_], _ => rfl,
    F_check_messages,
    PySem.W.mg_of X G n_check_messages,
    F_check_messages.binds (ps := P_check_messages) fun _ _ _ _ _ _ us hl => match us, hl with | [_], _ => rfl,
    F_check_ends,
    PySem.W.mg_of X G n_check_ends,
    F_check_ends.binds (ps := P_check_ends) fun _ _ _ _ _ _ us hl => match us, hl with | [_, _], _ => rfl,
    F_names,
    PySem.W.mg_of X G n_names,
    F_names.binds (ps := P_names) fun _ _ _ _ _ _ us hl => match us, hl with | [_], _ => rfl,
    F_deeds,
    PySem.W.mg_of X G n_deeds,
    F_deeds.binds (ps := P_deeds) fun _ _ _ _ _ _ us hl => match us, hl with | [_], _ => rfl,
    F_first_unsent,
    PySem.W.mg_of X G n_first_unsent,
    F_first_unsent.binds (ps := P_first_unsent) fun _ _ _ _ _ _ us hl => match us, hl with | [_], _ => rfl,
    F_order_of,
    PySem.W.mg_of X G n_order_of,
    F_order_of.binds (ps := P_order_of) fun _ _ _ _ _ _ us hl => match us, hl with | [_], _ => rfl,
    F_first_ready,
    PySem.W.mg_of X G n_first_ready,
    F_first_ready.binds (ps := P_first_ready) fun _ _ _ _ _ _ us hl => match us, hl with | [_, _, _], _ => rfl,
    F_can_be_made,
    PySem.W.mg_of X G n_can_be_made,
    F_can_be_made.binds (ps := P_can_be_made) fun _ _ _ _ _ _ us hl => match us, hl with | [_, _], _ => rfl,
    F_are_places,
    PySem.W.mg_of X G n_are_places,
    F_are_places.binds (ps := P_are_places) fun _ _ _ _ _ _ us hl => match us, hl with | [_, _], _ => rfl,
    F_row_text,
    PySem.W.mg_of X G n_row_text,
    F_row_text.binds (ps := P_row_text) fun _ _ _ _ _ _ us hl => match us, hl with | [_, _], _ => rfl,
    F_read_row,
    PySem.W.mg_of X G n_read_row,
    F_read_row.binds (ps := P_read_row) fun _ _ _ _ _ _ us hl => match us, hl with | [_], _ => rfl,
    F_Lbag,
    PySem.W.mg_of X G n_Lbag,
    F_Lbag.binds (ps := P_Lbag) fun _ _ _ _ _ _ us hl => match us, hl with | [_], _ => rfl,
    F_Ldraw,
    PySem.W.mg_of X G n_Ldraw,
    F_Ldraw.binds (ps := P_Ldraw) fun _ _ _ _ _ _ us hl => match us, hl with | [_, _], _ => rfl,
    F_Lof,
    PySem.W.mg_of X G n_Lof,
    F_Lof.binds (ps := P_Lof) fun _ _ _ _ _ _ us hl => match us, hl with | [_, _], _ => rfl,
    F_Lmixed,
    PySem.W.mg_of X G n_Lmixed,
    F_Lmixed.binds (ps := P_Lmixed) fun _ _ _ _ _ _ us hl => match us, hl with | [_, _], _ => rfl,
    F_Lsame,
    PySem.W.mg_of X G n_Lsame,
    F_Lsame.binds (ps := P_Lsame) fun _ _ _ _ _ _ us hl => match us, hl with | [_, _], _ => rfl,
    F_Lfield,
    PySem.W.mg_of X G n_Lfield,
    F_Lfield.binds (ps := P_Lfield) fun _ _ _ _ _ _ us hl => match us, hl with | [_], _ => rfl,
    F_Lother_field,
    PySem.W.mg_of X G n_Lother_field,
    F_Lother_field.binds (ps := P_Lother_field) fun _ _ _ _ _ _ us hl => match us, hl with | [_], _ => rfl,
    F_Lgot,
    PySem.W.mg_of X G n_Lgot,
    F_Lgot.binds (ps := P_Lgot) fun _ _ _ _ _ _ us hl => match us, hl with | [_], _ => rfl,
    F_Lwhy,
    PySem.W.mg_of X G n_Lwhy,
    F_Lwhy.binds (ps := P_Lwhy) fun _ _ _ _ _ _ us hl => match us, hl with | [_], _ => rfl,
    F_Lmarks,
    PySem.W.mg_of X G n_Lmarks,
    F_Lmarks.binds (ps := P_Lmarks) fun _ _ _ _ _ _ us hl => match us, hl with | [], _ => rfl,
    F_Lstep,
    PySem.W.mg_of X G n_Lstep,
    F_Lstep.binds (ps := P_Lstep) fun _ _ _ _ _ _ us hl => match us, hl with | [_, _], _ => rfl,
    F_Lrows,
    PySem.W.mg_of X G n_Lrows,
    F_Lrows.binds (ps := P_Lrows) fun _ _ _ _ _ _ us hl => match us, hl with | [_, _, _], _ => rfl,
    F_Llog,
    PySem.W.mg_of X G n_Llog,
    F_Llog.binds (ps := P_Llog) fun _ _ _ _ _ _ us hl => match us, hl with | [_], _ => rfl,
    F_Lsmall_rows,
    PySem.W.mg_of X G n_Lsmall_rows,
    F_Lsmall_rows.binds (ps := P_Lsmall_rows) fun _ _ _ _ _ _ us hl => match us, hl with | [_], _ => rfl,
    F_Llengths,
    PySem.W.mg_of X G n_Llengths,
    F_Llengths.binds (ps := P_Llengths) fun _ _ _ _ _ _ us hl => match us, hl with | [_], _ => rfl,
    F_Lpoints,
    PySem.W.mg_of X G n_Lpoints,
    F_Lpoints.binds (ps := P_Lpoints) fun _ _ _ _ _ _ us hl => match us, hl with | [_], _ => rfl,
    F_Llonger,
    PySem.W.mg_of X G n_Llonger,
    F_Llonger.binds (ps := P_Llonger) fun _ _ _ _ _ _ us hl => match us, hl with | [_, _], _ => rfl,
    F_Ldeeds,
    PySem.W.mg_of X G n_Ldeeds,
    F_Ldeeds.binds (ps := P_Ldeeds) fun _ _ _ _ _ _ us hl => match us, hl with | [_, _, _], _ => rfl,
    F_Lcan_be,
    PySem.W.mg_of X G n_Lcan_be,
    F_Lcan_be.binds (ps := P_Lcan_be) fun _ _ _ _ _ _ us hl => match us, hl with | [_, _], _ => rfl,
    F_Lmoments,
    PySem.W.mg_of X G n_Lmoments,
    F_Lmoments.binds (ps := P_Lmoments) fun _ _ _ _ _ _ us hl => match us, hl with | [_], _ => rfl,
    F_Lupto,
    PySem.W.mg_of X G n_Lupto,
    F_Lupto.binds (ps := P_Lupto) fun _ _ _ _ _ _ us hl => match us, hl with | [_, _], _ => rfl,
    F_law,
    PySem.W.mg_of X G n_law,
    F_law.binds (ps := P_law) fun _ _ _ _ _ _ us hl => match us, hl with | [_], _ => rfl,
    PySem.W.mg_of X G n_DEEDS,
    rfl,
    fun H => (tup_k (xs := [.ref q_DEEDS_0, .ref q_DEEDS_1]) l_DEEDS (by show 2 ≤ sizeLine; decide) (.cons rfl (.cons rfl .nil)) (.cons (tup_k (xs := [.str "send", .str "!"]) l_DEEDS_0 (by show 2 ≤ sizeLine; decide) (.cons ⟨_, rfl⟩ (.cons ⟨_, rfl⟩ .nil)) (.cons (.str _) (.cons (.str _) .nil))) (.cons (tup_k (xs := [.str "receive", .str "?"]) l_DEEDS_1 (by show 2 ≤ sizeLine; decide) (.cons ⟨_, rfl⟩ (.cons ⟨_, rfl⟩ .nil)) (.cons (.str _) (.cons (.str _) .nil))) .nil))),
    PySem.W.mg_of X G n_DIGITS,
    ⟨_, rfl⟩,
    PySem.W.mg_of X G n_LEAST,
    ⟨_, rfl⟩,
    PySem.W.mg_of X G n_LETTERS,
    ⟨_, rfl⟩,
    PySem.W.mg_of X G n_MOST,
    ⟨_, rfl⟩,
    PySem.W.mg_of X G n_NAME_LENGTH,
    ⟨_, rfl⟩,
    PySem.W.mg_of X G n_WORD_LENGTH,
    ⟨_, rfl⟩,
    PySem.W.mg_none_of X G z_all,
    PySem.W.mg_none_of X G z_bool,
    PySem.W.mg_none_of X G z_enumerate,
    PySem.W.mg_none_of X G z_int,
    PySem.W.mg_none_of X G z_isinstance,
    PySem.W.mg_none_of X G z_len,
    PySem.W.mg_none_of X G z_list,
    PySem.W.mg_none_of X G z_range,
    PySem.W.mg_none_of X G z_sorted,
    PySem.W.mg_none_of X G z_str,
    PySem.W.mg_none_of X G z_sum,
    PySem.W.mg_none_of X G z_tuple,
    PySem.W.mg_none_of X G z_zip,
    kb_mk F_Log_upto (fun _ _ _ _ _ _ us ws h1 h2 => match us, ws, h1, h2 with | [_], [_], _, _ => rfl) (fun r1 r2 => (((r1.drop 0).take 1).append ((r2.drop 0).take 1)))⟩
  subst e_cd
  have one : ∀ {Q : Addr × Addr → Prop}, Q (c_tab, Pt) → ∀ p ∈ [(c_tab, Pt)], Q p := fun q p m => by
    cases List.mem_singleton.mp m
    exact q
  exact ⟨_, [(c_tab, Pt)], spLaw K Pt, one hTb, one (Option.isNone_iff_eq_none.mp x_nl), one (PySem.W.codeHd_of_K X x_hd), fun s v => .of_eq rfl, fun H a ns hl _ hH hS => ⟨a, ns, rfl, hS, hl, hH _ (.head _), fun _ => rfl⟩, fun base _ _ tb => ok_law T rfl (tb _ (.head _))⟩
end My
set_option Elab.async false
set_option linter.all false
set_option maxRecDepth 100000
open PySem PySem.W PyProof.Rows
set_option maxRecDepth 100000 in
set_option maxHeartbeats 0 in
theorem PySem.Challenge.cw_tiedmoments_k12_logs_cut_at_moments_holds : PySem.Challenge.rw_tiedmoments_k12_logs_cut_at_moments.Holds := by
  w_on; o_law; k_head; (case hw => w_witness2)
  k_fill
  refine LamX.walk_ofTs (l := PySem.Challenge.rw_tiedmoments_k12_logs_cut_at_moments) (n := 63) (k := 22) (x := "_law_script") (CX := fun _ => L2.CX0) rfl (by decide) rfl ⟨rfl, by decide, by decide⟩ (fun w h Y => PySem.W.km_in_of Y) ?F (fun _ _ _ _ _ h => h)
  case F =>
    intro w mg fa h Y KX G hmg
    refine' My.all_mk KX G hmg ?n_InvalidMoment ?n_Log ?n_LogError ?n_Missing ?n_NothingLeft ?i_InvalidMoment ?l_i_InvalidMoment ?cc_i_InvalidMoment ?k_i_InvalidMoment ?x_InvalidMoment ?tt_InvalidMoment ?x_em_InvalidMoment ?at_i_Log ?fi_i_Log ?l_i_Log ?cc_i_Log ?k_i_Log ?at_Log_rows ?fi_Log_rows ?l_Log_rows ?cc_Log_rows ?k_Log_rows ?at_Log_processes ?fi_Log_processes ?l_Log_processes ?cc_Log_processes ?k_Log_processes ?at_Log_lengths ?fi_Log_lengths ?l_Log_lengths ?cc_Log_lengths ?k_Log_lengths ?at_Log_upto ?fi_Log_upto ?l_Log_upto ?cc_Log_upto ?k_Log_upto ?at_Log_text ?fi_Log_text ?l_Log_text ?cc_Log_text ?k_Log_text ?at_Log_read ?rc_Log_read ?fi_Log_read ?l_Log_read ?cc_Log_read ?k_Log_read ?at_Log_eq ?fi_Log_eq ?l_Log_eq ?cc_Log_eq ?k_Log_eq ?at_Log_str ?fi_Log_str ?l_Log_str ?cc_Log_str ?k_Log_str ?pg_Log ?hd_Log ?po_Log ?sa_Log ?mk_Log ?kc_Log ?rd_Log ?ga_Log ?ha_Log ?hn_Log ?ht_Log ?hm_Log ?na_Log_rows ?na_Log_order ?cv_Log_PROCESSES ?cv_Log_STEPS ?n_is_name ?l_is_name ?c_is_name ?k_is_name ?n_is_word ?l_is_word ?c_is_word ?k_is_word ?n_is_number ?l_is_number ?c_is_number ?k_is_number ?n_is_step ?l_is_step ?c_is_step ?k_is_step ?n_step_text ?l_step_text ?c_step_text ?k_step_text ?n_read_step ?l_read_step ?c_read_step ?k_read_step ?n_read_number ?l_read_number ?c_read_number ?k_read_number ?n_consists_of ?l_consists_of ?c_consists_of ?k_consists_of ?n_is_deed ?l_is_deed ?c_is_deed ?k_is_deed ?n_split_deed ?l_split_deed ?c_split_deed ?k_split_deed ?n_check_rows ?l_check_rows ?c_check_rows ?k_check_rows ?n_is_row ?l_is_row ?c_is_row ?k_is_row ?n_check_steps ?l_check_steps ?c_check_steps ?k_check_steps ?n_check_messages ?l_check_messages ?c_check_messages ?k_check_messages ?n_check_ends ?l_check_ends ?c_check_ends ?k_check_ends ?n_names ?l_names ?c_names ?k_names ?n_deeds ?l_deeds ?c_deeds ?k_deeds ?n_first_unsent ?l_first_unsent ?c_first_unsent ?k_first_unsent ?n_order_of ?l_order_of ?c_order_of ?k_order_of ?n_first_ready ?l_first_ready ?c_first_ready ?k_first_ready ?n_can_be_made ?l_can_be_made ?c_can_be_made ?k_can_be_made ?n_are_places ?l_are_places ?c_are_places ?k_are_places ?n_row_text ?l_row_text ?c_row_text ?k_row_text ?n_read_row ?l_read_row ?c_read_row ?k_read_row ?n_Lbag ?l_Lbag ?c_Lbag ?k_Lbag ?n_Ldraw ?l_Ldraw ?c_Ldraw ?k_Ldraw ?n_Lof ?l_Lof ?c_Lof ?k_Lof ?n_Lmixed ?l_Lmixed ?c_Lmixed ?k_Lmixed ?n_Lsame ?l_Lsame ?c_Lsame ?k_Lsame ?n_Lfield ?l_Lfield ?c_Lfield ?k_Lfield ?n_Lother_field ?l_Lother_field ?c_Lother_field ?k_Lother_field ?n_Lgot ?l_Lgot ?c_Lgot ?k_Lgot ?n_Lwhy ?l_Lwhy ?c_Lwhy ?k_Lwhy ?n_Lmarks ?l_Lmarks ?c_Lmarks ?k_Lmarks ?n_Lstep ?l_Lstep ?c_Lstep ?k_Lstep ?n_Lrows ?l_Lrows ?c_Lrows ?k_Lrows ?n_Llog ?l_Llog ?c_Llog ?k_Llog ?n_Lsmall_rows ?l_Lsmall_rows ?c_Lsmall_rows ?k_Lsmall_rows ?n_Llengths ?l_Llengths ?c_Llengths ?k_Llengths ?n_Lpoints ?l_Lpoints ?c_Lpoints ?k_Lpoints ?n_Llonger ?l_Llonger ?c_Llonger ?k_Llonger ?n_Ldeeds ?l_Ldeeds ?c_Ldeeds ?k_Ldeeds ?n_Lcan_be ?l_Lcan_be ?c_Lcan_be ?k_Lcan_be ?n_Lmoments ?l_Lmoments ?c_Lmoments ?k_Lmoments ?n_Lupto ?l_Lupto ?c_Lupto ?k_Lupto ?n_law ?l_law ?c_law ?k_law ?n_DEEDS ?l_DEEDS ?l_DEEDS_1 ?l_DEEDS_0 ?n_DIGITS ?n_LEAST ?n_LETTERS ?n_MOST ?n_NAME_LENGTH ?n_WORD_LENGTH ?z_all ?z_bool ?z_enumerate ?z_int ?z_isinstance ?z_len ?z_list ?z_range ?z_sorted ?z_str ?z_sum ?z_tuple ?z_zip ?hTb ?e_cd ?x_hd ?x_nl
    (case n_InvalidMoment => k_is)
    (case n_Log => k_is)
    (case n_LogError => k_is)
    (case n_Missing => k_is)
    (case n_NothingLeft => k_is)
    (case i_InvalidMoment => k_is)
    (case l_i_InvalidMoment => k_is)
    (case cc_i_InvalidMoment => k_is)
    (case k_i_InvalidMoment => k_is)
    (case x_InvalidMoment => kernel_rfl)
    (case tt_InvalidMoment => k_is)
    (case x_em_InvalidMoment => kernel_rfl)
    (case at_i_Log => k_is)
    (case fi_i_Log => k_is)
    (case l_i_Log => k_is)
    (case cc_i_Log => k_is)
    (case k_i_Log => k_is)
    (case at_Log_rows => k_is)
    (case fi_Log_rows => k_is)
    (case l_Log_rows => k_is)
    (case cc_Log_rows => k_is)
    (case k_Log_rows => k_is)
    (case at_Log_processes => k_is)
    (case fi_Log_processes => k_is)
    (case l_Log_processes => k_is)
    (case cc_Log_processes => k_is)
    (case k_Log_processes => k_is)
    (case at_Log_lengths => k_is)
    (case fi_Log_lengths => k_is)
    (case l_Log_lengths => k_is)
    (case cc_Log_lengths => k_is)
    (case k_Log_lengths => k_is)
    (case at_Log_upto => k_is)
    (case fi_Log_upto => k_is)
    (case l_Log_upto => k_is)
    (case cc_Log_upto => k_is)
    (case k_Log_upto => k_is)
    (case at_Log_text => k_is)
    (case fi_Log_text => k_is)
    (case l_Log_text => k_is)
    (case cc_Log_text => k_is)
    (case k_Log_text => k_is)
    (case at_Log_read => k_is)
    (case rc_Log_read => k_is)
    (case fi_Log_read => k_is)
    (case l_Log_read => k_is)
    (case cc_Log_read => k_is)
    (case k_Log_read => k_is)
    (case at_Log_eq => k_is)
    (case fi_Log_eq => k_is)
    (case l_Log_eq => k_is)
    (case cc_Log_eq => k_is)
    (case k_Log_eq => k_is)
    (case at_Log_str => k_is)
    (case fi_Log_str => k_is)
    (case l_Log_str => k_is)
    (case cc_Log_str => k_is)
    (case k_Log_str => k_is)
    (case pg_Log => k_is)
    (case hd_Log => k_is)
    (case po_Log => k_is)
    (case sa_Log => k_is)
    (case mk_Log => k_is)
    (case kc_Log => k_is)
    (case rd_Log => k_is)
    (case ga_Log => k_is)
    (case ha_Log => k_is)
    (case hn_Log => k_is)
    (case ht_Log => k_is)
    (case hm_Log => k_is)
    (case na_Log_rows => k_is)
    (case na_Log_order => k_is)
    (case cv_Log_PROCESSES => k_is)
    (case cv_Log_STEPS => k_is)
    (case n_is_name => k_is)
    (case l_is_name => k_is)
    (case c_is_name => k_is)
    (case k_is_name => k_is)
    (case n_is_word => k_is)
    (case l_is_word => k_is)
    (case c_is_word => k_is)
    (case k_is_word => k_is)
    (case n_is_number => k_is)
    (case l_is_number => k_is)
    (case c_is_number => k_is)
    (case k_is_number => k_is)
    (case n_is_step => k_is)
    (case l_is_step => k_is)
    (case c_is_step => k_is)
    (case k_is_step => k_is)
    (case n_step_text => k_is)
    (case l_step_text => k_is)
    (case c_step_text => k_is)
    (case k_step_text => k_is)
    (case n_read_step => k_is)
    (case l_read_step => k_is)
    (case c_read_step => k_is)
    (case k_read_step => k_is)
    (case n_read_number => k_is)
    (case l_read_number => k_is)
    (case c_read_number => k_is)
    (case k_read_number => k_is)
    (case n_consists_of => k_is)
    (case l_consists_of => k_is)
    (case c_consists_of => k_is)
    (case k_consists_of => k_is)
    (case n_is_deed => k_is)
    (case l_is_deed => k_is)
    (case c_is_deed => k_is)
    (case k_is_deed => k_is)
    (case n_split_deed => k_is)
    (case l_split_deed => k_is)
    (case c_split_deed => k_is)
    (case k_split_deed => k_is)
    (case n_check_rows => k_is)
    (case l_check_rows => k_is)
    (case c_check_rows => k_is)
    (case k_check_rows => k_is)
    (case n_is_row => k_is)
    (case l_is_row => k_is)
    (case c_is_row => k_is)
    (case k_is_row => k_is)
    (case n_check_steps => k_is)
    (case l_check_steps => k_is)
    (case c_check_steps => k_is)
    (case k_check_steps => k_is)
    (case n_check_messages => k_is)
    (case l_check_messages => k_is)
    (case c_check_messages => k_is)
    (case k_check_messages => k_is)
    (case n_check_ends => k_is)
    (case l_check_ends => k_is)
    (case c_check_ends => k_is)
    (case k_check_ends => k_is)
    (case n_names => k_is)
    (case l_names => k_is)
    (case c_names => k_is)
    (case k_names => k_is)
    (case n_deeds => k_is)
    (case l_deeds => k_is)
    (case c_deeds => k_is)
    (case k_deeds => k_is)
    (case n_first_unsent => k_is)
    (case l_first_unsent => k_is)
    (case c_first_unsent => k_is)
    (case k_first_unsent => k_is)
    (case n_order_of => k_is)
    (case l_order_of => k_is)
    (case c_order_of => k_is)
    (case k_order_of => k_is)
    (case n_first_ready => k_is)
    (case l_first_ready => k_is)
    (case c_first_ready => k_is)
    (case k_first_ready => k_is)
    (case n_can_be_made => k_is)
    (case l_can_be_made => k_is)
    (case c_can_be_made => k_is)
    (case k_can_be_made => k_is)
    (case n_are_places => k_is)
    (case l_are_places => k_is)
    (case c_are_places => k_is)
    (case k_are_places => k_is)
    (case n_row_text => k_is)
    (case l_row_text => k_is)
    (case c_row_text => k_is)
    (case k_row_text => k_is)
    (case n_read_row => k_is)
    (case l_read_row => k_is)
    (case c_read_row => k_is)
    (case k_read_row => k_is)
    (case n_Lbag => k_is)
    (case l_Lbag => k_is)
    (case c_Lbag => k_is)
    (case k_Lbag => k_is)
    (case n_Ldraw => k_is)
    (case l_Ldraw => k_is)
    (case c_Ldraw => k_is)
    (case k_Ldraw => k_is)
    (case n_Lof => k_is)
    (case l_Lof => k_is)
    (case c_Lof => k_is)
    (case k_Lof => k_is)
    (case n_Lmixed => k_is)
    (case l_Lmixed => k_is)
    (case c_Lmixed => k_is)
    (case k_Lmixed => k_is)
    (case n_Lsame => k_is)
    (case l_Lsame => k_is)
    (case c_Lsame => k_is)
    (case k_Lsame => k_is)
    (case n_Lfield => k_is)
    (case l_Lfield => k_is)
    (case c_Lfield => k_is)
    (case k_Lfield => k_is)
    (case n_Lother_field => k_is)
    (case l_Lother_field => k_is)
    (case c_Lother_field => k_is)
    (case k_Lother_field => k_is)
    (case n_Lgot => k_is)
    (case l_Lgot => k_is)
    (case c_Lgot => k_is)
    (case k_Lgot => k_is)
    (case n_Lwhy => k_is)
    (case l_Lwhy => k_is)
    (case c_Lwhy => k_is)
    (case k_Lwhy => k_is)
    (case n_Lmarks => k_is)
    (case l_Lmarks => k_is)
    (case c_Lmarks => k_is)
    (case k_Lmarks => k_is)
    (case n_Lstep => k_is)
    (case l_Lstep => k_is)
    (case c_Lstep => k_is)
    (case k_Lstep => k_is)
    (case n_Lrows => k_is)
    (case l_Lrows => k_is)
    (case c_Lrows => k_is)
    (case k_Lrows => k_is)
    (case n_Llog => k_is)
    (case l_Llog => k_is)
    (case c_Llog => k_is)
    (case k_Llog => k_is)
    (case n_Lsmall_rows => k_is)
    (case l_Lsmall_rows => k_is)
    (case c_Lsmall_rows => k_is)
    (case k_Lsmall_rows => k_is)
    (case n_Llengths => k_is)
    (case l_Llengths => k_is)
    (case c_Llengths => k_is)
    (case k_Llengths => k_is)
    (case n_Lpoints => k_is)
    (case l_Lpoints => k_is)
    (case c_Lpoints => k_is)
    (case k_Lpoints => k_is)
    (case n_Llonger => k_is)
    (case l_Llonger => k_is)
    (case c_Llonger => k_is)
    (case k_Llonger => k_is)
    (case n_Ldeeds => k_is)
    (case l_Ldeeds => k_is)
    (case c_Ldeeds => k_is)
    (case k_Ldeeds => k_is)
    (case n_Lcan_be => k_is)
    (case l_Lcan_be => k_is)
    (case c_Lcan_be => k_is)
    (case k_Lcan_be => k_is)
    (case n_Lmoments => k_is)
    (case l_Lmoments => k_is)
    (case c_Lmoments => k_is)
    (case k_Lmoments => k_is)
    (case n_Lupto => k_is)
    (case l_Lupto => k_is)
    (case c_Lupto => k_is)
    (case k_Lupto => k_is)
    (case n_law => k_is)
    (case l_law => k_is)
    (case c_law => k_is)
    (case k_law => k_is)
    (case n_DEEDS => k_is)
    (case l_DEEDS => k_is)
    (case l_DEEDS_1 => k_is)
    (case l_DEEDS_0 => k_is)
    (case n_DIGITS => k_is)
    (case n_LEAST => k_is)
    (case n_LETTERS => k_is)
    (case n_MOST => k_is)
    (case n_NAME_LENGTH => k_is)
    (case n_WORD_LENGTH => k_is)
    (case z_all => k_is)
    (case z_bool => k_is)
    (case z_enumerate => k_is)
    (case z_int => k_is)
    (case z_isinstance => k_is)
    (case z_len => k_is)
    (case z_list => k_is)
    (case z_range => k_is)
    (case z_sorted => k_is)
    (case z_str => k_is)
    (case z_sum => k_is)
    (case z_tuple => k_is)
    (case z_zip => k_is)
    (case hTb => exact PySem.W.km_tabs_of Y _ (List.Mem.head _))
    (case e_cd => rfl)
    (case x_hd => kernel_rfl)
    (case x_nl => kernel_rfl)
