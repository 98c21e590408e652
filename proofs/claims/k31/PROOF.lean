import PyProof.Rows.All
import Wide.All
import OpenK.AllK
import Wide.FinOn
import HandS.ForMost
import HandS.IsInst
import HandS.TupAny
import HandS.Wide
import HandS.NoneIn
import HandS.Flow
import HandS.Conv
import HandS.Deep
import HandS.Zip
import HandS.Style
import HandS.SortRule
import HandS.Lambda
import HandS.SortKw
import PySem.Challenge.RW_packedforms_k31_falling_order
import KE.KNestM
import HandS.EndTab
set_option Elab.async false
set_option linter.all false
set_option maxRecDepth 100000
set_option maxHeartbeats 4000000
namespace K1
open PySem PySem.Spec PyProof.Rows L2
/-! ### written things as data -/
mutual
/-- None, truths, numbers, texts of right signs, tuples of such -/
def pl : PyData → Bool
  | .none => true
  | .bool _ => true
  | .int _ => true
  | .str x => PyData.strOk x
  | .tuple ds => plA ds
  | .list _ => false
  | .dict _ => false
def plA : List PyData → Bool
  | [] => true
  | d :: ds => pl d && plA ds
end
mutual
/-- how great a thing is: tuples and leaves, signs of texts -/
def sz : PyData → Nat
  | .none => 1
  | .bool _ => 1
  | .int _ => 1
  | .str x => x.length + 1
  | .tuple ds => szA ds + 1
  | .list _ => 1
  | .dict _ => 1
def szA : List PyData → Nat
  | [] => 0
  | d :: ds => sz d + szA ds
end
theorem sz_pos : ∀ d, 1 ≤ sz d
  | .none => Nat.le_refl _
  | .bool _ => Nat.le_refl _
  | .int _ => Nat.le_refl _
  | .str x => Nat.succ_le_succ (Nat.zero_le _)
  | .tuple ds => Nat.succ_le_succ (Nat.zero_le _)
  | .list _ => Nat.le_refl _
  | .dict _ => Nat.le_refl _
theorem len_szA : ∀ ds : List PyData, ds.length ≤ szA ds
  | [] => Nat.le_refl _
  | d :: ds => by
    have h1 := sz_pos d
    have h2 := len_szA ds
    simp only [List.length_cons, szA]
    omega
mutual
theorem canLay : ∀ d, pl d = true → PyData.canLay0 d = true
  | .none, _ => rfl
  | .bool _, _ => rfl
  | .int _, _ => rfl
  | .str _, h => h
  | .tuple ds, h => canLayA ds h
  | .list _, h => by cases h
  | .dict _, h => by cases h
theorem canLayA : ∀ ds, plA ds = true → PyData.canLayAll0 ds = true
  | [], _ => rfl
  | d :: ds, h => by
    have h' : pl d = true ∧ plA ds = true := by simpa [plA] using h
    show (PyData.canLay0 d && PyData.canLayAll0 ds) = true
    rw [canLay d h'.1, canLayA ds h'.2]
    rfl
end
theorem plA_mem : ∀ {ds : List PyData} {d : PyData}, plA ds = true → d ∈ ds → pl d = true
  | d :: ds, e, h, m => by
    have h' : pl d = true ∧ plA ds = true := by simpa [plA] using h
    rcases List.mem_cons.mp m with rfl | m
    · exact h'.1
    · exact plA_mem h'.2 m
theorem plA_of : ∀ {ds : List PyData}, (∀ d ∈ ds, pl d = true) → plA ds = true
  | [], _ => rfl
  | d :: ds, h => by
    show (pl d && plA ds) = true
    rw [h d List.mem_cons_self, plA_of fun e m => h e (List.mem_cons_of_mem _ m)]
    rfl
theorem szA_append : ∀ xs ys : List PyData, szA (xs ++ ys) = szA xs + szA ys
  | [], ys => by simp [szA]
  | x :: xs, ys => by
    simp only [List.cons_append, szA, szA_append xs ys]
    omega
theorem sz_mem : ∀ {ds : List PyData} {d : PyData}, d ∈ ds → sz d ≤ szA ds
  | d :: ds, e, m => by
    simp only [szA]
    rcases List.mem_cons.mp m with rfl | m
    · omega
    · have := sz_mem m
      omega
theorem szA_le {b : Nat} : ∀ {ds : List PyData}, (∀ d ∈ ds, sz d ≤ b) → szA ds ≤ ds.length * b
  | [], _ => by simp [szA]
  | d :: ds, h => by
    have h1 := h d List.mem_cons_self
    have h2 := szA_le fun e m => h e (List.mem_cons_of_mem _ m)
    simp only [szA, List.length_cons, Nat.add_mul]
    omega
theorem depthA_le {b : Nat} : ∀ {ds : List PyData}, (∀ d ∈ ds, d.depth ≤ b) → PyData.depthAll ds ≤ b
  | [], _ => by simp [PyData.depthAll]
  | d :: ds, h => by
    have h1 := h d List.mem_cons_self
    have h2 := depthA_le fun e m => h e (List.mem_cons_of_mem _ m)
    simp only [PyData.depthAll]
    omega
theorem depth_mem : ∀ {ds : List PyData} {d : PyData}, d ∈ ds → d.depth ≤ PyData.depthAll ds
  | d :: ds, e, m => by
    simp only [PyData.depthAll]
    rcases List.mem_cons.mp m with rfl | m
    · omega
    · have := depth_mem m
      omega
theorem depth_tuple (ds : List PyData) : (PyData.tuple ds).depth = PyData.depthAll ds + 1 := by simp [PyData.depth]
/-! ### heaps: what tuples stand -/
section
variable {K : PySem.W.Frag} {H H1 H2 : Hp}
def TS (K : PySem.W.Frag) (H H' : Hp) : Prop := ∀ a xs, SqT K H a xs → SqT K H' a xs
theorem TS.refl : TS K H H := fun _ _ h => h
theorem TS.trans (a : TS K H H1) (b : TS K H1 H2) : TS K H H2 := fun x xs h => b x xs (a x xs h)
theorem ts_same (s : Same H H1) : TS K H H1 := fun a xs h => by
  rcases h with (h | ⟨o, h⟩) | h
  · exact .inl (.inl (s _ _ h))
  · exact .inl (.inr ⟨o, s _ _ h⟩)
  · exact .inr h
theorem ts_new {p : Addr} {o : HO} (h : H p = none) : TS K H (upd H p o) := ts_same fun b u e => by rw [upd_ne (ne_of_none e h)]; exact e
theorem ts_but {S : Addr → Prop} (hS : ∀ b, S b → ∃ xs, H b = some (.lst xs)) (k : ∀ b o, ¬ S b → H b = some o → H1 b = some o) : TS K H H1 := fun a xs h => by
  rcases h with (h | ⟨o, h⟩) | h
  · refine .inl (.inl (k _ _ (fun z => ?_) h))
    obtain ⟨ys, e⟩ := hS a z
    rw [e] at h
    cases h
  · refine .inl (.inr ⟨o, k _ _ (fun z => ?_) h⟩)
    obtain ⟨ys, e⟩ := hS a z
    rw [e] at h
    cases h
  · exact .inr h
theorem ts_lst {l : Addr} {xs ys : List V} (h : H l = some (.lst xs)) : TS K H (upd H l (.lst ys)) :=
  ts_but (S := fun b => b = l) (fun b e => ⟨xs, by rw [e]; exact h⟩) fun b o n e => by rw [upd_ne n]; exact e
theorem same_upd {p : Addr} {o : HO} (h : H p = none) : Same H (upd H p o) := fun b x e => by rw [upd_ne (ne_of_none e h)]; exact e
mutual
theorem TS.dp (t : TS K H H1) : ∀ (d : PyData) (v : V), pl d = true → Dp K H v d → Dp K H1 v d
  | .none, _, _, h => by cases h; exact .non
  | .bool b, _, _, h => by cases h; exact .bl b
  | .int i, _, _, h => by cases h; exact .int i
  | .str x, _, _, h => by cases h; exact .str x
  | .tuple ds, _, p, h => by
    cases h with
    | tup hs ha => exact .tup (t _ _ hs) (TS.dps t ds _ p ha)
  | .list _, _, p, _ => by cases p
  | .dict _, _, p, _ => by cases p
theorem TS.dps (t : TS K H H1) : ∀ (ds : List PyData) (vs : List V), plA ds = true → DpAll K H vs ds → DpAll K H1 vs ds
  | [], _, _, h => by cases h; exact .nil
  | d :: ds, _, p, h => by
    have p' : pl d = true ∧ plA ds = true := by simpa [plA] using p
    cases h with
    | cons h1 h2 => exact .cons (TS.dp t d _ p'.1 h1) (TS.dps t ds _ p'.2 h2)
end
theorem dpAll_len : ∀ {vs : List V} {ds : List PyData}, DpAll K H vs ds → vs.length = ds.length
  | _, _, .nil => rfl
  | _, _, .cons _ t => by simp [dpAll_len t]
theorem dpAll_get : ∀ {vs : List V} {ds : List PyData} {i : Nat} {v : V}, DpAll K H vs ds → vs[i]? = some v → ∃ d, ds[i]? = some d ∧ Dp K H v d
  | _, _, i, v, .nil, e => by simp at e
  | _, _, 0, v, .cons h t, e => by
    simp at e
    subst e
    exact ⟨_, rfl, h⟩
  | _, _, i + 1, v, .cons h t, e => by
    obtain ⟨d, e1, e2⟩ := dpAll_get (i := i) t (by simpa using e)
    exact ⟨d, by simpa using e1, e2⟩
theorem dpAll_append : ∀ {vs ws : List V} {ds es : List PyData}, DpAll K H vs ds → DpAll K H ws es → DpAll K H (vs ++ ws) (ds ++ es)
  | _, _, _, _, .nil, s => s
  | _, _, _, _, .cons h t, s => .cons h (dpAll_append t s)
theorem dpAll_take : ∀ {vs : List V} {ds : List PyData} (n : Nat), DpAll K H vs ds → DpAll K H (vs.take n) (ds.take n)
  | _, _, 0, _ => by simp; exact .nil
  | _, _, _ + 1, .nil => by simp; exact .nil
  | _, _, n + 1, .cons h t => .cons h (dpAll_take n t)
theorem dpAll_drop : ∀ {vs : List V} {ds : List PyData} (n : Nat), DpAll K H vs ds → DpAll K H (vs.drop n) (ds.drop n)
  | _, _, 0, r => r
  | _, _, _ + 1, .nil => by simp; exact .nil
  | _, _, n + 1, .cons _ t => dpAll_drop n t
end
/-! ### a few operators -/
section
variable {X : Cx}
/-- a != b of data, where one of them is not deep -/
def rNeM (K : PySem.W.Frag) : R2 := fun x y H Q => ∃ d e, Dp K H x d ∧ Dp K H y e ∧ d.canLay0 = true ∧ e.canLay0 = true ∧ min d.depth e.depth ≤ 64 ∧ Q (.bl (!PyData.eqv d e)) H
def rEqM (K : PySem.W.Frag) : R2 := fun x y H Q => ∃ d e, Dp K H x d ∧ Dp K H y e ∧ d.canLay0 = true ∧ e.canLay0 = true ∧ min d.depth e.depth ≤ 64 ∧ Q (.bl (PyData.eqv d e)) H
theorem op_neM (hu : X.A.units + 64 < cLine) : OpR X (compareOp .NotEq) (rNeM X.K) := by
  intro pins s σ H x y v u Q I rx ry h
  obtain ⟨d, e, hd, he, sd, se, hm, q⟩ := h
  obtain ⟨as, r1⟩ := Dp.reads I d x v hd rx
  obtain ⟨bs, r2⟩ := Dp.reads I e y u he ry
  exact SeqAt.compareNe_reads r1 r2 sd se (Nat.lt_of_le_of_lt (Nat.add_le_add_left hm _) hu) ⟨.bl _, H, I, rfl, q⟩
theorem op_eqM (hu : X.A.units + 64 < cLine) : OpR X (compareOp .Eq) (rEqM X.K) := by
  intro pins s σ H x y v u Q I rx ry h
  obtain ⟨d, e, hd, he, sd, se, hm, q⟩ := h
  obtain ⟨as, r1⟩ := Dp.reads I d x v hd rx
  obtain ⟨bs, r2⟩ := Dp.reads I e y u he ry
  exact SeqAt.compareEq_reads r1 r2 sd se (Nat.lt_of_le_of_lt (Nat.add_le_add_left hm _) hu) ⟨.bl _, H, I, rfl, q⟩
def CPowW (i j : Int) : Prop := 0 ≤ j ∧ (Builtin.Int.intBits i : Int) * j ≤ 2 ^ 27
theorem op_powW : OpR X (binaryOp .Pow) (rI CPowW fun i j => .int (i ^ j.toNat)) := opI fun _ _ _ _ _ _ _ hc q => pow_int hc.1 hc.2 q
end
end K1
namespace K1
open PySem PySem.Spec PyProof.Rows L2
/-! ### the deck -/
structure Dk (H : Hp) (dk cl lf : Addr) (B : Nat) : Prop where
  ex : ∃ (cells lefts : List Int) (n : Int), H dk = some (.lst [.ref cl, .int n, .ref lf]) ∧ H cl = some (.lst (cells.map V.int)) ∧ H lf = some (.lst (lefts.map V.int)) ∧ cells.length = lefts.length ∧ 0 < cells.length ∧ cells.length ≤ 100 ∧ 0 ≤ n ∧ n ≤ B
  ne : cl ≠ lf
/-- all but the deck's own lists stays -/
def KD (dk lf : Addr) (H H' : Hp) : Prop := ∀ b o, b ≠ dk → b ≠ lf → H b = some o → H' b = some o
theorem KD.refl {dk lf : Addr} {H : Hp} : KD dk lf H H := fun _ _ _ _ h => h
theorem KD.trans {dk lf : Addr} {H H1 H2 : Hp} (a : KD dk lf H H1) (b : KD dk lf H1 H2) : KD dk lf H H2 := fun c o n1 n2 h => b c o n1 n2 (a c o n1 n2 h)
theorem Dk.ts {K : PySem.W.Frag} {H H' : Hp} {dk cl lf : Addr} {B : Nat} (d : Dk H dk cl lf B) (k : KD dk lf H H') : TS K H H' := by
  obtain ⟨⟨cells, lefts, n, e1, e2, e3, _⟩, _⟩ := d
  refine ts_but (S := fun b => b = dk ∨ b = lf) (fun b z => ?_) fun b o n e => k b o (fun z => n (.inl z)) (fun z => n (.inr z)) e
  rcases z with rfl | rfl
  · exact ⟨_, e1⟩
  · exact ⟨_, e3⟩
theorem Dk.same {H H' : Hp} {dk cl lf : Addr} {B : Nat} (d : Dk H dk cl lf B) (s : Same H H') : Dk H' dk cl lf B := by
  obtain ⟨⟨cells, lefts, n, e1, e2, e3, r⟩, ne⟩ := d
  exact ⟨⟨cells, lefts, n, s _ _ e1, s _ _ e2, s _ _ e3, r⟩, ne⟩
theorem Dk.mono {H : Hp} {dk cl lf : Addr} {B C : Nat} (h : B ≤ C) (d : Dk H dk cl lf B) : Dk H dk cl lf C := by
  obtain ⟨⟨cells, lefts, n, e1, e2, e3, a, b, c, e, f⟩, ne⟩ := d
  exact ⟨⟨cells, lefts, n, e1, e2, e3, a, b, c, e, by omega⟩, ne⟩
theorem KD.of_same {dk lf : Addr} {H H' : Hp} (s : Same H H') : KD dk lf H H' := fun b o _ _ e => s b o e
theorem emod_bounds (a : Int) {m : Int} (h : 0 < m) : 0 ≤ a % m ∧ a % m < m := ⟨Int.emod_nonneg a (by omega), Int.emod_lt_of_pos a h⟩
theorem small64 {i : Int} {m : Int} (hm : m ≤ 2 ^ 40) (h0 : 0 ≤ i) (h1 : i ≤ m) : -(2 ^ 64) < i ∧ i < 2 ^ 64 := by omega
theorem atI_of {xs : List V} {j : Nat} {v : V} {i : Int} (e : i = (j : Int)) (h : xs[j]? = some v) : atI xs i = some v := by subst e; exact atI_nat h
theorem cut63 (xs : List V) (h : xs.length ≤ 63) : cutV xs none (some 63) = xs := by
  unfold cutV
  rw [HT.sIx_none, show HT.sIx xs.length xs.length (some 63) = min 63 xs.length from HT.sIx_nat xs.length xs.length 63, show min 63 xs.length = xs.length by omega]
  simp
theorem Dk.not {H : Hp} {dk cl lf D : Addr} {B : Nat} (d : Dk H dk cl lf B) (h : H D = none) : D ≠ dk ∧ D ≠ cl ∧ D ≠ lf := by
  obtain ⟨⟨_, _, _, e1, e2, e3, _⟩, _⟩ := d
  exact ⟨(ne_of_none e1 h).symm, (ne_of_none e2 h).symm, (ne_of_none e3 h).symm⟩
theorem Dk.upd {H : Hp} {dk cl lf D : Addr} {B : Nat} {o : HO} (d : Dk H dk cl lf B) (h : D ≠ dk ∧ D ≠ cl ∧ D ≠ lf) : Dk (L2.upd H D o) dk cl lf B := by
  obtain ⟨⟨cells, lefts, n, e1, e2, e3, r⟩, ne⟩ := d
  exact ⟨⟨cells, lefts, n, by rw [upd_ne h.1.symm]; exact e1, by rw [upd_ne h.2.1.symm]; exact e2, by rw [upd_ne h.2.2.symm]; exact e3, r⟩, ne⟩
theorem KD.upd {dk lf D : Addr} {H H1 H2 : Hp} {o : HO} (a : KD dk lf H H1) (b : KD dk lf H1 H2) (h : H1 D = none) : KD dk lf H (L2.upd H2 D o) := fun c u n1 n2 e => by
  rw [upd_ne (ne_of_none (a c u n1 n2 e) h)]
  exact b c u n1 n2 (a c u n1 n2 e)
/-! ### a callee -/
structure Cal (P : Program) (w : World) (K : PySem.W.Frag) (mg : Str → Option Value) (base : Heap) (x : Str) (ps : List Str) (k : Nat) (sp : Sp) : Prop where
  ex : ∃ (f : Addr) (fd : FuncData), FnOk P w K mg base CX0 k f fd ps sp ∧ mg x = some (.ref f) ∧ PySem.W.keepIn K (.ref f) = true ∧ Binds K fd ps []
theorem atI_of2 {α : Type} {xs : List α} {j : Nat} {v : α} {i : Int} (e : i = (j : Int)) (h : xs[j]? = some v) : atI xs i = some v := by subst e; exact atI_nat h
end K1
namespace K1
open PySem PySem.Spec PyProof.Rows L2
/-! ### types of written things -/
def tyN : PyData → String
  | .none => "NoneType"
  | .bool _ => "bool"
  | .int _ => "int"
  | .str _ => "str"
  | .tuple _ => "tuple"
  | .list _ => "list"
  | .dict _ => "dict"
def isT : PyData → Bool
  | .tuple _ => true
  | _ => false
def isB : PyData → Bool
  | .bool _ => true
  | _ => false
def isI : PyData → Bool
  | .int _ => true
  | .bool _ => true
  | _ => false
def isS : PyData → Bool
  | .str _ => true
  | _ => false
theorem kT : ∀ d : PyData, kitB (tyN d) "tuple" = some (isT d)
  | .none => (by decide +kernel : kitB "NoneType" "tuple" = some false)
  | .bool _ => (by decide +kernel : kitB "bool" "tuple" = some false)
  | .int _ => (by decide +kernel : kitB "int" "tuple" = some false)
  | .str _ => (by decide +kernel : kitB "str" "tuple" = some false)
  | .tuple _ => (by decide +kernel : kitB "tuple" "tuple" = some true)
  | .list _ => (by decide +kernel : kitB "list" "tuple" = some false)
  | .dict _ => (by decide +kernel : kitB "dict" "tuple" = some false)
theorem kB : ∀ d : PyData, kitB (tyN d) "bool" = some (isB d)
  | .none => (by decide +kernel : kitB "NoneType" "bool" = some false)
  | .bool _ => (by decide +kernel : kitB "bool" "bool" = some true)
  | .int _ => (by decide +kernel : kitB "int" "bool" = some false)
  | .str _ => (by decide +kernel : kitB "str" "bool" = some false)
  | .tuple _ => (by decide +kernel : kitB "tuple" "bool" = some false)
  | .list _ => (by decide +kernel : kitB "list" "bool" = some false)
  | .dict _ => (by decide +kernel : kitB "dict" "bool" = some false)
theorem kI : ∀ d : PyData, kitB (tyN d) "int" = some (isI d)
  | .none => (by decide +kernel : kitB "NoneType" "int" = some false)
  | .bool _ => (by decide +kernel : kitB "bool" "int" = some true)
  | .int _ => (by decide +kernel : kitB "int" "int" = some true)
  | .str _ => (by decide +kernel : kitB "str" "int" = some false)
  | .tuple _ => (by decide +kernel : kitB "tuple" "int" = some false)
  | .list _ => (by decide +kernel : kitB "list" "int" = some false)
  | .dict _ => (by decide +kernel : kitB "dict" "int" = some false)
theorem kS : ∀ d : PyData, kitB (tyN d) "str" = some (isS d)
  | .none => (by decide +kernel : kitB "NoneType" "str" = some false)
  | .bool _ => (by decide +kernel : kitB "bool" "str" = some false)
  | .int _ => (by decide +kernel : kitB "int" "str" = some false)
  | .str _ => (by decide +kernel : kitB "str" "str" = some true)
  | .tuple _ => (by decide +kernel : kitB "tuple" "str" = some false)
  | .list _ => (by decide +kernel : kitB "list" "str" = some false)
  | .dict _ => (by decide +kernel : kitB "dict" "str" = some false)
theorem dp_ty {K : PySem.W.Frag} {H : Hp} {v : V} {d : PyData} (h : Dp K H v d) (p : pl d = true) : TyX K H v (.type (tyN d)) := by
  cases h with
  | non => exact .base .non
  | bl b => exact .base (.bl b)
  | int i => exact .base (.int i)
  | str x => exact .base (.str x)
  | lst hs ha => cases p
  | tup hs ha =>
    rcases hs with (hs | ⟨o, hs⟩) | ⟨o, its, n, h1, h2, _⟩
    · exact .base (.tup hs)
    · exact .fTuple hs
    · exact .kTuple h1 h2
end K1
namespace K1
open PySem PySem.Spec PyProof.Rows L2
theorem paired_len {α β : Type} {F : α → β → Prop} : ∀ {xs : List α} {ys : List β}, Paired F xs ys → xs.length = ys.length
  | _, _, .nil => rfl
  | _, _, .cons _ t => by simp [paired_len t]
theorem paired_last {α β : Type} {F : α → β → Prop} : ∀ {xs : List α} {ys : List β}, Paired F xs ys → xs ≠ [] → ∃ xs' x ys' y, xs = xs' ++ [x] ∧ ys = ys' ++ [y] ∧ Paired F xs' ys' ∧ F x y
  | _, _, .nil, h => absurd rfl h
  | _, _, .cons (l₁ := []) h .nil, _ => ⟨[], _, [], _, rfl, rfl, .nil, h⟩
  | _, _, .cons (l₁ := _ :: _) h (.cons h2 t), _ => by
    obtain ⟨xs', x, ys', y, e1, e2, r, f⟩ := paired_last (.cons h2 t) (by simp)
    exact ⟨_ :: xs', x, _ :: ys', y, by rw [e1]; rfl, by rw [e2]; rfl, .cons h r, f⟩
theorem paired_append {α β : Type} {F : α → β → Prop} : ∀ {xs xs' : List α} {ys ys' : List β}, Paired F xs ys → Paired F xs' ys' → Paired F (xs ++ xs') (ys ++ ys')
  | _, _, _, _, .nil, s => s
  | _, _, _, _, .cons h t, s => .cons h (paired_append t s)
theorem paired_of {α β : Type} {F : α → β → Prop} : ∀ {xs : List α} {ys : List β}, xs.length = ys.length → (∀ (i : Nat) (x : α) (y : β), xs[i]? = some x → ys[i]? = some y → F x y) → Paired F xs ys
  | [], [], _, _ => .nil
  | [], _ :: _, h, _ => by cases h
  | _ :: _, [], h, _ => by cases h
  | x :: xs, y :: ys, h, f => .cons (f 0 x y rfl rfl) (paired_of (Nat.succ.inj h) fun i a b ea eb => f (i + 1) a b (by simpa using ea) (by simpa using eb))
/-- what the last test of alike says -/
theorem flat_alike : ∀ (d e : PyData), pl d = true → pl e = true → (isT d && isT e) = false → (isB d = isB e ∧ PyData.eqv d e = true ↔ d = e) := by
  intro d e p1 p2 nt
  cases d <;> cases e <;> simp_all [isT, isB, PyData.eqv, pl]
open Classical in
/-- the answer -/
noncomputable def eqB (d e : PyData) : Bool := decide (d = e)
open Classical in
theorem eqB_true {d e : PyData} (h : d = e) : eqB d e = true := decide_eq_true h
open Classical in
theorem eqB_false {d e : PyData} (h : d ≠ e) : eqB d e = false := decide_eq_false h
theorem flat_min {d e : PyData} (p1 : pl d = true) (p2 : pl e = true) (nt : (isT d && isT e) = false) : min d.depth e.depth ≤ 64 := by
  cases d <;> cases e <;> simp_all [isT, PyData.depth, pl]
theorem pss_weak {X : Cx} {st : List Stmt} {t t' : L2.TS} (h : PSs X st t) (g : ∀ D σ H, t' D σ H → t D σ H) : PSs X st t' := ⟨fun pins s σ H D I hh => h.run pins s σ H D I (g D σ H hh)⟩
theorem non_iff {K : PySem.W.Frag} {H : Hp} {x : V} {d : PyData} (h : Dp K H x d) : x = .non ↔ d = .none := by
  cases h <;> simp
theorem flat_same : ∀ (d e : PyData), pl d = true → pl e = true → d ≠ .none → e ≠ .none → isB d = isB e → isT d = false → isT e = false → (PyData.eqv d e = true ↔ d = e) := by
  intro d e p1 p2 n1 n2 b t1 t2
  cases d <;> cases e <;> simp_all [isT, isB, PyData.eqv, pl]
theorem eqv_nil (xs : List PyData) : PyData.eqv (.list xs) (.list []) = xs.isEmpty := by
  cases xs <;> simp [PyData.eqv, PyData.eqvAll]
end K1
namespace K1
open PySem PySem.Spec PyProof.Rows L2
theorem emp_iff {α β : Type} {F : α → β → Prop} {xs : List α} {ys : List β} (h : Paired F xs ys) : xs.isEmpty = ys.isEmpty := by cases h <;> rfl
theorem dpAll_emp {K : PySem.W.Frag} {H : Hp} {xs : List V} {ys : List PyData} (h : DpAll K H xs ys) : xs.isEmpty = ys.isEmpty := by cases h <;> rfl
/-- a sum of two tuples, wherever it lies -/
theorem catA_any {K : PySem.W.Frag} {H : Hp} {a b : Addr} {xs ys : List V} {Q : VK} (ha : SqT K H a xs) (hb : SqT K H b ys) (hl : xs.length + ys.length ≤ sizeLine)
    (q : ∀ r H', Same H H' → SqT K H' r (xs ++ ys) → Q (.ref r) H') : rCatA K (.ref a) (.ref b) H Q := by
  refine ⟨a, b, xs, ys, rfl, rfl, ha, hb, hl, fun e => ?_, fun e1 e2 => ?_, fun e1 e2 p np => q p _ (same_upd np) (.inl (.inl upd_same))⟩
  · subst e; exact q b H (Same.refl _) hb
  · subst e2; exact q a H (Same.refl _) (by rw [List.append_nil]; exact ha)
end K1
namespace K1
open PySem PySem.Spec PyProof.Rows L2
theorem slA_any {K : PySem.W.Frag} {H : Hp} {a : Addr} {xs : List V} {lo hi : Option Int} {Q : VK} (ha : SqT K H a xs) (q : ∀ r H', Same H H' → SqT K H' r (cutV xs lo hi) → Q (.ref r) H') : rSlA K (.ref a) lo hi H Q := by
  refine ⟨a, xs, rfl, ha, fun hw => ?_, fun _ p np => q p _ (same_upd np) (.inl (.inl upd_same))⟩
  have e : cutV xs lo hi = xs := by
    unfold cutV
    rw [hw.1, hw.2]
    simp
  exact q a H (Same.refl _) (by rw [e]; exact ha)
theorem cut_take (xs : List V) (i : Nat) : cutV xs none (some (i : Int)) = xs.take i := by
  unfold cutV
  rw [HT.sIx_none, HT.sIx_nat]
  simp only [List.drop_zero, Nat.sub_zero]
  by_cases h : i ≤ xs.length
  · rw [show min i xs.length = i by omega]
  · rw [show min i xs.length = xs.length by omega, List.take_length, List.take_of_length_le (by omega)]
theorem cut_drop (xs : List V) (i : Nat) : cutV xs (some (i : Int)) none = xs.drop i := by
  unfold cutV
  rw [HT.sIx_none, HT.sIx_nat]
  by_cases h : i ≤ xs.length
  · rw [show min i xs.length = i by omega]
    rw [List.take_of_length_le (by rw [List.length_drop]; omega)]
  · rw [show min i xs.length = xs.length by omega, List.drop_of_length_le (by omega), List.drop_of_length_le (by omega)]
    simp
theorem eqv_nilT (xs : List PyData) : PyData.eqv (.tuple xs) (.tuple []) = xs.isEmpty := by
  cases xs <;> simp [PyData.eqv, PyData.eqvAll]
end K1
namespace K1
open PySem PySem.Spec PyProof.Rows L2
/-! ### a comprehension over zip of two tuples of one length -/
theorem lc_zipT {K : PySem.W.Frag} {a b : Addr} {xs ys : List V} {g : TG} {tt : TT} {te : TE} {vs : List Nat} {σ : L2.St} {H1 : Hp} {D : Addr} {Qd : Hp → Prop} (hl : xs.length = ys.length) (Pv : Nat → Hp → Prop) (h0 : Pv 0 (L2.upd H1 D (.lst [])))
    (hq : ∀ i H, i ≤ xs.length → Pv i H → SqT K H a xs ∧ SqT K H b ys)
    (hs : ∀ (i : Nat) (x y : V) (T : Addr) (H : Hp), xs[i]? = some x → ys[i]? = some y → Pv i H → H T = none → g (.ref T) (wipe σ vs) (L2.upd H T (.tup [x, y])) fun σ2 H2 => wipe σ2 vs = wipe σ vs ∧ tt σ2 H2 fun b H3 =>
      if b = true then te σ2 H3 fun y H4 => ∃ acc, H4 D = some (.lst acc) ∧ acc.length < sizeLine ∧ Pv (i + 1) (L2.upd H4 D (.lst (acc ++ [y]))) else Pv (i + 1) H3) (hd : ∀ H, Pv xs.length H → Qd H) :
    ∃ W : Nat → Nat → Hp → Prop, (∃ m, W 0 m (L2.upd H1 D (.lst []))) ∧ ∀ i m H, W i m H →
      ((RZ.ItzT K a b).stop i H ∧ Qd H) ∨ ((RZ.ItzT K a b).go i H ∧ ∃ Nx : Hp → Prop, (∀ H', Nx H' → ∃ m', m' < m ∧ W (i + 1) m' H') ∧ ∀ x H', (RZ.ItzT K a b).yld i H x H' → g x (wipe σ vs) H' fun σ2 H2 => wipe σ2 vs = wipe σ vs ∧ tt σ2 H2 fun b H3 =>
        if b = true then te σ2 H3 fun y H4 => ∃ acc, H4 D = some (.lst acc) ∧ acc.length < sizeLine ∧ Nx (L2.upd H4 D (.lst (acc ++ [y]))) else Nx H3) := by
  refine ⟨fun i m H => m = xs.length - i ∧ i ≤ xs.length ∧ Pv i H, ⟨xs.length, by simp, Nat.zero_le _, h0⟩, ?_⟩
  rintro i m H ⟨rfl, hi, p⟩
  obtain ⟨qx, qy⟩ := hq i H hi p
  by_cases hlt : i < xs.length
  · have hx : xs[i]? = some xs[i] := List.getElem?_eq_getElem hlt
    have hlt2 : i < ys.length := by omega
    have hy : ys[i]? = some ys[i] := List.getElem?_eq_getElem hlt2
    refine .inr ⟨⟨xs, ys, _, _, qx, qy, hx, hy⟩, Pv (i + 1), fun H' p' => ⟨xs.length - (i + 1), by omega, rfl, hlt, p'⟩, fun v H' y => ?_⟩
    obtain ⟨T, x', y', rfl, hT, rfl, f1, f2⟩ := y
    exact hs i x' y' T H (f1 xs qx) (f2 ys qy) p hT
  · have e : i = xs.length := by omega
    subst e
    exact .inl ⟨⟨xs, ys, qx, qy, Or.inl (Nat.le_refl _)⟩, hd H p⟩
end K1
namespace K3
/-! ### parts, laid one behind the other -/
abbrev Part := Int × Int
def AlOk (m : Int) : Prop := m = 1 ∨ m = 8 ∨ m = 16 ∨ m = 32 ∨ m = 64
def PtOk (p : Part) : Prop := 0 ≤ p.1 ∧ p.1 ≤ 4096 ∧ AlOk p.2
theorem AlOk.pos {m : Int} (h : AlOk m) : 0 < m ∧ m ≤ 64 := by
  rcases h with rfl | rfl | rfl | rfl | rfl <;> decide
def rup (e m : Int) : Int := (e + m - 1) / m * m
theorem rup_neg {e m : Int} (h : AlOk m) : -(-e / m) * m = rup e m := by
  unfold rup
  rcases h with rfl | rfl | rfl | rfl | rfl <;> omega
theorem rup_ge {e m : Int} (h : AlOk m) : e ≤ rup e m := by
  unfold rup
  rcases h with rfl | rfl | rfl | rfl | rfl <;> omega
theorem rup_lt {e m : Int} (h : AlOk m) : rup e m < e + m := by
  unfold rup
  rcases h with rfl | rfl | rfl | rfl | rfl <;> omega
theorem rup_mod {e m : Int} (h : AlOk m) : rup e m % m = 0 := by
  unfold rup
  rcases h with rfl | rfl | rfl | rfl | rfl <;> omega
theorem rup_mono {e f m : Int} (h : AlOk m) (hl : e ≤ f) : rup e m ≤ rup f m := by
  unfold rup
  rcases h with rfl | rfl | rfl | rfl | rfl <;> omega
theorem rup_fix {e m : Int} (h : AlOk m) (hz : e % m = 0) : rup e m = e := by
  unfold rup
  rcases h with rfl | rfl | rfl | rfl | rfl <;> omega
def lay (p : Part) (e : Int) : Int := if p.1 = 0 then e else rup e p.2 + p.1
def pt (ps : List Part) (n : Nat) : Part := ps.getD n (0, 1)
theorem pt_of {ps : List Part} {n : Nat} {p : Part} (h : ps[n]? = some p) : pt ps n = p := by
  unfold pt
  rw [List.getD_eq_getElem?_getD, h]
  rfl
theorem pt_ok {ps : List Part} (h : ∀ p ∈ ps, PtOk p) (n : Nat) : PtOk (pt ps n) := by
  by_cases hn : n < ps.length
  · rw [pt_of (List.getElem?_eq_getElem hn)]
    exact h _ (List.getElem_mem hn)
  · unfold pt
    rw [List.getD_eq_getElem?_getD, List.getElem?_eq_none (by omega)]
    exact ⟨by decide, by decide, .inl rfl⟩
def step (ps : List Part) (st : List Int × Int) (n : Nat) : List Int × Int :=
  if (pt ps n).1 = 0 then st else (st.1.set n (rup st.2 (pt ps n).2), rup st.2 (pt ps n).2 + (pt ps n).1)
def laidF (ps : List Part) (os : List Nat) : List Int × Int := os.foldl (step ps) (List.replicate ps.length 0, 0)
theorem step_end (ps : List Part) (st : List Int × Int) (n : Nat) : (step ps st n).2 = lay (pt ps n) st.2 := by
  unfold step lay
  by_cases h : (pt ps n).1 = 0
  · rw [if_pos h, if_pos h]
  · rw [if_neg h, if_neg h]
theorem step_len (ps : List Part) (st : List Int × Int) (n : Nat) : (step ps st n).1.length = st.1.length := by
  unfold step
  by_cases h : (pt ps n).1 = 0
  · rw [if_pos h]
  · rw [if_neg h]
    exact List.length_set
theorem laidF_len (ps : List Part) (os : List Nat) : (laidF ps os).1.length = ps.length := by
  have : ∀ (os : List Nat) (st : List Int × Int), (os.foldl (step ps) st).1.length = st.1.length := by
    intro os
    induction os with
    | nil => intro st; rfl
    | cons o os ih => intro st; rw [List.foldl_cons, ih, step_len]
  unfold laidF
  rw [this, List.length_replicate]
theorem laidF_snoc (ps : List Part) (os : List Nat) (n : Nat) : laidF ps (os ++ [n]) = step ps (laidF ps os) n := by
  unfold laidF
  rw [List.foldl_append]
  rfl
/-- what is laid so far -/
structure Laid (ps : List Part) (os : List Nat) (st : List Int × Int) : Prop where
  len : st.1.length = ps.length
  nn : 0 ≤ st.2
  zero : ∀ k, (pt ps k).1 = 0 → st.1.getD k 0 = 0
  off : ∀ k, k ∉ os → st.1.getD k 0 = 0
  low : ∀ k, 0 ≤ st.1.getD k 0
  al : ∀ k, st.1.getD k 0 % (pt ps k).2 = 0
  ends : ∀ k ∈ os, 0 < (pt ps k).1 → st.1.getD k 0 + (pt ps k).1 ≤ st.2
  apart : ∀ k ∈ os, ∀ j ∈ os, k ≠ j → 0 < (pt ps k).1 → 0 < (pt ps j).1 → st.1.getD k 0 + (pt ps k).1 ≤ st.1.getD j 0 ∨ st.1.getD j 0 + (pt ps j).1 ≤ st.1.getD k 0
  last : st.2 = 0 ∨ ∃ k ∈ os, 0 < (pt ps k).1 ∧ st.1.getD k 0 + (pt ps k).1 = st.2
theorem getD_set (xs : List Int) (n k : Nat) (v : Int) (hn : n < xs.length) : (xs.set n v).getD k 0 = if k = n then v else xs.getD k 0 := by
  rw [List.getD_eq_getElem?_getD, List.getD_eq_getElem?_getD, List.getElem?_set]
  by_cases h : n = k
  · subst h
    simp [hn]
  · have h' : ¬ k = n := fun z => h z.symm
    simp [h, h']
theorem laid_nil (ps : List Part) (hp : ∀ p ∈ ps, PtOk p) : Laid ps [] (laidF ps []) := by
  have z : ∀ k, (List.replicate ps.length (0 : Int)).getD k 0 = 0 := fun k => by
    rw [List.getD_eq_getElem?_getD, List.getElem?_replicate]
    split <;> rfl
  refine ⟨by simp [laidF], by simp [laidF], fun k _ => z k, fun k _ => z k, fun k => ?_, fun k => ?_, fun k h => (nomatch h), fun k h => (nomatch h), .inl rfl⟩
  · show 0 ≤ (List.replicate ps.length (0 : Int)).getD k 0
    rw [z]; exact Int.le_refl _
  · show (List.replicate ps.length (0 : Int)).getD k 0 % _ = 0
    rw [z]; simp
theorem laid_step {ps : List Part} (hp : ∀ p ∈ ps, PtOk p) {os : List Nat} {st : List Int × Int} (h : Laid ps os st) {n : Nat} (hn : n < ps.length) (hno : n ∉ os) : Laid ps (os ++ [n]) (step ps st n) := by
  have ok := pt_ok hp n
  by_cases hz : (pt ps n).1 = 0
  · have e : step ps st n = st := by unfold step; rw [if_pos hz]
    rw [e]
    refine ⟨h.len, h.nn, h.zero, fun k hk => h.off k fun z => hk (List.mem_append.mpr (.inl z)), h.low, h.al, fun k hk hs => ?_, fun k hk j hj ne hs hs' => ?_, ?_⟩
    · rcases List.mem_append.mp hk with hk | hk
      · exact h.ends k hk hs
      · rw [List.mem_singleton.mp hk, hz] at hs
        exact absurd hs (by decide)
    · rcases List.mem_append.mp hk with hk | hk
      · rcases List.mem_append.mp hj with hj | hj
        · exact h.apart k hk j hj ne hs hs'
        · rw [List.mem_singleton.mp hj, hz] at hs'
          exact absurd hs' (by decide)
      · rw [List.mem_singleton.mp hk, hz] at hs
        exact absurd hs (by decide)
    · rcases h.last with l | ⟨k, hk, l⟩
      · exact .inl l
      · exact .inr ⟨k, List.mem_append.mpr (.inl hk), l⟩
  · have e : step ps st n = (st.1.set n (rup st.2 (pt ps n).2), rup st.2 (pt ps n).2 + (pt ps n).1) := by unfold step; rw [if_neg hz]
    have hpos : 0 < (pt ps n).1 := by have := ok.1; omega
    have hg := rup_ge (e := st.2) ok.2.2
    have hm := rup_mod (e := st.2) ok.2.2
    have hl : n < st.1.length := by rw [h.len]; exact hn
    have nn := h.nn
    rw [e]
    refine ⟨by rw [List.length_set]; exact h.len, by show 0 ≤ rup st.2 (pt ps n).2 + (pt ps n).1; omega, fun k hk => ?_, fun k hk => ?_, fun k => ?_, fun k => ?_, fun k hk hs => ?_, fun k hk j hj ne hs hs' => ?_, ?_⟩
    · rw [getD_set _ _ _ _ hl]
      by_cases c : k = n
      · subst c; exact absurd hk hz
      · rw [if_neg c]; exact h.zero k hk
    · rw [getD_set _ _ _ _ hl]
      by_cases c : k = n
      · subst c; exact absurd (List.mem_append.mpr (.inr (List.mem_singleton.mpr rfl))) hk
      · rw [if_neg c]; exact h.off k fun z => hk (List.mem_append.mpr (.inl z))
    · rw [getD_set _ _ _ _ hl]
      by_cases c : k = n
      · rw [if_pos c]; omega
      · rw [if_neg c]; exact h.low k
    · rw [getD_set _ _ _ _ hl]
      by_cases c : k = n
      · rw [if_pos c, c]; exact hm
      · rw [if_neg c]; exact h.al k
    · show (st.1.set n _).getD k 0 + _ ≤ rup st.2 (pt ps n).2 + (pt ps n).1
      rw [getD_set _ _ _ _ hl]
      by_cases c : k = n
      · rw [if_pos c, c]; exact Int.le_refl _
      · rw [if_neg c]
        rcases List.mem_append.mp hk with hk | hk
        · have := h.ends k hk hs
          omega
        · exact absurd (List.mem_singleton.mp hk) c
    · rw [getD_set _ _ _ _ hl, getD_set _ _ _ _ hl]
      by_cases c : k = n
      · by_cases c' : j = n
        · exact absurd (c.trans c'.symm) ne
        · rw [if_pos c, if_neg c']
          rcases List.mem_append.mp hj with hj | hj
          · have := h.ends j hj hs'
            exact .inr (by omega)
          · exact absurd (List.mem_singleton.mp hj) c'
      · by_cases c' : j = n
        · rw [if_neg c, if_pos c']
          rcases List.mem_append.mp hk with hk | hk
          · have := h.ends k hk hs
            exact .inl (by omega)
          · exact absurd (List.mem_singleton.mp hk) c
        · rw [if_neg c, if_neg c']
          rcases List.mem_append.mp hk with hk | hk
          · rcases List.mem_append.mp hj with hj | hj
            · exact h.apart k hk j hj ne hs hs'
            · exact absurd (List.mem_singleton.mp hj) c'
          · exact absurd (List.mem_singleton.mp hk) c
    · refine .inr ⟨n, List.mem_append.mpr (.inr (List.mem_singleton.mpr rfl)), hpos, ?_⟩
      rw [getD_set _ _ _ _ hl, if_pos rfl]
theorem laid_all {ps : List Part} (hp : ∀ p ∈ ps, PtOk p) : ∀ (os : List Nat), os.Nodup → (∀ n ∈ os, n < ps.length) → Laid ps os (laidF ps os) := by
  intro os
  have : ∀ (m : Nat) (os : List Nat), os.length = m → os.Nodup → (∀ n ∈ os, n < ps.length) → Laid ps os (laidF ps os) := by
    intro m
    induction m with
    | zero =>
      intro os hl _ _
      rw [List.length_eq_zero_iff.mp hl]
      exact laid_nil ps hp
    | succ m ih =>
      intro os hl nd hb
      have hne : os ≠ [] := fun z => by rw [z] at hl; cases hl
      have es := List.dropLast_concat_getLast hne
      rw [← es] at nd hb ⊢
      have nd' := List.nodup_append.mp nd
      rw [laidF_snoc]
      refine laid_step hp (ih _ ?_ nd'.1 fun k hk => hb k (List.mem_append.mpr (.inl hk))) (hb _ (List.mem_append.mpr (.inr (List.mem_singleton.mpr rfl)))) fun z => ?_
      · rw [List.length_dropLast, hl]; rfl
      · exact nd'.2.2 _ z _ (List.mem_singleton.mpr rfl) rfl
  exact this os.length os rfl
theorem laid_bound {ps : List Part} (hp : ∀ p ∈ ps, PtOk p) : ∀ (os : List Nat), 0 ≤ (laidF ps os).2 ∧ (laidF ps os).2 ≤ 4160 * os.length := by
  intro os
  have : ∀ (os : List Nat) (st : List Int × Int) (b : Int), 0 ≤ st.2 → st.2 ≤ b → 0 ≤ (os.foldl (step ps) st).2 ∧ (os.foldl (step ps) st).2 ≤ b + 4160 * os.length := by
    intro os
    induction os with
    | nil => intro st b h0 h1; exact ⟨h0, by simpa using h1⟩
    | cons o os ih =>
      intro st b h0 h1
      rw [List.foldl_cons]
      have ok := pt_ok hp o
      have ha := ok.2.2.pos
      have hg := rup_ge (e := st.2) ok.2.2
      have hl := rup_lt (e := st.2) ok.2.2
      have hs : 0 ≤ (step ps st o).2 ∧ (step ps st o).2 ≤ b + 4160 := by
        rw [step_end]
        unfold lay
        have := ok.1
        have := ok.2.1
        by_cases hz : (pt ps o).1 = 0
        · rw [if_pos hz]; omega
        · rw [if_neg hz]; omega
      obtain ⟨a1, a2⟩ := ih _ (b + 4160) hs.1 hs.2
      refine ⟨a1, ?_⟩
      rw [List.length_cons]
      omega
  have := this os (List.replicate ps.length 0, 0) 0 (by simp) (by simp)
  refine ⟨this.1, ?_⟩
  have h2 := this.2
  unfold laidF
  omega
end K3
namespace K3
/-! ### by falling align -/
def ofAl (ps : List Part) (n : Nat) (z : Int) : List Nat := (List.range n).filter fun k => decide ((pt ps k).2 = z)
theorem ofAl_succ (ps : List Part) (n : Nat) (z : Int) : ofAl ps (n + 1) z = if (pt ps n).2 = z then ofAl ps n z ++ [n] else ofAl ps n z := by
  unfold ofAl
  rw [List.range_succ, List.filter_append]
  by_cases c : (pt ps n).2 = z
  · rw [if_pos c]; simp [c]
  · rw [if_neg c]; simp [c]
theorem ofAl_len (ps : List Part) (n : Nat) (z : Int) : (ofAl ps n z).length ≤ n := by
  refine Nat.le_trans (List.length_filter_le _ _) ?_
  rw [List.length_range]
  exact Nat.le_refl _
def als : List Int := [64, 32, 16, 8, 1]
def fallF (ps : List Part) : List Nat := als.flatMap (ofAl ps ps.length)
theorem fall_len (ps : List Part) (i : Nat) : ((als.take i).flatMap (ofAl ps ps.length)).length ≤ i * ps.length := by
  rw [List.length_flatMap]
  have : ∀ l : List Int, (l.map fun z => (ofAl ps ps.length z).length).sum ≤ l.length * ps.length := fun l => by
    induction l with
    | nil => simp
    | cons z l ih =>
      have := ofAl_len ps ps.length z
      rw [List.map_cons, List.sum_cons, List.length_cons, Nat.succ_mul]
      omega
  refine Nat.le_trans (this _) (Nat.mul_le_mul_right _ ?_)
  rw [List.length_take]
  omega
theorem al_dvd {m n x : Int} (hm : AlOk m) (hn : AlOk n) (h : m ≤ n) (z : x % n = 0) : x % m = 0 := by
  rcases hm with rfl | rfl | rfl | rfl | rfl <;> rcases hn with rfl | rfl | rfl | rfl | rfl <;> omega
def upS (p : Part) : Int := rup p.1 p.2
theorem laid_le {ps : List Part} (hp : ∀ p ∈ ps, PtOk p) : ∀ (os : List Nat) (st : List Int × Int) (S : Int), st.2 ≤ S → (∀ k ∈ os, S % (pt ps k).2 = 0) → os.Pairwise (fun k j => (pt ps j).2 ≤ (pt ps k).2) → (os.foldl (step ps) st).2 ≤ S + (os.map fun k => upS (pt ps k)).sum
  | [], st, S, h, _, _ => by simp; exact h
  | k :: os, st, S, h, hz, hf => by
    have hk := pt_ok hp k
    have hf' := List.pairwise_cons.mp hf
    have u1 : (pt ps k).1 ≤ upS (pt ps k) := rup_ge hk.2.2
    have u2 : upS (pt ps k) % (pt ps k).2 = 0 := rup_mod hk.2.2
    have r := laid_le hp os (step ps st k) (S + upS (pt ps k)) (by
      rw [step_end]
      unfold lay
      by_cases c : (pt ps k).1 = 0
      · rw [if_pos c]
        omega
      · rw [if_neg c]
        have a := rup_mono (m := (pt ps k).2) hk.2.2 h
        rw [rup_fix hk.2.2 (hz k List.mem_cons_self)] at a
        omega) (fun j hj => by
      have hj2 := pt_ok hp j
      have a := hz j (List.mem_cons_of_mem _ hj)
      have b := al_dvd hj2.2.2 hk.2.2 (hf'.1 j hj) u2
      exact Int.emod_eq_zero_of_dvd (Int.dvd_add (Int.dvd_of_emod_eq_zero a) (Int.dvd_of_emod_eq_zero b))) hf'.2
    rw [List.foldl_cons, List.map_cons, List.sum_cons]
    omega
theorem mem_ofAl {ps : List Part} {n k : Nat} {z : Int} : k ∈ ofAl ps n z ↔ k < n ∧ (pt ps k).2 = z := by
  unfold ofAl
  rw [List.mem_filter, List.mem_range]
  simp
theorem fall_pair (ps : List Part) : (fallF ps).Pairwise fun k j => (pt ps j).2 ≤ (pt ps k).2 := by
  unfold fallF
  have one : ∀ z, (ofAl ps ps.length z).Pairwise fun k j => (pt ps j).2 ≤ (pt ps k).2 := fun z =>
    List.Pairwise.imp_of_mem (R := fun _ _ => True) (fun ha hb _ => by rw [(mem_ofAl.mp ha).2, (mem_ofAl.mp hb).2]; exact Int.le_refl _) (List.pairwise_of_forall fun _ _ => trivial)
  have all : ∀ zs : List Int, zs.Pairwise (fun a b => b ≤ a) → (zs.flatMap (ofAl ps ps.length)).Pairwise fun k j => (pt ps j).2 ≤ (pt ps k).2 := fun zs => by
    induction zs with
    | nil => intro _; simp
    | cons z zs ih =>
      intro h
      have h' := List.pairwise_cons.mp h
      rw [List.flatMap_cons, List.pairwise_append]
      refine ⟨one z, ih h'.2, fun a ha b hb => ?_⟩
      obtain ⟨y, hy, hb'⟩ := List.mem_flatMap.mp hb
      rw [(mem_ofAl.mp ha).2, (mem_ofAl.mp hb').2]
      exact h'.1 y hy
  exact all als (by unfold als; decide)
theorem fall_perm {ps : List Part} (hp : ∀ p ∈ ps, PtOk p) : (fallF ps).Perm (List.range ps.length) := by
  refine (List.perm_ext_iff_of_nodup ?_ List.nodup_range).mpr fun k => ?_
  · unfold fallF
    have all : ∀ zs : List Int, zs.Nodup → (zs.flatMap (ofAl ps ps.length)).Nodup := fun zs => by
      induction zs with
      | nil => intro _; simp
      | cons z zs ih =>
        intro h
        have h' := List.nodup_cons.mp h
        rw [List.flatMap_cons, List.nodup_append]
        refine ⟨List.Nodup.sublist List.filter_sublist List.nodup_range, ih h'.2, fun a ha b hb e => ?_⟩
        subst e
        obtain ⟨y, hy, hb'⟩ := List.mem_flatMap.mp hb
        rw [← (mem_ofAl.mp ha).2, (mem_ofAl.mp hb').2] at h'
        exact h'.1 hy
    exact all als (by unfold als; decide)
  · rw [List.mem_range]
    unfold fallF
    rw [List.mem_flatMap]
    constructor
    · rintro ⟨z, _, h⟩
      exact (mem_ofAl.mp h).1
    · intro h
      refine ⟨(pt ps k).2, ?_, mem_ofAl.mpr ⟨h, rfl⟩⟩
      have := (pt_ok hp k).2.2
      unfold als
      rcases this with e | e | e | e | e <;> rw [e] <;> simp
theorem sum_perm {xs ys : List Int} (h : xs.Perm ys) : xs.sum = ys.sum := by
  induction h with
  | nil => rfl
  | cons x _ ih => rw [List.sum_cons, List.sum_cons, ih]
  | swap x y l => simp only [List.sum_cons]; omega
  | trans _ _ h1 h2 => exact h1.trans h2
theorem range_pts (ps : List Part) : (List.range ps.length).map (pt ps) = ps := by
  refine List.ext_getElem (by simp) fun i h1 h2 => ?_
  rw [List.getElem_map, List.getElem_range]
  exact pt_of (List.getElem?_eq_getElem h2)
/-- laid by falling align, no more bits than the sizes rounded up -/
theorem fall_le {ps : List Part} (hp : ∀ p ∈ ps, PtOk p) : (laidF ps (fallF ps)).2 ≤ (ps.map upS).sum := by
  have h := laid_le hp (fallF ps) (List.replicate ps.length 0, 0) 0 (Int.le_refl _) (fun k _ => Int.zero_emod _) (fall_pair ps)
  have e : ((fallF ps).map fun k => upS (pt ps k)).sum = (ps.map upS).sum := by
    rw [sum_perm ((fall_perm hp).map fun k => upS (pt ps k))]
    have : (List.range ps.length).map (fun k => upS (pt ps k)) = ((List.range ps.length).map (pt ps)).map upS := by simp
    rw [this, range_pts]
  rw [e, Int.zero_add] at h
  exact h
end K3
namespace K3
/-! ### the order by falling align is what a stable sort gives -/
def ltA (ps : List Part) (x y : Nat) : Bool := decide ((pt ps y).2 < (pt ps x).2)
theorem ltA_swo (ps : List Part) : SrtO.Swo (ltA ps) := by
  constructor
  all_goals (intros; simp_all [ltA]; try omega)
theorem eqvA {ps : List Part} {x y : Nat} : SrtO.eqv (ltA ps) x y = decide ((pt ps y).2 = (pt ps x).2) := by
  have : SrtO.eqv (ltA ps) x y = true ↔ (pt ps y).2 = (pt ps x).2 := by
    rw [SrtO.eqv_iff]
    simp [ltA]
    omega
  by_cases c : (pt ps y).2 = (pt ps x).2
  · rw [this.mpr c, decide_eq_true c]
  · rw [Bool.eq_false_iff.mpr fun z => c (this.mp z), decide_eq_false c]
theorem fall_srtd (ps : List Part) : SrtO.Srtd (ltA ps) (fallF ps) :=
  (fall_pair ps).imp fun h => by simp [ltA]; exact h
theorem fall_cls {ps : List Part} (x : Nat) (hx : AlOk (pt ps x).2) : (fallF ps).filter (SrtO.eqv (ltA ps) x) = (List.range ps.length).filter (SrtO.eqv (ltA ps) x) := by
  have e : SrtO.eqv (ltA ps) x = fun y => decide ((pt ps y).2 = (pt ps x).2) := funext fun y => eqvA
  rw [e]
  have yes : (ofAl ps ps.length (pt ps x).2).filter (fun y => decide ((pt ps y).2 = (pt ps x).2)) = (List.range ps.length).filter (fun y => decide ((pt ps y).2 = (pt ps x).2)) := by
    unfold ofAl
    rw [List.filter_filter]
    simp
  have no : ∀ z, z ≠ (pt ps x).2 → (ofAl ps ps.length z).filter (fun y => decide ((pt ps y).2 = (pt ps x).2)) = [] := fun z hz => by
    rw [List.filter_eq_nil_iff]
    intro k hk
    rw [(mem_ofAl.mp hk).2]
    simpa using hz
  unfold fallF als
  simp only [List.flatMap_cons, List.flatMap_nil, List.append_nil, List.filter_append]
  rcases hx with h | h | h | h | h <;> rw [h] at yes no ⊢ <;> rw [yes] <;> simp [no]
theorem fall_stb {ps : List Part} (hp : ∀ p ∈ ps, PtOk p) : SrtO.Stb (ltA ps) (fallF ps) (List.range ps.length) :=
  ⟨fall_perm hp, fun x => fall_cls x (pt_ok hp x).2.2⟩
theorem fall_is {ps : List Part} (hp : ∀ p ∈ ps, PtOk p) {m : List Nat} (hs : SrtO.Srtd (ltA ps) m) (hb : SrtO.Stb (ltA ps) m (List.range ps.length)) : m = fallF ps :=
  SrtO.stb_uniq (ltA_swo ps) hs (fall_srtd ps) ⟨hb.perm.trans (fall_stb hp).perm.symm, fun x => (hb.cls x).trans ((fall_stb hp).cls x).symm⟩
end K3
/-! a lambda of one parameter that captures names, and sorted(range(..), key=that) -/
namespace LK
open PySem PySem.Spec PyProof.Rows L2 LamX
/-- one parameter p of its own; what else it has are captured names and globals -/
structure LamP (sc scope : Scope) (p : Str) : Prop where
  kind : scope.kind = .function
  co : scope.isCoroutine = false
  gen : scope.isGenerator = false
  own : ∀ y ∈ scope.names, y.2 ≠ .cell ∧ (y.2 = .local → y.1 = p)
  par : scope.names.lookup p = some .local
  free : ∀ y ∈ scope.names, y.2 = .free → sc.names.lookup y.1 = some .cell ∨ sc.names.lookup y.1 = some .free
def lamPB (sc scope : Scope) (p : Str) : Bool :=
  decide (scope.kind = .function) && !scope.isCoroutine && !scope.isGenerator && decide (scope.names.lookup p = some .local)
    && scope.names.all fun y => !decide (y.2 = .cell) && (!decide (y.2 = .local) || decide (y.1 = p))
      && (!decide (y.2 = .free) || decide (sc.names.lookup y.1 = some .cell) || decide (sc.names.lookup y.1 = some .free))
theorem lamP_by {sc scope : Scope} {p : Str} (h : lamPB sc scope p = true) : LamP sc scope p := by
  unfold lamPB at h
  simp only [Bool.and_eq_true, Bool.or_eq_true, Bool.not_eq_true', decide_eq_true_eq, decide_eq_false_iff_not, List.all_eq_true] at h
  obtain ⟨⟨⟨⟨h1, h2⟩, h3⟩, h5⟩, h4⟩ := h
  refine ⟨h1, h2, h3, fun y hy => ⟨(h4 y hy).1.1, fun e => ?_⟩, h5, fun y hy e => ?_⟩
  · rcases (h4 y hy).1.2 with z | z
    · exact absurd e z
    · exact z
  · rcases (h4 y hy).2 with (z | z) | z
    · exact absurd e z
    · exact .inl z
    · exact .inr z
theorem LamP.has {X : Cx} {scope : Scope} {p : Str} (L : LamP X.env.scope scope p) (ok : X.Ok) (y : Str × NameKind) (hy : y ∈ scope.names) (e : y.2 = .free) : ∃ c, X.env.cells.lookup y.1 = some c :=
  ok.has _ (L.free y hy e)
/-- the context of its body, entered at s by a call from the frames outer -/
def lamCxP (X : Cx) (A : Around) (s : Shared) (H : Hp) (p : Str) (scope : Scope) (f c' : Addr) : Cx where
  prog := X.prog
  w := X.w
  K := X.K
  mg := X.mg
  base := X.base
  A := A.deeper (lamEnv X scope s.heap.objs.size f c')
  N := p :: X.N
  s_0 := s
  H_0 := H
  env := lamEnv X scope s.heap.objs.size f c'
  outer := X.stack
  stack := lamEnv X scope s.heap.objs.size f c' :: X.stack
  ex := []
  fn := fun _ => false
  calm := true
  pn := []
  xe := fun _ _ => False
section
variable {X : Cx} {pins : List (Addr × Obj)} {σ : L2.St} {H : Hp} {s : Shared}
theorem lam_startP {A : Around} {p : Str} {scope : Scope} {f c' : Addr} {h₁ : Heap} {tk : Nat} {v : V} {u : Value} (I : Inv X pins σ H s) (L : LamP X.env.scope scope p) (e0 : Env0 X.prog X.w X.K X.mg X.base A X.stack s H) (hd : A.handled = none)
    (hp : p ∉ X.N) (r : RelV v u) (hns : h₁.Ns s.heap.objs.size fun y => [(p, u)].reverse.lookup y) (kp : ∀ b o, s.heap.get? b = some o → h₁.get? b = some o) :
    Inv (lamCxP X A s H p scope f c') [] (some v :: σ) H { s with heap := h₁, toks := tk } := by
  have hfree := L.has I.ok
  have cm : ∀ {y c}, (cloFrom X.env.cells scope.names []).lookup y = some c → X.env.cells.lookup y = some c := fun {y c} e => by
    rcases cloFrom_mem (PySem.mem_of_lookup e) with z | ⟨h1, h2⟩
    · cases z
    · obtain ⟨c1, hc⟩ := hfree _ h1 rfl
      replace hc : X.env.cells.lookup y = some c1 := hc
      rw [hc] at h2
      rw [h2]
      exact hc
  have look : ∀ {y}, scope.names.lookup y = some .free → ∃ c, (cloFrom X.env.cells scope.names []).lookup y = some c := fun {y} hl =>
    mem_lookup (cloFrom_has (cells := X.env.cells) (acc := []) (show (y, NameKind.free) ∈ scope.names from PySem.mem_of_lookup hl))
  have noA : ∀ b : Addr, b ∉ (lamCxP X A s H p scope f c').ex := fun b z => absurd (show b ∈ ([] : List Addr) from z) (by simp)
  refine ⟨⟨e0.mod, L.kind, rfl, rfl, Nat.le_refl _, fun y z c e1 e2 => I.ok.inj y z c (cm e1) (cm e2), fun y hy => ?_, fun y c z _ => (nomatch (show false = true from z)), fun _ => hd, Around.frames_deeper e0.frames, .inr ⟨rfl, rfl⟩, fun b z => absurd z (noA b), e0.bs, e0.bsz,
      fun b _ _ => noA b, fun b z => absurd z (noA b), e0.funs, e0.frf⟩,
    rfl, e0.bare, Un.kept kp, ⟨_, hns, fun i y w e1 e2 e3 => ?_⟩, fun y c e => ?_, e0.hok.fresh (Nat.le_refl _), fun y c e => I.freeC y c (cm e), fun q hq => absurd (show q ∈ ([] : List (Addr × Obj)) ++ [] from hq) (by simp), e0.hok.kept kp,
    by show σ.length + 1 = X.N.length + 1; rw [I.len]⟩
  · have hy' : scope.names.lookup y = some .cell ∨ scope.names.lookup y = some .free := hy
    rcases hy' with z | z
    · exact absurd rfl (L.own _ (PySem.mem_of_lookup z)).1
    · exact look z
  · have e3' : Vis scope y := e3
    cases i with
    | zero =>
      obtain rfl : p = y := Option.some.inj e1
      obtain rfl : v = w := Option.some.inj (Option.some.inj e2)
      refine ⟨u, r, .inl ⟨L.par, ?_⟩⟩
      show List.lookup p [(p, u)] = some u
      simp
    | succ j =>
      have e1' : X.N[j]? = some y := e1
      have e2' : σ[j]? = some (some w) := e2
      have hny : y ≠ p := fun z => hp (z ▸ List.mem_of_getElem? e1')
      have k : scope.names.lookup y = some .free := by
        rcases e3' with k | k | k
        · exact absurd ((L.own _ (PySem.mem_of_lookup k)).2 rfl) hny
        · exact absurd rfl (L.own _ (PySem.mem_of_lookup k)).1
        · exact k
      obtain ⟨m, hn, hl⟩ := I.loc
      have hfr := L.free _ (PySem.mem_of_lookup k) rfl
      obtain ⟨w', rw', q⟩ := hl j y w e1' e2' (.inr hfr)
      obtain ⟨c2, h2⟩ := look k
      refine ⟨w', rw', .inr ⟨.inr k, c2, h2, ?_⟩⟩
      rcases q with ⟨k', _⟩ | ⟨_, c3, e', o, ho, hd'⟩
      · replace k' : X.env.scope.names.lookup y = some .local := k'
        rcases hfr with z | z <;> rw [show X.env.scope.names.lookup y = _ from z] at k' <;> cases k'
      · rw [cm h2] at e'
        cases e'
        exact ⟨o, kp _ _ ho, hd'⟩
  · obtain ⟨w', o, ho, hd'⟩ := I.cell y c (cm e)
    exact ⟨w', o, kp _ _ ho, hd'⟩
/-- the end of such a call: no exception -/
def LR (X : Cx) (H : Hp) (s : Shared) (Q : VK) (r : Result) (s' : Shared) : Prop :=
  match r with
  | .ok (.ret u) => CE X.stack X.prog X.w H s Q u s'
  | _ => False
theorem lam_run {A : Around} {p : Str} {params : Arguments} {body : Expr} {scope : Scope} {f c' : Addr} {pm ctv : Value} {v : V} {u : Value} {tb : TE} {Q : VK} {k : Nat} (I : Inv X pins σ H s) (L : LamP X.env.scope scope p)
    (hf : s.heap.get? f = some (PySem.W.kla_obj "<lambda>" (X.env.qual ++ "<lambda>") params body scope (cloFrom X.env.cells scope.names []) pm c' ctv)) (hco : H c' = some (CodeO c' (X.env.qual ++ "<lambda>")))
    (hbind : bindArgs (PySem.W.kla_fn "<lambda>" (X.env.qual ++ "<lambda>") params body scope (cloFrom X.env.cells scope.names []) pm (.ref c') ctv) ⟨[u], []⟩ = pure [(p, u)])
    (hp : p ∉ X.N) (r : RelV v u) (hr : Room (k + 1) A) (e0 : Env0 X.prog X.w X.K X.mg X.base A X.stack s H) (hbody : Room k (A.deeper (lamEnv X scope s.heap.objs.size f c')) → PE (lamCxP X A s H p scope f c') body tb) (ht : tb (some v :: σ) H Q) :
    codeAny (model X.prog X.w) A (.call (.ref f) ⟨[u], []⟩) (LR X H s Q) s := by
  obtain ⟨⟨oc, vs, t, hoc, hdc, hvc⟩, _, _⟩ := I.hok c' _ hco
  refine PySem.W.kla_callFunE hr.depth hf rfl L.co L.gen rfl ⟨c', oc, vs, t, rfl, hoc, hdc, hvc⟩ ?_
  rw [hbind]
  refine wpAny_pure (wpAny_newFunctionEnv (fun y hy => (L.own y hy).1) (fun y hy => by rw [List.mem_singleton.mp hy]; exact L.par) (fun h₁ hns hsb => ⟨I.nolimit.fresh _ hsb, ?_⟩) L.kind)
  show codeAny _ _ (.expr body (lamEnv X scope s.heap.objs.size f c')) _ _
  have kp : ∀ b o, s.heap.get? b = some o → h₁.get? b = some o := fun b o e => hsb.extBut b o (Nat.ne_of_lt (Heap.lt_size e)) (Heap.get?_push_of_some _ e)
  have J := lam_startP (f := f) (c' := c') (tk := s.toks + [(p, u)].length) I L e0 hr.hd hp r hns kp
  refine PySem.W.kla_codeExpr (wpAny_mono ((hbody (hr.deeper _)).run [] _ _ H Q J ht) (fun w s' hq => ?_) fun e s' hq => (show False from hq).elim)
  obtain ⟨w', H', J', rv, q⟩ := hq
  exact ⟨w', H', J'.os, J'.bare, J'.base, J'.hok, rv, q⟩
end
end LK
namespace LK
open PySem PySem.Spec PyProof.Rows L2 LamX
section
variable {P : Program} {w : World} {H : Hp} {h h' : Heap} {fs ex : List Addr}
/-- an object that is not tracked is written -/
theorem hok_but (x : HOk P w H h) {e : Addr} (he : H e = none) (k : ∀ b u, b ≠ e → h.get? b = some u → h'.get? b = some u) : HOk P w H h' := fun b o q =>
  (x b o q).stay (fun c v hc r => k c v (fun z => by
    subst z
    rcases hc with hc | hc
    · rw [hc, q] at he; cases he
    · rw [hc] at he; cases he) r) (fun _ r => r) fun _ _ r => r
/-- an object newer than the first heap is written -/
theorem un_but {h0 : Heap} (u : Un fs [] H H h0 h) {e : Addr} (he : h0.objs.size ≤ e) (k : ∀ b v, b ≠ e → h.get? b = some v → h'.get? b = some v) (ke : ∀ v, h.get? e = some v → ∃ v', h'.get? e = some v') : Un fs [] H H h0 h' := by
  have ne : ∀ b o, h0.get? b = some o → b ≠ e := fun b o q z => by
    rw [z] at q
    exact Nat.lt_irrefl _ (Nat.lt_of_lt_of_le (Heap.lt_size q) he)
  refine ⟨fun b o q n hb hx => k _ _ (ne b o q) (u.keep b o q n hb hx), fun b o q n hb hx => ?_, u.free, fun b o q hx => ?_, u.tups, u.frzs, u.tbls⟩
  · obtain ⟨sl, z⟩ := u.slot b o q n hb hx
    exact ⟨sl, k _ _ (ne b o q) z⟩
  · obtain ⟨o', z⟩ := u.there b o q hx
    exact ⟨o', k _ _ (ne b o q) z⟩
end
section
variable {X : Cx} {pins : List (Addr × Obj)} {σ : L2.St} {H : Hp} {s0 : Shared}
theorem not_fr (I : Inv X pins σ H s0) {b : Addr} (hb : s0.heap.objs.size ≤ b) : b ∉ frs X.stack := fun z => by
  rcases List.mem_cons.mp (I.stkSub _ z) with e | e
  · have h1 := I.lt
    rw [← e] at h1
    exact Nat.lt_irrefl _ (Nat.lt_of_lt_of_le h1 hb)
  · exact I.nofs hb e
/-- what stays of the state s0 through the sort -/
structure Mid (X : Cx) (H : Hp) (s0 s : Shared) : Prop where
  os : s.os = s0.os
  bare : AllBare s.gens
  un : Un (frs X.stack) [] H H s0.heap s.heap
  hok : HOk X.prog X.w H s.heap
theorem Mid.inv {s : Shared} (m : Mid X H s0 s) (I : Inv X pins σ H s0) : Inv X pins σ H s := I.call' (ch := []) m.os m.un m.hok m.bare fun b z => absurd z (by simp)
theorem Mid.kept {s : Shared} (m : Mid X H s0 s) {h' : Heap} {t' : Nat} (k : ∀ b u, s.heap.get? b = some u → h'.get? b = some u) : Mid X H s0 { s with heap := h', toks := t' } :=
  ⟨m.os, m.bare, m.un.trans (Un.kept k), m.hok.kept k⟩
theorem Mid.but {s : Shared} (m : Mid X H s0 s) (I : Inv X pins σ H s0) {h' : Heap} {t' : Nat} {e : Addr} (he : s0.heap.objs.size ≤ e) (k : ∀ b v, b ≠ e → s.heap.get? b = some v → h'.get? b = some v) (ke : ∃ v', h'.get? e = some v') : Mid X H s0 { s with heap := h', toks := t' } :=
  ⟨m.os, m.bare, un_but m.un he k (fun _ _ => ke), hok_but m.hok (I.hok.fresh he) k⟩
theorem upd_other {h : Heap} {e : Addr} {f : Array Value → Array Value} : ∀ b v, b ≠ e → h.get? b = some v → (h.update e (Obj.mapSeq f)).get? b = some v := fun b v hb q => (Heap.get?_update_ne _ _ _ _ hb).trans q
/-- list.sort(key=f) of the new list a, f a lambda whose calls tell ints and change nothing that is tracked -/
theorem lam_sort {A : Around} {f a : Addr} {fo : Obj} {vs : List Value} {kz : List Int} {n : Nat} {R : PySem.Fin → Shared → Prop} {E : Value → Shared → Prop} {s1 : Shared} (I0 : Inv X pins σ H s0) (hf0 : s0.heap.get? f = some fo) (hfn : H f = none) (hfr : f ∉ frs X.stack)
    (hlen : kz.length = vs.length) (hz : vs.length < sizeLine)
    (hcall : ∀ (i : Nat) (u : Value) (k : Int) (s : Shared), vs[i]? = some u → kz[i]? = some k → Inv X pins σ H s → s.heap.get? f = some fo →
      wpAny (model X.prog X.w) A (call (.ref f) [u]) (fun w s' => CE X.stack X.prog X.w H s (fun v H' => v = .int k ∧ H' = H) w s') (fun _ _ => False) s)
    (m1 : Mid X H s0 s1) (hia : s0.heap.objs.size ≤ a) (hoA : s1.heap.get? a = some (seqObj "list" vs.toArray n))
    (fin : ∀ (s' : Shared) (keys : List Value) (xs : List Keyed) (e : Nat), Mid X H s0 s' → IntsAre keys kz → SrtO.Srtd (SrtO.lt2 SrtO.ltIv) xs → SrtO.Stb (SrtO.lt2 SrtO.ltIv) xs (keys.zip vs) →
      s'.heap.get? a = some (seqObj "list" (xs.map (·.2)).toArray e) → R (.done (.ret .none)) s') :
    wpAny (model X.prog X.w) A (ksk_tree a (.ref f) false) R E s1 := by
  have hal : a < s1.heap.objs.size := Heap.lt_size hoA
  obtain ⟨e1, hoB⟩ : ∃ e1, (s1.heap.update a (Obj.mapSeq fun _ => (#[] : Array Value))).get? a = some (seqObj "list" #[] e1) := ⟨_, get?_update_seq hoA fun _ => #[]⟩
  unfold ksk_tree
  refine wpAny_bind (listItems_at hoA rfl ?_)
  refine wpAny_bind (listUpdate_at hoA rfl ?_ (by rw [List.size_toArray]; omega) (Nat.zero_le _))
  refine wpAny_bind (seqEpoch_at hoB rfl ?_)
  refine wpAny_bind (wpAny_newTuple ?_ (by show vs.length ≤ _; omega))
  refine wpAny_bind (wpAny_newList ?_ (Nat.zero_le _))
  refine wpAny_holding ?_
  have hkS : ((s1.heap.update a (Obj.mapSeq fun _ => (#[] : Array Value))).push (seqObj "tuple" vs.toArray 0)).objs.size = s1.heap.objs.size + 1 := by rw [size_push', Heap.size_update]
  generalize hk0 : ((s1.heap.update a (Obj.mapSeq fun _ => (#[] : Array Value))).push (seqObj "tuple" vs.toArray 0)).objs.size = kS at *
  have m2 : Mid X H s0 { s1 with heap := ((s1.heap.update a (Obj.mapSeq fun _ => (#[] : Array Value))).push (seqObj "tuple" vs.toArray 0)).push (seqObj "list" #[] 0) } :=
    (m1.but (t' := s1.toks) I0 hia upd_other ⟨_, hoB⟩).kept (t' := s1.toks) fun b u q => Heap.get?_push_of_some _ (Heap.get?_push_of_some _ q)
  have hkl : a < kS := Nat.lt_of_lt_of_le hal (by rw [hkS]; exact Nat.le_succ _)
  have hkk : s0.heap.objs.size ≤ kS := Nat.le_trans hia (Nat.le_of_lt hkl)
  have hka : kS ≠ a := Nat.ne_of_gt hkl
  have k2 : (((s1.heap.update a (Obj.mapSeq fun _ => (#[] : Array Value))).push (seqObj "tuple" vs.toArray 0)).push (seqObj "list" #[] 0)).get? kS = some (seqObj "list" #[] 0) := by
    rw [← hk0]; exact Heap.get?_push_size _ rfl
  have a2 : (((s1.heap.update a (Obj.mapSeq fun _ => (#[] : Array Value))).push (seqObj "tuple" vs.toArray 0)).push (seqObj "list" #[] 0)).get? a = some (seqObj "list" #[] e1) :=
    Heap.get?_push_of_some _ (Heap.get?_push_of_some _ hoB)
  have fnoA := not_fr I0 hia
  have fnoK := not_fr I0 hkk
  have hnA : H a = none := I0.hok.fresh hia
  have hnK : H kS = none := I0.hok.fresh hkk
  show wpAny (model X.prog X.w) A (ksk_rest a (.ref f) false vs.toArray e1 (.ref kS)) R E _
  generalize hs2 : ({ s1 with heap := ((s1.heap.update a (Obj.mapSeq fun _ => (#[] : Array Value))).push (seqObj "tuple" vs.toArray 0)).push (seqObj "list" #[] 0) } : Shared) = s2 at m2 ⊢
  have k2' : s2.heap.get? kS = some (seqObj "list" #[] 0) := by rw [← hs2]; exact k2
  have a2' : s2.heap.get? a = some (seqObj "list" #[] e1) := by rw [← hs2]; exact a2
  unfold ksk_rest
  refine wpAny_bind (wpAny_rule ?_)
  first
    | rw [List.forIn_toArray]
    | (rw [← Array.forIn_toList]; simp only [List.toList_toArray])
  refine wpAny_bind (ksk_fold (fun i s' => ∃ kA e, Mid X H s0 s' ∧ s'.heap.get? kS = some (seqObj "list" kA e) ∧ s'.heap.get? a = some (seqObj "list" #[] e1) ∧ IntsAre kA.toList (kz.take i)) vs 0 s2
    ⟨#[], 0, m2, k2', a2', by simpa using IntsAre.nil⟩ ?step ?done)
  case step =>
    rintro j x s' hx ⟨kA, e, m', hk', ha', hI⟩
    simp only [Nat.zero_add] at hI ⊢
    have hj : j < vs.length := (List.getElem?_eq_some_iff.mp hx).1
    obtain ⟨k, hkj⟩ : ∃ k, kz[j]? = some k := ⟨_, List.getElem?_eq_getElem (by omega)⟩
    have hsz : kA.size ≤ vs.length := by
      have h1 := hI.length
      rw [Array.length_toList, List.length_take] at h1
      omega
    have hf' : s'.heap.get? f = some fo := m'.un.keep f fo hf0 hfn hfr (by simp)
    refine wpAny_bind (wpAny_attempt (wpAny_mono (hcall j x k s' hx hkj (m'.inv I0) hf') (fun v s'' he => ?_) fun _ _ hF => hF.elim))
    obtain ⟨vv, H', os, bare, un, hok, rv, ev, eH⟩ := he
    subst ev
    obtain ⟨t2, ev⟩ := rv
    subst ev
    rw [eH] at un hok
    have m'' : Mid X H s0 s'' := ⟨os.trans m'.os, bare, m'.un.trans un, hok⟩
    have hk'' : s''.heap.get? kS = some (seqObj "list" kA e) := un.keep kS _ hk' hnK fnoK (by simp)
    have ha'' : s''.heap.get? a = some (seqObj "list" #[] e1) := un.keep a _ ha' hnA fnoA (by simp)
    obtain ⟨c2, hc2⟩ : ∃ c2, (s''.heap.update kS (Obj.mapSeq (·.push (.int k t2)))).get? kS = some (seqObj "list" (kA.push (.int k t2)) c2) := ⟨_, get?_update_seq hk'' (·.push (.int k t2))⟩
    have ek : kz.take (j + 1) = kz.take j ++ [k] := by rw [List.take_add_one, hkj]; simp
    have ea : (kA.push (Value.int k t2)).toList = kA.toList ++ [Value.int k t2] := by simp
    try dsimp only
    refine wpAny_bind (listUpdate_at hk'' rfl ?_ (by omega) (Nat.le_trans (Nat.le_of_eq (Array.size_push ..)) (by omega)))
    refine wpAny_pure ⟨rfl, kA.push (.int k t2), c2, m''.but (t' := s''.toks) I0 hkk upd_other ⟨_, hc2⟩, hc2, (Heap.get?_update_ne _ _ _ _ hka.symm).trans ha'', by rw [ea, ek]; exact ksk_snoc hI⟩
  case done =>
    rintro s' ⟨kA, e, m', hk', ha', hI⟩
    have hI' : IntsAre kA.toList kz := by
      have e3 : kz.take (0 + vs.length) = kz := List.take_of_length_le (by omega)
      rw [e3] at hI
      exact hI
    have hsz : kA.size = vs.length := by
      have h1 := hI'.length
      rw [Array.length_toList] at h1
      omega
    have hzs : (kA.zip vs.toArray).size = vs.length := by rw [Array.size_zip, hsz, List.size_toArray, Nat.min_self]
    try dsimp only
    refine wpAny_bind (listItems_at hk' rfl ?_)
    unfold ksk_end
    try dsimp only
    -- the end, once the pairs are sorted
    have tail : ∀ st : SortSt, failedOf st = none → SrtO.Srtd (SrtO.lt2 SrtO.ltIv) (arrOf st).toList → SrtO.Stb (SrtO.lt2 SrtO.ltIv) (arrOf st).toList (kA.zip vs.toArray).toList → wpAny (model X.prog X.w) A (ksk_tail a false e1 (.ref kS) st) R E s' := by
      intro st hfl h1 h2
      have hl2 : (arrOf st).size = vs.length := by
        have := h2.perm.length_eq
        rw [Array.length_toList, Array.length_toList, hzs] at this
        exact this
      unfold ksk_tail
      try dsimp only
      obtain ⟨c3, hc3⟩ : ∃ c3, (s'.heap.update kS (Obj.mapSeq fun _ => (#[] : Array Value))).get? kS = some (seqObj "list" #[] c3) := ⟨_, get?_update_seq hk' fun _ => #[]⟩
      have haU : (s'.heap.update kS (Obj.mapSeq fun _ => (#[] : Array Value))).get? a = some (seqObj "list" #[] e1) := (Heap.get?_update_ne _ _ _ _ hka.symm).trans ha'
      refine wpAny_bind (listUpdate_at hk' rfl ?_ (by omega) (Nat.zero_le _))
      refine wpAny_bind (wpAny_letGo ?_)
      refine wpAny_bind (seqEpoch_at haU rfl ?_)
      obtain ⟨c4, hc4⟩ : ∃ c4, ((s'.heap.update kS (Obj.mapSeq fun _ => (#[] : Array Value))).update a (Obj.mapSeq fun _ => (arrOf st).map (·.2))).get? a = some (seqObj "list" ((arrOf st).map (·.2)) c4) :=
        ⟨_, get?_update_seq haU fun _ => (arrOf st).map (·.2)⟩
      refine wpAny_bind (listUpdate_at haU rfl ?_ (Nat.zero_le _) (by show ((arrOf st).map (·.2)).size ≤ _; rw [Array.size_map]; omega))
      rw [hfl]
      simp only [bne_self_eq_false, Bool.false_eq_true, if_false]
      have mA : Mid X H s0 { s' with heap := s'.heap.update kS (Obj.mapSeq fun _ => (#[] : Array Value)) } := m'.but (t' := s'.toks) I0 hkk upd_other ⟨_, hc3⟩
      have mB := mA.but (t' := s'.toks) I0 hia (upd_other (f := fun _ => (arrOf st).map (·.2))) ⟨_, hc4⟩
      refine wpAny_pure (fin _ kA.toList (arrOf st).toList c4 mB hI' h1 (by rw [← ksk_zip]; exact h2) ?_)
      have e5 : ((arrOf st).toList.map (·.2)).toArray = (arrOf st).map (·.2) := by
        rw [← Array.toList_map, Array.toArray_toList]
      rw [e5]
      exact hc4
    by_cases h2 : vs.toArray.size < 2
    · simp only [if_pos h2, Bool.false_eq_true, if_false]
      refine wpAny_bind (wpAny_pure ?_)
      rw [StateT.run_pure]
      refine wpAny_bind (wpAny_pure ?_)
      try dsimp only
      refine tail (SortSt.mk' general' (kA.zip vs.toArray) #[] 7 none) rfl ?_ (SrtO.Stb.refl _)
      show SrtO.Srtd _ (kA.zip vs.toArray).toList
      rw [List.size_toArray] at h2
      have hl : (kA.zip vs.toArray).toList.length < 2 := by rw [Array.length_toList, hzs]; exact h2
      match hq : (kA.zip vs.toArray).toList, hl with
      | [], _ => exact List.Pairwise.nil
      | [v], _ => exact List.pairwise_singleton _ _
      | _ :: _ :: l, h => exact absurd h (by rw [List.length_cons, List.length_cons]; omega)
    · simp only [if_neg h2, Bool.false_eq_true, if_false]
      rw [List.size_toArray] at h2
      rw [ksk_kind hI' (by rw [hsz]; omega)]
      refine wpAny_bind (wpAny_pure ?_)
      refine wpAny_bind (wpAny_mono (SrtO.wpS_sortO (st0 := SortSt.mk' oneType' (kA.zip vs.toArray) #[] 7 none) (P := fun p => p.1 ∈ kA.toList)
        (Q := fun _ st' => SrtO.Srtd (SrtO.lt2 SrtO.ltIv) (arrOf st').toList ∧ SrtO.Stb (SrtO.lt2 SrtO.ltIv) (arrOf st').toList (kA.zip vs.toArray).toList ∧ failedOf st' = none)
        (SrtO.swo2 SrtO.swo_int) (SrtO.int_cmp hI') rfl (fun p hp => ?_) rfl rfl fun st' b1 b2 b3 => ⟨b1, b2, b3⟩) ?_ fun _ _ e => e)
      · have hp' : p ∈ (kA.zip vs.toArray).toList := hp
        rw [ksk_zip] at hp'
        exact (List.of_mem_zip hp').1
      · rintro ⟨⟨⟩, st'⟩ s'' ⟨rfl, h3, h4, h5⟩
        try dsimp only
        exact tail st' h5 h3 h4
end
end LK
namespace LK
open PySem PySem.Spec PyProof.Rows L2 LamX
/-! ### the order over other things -/
theorem stb_congr {α : Type} {lt lt' : α → α → Bool} (O : SrtO.Swo lt') {l m : List α} (h : SrtO.Stb lt l m) (e : ∀ x ∈ m, ∀ y ∈ m, lt' x y = lt x y) : SrtO.Stb lt' l m := by
  refine ⟨h.perm, fun x => ?_⟩
  have hml : ∀ y, y ∈ l ↔ y ∈ m := fun y => h.perm.mem_iff
  by_cases ex : ∃ u, u ∈ m ∧ SrtO.eqv lt' x u = true
  · obtain ⟨u, hu, hq⟩ := ex
    have e1 : ∀ k : List α, (∀ y ∈ k, y ∈ m) → k.filter (SrtO.eqv lt' x) = k.filter (SrtO.eqv lt u) := fun k hk => by
      refine List.filter_congr fun y hy => ?_
      rw [SrtO.eqv_trans O hq]
      unfold SrtO.eqv
      rw [e u hu y (hk y hy), e y (hk y hy) u hu]
    rw [e1 l (fun y hy => (hml y).mp hy), e1 m (fun y hy => hy), h.cls u]
  · have no : ∀ k : List α, (∀ y ∈ k, y ∈ m) → k.filter (SrtO.eqv lt' x) = [] := fun k hk => List.filter_eq_nil_iff.mpr fun u hu q => ex ⟨u, hk u hu, q⟩
    rw [no l (fun y hy => (hml y).mp hy), no m fun y hy => hy]
def ltK (k : Nat → Int) (x y : Nat) : Bool := decide (k x < k y)
theorem ltK_swo (k : Nat → Int) : SrtO.Swo (ltK k) := by
  constructor
  all_goals (intros; simp_all [ltK]; try omega)
theorem ints_at : ∀ {vs : List Value} {ns : List Int} {i : Nat} {v : Value}, IntsAre vs ns → vs[i]? = some v → ∃ z t, ns[i]? = some z ∧ v = .int z t
  | _, _, i, v, .nil, h => by simp at h
  | _, _, 0, v, .cons n t r, h => ⟨n, t, rfl, (Option.some.inj h).symm⟩
  | _, _, i + 1, v, .cons n t r, h => by
    obtain ⟨z, t', h1, h2⟩ := ints_at (i := i) r (by simpa using h)
    exact ⟨z, t', by simpa using h1, h2⟩
/-- the place that a pair stands for -/
def placeOf (p : Keyed) : Nat := (SrtO.iv p.2).toNat
section
variable {n : Nat} {k : Nat → Int} {keys vs : List Value} (hk : IntsAre keys ((List.range n).map k)) (hv : vs.length = n) (hi : ∀ (i : Nat) u, vs[i]? = some u → ∃ t, u = Value.int (i : Int) t)
include hk hv hi
theorem pair_is {p : Keyed} (hp : p ∈ keys.zip vs) : ∃ (i : Nat) (t t' : Tok), i < n ∧ p = (.int (k i) t, .int (i : Int) t') := by
  obtain ⟨i, e⟩ := List.mem_iff_getElem?.mp hp
  rw [List.getElem?_zip_eq_some] at e
  obtain ⟨z, t, e1, e2⟩ := ints_at hk e.1
  obtain ⟨t', e3⟩ := hi i _ e.2
  have hlt : i < n := by
    have := (List.getElem?_eq_some_iff.mp e.2).1
    omega
  rw [List.getElem?_map, List.getElem?_range hlt] at e1
  cases e1
  exact ⟨i, t, t', hlt, by rw [← e2, ← e3]⟩
theorem places_eq : (keys.zip vs).map placeOf = List.range n := by
  have hl : keys.length = n := by
    have := hk.length
    rw [List.length_map, List.length_range] at this
    exact this
  refine List.ext_getElem? fun i => ?_
  rw [List.getElem?_map]
  by_cases c : i < n
  · rw [List.getElem?_range c]
    have e1 : keys[i]? = some keys[i] := List.getElem?_eq_getElem (by omega)
    have e2 : vs[i]? = some vs[i] := List.getElem?_eq_getElem (by omega)
    have e3 : (keys.zip vs)[i]? = some (keys[i], vs[i]) := List.getElem?_zip_eq_some.mpr ⟨e1, e2⟩
    rw [e3]
    obtain ⟨t, e4⟩ := hi i _ e2
    show some (placeOf (keys[i], vs[i])) = some i
    unfold placeOf
    show some (SrtO.iv vs[i]).toNat = some i
    rw [e4]
    rfl
  · rw [List.getElem?_eq_none (by rw [List.length_zip]; omega), List.getElem?_eq_none (by rw [List.length_range]; omega)]
    rfl
theorem out_places {xs : List Keyed} (h1 : SrtO.Srtd (SrtO.lt2 SrtO.ltIv) xs) (h2 : SrtO.Stb (SrtO.lt2 SrtO.ltIv) xs (keys.zip vs)) :
    SrtO.Srtd (ltK k) (xs.map placeOf) ∧ SrtO.Stb (ltK k) (xs.map placeOf) (List.range n) ∧ Vals ((xs.map placeOf).map fun (i : Nat) => V.int (i : Int)) (xs.map (·.2)) := by
  have is : ∀ p ∈ xs, ∃ (i : Nat) (t t' : Tok), i < n ∧ p = (.int (k i) t, .int (i : Int) t') := fun p hp => pair_is hk hv hi (h2.perm.mem_iff.mp hp)
  have agree : ∀ (i j : Nat) (t t' u u' : Tok), ltK k (placeOf (.int (k i) t, .int (i : Int) t')) (placeOf (.int (k j) u, .int (j : Int) u')) = SrtO.lt2 SrtO.ltIv (.int (k i) t, .int (i : Int) t') (.int (k j) u, .int (j : Int) u') := fun i j t t' u u' => rfl
  have O' : SrtO.Swo (fun p q : Keyed => ltK k (placeOf p) (placeOf q)) := ⟨fun x y => (ltK_swo k).asym _ _, fun x y z => (ltK_swo k).tr _ _ _⟩
  have hb : SrtO.Stb (fun p q : Keyed => ltK k (placeOf p) (placeOf q)) xs (keys.zip vs) := stb_congr O' h2 fun x hx y hy => by
    obtain ⟨i, t, t', _, rfl⟩ := pair_is hk hv hi hx
    obtain ⟨j, u, u', _, rfl⟩ := pair_is hk hv hi hy
    exact agree i j t t' u u'
  refine ⟨List.pairwise_map.mpr (h1.imp_of_mem fun {a b} ha hb' h => ?_), ?_, ?_⟩
  · obtain ⟨i, t, t', _, rfl⟩ := is a ha
    obtain ⟨j, u, u', _, rfl⟩ := is b hb'
    rw [agree j i u u' t t']
    exact h
  · rw [← places_eq hk hv hi]
    exact SrtO.Stb.map (ltK_swo k) placeOf hb
  · clear h1 h2 hb
    induction xs with
    | nil => exact .nil
    | cons p r ih =>
      obtain ⟨i, t, t', _, rfl⟩ := is p (List.mem_cons_self ..)
      exact .cons ⟨t', rfl⟩ (ih fun q hq => is q (List.mem_cons_of_mem _ hq))
end
section
variable {X : Cx} {pins : List (Addr × Obj)} {σ : L2.St} {H : Hp} {s0 s : Shared}
/-- the new list is told from now on -/
theorem Mid.tell (m : Mid X H s0 s) (I : Inv X pins σ H s0) {a : Addr} {o : HO} (ha : s0.heap.objs.size ≤ a) (new : ObjOk X.prog X.w (upd H a o) s.heap a o) : Inv X pins σ (upd H a o) s := by
  have hn : H a = none := I.hok.fresh ha
  refine I.call' (ch := []) m.os ⟨m.un.keep, m.un.slot, fun b v q n hx => ?_, m.un.there, fun b xs q => ?_, fun b u v q => ?_, fun b ps q => ?_⟩ (fun b u q => ?_) m.bare fun b z => absurd z (by simp)
  · rw [upd_ne (Nat.ne_of_lt (Nat.lt_of_lt_of_le (Heap.lt_size q) ha))]
    exact m.un.free b v q n hx
  · rw [upd_ne (ne_of_none q hn)]
    exact m.un.tups b xs q
  · rw [upd_ne (ne_of_none q hn)]
    exact m.un.frzs b u v q
  · rw [upd_ne (ne_of_none q hn)]
    exact m.un.tbls b ps q
  · by_cases hb : b = a
    · rw [hb, upd_same] at q
      cases q
      rw [hb]
      exact new
    · rw [upd_ne hb] at q
      exact (m.hok b u q).stay (fun c v _ r => r) (fun c r => by rw [upd_ne (ne_of_none r hn)]; exact r) fun c xs r => by rw [upd_ne (ne_of_none r hn)]; exact r
end
/-- sorted(range(e), key=lambda) -/
def tSortLam (T : List (Addr × Str)) (ta tb : TE) : TE := fun σ H Q => ta σ H fun x H1 => ∃ n : Nat, x = .int (n : Int) ∧ n ≤ 1000 ∧ Tabs T H1 ∧ ∀ H2, ExtN H1 H2 → Tabs T H2 → ∃ k : Nat → Int,
  (∀ i : Nat, i < n → tb (some (.int (i : Int)) :: σ) H2 fun v H' => v = .int (k i) ∧ H' = H2) ∧
  ∀ (m : List Nat) (r : Addr), SrtO.Srtd (ltK k) m → SrtO.Stb (ltK k) m (List.range n) → H2 r = none → Q (.ref r) (upd H2 r (.lst (m.map fun (i : Nat) => V.int (i : Int))))
section
variable {X : Cx} {a : Expr} {ta tb : TE}
theorem pe_sortedLam {T : List (Addr × Str)} {c P : Addr} {params : Arguments} {body : Expr} {scope : Scope} {pn : Str} {k : Nat} {p p2 lpos kpos pos posr : Pos} (hc : X.calm = true) (hg : Gl X "sorted") (hm : X.mg "sorted" = none) (hgr : Gl X "range") (hmr : X.mg "range" = none) (ha : PE X a ta)
    (TB : TabB X.base X.mg c P) (hcode : X.env.code = .ref c) (hmT : (P, X.env.qual ++ "<lambda>") ∈ T) (hu : ∀ q ∈ T, q.1 = P → q.2 = X.env.qual ++ "<lambda>") (hr : Room (k + 3) X.A) (L : LamP X.env.scope scope pn) (hdef : defaultsOf params X.env = ([], []))
    (hbind : ∀ (q : Str) (cl : List (Str × Addr)) (pm cv ctv u : Value), bindArgs (PySem.W.kla_fn "<lambda>" q params body scope cl pm cv ctv) ⟨[u], []⟩ = pure [(pn, u)]) (hp : pn ∉ X.N)
    (hbody : ∀ (A : Around) (s : Shared) (H : Hp) (f c' : Addr), Room k (A.deeper (lamEnv X scope s.heap.objs.size f c')) → PE (lamCxP X A s H pn scope f c') body tb)
    (na : starEach [a] X.env = (false, eval a X.env) :: starEach [] X.env := by rfl) (ne : starEach [Expr.Call (.Name "range" p2) [a] [] posr] X.env = (false, eval (.Call (.Name "range" p2) [a] [] posr) X.env) :: starEach [] X.env := by rfl) :
    PE X (.Call (.Name "sorted" p) [.Call (.Name "range" p2) [a] [] posr] [⟨some "key", .Lambda params body scope lpos, kpos⟩] pos) (tSortLam T ta tb) := by
  refine ⟨fun pins s σ H Q I h => ?_⟩
  refine wpAny_Call_Name_kw (ld_blt I hg hm (show bootBuiltins "sorted" = some (.builtin "sorted") by decide +kernel) ?_ (by decide) (by decide))
  refine PyProof.Rows.callWith_kw (args_cons ?_ ne) ne rfl rfl rfl
  refine Call_ (ld_blt I hgr hmr boot_range (PyProof.Rows.callWith_type1 (one_arg ha I h (fun v s2 x H2 I2 r q => ?_) na) na))
  obtain ⟨n, rfl, hn, hT, q⟩ := q
  obtain ⟨tn, rfl⟩ := r
  refine call_range_1 (args_nil ?_)
  -- the range stands at a new place, and stays there
  have hrN := IsRange.new s2.heap 0 (n : Int) 1 s2.toks tn (s2.toks + 1)
  have kp3 : ∀ b u, s2.heap.get? b = some u → (s2.heap.push { cls := Value.type "range", data := Data.fields #[Value.int 0 s2.toks, Value.int (n : Int) tn, Value.int 1 (s2.toks + 1)] }).get? b = some u := fun b u e => Heap.get?_push_of_some _ e
  generalize s2.heap.push { cls := Value.type "range", data := Data.fields #[Value.int 0 s2.toks, Value.int (n : Int) tn, Value.int 1 (s2.toks + 1)] } = h3 at hrN kp3 ⊢
  refine wpAny_evalAll_cons (wpAny_bind ?_)
  have I3 : Inv X (((s2.heap.objs.size : Addr), { cls := Value.type "range", data := Data.fields #[Value.int 0 s2.toks, Value.int (n : Int) tn, Value.int 1 (s2.toks + 1)] }) :: pins) σ H2 { s2 with heap := h3, toks := s2.toks + 1 + 1 } := by
    have J := I2.kept (t' := s2.toks + 1 + 1) kp3
    refine J.pins_of fun q hq => ?_
    rcases List.mem_cons.mp hq with rfl | hq
    · exact ⟨hrN, I2.hok.fresh (Nat.le_refl _), Nat.ne_of_gt I2.lt, I2.nofs (Nat.le_refl _), fun v z => nomatch z⟩
    · exact J.pin q (List.mem_append_right _ hq)
  refine lam_make2 I3 TB hcode hmT hu hT hdef (L.has I3.ok) fun f c' pm ctv H4 s4 I4 eN T4 hf hfn hfr hco => ?_
  refine wpAny_bind (wpAny_standAt (wpAny_pure (wpAny_evalAll_nil ?_)))
  show wpAny _ _ (call (.builtin "sorted") [.ref s2.heap.objs.size] [(Str.ofString "key", .ref f)]) _ _ s4
  obtain ⟨k0, hkey, hQ⟩ := q H4 eN T4
  have hr4 : IsRange s4.heap s2.heap.objs.size 0 (n : Int) 1 s2.toks tn (s2.toks + 1) := (I4.pin _ (List.mem_append_right _ (List.mem_cons_self ..))).1
  have J4 : Inv X pins σ H4 s4 := I4.pins_of fun q hq => I4.pin q (List.mem_append_right _ (List.mem_cons_of_mem _ hq))
  have hd1 : X.A.in1.handled = none := J4.ok.hd hc
  refine call_function_entry_kw kind_sorted plain_sorted entry_sorted (ksk_s1 _ _) ?_
  unfold Builtin.«sorted»
  refine wpAny_bind (m := checkCount "sorted" 1 1 _) (wpAny_pure ?_)
  refine wpAny_bind (collect_range (n := n) hd1 hr4 (small_one (by omega) (by omega) (by omega) (by omega)) ?_ (by omega) fun h5 tk5 acc k5 hit => ?_)
  · rw [rangeSize_nat]; omega
  have hsz5 : acc.toList.length = n := by rw [Array.length_toList]; exact hit.1
  have hsl : n < sizeLine := by rw [sizeLine_eq]; omega
  refine wpAny_bind (wpAny_newList ?_ (by rw [hsz5]; omega))
  have hoL : (h5.push (seqObj "list" acc.toList.toArray 0)).get? h5.objs.size = some (seqObj "list" acc.toList.toArray 0) := Heap.get?_push_size _ rfl
  have J5 : Inv X pins σ H4 { s4 with heap := h5, toks := tk5 } := J4.kept k5
  have hrest : ∀ (i : Nat) u, acc.toList[i]? = some u → ∃ t, u = Value.int (i : Int) t := fun i u e => by
    obtain ⟨t, z⟩ := hit.2 i u (by rw [← e, Array.getElem?_toList])
    exact ⟨t, by rw [z]; congr 1; omega⟩
  refine wpAny_bind (wpAny_holding (wpAny_call_entry_kw slot_list_sort ⟨_, hoL, rfl⟩ entry_list_sort ?_ (ksk_l1 _ _)))
  rw [ksk_t1]
  refine lam_sort (kz := (List.range n).map k0) (s0 := { s4 with heap := h5, toks := tk5 }) J5 (k5 _ _ hf) hfn hfr (by rw [List.length_map, List.length_range, hsz5]) (by rw [hsz5]; exact hsl) (fun i u kk s6 hu6 hk6 I6 hf6 => ?_) ⟨rfl, J5.bare, Un.kept fun b v e => Heap.get?_push_of_some _ e, J5.hok.kept fun b v e => Heap.get?_push_of_some _ e⟩ (Nat.le_refl _) hoL
    (fun s7 keys xs e7 m7 hI7 h1 h2 ho7 => ⟨_, rfl, ?_⟩)
  · have hi : i < n := by
      have := (List.getElem?_eq_some_iff.mp hu6).1
      omega
    obtain ⟨t, rfl⟩ := hrest i u hu6
    rw [List.getElem?_map, List.getElem?_range hi] at hk6
    obtain rfl : k0 i = kk := Option.some.inj hk6
    have e0 : Env0 X.prog X.w X.K X.mg X.base X.A.in1.in1 X.stack s6 H4 := I6.env0.in1.in1
    refine wpAny_call (codeAny_mono (lam_run (v := .int (i : Int)) I6 L hf6 hco (hbind _ _ _ _ _ _) hp ⟨t, rfl⟩ hr.in1.in1 e0 (fun hr' => hbody _ _ _ _ _ hr') (hkey i hi)) fun r s' hq => ?_)
    cases r with
    | error e => exact (show False from hq).elim
    | ok fl =>
      cases fl with
      | ret u => exact hq
      | next => exact (show False from hq).elim
      | brk => exact (show False from hq).elim
      | cont => exact (show False from hq).elim
  · obtain ⟨o1, o2, o3⟩ := out_places hI7 hsz5 hrest h1 h2
    refine wpAny_pure ⟨_, rfl, .ref h5.objs.size, upd H4 h5.objs.size (.lst ((xs.map placeOf).map fun (i : Nat) => V.int (i : Int))), m7.tell J5 (Nat.le_refl _) ⟨?_, xs.map (·.2), e7, o3, ho7⟩, rfl, hQ _ _ o1 o2 (J5.hok.fresh (Nat.le_refl _))⟩
    rw [List.length_map, List.length_map, h2.perm.length_eq, List.length_zip]
    exact Nat.le_trans (Nat.min_le_right _ _) (by rw [hsz5]; omega)
end
end LK
namespace K3
open PySem PySem.Spec PyProof.Rows L2 K1
def topS (i : Nat) : Stmt := PySem.Challenge.pw_packedforms_k31_falling_order.main.body.getD i (.Pass ⟨0, 0, 0, 0⟩)
end K3
namespace K3
open PySem PySem.Spec PyProof.Rows L2 K1
abbrev s__law_draws : Stmt := topS 7
abbrev nm__law_draws : List Str := ["_law_script", "_law_cells", "_law_cell"]
abbrev pm__law_draws : List Str := ["_law_script"]
theorem sc__law_draws : FnScope nm__law_draws pm__law_draws (defScope s__law_draws) := ⟨rfl, rfl, rfl, by decide +kernel, rfl, by decide +kernel, by decide +kernel⟩
abbrev s__law_next : Stmt := topS 8
abbrev nm__law_next : List Str := ["_law_drawn", "_law_many", "_law_cells", "_law_sofar", "_law_rests", "_law_at", "_law_digit", "_law_primes", "_law_mixed", "_law_more"]
abbrev pm__law_next : List Str := ["_law_drawn", "_law_many"]
theorem sc__law_next : FnScope nm__law_next pm__law_next (defScope s__law_next) := ⟨rfl, rfl, rfl, by decide +kernel, rfl, by decide +kernel, by decide +kernel⟩
section
variable {P : Program} {w : World} {K : PySem.W.Frag} {mg : Str → Option Value} {base : Heap}
def sp__law_next : Sp := fun vs H Q _ => ∃ (dk cl lf : Addr) (B : Nat) (m : Int), vs = [.ref dk, .int m] ∧ Dk H dk cl lf B ∧ B ≤ 2 ^ 40 ∧ 0 < m ∧ m.natAbs.log2 < 9000 ∧
  ∀ (d : Int) (H' : Hp), 0 ≤ d → d < m → Dk H' dk cl lf (B + 1) → KD dk lf H H' → Q (.int d) H'
def sp__law_draws (K : PySem.W.Frag) : Sp := fun vs H Q _ => ∃ (a : Addr) (ns : List Int), vs = [.ref a] ∧ SqL K H a (ns.map V.int) ∧ ns.length ≤ 63 ∧
  ∀ (dk cl lf : Addr) (H' : Hp), Dk H' dk cl lf 0 → Same H H' → H dk = none → H lf = none → Q (.ref dk) H'
theorem primes_at (d : Nat) (h : d < 7) : ∃ p : Int, ([V.int 2147483629, V.int 2147483587, V.int 2147483579, V.int 2147483563, V.int 2147483549, V.int 2147483543, V.int 2147483497] : List V)[d]? = some (.int p) ∧ 0 < p ∧ p ≤ 2147483629 := by
  rcases (show d = 0 ∨ d = 1 ∨ d = 2 ∨ d = 3 ∨ d = 4 ∨ d = 5 ∨ d = 6 by omega) with e | e | e | e | e | e | e <;> subst e <;> exact ⟨_, rfl, by decide, by decide⟩
theorem ok__law_next {f : Addr} {fd : FuncData} (F : Fun K "_law_next" "_law_next" s__law_next f fd) (m_len : mg "len" = none) : FnOk P w K mg base CX0 1 f fd pm__law_next sp__law_next := by
  refine F.ok sc__law_next (fun vs H Q E h => ?_) (fun cdv A outer s H vs Q E hr h => ?_)
  · obtain ⟨dk, cl, lf, B, m, rfl, _⟩ := h
    rfl
  · obtain ⟨dk, cl, lf, B, m, rfl, ⟨⟨cells, lefts, n, e1, e2, e3, hlen, hpos, hmx, hn, hnB⟩, hne⟩, hB, hm, hm2, q⟩ := h
    refine ⟨_, pss_cons (ps_asg (pv 0) (pg_unl rfl (pgs_cons (pg_name (i := 2) sc__law_next.nd rfl (.inl rfl)) (pgs_cons (pg_name (i := 3) sc__law_next.nd rfl (.inl rfl)) (pgs_cons (pg_name (i := 4) sc__law_next.nd rfl (.inl rfl)) pgs_nil)))))
      (pss_cons (ps_set (i := 5) sc__law_next.nd rfl (.inl rfl) (pe_op op_mod (pv 3) (pe_callB call_len_seq (by rfl) m_len PySem.boot_len (pa_cons (pv 2) pa_nil))))
      (pss_cons (ps_asg (pe_op op_add (pv 3) pe_int) (pg_sub (pv 0) pe_int set_list))
      (pss_cons (ps_if (pt_cmpR op_gt (pe_ix ix_list (pv 4) (pv 5) (fun _ _ => rfl)) pe_int (nomark _))
      (pss_cons (ps_set (i := 6) sc__law_next.nd rfl (.inl rfl) (pe_op op_mod (pe_ix ix_list (pv 4) (pv 5) (fun _ _ => rfl)) (pv 1)))
      (pss_cons (ps_asg (pe_op op_fdivW (pe_ix ix_list (pv 4) (pv 5) (fun _ _ => rfl)) (pv 1)) (pg_sub (pv 4) (pv 5) set_list))
      (pss_one (ps_ret (pv 6))))) pss_nil)
      (pss_cons (ps_set (i := 7) sc__law_next.nd rfl (.inl rfl) (pe_lst (pa_cons pe_int (pa_cons pe_int (pa_cons pe_int (pa_cons pe_int (pa_cons pe_int (pa_cons pe_int (pa_cons pe_int pa_nil)))))))))
      (pss_cons (ps_set (i := 8) sc__law_next.nd rfl (.inl rfl) (pe_op op_add (pe_op op_add (pe_op op_mod (pe_ix ix_list (pv 2) (pv 5) (fun _ _ => rfl)) pe_int) (pe_op op_mul pe_int (pv 3))) pe_int))
      (pss_cons (ps_set (i := 8) sc__law_next.nd rfl (.inl rfl) (pe_op op_mod (pe_op op_pow (pv 8) pe_int) (pe_ix ix_list (pv 7) (pe_op op_mod (pv 3) pe_int) (fun _ _ => rfl))))
      (pss_cons (ps_set (i := 9) sc__law_next.nd rfl (.inl rfl) (pe_op op_mod (pe_op op_pow (pe_op op_add (pv 8) (pe_op op_mul pe_int (pv 3))) pe_int) pe_int))
      (pss_one (ps_ret (pe_op op_mod (pe_op op_mod (pe_op op_add (pe_op op_mul (pv 9) pe_int) (pv 8)) pe_int) (pv 1))))))))))), ?_⟩
    have hS1 : SqL K H dk [.ref cl, .int n, .ref lf] := .inl (.inl e1)
    have hS2 : SqL K H cl (cells.map V.int) := .inl (.inl e2)
    refine ⟨.ref dk, rfl, dk, _, rfl, hS1, rfl, _, _, rfl, _, _, rfl, _, _, rfl, rfl, ?_⟩
    refine ⟨.int n, rfl, .ref cl, rfl, cl, _, rfl, .inl hS2, n, (cells.map V.int).length, rfl, rfl, ?_, ?_⟩
    · show (0 : Int) < ((cells.map V.int).length : Nat)
      rw [List.length_map]
      omega
    · have hlm : (cells.map V.int).length = cells.length := List.length_map ..
      obtain ⟨j, hj, ej⟩ : ∃ j : Nat, j < cells.length ∧ n % (((cells.map V.int).length : Nat) : Int) = (j : Int) := by
        have hb := emod_bounds n (m := ((cells.map V.int).length : Nat)) (by rw [hlm]; omega)
        rw [hlm] at hb ⊢
        exact ⟨(n % (cells.length : Int)).toNat, by omega, by omega⟩
      have eat : ((fun i j => V.int (i % j)) n (((cells.map V.int).length : Nat) : Int)) = V.int (j : Int) := congrArg V.int ej
      rw [eat]
      have hj2 : j < lefts.length := by omega
      have gc : (cells.map V.int)[j]? = some (.int cells[j]) := by rw [List.getElem?_map, List.getElem?_eq_getElem hj]; rfl
      have gl : (lefts.map V.int)[j]? = some (.int lefts[j]) := by rw [List.getElem?_map, List.getElem?_eq_getElem hj2]; rfl
      have nd1 : cl ≠ dk := ne_of e2 e1 (fun z => by
        injection z with z
        cases cells with
        | nil => simp at hpos
        | cons c r => simp at z)
      have nd2 : lf ≠ dk := ne_of e3 e1 (fun z => by
        injection z with z
        cases lefts with
        | nil => simp at hj2
        | cons c r => simp at z)
      refine ⟨.int n, rfl, n, 1, rfl, rfl, .ref dk, rfl, dk, _, 1, 1, rfl, rfl, e1, rfl, ?_⟩
      generalize hH1 : upd H dk (HO.lst ([V.ref cl, V.int n, V.ref lf].set 1 (V.int (n + 1)))) = H1
      have f1 : H1 dk = some (.lst [.ref cl, .int (n + 1), .ref lf]) := by rw [← hH1, upd_same]; rfl
      have f2 : H1 cl = some (.lst (cells.map V.int)) := by rw [← hH1, upd_ne nd1]; exact e2
      have f3 : H1 lf = some (.lst (lefts.map V.int)) := by rw [← hH1, upd_ne nd2]; exact e3
      have k1 : KD dk lf H H1 := fun b o n1 n2 e => by rw [← hH1, upd_ne n1]; exact e
      have D1 : Dk H1 dk cl lf (B + 1) := ⟨⟨cells, lefts, n + 1, f1, f2, f3, hlen, hpos, hmx, by omega, by omega⟩, hne⟩
      have sl : SqL K H1 lf (lefts.map V.int) := .inl (.inl f3)
      have sc : SqL K H1 cl (cells.map V.int) := .inl (.inl f2)
      refine ⟨.ref lf, rfl, .int j, rfl, lf, _, _, _, rfl, rfl, sl, atI_nat gl, _, _, rfl, rfl, _, rfl, ite2 (fun _ => ?_) (fun _ => ?_)⟩
      · refine ⟨.ref lf, rfl, .int j, rfl, lf, _, _, _, rfl, rfl, sl, atI_nat gl, .int m, rfl, _, _, rfl, rfl, hm, ?_⟩
        refine ⟨.ref lf, rfl, .int j, rfl, lf, _, _, _, rfl, rfl, sl, atI_nat gl, .int m, rfl, _, _, rfl, rfl, ⟨hm, hm2⟩, .ref lf, rfl, .int j, rfl, lf, _, j, j, rfl, rfl, f3, ?_, ?_⟩
        · rw [List.length_map]
          unfold ixN
          rw [if_pos (by omega), if_pos (by omega)]
          simp
        · refine ⟨_, rfl, q _ _ (Int.emod_nonneg _ (by omega)) (Int.emod_lt_of_pos _ hm) ⟨⟨cells, lefts.set j (lefts[j] / m), n + 1, ?_, ?_, ?_, ?_, hpos, hmx, by omega, by omega⟩, hne⟩ ?_⟩
          · rw [upd_ne nd2.symm]; exact f1
          · rw [upd_ne hne]; exact f2
          · rw [upd_same, List.map_set]
          · rw [List.length_set]; exact hlen
          · intro b o n1 n2 e
            rw [upd_ne n2]
            exact k1 b o n1 n2 e
      · have c1 := emod_bounds cells[j] (m := 2147483647) (by decide)
        refine ⟨(by show 7 ≤ sizeLine; decide), fun l nl => ?_⟩
        have s2 : Same H1 (upd H1 l (.lst [V.int 2147483629, V.int 2147483587, V.int 2147483579, V.int 2147483563, V.int 2147483549, V.int 2147483543, V.int 2147483497])) := same_upd nl
        have cl2 : (upd H1 l (.lst [V.int 2147483629, V.int 2147483587, V.int 2147483579, V.int 2147483563, V.int 2147483549, V.int 2147483543, V.int 2147483497])) l = some (.lst [V.int 2147483629, V.int 2147483587, V.int 2147483579, V.int 2147483563, V.int 2147483549, V.int 2147483543, V.int 2147483497]) := upd_same
        generalize upd H1 l (HO.lst [V.int 2147483629, V.int 2147483587, V.int 2147483579, V.int 2147483563, V.int 2147483549, V.int 2147483543, V.int 2147483497]) = H2 at s2 cl2 ⊢
        have sc2 : SqL K H2 cl (cells.map V.int) := .inl (.inl (s2 _ _ f2))
        have sl2 : SqL K H2 l _ := .inl (.inl cl2)
        refine ⟨.ref cl, rfl, .int j, rfl, cl, _, _, _, rfl, rfl, sc2, atI_nat gc, _, _, rfl, rfl, (by show (0 : Int) < 2147483647; decide), .int n, rfl, _, _, rfl, rfl, .inl ⟨by decide, by decide⟩, _, _, rfl, rfl, _, _, rfl, rfl, ?_⟩
        dsimp only
        generalize hmx1 : cells[j] % 2147483647 + 48271 * n + 104729 = mixed
        have b1 : 0 ≤ mixed ∧ mixed < 2 ^ 60 := by
          constructor
          · omega
          · have : (n : Int) ≤ 2 ^ 40 := by omega
            omega
        obtain ⟨d7, hd7, ed7⟩ : ∃ d : Nat, d < 7 ∧ n % 7 = (d : Int) := by
          have hb := emod_bounds n (m := 7) (by decide)
          exact ⟨(n % 7).toNat, by omega, by omega⟩
        obtain ⟨p, gp, pp, pq⟩ := primes_at d7 hd7
        refine ⟨.int mixed, rfl, _, _, rfl, rfl, ⟨by decide, by decide, by omega⟩, .ref l, rfl, .int n, rfl, _, _, rfl, rfl, (by show (0 : Int) < 7; decide), l, _, _, _, rfl, rfl, sl2, atI_of ed7 gp, _, _, rfl, rfl, pp, ?_⟩
        dsimp only
        generalize hm3 : mixed ^ Int.toNat 3 % p = mix3
        have b3 : 0 ≤ mix3 ∧ mix3 < 2147483629 := by
          have := emod_bounds (mixed ^ Int.toNat 3) pp
          omega
        refine ⟨.int mix3, rfl, .int n, rfl, _, _, rfl, rfl, .inl ⟨by decide, by decide⟩, _, _, rfl, rfl, _, _, rfl, rfl, ⟨by decide, by decide, ?_⟩, _, _, rfl, rfl, (by show (0 : Int) < 2147483477; decide), ?_⟩
        · have : (n : Int) ≤ 2 ^ 40 := by omega
          omega
        dsimp only
        generalize hm4 : (mix3 + 7919 * n) ^ Int.toNat 2 % 2147483477 = more
        have b4 : 0 ≤ more ∧ more < 2147483477 := by rw [← hm4]; exact emod_bounds _ (by decide)
        refine ⟨.int more, rfl, _, _, rfl, rfl, .inl ⟨by omega, by omega⟩, .int mix3, rfl, _, _, rfl, rfl, _, _, rfl, rfl, (by show (0 : Int) < 4611686018427387847; decide), .int m, rfl, _, _, rfl, rfl, hm, ?_⟩
        exact q _ _ (Int.emod_nonneg _ (by omega)) (Int.emod_lt_of_pos _ hm) (D1.same s2) (k1.trans (KD.of_same s2))
theorem ok__law_draws {f : Addr} {fd : FuncData} (F : Fun K "_law_draws" "_law_draws" s__law_draws f fd) (m_list : mg "list" = none) (m_int : mg "int" = none) (m_len : mg "len" = none) : FnOk P w K mg base CX0 1 f fd pm__law_draws (sp__law_draws K) := by
  refine F.ok sc__law_draws (fun vs H Q E h => ?_) (fun cdv A outer s H vs Q E hr h => ?_)
  · obtain ⟨a, ns, rfl, _⟩ := h
    rfl
  · obtain ⟨a, ns, rfl, hS, hlen, q⟩ := h
    refine ⟨_, pss_cons (ps_set (i := 1) sc__law_draws.nd rfl (.inl rfl) (pe_op op_cat (pe_callTy call_list_of (by rfl) m_list (by decide +kernel) (pa_cons (pe_slice sl_list (pv 0) po_none (po_some pe_int)) pa_nil)) (pe_op op_rep (pe_lst (pa_cons pe_int pa_nil)) (pe_callTy call_int1 (by rfl) m_int (by decide +kernel) (pa_cons (pe_cmpR op_eq (pe_callB call_len_seq (by rfl) m_len PySem.boot_len (pa_cons (pv 0) pa_nil)) pe_int (nomark _)) pa_nil)))))
      (pss_one (ps_ret (pe_lst (pa_cons (pv 1) (pa_cons pe_int (pa_cons (pe_lc (own := [("_law_cell", 2)]) (g := gName 2) (tt := tYes) rfl sc__law_draws.nd (pi_list (pv 1)) (blkOk_by (N := nm__law_draws) (sc := defScope s__law_draws) (by decide +kernel)) (fun _ _ _ _ _ => pg_name (i := 2) sc__law_draws.nd rfl (Or.inl rfl)) (fun _ _ _ _ _ => pts_nil) (fun _ _ _ _ _ => (pe_op op_mul (pv 2) (pe_callTy call_int1 (by rfl) m_int (by decide +kernel) (pa_cons (pe_cmpR op_ge (pv 2) (pe_op op_pow pe_int pe_int) (nomark _)) pa_nil))))) pa_nil)))))), ?_⟩
    refine ⟨.ref a, rfl, 63, rfl, a, _, rfl, hS, fun c nc => ?_⟩
    rw [cut63 _ (by rw [List.length_map]; exact hlen)]
    generalize hH1 : upd H c (HO.lst (ns.map V.int)) = H1
    have s1 : Same H H1 := by rw [← hH1]; exact same_upd nc
    have c1 : H1 c = some (.lst (ns.map V.int)) := by rw [← hH1, upd_same]
    refine ⟨c, _, rfl, .inl (.inl (.inl c1)), fun l nl => ?_⟩
    generalize hH2 : upd H1 l (HO.lst (ns.map V.int)) = H2
    have s2 : Same H1 H2 := by rw [← hH2]; exact same_upd nl
    have c2 : H2 l = some (.lst (ns.map V.int)) := by rw [← hH2, upd_same]
    refine ⟨(by show 1 ≤ sizeLine; decide), fun z nz => ?_⟩
    generalize hH3 : upd H2 z (HO.lst [V.int 0]) = H3
    have s3 : Same H2 H3 := by rw [← hH3]; exact same_upd nz
    have c3 : H3 z = some (.lst [V.int 0]) := by rw [← hH3, upd_same]
    have s03 : Same H H3 := s1.trans (s2.trans s3)
    obtain ⟨kk, hkk, hkv⟩ : ∃ kk : Nat, kk ≤ 1 ∧ (if decide (V.int ((ns.map V.int).length : Nat) = V.int 0) = true then (1 : Int) else 0) = kk ∧ (ns = [] → kk = 1) := by
      by_cases e : ns = []
      · subst e; exact ⟨1, by omega, by simp, fun _ => rfl⟩
      · refine ⟨0, by omega, ?_, fun z => absurd z e⟩
        have : ¬ V.int ((ns.map V.int).length : Nat) = V.int 0 := fun z => e (by
          have z1 := V.int.inj z
          rw [List.length_map] at z1
          exact List.length_eq_zero_iff.mp (by omega))
        rw [decide_eq_false this]
        rfl
    refine ⟨.ref a, rfl, a, _, rfl, .inl (s03.seq hS), rfl, .inr ⟨_, rfl, ?_⟩⟩
    refine ⟨z, _, [V.int 0], rfl, rfl, c3, ?_, ?_, ?_, fun p np => ?_⟩
    · rw [hkv.1]; omega
    · rw [hkv.1]; omega
    · rw [hkv.1]
      show 1 * ((kk : Int)).toNat ≤ sizeLine
      exact Nat.le_trans (show 1 * ((kk : Int)).toNat ≤ 1 by omega) (by decide)
    rw [hkv.1]
    have hrep : (List.replicate ((kk : Int)).toNat [V.int 0]).flatten = (List.replicate kk (0 : Int)).map V.int := by
      rw [Int.toNat_natCast]
      rcases (show kk = 0 ∨ kk = 1 by omega) with e | e <;> (subst e; rfl)
    rw [hrep]
    generalize hH4 : upd H3 p (HO.lst ((List.replicate kk (0 : Int)).map V.int)) = H4
    have s4 : Same H3 H4 := by rw [← hH4]; exact same_upd np
    have c4 : H4 p = some (.lst ((List.replicate kk (0 : Int)).map V.int)) := by rw [← hH4, upd_same]
    refine ⟨l, p, _, _, rfl, rfl, s4 _ _ (s3 _ _ c2), c4, ?_, fun r nr => ?_⟩
    · rw [List.length_map, List.length_map, List.length_replicate]
      exact Nat.le_trans (show ns.length + kk ≤ 64 by omega) (by decide)
    rw [← List.map_append]
    generalize hcells : ns ++ List.replicate kk 0 = cells
    have hcl : 0 < cells.length ∧ cells.length ≤ 100 := by
      rw [← hcells, List.length_append, List.length_replicate]
      refine ⟨?_, by omega⟩
      cases ns with
      | nil => have := hkv.2 rfl; omega
      | cons x r => simp; omega
    generalize hH5 : upd H4 r (HO.lst (cells.map V.int)) = H5
    have s5 : Same H4 H5 := by rw [← hH5]; exact same_upd nr
    have c5 : H5 r = some (.lst (cells.map V.int)) := by rw [← hH5, upd_same]
    have s05 : Same H H5 := s03.trans (s4.trans s5)
    refine ⟨.ref r, rfl, .ref r, rfl, r, rfl, ⟨_, .inl (.inl c5)⟩, fun D hD => lc_list (xs := cells.map V.int) (fun i H' => ∃ lefts : List Int, lefts.length = i ∧ H' D = some (.lst (lefts.map V.int)) ∧ Same H5 H') ⟨[], rfl, upd_same, same_upd hD⟩
      (fun i H' _ hp => ?_) (fun i x H' hx hp => ?_) (fun H' hp => ?_)⟩
    · obtain ⟨_, _, _, sm⟩ := hp
      exact .inl (.inl (sm _ _ c5))
    · obtain ⟨lefts, el, eD, sm⟩ := hp
      obtain ⟨n, rfl⟩ : ∃ n, x = V.int n := by
        rw [List.getElem?_map] at hx
        cases h : cells[i]? with
        | none => rw [h] at hx; cases hx
        | some n => rw [h] at hx; exact ⟨n, (Option.some.inj hx).symm⟩
      have hi : i < cells.length := by
        have := (List.getElem?_eq_some_iff.mp hx).1
        rwa [List.length_map] at this
      refine ⟨rfl, ?_⟩
      refine iteT (B := ∃ lefts : List Int, lefts.length = i + 1 ∧ H' D = some (.lst (lefts.map V.int)) ∧ Same H5 H') ?_
      refine ⟨.int n, rfl, .int n, rfl, _, _, rfl, rfl, ⟨by decide, by decide, by decide⟩, _, _, rfl, rfl, .inr ⟨_, rfl, _, _, rfl, rfl, .inr ?_, ?_⟩⟩
      · constructor
        · split <;> decide
        · split <;> decide
      · refine ⟨_, eD, ?_, lefts ++ [n * (if decide (10 ^ Int.toNat 18 ≤ n) = true then 1 else 0)], ?_, ?_, ?_⟩
        · rw [List.length_map]
          exact Nat.lt_of_le_of_lt (show lefts.length ≤ 100 by omega) (by decide)
        · rw [List.length_append, el]; rfl
        · rw [upd_same, List.map_append]; rfl
        · intro b o e
          rw [upd_ne (ne_of_none e hD)]
          exact sm b o e
    · obtain ⟨lefts, el, eD, sm⟩ := hp
      refine ⟨(by show 3 ≤ sizeLine; decide), fun dk ndk => ?_⟩
      have eDr : r ≠ D := ne_of_none c5 hD
      refine q dk r D _ ⟨⟨cells, lefts, 0, upd_same, ?_, ?_, ?_, hcl.1, hcl.2, by omega, by omega⟩, eDr⟩ ?_ ?_ ?_
      · rw [upd_ne (ne_of_none (sm _ _ c5) ndk)]; exact sm _ _ c5
      · rw [upd_ne (ne_of_none eD ndk)]; exact eD
      · rw [el, List.length_map]
      · exact (s05.trans sm).trans (same_upd ndk)
      · exact (s05.trans sm).free ndk
      · exact s05.free hD
end
end K3
namespace K3
open PySem PySem.Spec PyProof.Rows L2 K1
abbrev s__law_whole : Stmt := topS 9
abbrev nm__law_whole : List Str := ["_law_found"]
abbrev pm__law_whole : List Str := ["_law_found"]
theorem sc__law_whole : FnScope nm__law_whole pm__law_whole (defScope s__law_whole) := ⟨rfl, rfl, rfl, by decide +kernel, rfl, by decide +kernel, by decide +kernel⟩
abbrev s__law_just : Stmt := topS 10
abbrev nm__law_just : List Str := ["_law_thing", "_law_due", "_law_one", "_law_other"]
abbrev pm__law_just : List Str := ["_law_thing", "_law_due"]
theorem sc__law_just : FnScope nm__law_just pm__law_just (defScope s__law_just) := ⟨rfl, rfl, rfl, by decide +kernel, rfl, by decide +kernel, by decide +kernel⟩
section
variable {P : Program} {w : World} {K : PySem.W.Frag} {mg : Str → Option Value} {base : Heap}
def isW (d : PyData) : Bool := isI d && !isB d
def sp__law_whole (K : PySem.W.Frag) : Sp := fun vs H Q _ => ∃ (v : V) (d : PyData), vs = [v] ∧ Dp K H v d ∧ pl d = true ∧ Q (.bl (isW d)) H
theorem ok__law_whole {f : Addr} {fd : FuncData} (F : Fun K "_law_whole" "_law_whole" s__law_whole f fd) (m_isinstance : mg "isinstance" = none) (m_int : mg "int" = none) (m_bool : mg "bool" = none) : FnOk P w K mg base CX0 1 f fd pm__law_whole (sp__law_whole K) := by
  refine F.ok sc__law_whole (fun vs H Q E h => ?_) (fun cdv A outer s H vs Q E hr h => ?_)
  · obtain ⟨v, d, rfl, _⟩ := h
    rfl
  · obtain ⟨v, d, rfl, hv, pd, q⟩ := h
    refine ⟨_, pss_one (ps_ret (pe_and (pe_callB call_isi (by rfl) m_isinstance (by decide +kernel) (pa_cons (pv 0) (pa_cons (pe_bltn (v := .ty "int") (by rfl) m_int (show bootBuiltins "int" = some (.type "int") by decide +kernel) rfl) pa_nil))) (pe_one (pe_not (pe_callB call_isi (by rfl) m_isinstance (by decide +kernel) (pa_cons (pv 0) (pa_cons (pe_bltn (v := .ty "bool") (by rfl) m_bool (show bootBuiltins "bool" = some (.type "bool") by decide +kernel) rfl) pa_nil))))))), ?_⟩
    refine ⟨v, rfl, v, _, _, _, isI d, rfl, .ty "int", dp_ty hv pd, kit_ty (kI d), isI d, rfl, ite2 (fun c => ?_) (fun c => ?_)⟩
    · refine ⟨v, rfl, v, _, _, _, isB d, rfl, .ty "bool", dp_ty hv pd, kit_ty (kB d), isB d, rfl, ?_⟩
      have e : isW d = !isB d := by unfold isW; rw [c]; rfl
      rw [← e]
      exact q
    · have e : isW d = false := by unfold isW; rw [Bool.eq_false_iff.mpr c]; rfl
      rw [e] at q
      exact q
def sp__law_just (K : PySem.W.Frag) (n : Nat) : Sp := fun vs H Q _ => ∃ (v u : V) (d e : PyData), vs = [v, u] ∧ Dp K H v d ∧ Dp K H u e ∧ pl d = true ∧ pl e = true ∧ e.depth < n ∧ sz e ≤ 1000000 ∧ ∀ H' : Hp, Same H H' → Q (.bl (eqB d e)) H'
theorem nv__law_just {vs : List V} {H : Hp} {Q : VK} {E : XK} (h : sp__law_just K 0 vs H Q E) : False := by
  obtain ⟨_, _, _, _, _, _, _, _, _, h, _⟩ := h
  omega
theorem ones_data {H : Hp} : ∀ {ws : List V}, (∀ w ∈ ws, w = V.int 1) → DpAll K H ws (ws.map fun _ => PyData.int 1) ∧ PyData.canLayAll0 (ws.map fun _ => PyData.int 1) = true
  | [], _ => ⟨.nil, rfl⟩
  | v :: ws, h => by
    obtain ⟨a, b⟩ := ones_data (H := H) (ws := ws) fun w hw => h w (List.mem_cons_of_mem _ hw)
    have e := h v List.mem_cons_self
    subst e
    exact ⟨.cons (.int 1) a, b⟩
theorem flat_str {d e : PyData} (p1 : pl d = true) (hs : isS e = true) (hd : isS d = true) : (PyData.eqv d e = true ↔ d = e) := by
  cases d <;> cases e <;> simp_all [isS, PyData.eqv, pl]
theorem flat_bool {d e : PyData} (hs : isB e = true) (hd : isB d = true) : (PyData.eqv d e = true ↔ d = e) := by
  cases d <;> cases e <;> simp_all [isB, PyData.eqv, pl]
theorem flat_int {d e : PyData} (hs : isW e = true) (hd : isW d = true) : (PyData.eqv d e = true ↔ d = e) := by
  cases d <;> cases e <;> simp_all [isW, isI, isB, PyData.eqv, pl]
theorem eqv_eqB {d e : PyData} (h : PyData.eqv d e = true ↔ d = e) : PyData.eqv d e = eqB d e := by
  by_cases c : d = e
  · rw [h.mpr c, eqB_true c]
  · rw [eqB_false c]
    exact Bool.eq_false_iff.mpr fun z => c (h.mp z)
theorem min_leaf {d e : PyData} (h : e.depth ≤ 64) : min d.depth e.depth ≤ 64 := Nat.le_trans (Nat.min_le_right _ _) h
theorem leaf_depth {e : PyData} (p : pl e = true) (h : isT e = false) : e.depth ≤ 64 := by
  cases e <;> simp_all [isT, PyData.depth, pl]
theorem take_eq_iff {α : Type} {xs ys : List α} {i : Nat} {x y : α} (hx : xs[i]? = some x) (hy : ys[i]? = some y) : xs.take (i + 1) = ys.take (i + 1) ↔ xs.take i = ys.take i ∧ x = y := by
  rw [List.take_add_one, List.take_add_one, hx, hy]
  have hi : i < xs.length := (List.getElem?_eq_some_iff.mp hx).1
  have hi' : i < ys.length := (List.getElem?_eq_some_iff.mp hy).1
  constructor
  · intro h
    have := List.append_inj h (by rw [List.length_take, List.length_take]; omega)
    exact ⟨this.1, by simpa using this.2⟩
  · rintro ⟨h1, h2⟩
    rw [h1, h2]
theorem ok__law_just {f : Addr} {fd : FuncData} (F : Fun K "_law_just" "_law_just" s__law_just f fd) (g_self : mg "_law_just" = some (.ref f)) (b_self : Binds K fd pm__law_just []) (C__law_whole : Cal P w K mg base "_law_whole" pm__law_whole 1 (sp__law_whole K)) (m_isinstance : mg "isinstance" = none) (m_tuple : mg "tuple" = none) (m_str : mg "str" = none) (m_bool : mg "bool" = none) (m_len : mg "len" = none) (m_zip : mg "zip" = none) : ∀ n : Nat, FnOk P w K mg base CX0 (n + 1 + 1) f fd pm__law_just (sp__law_just K n) := by
  obtain ⟨f__law_whole, fd__law_whole, G__law_whole, g__law_whole, k__law_whole, b__law_whole⟩ := C__law_whole.ex
  intro n
  induction n with
  | zero => exact F.ok sc__law_just (fun vs H Q E h => (nv__law_just h).elim) (fun cdv A outer s H vs Q E hr h => (nv__law_just h).elim)
  | succ n ih =>
  refine F.ok sc__law_just (fun vs H Q E h => ?_) (fun cdv A outer s H vs Q E hr h => ?_)
  · obtain ⟨v, u, d, e, rfl, _⟩ := h
    rfl
  · obtain ⟨v, u, d, e, rfl, hv, hu, pd, pe, hdp, hsz, q⟩ := h
    refine ⟨_, pss_cons (ps_if (pt_val (pe_callB call_isi (by rfl) m_isinstance (by decide +kernel) (pa_cons (pv 1) (pa_cons (pe_bltn (v := .ty "tuple") (by rfl) m_tuple (show bootBuiltins "tuple" = some (.type "tuple") by decide +kernel) rfl) pa_nil))))
      (pss_cons (ps_if (PW.pt (pw_or (pt_not (pt_val (pe_callB call_isi (by rfl) m_isinstance (by decide +kernel) (pa_cons (pv 0) (pa_cons (pe_bltn (v := .ty "tuple") (by rfl) m_tuple (show bootBuiltins "tuple" = some (.type "tuple") by decide +kernel) rfl) pa_nil))))) (pw_or1 (pt_cmpR op_ne (pe_callB call_len_seq (by rfl) m_len PySem.boot_len (pa_cons (pv 0) pa_nil)) (pe_callB call_len_seq (by rfl) m_len PySem.boot_len (pa_cons (pv 1) pa_nil)) (nomark _)))))
      (pss_one (ps_ret pe_bl)) pss_nil)
      (pss_one (ps_ret (pe_cmpR (op_eqM hr.units) (pe_lc (own := [("_law_one", 2), ("_law_other", 3)]) (g := gTup K 2 (gCons (gName 2) (gCons (gName 3) gNil))) rfl sc__law_just.nd (RZ.pi_zipA (by rfl) m_zip (pa_cons (pv 0) (pa_cons (pv 1) pa_nil))) (blkOk_by (N := nm__law_just) (sc := defScope s__law_just) (by decide +kernel)) (fun _ _ _ _ _ => pg_tup (by rfl) (pgs_cons (pg_name (i := 2) sc__law_just.nd rfl (Or.inl rfl)) (pgs_cons (pg_name (i := 3) sc__law_just.nd rfl (Or.inl rfl)) pgs_nil))) (fun _ _ _ _ _ => (pts_one (pt_not (pt_val (pe_call ih (hr.mono (by omega)) (by rfl) g_self F.kp b_self .nil pass0 (pa_cons (pv 2) (pa_cons (pv 3) pa_nil))))))) (fun _ _ _ _ _ => pe_int)) (pe_lst pa_nil) (nomark _))))) pss_nil)
      (pss_cons (ps_if (pt_cmpR op_isN (pv 1) pe_non (nomark _))
      (pss_one (ps_ret (pe_cmpR op_isN (pv 0) pe_non (nomark _)))) pss_nil)
      (pss_cons (ps_if (pt_val (pe_callB call_isi (by rfl) m_isinstance (by decide +kernel) (pa_cons (pv 1) (pa_cons (pe_bltn (v := .ty "str") (by rfl) m_str (show bootBuiltins "str" = some (.type "str") by decide +kernel) rfl) pa_nil))))
      (pss_one (ps_ret (pe_and (pe_callB call_isi (by rfl) m_isinstance (by decide +kernel) (pa_cons (pv 0) (pa_cons (pe_bltn (v := .ty "str") (by rfl) m_str (show bootBuiltins "str" = some (.type "str") by decide +kernel) rfl) pa_nil))) (pe_one (pe_cmpR (op_eqM hr.units) (pv 0) (pv 1) (nomark _)))))) pss_nil)
      (pss_cons (ps_if (pt_val (pe_callB call_isi (by rfl) m_isinstance (by decide +kernel) (pa_cons (pv 1) (pa_cons (pe_bltn (v := .ty "bool") (by rfl) m_bool (show bootBuiltins "bool" = some (.type "bool") by decide +kernel) rfl) pa_nil))))
      (pss_one (ps_ret (pe_and (pe_callB call_isi (by rfl) m_isinstance (by decide +kernel) (pa_cons (pv 0) (pa_cons (pe_bltn (v := .ty "bool") (by rfl) m_bool (show bootBuiltins "bool" = some (.type "bool") by decide +kernel) rfl) pa_nil))) (pe_one (pe_cmpR (op_eqM hr.units) (pv 0) (pv 1) (nomark _)))))) pss_nil)
      (pss_one (ps_ret (pe_and (pe_call G__law_whole (hr.mono (by omega)) (by rfl) g__law_whole k__law_whole b__law_whole .nil pass0 (pa_cons (pv 0) pa_nil)) (pe_one (pe_cmpR (op_eqM hr.units) (pv 0) (pv 1) (nomark _))))))))), ?_⟩
    have no : d ≠ e → ∀ H', Same H H' → Q (.bl false) H' := fun ne H' s' => by
      have := q H' s'
      rw [eqB_false ne] at this
      exact this
    refine ⟨u, rfl, u, _, _, _, isT e, rfl, .ty "tuple", dp_ty hu pe, kit_ty (kT e), isT e, rfl, ite2 (fun a1 => ?_) (fun a1 => ?_)⟩
    · cases e with
      | tuple es =>
        refine ⟨v, rfl, v, _, _, _, isT d, rfl, .ty "tuple", dp_ty hv pd, kit_ty (kT d), isT d, rfl, ite2 (fun a2 => ?_) (fun a2 => ?_)⟩
        · refine no (fun z => ?_) H (Same.refl _)
          rw [z] at a2
          cases a2
        · cases d with
          | tuple ds =>
            cases hu with
            | @tup b ys _ hsy hay =>
              cases hv with
              | @tup a xs _ hsx hax =>
                have lx := dpAll_len hax
                have ly := dpAll_len hay
                refine ⟨.ref a, rfl, a, xs, rfl, .inr hsx, .ref b, rfl, b, ys, rfl, .inr hsy, rfl, _, rfl, ite2 (fun b1 => ?_) (fun b1 => ?_)⟩
                · refine no (fun z => ?_) H (Same.refl _)
                  have h2 : ds = es := PyData.tuple.inj z
                  rw [lx, ly, h2] at b1
                  simp at b1
                · have hl2 : xs.length = ys.length := by
                    have z : V.int (xs.length : Nat) = V.int (ys.length : Nat) := by simpa using b1
                    have := V.int.inj z
                    omega
                  have hls := len_szA es
                  have hse : szA es + 1 ≤ 1000000 := hsz
                  rw [depth_tuple] at hdp
                  refine ⟨.ref a, rfl, .ref b, rfl, a, b, xs, ys, rfl, .inr ⟨hsx, hsy, fun D hD => lc_zipT hl2 (fun i H3 => ∃ ws : List V, (∀ w ∈ ws, w = V.int 1) ∧ ws.length ≤ i ∧ (ws = [] ↔ ds.take i = es.take i) ∧ H3 D = some (.lst ws) ∧ Same H H3) ⟨[], fun _ h => (nomatch h), Nat.le_refl _, ⟨fun _ => rfl, fun _ => rfl⟩, upd_same, same_upd hD⟩ (fun i H3 _ hP => ?_) (fun i x y T H3 gx gy hP nT => ?_) (fun H3 hP => ?_)⟩⟩
                  · obtain ⟨ws, _, _, _, _, s3⟩ := hP
                    exact ⟨ts_same s3 _ _ hsx, ts_same s3 _ _ hsy⟩
                  · obtain ⟨ws, hw, hwl, hiff, eD, s3⟩ := hP
                    obtain ⟨di, k1, k2⟩ := dpAll_get hax gx
                    obtain ⟨ei, k3, k4⟩ := dpAll_get hay gy
                    have q1 : pl di = true := plA_mem pd (List.mem_of_getElem? k1)
                    have q2 : pl ei = true := plA_mem pe (List.mem_of_getElem? k3)
                    have d1 := depth_mem (List.mem_of_getElem? k3)
                    have z1 := sz_mem (List.mem_of_getElem? k3)
                    have hi : i < ys.length := (List.getElem?_eq_some_iff.mp gy).1
                    have s4 : Same H (upd H3 T (.tup [x, y])) := s3.trans (same_upd nT)
                    have eD4 : (upd H3 T (.tup [x, y])) D = some (.lst ws) := same_upd nT _ _ eD
                    refine ⟨T, [x, y], rfl, .inl (.inl upd_same), rfl, x, [y], rfl, y, [], rfl, rfl, rfl, x, rfl, y, rfl, x, y, di, ei, rfl, (ts_same s4).dp _ _ q1 k2, (ts_same s4).dp _ _ q2 k4, q1, q2, by omega, by omega, fun H5 s5 => ⟨eqB di ei, rfl, ite2 (fun c => ?_) (fun c => ?_)⟩⟩
                    · have ne : di ≠ ei := fun z => by rw [eqB_true z] at c; cases c
                      refine ⟨ws, s5 _ _ eD4, ?_, ws ++ [.int 1], ?_, ?_, ?_, upd_same, ?_⟩
                      · exact Nat.lt_of_le_of_lt (show ws.length ≤ 1000000 by omega) (by decide)
                      · intro w' hw'
                        rcases List.mem_append.mp hw' with m | m
                        · exact hw _ m
                        · exact List.mem_singleton.mp m
                      · rw [List.length_append]
                        exact Nat.succ_le_succ hwl
                      · rw [take_eq_iff k1 k3]
                        constructor
                        · intro z
                          simp at z
                        · intro z
                          exact absurd z.2 ne
                      · intro b' o eb
                        rw [upd_ne (ne_of_none eb hD)]
                        exact s5 _ _ (s4 _ _ eb)
                    · have eq : di = ei := by
                        by_cases z : di = ei
                        · exact z
                        · rw [eqB_false z] at c
                          exact absurd rfl c
                      refine ⟨ws, hw, by omega, ?_, s5 _ _ eD4, s4.trans s5⟩
                      rw [take_eq_iff k1 k3, hiff]
                      exact ⟨fun z => ⟨z, eq⟩, fun z => z.1⟩
                  · obtain ⟨ws, hw, hwl, hiff, eD, s3⟩ := hP
                    refine ⟨Nat.zero_le _, fun z nz => ?_⟩
                    have sz1 : Same H3 (upd H3 z (.lst [])) := same_upd nz
                    have cz : (upd H3 z (.lst [])) z = some (.lst []) := upd_same
                    generalize hHz : upd H3 z (HO.lst []) = Hz at sz1 cz ⊢
                    obtain ⟨o1, o2⟩ := ones_data (K := K) (H := Hz) hw
                    refine ⟨.list (ws.map fun _ => PyData.int 1), .list [], .lst (.inl (.inl (sz1 _ _ eD))) o1, .lst (.inl (.inl cz)) .nil, o2, rfl, ?_, ?_⟩
                    · refine Nat.le_trans (Nat.min_le_right _ _) ?_
                      decide
                    · rw [eqv_nil]
                      have hd : ds.take xs.length = ds := by rw [lx]; exact List.take_length
                      have he : es.take xs.length = es := by rw [hl2, ly]; exact List.take_length
                      rw [hd, he] at hiff
                      have := q Hz (s3.trans sz1)
                      have e : eqB (.tuple ds) (.tuple es) = (ws.map fun _ => PyData.int 1).isEmpty := by
                        by_cases c : ds = es
                        · rw [eqB_true (by rw [c]), hiff.mpr c]
                          rfl
                        · rw [eqB_false fun z => c (PyData.tuple.inj z)]
                          cases ws with
                          | nil => exact absurd (hiff.mp rfl) c
                          | cons _ _ => rfl
                      rw [e] at this
                      exact this
          | _ => exact absurd rfl a2
      | _ => cases a1
    · have le : e.depth ≤ 64 := leaf_depth pe (Bool.eq_false_iff.mpr a1)
      refine ⟨u, rfl, rfl, _, rfl, ite2 (fun n1 => ?_) (fun n1 => ?_)⟩
      · have e1 : e = .none := (non_iff hu).mp (of_decide_eq_true n1)
        refine ⟨v, rfl, rfl, ?_⟩
        have := q H (Same.refl _)
        have e2 : eqB d e = decide (v = .non) := by
          by_cases c : d = e
          · rw [eqB_true c, decide_eq_true ((non_iff hv).mpr (c.trans e1))]
          · rw [eqB_false c, decide_eq_false fun z => c (((non_iff hv).mp z).trans e1.symm)]
        rw [e2] at this
        exact this
      · have en : e ≠ .none := fun z => n1 (decide_eq_true ((non_iff hu).mpr z))
        refine ⟨u, rfl, u, _, _, _, isS e, rfl, .ty "str", dp_ty hu pe, kit_ty (kS e), isS e, rfl, ite2 (fun a3 => ?_) (fun a3 => ?_)⟩
        · refine ⟨v, rfl, v, _, _, _, isS d, rfl, .ty "str", dp_ty hv pd, kit_ty (kS d), isS d, rfl, ite2 (fun a4 => ?_) (fun a4 => ?_)⟩
          · refine ⟨v, rfl, u, rfl, d, e, hv, hu, canLay d pd, canLay e pe, min_leaf le, ?_⟩
            rw [eqv_eqB (flat_str pd a3 a4)]
            exact q H (Same.refl _)
          · exact no (fun z => a4 (by rw [z]; exact a3)) H (Same.refl _)
        · refine ⟨u, rfl, u, _, _, _, isB e, rfl, .ty "bool", dp_ty hu pe, kit_ty (kB e), isB e, rfl, ite2 (fun a5 => ?_) (fun a5 => ?_)⟩
          · refine ⟨v, rfl, v, _, _, _, isB d, rfl, .ty "bool", dp_ty hv pd, kit_ty (kB d), isB d, rfl, ite2 (fun a4 => ?_) (fun a4 => ?_)⟩
            · refine ⟨v, rfl, u, rfl, d, e, hv, hu, canLay d pd, canLay e pe, min_leaf le, ?_⟩
              rw [eqv_eqB (flat_bool a5 a4)]
              exact q H (Same.refl _)
            · exact no (fun z => a4 (by rw [z]; exact a5)) H (Same.refl _)
          · have ew : isW e = true := by
              cases e <;> simp_all [isW, isI, isB, isS, isT, pl]
            refine ⟨v, rfl, v, d, rfl, hv, pd, isW d, rfl, ite2 (fun a4 => ?_) (fun a4 => ?_)⟩
            · refine ⟨v, rfl, u, rfl, d, e, hv, hu, canLay d pd, canLay e pe, min_leaf le, ?_⟩
              rw [eqv_eqB (flat_int ew a4)]
              exact q H (Same.refl _)
            · exact no (fun z => a4 (by rw [z]; exact ew)) H (Same.refl _)
end
end K3
namespace K3
open PySem PySem.Spec PyProof.Rows L2 K1
/-! ### parts and orders in the heap -/
def natV (n : Nat) : V := .int (n : Int)
theorem rgV_nat (n : Nat) : rgV 0 (n : Int) = (List.range n).map natV := by
  unfold rgV natV
  rw [Int.sub_zero, Int.toNat_natCast]
  refine List.map_congr_left fun i _ => ?_
  rw [Int.zero_add]
def Pts (K : PySem.W.Frag) (H : Hp) (a : Addr) (ps : List Part) : Prop := ∃ vs : List V, SqT K H a vs ∧ vs.length = ps.length ∧ ∀ (i : Nat) (p : Part), ps[i]? = some p → ∃ t, vs[i]? = some (.ref t) ∧ SqT K H t [.int p.1, .int p.2]
theorem Pts.ts {K : PySem.W.Frag} {H H1 : Hp} {a : Addr} {ps : List Part} (h : Pts K H a ps) (s : TS K H H1) : Pts K H1 a ps := by
  obtain ⟨vs, h1, h2, h3⟩ := h
  refine ⟨vs, s _ _ h1, h2, fun i p e => ?_⟩
  obtain ⟨t, a1, a2⟩ := h3 i p e
  exact ⟨t, a1, s _ _ a2⟩
theorem Pts.at {K : PySem.W.Frag} {H : Hp} {a : Addr} {ps : List Part} (h : Pts K H a ps) {n : Nat} (hn : n < ps.length) : ∃ vs t, SqT K H a vs ∧ atI vs (n : Int) = some (.ref t) ∧ SqT K H t [.int (pt ps n).1, .int (pt ps n).2] := by
  obtain ⟨vs, h1, h2, h3⟩ := h
  have e := List.getElem?_eq_getElem hn
  obtain ⟨t, a1, a2⟩ := h3 n _ e
  rw [← pt_of e] at a2
  exact ⟨vs, t, h1, atI_nat a1, a2⟩
theorem Pts.len {K : PySem.W.Frag} {H : Hp} {a : Addr} {ps : List Part} (h : Pts K H a ps) : ∃ vs : List V, SqT K H a vs ∧ vs.length = ps.length := by
  obtain ⟨vs, h1, h2, _⟩ := h
  exact ⟨vs, h1, h2⟩
abbrev s__law_measure : Stmt := topS 11
abbrev nm__law_measure : List Str := ["_law_drawn", "_law_by", "_law_way"]
abbrev pm__law_measure : List Str := ["_law_drawn"]
theorem sc__law_measure : FnScope nm__law_measure pm__law_measure (defScope s__law_measure) := ⟨rfl, rfl, rfl, by decide +kernel, rfl, by decide +kernel, by decide +kernel⟩
abbrev s__law_parts : Stmt := topS 12
abbrev nm__law_parts : List Str := ["_law_drawn", "_law_most", "_law_k"]
abbrev pm__law_parts : List Str := ["_law_drawn", "_law_most"]
theorem sc__law_parts : FnScope nm__law_parts pm__law_parts (defScope s__law_parts) := ⟨rfl, rfl, rfl, by decide +kernel, rfl, by decide +kernel, by decide +kernel⟩
section
variable {P : Program} {w : World} {K : PySem.W.Frag} {mg : Str → Option Value} {base : Heap}
def sp__law_measure (K : PySem.W.Frag) : Sp := fun vs H Q _ => ∃ (dk cl lf : Addr) (B : Nat), vs = [.ref dk] ∧ Dk H dk cl lf B ∧ B ≤ 2 ^ 39 ∧
  ∀ (t : Addr) (p : Part) (H' : Hp), PtOk p → SqT K H' t [.int p.1, .int p.2] → Dk H' dk cl lf (B + 3) → KD dk lf H H' → Q (.ref t) H'
theorem al_at (d : Nat) (h : d < 6) : ∃ m : Int, ([V.int 1, V.int 1, V.int 8, V.int 16, V.int 32, V.int 64] : List V)[d]? = some (.int m) ∧ AlOk m := by
  rcases (show d = 0 ∨ d = 1 ∨ d = 2 ∨ d = 3 ∨ d = 4 ∨ d = 5 by omega) with e | e | e | e | e | e <;> subst e
  · exact ⟨_, rfl, .inl rfl⟩
  · exact ⟨_, rfl, .inl rfl⟩
  · exact ⟨_, rfl, .inr (.inl rfl)⟩
  · exact ⟨_, rfl, .inr (.inr (.inl rfl))⟩
  · exact ⟨_, rfl, .inr (.inr (.inr (.inl rfl)))⟩
  · exact ⟨_, rfl, .inr (.inr (.inr (.inr rfl)))⟩
theorem al_many {m : Int} (h : AlOk m) : 0 < 4096 / m ∧ (4096 / m).natAbs.log2 < 9000 ∧ ∀ d : Int, 0 ≤ d → d < 4096 / m → 0 ≤ m * (1 + d) ∧ m * (1 + d) ≤ 4096 := by
  rcases h with rfl | rfl | rfl | rfl | rfl <;> exact ⟨by decide, by decide +kernel, fun d h0 h1 => by omega⟩
theorem ok__law_measure {f : Addr} {fd : FuncData} (F : Fun K "_law_measure" "_law_measure" s__law_measure f fd) (C__law_next : Cal P w K mg base "_law_next" pm__law_next 1 sp__law_next) : FnOk P w K mg base CX0 2 f fd pm__law_measure (sp__law_measure K) := by
  obtain ⟨f__law_next, fd__law_next, G__law_next, g__law_next, k__law_next, b__law_next⟩ := C__law_next.ex
  refine F.ok sc__law_measure (fun vs H Q E h => ?_) (fun cdv A outer s H vs Q E hr h => ?_)
  · obtain ⟨dk, cl, lf, B, rfl, _⟩ := h
    rfl
  · obtain ⟨dk, cl, lf, B, rfl, D0, hB, q⟩ := h
    have rm : ∀ {j : Nat}, j ≤ 1 → Room j (A.deeper (envOfC "_law_measure" (defScope s__law_measure) s.heap.objs.size f cdv)) := fun hj => hr.mono hj
    refine ⟨_, pss_cons (ps_set (i := 1) sc__law_measure.nd rfl (.inl rfl) (pe_ix ix_list (pe_lst (pa_cons pe_int (pa_cons pe_int (pa_cons pe_int (pa_cons pe_int (pa_cons pe_int (pa_cons pe_int pa_nil))))))) (pe_call G__law_next (rm (by decide)) (by rfl) g__law_next k__law_next b__law_next .nil pass0 (pa_cons (pv 0) (pa_cons pe_int pa_nil))) (fun _ _ => rfl)))
      (pss_cons (ps_set (i := 2) sc__law_measure.nd rfl (.inl rfl) (pe_call G__law_next (rm (by decide)) (by rfl) g__law_next k__law_next b__law_next .nil pass0 (pa_cons (pv 0) (pa_cons pe_int pa_nil))))
      (pss_cons (ps_if (pt_cmpR op_eq (pv 2) pe_int (nomark _))
      (pss_one (ps_ret (pe_tup (pa_cons pe_int (pa_cons (pv 1) pa_nil))))) pss_nil)
      (pss_cons (ps_if (pt_cmpR op_eq (pv 2) pe_int (nomark _))
      (pss_one (ps_ret (pe_tup (pa_cons (pe_op op_sub pe_int (pe_call G__law_next (rm (by decide)) (by rfl) g__law_next k__law_next b__law_next .nil pass0 (pa_cons (pv 0) (pa_cons pe_int pa_nil)))) (pa_cons (pv 1) pa_nil))))) pss_nil)
      (pss_cons (ps_if (pt_cmpR op_eq (pv 2) pe_int (nomark _))
      (pss_one (ps_ret (pe_tup (pa_cons (pe_call G__law_next (rm (by decide)) (by rfl) g__law_next k__law_next b__law_next .nil pass0 (pa_cons (pv 0) (pa_cons pe_int pa_nil))) (pa_cons (pv 1) pa_nil))))) pss_nil)
      (pss_cons (ps_if (pt_cmpR op_eq (pv 2) pe_int (nomark _))
      (pss_one (ps_ret (pe_tup (pa_cons (pe_op op_mul (pv 1) (pe_op op_add pe_int (pe_call G__law_next (rm (by decide)) (by rfl) g__law_next k__law_next b__law_next .nil pass0 (pa_cons (pv 0) (pa_cons (pe_op op_fdivW pe_int (pv 1)) pa_nil))))) (pa_cons (pv 1) pa_nil))))) pss_nil)
      (pss_one (ps_ret (pe_tup (pa_cons (pe_op op_add pe_int (pe_call G__law_next (rm (by decide)) (by rfl) g__law_next k__law_next b__law_next .nil pass0 (pa_cons (pv 0) (pa_cons pe_int pa_nil)))) (pa_cons (pv 1) pa_nil)))))))))), ?_⟩
    refine ⟨(by show 6 ≤ sizeLine; decide), fun l nl => ?_⟩
    have nD := D0.not nl
    have D1 : Dk (upd H l (.lst [V.int 1, V.int 1, V.int 8, V.int 16, V.int 32, V.int 64])) dk cl lf B := D0.upd nD
    have s1 : Same H (upd H l (.lst [V.int 1, V.int 1, V.int 8, V.int 16, V.int 32, V.int 64])) := same_upd nl
    have c1 : (upd H l (.lst [V.int 1, V.int 1, V.int 8, V.int 16, V.int 32, V.int 64])) l = some (.lst [V.int 1, V.int 1, V.int 8, V.int 16, V.int 32, V.int 64]) := upd_same
    generalize upd H l (HO.lst [V.int 1, V.int 1, V.int 8, V.int 16, V.int 32, V.int 64]) = H1 at D1 s1 c1 ⊢
    refine ⟨.ref dk, rfl, dk, cl, lf, B, 6, rfl, D1, by omega, by decide, by decide +kernel, fun d H2 d0 d1 D2 k2 => ?_⟩
    obtain ⟨j, rfl⟩ : ∃ j : Nat, d = (j : Int) := ⟨d.toNat, by omega⟩
    obtain ⟨m, gm, hm⟩ := al_at j (by omega)
    have c2 := k2 l _ nD.1 nD.2.2 c1
    have mp := hm.pos
    refine ⟨l, _, _, _, rfl, rfl, .inl (.inl c2), atI_nat gm, ?_⟩
    have kk2 : KD dk lf H H2 := (KD.of_same s1).trans k2
    have fin : ∀ (Hn : Hp) (b : Int), Dk Hn dk cl lf (B + 3) → KD dk lf H Hn → PtOk (b, m) → ∀ t, Hn t = none → Q (.ref t) (upd Hn t (.tup [.int b, .int m])) := fun Hn b Dn kn hp t nt =>
      q t (b, m) _ hp (.inl (.inl upd_same)) (Dn.upd (Dn.not nt)) (kn.trans (KD.of_same (same_upd nt)))
    refine ⟨.ref dk, rfl, dk, cl, lf, B + 1, 7, rfl, D2, by omega, by decide, by decide +kernel, fun way H3 w0 w1 D3 k3 => ?_⟩
    have kk3 : KD dk lf H H3 := kk2.trans k3
    refine ⟨.int way, rfl, rfl, _, rfl, ite2 (fun e1 => ?_) (fun e1 => ?_)⟩
    · refine ⟨.int m, rfl, (by show 2 ≤ sizeLine; decide), fun t nt => fin H3 0 (D3.mono (by omega)) kk3 ⟨Int.le_refl 0, (by show (0:Int) ≤ 4096; decide), hm⟩ t nt⟩
    refine ⟨.int way, rfl, rfl, _, rfl, ite2 (fun e2 => ?_) (fun e2 => ?_)⟩
    · refine ⟨.ref dk, rfl, dk, cl, lf, B + 2, 3, rfl, D3, by omega, by decide, by decide +kernel, fun d H4 d0 d1 D4 k4 => ?_⟩
      exact ⟨_, _, rfl, rfl, .int m, rfl, (by show 2 ≤ sizeLine; decide), fun t nt => fin H4 (4096 - d) D4 (kk3.trans k4) ⟨by show 0 ≤ 4096 - d; omega, by show 4096 - d ≤ 4096; omega, hm⟩ t nt⟩
    refine ⟨.int way, rfl, rfl, _, rfl, ite2 (fun e3 => ?_) (fun e3 => ?_)⟩
    · refine ⟨.ref dk, rfl, dk, cl, lf, B + 2, 4097, rfl, D3, by omega, by decide, by decide +kernel, fun d H4 d0 d1 D4 k4 => ?_⟩
      exact ⟨.int m, rfl, (by show 2 ≤ sizeLine; decide), fun t nt => fin H4 d D4 (kk3.trans k4) ⟨d0, by show d ≤ 4096; omega, hm⟩ t nt⟩
    refine ⟨.int way, rfl, rfl, _, rfl, ite2 (fun e4 => ?_) (fun e4 => ?_)⟩
    · obtain ⟨m0, m1, m2⟩ := al_many hm
      refine ⟨.int m, rfl, .ref dk, rfl, .int m, rfl, _, _, rfl, rfl, ⟨mp.1, ?_⟩, dk, cl, lf, B + 2, 4096 / m, rfl, D3, by omega, m0, m1, fun d H4 d0 d1 D4 k4 => ?_⟩
      · rcases hm with rfl | rfl | rfl | rfl | rfl <;> decide +kernel
      obtain ⟨b0, b1⟩ := m2 d d0 d1
      exact ⟨_, _, rfl, rfl, _, _, rfl, rfl, .inl ⟨by omega, by omega⟩, .int m, rfl, (by show 2 ≤ sizeLine; decide), fun t nt => fin H4 (m * (1 + d)) D4 (kk3.trans k4) ⟨b0, b1, hm⟩ t nt⟩
    · refine ⟨.ref dk, rfl, dk, cl, lf, B + 2, 70, rfl, D3, by omega, by decide, by decide +kernel, fun d H4 d0 d1 D4 k4 => ?_⟩
      exact ⟨_, _, rfl, rfl, .int m, rfl, (by show 2 ≤ sizeLine; decide), fun t nt => fin H4 (1 + d) D4 (kk3.trans k4) ⟨by show 0 ≤ 1 + d; omega, by show 1 + d ≤ 4096; omega, hm⟩ t nt⟩
def sp__law_parts (K : PySem.W.Frag) : Sp := fun vs H Q _ => ∃ (dk cl lf : Addr) (B most : Nat), vs = [.ref dk, natV most] ∧ Dk H dk cl lf B ∧ B ≤ 2 ^ 38 ∧ most ≤ 100 ∧
  ∀ (a : Addr) (ps : List Part) (H' : Hp), Pts K H' a ps → (∀ p ∈ ps, PtOk p) → ps.length ≤ most → Dk H' dk cl lf (B + 1 + 3 * most) → KD dk lf H H' → Q (.ref a) H'
theorem nat_log {n : Nat} (h : n ≤ 1000) : ((n : Int) + 1).natAbs.log2 < 9000 := by
  have : ((n : Int) + 1).natAbs = n + 1 := by omega
  rw [this]
  have h2 := Nat.log2_lt (n := n + 1) (by omega) (k := 9000)
  exact h2.mpr (Nat.lt_of_le_of_lt (show n + 1 ≤ 2 ^ 10 by omega) (Nat.pow_lt_pow_right (by decide) (by decide)))
theorem ok__law_parts {f : Addr} {fd : FuncData} (F : Fun K "_law_parts" "_law_parts" s__law_parts f fd) (C__law_measure : Cal P w K mg base "_law_measure" pm__law_measure 2 (sp__law_measure K)) (C__law_next : Cal P w K mg base "_law_next" pm__law_next 1 sp__law_next) (m_tuple : mg "tuple" = none) (m_range : mg "range" = none) : FnOk P w K mg base CX0 3 f fd pm__law_parts (sp__law_parts K) := by
  obtain ⟨f__law_measure, fd__law_measure, G__law_measure, g__law_measure, k__law_measure, b__law_measure⟩ := C__law_measure.ex
  obtain ⟨f__law_next, fd__law_next, G__law_next, g__law_next, k__law_next, b__law_next⟩ := C__law_next.ex
  refine F.ok sc__law_parts (fun vs H Q E h => ?_) (fun cdv A outer s H vs Q E hr h => ?_)
  · obtain ⟨dk, cl, lf, B, most, rfl, _⟩ := h
    rfl
  · obtain ⟨dk, cl, lf, B, most, rfl, D0, hB, hm, q⟩ := h
    have rm : ∀ {j : Nat}, j ≤ 2 → Room j (A.deeper (envOfC "_law_parts" (defScope s__law_parts) s.heap.objs.size f cdv)) := fun hj => hr.mono hj
    refine ⟨_, pss_one (ps_ret (pe_callTy call_tuple_of (by rfl) m_tuple (by decide +kernel) (pa_cons (pe_lc (own := [("_law_k", 2)]) (g := gName 2) (tt := tYes) rfl sc__law_parts.nd (pi_range1 (by rfl) m_range (pa_cons (pe_call G__law_next (rm (by decide)) (by rfl) g__law_next k__law_next b__law_next .nil pass0 (pa_cons (pv 0) (pa_cons (pe_op op_add (pv 1) pe_int) pa_nil))) pa_nil)) (blkOk_by (N := nm__law_parts) (sc := defScope s__law_parts) (by decide +kernel)) (fun _ _ _ _ _ => pg_name (i := 2) sc__law_parts.nd rfl (Or.inl rfl)) (fun _ _ _ _ _ => pts_nil) (fun _ _ _ _ _ => (pe_call G__law_measure (rm (by decide)) (by rfl) g__law_measure k__law_measure b__law_measure .nil pass0 (pa_cons (pv 0) pa_nil)))) pa_nil))), ?_⟩
    refine ⟨.ref dk, rfl, natV most, rfl, _, _, rfl, rfl, dk, cl, lf, B, (most : Int) + 1, rfl, D0, by omega, by omega, nat_log (by omega), fun d H1 d0 d1 D1 k1 => ?_⟩
    obtain ⟨n, rfl⟩ : ∃ n : Nat, d = (n : Int) := ⟨d.toNat, by omega⟩
    refine ⟨n, rfl, by omega, by omega, fun D hD => lc_range (lo := 0) (n := ((n : Nat) : Int).toNat) (fun i H3 => ∃ (vs : List V) (ps : List Part), vs.length = i ∧ ps.length = i ∧ (∀ p ∈ ps, PtOk p) ∧ (∀ (j : Nat) (p : Part), ps[j]? = some p → ∃ t, vs[j]? = some (.ref t) ∧ SqT K H3 t [.int p.1, .int p.2]) ∧ H3 D = some (.lst vs) ∧ Dk H3 dk cl lf (B + 1 + 3 * i) ∧ KD dk lf H1 H3) ⟨[], [], rfl, rfl, fun _ h => (nomatch h), fun j p h => by simp at h, upd_same, D1.upd (D1.not hD), KD.of_same (same_upd hD)⟩ (fun i H3 hi hP => ?_) (fun H3 hP => ?_)⟩
    · obtain ⟨vs, ps, l1, l2, ok, hp, eD, D3, k3⟩ := hP
      rw [Int.toNat_natCast] at hi
      have nD := D1.not hD
      refine ⟨rfl, ?_⟩
      dsimp only [tYes]
      refine iteT ?_
      refine ⟨.ref dk, rfl, dk, cl, lf, B + 1 + 3 * i, rfl, D3, by omega, fun t p H4 okp ht D4 k4 => ?_⟩
      have eD4 := k4 D _ nD.1 nD.2.2 eD
      have ts4 : K1.TS K H3 H4 := D3.ts k4
      have ts5 : K1.TS K H4 (upd H4 D (.lst (vs ++ [.ref t]))) := ts_lst eD4
      refine ⟨vs, eD4, ?_, vs ++ [.ref t], ps ++ [p], ?_, ?_, ?_, ?_, upd_same, ?_, ?_⟩
      · exact Nat.lt_of_le_of_lt (show vs.length ≤ 1000 by omega) (by decide)
      · rw [List.length_append, l1]; rfl
      · rw [List.length_append, l2]; rfl
      · intro p' m
        rcases List.mem_append.mp m with m | m
        · exact ok _ m
        · rw [List.mem_singleton.mp m]; exact okp
      · intro j p' e
        by_cases c : j < ps.length
        · rw [List.getElem?_append_left c] at e
          obtain ⟨t', a1, a2⟩ := hp j p' e
          refine ⟨t', ?_, ts5 _ _ (ts4 _ _ a2)⟩
          rw [List.getElem?_append_left (by omega)]
          exact a1
        · rw [List.getElem?_append_right (by omega)] at e
          have e0 : j - ps.length = 0 := by
            have := (List.getElem?_eq_some_iff.mp e).1
            simp at this
            omega
          rw [e0] at e
          have ep : p = p' := by simpa using e
          subst ep
          refine ⟨t, ?_, ts5 _ _ ht⟩
          rw [List.getElem?_append_right (by omega), show j - vs.length = 0 by omega]
          rfl
      · exact (D4.upd nD).mono (by omega)
      · intro b o n1 n2 e
        rw [upd_ne (ne_of_none e hD)]
        exact k4 b o n1 n2 (k3 b o n1 n2 e)
    · obtain ⟨vs, ps, l1, l2, ok, hp, eD, D3, k3⟩ := hP
      rw [Int.toNat_natCast] at l1 l2
      refine ⟨D, vs, rfl, .inl ⟨.inl (.inl eD), fun l nl => ?_⟩⟩
      have t1 : K1.TS K H3 (upd H3 l (.tup vs)) := ts_new nl
      refine q l ps _ ⟨vs, .inl (.inl upd_same), by omega, fun i p e => ?_⟩ ok (by omega) ((D3.upd (D3.not nl)).mono (by rw [Int.toNat_natCast]; omega)) ((k1.trans k3).trans (KD.of_same (same_upd nl)))
      obtain ⟨t, a1, a2⟩ := hp i p e
      exact ⟨t, a1, t1 _ _ a2⟩
end
end K3
namespace K3
open PySem PySem.Spec PyProof.Rows L2 K1
abbrev s__law_up : Stmt := topS 13
abbrev nm__law_up : List Str := ["_law_end", "_law_by"]
abbrev pm__law_up : List Str := ["_law_end", "_law_by"]
theorem sc__law_up : FnScope nm__law_up pm__law_up (defScope s__law_up) := ⟨rfl, rfl, rfl, by decide +kernel, rfl, by decide +kernel, by decide +kernel⟩
abbrev s__law_laid : Stmt := topS 14
abbrev nm__law_laid : List Str := ["_law_pieces", "_law_beginning", "_law_places", "_law_end", "_law_number"]
abbrev pm__law_laid : List Str := ["_law_pieces", "_law_beginning"]
theorem sc__law_laid : FnScope nm__law_laid pm__law_laid (defScope s__law_laid) := ⟨rfl, rfl, rfl, by decide +kernel, rfl, by decide +kernel, by decide +kernel⟩
abbrev s_rounded : Stmt := topS 1
abbrev nm_rounded : List Str := ["number", "multiple"]
abbrev pm_rounded : List Str := ["number", "multiple"]
theorem sc_rounded : FnScope nm_rounded pm_rounded (defScope s_rounded) := ⟨rfl, rfl, rfl, by decide +kernel, rfl, by decide +kernel, by decide +kernel⟩
abbrev s_laid_end : Stmt := topS 2
abbrev nm_laid_end : List Str := ["part", "end", "bits", "multiple"]
abbrev pm_laid_end : List Str := ["part", "end"]
theorem sc_laid_end : FnScope nm_laid_end pm_laid_end (defScope s_laid_end) := ⟨rfl, rfl, rfl, by decide +kernel, rfl, by decide +kernel, by decide +kernel⟩
abbrev s_end_of : Stmt := topS 3
abbrev nm_end_of : List Str := ["parts", "order", "end", "number"]
abbrev pm_end_of : List Str := ["parts", "order"]
theorem sc_end_of : FnScope nm_end_of pm_end_of (defScope s_end_of) := ⟨rfl, rfl, rfl, by decide +kernel, rfl, by decide +kernel, by decide +kernel⟩
abbrev s_bits_of : Stmt := topS 4
abbrev nm_bits_of : List Str := ["parts", "order"]
abbrev pm_bits_of : List Str := ["parts", "order"]
theorem sc_bits_of : FnScope nm_bits_of pm_bits_of (defScope s_bits_of) := ⟨rfl, rfl, rfl, by decide +kernel, rfl, by decide +kernel, by decide +kernel⟩
section
variable {P : Program} {w : World} {K : PySem.W.Frag} {mg : Str → Option Value} {base : Heap}
def sp__law_up : Sp := fun vs H Q _ => ∃ (e m : Int), vs = [.int e, .int m] ∧ AlOk m ∧ Q (.int (rup e m)) H
def sp_rounded : Sp := sp__law_up
theorem al_log {m : Int} (h : AlOk m) : m.natAbs.log2 < 9000 := by
  rcases h with rfl | rfl | rfl | rfl | rfl <;> decide +kernel
theorem ok__law_up {f : Addr} {fd : FuncData} (F : Fun K "_law_up" "_law_up" s__law_up f fd) : FnOk P w K mg base CX0 1 f fd pm__law_up sp__law_up := by
  refine F.ok sc__law_up (fun vs H Q E h => ?_) (fun cdv A outer s H vs Q E hr h => ?_)
  · obtain ⟨e, m, rfl, _⟩ := h
    rfl
  · obtain ⟨e, m, rfl, hm, q⟩ := h
    refine ⟨_, pss_one (ps_ret (pe_op op_mul (pe_op op_fdivW (pe_op op_sub (pe_op op_add (pv 0) (pv 1)) pe_int) (pv 1)) (pv 1))), ?_⟩
    have hp := hm.pos
    exact ⟨.int e, rfl, .int m, rfl, _, _, rfl, rfl, _, _, rfl, rfl, .int m, rfl, _, _, rfl, rfl, ⟨hp.1, al_log hm⟩, .int m, rfl, _, _, rfl, rfl, .inr ⟨by omega, by omega⟩, q⟩
theorem ok_rounded {f : Addr} {fd : FuncData} (F : Fun K "rounded" "rounded" s_rounded f fd) : FnOk P w K mg base CX0 1 f fd pm_rounded sp_rounded := by
  refine F.ok sc_rounded (fun vs H Q E h => ?_) (fun cdv A outer s H vs Q E hr h => ?_)
  · obtain ⟨e, m, rfl, _⟩ := h
    rfl
  · obtain ⟨e, m, rfl, hm, q⟩ := h
    refine ⟨_, pss_one (ps_ret (pe_op op_mul (pe_un un_neg (pe_op op_fdivW (pe_un un_neg (pv 0)) (pv 1))) (pv 1))), ?_⟩
    have hp := hm.pos
    rw [← rup_neg hm] at q
    exact ⟨.int e, rfl, _, rfl, .int m, rfl, _, _, rfl, rfl, ⟨hp.1, al_log hm⟩, _, rfl, .int m, rfl, _, _, rfl, rfl, .inr ⟨by omega, by omega⟩, q⟩
def sp_laid_end (K : PySem.W.Frag) : Sp := fun vs H Q _ => ∃ (t : Addr) (b m e : Int), vs = [.ref t, .int e] ∧ SqT K H t [.int b, .int m] ∧ AlOk m ∧ Q (.int (lay (b, m) e)) H
theorem ok_laid_end {f : Addr} {fd : FuncData} (F : Fun K "laid_end" "laid_end" s_laid_end f fd) (C_rounded : Cal P w K mg base "rounded" pm_rounded 1 sp_rounded) : FnOk P w K mg base CX0 2 f fd pm_laid_end (sp_laid_end K) := by
  obtain ⟨f_rounded, fd_rounded, G_rounded, g_rounded, k_rounded, b_rounded⟩ := C_rounded.ex
  refine F.ok sc_laid_end (fun vs H Q E h => ?_) (fun cdv A outer s H vs Q E hr h => ?_)
  · obtain ⟨t, b, m, e, rfl, _⟩ := h
    rfl
  · obtain ⟨t, b, m, e, rfl, ht, hm, q⟩ := h
    have rm : ∀ {j : Nat}, j ≤ 1 → Room j (A.deeper (envOfC "laid_end" (defScope s_laid_end) s.heap.objs.size f cdv)) := fun hj => hr.mono hj
    refine ⟨_, pss_cons (ps_asg (pv 0) (pg_tup (by rfl) (pgs_cons (pg_name (i := 2) sc_laid_end.nd rfl (.inl rfl)) (pgs_cons (pg_name (i := 3) sc_laid_end.nd rfl (.inl rfl)) pgs_nil))))
      (pss_one (ps_ret (pe_ifExp (pt_cmpR op_eq (pv 2) pe_int (nomark _)) (pv 1) (pe_op op_add (pe_call G_rounded (rm (by decide)) (by rfl) g_rounded k_rounded b_rounded .nil pass0 (pa_cons (pv 1) (pa_cons (pv 3) pa_nil))) (pv 2))))), ?_⟩
    refine ⟨.ref t, rfl, t, _, rfl, ht, rfl, _, _, rfl, _, _, rfl, rfl, .int b, rfl, rfl, _, rfl, ite2 (fun c => ?_) (fun c => ?_)⟩
    · have hb : b = 0 := V.int.inj (of_decide_eq_true c)
      have e1 : lay (b, m) e = e := by unfold lay; rw [if_pos hb]
      rw [e1] at q
      exact ⟨.int e, rfl, q⟩
    · have hb : b ≠ 0 := fun z => c (decide_eq_true (congrArg V.int z))
      have e1 : lay (b, m) e = rup e m + b := by unfold lay; rw [if_neg hb]
      rw [e1] at q
      exact ⟨.int e, rfl, .int m, rfl, e, m, rfl, hm, .int b, rfl, _, _, rfl, rfl, q⟩
/-- parts, an order of some of them -/
def Asked (K : PySem.W.Frag) (H : Hp) (a o : Addr) (ps : List Part) (os : List Nat) : Prop := Pts K H a ps ∧ SqT K H o (os.map natV) ∧ (∀ p ∈ ps, PtOk p) ∧ (∀ n ∈ os, n < ps.length)
def sp_end_of (K : PySem.W.Frag) : Sp := fun vs H Q _ => ∃ (a o : Addr) (ps : List Part) (os : List Nat), vs = [.ref a, .ref o] ∧ Asked K H a o ps os ∧ Q (.int (laidF ps os).2) H
def sp_bits_of (K : PySem.W.Frag) : Sp := sp_end_of K
theorem natV_at {os : List Nat} {i : Nat} {x : V} (h : (os.map natV)[i]? = some x) : ∃ n, os[i]? = some n ∧ x = natV n := by
  rw [List.getElem?_map] at h
  cases e : os[i]? with
  | none => rw [e] at h; cases h
  | some n => rw [e] at h; exact ⟨n, rfl, (Option.some.inj h).symm⟩
theorem laid_take {ps : List Part} {os : List Nat} {i n : Nat} (h : os[i]? = some n) : laidF ps (os.take (i + 1)) = step ps (laidF ps (os.take i)) n := by
  rw [List.take_add_one, h]
  exact laidF_snoc ps _ n
theorem ok_end_of {f : Addr} {fd : FuncData} (F : Fun K "end_of" "end_of" s_end_of f fd) (C_laid_end : Cal P w K mg base "laid_end" pm_laid_end 2 (sp_laid_end K)) : FnOk P w K mg base CX0 3 f fd pm_end_of (sp_end_of K) := by
  obtain ⟨f_laid_end, fd_laid_end, G_laid_end, g_laid_end, k_laid_end, b_laid_end⟩ := C_laid_end.ex
  refine F.ok sc_end_of (fun vs H Q E h => ?_) (fun cdv A outer s H vs Q E hr h => ?_)
  · obtain ⟨a, o, ps, os, rfl, _⟩ := h
    rfl
  · obtain ⟨a, o, ps, os, rfl, ⟨hP, hO, hok, hb⟩, q⟩ := h
    have rm : ∀ {j : Nat}, j ≤ 2 → Room j (A.deeper (envOfC "end_of" (defScope s_end_of) s.heap.objs.size f cdv)) := fun hj => hr.mono hj
    refine ⟨_, pss_cons (ps_set (i := 2) sc_end_of.nd rfl (.inl rfl) pe_int)
      (pss_cons (ps_for PassesOwn.never rfl (pi_tup (pv 1)) (pg_name (i := 3) sc_end_of.nd rfl (.inl rfl))
      (pss_one (ps_set (i := 2) sc_end_of.nd rfl (.inl rfl) (pe_call G_laid_end (rm (by decide)) (by rfl) g_laid_end k_laid_end b_laid_end .nil pass0 (pa_cons (pe_ix ix_tup (pv 0) (pv 3) (fun _ _ => rfl)) (pa_cons (pv 2) pa_nil))))))
      (pss_one (ps_ret (pv 2)))), ?_⟩
    refine ⟨.ref o, rfl, o, rfl, ⟨_, hO⟩, for_tup (xs := os.map natV) (fun i σ H' => ∃ x3, σ = [some (.ref a), some (.ref o), some (.int (laidF ps (os.take i)).2), x3] ∧ H' = H) ⟨none, rfl, rfl⟩ (fun i σ H' _ hp => ?_) (fun i x σ H' hx hp => ?_) (fun σ H' hp => ?_)⟩
    · obtain ⟨_, _, rfl⟩ := hp
      exact hO
    · obtain ⟨x3, rfl, rfl⟩ := hp
      obtain ⟨n, en, rfl⟩ := natV_at hx
      have hn : n < ps.length := hb n (List.mem_of_getElem? en)
      obtain ⟨vs, t, h1, h2, h3⟩ := hP.at hn
      refine ⟨.ref a, rfl, natV n, rfl, a, vs, n, .ref t, rfl, rfl, h1, h2, .int _, rfl, t, _, _, _, rfl, h3, (pt_ok hok n).2.2, ?_⟩
      refine ⟨some (natV n), ?_, rfl⟩
      rw [laid_take en, step_end]
      rfl
    · obtain ⟨x3, rfl, rfl⟩ := hp
      rw [List.length_map, List.take_length]
      exact ⟨_, rfl, q⟩
theorem ok_bits_of {f : Addr} {fd : FuncData} (F : Fun K "bits_of" "bits_of" s_bits_of f fd) (C_end_of : Cal P w K mg base "end_of" pm_end_of 3 (sp_end_of K)) : FnOk P w K mg base CX0 4 f fd pm_bits_of (sp_bits_of K) := by
  obtain ⟨f_end_of, fd_end_of, G_end_of, g_end_of, k_end_of, b_end_of⟩ := C_end_of.ex
  refine F.ok sc_bits_of (fun vs H Q E h => ?_) (fun cdv A outer s H vs Q E hr h => ?_)
  · obtain ⟨a, o, ps, os, rfl, _⟩ := h
    rfl
  · obtain ⟨a, o, ps, os, rfl, hA, q⟩ := h
    have rm : ∀ {j : Nat}, j ≤ 3 → Room j (A.deeper (envOfC "bits_of" (defScope s_bits_of) s.heap.objs.size f cdv)) := fun hj => hr.mono hj
    refine ⟨_, pss_one (ps_ret (pe_call G_end_of (rm (by decide)) (by rfl) g_end_of k_end_of b_end_of .nil pass0 (pa_cons (pv 0) (pa_cons (pv 1) pa_nil)))), ?_⟩
    exact ⟨.ref a, rfl, .ref o, rfl, a, o, ps, os, rfl, hA, q⟩
def sp__law_laid (K : PySem.W.Frag) : Sp := fun vs H Q _ => ∃ (a o : Addr) (ps : List Part) (os : List Nat), vs = [.ref a, .ref o] ∧ Asked K H a o ps os ∧ ps.length ≤ 1000 ∧
  ∀ (r t : Addr) (H' : Hp), Same H H' → SqT K H' r [.ref t, .int (laidF ps os).2] → SqT K H' t ((laidF ps os).1.map V.int) → Q (.ref r) H'
theorem rep_zero (n : Nat) : (List.replicate n [V.int 0]).flatten = (List.replicate n (0 : Int)).map V.int := by
  induction n with
  | zero => rfl
  | succ n ih => rw [List.replicate_succ, List.replicate_succ, List.flatten_cons, ih]; rfl
theorem ixN_nat {j n : Nat} (h : j < n) : ixN n (j : Int) = some j := by
  unfold ixN
  rw [if_pos (by omega), if_pos (by omega)]
  simp
theorem ok__law_laid {f : Addr} {fd : FuncData} (F : Fun K "_law_laid" "_law_laid" s__law_laid f fd) (C__law_up : Cal P w K mg base "_law_up" pm__law_up 1 sp__law_up) (m_len : mg "len" = none) (m_tuple : mg "tuple" = none) : FnOk P w K mg base CX0 2 f fd pm__law_laid (sp__law_laid K) := by
  obtain ⟨f__law_up, fd__law_up, G__law_up, g__law_up, k__law_up, b__law_up⟩ := C__law_up.ex
  refine F.ok sc__law_laid (fun vs H Q E h => ?_) (fun cdv A outer s H vs Q E hr h => ?_)
  · obtain ⟨a, o, ps, os, rfl, _⟩ := h
    rfl
  · obtain ⟨a, o, ps, os, rfl, ⟨hP, hO, hok, hb⟩, hl, q⟩ := h
    have rm : ∀ {j : Nat}, j ≤ 1 → Room j (A.deeper (envOfC "_law_laid" (defScope s__law_laid) s.heap.objs.size f cdv)) := fun hj => hr.mono hj
    refine ⟨_, pss_cons (ps_set (i := 2) sc__law_laid.nd rfl (.inl rfl) (pe_op op_rep (pe_lst (pa_cons pe_int pa_nil)) (pe_callB call_len_seq (by rfl) m_len PySem.boot_len (pa_cons (pv 0) pa_nil))))
      (pss_cons (ps_set (i := 3) sc__law_laid.nd rfl (.inl rfl) pe_int)
      (pss_cons (ps_for PassesOwn.never rfl (pi_tup (pv 1)) (pg_name (i := 4) sc__law_laid.nd rfl (.inl rfl))
      (pss_one (ps_if (pt_cmpR op_gt (pe_ix ix_tup (pe_ix ix_tup (pv 0) (pv 4) (fun _ _ => rfl)) pe_int (fun _ _ => rfl)) pe_int (nomark _))
      (pss_cons (ps_asg (pe_call G__law_up (rm (by decide)) (by rfl) g__law_up k__law_up b__law_up .nil pass0 (pa_cons (pv 3) (pa_cons (pe_ix ix_tup (pe_ix ix_tup (pv 0) (pv 4) (fun _ _ => rfl)) pe_int (fun _ _ => rfl)) pa_nil))) (pg_sub (pv 2) (pv 4) set_list))
      (pss_one (ps_set (i := 3) sc__law_laid.nd rfl (.inl rfl) (pe_op op_add (pe_ix ix_list (pv 2) (pv 4) (fun _ _ => rfl)) (pe_ix ix_tup (pe_ix ix_tup (pv 0) (pv 4) (fun _ _ => rfl)) pe_int (fun _ _ => rfl)))))) pss_nil)))
      (pss_one (ps_ret (pe_tup (pa_cons (pe_callTy call_tuple_of (by rfl) m_tuple (by decide +kernel) (pa_cons (pv 2) pa_nil)) (pa_cons (pv 3) pa_nil))))))), ?_⟩
    obtain ⟨ws, hw, lw⟩ := hP.len
    refine ⟨(by show 1 ≤ sizeLine; decide), fun z nz => ?_⟩
    have s1 : Same H (upd H z (.lst [V.int 0])) := same_upd nz
    have c1 : (upd H z (.lst [V.int 0])) z = some (.lst [V.int 0]) := upd_same
    generalize upd H z (HO.lst [V.int 0]) = H1 at s1 c1 ⊢
    refine ⟨.ref a, rfl, a, ws, rfl, .inr (ts_same s1 _ _ hw), z, _, [V.int 0], rfl, rfl, c1, by omega, by omega, ?_, fun p np => ?_⟩
    · rw [Int.toNat_natCast]
      exact Nat.le_trans (show 1 * ws.length ≤ 1000 by omega) (by decide)
    rw [Int.toNat_natCast, lw, rep_zero]
    have s2 : Same H1 (upd H1 p (.lst ((List.replicate ps.length (0 : Int)).map V.int))) := same_upd np
    have c2 : (upd H1 p (.lst ((List.replicate ps.length (0 : Int)).map V.int))) p = some (.lst ((List.replicate ps.length (0 : Int)).map V.int)) := upd_same
    generalize upd H1 p (HO.lst ((List.replicate ps.length (0 : Int)).map V.int)) = H2 at s2 c2 ⊢
    have np0 : H p = none := s1.free np
    refine ⟨.ref o, rfl, o, rfl, ⟨_, ts_same (s1.trans s2) _ _ hO⟩, for_tup (xs := os.map natV) (fun i σ H' => ∃ x4, σ = [some (.ref a), some (.ref o), some (.ref p), some (.int (laidF ps (os.take i)).2), x4] ∧ H' p = some (.lst ((laidF ps (os.take i)).1.map V.int)) ∧ Same H H') ⟨none, rfl, c2, s1.trans s2⟩ (fun i σ H' _ hp => ?_) (fun i x σ H' hx hp => ?_) (fun σ H' hp => ?_)⟩
    · obtain ⟨_, _, _, s'⟩ := hp
      exact ts_same s' _ _ hO
    · obtain ⟨x4, rfl, eP, s'⟩ := hp
      obtain ⟨n, en, rfl⟩ := natV_at hx
      have hn : n < ps.length := hb n (List.mem_of_getElem? en)
      obtain ⟨vs, t, h1, h2, h3⟩ := (hP.ts (ts_same s')).at hn
      have okn := pt_ok hok n
      have lst := laidF_len ps (os.take i)
      generalize hst : laidF ps (os.take i) = st at eP lst ⊢
      have hst2 : laidF ps (os.take (i + 1)) = step ps st n := by rw [laid_take en, hst]
      refine ⟨.ref a, rfl, natV n, rfl, a, vs, n, .ref t, rfl, rfl, h1, h2, t, _, 0, _, rfl, rfl, h3, atI_nat (j := 0) rfl, _, _, rfl, rfl, _, rfl, ite2 (fun c => ?_) (fun c => ?_)⟩
      · have hpos : 0 < (pt ps n).1 := of_decide_eq_true c
        have hz : (pt ps n).1 ≠ 0 := by omega
        have e2 : step ps st n = (st.1.set n (rup st.2 (pt ps n).2), rup st.2 (pt ps n).2 + (pt ps n).1) := by unfold step; rw [if_neg hz]
        refine ⟨.int st.2, rfl, .ref a, rfl, natV n, rfl, a, vs, n, .ref t, rfl, rfl, h1, h2, t, _, 1, _, rfl, rfl, h3, atI_nat (j := 1) rfl, _, _, rfl, okn.2.2, ?_⟩
        refine ⟨.ref p, rfl, natV n, rfl, p, _, n, n, rfl, rfl, eP, ?_, ?_⟩
        · rw [List.length_map]; exact ixN_nat (by omega)
        rw [← List.map_set]
        have s3 : Same H (upd H' p (.lst ((st.1.set n (rup st.2 (pt ps n).2)).map V.int))) := fun b u e => by
          rw [upd_ne (ne_of_none e np0)]
          exact s' b u e
        have t3 : K1.TS K H' (upd H' p (.lst ((st.1.set n (rup st.2 (pt ps n).2)).map V.int))) := ts_lst eP
        have c3 : (upd H' p (.lst ((st.1.set n (rup st.2 (pt ps n).2)).map V.int))) p = some (.lst ((st.1.set n (rup st.2 (pt ps n).2)).map V.int)) := upd_same
        generalize upd H' p (HO.lst ((st.1.set n (rup st.2 (pt ps n).2)).map V.int)) = H3 at s3 t3 c3 ⊢
        have g3 : ((st.1.set n (rup st.2 (pt ps n).2)).map V.int)[n]? = some (.int (rup st.2 (pt ps n).2)) := by
          rw [List.getElem?_map, List.getElem?_set_self (by omega)]
          rfl
        refine ⟨.ref p, rfl, natV n, rfl, p, _, n, _, rfl, rfl, .inl (.inl c3), atI_nat g3, .ref a, rfl, natV n, rfl, a, vs, n, .ref t, rfl, rfl, t3 _ _ h1, h2, t, _, 0, _, rfl, rfl, t3 _ _ h3, atI_nat (j := 0) rfl, _, _, rfl, rfl, ?_⟩
        refine ⟨some (natV n), ?_, ?_, s3⟩
        · rw [hst2, e2]; rfl
        · rw [hst2, e2]; exact c3
      · have hz : (pt ps n).1 = 0 := by
          have h0 := okn.1
          have : ¬ 0 < (pt ps n).1 := fun z => c (decide_eq_true z)
          omega
        have e2 : step ps st n = st := by unfold step; rw [if_pos hz]
        refine ⟨some (natV n), ?_, ?_, s'⟩
        · rw [hst2, e2]; rfl
        · rw [hst2, e2]; exact eP
    · obtain ⟨x4, rfl, eP, s'⟩ := hp
      rw [List.length_map, List.take_length] at eP ⊢
      refine ⟨.ref p, rfl, p, _, rfl, .inl ⟨.inl (.inl eP), fun t nt => ?_⟩⟩
      refine ⟨_, rfl, (by show 2 ≤ sizeLine; decide), fun r nr => ?_⟩
      exact q r t _ ((s'.trans (same_upd nt)).trans (same_upd nr)) (.inl (.inl upd_same)) (ts_new nr _ _ (.inl (.inl upd_same)))
end
end K3
namespace K3
open PySem PySem.Spec PyProof.Rows L2 K1
abbrev s__law_falling : Stmt := topS 15
abbrev nm__law_falling : List Str := ["_law_pieces", "_law_found", "_law_by", "_law_k"]
abbrev pm__law_falling : List Str := ["_law_pieces"]
theorem sc__law_falling : FnScope nm__law_falling pm__law_falling (defScope s__law_falling) := ⟨rfl, rfl, rfl, by decide +kernel, rfl, by decide +kernel, by decide +kernel⟩
section
variable {P : Program} {w : World} {K : PySem.W.Frag} {mg : Str → Option Value} {base : Heap}
def sp__law_falling (K : PySem.W.Frag) : Sp := fun vs H Q _ => ∃ (a : Addr) (ps : List Part), vs = [.ref a] ∧ Pts K H a ps ∧ ps.length ≤ 100 ∧ ∀ (r : Addr) (H' : Hp), Same H H' → SqT K H' r ((fallF ps).map natV) → Q (.ref r) H'
theorem ok__law_falling {f : Addr} {fd : FuncData} (F : Fun K "_law_falling" "_law_falling" s__law_falling f fd) (m_tuple : mg "tuple" = none) (m_range : mg "range" = none) (m_len : mg "len" = none) : FnOk P w K mg base CX0 1 f fd pm__law_falling (sp__law_falling K) := by
  refine F.ok sc__law_falling (fun vs H Q E h => ?_) (fun cdv A outer s H vs Q E hr h => ?_)
  · obtain ⟨a, ps, rfl, _⟩ := h
    rfl
  · obtain ⟨a, ps, rfl, hP, hl, q⟩ := h
    refine ⟨_, pss_cons (ps_set (i := 1) sc__law_falling.nd rfl (.inl rfl) (pe_tup pa_nil))
      (pss_cons (ps_for PassesOwn.never rfl (pi_list (pe_lst (pa_cons pe_int (pa_cons pe_int (pa_cons pe_int (pa_cons pe_int (pa_cons pe_int pa_nil))))))) (pg_name (i := 2) sc__law_falling.nd rfl (.inr rfl))
      (pss_one (ps_set (i := 1) sc__law_falling.nd rfl (.inl rfl) (pe_op op_catA (pv 1) (pe_callTy call_tuple_of (by rfl) m_tuple (by decide +kernel) (pa_cons (pe_lc (own := [("_law_k", 3)]) (g := gName 3) rfl sc__law_falling.nd (pi_range1 (by rfl) m_range (pa_cons (pe_callB call_len_seq (by rfl) m_len PySem.boot_len (pa_cons (pv 0) pa_nil)) pa_nil)) (blkOk_by (N := nm__law_falling) (sc := defScope s__law_falling) (by decide +kernel)) (fun _ _ _ _ _ => pg_name (i := 3) sc__law_falling.nd rfl (Or.inl rfl)) (fun _ _ _ _ _ => (pts_one (pt_cmpR op_eq (pe_ix (show IxR _ (rIxT K) from ix_tup) (pe_ix (show IxR _ (rIxT K) from ix_tup) (pv 0) (pv 3) (fun _ _ => rfl)) pe_int (fun _ _ => rfl)) (pv 2) (nomark _)))) (fun _ _ _ _ _ => (pv 3))) pa_nil))))))
      (pss_one (ps_ret (pv 1)))), ?_⟩
    refine ⟨Nat.zero_le _, fun t0 n0 => ⟨(by show 5 ≤ sizeLine; decide), fun l nl => ?_⟩⟩
    have s1 : Same H (upd H t0 (.tup [])) := same_upd n0
    have c1 : (upd H t0 (.tup [])) t0 = some (.tup []) := upd_same
    generalize upd H t0 (HO.tup []) = H1 at s1 c1 nl ⊢
    have s2 : Same H1 (upd H1 l (.lst [.int 64, .int 32, .int 16, .int 8, .int 1])) := same_upd nl
    have c2 : (upd H1 l (.lst [.int 64, .int 32, .int 16, .int 8, .int 1])) l = some (.lst (als.map V.int)) := upd_same
    generalize upd H1 l (HO.lst [.int 64, .int 32, .int 16, .int 8, .int 1]) = H2 at s2 c2 ⊢
    have s02 := s1.trans s2
    obtain ⟨ws, hw, lw⟩ := hP.len
    refine ⟨l, rfl, ⟨_, .inl (.inl c2)⟩, for_list (xs := als.map V.int) (fun i σ H' => ∃ (r : Addr) (x2 x3 : Option V), σ = [some (.ref a), some (.ref r), x2, x3] ∧ SqT K H' r (((als.take i).flatMap (ofAl ps ps.length)).map natV) ∧ Same H2 H') ⟨t0, none, none, rfl, .inl (.inl (s2 _ _ c1)), Same.refl _⟩ (fun i σ H' _ hp => ?_) (fun i x σ H' hx hp => ?_) (fun σ H' hp => ?_)⟩
    · obtain ⟨_, _, _, _, _, s'⟩ := hp
      exact .inl (.inl (s' _ _ c2))
    · obtain ⟨r, x2, x3, rfl, hr', s'⟩ := hp
      rw [List.getElem?_map] at hx
      obtain ⟨z, ez, rfl⟩ := Option.map_eq_some_iff.mp hx
      have hi : i < 5 := (List.getElem?_eq_some_iff.mp ez).1
      have s0' := s02.trans s'
      refine ⟨.ref r, rfl, .ref a, rfl, a, ws, rfl, .inr (ts_same s0' _ _ hw), (ws.length : Nat), rfl, by omega, by omega, fun D hD => lc_range (lo := 0) (n := ((ws.length : Nat) : Int).toNat) (fun m H5 => H5 D = some (.lst ((ofAl ps m z).map natV)) ∧ Same H' H5) ⟨upd_same, same_upd hD⟩ (fun m H5 hm hp5 => ?_) (fun H5 hp5 => ?_)⟩
      · obtain ⟨eD, s5⟩ := hp5
        rw [Int.toNat_natCast, lw] at hm
        have e0 : (0 : Int) + (m : Int) = (m : Int) := Int.zero_add _
        rw [e0]
        obtain ⟨vs, t, h1, h2, h3⟩ := (hP.ts (ts_same (K := K) (s0'.trans s5))).at hm
        have hll := ofAl_len ps m z
        refine ⟨rfl, .ref a, rfl, natV m, rfl, a, vs, m, .ref t, rfl, rfl, h1, h2, t, _, _, _, rfl, rfl, h3, atI_nat (j := 1) rfl, .int z, rfl, rfl, _, rfl, ite2 (fun c => ?_) (fun c => ?_)⟩
        · have ce := V.int.inj (of_decide_eq_true c)
          refine ⟨natV m, rfl, _, eD, ?_, ?_, ?_⟩
          · rw [List.length_map]
            exact Nat.lt_of_le_of_lt (show (ofAl ps m z).length ≤ 1000 by omega) (by decide)
          · rw [ofAl_succ, if_pos ce, List.map_append]
            exact upd_same
          · intro b u e
            rw [upd_ne (ne_of_none e hD)]
            exact s5 b u e
        · rw [ofAl_succ, if_neg (fun z => c (decide_eq_true (congrArg V.int z)))]
          exact ⟨eD, s5⟩
      · obtain ⟨eD, s5⟩ := hp5
        rw [Int.toNat_natCast, lw] at eD
        refine ⟨D, _, rfl, .inl ⟨.inl (.inl eD), fun u nu => ?_⟩⟩
        have s6 : Same H5 (upd H5 u (.tup ((ofAl ps ps.length z).map natV))) := same_upd nu
        have c6 : (upd H5 u (.tup ((ofAl ps ps.length z).map natV))) u = some (.tup ((ofAl ps ps.length z).map natV)) := upd_same
        generalize upd H5 u (HO.tup ((ofAl ps ps.length z).map natV)) = H6 at s6 c6 ⊢
        have hf := fall_len ps i
        have ho := ofAl_len ps ps.length z
        have hm : i * ps.length ≤ 5 * 100 := Nat.mul_le_mul (by omega) hl
        refine catA_any (ts_same (s5.trans s6) _ _ hr') (.inl (.inl c6)) (by rw [List.length_map, List.length_map]; exact Nat.le_trans (show _ ≤ 1000 by omega) (by decide)) fun r7 H7 s7 h7 => ?_
        refine ⟨r7, _, _, rfl, ?_, s'.trans ((s5.trans s6).trans s7)⟩
        rw [List.take_add_one, ez, List.flatMap_append, List.map_append]
        replace h7 : SqT K H7 r7 (((als.take i).flatMap (ofAl ps ps.length)).map natV ++ (ofAl ps ps.length z).map natV) := h7
        simpa using h7
    · obtain ⟨r, x2, x3, rfl, hr', s'⟩ := hp
      rw [List.length_map, List.take_length] at hr'
      exact ⟨.ref r, rfl, q r H' (s02.trans s') hr'⟩
end
end K3
namespace K3
open PySem PySem.Spec PyProof.Rows L2 K1
abbrev s_falling : Stmt := topS 5
abbrev nm_falling : List Str := ["parts"]
abbrev pm_falling : List Str := ["parts"]
theorem sc_falling : FnScope nm_falling pm_falling (defScope s_falling) := ⟨rfl, rfl, rfl, by decide +kernel, rfl, by decide +kernel, by decide +kernel⟩
abbrev s_law : Stmt := topS 16
abbrev nm_law : List Str := ["_law_script", "_law_drawn", "_law_turn", "_law_pieces", "_law_order", "_law_found", "_law_many", "_law_by"]
abbrev pm_law : List Str := ["_law_script"]
theorem sc_law : FnScope nm_law pm_law (defScope s_law) := ⟨rfl, rfl, rfl, by decide +kernel, rfl, by decide +kernel, by decide +kernel⟩
section
variable {P : Program} {w : World} {K : PySem.W.Frag} {mg : Str → Option Value} {base : Heap} {T : List (Addr × Str)}
def natsD (b : List Nat) : PyData := .tuple (b.map fun (n : Nat) => PyData.int (n : Int))
theorem nats_dp {H : Hp} : ∀ b : List Nat, DpAll K H (b.map natV) (b.map fun (n : Nat) => PyData.int (n : Int))
  | [] => .nil
  | x :: b => .cons (.int _) (nats_dp b)
theorem nats_pl (b : List Nat) : pl (natsD b) = true := plA_of fun d h => by
  obtain ⟨x, _, rfl⟩ := List.mem_map.mp h
  rfl
theorem tabs_kd {H H' : Hp} {dk cl lf : Addr} {B : Nat} (t : LamX.Tabs T H) (D : Dk H dk cl lf B) (k : KD dk lf H H') : LamX.Tabs T H' := fun p hp => by
  obtain ⟨ps, h1, h2, h3⟩ := t p hp
  have keep : ∀ b o, H b = some o → (∀ xs, o ≠ .lst xs) → H' b = some o := fun b o e n => by
    obtain ⟨⟨_, _, _, e1, _, e3, _⟩, _⟩ := D
    refine k b o (fun z => ?_) (fun z => ?_) e
    · subst z; rw [e1] at e; exact n _ (Option.some.inj e).symm
    · subst z; rw [e3] at e; exact n _ (Option.some.inj e).symm
  refine ⟨ps, keep _ _ h1 (fun xs z => by cases z), h2, fun pos cv hc => ?_⟩
  obtain ⟨c, e1, e2⟩ := h3 pos cv hc
  exact ⟨c, e1, keep _ _ e2 (fun xs z => by unfold LamX.CodeO at z; cases z)⟩
theorem ts_ext {H H' : Hp} (e : LamX.ExtN H H') : K1.TS K H H' := fun a xs h => by
  rcases h with (h | ⟨o, h⟩) | h
  · exact .inl (.inl (e _ _ h (fun ps z => by cases z)))
  · exact .inl (.inr ⟨o, e _ _ h (fun ps z => by cases z)⟩)
  · exact .inr h
theorem dk_ext {H H' : Hp} {dk cl lf : Addr} {B : Nat} (D : Dk H dk cl lf B) (e : LamX.ExtN H H') : Dk H' dk cl lf B := by
  obtain ⟨⟨cells, lefts, n, e1, e2, e3, r⟩, ne⟩ := D
  exact ⟨⟨cells, lefts, n, e _ _ e1 (fun ps z => by cases z), e _ _ e2 (fun ps z => by cases z), e _ _ e3 (fun ps z => by cases z), r⟩, ne⟩
def sp_falling (K : PySem.W.Frag) (T : List (Addr × Str)) : Sp := fun vs H Q _ => ∃ (a : Addr) (ps : List Part), vs = [.ref a] ∧ Pts K H a ps ∧ (∀ p ∈ ps, PtOk p) ∧ ps.length ≤ 100 ∧ LamX.Tabs T H ∧ ∀ (r : Addr) (H' : Hp), LamX.ExtN H H' → LamX.Tabs T H' → SqT K H' r ((fallF ps).map natV) → Q (.ref r) H'
def sp_law (K : PySem.W.Frag) (T : List (Addr × Str)) : Sp := fun vs H Q _ => ∃ (a : Addr) (ns : List Int), vs = [.ref a] ∧ SqL K H a (ns.map V.int) ∧ ns.length ≤ 63 ∧ LamX.Tabs T H ∧ ∀ H', Q (.bl true) H'
theorem ok_law {f : Addr} {fd : FuncData} (F : Fun K "law" "law" s_law f fd) (C__law_draws : Cal P w K mg base "_law_draws" pm__law_draws 1 (sp__law_draws K)) (C__law_parts : Cal P w K mg base "_law_parts" pm__law_parts 3 (sp__law_parts K)) (C_falling : Cal P w K mg base "falling" pm_falling 4 (sp_falling K T)) (C_bits_of : Cal P w K mg base "bits_of" pm_bits_of 4 (sp_bits_of K)) (C__law_next : Cal P w K mg base "_law_next" pm__law_next 1 sp__law_next) (C__law_just : Cal P w K mg base "_law_just" pm__law_just 5 (sp__law_just K 3)) (C__law_falling : Cal P w K mg base "_law_falling" pm__law_falling 1 (sp__law_falling K)) (C__law_laid : Cal P w K mg base "_law_laid" pm__law_laid 2 (sp__law_laid K)) (C__law_up : Cal P w K mg base "_law_up" pm__law_up 1 sp__law_up) (m_range : mg "range" = none) (m_sum : mg "sum" = none) : FnOk P w K mg base CX0 6 f fd pm_law (sp_law K T) := by
  obtain ⟨f__law_draws, fd__law_draws, G__law_draws, g__law_draws, k__law_draws, b__law_draws⟩ := C__law_draws.ex
  obtain ⟨f__law_parts, fd__law_parts, G__law_parts, g__law_parts, k__law_parts, b__law_parts⟩ := C__law_parts.ex
  obtain ⟨f_falling, fd_falling, G_falling, g_falling, k_falling, b_falling⟩ := C_falling.ex
  obtain ⟨f_bits_of, fd_bits_of, G_bits_of, g_bits_of, k_bits_of, b_bits_of⟩ := C_bits_of.ex
  obtain ⟨f__law_next, fd__law_next, G__law_next, g__law_next, k__law_next, b__law_next⟩ := C__law_next.ex
  obtain ⟨f__law_just, fd__law_just, G__law_just, g__law_just, k__law_just, b__law_just⟩ := C__law_just.ex
  obtain ⟨f__law_falling, fd__law_falling, G__law_falling, g__law_falling, k__law_falling, b__law_falling⟩ := C__law_falling.ex
  obtain ⟨f__law_laid, fd__law_laid, G__law_laid, g__law_laid, k__law_laid, b__law_laid⟩ := C__law_laid.ex
  obtain ⟨f__law_up, fd__law_up, G__law_up, g__law_up, k__law_up, b__law_up⟩ := C__law_up.ex
  refine F.ok sc_law (fun vs H Q E h => ?_) (fun cdv A outer s H vs Q E hr h => ?_)
  · obtain ⟨a, ns, rfl, _⟩ := h
    rfl
  · obtain ⟨a0, ns, rfl, hS, hlen, hT, q⟩ := h
    have rm : ∀ {j : Nat}, j ≤ 5 → Room j (A.deeper (envOfC "law" (defScope s_law) s.heap.objs.size f cdv)) := fun hj => hr.mono hj
    refine ⟨_, pss_cons (ps_set (i := 1) sc_law.nd rfl (.inl rfl) (pe_call G__law_draws (rm (by decide)) (by rfl) g__law_draws k__law_draws b__law_draws .nil pass0 (pa_cons (pv 0) pa_nil)))
      (pss_cons (ps_for PassesOwn.never rfl (pi_range1 (by rfl) m_range (pa_cons (pe_op op_add pe_int (pe_call G__law_next (rm (by decide)) (by rfl) g__law_next k__law_next b__law_next .nil pass0 (pa_cons (pv 1) (pa_cons pe_int pa_nil)))) pa_nil)) (pg_name (i := 2) sc_law.nd rfl (.inl rfl))
      (pss_cons (ps_set (i := 3) sc_law.nd rfl (.inl rfl) (pe_call G__law_parts (rm (by decide)) (by rfl) g__law_parts k__law_parts b__law_parts .nil pass0 (pa_cons (pv 1) (pa_cons pe_int pa_nil))))
      (pss_cons (ps_set (i := 4) sc_law.nd rfl (.inl rfl) (pe_call G_falling (rm (by decide)) (by rfl) g_falling k_falling b_falling .nil pass0 (pa_cons (pv 3) pa_nil)))
      (pss_cons (ps_if (pt_not (pt_val (pe_call G__law_just (rm (by decide)) (by rfl) g__law_just k__law_just b__law_just .nil pass0 (pa_cons (pv 4) (pa_cons (pe_call G__law_falling (rm (by decide)) (by rfl) g__law_falling k__law_falling b__law_falling .nil pass0 (pa_cons (pv 3) pa_nil)) pa_nil)))))
      (pss_one (ps_ret pe_bl)) pss_nil)
      (pss_cons (ps_set (i := 5) sc_law.nd rfl (.inl rfl) (pe_call G_bits_of (rm (by decide)) (by rfl) g_bits_of k_bits_of b_bits_of .nil pass0 (pa_cons (pv 3) (pa_cons (pv 4) pa_nil))))
      (pss_cons (ps_if (pt_not (pt_val (pe_call G__law_just (rm (by decide)) (by rfl) g__law_just k__law_just b__law_just .nil pass0 (pa_cons (pv 5) (pa_cons (pe_ix ix_tup (pe_call G__law_laid (rm (by decide)) (by rfl) g__law_laid k__law_laid b__law_laid .nil pass0 (pa_cons (pv 3) (pa_cons (pe_call G__law_falling (rm (by decide)) (by rfl) g__law_falling k__law_falling b__law_falling .nil pass0 (pa_cons (pv 3) pa_nil)) pa_nil))) pe_int (fun _ _ => rfl)) pa_nil)))))
      (pss_one (ps_ret pe_bl)) pss_nil)
      (pss_one (ps_if (pt_cmpR op_gt (pv 5) (pe_callB (cr_sum rfl) (by rfl) m_sum (by decide +kernel) (pa_cons (pe_lc (own := [("_law_many", 6), ("_law_by", 7)]) (g := gTup K 2 (gCons (gName 6) (gCons (gName 7) gNil))) (tt := tYes) rfl sc_law.nd (pi_tup (pv 3)) (blkOk_by (N := nm_law) (sc := defScope s_law) (by decide +kernel)) (fun _ _ _ _ _ => pg_tup (by rfl) (pgs_cons (pg_name (i := 6) sc_law.nd rfl (Or.inl rfl)) (pgs_cons (pg_name (i := 7) sc_law.nd rfl (Or.inl rfl)) pgs_nil))) (fun _ _ _ _ _ => pts_nil) (fun _ _ _ _ _ => (pe_call G__law_up (rm (by decide)) (by rfl) g__law_up k__law_up b__law_up .nil pass0 (pa_cons (pv 6) (pa_cons (pv 7) pa_nil))))) pa_nil)) (nomark _))
      (pss_one (ps_ret pe_bl)) pss_nil))))))))
      (pss_one (ps_ret pe_bl))), ?_⟩
    refine ⟨.ref a0, rfl, a0, ns, rfl, hS, hlen, fun dk cl lf H1 D1 s1 nd nl => ?_⟩
    have T1 : LamX.Tabs T H1 := hT.ext s1
    refine ⟨.ref dk, rfl, dk, cl, lf, 0, 3, rfl, D1, by omega, by decide, by decide +kernel, fun d H5 d0 d1 D5 k5 => ?_⟩
    refine ⟨_, _, rfl, rfl, 1 + d, rfl, by omega, by omega, for_range (lo := 0) (n := (1 + d).toNat) (fun i σ H' => ∃ x2 x3 x4 x5 x6 x7 : Option V, σ = [some (.ref a0), some (.ref dk), x2, x3, x4, x5, x6, x7] ∧ Dk H' dk cl lf (1 + 100 * i) ∧ LamX.Tabs T H') ⟨none, none, none, none, none, none, rfl, D5, tabs_kd T1 D1 k5⟩ (fun i σ H' hi hp => ?_) (fun σ H' hp => q _)⟩
    obtain ⟨x2, x3, x4, x5, x6, x7, rfl, D', T'⟩ := hp
    refine ⟨.ref dk, rfl, dk, cl, lf, 1 + 100 * i, 8, rfl, D', by omega, by decide, fun a ps H6 hP hok hl D6 k6 => ?_⟩
    have T6 := tabs_kd T' D' k6
    refine ⟨.ref a, rfl, a, ps, rfl, hP, hok, by omega, T6, fun r H7 e7 T7 h7 => ?_⟩
    have hP7 := hP.ts (ts_ext (K := K) e7)
    have D7 := dk_ext D6 e7
    have perm := fall_perm hok
    have hlf : (fallF ps).length = ps.length := by rw [perm.length_eq, List.length_range]
    have mem : ∀ n ∈ fallF ps, n < ps.length := fun n hn => List.mem_range.mp (perm.mem_iff.mp hn)
    have hn : (natsD (fallF ps)).depth < 3 := by
      unfold natsD
      rw [depth_tuple]
      have : PyData.depthAll ((fallF ps).map fun (n : Nat) => PyData.int (n : Int)) ≤ 1 := depthA_le fun d h => by
        obtain ⟨x, _, rfl⟩ := List.mem_map.mp h
        simp [PyData.depth]
      omega
    have hz : sz (natsD (fallF ps)) ≤ 1000000 := by
      have h1 : szA ((fallF ps).map fun (n : Nat) => PyData.int (n : Int)) ≤ ((fallF ps).map fun (n : Nat) => PyData.int (n : Int)).length * 1 := szA_le fun d hd => by
        obtain ⟨x, _, rfl⟩ := List.mem_map.mp hd
        exact Nat.le_refl _
      rw [List.length_map] at h1
      show szA _ + 1 ≤ 1000000
      omega
    refine ⟨.ref r, rfl, .ref a, rfl, a, ps, rfl, hP7, by omega, fun r8 H8 s8 h8 => ?_⟩
    refine ⟨.ref r, .ref r8, natsD (fallF ps), natsD (fallF ps), rfl, .tup (ts_same s8 _ _ h7) (nats_dp _), .tup h8 (nats_dp _), nats_pl _, nats_pl _, hn, hz, fun H9 s9 => ⟨_, rfl, ite2 (fun c => ?_) (fun _ => ?_)⟩⟩
    · rw [eqB_true rfl] at c
      cases c
    have s79 := s8.trans s9
    have hP9 := hP7.ts (ts_same (K := K) s79)
    refine ⟨.ref a, rfl, .ref r, rfl, a, r, ps, fallF ps, rfl, ⟨hP9, ts_same s79 _ _ h7, hok, mem⟩, ?_⟩
    refine ⟨.int _, rfl, .ref a, rfl, .ref a, rfl, a, ps, rfl, hP9, by omega, fun rA HA sA hA => ?_⟩
    refine ⟨a, rA, ps, fallF ps, rfl, ⟨hP9.ts (ts_same sA), hA, hok, mem⟩, by omega, fun rB t HB sB hB _ => ⟨rB, _, _, .int _, rfl, rfl, hB, atI_nat (j := 1) rfl, ?_⟩⟩
    refine ⟨.int _, .int _, .int _, .int _, rfl, .int _, .int _, rfl, rfl, by simp [PyData.depth], (by show 1 ≤ 1000000; decide), fun HC sC => ⟨_, rfl, ite2 (fun c => ?_) (fun _ => ?_)⟩⟩
    · rw [eqB_true rfl] at c
      cases c
    have s7C := ((s79.trans sA).trans sB).trans sC
    obtain ⟨ws, hw, lw, hat⟩ := hP7.ts (ts_same (K := K) s7C)
    refine ⟨.int _, rfl, .ref a, rfl, a, rfl, ⟨_, hw⟩, fun D hD => lc_tup (xs := ws) (fun i H' => H' D = some (.lst (((ps.take i).map upS).map V.int)) ∧ Same HC H') ⟨upd_same, same_upd hD⟩ (fun i H' _ hp => ts_same hp.2 _ _ hw) (fun i x H' hx hp => ?_) (fun H' hp => ?_)⟩
    · obtain ⟨eD, s'⟩ := hp
      have hi := (List.getElem?_eq_some_iff.mp hx).1
      have ep : ps[i]? = some ps[i] := List.getElem?_eq_getElem (by omega)
      obtain ⟨t, et, ht⟩ := hat i _ ep
      rw [hx] at et
      cases et
      refine ⟨t, _, rfl, ts_same s' _ _ ht, rfl, _, _, rfl, _, _, rfl, rfl, rfl, ?_⟩
      dsimp only [tYes]
      refine iteT ?_
      refine ⟨.int _, rfl, .int _, rfl, _, _, rfl, (hok _ (List.mem_of_getElem? ep)).2.2, _, eD, ?_, ?_, ?_⟩
      · rw [List.length_map, List.length_map, List.length_take]
        exact Nat.lt_of_le_of_lt (show min i ps.length ≤ 1000 by omega) (by decide)
      · rw [List.take_add_one, ep, upd_same, List.map_append, List.map_append]
        rfl
      · intro b' o' e
        rw [upd_ne (ne_of_none e hD)]
        exact s' b' o' e
    obtain ⟨eD, s'⟩ := hp
    rw [lw, List.take_length] at eD
    refine ⟨D, _, rfl, .inl (.inl eD), _, _, rfl, rfl, _, rfl, ite2 (fun c => ?_) (fun _ => ?_)⟩
    · have h1 := of_decide_eq_true c
      have h2 := fall_le hok
      omega
    · exact ⟨_, _, _, _, _, _, rfl, (((D7.same s7C).same s').mono (by omega)), (T7.ext s7C).ext s'⟩
end
end K3
namespace K3
open PySem PySem.Spec PyProof.Rows L2 K1
/-- the name that the lambda's code object bears -/
abbrev lamQ : Str := Str.ofString "falling" ++ Str.ofString ".<locals>." ++ Str.ofString "<lambda>"
section
variable {P : Program} {w : World} {K : PySem.W.Frag} {mg : Str → Option Value} {base : Heap} {T : List (Addr × Str)}
def kyF (ps : List Part) (i : Nat) : Int := -(pt ps i).2
theorem ltA_is (ps : List Part) : LK.ltK (kyF ps) = ltA ps := by
  funext x y
  unfold LK.ltK ltA kyF
  by_cases c : (pt ps y).2 < (pt ps x).2
  · rw [decide_eq_true c, decide_eq_true (by omega)]
  · rw [decide_eq_false c, decide_eq_false (by omega)]
theorem ok_falling {f c Pt : Addr} {oc kV doc pm ct : Value} {od an : Option Addr} {osl : Array (Option Value)}
    (lk : K.lookup f = some ⟨oc, od, .func (PySem.W.fnOf "falling" "falling" (defArgs s_falling) (defBody s_falling) (defScope s_falling) .none kV doc pm an (.ref c) ct), osl⟩) (hcd : PySem.W.codeIn K (.ref c) "falling" = true)
    (TB : LamX.TabB base mg c Pt) (hmT : (Pt, lamQ) ∈ T) (hu : ∀ q ∈ T, q.1 = Pt → q.2 = lamQ) (m_tuple : mg "tuple" = none) (m_sorted : mg "sorted" = none) (m_range : mg "range" = none) (m_len : mg "len" = none) :
    FnOk P w K mg base CX0 4 f (PySem.W.fnOf "falling" "falling" (defArgs s_falling) (defBody s_falling) (defScope s_falling) .none kV doc pm an (.ref c) ct) pm_falling (sp_falling K T) := by
  refine fn_of lk hcd sc_falling (fun vs H Q E h => ?_) fun A outer s H vs Q E hr h => ?_
  · obtain ⟨a, ps, rfl, _⟩ := h
    rfl
  · obtain ⟨a, ps, rfl, hP, hok, hl, hT, q⟩ := h
    refine ⟨_, PSs.nox (pss_one (ps_ret (pe_callTy call_tuple_of (by rfl) m_tuple (by decide +kernel) (pa_cons (LK.pe_sortedLam (T := T) (pn := "number") (k := 0) rfl (by rfl) m_sorted (by rfl) m_range (pe_callB call_len_seq (by rfl) m_len PySem.boot_len (pa_cons (pv 0) pa_nil))
      TB rfl hmT hu hr (LK.lamP_by (show LK.lamPB (defScope s_falling) _ _ = true by decide +kernel)) rfl (fun _ _ _ _ _ _ => rfl) (show (Str.ofString "number") ∉ nm_falling by decide +kernel)
      (fun _ _ _ _ _ _ => pe_un un_neg (pe_ix (show IxR _ (rIxT K) from ix_tup) (pe_ix (show IxR _ (rIxT K) from ix_tup) (pv 1) (pv 0) (fun _ _ => rfl)) pe_int (fun _ _ => rfl)))) pa_nil)))), ?_⟩
    obtain ⟨ws, hw, lw⟩ := hP.len
    refine ⟨.ref a, rfl, a, ws, rfl, .inr hw, ws.length, rfl, by omega, hT, fun H2 e2 T2 => ⟨kyF ps, fun i hi => ?_, fun m r h1 h2 hr' => ?_⟩⟩
    · obtain ⟨vs, t, g1, g2, g3⟩ := (hP.ts (ts_ext (K := K) e2)).at (show i < ps.length by omega)
      exact ⟨.ref a, rfl, natV i, rfl, a, vs, i, .ref t, rfl, rfl, g1, g2, t, _, _, _, rfl, rfl, g3, atI_nat (j := 1) rfl, _, rfl, rfl, rfl⟩
    · rw [ltA_is] at h1 h2
      rw [lw] at h2
      have e := fall_is hok h1 h2
      subst e
      have n1 : ∀ ps', HO.lst ((fallF ps).map natV) ≠ .tbl ps' := fun _ z => nomatch z
      have s3 : Same H2 (upd H2 r (.lst ((fallF ps).map fun (i : Nat) => V.int (i : Int)))) := same_upd hr'
      have c3 : (upd H2 r (.lst ((fallF ps).map fun (i : Nat) => V.int (i : Int)))) r = some (.lst ((fallF ps).map natV)) := upd_same
      refine ⟨r, _, rfl, .inl ⟨.inl (.inl c3), fun l nl => ?_⟩⟩
      have s4 : Same (upd H2 r (.lst ((fallF ps).map fun (i : Nat) => V.int (i : Int)))) (upd (upd H2 r (.lst ((fallF ps).map fun (i : Nat) => V.int (i : Int)))) l (.tup ((fallF ps).map natV))) := same_upd nl
      exact q l _ (e2.trans (LamX.ExtN.of (s3.trans s4))) ((T2.ext s3).ext s4) (.inl (.inl upd_same))
end
end K3
namespace K3
open PySem PySem.Spec PyProof.Rows L2 K1
/-! ### what the top has written -/
theorem all_mk {l : PySem.W.OpenLaw} {w : World} {K : PySem.W.Frag} {h : Heap} {mg : Str → Option Value} {fa f1 f2 f3 f4 f5 f6 f7 f8 f9 f10 f11 f12 f13 f14 f15 cF pF : Addr} (X : K.In h) (G : h.Ns mainGlobals mg) (hfa : mg "law" = some (.ref fa))
    {od1 an1 od2 an2 od3 an3 od4 an4 od5 an5 od6 an6 od7 an7 od8 an8 od9 an9 od10 an10 od11 an11 od12 an12 od13 an13 od14 an14 od15 an15 : Option Addr} {sl1 sl2 sl3 sl4 sl5 sl6 sl7 sl8 sl9 sl10 sl11 sl12 sl13 sl14 sl15 : Array (Option Value)} {oc1 kV1 dc1 pm1 cd1 ct1 oc2 kV2 dc2 pm2 cd2 ct2 oc3 kV3 dc3 pm3 cd3 ct3 oc4 kV4 dc4 pm4 cd4 ct4 oc5 kV5 dc5 pm5 ct5 oc6 kV6 dc6 pm6 cd6 ct6 oc7 kV7 dc7 pm7 cd7 ct7 oc8 kV8 dc8 pm8 cd8 ct8 oc9 kV9 dc9 pm9 cd9 ct9 oc10 kV10 dc10 pm10 cd10 ct10 oc11 kV11 dc11 pm11 cd11 ct11 oc12 kV12 dc12 pm12 cd12 ct12 oc13 kV13 dc13 pm13 cd13 ct13 oc14 kV14 dc14 pm14 cd14 ct14 oc15 kV15 dc15 pm15 cd15 ct15 : Value}
    (a1 : PySem.W.nsIn K mainGlobals "rounded" = some (some (.ref f1))) (l1 : K.lookup f1 = some ⟨oc1, od1, .func (PySem.W.fnOf "rounded" "rounded" (defArgs s_rounded) (defBody s_rounded) (defScope s_rounded) .none kV1 dc1 pm1 an1 cd1 ct1), sl1⟩) (c1 : PySem.W.codeIn K cd1 "rounded" = true) (k1 : PySem.W.keepIn K (.ref f1) = true)
    (a2 : PySem.W.nsIn K mainGlobals "laid_end" = some (some (.ref f2))) (l2 : K.lookup f2 = some ⟨oc2, od2, .func (PySem.W.fnOf "laid_end" "laid_end" (defArgs s_laid_end) (defBody s_laid_end) (defScope s_laid_end) .none kV2 dc2 pm2 an2 cd2 ct2), sl2⟩) (c2 : PySem.W.codeIn K cd2 "laid_end" = true) (k2 : PySem.W.keepIn K (.ref f2) = true)
    (a3 : PySem.W.nsIn K mainGlobals "end_of" = some (some (.ref f3))) (l3 : K.lookup f3 = some ⟨oc3, od3, .func (PySem.W.fnOf "end_of" "end_of" (defArgs s_end_of) (defBody s_end_of) (defScope s_end_of) .none kV3 dc3 pm3 an3 cd3 ct3), sl3⟩) (c3 : PySem.W.codeIn K cd3 "end_of" = true) (k3 : PySem.W.keepIn K (.ref f3) = true)
    (a4 : PySem.W.nsIn K mainGlobals "bits_of" = some (some (.ref f4))) (l4 : K.lookup f4 = some ⟨oc4, od4, .func (PySem.W.fnOf "bits_of" "bits_of" (defArgs s_bits_of) (defBody s_bits_of) (defScope s_bits_of) .none kV4 dc4 pm4 an4 cd4 ct4), sl4⟩) (c4 : PySem.W.codeIn K cd4 "bits_of" = true) (k4 : PySem.W.keepIn K (.ref f4) = true)
    (a5 : PySem.W.nsIn K mainGlobals "falling" = some (some (.ref f5))) (l5 : K.lookup f5 = some ⟨oc5, od5, .func (PySem.W.fnOf "falling" "falling" (defArgs s_falling) (defBody s_falling) (defScope s_falling) .none kV5 dc5 pm5 an5 (.ref cF) ct5), sl5⟩) (c5 : PySem.W.codeIn K (.ref cF) "falling" = true) (k5 : PySem.W.keepIn K (.ref f5) = true)
    (a6 : PySem.W.nsIn K mainGlobals "_law_draws" = some (some (.ref f6))) (l6 : K.lookup f6 = some ⟨oc6, od6, .func (PySem.W.fnOf "_law_draws" "_law_draws" (defArgs s__law_draws) (defBody s__law_draws) (defScope s__law_draws) .none kV6 dc6 pm6 an6 cd6 ct6), sl6⟩) (c6 : PySem.W.codeIn K cd6 "_law_draws" = true) (k6 : PySem.W.keepIn K (.ref f6) = true)
    (a7 : PySem.W.nsIn K mainGlobals "_law_next" = some (some (.ref f7))) (l7 : K.lookup f7 = some ⟨oc7, od7, .func (PySem.W.fnOf "_law_next" "_law_next" (defArgs s__law_next) (defBody s__law_next) (defScope s__law_next) .none kV7 dc7 pm7 an7 cd7 ct7), sl7⟩) (c7 : PySem.W.codeIn K cd7 "_law_next" = true) (k7 : PySem.W.keepIn K (.ref f7) = true)
    (a8 : PySem.W.nsIn K mainGlobals "_law_whole" = some (some (.ref f8))) (l8 : K.lookup f8 = some ⟨oc8, od8, .func (PySem.W.fnOf "_law_whole" "_law_whole" (defArgs s__law_whole) (defBody s__law_whole) (defScope s__law_whole) .none kV8 dc8 pm8 an8 cd8 ct8), sl8⟩) (c8 : PySem.W.codeIn K cd8 "_law_whole" = true) (k8 : PySem.W.keepIn K (.ref f8) = true)
    (a9 : PySem.W.nsIn K mainGlobals "_law_just" = some (some (.ref f9))) (l9 : K.lookup f9 = some ⟨oc9, od9, .func (PySem.W.fnOf "_law_just" "_law_just" (defArgs s__law_just) (defBody s__law_just) (defScope s__law_just) .none kV9 dc9 pm9 an9 cd9 ct9), sl9⟩) (c9 : PySem.W.codeIn K cd9 "_law_just" = true) (k9 : PySem.W.keepIn K (.ref f9) = true)
    (a10 : PySem.W.nsIn K mainGlobals "_law_measure" = some (some (.ref f10))) (l10 : K.lookup f10 = some ⟨oc10, od10, .func (PySem.W.fnOf "_law_measure" "_law_measure" (defArgs s__law_measure) (defBody s__law_measure) (defScope s__law_measure) .none kV10 dc10 pm10 an10 cd10 ct10), sl10⟩) (c10 : PySem.W.codeIn K cd10 "_law_measure" = true) (k10 : PySem.W.keepIn K (.ref f10) = true)
    (a11 : PySem.W.nsIn K mainGlobals "_law_parts" = some (some (.ref f11))) (l11 : K.lookup f11 = some ⟨oc11, od11, .func (PySem.W.fnOf "_law_parts" "_law_parts" (defArgs s__law_parts) (defBody s__law_parts) (defScope s__law_parts) .none kV11 dc11 pm11 an11 cd11 ct11), sl11⟩) (c11 : PySem.W.codeIn K cd11 "_law_parts" = true) (k11 : PySem.W.keepIn K (.ref f11) = true)
    (a12 : PySem.W.nsIn K mainGlobals "_law_up" = some (some (.ref f12))) (l12 : K.lookup f12 = some ⟨oc12, od12, .func (PySem.W.fnOf "_law_up" "_law_up" (defArgs s__law_up) (defBody s__law_up) (defScope s__law_up) .none kV12 dc12 pm12 an12 cd12 ct12), sl12⟩) (c12 : PySem.W.codeIn K cd12 "_law_up" = true) (k12 : PySem.W.keepIn K (.ref f12) = true)
    (a13 : PySem.W.nsIn K mainGlobals "_law_laid" = some (some (.ref f13))) (l13 : K.lookup f13 = some ⟨oc13, od13, .func (PySem.W.fnOf "_law_laid" "_law_laid" (defArgs s__law_laid) (defBody s__law_laid) (defScope s__law_laid) .none kV13 dc13 pm13 an13 cd13 ct13), sl13⟩) (c13 : PySem.W.codeIn K cd13 "_law_laid" = true) (k13 : PySem.W.keepIn K (.ref f13) = true)
    (a14 : PySem.W.nsIn K mainGlobals "_law_falling" = some (some (.ref f14))) (l14 : K.lookup f14 = some ⟨oc14, od14, .func (PySem.W.fnOf "_law_falling" "_law_falling" (defArgs s__law_falling) (defBody s__law_falling) (defScope s__law_falling) .none kV14 dc14 pm14 an14 cd14 ct14), sl14⟩) (c14 : PySem.W.codeIn K cd14 "_law_falling" = true) (k14 : PySem.W.keepIn K (.ref f14) = true)
    (a15 : PySem.W.nsIn K mainGlobals "law" = some (some (.ref f15))) (l15 : K.lookup f15 = some ⟨oc15, od15, .func (PySem.W.fnOf "law" "law" (defArgs s_law) (defBody s_law) (defScope s_law) .none kV15 dc15 pm15 an15 cd15 ct15), sl15⟩) (c15 : PySem.W.codeIn K cd15 "law" = true) (k15 : PySem.W.keepIn K (.ref f15) = true)
    (z_tuple : PySem.W.nsIn K mainGlobals "tuple" = some none) (z_sorted : PySem.W.nsIn K mainGlobals "sorted" = some none) (z_range : PySem.W.nsIn K mainGlobals "range" = some none) (z_len : PySem.W.nsIn K mainGlobals "len" = some none) (z_number : PySem.W.nsIn K mainGlobals "number" = some none) (z_list : PySem.W.nsIn K mainGlobals "list" = some none) (z_int : PySem.W.nsIn K mainGlobals "int" = some none) (z_isinstance : PySem.W.nsIn K mainGlobals "isinstance" = some none) (z_bool : PySem.W.nsIn K mainGlobals "bool" = some none) (z_str : PySem.W.nsIn K mainGlobals "str" = some none) (z_zip : PySem.W.nsIn K mainGlobals "zip" = some none) (z_sum : PySem.W.nsIn K mainGlobals "sum" = some none)     (tb2 : PySem.W.codeHdIn K cF pF = true) (tb3 : K.lookup pF = none) (tb4 : h.get? pF = some { cls := .none, data := .fields #[] }) :
    LamX.LawAtS l w K CX0 6 63 "_law_script" mg fa h := by
  have e := hfa.symm.trans (PySem.W.mg_of X G a15)
  cases e
  have F1 := fun_mk (st := s_rounded) l1 c1 k1
  have F2 := fun_mk (st := s_laid_end) l2 c2 k2
  have F3 := fun_mk (st := s_end_of) l3 c3 k3
  have F4 := fun_mk (st := s_bits_of) l4 c4 k4
  have F5 := fun_mk (st := s_falling) l5 c5 k5
  have F6 := fun_mk (st := s__law_draws) l6 c6 k6
  have F7 := fun_mk (st := s__law_next) l7 c7 k7
  have F8 := fun_mk (st := s__law_whole) l8 c8 k8
  have F9 := fun_mk (st := s__law_just) l9 c9 k9
  have F10 := fun_mk (st := s__law_measure) l10 c10 k10
  have F11 := fun_mk (st := s__law_parts) l11 c11 k11
  have F12 := fun_mk (st := s__law_up) l12 c12 k12
  have F13 := fun_mk (st := s__law_laid) l13 c13 k13
  have F14 := fun_mk (st := s__law_falling) l14 c14 k14
  have F15 := fun_mk (st := s_law) l15 c15 k15
  have b1 := F1.binds (ps := pm_rounded) fun _ _ _ _ _ _ us hl => match us, hl with | [_, _], _ => rfl
  have g1 := PySem.W.mg_of X G a1
  have b2 := F2.binds (ps := pm_laid_end) fun _ _ _ _ _ _ us hl => match us, hl with | [_, _], _ => rfl
  have g2 := PySem.W.mg_of X G a2
  have b3 := F3.binds (ps := pm_end_of) fun _ _ _ _ _ _ us hl => match us, hl with | [_, _], _ => rfl
  have g3 := PySem.W.mg_of X G a3
  have b4 := F4.binds (ps := pm_bits_of) fun _ _ _ _ _ _ us hl => match us, hl with | [_, _], _ => rfl
  have g4 := PySem.W.mg_of X G a4
  have b5 := F5.binds (ps := pm_falling) fun _ _ _ _ _ _ us hl => match us, hl with | [_], _ => rfl
  have g5 := PySem.W.mg_of X G a5
  have b6 := F6.binds (ps := pm__law_draws) fun _ _ _ _ _ _ us hl => match us, hl with | [_], _ => rfl
  have g6 := PySem.W.mg_of X G a6
  have b7 := F7.binds (ps := pm__law_next) fun _ _ _ _ _ _ us hl => match us, hl with | [_, _], _ => rfl
  have g7 := PySem.W.mg_of X G a7
  have b8 := F8.binds (ps := pm__law_whole) fun _ _ _ _ _ _ us hl => match us, hl with | [_], _ => rfl
  have g8 := PySem.W.mg_of X G a8
  have b9 := F9.binds (ps := pm__law_just) fun _ _ _ _ _ _ us hl => match us, hl with | [_, _], _ => rfl
  have g9 := PySem.W.mg_of X G a9
  have b10 := F10.binds (ps := pm__law_measure) fun _ _ _ _ _ _ us hl => match us, hl with | [_], _ => rfl
  have g10 := PySem.W.mg_of X G a10
  have b11 := F11.binds (ps := pm__law_parts) fun _ _ _ _ _ _ us hl => match us, hl with | [_, _], _ => rfl
  have g11 := PySem.W.mg_of X G a11
  have b12 := F12.binds (ps := pm__law_up) fun _ _ _ _ _ _ us hl => match us, hl with | [_, _], _ => rfl
  have g12 := PySem.W.mg_of X G a12
  have b13 := F13.binds (ps := pm__law_laid) fun _ _ _ _ _ _ us hl => match us, hl with | [_, _], _ => rfl
  have g13 := PySem.W.mg_of X G a13
  have b14 := F14.binds (ps := pm__law_falling) fun _ _ _ _ _ _ us hl => match us, hl with | [_], _ => rfl
  have g14 := PySem.W.mg_of X G a14
  have b15 := F15.binds (ps := pm_law) fun _ _ _ _ _ _ us hl => match us, hl with | [_], _ => rfl
  have g15 := PySem.W.mg_of X G a15
  have m_tuple := PySem.W.mg_none_of X G z_tuple
  have m_sorted := PySem.W.mg_none_of X G z_sorted
  have m_range := PySem.W.mg_none_of X G z_range
  have m_len := PySem.W.mg_none_of X G z_len
  have m_number := PySem.W.mg_none_of X G z_number
  have m_list := PySem.W.mg_none_of X G z_list
  have m_int := PySem.W.mg_none_of X G z_int
  have m_isinstance := PySem.W.mg_none_of X G z_isinstance
  have m_bool := PySem.W.mg_none_of X G z_bool
  have m_str := PySem.W.mg_none_of X G z_str
  have m_zip := PySem.W.mg_none_of X G z_zip
  have m_sum := PySem.W.mg_none_of X G z_sum
  refine ⟨PySem.W.fnOf "law" "law" (defArgs s_law) (defBody s_law) (defScope s_law) .none kV15 dc15 pm15 an15 cd15 ct15, [(cF, pF)], sp_law K [(pF, lamQ)], ?_, ?_, ?_, fun s v => .of_eq rfl, fun H a ns hl _ hH hS => ?_, fun base _ _ TBs => ?_⟩
  · intro p hp; rw [List.mem_singleton.mp hp]; exact tb4
  · intro p hp; rw [List.mem_singleton.mp hp]; exact tb3
  · intro p hp; rw [List.mem_singleton.mp hp]; exact PySem.W.codeHd_of_K X tb2
  · exact ⟨a, ns, rfl, hS, hl, fun p hp => by rw [List.mem_singleton.mp hp]; exact LamX.TabS.nil (hH _ (List.mem_singleton.mpr rfl)), fun _ => rfl⟩
  have TB := TBs _ (List.mem_singleton.mpr rfl)
  have C_rounded : Cal l.prog w K mg base "rounded" pm_rounded 1 sp_rounded := ⟨_, _, ok_rounded F1, g1, k1, b1⟩
  have C__law_draws : Cal l.prog w K mg base "_law_draws" pm__law_draws 1 (sp__law_draws K) := ⟨_, _, ok__law_draws F6 m_list m_int m_len, g6, k6, b6⟩
  have C__law_next : Cal l.prog w K mg base "_law_next" pm__law_next 1 sp__law_next := ⟨_, _, ok__law_next F7 m_len, g7, k7, b7⟩
  have C__law_whole : Cal l.prog w K mg base "_law_whole" pm__law_whole 1 (sp__law_whole K) := ⟨_, _, ok__law_whole F8 m_isinstance m_int m_bool, g8, k8, b8⟩
  have C__law_up : Cal l.prog w K mg base "_law_up" pm__law_up 1 sp__law_up := ⟨_, _, ok__law_up F12, g12, k12, b12⟩
  have C__law_falling : Cal l.prog w K mg base "_law_falling" pm__law_falling 1 (sp__law_falling K) := ⟨_, _, ok__law_falling F14 m_tuple m_range m_len, g14, k14, b14⟩
  have C_laid_end : Cal l.prog w K mg base "laid_end" pm_laid_end 2 (sp_laid_end K) := ⟨_, _, ok_laid_end F2 C_rounded, g2, k2, b2⟩
  have C__law_measure : Cal l.prog w K mg base "_law_measure" pm__law_measure 2 (sp__law_measure K) := ⟨_, _, ok__law_measure F10 C__law_next, g10, k10, b10⟩
  have C__law_laid : Cal l.prog w K mg base "_law_laid" pm__law_laid 2 (sp__law_laid K) := ⟨_, _, ok__law_laid F13 C__law_up m_len m_tuple, g13, k13, b13⟩
  have C_end_of : Cal l.prog w K mg base "end_of" pm_end_of 3 (sp_end_of K) := ⟨_, _, ok_end_of F3 C_laid_end, g3, k3, b3⟩
  have C__law_parts : Cal l.prog w K mg base "_law_parts" pm__law_parts 3 (sp__law_parts K) := ⟨_, _, ok__law_parts F11 C__law_measure C__law_next m_tuple m_range, g11, k11, b11⟩
  have C_bits_of : Cal l.prog w K mg base "bits_of" pm_bits_of 4 (sp_bits_of K) := ⟨_, _, ok_bits_of F4 C_end_of, g4, k4, b4⟩
  have C_falling : Cal l.prog w K mg base "falling" pm_falling 4 (sp_falling K [(pF, lamQ)]) := ⟨_, _, ok_falling l5 c5 TB (List.mem_singleton.mpr rfl) (fun q hq _ => by rw [List.mem_singleton.mp hq]) m_tuple m_sorted m_range m_len, g5, k5, b5⟩
  have C__law_just : Cal l.prog w K mg base "_law_just" pm__law_just 5 (sp__law_just K 3) := ⟨_, _, ok__law_just F9 g9 b9 C__law_whole m_isinstance m_tuple m_str m_bool m_len m_zip 3, g9, k9, b9⟩
  exact ok_law F15 C__law_draws C__law_parts C_falling C_bits_of C__law_next C__law_just C__law_falling C__law_laid C__law_up m_range m_sum
end K3
open PySem PySem.W PyProof.Rows
set_option maxHeartbeats 0 in
theorem PySem.Challenge.cw_packedforms_k31_falling_order_holds : PySem.Challenge.rw_packedforms_k31_falling_order.Holds := by
  w_on; o_law; k_head; (case hw => w_witness2)
  k_fill
  refine LamX.walk_ofTs (l := PySem.Challenge.rw_packedforms_k31_falling_order) (n := 63) (k := 6) (x := "_law_script") (CX := fun _ => L2.CX0) rfl (by decide) rfl ⟨rfl, by decide, by decide⟩ (fun w h Y => PySem.W.km_in_of Y) ?F (fun _ _ _ _ _ h => h)
  case F =>
    intro w mg fa h Y KX G hmg
    refine' K3.all_mk KX G hmg ?a1 ?l1 ?c1 ?k1 ?a2 ?l2 ?c2 ?k2 ?a3 ?l3 ?c3 ?k3 ?a4 ?l4 ?c4 ?k4 ?a5 ?l5 ?c5 ?k5 ?a6 ?l6 ?c6 ?k6 ?a7 ?l7 ?c7 ?k7 ?a8 ?l8 ?c8 ?k8 ?a9 ?l9 ?c9 ?k9 ?a10 ?l10 ?c10 ?k10 ?a11 ?l11 ?c11 ?k11 ?a12 ?l12 ?c12 ?k12 ?a13 ?l13 ?c13 ?k13 ?a14 ?l14 ?c14 ?k14 ?a15 ?l15 ?c15 ?k15 ?z_tuple ?z_sorted ?z_range ?z_len ?z_number ?z_list ?z_int ?z_isinstance ?z_bool ?z_str ?z_zip ?z_sum ?tb2 ?tb3 ?tb4
    (case a1 => k_is); (case l1 => k_is); (case c1 => k_is); (case k1 => k_is); (case a2 => k_is); (case l2 => k_is); (case c2 => k_is); (case k2 => k_is); (case a3 => k_is); (case l3 => k_is); (case c3 => k_is); (case k3 => k_is); (case a4 => k_is); (case l4 => k_is); (case c4 => k_is); (case k4 => k_is); (case a5 => k_is); (case l5 => k_is); (case c5 => k_is); (case k5 => k_is); (case a6 => k_is); (case l6 => k_is); (case c6 => k_is); (case k6 => k_is); (case a7 => k_is); (case l7 => k_is); (case c7 => k_is); (case k7 => k_is); (case a8 => k_is); (case l8 => k_is); (case c8 => k_is); (case k8 => k_is); (case a9 => k_is); (case l9 => k_is); (case c9 => k_is); (case k9 => k_is); (case a10 => k_is); (case l10 => k_is); (case c10 => k_is); (case k10 => k_is); (case a11 => k_is); (case l11 => k_is); (case c11 => k_is); (case k11 => k_is); (case a12 => k_is); (case l12 => k_is); (case c12 => k_is); (case k12 => k_is); (case a13 => k_is); (case l13 => k_is); (case c13 => k_is); (case k13 => k_is); (case a14 => k_is); (case l14 => k_is); (case c14 => k_is); (case k14 => k_is); (case a15 => k_is); (case l15 => k_is); (case c15 => k_is); (case k15 => k_is); (case z_tuple => k_is); (case z_sorted => k_is); (case z_range => k_is); (case z_len => k_is); (case z_number => k_is); (case z_list => k_is); (case z_int => k_is); (case z_isinstance => k_is); (case z_bool => k_is); (case z_str => k_is); (case z_zip => k_is); (case z_sum => k_is)
    (case tb4 => exact PySem.W.km_tabs_of Y _ (List.mem_cons_self ..))
    (case tb2 => kernel_rfl)
    (case tb3 => first | kernel_rfl | rfl)
