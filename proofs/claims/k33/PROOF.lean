import PyProof.Rows.All
import Wide.All
import OpenK.AllK
import Wide.FinOn
import HandS.ForMost
import HandS.IsInst
import HandS.TupAny
import HandS.Wide
import HandS.NoneIn
import HandS.Flow
import HandS.Conv
import HandS.Deep
import HandS.Zip
import HandS.Style
import PySem.Challenge.RW_packedforms_k33_papers_spoilt
import HandS.SortInts
import HandS.SetFor
import HandS.TupMul
set_option Elab.async false
set_option linter.all false
set_option maxRecDepth 100000
set_option maxHeartbeats 2000000
namespace K1
open PySem PySem.Spec PyProof.Rows L2
/-! ### written things as data -/
mutual
/-- None, truths, numbers, texts of right signs, tuples of such -/
def pl : PyData → Bool
  | .none => true
  | .bool _ => true
  | .int _ => true
  | .str x => PyData.strOk x
  | .tuple ds => plA ds
  | .list _ => false
  | .dict _ => false
def plA : List PyData → Bool
  | [] => true
  | d :: ds => pl d && plA ds
end
mutual
/-- how great a thing is: tuples and leaves, signs of texts -/
def sz : PyData → Nat
  | .none => 1
  | .bool _ => 1
  | .int _ => 1
  | .str x => x.length + 1
  | .tuple ds => szA ds + 1
  | .list _ => 1
  | .dict _ => 1
def szA : List PyData → Nat
  | [] => 0
  | d :: ds => sz d + szA ds
end
theorem sz_pos : ∀ d, 1 ≤ sz d
  | .none => Nat.le_refl _
  | .bool _ => Nat.le_refl _
  | .int _ => Nat.le_refl _
  | .str x => Nat.succ_le_succ (Nat.zero_le _)
  | .tuple ds => Nat.succ_le_succ (Nat.zero_le _)
  | .list _ => Nat.le_refl _
  | .dict _ => Nat.le_refl _
theorem len_szA : ∀ ds : List PyData, ds.length ≤ szA ds
  | [] => Nat.le_refl _
  | d :: ds => by
    have h1 := sz_pos d
    have h2 := len_szA ds
    simp only [List.length_cons, szA]
    omega
mutual
theorem canLay : ∀ d, pl d = true → PyData.canLay0 d = true
  | .none, _ => rfl
  | .bool _, _ => rfl
  | .int _, _ => rfl
  | .str _, h => h
  | .tuple ds, h => canLayA ds h
  | .list _, h => by cases h
  | .dict _, h => by cases h
theorem canLayA : ∀ ds, plA ds = true → PyData.canLayAll0 ds = true
  | [], _ => rfl
  | d :: ds, h => by
    have h' : pl d = true ∧ plA ds = true := by simpa [plA] using h
    show (PyData.canLay0 d && PyData.canLayAll0 ds) = true
    rw [canLay d h'.1, canLayA ds h'.2]
    rfl
end
theorem plA_mem : ∀ {ds : List PyData} {d : PyData}, plA ds = true → d ∈ ds → pl d = true
  | d :: ds, e, h, m => by
    have h' : pl d = true ∧ plA ds = true := by simpa [plA] using h
    rcases List.mem_cons.mp m with rfl | m
    · exact h'.1
    · exact plA_mem h'.2 m
theorem plA_of : ∀ {ds : List PyData}, (∀ d ∈ ds, pl d = true) → plA ds = true
  | [], _ => rfl
  | d :: ds, h => by
    show (pl d && plA ds) = true
    rw [h d List.mem_cons_self, plA_of fun e m => h e (List.mem_cons_of_mem _ m)]
    rfl
theorem szA_append : ∀ xs ys : List PyData, szA (xs ++ ys) = szA xs + szA ys
  | [], ys => by simp [szA]
  | x :: xs, ys => by
    simp only [List.cons_append, szA, szA_append xs ys]
    omega
theorem sz_mem : ∀ {ds : List PyData} {d : PyData}, d ∈ ds → sz d ≤ szA ds
  | d :: ds, e, m => by
    simp only [szA]
    rcases List.mem_cons.mp m with rfl | m
    · omega
    · have := sz_mem m
      omega
theorem szA_le {b : Nat} : ∀ {ds : List PyData}, (∀ d ∈ ds, sz d ≤ b) → szA ds ≤ ds.length * b
  | [], _ => by simp [szA]
  | d :: ds, h => by
    have h1 := h d List.mem_cons_self
    have h2 := szA_le fun e m => h e (List.mem_cons_of_mem _ m)
    simp only [szA, List.length_cons, Nat.add_mul]
    omega
theorem depthA_le {b : Nat} : ∀ {ds : List PyData}, (∀ d ∈ ds, d.depth ≤ b) → PyData.depthAll ds ≤ b
  | [], _ => by simp [PyData.depthAll]
  | d :: ds, h => by
    have h1 := h d List.mem_cons_self
    have h2 := depthA_le fun e m => h e (List.mem_cons_of_mem _ m)
    simp only [PyData.depthAll]
    omega
theorem depth_mem : ∀ {ds : List PyData} {d : PyData}, d ∈ ds → d.depth ≤ PyData.depthAll ds
  | d :: ds, e, m => by
    simp only [PyData.depthAll]
    rcases List.mem_cons.mp m with rfl | m
    · omega
    · have := depth_mem m
      omega
theorem depth_tuple (ds : List PyData) : (PyData.tuple ds).depth = PyData.depthAll ds + 1 := by simp [PyData.depth]
/-! ### heaps: what tuples stand -/
section
variable {K : PySem.W.Frag} {H H1 H2 : Hp}
def TS (K : PySem.W.Frag) (H H' : Hp) : Prop := ∀ a xs, SqT K H a xs → SqT K H' a xs
theorem TS.refl : TS K H H := fun _ _ h => h
theorem TS.trans (a : TS K H H1) (b : TS K H1 H2) : TS K H H2 := fun x xs h => b x xs (a x xs h)
theorem ts_same (s : Same H H1) : TS K H H1 := fun a xs h => by
  rcases h with (h | ⟨o, h⟩) | h
  · exact .inl (.inl (s _ _ h))
  · exact .inl (.inr ⟨o, s _ _ h⟩)
  · exact .inr h
theorem ts_new {p : Addr} {o : HO} (h : H p = none) : TS K H (upd H p o) := ts_same fun b u e => by rw [upd_ne (ne_of_none e h)]; exact e
theorem ts_but {S : Addr → Prop} (hS : ∀ b, S b → ∃ xs, H b = some (.lst xs)) (k : ∀ b o, ¬ S b → H b = some o → H1 b = some o) : TS K H H1 := fun a xs h => by
  rcases h with (h | ⟨o, h⟩) | h
  · refine .inl (.inl (k _ _ (fun z => ?_) h))
    obtain ⟨ys, e⟩ := hS a z
    rw [e] at h
    cases h
  · refine .inl (.inr ⟨o, k _ _ (fun z => ?_) h⟩)
    obtain ⟨ys, e⟩ := hS a z
    rw [e] at h
    cases h
  · exact .inr h
theorem ts_lst {l : Addr} {xs ys : List V} (h : H l = some (.lst xs)) : TS K H (upd H l (.lst ys)) :=
  ts_but (S := fun b => b = l) (fun b e => ⟨xs, by rw [e]; exact h⟩) fun b o n e => by rw [upd_ne n]; exact e
theorem same_upd {p : Addr} {o : HO} (h : H p = none) : Same H (upd H p o) := fun b x e => by rw [upd_ne (ne_of_none e h)]; exact e
mutual
theorem TS.dp (t : TS K H H1) : ∀ (d : PyData) (v : V), pl d = true → Dp K H v d → Dp K H1 v d
  | .none, _, _, h => by cases h; exact .non
  | .bool b, _, _, h => by cases h; exact .bl b
  | .int i, _, _, h => by cases h; exact .int i
  | .str x, _, _, h => by cases h; exact .str x
  | .tuple ds, _, p, h => by
    cases h with
    | tup hs ha => exact .tup (t _ _ hs) (TS.dps t ds _ p ha)
  | .list _, _, p, _ => by cases p
  | .dict _, _, p, _ => by cases p
theorem TS.dps (t : TS K H H1) : ∀ (ds : List PyData) (vs : List V), plA ds = true → DpAll K H vs ds → DpAll K H1 vs ds
  | [], _, _, h => by cases h; exact .nil
  | d :: ds, _, p, h => by
    have p' : pl d = true ∧ plA ds = true := by simpa [plA] using p
    cases h with
    | cons h1 h2 => exact .cons (TS.dp t d _ p'.1 h1) (TS.dps t ds _ p'.2 h2)
end
theorem dpAll_len : ∀ {vs : List V} {ds : List PyData}, DpAll K H vs ds → vs.length = ds.length
  | _, _, .nil => rfl
  | _, _, .cons _ t => by simp [dpAll_len t]
theorem dpAll_get : ∀ {vs : List V} {ds : List PyData} {i : Nat} {v : V}, DpAll K H vs ds → vs[i]? = some v → ∃ d, ds[i]? = some d ∧ Dp K H v d
  | _, _, i, v, .nil, e => by simp at e
  | _, _, 0, v, .cons h t, e => by
    simp at e
    subst e
    exact ⟨_, rfl, h⟩
  | _, _, i + 1, v, .cons h t, e => by
    obtain ⟨d, e1, e2⟩ := dpAll_get (i := i) t (by simpa using e)
    exact ⟨d, by simpa using e1, e2⟩
theorem dpAll_append : ∀ {vs ws : List V} {ds es : List PyData}, DpAll K H vs ds → DpAll K H ws es → DpAll K H (vs ++ ws) (ds ++ es)
  | _, _, _, _, .nil, s => s
  | _, _, _, _, .cons h t, s => .cons h (dpAll_append t s)
theorem dpAll_take : ∀ {vs : List V} {ds : List PyData} (n : Nat), DpAll K H vs ds → DpAll K H (vs.take n) (ds.take n)
  | _, _, 0, _ => by simp; exact .nil
  | _, _, _ + 1, .nil => by simp; exact .nil
  | _, _, n + 1, .cons h t => .cons h (dpAll_take n t)
theorem dpAll_drop : ∀ {vs : List V} {ds : List PyData} (n : Nat), DpAll K H vs ds → DpAll K H (vs.drop n) (ds.drop n)
  | _, _, 0, r => r
  | _, _, _ + 1, .nil => by simp; exact .nil
  | _, _, n + 1, .cons _ t => dpAll_drop n t
end
/-! ### a few operators -/
section
variable {X : Cx}
/-- a != b of data, where one of them is not deep -/
def rNeM (K : PySem.W.Frag) : R2 := fun x y H Q => ∃ d e, Dp K H x d ∧ Dp K H y e ∧ d.canLay0 = true ∧ e.canLay0 = true ∧ min d.depth e.depth ≤ 64 ∧ Q (.bl (!PyData.eqv d e)) H
def rEqM (K : PySem.W.Frag) : R2 := fun x y H Q => ∃ d e, Dp K H x d ∧ Dp K H y e ∧ d.canLay0 = true ∧ e.canLay0 = true ∧ min d.depth e.depth ≤ 64 ∧ Q (.bl (PyData.eqv d e)) H
theorem op_neM (hu : X.A.units + 64 < cLine) : OpR X (compareOp .NotEq) (rNeM X.K) := by
  intro pins s σ H x y v u Q I rx ry h
  obtain ⟨d, e, hd, he, sd, se, hm, q⟩ := h
  obtain ⟨as, r1⟩ := Dp.reads I d x v hd rx
  obtain ⟨bs, r2⟩ := Dp.reads I e y u he ry
  exact SeqAt.compareNe_reads r1 r2 sd se (Nat.lt_of_le_of_lt (Nat.add_le_add_left hm _) hu) ⟨.bl _, H, I, rfl, q⟩
theorem op_eqM (hu : X.A.units + 64 < cLine) : OpR X (compareOp .Eq) (rEqM X.K) := by
  intro pins s σ H x y v u Q I rx ry h
  obtain ⟨d, e, hd, he, sd, se, hm, q⟩ := h
  obtain ⟨as, r1⟩ := Dp.reads I d x v hd rx
  obtain ⟨bs, r2⟩ := Dp.reads I e y u he ry
  exact SeqAt.compareEq_reads r1 r2 sd se (Nat.lt_of_le_of_lt (Nat.add_le_add_left hm _) hu) ⟨.bl _, H, I, rfl, q⟩
def CPowW (i j : Int) : Prop := 0 ≤ j ∧ (Builtin.Int.intBits i : Int) * j ≤ 2 ^ 27
theorem op_powW : OpR X (binaryOp .Pow) (rI CPowW fun i j => .int (i ^ j.toNat)) := opI fun _ _ _ _ _ _ _ hc q => pow_int hc.1 hc.2 q
end
end K1
namespace K1
open PySem PySem.Spec PyProof.Rows L2
/-! ### the deck -/
structure Dk (H : Hp) (dk cl lf : Addr) (B : Nat) : Prop where
  ex : ∃ (cells lefts : List Int) (n : Int), H dk = some (.lst [.ref cl, .int n, .ref lf]) ∧ H cl = some (.lst (cells.map V.int)) ∧ H lf = some (.lst (lefts.map V.int)) ∧ cells.length = lefts.length ∧ 0 < cells.length ∧ cells.length ≤ 100 ∧ 0 ≤ n ∧ n ≤ B
  ne : cl ≠ lf
/-- all but the deck's own lists stays -/
def KD (dk lf : Addr) (H H' : Hp) : Prop := ∀ b o, b ≠ dk → b ≠ lf → H b = some o → H' b = some o
theorem KD.refl {dk lf : Addr} {H : Hp} : KD dk lf H H := fun _ _ _ _ h => h
theorem KD.trans {dk lf : Addr} {H H1 H2 : Hp} (a : KD dk lf H H1) (b : KD dk lf H1 H2) : KD dk lf H H2 := fun c o n1 n2 h => b c o n1 n2 (a c o n1 n2 h)
theorem Dk.ts {K : PySem.W.Frag} {H H' : Hp} {dk cl lf : Addr} {B : Nat} (d : Dk H dk cl lf B) (k : KD dk lf H H') : TS K H H' := by
  obtain ⟨⟨cells, lefts, n, e1, e2, e3, _⟩, _⟩ := d
  refine ts_but (S := fun b => b = dk ∨ b = lf) (fun b z => ?_) fun b o n e => k b o (fun z => n (.inl z)) (fun z => n (.inr z)) e
  rcases z with rfl | rfl
  · exact ⟨_, e1⟩
  · exact ⟨_, e3⟩
theorem Dk.same {H H' : Hp} {dk cl lf : Addr} {B : Nat} (d : Dk H dk cl lf B) (s : Same H H') : Dk H' dk cl lf B := by
  obtain ⟨⟨cells, lefts, n, e1, e2, e3, r⟩, ne⟩ := d
  exact ⟨⟨cells, lefts, n, s _ _ e1, s _ _ e2, s _ _ e3, r⟩, ne⟩
theorem Dk.mono {H : Hp} {dk cl lf : Addr} {B C : Nat} (h : B ≤ C) (d : Dk H dk cl lf B) : Dk H dk cl lf C := by
  obtain ⟨⟨cells, lefts, n, e1, e2, e3, a, b, c, e, f⟩, ne⟩ := d
  exact ⟨⟨cells, lefts, n, e1, e2, e3, a, b, c, e, by omega⟩, ne⟩
theorem KD.of_same {dk lf : Addr} {H H' : Hp} (s : Same H H') : KD dk lf H H' := fun b o _ _ e => s b o e
theorem emod_bounds (a : Int) {m : Int} (h : 0 < m) : 0 ≤ a % m ∧ a % m < m := ⟨Int.emod_nonneg a (by omega), Int.emod_lt_of_pos a h⟩
theorem small64 {i : Int} {m : Int} (hm : m ≤ 2 ^ 40) (h0 : 0 ≤ i) (h1 : i ≤ m) : -(2 ^ 64) < i ∧ i < 2 ^ 64 := by omega
theorem atI_of {xs : List V} {j : Nat} {v : V} {i : Int} (e : i = (j : Int)) (h : xs[j]? = some v) : atI xs i = some v := by subst e; exact atI_nat h
theorem cut63 (xs : List V) (h : xs.length ≤ 63) : cutV xs none (some 63) = xs := by
  unfold cutV
  rw [HT.sIx_none, show HT.sIx xs.length xs.length (some 63) = min 63 xs.length from HT.sIx_nat xs.length xs.length 63, show min 63 xs.length = xs.length by omega]
  simp
theorem Dk.not {H : Hp} {dk cl lf D : Addr} {B : Nat} (d : Dk H dk cl lf B) (h : H D = none) : D ≠ dk ∧ D ≠ cl ∧ D ≠ lf := by
  obtain ⟨⟨_, _, _, e1, e2, e3, _⟩, _⟩ := d
  exact ⟨(ne_of_none e1 h).symm, (ne_of_none e2 h).symm, (ne_of_none e3 h).symm⟩
theorem Dk.upd {H : Hp} {dk cl lf D : Addr} {B : Nat} {o : HO} (d : Dk H dk cl lf B) (h : D ≠ dk ∧ D ≠ cl ∧ D ≠ lf) : Dk (L2.upd H D o) dk cl lf B := by
  obtain ⟨⟨cells, lefts, n, e1, e2, e3, r⟩, ne⟩ := d
  exact ⟨⟨cells, lefts, n, by rw [upd_ne h.1.symm]; exact e1, by rw [upd_ne h.2.1.symm]; exact e2, by rw [upd_ne h.2.2.symm]; exact e3, r⟩, ne⟩
theorem KD.upd {dk lf D : Addr} {H H1 H2 : Hp} {o : HO} (a : KD dk lf H H1) (b : KD dk lf H1 H2) (h : H1 D = none) : KD dk lf H (L2.upd H2 D o) := fun c u n1 n2 e => by
  rw [upd_ne (ne_of_none (a c u n1 n2 e) h)]
  exact b c u n1 n2 (a c u n1 n2 e)
/-! ### a callee -/
structure Cal (P : Program) (w : World) (K : PySem.W.Frag) (mg : Str → Option Value) (base : Heap) (x : Str) (ps : List Str) (k : Nat) (sp : Sp) : Prop where
  ex : ∃ (f : Addr) (fd : FuncData), FnOk P w K mg base CX0 k f fd ps sp ∧ mg x = some (.ref f) ∧ PySem.W.keepIn K (.ref f) = true ∧ Binds K fd ps []
theorem atI_of2 {α : Type} {xs : List α} {j : Nat} {v : α} {i : Int} (e : i = (j : Int)) (h : xs[j]? = some v) : atI xs i = some v := by subst e; exact atI_nat h
end K1
namespace K1
open PySem PySem.Spec PyProof.Rows L2
/-! ### types of written things -/
def tyN : PyData → String
  | .none => "NoneType"
  | .bool _ => "bool"
  | .int _ => "int"
  | .str _ => "str"
  | .tuple _ => "tuple"
  | .list _ => "list"
  | .dict _ => "dict"
def isT : PyData → Bool
  | .tuple _ => true
  | _ => false
def isB : PyData → Bool
  | .bool _ => true
  | _ => false
def isI : PyData → Bool
  | .int _ => true
  | .bool _ => true
  | _ => false
def isS : PyData → Bool
  | .str _ => true
  | _ => false
theorem kT : ∀ d : PyData, kitB (tyN d) "tuple" = some (isT d)
  | .none => (by decide +kernel : kitB "NoneType" "tuple" = some false)
  | .bool _ => (by decide +kernel : kitB "bool" "tuple" = some false)
  | .int _ => (by decide +kernel : kitB "int" "tuple" = some false)
  | .str _ => (by decide +kernel : kitB "str" "tuple" = some false)
  | .tuple _ => (by decide +kernel : kitB "tuple" "tuple" = some true)
  | .list _ => (by decide +kernel : kitB "list" "tuple" = some false)
  | .dict _ => (by decide +kernel : kitB "dict" "tuple" = some false)
theorem kB : ∀ d : PyData, kitB (tyN d) "bool" = some (isB d)
  | .none => (by decide +kernel : kitB "NoneType" "bool" = some false)
  | .bool _ => (by decide +kernel : kitB "bool" "bool" = some true)
  | .int _ => (by decide +kernel : kitB "int" "bool" = some false)
  | .str _ => (by decide +kernel : kitB "str" "bool" = some false)
  | .tuple _ => (by decide +kernel : kitB "tuple" "bool" = some false)
  | .list _ => (by decide +kernel : kitB "list" "bool" = some false)
  | .dict _ => (by decide +kernel : kitB "dict" "bool" = some false)
theorem kI : ∀ d : PyData, kitB (tyN d) "int" = some (isI d)
  | .none => (by decide +kernel : kitB "NoneType" "int" = some false)
  | .bool _ => (by decide +kernel : kitB "bool" "int" = some true)
  | .int _ => (by decide +kernel : kitB "int" "int" = some true)
  | .str _ => (by decide +kernel : kitB "str" "int" = some false)
  | .tuple _ => (by decide +kernel : kitB "tuple" "int" = some false)
  | .list _ => (by decide +kernel : kitB "list" "int" = some false)
  | .dict _ => (by decide +kernel : kitB "dict" "int" = some false)
theorem kS : ∀ d : PyData, kitB (tyN d) "str" = some (isS d)
  | .none => (by decide +kernel : kitB "NoneType" "str" = some false)
  | .bool _ => (by decide +kernel : kitB "bool" "str" = some false)
  | .int _ => (by decide +kernel : kitB "int" "str" = some false)
  | .str _ => (by decide +kernel : kitB "str" "str" = some true)
  | .tuple _ => (by decide +kernel : kitB "tuple" "str" = some false)
  | .list _ => (by decide +kernel : kitB "list" "str" = some false)
  | .dict _ => (by decide +kernel : kitB "dict" "str" = some false)
theorem dp_ty {K : PySem.W.Frag} {H : Hp} {v : V} {d : PyData} (h : Dp K H v d) (p : pl d = true) : TyX K H v (.type (tyN d)) := by
  cases h with
  | non => exact .base .non
  | bl b => exact .base (.bl b)
  | int i => exact .base (.int i)
  | str x => exact .base (.str x)
  | lst hs ha => cases p
  | tup hs ha =>
    rcases hs with (hs | ⟨o, hs⟩) | ⟨o, its, n, h1, h2, _⟩
    · exact .base (.tup hs)
    · exact .fTuple hs
    · exact .kTuple h1 h2
end K1
namespace K1
open PySem PySem.Spec PyProof.Rows L2
theorem paired_len {α β : Type} {F : α → β → Prop} : ∀ {xs : List α} {ys : List β}, Paired F xs ys → xs.length = ys.length
  | _, _, .nil => rfl
  | _, _, .cons _ t => by simp [paired_len t]
theorem paired_last {α β : Type} {F : α → β → Prop} : ∀ {xs : List α} {ys : List β}, Paired F xs ys → xs ≠ [] → ∃ xs' x ys' y, xs = xs' ++ [x] ∧ ys = ys' ++ [y] ∧ Paired F xs' ys' ∧ F x y
  | _, _, .nil, h => absurd rfl h
  | _, _, .cons (l₁ := []) h .nil, _ => ⟨[], _, [], _, rfl, rfl, .nil, h⟩
  | _, _, .cons (l₁ := _ :: _) h (.cons h2 t), _ => by
    obtain ⟨xs', x, ys', y, e1, e2, r, f⟩ := paired_last (.cons h2 t) (by simp)
    exact ⟨_ :: xs', x, _ :: ys', y, by rw [e1]; rfl, by rw [e2]; rfl, .cons h r, f⟩
theorem paired_append {α β : Type} {F : α → β → Prop} : ∀ {xs xs' : List α} {ys ys' : List β}, Paired F xs ys → Paired F xs' ys' → Paired F (xs ++ xs') (ys ++ ys')
  | _, _, _, _, .nil, s => s
  | _, _, _, _, .cons h t, s => .cons h (paired_append t s)
theorem paired_of {α β : Type} {F : α → β → Prop} : ∀ {xs : List α} {ys : List β}, xs.length = ys.length → (∀ (i : Nat) (x : α) (y : β), xs[i]? = some x → ys[i]? = some y → F x y) → Paired F xs ys
  | [], [], _, _ => .nil
  | [], _ :: _, h, _ => by cases h
  | _ :: _, [], h, _ => by cases h
  | x :: xs, y :: ys, h, f => .cons (f 0 x y rfl rfl) (paired_of (Nat.succ.inj h) fun i a b ea eb => f (i + 1) a b (by simpa using ea) (by simpa using eb))
/-- what the last test of alike says -/
theorem flat_alike : ∀ (d e : PyData), pl d = true → pl e = true → (isT d && isT e) = false → (isB d = isB e ∧ PyData.eqv d e = true ↔ d = e) := by
  intro d e p1 p2 nt
  cases d <;> cases e <;> simp_all [isT, isB, PyData.eqv, pl]
open Classical in
/-- the answer -/
noncomputable def eqB (d e : PyData) : Bool := decide (d = e)
open Classical in
theorem eqB_true {d e : PyData} (h : d = e) : eqB d e = true := decide_eq_true h
open Classical in
theorem eqB_false {d e : PyData} (h : d ≠ e) : eqB d e = false := decide_eq_false h
theorem flat_min {d e : PyData} (p1 : pl d = true) (p2 : pl e = true) (nt : (isT d && isT e) = false) : min d.depth e.depth ≤ 64 := by
  cases d <;> cases e <;> simp_all [isT, PyData.depth, pl]
theorem pss_weak {X : Cx} {st : List Stmt} {t t' : L2.TS} (h : PSs X st t) (g : ∀ D σ H, t' D σ H → t D σ H) : PSs X st t' := ⟨fun pins s σ H D I hh => h.run pins s σ H D I (g D σ H hh)⟩
theorem non_iff {K : PySem.W.Frag} {H : Hp} {x : V} {d : PyData} (h : Dp K H x d) : x = .non ↔ d = .none := by
  cases h <;> simp
theorem flat_same : ∀ (d e : PyData), pl d = true → pl e = true → d ≠ .none → e ≠ .none → isB d = isB e → isT d = false → isT e = false → (PyData.eqv d e = true ↔ d = e) := by
  intro d e p1 p2 n1 n2 b t1 t2
  cases d <;> cases e <;> simp_all [isT, isB, PyData.eqv, pl]
theorem eqv_nil (xs : List PyData) : PyData.eqv (.list xs) (.list []) = xs.isEmpty := by
  cases xs <;> simp [PyData.eqv, PyData.eqvAll]
end K1
namespace K1
open PySem PySem.Spec PyProof.Rows L2
theorem emp_iff {α β : Type} {F : α → β → Prop} {xs : List α} {ys : List β} (h : Paired F xs ys) : xs.isEmpty = ys.isEmpty := by cases h <;> rfl
theorem dpAll_emp {K : PySem.W.Frag} {H : Hp} {xs : List V} {ys : List PyData} (h : DpAll K H xs ys) : xs.isEmpty = ys.isEmpty := by cases h <;> rfl
/-- a sum of two tuples, wherever it lies -/
theorem catA_any {K : PySem.W.Frag} {H : Hp} {a b : Addr} {xs ys : List V} {Q : VK} (ha : SqT K H a xs) (hb : SqT K H b ys) (hl : xs.length + ys.length ≤ sizeLine)
    (q : ∀ r H', Same H H' → SqT K H' r (xs ++ ys) → Q (.ref r) H') : rCatA K (.ref a) (.ref b) H Q := by
  refine ⟨a, b, xs, ys, rfl, rfl, ha, hb, hl, fun e => ?_, fun e1 e2 => ?_, fun e1 e2 p np => q p _ (same_upd np) (.inl (.inl upd_same))⟩
  · subst e; exact q b H (Same.refl _) hb
  · subst e2; exact q a H (Same.refl _) (by rw [List.append_nil]; exact ha)
end K1
namespace K1
open PySem PySem.Spec PyProof.Rows L2
theorem slA_any {K : PySem.W.Frag} {H : Hp} {a : Addr} {xs : List V} {lo hi : Option Int} {Q : VK} (ha : SqT K H a xs) (q : ∀ r H', Same H H' → SqT K H' r (cutV xs lo hi) → Q (.ref r) H') : rSlA K (.ref a) lo hi H Q := by
  refine ⟨a, xs, rfl, ha, fun hw => ?_, fun _ p np => q p _ (same_upd np) (.inl (.inl upd_same))⟩
  have e : cutV xs lo hi = xs := by
    unfold cutV
    rw [hw.1, hw.2]
    simp
  exact q a H (Same.refl _) (by rw [e]; exact ha)
theorem cut_take (xs : List V) (i : Nat) : cutV xs none (some (i : Int)) = xs.take i := by
  unfold cutV
  rw [HT.sIx_none, HT.sIx_nat]
  simp only [List.drop_zero, Nat.sub_zero]
  by_cases h : i ≤ xs.length
  · rw [show min i xs.length = i by omega]
  · rw [show min i xs.length = xs.length by omega, List.take_length, List.take_of_length_le (by omega)]
theorem cut_drop (xs : List V) (i : Nat) : cutV xs (some (i : Int)) none = xs.drop i := by
  unfold cutV
  rw [HT.sIx_none, HT.sIx_nat]
  by_cases h : i ≤ xs.length
  · rw [show min i xs.length = i by omega]
    rw [List.take_of_length_le (by rw [List.length_drop]; omega)]
  · rw [show min i xs.length = xs.length by omega, List.drop_of_length_le (by omega), List.drop_of_length_le (by omega)]
    simp
theorem eqv_nilT (xs : List PyData) : PyData.eqv (.tuple xs) (.tuple []) = xs.isEmpty := by
  cases xs <;> simp [PyData.eqv, PyData.eqvAll]
end K1
namespace K1
open PySem PySem.Spec PyProof.Rows L2
/-! ### a comprehension over zip of two tuples of one length -/
theorem lc_zipT {K : PySem.W.Frag} {a b : Addr} {xs ys : List V} {g : TG} {tt : TT} {te : TE} {vs : List Nat} {σ : L2.St} {H1 : Hp} {D : Addr} {Qd : Hp → Prop} (hl : xs.length = ys.length) (Pv : Nat → Hp → Prop) (h0 : Pv 0 (L2.upd H1 D (.lst [])))
    (hq : ∀ i H, i ≤ xs.length → Pv i H → SqT K H a xs ∧ SqT K H b ys)
    (hs : ∀ (i : Nat) (x y : V) (T : Addr) (H : Hp), xs[i]? = some x → ys[i]? = some y → Pv i H → H T = none → g (.ref T) (wipe σ vs) (L2.upd H T (.tup [x, y])) fun σ2 H2 => wipe σ2 vs = wipe σ vs ∧ tt σ2 H2 fun b H3 =>
      if b = true then te σ2 H3 fun y H4 => ∃ acc, H4 D = some (.lst acc) ∧ acc.length < sizeLine ∧ Pv (i + 1) (L2.upd H4 D (.lst (acc ++ [y]))) else Pv (i + 1) H3) (hd : ∀ H, Pv xs.length H → Qd H) :
    ∃ W : Nat → Nat → Hp → Prop, (∃ m, W 0 m (L2.upd H1 D (.lst []))) ∧ ∀ i m H, W i m H →
      ((RZ.ItzT K a b).stop i H ∧ Qd H) ∨ ((RZ.ItzT K a b).go i H ∧ ∃ Nx : Hp → Prop, (∀ H', Nx H' → ∃ m', m' < m ∧ W (i + 1) m' H') ∧ ∀ x H', (RZ.ItzT K a b).yld i H x H' → g x (wipe σ vs) H' fun σ2 H2 => wipe σ2 vs = wipe σ vs ∧ tt σ2 H2 fun b H3 =>
        if b = true then te σ2 H3 fun y H4 => ∃ acc, H4 D = some (.lst acc) ∧ acc.length < sizeLine ∧ Nx (L2.upd H4 D (.lst (acc ++ [y]))) else Nx H3) := by
  refine ⟨fun i m H => m = xs.length - i ∧ i ≤ xs.length ∧ Pv i H, ⟨xs.length, by simp, Nat.zero_le _, h0⟩, ?_⟩
  rintro i m H ⟨rfl, hi, p⟩
  obtain ⟨qx, qy⟩ := hq i H hi p
  by_cases hlt : i < xs.length
  · have hx : xs[i]? = some xs[i] := List.getElem?_eq_getElem hlt
    have hlt2 : i < ys.length := by omega
    have hy : ys[i]? = some ys[i] := List.getElem?_eq_getElem hlt2
    refine .inr ⟨⟨xs, ys, _, _, qx, qy, hx, hy⟩, Pv (i + 1), fun H' p' => ⟨xs.length - (i + 1), by omega, rfl, hlt, p'⟩, fun v H' y => ?_⟩
    obtain ⟨T, x', y', rfl, hT, rfl, f1, f2⟩ := y
    exact hs i x' y' T H (f1 xs qx) (f2 ys qy) p hT
  · have e : i = xs.length := by omega
    subst e
    exact .inl ⟨⟨xs, ys, qx, qy, Or.inl (Nat.le_refl _)⟩, hd H p⟩
end K1
namespace K3
open PySem PySem.Spec PyProof.Rows L2 K1
def topS (i : Nat) : Stmt := PySem.Challenge.pw_packedforms_k33_papers_spoilt.main.body.getD i (.Pass ⟨0, 0, 0, 0⟩)
end K3
namespace K3
open PySem PySem.Spec PyProof.Rows L2 K1
abbrev s__law_draws : Stmt := topS 20
abbrev nm__law_draws : List Str := ["_law_script", "_law_cells", "_law_cell"]
abbrev pm__law_draws : List Str := ["_law_script"]
theorem sc__law_draws : FnScope nm__law_draws pm__law_draws (defScope s__law_draws) := ⟨rfl, rfl, rfl, by decide +kernel, rfl, by decide +kernel, by decide +kernel⟩
abbrev s__law_next : Stmt := topS 21
abbrev nm__law_next : List Str := ["_law_drawn", "_law_many", "_law_cells", "_law_sofar", "_law_rests", "_law_at", "_law_digit", "_law_primes", "_law_mixed", "_law_more"]
abbrev pm__law_next : List Str := ["_law_drawn", "_law_many"]
theorem sc__law_next : FnScope nm__law_next pm__law_next (defScope s__law_next) := ⟨rfl, rfl, rfl, by decide +kernel, rfl, by decide +kernel, by decide +kernel⟩
section
variable {P : Program} {w : World} {K : PySem.W.Frag} {mg : Str → Option Value} {base : Heap}
def sp__law_next : Sp := fun vs H Q _ => ∃ (dk cl lf : Addr) (B : Nat) (m : Int), vs = [.ref dk, .int m] ∧ Dk H dk cl lf B ∧ B ≤ 2 ^ 40 ∧ 0 < m ∧ m.natAbs.log2 < 9000 ∧
  ∀ (d : Int) (H' : Hp), 0 ≤ d → d < m → Dk H' dk cl lf (B + 1) → KD dk lf H H' → Q (.int d) H'
def sp__law_draws (K : PySem.W.Frag) : Sp := fun vs H Q _ => ∃ (a : Addr) (ns : List Int), vs = [.ref a] ∧ SqL K H a (ns.map V.int) ∧ ns.length ≤ 63 ∧
  ∀ (dk cl lf : Addr) (H' : Hp), Dk H' dk cl lf 0 → Same H H' → H dk = none → H lf = none → Q (.ref dk) H'
theorem primes_at (d : Nat) (h : d < 7) : ∃ p : Int, ([V.int 2147483629, V.int 2147483587, V.int 2147483579, V.int 2147483563, V.int 2147483549, V.int 2147483543, V.int 2147483497] : List V)[d]? = some (.int p) ∧ 0 < p ∧ p ≤ 2147483629 := by
  rcases (show d = 0 ∨ d = 1 ∨ d = 2 ∨ d = 3 ∨ d = 4 ∨ d = 5 ∨ d = 6 by omega) with e | e | e | e | e | e | e <;> subst e <;> exact ⟨_, rfl, by decide, by decide⟩
theorem ok__law_next {f : Addr} {fd : FuncData} (F : Fun K "_law_next" "_law_next" s__law_next f fd) (m_len : mg "len" = none) : FnOk P w K mg base CX0 1 f fd pm__law_next sp__law_next := by
  refine F.ok sc__law_next (fun vs H Q E h => ?_) (fun cdv A outer s H vs Q E hr h => ?_)
  · obtain ⟨dk, cl, lf, B, m, rfl, _⟩ := h
    rfl
  · obtain ⟨dk, cl, lf, B, m, rfl, ⟨⟨cells, lefts, n, e1, e2, e3, hlen, hpos, hmx, hn, hnB⟩, hne⟩, hB, hm, hm2, q⟩ := h
    refine ⟨_, pss_cons (ps_asg (pv 0) (pg_unl rfl (pgs_cons (pg_name (i := 2) sc__law_next.nd rfl (.inl rfl)) (pgs_cons (pg_name (i := 3) sc__law_next.nd rfl (.inl rfl)) (pgs_cons (pg_name (i := 4) sc__law_next.nd rfl (.inl rfl)) pgs_nil)))))
      (pss_cons (ps_set (i := 5) sc__law_next.nd rfl (.inl rfl) (pe_op op_mod (pv 3) (pe_callB call_len_seq (by rfl) m_len PySem.boot_len (pa_cons (pv 2) pa_nil))))
      (pss_cons (ps_asg (pe_op op_add (pv 3) pe_int) (pg_sub (pv 0) pe_int set_list))
      (pss_cons (ps_if (pt_cmpR op_gt (pe_ix ix_list (pv 4) (pv 5) (fun _ _ => rfl)) pe_int (nomark _))
      (pss_cons (ps_set (i := 6) sc__law_next.nd rfl (.inl rfl) (pe_op op_mod (pe_ix ix_list (pv 4) (pv 5) (fun _ _ => rfl)) (pv 1)))
      (pss_cons (ps_asg (pe_op op_fdivW (pe_ix ix_list (pv 4) (pv 5) (fun _ _ => rfl)) (pv 1)) (pg_sub (pv 4) (pv 5) set_list))
      (pss_one (ps_ret (pv 6))))) pss_nil)
      (pss_cons (ps_set (i := 7) sc__law_next.nd rfl (.inl rfl) (pe_lst (pa_cons pe_int (pa_cons pe_int (pa_cons pe_int (pa_cons pe_int (pa_cons pe_int (pa_cons pe_int (pa_cons pe_int pa_nil)))))))))
      (pss_cons (ps_set (i := 8) sc__law_next.nd rfl (.inl rfl) (pe_op op_add (pe_op op_add (pe_op op_mod (pe_ix ix_list (pv 2) (pv 5) (fun _ _ => rfl)) pe_int) (pe_op op_mul pe_int (pv 3))) pe_int))
      (pss_cons (ps_set (i := 8) sc__law_next.nd rfl (.inl rfl) (pe_op op_mod (pe_op op_pow (pv 8) pe_int) (pe_ix ix_list (pv 7) (pe_op op_mod (pv 3) pe_int) (fun _ _ => rfl))))
      (pss_cons (ps_set (i := 9) sc__law_next.nd rfl (.inl rfl) (pe_op op_mod (pe_op op_pow (pe_op op_add (pv 8) (pe_op op_mul pe_int (pv 3))) pe_int) pe_int))
      (pss_one (ps_ret (pe_op op_mod (pe_op op_mod (pe_op op_add (pe_op op_mul (pv 9) pe_int) (pv 8)) pe_int) (pv 1))))))))))), ?_⟩
    have hS1 : SqL K H dk [.ref cl, .int n, .ref lf] := .inl (.inl e1)
    have hS2 : SqL K H cl (cells.map V.int) := .inl (.inl e2)
    refine ⟨.ref dk, rfl, dk, _, rfl, hS1, rfl, _, _, rfl, _, _, rfl, _, _, rfl, rfl, ?_⟩
    refine ⟨.int n, rfl, .ref cl, rfl, cl, _, rfl, .inl hS2, n, (cells.map V.int).length, rfl, rfl, ?_, ?_⟩
    · show (0 : Int) < ((cells.map V.int).length : Nat)
      rw [List.length_map]
      omega
    · have hlm : (cells.map V.int).length = cells.length := List.length_map ..
      obtain ⟨j, hj, ej⟩ : ∃ j : Nat, j < cells.length ∧ n % (((cells.map V.int).length : Nat) : Int) = (j : Int) := by
        have hb := emod_bounds n (m := ((cells.map V.int).length : Nat)) (by rw [hlm]; omega)
        rw [hlm] at hb ⊢
        exact ⟨(n % (cells.length : Int)).toNat, by omega, by omega⟩
      have eat : ((fun i j => V.int (i % j)) n (((cells.map V.int).length : Nat) : Int)) = V.int (j : Int) := congrArg V.int ej
      rw [eat]
      have hj2 : j < lefts.length := by omega
      have gc : (cells.map V.int)[j]? = some (.int cells[j]) := by rw [List.getElem?_map, List.getElem?_eq_getElem hj]; rfl
      have gl : (lefts.map V.int)[j]? = some (.int lefts[j]) := by rw [List.getElem?_map, List.getElem?_eq_getElem hj2]; rfl
      have nd1 : cl ≠ dk := ne_of e2 e1 (fun z => by
        injection z with z
        cases cells with
        | nil => simp at hpos
        | cons c r => simp at z)
      have nd2 : lf ≠ dk := ne_of e3 e1 (fun z => by
        injection z with z
        cases lefts with
        | nil => simp at hj2
        | cons c r => simp at z)
      refine ⟨.int n, rfl, n, 1, rfl, rfl, .ref dk, rfl, dk, _, 1, 1, rfl, rfl, e1, rfl, ?_⟩
      generalize hH1 : upd H dk (HO.lst ([V.ref cl, V.int n, V.ref lf].set 1 (V.int (n + 1)))) = H1
      have f1 : H1 dk = some (.lst [.ref cl, .int (n + 1), .ref lf]) := by rw [← hH1, upd_same]; rfl
      have f2 : H1 cl = some (.lst (cells.map V.int)) := by rw [← hH1, upd_ne nd1]; exact e2
      have f3 : H1 lf = some (.lst (lefts.map V.int)) := by rw [← hH1, upd_ne nd2]; exact e3
      have k1 : KD dk lf H H1 := fun b o n1 n2 e => by rw [← hH1, upd_ne n1]; exact e
      have D1 : Dk H1 dk cl lf (B + 1) := ⟨⟨cells, lefts, n + 1, f1, f2, f3, hlen, hpos, hmx, by omega, by omega⟩, hne⟩
      have sl : SqL K H1 lf (lefts.map V.int) := .inl (.inl f3)
      have sc : SqL K H1 cl (cells.map V.int) := .inl (.inl f2)
      refine ⟨.ref lf, rfl, .int j, rfl, lf, _, _, _, rfl, rfl, sl, atI_nat gl, _, _, rfl, rfl, _, rfl, ite2 (fun _ => ?_) (fun _ => ?_)⟩
      · refine ⟨.ref lf, rfl, .int j, rfl, lf, _, _, _, rfl, rfl, sl, atI_nat gl, .int m, rfl, _, _, rfl, rfl, hm, ?_⟩
        refine ⟨.ref lf, rfl, .int j, rfl, lf, _, _, _, rfl, rfl, sl, atI_nat gl, .int m, rfl, _, _, rfl, rfl, ⟨hm, hm2⟩, .ref lf, rfl, .int j, rfl, lf, _, j, j, rfl, rfl, f3, ?_, ?_⟩
        · rw [List.length_map]
          unfold ixN
          rw [if_pos (by omega), if_pos (by omega)]
          simp
        · refine ⟨_, rfl, q _ _ (Int.emod_nonneg _ (by omega)) (Int.emod_lt_of_pos _ hm) ⟨⟨cells, lefts.set j (lefts[j] / m), n + 1, ?_, ?_, ?_, ?_, hpos, hmx, by omega, by omega⟩, hne⟩ ?_⟩
          · rw [upd_ne nd2.symm]; exact f1
          · rw [upd_ne hne]; exact f2
          · rw [upd_same, List.map_set]
          · rw [List.length_set]; exact hlen
          · intro b o n1 n2 e
            rw [upd_ne n2]
            exact k1 b o n1 n2 e
      · have c1 := emod_bounds cells[j] (m := 2147483647) (by decide)
        refine ⟨(by show 7 ≤ sizeLine; decide), fun l nl => ?_⟩
        have s2 : Same H1 (upd H1 l (.lst [V.int 2147483629, V.int 2147483587, V.int 2147483579, V.int 2147483563, V.int 2147483549, V.int 2147483543, V.int 2147483497])) := same_upd nl
        have cl2 : (upd H1 l (.lst [V.int 2147483629, V.int 2147483587, V.int 2147483579, V.int 2147483563, V.int 2147483549, V.int 2147483543, V.int 2147483497])) l = some (.lst [V.int 2147483629, V.int 2147483587, V.int 2147483579, V.int 2147483563, V.int 2147483549, V.int 2147483543, V.int 2147483497]) := upd_same
        generalize upd H1 l (HO.lst [V.int 2147483629, V.int 2147483587, V.int 2147483579, V.int 2147483563, V.int 2147483549, V.int 2147483543, V.int 2147483497]) = H2 at s2 cl2 ⊢
        have sc2 : SqL K H2 cl (cells.map V.int) := .inl (.inl (s2 _ _ f2))
        have sl2 : SqL K H2 l _ := .inl (.inl cl2)
        refine ⟨.ref cl, rfl, .int j, rfl, cl, _, _, _, rfl, rfl, sc2, atI_nat gc, _, _, rfl, rfl, (by show (0 : Int) < 2147483647; decide), .int n, rfl, _, _, rfl, rfl, .inl ⟨by decide, by decide⟩, _, _, rfl, rfl, _, _, rfl, rfl, ?_⟩
        dsimp only
        generalize hmx1 : cells[j] % 2147483647 + 48271 * n + 104729 = mixed
        have b1 : 0 ≤ mixed ∧ mixed < 2 ^ 60 := by
          constructor
          · omega
          · have : (n : Int) ≤ 2 ^ 40 := by omega
            omega
        obtain ⟨d7, hd7, ed7⟩ : ∃ d : Nat, d < 7 ∧ n % 7 = (d : Int) := by
          have hb := emod_bounds n (m := 7) (by decide)
          exact ⟨(n % 7).toNat, by omega, by omega⟩
        obtain ⟨p, gp, pp, pq⟩ := primes_at d7 hd7
        refine ⟨.int mixed, rfl, _, _, rfl, rfl, ⟨by decide, by decide, by omega⟩, .ref l, rfl, .int n, rfl, _, _, rfl, rfl, (by show (0 : Int) < 7; decide), l, _, _, _, rfl, rfl, sl2, atI_of ed7 gp, _, _, rfl, rfl, pp, ?_⟩
        dsimp only
        generalize hm3 : mixed ^ Int.toNat 3 % p = mix3
        have b3 : 0 ≤ mix3 ∧ mix3 < 2147483629 := by
          have := emod_bounds (mixed ^ Int.toNat 3) pp
          omega
        refine ⟨.int mix3, rfl, .int n, rfl, _, _, rfl, rfl, .inl ⟨by decide, by decide⟩, _, _, rfl, rfl, _, _, rfl, rfl, ⟨by decide, by decide, ?_⟩, _, _, rfl, rfl, (by show (0 : Int) < 2147483477; decide), ?_⟩
        · have : (n : Int) ≤ 2 ^ 40 := by omega
          omega
        dsimp only
        generalize hm4 : (mix3 + 7919 * n) ^ Int.toNat 2 % 2147483477 = more
        have b4 : 0 ≤ more ∧ more < 2147483477 := by rw [← hm4]; exact emod_bounds _ (by decide)
        refine ⟨.int more, rfl, _, _, rfl, rfl, .inl ⟨by omega, by omega⟩, .int mix3, rfl, _, _, rfl, rfl, _, _, rfl, rfl, (by show (0 : Int) < 4611686018427387847; decide), .int m, rfl, _, _, rfl, rfl, hm, ?_⟩
        exact q _ _ (Int.emod_nonneg _ (by omega)) (Int.emod_lt_of_pos _ hm) (D1.same s2) (k1.trans (KD.of_same s2))
theorem ok__law_draws {f : Addr} {fd : FuncData} (F : Fun K "_law_draws" "_law_draws" s__law_draws f fd) (m_list : mg "list" = none) (m_int : mg "int" = none) (m_len : mg "len" = none) : FnOk P w K mg base CX0 1 f fd pm__law_draws (sp__law_draws K) := by
  refine F.ok sc__law_draws (fun vs H Q E h => ?_) (fun cdv A outer s H vs Q E hr h => ?_)
  · obtain ⟨a, ns, rfl, _⟩ := h
    rfl
  · obtain ⟨a, ns, rfl, hS, hlen, q⟩ := h
    refine ⟨_, pss_cons (ps_set (i := 1) sc__law_draws.nd rfl (.inl rfl) (pe_op op_cat (pe_callTy call_list_of (by rfl) m_list (by decide +kernel) (pa_cons (pe_slice sl_list (pv 0) po_none (po_some pe_int)) pa_nil)) (pe_op op_rep (pe_lst (pa_cons pe_int pa_nil)) (pe_callTy call_int1 (by rfl) m_int (by decide +kernel) (pa_cons (pe_cmpR op_eq (pe_callB call_len_seq (by rfl) m_len PySem.boot_len (pa_cons (pv 0) pa_nil)) pe_int (nomark _)) pa_nil)))))
      (pss_one (ps_ret (pe_lst (pa_cons (pv 1) (pa_cons pe_int (pa_cons (pe_lc (own := [("_law_cell", 2)]) (g := gName 2) (tt := tYes) rfl sc__law_draws.nd (pi_list (pv 1)) (blkOk_by (N := nm__law_draws) (sc := defScope s__law_draws) (by decide +kernel)) (fun _ _ _ _ _ => pg_name (i := 2) sc__law_draws.nd rfl (Or.inl rfl)) (fun _ _ _ _ _ => pts_nil) (fun _ _ _ _ _ => (pe_op op_mul (pv 2) (pe_callTy call_int1 (by rfl) m_int (by decide +kernel) (pa_cons (pe_cmpR op_ge (pv 2) (pe_op op_pow pe_int pe_int) (nomark _)) pa_nil))))) pa_nil)))))), ?_⟩
    refine ⟨.ref a, rfl, 63, rfl, a, _, rfl, hS, fun c nc => ?_⟩
    rw [cut63 _ (by rw [List.length_map]; exact hlen)]
    generalize hH1 : upd H c (HO.lst (ns.map V.int)) = H1
    have s1 : Same H H1 := by rw [← hH1]; exact same_upd nc
    have c1 : H1 c = some (.lst (ns.map V.int)) := by rw [← hH1, upd_same]
    refine ⟨c, _, rfl, .inl (.inl (.inl c1)), fun l nl => ?_⟩
    generalize hH2 : upd H1 l (HO.lst (ns.map V.int)) = H2
    have s2 : Same H1 H2 := by rw [← hH2]; exact same_upd nl
    have c2 : H2 l = some (.lst (ns.map V.int)) := by rw [← hH2, upd_same]
    refine ⟨(by show 1 ≤ sizeLine; decide), fun z nz => ?_⟩
    generalize hH3 : upd H2 z (HO.lst [V.int 0]) = H3
    have s3 : Same H2 H3 := by rw [← hH3]; exact same_upd nz
    have c3 : H3 z = some (.lst [V.int 0]) := by rw [← hH3, upd_same]
    have s03 : Same H H3 := s1.trans (s2.trans s3)
    obtain ⟨kk, hkk, hkv⟩ : ∃ kk : Nat, kk ≤ 1 ∧ (if decide (V.int ((ns.map V.int).length : Nat) = V.int 0) = true then (1 : Int) else 0) = kk ∧ (ns = [] → kk = 1) := by
      by_cases e : ns = []
      · subst e; exact ⟨1, by omega, by simp, fun _ => rfl⟩
      · refine ⟨0, by omega, ?_, fun z => absurd z e⟩
        have : ¬ V.int ((ns.map V.int).length : Nat) = V.int 0 := fun z => e (by
          have z1 := V.int.inj z
          rw [List.length_map] at z1
          exact List.length_eq_zero_iff.mp (by omega))
        rw [decide_eq_false this]
        rfl
    refine ⟨.ref a, rfl, a, _, rfl, .inl (s03.seq hS), rfl, .inr ⟨_, rfl, ?_⟩⟩
    refine ⟨z, _, [V.int 0], rfl, rfl, c3, ?_, ?_, ?_, fun p np => ?_⟩
    · rw [hkv.1]; omega
    · rw [hkv.1]; omega
    · rw [hkv.1]
      show 1 * ((kk : Int)).toNat ≤ sizeLine
      exact Nat.le_trans (show 1 * ((kk : Int)).toNat ≤ 1 by omega) (by decide)
    rw [hkv.1]
    have hrep : (List.replicate ((kk : Int)).toNat [V.int 0]).flatten = (List.replicate kk (0 : Int)).map V.int := by
      rw [Int.toNat_natCast]
      rcases (show kk = 0 ∨ kk = 1 by omega) with e | e <;> (subst e; rfl)
    rw [hrep]
    generalize hH4 : upd H3 p (HO.lst ((List.replicate kk (0 : Int)).map V.int)) = H4
    have s4 : Same H3 H4 := by rw [← hH4]; exact same_upd np
    have c4 : H4 p = some (.lst ((List.replicate kk (0 : Int)).map V.int)) := by rw [← hH4, upd_same]
    refine ⟨l, p, _, _, rfl, rfl, s4 _ _ (s3 _ _ c2), c4, ?_, fun r nr => ?_⟩
    · rw [List.length_map, List.length_map, List.length_replicate]
      exact Nat.le_trans (show ns.length + kk ≤ 64 by omega) (by decide)
    rw [← List.map_append]
    generalize hcells : ns ++ List.replicate kk 0 = cells
    have hcl : 0 < cells.length ∧ cells.length ≤ 100 := by
      rw [← hcells, List.length_append, List.length_replicate]
      refine ⟨?_, by omega⟩
      cases ns with
      | nil => have := hkv.2 rfl; omega
      | cons x r => simp; omega
    generalize hH5 : upd H4 r (HO.lst (cells.map V.int)) = H5
    have s5 : Same H4 H5 := by rw [← hH5]; exact same_upd nr
    have c5 : H5 r = some (.lst (cells.map V.int)) := by rw [← hH5, upd_same]
    have s05 : Same H H5 := s03.trans (s4.trans s5)
    refine ⟨.ref r, rfl, .ref r, rfl, r, rfl, ⟨_, .inl (.inl c5)⟩, fun D hD => lc_list (xs := cells.map V.int) (fun i H' => ∃ lefts : List Int, lefts.length = i ∧ H' D = some (.lst (lefts.map V.int)) ∧ Same H5 H') ⟨[], rfl, upd_same, same_upd hD⟩
      (fun i H' _ hp => ?_) (fun i x H' hx hp => ?_) (fun H' hp => ?_)⟩
    · obtain ⟨_, _, _, sm⟩ := hp
      exact .inl (.inl (sm _ _ c5))
    · obtain ⟨lefts, el, eD, sm⟩ := hp
      obtain ⟨n, rfl⟩ : ∃ n, x = V.int n := by
        rw [List.getElem?_map] at hx
        cases h : cells[i]? with
        | none => rw [h] at hx; cases hx
        | some n => rw [h] at hx; exact ⟨n, (Option.some.inj hx).symm⟩
      have hi : i < cells.length := by
        have := (List.getElem?_eq_some_iff.mp hx).1
        rwa [List.length_map] at this
      refine ⟨rfl, ?_⟩
      refine iteT (B := ∃ lefts : List Int, lefts.length = i + 1 ∧ H' D = some (.lst (lefts.map V.int)) ∧ Same H5 H') ?_
      refine ⟨.int n, rfl, .int n, rfl, _, _, rfl, rfl, ⟨by decide, by decide, by decide⟩, _, _, rfl, rfl, .inr ⟨_, rfl, _, _, rfl, rfl, .inr ?_, ?_⟩⟩
      · constructor
        · split <;> decide
        · split <;> decide
      · refine ⟨_, eD, ?_, lefts ++ [n * (if decide (10 ^ Int.toNat 18 ≤ n) = true then 1 else 0)], ?_, ?_, ?_⟩
        · rw [List.length_map]
          exact Nat.lt_of_le_of_lt (show lefts.length ≤ 100 by omega) (by decide)
        · rw [List.length_append, el]; rfl
        · rw [upd_same, List.map_append]; rfl
        · intro b o e
          rw [upd_ne (ne_of_none e hD)]
          exact sm b o e
    · obtain ⟨lefts, el, eD, sm⟩ := hp
      refine ⟨(by show 3 ≤ sizeLine; decide), fun dk ndk => ?_⟩
      have eDr : r ≠ D := ne_of_none c5 hD
      refine q dk r D _ ⟨⟨cells, lefts, 0, upd_same, ?_, ?_, ?_, hcl.1, hcl.2, by omega, by omega⟩, eDr⟩ ?_ ?_ ?_
      · rw [upd_ne (ne_of_none (sm _ _ c5) ndk)]; exact sm _ _ c5
      · rw [upd_ne (ne_of_none eD ndk)]; exact eD
      · rw [el, List.length_map]
      · exact (s05.trans sm).trans (same_upd ndk)
      · exact (s05.trans sm).free ndk
      · exact s05.free hD
end
end K3
namespace K3
/-! ### parts, laid one behind the other -/
abbrev Part := Int × Int
def AlOk (m : Int) : Prop := m = 1 ∨ m = 8 ∨ m = 16 ∨ m = 32 ∨ m = 64
def PtOk (p : Part) : Prop := 0 ≤ p.1 ∧ p.1 ≤ 4096 ∧ AlOk p.2
theorem AlOk.pos {m : Int} (h : AlOk m) : 0 < m ∧ m ≤ 64 := by
  rcases h with rfl | rfl | rfl | rfl | rfl <;> decide
def rup (e m : Int) : Int := (e + m - 1) / m * m
theorem rup_neg {e m : Int} (h : AlOk m) : -(-e / m) * m = rup e m := by
  unfold rup
  rcases h with rfl | rfl | rfl | rfl | rfl <;> omega
theorem rup_ge {e m : Int} (h : AlOk m) : e ≤ rup e m := by
  unfold rup
  rcases h with rfl | rfl | rfl | rfl | rfl <;> omega
theorem rup_lt {e m : Int} (h : AlOk m) : rup e m < e + m := by
  unfold rup
  rcases h with rfl | rfl | rfl | rfl | rfl <;> omega
theorem rup_mod {e m : Int} (h : AlOk m) : rup e m % m = 0 := by
  unfold rup
  rcases h with rfl | rfl | rfl | rfl | rfl <;> omega
theorem rup_mono {e f m : Int} (h : AlOk m) (hl : e ≤ f) : rup e m ≤ rup f m := by
  unfold rup
  rcases h with rfl | rfl | rfl | rfl | rfl <;> omega
theorem rup_fix {e m : Int} (h : AlOk m) (hz : e % m = 0) : rup e m = e := by
  unfold rup
  rcases h with rfl | rfl | rfl | rfl | rfl <;> omega
def lay (p : Part) (e : Int) : Int := if p.1 = 0 then e else rup e p.2 + p.1
def pt (ps : List Part) (n : Nat) : Part := ps.getD n (0, 1)
theorem pt_of {ps : List Part} {n : Nat} {p : Part} (h : ps[n]? = some p) : pt ps n = p := by
  unfold pt
  rw [List.getD_eq_getElem?_getD, h]
  rfl
theorem pt_ok {ps : List Part} (h : ∀ p ∈ ps, PtOk p) (n : Nat) : PtOk (pt ps n) := by
  by_cases hn : n < ps.length
  · rw [pt_of (List.getElem?_eq_getElem hn)]
    exact h _ (List.getElem_mem hn)
  · unfold pt
    rw [List.getD_eq_getElem?_getD, List.getElem?_eq_none (by omega)]
    exact ⟨by decide, by decide, .inl rfl⟩
def step (ps : List Part) (st : List Int × Int) (n : Nat) : List Int × Int :=
  if (pt ps n).1 = 0 then st else (st.1.set n (rup st.2 (pt ps n).2), rup st.2 (pt ps n).2 + (pt ps n).1)
def laidF (ps : List Part) (os : List Nat) : List Int × Int := os.foldl (step ps) (List.replicate ps.length 0, 0)
theorem step_end (ps : List Part) (st : List Int × Int) (n : Nat) : (step ps st n).2 = lay (pt ps n) st.2 := by
  unfold step lay
  by_cases h : (pt ps n).1 = 0
  · rw [if_pos h, if_pos h]
  · rw [if_neg h, if_neg h]
theorem step_len (ps : List Part) (st : List Int × Int) (n : Nat) : (step ps st n).1.length = st.1.length := by
  unfold step
  by_cases h : (pt ps n).1 = 0
  · rw [if_pos h]
  · rw [if_neg h]
    exact List.length_set
theorem laidF_len (ps : List Part) (os : List Nat) : (laidF ps os).1.length = ps.length := by
  have : ∀ (os : List Nat) (st : List Int × Int), (os.foldl (step ps) st).1.length = st.1.length := by
    intro os
    induction os with
    | nil => intro st; rfl
    | cons o os ih => intro st; rw [List.foldl_cons, ih, step_len]
  unfold laidF
  rw [this, List.length_replicate]
theorem laidF_snoc (ps : List Part) (os : List Nat) (n : Nat) : laidF ps (os ++ [n]) = step ps (laidF ps os) n := by
  unfold laidF
  rw [List.foldl_append]
  rfl
/-- what is laid so far -/
structure Laid (ps : List Part) (os : List Nat) (st : List Int × Int) : Prop where
  len : st.1.length = ps.length
  nn : 0 ≤ st.2
  zero : ∀ k, (pt ps k).1 = 0 → st.1.getD k 0 = 0
  off : ∀ k, k ∉ os → st.1.getD k 0 = 0
  low : ∀ k, 0 ≤ st.1.getD k 0
  al : ∀ k, st.1.getD k 0 % (pt ps k).2 = 0
  ends : ∀ k ∈ os, 0 < (pt ps k).1 → st.1.getD k 0 + (pt ps k).1 ≤ st.2
  apart : ∀ k ∈ os, ∀ j ∈ os, k ≠ j → 0 < (pt ps k).1 → 0 < (pt ps j).1 → st.1.getD k 0 + (pt ps k).1 ≤ st.1.getD j 0 ∨ st.1.getD j 0 + (pt ps j).1 ≤ st.1.getD k 0
  last : st.2 = 0 ∨ ∃ k ∈ os, 0 < (pt ps k).1 ∧ st.1.getD k 0 + (pt ps k).1 = st.2
theorem getD_set (xs : List Int) (n k : Nat) (v : Int) (hn : n < xs.length) : (xs.set n v).getD k 0 = if k = n then v else xs.getD k 0 := by
  rw [List.getD_eq_getElem?_getD, List.getD_eq_getElem?_getD, List.getElem?_set]
  by_cases h : n = k
  · subst h
    simp [hn]
  · have h' : ¬ k = n := fun z => h z.symm
    simp [h, h']
theorem laid_nil (ps : List Part) (hp : ∀ p ∈ ps, PtOk p) : Laid ps [] (laidF ps []) := by
  have z : ∀ k, (List.replicate ps.length (0 : Int)).getD k 0 = 0 := fun k => by
    rw [List.getD_eq_getElem?_getD, List.getElem?_replicate]
    split <;> rfl
  refine ⟨by simp [laidF], by simp [laidF], fun k _ => z k, fun k _ => z k, fun k => ?_, fun k => ?_, fun k h => (nomatch h), fun k h => (nomatch h), .inl rfl⟩
  · show 0 ≤ (List.replicate ps.length (0 : Int)).getD k 0
    rw [z]; exact Int.le_refl _
  · show (List.replicate ps.length (0 : Int)).getD k 0 % _ = 0
    rw [z]; simp
theorem laid_step {ps : List Part} (hp : ∀ p ∈ ps, PtOk p) {os : List Nat} {st : List Int × Int} (h : Laid ps os st) {n : Nat} (hn : n < ps.length) (hno : n ∉ os) : Laid ps (os ++ [n]) (step ps st n) := by
  have ok := pt_ok hp n
  by_cases hz : (pt ps n).1 = 0
  · have e : step ps st n = st := by unfold step; rw [if_pos hz]
    rw [e]
    refine ⟨h.len, h.nn, h.zero, fun k hk => h.off k fun z => hk (List.mem_append.mpr (.inl z)), h.low, h.al, fun k hk hs => ?_, fun k hk j hj ne hs hs' => ?_, ?_⟩
    · rcases List.mem_append.mp hk with hk | hk
      · exact h.ends k hk hs
      · rw [List.mem_singleton.mp hk, hz] at hs
        exact absurd hs (by decide)
    · rcases List.mem_append.mp hk with hk | hk
      · rcases List.mem_append.mp hj with hj | hj
        · exact h.apart k hk j hj ne hs hs'
        · rw [List.mem_singleton.mp hj, hz] at hs'
          exact absurd hs' (by decide)
      · rw [List.mem_singleton.mp hk, hz] at hs
        exact absurd hs (by decide)
    · rcases h.last with l | ⟨k, hk, l⟩
      · exact .inl l
      · exact .inr ⟨k, List.mem_append.mpr (.inl hk), l⟩
  · have e : step ps st n = (st.1.set n (rup st.2 (pt ps n).2), rup st.2 (pt ps n).2 + (pt ps n).1) := by unfold step; rw [if_neg hz]
    have hpos : 0 < (pt ps n).1 := by have := ok.1; omega
    have hg := rup_ge (e := st.2) ok.2.2
    have hm := rup_mod (e := st.2) ok.2.2
    have hl : n < st.1.length := by rw [h.len]; exact hn
    have nn := h.nn
    rw [e]
    refine ⟨by rw [List.length_set]; exact h.len, by show 0 ≤ rup st.2 (pt ps n).2 + (pt ps n).1; omega, fun k hk => ?_, fun k hk => ?_, fun k => ?_, fun k => ?_, fun k hk hs => ?_, fun k hk j hj ne hs hs' => ?_, ?_⟩
    · rw [getD_set _ _ _ _ hl]
      by_cases c : k = n
      · subst c; exact absurd hk hz
      · rw [if_neg c]; exact h.zero k hk
    · rw [getD_set _ _ _ _ hl]
      by_cases c : k = n
      · subst c; exact absurd (List.mem_append.mpr (.inr (List.mem_singleton.mpr rfl))) hk
      · rw [if_neg c]; exact h.off k fun z => hk (List.mem_append.mpr (.inl z))
    · rw [getD_set _ _ _ _ hl]
      by_cases c : k = n
      · rw [if_pos c]; omega
      · rw [if_neg c]; exact h.low k
    · rw [getD_set _ _ _ _ hl]
      by_cases c : k = n
      · rw [if_pos c, c]; exact hm
      · rw [if_neg c]; exact h.al k
    · show (st.1.set n _).getD k 0 + _ ≤ rup st.2 (pt ps n).2 + (pt ps n).1
      rw [getD_set _ _ _ _ hl]
      by_cases c : k = n
      · rw [if_pos c, c]; exact Int.le_refl _
      · rw [if_neg c]
        rcases List.mem_append.mp hk with hk | hk
        · have := h.ends k hk hs
          omega
        · exact absurd (List.mem_singleton.mp hk) c
    · rw [getD_set _ _ _ _ hl, getD_set _ _ _ _ hl]
      by_cases c : k = n
      · by_cases c' : j = n
        · exact absurd (c.trans c'.symm) ne
        · rw [if_pos c, if_neg c']
          rcases List.mem_append.mp hj with hj | hj
          · have := h.ends j hj hs'
            exact .inr (by omega)
          · exact absurd (List.mem_singleton.mp hj) c'
      · by_cases c' : j = n
        · rw [if_neg c, if_pos c']
          rcases List.mem_append.mp hk with hk | hk
          · have := h.ends k hk hs
            exact .inl (by omega)
          · exact absurd (List.mem_singleton.mp hk) c
        · rw [if_neg c, if_neg c']
          rcases List.mem_append.mp hk with hk | hk
          · rcases List.mem_append.mp hj with hj | hj
            · exact h.apart k hk j hj ne hs hs'
            · exact absurd (List.mem_singleton.mp hj) c'
          · exact absurd (List.mem_singleton.mp hk) c
    · refine .inr ⟨n, List.mem_append.mpr (.inr (List.mem_singleton.mpr rfl)), hpos, ?_⟩
      rw [getD_set _ _ _ _ hl, if_pos rfl]
theorem laid_all {ps : List Part} (hp : ∀ p ∈ ps, PtOk p) : ∀ (os : List Nat), os.Nodup → (∀ n ∈ os, n < ps.length) → Laid ps os (laidF ps os) := by
  intro os
  have : ∀ (m : Nat) (os : List Nat), os.length = m → os.Nodup → (∀ n ∈ os, n < ps.length) → Laid ps os (laidF ps os) := by
    intro m
    induction m with
    | zero =>
      intro os hl _ _
      rw [List.length_eq_zero_iff.mp hl]
      exact laid_nil ps hp
    | succ m ih =>
      intro os hl nd hb
      have hne : os ≠ [] := fun z => by rw [z] at hl; cases hl
      have es := List.dropLast_concat_getLast hne
      rw [← es] at nd hb ⊢
      have nd' := List.nodup_append.mp nd
      rw [laidF_snoc]
      refine laid_step hp (ih _ ?_ nd'.1 fun k hk => hb k (List.mem_append.mpr (.inl hk))) (hb _ (List.mem_append.mpr (.inr (List.mem_singleton.mpr rfl)))) fun z => ?_
      · rw [List.length_dropLast, hl]; rfl
      · exact nd'.2.2 _ z _ (List.mem_singleton.mpr rfl) rfl
  exact this os.length os rfl
theorem laid_bound {ps : List Part} (hp : ∀ p ∈ ps, PtOk p) : ∀ (os : List Nat), 0 ≤ (laidF ps os).2 ∧ (laidF ps os).2 ≤ 4160 * os.length := by
  intro os
  have : ∀ (os : List Nat) (st : List Int × Int) (b : Int), 0 ≤ st.2 → st.2 ≤ b → 0 ≤ (os.foldl (step ps) st).2 ∧ (os.foldl (step ps) st).2 ≤ b + 4160 * os.length := by
    intro os
    induction os with
    | nil => intro st b h0 h1; exact ⟨h0, by simpa using h1⟩
    | cons o os ih =>
      intro st b h0 h1
      rw [List.foldl_cons]
      have ok := pt_ok hp o
      have ha := ok.2.2.pos
      have hg := rup_ge (e := st.2) ok.2.2
      have hl := rup_lt (e := st.2) ok.2.2
      have hs : 0 ≤ (step ps st o).2 ∧ (step ps st o).2 ≤ b + 4160 := by
        rw [step_end]
        unfold lay
        have := ok.1
        have := ok.2.1
        by_cases hz : (pt ps o).1 = 0
        · rw [if_pos hz]; omega
        · rw [if_neg hz]; omega
      obtain ⟨a1, a2⟩ := ih _ (b + 4160) hs.1 hs.2
      refine ⟨a1, ?_⟩
      rw [List.length_cons]
      omega
  have := this os (List.replicate ps.length 0, 0) 0 (by simp) (by simp)
  refine ⟨this.1, ?_⟩
  have h2 := this.2
  unfold laidF
  omega
end K3
namespace K3
open PySem PySem.Spec PyProof.Rows L2 K1
/-! ### parts and orders in the heap -/
def natV (n : Nat) : V := .int (n : Int)
theorem rgV_nat (n : Nat) : rgV 0 (n : Int) = (List.range n).map natV := by
  unfold rgV natV
  rw [Int.sub_zero, Int.toNat_natCast]
  refine List.map_congr_left fun i _ => ?_
  rw [Int.zero_add]
def Pts (K : PySem.W.Frag) (H : Hp) (a : Addr) (ps : List Part) : Prop := ∃ vs : List V, SqT K H a vs ∧ vs.length = ps.length ∧ ∀ (i : Nat) (p : Part), ps[i]? = some p → ∃ t, vs[i]? = some (.ref t) ∧ SqT K H t [.int p.1, .int p.2]
theorem Pts.ts {K : PySem.W.Frag} {H H1 : Hp} {a : Addr} {ps : List Part} (h : Pts K H a ps) (s : TS K H H1) : Pts K H1 a ps := by
  obtain ⟨vs, h1, h2, h3⟩ := h
  refine ⟨vs, s _ _ h1, h2, fun i p e => ?_⟩
  obtain ⟨t, a1, a2⟩ := h3 i p e
  exact ⟨t, a1, s _ _ a2⟩
theorem Pts.at {K : PySem.W.Frag} {H : Hp} {a : Addr} {ps : List Part} (h : Pts K H a ps) {n : Nat} (hn : n < ps.length) : ∃ vs t, SqT K H a vs ∧ atI vs (n : Int) = some (.ref t) ∧ SqT K H t [.int (pt ps n).1, .int (pt ps n).2] := by
  obtain ⟨vs, h1, h2, h3⟩ := h
  have e := List.getElem?_eq_getElem hn
  obtain ⟨t, a1, a2⟩ := h3 n _ e
  rw [← pt_of e] at a2
  exact ⟨vs, t, h1, atI_nat a1, a2⟩
theorem Pts.len {K : PySem.W.Frag} {H : Hp} {a : Addr} {ps : List Part} (h : Pts K H a ps) : ∃ vs : List V, SqT K H a vs ∧ vs.length = ps.length := by
  obtain ⟨vs, h1, h2, _⟩ := h
  exact ⟨vs, h1, h2⟩
abbrev s__law_measure : Stmt := topS 24
abbrev nm__law_measure : List Str := ["_law_drawn", "_law_by", "_law_way"]
abbrev pm__law_measure : List Str := ["_law_drawn"]
theorem sc__law_measure : FnScope nm__law_measure pm__law_measure (defScope s__law_measure) := ⟨rfl, rfl, rfl, by decide +kernel, rfl, by decide +kernel, by decide +kernel⟩
abbrev s__law_parts : Stmt := topS 25
abbrev nm__law_parts : List Str := ["_law_drawn", "_law_most", "_law_k"]
abbrev pm__law_parts : List Str := ["_law_drawn", "_law_most"]
theorem sc__law_parts : FnScope nm__law_parts pm__law_parts (defScope s__law_parts) := ⟨rfl, rfl, rfl, by decide +kernel, rfl, by decide +kernel, by decide +kernel⟩
section
variable {P : Program} {w : World} {K : PySem.W.Frag} {mg : Str → Option Value} {base : Heap}
def sp__law_measure (K : PySem.W.Frag) : Sp := fun vs H Q _ => ∃ (dk cl lf : Addr) (B : Nat), vs = [.ref dk] ∧ Dk H dk cl lf B ∧ B ≤ 2 ^ 39 ∧
  ∀ (t : Addr) (p : Part) (H' : Hp), PtOk p → SqT K H' t [.int p.1, .int p.2] → Dk H' dk cl lf (B + 3) → KD dk lf H H' → Q (.ref t) H'
theorem al_at (d : Nat) (h : d < 6) : ∃ m : Int, ([V.int 1, V.int 1, V.int 8, V.int 16, V.int 32, V.int 64] : List V)[d]? = some (.int m) ∧ AlOk m := by
  rcases (show d = 0 ∨ d = 1 ∨ d = 2 ∨ d = 3 ∨ d = 4 ∨ d = 5 by omega) with e | e | e | e | e | e <;> subst e
  · exact ⟨_, rfl, .inl rfl⟩
  · exact ⟨_, rfl, .inl rfl⟩
  · exact ⟨_, rfl, .inr (.inl rfl)⟩
  · exact ⟨_, rfl, .inr (.inr (.inl rfl))⟩
  · exact ⟨_, rfl, .inr (.inr (.inr (.inl rfl)))⟩
  · exact ⟨_, rfl, .inr (.inr (.inr (.inr rfl)))⟩
theorem al_many {m : Int} (h : AlOk m) : 0 < 4096 / m ∧ (4096 / m).natAbs.log2 < 9000 ∧ ∀ d : Int, 0 ≤ d → d < 4096 / m → 0 ≤ m * (1 + d) ∧ m * (1 + d) ≤ 4096 := by
  rcases h with rfl | rfl | rfl | rfl | rfl <;> exact ⟨by decide, by decide +kernel, fun d h0 h1 => by omega⟩
theorem ok__law_measure {f : Addr} {fd : FuncData} (F : Fun K "_law_measure" "_law_measure" s__law_measure f fd) (C__law_next : Cal P w K mg base "_law_next" pm__law_next 1 sp__law_next) : FnOk P w K mg base CX0 2 f fd pm__law_measure (sp__law_measure K) := by
  obtain ⟨f__law_next, fd__law_next, G__law_next, g__law_next, k__law_next, b__law_next⟩ := C__law_next.ex
  refine F.ok sc__law_measure (fun vs H Q E h => ?_) (fun cdv A outer s H vs Q E hr h => ?_)
  · obtain ⟨dk, cl, lf, B, rfl, _⟩ := h
    rfl
  · obtain ⟨dk, cl, lf, B, rfl, D0, hB, q⟩ := h
    have rm : ∀ {j : Nat}, j ≤ 1 → Room j (A.deeper (envOfC "_law_measure" (defScope s__law_measure) s.heap.objs.size f cdv)) := fun hj => hr.mono hj
    refine ⟨_, pss_cons (ps_set (i := 1) sc__law_measure.nd rfl (.inl rfl) (pe_ix ix_list (pe_lst (pa_cons pe_int (pa_cons pe_int (pa_cons pe_int (pa_cons pe_int (pa_cons pe_int (pa_cons pe_int pa_nil))))))) (pe_call G__law_next (rm (by decide)) (by rfl) g__law_next k__law_next b__law_next .nil pass0 (pa_cons (pv 0) (pa_cons pe_int pa_nil))) (fun _ _ => rfl)))
      (pss_cons (ps_set (i := 2) sc__law_measure.nd rfl (.inl rfl) (pe_call G__law_next (rm (by decide)) (by rfl) g__law_next k__law_next b__law_next .nil pass0 (pa_cons (pv 0) (pa_cons pe_int pa_nil))))
      (pss_cons (ps_if (pt_cmpR op_eq (pv 2) pe_int (nomark _))
      (pss_one (ps_ret (pe_tup (pa_cons pe_int (pa_cons (pv 1) pa_nil))))) pss_nil)
      (pss_cons (ps_if (pt_cmpR op_eq (pv 2) pe_int (nomark _))
      (pss_one (ps_ret (pe_tup (pa_cons (pe_op op_sub pe_int (pe_call G__law_next (rm (by decide)) (by rfl) g__law_next k__law_next b__law_next .nil pass0 (pa_cons (pv 0) (pa_cons pe_int pa_nil)))) (pa_cons (pv 1) pa_nil))))) pss_nil)
      (pss_cons (ps_if (pt_cmpR op_eq (pv 2) pe_int (nomark _))
      (pss_one (ps_ret (pe_tup (pa_cons (pe_call G__law_next (rm (by decide)) (by rfl) g__law_next k__law_next b__law_next .nil pass0 (pa_cons (pv 0) (pa_cons pe_int pa_nil))) (pa_cons (pv 1) pa_nil))))) pss_nil)
      (pss_cons (ps_if (pt_cmpR op_eq (pv 2) pe_int (nomark _))
      (pss_one (ps_ret (pe_tup (pa_cons (pe_op op_mul (pv 1) (pe_op op_add pe_int (pe_call G__law_next (rm (by decide)) (by rfl) g__law_next k__law_next b__law_next .nil pass0 (pa_cons (pv 0) (pa_cons (pe_op op_fdivW pe_int (pv 1)) pa_nil))))) (pa_cons (pv 1) pa_nil))))) pss_nil)
      (pss_one (ps_ret (pe_tup (pa_cons (pe_op op_add pe_int (pe_call G__law_next (rm (by decide)) (by rfl) g__law_next k__law_next b__law_next .nil pass0 (pa_cons (pv 0) (pa_cons pe_int pa_nil)))) (pa_cons (pv 1) pa_nil)))))))))), ?_⟩
    refine ⟨(by show 6 ≤ sizeLine; decide), fun l nl => ?_⟩
    have nD := D0.not nl
    have D1 : Dk (upd H l (.lst [V.int 1, V.int 1, V.int 8, V.int 16, V.int 32, V.int 64])) dk cl lf B := D0.upd nD
    have s1 : Same H (upd H l (.lst [V.int 1, V.int 1, V.int 8, V.int 16, V.int 32, V.int 64])) := same_upd nl
    have c1 : (upd H l (.lst [V.int 1, V.int 1, V.int 8, V.int 16, V.int 32, V.int 64])) l = some (.lst [V.int 1, V.int 1, V.int 8, V.int 16, V.int 32, V.int 64]) := upd_same
    generalize upd H l (HO.lst [V.int 1, V.int 1, V.int 8, V.int 16, V.int 32, V.int 64]) = H1 at D1 s1 c1 ⊢
    refine ⟨.ref dk, rfl, dk, cl, lf, B, 6, rfl, D1, by omega, by decide, by decide +kernel, fun d H2 d0 d1 D2 k2 => ?_⟩
    obtain ⟨j, rfl⟩ : ∃ j : Nat, d = (j : Int) := ⟨d.toNat, by omega⟩
    obtain ⟨m, gm, hm⟩ := al_at j (by omega)
    have c2 := k2 l _ nD.1 nD.2.2 c1
    have mp := hm.pos
    refine ⟨l, _, _, _, rfl, rfl, .inl (.inl c2), atI_nat gm, ?_⟩
    have kk2 : KD dk lf H H2 := (KD.of_same s1).trans k2
    have fin : ∀ (Hn : Hp) (b : Int), Dk Hn dk cl lf (B + 3) → KD dk lf H Hn → PtOk (b, m) → ∀ t, Hn t = none → Q (.ref t) (upd Hn t (.tup [.int b, .int m])) := fun Hn b Dn kn hp t nt =>
      q t (b, m) _ hp (.inl (.inl upd_same)) (Dn.upd (Dn.not nt)) (kn.trans (KD.of_same (same_upd nt)))
    refine ⟨.ref dk, rfl, dk, cl, lf, B + 1, 7, rfl, D2, by omega, by decide, by decide +kernel, fun way H3 w0 w1 D3 k3 => ?_⟩
    have kk3 : KD dk lf H H3 := kk2.trans k3
    refine ⟨.int way, rfl, rfl, _, rfl, ite2 (fun e1 => ?_) (fun e1 => ?_)⟩
    · refine ⟨.int m, rfl, (by show 2 ≤ sizeLine; decide), fun t nt => fin H3 0 (D3.mono (by omega)) kk3 ⟨Int.le_refl 0, (by show (0:Int) ≤ 4096; decide), hm⟩ t nt⟩
    refine ⟨.int way, rfl, rfl, _, rfl, ite2 (fun e2 => ?_) (fun e2 => ?_)⟩
    · refine ⟨.ref dk, rfl, dk, cl, lf, B + 2, 3, rfl, D3, by omega, by decide, by decide +kernel, fun d H4 d0 d1 D4 k4 => ?_⟩
      exact ⟨_, _, rfl, rfl, .int m, rfl, (by show 2 ≤ sizeLine; decide), fun t nt => fin H4 (4096 - d) D4 (kk3.trans k4) ⟨by show 0 ≤ 4096 - d; omega, by show 4096 - d ≤ 4096; omega, hm⟩ t nt⟩
    refine ⟨.int way, rfl, rfl, _, rfl, ite2 (fun e3 => ?_) (fun e3 => ?_)⟩
    · refine ⟨.ref dk, rfl, dk, cl, lf, B + 2, 4097, rfl, D3, by omega, by decide, by decide +kernel, fun d H4 d0 d1 D4 k4 => ?_⟩
      exact ⟨.int m, rfl, (by show 2 ≤ sizeLine; decide), fun t nt => fin H4 d D4 (kk3.trans k4) ⟨d0, by show d ≤ 4096; omega, hm⟩ t nt⟩
    refine ⟨.int way, rfl, rfl, _, rfl, ite2 (fun e4 => ?_) (fun e4 => ?_)⟩
    · obtain ⟨m0, m1, m2⟩ := al_many hm
      refine ⟨.int m, rfl, .ref dk, rfl, .int m, rfl, _, _, rfl, rfl, ⟨mp.1, ?_⟩, dk, cl, lf, B + 2, 4096 / m, rfl, D3, by omega, m0, m1, fun d H4 d0 d1 D4 k4 => ?_⟩
      · rcases hm with rfl | rfl | rfl | rfl | rfl <;> decide +kernel
      obtain ⟨b0, b1⟩ := m2 d d0 d1
      exact ⟨_, _, rfl, rfl, _, _, rfl, rfl, .inl ⟨by omega, by omega⟩, .int m, rfl, (by show 2 ≤ sizeLine; decide), fun t nt => fin H4 (m * (1 + d)) D4 (kk3.trans k4) ⟨b0, b1, hm⟩ t nt⟩
    · refine ⟨.ref dk, rfl, dk, cl, lf, B + 2, 70, rfl, D3, by omega, by decide, by decide +kernel, fun d H4 d0 d1 D4 k4 => ?_⟩
      exact ⟨_, _, rfl, rfl, .int m, rfl, (by show 2 ≤ sizeLine; decide), fun t nt => fin H4 (1 + d) D4 (kk3.trans k4) ⟨by show 0 ≤ 1 + d; omega, by show 1 + d ≤ 4096; omega, hm⟩ t nt⟩
def sp__law_parts (K : PySem.W.Frag) : Sp := fun vs H Q _ => ∃ (dk cl lf : Addr) (B most : Nat), vs = [.ref dk, natV most] ∧ Dk H dk cl lf B ∧ B ≤ 2 ^ 38 ∧ most ≤ 100 ∧
  ∀ (a : Addr) (ps : List Part) (H' : Hp), Pts K H' a ps → (∀ p ∈ ps, PtOk p) → ps.length ≤ most → Dk H' dk cl lf (B + 1 + 3 * most) → KD dk lf H H' → Q (.ref a) H'
theorem nat_log {n : Nat} (h : n ≤ 1000) : ((n : Int) + 1).natAbs.log2 < 9000 := by
  have : ((n : Int) + 1).natAbs = n + 1 := by omega
  rw [this]
  have h2 := Nat.log2_lt (n := n + 1) (by omega) (k := 9000)
  exact h2.mpr (Nat.lt_of_le_of_lt (show n + 1 ≤ 2 ^ 10 by omega) (Nat.pow_lt_pow_right (by decide) (by decide)))
theorem ok__law_parts {f : Addr} {fd : FuncData} (F : Fun K "_law_parts" "_law_parts" s__law_parts f fd) (C__law_measure : Cal P w K mg base "_law_measure" pm__law_measure 2 (sp__law_measure K)) (C__law_next : Cal P w K mg base "_law_next" pm__law_next 1 sp__law_next) (m_tuple : mg "tuple" = none) (m_range : mg "range" = none) : FnOk P w K mg base CX0 3 f fd pm__law_parts (sp__law_parts K) := by
  obtain ⟨f__law_measure, fd__law_measure, G__law_measure, g__law_measure, k__law_measure, b__law_measure⟩ := C__law_measure.ex
  obtain ⟨f__law_next, fd__law_next, G__law_next, g__law_next, k__law_next, b__law_next⟩ := C__law_next.ex
  refine F.ok sc__law_parts (fun vs H Q E h => ?_) (fun cdv A outer s H vs Q E hr h => ?_)
  · obtain ⟨dk, cl, lf, B, most, rfl, _⟩ := h
    rfl
  · obtain ⟨dk, cl, lf, B, most, rfl, D0, hB, hm, q⟩ := h
    have rm : ∀ {j : Nat}, j ≤ 2 → Room j (A.deeper (envOfC "_law_parts" (defScope s__law_parts) s.heap.objs.size f cdv)) := fun hj => hr.mono hj
    refine ⟨_, pss_one (ps_ret (pe_callTy call_tuple_of (by rfl) m_tuple (by decide +kernel) (pa_cons (pe_lc (own := [("_law_k", 2)]) (g := gName 2) (tt := tYes) rfl sc__law_parts.nd (pi_range1 (by rfl) m_range (pa_cons (pe_call G__law_next (rm (by decide)) (by rfl) g__law_next k__law_next b__law_next .nil pass0 (pa_cons (pv 0) (pa_cons (pe_op op_add (pv 1) pe_int) pa_nil))) pa_nil)) (blkOk_by (N := nm__law_parts) (sc := defScope s__law_parts) (by decide +kernel)) (fun _ _ _ _ _ => pg_name (i := 2) sc__law_parts.nd rfl (Or.inl rfl)) (fun _ _ _ _ _ => pts_nil) (fun _ _ _ _ _ => (pe_call G__law_measure (rm (by decide)) (by rfl) g__law_measure k__law_measure b__law_measure .nil pass0 (pa_cons (pv 0) pa_nil)))) pa_nil))), ?_⟩
    refine ⟨.ref dk, rfl, natV most, rfl, _, _, rfl, rfl, dk, cl, lf, B, (most : Int) + 1, rfl, D0, by omega, by omega, nat_log (by omega), fun d H1 d0 d1 D1 k1 => ?_⟩
    obtain ⟨n, rfl⟩ : ∃ n : Nat, d = (n : Int) := ⟨d.toNat, by omega⟩
    refine ⟨n, rfl, by omega, by omega, fun D hD => lc_range (lo := 0) (n := ((n : Nat) : Int).toNat) (fun i H3 => ∃ (vs : List V) (ps : List Part), vs.length = i ∧ ps.length = i ∧ (∀ p ∈ ps, PtOk p) ∧ (∀ (j : Nat) (p : Part), ps[j]? = some p → ∃ t, vs[j]? = some (.ref t) ∧ SqT K H3 t [.int p.1, .int p.2]) ∧ H3 D = some (.lst vs) ∧ Dk H3 dk cl lf (B + 1 + 3 * i) ∧ KD dk lf H1 H3) ⟨[], [], rfl, rfl, fun _ h => (nomatch h), fun j p h => by simp at h, upd_same, D1.upd (D1.not hD), KD.of_same (same_upd hD)⟩ (fun i H3 hi hP => ?_) (fun H3 hP => ?_)⟩
    · obtain ⟨vs, ps, l1, l2, ok, hp, eD, D3, k3⟩ := hP
      rw [Int.toNat_natCast] at hi
      have nD := D1.not hD
      refine ⟨rfl, ?_⟩
      dsimp only [tYes]
      refine iteT ?_
      refine ⟨.ref dk, rfl, dk, cl, lf, B + 1 + 3 * i, rfl, D3, by omega, fun t p H4 okp ht D4 k4 => ?_⟩
      have eD4 := k4 D _ nD.1 nD.2.2 eD
      have ts4 : K1.TS K H3 H4 := D3.ts k4
      have ts5 : K1.TS K H4 (upd H4 D (.lst (vs ++ [.ref t]))) := ts_lst eD4
      refine ⟨vs, eD4, ?_, vs ++ [.ref t], ps ++ [p], ?_, ?_, ?_, ?_, upd_same, ?_, ?_⟩
      · exact Nat.lt_of_le_of_lt (show vs.length ≤ 1000 by omega) (by decide)
      · rw [List.length_append, l1]; rfl
      · rw [List.length_append, l2]; rfl
      · intro p' m
        rcases List.mem_append.mp m with m | m
        · exact ok _ m
        · rw [List.mem_singleton.mp m]; exact okp
      · intro j p' e
        by_cases c : j < ps.length
        · rw [List.getElem?_append_left c] at e
          obtain ⟨t', a1, a2⟩ := hp j p' e
          refine ⟨t', ?_, ts5 _ _ (ts4 _ _ a2)⟩
          rw [List.getElem?_append_left (by omega)]
          exact a1
        · rw [List.getElem?_append_right (by omega)] at e
          have e0 : j - ps.length = 0 := by
            have := (List.getElem?_eq_some_iff.mp e).1
            simp at this
            omega
          rw [e0] at e
          have ep : p = p' := by simpa using e
          subst ep
          refine ⟨t, ?_, ts5 _ _ ht⟩
          rw [List.getElem?_append_right (by omega), show j - vs.length = 0 by omega]
          rfl
      · exact (D4.upd nD).mono (by omega)
      · intro b o n1 n2 e
        rw [upd_ne (ne_of_none e hD)]
        exact k4 b o n1 n2 (k3 b o n1 n2 e)
    · obtain ⟨vs, ps, l1, l2, ok, hp, eD, D3, k3⟩ := hP
      rw [Int.toNat_natCast] at l1 l2
      refine ⟨D, vs, rfl, .inl ⟨.inl (.inl eD), fun l nl => ?_⟩⟩
      have t1 : K1.TS K H3 (upd H3 l (.tup vs)) := ts_new nl
      refine q l ps _ ⟨vs, .inl (.inl upd_same), by omega, fun i p e => ?_⟩ ok (by omega) ((D3.upd (D3.not nl)).mono (by rw [Int.toNat_natCast]; omega)) ((k1.trans k3).trans (KD.of_same (same_upd nl)))
      obtain ⟨t, a1, a2⟩ := hp i p e
      exact ⟨t, a1, t1 _ _ a2⟩
end
end K3
namespace K3
open PySem PySem.Spec PyProof.Rows L2 K1
abbrev s__law_up : Stmt := topS 27
abbrev nm__law_up : List Str := ["_law_end", "_law_by"]
abbrev pm__law_up : List Str := ["_law_end", "_law_by"]
theorem sc__law_up : FnScope nm__law_up pm__law_up (defScope s__law_up) := ⟨rfl, rfl, rfl, by decide +kernel, rfl, by decide +kernel, by decide +kernel⟩
abbrev s__law_laid : Stmt := topS 28
abbrev nm__law_laid : List Str := ["_law_pieces", "_law_beginning", "_law_places", "_law_end", "_law_number"]
abbrev pm__law_laid : List Str := ["_law_pieces", "_law_beginning"]
theorem sc__law_laid : FnScope nm__law_laid pm__law_laid (defScope s__law_laid) := ⟨rfl, rfl, rfl, by decide +kernel, rfl, by decide +kernel, by decide +kernel⟩
abbrev s_rounded : Stmt := topS 8
abbrev nm_rounded : List Str := ["number", "multiple"]
abbrev pm_rounded : List Str := ["number", "multiple"]
theorem sc_rounded : FnScope nm_rounded pm_rounded (defScope s_rounded) := ⟨rfl, rfl, rfl, by decide +kernel, rfl, by decide +kernel, by decide +kernel⟩
abbrev s_laid_end : Stmt := topS 9
abbrev nm_laid_end : List Str := ["part", "end", "bits", "multiple"]
abbrev pm_laid_end : List Str := ["part", "end"]
theorem sc_laid_end : FnScope nm_laid_end pm_laid_end (defScope s_laid_end) := ⟨rfl, rfl, rfl, by decide +kernel, rfl, by decide +kernel, by decide +kernel⟩
abbrev s_end_of : Stmt := topS 10
abbrev nm_end_of : List Str := ["parts", "order", "end", "number"]
abbrev pm_end_of : List Str := ["parts", "order"]
theorem sc_end_of : FnScope nm_end_of pm_end_of (defScope s_end_of) := ⟨rfl, rfl, rfl, by decide +kernel, rfl, by decide +kernel, by decide +kernel⟩
abbrev s_bits_of : Stmt := topS 11
abbrev nm_bits_of : List Str := ["parts", "order"]
abbrev pm_bits_of : List Str := ["parts", "order"]
theorem sc_bits_of : FnScope nm_bits_of pm_bits_of (defScope s_bits_of) := ⟨rfl, rfl, rfl, by decide +kernel, rfl, by decide +kernel, by decide +kernel⟩
section
variable {P : Program} {w : World} {K : PySem.W.Frag} {mg : Str → Option Value} {base : Heap}
def sp__law_up : Sp := fun vs H Q _ => ∃ (e m : Int), vs = [.int e, .int m] ∧ AlOk m ∧ Q (.int (rup e m)) H
def sp_rounded : Sp := sp__law_up
theorem al_log {m : Int} (h : AlOk m) : m.natAbs.log2 < 9000 := by
  rcases h with rfl | rfl | rfl | rfl | rfl <;> decide +kernel
theorem ok__law_up {f : Addr} {fd : FuncData} (F : Fun K "_law_up" "_law_up" s__law_up f fd) : FnOk P w K mg base CX0 1 f fd pm__law_up sp__law_up := by
  refine F.ok sc__law_up (fun vs H Q E h => ?_) (fun cdv A outer s H vs Q E hr h => ?_)
  · obtain ⟨e, m, rfl, _⟩ := h
    rfl
  · obtain ⟨e, m, rfl, hm, q⟩ := h
    refine ⟨_, pss_one (ps_ret (pe_op op_mul (pe_op op_fdivW (pe_op op_sub (pe_op op_add (pv 0) (pv 1)) pe_int) (pv 1)) (pv 1))), ?_⟩
    have hp := hm.pos
    exact ⟨.int e, rfl, .int m, rfl, _, _, rfl, rfl, _, _, rfl, rfl, .int m, rfl, _, _, rfl, rfl, ⟨hp.1, al_log hm⟩, .int m, rfl, _, _, rfl, rfl, .inr ⟨by omega, by omega⟩, q⟩
theorem ok_rounded {f : Addr} {fd : FuncData} (F : Fun K "rounded" "rounded" s_rounded f fd) : FnOk P w K mg base CX0 1 f fd pm_rounded sp_rounded := by
  refine F.ok sc_rounded (fun vs H Q E h => ?_) (fun cdv A outer s H vs Q E hr h => ?_)
  · obtain ⟨e, m, rfl, _⟩ := h
    rfl
  · obtain ⟨e, m, rfl, hm, q⟩ := h
    refine ⟨_, pss_one (ps_ret (pe_op op_mul (pe_un un_neg (pe_op op_fdivW (pe_un un_neg (pv 0)) (pv 1))) (pv 1))), ?_⟩
    have hp := hm.pos
    rw [← rup_neg hm] at q
    exact ⟨.int e, rfl, _, rfl, .int m, rfl, _, _, rfl, rfl, ⟨hp.1, al_log hm⟩, _, rfl, .int m, rfl, _, _, rfl, rfl, .inr ⟨by omega, by omega⟩, q⟩
def sp_laid_end (K : PySem.W.Frag) : Sp := fun vs H Q _ => ∃ (t : Addr) (b m e : Int), vs = [.ref t, .int e] ∧ SqT K H t [.int b, .int m] ∧ AlOk m ∧ Q (.int (lay (b, m) e)) H
theorem ok_laid_end {f : Addr} {fd : FuncData} (F : Fun K "laid_end" "laid_end" s_laid_end f fd) (C_rounded : Cal P w K mg base "rounded" pm_rounded 1 sp_rounded) : FnOk P w K mg base CX0 2 f fd pm_laid_end (sp_laid_end K) := by
  obtain ⟨f_rounded, fd_rounded, G_rounded, g_rounded, k_rounded, b_rounded⟩ := C_rounded.ex
  refine F.ok sc_laid_end (fun vs H Q E h => ?_) (fun cdv A outer s H vs Q E hr h => ?_)
  · obtain ⟨t, b, m, e, rfl, _⟩ := h
    rfl
  · obtain ⟨t, b, m, e, rfl, ht, hm, q⟩ := h
    have rm : ∀ {j : Nat}, j ≤ 1 → Room j (A.deeper (envOfC "laid_end" (defScope s_laid_end) s.heap.objs.size f cdv)) := fun hj => hr.mono hj
    refine ⟨_, pss_cons (ps_asg (pv 0) (pg_tup (by rfl) (pgs_cons (pg_name (i := 2) sc_laid_end.nd rfl (.inl rfl)) (pgs_cons (pg_name (i := 3) sc_laid_end.nd rfl (.inl rfl)) pgs_nil))))
      (pss_one (ps_ret (pe_ifExp (pt_cmpR op_eq (pv 2) pe_int (nomark _)) (pv 1) (pe_op op_add (pe_call G_rounded (rm (by decide)) (by rfl) g_rounded k_rounded b_rounded .nil pass0 (pa_cons (pv 1) (pa_cons (pv 3) pa_nil))) (pv 2))))), ?_⟩
    refine ⟨.ref t, rfl, t, _, rfl, ht, rfl, _, _, rfl, _, _, rfl, rfl, .int b, rfl, rfl, _, rfl, ite2 (fun c => ?_) (fun c => ?_)⟩
    · have hb : b = 0 := V.int.inj (of_decide_eq_true c)
      have e1 : lay (b, m) e = e := by unfold lay; rw [if_pos hb]
      rw [e1] at q
      exact ⟨.int e, rfl, q⟩
    · have hb : b ≠ 0 := fun z => c (decide_eq_true (congrArg V.int z))
      have e1 : lay (b, m) e = rup e m + b := by unfold lay; rw [if_neg hb]
      rw [e1] at q
      exact ⟨.int e, rfl, .int m, rfl, e, m, rfl, hm, .int b, rfl, _, _, rfl, rfl, q⟩
/-- parts, an order of some of them -/
def Asked (K : PySem.W.Frag) (H : Hp) (a o : Addr) (ps : List Part) (os : List Nat) : Prop := Pts K H a ps ∧ SqT K H o (os.map natV) ∧ (∀ p ∈ ps, PtOk p) ∧ (∀ n ∈ os, n < ps.length)
def sp_end_of (K : PySem.W.Frag) : Sp := fun vs H Q _ => ∃ (a o : Addr) (ps : List Part) (os : List Nat), vs = [.ref a, .ref o] ∧ Asked K H a o ps os ∧ Q (.int (laidF ps os).2) H
def sp_bits_of (K : PySem.W.Frag) : Sp := sp_end_of K
theorem natV_at {os : List Nat} {i : Nat} {x : V} (h : (os.map natV)[i]? = some x) : ∃ n, os[i]? = some n ∧ x = natV n := by
  rw [List.getElem?_map] at h
  cases e : os[i]? with
  | none => rw [e] at h; cases h
  | some n => rw [e] at h; exact ⟨n, rfl, (Option.some.inj h).symm⟩
theorem laid_take {ps : List Part} {os : List Nat} {i n : Nat} (h : os[i]? = some n) : laidF ps (os.take (i + 1)) = step ps (laidF ps (os.take i)) n := by
  rw [List.take_add_one, h]
  exact laidF_snoc ps _ n
theorem ok_end_of {f : Addr} {fd : FuncData} (F : Fun K "end_of" "end_of" s_end_of f fd) (C_laid_end : Cal P w K mg base "laid_end" pm_laid_end 2 (sp_laid_end K)) : FnOk P w K mg base CX0 3 f fd pm_end_of (sp_end_of K) := by
  obtain ⟨f_laid_end, fd_laid_end, G_laid_end, g_laid_end, k_laid_end, b_laid_end⟩ := C_laid_end.ex
  refine F.ok sc_end_of (fun vs H Q E h => ?_) (fun cdv A outer s H vs Q E hr h => ?_)
  · obtain ⟨a, o, ps, os, rfl, _⟩ := h
    rfl
  · obtain ⟨a, o, ps, os, rfl, ⟨hP, hO, hok, hb⟩, q⟩ := h
    have rm : ∀ {j : Nat}, j ≤ 2 → Room j (A.deeper (envOfC "end_of" (defScope s_end_of) s.heap.objs.size f cdv)) := fun hj => hr.mono hj
    refine ⟨_, pss_cons (ps_set (i := 2) sc_end_of.nd rfl (.inl rfl) pe_int)
      (pss_cons (ps_for PassesOwn.never rfl (pi_tup (pv 1)) (pg_name (i := 3) sc_end_of.nd rfl (.inl rfl))
      (pss_one (ps_set (i := 2) sc_end_of.nd rfl (.inl rfl) (pe_call G_laid_end (rm (by decide)) (by rfl) g_laid_end k_laid_end b_laid_end .nil pass0 (pa_cons (pe_ix ix_tup (pv 0) (pv 3) (fun _ _ => rfl)) (pa_cons (pv 2) pa_nil))))))
      (pss_one (ps_ret (pv 2)))), ?_⟩
    refine ⟨.ref o, rfl, o, rfl, ⟨_, hO⟩, for_tup (xs := os.map natV) (fun i σ H' => ∃ x3, σ = [some (.ref a), some (.ref o), some (.int (laidF ps (os.take i)).2), x3] ∧ H' = H) ⟨none, rfl, rfl⟩ (fun i σ H' _ hp => ?_) (fun i x σ H' hx hp => ?_) (fun σ H' hp => ?_)⟩
    · obtain ⟨_, _, rfl⟩ := hp
      exact hO
    · obtain ⟨x3, rfl, rfl⟩ := hp
      obtain ⟨n, en, rfl⟩ := natV_at hx
      have hn : n < ps.length := hb n (List.mem_of_getElem? en)
      obtain ⟨vs, t, h1, h2, h3⟩ := hP.at hn
      refine ⟨.ref a, rfl, natV n, rfl, a, vs, n, .ref t, rfl, rfl, h1, h2, .int _, rfl, t, _, _, _, rfl, h3, (pt_ok hok n).2.2, ?_⟩
      refine ⟨some (natV n), ?_, rfl⟩
      rw [laid_take en, step_end]
      rfl
    · obtain ⟨x3, rfl, rfl⟩ := hp
      rw [List.length_map, List.take_length]
      exact ⟨_, rfl, q⟩
theorem ok_bits_of {f : Addr} {fd : FuncData} (F : Fun K "bits_of" "bits_of" s_bits_of f fd) (C_end_of : Cal P w K mg base "end_of" pm_end_of 3 (sp_end_of K)) : FnOk P w K mg base CX0 4 f fd pm_bits_of (sp_bits_of K) := by
  obtain ⟨f_end_of, fd_end_of, G_end_of, g_end_of, k_end_of, b_end_of⟩ := C_end_of.ex
  refine F.ok sc_bits_of (fun vs H Q E h => ?_) (fun cdv A outer s H vs Q E hr h => ?_)
  · obtain ⟨a, o, ps, os, rfl, _⟩ := h
    rfl
  · obtain ⟨a, o, ps, os, rfl, hA, q⟩ := h
    have rm : ∀ {j : Nat}, j ≤ 3 → Room j (A.deeper (envOfC "bits_of" (defScope s_bits_of) s.heap.objs.size f cdv)) := fun hj => hr.mono hj
    refine ⟨_, pss_one (ps_ret (pe_call G_end_of (rm (by decide)) (by rfl) g_end_of k_end_of b_end_of .nil pass0 (pa_cons (pv 0) (pa_cons (pv 1) pa_nil)))), ?_⟩
    exact ⟨.ref a, rfl, .ref o, rfl, a, o, ps, os, rfl, hA, q⟩
def sp__law_laid (K : PySem.W.Frag) : Sp := fun vs H Q _ => ∃ (a o : Addr) (ps : List Part) (os : List Nat), vs = [.ref a, .ref o] ∧ Asked K H a o ps os ∧ ps.length ≤ 1000 ∧
  ∀ (r t : Addr) (H' : Hp), Same H H' → SqT K H' r [.ref t, .int (laidF ps os).2] → SqT K H' t ((laidF ps os).1.map V.int) → Q (.ref r) H'
theorem rep_zero (n : Nat) : (List.replicate n [V.int 0]).flatten = (List.replicate n (0 : Int)).map V.int := by
  induction n with
  | zero => rfl
  | succ n ih => rw [List.replicate_succ, List.replicate_succ, List.flatten_cons, ih]; rfl
theorem ixN_nat {j n : Nat} (h : j < n) : ixN n (j : Int) = some j := by
  unfold ixN
  rw [if_pos (by omega), if_pos (by omega)]
  simp
theorem ok__law_laid {f : Addr} {fd : FuncData} (F : Fun K "_law_laid" "_law_laid" s__law_laid f fd) (C__law_up : Cal P w K mg base "_law_up" pm__law_up 1 sp__law_up) (m_len : mg "len" = none) (m_tuple : mg "tuple" = none) : FnOk P w K mg base CX0 2 f fd pm__law_laid (sp__law_laid K) := by
  obtain ⟨f__law_up, fd__law_up, G__law_up, g__law_up, k__law_up, b__law_up⟩ := C__law_up.ex
  refine F.ok sc__law_laid (fun vs H Q E h => ?_) (fun cdv A outer s H vs Q E hr h => ?_)
  · obtain ⟨a, o, ps, os, rfl, _⟩ := h
    rfl
  · obtain ⟨a, o, ps, os, rfl, ⟨hP, hO, hok, hb⟩, hl, q⟩ := h
    have rm : ∀ {j : Nat}, j ≤ 1 → Room j (A.deeper (envOfC "_law_laid" (defScope s__law_laid) s.heap.objs.size f cdv)) := fun hj => hr.mono hj
    refine ⟨_, pss_cons (ps_set (i := 2) sc__law_laid.nd rfl (.inl rfl) (pe_op op_rep (pe_lst (pa_cons pe_int pa_nil)) (pe_callB call_len_seq (by rfl) m_len PySem.boot_len (pa_cons (pv 0) pa_nil))))
      (pss_cons (ps_set (i := 3) sc__law_laid.nd rfl (.inl rfl) pe_int)
      (pss_cons (ps_for PassesOwn.never rfl (pi_tup (pv 1)) (pg_name (i := 4) sc__law_laid.nd rfl (.inl rfl))
      (pss_one (ps_if (pt_cmpR op_gt (pe_ix ix_tup (pe_ix ix_tup (pv 0) (pv 4) (fun _ _ => rfl)) pe_int (fun _ _ => rfl)) pe_int (nomark _))
      (pss_cons (ps_asg (pe_call G__law_up (rm (by decide)) (by rfl) g__law_up k__law_up b__law_up .nil pass0 (pa_cons (pv 3) (pa_cons (pe_ix ix_tup (pe_ix ix_tup (pv 0) (pv 4) (fun _ _ => rfl)) pe_int (fun _ _ => rfl)) pa_nil))) (pg_sub (pv 2) (pv 4) set_list))
      (pss_one (ps_set (i := 3) sc__law_laid.nd rfl (.inl rfl) (pe_op op_add (pe_ix ix_list (pv 2) (pv 4) (fun _ _ => rfl)) (pe_ix ix_tup (pe_ix ix_tup (pv 0) (pv 4) (fun _ _ => rfl)) pe_int (fun _ _ => rfl)))))) pss_nil)))
      (pss_one (ps_ret (pe_tup (pa_cons (pe_callTy call_tuple_of (by rfl) m_tuple (by decide +kernel) (pa_cons (pv 2) pa_nil)) (pa_cons (pv 3) pa_nil))))))), ?_⟩
    obtain ⟨ws, hw, lw⟩ := hP.len
    refine ⟨(by show 1 ≤ sizeLine; decide), fun z nz => ?_⟩
    have s1 : Same H (upd H z (.lst [V.int 0])) := same_upd nz
    have c1 : (upd H z (.lst [V.int 0])) z = some (.lst [V.int 0]) := upd_same
    generalize upd H z (HO.lst [V.int 0]) = H1 at s1 c1 ⊢
    refine ⟨.ref a, rfl, a, ws, rfl, .inr (ts_same s1 _ _ hw), z, _, [V.int 0], rfl, rfl, c1, by omega, by omega, ?_, fun p np => ?_⟩
    · rw [Int.toNat_natCast]
      exact Nat.le_trans (show 1 * ws.length ≤ 1000 by omega) (by decide)
    rw [Int.toNat_natCast, lw, rep_zero]
    have s2 : Same H1 (upd H1 p (.lst ((List.replicate ps.length (0 : Int)).map V.int))) := same_upd np
    have c2 : (upd H1 p (.lst ((List.replicate ps.length (0 : Int)).map V.int))) p = some (.lst ((List.replicate ps.length (0 : Int)).map V.int)) := upd_same
    generalize upd H1 p (HO.lst ((List.replicate ps.length (0 : Int)).map V.int)) = H2 at s2 c2 ⊢
    have np0 : H p = none := s1.free np
    refine ⟨.ref o, rfl, o, rfl, ⟨_, ts_same (s1.trans s2) _ _ hO⟩, for_tup (xs := os.map natV) (fun i σ H' => ∃ x4, σ = [some (.ref a), some (.ref o), some (.ref p), some (.int (laidF ps (os.take i)).2), x4] ∧ H' p = some (.lst ((laidF ps (os.take i)).1.map V.int)) ∧ Same H H') ⟨none, rfl, c2, s1.trans s2⟩ (fun i σ H' _ hp => ?_) (fun i x σ H' hx hp => ?_) (fun σ H' hp => ?_)⟩
    · obtain ⟨_, _, _, s'⟩ := hp
      exact ts_same s' _ _ hO
    · obtain ⟨x4, rfl, eP, s'⟩ := hp
      obtain ⟨n, en, rfl⟩ := natV_at hx
      have hn : n < ps.length := hb n (List.mem_of_getElem? en)
      obtain ⟨vs, t, h1, h2, h3⟩ := (hP.ts (ts_same s')).at hn
      have okn := pt_ok hok n
      have lst := laidF_len ps (os.take i)
      generalize hst : laidF ps (os.take i) = st at eP lst ⊢
      have hst2 : laidF ps (os.take (i + 1)) = step ps st n := by rw [laid_take en, hst]
      refine ⟨.ref a, rfl, natV n, rfl, a, vs, n, .ref t, rfl, rfl, h1, h2, t, _, 0, _, rfl, rfl, h3, atI_nat (j := 0) rfl, _, _, rfl, rfl, _, rfl, ite2 (fun c => ?_) (fun c => ?_)⟩
      · have hpos : 0 < (pt ps n).1 := of_decide_eq_true c
        have hz : (pt ps n).1 ≠ 0 := by omega
        have e2 : step ps st n = (st.1.set n (rup st.2 (pt ps n).2), rup st.2 (pt ps n).2 + (pt ps n).1) := by unfold step; rw [if_neg hz]
        refine ⟨.int st.2, rfl, .ref a, rfl, natV n, rfl, a, vs, n, .ref t, rfl, rfl, h1, h2, t, _, 1, _, rfl, rfl, h3, atI_nat (j := 1) rfl, _, _, rfl, okn.2.2, ?_⟩
        refine ⟨.ref p, rfl, natV n, rfl, p, _, n, n, rfl, rfl, eP, ?_, ?_⟩
        · rw [List.length_map]; exact ixN_nat (by omega)
        rw [← List.map_set]
        have s3 : Same H (upd H' p (.lst ((st.1.set n (rup st.2 (pt ps n).2)).map V.int))) := fun b u e => by
          rw [upd_ne (ne_of_none e np0)]
          exact s' b u e
        have t3 : K1.TS K H' (upd H' p (.lst ((st.1.set n (rup st.2 (pt ps n).2)).map V.int))) := ts_lst eP
        have c3 : (upd H' p (.lst ((st.1.set n (rup st.2 (pt ps n).2)).map V.int))) p = some (.lst ((st.1.set n (rup st.2 (pt ps n).2)).map V.int)) := upd_same
        generalize upd H' p (HO.lst ((st.1.set n (rup st.2 (pt ps n).2)).map V.int)) = H3 at s3 t3 c3 ⊢
        have g3 : ((st.1.set n (rup st.2 (pt ps n).2)).map V.int)[n]? = some (.int (rup st.2 (pt ps n).2)) := by
          rw [List.getElem?_map, List.getElem?_set_self (by omega)]
          rfl
        refine ⟨.ref p, rfl, natV n, rfl, p, _, n, _, rfl, rfl, .inl (.inl c3), atI_nat g3, .ref a, rfl, natV n, rfl, a, vs, n, .ref t, rfl, rfl, t3 _ _ h1, h2, t, _, 0, _, rfl, rfl, t3 _ _ h3, atI_nat (j := 0) rfl, _, _, rfl, rfl, ?_⟩
        refine ⟨some (natV n), ?_, ?_, s3⟩
        · rw [hst2, e2]; rfl
        · rw [hst2, e2]; exact c3
      · have hz : (pt ps n).1 = 0 := by
          have h0 := okn.1
          have : ¬ 0 < (pt ps n).1 := fun z => c (decide_eq_true z)
          omega
        have e2 : step ps st n = st := by unfold step; rw [if_pos hz]
        refine ⟨some (natV n), ?_, ?_, s'⟩
        · rw [hst2, e2]; rfl
        · rw [hst2, e2]; exact eP
    · obtain ⟨x4, rfl, eP, s'⟩ := hp
      rw [List.length_map, List.take_length] at eP ⊢
      refine ⟨.ref p, rfl, p, _, rfl, .inl ⟨.inl (.inl eP), fun t nt => ?_⟩⟩
      refine ⟨_, rfl, (by show 2 ≤ sizeLine; decide), fun r nr => ?_⟩
      exact q r t _ ((s'.trans (same_upd nt)).trans (same_upd nr)) (.inl (.inl upd_same)) (ts_new nr _ _ (.inl (.inl upd_same)))
end
end K3
namespace K3
/-! ### beginnings, what is left, cuts -/
def leftN (n : Nat) (bs : List Nat) : List Nat := (List.range n).filter fun k => decide (k ∉ bs)
def szs (ps : List Part) (ks : List Nat) : Int := (ks.map fun k => (pt ps k).1).sum
def restS (ps : List Part) (bs : List Nat) : Int := szs ps (leftN ps.length bs)
def cutF (ps : List Part) (bs : List Nat) (bits : Int) : Bool := decide (bits ≤ (laidF ps bs).2 + restS ps bs)
theorem leftN_succ (n : Nat) (bs : List Nat) : leftN (n + 1) bs = if n ∉ bs then leftN n bs ++ [n] else leftN n bs := by
  unfold leftN
  rw [List.range_succ, List.filter_append]
  by_cases h : n ∈ bs
  · simp [h]
  · simp [h]
theorem mem_leftN {n k : Nat} {bs : List Nat} : k ∈ leftN n bs ↔ k < n ∧ k ∉ bs := by
  unfold leftN
  rw [List.mem_filter, List.mem_range, decide_eq_true_eq]
theorem leftN_len (n : Nat) (bs : List Nat) : (leftN n bs).length ≤ n := by
  unfold leftN
  exact Nat.le_trans (List.length_filter_le _ _) (by rw [List.length_range]; exact Nat.le_refl _)
theorem leftN_nodup (n : Nat) (bs : List Nat) : (leftN n bs).Nodup := List.nodup_range.filter _
/-- a beginning -/
def Beg (n : Nat) (bs : List Nat) : Prop := bs.Nodup ∧ ∀ k ∈ bs, k < n
theorem beg_nil (n : Nat) : Beg n [] := ⟨List.nodup_nil, fun _ h => nomatch h⟩
theorem beg_snoc {n k : Nat} {bs : List Nat} (h : Beg n bs) (hk : k ∈ leftN n bs) : Beg n (bs ++ [k]) := by
  obtain ⟨h1, h2⟩ := mem_leftN.mp hk
  refine ⟨List.nodup_append.mpr ⟨h.1, by simp, fun a ha b hb e => ?_⟩, fun j hj => ?_⟩
  · rw [List.mem_singleton.mp hb] at e
    rw [e] at ha
    exact h2 ha
  · rcases List.mem_append.mp hj with m | m
    · exact h.2 j m
    · rw [List.mem_singleton.mp m]; exact h1
theorem left_perm {n : Nat} {bs rest : List Nat} (h : (bs ++ rest).Perm (List.range n)) : rest.Perm (leftN n bs) := by
  have nd : (bs ++ rest).Nodup := h.nodup_iff.mpr List.nodup_range
  have dis := (List.nodup_append.mp nd).2.2
  have h1 := h.filter fun k => decide (k ∉ bs)
  rw [List.filter_append] at h1
  have e1 : bs.filter (fun k => decide (k ∉ bs)) = [] := List.filter_eq_nil_iff.mpr fun a ha => by simpa using ha
  have e2 : rest.filter (fun k => decide (k ∉ bs)) = rest := List.filter_eq_self.mpr fun a ha => by
    rw [decide_eq_true_eq]
    intro z
    exact dis a z a ha rfl
  rw [e1, e2, List.nil_append] at h1
  exact h1
theorem beg_of_perm {n : Nat} {bs rest : List Nat} (h : (bs ++ rest).Perm (List.range n)) : Beg n bs := by
  refine ⟨(List.nodup_append.mp (h.nodup_iff.mpr List.nodup_range)).1, fun k hk => ?_⟩
  exact List.mem_range.mp (h.mem_iff.mp (List.mem_append.mpr (.inl hk)))
theorem perm_of_beg {n : Nat} {bs : List Nat} (h : Beg n bs) : (bs ++ leftN n bs).Perm (List.range n) := by
  have key : ∀ (xs ys : List Nat), xs.Nodup → ys.Nodup → (∀ a, a ∈ xs ↔ a ∈ ys) → xs.Perm ys := by
    intro xs
    induction xs with
    | nil =>
      intro ys _ _ hm
      cases ys with
      | nil => exact List.Perm.refl _
      | cons y ys => exact absurd ((hm y).mpr List.mem_cons_self) (by simp)
    | cons x xs ih =>
      intro ys hx hy hm
      have mx : x ∈ ys := (hm x).mp List.mem_cons_self
      have p := List.perm_cons_erase mx
      have hx' := List.nodup_cons.mp hx
      have hy' : (x :: ys.erase x).Nodup := p.nodup_iff.mp hy
      have hy2 := List.nodup_cons.mp hy'
      refine List.Perm.trans ((ih (ys.erase x) hx'.2 hy2.2 fun a => ?_).cons x) p.symm
      constructor
      · intro ha
        have hne : a ≠ x := fun z => hx'.1 (z ▸ ha)
        exact (List.mem_cons.mp (p.mem_iff.mp ((hm a).mp (List.mem_cons_of_mem _ ha)))).resolve_left hne
      · intro ha
        have hne : a ≠ x := fun z => hy2.1 (z ▸ ha)
        exact (List.mem_cons.mp ((hm a).mpr (p.mem_iff.mpr (List.mem_cons_of_mem _ ha)))).resolve_left hne
  refine key _ _ (List.nodup_append.mpr ⟨h.1, leftN_nodup n bs, fun a ha b hb e => ?_⟩) List.nodup_range fun a => ?_
  · exact (mem_leftN.mp hb).2 (e ▸ ha)
  · rw [List.mem_append, mem_leftN, List.mem_range]
    constructor
    · rintro (m | m)
      · exact h.2 a m
      · exact m.1
    · intro hl
      by_cases m : a ∈ bs
      · exact .inl m
      · exact .inr ⟨hl, m⟩
theorem beg_len {n : Nat} {bs : List Nat} (h : Beg n bs) : bs.length + (leftN n bs).length = n := by
  have := (perm_of_beg h).length_eq
  rw [List.length_append, List.length_range] at this
  exact this
theorem end_ge {ps : List Part} (hp : ∀ p ∈ ps, PtOk p) : ∀ (rest bs : List Nat), (laidF ps bs).2 + szs ps rest ≤ (laidF ps (bs ++ rest)).2
  | [], bs => by simp [szs]
  | k :: rest, bs => by
    have ih := end_ge hp rest (bs ++ [k])
    rw [List.append_assoc] at ih
    have e : (laidF ps bs).2 + (pt ps k).1 ≤ (laidF ps (bs ++ [k])).2 := by
      rw [laidF_snoc, step_end]
      unfold lay
      have ok := pt_ok hp k
      have := rup_ge (e := (laidF ps bs).2) ok.2.2
      by_cases hz : (pt ps k).1 = 0
      · rw [if_pos hz]; omega
      · rw [if_neg hz]; omega
    have e2 : szs ps (k :: rest) = (pt ps k).1 + szs ps rest := by simp [szs]
    rw [e2]
    have e3 : (laidF ps (bs ++ ([k] ++ rest))).2 = (laidF ps (bs ++ k :: rest)).2 := rfl
    omega
theorem szs_perm {ps : List Part} {xs ys : List Nat} (h : xs.Perm ys) : szs ps xs = szs ps ys := by
  unfold szs
  have : ∀ {as bs : List Int}, as.Perm bs → as.sum = bs.sum := by
    intro as bs p
    induction p with
    | nil => rfl
    | cons x _ ih => simp [ih]
    | swap x y l => simp; omega
    | trans _ _ a b => exact a.trans b
  exact this (h.map _)
theorem cut_ge {ps : List Part} (hp : ∀ p ∈ ps, PtOk p) {bs rest : List Nat} {bits : Int} (hc : cutF ps bs bits = true) (h : (bs ++ rest).Perm (List.range ps.length)) : bits ≤ (laidF ps (bs ++ rest)).2 := by
  have h1 := of_decide_eq_true hc
  have h2 := end_ge hp rest bs
  rw [szs_perm (left_perm h)] at h2
  unfold restS at h1
  omega
/-- no order has fewer bits -/
def Least (ps : List Part) (bits : Int) : Prop := ∀ o : List Nat, o.Perm (List.range ps.length) → bits ≤ (laidF ps o).2
theorem full_cut {ps : List Part} {bs : List Nat} {bits : Int} (hb : Beg ps.length bs) (h0 : leftN ps.length bs = []) (hl : Least ps bits) : cutF ps bs bits = true := by
  have hp := perm_of_beg hb
  rw [h0, List.append_nil] at hp
  have := hl bs hp
  refine decide_eq_true ?_
  unfold restS
  rw [h0]
  simp [szs]
  omega
/-! ### how many beginnings there are -/
def cnt : Nat → Nat
  | 0 => 1
  | r + 1 => 1 + (r + 1) * cnt r
theorem cnt_pos (r : Nat) : 1 ≤ cnt r := by
  cases r with
  | zero => exact Nat.le_refl _
  | succ r => unfold cnt; omega
theorem cnt_mono {r q : Nat} (h : r ≤ q) : cnt r ≤ cnt q := by
  induction h with
  | refl => exact Nat.le_refl _
  | step h ih =>
    rename_i m
    refine Nat.le_trans ih ?_
    show cnt m ≤ 1 + (m + 1) * cnt m
    have : cnt m ≤ (m + 1) * cnt m := Nat.le_mul_of_pos_left _ (by omega)
    omega
def wt (n : Nat) (ss : List (List Nat)) : Nat := (ss.map fun s => cnt (n - s.length)).sum
theorem wt_append (n : Nat) (xs ys : List (List Nat)) : wt n (xs ++ ys) = wt n xs + wt n ys := by
  unfold wt
  rw [List.map_append, List.sum_append]
theorem wt_len (n : Nat) : ∀ ss : List (List Nat), ss.length ≤ wt n ss
  | [] => Nat.le_refl _
  | s :: ss => by
    have h1 := cnt_pos (n - s.length)
    have h2 := wt_len n ss
    simp only [wt, List.map_cons, List.sum_cons, List.length_cons] at h2 ⊢
    omega
theorem wt_kids (n : Nat) (bs : List Nat) : ∀ ks : List Nat, wt n (ks.map fun k => bs ++ [k]) = ks.length * cnt (n - (bs.length + 1))
  | [] => by simp [wt]
  | k :: ks => by
    have h := wt_kids n bs ks
    simp only [wt, List.map_cons, List.sum_cons, List.length_cons, List.length_append, List.length_nil] at h ⊢
    rw [h, Nat.succ_mul, Nat.zero_add]
    omega
theorem wt_rev (n : Nat) (ss : List (List Nat)) : wt n ss.reverse = wt n ss := by
  unfold wt
  rw [List.map_reverse]
  exact (List.reverse_perm _).sum_nat
/-- what the search has ahead of it -/
structure Seek (ps : List Part) (ss : List (List Nat)) (best : List Nat) : Prop where
  ord : best.Perm (List.range ps.length)
  beg : ∀ s ∈ ss, Beg ps.length s
  cov : ∀ o : List Nat, o.Perm (List.range ps.length) → (laidF ps best).2 ≤ (laidF ps o).2 ∨ ∃ s ∈ ss, ∃ rest, o = s ++ rest
theorem seek_start (ps : List Part) : Seek ps [[]] (List.range ps.length) :=
  ⟨List.Perm.refl _, fun s hs => by rw [List.mem_singleton.mp hs]; exact beg_nil _, fun o _ => .inr ⟨[], List.mem_singleton.mpr rfl, o, rfl⟩⟩
theorem seek_end {ps : List Part} {best : List Nat} (h : Seek ps [] best) : Least ps (laidF ps best).2 := fun o ho => by
  rcases h.cov o ho with c | ⟨s, hs, _⟩
  · exact c
  · exact nomatch hs
theorem seek_cut {ps : List Part} (hp : ∀ p ∈ ps, PtOk p) {ss : List (List Nat)} {best s : List Nat} (h : Seek ps (ss ++ [s]) best) (hc : cutF ps s (laidF ps best).2 = true) : Seek ps ss best := by
  refine ⟨h.ord, fun x hx => h.beg x (List.mem_append.mpr (.inl hx)), fun o ho => ?_⟩
  rcases h.cov o ho with c | ⟨x, hx, rest, e⟩
  · exact .inl c
  · rcases List.mem_append.mp hx with m | m
    · exact .inr ⟨x, m, rest, e⟩
    · rw [List.mem_singleton.mp m] at e
      subst e
      exact .inl (cut_ge hp hc ho)
theorem seek_go {ps : List Part} {ss : List (List Nat)} {best s : List Nat} (h : Seek ps (ss ++ [s]) best) (hl : s.length ≠ ps.length) :
    Seek ps (ss ++ ((leftN ps.length s).reverse.map fun k => s ++ [k])) best := by
  have hb := h.beg s (List.mem_append.mpr (.inr (List.mem_singleton.mpr rfl)))
  refine ⟨h.ord, fun x hx => ?_, fun o ho => ?_⟩
  · rcases List.mem_append.mp hx with m | m
    · exact h.beg x (List.mem_append.mpr (.inl m))
    · obtain ⟨k, hk, rfl⟩ := List.mem_map.mp m
      exact beg_snoc hb (List.mem_reverse.mp hk)
  · rcases h.cov o ho with c | ⟨x, hx, rest, e⟩
    · exact .inl c
    · refine .inr ?_
      rcases List.mem_append.mp hx with m | m
      · exact ⟨x, List.mem_append.mpr (.inl m), rest, e⟩
      · rw [List.mem_singleton.mp m] at e
        cases rest with
        | nil =>
          rw [List.append_nil] at e
          rw [e] at ho
          have := ho.length_eq
          rw [List.length_range] at this
          exact absurd this hl
        | cons k rest =>
          refine ⟨s ++ [k], List.mem_append.mpr (.inr (List.mem_map.mpr ⟨k, List.mem_reverse.mpr ?_, rfl⟩)), rest, by rw [e, List.append_assoc]; rfl⟩
          rw [e] at ho
          exact (left_perm ho).mem_iff.mp List.mem_cons_self
theorem seek_best {ps : List Part} {ss : List (List Nat)} {best s : List Nat} (h : Seek ps (ss ++ [s]) best) (hn : cutF ps s (laidF ps best).2 ≠ true) (hl : s.length = ps.length) : leftN ps.length s = [] ∧ Seek ps ss s := by
  have hb := h.beg s (List.mem_append.mpr (.inr (List.mem_singleton.mpr rfl)))
  have h0 : leftN ps.length s = [] := List.length_eq_zero_iff.mp (by have := beg_len hb; omega)
  have hp := perm_of_beg hb
  rw [h0, List.append_nil] at hp
  refine ⟨h0, hp, fun x hx => h.beg x (List.mem_append.mpr (.inl hx)), fun o ho => ?_⟩
  have lt : (laidF ps s).2 < (laidF ps best).2 := by
    have : ¬ (laidF ps best).2 ≤ (laidF ps s).2 + restS ps s := fun z => hn (decide_eq_true z)
    unfold restS at this
    rw [h0] at this
    simp [szs] at this
    omega
  rcases h.cov o ho with c | ⟨x, hx, rest, e⟩
  · exact .inl (by omega)
  · rcases List.mem_append.mp hx with m | m
    · exact .inr ⟨x, m, rest, e⟩
    · rw [List.mem_singleton.mp m] at e
      rw [e] at ho
      have hr := (left_perm ho)
      rw [h0] at hr
      rw [hr.eq_nil, List.append_nil] at e
      rw [e]
      exact .inl (Int.le_refl _)
end K3
namespace K3
open PySem PySem.Spec PyProof.Rows L2 K1
/-! ### trees at beginnings -/
mutual
def wrT (ps : List Part) (bits : Int) : PyData → List Nat → Option (List Nat)
  | .tuple ts, b => if ts.isEmpty = true then (if cutF ps b bits = true then none else some b) else if ts.length = (leftN ps.length b).length then wrA ps bits ts (leftN ps.length b) b else some b
  | .none, b => some b
  | .bool _, b => some b
  | .int _, b => some b
  | .str _, b => some b
  | .list _, b => some b
  | .dict _, b => some b
def wrA (ps : List Part) (bits : Int) : List PyData → List Nat → List Nat → Option (List Nat)
  | [], _, _ => none
  | t :: ts, ks, b => match ks with
    | [] => none
    | k :: ks => match wrT ps bits t (b ++ [k]) with
      | some x => some x
      | none => wrA ps bits ts ks b
end
theorem wrT_leaf (ps : List Part) (bits : Int) {d : PyData} (h : isT d = false) (b : List Nat) : wrT ps bits d b = some b := by
  cases d <;> first | rfl | cases h
theorem wrT_tuple (ps : List Part) (bits : Int) (ts : List PyData) (b : List Nat) : wrT ps bits (.tuple ts) b = if ts.isEmpty = true then (if cutF ps b bits = true then none else some b) else if ts.length = (leftN ps.length b).length then wrA ps bits ts (leftN ps.length b) b else some b := by
  rw [wrT]
def stW (ps : List Part) (bits : Int) : List (List Nat × PyData) → Option (List Nat)
  | [] => none
  | e :: es => match wrT ps bits e.2 e.1 with
    | some x => some x
    | none => stW ps bits es
theorem stW_append (ps : List Part) (bits : Int) : ∀ xs ys, stW ps bits (xs ++ ys) = match stW ps bits xs with
    | some x => some x
    | none => stW ps bits ys
  | [], ys => rfl
  | e :: xs, ys => by
    show (match wrT ps bits e.2 e.1 with | some x => some x | none => stW ps bits (xs ++ ys)) = match (match wrT ps bits e.2 e.1 with | some x => some x | none => stW ps bits xs) with | some x => some x | none => stW ps bits ys
    cases wrT ps bits e.2 e.1 with
    | some x => rfl
    | none => exact stW_append ps bits xs ys
theorem stW_rows (ps : List Part) (bits : Int) (b : List Nat) : ∀ (ts : List PyData) (ks : List Nat), stW ps bits ((ks.zip ts).map fun (p : Nat × PyData) => (b ++ [p.1], p.2)) = wrA ps bits ts ks b
  | [], ks => by
    rw [List.zip_nil_right]
    simp [stW, wrA]
  | t :: ts, [] => by simp [stW, wrA]
  | t :: ts, k :: ks => by
    have ih := stW_rows ps bits b ts ks
    show (match wrT ps bits t (b ++ [k]) with | some x => some x | none => stW ps bits ((ks.zip ts).map fun (p : Nat × PyData) => (b ++ [p.1], p.2))) = _
    rw [ih, wrA]
mutual
theorem wr_least {ps : List Part} (hp : ∀ p ∈ ps, PtOk p) {bits : Int} : ∀ (d : PyData) (b : List Nat), wrT ps bits d b = none → ∀ rest, (b ++ rest).Perm (List.range ps.length) → bits ≤ (laidF ps (b ++ rest)).2
  | .tuple ts, b, h, rest, ho => by
    rw [wrT_tuple] at h
    by_cases he : ts.isEmpty = true
    · rw [if_pos he] at h
      by_cases hc : cutF ps b bits = true
      · exact cut_ge hp hc ho
      · rw [if_neg hc] at h; cases h
    · rw [if_neg he] at h
      by_cases hl : ts.length = (leftN ps.length b).length
      · rw [if_pos hl] at h
        have hr := left_perm ho
        cases rest with
        | nil =>
          have := hr.length_eq
          rw [← hl] at this
          cases ts with
          | nil => exact absurd rfl he
          | cons _ _ => simp at this
        | cons k rest =>
          have := wr_leastA hp ts (leftN ps.length b) b h hl k (hr.mem_iff.mp List.mem_cons_self) rest (by rw [List.append_assoc]; exact ho)
          rw [List.append_assoc] at this
          exact this
      · rw [if_neg hl] at h; cases h
  | .none, b, h, rest, ho => by cases h
  | .bool _, b, h, rest, ho => by cases h
  | .int _, b, h, rest, ho => by cases h
  | .str _, b, h, rest, ho => by cases h
  | .list _, b, h, rest, ho => by cases h
  | .dict _, b, h, rest, ho => by cases h
theorem wr_leastA {ps : List Part} (hp : ∀ p ∈ ps, PtOk p) {bits : Int} : ∀ (ts : List PyData) (ks b : List Nat), wrA ps bits ts ks b = none → ts.length = ks.length → ∀ k ∈ ks, ∀ rest, ((b ++ [k]) ++ rest).Perm (List.range ps.length) → bits ≤ (laidF ps ((b ++ [k]) ++ rest)).2
  | [], ks, b, h, hl, k, hk, rest, ho => by
    cases ks with
    | nil => exact nomatch hk
    | cons _ _ => simp at hl
  | t :: ts, ks, b, h, hl, k, hk, rest, ho => by
    cases ks with
    | nil => exact nomatch hk
    | cons k0 ks =>
      rw [wrA] at h
      cases e : wrT ps bits t (b ++ [k0]) with
      | some x => rw [e] at h; cases h
      | none =>
        rw [e] at h
        rcases List.mem_cons.mp hk with rfl | hk
        · exact wr_least hp t _ e rest ho
        · exact wr_leastA hp ts ks b h (by simpa using hl) k hk rest ho
end
theorem wr_min {ps : List Part} (hp : ∀ p ∈ ps, PtOk p) {bits : Int} {d : PyData} (h : wrT ps bits d [] = none) : Least ps bits := fun o ho => wr_least hp d [] h o ho
/-- the tree that is grown -/
def gr (ps : List Part) (bits : Int) : Nat → List Nat → PyData
  | 0, b => .tuple []
  | r + 1, b => if cutF ps b bits = true then .tuple [] else .tuple ((leftN ps.length b).map fun k => gr ps bits r (b ++ [k]))
theorem kid_left {n k : Nat} {b : List Nat} (hb : Beg n b) (hk : k ∈ leftN n b) {r : Nat} (hr : (leftN n b).length = r + 1) : (leftN n (b ++ [k])).length = r := by
  have h1 := beg_len hb
  have h2 := beg_len (beg_snoc hb hk)
  rw [List.length_append] at h2
  simp at h2
  omega
theorem wrA_all {ps : List Part} {bits : Int} {b : List Nat} (f : Nat → PyData) : ∀ ks : List Nat, (∀ k ∈ ks, wrT ps bits (f k) (b ++ [k]) = none) → wrA ps bits (ks.map f) ks b = none
  | [], _ => by simp [wrA]
  | k :: ks, h => by
    rw [List.map_cons, wrA, h k List.mem_cons_self]
    exact wrA_all f ks fun j hj => h j (List.mem_cons_of_mem _ hj)
theorem wr_gr {ps : List Part} {bits : Int} (hl : Least ps bits) : ∀ (r : Nat) (b : List Nat), Beg ps.length b → (leftN ps.length b).length = r → wrT ps bits (gr ps bits r b) b = none
  | 0, b, hb, hr => by
    have hc := full_cut hb (List.length_eq_zero_iff.mp hr) hl
    rw [gr, wrT_tuple, if_pos (show ([] : List PyData).isEmpty = true from rfl), if_pos hc]
  | r + 1, b, hb, hr => by
    rw [gr]
    by_cases hc : cutF ps b bits = true
    · rw [if_pos hc, wrT_tuple, if_pos (show ([] : List PyData).isEmpty = true from rfl), if_pos hc]
    · rw [if_neg hc, wrT_tuple]
      have ne : ¬ ((leftN ps.length b).map fun k => gr ps bits r (b ++ [k])).isEmpty = true := by
        cases e : leftN ps.length b with
        | nil => rw [e] at hr; simp at hr
        | cons _ _ => simp
      rw [if_neg ne, if_pos (by rw [List.length_map])]
      exact wrA_all _ _ fun k hk => wr_gr hl r (b ++ [k]) (beg_snoc hb hk) (kid_left hb hk hr)
theorem gr_pl (ps : List Part) (bits : Int) : ∀ (r : Nat) (b : List Nat), pl (gr ps bits r b) = true
  | 0, b => rfl
  | r + 1, b => by
    rw [gr]
    split
    · rfl
    · refine plA_of fun d hd => ?_
      obtain ⟨k, _, rfl⟩ := List.mem_map.mp hd
      exact gr_pl ps bits r _
theorem gr_sz (ps : List Part) (bits : Int) : ∀ (r : Nat) (b : List Nat), Beg ps.length b → (leftN ps.length b).length = r → sz (gr ps bits r b) ≤ cnt r
  | 0, b, _, _ => by rw [gr]; exact Nat.le_refl _
  | r + 1, b, hb, hr => by
    rw [gr]
    split
    · exact cnt_pos _
    · have h : szA ((leftN ps.length b).map fun k => gr ps bits r (b ++ [k])) ≤ ((leftN ps.length b).map fun k => gr ps bits r (b ++ [k])).length * cnt r := szA_le fun d hd => by
        obtain ⟨k, hk, rfl⟩ := List.mem_map.mp hd
        exact gr_sz ps bits r _ (beg_snoc hb hk) (kid_left hb hk hr)
      rw [List.length_map, hr] at h
      show szA _ + 1 ≤ 1 + (r + 1) * cnt r
      omega
theorem gr_depth (ps : List Part) (bits : Int) : ∀ (r : Nat) (b : List Nat), (gr ps bits r b).depth ≤ r + 1
  | 0, b => by rw [gr, depth_tuple]; simp [PyData.depthAll]
  | r + 1, b => by
    rw [gr]
    split
    · rw [depth_tuple]; simp [PyData.depthAll]
    · rw [depth_tuple]
      have : PyData.depthAll ((leftN ps.length b).map fun k => gr ps bits r (b ++ [k])) ≤ r + 1 := depthA_le fun d hd => by
        obtain ⟨k, hk, rfl⟩ := List.mem_map.mp hd
        exact gr_depth ps bits r _
      omega
end K3
namespace K3
open PySem PySem.Spec PyProof.Rows L2 K1
abbrev s_left_of : Stmt := topS 12
abbrev nm_left_of : List Str := ["parts", "beginning", "number"]
abbrev pm_left_of : List Str := ["parts", "beginning"]
theorem sc_left_of : FnScope nm_left_of pm_left_of (defScope s_left_of) := ⟨rfl, rfl, rfl, by decide +kernel, rfl, by decide +kernel, by decide +kernel⟩
abbrev s_is_cut : Stmt := topS 13
abbrev nm_is_cut : List Str := ["parts", "beginning", "bits", "others", "number"]
abbrev pm_is_cut : List Str := ["parts", "beginning", "bits"]
theorem sc_is_cut : FnScope nm_is_cut pm_is_cut (defScope s_is_cut) := ⟨rfl, rfl, rfl, by decide +kernel, rfl, by decide +kernel, by decide +kernel⟩
section
variable {P : Program} {w : World} {K : PySem.W.Frag} {mg : Str → Option Value} {base : Heap}
theorem inV_nat (k : Nat) (bs : List Nat) : inV (natV k) (bs.map natV) = decide (k ∈ bs) := by
  unfold inV
  induction bs with
  | nil => simp
  | cons b bs ih =>
    rw [List.map_cons, List.any_cons, ih]
    show (((b : Int) == (k : Int)) || decide (k ∈ bs)) = decide (k ∈ b :: bs)
    by_cases h : k = b
    · subst h; simp
    · have h2 : ¬ (b : Int) = (k : Int) := fun z => h (by omega)
      have h3 : ((b : Int) == (k : Int)) = false := by simpa using h2
      rw [h3, Bool.false_or]
      simp [h]
theorem flat_nats (bs : List Nat) : (bs.map natV).all flatV = true := by
  rw [List.all_eq_true]
  intro x hx
  obtain ⟨k, _, rfl⟩ := List.mem_map.mp hx
  rfl
def sp_left_of (K : PySem.W.Frag) : Sp := fun vs H Q _ => ∃ (a o : Addr) (ps : List Part) (bs : List Nat), vs = [.ref a, .ref o] ∧ Pts K H a ps ∧ SqT K H o (bs.map natV) ∧ ps.length ≤ 1000 ∧
  ∀ (l : Addr) (H' : Hp), Same H H' → H l = none → H' l = some (.lst ((leftN ps.length bs).map natV)) → Q (.ref l) H'
theorem ok_left_of {f : Addr} {fd : FuncData} (F : Fun K "left_of" "left_of" s_left_of f fd) (m_range : mg "range" = none) (m_len : mg "len" = none) : FnOk P w K mg base CX0 1 f fd pm_left_of (sp_left_of K) := by
  refine F.ok sc_left_of (fun vs H Q E h => ?_) (fun cdv A outer s H vs Q E hr h => ?_)
  · obtain ⟨a, o, ps, bs, rfl, _⟩ := h
    rfl
  · obtain ⟨a, o, ps, bs, rfl, hP, hO, hl, q⟩ := h
    refine ⟨_, pss_one (ps_ret (pe_lc (own := [("number", 2)]) (g := gName 2) rfl sc_left_of.nd (pi_range1 (by rfl) m_range (pa_cons (pe_callB call_len_seq (by rfl) m_len PySem.boot_len (pa_cons (pv 0) pa_nil)) pa_nil)) (blkOk_by (N := nm_left_of) (sc := defScope s_left_of) (by decide +kernel)) (fun _ _ _ _ _ => pg_name (i := 2) sc_left_of.nd rfl (Or.inl rfl)) (fun _ _ _ _ _ => (pts_one (pt_cmpR (show OpR _ (compareOp .NotIn) (rIn K true) from op_notIn_seq) (pv 2) (pv 1) (by rfl)))) (fun _ _ _ _ _ => (pv 2)))), ?_⟩
    obtain ⟨ws, hw, lw⟩ := hP.len
    refine ⟨.ref a, rfl, a, ws, rfl, .inr hw, (ws.length : Nat), rfl, by omega, by omega, fun D hD => lc_range (lo := 0) (n := ((ws.length : Nat) : Int).toNat) (fun i H' => H' D = some (.lst ((leftN i bs).map natV)) ∧ Same H H') ⟨upd_same, same_upd hD⟩ (fun i H' hi hp => ?_) (fun H' hp => ?_)⟩
    · obtain ⟨eD, s'⟩ := hp
      rw [Int.toNat_natCast] at hi
      have e0 : (0 : Int) + (i : Int) = (i : Int) := Int.zero_add _
      rw [e0]
      refine ⟨rfl, natV i, rfl, .ref o, rfl, o, _, rfl, .inr (ts_same s' _ _ hO), rfl, flat_nats bs, _, rfl, ?_⟩
      rw [if_pos rfl, inV_nat]
      refine ite2 (fun c => ?_) (fun c => ?_)
      · have nb : i ∉ bs := by simpa using c
        have hll := leftN_len i bs
        refine ⟨natV i, rfl, _, eD, ?_, ?_, ?_⟩
        · rw [List.length_map]
          exact Nat.lt_of_le_of_lt (show (leftN i bs).length ≤ 1000 by omega) (by decide)
        · rw [leftN_succ, if_pos nb, List.map_append]
          exact upd_same
        · intro b u e
          rw [upd_ne (ne_of_none e hD)]
          exact s' b u e
      · have nb : i ∈ bs := by simpa using c
        rw [leftN_succ, if_neg (fun z => z nb)]
        exact ⟨eD, s'⟩
    · obtain ⟨eD, s'⟩ := hp
      rw [Int.toNat_natCast, lw] at eD
      exact q D H' s' hD eD
def sp_is_cut (K : PySem.W.Frag) : Sp := fun vs H Q _ => ∃ (a o : Addr) (ps : List Part) (bs : List Nat) (bits : Int), vs = [.ref a, .ref o, .int bits] ∧ Asked K H a o ps bs ∧ ps.length ≤ 1000 ∧ ∀ H', Same H H' → Q (.bl (cutF ps bs bits)) H'
theorem ok_is_cut {f : Addr} {fd : FuncData} (F : Fun K "is_cut" "is_cut" s_is_cut f fd) (C_end_of : Cal P w K mg base "end_of" pm_end_of 3 (sp_end_of K)) (C_left_of : Cal P w K mg base "left_of" pm_left_of 1 (sp_left_of K)) (m_sum : mg "sum" = none) : FnOk P w K mg base CX0 4 f fd pm_is_cut (sp_is_cut K) := by
  obtain ⟨f_end_of, fd_end_of, G_end_of, g_end_of, k_end_of, b_end_of⟩ := C_end_of.ex
  obtain ⟨f_left_of, fd_left_of, G_left_of, g_left_of, k_left_of, b_left_of⟩ := C_left_of.ex
  refine F.ok sc_is_cut (fun vs H Q E h => ?_) (fun cdv A outer s H vs Q E hr h => ?_)
  · obtain ⟨a, o, ps, bs, bits, rfl, _⟩ := h
    rfl
  · obtain ⟨a, o, ps, bs, bits, rfl, ⟨hP, hO, hok, hb⟩, hl, q⟩ := h
    have rm : ∀ {j : Nat}, j ≤ 3 → Room j (A.deeper (envOfC "is_cut" (defScope s_is_cut) s.heap.objs.size f cdv)) := fun hj => hr.mono hj
    refine ⟨_, pss_cons (ps_set (i := 3) sc_is_cut.nd rfl (.inl rfl) (pe_callB (cr_sum rfl) (by rfl) m_sum (by decide +kernel) (pa_cons (pe_lc (own := [("number", 4)]) (g := gName 4) (tt := tYes) rfl sc_is_cut.nd (pi_list (pe_call G_left_of (rm (by decide)) (by rfl) g_left_of k_left_of b_left_of .nil pass0 (pa_cons (pv 0) (pa_cons (pv 1) pa_nil)))) (blkOk_by (N := nm_is_cut) (sc := defScope s_is_cut) (by decide +kernel)) (fun _ _ _ _ _ => pg_name (i := 4) sc_is_cut.nd rfl (Or.inl rfl)) (fun _ _ _ _ _ => pts_nil) (fun _ _ _ _ _ => (pe_ix (show IxR _ (rIxT K) from ix_tup) (pe_ix (show IxR _ (rIxT K) from ix_tup) (pv 0) (pv 4) (fun _ _ => rfl)) pe_int (fun _ _ => rfl)))) pa_nil)))
      (pss_one (ps_ret (pe_cmpR op_ge (pe_op op_add (pe_call G_end_of (rm (by decide)) (by rfl) g_end_of k_end_of b_end_of .nil pass0 (pa_cons (pv 0) (pa_cons (pv 1) pa_nil))) (pv 3)) (pv 2) (nomark _)))), ?_⟩
    refine ⟨.ref a, rfl, .ref o, rfl, a, o, ps, bs, rfl, hP, hO, hl, fun l H1 s1 nl el => ?_⟩
    have hll := leftN_len ps.length bs
    have hS : SqL K H1 l ((leftN ps.length bs).map natV) := .inl (.inl el)
    refine ⟨l, rfl, ⟨_, hS⟩, fun D hD => lc_list (xs := (leftN ps.length bs).map natV) (fun i H' => H' D = some (.lst ((((leftN ps.length bs).take i).map fun k => (pt ps k).1).map V.int)) ∧ Same H1 H') ⟨upd_same, same_upd hD⟩ (fun i H' _ hp => .inl (.inl (hp.2 _ _ el))) (fun i x H' hx hp => ?_) (fun H' hp => ?_)⟩
    · obtain ⟨eD, s'⟩ := hp
      obtain ⟨n, en, rfl⟩ := natV_at hx
      have hn : n < ps.length := (mem_leftN.mp (List.mem_of_getElem? en)).1
      have hi := (List.getElem?_eq_some_iff.mp en).1
      obtain ⟨vs, t, h1, h2, h3⟩ := (hP.ts (ts_same (s1.trans s'))).at hn
      refine ⟨rfl, ?_⟩
      dsimp only [tYes]
      refine iteT ?_
      refine ⟨.ref a, rfl, natV n, rfl, a, vs, n, .ref t, rfl, rfl, h1, h2, t, _, 0, _, rfl, rfl, h3, atI_nat (j := 0) rfl, _, eD, ?_, ?_, ?_⟩
      · rw [List.length_map, List.length_map, List.length_take]
        exact Nat.lt_of_le_of_lt (show min i (leftN ps.length bs).length ≤ 1000 by omega) (by decide)
      · rw [List.take_add_one, en, upd_same, List.map_append, List.map_append]
        rfl
      · intro b u e
        rw [upd_ne (ne_of_none e hD)]
        exact s' b u e
    · obtain ⟨eD, s'⟩ := hp
      rw [List.length_map, List.take_length] at eD
      refine ⟨D, _, rfl, .inl (.inl eD), ?_⟩
      have s2 : Same H H' := s1.trans s'
      refine ⟨.ref a, rfl, .ref o, rfl, a, o, ps, bs, rfl, ⟨hP.ts (ts_same s2), ts_same s2 _ _ hO, hok, hb⟩, ?_⟩
      exact ⟨.int _, rfl, _, _, rfl, rfl, .int bits, rfl, _, _, rfl, rfl, q H' s2⟩
def BgP (K : PySem.W.Frag) (H : Hp) (v : V) (s : List Nat) : Prop := ∃ t, v = .ref t ∧ SqT K H t (s.map natV)
abbrev BgA (K : PySem.W.Frag) (H : Hp) : List V → List (List Nat) → Prop := Paired (BgP K H)
theorem BgA.ts {H H1 : Hp} {vs : List V} {ss : List (List Nat)} (h : BgA K H vs ss) (s : K1.TS K H H1) : BgA K H1 vs ss := Paired.mapP h fun _ _ ⟨t, e, z⟩ => ⟨t, e, s _ _ z⟩
def natsD (b : List Nat) : PyData := .tuple (b.map fun (n : Nat) => PyData.int (n : Int))
theorem nats_dp {H : Hp} : ∀ b : List Nat, DpAll K H (b.map natV) (b.map fun (n : Nat) => PyData.int (n : Int))
  | [] => .nil
  | x :: b => .cons (.int _) (nats_dp b)
def resD : Option (List Nat) → PyData
  | none => .none
  | some b => natsD b
def bitsD : PyData := .tuple [.str "bits", .tuple []]
def treeD : Option (List Nat) → PyData
  | none => .none
  | some b => .tuple [.str "tree", natsD b]
def faultD (ps : List Part) (os : List Nat) (bits : Int) (d : PyData) : PyData := if (laidF ps os).2 = bits then treeD (wrT ps bits d []) else bitsD
theorem nats_pl (b : List Nat) : pl (natsD b) = true := plA_of fun d h => by
  obtain ⟨x, _, rfl⟩ := List.mem_map.mp h
  rfl
/-- parts, a paper of them whose order is one -/
structure Paper (K : PySem.W.Frag) (H : Hp) (a p : Addr) (ps : List Part) (os : List Nat) (bits : Int) (d : PyData) : Prop where
  ex : ∃ (o : Addr) (tv : V), SqT K H p [.int bits, .ref o, tv] ∧ SqT K H o (os.map natV) ∧ Dp K H tv d
  pts : Pts K H a ps
  ok : ∀ q ∈ ps, PtOk q
  len : ps.length ≤ 8
  perm : os.Perm (List.range ps.length)
  pl : pl d = true
  sz : sz d ≤ 1000000
theorem Paper.ts {H H1 : Hp} {a p : Addr} {ps : List Part} {os : List Nat} {bits : Int} {d : PyData} (h : Paper K H a p ps os bits d) (s : K1.TS K H H1) : Paper K H1 a p ps os bits d := by
  obtain ⟨⟨o, tv, h1, h2, h3⟩, h4, h5, h6, h7, h8, h9⟩ := h
  exact ⟨⟨o, tv, s _ _ h1, s _ _ h2, s.dp _ _ h8 h3⟩, h4.ts s, h5, h6, h7, h8, h9⟩
end
end K3
namespace K3
open PySem PySem.Spec PyProof.Rows L2 K1
abbrev s__law_left : Stmt := topS 29
abbrev nm__law_left : List Str := ["_law_pieces", "_law_beginning", "_law_k"]
abbrev pm__law_left : List Str := ["_law_pieces", "_law_beginning"]
theorem sc__law_left : FnScope nm__law_left pm__law_left (defScope s__law_left) := ⟨rfl, rfl, rfl, by decide +kernel, rfl, by decide +kernel, by decide +kernel⟩
abbrev s__law_cut : Stmt := topS 30
abbrev nm__law_cut : List Str := ["_law_pieces", "_law_bits", "_law_beginning", "_law_more", "_law_k"]
abbrev pm__law_cut : List Str := ["_law_pieces", "_law_bits", "_law_beginning"]
theorem sc__law_cut : FnScope nm__law_cut pm__law_cut (defScope s__law_cut) := ⟨rfl, rfl, rfl, by decide +kernel, rfl, by decide +kernel, by decide +kernel⟩
section
variable {P : Program} {w : World} {K : PySem.W.Frag} {mg : Str → Option Value} {base : Heap}
theorem ok__law_left {f : Addr} {fd : FuncData} (F : Fun K "_law_left" "_law_left" s__law_left f fd) (m_range : mg "range" = none) (m_len : mg "len" = none) : FnOk P w K mg base CX0 1 f fd pm__law_left (sp_left_of K) := by
  refine F.ok sc__law_left (fun vs H Q E h => ?_) (fun cdv A outer s H vs Q E hr h => ?_)
  · obtain ⟨a, o, ps, bs, rfl, _⟩ := h
    rfl
  · obtain ⟨a, o, ps, bs, rfl, hP, hO, hl, q⟩ := h
    refine ⟨_, pss_one (ps_ret (pe_lc (own := [("_law_k", 2)]) (g := gName 2) rfl sc__law_left.nd (pi_range1 (by rfl) m_range (pa_cons (pe_callB call_len_seq (by rfl) m_len PySem.boot_len (pa_cons (pv 0) pa_nil)) pa_nil)) (blkOk_by (N := nm__law_left) (sc := defScope s__law_left) (by decide +kernel)) (fun _ _ _ _ _ => pg_name (i := 2) sc__law_left.nd rfl (Or.inl rfl)) (fun _ _ _ _ _ => (pts_one (pt_cmpR (show OpR _ (compareOp .NotIn) (rIn K true) from op_notIn_seq) (pv 2) (pv 1) (by rfl)))) (fun _ _ _ _ _ => (pv 2)))), ?_⟩
    obtain ⟨ws, hw, lw⟩ := hP.len
    refine ⟨.ref a, rfl, a, ws, rfl, .inr hw, (ws.length : Nat), rfl, by omega, by omega, fun D hD => lc_range (lo := 0) (n := ((ws.length : Nat) : Int).toNat) (fun i H' => H' D = some (.lst ((leftN i bs).map natV)) ∧ Same H H') ⟨upd_same, same_upd hD⟩ (fun i H' hi hp => ?_) (fun H' hp => ?_)⟩
    · obtain ⟨eD, s'⟩ := hp
      rw [Int.toNat_natCast] at hi
      have e0 : (0 : Int) + (i : Int) = (i : Int) := Int.zero_add _
      rw [e0]
      refine ⟨rfl, natV i, rfl, .ref o, rfl, o, _, rfl, .inr (ts_same s' _ _ hO), rfl, flat_nats bs, _, rfl, ?_⟩
      rw [if_pos rfl, inV_nat]
      refine ite2 (fun c => ?_) (fun c => ?_)
      · have nb : i ∉ bs := by simpa using c
        have hll := leftN_len i bs
        refine ⟨natV i, rfl, _, eD, ?_, ?_, ?_⟩
        · rw [List.length_map]
          exact Nat.lt_of_le_of_lt (show (leftN i bs).length ≤ 1000 by omega) (by decide)
        · rw [leftN_succ, if_pos nb, List.map_append]
          exact upd_same
        · intro b u e
          rw [upd_ne (ne_of_none e hD)]
          exact s' b u e
      · have nb : i ∈ bs := by simpa using c
        rw [leftN_succ, if_neg (fun z => z nb)]
        exact ⟨eD, s'⟩
    · obtain ⟨eD, s'⟩ := hp
      rw [Int.toNat_natCast, lw] at eD
      exact q D H' s' hD eD
def sp__law_cut (K : PySem.W.Frag) : Sp := fun vs H Q _ => ∃ (a o : Addr) (ps : List Part) (bs : List Nat) (bits : Int), vs = [.ref a, .int bits, .ref o] ∧ Asked K H a o ps bs ∧ ps.length ≤ 1000 ∧ ∀ H', Same H H' → Q (.bl (cutF ps bs bits)) H'
theorem ok__law_cut {f : Addr} {fd : FuncData} (F : Fun K "_law_cut" "_law_cut" s__law_cut f fd) (C__law_left : Cal P w K mg base "_law_left" pm__law_left 1 (sp_left_of K)) (C__law_laid : Cal P w K mg base "_law_laid" pm__law_laid 2 (sp__law_laid K)) (m_sum : mg "sum" = none) : FnOk P w K mg base CX0 3 f fd pm__law_cut (sp__law_cut K) := by
  obtain ⟨f__law_left, fd__law_left, G__law_left, g__law_left, k__law_left, b__law_left⟩ := C__law_left.ex
  obtain ⟨f__law_laid, fd__law_laid, G__law_laid, g__law_laid, k__law_laid, b__law_laid⟩ := C__law_laid.ex
  refine F.ok sc__law_cut (fun vs H Q E h => ?_) (fun cdv A outer s H vs Q E hr h => ?_)
  · obtain ⟨a, o, ps, bs, bits, rfl, _⟩ := h
    rfl
  · obtain ⟨a, o, ps, bs, bits, rfl, ⟨hP, hO, hok, hb⟩, hl, q⟩ := h
    have rm : ∀ {j : Nat}, j ≤ 2 → Room j (A.deeper (envOfC "_law_cut" (defScope s__law_cut) s.heap.objs.size f cdv)) := fun hj => hr.mono hj
    refine ⟨_, pss_cons (ps_set (i := 3) sc__law_cut.nd rfl (.inl rfl) (pe_callB (cr_sum rfl) (by rfl) m_sum (by decide +kernel) (pa_cons (pe_lc (own := [("_law_k", 4)]) (g := gName 4) (tt := tYes) rfl sc__law_cut.nd (pi_list (pe_call G__law_left (rm (by decide)) (by rfl) g__law_left k__law_left b__law_left .nil pass0 (pa_cons (pv 0) (pa_cons (pv 2) pa_nil)))) (blkOk_by (N := nm__law_cut) (sc := defScope s__law_cut) (by decide +kernel)) (fun _ _ _ _ _ => pg_name (i := 4) sc__law_cut.nd rfl (Or.inl rfl)) (fun _ _ _ _ _ => pts_nil) (fun _ _ _ _ _ => (pe_ix (show IxR _ (rIxT K) from ix_tup) (pe_ix (show IxR _ (rIxT K) from ix_tup) (pv 0) (pv 4) (fun _ _ => rfl)) pe_int (fun _ _ => rfl)))) pa_nil)))
      (pss_one (ps_ret (pe_cmpR op_ge (pe_op op_add (pe_ix ix_tup (pe_call G__law_laid (rm (by decide)) (by rfl) g__law_laid k__law_laid b__law_laid .nil pass0 (pa_cons (pv 0) (pa_cons (pv 2) pa_nil))) pe_int (fun _ _ => rfl)) (pv 3)) (pv 1) (nomark _)))), ?_⟩
    refine ⟨.ref a, rfl, .ref o, rfl, a, o, ps, bs, rfl, hP, hO, hl, fun l H1 s1 nl el => ?_⟩
    have hll := leftN_len ps.length bs
    have hS : SqL K H1 l ((leftN ps.length bs).map natV) := .inl (.inl el)
    refine ⟨l, rfl, ⟨_, hS⟩, fun D hD => lc_list (xs := (leftN ps.length bs).map natV) (fun i H' => H' D = some (.lst ((((leftN ps.length bs).take i).map fun k => (pt ps k).1).map V.int)) ∧ Same H1 H') ⟨upd_same, same_upd hD⟩ (fun i H' _ hp => .inl (.inl (hp.2 _ _ el))) (fun i x H' hx hp => ?_) (fun H' hp => ?_)⟩
    · obtain ⟨eD, s'⟩ := hp
      obtain ⟨n, en, rfl⟩ := natV_at hx
      have hn : n < ps.length := (mem_leftN.mp (List.mem_of_getElem? en)).1
      have hi := (List.getElem?_eq_some_iff.mp en).1
      obtain ⟨vs, t, h1, h2, h3⟩ := (hP.ts (ts_same (s1.trans s'))).at hn
      refine ⟨rfl, ?_⟩
      dsimp only [tYes]
      refine iteT ?_
      refine ⟨.ref a, rfl, natV n, rfl, a, vs, n, .ref t, rfl, rfl, h1, h2, t, _, 0, _, rfl, rfl, h3, atI_nat (j := 0) rfl, _, eD, ?_, ?_, ?_⟩
      · rw [List.length_map, List.length_map, List.length_take]
        exact Nat.lt_of_le_of_lt (show min i (leftN ps.length bs).length ≤ 1000 by omega) (by decide)
      · rw [List.take_add_one, en, upd_same, List.map_append, List.map_append]
        rfl
      · intro b u e
        rw [upd_ne (ne_of_none e hD)]
        exact s' b u e
    · obtain ⟨eD, s'⟩ := hp
      rw [List.length_map, List.take_length] at eD
      refine ⟨D, _, rfl, .inl (.inl eD), ?_⟩
      have s2 : Same H H' := s1.trans s'
      refine ⟨.ref a, rfl, .ref o, rfl, a, o, ps, bs, rfl, ⟨hP.ts (ts_same s2), ts_same s2 _ _ hO, hok, hb⟩, hl, fun r t H3 s3 hr3 _ => ?_⟩
      exact ⟨r, _, 1, _, rfl, rfl, hr3, atI_nat (j := 1) rfl, .int _, rfl, _, _, rfl, rfl, .int bits, rfl, _, _, rfl, rfl, q H3 (s2.trans s3)⟩
end
end K3
namespace K3
open PySem PySem.Spec PyProof.Rows L2 K1
abbrev s__law_tree : Stmt := topS 31
abbrev nm__law_tree : List Str := ["_law_drawn", "_law_pieces", "_law_bits", "_law_beginning", "_law_rate", "_law_left_here", "_law_k"]
abbrev pm__law_tree : List Str := ["_law_drawn", "_law_pieces", "_law_bits", "_law_beginning", "_law_rate"]
theorem sc__law_tree : FnScope nm__law_tree pm__law_tree (defScope s__law_tree) := ⟨rfl, rfl, rfl, by decide +kernel, rfl, by decide +kernel, by decide +kernel⟩
section
variable {P : Program} {w : World} {K : PySem.W.Frag} {mg : Str → Option Value} {base : Heap}
theorem wrA_none {ps : List Part} {bits : Int} {b : List Nat} : ∀ (ds : List PyData) (ks : List Nat), (∀ (j : Nat) (d : PyData) (k : Nat), ds[j]? = some d → ks[j]? = some k → wrT ps bits d (b ++ [k]) = none) → wrA ps bits ds ks b = none
  | [], _, _ => by rw [wrA]
  | d :: ds, [], _ => by rw [wrA]
  | d :: ds, k :: ks, h => by
    rw [wrA, h 0 d k rfl rfl]
    exact wrA_none ds ks fun j d' k' e1 e2 => h (j + 1) d' k' (by simpa using e1) (by simpa using e2)
theorem plA_append : ∀ (xs ys : List PyData), plA xs = true → plA ys = true → plA (xs ++ ys) = true
  | [], ys, _, h => h
  | x :: xs, ys, h1, h2 => by
    have h' : pl x = true ∧ plA xs = true := by simpa [plA] using h1
    show (pl x && plA (xs ++ ys)) = true
    rw [h'.1, plA_append xs ys h'.2 h2]
    rfl
mutual
/-- tuples through and through -/
def tt : PyData → Bool
  | .tuple ds => ttA ds
  | _ => false
def ttA : List PyData → Bool
  | [] => true
  | d :: ds => tt d && ttA ds
end
theorem ttA_mem : ∀ {ds : List PyData} {d : PyData}, ttA ds = true → d ∈ ds → tt d = true
  | d :: ds, e, h, m => by
    have h' : tt d = true ∧ ttA ds = true := by simpa [ttA] using h
    rcases List.mem_cons.mp m with rfl | m
    · exact h'.1
    · exact ttA_mem h'.2 m
theorem ttA_append : ∀ (xs ys : List PyData), ttA xs = true → ttA ys = true → ttA (xs ++ ys) = true
  | [], ys, _, h => h
  | x :: xs, ys, h1, h2 => by
    have h' : tt x = true ∧ ttA xs = true := by simpa [ttA] using h1
    show (tt x && ttA (xs ++ ys)) = true
    rw [h'.1, ttA_append xs ys h'.2 h2]
    rfl
/-- what a tree is promised to be -/
def TreeOk (ps : List Part) (bits : Int) (bs : List Nat) (r : Nat) (ts : List PyData) : Prop := plA ts = true ∧ sz (.tuple ts) ≤ cnt r ∧ ttA ts = true ∧ (.tuple ts : PyData).depth ≤ r + 1 ∧ (Least ps bits → wrT ps bits (.tuple ts) bs = none)
def sp__law_tree (K : PySem.W.Frag) (n : Nat) : Sp := fun vs H Q _ => ∃ (dk cl lf a o : Addr) (B : Nat) (ps : List Part) (bs : List Nat) (bits rate : Int), vs = [.ref dk, .ref a, .int bits, .ref o, .int rate] ∧ Dk H dk cl lf B ∧ B + cnt (leftN ps.length bs).length ≤ 2 ^ 39 ∧ Asked K H a o ps bs ∧ Beg ps.length bs ∧ ps.length ≤ 8 ∧
  (leftN ps.length bs).length < n ∧ 0 < rate ∧ rate ≤ 100 ∧ ∀ (v : V) (ts : List PyData) (H' : Hp), Dp K H' v (.tuple ts) → TreeOk ps bits bs (leftN ps.length bs).length ts → Dk H' dk cl lf (B + cnt (leftN ps.length bs).length) → KD dk lf H H' → Q v H'
theorem nv__law_tree {vs : List V} {H : Hp} {Q : VK} {E : XK} (h : sp__law_tree K 0 vs H Q E) : False := by
  obtain ⟨_, _, _, _, _, _, _, _, _, _, _, _, _, _, _, _, h, _⟩ := h
  omega
def tKids (K : PySem.W.Frag) (dk cl lf a o : Addr) (ps : List Part) (bs : List Nat) (bits rate : Int) (B : Nat) (H : Hp) (Q : VK) : L2.TS := fun D σ H' =>
  σ = [some (.ref dk), some (.ref a), some (.int bits), some (.ref o), some (.int rate), none, none] ∧ Dk H' dk cl lf B ∧ KD dk lf H H' ∧ leftN ps.length bs ≠ [] ∧ D.rt = Q
theorem rate_log {m : Int} (h0 : 0 < m) (h1 : m ≤ 1000) : m.natAbs.log2 < 9000 := by
  have h := nat_log (n := m.toNat - 1) (by omega)
  have e : ((m.toNat - 1 : Nat) : Int) + 1 = m := by omega
  rw [e] at h
  exact h
theorem ok__law_tree {f : Addr} {fd : FuncData} (F : Fun K "_law_tree" "_law_tree" s__law_tree f fd) (g_self : mg "_law_tree" = some (.ref f)) (b_self : Binds K fd pm__law_tree []) (C__law_left : Cal P w K mg base "_law_left" pm__law_left 1 (sp_left_of K)) (C__law_cut : Cal P w K mg base "_law_cut" pm__law_cut 3 (sp__law_cut K)) (C__law_next : Cal P w K mg base "_law_next" pm__law_next 1 sp__law_next) (m_tuple : mg "tuple" = none) (m_len : mg "len" = none) : ∀ n : Nat, FnOk P w K mg base CX0 (n + 3 + 1) f fd pm__law_tree (sp__law_tree K n) := by
  obtain ⟨f__law_left, fd__law_left, G__law_left, g__law_left, k__law_left, b__law_left⟩ := C__law_left.ex
  obtain ⟨f__law_cut, fd__law_cut, G__law_cut, g__law_cut, k__law_cut, b__law_cut⟩ := C__law_cut.ex
  obtain ⟨f__law_next, fd__law_next, G__law_next, g__law_next, k__law_next, b__law_next⟩ := C__law_next.ex
  intro n
  induction n with
  | zero => exact F.ok sc__law_tree (fun vs H Q E h => (nv__law_tree h).elim) (fun cdv A outer s H vs Q E hr h => (nv__law_tree h).elim)
  | succ n ih =>
  refine F.ok sc__law_tree (fun vs H Q E h => ?_) (fun cdv A outer s H vs Q E hr h => ?_)
  · obtain ⟨dk, cl, lf, a, o, B, ps, bs, bits, rate, rfl, _⟩ := h
    rfl
  · obtain ⟨dk, cl, lf, a, o, B, ps, bs, bits, rate, rfl, D0, hB, hA, hb, hl, hn, r0, r1, q⟩ := h
    have hll := leftN_len ps.length bs
    have hbl := beg_len hb
    refine ⟨_, pss_cons (ps_if (pt_cmpR op_eq (pe_callB call_len_seq (by rfl) m_len PySem.boot_len (pa_cons (pv 3) pa_nil)) (pe_callB call_len_seq (by rfl) m_len PySem.boot_len (pa_cons (pv 1) pa_nil)) (nomark _))
      (pss_one (ps_ret (pe_tup pa_nil))) pss_nil)
      (pss_cons (ps_if (PW.pt (pw_and (pt_val (pe_call G__law_cut (hr.mono (by omega)) (by rfl) g__law_cut k__law_cut b__law_cut .nil pass0 (pa_cons (pv 1) (pa_cons (pv 2) (pa_cons (pv 3) pa_nil))))) (pw_and1 (pt_cmpR op_eq (pe_call G__law_next (hr.mono (by omega)) (by rfl) g__law_next k__law_next b__law_next .nil pass0 (pa_cons (pv 0) (pa_cons (pv 4) pa_nil))) pe_int (nomark _)))))
      (pss_one (ps_ret (pe_tup pa_nil))) pss_nil)
      (pss_weak (t' := tKids K dk cl lf a o ps bs bits rate (B + 1) H Q) (pss_cons (ps_set (i := 5) sc__law_tree.nd rfl (.inl rfl) (pe_call G__law_left (hr.mono (by omega)) (by rfl) g__law_left k__law_left b__law_left .nil pass0 (pa_cons (pv 1) (pa_cons (pv 3) pa_nil))))
      (pss_one (ps_ret (pe_callTy call_tuple_of (by rfl) m_tuple (by decide +kernel) (pa_cons (pe_lc (own := [("_law_k", 6)]) (g := gName 6) (tt := tYes) rfl sc__law_tree.nd (pi_list (pv 5)) (blkOk_by (N := nm__law_tree) (sc := defScope s__law_tree) (by decide +kernel)) (fun _ _ _ _ _ => pg_name (i := 6) sc__law_tree.nd rfl (Or.inl rfl)) (fun _ _ _ _ _ => pts_nil) (fun _ _ _ _ _ => (pe_call ih (hr.mono (by omega)) (by rfl) g_self F.kp b_self .nil pass0 (pa_cons (pv 0) (pa_cons (pv 1) (pa_cons (pv 2) (pa_cons (pe_op (show OpR _ (binaryOp .Add) (rCatA K) from op_catA) (pv 3) (pe_tup (pa_cons (pv 6) pa_nil))) (pa_cons (pv 4) pa_nil)))))))) pa_nil))))) ?kids)), ?_⟩
    case kids =>
      rintro DD σ H1 ⟨rfl, D1, k1, hne, hrt⟩
      have t01 : K1.TS K H H1 := D0.ts k1
      have hpos : 0 < (leftN ps.length bs).length := by
        cases e : leftN ps.length bs with
        | nil => exact absurd e hne
        | cons _ _ => simp
      obtain ⟨r, hr'⟩ : ∃ r, (leftN ps.length bs).length = r + 1 := ⟨(leftN ps.length bs).length - 1, by omega⟩
      have hcnt : cnt (leftN ps.length bs).length = 1 + (r + 1) * cnt r := by rw [hr']; rfl
      refine ⟨.ref a, rfl, .ref o, rfl, a, o, ps, bs, rfl, hA.1.ts t01, t01 _ _ hA.2.1, by omega, fun L H2 s2 nL eL => ?_⟩
      have D2 := D1.same s2
      refine ⟨.ref L, rfl, L, rfl, ⟨_, .inl (.inl eL)⟩, fun D hD => lc_list (xs := (leftN ps.length bs).map natV) (fun i H3 => ∃ (ws : List V) (ds : List PyData), ws.length = i ∧ ds.length = i ∧ H3 D = some (.lst ws) ∧ DpAll K H3 ws ds ∧ plA ds = true ∧ ttA ds = true ∧ PyData.depthAll ds ≤ r + 1 ∧ szA ds ≤ i * cnt r ∧
          (Least ps bits → ∀ (j : Nat) (d : PyData) (k : Nat), ds[j]? = some d → (leftN ps.length bs)[j]? = some k → wrT ps bits d (bs ++ [k]) = none) ∧ Dk H3 dk cl lf (B + 1 + i * cnt r) ∧ KD dk lf H2 H3) ⟨[], [], rfl, rfl, upd_same, .nil, rfl, rfl, by simp [PyData.depthAll], Nat.zero_le _, fun _ j d k e => by simp at e, by rw [Nat.zero_mul]; exact D2.upd (D2.not hD), KD.of_same (same_upd hD)⟩ (fun i H3 _ hp => ?_) (fun i x H3 hx hp => ?_) (fun H3 hp => ?_)⟩
      · obtain ⟨_, _, _, _, _, _, _, _, _, _, _, _, k3⟩ := hp
        have nL2 := D1.not nL
        exact .inl (.inl (k3 _ _ nL2.1 nL2.2.2 eL))
      · obtain ⟨ws, ds, lw, ld, eD, hW, pds, tds, dds, sds, hwr, D3, k3⟩ := hp
        obtain ⟨k, ek, rfl⟩ := natV_at hx
        have hi := (List.getElem?_eq_some_iff.mp ek).1
        have mk : k ∈ leftN ps.length bs := List.mem_of_getElem? ek
        have hkl := kid_left hb mk hr'
        have nD := D2.not hD
        have t03 : K1.TS K H H3 := (t01.trans (ts_same s2)).trans (D2.ts k3)
        have him : i * cnt r + cnt r ≤ (r + 1) * cnt r := by
          have : (i + 1) * cnt r ≤ (r + 1) * cnt r := Nat.mul_le_mul_right _ (by omega)
          rw [Nat.succ_mul] at this
          exact this
        refine ⟨rfl, ?_⟩
        dsimp only [tYes]
        refine iteT ?_
        refine ⟨.ref dk, rfl, .ref a, rfl, .int bits, rfl, .ref o, rfl, natV k, rfl, (by show 1 ≤ sizeLine; decide), fun u nu => ?_⟩
        have s4 : Same H3 (upd H3 u (.tup [natV k])) := same_upd nu
        refine catA_any (xs := bs.map natV) (ys := [natV k]) (ts_same s4 _ _ (t03 _ _ hA.2.1)) (.inl (.inl upd_same)) ?_ fun rr H5 s5 hr5 => ?_
        · rw [List.length_map]
          exact Nat.le_trans (show bs.length + 1 ≤ 1000 by omega) (by decide)
        have s35 : Same H3 H5 := s4.trans s5
        have t05 : K1.TS K H H5 := t03.trans (ts_same s35)
        refine ⟨.int rate, rfl, dk, cl, lf, a, rr, B + 1 + i * cnt r, ps, bs ++ [k], bits, rate, rfl, D3.same s35, by rw [hkl]; omega, ⟨hA.1.ts t05, by rw [List.map_append]; exact hr5, hA.2.2.1, (beg_snoc hb mk).2⟩, beg_snoc hb mk, hl, by omega, r0, r1, fun v ts H6 hv ⟨p1, p2, pt4, pd5, p3⟩ D6 k6 => ?_⟩
        rw [hkl] at p2 D6 pd5
        have D5 := D3.same s35
        have eD6 := k6 D _ nD.1 nD.2.2 (s35 _ _ eD)
        have t6 : K1.TS K H6 (upd H6 D (.lst (ws ++ [v]))) := ts_lst eD6
        have t36 : K1.TS K H3 H6 := (ts_same s35).trans (D5.ts k6)
        have pts : pl (.tuple ts) = true := p1
        refine ⟨ws, eD6, ?_, ws ++ [v], ds ++ [.tuple ts], ?_, ?_, upd_same, ?_, ?_, ?_, ?_, ?_, ?_, ?_, ?_⟩
        · exact Nat.lt_of_le_of_lt (show ws.length ≤ 1000 by omega) (by decide)
        · rw [List.length_append, lw]; rfl
        · rw [List.length_append, ld]; rfl
        · exact dpAll_append (TS.dps (t36.trans t6) _ _ pds hW) (.cons (TS.dp t6 _ _ pts hv) .nil)
        · exact plA_append _ _ pds (by show (pl (.tuple ts) && true) = true; rw [pts]; rfl)
        · exact ttA_append _ _ tds (by show (tt (.tuple ts) && true) = true; rw [show tt (.tuple ts) = true from pt4]; rfl)
        · refine depthA_le fun d hd => ?_
          rcases List.mem_append.mp hd with m | m
          · exact Nat.le_trans (depth_mem m) dds
          · rw [List.mem_singleton.mp m]; exact pd5
        · rw [szA_append, Nat.succ_mul]
          have : szA [PyData.tuple ts] = sz (.tuple ts) := by simp [szA]
          omega
        · intro hL j d k' e1 e2
          by_cases c : j < ds.length
          · rw [List.getElem?_append_left c] at e1
            exact hwr hL j d k' e1 e2
          · rw [List.getElem?_append_right (by omega)] at e1
            have j0 : j - ds.length = 0 := by
              have := (List.getElem?_eq_some_iff.mp e1).1
              simp at this
              omega
            rw [j0] at e1
            have ed : PyData.tuple ts = d := by simpa using e1
            have ej : j = i := by omega
            rw [ej, ek] at e2
            cases e2
            rw [← ed]
            exact p3 hL
        · exact (D6.upd nD).mono (by rw [Nat.succ_mul]; omega)
        · intro b' o' n1 n2 e
          rw [upd_ne (ne_of_none e hD)]
          exact k6 b' o' n1 n2 (s35 _ _ (k3 b' o' n1 n2 e))
      · obtain ⟨ws, ds, lw, ld, eD, hW, pds, tds, dds, sds, hwr, D3, k3⟩ := hp
        rw [List.length_map] at lw ld sds D3
        refine ⟨D, ws, rfl, .inl ⟨.inl (.inl eD), fun t nt => ?_⟩⟩
        have t4 : K1.TS K H3 (upd H3 t (.tup ws)) := ts_new nt
        show DD.rt _ _
        rw [hrt]
        refine q _ ds _ (.tup (.inl (.inl upd_same)) (TS.dps t4 _ _ pds hW)) ⟨pds, ?_, tds, by rw [depth_tuple, hr']; omega, fun hL => ?_⟩ ((D3.upd (D3.not nt)).mono ?_) (((k1.trans (KD.of_same s2)).trans k3).trans (KD.of_same (same_upd nt)))
        · rw [hcnt]
          rw [hr'] at sds
          show szA ds + 1 ≤ _
          omega
        · rw [wrT_tuple, if_neg, if_pos ld]
          · exact wrA_none _ _ (hwr hL)
          · intro z
            rw [List.isEmpty_iff.mp z] at ld
            simp at ld
            omega
        · rw [hcnt, hr']
          omega
    obtain ⟨ws, hw, lw⟩ := hA.1.len
    have hcp := cnt_pos (leftN ps.length bs).length
    have emp : ∀ (H1 : Hp) (t : Addr), Dk H1 dk cl lf (B + 1) → KD dk lf H H1 → H1 t = none → (Least ps bits → cutF ps bs bits = true) → Q (.ref t) (upd H1 t (.tup [])) := fun H1 t D1 k1 nt hc => by
      refine q _ [] _ (.tup (.inl (.inl upd_same)) .nil) ⟨rfl, hcp, rfl, by rw [depth_tuple]; simp [PyData.depthAll], fun hL => ?_⟩ ((D1.upd (D1.not nt)).mono (by omega)) (k1.trans (KD.of_same (same_upd nt)))
      rw [wrT_tuple, if_pos (show ([] : List PyData).isEmpty = true from rfl), if_pos (hc hL)]
    refine ⟨.ref o, rfl, o, _, rfl, .inr hA.2.1, .ref a, rfl, a, ws, rfl, .inr hw, rfl, _, rfl, ite2 (fun c => ?_) (fun c => ?_)⟩
    · refine ⟨Nat.zero_le _, fun t nt => emp H t (D0.mono (by omega)) KD.refl nt fun hL => full_cut hb (List.length_eq_zero_iff.mp ?_) hL⟩
      have z := V.int.inj (of_decide_eq_true c)
      rw [List.length_map, lw] at z
      omega
    have hne : leftN ps.length bs ≠ [] := fun z => by
      rw [z] at hbl
      refine c (decide_eq_true (congrArg V.int ?_))
      rw [List.length_map, lw]
      simp at hbl
      omega
    refine ⟨.ref a, rfl, .int bits, rfl, .ref o, rfl, a, o, ps, bs, bits, rfl, hA, by omega, fun H1 s1 => ⟨_, rfl, ite2 (fun cc => ?_) (fun cc => ?_)⟩⟩
    · refine ⟨.ref dk, rfl, .int rate, rfl, dk, cl, lf, B, rate, rfl, D0.same s1, by omega, r0, rate_log r0 (by omega), fun d H2 d0 d1 D2 k2 => ⟨rfl, _, rfl, ite2 (fun c2 => ?_) (fun c2 => ?_)⟩⟩
      · exact ⟨Nat.zero_le _, fun t nt => emp H2 t D2 ((KD.of_same s1).trans k2) nt fun _ => cc⟩
      · exact ⟨rfl, D2, (KD.of_same s1).trans k2, hne, rfl⟩
    · exact ⟨rfl, (D0.same s1).mono (by omega), KD.of_same s1, hne, rfl⟩
end
end K3
/-! zip of a list and a tuple, walked by a for or a comprehension -/
namespace ZM
open PySem PySem.Spec PyProof.Rows L2 RZ
section
variable {prog : Program} {w : World} {A : Around} {E : Value → Shared → Prop} {s : Shared}
theorem draw_item {z TI TO i1 i2 l1 l2 : Addr} {k1 k2 : Nat} {xs ys : Array Value} {x y a b : Value} {Q : Value → Shared → Prop}
    (D : ZipApart z TI TO i1 i2 l1 l2) (zz : IsZip s.heap z TI TO .none) (ti : IsPair s.heap TI (.ref i1) (.ref i2)) (ot : IsPair s.heap TO a b)
    (u1 : s.heap.IsListIter i1 l1 k1) (u2 : s.heap.IsTupleIter i2 l2 k2) (t1 : s.heap.IsList l1 xs) (t2 : s.heap.IsTuple l2 ys) (gx : xs[k1]? = some x) (gy : ys[k2]? = some y)
    (q : ∀ g, IsZip g z TI TO (rawInt s.heap.objs.size) → IsPair g TO x y → g.IsListIter i1 l1 (k1 + 1) → g.IsTupleIter i2 l2 (k2 + 1) → IsPair g s.heap.objs.size x y → g.objs.size = s.heap.objs.size + 1 →
      (∀ c o, c ≠ z → c ≠ TO → c ≠ i1 → c ≠ i2 → s.heap.get? c = some o → g.get? c = some o) → Q (.ref s.heap.objs.size) { s with heap := g }) :
    wpAny (model prog w) A (Builtin.«zip.__next__» ⟨[.ref z], []⟩) (fun fin s' => ∃ v, fin = .done (.ret v) ∧ Q v s') E s := by
  show wpAny _ _ (field (.ref z) 2 >>= _) _ _ _; refine wpAny_bind (wpAny_field zz rfl (x := .bool false) rfl ?_)
  show wpAny _ _ (field (.ref z) 3 >>= _) _ _ _; refine wpAny_bind (wpAny_field zz rfl (x := .ref TI) rfl ?_)
  refine wpAny_bind (wpAny_seqItems ti rfl ?_)
  show wpAny _ _ (Builtin.SmallTypes.ownedTupleIsFree (.ref z) >>= _) _ _ _; refine wpAny_bind ?_
  unfold Builtin.SmallTypes.ownedTupleIsFree
  refine wpAny_bind (wpAny_field zz rfl (x := .none) rfl (wpAny_pure ?_))
  simp only [if_true]
  refine wpAny_bind (wpAny_rule (wpAny_bind (wpAny_field zz rfl (x := .ref TO) rfl (wpAny_bind (wpAny_setField_rec zz (by simp) fun g1 zz1 e1 => ?_)))))
  replace zz1 : IsZip g1 z TI TO .ellipsis := zz1
  refine wpAny_bind ?_
  simp only [List.zipIdx_cons, List.zipIdx_nil, List.forIn_cons, List.forIn_nil]
  refine wpAny_bind (wpAny_bind (wpAny_onRaise ?_)); show wpAny _ _ (Builtin.SmallTypes.nextOf (.ref i1) >>= _) _ _ _
  refine wpAny_bind (wpAny_nextOf_list_item (u1.extBut e1.extBut D.i1z) (t1.extBut e1.extBut D.l1z) gx fun g2 u12 e2 => wpAny_pure ?_)
  have ot2 : IsPair g2 TO a b := e2.extBut _ _ D.TOi1 (e1.extBut _ _ D.TOz ot)
  refine wpAny_bind (wpAny_seqItems ot2 rfl (wpAny_bind (wpAny_updateSeq_pair ot2 fun g3 ot3 e3 => ?_)))
  replace ot3 : IsPair g3 TO x b := ot3
  refine wpAny_bind (wpAny_letGo (wpAny_pure ?_))
  refine wpAny_bind (wpAny_bind (wpAny_onRaise ?_)); show wpAny _ _ (Builtin.SmallTypes.nextOf (.ref i2) >>= _) _ _ _
  refine wpAny_bind (nextOf_tuple_item (((u2.extBut e1.extBut D.i2z).extBut e2.extBut D.i12.symm).extBut e3.extBut D.TOi2.symm) (((t2.extBut e1.extBut D.l2z).extBut e2.extBut D.l2i1).extBut e3.extBut D.l2TO) gy fun g4 u24 e4 => wpAny_pure ?_)
  have ot4 : IsPair g4 TO x b := e4.extBut _ _ D.TOi2 ot3
  refine wpAny_bind (wpAny_seqItems ot4 rfl (wpAny_bind (wpAny_updateSeq_pair ot4 fun g5 ot5 e5 => ?_)))
  replace ot5 : IsPair g5 TO x y := ot5
  refine wpAny_bind (wpAny_letGo (wpAny_pure (wpAny_pure ?_)))
  refine wpAny_bind (wpAny_seqItems ot5 rfl (wpAny_bind (wpAny_newTuple ?_)))
  have es : g5.objs.size = s.heap.objs.size := by rw [e5.1, e4.1, e3.1, e2.1, e1.1]
  have zz5 : IsZip g5 z TI TO .ellipsis := e5.extBut _ _ D.TOz.symm (e4.extBut _ _ D.i2z.symm (e3.extBut _ _ D.TOz.symm (e2.extBut _ _ D.i1z.symm zz1)))
  have kk : ∀ c o, c ≠ z → c ≠ TO → c ≠ i1 → c ≠ i2 → s.heap.get? c = some o → g5.get? c = some o := fun c o c1 c2 c3 c4 e => e5.extBut _ _ c2 (e4.extBut _ _ c4 (e3.extBut _ _ c2 (e2.extBut _ _ c3 (e1.extBut _ _ c1 e))))
  have u15 : g5.IsListIter i1 l1 (k1 + 1) := ((u12.extBut e3.extBut D.TOi1.symm).extBut e4.extBut D.i12).extBut e5.extBut D.TOi1.symm
  have u25 : g5.IsTupleIter i2 l2 (k2 + 1) := u24.extBut e5.extBut D.TOi2.symm
  have zl : z < g5.objs.size := Heap.lt_size zz5
  show wpAny _ _ (Builtin.SmallTypes.ownedTupleHandOut (.ref z) (.ref g5.objs.size) >>= _) _ _ _; refine wpAny_bind ?_
  unfold Builtin.SmallTypes.ownedTupleHandOut
  have zz6 : IsZip (g5.push { cls := .type "tuple", data := .seq #[x, y] }) z TI TO .ellipsis := Heap.get?_push_of_some _ zz5
  refine wpAny_bind (wpAny_setField_rec zz6 (by simp) fun g7 zz7 e7 => ?_)
  replace zz7 : IsZip g7 z TI TO (rawInt g5.objs.size) := zz7
  refine wpAny_setField_rec zz7 (by simp) fun g8 zz8 e8 => ?_
  replace zz8 : IsZip g8 z TI TO (rawInt g5.objs.size) := zz8
  have up : ∀ c o, c ≠ z → g5.get? c = some o → g8.get? c = some o := fun c o c1 e => e8.extBut _ _ c1 (e7.extBut _ _ c1 (Heap.get?_push_of_some _ e))
  have pr : IsPair g8 g5.objs.size x y := e8.extBut _ _ (Nat.ne_of_gt zl) (e7.extBut _ _ (Nat.ne_of_gt zl) (Heap.get?_push_size _ rfl))
  have s8 : g8.objs.size = g5.objs.size + 1 := by rw [e8.1, e7.1, Heap.size_push]
  rw [es] at zz8 pr s8
  refine wpAny_pure ⟨_, rfl, ?_⟩
  show Q (.ref g5.objs.size) _
  rw [es]
  exact q g8 zz8 (up _ _ D.TOz ot5) (u15.at fun o e => up _ o D.i1z e) (u25.at fun o e => up _ o D.i2z e) pr s8 fun c o c1 c2 c3 c4 e => up c o c1 (kk c o c1 c2 c3 c4 e)
theorem draw_end {z TI TO i1 i2 l1 l2 : Addr} {k1 k2 : Nat} {xs ys : Array Value} {a b : Value} {Q : Fin → Shared → Prop} (hh : A.handled = none)
    (D : ZipApart z TI TO i1 i2 l1 l2) (zz : IsZip s.heap z TI TO .none) (ti : IsPair s.heap TI (.ref i1) (.ref i2)) (ot : IsPair s.heap TO a b)
    (u1 : s.heap.IsListIter i1 l1 k1) (u2 : s.heap.IsTupleIter i2 l2 k2) (t1 : s.heap.IsList l1 xs) (t2 : s.heap.IsTuple l2 ys) (he : xs[k1]? = none ∨ ys[k2]? = none)
    (q : ∀ g e, (∀ c o, c ≠ z → c ≠ TO → c ≠ i1 → c ≠ i2 → s.heap.get? c = some o → g.get? c = some o) → (∃ o, g.get? e = some o ∧ o.cls = .type "StopIteration") → E (.ref e) { s with heap := g }) :
    wpAny (model prog w) A (Builtin.«zip.__next__» ⟨[.ref z], []⟩) Q E s := by
  show wpAny _ _ (field (.ref z) 2 >>= _) _ _ _; refine wpAny_bind (wpAny_field zz rfl (x := .bool false) rfl ?_)
  show wpAny _ _ (field (.ref z) 3 >>= _) _ _ _; refine wpAny_bind (wpAny_field zz rfl (x := .ref TI) rfl ?_)
  refine wpAny_bind (wpAny_seqItems ti rfl ?_)
  show wpAny _ _ (Builtin.SmallTypes.ownedTupleIsFree (.ref z) >>= _) _ _ _; refine wpAny_bind ?_
  unfold Builtin.SmallTypes.ownedTupleIsFree
  refine wpAny_bind (wpAny_field zz rfl (x := .none) rfl (wpAny_pure ?_))
  simp only [if_true]
  refine wpAny_bind (wpAny_rule (wpAny_bind (wpAny_field zz rfl (x := .ref TO) rfl (wpAny_bind (wpAny_setField_rec zz (by simp) fun g1 zz1 e1 => ?_)))))
  replace zz1 : IsZip g1 z TI TO .ellipsis := zz1
  refine wpAny_bind ?_
  simp only [List.zipIdx_cons, List.zipIdx_nil, List.forIn_cons, List.forIn_nil]
  refine wpAny_bind (wpAny_bind (wpAny_onRaise ?_)); show wpAny _ _ (Builtin.SmallTypes.nextOf (.ref i1) >>= _) _ _ _
  cases gx : xs[k1]? with
  | none =>
    refine wpAny_bind (wpAny_nextOf_list_end hh (u1.extBut e1.extBut D.i1z) (t1.extBut e1.extBut D.l1z) gx fun g2 e e2 ⟨oe, ho, hc⟩ => ?_)
    have zz2 : IsZip g2 z TI TO .ellipsis := e2 _ _ D.i1z.symm zz1
    have nz : e ≠ z := fun x => by subst x; rw [zz2] at ho; cases ho; simp at hc
    exact wpAny_setField_rec zz2 (by simp) fun g3 _ e3 => q g3 e (fun c o c1 _ c3 _ x => e3.extBut _ _ c1 (e2 _ _ c3 (e1.extBut _ _ c1 x))) ⟨oe, e3.extBut _ _ nz ho, hc⟩
  | some x =>
    have gy : ys[k2]? = none := by
      rcases he with h | h
      · rw [gx] at h; cases h
      · exact h
    refine wpAny_bind (wpAny_nextOf_list_item (u1.extBut e1.extBut D.i1z) (t1.extBut e1.extBut D.l1z) gx fun g2 u12 e2 => wpAny_pure ?_)
    have ot2 : IsPair g2 TO a b := e2.extBut _ _ D.TOi1 (e1.extBut _ _ D.TOz ot)
    refine wpAny_bind (wpAny_seqItems ot2 rfl (wpAny_bind (wpAny_updateSeq_pair ot2 fun g3 ot3 e3 => ?_)))
    refine wpAny_bind (wpAny_letGo (wpAny_pure ?_))
    refine wpAny_bind (wpAny_bind (wpAny_onRaise ?_)); show wpAny _ _ (Builtin.SmallTypes.nextOf (.ref i2) >>= _) _ _ _
    refine wpAny_bind (nextOf_tuple_end hh (((u2.extBut e1.extBut D.i2z).extBut e2.extBut D.i12.symm).extBut e3.extBut D.TOi2.symm) (((t2.extBut e1.extBut D.l2z).extBut e2.extBut D.l2i1).extBut e3.extBut D.l2TO) gy fun g4 e e4 ⟨oe, ho, hc⟩ => ?_)
    have zz4 : IsZip g4 z TI TO .ellipsis := e4 _ _ D.i2z.symm (e3.extBut _ _ D.TOz.symm (e2.extBut _ _ D.i1z.symm zz1))
    have nz : e ≠ z := fun x => by subst x; rw [zz4] at ho; cases ho; simp at hc
    exact wpAny_setField_rec zz4 (by simp) fun g5 _ e5 => q g5 e (fun c o c1 c2 c3 c4 x => e5.extBut _ _ c1 (e4 _ _ c4 (e3.extBut _ _ c2 (e2.extBut _ _ c3 (e1.extBut _ _ c1 x))))) ⟨oe, e5.extBut _ _ nz ho, hc⟩
theorem next_item {z TI TO i1 i2 l1 l2 : Addr} {k1 k2 : Nat} {xs ys : Array Value} {x y a b : Value} {Q : Option Value → Shared → Prop}
    (D : ZipApart z TI TO i1 i2 l1 l2) (zz : IsZip s.heap z TI TO .none) (ti : IsPair s.heap TI (.ref i1) (.ref i2)) (ot : IsPair s.heap TO a b)
    (u1 : s.heap.IsListIter i1 l1 k1) (u2 : s.heap.IsTupleIter i2 l2 k2) (t1 : s.heap.IsList l1 xs) (t2 : s.heap.IsTuple l2 ys) (gx : xs[k1]? = some x) (gy : ys[k2]? = some y)
    (q : ∀ g, IsZip g z TI TO (rawInt s.heap.objs.size) → IsPair g TO x y → g.IsListIter i1 l1 (k1 + 1) → g.IsTupleIter i2 l2 (k2 + 1) → IsPair g s.heap.objs.size x y → g.objs.size = s.heap.objs.size + 1 →
      (∀ c o, c ≠ z → c ≠ TO → c ≠ i1 → c ≠ i2 → s.heap.get? c = some o → g.get? c = some o) → Q (some (.ref s.heap.objs.size)) { s with heap := g }) :
    wpAny (model prog w) A (pyNext (.ref z)) Q E s := by
  have hT : s.TypeIs (.ref z) "zip" := ⟨_, zz, rfl⟩
  unfold pyNext
  exact wpAny_bind (wpAny_attempt (wpAny_callSpecial?_slot (name := Str.ofString "__next__") hT F.slot_zip_next (wpAny_call_entry F.slot_zip_next hT F.entry_zip_next
    (draw_item D zz ti ot u1 u2 t1 t2 gx gy fun g a1 a2 a3 a4 a5 a6 a7 => wpAny_pure (q g a1 a2 a3 a4 a5 a6 a7)) (F.args_zip_next_1 _))))
theorem next_end {z TI TO i1 i2 l1 l2 : Addr} {k1 k2 : Nat} {xs ys : Array Value} {a b : Value} {Q : Option Value → Shared → Prop} (hh : A.handled = none)
    (D : ZipApart z TI TO i1 i2 l1 l2) (zz : IsZip s.heap z TI TO .none) (ti : IsPair s.heap TI (.ref i1) (.ref i2)) (ot : IsPair s.heap TO a b)
    (u1 : s.heap.IsListIter i1 l1 k1) (u2 : s.heap.IsTupleIter i2 l2 k2) (t1 : s.heap.IsList l1 xs) (t2 : s.heap.IsTuple l2 ys) (he : xs[k1]? = none ∨ ys[k2]? = none)
    (q : ∀ g, (∀ c o, c ≠ z → c ≠ TO → c ≠ i1 → c ≠ i2 → s.heap.get? c = some o → g.get? c = some o) → Q none { s with heap := g }) : wpAny (model prog w) A (pyNext (.ref z)) Q E s := by
  have hT : s.TypeIs (.ref z) "zip" := ⟨_, zz, rfl⟩
  unfold pyNext
  refine wpAny_bind (wpAny_attempt (wpAny_callSpecial?_slot (name := Str.ofString "__next__") hT F.slot_zip_next (wpAny_call_entry F.slot_zip_next hT F.entry_zip_next
    (draw_end hh D zz ti ot u1 u2 t1 t2 he fun g e k ⟨o, ho, hc⟩ => ?_) (F.args_zip_next_1 _))))
  refine wpAny_bind (wpAny_isInstance (T := "StopIteration") (b := true) ⟨o, ho, hc⟩ isSubtype_stop ?_)
  exact wpAny_pure (q _ k)
end
abbrev hp1 (h : Heap) (a : Addr) : Heap := h.push { cls := .type "list_iterator", data := .fields #[.ref a, .int 0 0] }
abbrev hp2 (h : Heap) (a b : Addr) : Heap := (hp1 h a).push { cls := .type "tuple_iterator", data := .fields #[.ref b, .int 0 0] }
abbrev hp3 (h : Heap) (a b : Addr) : Heap := (hp2 h a b).push { cls := .type "tuple", data := .seq #[.ref h.objs.size, .ref (hp1 h a).objs.size] }
abbrev hp4 (h : Heap) (a b : Addr) : Heap := (hp3 h a b).push { cls := .type "tuple", data := .seq #[.none, .none] }
abbrev hp5 (h : Heap) (a b : Addr) : Heap := (hp4 h a b).push { cls := .type "zip", data := .fields #[.none, .bool false, .bool false, .ref (hp2 h a b).objs.size, .ref (hp3 h a b).objs.size] }
theorem meets_new (a b : Addr) (xs ys : Array Value) :
    Meets (Builtin.«zip.__new__» ⟨[.type "zip", .ref a, .ref b], []⟩) (fun _ R s => s.heap.IsList a xs ∧ s.heap.IsTuple b ys ∧ R (.ok (.ret (.ref (hp4 s.heap a b).objs.size))) { s with heap := hp5 s.heap a b }) :=
  .of_wp fun prog w A R s h => by
    obtain ⟨hp, g, d, tk, os⟩ := s
    obtain ⟨ha, hb, h⟩ := h
    have hsub := sub_zip
    have hA : Heap.IsList (Shared.heap ⟨hp, g, d, tk, os⟩) a xs := ha
    have hB : Heap.IsTuple (Shared.heap ⟨hp.push { cls := .type "list_iterator", data := .fields #[.ref a, .int 0 0] }, g, d, tk, os⟩) b ys := Heap.IsTuple.push hb _
    wp_walk using wpAny_pyIter_list hA, wpAny_pyIter_tuple hB
    exact ⟨_, rfl, h⟩
section
variable {prog : Program} {w : World} {A : Around} {E : Value → Shared → Prop} {s : Shared}
theorem call_new {a b : Addr} {xs ys : Array Value} {Q : Value → Shared → Prop} (ha : s.heap.IsList a xs) (hb : s.heap.IsTuple b ys)
    (h : ∀ g, IsZip g (s.heap.objs.size + 4) (s.heap.objs.size + 2) (s.heap.objs.size + 3) .none → IsPair g (s.heap.objs.size + 2) (.ref s.heap.objs.size) (.ref (s.heap.objs.size + 1)) →
      IsPair g (s.heap.objs.size + 3) .none .none → g.IsListIter s.heap.objs.size a 0 → g.IsTupleIter (s.heap.objs.size + 1) b 0 → (∀ c o, s.heap.get? c = some o → g.get? c = some o) → Q (.ref (s.heap.objs.size + 4)) { s with heap := g }) :
    wpAny (model prog w) A (call (.type "zip") [.ref a, .ref b]) Q E s := by
  refine callType_new F.called_zip (by decide) (F.typeCall_zip_2 _ _) (F.newCall_zip_2 _ _) (fun obj => F.args_object_init_3 obj _ _) F.entry_zip_new (meets_new a b xs ys) ⟨ha, hb, ?_⟩
  have z1 : (hp1 s.heap a).objs.size = s.heap.objs.size + 1 := Heap.size_push ..
  have z2 : (hp2 s.heap a b).objs.size = s.heap.objs.size + 2 := by rw [Heap.size_push, z1]
  have z3 : (hp3 s.heap a b).objs.size = s.heap.objs.size + 3 := by rw [Heap.size_push, z2]
  have z4 : (hp4 s.heap a b).objs.size = s.heap.objs.size + 4 := by rw [Heap.size_push, z3]
  have g5 : (hp5 s.heap a b).get? (hp4 s.heap a b).objs.size = some _ := Heap.get?_push_size _ rfl
  have p4 : ∀ c o, (hp4 s.heap a b).get? c = some o → (hp5 s.heap a b).get? c = some o := fun c o e => Heap.get?_push_of_some _ e
  have p3 : ∀ c o, (hp3 s.heap a b).get? c = some o → (hp5 s.heap a b).get? c = some o := fun c o e => p4 _ _ (Heap.get?_push_of_some _ e)
  have p2 : ∀ c o, (hp2 s.heap a b).get? c = some o → (hp5 s.heap a b).get? c = some o := fun c o e => p3 _ _ (Heap.get?_push_of_some _ e)
  have p1 : ∀ c o, (hp1 s.heap a).get? c = some o → (hp5 s.heap a b).get? c = some o := fun c o e => p2 _ _ (Heap.get?_push_of_some _ e)
  have g4 : (hp5 s.heap a b).get? (hp3 s.heap a b).objs.size = some _ := p4 _ _ (Heap.get?_push_size _ rfl)
  have g3 : (hp5 s.heap a b).get? (hp2 s.heap a b).objs.size = some _ := p3 _ _ (Heap.get?_push_size _ rfl)
  have g2 : (hp5 s.heap a b).get? (hp1 s.heap a).objs.size = some _ := p2 _ _ (Heap.get?_push_size _ rfl)
  have g1 : (hp5 s.heap a b).get? s.heap.objs.size = some _ := p1 _ _ (Heap.get?_push_size _ rfl)
  show _ ∧ _
  rw [z2, z3, z4] at g5; rw [z1, z2] at g3; rw [z3] at g4; rw [z1] at g2; rw [z4]
  exact ⟨⟨_, g5, rfl⟩, h _ g5 g3 g4 ⟨_, g1, rfl, rfl⟩ ⟨_, g2, rfl, rfl⟩ fun c o x => p1 _ _ (Heap.get?_push_of_some _ x)⟩
end
/-- a list and a tuple as they stand at each turn, the items in new pairs -/
def ItM (K : PySem.W.Frag) (a b : Addr) : It :=
  ⟨fun i H => ∃ (xs ys : List V) (x y : V), SqL K H a xs ∧ SqT K H b ys ∧ xs[i]? = some x ∧ ys[i]? = some y,
    fun i H v H' => ∃ T x y, v = .ref T ∧ H T = none ∧ H' = upd H T (.tup [x, y]) ∧ (∀ xs, SqL K H a xs → xs[i]? = some x) ∧ ∀ ys, SqT K H b ys → ys[i]? = some y,
    fun i H => ∃ xs ys : List V, SqL K H a xs ∧ SqT K H b ys ∧ (xs.length ≤ i ∨ ys.length ≤ i)⟩
theorem five {z TI TO i1 i2 c : Addr} (h : c ∈ [z, TI, TO, i1, i2]) : c = z ∨ c = TI ∨ c = TO ∨ c = i1 ∨ c = i2 := by simpa using h
theorem turn_M {P : Program} {w : World} {K : PySem.W.Frag} {elts : List Expr} {kk : Nat} {tpos : Pos} {a b z TI TO i1 i2 : Addr} (D : ZipApart z TI TO i1 i2 a b) :
    Turn P w K (.Tuple elts kk tpos) (ItM K a b) [z, TI, TO, i1, i2] z (fun i h => IsZip h z TI TO .none ∧ IsPair h TI (.ref i1) (.ref i2) ∧ (∃ x y, IsPair h TO x y) ∧ h.IsListIter i1 a i ∧ h.IsTupleIter i2 b i) where
  mem := by simp
  obj := fun i h st c hc => by
    obtain ⟨hz, hTI, ⟨x, y, hTO⟩, ⟨o1, e1, _, d1⟩, ⟨o2, e2, _, d2⟩⟩ := st
    rcases five hc with q | q | q | q | q <;> rw [q]
    · exact ⟨_, hz, fun v q => nomatch q⟩
    · exact ⟨_, hTI, fun v q => nomatch q⟩
    · exact ⟨_, hTO, fun v q => nomatch q⟩
    · exact ⟨o1, e1, fun v q => by rw [d1] at q; cases q⟩
    · exact ⟨o2, e2, fun v q => by rw [d2] at q; cases q⟩
  keep := fun i h h' st k => by
    obtain ⟨hz, hTI, ⟨x, y, hTO⟩, h1, h2⟩ := st
    exact ⟨k z (by simp) _ hz, k TI (by simp) _ hTI, ⟨x, y, k TO (by simp) _ hTO⟩, h1.at fun o q => k i1 (by simp) o q, h2.at fun o q => k i2 (by simp) o q⟩
  item := by
    intro X hP hw hK hc i pins s σ H E I hf st hg
    subst hP hw hK
    obtain ⟨hz, hTI, ⟨x0, y0, hTO⟩, h1, h2⟩ := st
    obtain ⟨xs, ys, x, y, hqx, hqy, hx, hy⟩ := hg
    obtain ⟨its, rv, p, _⟩ := I.list hqx
    obtain ⟨its2, rv2, p2, _⟩ := I.tuple hqy
    obtain ⟨u, hu, ru⟩ := rv.get hx
    obtain ⟨u2, hu2, ru2⟩ := rv2.get hy
    have hzl : z < s.heap.objs.size := Heap.lt_size hz
    refine next_item D hz hTI hTO h1 h2 p.isList p2 (x := u) (y := u2) (by simpa using hu) (by simpa using hu2) fun g z' TO' h1' h2' hT hsz hk => ?_
    refine ⟨_, rfl, wpAny_letOwnedTupleGo_zip (s := { s with heap := g }) z' fun g2 z'' sb => ?_⟩
    have hT2 : g2.get? s.heap.objs.size = some { cls := .type "tuple", data := .seq #[u, u2] } := (sb.2 _ (Nat.ne_of_gt hzl)).trans hT
    have new : ObjOk X.prog X.w (upd H s.heap.objs.size (.tup [x, y])) g2 s.heap.objs.size (.tup [x, y]) :=
      ⟨by show 2 ≤ sizeLine; decide, [u, u2], .cons ru (.cons ru2 .nil), ⟨_, hT2, rfl, _, rfl⟩⟩
    have I1 : Inv X pins σ (upd H s.heap.objs.size (.tup [x, y])) { s with heap := g2 } :=
      I.turnedNew (t' := s.toks) (ch := [z, TI, TO, i1, i2]) (fun c o nb e => (sb.2 c (fun q' => nb (by simp [q']))).trans (hk c o (fun q' => nb (by simp [q'])) (fun q' => nb (by simp [q'])) (fun q' => nb (by simp [q'])) (fun q' => nb (by simp [q'])) e)) hf (Nat.le_refl _) new
    refine ⟨.ref s.heap.objs.size, _, I1, rfl, ⟨_, x, y, rfl, I.hok.fresh (Nat.le_refl _), rfl, fun l hl => by rw [I.list_inj hl hqx]; exact hx, fun l hl => by rw [I.tuple_inj hl hqy]; exact hy⟩, ⟨z'', ?_, ⟨u, u2, ?_⟩, ?_, ?_⟩, fun c hcm => ?_⟩
    · exact (sb.2 _ D.TIz).trans (hk _ _ D.TIz D.TITO D.TIi1 D.TIi2 hTI)
    · exact (sb.2 _ D.TOz).trans TO'
    · exact h1'.at fun o e => (sb.2 _ D.i1z).trans e
    · exact h2'.at fun o e => (sb.2 _ D.i2z).trans e
    · have hlt : c < s.heap.objs.size := by
        rcases five hcm with q | q | q | q | q <;> rw [q]
        · exact hzl
        · exact Heap.lt_size hTI
        · exact Heap.lt_size hTO
        · obtain ⟨_, e1, _⟩ := h1; exact Heap.lt_size e1
        · obtain ⟨_, e2, _⟩ := h2; exact Heap.lt_size e2
      rw [upd_ne (Nat.ne_of_lt hlt)]
      exact (hf c hcm).1
  done := by
    intro X hP hw hK hc i pins s σ H E I hf st hg
    subst hP hw hK
    obtain ⟨hz, hTI, ⟨x0, y0, hTO⟩, h1, h2⟩ := st
    obtain ⟨xs, ys, hqx, hqy, hend⟩ := hg
    obtain ⟨its, rv, p, _⟩ := I.list hqx
    obtain ⟨its2, rv2, p2, _⟩ := I.tuple hqy
    have l1 := rv.length
    have l2 := rv2.length
    have he : its.toArray[i]? = none ∨ its2.toArray[i]? = none := by
      rcases hend with q | q
      · exact .inl (by simp; omega)
      · exact .inr (by simp; omega)
    exact next_end (I.ok.hd hc) D hz hTI hTO h1 h2 p.isList p2 he fun g hk => ⟨rfl, I.turnedL (t' := s.toks) (ch := [z, TI, TO, i1, i2]) (fun c o nb e =>
      hk c o (fun q' => nb (by simp [q'])) (fun q' => nb (by simp [q'])) (fun q' => nb (by simp [q'])) (fun q' => nb (by simp [q'])) e) hf⟩
  self := fun A i s Q E st h => wpAny_pyIter_zip st.1 h
def iZipM (K : PySem.W.Frag) (ta : TA) : TI := fun σ H R => ta σ H fun vs H1 => ∃ a b xs ys, vs = [.ref a, .ref b] ∧ SqL K H1 a xs ∧ SqT K H1 b ys ∧ R (ItM K a b) H1
theorem pi_zipM {X : Cx} {e e2 : Expr} {ta : TA} {p pos tpos : Pos} {elts : List Expr} {kk : Nat} (hg : Gl X "zip") (hm : X.mg "zip" = none) (ha : PA X [e, e2] ta)
    (hs : starEach [e, e2] X.env = (false, eval e X.env) :: starEach [e2] X.env := by rfl) (hpl : (backTo pos (starEach [e2] X.env)).any (·.1) = false := by rfl) :
    PI X (.Tuple elts kk tpos) (.Call (.Name "zip" p) [e, e2] [] pos) (iZipM X.K ta) := by
  refine ⟨fun pins s σ H R I h => ?_⟩
  refine Call_ (ld_blt I hg hm PyProof.Rows.boot_zip (PyProof.Rows.callWith_type1 (thn (ha.run pos pins s σ H _ I h) fun us s1 ⟨vs, H1, I1, r1, q1⟩ => ?_) hs hpl))
  obtain ⟨a, b, xs, ys, rfl, hqx, hqy, q⟩ := q1
  cases r1 with
  | cons r rr =>
    cases rr with
    | cons r' rr =>
      cases rr
      cases r
      cases r'
      have fresh5 : ∀ c, c ∈ [s1.heap.objs.size + 4, s1.heap.objs.size + 2, s1.heap.objs.size + 3, s1.heap.objs.size, s1.heap.objs.size + 1] → FpOk X pins H1 c := fun c hcm => by
        have hle : s1.heap.objs.size ≤ c := by
          rcases five hcm with e | e | e | e | e <;> rw [e]
          · exact Nat.le_add_right _ _
          · exact Nat.le_add_right _ _
          · exact Nat.le_add_right _ _
          · exact Nat.le_refl _
          · exact Nat.le_add_right _ _
        exact I1.fpOk hle (I1.hok.fresh hle)
      obtain ⟨its, rv, p1, _⟩ := I1.list hqx
      obtain ⟨its2, rv2, p2, _⟩ := I1.tuple hqy
      obtain ⟨o2, ho2, _⟩ := id p2
      refine call_new p1.isList (show s1.heap.IsTuple b its2.toArray from p2) fun g hz hTI hTO h1 h2 hk => wpAny_pyIter_zip hz ?_
      have I2 : Inv X pins σ H1 { s1 with heap := g } := I1.kept (t' := s1.toks) hk
      exact ⟨s1.heap.objs.size + 4, [s1.heap.objs.size + 4, s1.heap.objs.size + 2, s1.heap.objs.size + 3, s1.heap.objs.size, s1.heap.objs.size + 1], _, _, H1, rfl, I2, turn_M (PySem.W.ktu_apart s1.heap.objs.size a b p1.lt (Heap.lt_size ho2)), ⟨hz, hTI, ⟨_, _, hTO⟩, h1, h2⟩, fresh5, q⟩
/-- a loop over it, as long as the shorter of both -/
theorem for_zipM {K : PySem.W.Frag} {a b : Addr} {xs ys : List V} {g : TG} {tb : TS} {D : Ends} {σ : L2.St} {H : Hp} (Pv : Nat → L2.St → Hp → Prop) (h0 : Pv 0 σ H) (hq : ∀ i σ H, Pv i σ H → SqL K H a xs ∧ SqT K H b ys)
    (hs : ∀ (i : Nat) (x y : V) (T : Addr) (σ : L2.St) (H : Hp), xs[i]? = some x → ys[i]? = some y → Pv i σ H → H T = none → g (.ref T) σ (upd H T (.tup [x, y])) fun σ2 H2 => tb { D with nx := Pv (i + 1), ct := Pv (i + 1), bk := D.nx } σ2 H2)
    (hd : ∀ σ H, Pv (min xs.length ys.length) σ H → D.nx σ H) :
    ∃ W : Nat → Nat → L2.St → Hp → Prop, (∃ m, W 0 m σ H) ∧ ∀ i m σ H, W i m σ H →
      ((ItM K a b).stop i H ∧ D.nx σ H) ∨ ((ItM K a b).go i H ∧ ∃ N : L2.St → Hp → Prop, (∀ σ' H', N σ' H' → ∃ m', m' < m ∧ W (i + 1) m' σ' H') ∧ ∀ v H', (ItM K a b).yld i H v H' → g v σ H' fun σ2 H2 => tb { D with nx := N, ct := N, bk := D.nx } σ2 H2) := by
  refine ⟨fun i m σ H => m = min xs.length ys.length - i ∧ i ≤ min xs.length ys.length ∧ Pv i σ H, ⟨min xs.length ys.length, rfl, Nat.zero_le _, h0⟩, ?_⟩
  rintro i m σ H ⟨rfl, hi, p⟩
  obtain ⟨qx, qy⟩ := hq i σ H p
  by_cases hlt : i < min xs.length ys.length
  · have hx : xs[i]? = some xs[i] := List.getElem?_eq_getElem (by omega)
    have hy : ys[i]? = some ys[i] := List.getElem?_eq_getElem (by omega)
    refine .inr ⟨⟨xs, ys, _, _, qx, qy, hx, hy⟩, Pv (i + 1), fun σ' H' p' => ⟨min xs.length ys.length - (i + 1), by omega, rfl, by omega, p'⟩, fun v H' y => ?_⟩
    obtain ⟨T, x', y', rfl, hT, rfl, f1, f2⟩ := y
    exact hs i x' y' T σ H (f1 xs qx) (f2 ys qy) p hT
  · have e : i = min xs.length ys.length := by omega
    subst e
    exact .inl ⟨⟨xs, ys, qx, qy, by omega⟩, hd σ H p⟩
theorem lc_zipM {K : PySem.W.Frag} {a b : Addr} {xs ys : List V} {g : TG} {tt : TT} {te : TE} {vs : List Nat} {σ : L2.St} {H1 : Hp} {D : Addr} {Qd : Hp → Prop} (Pv : Nat → Hp → Prop) (h0 : Pv 0 (upd H1 D (.lst [])))
    (hq : ∀ i H, Pv i H → SqL K H a xs ∧ SqT K H b ys)
    (hs : ∀ (i : Nat) (x y : V) (T : Addr) (H : Hp), xs[i]? = some x → ys[i]? = some y → Pv i H → H T = none → g (.ref T) (wipe σ vs) (upd H T (.tup [x, y])) fun σ2 H2 => wipe σ2 vs = wipe σ vs ∧ tt σ2 H2 fun b H3 =>
      if b = true then te σ2 H3 fun y H4 => ∃ acc, H4 D = some (.lst acc) ∧ acc.length < sizeLine ∧ Pv (i + 1) (upd H4 D (.lst (acc ++ [y]))) else Pv (i + 1) H3) (hd : ∀ H, Pv (min xs.length ys.length) H → Qd H) :
    ∃ W : Nat → Nat → Hp → Prop, (∃ m, W 0 m (upd H1 D (.lst []))) ∧ ∀ i m H, W i m H →
      ((ItM K a b).stop i H ∧ Qd H) ∨ ((ItM K a b).go i H ∧ ∃ Nx : Hp → Prop, (∀ H', Nx H' → ∃ m', m' < m ∧ W (i + 1) m' H') ∧ ∀ x H', (ItM K a b).yld i H x H' → g x (wipe σ vs) H' fun σ2 H2 => wipe σ2 vs = wipe σ vs ∧ tt σ2 H2 fun b H3 =>
        if b = true then te σ2 H3 fun y H4 => ∃ acc, H4 D = some (.lst acc) ∧ acc.length < sizeLine ∧ Nx (upd H4 D (.lst (acc ++ [y]))) else Nx H3) := by
  refine ⟨fun i m H => m = min xs.length ys.length - i ∧ i ≤ min xs.length ys.length ∧ Pv i H, ⟨min xs.length ys.length, by simp, Nat.zero_le _, h0⟩, ?_⟩
  rintro i m H ⟨rfl, hi, p⟩
  obtain ⟨qx, qy⟩ := hq i H p
  by_cases hlt : i < min xs.length ys.length
  · have hx : xs[i]? = some xs[i] := List.getElem?_eq_getElem (by omega)
    have hy : ys[i]? = some ys[i] := List.getElem?_eq_getElem (by omega)
    refine .inr ⟨⟨xs, ys, _, _, qx, qy, hx, hy⟩, Pv (i + 1), fun H' p' => ⟨min xs.length ys.length - (i + 1), by omega, rfl, by omega, p'⟩, fun v H' y => ?_⟩
    obtain ⟨T, x', y', rfl, hT, rfl, f1, f2⟩ := y
    exact hs i x' y' T H (f1 xs qx) (f2 ys qy) p hT
  · have e : i = min xs.length ys.length := by omega
    subst e
    exact .inl ⟨⟨xs, ys, qx, qy, by omega⟩, hd H p⟩
theorem lc_zipL {K : PySem.W.Frag} {a b : Addr} {xs ys : List V} {g : TG} {tt : TT} {te : TE} {vs : List Nat} {σ : L2.St} {H1 : Hp} {D : Addr} {Qd : Hp → Prop} (Pv : Nat → Hp → Prop) (h0 : Pv 0 (upd H1 D (.lst [])))
    (hq : ∀ i H, Pv i H → SqL K H a xs ∧ SqL K H b ys)
    (hs : ∀ (i : Nat) (x y : V) (T : Addr) (H : Hp), xs[i]? = some x → ys[i]? = some y → Pv i H → H T = none → g (.ref T) (wipe σ vs) (upd H T (.tup [x, y])) fun σ2 H2 => wipe σ2 vs = wipe σ vs ∧ tt σ2 H2 fun b H3 =>
      if b = true then te σ2 H3 fun y H4 => ∃ acc, H4 D = some (.lst acc) ∧ acc.length < sizeLine ∧ Pv (i + 1) (upd H4 D (.lst (acc ++ [y]))) else Pv (i + 1) H3) (hd : ∀ H, Pv (min xs.length ys.length) H → Qd H) :
    ∃ W : Nat → Nat → Hp → Prop, (∃ m, W 0 m (upd H1 D (.lst []))) ∧ ∀ i m H, W i m H →
      ((Itz K a b).stop i H ∧ Qd H) ∨ ((Itz K a b).go i H ∧ ∃ Nx : Hp → Prop, (∀ H', Nx H' → ∃ m', m' < m ∧ W (i + 1) m' H') ∧ ∀ x H', (Itz K a b).yld i H x H' → g x (wipe σ vs) H' fun σ2 H2 => wipe σ2 vs = wipe σ vs ∧ tt σ2 H2 fun b H3 =>
        if b = true then te σ2 H3 fun y H4 => ∃ acc, H4 D = some (.lst acc) ∧ acc.length < sizeLine ∧ Nx (upd H4 D (.lst (acc ++ [y]))) else Nx H3) := by
  refine ⟨fun i m H => m = min xs.length ys.length - i ∧ i ≤ min xs.length ys.length ∧ Pv i H, ⟨min xs.length ys.length, by simp, Nat.zero_le _, h0⟩, ?_⟩
  rintro i m H ⟨rfl, hi, p⟩
  obtain ⟨qx, qy⟩ := hq i H p
  by_cases hlt : i < min xs.length ys.length
  · have hx : xs[i]? = some xs[i] := List.getElem?_eq_getElem (by omega)
    have hy : ys[i]? = some ys[i] := List.getElem?_eq_getElem (by omega)
    refine .inr ⟨⟨xs, ys, _, _, qx, qy, hx, hy⟩, Pv (i + 1), fun H' p' => ⟨min xs.length ys.length - (i + 1), by omega, rfl, by omega, p'⟩, fun v H' y => ?_⟩
    obtain ⟨T, x', y', rfl, hT, rfl, f1, f2⟩ := y
    exact hs i x' y' T H (f1 xs qx) (f2 ys qy) p hT
  · have e : i = min xs.length ys.length := by omega
    subst e
    exact .inl ⟨⟨xs, ys, qx, qy, by omega⟩, hd H p⟩
end ZM
namespace K3
open PySem PySem.Spec PyProof.Rows L2 K1
abbrev s__law_whole : Stmt := topS 22
abbrev nm__law_whole : List Str := ["_law_found"]
abbrev pm__law_whole : List Str := ["_law_found"]
theorem sc__law_whole : FnScope nm__law_whole pm__law_whole (defScope s__law_whole) := ⟨rfl, rfl, rfl, by decide +kernel, rfl, by decide +kernel, by decide +kernel⟩
abbrev s__law_just : Stmt := topS 23
abbrev nm__law_just : List Str := ["_law_thing", "_law_due", "_law_one", "_law_other"]
abbrev pm__law_just : List Str := ["_law_thing", "_law_due"]
theorem sc__law_just : FnScope nm__law_just pm__law_just (defScope s__law_just) := ⟨rfl, rfl, rfl, by decide +kernel, rfl, by decide +kernel, by decide +kernel⟩
section
variable {P : Program} {w : World} {K : PySem.W.Frag} {mg : Str → Option Value} {base : Heap}
def isW (d : PyData) : Bool := isI d && !isB d
def sp__law_whole (K : PySem.W.Frag) : Sp := fun vs H Q _ => ∃ (v : V) (d : PyData), vs = [v] ∧ Dp K H v d ∧ pl d = true ∧ Q (.bl (isW d)) H
theorem ok__law_whole {f : Addr} {fd : FuncData} (F : Fun K "_law_whole" "_law_whole" s__law_whole f fd) (m_isinstance : mg "isinstance" = none) (m_int : mg "int" = none) (m_bool : mg "bool" = none) : FnOk P w K mg base CX0 1 f fd pm__law_whole (sp__law_whole K) := by
  refine F.ok sc__law_whole (fun vs H Q E h => ?_) (fun cdv A outer s H vs Q E hr h => ?_)
  · obtain ⟨v, d, rfl, _⟩ := h
    rfl
  · obtain ⟨v, d, rfl, hv, pd, q⟩ := h
    refine ⟨_, pss_one (ps_ret (pe_and (pe_callB call_isi (by rfl) m_isinstance (by decide +kernel) (pa_cons (pv 0) (pa_cons (pe_bltn (v := .ty "int") (by rfl) m_int (show bootBuiltins "int" = some (.type "int") by decide +kernel) rfl) pa_nil))) (pe_one (pe_not (pe_callB call_isi (by rfl) m_isinstance (by decide +kernel) (pa_cons (pv 0) (pa_cons (pe_bltn (v := .ty "bool") (by rfl) m_bool (show bootBuiltins "bool" = some (.type "bool") by decide +kernel) rfl) pa_nil))))))), ?_⟩
    refine ⟨v, rfl, v, _, _, _, isI d, rfl, .ty "int", dp_ty hv pd, kit_ty (kI d), isI d, rfl, ite2 (fun c => ?_) (fun c => ?_)⟩
    · refine ⟨v, rfl, v, _, _, _, isB d, rfl, .ty "bool", dp_ty hv pd, kit_ty (kB d), isB d, rfl, ?_⟩
      have e : isW d = !isB d := by unfold isW; rw [c]; rfl
      rw [← e]
      exact q
    · have e : isW d = false := by unfold isW; rw [Bool.eq_false_iff.mpr c]; rfl
      rw [e] at q
      exact q
def sp__law_just (K : PySem.W.Frag) (n : Nat) : Sp := fun vs H Q _ => ∃ (v u : V) (d e : PyData), vs = [v, u] ∧ Dp K H v d ∧ Dp K H u e ∧ pl d = true ∧ pl e = true ∧ e.depth < n ∧ sz e ≤ 1000000 ∧ ∀ H' : Hp, Same H H' → Q (.bl (eqB d e)) H'
theorem nv__law_just {vs : List V} {H : Hp} {Q : VK} {E : XK} (h : sp__law_just K 0 vs H Q E) : False := by
  obtain ⟨_, _, _, _, _, _, _, _, _, h, _⟩ := h
  omega
theorem ones_data {H : Hp} : ∀ {ws : List V}, (∀ w ∈ ws, w = V.int 1) → DpAll K H ws (ws.map fun _ => PyData.int 1) ∧ PyData.canLayAll0 (ws.map fun _ => PyData.int 1) = true
  | [], _ => ⟨.nil, rfl⟩
  | v :: ws, h => by
    obtain ⟨a, b⟩ := ones_data (H := H) (ws := ws) fun w hw => h w (List.mem_cons_of_mem _ hw)
    have e := h v List.mem_cons_self
    subst e
    exact ⟨.cons (.int 1) a, b⟩
theorem flat_str {d e : PyData} (p1 : pl d = true) (hs : isS e = true) (hd : isS d = true) : (PyData.eqv d e = true ↔ d = e) := by
  cases d <;> cases e <;> simp_all [isS, PyData.eqv, pl]
theorem flat_bool {d e : PyData} (hs : isB e = true) (hd : isB d = true) : (PyData.eqv d e = true ↔ d = e) := by
  cases d <;> cases e <;> simp_all [isB, PyData.eqv, pl]
theorem flat_int {d e : PyData} (hs : isW e = true) (hd : isW d = true) : (PyData.eqv d e = true ↔ d = e) := by
  cases d <;> cases e <;> simp_all [isW, isI, isB, PyData.eqv, pl]
theorem eqv_eqB {d e : PyData} (h : PyData.eqv d e = true ↔ d = e) : PyData.eqv d e = eqB d e := by
  by_cases c : d = e
  · rw [h.mpr c, eqB_true c]
  · rw [eqB_false c]
    exact Bool.eq_false_iff.mpr fun z => c (h.mp z)
theorem min_leaf {d e : PyData} (h : e.depth ≤ 64) : min d.depth e.depth ≤ 64 := Nat.le_trans (Nat.min_le_right _ _) h
theorem leaf_depth {e : PyData} (p : pl e = true) (h : isT e = false) : e.depth ≤ 64 := by
  cases e <;> simp_all [isT, PyData.depth, pl]
theorem take_eq_iff {α : Type} {xs ys : List α} {i : Nat} {x y : α} (hx : xs[i]? = some x) (hy : ys[i]? = some y) : xs.take (i + 1) = ys.take (i + 1) ↔ xs.take i = ys.take i ∧ x = y := by
  rw [List.take_add_one, List.take_add_one, hx, hy]
  have hi : i < xs.length := (List.getElem?_eq_some_iff.mp hx).1
  have hi' : i < ys.length := (List.getElem?_eq_some_iff.mp hy).1
  constructor
  · intro h
    have := List.append_inj h (by rw [List.length_take, List.length_take]; omega)
    exact ⟨this.1, by simpa using this.2⟩
  · rintro ⟨h1, h2⟩
    rw [h1, h2]
theorem ok__law_just {f : Addr} {fd : FuncData} (F : Fun K "_law_just" "_law_just" s__law_just f fd) (g_self : mg "_law_just" = some (.ref f)) (b_self : Binds K fd pm__law_just []) (C__law_whole : Cal P w K mg base "_law_whole" pm__law_whole 1 (sp__law_whole K)) (m_isinstance : mg "isinstance" = none) (m_tuple : mg "tuple" = none) (m_str : mg "str" = none) (m_bool : mg "bool" = none) (m_len : mg "len" = none) (m_zip : mg "zip" = none) : ∀ n : Nat, FnOk P w K mg base CX0 (n + 1 + 1) f fd pm__law_just (sp__law_just K n) := by
  obtain ⟨f__law_whole, fd__law_whole, G__law_whole, g__law_whole, k__law_whole, b__law_whole⟩ := C__law_whole.ex
  intro n
  induction n with
  | zero => exact F.ok sc__law_just (fun vs H Q E h => (nv__law_just h).elim) (fun cdv A outer s H vs Q E hr h => (nv__law_just h).elim)
  | succ n ih =>
  refine F.ok sc__law_just (fun vs H Q E h => ?_) (fun cdv A outer s H vs Q E hr h => ?_)
  · obtain ⟨v, u, d, e, rfl, _⟩ := h
    rfl
  · obtain ⟨v, u, d, e, rfl, hv, hu, pd, pe, hdp, hsz, q⟩ := h
    refine ⟨_, pss_cons (ps_if (pt_val (pe_callB call_isi (by rfl) m_isinstance (by decide +kernel) (pa_cons (pv 1) (pa_cons (pe_bltn (v := .ty "tuple") (by rfl) m_tuple (show bootBuiltins "tuple" = some (.type "tuple") by decide +kernel) rfl) pa_nil))))
      (pss_cons (ps_if (PW.pt (pw_or (pt_not (pt_val (pe_callB call_isi (by rfl) m_isinstance (by decide +kernel) (pa_cons (pv 0) (pa_cons (pe_bltn (v := .ty "tuple") (by rfl) m_tuple (show bootBuiltins "tuple" = some (.type "tuple") by decide +kernel) rfl) pa_nil))))) (pw_or1 (pt_cmpR op_ne (pe_callB call_len_seq (by rfl) m_len PySem.boot_len (pa_cons (pv 0) pa_nil)) (pe_callB call_len_seq (by rfl) m_len PySem.boot_len (pa_cons (pv 1) pa_nil)) (nomark _)))))
      (pss_one (ps_ret pe_bl)) pss_nil)
      (pss_one (ps_ret (pe_cmpR (op_eqM hr.units) (pe_lc (own := [("_law_one", 2), ("_law_other", 3)]) (g := gTup K 2 (gCons (gName 2) (gCons (gName 3) gNil))) rfl sc__law_just.nd (RZ.pi_zipA (by rfl) m_zip (pa_cons (pv 0) (pa_cons (pv 1) pa_nil))) (blkOk_by (N := nm__law_just) (sc := defScope s__law_just) (by decide +kernel)) (fun _ _ _ _ _ => pg_tup (by rfl) (pgs_cons (pg_name (i := 2) sc__law_just.nd rfl (Or.inl rfl)) (pgs_cons (pg_name (i := 3) sc__law_just.nd rfl (Or.inl rfl)) pgs_nil))) (fun _ _ _ _ _ => (pts_one (pt_not (pt_val (pe_call ih (hr.mono (by omega)) (by rfl) g_self F.kp b_self .nil pass0 (pa_cons (pv 2) (pa_cons (pv 3) pa_nil))))))) (fun _ _ _ _ _ => pe_int)) (pe_lst pa_nil) (nomark _))))) pss_nil)
      (pss_cons (ps_if (pt_cmpR op_isN (pv 1) pe_non (nomark _))
      (pss_one (ps_ret (pe_cmpR op_isN (pv 0) pe_non (nomark _)))) pss_nil)
      (pss_cons (ps_if (pt_val (pe_callB call_isi (by rfl) m_isinstance (by decide +kernel) (pa_cons (pv 1) (pa_cons (pe_bltn (v := .ty "str") (by rfl) m_str (show bootBuiltins "str" = some (.type "str") by decide +kernel) rfl) pa_nil))))
      (pss_one (ps_ret (pe_and (pe_callB call_isi (by rfl) m_isinstance (by decide +kernel) (pa_cons (pv 0) (pa_cons (pe_bltn (v := .ty "str") (by rfl) m_str (show bootBuiltins "str" = some (.type "str") by decide +kernel) rfl) pa_nil))) (pe_one (pe_cmpR (op_eqM hr.units) (pv 0) (pv 1) (nomark _)))))) pss_nil)
      (pss_cons (ps_if (pt_val (pe_callB call_isi (by rfl) m_isinstance (by decide +kernel) (pa_cons (pv 1) (pa_cons (pe_bltn (v := .ty "bool") (by rfl) m_bool (show bootBuiltins "bool" = some (.type "bool") by decide +kernel) rfl) pa_nil))))
      (pss_one (ps_ret (pe_and (pe_callB call_isi (by rfl) m_isinstance (by decide +kernel) (pa_cons (pv 0) (pa_cons (pe_bltn (v := .ty "bool") (by rfl) m_bool (show bootBuiltins "bool" = some (.type "bool") by decide +kernel) rfl) pa_nil))) (pe_one (pe_cmpR (op_eqM hr.units) (pv 0) (pv 1) (nomark _)))))) pss_nil)
      (pss_one (ps_ret (pe_and (pe_call G__law_whole (hr.mono (by omega)) (by rfl) g__law_whole k__law_whole b__law_whole .nil pass0 (pa_cons (pv 0) pa_nil)) (pe_one (pe_cmpR (op_eqM hr.units) (pv 0) (pv 1) (nomark _))))))))), ?_⟩
    have no : d ≠ e → ∀ H', Same H H' → Q (.bl false) H' := fun ne H' s' => by
      have := q H' s'
      rw [eqB_false ne] at this
      exact this
    refine ⟨u, rfl, u, _, _, _, isT e, rfl, .ty "tuple", dp_ty hu pe, kit_ty (kT e), isT e, rfl, ite2 (fun a1 => ?_) (fun a1 => ?_)⟩
    · cases e with
      | tuple es =>
        refine ⟨v, rfl, v, _, _, _, isT d, rfl, .ty "tuple", dp_ty hv pd, kit_ty (kT d), isT d, rfl, ite2 (fun a2 => ?_) (fun a2 => ?_)⟩
        · refine no (fun z => ?_) H (Same.refl _)
          rw [z] at a2
          cases a2
        · cases d with
          | tuple ds =>
            cases hu with
            | @tup b ys _ hsy hay =>
              cases hv with
              | @tup a xs _ hsx hax =>
                have lx := dpAll_len hax
                have ly := dpAll_len hay
                refine ⟨.ref a, rfl, a, xs, rfl, .inr hsx, .ref b, rfl, b, ys, rfl, .inr hsy, rfl, _, rfl, ite2 (fun b1 => ?_) (fun b1 => ?_)⟩
                · refine no (fun z => ?_) H (Same.refl _)
                  have h2 : ds = es := PyData.tuple.inj z
                  rw [lx, ly, h2] at b1
                  simp at b1
                · have hl2 : xs.length = ys.length := by
                    have z : V.int (xs.length : Nat) = V.int (ys.length : Nat) := by simpa using b1
                    have := V.int.inj z
                    omega
                  have hls := len_szA es
                  have hse : szA es + 1 ≤ 1000000 := hsz
                  rw [depth_tuple] at hdp
                  refine ⟨.ref a, rfl, .ref b, rfl, a, b, xs, ys, rfl, .inr ⟨hsx, hsy, fun D hD => lc_zipT hl2 (fun i H3 => ∃ ws : List V, (∀ w ∈ ws, w = V.int 1) ∧ ws.length ≤ i ∧ (ws = [] ↔ ds.take i = es.take i) ∧ H3 D = some (.lst ws) ∧ Same H H3) ⟨[], fun _ h => (nomatch h), Nat.le_refl _, ⟨fun _ => rfl, fun _ => rfl⟩, upd_same, same_upd hD⟩ (fun i H3 _ hP => ?_) (fun i x y T H3 gx gy hP nT => ?_) (fun H3 hP => ?_)⟩⟩
                  · obtain ⟨ws, _, _, _, _, s3⟩ := hP
                    exact ⟨ts_same s3 _ _ hsx, ts_same s3 _ _ hsy⟩
                  · obtain ⟨ws, hw, hwl, hiff, eD, s3⟩ := hP
                    obtain ⟨di, k1, k2⟩ := dpAll_get hax gx
                    obtain ⟨ei, k3, k4⟩ := dpAll_get hay gy
                    have q1 : pl di = true := plA_mem pd (List.mem_of_getElem? k1)
                    have q2 : pl ei = true := plA_mem pe (List.mem_of_getElem? k3)
                    have d1 := depth_mem (List.mem_of_getElem? k3)
                    have z1 := sz_mem (List.mem_of_getElem? k3)
                    have hi : i < ys.length := (List.getElem?_eq_some_iff.mp gy).1
                    have s4 : Same H (upd H3 T (.tup [x, y])) := s3.trans (same_upd nT)
                    have eD4 : (upd H3 T (.tup [x, y])) D = some (.lst ws) := same_upd nT _ _ eD
                    refine ⟨T, [x, y], rfl, .inl (.inl upd_same), rfl, x, [y], rfl, y, [], rfl, rfl, rfl, x, rfl, y, rfl, x, y, di, ei, rfl, (ts_same s4).dp _ _ q1 k2, (ts_same s4).dp _ _ q2 k4, q1, q2, by omega, by omega, fun H5 s5 => ⟨eqB di ei, rfl, ite2 (fun c => ?_) (fun c => ?_)⟩⟩
                    · have ne : di ≠ ei := fun z => by rw [eqB_true z] at c; cases c
                      refine ⟨ws, s5 _ _ eD4, ?_, ws ++ [.int 1], ?_, ?_, ?_, upd_same, ?_⟩
                      · exact Nat.lt_of_le_of_lt (show ws.length ≤ 1000000 by omega) (by decide)
                      · intro w' hw'
                        rcases List.mem_append.mp hw' with m | m
                        · exact hw _ m
                        · exact List.mem_singleton.mp m
                      · rw [List.length_append]
                        exact Nat.succ_le_succ hwl
                      · rw [take_eq_iff k1 k3]
                        constructor
                        · intro z
                          simp at z
                        · intro z
                          exact absurd z.2 ne
                      · intro b' o eb
                        rw [upd_ne (ne_of_none eb hD)]
                        exact s5 _ _ (s4 _ _ eb)
                    · have eq : di = ei := by
                        by_cases z : di = ei
                        · exact z
                        · rw [eqB_false z] at c
                          exact absurd rfl c
                      refine ⟨ws, hw, by omega, ?_, s5 _ _ eD4, s4.trans s5⟩
                      rw [take_eq_iff k1 k3, hiff]
                      exact ⟨fun z => ⟨z, eq⟩, fun z => z.1⟩
                  · obtain ⟨ws, hw, hwl, hiff, eD, s3⟩ := hP
                    refine ⟨Nat.zero_le _, fun z nz => ?_⟩
                    have sz1 : Same H3 (upd H3 z (.lst [])) := same_upd nz
                    have cz : (upd H3 z (.lst [])) z = some (.lst []) := upd_same
                    generalize hHz : upd H3 z (HO.lst []) = Hz at sz1 cz ⊢
                    obtain ⟨o1, o2⟩ := ones_data (K := K) (H := Hz) hw
                    refine ⟨.list (ws.map fun _ => PyData.int 1), .list [], .lst (.inl (.inl (sz1 _ _ eD))) o1, .lst (.inl (.inl cz)) .nil, o2, rfl, ?_, ?_⟩
                    · refine Nat.le_trans (Nat.min_le_right _ _) ?_
                      decide
                    · rw [eqv_nil]
                      have hd : ds.take xs.length = ds := by rw [lx]; exact List.take_length
                      have he : es.take xs.length = es := by rw [hl2, ly]; exact List.take_length
                      rw [hd, he] at hiff
                      have := q Hz (s3.trans sz1)
                      have e : eqB (.tuple ds) (.tuple es) = (ws.map fun _ => PyData.int 1).isEmpty := by
                        by_cases c : ds = es
                        · rw [eqB_true (by rw [c]), hiff.mpr c]
                          rfl
                        · rw [eqB_false fun z => c (PyData.tuple.inj z)]
                          cases ws with
                          | nil => exact absurd (hiff.mp rfl) c
                          | cons _ _ => rfl
                      rw [e] at this
                      exact this
          | _ => exact absurd rfl a2
      | _ => cases a1
    · have le : e.depth ≤ 64 := leaf_depth pe (Bool.eq_false_iff.mpr a1)
      refine ⟨u, rfl, rfl, _, rfl, ite2 (fun n1 => ?_) (fun n1 => ?_)⟩
      · have e1 : e = .none := (non_iff hu).mp (of_decide_eq_true n1)
        refine ⟨v, rfl, rfl, ?_⟩
        have := q H (Same.refl _)
        have e2 : eqB d e = decide (v = .non) := by
          by_cases c : d = e
          · rw [eqB_true c, decide_eq_true ((non_iff hv).mpr (c.trans e1))]
          · rw [eqB_false c, decide_eq_false fun z => c (((non_iff hv).mp z).trans e1.symm)]
        rw [e2] at this
        exact this
      · have en : e ≠ .none := fun z => n1 (decide_eq_true ((non_iff hu).mpr z))
        refine ⟨u, rfl, u, _, _, _, isS e, rfl, .ty "str", dp_ty hu pe, kit_ty (kS e), isS e, rfl, ite2 (fun a3 => ?_) (fun a3 => ?_)⟩
        · refine ⟨v, rfl, v, _, _, _, isS d, rfl, .ty "str", dp_ty hv pd, kit_ty (kS d), isS d, rfl, ite2 (fun a4 => ?_) (fun a4 => ?_)⟩
          · refine ⟨v, rfl, u, rfl, d, e, hv, hu, canLay d pd, canLay e pe, min_leaf le, ?_⟩
            rw [eqv_eqB (flat_str pd a3 a4)]
            exact q H (Same.refl _)
          · exact no (fun z => a4 (by rw [z]; exact a3)) H (Same.refl _)
        · refine ⟨u, rfl, u, _, _, _, isB e, rfl, .ty "bool", dp_ty hu pe, kit_ty (kB e), isB e, rfl, ite2 (fun a5 => ?_) (fun a5 => ?_)⟩
          · refine ⟨v, rfl, v, _, _, _, isB d, rfl, .ty "bool", dp_ty hv pd, kit_ty (kB d), isB d, rfl, ite2 (fun a4 => ?_) (fun a4 => ?_)⟩
            · refine ⟨v, rfl, u, rfl, d, e, hv, hu, canLay d pd, canLay e pe, min_leaf le, ?_⟩
              rw [eqv_eqB (flat_bool a5 a4)]
              exact q H (Same.refl _)
            · exact no (fun z => a4 (by rw [z]; exact a5)) H (Same.refl _)
          · have ew : isW e = true := by
              cases e <;> simp_all [isW, isI, isB, isS, isT, pl]
            refine ⟨v, rfl, v, d, rfl, hv, pd, isW d, rfl, ite2 (fun a4 => ?_) (fun a4 => ?_)⟩
            · refine ⟨v, rfl, u, rfl, d, e, hv, hu, canLay d pd, canLay e pe, min_leaf le, ?_⟩
              rw [eqv_eqB (flat_int ew a4)]
              exact q H (Same.refl _)
            · exact no (fun z => a4 (by rw [z]; exact ew)) H (Same.refl _)
end
end K3
/-! sorted(t) of a tuple of whole numbers -/
namespace ST
open PySem PySem.Spec PyProof.Rows L2 Srt SrtO
section
variable {prog : Program} {w : World} {A : Around} {E : Value → Shared → Prop} {s : Shared}
abbrev grownH (h : Heap) (vs : List Value) : Heap := (h.push (seqObj "list" #[] 0)).update h.objs.size (Obj.mapSeq (· ++ vs.toArray))
theorem collect_tup {l : Addr} {vs : List Value} {Q : List Value → Shared → Prop} (hl : s.heap.IsTuple l vs.toArray) (hsz : vs.length ≤ sizeLine) (h : Q vs { s with heap := grownH s.heap vs }) :
    wpAny (model prog w) A (collect (.ref l)) Q E s := by
  obtain ⟨o, ho, hc, n, hd⟩ := id hl
  unfold collect
  refine wpAny_bind (wpAny_runValue (codeAny_builtin entry_proto_collect' ?_))
  show wpAny _ _ (do again (.builtin "list.__iadd__" ⟨[← newList [], .ref l], []⟩)) _ _ s
  refine wpAny_bind (wpAny_newList (wpAny_pure ⟨Code.quiet_builtin _ (by decide +kernel), codeAny_builtin entry_list_iadd' ?_⟩))
  show wpAny _ _ (Builtin.List.listExtendWith (.ref s.heap.objs.size) (.ref l) (.ref s.heap.objs.size)) _ _ { s with heap := s.heap.push (seqObj "list" #[] 0) }
  unfold Builtin.List.listExtendWith
  have ho' : (s.heap.push (seqObj "list" #[] 0)).get? l = some o := Heap.get?_push_of_some _ ho
  refine wpAny_bind (wpAny_typeOf (T := "tuple") ⟨o, ho', hc⟩ ?_)
  have ht : (Value.type "tuple" == Value.type "tuple") = true := by rfl
  rw [if_pos (by rw [ht]; simp)]
  refine wpAny_bind (listItems_at ho' hd (wpAny_bind (listItems_at (xs := #[]) (n := 0) (Heap.get?_push_size _ rfl) rfl ?_)))
  rw [if_neg (by simp)]
  refine wpAny_bind (listUpdate_at (xs := #[]) (n := 0) (Heap.get?_push_size _ rfl) rfl (wpAny_pure ?_) (Nat.zero_le _) (by show (#[] ++ vs.toArray).size ≤ sizeLine + 1; simp only [Array.size_append, List.size_toArray, List.length_nil]; omega))
  show wpAny (model prog w) A (do
      let o ← load s.heap.objs.size
      match o.data with | .seq xs _ => pure xs.toList | _ => unsupported "internal:collect") Q E { s with heap := grownH s.heap vs }
  refine wpAny_bind (wpAny_load (get?_update_seq (Heap.get?_push_size _ rfl) _) ?_)
  show wpAny _ _ (pure ((#[] : Array Value) ++ vs.toArray).toList) Q E _
  rw [show ((#[] : Array Value) ++ vs.toArray).toList = vs by simp]
  exact wpAny_pure h
theorem sorted_tup {l : Addr} {vs : List Value} {ltv : Value → Value → Bool} {Q : Value → Shared → Prop} (O : Swo ltv) (hl : s.heap.IsTuple l vs.toArray) (hz : vs.length ≤ sizeLine)
    (hS : 2 ≤ vs.length → ∀ (h₁ : Heap) (a : Addr), SortableO prog w A.in1.in1 { s with heap := h₁ } a vs ltv)
    (h : ∀ out : List Value, Srtd ltv out → Stb ltv out vs → Q (.ref (s.heap.objs.size + 1)) { s with heap := sortedAll s.heap vs out.toArray }) :
    wpAny (model prog w) A (call (.builtin "sorted") [.ref l]) Q E s := by
  refine Calls.call_function_entry kind_sorted plain_sorted entry_sorted (args_sorted1 _) ?_
  unfold Builtin.«sorted»
  refine wpAny_bind (m := checkCount "sorted" 1 1 _) (wpAny_pure (wpAny_bind (collect_tup hl hz (wpAny_bind (wpAny_newList ?_ hz)))))
  have e1 : (grownH s.heap vs).objs.size = s.heap.objs.size + 1 := by rw [Heap.size_update, size_push']
  have e2 : ((grownH s.heap vs).push (seqObj "list" vs.toArray 0)).get? (s.heap.objs.size + 1) = some (seqObj "list" vs.toArray 0) := by
    rw [← e1]; exact Heap.get?_push_size _ rfl
  show wpAny _ _ _ _ _ { s with heap := (grownH s.heap vs).push (seqObj "list" vs.toArray 0) }
  rw [e1]
  refine wpAny_bind (wpAny_holding (wpAny_call_entry slot_list_sort ⟨_, e2, rfl⟩ entry_list_sort (list_sort_ord O e2 hz (fun h2 => hS h2 _ _) fun out hs hb => ⟨_, rfl, ?_⟩) (args_list_sort _)))
  exact wpAny_pure ⟨_, rfl, h out hs hb⟩
end
def rSortedT (K : PySem.W.Frag) : List V → Hp → VK → Prop := fun vs H Q => ∃ (a : Addr) (ns : List Int), vs = [V.ref a] ∧ SqT K H a (ns.map V.int) ∧
  ∀ (ns' : List Int) (p : Addr), ns'.Perm ns → ns'.Pairwise (· ≤ ·) → H p = none → Q (.ref p) (upd H p (.lst (ns'.map V.int)))
theorem cr_sortedT {X : Cx} : CallR X (.builtin "sorted") (rSortedT X.K) := by
  intro pins s σ H vs us Q I r h
  obtain ⟨a, ns, rfl, hs, q⟩ := h
  obtain ⟨its, rv, hl, hz⟩ := I.tuple hs
  rw [Vals.ref1 r]
  have hi := rv.ints
  refine sorted_tup SrtO.swo_int (show s.heap.IsTuple a its.toArray from hl) (by rw [← rv.length]; exact hz) (fun h2 h₁ a' => SrtO.ints_sortable hi h2) fun out h1 h2 => ?_
  obtain ⟨k1, k2, k3⟩ := SrtO.ints_out hi h1 h2
  obtain ⟨ep, he'⟩ := PyProof.Rows.sortedAll_at s.heap its out.toArray
  have hlen : ((out.map SrtO.iv).map V.int).length ≤ sizeLine := by
    rw [List.length_map, k2.length_eq]
    rw [List.length_map] at hz
    exact hz
  exact ⟨.ref _, upd H (s.heap.objs.size + 1) (.lst ((out.map SrtO.iv).map V.int)), I.laid (t' := s.toks) (fun _ _ => PyProof.Rows.sortedAll_old) (Nat.le_succ _) ⟨hlen, out, ep, vals_of_ints k1, he'⟩, rfl, q _ _ k2 k3 (I.hok.fresh (Nat.le_succ _))⟩
end ST
namespace K3
open PySem PySem.Spec PyProof.Rows L2 K1
abbrev s__law_wrong : Stmt := topS 32
abbrev nm__law_wrong : List Str := ["_law_pieces", "_law_bits", "_law_tree_here", "_law_beginning", "_law_left_here", "_law_k", "_law_nested", "_law_found"]
abbrev pm__law_wrong : List Str := ["_law_pieces", "_law_bits", "_law_tree_here", "_law_beginning"]
theorem sc__law_wrong : FnScope nm__law_wrong pm__law_wrong (defScope s__law_wrong) := ⟨rfl, rfl, rfl, by decide +kernel, rfl, by decide +kernel, by decide +kernel⟩
section
variable {P : Program} {w : World} {K : PySem.W.Frag} {mg : Str → Option Value} {base : Heap}
def WrR (K : PySem.W.Frag) (H : Hp) (l : Addr) : Option (List Nat) → Prop
  | none => H l = some (.lst [])
  | some b => ∃ t, H l = some (.lst [.ref t]) ∧ SqT K H t (b.map natV)
def sp__law_wrong (K : PySem.W.Frag) (n : Nat) : Sp := fun vs H Q _ => ∃ (a o : Addr) (tv : V) (ps : List Part) (bs : List Nat) (bits : Int) (d : PyData), vs = [.ref a, .int bits, tv, .ref o] ∧ Asked K H a o ps bs ∧ Beg ps.length bs ∧ ps.length ≤ 100 ∧ Dp K H tv d ∧ pl d = true ∧ d.depth < n ∧
  ∀ (l : Addr) (H' : Hp), Same H H' → WrR K H' l (wrT ps bits d bs) → Q (.ref l) H'
theorem nv__law_wrong {vs : List V} {H : Hp} {Q : VK} {E : XK} (h : sp__law_wrong K 0 vs H Q E) : False := by
  obtain ⟨_, _, _, _, _, _, _, _, _, _, _, _, _, h, _⟩ := h
  omega
def tWrong (K : PySem.W.Frag) (H : Hp) (a o : Addr) (tv : V) (ps : List Part) (bs : List Nat) (bits : Int) (d : PyData) (Q : VK) : L2.TS := fun D σ H' => ∃ (tt lh : Addr) (xs : List V) (ts : List PyData), d = .tuple ts ∧ tv = .ref tt ∧ SqT K H tt xs ∧ DpAll K H xs ts ∧
  σ = [some (.ref a), some (.int bits), some tv, some (.ref o), some (.ref lh), none, none, none] ∧ H' lh = some (.lst ((leftN ps.length bs).map natV)) ∧ Same H H' ∧ (ts = [] → cutF ps bs bits ≠ true) ∧ D.rt = Q
theorem drop_at {α : Type} {xs : List α} {i : Nat} {x : α} (h : xs[i]? = some x) : xs.drop i = x :: xs.drop (i + 1) := by
  obtain ⟨h1, h2⟩ := List.getElem?_eq_some_iff.mp h
  rw [List.drop_eq_getElem_cons h1, h2]
theorem wrR_dp {H : Hp} {l : Addr} : ∀ {r : Option (List Nat)}, WrR K H l r → ∃ xs, Dp K H (.ref l) (.list xs) ∧ PyData.canLayAll0 xs = true ∧ xs.isEmpty = r.isNone
  | none, h => ⟨[], .lst (.inl (.inl h)) .nil, rfl, rfl⟩
  | some b, h => by
    obtain ⟨t, h1, h2⟩ := h
    refine ⟨[natsD b], .lst (.inl (.inl h1)) (.cons (.tup h2 (nats_dp b)) .nil), ?_, rfl⟩
    simp only [PyData.canLayAll0, canLay _ (nats_pl b), Bool.and_self]
theorem WrR.ts {H H1 : Hp} {l : Addr} {r : Option (List Nat)} (h : WrR K H l r) (s : Same H H1) : WrR K H1 l r := by
  cases r with
  | none => exact s _ _ h
  | some b =>
    obtain ⟨t, h1, h2⟩ := h
    exact ⟨t, s _ _ h1, ts_same s _ _ h2⟩
theorem ok__law_wrong {f : Addr} {fd : FuncData} (F : Fun K "_law_wrong" "_law_wrong" s__law_wrong f fd) (g_self : mg "_law_wrong" = some (.ref f)) (b_self : Binds K fd pm__law_wrong []) (C__law_left : Cal P w K mg base "_law_left" pm__law_left 1 (sp_left_of K)) (C__law_cut : Cal P w K mg base "_law_cut" pm__law_cut 3 (sp__law_cut K)) (m_zip : mg "zip" = none) (m_isinstance : mg "isinstance" = none) (m_tuple : mg "tuple" = none) (m_len : mg "len" = none) : ∀ n : Nat, FnOk P w K mg base CX0 (n + 3 + 1) f fd pm__law_wrong (sp__law_wrong K n) := by
  obtain ⟨f__law_left, fd__law_left, G__law_left, g__law_left, k__law_left, b__law_left⟩ := C__law_left.ex
  obtain ⟨f__law_cut, fd__law_cut, G__law_cut, g__law_cut, k__law_cut, b__law_cut⟩ := C__law_cut.ex
  intro n
  induction n with
  | zero => exact F.ok sc__law_wrong (fun vs H Q E h => (nv__law_wrong h).elim) (fun cdv A outer s H vs Q E hr h => (nv__law_wrong h).elim)
  | succ n ih =>
  refine F.ok sc__law_wrong (fun vs H Q E h => ?_) (fun cdv A outer s H vs Q E hr h => ?_)
  · obtain ⟨a, o, tv, ps, bs, bits, d, rfl, _⟩ := h
    rfl
  · obtain ⟨a, o, tv, ps, bs, bits, d, rfl, hA, hb, hl, hv, pd, hdp, q⟩ := h
    have hbl := beg_len hb
    refine ⟨_, pss_cons (ps_set (i := 4) sc__law_wrong.nd rfl (.inl rfl) (pe_call G__law_left (hr.mono (by omega)) (by rfl) g__law_left k__law_left b__law_left .nil pass0 (pa_cons (pv 0) (pa_cons (pv 3) pa_nil))))
      (pss_cons (ps_if (pt_not (pt_val (pe_callB call_isi (by rfl) m_isinstance (by decide +kernel) (pa_cons (pv 2) (pa_cons (pe_bltn (v := .ty "tuple") (by rfl) m_tuple (show bootBuiltins "tuple" = some (.type "tuple") by decide +kernel) rfl) pa_nil)))))
      (pss_one (ps_ret (pe_lst (pa_cons (pv 3) pa_nil)))) pss_nil)
      (pss_cons (ps_if (PW.pt (pw_and (pt_cmpR op_eq (pe_callB call_len_seq (by rfl) m_len PySem.boot_len (pa_cons (pv 2) pa_nil)) pe_int (nomark _)) (pw_and1 (pt_val (pe_call G__law_cut (hr.mono (by omega)) (by rfl) g__law_cut k__law_cut b__law_cut .nil pass0 (pa_cons (pv 0) (pa_cons (pv 1) (pa_cons (pv 3) pa_nil))))))))
      (pss_one (ps_ret (pe_lst pa_nil))) pss_nil)
      (pss_weak (t' := tWrong K H a o tv ps bs bits d Q) (pss_cons (ps_if (PW.pt (pw_or (pt_cmpR op_eq (pe_callB call_len_seq (by rfl) m_len PySem.boot_len (pa_cons (pv 2) pa_nil)) pe_int (nomark _)) (pw_or1 (pt_cmpR op_ne (pe_callB call_len_seq (by rfl) m_len PySem.boot_len (pa_cons (pv 2) pa_nil)) (pe_callB call_len_seq (by rfl) m_len PySem.boot_len (pa_cons (pv 4) pa_nil)) (nomark _)))))
      (pss_one (ps_ret (pe_lst (pa_cons (pv 3) pa_nil)))) pss_nil)
      (pss_cons (ps_for PassesOwn.never rfl (ZM.pi_zipM (by rfl) m_zip (pa_cons (pv 4) (pa_cons (pv 2) pa_nil))) (pg_tup (by rfl) (pgs_cons (pg_name (i := 5) sc__law_wrong.nd rfl (.inl rfl)) (pgs_cons (pg_name (i := 6) sc__law_wrong.nd rfl (.inl rfl)) pgs_nil)))
      (pss_cons (ps_set (i := 7) sc__law_wrong.nd rfl (.inl rfl) (pe_call ih (hr.mono (by omega)) (by rfl) g_self F.kp b_self .nil pass0 (pa_cons (pv 0) (pa_cons (pv 1) (pa_cons (pv 6) (pa_cons (pe_op op_catA (pv 3) (pe_tup (pa_cons (pv 5) pa_nil))) pa_nil))))))
      (pss_one (ps_if (pt_cmpR (op_neM hr.units) (pv 7) (pe_lst pa_nil) (nomark _))
      (pss_one (ps_ret (pv 7))) pss_nil))))
      (pss_one (ps_ret (pe_lst pa_nil))))) ?go))), ?_⟩
    case go =>
      rintro DD σ H1 ⟨tt, lh, xs, ts, rfl, rfl, hxs, hax, rfl, el, s1, hcut, hrt⟩
      have hxl := dpAll_len hax
      rw [depth_tuple] at hdp
      have one : ∀ (H2 : Hp), Same H H2 → wrT ps bits (.tuple ts) bs = some bs → ∀ l, H2 l = none → Q (.ref l) (upd H2 l (.lst [.ref o])) := fun H2 s2 e l nl => by
        refine q l _ (s2.trans (same_upd nl)) ?_
        rw [e]
        exact ⟨o, upd_same, ts_same (s2.trans (same_upd nl)) _ _ hA.2.1⟩
      refine ⟨.ref tt, rfl, tt, xs, rfl, .inr (ts_same s1 _ _ hxs), rfl, _, rfl, ite2 (fun c => ?_) (fun c => ?_)⟩
      · have h0 : ts = [] := List.length_eq_zero_iff.mp (by have z := V.int.inj (of_decide_eq_true c); omega)
        refine ⟨.ref o, rfl, (by show 1 ≤ sizeLine; decide), fun l nl => ?_⟩
        show DD.rt _ _
        rw [hrt]
        refine one H1 s1 ?_ l nl
        subst h0
        rw [wrT_tuple, if_pos (show ([] : List PyData).isEmpty = true from rfl), if_neg (hcut rfl)]
      have hne : ¬ ts.isEmpty = true := fun z => c (decide_eq_true (congrArg V.int (by rw [hxl, List.isEmpty_iff.mp z]; rfl)))
      refine ⟨.ref tt, rfl, tt, xs, rfl, .inr (ts_same s1 _ _ hxs), .ref lh, rfl, lh, _, rfl, .inl (.inl (.inl el)), rfl, _, rfl, ite2 (fun c2 => ?_) (fun c2 => ?_)⟩
      · refine ⟨.ref o, rfl, (by show 1 ≤ sizeLine; decide), fun l nl => ?_⟩
        show DD.rt _ _
        rw [hrt]
        refine one H1 s1 ?_ l nl
        rw [wrT_tuple, if_neg hne, if_neg]
        intro z
        rw [hxl, z, List.length_map] at c2
        simp at c2
      have hll : ts.length = (leftN ps.length bs).length := by
        have z : V.int (xs.length : Nat) = V.int (((leftN ps.length bs).map natV).length : Nat) := by simpa using c2
        have z2 := V.int.inj z
        rw [List.length_map] at z2
        omega
      have ew : wrT ps bits (.tuple ts) bs = wrA ps bits ts (leftN ps.length bs) bs := by rw [wrT_tuple, if_neg hne, if_pos hll]
      rw [ew] at q
      refine ⟨.ref lh, rfl, .ref tt, rfl, lh, tt, _, xs, rfl, .inl (.inl el), ts_same s1 _ _ hxs, ZM.for_zipM (xs := (leftN ps.length bs).map natV) (ys := xs) (fun i σ H' => ∃ x5 x6 x7 : Option V, σ = [some (.ref a), some (.int bits), some (.ref tt), some (.ref o), some (.ref lh), x5, x6, x7] ∧ H' lh = some (.lst ((leftN ps.length bs).map natV)) ∧ Same H H' ∧ wrA ps bits ts (leftN ps.length bs) bs = wrA ps bits (ts.drop i) ((leftN ps.length bs).drop i) bs) ⟨none, none, none, rfl, el, s1, rfl⟩ (fun i σ H' hp => ?_) (fun i x y T σ H' gx gy hp nT => ?_) (fun σ H' hp => ?_)⟩
      · obtain ⟨_, _, _, _, e', s', _⟩ := hp
        exact ⟨.inl (.inl e'), ts_same s' _ _ hxs⟩
      · obtain ⟨x5, x6, x7, rfl, e', s', hw⟩ := hp
        obtain ⟨k, ek, rfl⟩ := natV_at gx
        obtain ⟨di, k1, k2⟩ := dpAll_get hax gy
        have pdi : pl di = true := plA_mem pd (List.mem_of_getElem? k1)
        have ddi := depth_mem (List.mem_of_getElem? k1)
        have mk : k ∈ leftN ps.length bs := List.mem_of_getElem? ek
        have s2 : Same H' (upd H' T (.tup [natV k, y])) := same_upd nT
        refine ⟨T, [natV k, y], rfl, .inl (.inl upd_same), rfl, natV k, [y], rfl, y, [], rfl, rfl, ?_⟩
        generalize upd H' T (HO.tup [natV k, y]) = H2 at s2 ⊢
        refine ⟨.ref a, rfl, .int bits, rfl, y, rfl, .ref o, rfl, natV k, rfl, (by show 1 ≤ sizeLine; decide), fun u nu => ?_⟩
        have s3 : Same H2 (upd H2 u (.tup [natV k])) := same_upd nu
        have s03 : Same H (upd H2 u (.tup [natV k])) := (s'.trans s2).trans s3
        refine catA_any (xs := bs.map natV) (ys := [natV k]) (ts_same s03 _ _ hA.2.1) (.inl (.inl upd_same)) ?_ fun rr H4 s4 hr4 => ?_
        · rw [List.length_map]
          exact Nat.le_trans (show bs.length + 1 ≤ 1000 by omega) (by decide)
        have s04 : Same H H4 := s03.trans s4
        refine ⟨a, rr, y, ps, bs ++ [k], bits, di, rfl, ⟨hA.1.ts (ts_same s04), by rw [List.map_append]; exact hr4, hA.2.2.1, (beg_snoc hb mk).2⟩, beg_snoc hb mk, hl, (ts_same s04).dp _ _ pdi k2, pdi, by omega, fun l H5 s5 hR => ?_⟩
        have s25 : Same H' H5 := ((s2.trans s3).trans s4).trans s5
        rw [drop_at k1, drop_at ek] at hw
        rw [wrA] at hw
        obtain ⟨fs, hfs, cfs, efs⟩ := wrR_dp hR
        refine ⟨.ref l, rfl, Nat.zero_le _, fun z nz => ?_⟩
        have s6 : Same H5 (upd H5 z (.lst [])) := same_upd nz
        have c6 : (upd H5 z (.lst [])) z = some (.lst []) := upd_same
        generalize upd H5 z (HO.lst []) = H6 at s6 c6 ⊢
        have hR6 := hR.ts s6
        obtain ⟨fs, hfs, cfs, efs⟩ := wrR_dp hR6
        refine ⟨.list fs, .list [], hfs, .lst (.inl (.inl c6)) .nil, cfs, rfl, Nat.le_trans (Nat.min_le_right _ _) (by decide), _, rfl, ite2 (fun c3 => ?_) (fun c3 => ?_)⟩
        · rw [eqv_nil, efs] at c3
          cases e : wrT ps bits di (bs ++ [k]) with
          | none => rw [e] at c3; cases c3
          | some b =>
            rw [e] at hw hR6
            refine ⟨.ref l, rfl, ?_⟩
            show DD.rt _ _
            rw [hrt]
            refine q l H6 ((s'.trans s25).trans s6) ?_
            rw [hw]
            exact hR6
        · rw [eqv_nil, efs] at c3
          cases e : wrT ps bits di (bs ++ [k]) with
          | some b => rw [e] at c3; exact absurd rfl c3
          | none =>
            rw [e] at hw
            exact ⟨_, _, _, rfl, s6 _ _ (s25 _ _ e'), (s'.trans s25).trans s6, hw⟩
      · obtain ⟨x5, x6, x7, rfl, e', s', hw⟩ := hp
        refine ⟨Nat.zero_le _, fun l nl => ?_⟩
        show DD.rt _ _
        rw [hrt]
        refine q l _ (s'.trans (same_upd nl)) ?_
        have em : min ((leftN ps.length bs).map natV).length xs.length = ts.length := by rw [List.length_map, hxl, hll]; omega
        rw [em, List.drop_length, wrA] at hw
        rw [hw]
        exact upd_same
    refine ⟨.ref a, rfl, .ref o, rfl, a, o, ps, bs, rfl, hA.1, hA.2.1, by omega, fun lh H1 s1 nl el => ?_⟩
    refine ⟨tv, rfl, tv, _, _, _, isT d, rfl, .ty "tuple", dp_ty ((ts_same s1).dp _ _ pd hv) pd, kit_ty (kT d), isT d, rfl, ite2 (fun c => ?_) (fun c => ?_)⟩
    · refine ⟨.ref o, rfl, (by show 1 ≤ sizeLine; decide), fun l nl => q l _ (s1.trans (same_upd nl)) ?_⟩
      rw [wrT_leaf ps bits (by cases e : isT d with | false => rfl | true => rw [e] at c; cases c) bs]
      exact ⟨o, upd_same, ts_same (s1.trans (same_upd nl)) _ _ hA.2.1⟩
    cases d with
    | tuple ts =>
      cases hv with
      | @tup tt xs _ hxs hax =>
        have hxl := dpAll_len hax
        refine ⟨.ref tt, rfl, tt, xs, rfl, .inr (ts_same s1 _ _ hxs), rfl, _, rfl, ite2 (fun c1 => ?_) (fun c1 => ?_)⟩
        · have h0 : ts = [] := List.length_eq_zero_iff.mp (by have z := V.int.inj (of_decide_eq_true c1); omega)
          refine ⟨.ref a, rfl, .int bits, rfl, .ref o, rfl, a, o, ps, bs, bits, rfl, ⟨hA.1.ts (ts_same s1), ts_same s1 _ _ hA.2.1, hA.2.2⟩, by omega, fun H2 s2 => ⟨_, rfl, ite2 (fun cc => ?_) (fun cc => ?_)⟩⟩
          · refine ⟨Nat.zero_le _, fun l nl => q l _ ((s1.trans s2).trans (same_upd nl)) ?_⟩
            subst h0
            rw [wrT_tuple, if_pos (show ([] : List PyData).isEmpty = true from rfl), if_pos cc]
            exact upd_same
          · exact ⟨tt, lh, xs, ts, rfl, rfl, hxs, hax, rfl, s2 _ _ el, s1.trans s2, fun _ => cc, rfl⟩
        · exact ⟨tt, lh, xs, ts, rfl, rfl, hxs, hax, rfl, el, s1, fun z => absurd (decide_eq_true (congrArg V.int (by rw [hxl, z]; rfl))) c1, rfl⟩
    | _ => exact absurd rfl c
end
end K3
namespace K3
open PySem PySem.Spec PyProof.Rows L2 K1
/-! ### any things as parts, orders, papers -/
def valI : PyData → Int
  | .int i => i
  | _ => 0
theorem isW_int {d : PyData} (h : isW d = true) : d = .int (valI d) := by
  cases d <;> first | rfl | cases h
def btw (d : PyData) (lo hi : Int) : Bool := isW d && (decide (lo ≤ valI d) && decide (valI d ≤ hi))
theorem btw_iff {d : PyData} {lo hi : Int} : btw d lo hi = true ↔ isW d = true ∧ lo ≤ valI d ∧ valI d ≤ hi := by
  unfold btw
  rw [Bool.and_eq_true, Bool.and_eq_true, decide_eq_true_eq, decide_eq_true_eq]
def alB (m : Int) : Bool := inV (.int m) [.int 1, .int 8, .int 16, .int 32, .int 64]
theorem alB_ok {m : Int} (h : alB m = true) : AlOk m := by
  have h' : ((1 : Int) == m || ((8 : Int) == m || ((16 : Int) == m || ((32 : Int) == m || ((64 : Int) == m || false))))) = true := h
  simp only [Bool.or_eq_true, beq_iff_eq, Bool.or_false] at h'
  unfold AlOk
  omega
def partB : PyData → Bool
  | .tuple [a, b] => btw a 0 4096 && (isW b && alB (valI b))
  | _ => false
def toPart : PyData → Part
  | .tuple [a, b] => (valI a, valI b)
  | _ => (0, 1)
def partsB : PyData → Bool
  | .tuple ds => decide (ds.length ≤ 8) && ds.all partB
  | _ => false
def toParts : PyData → List Part
  | .tuple ds => ds.map toPart
  | _ => []
def ordB (n : Nat) : PyData → Bool
  | .tuple ds => decide (ds.length = n) && (ds.all (fun d => btw d 0 ((n : Int) - 1)) && decide ((ds.map valI).Nodup))
  | _ => false
def toOrd : PyData → List Nat
  | .tuple ds => ds.map fun d => (valI d).toNat
  | _ => []
def wordD (s : Str) : PyData := .tuple [.str s, .tuple []]
def faultG (d e : PyData) : PyData := if partsB d = true then (match e with
    | .tuple [b, o, t] => if isW b = true then (if ordB (toParts d).length o = true then faultD (toParts d) (toOrd o) (valI b) t else wordD "order") else wordD "form"
    | _ => wordD "form") else wordD "parts"
theorem partB_pair {d : PyData} (h : partB d = true) : ∃ a b : Int, d = .tuple [.int a, .int b] ∧ PtOk (a, b) := by
  match d, h with
  | .tuple [a, b], h =>
    have h' : btw a 0 4096 = true ∧ isW b = true ∧ alB (valI b) = true := by simpa [partB] using h
    obtain ⟨w1, l1, l2⟩ := btw_iff.mp h'.1
    exact ⟨valI a, valI b, by rw [← isW_int w1, ← isW_int h'.2.1], l1, l2, alB_ok h'.2.2⟩
section
variable {K : PySem.W.Frag} {H : Hp}
theorem dp_int {v : V} {i : Int} (h : Dp K H v (.int i)) : v = .int i := by cases h; rfl
theorem dp_tup {v : V} {ds : List PyData} (h : Dp K H v (.tuple ds)) : ∃ a xs, v = .ref a ∧ SqT K H a xs ∧ DpAll K H xs ds := by
  cases h with
  | tup hs ha => exact ⟨_, _, rfl, hs, ha⟩
theorem parts_of {v : V} {d : PyData} (h : partsB d = true) (hv : Dp K H v d) : ∃ a, v = .ref a ∧ Pts K H a (toParts d) ∧ (∀ p ∈ toParts d, PtOk p) ∧ (toParts d).length ≤ 8 := by
  match d, h with
  | .tuple ds, h =>
    have h' : ds.length ≤ 8 ∧ ∀ d ∈ ds, partB d = true := by simpa [partsB] using h
    obtain ⟨a, xs, rfl, hs, ha⟩ := dp_tup hv
    have hl := dpAll_len ha
    refine ⟨a, rfl, ⟨xs, hs, by rw [hl]; exact (List.length_map ..).symm, fun i p e => ?_⟩, fun p hp => ?_, by show (ds.map toPart).length ≤ 8; rw [List.length_map]; exact h'.1⟩
    · have e' : (ds.map toPart)[i]? = some p := e
      rw [List.getElem?_map] at e'
      cases ed : ds[i]? with
      | none => rw [ed] at e'; cases e'
      | some d =>
        rw [ed] at e'
        have ep : toPart d = p := Option.some.inj e'
        have hi : i < xs.length := by rw [hl]; exact (List.getElem?_eq_some_iff.mp ed).1
        have gx : xs[i]? = some xs[i] := List.getElem?_eq_getElem hi
        obtain ⟨d', e1, e2⟩ := dpAll_get ha gx
        rw [ed] at e1
        cases e1
        obtain ⟨x, y, rfl, _⟩ := partB_pair (h'.2 d (List.mem_of_getElem? ed))
        obtain ⟨t, ys, et, ht, hys⟩ := dp_tup e2
        cases hys with
        | cons h1 r =>
          cases r with
          | cons h2 r2 =>
            cases r2
            have q1 := dp_int h1
            have q2 := dp_int h2
            subst q1 q2
            refine ⟨t, by rw [gx, et], ?_⟩
            rw [← ep]
            exact ht
    · obtain ⟨d, hd, rfl⟩ := List.mem_map.mp hp
      obtain ⟨x, y, rfl, hok⟩ := partB_pair (h'.2 d hd)
      exact hok
theorem ord_of {v : V} {o : PyData} {n : Nat} (h : ordB n o = true) (hv : Dp K H v o) : ∃ a, v = .ref a ∧ SqT K H a ((toOrd o).map natV) ∧ (toOrd o).Perm (List.range n) := by
  match o, h with
  | .tuple ds, h =>
    have h' : ds.length = n ∧ (∀ d ∈ ds, btw d 0 ((n : Int) - 1) = true) ∧ (ds.map valI).Nodup := by simpa [ordB] using h
    obtain ⟨hlen, hall, hnd⟩ := h'
    obtain ⟨a, xs, rfl, hs, ha⟩ := dp_tup hv
    have hl := dpAll_len ha
    have ex : xs = (toOrd (.tuple ds)).map natV := by
      refine List.ext_getElem? fun i => ?_
      show xs[i]? = ((ds.map fun d => (valI d).toNat).map natV)[i]?
      rw [List.getElem?_map, List.getElem?_map]
      by_cases hi : i < xs.length
      · have gx : xs[i]? = some xs[i] := List.getElem?_eq_getElem hi
        obtain ⟨d, e1, e2⟩ := dpAll_get ha gx
        obtain ⟨w1, b1, b2⟩ := btw_iff.mp (hall d (List.mem_of_getElem? e1))
        rw [e1, gx]
        rw [isW_int w1] at e2
        have e3 := dp_int e2
        rw [e3]
        show some (V.int (valI d)) = some (natV (valI d).toNat)
        unfold natV
        rw [Int.toNat_of_nonneg b1]
      · rw [List.getElem?_eq_none (by omega), List.getElem?_eq_none (by omega)]
        rfl
    have hb : Beg n (toOrd (.tuple ds)) := by
      refine ⟨?_, fun k hk => ?_⟩
      · show (ds.map fun d => (valI d).toNat).Nodup
        have e : (ds.map fun d => (valI d).toNat) = (ds.map valI).map Int.toNat := by rw [List.map_map]; rfl
        rw [e]
        have hnn : ∀ i ∈ ds.map valI, 0 ≤ i := fun i hi => by
          obtain ⟨d, hd, rfl⟩ := List.mem_map.mp hi
          exact (btw_iff.mp (hall d hd)).2.1
        have key : ∀ {l : List Int}, l.Nodup → (∀ i ∈ l, 0 ≤ i) → (l.map Int.toNat).Nodup := by
          intro l
          induction l with
          | nil => intro _ _; simp
          | cons x l ih =>
            intro h1 h2
            have hx := List.nodup_cons.mp h1
            rw [List.map_cons, List.nodup_cons]
            refine ⟨fun z => ?_, ih hx.2 fun i hi => h2 i (List.mem_cons_of_mem _ hi)⟩
            obtain ⟨y, hy, e⟩ := List.mem_map.mp z
            have h3 := h2 x List.mem_cons_self
            have h4 := h2 y (List.mem_cons_of_mem _ hy)
            exact hx.1 ((show y = x by omega) ▸ hy)
        exact key hnd hnn
      · obtain ⟨d, hd, rfl⟩ := List.mem_map.mp hk
        have := (btw_iff.mp (hall d hd)).2
        omega
    have hol : (toOrd (.tuple ds)).length = n := by show (ds.map _).length = n; rw [List.length_map]; exact hlen
    have h0 : leftN n (toOrd (.tuple ds)) = [] := List.length_eq_zero_iff.mp (by have := beg_len hb; omega)
    have hp := perm_of_beg hb
    rw [h0, List.append_nil] at hp
    exact ⟨a, rfl, by rw [← ex]; exact hs, hp⟩
end
end K3
/-! len(set(t)) of a tuple of whole numbers -/
namespace LS
open PySem PySem.Spec PyProof.Rows L2
def tLenSetT (K : PySem.W.Frag) (ta : TE) : TE := fun σ H Q => ta σ H fun x H1 => ∃ (l : Addr) (ns : List Int), x = .ref l ∧ SqT K H1 l (ns.map V.int) ∧ ns.length ≤ 1000 ∧
  ∀ out : List Int, out.Nodup → (∀ k, k ∈ out ↔ k ∈ ns) → Q (.int (out.length : Nat)) H1
theorem pe_lenSetT {X : Cx} {a : Expr} {ta : TE} {p p2 q pos : Pos} (hg : Gl X "len") (hm : X.mg "len" = none) (hg2 : Gl X "set") (hm2 : X.mg "set" = none) (ha : PE X a ta) (hc : X.calm = true := by rfl)
    (na : starEach [a] X.env = (false, eval a X.env) :: starEach [] X.env := by rfl) : PE X (.Call (.Name "len" p) [.Call (.Name "set" p2) [a] [] q] [] pos) (tLenSetT X.K ta) := by
  refine ⟨fun pins s σ H Q I h => ?_⟩
  refine Call_ (ld_blt I hg hm boot_len (PyProof.Rows.callWith_builtin1 (PyProof.Rows.args_cons ?_ rfl) rfl rfl))
  refine Call_ (ld_blt I hg2 hm2 PyProof.Rows.boot_set (PyProof.Rows.callWith_type1 (PyProof.Rows.args_cons (thn (ha.run pins s σ H _ I h) fun v s1 ⟨x, H1, I1, r1, q1⟩ => PyProof.Rows.args_nil ?_) na) na rfl))
  obtain ⟨l, ns, rfl, hq, hl, q1⟩ := q1
  cases r1
  obtain ⟨its, rv, pt, hz⟩ := I1.tuple hq
  have hi : IntsAre its.toArray.toList ns := ints_of_vals rv
  refine call_set_tupI ns (I1.ok.hd hc) (show s1.heap.IsTuple l its.toArray from pt) hi (by unfold scanBound; omega) fun h' tk c R1 hcn k => ?_
  refine PyProof.Rows.args_nil ?_
  obtain ⟨o, es, ep, t, ho, hex, hd, g, nd, hm3, hb, hf, hn, hr, hl2⟩ := R1
  have I2 : Inv X pins σ H1 { s1 with heap := h', toks := tk } := I1.kept fun b o e => k b o e
  have hlen : (es.toList.map keyOf).length = es.size := by rw [List.length_map, Array.length_toList]
  refine call_len_set ho hex hd hf (by omega) ⟨.int (es.size : Nat), H1, I2.tok _, ⟨_, rfl⟩, ?_⟩
  rw [← hlen]
  refine q1 _ nd fun j => ?_
  have := hm3 j
  rw [← this, decide_eq_true_eq]
end LS
namespace K3
open PySem PySem.Spec PyProof.Rows L2 K1
abbrev s_is_whole : Stmt := topS 1
abbrev nm_is_whole : List Str := ["thing"]
abbrev pm_is_whole : List Str := ["thing"]
theorem sc_is_whole : FnScope nm_is_whole pm_is_whole (defScope s_is_whole) := ⟨rfl, rfl, rfl, by decide +kernel, rfl, by decide +kernel, by decide +kernel⟩
abbrev s_is_between : Stmt := topS 2
abbrev nm_is_between : List Str := ["thing", "least", "most"]
abbrev pm_is_between : List Str := ["thing", "least", "most"]
theorem sc_is_between : FnScope nm_is_between pm_is_between (defScope s_is_between) := ⟨rfl, rfl, rfl, by decide +kernel, rfl, by decide +kernel, by decide +kernel⟩
abbrev s_is_tuple_of : Stmt := topS 3
abbrev nm_is_tuple_of : List Str := ["thing", "many"]
abbrev pm_is_tuple_of : List Str := ["thing", "many"]
theorem sc_is_tuple_of : FnScope nm_is_tuple_of pm_is_tuple_of (defScope s_is_tuple_of) := ⟨rfl, rfl, rfl, by decide +kernel, rfl, by decide +kernel, by decide +kernel⟩
abbrev s_is_part : Stmt := topS 14
abbrev nm_is_part : List Str := ["thing"]
abbrev pm_is_part : List Str := ["thing"]
theorem sc_is_part : FnScope nm_is_part pm_is_part (defScope s_is_part) := ⟨rfl, rfl, rfl, by decide +kernel, rfl, by decide +kernel, by decide +kernel⟩
abbrev s_are_parts : Stmt := topS 15
abbrev nm_are_parts : List Str := ["thing", "each"]
abbrev pm_are_parts : List Str := ["thing"]
theorem sc_are_parts : FnScope nm_are_parts pm_are_parts (defScope s_are_parts) := ⟨rfl, rfl, rfl, by decide +kernel, rfl, by decide +kernel, by decide +kernel⟩
abbrev s_is_order : Stmt := topS 16
abbrev nm_is_order : List Str := ["thing", "many", "each"]
abbrev pm_is_order : List Str := ["thing", "many"]
theorem sc_is_order : FnScope nm_is_order pm_is_order (defScope s_is_order) := ⟨rfl, rfl, rfl, by decide +kernel, rfl, by decide +kernel, by decide +kernel⟩
abbrev s_tree_fault : Stmt := topS 17
abbrev nm_tree_fault : List Str := ["parts", "tree", "bits", "left", "beginning", "thing", "numbers", "rows", "number", "inner"]
abbrev pm_tree_fault : List Str := ["parts", "tree", "bits"]
theorem sc_tree_fault : FnScope nm_tree_fault pm_tree_fault (defScope s_tree_fault) := ⟨rfl, rfl, rfl, by decide +kernel, rfl, by decide +kernel, by decide +kernel⟩
abbrev s_orderfault : Stmt := topS 18
abbrev nm_orderfault : List Str := ["parts", "paper", "bits", "order", "tree", "beginning"]
abbrev pm_orderfault : List Str := ["parts", "paper"]
theorem sc_orderfault : FnScope nm_orderfault pm_orderfault (defScope s_orderfault) := ⟨rfl, rfl, rfl, by decide +kernel, rfl, by decide +kernel, by decide +kernel⟩
section
variable {P : Program} {w : World} {K : PySem.W.Frag} {mg : Str → Option Value} {base : Heap}
def sp_is_whole (K : PySem.W.Frag) : Sp := sp__law_whole K
theorem ok_is_whole {f : Addr} {fd : FuncData} (F : Fun K "is_whole" "is_whole" s_is_whole f fd) (m_isinstance : mg "isinstance" = none) (m_int : mg "int" = none) (m_bool : mg "bool" = none) : FnOk P w K mg base CX0 1 f fd pm_is_whole (sp_is_whole K) := by
  refine F.ok sc_is_whole (fun vs H Q E h => ?_) (fun cdv A outer s H vs Q E hr h => ?_)
  · obtain ⟨v, d, rfl, _⟩ := h
    rfl
  · obtain ⟨v, d, rfl, hv, pd, q⟩ := h
    refine ⟨_, pss_one (ps_ret (pe_and (pe_callB call_isi (by rfl) m_isinstance (by decide +kernel) (pa_cons (pv 0) (pa_cons (pe_bltn (v := .ty "int") (by rfl) m_int (show bootBuiltins "int" = some (.type "int") by decide +kernel) rfl) pa_nil))) (pe_one (pe_not (pe_callB call_isi (by rfl) m_isinstance (by decide +kernel) (pa_cons (pv 0) (pa_cons (pe_bltn (v := .ty "bool") (by rfl) m_bool (show bootBuiltins "bool" = some (.type "bool") by decide +kernel) rfl) pa_nil))))))), ?_⟩
    refine ⟨v, rfl, v, _, _, _, isI d, rfl, .ty "int", dp_ty hv pd, kit_ty (kI d), isI d, rfl, ite2 (fun c => ?_) (fun c => ?_)⟩
    · refine ⟨v, rfl, v, _, _, _, isB d, rfl, .ty "bool", dp_ty hv pd, kit_ty (kB d), isB d, rfl, ?_⟩
      have e : isW d = !isB d := by unfold isW; rw [c]; rfl
      rw [← e]
      exact q
    · have e : isW d = false := by unfold isW; rw [Bool.eq_false_iff.mpr c]; rfl
      rw [e] at q
      exact q
def sp_is_between (K : PySem.W.Frag) : Sp := fun vs H Q _ => ∃ (v : V) (d : PyData) (lo hi : Int), vs = [v, .int lo, .int hi] ∧ Dp K H v d ∧ pl d = true ∧ Q (.bl (btw d lo hi)) H
theorem ok_is_between {f : Addr} {fd : FuncData} (F : Fun K "is_between" "is_between" s_is_between f fd) (C_is_whole : Cal P w K mg base "is_whole" pm_is_whole 1 (sp_is_whole K)) : FnOk P w K mg base CX0 2 f fd pm_is_between (sp_is_between K) := by
  obtain ⟨f_is_whole, fd_is_whole, G_is_whole, g_is_whole, k_is_whole, b_is_whole⟩ := C_is_whole.ex
  refine F.ok sc_is_between (fun vs H Q E h => ?_) (fun cdv A outer s H vs Q E hr h => ?_)
  · obtain ⟨v, d, lo, hi, rfl, _⟩ := h
    rfl
  · obtain ⟨v, d, lo, hi, rfl, hv, pd, q⟩ := h
    have rm : ∀ {j : Nat}, j ≤ 1 → Room j (A.deeper (envOfC "is_between" (defScope s_is_between) s.heap.objs.size f cdv)) := fun hj => hr.mono hj
    refine ⟨_, pss_one (ps_ret (pe_and (pe_call G_is_whole (rm (by decide)) (by rfl) g_is_whole k_is_whole b_is_whole .nil pass0 (pa_cons (pv 0) pa_nil)) (pe_one (pe_chain op_le op_le (pv 1) (pv 0) (pv 2))))), ?_⟩
    refine ⟨v, rfl, v, d, rfl, hv, pd, isW d, rfl, ite2 (fun c => ?_) (fun c => ?_)⟩
    · have ed := isW_int c
      have e : btw d lo hi = (decide (lo ≤ valI d) && decide (valI d ≤ hi)) := by unfold btw; rw [c]; rfl
      rw [e] at q
      generalize valI d = i at ed q
      subst ed
      have ev := dp_int hv
      subst ev
      refine ⟨.int lo, rfl, .int i, rfl, _, _, rfl, rfl, _, rfl, ite2 (fun c1 => ?_) (fun c1 => ?_)⟩
      · refine ⟨.int hi, rfl, _, _, rfl, rfl, ?_⟩
        have c1' : decide (lo ≤ i) = true := c1
        rw [c1', Bool.true_and] at q
        exact q
      · have c1' : decide (lo ≤ i) = false := Bool.eq_false_iff.mpr c1
        rw [c1', Bool.false_and] at q
        exact q
    · have e : btw d lo hi = false := by unfold btw; rw [Bool.eq_false_iff.mpr c]; rfl
      rw [e] at q
      exact q
def tupN (d : PyData) (m : Int) : Bool := match d with
  | .tuple ds => decide ((ds.length : Int) = m)
  | _ => false
def sp_is_tuple_of (K : PySem.W.Frag) : Sp := fun vs H Q _ => ∃ (v : V) (d : PyData) (m : Int), vs = [v, .int m] ∧ Dp K H v d ∧ pl d = true ∧ Q (.bl (tupN d m)) H
theorem ok_is_tuple_of {f : Addr} {fd : FuncData} (F : Fun K "is_tuple_of" "is_tuple_of" s_is_tuple_of f fd) (m_isinstance : mg "isinstance" = none) (m_tuple : mg "tuple" = none) (m_len : mg "len" = none) : FnOk P w K mg base CX0 1 f fd pm_is_tuple_of (sp_is_tuple_of K) := by
  refine F.ok sc_is_tuple_of (fun vs H Q E h => ?_) (fun cdv A outer s H vs Q E hr h => ?_)
  · obtain ⟨v, d, m, rfl, _⟩ := h
    rfl
  · obtain ⟨v, d, m, rfl, hv, pd, q⟩ := h
    refine ⟨_, pss_one (ps_ret (pe_and (pe_callB call_isi (by rfl) m_isinstance (by decide +kernel) (pa_cons (pv 0) (pa_cons (pe_bltn (v := .ty "tuple") (by rfl) m_tuple (show bootBuiltins "tuple" = some (.type "tuple") by decide +kernel) rfl) pa_nil))) (pe_one (pe_cmpR op_eq (pe_callB call_len_seq (by rfl) m_len PySem.boot_len (pa_cons (pv 0) pa_nil)) (pv 1) (nomark _))))), ?_⟩
    refine ⟨v, rfl, v, _, _, _, isT d, rfl, .ty "tuple", dp_ty hv pd, kit_ty (kT d), isT d, rfl, ite2 (fun c => ?_) (fun c => ?_)⟩
    · cases d with
      | tuple ds =>
        obtain ⟨a, xs, rfl, hs, ha⟩ := dp_tup hv
        have hl := dpAll_len ha
        refine ⟨.ref a, rfl, a, xs, rfl, .inr hs, .int m, rfl, rfl, ?_⟩
        have e : decide (V.int (xs.length : Int) = V.int m) = tupN (.tuple ds) m := by
          show _ = decide ((ds.length : Int) = m)
          by_cases z : (ds.length : Int) = m
          · rw [decide_eq_true z, decide_eq_true (by rw [hl, z])]
          · rw [decide_eq_false z, decide_eq_false fun z' => z (by rw [← hl]; exact V.int.inj z')]
        rw [e]
        exact q
      | _ => cases c
    · have e : tupN d m = false := by
        cases d <;> first | rfl | exact absurd rfl c
      rw [e] at q
      exact q
def sp_is_part (K : PySem.W.Frag) : Sp := fun vs H Q _ => ∃ (v : V) (d : PyData), vs = [v] ∧ Dp K H v d ∧ pl d = true ∧ Q (.bl (partB d)) H
theorem two_of {ds : List PyData} (h : (ds.length : Int) = 2) : ∃ a b, ds = [a, b] := by
  match ds, h with
  | [a, b], _ => exact ⟨a, b, rfl⟩
  | [], h => exact absurd h (by simp)
  | [_], h => exact absurd h (by simp)
  | _ :: _ :: _ :: _, h => simp at h; omega
theorem ok_is_part {f : Addr} {fd : FuncData} (F : Fun K "is_part" "is_part" s_is_part f fd) (C_is_whole : Cal P w K mg base "is_whole" pm_is_whole 1 (sp_is_whole K)) (C_is_tuple_of : Cal P w K mg base "is_tuple_of" pm_is_tuple_of 1 (sp_is_tuple_of K)) (C_is_between : Cal P w K mg base "is_between" pm_is_between 2 (sp_is_between K)) {a_ALIGNS : Addr} (g_ALIGNS : mg "ALIGNS" = some (.ref a_ALIGNS)) (h_ALIGNS : ∀ H : Hp, SqT K H a_ALIGNS [.int 1, .int 8, .int 16, .int 32, .int 64]) {t_MOST_SIZE : Nat} (g_MOST_SIZE : mg "MOST_SIZE" = some (.int 4096 t_MOST_SIZE)) : FnOk P w K mg base CX0 3 f fd pm_is_part (sp_is_part K) := by
  obtain ⟨f_is_whole, fd_is_whole, G_is_whole, g_is_whole, k_is_whole, b_is_whole⟩ := C_is_whole.ex
  obtain ⟨f_is_tuple_of, fd_is_tuple_of, G_is_tuple_of, g_is_tuple_of, k_is_tuple_of, b_is_tuple_of⟩ := C_is_tuple_of.ex
  obtain ⟨f_is_between, fd_is_between, G_is_between, g_is_between, k_is_between, b_is_between⟩ := C_is_between.ex
  refine F.ok sc_is_part (fun vs H Q E h => ?_) (fun cdv A outer s H vs Q E hr h => ?_)
  · obtain ⟨v, d, rfl, _⟩ := h
    rfl
  · obtain ⟨v, d, rfl, hv, pd, q⟩ := h
    have rm : ∀ {j : Nat}, j ≤ 2 → Room j (A.deeper (envOfC "is_part" (defScope s_is_part) s.heap.objs.size f cdv)) := fun hj => hr.mono hj
    refine ⟨_, pss_cons (ps_if (PW.pt (pw_or (pt_not (pt_val (pe_call G_is_tuple_of (rm (by decide)) (by rfl) g_is_tuple_of k_is_tuple_of b_is_tuple_of .nil pass0 (pa_cons (pv 0) (pa_cons pe_int pa_nil))))) (pw_or1 (pt_not (pt_val (pe_call G_is_between (rm (by decide)) (by rfl) g_is_between k_is_between b_is_between .nil pass0 (pa_cons (pe_ix ix_tup (pv 0) pe_int (fun _ _ => rfl)) (pa_cons pe_int (pa_cons (pe_glob (v := .int 4096) (by rfl) g_MOST_SIZE ⟨_, rfl⟩) pa_nil)))))))))
      (pss_one (ps_ret pe_bl)) pss_nil)
      (pss_one (ps_ret (pe_and (pe_call G_is_whole (rm (by decide)) (by rfl) g_is_whole k_is_whole b_is_whole .nil pass0 (pa_cons (pe_ix ix_tup (pv 0) pe_int (fun _ _ => rfl)) pa_nil)) (pe_one (pe_cmpR op_in_seq (pe_ix ix_tup (pv 0) pe_int (fun _ _ => rfl)) (pe_glob (v := .ref a_ALIGNS) (by rfl) g_ALIGNS rfl) (by rfl)))))), ?_⟩
    refine ⟨v, rfl, v, d, 2, rfl, hv, pd, tupN d 2, rfl, ite2 (fun c => ?_) (fun c => ?_)⟩
    · have e : partB d = false := by
        cases d with
        | tuple ds =>
          have nz : ¬ (ds.length : Int) = 2 := fun z => by
            have e2 : tupN (.tuple ds) 2 = true := decide_eq_true z
            rw [e2] at c
            cases c
          match ds, nz with
          | [], _ => rfl
          | [_], _ => rfl
          | [_, _], nz => exact absurd rfl nz
          | _ :: _ :: _ :: _, _ => rfl
        | _ => rfl
      rw [e] at q
      exact q
    cases d with
    | tuple ds =>
      have z2 : (ds.length : Int) = 2 := by
        cases e : tupN (.tuple ds) 2 with
        | true => exact of_decide_eq_true e
        | false => rw [e] at c; exact absurd rfl c
      obtain ⟨x, y, rfl⟩ := two_of z2
      obtain ⟨a, xs, rfl, hs, ha⟩ := dp_tup hv
      have pxy : pl x = true ∧ pl y = true := by simpa [pl, plA] using pd
      cases ha with
      | @cons v1 _ _ _ h1 r =>
        cases r with
        | @cons v2 _ _ _ h2 r2 =>
          cases r2
          have ep : partB (.tuple [x, y]) = (btw x 0 4096 && (isW y && alB (valI y))) := rfl
          refine ⟨.ref a, rfl, a, _, 0, v1, rfl, rfl, hs, atI_nat (j := 0) rfl, v1, x, 0, 4096, rfl, h1, pxy.1, btw x 0 4096, rfl, ite2 (fun c1 => ?_) (fun c1 => ?_)⟩
          · have e1 : btw x 0 4096 = false := by
              cases e : btw x 0 4096 with
              | false => rfl
              | true => rw [e] at c1; cases c1
            rw [ep, e1] at q
            exact q
          have e1 : btw x 0 4096 = true := by
            cases e : btw x 0 4096 with
            | true => rfl
            | false => rw [e] at c1; exact absurd rfl c1
          rw [ep, e1, Bool.true_and] at q
          refine ⟨.ref a, rfl, a, _, 1, v2, rfl, rfl, hs, atI_nat (j := 1) rfl, v2, y, rfl, h2, pxy.2, isW y, rfl, ite2 (fun c2 => ?_) (fun c2 => ?_)⟩
          · have ey := isW_int c2
            rw [c2, Bool.true_and] at q
            generalize valI y = m at ey q
            subst ey
            have ev := dp_int h2
            subst ev
            refine ⟨.ref a, rfl, a, _, 1, _, rfl, rfl, hs, atI_nat (j := 1) rfl, a_ALIGNS, _, rfl, .inr (h_ALIGNS H), rfl, rfl, ?_⟩
            rw [if_neg (by decide)]
            exact q
          · rw [Bool.eq_false_iff.mpr c2, Bool.false_and] at q
            exact q
    | _ => exact absurd rfl c
def sp_are_parts (K : PySem.W.Frag) : Sp := fun vs H Q _ => ∃ (v : V) (d : PyData), vs = [v] ∧ Dp K H v d ∧ pl d = true ∧ sz d ≤ 1000000 ∧ ∀ H', Same H H' → Q (.bl (partsB d)) H'
theorem all_map {α : Type} (f : α → Bool) (l : List α) : (l.map f).all id = l.all f := by
  rw [List.all_map]
  rfl
theorem ok_are_parts {f : Addr} {fd : FuncData} (F : Fun K "are_parts" "are_parts" s_are_parts f fd) (C_is_part : Cal P w K mg base "is_part" pm_is_part 3 (sp_is_part K)) (m_isinstance : mg "isinstance" = none) (m_tuple : mg "tuple" = none) (m_all : mg "all" = none) (m_len : mg "len" = none) {t_MOST_LAID : Nat} (g_MOST_LAID : mg "MOST_LAID" = some (.int 8 t_MOST_LAID)) : FnOk P w K mg base CX0 4 f fd pm_are_parts (sp_are_parts K) := by
  obtain ⟨f_is_part, fd_is_part, G_is_part, g_is_part, k_is_part, b_is_part⟩ := C_is_part.ex
  refine F.ok sc_are_parts (fun vs H Q E h => ?_) (fun cdv A outer s H vs Q E hr h => ?_)
  · obtain ⟨v, d, rfl, _⟩ := h
    rfl
  · obtain ⟨v, d, rfl, hv, pd, sd, q⟩ := h
    have rm : ∀ {j : Nat}, j ≤ 3 → Room j (A.deeper (envOfC "are_parts" (defScope s_are_parts) s.heap.objs.size f cdv)) := fun hj => hr.mono hj
    refine ⟨_, pss_one (ps_ret (pe_and (pe_callB call_isi (by rfl) m_isinstance (by decide +kernel) (pa_cons (pv 0) (pa_cons (pe_bltn (v := .ty "tuple") (by rfl) m_tuple (show bootBuiltins "tuple" = some (.type "tuple") by decide +kernel) rfl) pa_nil))) (pe_and (pe_cmpR op_le (pe_callB call_len_seq (by rfl) m_len PySem.boot_len (pa_cons (pv 0) pa_nil)) (pe_glob (v := .int 8) (by rfl) g_MOST_LAID ⟨_, rfl⟩) (nomark _)) (pe_one (pe_callB (cr_all rfl) (by rfl) m_all (by decide +kernel) (pa_cons (pe_lc (own := [("each", 1)]) (g := gName 1) (tt := tYes) rfl sc_are_parts.nd (pi_tup (pv 0)) (blkOk_by (N := nm_are_parts) (sc := defScope s_are_parts) (by decide +kernel)) (fun _ _ _ _ _ => pg_name (i := 1) sc_are_parts.nd rfl (Or.inl rfl)) (fun _ _ _ _ _ => pts_nil) (fun _ _ _ _ _ => (pe_call G_is_part (rm (by decide)) (by rfl) g_is_part k_is_part b_is_part .nil pass0 (pa_cons (pv 1) pa_nil)))) pa_nil)))))), ?_⟩
    refine ⟨v, rfl, v, _, _, _, isT d, rfl, .ty "tuple", dp_ty hv pd, kit_ty (kT d), isT d, rfl, ite2 (fun c => ?_) (fun c => ?_)⟩
    · cases d with
      | tuple ds =>
        obtain ⟨a, xs, rfl, hs, ha⟩ := dp_tup hv
        have hl := dpAll_len ha
        have hls := len_szA ds
        have hse : szA ds + 1 ≤ 1000000 := sd
        have ep : partsB (.tuple ds) = (decide (ds.length ≤ 8) && ds.all partB) := rfl
        refine ⟨.ref a, rfl, a, xs, rfl, .inr hs, _, _, rfl, rfl, _, rfl, ite2 (fun c1 => ?_) (fun c1 => ?_)⟩
        · have h8 : ds.length ≤ 8 := by have := of_decide_eq_true c1; omega
          rw [ep, decide_eq_true h8, Bool.true_and] at q
          refine ⟨.ref a, rfl, a, rfl, ⟨_, hs⟩, fun D hD => lc_tup (xs := xs) (fun i H' => H' D = some (.lst (((ds.take i).map partB).map V.bl)) ∧ Same H H') ⟨upd_same, same_upd hD⟩ (fun i H' _ hp => ts_same hp.2 _ _ hs) (fun i x H' hx hp => ?_) (fun H' hp => ?_)⟩
          · obtain ⟨eD, s'⟩ := hp
            obtain ⟨di, k1, k2⟩ := dpAll_get ha hx
            have pdi : pl di = true := plA_mem pd (List.mem_of_getElem? k1)
            have hi := (List.getElem?_eq_some_iff.mp k1).1
            refine ⟨rfl, ?_⟩
            dsimp only [tYes]
            refine iteT ?_
            refine ⟨x, rfl, x, di, rfl, (ts_same s').dp _ _ pdi k2, pdi, _, eD, ?_, ?_, ?_⟩
            · rw [List.length_map, List.length_map, List.length_take]
              exact Nat.lt_of_le_of_lt (show min i ds.length ≤ 1000 by omega) (by decide)
            · rw [List.take_add_one, k1, upd_same, List.map_append, List.map_append]
              rfl
            · intro b u e
              rw [upd_ne (ne_of_none e hD)]
              exact s' b u e
          · obtain ⟨eD, s'⟩ := hp
            rw [hl, List.take_length] at eD
            refine ⟨D, _, rfl, .inl (.inl eD), ?_⟩
            rw [all_map]
            exact q H' s'
        · have h8 : ¬ ds.length ≤ 8 := fun z => c1 (decide_eq_true (by rw [hl]; omega))
          rw [ep, decide_eq_false h8, Bool.false_and] at q
          exact q H (Same.refl _)
      | _ => cases c
    · have e : partsB d = false := by
        cases d <;> first | rfl | exact absurd rfl c
      rw [e] at q
      exact q H (Same.refl _)
def sp_is_order (K : PySem.W.Frag) : Sp := fun vs H Q _ => ∃ (v : V) (d : PyData) (n : Nat), vs = [v, natV n] ∧ Dp K H v d ∧ pl d = true ∧ n ≤ 8 ∧ ∀ H', Same H H' → Q (.bl (ordB n d)) H'
theorem le_of_sub {as bs : List Int} (h1 : as.Nodup) (h2 : ∀ k, k ∈ as → k ∈ bs) : as.length ≤ bs.length := by
  induction as generalizing bs with
  | nil => simp
  | cons x as ih =>
    have hx := List.nodup_cons.mp h1
    have mx : x ∈ bs := h2 x List.mem_cons_self
    have p := List.perm_cons_erase mx
    have := ih (bs := bs.erase x) hx.2 fun k hk => by
      have hne : k ≠ x := fun z => hx.1 (z ▸ hk)
      exact (List.mem_cons.mp (p.mem_iff.mp (h2 k (List.mem_cons_of_mem _ hk)))).resolve_left hne
    have e := p.length_eq
    simp at e ⊢
    omega
theorem nodup_of_len {out ns : List Int} (ho : out.Nodup) (hm : ∀ k, k ∈ out ↔ k ∈ ns) : (out.length = ns.length ↔ ns.Nodup) := by
  constructor
  · intro hl
    induction ns generalizing out with
    | nil => simp
    | cons x ns ih =>
      have mx : x ∈ out := (hm x).mpr List.mem_cons_self
      have p := List.perm_cons_erase mx
      have ho' := List.nodup_cons.mp (p.nodup_iff.mp ho)
      by_cases hx : x ∈ ns
      · have : out.length ≤ ns.length := le_of_sub ho fun k hk => by
          rcases List.mem_cons.mp ((hm k).mp hk) with e | e
          · rw [e]; exact hx
          · exact e
        simp at hl
        omega
      · refine List.nodup_cons.mpr ⟨hx, ih ho'.2 (fun k => ?_) (by have := p.length_eq; simp at this hl; omega)⟩
        constructor
        · intro hk
          have hne : k ≠ x := fun z => ho'.1 (z ▸ hk)
          exact (List.mem_cons.mp ((hm k).mp (p.mem_iff.mpr (List.mem_cons_of_mem _ hk)))).resolve_left hne
        · intro hk
          have hne : k ≠ x := fun z => hx (z ▸ hk)
          exact (List.mem_cons.mp (p.mem_iff.mp ((hm k).mpr (List.mem_cons_of_mem _ hk)))).resolve_left hne
  · intro hn
    exact Nat.le_antisymm (le_of_sub ho fun k hk => (hm k).mp hk) (le_of_sub hn fun k hk => (hm k).mpr hk)
theorem vals_ints {H : Hp} : ∀ {xs : List V} {ds : List PyData}, DpAll K H xs ds → (∀ d ∈ ds, isW d = true) → xs = (ds.map valI).map V.int
  | _, _, .nil, _ => rfl
  | _, _, .cons (d := d) h t, hw => by
    have e := isW_int (hw d List.mem_cons_self)
    rw [e] at h
    have ev := dp_int h
    rw [List.map_cons, List.map_cons, ← vals_ints t fun d hd => hw d (List.mem_cons_of_mem _ hd), ev]
theorem ok_is_order {f : Addr} {fd : FuncData} (F : Fun K "is_order" "is_order" s_is_order f fd) (C_is_tuple_of : Cal P w K mg base "is_tuple_of" pm_is_tuple_of 1 (sp_is_tuple_of K)) (C_is_between : Cal P w K mg base "is_between" pm_is_between 2 (sp_is_between K)) (m_len : mg "len" = none) (m_all : mg "all" = none) (m_set : mg "set" = none) : FnOk P w K mg base CX0 3 f fd pm_is_order (sp_is_order K) := by
  obtain ⟨f_is_tuple_of, fd_is_tuple_of, G_is_tuple_of, g_is_tuple_of, k_is_tuple_of, b_is_tuple_of⟩ := C_is_tuple_of.ex
  obtain ⟨f_is_between, fd_is_between, G_is_between, g_is_between, k_is_between, b_is_between⟩ := C_is_between.ex
  refine F.ok sc_is_order (fun vs H Q E h => ?_) (fun cdv A outer s H vs Q E hr h => ?_)
  · obtain ⟨v, d, n, rfl, _⟩ := h
    rfl
  · obtain ⟨v, d, n, rfl, hv, pd, hn, q⟩ := h
    have rm : ∀ {j : Nat}, j ≤ 2 → Room j (A.deeper (envOfC "is_order" (defScope s_is_order) s.heap.objs.size f cdv)) := fun hj => hr.mono hj
    refine ⟨_, pss_cons (ps_if (PW.pt (pw_or (pt_not (pt_val (pe_call G_is_tuple_of (rm (by decide)) (by rfl) g_is_tuple_of k_is_tuple_of b_is_tuple_of .nil pass0 (pa_cons (pv 0) (pa_cons (pv 1) pa_nil))))) (pw_or1 (pt_not (pt_val (pe_callB (cr_all rfl) (by rfl) m_all (by decide +kernel) (pa_cons (pe_lc (own := [("each", 2)]) (g := gName 2) (tt := tYes) rfl sc_is_order.nd (pi_tup (pv 0)) (blkOk_by (N := nm_is_order) (sc := defScope s_is_order) (by decide +kernel)) (fun _ _ _ _ _ => pg_name (i := 2) sc_is_order.nd rfl (Or.inl rfl)) (fun _ _ _ _ _ => pts_nil) (fun _ _ _ _ _ => (pe_call G_is_between (rm (by decide)) (by rfl) g_is_between k_is_between b_is_between .nil pass0 (pa_cons (pv 2) (pa_cons pe_int (pa_cons (pe_op op_sub (pv 1) pe_int) pa_nil)))))) pa_nil)))))))
      (pss_one (ps_ret pe_bl)) pss_nil)
      (pss_one (ps_ret (pe_cmpR op_eq (LS.pe_lenSetT (by rfl) m_len (by rfl) m_set (pv 0)) (pv 1) (nomark _)))), ?_⟩
    refine ⟨v, rfl, natV n, rfl, v, d, (n : Int), rfl, hv, pd, tupN d n, rfl, ite2 (fun c => ?_) (fun c => ?_)⟩
    · have e : ordB n d = false := by
        cases d with
        | tuple ds =>
          have nz : ¬ ds.length = n := fun z => by
            have e2 : tupN (.tuple ds) n = true := decide_eq_true (by omega)
            rw [e2] at c
            cases c
          show (decide (ds.length = n) && _) = false
          rw [decide_eq_false nz]
          rfl
        | _ => rfl
      have := q H (Same.refl _)
      rw [e] at this
      exact this
    cases d with
    | tuple ds =>
      have zl : ds.length = n := by
        cases e : tupN (.tuple ds) n with
        | true => have := of_decide_eq_true (p := (ds.length : Int) = n) e; omega
        | false => rw [e] at c; exact absurd rfl c
      obtain ⟨a, xs, rfl, hs, ha⟩ := dp_tup hv
      have hl := dpAll_len ha
      have eo : ordB n (.tuple ds) = (ds.all (fun d => btw d 0 ((n : Int) - 1)) && decide ((ds.map valI).Nodup)) := by
        show (decide (ds.length = n) && _) = _
        rw [decide_eq_true zl, Bool.true_and]
      rw [eo] at q
      refine ⟨.ref a, rfl, a, rfl, ⟨_, hs⟩, fun D hD => lc_tup (xs := xs) (fun i H' => H' D = some (.lst (((ds.take i).map fun d => btw d 0 ((n : Int) - 1)).map V.bl)) ∧ Same H H') ⟨upd_same, same_upd hD⟩ (fun i H' _ hp => ts_same hp.2 _ _ hs) (fun i x H' hx hp => ?_) (fun H' hp => ?_)⟩
      · obtain ⟨eD, s'⟩ := hp
        obtain ⟨di, k1, k2⟩ := dpAll_get ha hx
        have pdi : pl di = true := plA_mem pd (List.mem_of_getElem? k1)
        have hi := (List.getElem?_eq_some_iff.mp k1).1
        refine ⟨rfl, ?_⟩
        dsimp only [tYes]
        refine iteT ?_
        refine ⟨x, rfl, natV n, rfl, _, _, rfl, rfl, x, di, 0, (n : Int) - 1, rfl, (ts_same s').dp _ _ pdi k2, pdi, _, eD, ?_, ?_, ?_⟩
        · rw [List.length_map, List.length_map, List.length_take]
          exact Nat.lt_of_le_of_lt (show min i ds.length ≤ 1000 by omega) (by decide)
        · rw [List.take_add_one, k1, upd_same, List.map_append, List.map_append]
          rfl
        · intro b u e
          rw [upd_ne (ne_of_none e hD)]
          exact s' b u e
      · obtain ⟨eD, s'⟩ := hp
        rw [hl, List.take_length] at eD
        refine ⟨D, _, rfl, .inl (.inl eD), _, rfl, ?_⟩
        rw [all_map]
        refine ite2 (fun c1 => ?_) (fun c1 => ?_)
        · have e1 : ds.all (fun d => btw d 0 ((n : Int) - 1)) = false := by
            cases e : ds.all (fun d => btw d 0 ((n : Int) - 1)) with
            | false => rfl
            | true => rw [e] at c1; cases c1
          rw [e1, Bool.false_and] at q
          exact q H' s'
        have e1 : ds.all (fun d => btw d 0 ((n : Int) - 1)) = true := by
          cases e : ds.all (fun d => btw d 0 ((n : Int) - 1)) with
          | true => rfl
          | false => rw [e] at c1; exact absurd rfl c1
        rw [e1, Bool.true_and] at q
        have hw : ∀ d ∈ ds, isW d = true := fun d hd => (btw_iff.mp (List.all_eq_true.mp e1 d hd)).1
        have ex := vals_ints ha hw
        refine ⟨.ref a, rfl, a, ds.map valI, rfl, by rw [← ex]; exact ts_same s' _ _ hs, by rw [List.length_map]; omega, fun out nd hm => ?_⟩
        refine ⟨natV n, rfl, rfl, ?_⟩
        have key := nodup_of_len nd hm
        rw [List.length_map, zl] at key
        have e2 : decide (V.int (out.length : Int) = natV n) = decide ((ds.map valI).Nodup) := by
          by_cases z : (ds.map valI).Nodup
          · rw [decide_eq_true z, decide_eq_true (by rw [key.mpr z]; rfl)]
          · rw [decide_eq_false z, decide_eq_false fun z' => z (key.mp (by have := V.int.inj z'; omega))]
        rw [e2]
        exact q H' s'
    | _ => exact absurd rfl c
end
end K3
namespace K3
open PySem PySem.Spec PyProof.Rows L2 K1
section
variable {P : Program} {w : World} {K : PySem.W.Frag} {mg : Str → Option Value} {base : Heap}
def EntP (K : PySem.W.Frag) (H : Hp) (v : V) (e : List Nat × PyData) : Prop := ∃ t bt x, v = .ref t ∧ SqT K H t [.ref bt, x] ∧ SqT K H bt (e.1.map natV) ∧ Dp K H x e.2 ∧ pl e.2 = true
abbrev EntA (K : PySem.W.Frag) (H : Hp) : List V → List (List Nat × PyData) → Prop := Paired (EntP K H)
theorem EntA.ts {H H1 : Hp} {vs : List V} {es : List (List Nat × PyData)} (h : EntA K H vs es) (s : K1.TS K H H1) : EntA K H1 vs es := Paired.mapP h fun _ _ ⟨t, bt, x, e, h1, h2, h3, h4⟩ => ⟨t, bt, x, e, s _ _ h1, s _ _ h2, s.dp _ _ h4 h3, h4⟩
theorem paired_rev {α β : Type} {F : α → β → Prop} : ∀ {xs : List α} {ys : List β}, Paired F xs ys → Paired F xs.reverse ys.reverse
  | _, _, .nil => .nil
  | _, _, .cons h t => by
    rw [List.reverse_cons, List.reverse_cons]
    exact paired_append (paired_rev t) (.cons h .nil)
def szS (es : List (List Nat × PyData)) : Nat := (es.map fun e => sz e.2).sum
theorem szS_append (xs ys : List (List Nat × PyData)) : szS (xs ++ ys) = szS xs + szS ys := by
  unfold szS
  rw [List.map_append, List.sum_append]
theorem len_szS : ∀ es : List (List Nat × PyData), es.length ≤ szS es
  | [] => Nat.le_refl _
  | e :: es => by
    have h1 := sz_pos e.2
    have h2 := len_szS es
    simp only [szS, List.map_cons, List.sum_cons, List.length_cons] at h2 ⊢
    omega
theorem szS_rev (es : List (List Nat × PyData)) : szS es.reverse = szS es := by
  unfold szS
  rw [List.map_reverse]
  exact (List.reverse_perm _).sum_nat
def rowsOf (n : Nat) (b : List Nat) (ts : List PyData) : List (List Nat × PyData) := ((leftN n b).zip ts).map fun (p : Nat × PyData) => (b ++ [p.1], p.2)
theorem szS_rows (b : List Nat) : ∀ (ks : List Nat) (ts : List PyData), szS ((ks.zip ts).map fun (p : Nat × PyData) => (b ++ [p.1], p.2)) ≤ szA ts
  | [], ts => by simp [szS]
  | k :: ks, [] => by simp [szS]
  | k :: ks, t :: ts => by
    have := szS_rows b ks ts
    simp only [szS, List.zip_cons_cons, List.map_cons, List.sum_cons, szA] at this ⊢
    omega
def sT (a : Addr) (tv : V) (bits : Int) (l bt : Addr) (x5 : V) (x6 x7 : Option V) : L2.St := [some (.ref a), some tv, some (.int bits), some (.ref l), some (.ref bt), some x5, x6, x7, none, none]
def tRows (K : PySem.W.Frag) (H : Hp) (a : Addr) (tv : V) (ps : List Part) (bits : Int) : L2.TS := fun D σ H' => ∃ (l bt tt nb : Addr) (b : List Nat) (ts : List PyData) (xs vs : List V) (es : List (List Nat × PyData)) (x7 : Option V),
  σ = [some (.ref a), some tv, some (.int bits), some (.ref l), some (.ref bt), some (.ref tt), some (.ref nb), x7, none, none] ∧ H l = none ∧ H' l = some (.lst vs) ∧ EntA K H' vs es ∧ SqT K H' bt (b.map natV) ∧ SqT K H' tt xs ∧ DpAll K H' xs ts ∧ plA ts = true ∧ H' nb = some (.lst ((leftN ps.length b).map natV)) ∧ Same H H' ∧
  ps.length ≤ 100 ∧ vs.length ≤ 1000000 ∧ b.length ≤ 100 ∧
  ∀ (H2 : Hp) (vs2 : List V) (x7' : Option V), H2 l = some (.lst vs2) → EntA K H2 vs2 (es ++ (rowsOf ps.length b ts).reverse) → Same H H2 → D.nx [some (.ref a), some tv, some (.int bits), some (.ref l), some (.ref bt), some (.ref tt), some (.ref nb), x7', none, none] H2
def WT (K : PySem.W.Frag) (H : Hp) (a l : Addr) (tv : V) (ps : List Part) (bits : Int) (d : PyData) (m : Nat) (σ : L2.St) (H' : Hp) : Prop :=
  ∃ (es : List (List Nat × PyData)) (vs : List V) (x4 x5 x6 x7 : Option V), σ = [some (.ref a), some tv, some (.int bits), some (.ref l), x4, x5, x6, x7, none, none] ∧ H' l = some (.lst vs) ∧ EntA K H' vs es ∧ (∀ e ∈ es, Beg ps.length e.1) ∧ m = szS es ∧ m ≤ 1000000 ∧ stW ps bits es.reverse = wrT ps bits d [] ∧ Same H H'
def sp_tree_fault (K : PySem.W.Frag) : Sp := fun vs H Q _ => ∃ (a : Addr) (tv : V) (ps : List Part) (bits : Int) (d : PyData), vs = [.ref a, tv, .int bits] ∧ Pts K H a ps ∧ (∀ p ∈ ps, PtOk p) ∧ ps.length ≤ 100 ∧ Dp K H tv d ∧ pl d = true ∧ sz d ≤ 1000000 ∧
  ∀ (v : V) (H' : Hp), Same H H' → Dp K H' v (resD (wrT ps bits d [])) → Q v H'
theorem zip_at {α β : Type} {xs : List α} {ys : List β} {i : Nat} {x : α} {y : β} (hx : xs[i]? = some x) (hy : ys[i]? = some y) : (xs.zip ys)[i]? = some (x, y) := by
  rw [List.getElem?_zip_eq_some]
  exact ⟨hx, hy⟩
theorem ok_tree_fault {f : Addr} {fd : FuncData} (F : Fun K "tree_fault" "tree_fault" s_tree_fault f fd) (C_left_of : Cal P w K mg base "left_of" pm_left_of 1 (sp_left_of K)) (C_is_cut : Cal P w K mg base "is_cut" pm_is_cut 4 (sp_is_cut K)) (m_isinstance : mg "isinstance" = none) (m_tuple : mg "tuple" = none) (m_len : mg "len" = none) (m_zip : mg "zip" = none) : FnOk P w K mg base CX0 5 f fd pm_tree_fault (sp_tree_fault K) := by
  obtain ⟨f_left_of, fd_left_of, G_left_of, g_left_of, k_left_of, b_left_of⟩ := C_left_of.ex
  obtain ⟨f_is_cut, fd_is_cut, G_is_cut, g_is_cut, k_is_cut, b_is_cut⟩ := C_is_cut.ex
  refine F.ok sc_tree_fault (fun vs H Q E h => ?_) (fun cdv A outer s H vs Q E hr h => ?_)
  · obtain ⟨a, tv, ps, bits, d, rfl, _⟩ := h
    rfl
  · obtain ⟨a, tv, ps, bits, d0, rfl, hP, hok, hl, hv0, pd0, sd0, q⟩ := h
    have rm : ∀ {j : Nat}, j ≤ 4 → Room j (A.deeper (envOfC "tree_fault" (defScope s_tree_fault) s.heap.objs.size f cdv)) := fun hj => hr.mono hj
    refine ⟨_, pss_cons (ps_set (i := 3) sc_tree_fault.nd rfl (.inl rfl) (pe_lst (pa_cons (pe_tup (pa_cons (pe_tup pa_nil) (pa_cons (pv 1) pa_nil))) pa_nil)))
      (pss_cons (ps_while PassesOwn.never (pt_truth (pv 3) (by intro _; rfl))
      (pss_cons (ps_asg (pe_bm0 PySem.F.plainAttrs_list PySem.F.slot_list_pop PySem.F.type_list_pop mt_pop (pv 3)) (pg_tup (by rfl) (pgs_cons (pg_name (i := 4) sc_tree_fault.nd rfl (.inr rfl)) (pgs_cons (pg_name (i := 5) sc_tree_fault.nd rfl (.inl rfl)) pgs_nil))))
      (pss_cons (ps_if (pt_not (pt_val (pe_callB call_isi (by rfl) m_isinstance (by decide +kernel) (pa_cons (pv 5) (pa_cons (pe_bltn (v := .ty "tuple") (by rfl) m_tuple (show bootBuiltins "tuple" = some (.type "tuple") by decide +kernel) rfl) pa_nil)))))
      (pss_one (ps_ret (pv 4))) pss_nil)
      (pss_cons (ps_set (i := 6) sc_tree_fault.nd rfl (.inl rfl) (pe_call G_left_of (rm (by decide)) (by rfl) g_left_of k_left_of b_left_of .nil pass0 (pa_cons (pv 0) (pa_cons (pv 4) pa_nil))))
      (pss_cons (ps_if (pt_cmpR (op_eqM hr.units) (pv 5) (pe_tup pa_nil) (nomark _))
      (pss_one (ps_if (pt_not (pt_val (pe_call G_is_cut (rm (by decide)) (by rfl) g_is_cut k_is_cut b_is_cut .nil pass0 (pa_cons (pv 0) (pa_cons (pv 4) (pa_cons (pv 2) pa_nil))))))
      (pss_one (ps_ret (pv 4))) pss_nil)) (pss_one (ps_if (pt_cmpR op_ne (pe_callB call_len_seq (by rfl) m_len PySem.boot_len (pa_cons (pv 5) pa_nil)) (pe_callB call_len_seq (by rfl) m_len PySem.boot_len (pa_cons (pv 6) pa_nil)) (nomark _))
      (pss_one (ps_ret (pv 4))) pss_nil)))
      (pss_weak (t' := tRows K H a tv ps bits) (pss_cons (ps_setLc (i := 7) (own := [("number", 8), ("inner", 9)]) (g := gTup K 2 (gCons (gName 8) (gCons (gName 9) gNil))) (tt := tYes) rfl sc_tree_fault.nd rfl rfl (sw_true rfl rfl rfl (by decide +kernel)) (ZM.pi_zipM (by rfl) m_zip (pa_cons (pv 6) (pa_cons (pv 5) pa_nil))) (blkOk_by (N := nm_tree_fault) (sc := defScope s_tree_fault) (by decide +kernel)) (fun _ _ _ _ _ => pg_tup (by rfl) (pgs_cons (pg_name (i := 8) sc_tree_fault.nd rfl (Or.inl rfl)) (pgs_cons (pg_name (i := 9) sc_tree_fault.nd rfl (Or.inl rfl)) pgs_nil))) (fun _ _ _ _ _ => pts_nil) (fun _ _ _ _ _ => (pe_tup (pa_cons (pe_op (show OpR _ (binaryOp .Add) (rCatA K) from op_catA) (pv 4) (pe_tup (pa_cons (pv 8) pa_nil))) (pa_cons (pv 9) pa_nil)))))
      (pss_one (ps_expr (pe_bm PySem.F.plainAttrs_list PySem.F.slot_list_extend PySem.F.type_list_extend mt_extend (pv 3) (pa_cons (pe_revL (pv 7)) pa_nil))))) ?rows))))))
      (pss_one (ps_ret pe_non))), ?_⟩
    case rows =>
      rintro D σ H' ⟨l, bt, tt, nb, b, ts, xs, vs, es, x7, rfl, nl, el, hE, hb, hx, hd, pts, en, s', l1, l2, l3, nx⟩
      have hll := leftN_len ps.length b
      have hxl := dpAll_len hd
      refine ⟨.ref nb, rfl, .ref tt, rfl, nb, tt, _, xs, rfl, .inl (.inl en), hx, fun D' hD => ZM.lc_zipM (xs := (leftN ps.length b).map natV) (ys := xs) (fun i H3 => ∃ ws : List V, ws.length = i ∧ H3 D' = some (.lst ws) ∧ EntA K H3 ws ((rowsOf ps.length b ts).take i) ∧ Same H' H3) ⟨[], rfl, upd_same, .nil, same_upd hD⟩ (fun i H3 hp => ?_) (fun i x y T H3 gx gy hp nT => ?_) (fun H3 hp => ?_)⟩
      · obtain ⟨_, _, _, _, s3⟩ := hp
        exact ⟨.inl (.inl (s3 _ _ en)), ts_same s3 _ _ hx⟩
      · obtain ⟨ws, lw, eD, hW, s3⟩ := hp
        obtain ⟨k, ek, rfl⟩ := natV_at gx
        obtain ⟨di, k1, k2⟩ := dpAll_get hd gy
        have pdi : pl di = true := plA_mem pts (List.mem_of_getElem? k1)
        have hi := (List.getElem?_eq_some_iff.mp ek).1
        have s4 : Same H3 (upd H3 T (.tup [natV k, y])) := same_upd nT
        refine ⟨T, [natV k, y], rfl, .inl (.inl upd_same), rfl, natV k, [y], rfl, y, [], rfl, rfl, rfl, ?_⟩
        dsimp only [tYes]
        refine iteT ?_
        generalize upd H3 T (HO.tup [natV k, y]) = H4 at s4 ⊢
        refine ⟨.ref bt, rfl, natV k, rfl, (by show 1 ≤ sizeLine; decide), fun u nu => ?_⟩
        have s5 : Same H4 (upd H4 u (.tup [natV k])) := same_upd nu
        have s05 : Same H' (upd H4 u (.tup [natV k])) := (s3.trans s4).trans s5
        refine catA_any (xs := b.map natV) (ys := [natV k]) (ts_same s05 _ _ hb) (.inl (.inl upd_same)) ?_ fun r H6 s6 hr6 => ?_
        · rw [List.length_map]
          exact Nat.le_trans (show b.length + 1 ≤ 1000 by omega) (by decide)
        refine ⟨y, rfl, (by show 2 ≤ sizeLine; decide), fun tp ntp => ?_⟩
        have s7 : Same H6 (upd H6 tp (.tup [.ref r, y])) := same_upd ntp
        have c7 : (upd H6 tp (.tup [.ref r, y])) tp = some (.tup [.ref r, y]) := upd_same
        generalize upd H6 tp (HO.tup [V.ref r, y]) = H7 at s7 c7 ⊢
        have eD7 := s7 _ _ (s6 _ _ (s5 _ _ (s4 _ _ eD)))
        have t8 : K1.TS K H7 (upd H7 D' (.lst (ws ++ [.ref tp]))) := ts_lst eD7
        have s37 : Same H3 H7 := ((s4.trans s5).trans s6).trans s7
        refine ⟨ws, eD7, ?_, ws ++ [.ref tp], ?_, upd_same, ?_, ?_⟩
        · exact Nat.lt_of_le_of_lt (show ws.length ≤ 1000 by omega) (by decide)
        · rw [List.length_append, lw]; rfl
        · have er : (rowsOf ps.length b ts)[i]? = some (b ++ [k], di) := by
            unfold rowsOf
            rw [List.getElem?_map, zip_at ek k1]
            rfl
          rw [List.take_add_one, er]
          refine paired_append (EntA.ts (EntA.ts hW (ts_same s37)) t8) (.cons ⟨tp, r, y, rfl, t8 _ _ (.inl (.inl c7)), ?_, ?_, pdi⟩ .nil)
          · rw [List.map_append]
            exact t8 _ _ (ts_same s7 _ _ hr6)
          · exact ((ts_same (s3.trans s37)).trans t8).dp _ _ pdi k2
        · intro b' o e
          rw [upd_ne (ne_of_none e hD)]
          exact s37 _ _ (s3 b' o e)
      · obtain ⟨ws, lw, eD, hW, s3⟩ := hp
        have elen : (rowsOf ps.length b ts).length = min ((leftN ps.length b).map natV).length xs.length := by
          unfold rowsOf
          rw [List.length_map, List.length_zip, List.length_map, hxl]
        rw [← elen, List.take_length] at hW
        rw [← elen] at lw
        have lw2 : ws.length ≤ 100 := by
          rw [lw, elen, List.length_map]
          omega
        have el3 := s3 _ _ el
        refine ⟨.ref l, rfl, .inl ⟨rfl, _, .inl (.inl el3)⟩, .ref D', rfl, D', ws, rfl, .inl (.inl eD), fun q' nq => ?_⟩
        have s4 : Same H3 (upd H3 q' (.lst ws.reverse)) := same_upd nq
        have c4 : (upd H3 q' (.lst ws.reverse)) q' = some (.lst ws.reverse) := upd_same
        generalize upd H3 q' (HO.lst ws.reverse) = H4 at s4 c4 ⊢
        have el4 := s4 _ _ el3
        refine ⟨l, q', vs, ws.reverse, rfl, rfl, el4, c4, ?_, ?_⟩
        · rw [List.length_reverse]
          exact Nat.le_trans (show vs.length + ws.length ≤ 2000000 by omega) (by decide)
        have t5 : K1.TS K H4 (upd H4 l (.lst (vs ++ ws.reverse))) := ts_lst el4
        refine nx _ _ _ upd_same (paired_append (EntA.ts (EntA.ts hE (ts_same (s3.trans s4))) t5) (EntA.ts (EntA.ts (paired_rev hW) (ts_same s4)) t5)) fun b' o e => ?_
        rw [upd_ne (ne_of_none e nl)]
        exact s4 _ _ (s3 _ _ (s' b' o e))
    refine ⟨Nat.zero_le _, fun t0 n0 => ?_⟩
    have s1 : Same H (upd H t0 (.tup [])) := same_upd n0
    have c1 : (upd H t0 (.tup [])) t0 = some (.tup []) := upd_same
    generalize upd H t0 (HO.tup []) = H1 at s1 c1 ⊢
    refine ⟨tv, rfl, (by show 2 ≤ sizeLine; decide), fun t1 n1 => ⟨(by show 1 ≤ sizeLine; decide), fun l nl => ?_⟩⟩
    have s2 : Same H1 (upd H1 t1 (.tup [.ref t0, tv])) := same_upd n1
    have c2 : (upd H1 t1 (.tup [.ref t0, tv])) t1 = some (.tup [.ref t0, tv]) := upd_same
    generalize upd H1 t1 (HO.tup [V.ref t0, tv]) = H2 at s2 c2 nl ⊢
    have s3 : Same H2 (upd H2 l (.lst [.ref t1])) := same_upd nl
    have s03 : Same H (upd H2 l (.lst [.ref t1])) := (s1.trans s2).trans s3
    have nl0 : H l = none := (s1.trans s2).free nl
    refine ⟨WT K H a l tv ps bits d0, ⟨szS [([], d0)], [([], d0)], [.ref t1], none, none, none, none, rfl, upd_same, .cons ⟨t1, t0, tv, rfl, .inl (.inl (s3 _ _ c2)), .inl (.inl (s3 _ _ (s2 _ _ c1))), (ts_same s03).dp _ _ pd0 hv0, pd0⟩ .nil, fun e he => by rw [List.mem_singleton.mp he]; exact beg_nil _, rfl, ?_, ?_, s03⟩, fun m σ H' hW => ?_⟩
    · simp [szS]
      exact sd0
    · show (match wrT ps bits d0 [] with | some x => some x | none => none) = wrT ps bits d0 []
      cases wrT ps bits d0 [] <;> rfl
    clear s03 s3 nl c2 s2 n1 c1 s1 n0
    obtain ⟨es, vs, x4, x5, x6, x7, rfl, el, hE, hbg, rfl, hm, hst, s'⟩ := hW
    refine ⟨.ref l, rfl, !vs.isEmpty, .inl ⟨vs, .inl (.inl el), rfl⟩, ite2 (fun c => ?_) (fun c => ?_)⟩
    · have hne : vs ≠ [] := fun z => by subst z; cases c
      obtain ⟨vs', vl, es', ⟨b, d⟩, rfl, rfl, hE', t', bt, x, rfl, ht', hbt, hx, pd⟩ := paired_last hE hne
      refine ⟨fun σ' H2 => ∃ m', m' < szS (es' ++ [(b, d)]) ∧ WT K H a l tv ps bits d0 m' σ' H2, fun _ _ h => h, ?_⟩
      refine ⟨.ref l, rfl, .inl ⟨rfl, _, .inl (.inl el)⟩, l, _, .ref t', rfl, rfl, el, (by simp), ?_⟩
      rw [List.dropLast_concat]
      have t3 : K1.TS K H' (upd H' l (.lst vs')) := ts_lst el
      have c3 : (upd H' l (.lst vs')) l = some (.lst vs') := upd_same
      have s3 : Same H (upd H' l (.lst vs')) := fun b o e => by
        rw [upd_ne (ne_of_none e nl0)]
        exact s' b o e
      generalize upd H' l (HO.lst vs') = H3 at t3 c3 s3 ⊢
      have hbb : Beg ps.length b := hbg (b, d) (List.mem_append.mpr (.inr (List.mem_singleton.mpr rfl)))
      have hsz := szS_append es' [(b, d)]
      have hsd : szS [(b, d)] = sz d := by simp [szS]
      have hdp := sz_pos d
      have hlen := len_szS es'
      have hlv := paired_len hE'
      have hbl := beg_len hbb
      rw [List.reverse_append] at hst
      replace hst : (match wrT ps bits d b with | some x => some x | none => stW ps bits es'.reverse) = wrT ps bits d0 [] := hst
      have ret : wrT ps bits d b = some b → ∀ H9, Same H H9 → SqT K H9 bt (b.map natV) → Q (.ref bt) H9 := fun e H9 s9 h9 => by
        rw [e] at hst
        refine q _ _ s9 ?_
        rw [← hst]
        exact .tup h9 (nats_dp b)
      refine ⟨t', [.ref bt, x], rfl, t3 _ _ ht', rfl, _, _, rfl, _, _, rfl, rfl, ?_⟩
      have hx3 := t3.dp _ _ pd hx
      refine ⟨x, rfl, x, _, _, _, isT d, rfl, .ty "tuple", dp_ty hx3 pd, kit_ty (kT d), isT d, rfl, ite2 (fun c1 => ?_) (fun c1 => ?_)⟩
      · refine ⟨.ref bt, rfl, ret (wrT_leaf ps bits ?_ b) H3 s3 (t3 _ _ hbt)⟩
        cases e : isT d with
        | false => rfl
        | true => rw [e] at c1; cases c1
      cases d with
      | tuple ts =>
        cases hx3 with
        | @tup tt xs _ hsx hax =>
          have hxl := dpAll_len hax
          have hst2 : sz (.tuple ts) = szA ts + 1 := rfl
          refine ⟨.ref a, rfl, .ref bt, rfl, a, bt, ps, b, rfl, hP.ts (ts_same s3), t3 _ _ hbt, by omega, fun nb H4 s4 nn en => ?_⟩
          refine ⟨.ref tt, rfl, Nat.zero_le _, fun z nz => ?_⟩
          have s5 : Same H4 (upd H4 z (.tup [])) := same_upd nz
          have c5 : (upd H4 z (.tup [])) z = some (.tup []) := upd_same
          generalize upd H4 z (HO.tup []) = H5 at s5 c5 ⊢
          have s35 : Same H3 H5 := s4.trans s5
          have hax5 := (ts_same s35).dps _ _ pd hax
          have go : ∀ (D : Ends) (H6 : Hp), (D.nx = fun σ' H2 => ∃ m', m' < szS (es' ++ [(b, .tuple ts)]) ∧ WT K H a l tv ps bits d0 m' σ' H2) → Same H5 H6 → (match wrA ps bits ts (leftN ps.length b) b with | some x => some x | none => stW ps bits es'.reverse) = wrT ps bits d0 [] →
              tRows K H a tv ps bits D [some (.ref a), some tv, some (.int bits), some (.ref l), some (.ref bt), some (.ref tt), some (.ref nb), x7, none, none] H6 := fun D H6 hD s6 hst' => by
            refine ⟨l, bt, tt, nb, b, ts, xs, vs', es', x7, rfl, nl0, s6 _ _ (s35 _ _ c3), EntA.ts (EntA.ts hE' t3) (ts_same (s35.trans s6)), ts_same (s35.trans s6) _ _ (t3 _ _ hbt), ts_same (s35.trans s6) _ _ hsx, (ts_same s6).dps _ _ pd hax5, pd, s6 _ _ (s5 _ _ en), (s3.trans s35).trans s6, hl, by omega, by omega, fun H7 vs7 x7' e7 hE7 s7 => ?_⟩
            rw [hD]
            have hr := szS_rows b (leftN ps.length b) ts
            have hrr : szS (rowsOf ps.length b ts).reverse ≤ szA ts := by rw [szS_rev]; exact hr
            have hs2 := szS_append es' (rowsOf ps.length b ts).reverse
            refine ⟨szS (es' ++ (rowsOf ps.length b ts).reverse), by omega, _, vs7, _, _, _, _, rfl, e7, hE7, fun e he => ?_, rfl, by omega, ?_, s7⟩
            · rcases List.mem_append.mp he with m | m
              · exact hbg e (List.mem_append.mpr (.inl m))
              · obtain ⟨⟨k, t⟩, hk, rfl⟩ := List.mem_map.mp (List.mem_reverse.mp m)
                exact beg_snoc hbb (List.of_mem_zip hk).1
            · rw [List.reverse_append, List.reverse_reverse, stW_append]
              unfold rowsOf
              rw [stW_rows]
              exact hst'
          refine ⟨.tuple ts, .tuple [], .tup (ts_same s35 _ _ hsx) hax5, .tup (.inl (.inl c5)) .nil, canLay _ pd, rfl, ?_, _, rfl, ite2 (fun c2 => ?_) (fun c2 => ?_)⟩
          · exact Nat.le_trans (Nat.min_le_right _ _) (by decide)
          · rw [eqv_nilT] at c2
            have hts : ts = [] := List.isEmpty_iff.mp c2
            refine ⟨.ref a, rfl, .ref bt, rfl, .int bits, rfl, a, bt, ps, b, bits, rfl, ⟨hP.ts (ts_same (s3.trans s35)), ts_same s35 _ _ (t3 _ _ hbt), hok, hbb.2⟩, by omega, fun H6 s6 => ⟨_, rfl, ite2 (fun c3' => ?_) (fun c3' => ?_)⟩⟩
            · refine ⟨.ref bt, rfl, ret ?_ H6 ((s3.trans s35).trans s6) (ts_same (s35.trans s6) _ _ (t3 _ _ hbt))⟩
              have nc : ¬ cutF ps b bits = true := fun z => by rw [z] at c3'; cases c3'
              rw [wrT_tuple, if_pos c2, if_neg nc]
            · refine go _ H6 rfl s6 ?_
              have yc : cutF ps b bits = true := by
                cases e : cutF ps b bits with
                | true => rfl
                | false => rw [e] at c3'; exact absurd rfl c3'
              rw [wrT_tuple, if_pos c2, if_pos yc] at hst
              subst hts
              rw [show wrA ps bits [] (leftN ps.length b) b = none by rw [wrA]]
              exact hst
          · rw [eqv_nilT] at c2
            refine ⟨.ref tt, rfl, tt, xs, rfl, .inr (ts_same s35 _ _ hsx), .ref nb, rfl, nb, _, rfl, .inl (.inl (.inl (s5 _ _ en))), rfl, _, rfl, ite2 (fun c3' => ?_) (fun c3' => ?_)⟩
            · refine ⟨.ref bt, rfl, ret ?_ H5 (s3.trans s35) (ts_same s35 _ _ (t3 _ _ hbt))⟩
              rw [wrT_tuple, if_neg c2, if_neg]
              intro z
              rw [hxl, z, List.length_map] at c3'
              simp at c3'
            · refine go _ H5 rfl (Same.refl _) ?_
              have hll : ts.length = (leftN ps.length b).length := by
                have z : V.int (xs.length : Nat) = V.int (((leftN ps.length b).map natV).length : Nat) := by simpa using c3'
                have z2 := V.int.inj z
                rw [List.length_map] at z2
                omega
              rw [wrT_tuple, if_neg c2, if_pos hll] at hst
              exact hst
      | _ => exact absurd rfl c1
    · have hv : vs = [] := by
        cases vs with
        | nil => rfl
        | cons _ _ => exact absurd rfl c
      subst hv
      cases hE
      refine q _ _ s' ?_
      rw [← hst]
      exact .non
end
end K3
namespace K3
open PySem PySem.Spec PyProof.Rows L2 K1
section
variable {P : Program} {w : World} {K : PySem.W.Frag} {mg : Str → Option Value} {base : Heap}
def sp_orderfault (K : PySem.W.Frag) : Sp := fun vs H Q _ => ∃ (v u : V) (d e : PyData), vs = [v, u] ∧ Dp K H v d ∧ Dp K H u e ∧ pl d = true ∧ pl e = true ∧ sz d ≤ 1000000 ∧ sz e ≤ 1000000 ∧
  ∀ (x : V) (H' : Hp), Same H H' → Dp K H' x (faultG d e) → Q x H'
theorem three_of {ds : List PyData} (h : (ds.length : Int) = 3) : ∃ a b c, ds = [a, b, c] := by
  match ds, h with
  | [a, b, c], _ => exact ⟨a, b, c, rfl⟩
  | [], h => exact absurd h (by simp)
  | [_], h => exact absurd h (by simp)
  | [_, _], h => exact absurd h (by simp)
  | _ :: _ :: _ :: _ :: _, h => simp at h; omega
theorem word_dp {H : Hp} {t1 t2 : Addr} {s : Str} (h1 : SqT K H t2 [.str s, .ref t1]) (h2 : SqT K H t1 []) : Dp K H (.ref t2) (wordD s) := .tup h1 (.cons (.str _) (.cons (.tup h2 .nil) .nil))
theorem word_any {H : Hp} {s : Str} {Q : VK} (q : ∀ (x : V) (H' : Hp), Same H H' → Dp K H' x (wordD s) → Q x H') : 0 ≤ sizeLine ∧ ∀ p, H p = none → ([V.str s, V.ref p] : List V).length ≤ sizeLine ∧ ∀ t, (upd H p (.tup [])) t = none → Q (.ref t) (upd (upd H p (.tup [])) t (.tup [.str s, .ref p])) := by
  refine ⟨Nat.zero_le _, fun p np => ⟨(by show 2 ≤ sizeLine; decide), fun t nt => ?_⟩⟩
  have s1 : Same H (upd H p (.tup [])) := same_upd np
  have c1 : (upd H p (.tup [])) p = some (.tup []) := upd_same
  have s2 : Same (upd H p (.tup [])) (upd (upd H p (.tup [])) t (.tup [.str s, .ref p])) := same_upd nt
  exact q _ _ (s1.trans s2) (word_dp (.inl (.inl upd_same)) (.inl (.inl (s2 _ _ c1))))
theorem g_parts {d : PyData} (h : partsB d = false) (e : PyData) : faultG d e = wordD "parts" := by
  unfold faultG
  rw [if_neg (by rw [h]; exact Bool.false_ne_true)]
theorem g_three {d b o t : PyData} (h : partsB d = true) (hb : isW b = true) : faultG d (.tuple [b, o, t]) = if ordB (toParts d).length o = true then faultD (toParts d) (toOrd o) (valI b) t else wordD "order" := by
  unfold faultG
  rw [if_pos h]
  show (if isW b = true then _ else _) = _
  rw [if_pos hb]
theorem g_form {d e : PyData} (h : partsB d = true) (he : ∀ b o t, e = .tuple [b, o, t] → isW b = false) : faultG d e = wordD "form" := by
  unfold faultG
  rw [if_pos h]
  split
  · rename_i b o t
    rw [if_neg (by rw [he b o t rfl]; exact Bool.false_ne_true)]
  · rfl
theorem ok_orderfault {f : Addr} {fd : FuncData} (F : Fun K "orderfault" "orderfault" s_orderfault f fd) (C_tree_fault : Cal P w K mg base "tree_fault" pm_tree_fault 5 (sp_tree_fault K)) (C_are_parts : Cal P w K mg base "are_parts" pm_are_parts 4 (sp_are_parts K)) (C_is_order : Cal P w K mg base "is_order" pm_is_order 3 (sp_is_order K)) (C_bits_of : Cal P w K mg base "bits_of" pm_bits_of 4 (sp_bits_of K)) (C_is_tuple_of : Cal P w K mg base "is_tuple_of" pm_is_tuple_of 1 (sp_is_tuple_of K)) (C_is_whole : Cal P w K mg base "is_whole" pm_is_whole 1 (sp_is_whole K)) (m_len : mg "len" = none) : FnOk P w K mg base CX0 6 f fd pm_orderfault (sp_orderfault K) := by
  obtain ⟨f_tree_fault, fd_tree_fault, G_tree_fault, g_tree_fault, k_tree_fault, b_tree_fault⟩ := C_tree_fault.ex
  obtain ⟨f_are_parts, fd_are_parts, G_are_parts, g_are_parts, k_are_parts, b_are_parts⟩ := C_are_parts.ex
  obtain ⟨f_is_order, fd_is_order, G_is_order, g_is_order, k_is_order, b_is_order⟩ := C_is_order.ex
  obtain ⟨f_bits_of, fd_bits_of, G_bits_of, g_bits_of, k_bits_of, b_bits_of⟩ := C_bits_of.ex
  obtain ⟨f_is_tuple_of, fd_is_tuple_of, G_is_tuple_of, g_is_tuple_of, k_is_tuple_of, b_is_tuple_of⟩ := C_is_tuple_of.ex
  obtain ⟨f_is_whole, fd_is_whole, G_is_whole, g_is_whole, k_is_whole, b_is_whole⟩ := C_is_whole.ex
  refine F.ok sc_orderfault (fun vs H Q E h => ?_) (fun cdv A outer s H vs Q E hr h => ?_)
  · obtain ⟨v, u, d, e, rfl, _⟩ := h
    rfl
  · obtain ⟨v, u, d, e, rfl, hv, hu, pd, pe, sd, se, q⟩ := h
    have rm : ∀ {j : Nat}, j ≤ 5 → Room j (A.deeper (envOfC "orderfault" (defScope s_orderfault) s.heap.objs.size f cdv)) := fun hj => hr.mono hj
    refine ⟨_, pss_cons (ps_if (pt_not (pt_val (pe_call G_are_parts (rm (by decide)) (by rfl) g_are_parts k_are_parts b_are_parts .nil pass0 (pa_cons (pv 0) pa_nil))))
      (pss_one (ps_ret (pe_tup (pa_cons pe_str (pa_cons (pe_tup pa_nil) pa_nil))))) pss_nil)
      (pss_cons (ps_if (PW.pt (pw_or (pt_not (pt_val (pe_call G_is_tuple_of (rm (by decide)) (by rfl) g_is_tuple_of k_is_tuple_of b_is_tuple_of .nil pass0 (pa_cons (pv 1) (pa_cons pe_int pa_nil))))) (pw_or1 (pt_not (pt_val (pe_call G_is_whole (rm (by decide)) (by rfl) g_is_whole k_is_whole b_is_whole .nil pass0 (pa_cons (pe_ix ix_tup (pv 1) pe_int (fun _ _ => rfl)) pa_nil)))))))
      (pss_one (ps_ret (pe_tup (pa_cons pe_str (pa_cons (pe_tup pa_nil) pa_nil))))) pss_nil)
      (pss_cons (ps_asg (pv 1) (pg_tup (by rfl) (pgs_cons (pg_name (i := 2) sc_orderfault.nd rfl (.inl rfl)) (pgs_cons (pg_name (i := 3) sc_orderfault.nd rfl (.inl rfl)) (pgs_cons (pg_name (i := 4) sc_orderfault.nd rfl (.inl rfl)) pgs_nil)))))
      (pss_cons (ps_if (pt_not (pt_val (pe_call G_is_order (rm (by decide)) (by rfl) g_is_order k_is_order b_is_order .nil pass0 (pa_cons (pv 3) (pa_cons (pe_callB call_len_seq (by rfl) m_len PySem.boot_len (pa_cons (pv 0) pa_nil)) pa_nil)))))
      (pss_one (ps_ret (pe_tup (pa_cons pe_str (pa_cons (pe_tup pa_nil) pa_nil))))) pss_nil)
      (pss_cons (ps_if (pt_cmpR op_ne (pe_call G_bits_of (rm (by decide)) (by rfl) g_bits_of k_bits_of b_bits_of .nil pass0 (pa_cons (pv 0) (pa_cons (pv 3) pa_nil))) (pv 2) (nomark _))
      (pss_one (ps_ret (pe_tup (pa_cons pe_str (pa_cons (pe_tup pa_nil) pa_nil))))) pss_nil)
      (pss_cons (ps_set (i := 5) sc_orderfault.nd rfl (.inl rfl) (pe_call G_tree_fault (rm (by decide)) (by rfl) g_tree_fault k_tree_fault b_tree_fault .nil pass0 (pa_cons (pv 0) (pa_cons (pv 4) (pa_cons (pv 2) pa_nil)))))
      (pss_one (ps_ret (pe_ifExp (pt_cmpR op_isN (pv 5) pe_non (nomark _)) pe_non (pe_tup (pa_cons pe_str (pa_cons (pv 5) pa_nil))))))))))), ?_⟩
    refine ⟨v, rfl, v, d, rfl, hv, pd, sd, fun H1 s1 => ⟨partsB d, rfl, ite2 (fun c => ?_) (fun c => ?_)⟩⟩
    · have e1 : partsB d = false := by
        cases e : partsB d with
        | false => rfl
        | true => rw [e] at c; cases c
      rw [g_parts e1] at q
      exact word_any (K := K) fun x H' s' h' => q x H' (s1.trans s') h'
    have e1 : partsB d = true := by
      cases e : partsB d with
      | true => rfl
      | false => rw [e] at c; exact absurd rfl c
    have hu1 := (ts_same (K := K) s1).dp _ _ pe hu
    have form : (∀ b o t, e = .tuple [b, o, t] → isW b = false) → ∀ (x : V) (H' : Hp), Same H1 H' → Dp K H' x (wordD "form") → Q x H' := fun hf x H' s' h' => by
      rw [g_form e1 hf] at q
      exact q x H' (s1.trans s') h'
    refine ⟨u, rfl, u, e, 3, rfl, hu1, pe, tupN e 3, rfl, ite2 (fun c2 => ?_) (fun c2 => ?_)⟩
    · refine word_any (K := K) (form fun b o t ee => ?_)
      subst ee
      cases c2
    cases e with
    | tuple es =>
      have z3 : (es.length : Int) = 3 := by
        cases e : tupN (.tuple es) 3 with
        | true => exact of_decide_eq_true e
        | false => rw [e] at c2; exact absurd rfl c2
      obtain ⟨b, o, t, rfl⟩ := three_of z3
      obtain ⟨p, xs, rfl, hp, hps⟩ := dp_tup hu1
      have ppp : pl b = true ∧ pl o = true ∧ pl t = true := by simpa [pl, plA] using pe
      cases hps with
      | @cons vb _ _ _ hb r =>
        cases r with
        | @cons vo _ _ _ ho r =>
          cases r with
          | @cons vt _ _ _ ht r =>
            cases r
            refine ⟨.ref p, rfl, p, _, 0, vb, rfl, rfl, hp, atI_nat (j := 0) rfl, vb, b, rfl, hb, ppp.1, isW b, rfl, ite2 (fun c3 => ?_) (fun c3 => ?_)⟩
            · refine word_any (K := K) (form fun b' o' t' ee => ?_)
              cases ee
              cases e : isW b with
              | false => rfl
              | true => rw [e] at c3; cases c3
            have eb : isW b = true := by
              cases e : isW b with
              | true => rfl
              | false => rw [e] at c3; exact absurd rfl c3
            rw [g_three e1 eb] at q
            have ebi := isW_int eb
            generalize valI b = bits at ebi q
            subst ebi
            have evb := dp_int hb
            subst evb
            refine ⟨.ref p, rfl, p, _, rfl, hp, rfl, _, _, rfl, _, _, rfl, _, _, rfl, rfl, ?_⟩
            obtain ⟨a, rfl, hP, hok, hl8⟩ := parts_of e1 ((ts_same (K := K) s1).dp _ _ pd hv)
            generalize toParts d = ps at hP hok hl8 q
            obtain ⟨ws, hw, lw⟩ := hP.len
            refine ⟨vo, rfl, .ref a, rfl, a, ws, rfl, .inr hw, vo, o, ws.length, rfl, ho, ppp.2.1, by omega, fun H2 s2 => ⟨_, rfl, ite2 (fun c4 => ?_) (fun c4 => ?_)⟩⟩
            · have eo : ¬ ordB ps.length o = true := fun z => by rw [lw, z] at c4; cases c4
              rw [if_neg eo] at q
              exact word_any (K := K) fun x H' s' h' => q x H' ((s1.trans s2).trans s') h'
            have eo : ordB ps.length o = true := by
              cases e : ordB ps.length o with
              | true => rfl
              | false => rw [lw, e] at c4; exact absurd rfl c4
            rw [if_pos eo] at q
            obtain ⟨oa, rfl, hO, hperm⟩ := ord_of eo ho
            generalize toOrd o = os at hO hperm q
            have s02 : Same H H2 := s1.trans s2
            have mem : ∀ k, k ∈ os → k < ps.length := fun k hk => List.mem_range.mp (hperm.mem_iff.mp hk)
            refine ⟨.ref a, rfl, .ref oa, rfl, a, oa, ps, os, rfl, ⟨hP.ts (ts_same s2), ts_same s2 _ _ hO, hok, mem⟩, .int bits, rfl, rfl, _, rfl, ite2 (fun c5 => ?_) (fun c5 => ?_)⟩
            · have ne : (laidF ps os).2 ≠ bits := fun z => by rw [z] at c5; simp at c5
              refine word_any (K := K) fun x H' s' h' => q x H' (s02.trans s') ?_
              unfold faultD
              rw [if_neg ne]
              exact h'
            have eq : (laidF ps os).2 = bits := by
              have z : V.int (laidF ps os).2 = V.int bits := by simpa using c5
              exact V.int.inj z
            have st : sz t ≤ 1000000 := by
              have : sz (.tuple [.int bits, o, t]) = (1 + (sz o + (sz t + 0))) + 1 := rfl
              omega
            refine ⟨.ref a, rfl, vt, rfl, .int bits, rfl, a, vt, ps, bits, t, rfl, hP.ts (ts_same s2), hok, by omega, (ts_same s2).dp _ _ ppp.2.2 ht, ppp.2.2, st, fun x H3 s3 hx => ?_⟩
            have s03 := s02.trans s3
            have fin : ∀ v' H', Same H H' → Dp K H' v' (treeD (wrT ps bits t [])) → Q v' H' := fun v' H' s' h' => by
              refine q v' H' s' ?_
              unfold faultD
              rw [if_pos eq]
              exact h'
            refine ⟨x, rfl, rfl, _, rfl, ite2 (fun c6 => ?_) (fun c6 => ?_)⟩
            · refine fin _ _ s03 ?_
              have z : resD (wrT ps bits t []) = .none := (non_iff hx).mp (of_decide_eq_true c6)
              cases e : wrT ps bits t [] with
              | none => exact .non
              | some b => rw [e] at z; cases z
            · refine ⟨x, rfl, (by show 2 ≤ sizeLine; decide), fun t' n => fin _ _ (s03.trans (same_upd n)) ?_⟩
              cases e : wrT ps bits t [] with
              | none =>
                rw [e] at hx
                exact absurd (decide_eq_true ((non_iff hx).mpr rfl)) c6
              | some b =>
                rw [e] at hx
                exact .tup (.inl (.inl upd_same)) (.cons (.str _) (.cons ((ts_new n).dp _ _ (nats_pl b) hx) .nil))
    | _ => exact absurd rfl c2
end
end K3
namespace K3
open PySem PySem.Spec PyProof.Rows L2 K1
abbrev s__law_are_parts : Stmt := topS 33
abbrev nm__law_are_parts : List Str := ["_law_pieces", "_law_piece"]
abbrev pm__law_are_parts : List Str := ["_law_pieces"]
theorem sc__law_are_parts : FnScope nm__law_are_parts pm__law_are_parts (defScope s__law_are_parts) := ⟨rfl, rfl, rfl, by decide +kernel, rfl, by decide +kernel, by decide +kernel⟩
abbrev s__law_fault : Stmt := topS 34
abbrev nm__law_fault : List Str := ["_law_pieces", "_law_paper", "_law_bits", "_law_order", "_law_tree_here", "_law_found", "_law_k"]
abbrev pm__law_fault : List Str := ["_law_pieces", "_law_paper"]
theorem sc__law_fault : FnScope nm__law_fault pm__law_fault (defScope s__law_fault) := ⟨rfl, rfl, rfl, by decide +kernel, rfl, by decide +kernel, by decide +kernel⟩
section
variable {P : Program} {w : World} {K : PySem.W.Frag} {mg : Str → Option Value} {base : Heap}
def sp__law_are_parts (K : PySem.W.Frag) : Sp := sp_are_parts K
theorem part_two (x y : PyData) : partB (.tuple [x, y]) = (isW x && (isW y && ((!decide (valI x < 0)) && ((!decide (4096 < valI x)) && alB (valI y))))) := by
  show (btw x 0 4096 && (isW y && alB (valI y))) = _
  unfold btw
  cases isW x
  · rfl
  cases isW y
  · simp
  have e1 : decide (0 ≤ valI x) = !decide (valI x < 0) := by
    by_cases h : valI x < 0
    · rw [decide_eq_true h, decide_eq_false (by omega)]; rfl
    · rw [decide_eq_false h, decide_eq_true (by omega)]; rfl
  have e2 : decide (valI x ≤ 4096) = !decide (4096 < valI x) := by
    by_cases h : 4096 < valI x
    · rw [decide_eq_true h, decide_eq_false (by omega)]; rfl
    · rw [decide_eq_false h, decide_eq_true (by omega)]; rfl
  rw [e1, e2]
  simp [Bool.and_assoc]
theorem all_drop {α : Type} {f : α → Bool} {l : List α} {i : Nat} {x : α} (h : l[i]? = some x) : (l.drop i).all f = (f x && (l.drop (i + 1)).all f) := by
  rw [drop_at h, List.all_cons]
theorem ok__law_are_parts {f : Addr} {fd : FuncData} (F : Fun K "_law_are_parts" "_law_are_parts" s__law_are_parts f fd) (C__law_whole : Cal P w K mg base "_law_whole" pm__law_whole 1 (sp__law_whole K)) (m_isinstance : mg "isinstance" = none) (m_tuple : mg "tuple" = none) (m_len : mg "len" = none) : FnOk P w K mg base CX0 2 f fd pm__law_are_parts (sp__law_are_parts K) := by
  obtain ⟨f__law_whole, fd__law_whole, G__law_whole, g__law_whole, k__law_whole, b__law_whole⟩ := C__law_whole.ex
  refine F.ok sc__law_are_parts (fun vs H Q E h => ?_) (fun cdv A outer s H vs Q E hr h => ?_)
  · obtain ⟨v, d, rfl, _⟩ := h
    rfl
  · obtain ⟨v, d, rfl, hv, pd, sd, q⟩ := h
    have rm : ∀ {j : Nat}, j ≤ 1 → Room j (A.deeper (envOfC "_law_are_parts" (defScope s__law_are_parts) s.heap.objs.size f cdv)) := fun hj => hr.mono hj
    refine ⟨_, pss_cons (ps_if (PW.pt (pw_or (pt_not (pt_val (pe_callB call_isi (by rfl) m_isinstance (by decide +kernel) (pa_cons (pv 0) (pa_cons (pe_bltn (v := .ty "tuple") (by rfl) m_tuple (show bootBuiltins "tuple" = some (.type "tuple") by decide +kernel) rfl) pa_nil))))) (pw_or1 (pt_cmpR op_gt (pe_callB call_len_seq (by rfl) m_len PySem.boot_len (pa_cons (pv 0) pa_nil)) pe_int (nomark _)))))
      (pss_one (ps_ret pe_bl)) pss_nil)
      (pss_cons (ps_for PassesOwn.never rfl (pi_tup (pv 0)) (pg_name (i := 1) sc__law_are_parts.nd rfl (.inl rfl))
      (pss_cons (ps_if (PW.pt (pw_or (pt_not (pt_val (pe_callB call_isi (by rfl) m_isinstance (by decide +kernel) (pa_cons (pv 1) (pa_cons (pe_bltn (v := .ty "tuple") (by rfl) m_tuple (show bootBuiltins "tuple" = some (.type "tuple") by decide +kernel) rfl) pa_nil))))) (pw_or (pt_cmpR op_ne (pe_callB call_len_seq (by rfl) m_len PySem.boot_len (pa_cons (pv 1) pa_nil)) pe_int (nomark _)) (pw_or (pt_not (pt_val (pe_call G__law_whole (rm (by decide)) (by rfl) g__law_whole k__law_whole b__law_whole .nil pass0 (pa_cons (pe_ix ix_tup (pv 1) pe_int (fun _ _ => rfl)) pa_nil)))) (pw_or1 (pt_not (pt_val (pe_call G__law_whole (rm (by decide)) (by rfl) g__law_whole k__law_whole b__law_whole .nil pass0 (pa_cons (pe_ix ix_tup (pv 1) pe_int (fun _ _ => rfl)) pa_nil)))))))))
      (pss_one (ps_ret pe_bl)) pss_nil)
      (pss_one (ps_if (PW.pt (pw_or (pt_cmpR op_lt (pe_ix ix_tup (pv 1) pe_int (fun _ _ => rfl)) pe_int (nomark _)) (pw_or (pt_cmpR op_gt (pe_ix ix_tup (pv 1) pe_int (fun _ _ => rfl)) pe_int (nomark _)) (pw_or1 (pt_cmpR op_notIn_seq (pe_ix ix_tup (pv 1) pe_int (fun _ _ => rfl)) (pe_lst (pa_cons pe_int (pa_cons pe_int (pa_cons pe_int (pa_cons pe_int (pa_cons pe_int pa_nil)))))) (by rfl))))))
      (pss_one (ps_ret pe_bl)) pss_nil))))
      (pss_one (ps_ret pe_bl))), ?_⟩
    refine ⟨v, rfl, v, _, _, _, isT d, rfl, .ty "tuple", dp_ty hv pd, kit_ty (kT d), isT d, rfl, ite2 (fun c => ?_) (fun c => ?_)⟩
    · have e : partsB d = false := by
        cases d <;> first | rfl | cases c
      have := q H (Same.refl _)
      rw [e] at this
      exact this
    cases d with
    | tuple ds =>
      obtain ⟨a, xs, rfl, hs, ha⟩ := dp_tup hv
      have hl := dpAll_len ha
      have ep : partsB (.tuple ds) = (decide (ds.length ≤ 8) && ds.all partB) := rfl
      refine ⟨.ref a, rfl, a, xs, rfl, .inr hs, _, _, rfl, rfl, _, rfl, ite2 (fun c1 => ?_) (fun c1 => ?_)⟩
      · have h8 : ¬ ds.length ≤ 8 := by have := of_decide_eq_true c1; omega
        have := q H (Same.refl _)
        rw [ep, decide_eq_false h8] at this
        exact this
      have h8 : ds.length ≤ 8 := by
        by_cases z : ds.length ≤ 8
        · exact z
        · exact absurd (decide_eq_true (by rw [hl]; omega)) c1
      rw [ep, decide_eq_true h8, Bool.true_and] at q
      refine ⟨.ref a, rfl, a, rfl, ⟨_, hs⟩, for_tup (xs := xs) (fun i σ H' => ∃ x1, σ = [some (.ref a), x1] ∧ Same H H' ∧ ds.all partB = (ds.drop i).all partB) ⟨none, rfl, Same.refl _, rfl⟩ (fun i σ H' _ hp => ?_) (fun i x σ H' hx hp => ?_) (fun σ H' hp => ?_)⟩
      · obtain ⟨_, _, s', _⟩ := hp
        exact ts_same s' _ _ hs
      · obtain ⟨x1, rfl, s', hall⟩ := hp
        obtain ⟨di, k1, k2⟩ := dpAll_get ha hx
        have pdi : pl di = true := plA_mem pd (List.mem_of_getElem? k1)
        have hx' := (ts_same (K := K) s').dp _ _ pdi k2
        rw [all_drop k1] at hall
        have bad : partB di = false → ∀ H2, Same H H2 → Q (.bl false) H2 := fun e H2 s2 => by
          have := q H2 s2
          rw [hall, e, Bool.false_and] at this
          exact this
        refine ⟨x, rfl, x, _, _, _, isT di, rfl, .ty "tuple", dp_ty hx' pdi, kit_ty (kT di), isT di, rfl, ite2 (fun c2 => ?_) (fun c2 => ?_)⟩
        · refine bad ?_ H' s'
          cases di <;> first | rfl | cases c2
        cases di with
        | tuple es =>
          obtain ⟨t, ys, rfl, ht, hys⟩ := dp_tup hx'
          have hyl := dpAll_len hys
          refine ⟨.ref t, rfl, t, ys, rfl, .inr ht, rfl, _, rfl, ite2 (fun c3 => ?_) (fun c3 => ?_)⟩
          · refine bad ?_ H' s'
            match es, hyl with
            | [], _ => rfl
            | [_], _ => rfl
            | [_, _], hyl => rw [hyl] at c3; simp at c3
            | _ :: _ :: _ :: _, _ => rfl
          have z2 : (es.length : Int) = 2 := by
            have z : V.int (ys.length : Nat) = V.int 2 := by simpa using c3
            have := V.int.inj z
            omega
          obtain ⟨x, y, rfl⟩ := two_of z2
          have pxy : pl x = true ∧ pl y = true := by simpa [pl, plA] using pdi
          cases hys with
          | @cons v1 _ _ _ h1 r =>
            cases r with
            | @cons v2 _ _ _ h2 r2 =>
              cases r2
              rw [part_two] at hall bad
              refine ⟨.ref t, rfl, t, _, 0, v1, rfl, rfl, ht, atI_nat (j := 0) rfl, v1, x, rfl, h1, pxy.1, isW x, rfl, ite2 (fun c4 => ?_) (fun c4 => ?_)⟩
              · refine bad ?_ H' s'
                cases e : isW x with
                | false => rfl
                | true => rw [e] at c4; cases c4
              have ex : isW x = true := by
                cases e : isW x with
                | true => rfl
                | false => rw [e] at c4; exact absurd rfl c4
              rw [ex, Bool.true_and] at bad hall
              refine ⟨.ref t, rfl, t, _, 1, v2, rfl, rfl, ht, atI_nat (j := 1) rfl, v2, y, rfl, h2, pxy.2, isW y, rfl, ite2 (fun c5 => ?_) (fun c5 => ?_)⟩
              · refine bad ?_ H' s'
                cases e : isW y with
                | false => rfl
                | true => rw [e] at c5; cases c5
              have ey : isW y = true := by
                cases e : isW y with
                | true => rfl
                | false => rw [e] at c5; exact absurd rfl c5
              rw [ey, Bool.true_and] at bad hall
              have exi := isW_int ex
              have eyi := isW_int ey
              generalize valI x = xi at exi bad hall
              generalize valI y = yi at eyi bad hall
              subst exi eyi
              have ev1 := dp_int h1
              have ev2 := dp_int h2
              subst ev1 ev2
              refine ⟨.ref t, rfl, t, _, 0, _, rfl, rfl, ht, atI_nat (j := 0) rfl, _, _, rfl, rfl, _, rfl, ite2 (fun c6 => ?_) (fun c6 => ?_)⟩
              · refine bad ?_ H' s'
                have c6' : decide (xi < 0) = true := c6
                rw [c6']
                rfl
              have c6' : decide (xi < 0) = false := Bool.eq_false_iff.mpr c6
              rw [c6', Bool.not_false, Bool.true_and] at bad hall
              refine ⟨.ref t, rfl, t, _, 0, _, rfl, rfl, ht, atI_nat (j := 0) rfl, _, _, rfl, rfl, _, rfl, ite2 (fun c7 => ?_) (fun c7 => ?_)⟩
              · refine bad ?_ H' s'
                have c7' : decide (4096 < xi) = true := c7
                rw [c7']
                rfl
              have c7' : decide (4096 < xi) = false := Bool.eq_false_iff.mpr c7
              rw [c7', Bool.not_false, Bool.true_and] at bad hall
              refine ⟨.ref t, rfl, t, _, 1, _, rfl, rfl, ht, atI_nat (j := 1) rfl, (by show 5 ≤ sizeLine; decide), fun l nl => ⟨l, _, rfl, .inl (.inl (.inl upd_same)), rfl, rfl, _, rfl, ?_⟩⟩
              rw [if_pos rfl]
              have s2 := s'.trans (same_upd (o := .lst [.int 1, .int 8, .int 16, .int 32, .int 64]) nl)
              refine ite2 (fun c8 => ?_) (fun c8 => ?_)
              · refine bad ?_ _ s2
                have c8' : (!alB yi) = true := c8
                cases e : alB yi with
                | false => rfl
                | true => rw [e] at c8'; cases c8'
              · have c8' : ¬ (!alB yi) = true := c8
                have e : alB yi = true := by
                  cases e : alB yi with
                  | true => rfl
                  | false => rw [e] at c8'; exact absurd rfl c8'
                rw [e, Bool.true_and] at hall
                exact ⟨_, rfl, s2, hall⟩
        | _ => exact absurd rfl c2
      · obtain ⟨x1, rfl, s', hall⟩ := hp
        have := q H' s'
        rw [hall, hl, List.drop_length] at this
        exact this
    | _ => exact absurd rfl c
theorem sorted_eq : ∀ {xs ys : List Int}, xs.Perm ys → xs.Pairwise (· ≤ ·) → ys.Pairwise (· ≤ ·) → xs = ys
  | [], ys, h, _, _ => h.nil_eq
  | x :: xs, [], h, _, _ => absurd h.length_eq (by simp)
  | x :: xs, y :: ys, h, hx, hy => by
    have hx' := List.pairwise_cons.mp hx
    have hy' := List.pairwise_cons.mp hy
    have e : x = y := by
      have h1 : x ∈ y :: ys := h.mem_iff.mp List.mem_cons_self
      have h2 : y ∈ x :: xs := h.mem_iff.mpr List.mem_cons_self
      rcases List.mem_cons.mp h1 with e | m1
      · exact e
      rcases List.mem_cons.mp h2 with e | m2
      · exact e.symm
      have a1 := hy'.1 x m1
      have a2 := hx'.1 y m2
      omega
    subst e
    rw [sorted_eq (List.Perm.cons_inv h) hx'.2 hy'.2]
theorem range_sorted (n : Nat) : ((List.range n).map fun (k : Nat) => (k : Int)).Pairwise (· ≤ ·) := by
  rw [List.pairwise_map]
  exact List.pairwise_lt_range.imp fun {a b} h => by omega
theorem nats_ints (os : List Nat) : os.map natV = (os.map fun (n : Nat) => (n : Int)).map V.int := by
  rw [List.map_map]
  rfl
theorem ints_dpL {H : Hp} : ∀ xs : List Int, DpAll K H (xs.map V.int) (xs.map PyData.int)
  | [] => .nil
  | x :: xs => .cons (.int x) (ints_dpL xs)
theorem ints_can (xs : List Int) : PyData.canLayAll0 (xs.map PyData.int) = true := canLayA _ (plA_of fun d h => by
  obtain ⟨x, _, rfl⟩ := List.mem_map.mp h
  rfl)
theorem eqvAll_iff : ∀ xs ys : List Int, PyData.eqvAll (xs.map PyData.int) (ys.map PyData.int) = decide (xs = ys)
  | [], [] => by simp [PyData.eqvAll]
  | [], _ :: _ => by simp [PyData.eqvAll]
  | _ :: _, [] => by simp [PyData.eqvAll]
  | x :: xs, y :: ys => by
    have := eqvAll_iff xs ys
    simp only [List.map_cons, PyData.eqvAll, PyData.eqv, this]
    by_cases h : x = y
    · subst h
      by_cases h2 : xs = ys
      · subst h2; simp
      · simp [h2]
    · simp [h]
theorem ints_depthL (xs : List Int) : PyData.depthAll (xs.map PyData.int) ≤ 1 := depthA_le fun d h => by
  obtain ⟨x, _, rfl⟩ := List.mem_map.mp h
  simp [PyData.depth]
/-- what sorting tells of an order -/
theorem ord_sorted {ds : List PyData} {n : Nat} (hw : ∀ d ∈ ds, isW d = true) {ns' : List Int} (hp : ns'.Perm (ds.map valI)) (hs : ns'.Pairwise (· ≤ ·)) : (ns' = (List.range n).map (fun (k : Nat) => (k : Int)) ↔ ordB n (.tuple ds) = true) := by
  have eo : ordB n (.tuple ds) = (decide (ds.length = n) && (ds.all (fun d => btw d 0 ((n : Int) - 1)) && decide ((ds.map valI).Nodup))) := rfl
  rw [eo, Bool.and_eq_true, Bool.and_eq_true, decide_eq_true_eq, decide_eq_true_eq, List.all_eq_true]
  have castnd : ((List.range n).map fun (k : Nat) => (k : Int)).Nodup := by
    rw [List.Nodup, List.pairwise_map]
    exact List.pairwise_lt_range.imp fun {a b} h => by omega
  constructor
  · intro e
    rw [e] at hp
    refine ⟨?_, fun d hd => ?_, hp.nodup_iff.mp castnd⟩
    · have := hp.length_eq
      rw [List.length_map, List.length_map, List.length_range] at this
      exact this.symm
    · have m : valI d ∈ ds.map valI := List.mem_map.mpr ⟨d, hd, rfl⟩
      obtain ⟨k, hk, ek⟩ := List.mem_map.mp (hp.mem_iff.mpr m)
      have hk' := List.mem_range.mp hk
      exact btw_iff.mpr ⟨hw d hd, by omega, by omega⟩
  · rintro ⟨hl, hb, hn⟩
    have ho : ordB n (.tuple ds) = true := by
      rw [eo, decide_eq_true hl, decide_eq_true hn, List.all_eq_true.mpr hb]
      rfl
    have hbeg : Beg n (toOrd (.tuple ds)) ∧ (toOrd (.tuple ds)).length = n := by
      refine ⟨⟨?_, fun k hk => ?_⟩, by show (ds.map _).length = n; rw [List.length_map]; exact hl⟩
      · show (ds.map fun d => (valI d).toNat).Nodup
        rw [List.Nodup, List.pairwise_map]
        have h3 : ds.Pairwise fun a b => valI a ≠ valI b := by rw [List.Nodup, List.pairwise_map] at hn; exact hn
        refine List.Pairwise.imp_of_mem (fun {a b} ha hb' hab => ?_) h3
        have b1 := (btw_iff.mp (hb a ha)).2.1
        have b2 := (btw_iff.mp (hb b hb')).2.1
        intro z
        exact hab (by omega)
      · obtain ⟨d, hd, rfl⟩ := List.mem_map.mp hk
        have := (btw_iff.mp (hb d hd)).2
        omega
    have h0 : leftN n (toOrd (.tuple ds)) = [] := List.length_eq_zero_iff.mp (by have := beg_len hbeg.1; omega)
    have hperm := perm_of_beg hbeg.1
    rw [h0, List.append_nil] at hperm
    have e1 : (toOrd (.tuple ds)).map (fun (k : Nat) => (k : Int)) = ds.map valI := by
      show (ds.map fun d => (valI d).toNat).map (fun (k : Nat) => (k : Int)) = _
      rw [List.map_map]
      refine List.map_congr_left fun d hd => ?_
      have := (btw_iff.mp (hb d hd)).2.1
      show ((valI d).toNat : Int) = valI d
      omega
    refine sorted_eq (hp.trans ?_) hs (range_sorted n)
    rw [← e1]
    exact hperm.map _
def sp__law_fault (K : PySem.W.Frag) : Sp := fun vs H Q _ => ∃ (v u : V) (d e : PyData), vs = [v, u] ∧ Dp K H v d ∧ Dp K H u e ∧ pl d = true ∧ pl e = true ∧ sz d ≤ 1000000 ∧ sz e ≤ 1000000 ∧ e.depth < 12 ∧
  ∀ (x : V) (H' : Hp), Same H H' → Dp K H' x (faultG d e) → Q x H'
end
end K3
namespace K3
open PySem PySem.Spec PyProof.Rows L2 K1
section
variable {P : Program} {w : World} {K : PySem.W.Frag} {mg : Str → Option Value} {base : Heap}
theorem ord_no {n : Nat} {o : PyData} (h : isT o = false) : ordB n o = false := by
  cases o <;> first | rfl | cases h
theorem ord_whole {n : Nat} {ds : List PyData} (h : ordB n (.tuple ds) = true) : ∀ d ∈ ds, isW d = true := by
  have h' : (decide (ds.length = n) && (ds.all (fun d => btw d 0 ((n : Int) - 1)) && decide ((ds.map valI).Nodup))) = true := h
  rw [Bool.and_eq_true, Bool.and_eq_true, List.all_eq_true] at h'
  exact fun d hd => (btw_iff.mp (h'.2.1 d hd)).1
theorem ok__law_fault {f : Addr} {fd : FuncData} (F : Fun K "_law_fault" "_law_fault" s__law_fault f fd) (C__law_wrong : Cal P w K mg base "_law_wrong" pm__law_wrong 16 (sp__law_wrong K 12)) (C__law_are_parts : Cal P w K mg base "_law_are_parts" pm__law_are_parts 2 (sp__law_are_parts K)) (C__law_whole : Cal P w K mg base "_law_whole" pm__law_whole 1 (sp__law_whole K)) (C__law_laid : Cal P w K mg base "_law_laid" pm__law_laid 2 (sp__law_laid K)) (m_sorted : mg "sorted" = none) (m_list : mg "list" = none) (m_isinstance : mg "isinstance" = none) (m_tuple : mg "tuple" = none) (m_len : mg "len" = none) (m_range : mg "range" = none) : FnOk P w K mg base CX0 17 f fd pm__law_fault (sp__law_fault K) := by
  obtain ⟨f__law_wrong, fd__law_wrong, G__law_wrong, g__law_wrong, k__law_wrong, b__law_wrong⟩ := C__law_wrong.ex
  obtain ⟨f__law_are_parts, fd__law_are_parts, G__law_are_parts, g__law_are_parts, k__law_are_parts, b__law_are_parts⟩ := C__law_are_parts.ex
  obtain ⟨f__law_whole, fd__law_whole, G__law_whole, g__law_whole, k__law_whole, b__law_whole⟩ := C__law_whole.ex
  obtain ⟨f__law_laid, fd__law_laid, G__law_laid, g__law_laid, k__law_laid, b__law_laid⟩ := C__law_laid.ex
  refine F.ok sc__law_fault (fun vs H Q E h => ?_) (fun cdv A outer s H vs Q E hr h => ?_)
  · obtain ⟨v, u, d, e, rfl, _⟩ := h
    rfl
  · obtain ⟨v, u, d, e, rfl, hv, hu, pd, pe, sd, se, de, q⟩ := h
    have rm : ∀ {j : Nat}, j ≤ 16 → Room j (A.deeper (envOfC "_law_fault" (defScope s__law_fault) s.heap.objs.size f cdv)) := fun hj => hr.mono hj
    refine ⟨_, pss_cons (ps_if (pt_not (pt_val (pe_call G__law_are_parts (rm (by decide)) (by rfl) g__law_are_parts k__law_are_parts b__law_are_parts .nil pass0 (pa_cons (pv 0) pa_nil))))
      (pss_one (ps_ret (pe_tup (pa_cons pe_str (pa_cons (pe_tup pa_nil) pa_nil))))) pss_nil)
      (pss_cons (ps_if (PW.pt (pw_or (pt_not (pt_val (pe_callB call_isi (by rfl) m_isinstance (by decide +kernel) (pa_cons (pv 1) (pa_cons (pe_bltn (v := .ty "tuple") (by rfl) m_tuple (show bootBuiltins "tuple" = some (.type "tuple") by decide +kernel) rfl) pa_nil))))) (pw_or (pt_cmpR op_ne (pe_callB call_len_seq (by rfl) m_len PySem.boot_len (pa_cons (pv 1) pa_nil)) pe_int (nomark _)) (pw_or1 (pt_not (pt_val (pe_call G__law_whole (rm (by decide)) (by rfl) g__law_whole k__law_whole b__law_whole .nil pass0 (pa_cons (pe_ix ix_tup (pv 1) pe_int (fun _ _ => rfl)) pa_nil))))))))
      (pss_one (ps_ret (pe_tup (pa_cons pe_str (pa_cons (pe_tup pa_nil) pa_nil))))) pss_nil)
      (pss_cons (ps_asg (pv 1) (pg_tup (by rfl) (pgs_cons (pg_name (i := 2) sc__law_fault.nd rfl (.inl rfl)) (pgs_cons (pg_name (i := 3) sc__law_fault.nd rfl (.inl rfl)) (pgs_cons (pg_name (i := 4) sc__law_fault.nd rfl (.inl rfl)) pgs_nil)))))
      (pss_cons (ps_if (PW.pt (pw_or (pt_not (pt_val (pe_callB call_isi (by rfl) m_isinstance (by decide +kernel) (pa_cons (pv 3) (pa_cons (pe_bltn (v := .ty "tuple") (by rfl) m_tuple (show bootBuiltins "tuple" = some (.type "tuple") by decide +kernel) rfl) pa_nil))))) (pw_or1 (pt_cmpR (op_neM hr.units) (pe_lc (own := [("_law_k", 6)]) (g := gName 6) rfl sc__law_fault.nd (pi_tup (pv 3)) (blkOk_by (N := nm__law_fault) (sc := defScope s__law_fault) (by decide +kernel)) (fun _ _ _ _ _ => pg_name (i := 6) sc__law_fault.nd rfl (Or.inl rfl)) (fun _ _ _ _ _ => (pts_one (pt_not (pt_val (pe_call G__law_whole (rm (by decide)) (by rfl) g__law_whole k__law_whole b__law_whole .nil pass0 (pa_cons (pv 6) pa_nil)))))) (fun _ _ _ _ _ => (pv 6))) (pe_lst pa_nil) (nomark _)))))
      (pss_one (ps_ret (pe_tup (pa_cons pe_str (pa_cons (pe_tup pa_nil) pa_nil))))) pss_nil)
      (pss_cons (ps_if (pt_cmpR (op_neM hr.units) (pe_callB ST.cr_sortedT (by rfl) m_sorted (by decide +kernel) (pa_cons (pv 3) pa_nil)) (pe_listRg rfl (by rfl) m_list (prg_1 (by rfl) m_range (pe_callB call_len_seq (by rfl) m_len PySem.boot_len (pa_cons (pv 0) pa_nil)))) (nomark _))
      (pss_one (ps_ret (pe_tup (pa_cons pe_str (pa_cons (pe_tup pa_nil) pa_nil))))) pss_nil)
      (pss_cons (ps_if (pt_cmpR op_ne (pe_ix ix_tup (pe_call G__law_laid (rm (by decide)) (by rfl) g__law_laid k__law_laid b__law_laid .nil pass0 (pa_cons (pv 0) (pa_cons (pv 3) pa_nil))) pe_int (fun _ _ => rfl)) (pv 2) (nomark _))
      (pss_one (ps_ret (pe_tup (pa_cons pe_str (pa_cons (pe_tup pa_nil) pa_nil))))) pss_nil)
      (pss_cons (ps_set (i := 5) sc__law_fault.nd rfl (.inl rfl) (pe_call G__law_wrong (rm (by decide)) (by rfl) g__law_wrong k__law_wrong b__law_wrong .nil pass0 (pa_cons (pv 0) (pa_cons (pv 2) (pa_cons (pv 4) (pa_cons (pe_tup pa_nil) pa_nil))))))
      (pss_cons (ps_if (pt_cmpR (op_neM hr.units) (pv 5) (pe_lst pa_nil) (nomark _))
      (pss_one (ps_ret (pe_tup (pa_cons pe_str (pa_cons (pe_ix ix_list (pv 5) pe_int (fun _ _ => rfl)) pa_nil))))) pss_nil)
      (pss_one (ps_ret pe_non))))))))), ?_⟩
    refine ⟨v, rfl, v, d, rfl, hv, pd, sd, fun H1 s1 => ⟨partsB d, rfl, ite2 (fun c => ?_) (fun c => ?_)⟩⟩
    · have e1 : partsB d = false := by
        cases e : partsB d with
        | false => rfl
        | true => rw [e] at c; cases c
      rw [g_parts e1] at q
      exact word_any (K := K) fun x H' s' h' => q x H' (s1.trans s') h'
    have e1 : partsB d = true := by
      cases e : partsB d with
      | true => rfl
      | false => rw [e] at c; exact absurd rfl c
    have hu1 := (ts_same (K := K) s1).dp _ _ pe hu
    have form : (∀ b o t, e = .tuple [b, o, t] → isW b = false) → ∀ (x : V) (H' : Hp), Same H1 H' → Dp K H' x (wordD "form") → Q x H' := fun hf x H' s' h' => by
      rw [g_form e1 hf] at q
      exact q x H' (s1.trans s') h'
    refine ⟨u, rfl, u, _, _, _, isT e, rfl, .ty "tuple", dp_ty hu1 pe, kit_ty (kT e), isT e, rfl, ite2 (fun c2 => ?_) (fun c2 => ?_)⟩
    · refine word_any (K := K) (form fun b o t ee => ?_)
      subst ee
      cases c2
    cases e with
    | tuple es =>
      obtain ⟨p, xs, rfl, hp, hps⟩ := dp_tup hu1
      have hxl := dpAll_len hps
      refine ⟨.ref p, rfl, p, xs, rfl, .inr hp, rfl, _, rfl, ite2 (fun c2b => ?_) (fun c2b => ?_)⟩
      · refine word_any (K := K) (form fun b o t ee => ?_)
        cases ee
        rw [hxl] at c2b
        simp at c2b
      have z3 : (es.length : Int) = 3 := by
        have z : V.int (xs.length : Nat) = V.int 3 := by simpa using c2b
        have := V.int.inj z
        omega
      obtain ⟨b, o, t, rfl⟩ := three_of z3
      have ppp : pl b = true ∧ pl o = true ∧ pl t = true := by simpa [pl, plA] using pe
      cases hps with
      | @cons vb _ _ _ hb r =>
        cases r with
        | @cons vo _ _ _ ho r =>
          cases r with
          | @cons vt _ _ _ ht r =>
            cases r
            refine ⟨.ref p, rfl, p, _, 0, vb, rfl, rfl, hp, atI_nat (j := 0) rfl, vb, b, rfl, hb, ppp.1, isW b, rfl, ite2 (fun c3 => ?_) (fun c3 => ?_)⟩
            · refine word_any (K := K) (form fun b' o' t' ee => ?_)
              cases ee
              cases e : isW b with
              | false => rfl
              | true => rw [e] at c3; cases c3
            have eb : isW b = true := by
              cases e : isW b with
              | true => rfl
              | false => rw [e] at c3; exact absurd rfl c3
            rw [g_three e1 eb] at q
            have ebi := isW_int eb
            generalize valI b = bits at ebi q
            subst ebi
            have evb := dp_int hb
            subst evb
            refine ⟨.ref p, rfl, p, _, rfl, hp, rfl, _, _, rfl, _, _, rfl, _, _, rfl, rfl, ?_⟩
            obtain ⟨a, rfl, hP, hok, hl8⟩ := parts_of e1 ((ts_same (K := K) s1).dp _ _ pd hv)
            generalize toParts d = ps at hP hok hl8 q
            have no : ordB ps.length o = false → ∀ H2, Same H1 H2 → ∀ (x : V) (H' : Hp), Same H2 H' → Dp K H' x (wordD "order") → Q x H' := fun eo H2 s2 x H' s' h' => by
              rw [if_neg (by rw [eo]; exact Bool.false_ne_true)] at q
              exact q x H' ((s1.trans s2).trans s') h'
            refine ⟨vo, rfl, vo, _, _, _, isT o, rfl, .ty "tuple", dp_ty ho ppp.2.1, kit_ty (kT o), isT o, rfl, ite2 (fun c4 => ?_) (fun c4 => ?_)⟩
            · refine word_any (K := K) (no (ord_no ?_) H1 (Same.refl _))
              cases e : isT o with
              | false => rfl
              | true => rw [e] at c4; cases c4
            cases o with
            | tuple ds =>
              obtain ⟨oa, ys, rfl, hoa, hys⟩ := dp_tup ho
              have hyl := dpAll_len hys
              have hsz : sz (.tuple [.int bits, .tuple ds, t]) = (1 + ((szA ds + 1) + (sz t + 0))) + 1 := rfl
              have hls := len_szA ds
              have pds : plA ds = true := ppp.2.1
              refine ⟨.ref oa, rfl, oa, rfl, ⟨_, hoa⟩, fun D hD => lc_tup (xs := ys) (fun i H' => ∃ (ws : List V) (fs : List PyData), ws.length ≤ i ∧ H' D = some (.lst ws) ∧ DpAll K H' ws fs ∧ plA fs = true ∧ (fs = [] ↔ ∀ d ∈ ds.take i, isW d = true) ∧ Same H1 H') ⟨[], [], Nat.le_refl _, upd_same, .nil, rfl, ⟨fun _ d hd => (nomatch hd), fun _ => rfl⟩, same_upd hD⟩ (fun i H' _ hp => ?_) (fun i x H' hx hpv => ?_) (fun H2 hpv => ?_)⟩
              · obtain ⟨_, _, _, _, _, _, _, s'⟩ := hp
                exact ts_same s' _ _ hoa
              · obtain ⟨ws, fs, lw, eD, hW, pf, hiff, s'⟩ := hpv
                obtain ⟨di, k1, k2⟩ := dpAll_get hys hx
                have pdi : pl di = true := plA_mem pds (List.mem_of_getElem? k1)
                have hi := (List.getElem?_eq_some_iff.mp k1).1
                have hx' := (ts_same (K := K) s').dp _ _ pdi k2
                have tk : (∀ d ∈ ds.take (i + 1), isW d = true) ↔ (∀ d ∈ ds.take i, isW d = true) ∧ isW di = true := by
                  rw [List.take_add_one, k1]
                  constructor
                  · intro h
                    exact ⟨fun d hd => h d (List.mem_append.mpr (.inl hd)), h di (List.mem_append.mpr (.inr (by simp)))⟩
                  · rintro ⟨h1, h2⟩ d hd
                    rcases List.mem_append.mp hd with m | m
                    · exact h1 d m
                    · have : d = di := by simpa using m
                      rw [this]; exact h2
                refine ⟨rfl, x, rfl, x, di, rfl, hx', pdi, isW di, rfl, ite2 (fun c5 => ?_) (fun c5 => ?_)⟩
                · have en : isW di = false := by
                    cases e : isW di with
                    | false => rfl
                    | true => rw [e] at c5; cases c5
                  have t6 : K1.TS K H' (upd H' D (.lst (ws ++ [x]))) := ts_lst eD
                  refine ⟨x, rfl, ws, eD, ?_, ws ++ [x], fs ++ [di], ?_, upd_same, ?_, ?_, ?_, ?_⟩
                  · exact Nat.lt_of_le_of_lt (show ws.length ≤ 1000000 by omega) (by decide)
                  · rw [List.length_append]
                    exact Nat.succ_le_succ lw
                  · exact dpAll_append (TS.dps t6 _ _ pf hW) (.cons (TS.dp t6 _ _ pdi hx') .nil)
                  · refine plA_of fun d hd => ?_
                    rcases List.mem_append.mp hd with m | m
                    · exact plA_mem pf m
                    · rw [List.mem_singleton.mp m]; exact pdi
                  · rw [tk, en]
                    constructor
                    · intro z
                      simp at z
                    · intro z
                      exact absurd z.2 Bool.false_ne_true
                  · intro b' o' e
                    rw [upd_ne (ne_of_none e hD)]
                    exact s' b' o' e
                · have en : isW di = true := by
                    cases e : isW di with
                    | true => rfl
                    | false => rw [e] at c5; exact absurd rfl c5
                  refine ⟨ws, fs, by omega, eD, hW, pf, ?_, s'⟩
                  rw [tk, hiff]
                  exact ⟨fun z => ⟨z, en⟩, fun z => z.1⟩
              obtain ⟨ws, fs, lw, eD, hW, pf, hiff, s2⟩ := hpv
              rw [hyl, List.take_length] at hiff
              refine ⟨Nat.zero_le _, fun z nz => ?_⟩
              have s3 : Same H2 (upd H2 z (.lst [])) := same_upd nz
              have c3' : (upd H2 z (.lst [])) z = some (.lst []) := upd_same
              generalize upd H2 z (HO.lst []) = H3 at s3 c3' ⊢
              have s13 : Same H1 H3 := s2.trans s3
              refine ⟨.list fs, .list [], .lst (.inl (.inl (s3 _ _ eD))) (TS.dps (ts_same s3) _ _ pf hW), .lst (.inl (.inl c3')) .nil, canLayA _ pf, rfl, Nat.le_trans (Nat.min_le_right _ _) (by decide), _, rfl, ite2 (fun c6 => ?_) (fun c6 => ?_)⟩
              · rw [eqv_nil] at c6
                refine word_any (K := K) (no ?_ H3 s13)
                cases e : ordB ps.length (.tuple ds) with
                | false => rfl
                | true =>
                  rw [hiff.mpr (ord_whole e)] at c6
                  cases c6
              rw [eqv_nil] at c6
              have hfs : fs = [] := by
                cases fs with
                | nil => rfl
                | cons _ _ => exact absurd rfl c6
              have hwh := hiff.mp hfs
              have exs := vals_ints hys hwh
              have hoa3 := ts_same (K := K) s13 _ _ hoa
              refine ⟨.ref oa, rfl, oa, ds.map valI, rfl, by rw [← exs]; exact hoa3, fun ns' sl hsp hss nsl => ?_⟩
              have key := ord_sorted (n := ps.length) hwh hsp hss
              have hnl : ns'.length ≤ 1000000 := by rw [hsp.length_eq, List.length_map]; omega
              have s4 : Same H3 (upd H3 sl (.lst (ns'.map V.int))) := same_upd nsl
              have c4' : (upd H3 sl (.lst (ns'.map V.int))) sl = some (.lst (ns'.map V.int)) := upd_same
              generalize upd H3 sl (HO.lst (ns'.map V.int)) = H4 at s4 c4' ⊢
              have s14 : Same H1 H4 := s13.trans s4
              obtain ⟨ws4, hw4, lw4⟩ := (hP.ts (ts_same (K := K) s14)).len
              refine ⟨.ref a, rfl, a, ws4, rfl, .inr hw4, (ws4.length : Nat), rfl, RgOk.of_le (by omega) (by omega) (by omega) (by omega), fun rl nrl => ?_⟩
              rw [rgV_nat, lw4, nats_ints]
              have s5 : Same H4 (upd H4 rl (.lst (((List.range ps.length).map fun (k : Nat) => (k : Int)).map V.int))) := same_upd nrl
              have c5' : (upd H4 rl (.lst (((List.range ps.length).map fun (k : Nat) => (k : Int)).map V.int))) rl = some (.lst (((List.range ps.length).map fun (k : Nat) => (k : Int)).map V.int)) := upd_same
              generalize upd H4 rl (HO.lst (((List.range ps.length).map fun (k : Nat) => (k : Int)).map V.int)) = H5 at s5 c5' ⊢
              have s15 : Same H1 H5 := s14.trans s5
              refine ⟨.list (ns'.map PyData.int), .list (((List.range ps.length).map fun (k : Nat) => (k : Int)).map PyData.int), .lst (.inl (.inl (s5 _ _ c4'))) (ints_dpL _), .lst (.inl (.inl c5')) (ints_dpL _), ints_can _, ints_can _, ?_, _, rfl, ite2 (fun c7 => ?_) (fun c7 => ?_)⟩
              · refine Nat.le_trans (Nat.min_le_right _ _) ?_
                have := ints_depthL ((List.range ps.length).map fun (k : Nat) => (k : Int))
                simp only [PyData.depth]
                omega
              · simp only [PyData.eqv, eqvAll_iff] at c7
                refine word_any (K := K) (no ?_ H5 s15)
                cases e : ordB ps.length (.tuple ds) with
                | false => rfl
                | true =>
                  rw [decide_eq_true (key.mpr e)] at c7
                  cases c7
              simp only [PyData.eqv, eqvAll_iff] at c7
              have eo : ordB ps.length (.tuple ds) = true := by
                refine key.mp ?_
                by_cases z : ns' = (List.range ps.length).map fun (k : Nat) => (k : Int)
                · exact z
                · rw [decide_eq_false z] at c7
                  exact absurd rfl c7
              rw [if_pos eo] at q
              obtain ⟨oa', eoa, hO, hperm⟩ := ord_of eo (Dp.tup hoa hys)
              cases eoa
              have dt : t.depth < 12 := by
                rw [depth_tuple] at de
                have := depth_mem (ds := [.int bits, .tuple ds, t]) (d := t) (by simp)
                omega
              generalize toOrd (.tuple ds) = os at hO hperm q
              have mem : ∀ k, k ∈ os → k < ps.length := fun k hk => List.mem_range.mp (hperm.mem_iff.mp hk)
              have s05 : Same H H5 := s1.trans s15
              refine ⟨.ref a, rfl, .ref oa, rfl, a, oa, ps, os, rfl, ⟨hP.ts (ts_same s15), ts_same s15 _ _ hO, hok, mem⟩, by omega, fun r tt H6 s6 hr6 _ => ?_⟩
              have s06 : Same H H6 := s05.trans s6
              refine ⟨r, _, 1, _, rfl, rfl, hr6, atI_nat (j := 1) rfl, .int bits, rfl, rfl, _, rfl, ite2 (fun c8 => ?_) (fun c8 => ?_)⟩
              · have ne : (laidF ps os).2 ≠ bits := fun z => by rw [z] at c8; simp at c8
                refine word_any (K := K) fun x H' s' h' => q x H' (s06.trans s') ?_
                unfold faultD
                rw [if_neg ne]
                exact h'
              have eq : (laidF ps os).2 = bits := by
                have z : V.int (laidF ps os).2 = V.int bits := by simpa using c8
                exact V.int.inj z
              have fin : ∀ v' H', Same H H' → Dp K H' v' (treeD (wrT ps bits t [])) → Q v' H' := fun v' H' s' h' => by
                refine q v' H' s' ?_
                unfold faultD
                rw [if_pos eq]
                exact h'
              have s16 : Same H1 H6 := s15.trans s6
              refine ⟨.ref a, rfl, .int bits, rfl, vt, rfl, Nat.zero_le _, fun t0 n0 => ?_⟩
              have s7 : Same H6 (upd H6 t0 (.tup [])) := same_upd n0
              have c7' : (upd H6 t0 (.tup [])) t0 = some (.tup []) := upd_same
              generalize upd H6 t0 (HO.tup []) = H7 at s7 c7' ⊢
              have s17 : Same H1 H7 := s16.trans s7
              refine ⟨a, t0, vt, ps, [], bits, t, rfl, ⟨hP.ts (ts_same s17), .inl (.inl c7'), hok, fun _ h => (nomatch h)⟩, beg_nil _, by omega, (ts_same s17).dp _ _ ppp.2.2 ht, ppp.2.2, dt, fun l H8 s8 hR => ?_⟩
              refine ⟨.ref l, rfl, Nat.zero_le _, fun z' nz' => ?_⟩
              have s9 : Same H8 (upd H8 z' (.lst [])) := same_upd nz'
              have c9 : (upd H8 z' (.lst [])) z' = some (.lst []) := upd_same
              generalize upd H8 z' (HO.lst []) = H9 at s9 c9 ⊢
              have hR9 := hR.ts s9
              have s09 : Same H H9 := s1.trans ((s17.trans s8).trans s9)
              obtain ⟨gs, hgs, cgs, egs⟩ := wrR_dp hR9
              refine ⟨.list gs, .list [], hgs, .lst (.inl (.inl c9)) .nil, cgs, rfl, Nat.le_trans (Nat.min_le_right _ _) (by decide), _, rfl, ite2 (fun c10 => ?_) (fun c10 => ?_)⟩
              · rw [eqv_nil, egs] at c10
                cases e : wrT ps bits t [] with
                | none => rw [e] at c10; cases c10
                | some b =>
                  rw [e] at hR9
                  obtain ⟨t9, h1, h2⟩ := hR9
                  refine ⟨.ref l, rfl, l, _, 0, _, rfl, rfl, .inl (.inl h1), atI_nat (j := 0) rfl, (by show 2 ≤ sizeLine; decide), fun u9 nu => fin _ _ (s09.trans (same_upd nu)) ?_⟩
                  rw [e]
                  exact .tup (.inl (.inl upd_same)) (.cons (.str _) (.cons (.tup (ts_same (same_upd nu) _ _ h2) (nats_dp b)) .nil))
              · rw [eqv_nil, egs] at c10
                cases e : wrT ps bits t [] with
                | some b => rw [e] at c10; exact absurd rfl c10
                | none =>
                  refine fin _ _ s09 ?_
                  rw [e]
                  exact .non
            | _ => exact absurd rfl c4
    | _ => exact absurd rfl c2
end
end K3
namespace K3
open PySem PySem.Spec PyProof.Rows L2 K1
abbrev s__law_any_order : Stmt := topS 26
abbrev nm__law_any_order : List Str := ["_law_drawn", "_law_many", "_law_left_here", "_law_found", "_law_k"]
abbrev pm__law_any_order : List Str := ["_law_drawn", "_law_many"]
theorem sc__law_any_order : FnScope nm__law_any_order pm__law_any_order (defScope s__law_any_order) := ⟨rfl, rfl, rfl, by decide +kernel, rfl, by decide +kernel, by decide +kernel⟩
section
variable {P : Program} {w : World} {K : PySem.W.Frag} {mg : Str → Option Value} {base : Heap}
def sp__law_any_order (K : PySem.W.Frag) : Sp := fun vs H Q _ => ∃ (dk cl lf : Addr) (B n : Nat), vs = [.ref dk, natV n] ∧ Dk H dk cl lf B ∧ B ≤ 2 ^ 38 ∧ n ≤ 100 ∧
  ∀ (o : Addr) (os : List Nat) (H' : Hp), SqT K H' o (os.map natV) → os.Perm (List.range n) → Dk H' dk cl lf (B + n) → KD dk lf H H' → Q (.ref o) H'
theorem sixN {j n : Nat} (h : j < n) : seqIndex? (j : Int) n = some j := by
  have h0 : ¬ ((j : Int) < 0) := by omega
  unfold seqIndex?
  simp only [h0, if_false]
  simp
  omega
theorem erase_map {α β : Type} (f : α → β) : ∀ (l : List α) (j : Nat), (l.map f).eraseIdx j = (l.eraseIdx j).map f
  | [], j => by simp
  | x :: l, 0 => rfl
  | x :: l, j + 1 => congrArg (List.cons (f x)) (erase_map f l j)
theorem erase_perm {α : Type} : ∀ (l : List α) (j : Nat) (h : j < l.length), (l[j] :: l.eraseIdx j).Perm l
  | x :: l, 0, _ => List.Perm.refl _
  | x :: l, j + 1, h => by
    have ih := erase_perm l j (by simpa using h)
    exact (List.Perm.swap _ _ _).trans (ih.cons x)
theorem ok__law_any_order {f : Addr} {fd : FuncData} (F : Fun K "_law_any_order" "_law_any_order" s__law_any_order f fd) (C__law_next : Cal P w K mg base "_law_next" pm__law_next 1 sp__law_next) (m_list : mg "list" = none) (m_range : mg "range" = none) (m_len : mg "len" = none) : FnOk P w K mg base CX0 2 f fd pm__law_any_order (sp__law_any_order K) := by
  obtain ⟨f__law_next, fd__law_next, G__law_next, g__law_next, k__law_next, b__law_next⟩ := C__law_next.ex
  refine F.ok sc__law_any_order (fun vs H Q E h => ?_) (fun cdv A outer s H vs Q E hr h => ?_)
  · obtain ⟨dk, cl, lf, B, n, rfl, _⟩ := h
    rfl
  · obtain ⟨dk, cl, lf, B, n, rfl, D0, hB, hn, q⟩ := h
    have rm : ∀ {j : Nat}, j ≤ 1 → Room j (A.deeper (envOfC "_law_any_order" (defScope s__law_any_order) s.heap.objs.size f cdv)) := fun hj => hr.mono hj
    refine ⟨_, pss_cons (ps_set (i := 2) sc__law_any_order.nd rfl (.inl rfl) (pe_listRg rfl (by rfl) m_list (prg_1 (by rfl) m_range (pv 1))))
      (pss_cons (ps_set (i := 3) sc__law_any_order.nd rfl (.inl rfl) (pe_tup pa_nil))
      (pss_cons (ps_for PassesOwn.never rfl (pi_range1 (by rfl) m_range (pa_cons (pv 1) pa_nil)) (pg_name (i := 4) sc__law_any_order.nd rfl (.inl rfl))
      (pss_one (ps_set (i := 3) sc__law_any_order.nd rfl (.inl rfl) (pe_op op_catA (pv 3) (pe_tup (pa_cons (pe_bm PySem.F.plainAttrs_list PySem.F.slot_list_pop PySem.F.type_list_pop mt_popAt (pv 2) (pa_cons (pe_call G__law_next (rm (by decide)) (by rfl) g__law_next k__law_next b__law_next .nil pass0 (pa_cons (pv 0) (pa_cons (pe_callB call_len_seq (by rfl) m_len PySem.boot_len (pa_cons (pv 2) pa_nil)) pa_nil))) pa_nil)) pa_nil))))))
      (pss_one (ps_ret (pv 3))))), ?_⟩
    refine ⟨natV n, rfl, n, rfl, RgOk.of_le (by omega) (by omega) (by omega) (by omega), fun l nl => ?_⟩
    rw [rgV_nat]
    have nD := D0.not nl
    have D1 : Dk (upd H l (.lst ((List.range n).map natV))) dk cl lf B := D0.upd nD
    have s1 : Same H (upd H l (.lst ((List.range n).map natV))) := same_upd nl
    have c1 : (upd H l (.lst ((List.range n).map natV))) l = some (.lst ((List.range n).map natV)) := upd_same
    generalize upd H l (HO.lst ((List.range n).map natV)) = H1 at D1 s1 c1 ⊢
    refine ⟨Nat.zero_le _, fun t nt => ?_⟩
    have D2 := D1.upd (o := .tup []) (D1.not nt)
    have s2 : Same H1 (upd H1 t (.tup [])) := same_upd nt
    have c2 : (upd H1 t (.tup [])) t = some (.tup []) := upd_same
    generalize upd H1 t (HO.tup []) = H2 at D2 s2 c2 ⊢
    refine ⟨natV n, rfl, n, rfl, by omega, by omega, for_range (lo := 0) (n := ((n : Nat) : Int).toNat) (fun i σ H' => ∃ (ft : Addr) (L F : List Nat) (x4 : Option V), σ = [some (.ref dk), some (natV n), some (.ref l), some (.ref ft), x4] ∧ H' l = some (.lst (L.map natV)) ∧ SqT K H' ft (F.map natV) ∧ (F ++ L).Perm (List.range n) ∧ F.length = i ∧ Dk H' dk cl lf (B + i) ∧ KD dk lf H H') ⟨t, List.range n, [], none, rfl, s2 _ _ c1, .inl (.inl c2), List.Perm.refl _, rfl, D2, KD.of_same (s1.trans s2)⟩ (fun i σ H' hi hP => ?_) (fun σ H' hP => ?_)⟩
    · obtain ⟨ft, L, F, x4, rfl, eL, hF, hperm, lF, D', k'⟩ := hP
      rw [Int.toNat_natCast] at hi
      have hlen : F.length + L.length = n := by
        have := hperm.length_eq
        rw [List.length_append, List.length_range] at this
        exact this
      have hLp : 0 < L.length := by omega
      have hS : SqL K H' l (L.map natV) := .inl (.inl eL)
      have hlm : ((L.map natV).length : Int) = (L.length : Int) := by rw [List.length_map]
      refine ⟨.ref ft, rfl, .ref l, rfl, .inl ⟨rfl, _, hS⟩, .ref dk, rfl, .ref l, rfl, l, _, rfl, .inl hS, dk, cl, lf, B + i, ((L.map natV).length : Nat), rfl, D', by omega, by rw [hlm]; omega, ?_, fun d H3 d0 d1 D3 k3 => ?_⟩
      · rw [List.length_map, Int.natAbs_natCast]
        exact Nat.lt_of_le_of_lt (Nat.log2_le_self _) (by omega)
      rw [hlm] at d1
      obtain ⟨j, rfl⟩ : ∃ j : Nat, d = (j : Int) := ⟨d.toNat, by omega⟩
      have hj : j < L.length := by omega
      have eL3 := k3 l _ nD.1 nD.2.2 eL
      have gj : (L.map natV)[j]? = some (natV L[j]) := by rw [List.getElem?_map, List.getElem?_eq_getElem hj]; rfl
      refine ⟨l, L.map natV, j, j, natV L[j], rfl, rfl, eL3, by omega, by omega, ?_, gj, (by show 1 ≤ sizeLine; decide), fun u nu => ?_⟩
      · rw [List.length_map]; exact sixN hj
      have ee : (L.map natV).eraseIdx j = (L.eraseIdx j).map natV := erase_map natV L j
      rw [ee] at nu ⊢
      have ts3 : K1.TS K H' (upd H3 l (.lst ((L.eraseIdx j).map natV))) := (D'.ts k3).trans (ts_lst eL3)
      have D4 : Dk (upd H3 l (.lst ((L.eraseIdx j).map natV))) dk cl lf (B + i + 1) := D3.upd nD
      have c4 : (upd H3 l (.lst ((L.eraseIdx j).map natV))) l = some (.lst ((L.eraseIdx j).map natV)) := upd_same
      have k4 : KD dk lf H (upd H3 l (.lst ((L.eraseIdx j).map natV))) := fun b o n1 n2 e => by
        rw [upd_ne (ne_of_none e nl)]
        exact k3 b o n1 n2 (k' b o n1 n2 e)
      generalize upd H3 l (HO.lst ((L.eraseIdx j).map natV)) = H4 at nu ts3 D4 c4 k4 ⊢
      have t5 : K1.TS K H4 (upd H4 u (.tup [natV L[j]])) := ts_new nu
      refine catA_any (t5 _ _ (ts3 _ _ hF)) (.inl (.inl upd_same)) ?_ fun r H6 s6 hr6 => ?_
      · rw [List.length_map]
        exact Nat.le_trans (show F.length + 1 ≤ 1000 by omega) (by decide)
      refine ⟨r, L.eraseIdx j, F ++ [L[j]], _, rfl, s6 _ _ (same_upd nu _ _ c4), ?_, ?_, ?_, ?_, ?_⟩
      · rw [List.map_append]; exact hr6
      · refine List.Perm.trans ?_ hperm
        rw [List.append_assoc]
        exact List.Perm.append_left F (erase_perm L j hj)
      · rw [List.length_append, lF]; rfl
      · exact ((D4.upd (D4.not nu)).same s6)
      · exact (k4.trans (KD.of_same (same_upd nu))).trans (KD.of_same s6)
    · obtain ⟨ft, L, F, x4, rfl, eL, hF, hperm, lF, D', k'⟩ := hP
      rw [Int.toNat_natCast] at lF D'
      have hlen : F.length + L.length = n := by
        have := hperm.length_eq
        rw [List.length_append, List.length_range] at this
        exact this
      have hL : L = [] := List.length_eq_zero_iff.mp (by omega)
      rw [hL, List.append_nil] at hperm
      exact ⟨.ref ft, rfl, q ft F H' hF hperm D' k'⟩
end
end K3
namespace K3
open PySem PySem.Spec PyProof.Rows L2 K1
abbrev s__law_odd : Stmt := topS 35
abbrev nm__law_odd : List Str := ["_law_drawn", "_law_some"]
abbrev pm__law_odd : List Str := ["_law_drawn"]
theorem sc__law_odd : FnScope nm__law_odd pm__law_odd (defScope s__law_odd) := ⟨rfl, rfl, rfl, by decide +kernel, rfl, by decide +kernel, by decide +kernel⟩
abbrev s__law_put : Stmt := topS 36
abbrev nm__law_put : List Str := ["_law_row", "_law_at", "_law_thing"]
abbrev pm__law_put : List Str := ["_law_row", "_law_at", "_law_thing"]
theorem sc__law_put : FnScope nm__law_put pm__law_put (defScope s__law_put) := ⟨rfl, rfl, rfl, by decide +kernel, rfl, by decide +kernel, by decide +kernel⟩
abbrev s__law_bent_order : Stmt := topS 38
abbrev nm__law_bent_order : List Str := ["_law_drawn", "_law_order", "_law_at", "_law_some", "_law_way"]
abbrev pm__law_bent_order : List Str := ["_law_drawn", "_law_order"]
theorem sc__law_bent_order : FnScope nm__law_bent_order pm__law_bent_order (defScope s__law_bent_order) := ⟨rfl, rfl, rfl, by decide +kernel, rfl, by decide +kernel, by decide +kernel⟩
abbrev s__law_bent_parts : Stmt := topS 37
abbrev nm__law_bent_parts : List Str := ["_law_drawn", "_law_pieces", "_law_way", "_law_at", "_law_piece", "_law_some"]
abbrev pm__law_bent_parts : List Str := ["_law_drawn", "_law_pieces"]
theorem sc__law_bent_parts : FnScope nm__law_bent_parts pm__law_bent_parts (defScope s__law_bent_parts) := ⟨rfl, rfl, rfl, by decide +kernel, rfl, by decide +kernel, by decide +kernel⟩
section
variable {P : Program} {w : World} {K : PySem.W.Frag} {mg : Str → Option Value} {base : Heap}
/-- some plain thing that isn't too great -/
def Pn (K : PySem.W.Frag) (H : Hp) (v : V) (n m : Nat) : Prop := ∃ d, Dp K H v d ∧ pl d = true ∧ sz d ≤ n ∧ d.depth ≤ m
theorem Pn.ts {H H1 : Hp} {v : V} {n m : Nat} (h : Pn K H v n m) (s : K1.TS K H H1) : Pn K H1 v n m := by
  obtain ⟨d, h1, h2, h3, h4⟩ := h
  exact ⟨d, s.dp _ _ h2 h1, h2, h3, h4⟩
theorem Pn.mono {H : Hp} {v : V} {n m n' m' : Nat} (h : Pn K H v n m) (hn : n ≤ n') (hm : m ≤ m') : Pn K H v n' m' := by
  obtain ⟨d, h1, h2, h3, h4⟩ := h
  exact ⟨d, h1, h2, by omega, by omega⟩
theorem pn_non {H : Hp} {n m : Nat} (hn : 1 ≤ n) (hm : 1 ≤ m) : Pn K H .non n m := ⟨.none, .non, rfl, hn, by simp [PyData.depth]⟩
theorem pn_bl {H : Hp} {b : Bool} {n m : Nat} (hn : 1 ≤ n) (hm : 1 ≤ m) : Pn K H (.bl b) n m := ⟨.bool b, .bl b, rfl, hn, by simp [PyData.depth]⟩
theorem pn_int {H : Hp} {i : Int} {n m : Nat} (hn : 1 ≤ n) (hm : 1 ≤ m) : Pn K H (.int i) n m := ⟨.int i, .int i, rfl, hn, by simp [PyData.depth]⟩
theorem pn_str {H : Hp} {s : Str} {n m : Nat} (h : PyData.strOk s = true) (hn : s.length + 1 ≤ n) (hm : 1 ≤ m) : Pn K H (.str s) n m := ⟨.str s, .str s, h, hn, by simp [PyData.depth]⟩
theorem pn_all {H : Hp} {n m : Nat} : ∀ {xs : List V}, (∀ x ∈ xs, Pn K H x n m) → ∃ ds, DpAll K H xs ds ∧ plA ds = true ∧ szA ds ≤ xs.length * n ∧ PyData.depthAll ds ≤ m
  | [], _ => ⟨[], .nil, rfl, by simp [szA], by simp [PyData.depthAll]⟩
  | x :: xs, h => by
    obtain ⟨d, h1, h2, h3, h4⟩ := h x List.mem_cons_self
    obtain ⟨ds, g1, g2, g3, g4⟩ := pn_all fun y hy => h y (List.mem_cons_of_mem _ hy)
    refine ⟨d :: ds, .cons h1 g1, by show (pl d && plA ds) = true; rw [h2, g2]; rfl, ?_, ?_⟩
    · rw [List.length_cons, Nat.succ_mul]
      simp only [szA]
      omega
    · simp only [PyData.depthAll]
      omega
theorem pn_tup {H : Hp} {a : Addr} {xs : List V} {n m : Nat} (hs : SqT K H a xs) (h : ∀ x ∈ xs, Pn K H x n m) {c : Nat} (hc : xs.length ≤ c) : Pn K H (.ref a) (c * n + 1) (m + 1) := by
  obtain ⟨ds, g1, g2, g3, g4⟩ := pn_all h
  refine ⟨.tuple ds, .tup hs g1, g2, ?_, by rw [depth_tuple]; omega⟩
  have := Nat.mul_le_mul_right n hc
  show szA ds + 1 ≤ _
  omega
theorem pick_mem {vs : List V} {j : Nat} (h : j < vs.length) : ∃ v, vs[j]? = some v ∧ v ∈ vs := ⟨vs[j], List.getElem?_eq_getElem h, List.getElem_mem h⟩
def sp__law_odd (K : PySem.W.Frag) : Sp := fun vs H Q _ => ∃ (dk cl lf : Addr) (B : Nat), vs = [.ref dk] ∧ Dk H dk cl lf B ∧ B ≤ 2 ^ 38 ∧ ∀ (v : V) (H' : Hp), Pn K H' v 10 2 → Dk H' dk cl lf (B + 1) → KD dk lf H H' → Q v H'
theorem ok__law_odd {f : Addr} {fd : FuncData} (F : Fun K "_law_odd" "_law_odd" s__law_odd f fd) (C__law_next : Cal P w K mg base "_law_next" pm__law_next 1 sp__law_next) : FnOk P w K mg base CX0 2 f fd pm__law_odd (sp__law_odd K) := by
  obtain ⟨f__law_next, fd__law_next, G__law_next, g__law_next, k__law_next, b__law_next⟩ := C__law_next.ex
  refine F.ok sc__law_odd (fun vs H Q E h => ?_) (fun cdv A outer s H vs Q E hr h => ?_)
  · obtain ⟨dk, cl, lf, B, rfl, _⟩ := h
    rfl
  · obtain ⟨dk, cl, lf, B, rfl, D0, hB, q⟩ := h
    have rm : ∀ {j : Nat}, j ≤ 1 → Room j (A.deeper (envOfC "_law_odd" (defScope s__law_odd) s.heap.objs.size f cdv)) := fun hj => hr.mono hj
    refine ⟨_, pss_cons (ps_set (i := 1) sc__law_odd.nd rfl (.inl rfl) (pe_lst (pa_cons pe_non (pa_cons pe_bl (pa_cons pe_bl (pa_cons pe_str (pa_cons (pe_tup pa_nil) (pa_cons (pe_tup (pa_cons pe_int pa_nil)) (pa_cons (pe_un un_neg pe_int) (pa_cons pe_int (pa_cons pe_int (pa_cons (pe_op op_pow pe_int pe_int) pa_nil))))))))))))
      (pss_one (ps_ret (pe_ix ix_list (pv 1) (pe_call G__law_next (rm (by decide)) (by rfl) g__law_next k__law_next b__law_next .nil pass0 (pa_cons (pv 0) (pa_cons pe_int pa_nil))) (fun _ _ => rfl)))), ?_⟩
    refine ⟨Nat.zero_le _, fun t1 n1 => ⟨(by show 1 ≤ sizeLine; decide), fun t2 n2 => ?_⟩⟩
    have s1 : Same H (upd H t1 (.tup [])) := same_upd n1
    have c1 : (upd H t1 (.tup [])) t1 = some (.tup []) := upd_same
    generalize upd H t1 (HO.tup []) = H1 at s1 c1 n2 ⊢
    have s2 : Same H1 (upd H1 t2 (.tup [.int 1])) := same_upd n2
    have c2 : (upd H1 t2 (.tup [.int 1])) t2 = some (.tup [.int 1]) := upd_same
    generalize upd H1 t2 (HO.tup [.int 1]) = H2 at s2 c2 ⊢
    refine ⟨_, rfl, _, _, rfl, rfl, ⟨by decide, by decide, by decide⟩, (by show 10 ≤ sizeLine; decide), fun l nl => ?_⟩
    have D2 := D0.same (s1.trans s2)
    have nD := D2.not nl
    have all : ∀ x ∈ [V.non, V.bl true, V.bl false, V.str "1", V.ref t1, V.ref t2, V.int (-1), V.int 4097, V.int 2, V.int (10 ^ Int.toNat 30)], Pn K (upd H2 l (.lst [V.non, V.bl true, V.bl false, V.str "1", V.ref t1, V.ref t2, V.int (-1), V.int 4097, V.int 2, V.int (10 ^ Int.toNat 30)])) x 10 2 := fun x hx => by
      have tl : K1.TS K H2 (upd H2 l (.lst [V.non, V.bl true, V.bl false, V.str "1", V.ref t1, V.ref t2, V.int (-1), V.int 4097, V.int 2, V.int (10 ^ Int.toNat 30)])) := ts_new nl
      refine Pn.ts ?_ tl
      simp only [List.mem_cons, List.not_mem_nil, or_false] at hx
      rcases hx with rfl | rfl | rfl | rfl | rfl | rfl | rfl | rfl | rfl | rfl
      · exact pn_non (by decide) (by decide)
      · exact pn_bl (by decide) (by decide)
      · exact pn_bl (by decide) (by decide)
      · exact pn_str (by decide +kernel) (by decide +kernel) (by decide)
      · exact Pn.mono (pn_tup (n := 1) (m := 1) (c := 0) (.inl (.inl (s2 _ _ c1))) (fun _ h => (nomatch h)) (Nat.le_refl _)) (by decide) (by decide)
      · exact Pn.mono (pn_tup (n := 1) (m := 1) (c := 1) (.inl (.inl c2)) (fun x h => by rw [List.mem_singleton.mp h]; exact pn_int (by decide) (by decide)) (Nat.le_refl _)) (by decide) (by decide)
      · exact pn_int (by decide) (by decide)
      · exact pn_int (by decide) (by decide)
      · exact pn_int (by decide) (by decide)
      · exact pn_int (by decide) (by decide)
    have D3 := D2.upd (o := .lst [V.non, V.bl true, V.bl false, V.str "1", V.ref t1, V.ref t2, V.int (-1), V.int 4097, V.int 2, V.int (10 ^ Int.toNat 30)]) nD
    have c3 : (upd H2 l (.lst [V.non, V.bl true, V.bl false, V.str "1", V.ref t1, V.ref t2, V.int (-1), V.int 4097, V.int 2, V.int (10 ^ Int.toNat 30)])) l = some (.lst [V.non, V.bl true, V.bl false, V.str "1", V.ref t1, V.ref t2, V.int (-1), V.int 4097, V.int 2, V.int (10 ^ Int.toNat 30)]) := upd_same
    have s3 : Same H2 (upd H2 l (.lst [V.non, V.bl true, V.bl false, V.str "1", V.ref t1, V.ref t2, V.int (-1), V.int 4097, V.int 2, V.int (10 ^ Int.toNat 30)])) := same_upd nl
    generalize upd H2 l (HO.lst [V.non, V.bl true, V.bl false, V.str "1", V.ref t1, V.ref t2, V.int (-1), V.int 4097, V.int 2, V.int (10 ^ Int.toNat 30)]) = H3 at all D3 c3 s3
    refine ⟨.ref l, rfl, .ref dk, rfl, dk, cl, lf, B, 10, rfl, D3, by omega, by decide, by decide +kernel, fun d H4 d0 d1 D4 k4 => ?_⟩
    obtain ⟨j, rfl⟩ : ∃ j : Nat, d = (j : Int) := ⟨d.toNat, by omega⟩
    obtain ⟨v, gv, mv⟩ := pick_mem (vs := [V.non, V.bl true, V.bl false, V.str "1", V.ref t1, V.ref t2, V.int (-1), V.int 4097, V.int 2, V.int (10 ^ Int.toNat 30)]) (j := j) (by show j < 10; omega)
    refine ⟨l, _, _, v, rfl, rfl, .inl (.inl (k4 _ _ nD.1 nD.2.2 c3)), atI_nat gv, ?_⟩
    exact q v H4 ((all v mv).ts (D3.ts k4)) D4 (((KD.of_same (s1.trans s2)).trans (KD.of_same s3)).trans k4)
def sp__law_put (K : PySem.W.Frag) : Sp := fun vs H Q _ => ∃ (r : Addr) (j : Nat) (v : V) (xs : List V), vs = [.ref r, natV j, v] ∧ SqT K H r xs ∧ j < xs.length ∧ xs.length ≤ 1000 ∧
  ∀ (r' : Addr) (H' : Hp), Same H H' → SqT K H' r' ((xs.take j ++ [v]) ++ xs.drop (j + 1)) → Q (.ref r') H'
theorem ok__law_put {f : Addr} {fd : FuncData} (F : Fun K "_law_put" "_law_put" s__law_put f fd) : FnOk P w K mg base CX0 1 f fd pm__law_put (sp__law_put K) := by
  refine F.ok sc__law_put (fun vs H Q E h => ?_) (fun cdv A outer s H vs Q E hr h => ?_)
  · obtain ⟨r, j, v, xs, rfl, _⟩ := h
    rfl
  · obtain ⟨r, j, v, xs, rfl, hr', hj, hl, q⟩ := h
    refine ⟨_, pss_one (ps_ret (pe_op op_catA (pe_op op_catA (pe_slice sl_tupA (pv 0) po_none (po_some (pv 1))) (pe_tup (pa_cons (pv 2) pa_nil))) (pe_slice sl_tupA (pv 0) (po_some (pe_op op_add (pv 1) pe_int)) po_none))), ?_⟩
    refine ⟨.ref r, rfl, natV j, rfl, (j : Int), rfl, slA_any hr' fun r1 H1 s1 h1 => ?_⟩
    rw [cut_take] at h1
    refine ⟨v, rfl, (by show 1 ≤ sizeLine; decide), fun t nt => ?_⟩
    have s2 : Same H1 (upd H1 t (.tup [v])) := same_upd nt
    have c2 : (upd H1 t (.tup [v])) t = some (.tup [v]) := upd_same
    generalize upd H1 t (HO.tup [v]) = H2 at s2 c2 ⊢
    refine catA_any (ts_same s2 _ _ h1) (.inl (.inl c2)) ?_ fun r3 H3 s3 h3 => ?_
    · rw [List.length_take]
      exact Nat.le_trans (show min j xs.length + 1 ≤ 2000 by omega) (by decide)
    have s03 : Same H H3 := (s1.trans s2).trans s3
    refine ⟨.ref r, rfl, natV j, rfl, _, _, rfl, rfl, (j : Int) + 1, rfl, ?_⟩
    dsimp only [tNoPart]
    refine slA_any (ts_same s03 _ _ hr') fun r4 H4 s4 h4 => ?_
    replace h4 : SqT K H4 r4 (xs.drop (j + 1)) := by
      have z := cut_drop xs (j + 1)
      rw [← z]
      exact h4
    refine catA_any (ts_same s4 _ _ h3) h4 ?_ fun r5 H5 s5 h5 => q r5 H5 ((s03.trans s4).trans s5) h5
    rw [List.length_append, List.length_take, List.length_drop]
    exact Nat.le_trans (show min j xs.length + 1 + (xs.length - (j + 1)) ≤ 3000 by omega) (by decide)
theorem mem_put {xs : List V} {j : Nat} {v x : V} (h : x ∈ (xs.take j ++ [v]) ++ xs.drop (j + 1)) : x ∈ xs ∨ x = v := by
  rcases List.mem_append.mp h with m | m
  · rcases List.mem_append.mp m with m | m
    · exact .inl (List.mem_of_mem_take m)
    · exact .inr (List.mem_singleton.mp m)
  · exact .inl (List.mem_of_mem_drop m)
theorem len_put {xs : List V} {j : Nat} {v : V} (h : j < xs.length) : ((xs.take j ++ [v]) ++ xs.drop (j + 1)).length = xs.length := by
  rw [List.length_append, List.length_append, List.length_take, List.length_drop]
  simp
  omega
end
end K3
namespace K3
open PySem PySem.Spec PyProof.Rows L2 K1
section
variable {P : Program} {w : World} {K : PySem.W.Frag} {mg : Str → Option Value} {base : Heap}
theorem pick_next {H : Hp} {dk cl lf l : Addr} {B : Nat} {vs : List V} {n m : Nat} {k : Int} {Q : VK} {E : XK} (hk : k = (vs.length : Int)) (h0 : 0 < vs.length) (h1 : vs.length ≤ 1000) (D : Dk H dk cl lf B) (hB : B ≤ 2 ^ 40) (nl : H l = none) (all : ∀ x ∈ vs, Pn K H x n m)
    (q : ∀ v H', Pn K H' v n m → Dk H' dk cl lf (B + 1) → KD dk lf H H' → Q v H') : sp__law_next [.ref dk, .int k] (upd H l (.lst vs)) (fun i H' => rIxL K (.ref l) i H' Q) E := by
  have nD := D.not nl
  have s : Same H (upd H l (.lst vs)) := same_upd nl
  have D3 := D.same s
  refine ⟨dk, cl, lf, B, k, rfl, D3, by omega, by omega, rate_log (by omega) (by omega), fun d H4 d0 d1 D4 k4 => ?_⟩
  obtain ⟨j, rfl⟩ : ∃ j : Nat, d = (j : Int) := ⟨d.toNat, by omega⟩
  obtain ⟨v, gv, mv⟩ := pick_mem (vs := vs) (j := j) (by omega)
  exact ⟨l, _, _, v, rfl, rfl, .inl (.inl (k4 _ _ nD.1 nD.2.2 upd_same)), atI_nat gv, q v H4 (((all v mv).ts (ts_same s)).ts (D3.ts k4)) D4 ((KD.of_same s).trans k4)⟩
theorem pn_nats {H : Hp} {os : List Nat} {x : V} (h : x ∈ os.map natV) : Pn K H x 1 1 := by
  obtain ⟨j, _, rfl⟩ := List.mem_map.mp h
  exact pn_int (by decide) (by decide)
def sp__law_bent_order (K : PySem.W.Frag) : Sp := fun vs H Q _ => ∃ (dk cl lf o : Addr) (B : Nat) (os : List Nat), vs = [.ref dk, .ref o] ∧ Dk H dk cl lf B ∧ B ≤ 2 ^ 37 ∧ SqT K H o (os.map natV) ∧ os.length ≤ 8 ∧ ∀ (v : V) (H' : Hp), Pn K H' v 100 4 → Dk H' dk cl lf (B + 10) → KD dk lf H H' → Q v H'
theorem ok__law_bent_order {f : Addr} {fd : FuncData} (F : Fun K "_law_bent_order" "_law_bent_order" s__law_bent_order f fd) (C__law_next : Cal P w K mg base "_law_next" pm__law_next 1 sp__law_next) (C__law_odd : Cal P w K mg base "_law_odd" pm__law_odd 2 (sp__law_odd K)) (C__law_put : Cal P w K mg base "_law_put" pm__law_put 1 (sp__law_put K)) (m_len : mg "len" = none) : FnOk P w K mg base CX0 3 f fd pm__law_bent_order (sp__law_bent_order K) := by
  obtain ⟨f__law_next, fd__law_next, G__law_next, g__law_next, k__law_next, b__law_next⟩ := C__law_next.ex
  obtain ⟨f__law_odd, fd__law_odd, G__law_odd, g__law_odd, k__law_odd, b__law_odd⟩ := C__law_odd.ex
  obtain ⟨f__law_put, fd__law_put, G__law_put, g__law_put, k__law_put, b__law_put⟩ := C__law_put.ex
  refine F.ok sc__law_bent_order (fun vs H Q E h => ?_) (fun cdv A outer s H vs Q E hr h => ?_)
  · obtain ⟨dk, cl, lf, o, B, os, rfl, _⟩ := h
    rfl
  · obtain ⟨dk, cl, lf, o, B, os, rfl, D0, hB, hO, hl, q⟩ := h
    have rm : ∀ {j : Nat}, j ≤ 2 → Room j (A.deeper (envOfC "_law_bent_order" (defScope s__law_bent_order) s.heap.objs.size f cdv)) := fun hj => hr.mono hj
    refine ⟨_, pss_cons (ps_if (pt_cmpR (op_eqM hr.units) (pv 1) (pe_tup pa_nil) (nomark _))
      (pss_one (ps_ret (pe_ix ix_list (pe_lst (pa_cons pe_non (pa_cons (pe_tup (pa_cons pe_int pa_nil)) (pa_cons (pe_tup (pa_cons (pe_tup pa_nil) pa_nil)) pa_nil)))) (pe_call G__law_next (rm (by decide)) (by rfl) g__law_next k__law_next b__law_next .nil pass0 (pa_cons (pv 0) (pa_cons pe_int pa_nil))) (fun _ _ => rfl)))) pss_nil)
      (pss_cons (ps_set (i := 2) sc__law_bent_order.nd rfl (.inl rfl) (pe_call G__law_next (rm (by decide)) (by rfl) g__law_next k__law_next b__law_next .nil pass0 (pa_cons (pv 0) (pa_cons (pe_callB call_len_seq (by rfl) m_len PySem.boot_len (pa_cons (pv 1) pa_nil)) pa_nil))))
      (pss_cons (ps_set (i := 3) sc__law_bent_order.nd rfl (.inl rfl) (pe_lst (pa_cons (pe_call G__law_odd (rm (by decide)) (by rfl) g__law_odd k__law_odd b__law_odd .nil pass0 (pa_cons (pv 0) pa_nil)) (pa_cons (pe_ix ix_tup (pv 1) (pe_call G__law_next (rm (by decide)) (by rfl) g__law_next k__law_next b__law_next .nil pass0 (pa_cons (pv 0) (pa_cons (pe_callB call_len_seq (by rfl) m_len PySem.boot_len (pa_cons (pv 1) pa_nil)) pa_nil))) (fun _ _ => rfl)) (pa_cons (pe_callB call_len_seq (by rfl) m_len PySem.boot_len (pa_cons (pv 1) pa_nil)) (pa_cons pe_bl pa_nil))))))
      (pss_cons (ps_set (i := 4) sc__law_bent_order.nd rfl (.inl rfl) (pe_call G__law_next (rm (by decide)) (by rfl) g__law_next k__law_next b__law_next .nil pass0 (pa_cons (pv 0) (pa_cons pe_int pa_nil))))
      (pss_cons (ps_if (pt_cmpR op_lt (pv 4) pe_int (nomark _))
      (pss_one (ps_ret (pe_call G__law_put (rm (by decide)) (by rfl) g__law_put k__law_put b__law_put .nil pass0 (pa_cons (pv 1) (pa_cons (pv 2) (pa_cons (pe_ix ix_list (pv 3) (pv 4) (fun _ _ => rfl)) pa_nil)))))) pss_nil)
      (pss_one (ps_ret (pe_ix ix_list (pe_lst (pa_cons (pe_op op_catA (pe_slice sl_tupA (pv 1) po_none (po_some (pv 2))) (pe_slice sl_tupA (pv 1) (po_some (pe_op op_add (pv 2) pe_int)) po_none)) (pa_cons (pe_op op_catA (pv 1) (pe_tup (pa_cons (pe_callB call_len_seq (by rfl) m_len PySem.boot_len (pa_cons (pv 1) pa_nil)) pa_nil))) pa_nil))) (pe_op op_sub (pv 4) pe_int) (fun _ _ => rfl)))))))), ?_⟩
    have dO : Dp K H (.ref o) (natsD os) := .tup hO (nats_dp os)
    refine ⟨.ref o, rfl, Nat.zero_le _, fun t nt => ?_⟩
    have s1 : Same H (upd H t (.tup [])) := same_upd nt
    have c1 : (upd H t (.tup [])) t = some (.tup []) := upd_same
    generalize upd H t (HO.tup []) = H1 at s1 c1 ⊢
    have D1 := D0.same s1
    have hO1 := ts_same (K := K) s1 _ _ hO
    refine ⟨natsD os, .tuple [], (ts_same (K := K) s1).dp _ _ (nats_pl os) dO, .tup (.inl (.inl c1)) .nil, canLay _ (nats_pl os), rfl, Nat.le_trans (Nat.min_le_right _ _) (by decide), _, rfl, ite2 (fun c => ?_) (fun c => ?_)⟩
    · refine ⟨(by show 1 ≤ sizeLine; decide), fun t2 n2 => ⟨Nat.zero_le _, fun t3 n3 => ?_⟩⟩
      have s2 : Same H1 (upd H1 t2 (.tup [.int 0])) := same_upd n2
      have c2 : (upd H1 t2 (.tup [.int 0])) t2 = some (.tup [.int 0]) := upd_same
      generalize upd H1 t2 (HO.tup [.int 0]) = H2 at s2 c2 n3 ⊢
      have s3 : Same H2 (upd H2 t3 (.tup [])) := same_upd n3
      have c3 : (upd H2 t3 (.tup [])) t3 = some (.tup []) := upd_same
      generalize upd H2 t3 (HO.tup []) = H3 at s3 c3 ⊢
      refine ⟨(by show 1 ≤ sizeLine; decide), fun t4 n4 => ?_⟩
      have s4 : Same H3 (upd H3 t4 (.tup [.ref t3])) := same_upd n4
      have c4 : (upd H3 t4 (.tup [.ref t3])) t4 = some (.tup [.ref t3]) := upd_same
      generalize upd H3 t4 (HO.tup [.ref t3]) = H4 at s4 c4 ⊢
      have s14 := (s2.trans s3).trans s4
      refine ⟨(by show 3 ≤ sizeLine; decide), fun l nl => ⟨.ref dk, rfl, pick_next (K := K) (E := E0) (n := 10) (m := 4) rfl (by simp) (by simp) (D1.same s14) (by omega) nl (fun x hx => ?_) fun v H' hv D' k' => q v H' (hv.mono (by decide) (by decide)) (D'.mono (by omega)) (((KD.of_same s1).trans (KD.of_same s14)).trans k')⟩⟩
      simp only [List.mem_cons, List.not_mem_nil, or_false] at hx
      rcases hx with rfl | rfl | rfl
      · exact pn_non (by decide) (by decide)
      · exact Pn.mono (pn_tup (n := 1) (m := 1) (c := 1) (.inl (.inl (s4 _ _ (s3 _ _ c2)))) (fun x h => by rw [List.mem_singleton.mp h]; exact pn_int (by decide) (by decide)) (Nat.le_refl _)) (by decide) (by decide)
      · refine Pn.mono (pn_tup (n := 1) (m := 2) (c := 1) (.inl (.inl c4)) (fun x h => ?_) (Nat.le_refl _)) (by decide) (by decide)
        rw [List.mem_singleton.mp h]
        exact Pn.mono (pn_tup (n := 1) (m := 1) (c := 0) (.inl (.inl (s4 _ _ c3))) (fun _ h => (nomatch h)) (Nat.le_refl _)) (by decide) (by decide)
    have hpos : 0 < os.length := by
      cases os with
      | nil => exact absurd (by decide +kernel) c
      | cons _ _ => exact Nat.succ_pos _
    have hml : (os.map natV).length = os.length := List.length_map ..
    refine ⟨.ref dk, rfl, .ref o, rfl, o, _, rfl, .inr hO1, dk, cl, lf, B, _, rfl, D1, by omega, by omega, rate_log (by omega) (by omega), fun at' H2 a0 a1 D2 k2 => ?_⟩
    obtain ⟨j, rfl⟩ : ∃ j : Nat, at' = (j : Int) := ⟨at'.toNat, by omega⟩
    have t2 := D1.ts (K := K) k2
    refine ⟨.ref dk, rfl, dk, cl, lf, B + 1, rfl, D2, by omega, fun v3 H3 p3 D3 k3 => ?_⟩
    have t3 := D2.ts (K := K) k3
    have hO3 := t3 _ _ (t2 _ _ hO1)
    refine ⟨.ref o, rfl, .ref dk, rfl, .ref o, rfl, o, _, rfl, .inr hO3, dk, cl, lf, _, _, rfl, D3, by omega, by omega, rate_log (by omega) (by omega), fun i H4 i0 i1 D4 k4 => ?_⟩
    obtain ⟨i, rfl⟩ : ∃ i' : Nat, i = (i' : Int) := ⟨i.toNat, by omega⟩
    obtain ⟨z4, g4, m4⟩ := pick_mem (vs := os.map natV) (j := i) (by omega)
    have t4 := D3.ts (K := K) k4
    have hO4 := t4 _ _ hO3
    refine ⟨o, _, _, z4, rfl, rfl, hO4, atI_nat g4, .ref o, rfl, o, _, rfl, .inr hO4, (by show 4 ≤ sizeLine; decide), fun l nl => ?_⟩
    have all : ∀ x ∈ [v3, z4, V.int ((os.map natV).length : Nat), V.bl true], Pn K H4 x 10 2 := fun x hx => by
      simp only [List.mem_cons, List.not_mem_nil, or_false] at hx
      rcases hx with rfl | rfl | rfl | rfl
      · exact p3.ts t4
      · exact (pn_nats m4).mono (by decide) (by decide)
      · exact pn_int (by decide) (by decide)
      · exact pn_bl (by decide) (by decide)
    have n4 := D4.not nl
    have s5 : Same H4 (upd H4 l (.lst [v3, z4, V.int ((os.map natV).length : Nat), V.bl true])) := same_upd nl
    have c5 : (upd H4 l (.lst [v3, z4, V.int ((os.map natV).length : Nat), V.bl true])) l = some (.lst [v3, z4, V.int ((os.map natV).length : Nat), V.bl true]) := upd_same
    generalize upd H4 l (HO.lst [v3, z4, V.int ((os.map natV).length : Nat), V.bl true]) = H5 at s5 c5 ⊢
    have D5 := D4.same s5
    refine ⟨.ref dk, rfl, dk, cl, lf, _, 6, rfl, D5, by omega, by decide, by decide +kernel, fun wy H6 w0 w1 D6 k6 => ?_⟩
    have t6 := D5.ts (K := K) k6
    have hO6 := t6 _ _ (ts_same s5 _ _ hO4)
    have k06 : KD dk lf H H6 := (((((KD.of_same s1).trans k2).trans k3).trans k4).trans (KD.of_same s5)).trans k6
    obtain ⟨wy, rfl⟩ : ∃ i' : Nat, wy = (i' : Int) := ⟨wy.toNat, by omega⟩
    refine ⟨.int wy, rfl, _, _, rfl, rfl, _, rfl, ite2 (fun c6 => ?_) (fun c6 => ?_)⟩
    · have hw : wy < 4 := by
        have := of_decide_eq_true c6
        omega
      obtain ⟨z6, g6, m6⟩ := pick_mem (vs := [v3, z4, V.int ((os.map natV).length : Nat), V.bl true]) (j := wy) hw
      refine ⟨.ref o, rfl, .int j, rfl, .ref l, rfl, .int wy, rfl, l, _, _, z6, rfl, rfl, .inl (.inl (k6 _ _ n4.1 n4.2.2 c5)), atI_nat g6, o, j, z6, _, rfl, hO6, by omega, by omega, fun r H7 s7 h7 => ?_⟩
      refine q _ H7 ?_ ((D6.same s7).mono (by omega)) (k06.trans (KD.of_same s7))
      refine Pn.mono (pn_tup (n := 10) (m := 2) (c := 8) h7 (fun x hx => ?_) (by rw [len_put (by omega)]; omega)) (by decide) (by decide)
      rcases mem_put hx with hx | rfl
      · exact (pn_nats hx).mono (by decide) (by decide)
      · exact (((all _ m6).ts (ts_same s5)).ts t6).ts (ts_same s7)
    · have hw : ¬ wy < 4 := fun z => c6 (decide_eq_true (by omega))
      refine ⟨.ref o, rfl, .int j, rfl, (j : Int), rfl, slA_any hO6 fun r1 H7 s7 h7 => ⟨.ref o, rfl, .int j, rfl, _, _, rfl, rfl, (j : Int) + 1, rfl, ?_⟩⟩
      dsimp only [tNoPart]
      refine slA_any (ts_same s7 _ _ hO6) fun r2 H8 s8 h8 => ?_
      rw [cut_take] at h7
      replace h8 : SqT K H8 r2 ((os.map natV).drop (j + 1)) := by
        rw [← cut_drop (os.map natV) (j + 1)]
        exact h8
      refine catA_any (ts_same s8 _ _ h7) h8 ?_ fun r3 H9 s9 h9 => ?_
      · rw [List.length_take, List.length_drop]
        exact Nat.le_trans (show _ ≤ 100 by omega) (by decide)
      have s69 := (s7.trans s8).trans s9
      have hO9 := ts_same (K := K) s69 _ _ hO6
      refine ⟨.ref o, rfl, .ref o, rfl, o, _, rfl, .inr hO9, (by show 1 ≤ sizeLine; decide), fun t nt => ?_⟩
      have sA : Same H9 (upd H9 t (.tup [V.int ((os.map natV).length : Nat)])) := same_upd nt
      have cA : (upd H9 t (.tup [V.int ((os.map natV).length : Nat)])) t = some (.tup [V.int ((os.map natV).length : Nat)]) := upd_same
      generalize upd H9 t (HO.tup [V.int ((os.map natV).length : Nat)]) = HA at sA cA ⊢
      refine catA_any (ts_same sA _ _ hO9) (.inl (.inl cA)) ?_ fun r4 HB sB hB' => ?_
      · rw [hml]
        exact Nat.le_trans (show os.length + 1 ≤ 100 by omega) (by decide)
      refine ⟨(by show 2 ≤ sizeLine; decide), fun l2 nl2 => ?_⟩
      have s6B := (s69.trans sA).trans sB
      have sC : Same HB (upd HB l2 (.lst [.ref r3, .ref r4])) := same_upd nl2
      obtain ⟨z6, g6, m6⟩ := pick_mem (vs := [V.ref r3, V.ref r4]) (j := wy - 4) (show wy - 4 < 2 by omega)
      refine ⟨.int wy, rfl, _, _, rfl, rfl, l2, _, _, z6, rfl, rfl, .inl (.inl upd_same), ?_, ?_⟩
      · have e : (wy : Int) - 4 = ((wy - 4 : Nat) : Int) := by omega
        rw [e]
        exact atI_nat g6
      refine q _ _ (Pn.ts ?_ (ts_same sC)) ((D6.same (s6B.trans sC)).mono (by omega)) (k06.trans (KD.of_same (s6B.trans sC)))
      simp only [List.mem_cons, List.not_mem_nil, or_false] at m6
      rcases m6 with rfl | rfl
      · refine Pn.mono (pn_tup (n := 10) (m := 2) (c := 8) (ts_same (sA.trans sB) _ _ h9) (fun x hx => ?_) (by rw [List.length_append, List.length_take, List.length_drop]; omega)) (by decide) (by decide)
        rcases List.mem_append.mp hx with hx | hx
        · exact (pn_nats (List.mem_of_mem_take hx)).mono (by decide) (by decide)
        · exact (pn_nats (List.mem_of_mem_drop hx)).mono (by decide) (by decide)
      · refine Pn.mono (pn_tup (n := 10) (m := 2) (c := 9) hB' (fun x hx => ?_) (by rw [List.length_append, hml]; show os.length + 1 ≤ 9; omega)) (by decide) (by decide)
        rcases List.mem_append.mp hx with hx | hx
        · exact (pn_nats hx).mono (by decide) (by decide)
        · rw [List.mem_singleton.mp hx]
          exact pn_int (by decide) (by decide)
end
end K3
namespace K3
open PySem PySem.Spec PyProof.Rows L2 K1
section
variable {P : Program} {w : World} {K : PySem.W.Frag} {mg : Str → Option Value} {base : Heap}
theorem pts_pn {H : Hp} {a : Addr} {ps : List Part} (h : Pts K H a ps) : ∃ vs : List V, SqT K H a vs ∧ vs.length = ps.length ∧ (∀ x ∈ vs, Pn K H x 3 2) ∧ ∀ i, i < vs.length → ∃ t z1 z2, vs[i]? = some (.ref t) ∧ SqT K H t [.int z1, .int z2] := by
  obtain ⟨vs, h1, h2, h3⟩ := h
  have key : ∀ i, i < vs.length → ∃ t z1 z2, vs[i]? = some (.ref t) ∧ SqT K H t [.int z1, .int z2] := fun i hi => by
    obtain ⟨t, a1, a2⟩ := h3 i ps[i] (List.getElem?_eq_getElem (by omega))
    exact ⟨t, _, _, a1, a2⟩
  refine ⟨vs, h1, h2, fun x hx => ?_, key⟩
  obtain ⟨i, hi, rfl⟩ := List.getElem_of_mem hx
  obtain ⟨t, z1, z2, e, ht⟩ := key i hi
  rw [List.getElem?_eq_getElem hi] at e
  rw [Option.some.inj e]
  exact Pn.mono (pn_tup (n := 1) (m := 1) (c := 2) ht (fun x hx => by
    simp only [List.mem_cons, List.not_mem_nil, or_false] at hx
    rcases hx with rfl | rfl <;> exact pn_int (by decide) (by decide)) (Nat.le_refl _)) (by decide) (by decide)
theorem pn_app {H : Hp} {r : Addr} {xs ys : List V} {n m c : Nat} (h : SqT K H r (xs ++ ys)) (h1 : ∀ x ∈ xs, Pn K H x n m) (h2 : ∀ x ∈ ys, Pn K H x n m) (hc : xs.length + ys.length ≤ c) : Pn K H (.ref r) (c * n + 1) (m + 1) :=
  pn_tup h (fun x hx => (List.mem_append.mp hx).elim (h1 x) (h2 x)) (by rw [List.length_append]; exact hc)
theorem pn_one {H : Hp} {v : V} {n m : Nat} (h : Pn K H v n m) : ∀ x ∈ [v], Pn K H x n m := fun x hx => by rw [List.mem_singleton.mp hx]; exact h
theorem pn_pair {H : Hp} {t : Addr} {z1 z2 : Int} (ht : SqT K H t [.int z1, .int z2]) : Pn K H (.ref t) 3 2 := Pn.mono (pn_tup (n := 1) (m := 1) (c := 2) ht (fun x hx => by
    simp only [List.mem_cons, List.not_mem_nil, or_false] at hx
    rcases hx with rfl | rfl <;> exact pn_int (by decide) (by decide)) (Nat.le_refl _)) (by decide) (by decide)
def tBend (K : PySem.W.Frag) (dk cl lf a : Addr) (B : Nat) (H : Hp) (Q : VK) : L2.TS := fun D σ H' => ∃ w : Int,
  σ = [some (.ref dk), some (.ref a), some (.int w), none, none, none] ∧ Dk H' dk cl lf (B + 1) ∧ KD dk lf H H' ∧ D.rt = Q
def sp__law_bent_parts (K : PySem.W.Frag) : Sp := fun vs H Q _ => ∃ (dk cl lf a : Addr) (B : Nat) (ps : List Part), vs = [.ref dk, .ref a] ∧ Dk H dk cl lf B ∧ B ≤ 2 ^ 37 ∧ Pts K H a ps ∧ (∀ p ∈ ps, PtOk p) ∧ ps.length ≤ 5 ∧ ∀ (v : V) (H' : Hp), Pn K H' v 2000 6 → Dk H' dk cl lf (B + 10) → KD dk lf H H' → Q v H'
theorem ok__law_bent_parts {f : Addr} {fd : FuncData} (F : Fun K "_law_bent_parts" "_law_bent_parts" s__law_bent_parts f fd) (C__law_next : Cal P w K mg base "_law_next" pm__law_next 1 sp__law_next) (C__law_put : Cal P w K mg base "_law_put" pm__law_put 1 (sp__law_put K)) (C__law_odd : Cal P w K mg base "_law_odd" pm__law_odd 2 (sp__law_odd K)) (m_len : mg "len" = none) : FnOk P w K mg base CX0 3 f fd pm__law_bent_parts (sp__law_bent_parts K) := by
  obtain ⟨f__law_next, fd__law_next, G__law_next, g__law_next, k__law_next, b__law_next⟩ := C__law_next.ex
  obtain ⟨f__law_put, fd__law_put, G__law_put, g__law_put, k__law_put, b__law_put⟩ := C__law_put.ex
  obtain ⟨f__law_odd, fd__law_odd, G__law_odd, g__law_odd, k__law_odd, b__law_odd⟩ := C__law_odd.ex
  refine F.ok sc__law_bent_parts (fun vs H Q E h => ?_) (fun cdv A outer s H vs Q E hr h => ?_)
  · obtain ⟨dk, cl, lf, a, B, ps, rfl, _⟩ := h
    rfl
  · obtain ⟨dk, cl, lf, a, B, ps, rfl, D0, hB, hP, hok, hl, q⟩ := h
    have rm : ∀ {j : Nat}, j ≤ 2 → Room j (A.deeper (envOfC "_law_bent_parts" (defScope s__law_bent_parts) s.heap.objs.size f cdv)) := fun hj => hr.mono hj
    refine ⟨_, pss_cons (ps_set (i := 2) sc__law_bent_parts.nd rfl (.inl rfl) (pe_call G__law_next (rm (by decide)) (by rfl) g__law_next k__law_next b__law_next .nil pass0 (pa_cons (pv 0) (pa_cons pe_int pa_nil))))
      (pss_cons (ps_if (PW.pt (pw_or (pt_cmpR op_eq (pv 2) pe_int (nomark _)) (pw_or1 (pt_cmpR (op_eqM hr.units) (pv 1) (pe_tup pa_nil) (nomark _)))))
      (pss_weak (t' := tBend K dk cl lf a B H Q) (pss_one (ps_ret (pe_ix ix_list (pe_lst (pa_cons pe_non (pa_cons (pe_op op_catA (pv 1) (pe_op op_repT (pe_tup (pa_cons (pe_tup (pa_cons pe_int (pa_cons pe_int pa_nil))) pa_nil)) pe_int)) (pa_cons (pe_op op_catA (pv 1) (pe_tup (pa_cons pe_non pa_nil))) (pa_cons (pe_tup (pa_cons (pv 1) pa_nil)) (pa_cons (pe_op op_catA (pv 1) (pe_tup (pa_cons (pe_tup (pa_cons pe_int (pa_cons pe_int pa_nil))) pa_nil))) pa_nil)))))) (pe_call G__law_next (rm (by decide)) (by rfl) g__law_next k__law_next b__law_next .nil pass0 (pa_cons (pv 0) (pa_cons pe_int pa_nil))) (fun _ _ => rfl)))) ?bend) pss_nil)
      (pss_cons (ps_set (i := 3) sc__law_bent_parts.nd rfl (.inl rfl) (pe_call G__law_next (rm (by decide)) (by rfl) g__law_next k__law_next b__law_next .nil pass0 (pa_cons (pv 0) (pa_cons (pe_callB call_len_seq (by rfl) m_len PySem.boot_len (pa_cons (pv 1) pa_nil)) pa_nil))))
      (pss_cons (ps_set (i := 4) sc__law_bent_parts.nd rfl (.inl rfl) (pe_ix ix_tup (pv 1) (pv 3) (fun _ _ => rfl)))
      (pss_cons (ps_set (i := 5) sc__law_bent_parts.nd rfl (.inl rfl) (pe_lst (pa_cons (pe_call G__law_put (rm (by decide)) (by rfl) g__law_put k__law_put b__law_put .nil pass0 (pa_cons (pv 4) (pa_cons (pe_call G__law_next (rm (by decide)) (by rfl) g__law_next k__law_next b__law_next .nil pass0 (pa_cons (pv 0) (pa_cons pe_int pa_nil))) (pa_cons (pe_call G__law_odd (rm (by decide)) (by rfl) g__law_odd k__law_odd b__law_odd .nil pass0 (pa_cons (pv 0) pa_nil)) pa_nil)))) (pa_cons (pe_op op_catA (pv 4) (pe_tup (pa_cons pe_int pa_nil))) (pa_cons (pe_slice sl_tupA (pv 4) po_none (po_some pe_int)) (pa_cons (pe_call G__law_odd (rm (by decide)) (by rfl) g__law_odd k__law_odd b__law_odd .nil pass0 (pa_cons (pv 0) pa_nil)) pa_nil))))))
      (pss_one (ps_ret (pe_call G__law_put (rm (by decide)) (by rfl) g__law_put k__law_put b__law_put .nil pass0 (pa_cons (pv 1) (pa_cons (pv 3) (pa_cons (pe_ix ix_list (pv 5) (pe_op op_sub (pv 2) pe_int) (fun _ _ => rfl)) pa_nil)))))))))), ?_⟩
    case bend =>
      rintro D σ H1 ⟨w, rfl, D1, k1, rfl⟩
      obtain ⟨xs, hx, hxl, hpn, _⟩ := pts_pn (hP.ts (D0.ts (K := K) k1))
      refine ⟨.ref a, rfl, (by show 2 ≤ sizeLine; decide), fun t1 n1 => ⟨(by show 1 ≤ sizeLine; decide), fun t2 n2 => ?_⟩⟩
      have s1 : Same H1 (upd H1 t1 (.tup [.int 1, .int 1])) := same_upd n1
      have c1 : (upd H1 t1 (.tup [.int 1, .int 1])) t1 = some (.tup [.int 1, .int 1]) := upd_same
      generalize upd H1 t1 (HO.tup [.int 1, .int 1]) = H2 at s1 c1 n2 ⊢
      have s2 : Same H2 (upd H2 t2 (.tup [.ref t1])) := same_upd n2
      have c2 : (upd H2 t2 (.tup [.ref t1])) t2 = some (.tup [.ref t1]) := upd_same
      generalize upd H2 t2 (HO.tup [.ref t1]) = H3 at s2 c2 ⊢
      refine ⟨t2, 9, _, rfl, rfl, .inl (.inl c2), by simp, by decide, by decide, by simp, fun t3 n3 => ?_⟩
      have s3 : Same H3 (upd H3 t3 (.tup (List.replicate (Int.toNat 9) [V.ref t1]).flatten)) := same_upd n3
      have c3 : (upd H3 t3 (.tup (List.replicate (Int.toNat 9) [V.ref t1]).flatten)) t3 = some (.tup (List.replicate (Int.toNat 9) [V.ref t1]).flatten) := upd_same
      generalize upd H3 t3 (HO.tup (List.replicate (Int.toNat 9) [V.ref t1]).flatten) = H4 at s3 c3 ⊢
      have s14 := (s1.trans s2).trans s3
      have e9 : (List.replicate (Int.toNat 9) [V.ref t1]).flatten.length = 9 := rfl
      have all9 : ∀ x ∈ (List.replicate (Int.toNat 9) [V.ref t1]).flatten, x = V.ref t1 := fun x hx => by
        obtain ⟨l, h1, h2⟩ := List.mem_flatten.mp hx
        rw [List.eq_of_mem_replicate h1] at h2
        exact List.mem_singleton.mp h2
      generalize (List.replicate (Int.toNat 9) [V.ref t1]).flatten = nine at e9 all9 c3
      refine catA_any (ts_same (K := K) s14 _ _ hx) (.inl (.inl c3)) (Nat.le_trans (show _ ≤ 100 by omega) (by decide)) fun r5 H5 s5 h5 => ?_
      refine ⟨.ref a, rfl, (by show 1 ≤ sizeLine; decide), fun t6 n6 => ?_⟩
      have s6 : Same H5 (upd H5 t6 (.tup [.non])) := same_upd n6
      have c6 : (upd H5 t6 (.tup [.non])) t6 = some (.tup [.non]) := upd_same
      generalize upd H5 t6 (HO.tup [.non]) = H6 at s6 c6 ⊢
      have s16 := (s14.trans s5).trans s6
      refine catA_any (ts_same (K := K) s16 _ _ hx) (.inl (.inl c6)) (Nat.le_trans (show _ ≤ 100 by rw [hxl]; show ps.length + 1 ≤ 100; omega) (by decide)) fun r7 H7 s7 h7 => ?_
      refine ⟨.ref a, rfl, (by show 1 ≤ sizeLine; decide), fun t8 n8 => ?_⟩
      have s8 : Same H7 (upd H7 t8 (.tup [.ref a])) := same_upd n8
      have c8 : (upd H7 t8 (.tup [.ref a])) t8 = some (.tup [.ref a]) := upd_same
      generalize upd H7 t8 (HO.tup [.ref a]) = H8 at s8 c8 ⊢
      refine ⟨.ref a, rfl, (by show 2 ≤ sizeLine; decide), fun t9 n9 => ⟨(by show 1 ≤ sizeLine; decide), fun tA nA => ?_⟩⟩
      have s9 : Same H8 (upd H8 t9 (.tup [.int 8, .int 8])) := same_upd n9
      have c9 : (upd H8 t9 (.tup [.int 8, .int 8])) t9 = some (.tup [.int 8, .int 8]) := upd_same
      generalize upd H8 t9 (HO.tup [.int 8, .int 8]) = H9 at s9 c9 nA ⊢
      have sA : Same H9 (upd H9 tA (.tup [.ref t9])) := same_upd nA
      have cA : (upd H9 tA (.tup [.ref t9])) tA = some (.tup [.ref t9]) := upd_same
      generalize upd H9 tA (HO.tup [.ref t9]) = HA at sA cA ⊢
      have s1A := (((s16.trans s7).trans s8).trans s9).trans sA
      refine catA_any (ts_same (K := K) s1A _ _ hx) (.inl (.inl cA)) (Nat.le_trans (show _ ≤ 100 by rw [hxl]; show ps.length + 1 ≤ 100; omega) (by decide)) fun rB HB sB hB' => ?_
      have s1B := s1A.trans sB
      have sAB := sA.trans sB
      have s9B := s9.trans sAB
      have s8B := s8.trans s9B
      have s7B := s7.trans s8B
      have s6B := s6.trans s7B
      have s5B := s5.trans s6B
      have hxB : ∀ x ∈ xs, Pn K HB x 20 4 := fun x hx => ((hpn x hx).ts (ts_same s1B)).mono (by decide) (by decide)
      refine ⟨(by show 5 ≤ sizeLine; decide), fun l nl => ⟨.ref dk, rfl, pick_next (K := K) (E := E0) (n := 1000) (m := 5) rfl (by simp) (by simp) (D1.same s1B) (by omega) nl (fun x hx' => ?_) fun v H' hv D' k' => q v H' (hv.mono (by decide) (by decide)) (D'.mono (by omega)) ((k1.trans (KD.of_same s1B)).trans k')⟩⟩
      simp only [List.mem_cons, List.not_mem_nil, or_false] at hx'
      rcases hx' with rfl | rfl | rfl | rfl | rfl
      · exact pn_non (by decide) (by decide)
      · refine Pn.mono (pn_app (K := K) (n := 20) (m := 4) (c := 20) (ts_same s6B _ _ h5) hxB (fun x hx' => ?_) (by omega)) (by decide) (by decide)
        rw [all9 x hx']
        exact (pn_pair (.inl (.inl (s5B _ _ (s3 _ _ (s2 _ _ c1)))))).mono (by decide) (by decide)
      · exact Pn.mono (pn_app (K := K) (n := 20) (m := 4) (c := 20) (ts_same s8B _ _ h7) hxB (pn_one (pn_non (by decide) (by decide))) (by rw [hxl]; show ps.length + 1 ≤ 20; omega)) (by decide) (by decide)
      · refine Pn.mono (pn_tup (K := K) (n := 100) (m := 4) (c := 1) (.inl (.inl (s9B _ _ c8))) (pn_one ?_) (Nat.le_refl _)) (by decide) (by decide)
        exact Pn.mono (pn_tup (K := K) (n := 3) (m := 2) (c := 5) (ts_same s1B _ _ hx) (fun x hx => (hpn x hx).ts (ts_same s1B)) (by omega)) (by decide) (by decide)
      · exact Pn.mono (pn_app (K := K) (n := 20) (m := 4) (c := 20) hB' hxB (pn_one ((pn_pair (.inl (.inl (sAB _ _ c9)))).mono (by decide) (by decide))) (by rw [hxl]; show ps.length + 1 ≤ 20; omega)) (by decide) (by decide)
    refine ⟨.ref dk, rfl, dk, cl, lf, B, 5, rfl, D0, by omega, by decide, by decide +kernel, fun wy H1 w0 w1 D1 k1 => ?_⟩
    refine ⟨.int wy, rfl, rfl, _, rfl, ite2 (fun _ => ⟨wy, rfl, D1, k1, rfl⟩) (fun c1 => ?_)⟩
    have hw0 : wy ≠ 0 := fun z => c1 (decide_eq_true (congrArg V.int z))
    obtain ⟨xs, hx, hxl, hpn, hat⟩ := pts_pn (hP.ts (D0.ts (K := K) k1))
    obtain ⟨ds, g1, g2, g3, g4⟩ := pn_all hpn
    refine ⟨.ref a, rfl, Nat.zero_le _, fun t nt => ?_⟩
    have s2 : Same H1 (upd H1 t (.tup [])) := same_upd nt
    have c2 : (upd H1 t (.tup [])) t = some (.tup []) := upd_same
    generalize upd H1 t (HO.tup []) = H2 at s2 c2 ⊢
    refine ⟨.tuple ds, .tuple [], (ts_same (K := K) s2).dp _ _ g2 (.tup hx g1), .tup (.inl (.inl c2)) .nil, canLay _ g2, rfl, Nat.le_trans (Nat.min_le_right _ _) (by decide), _, rfl, ite2 (fun _ => ⟨wy, rfl, D1.same s2, k1.trans (KD.of_same s2), rfl⟩) (fun c3 => ?_)⟩
    have hpos : 0 < xs.length := by
      rw [dpAll_len g1]
      cases ds with
      | nil => exact absurd (by decide +kernel) c3
      | cons _ _ => exact Nat.succ_pos _
    have D2 := D1.same s2
    have hx2 := ts_same (K := K) s2 _ _ hx
    refine ⟨.ref dk, rfl, .ref a, rfl, a, _, rfl, .inr hx2, dk, cl, lf, _, _, rfl, D2, by omega, by omega, rate_log (by omega) (by omega), fun at' H3 a0 a1 D3 k3 => ?_⟩
    obtain ⟨j, rfl⟩ : ∃ j : Nat, at' = (j : Int) := ⟨at'.toNat, by omega⟩
    obtain ⟨p, z1, z2, ej, hp⟩ := hat j (by omega)
    have t3 := D2.ts (K := K) k3
    have t13 : K1.TS K H1 H3 := fun a xs h => t3 _ _ (ts_same s2 _ _ h)
    refine ⟨.ref a, rfl, .int j, rfl, a, _, _, .ref p, rfl, rfl, t3 _ _ hx2, atI_nat ej, ?_⟩
    refine ⟨.ref p, rfl, .ref dk, rfl, dk, cl, lf, _, 2, rfl, D3, by omega, by decide, by decide +kernel, fun pj H4 p0 p1 D4 k4 => ?_⟩
    obtain ⟨pj, rfl⟩ : ∃ i : Nat, pj = (i : Int) := ⟨pj.toNat, by omega⟩
    refine ⟨.ref dk, rfl, dk, cl, lf, _, rfl, D4, by omega, fun v5 H5 p5 D5 k5 => ?_⟩
    have t35 : K1.TS K H3 H5 := fun a xs h => D4.ts (K := K) k5 _ _ (D3.ts (K := K) k4 _ _ h)
    have hp5 := t35 _ _ (t13 _ _ hp)
    refine ⟨p, pj, v5, _, rfl, hp5, (by show pj < 2; omega), (by show 2 ≤ 1000; decide), fun r6 H6 s6 h6 => ?_⟩
    refine ⟨.ref p, rfl, (by show 1 ≤ sizeLine; decide), fun t7 n7 => ?_⟩
    have s7 : Same H6 (upd H6 t7 (.tup [.int 0])) := same_upd n7
    have c7 : (upd H6 t7 (.tup [.int 0])) t7 = some (.tup [.int 0]) := upd_same
    generalize upd H6 t7 (HO.tup [.int 0]) = H7 at s7 c7 ⊢
    have s57 := s6.trans s7
    refine catA_any (ts_same (K := K) s57 _ _ hp5) (.inl (.inl c7)) (by show 3 ≤ sizeLine; decide) fun r8 H8 s8 h8 => ?_
    refine ⟨.ref p, rfl, 1, rfl, slA_any (ts_same (K := K) (s57.trans s8) _ _ hp5) fun r9 H9 s9 h9 => ?_⟩
    have h9' : SqT K H9 r9 ([V.int z1, V.int z2].take 1) := by
      rw [← cut_take [V.int z1, V.int z2] 1]
      exact h9
    have s59 := (s57.trans s8).trans s9
    refine ⟨.ref dk, rfl, dk, cl, lf, _, rfl, D5.same s59, by omega, fun vA HA pA DA kA => ?_⟩
    have tA := (D5.same s59).ts (K := K) kA
    have t9 : K1.TS K H5 H9 := ts_same s59
    refine ⟨(by show 4 ≤ sizeLine; decide), fun l nl => ?_⟩
    have sB : Same HA (upd HA l (.lst [.ref r6, .ref r8, .ref r9, vA])) := same_upd nl
    have cB : (upd HA l (.lst [.ref r6, .ref r8, .ref r9, vA])) l = some (.lst [.ref r6, .ref r8, .ref r9, vA]) := upd_same
    generalize upd HA l (HO.lst [.ref r6, .ref r8, .ref r9, vA]) = HB at sB cB ⊢
    have all : ∀ x ∈ [V.ref r6, .ref r8, .ref r9, vA], Pn K HA x 40 3 := fun x hx => by
      have i2 : ∀ x ∈ [V.int z1, V.int z2], Pn K H9 x 10 2 := fun x hx => by
        simp only [List.mem_cons, List.not_mem_nil, or_false] at hx
        rcases hx with rfl | rfl <;> exact pn_int (by decide) (by decide)
      simp only [List.mem_cons, List.not_mem_nil, or_false] at hx
      rcases hx with rfl | rfl | rfl | rfl
      · refine Pn.ts (Pn.mono (pn_tup (K := K) (n := 10) (m := 2) (c := 2) (ts_same ((s7.trans s8).trans s9) _ _ h6) (fun x hx => ?_) (by rw [len_put (by show pj < 2; omega)]; exact Nat.le_refl 2)) (by decide) (by decide)) tA
        rcases mem_put hx with hx | rfl
        · exact i2 _ hx
        · exact p5.ts t9
      · exact Pn.ts (Pn.mono (pn_app (K := K) (n := 10) (m := 2) (c := 3) (ts_same s9 _ _ h8) i2 (pn_one (pn_int (by decide) (by decide))) (Nat.le_refl 3)) (by decide) (by decide)) tA
      · exact Pn.ts (Pn.mono (pn_tup (K := K) (n := 10) (m := 2) (c := 2) h9' (fun x hx => i2 x (List.mem_of_mem_take hx)) (by simp)) (by decide) (by decide)) tA
      · exact pA.mono (by decide) (by decide)
    obtain ⟨wy, rfl⟩ : ∃ i : Nat, wy = (i : Int) := ⟨wy.toNat, by omega⟩
    obtain ⟨zB, gB, mB⟩ := pick_mem (vs := [V.ref r6, .ref r8, .ref r9, vA]) (j := wy - 1) (show wy - 1 < 4 by omega)
    have tB : K1.TS K H3 HB := fun a xs h => ts_same sB _ _ (tA _ _ (t9 _ _ (t35 _ _ h)))
    refine ⟨.ref a, rfl, .int j, rfl, .ref l, rfl, .int wy, rfl, _, _, rfl, rfl, l, _, _, zB, rfl, rfl, .inl (.inl cB), ?_, ?_⟩
    · have e : (wy : Int) - 1 = ((wy - 1 : Nat) : Int) := by omega
      rw [e]
      exact atI_nat gB
    refine ⟨a, j, zB, _, rfl, tB _ _ (t3 _ _ hx2), by omega, by omega, fun rC HC sC hC => ?_⟩
    refine q _ HC ?_ (((DA.same sB).same sC).mono (by omega)) ((((((k1.trans (KD.of_same s2)).trans k3).trans k4).trans k5).trans (KD.of_same s59)).trans (kA.trans ((KD.of_same sB).trans (KD.of_same sC))))
    refine Pn.mono (pn_tup (K := K) (n := 40) (m := 3) (c := 5) hC (fun x hx => ?_) (by rw [len_put (by omega)]; omega)) (by decide) (by decide)
    refine Pn.ts ?_ (ts_same sC)
    rcases mem_put hx with hx | rfl
    · exact (((hpn x hx).ts t13).ts tB).mono (by decide) (by decide)
    · exact (all _ mB).ts (ts_same sB)
end
end K3
namespace K3
open PySem PySem.Spec PyProof.Rows L2 K1
abbrev s__law_bent_tree : Stmt := topS 39
abbrev nm__law_bent_tree : List Str := ["_law_drawn", "_law_tree_here", "_law_deep", "_law_at", "_law_some"]
abbrev pm__law_bent_tree : List Str := ["_law_drawn", "_law_tree_here", "_law_deep"]
theorem sc__law_bent_tree : FnScope nm__law_bent_tree pm__law_bent_tree (defScope s__law_bent_tree) := ⟨rfl, rfl, rfl, by decide +kernel, rfl, by decide +kernel, by decide +kernel⟩
section
variable {P : Program} {w : World} {K : PySem.W.Frag} {mg : Str → Option Value} {base : Heap}
theorem cut_some (xs : List V) (lo hi : Option Int) : ∃ a b, cutV xs lo hi = (xs.drop a).take b := ⟨_, _, rfl⟩
theorem pn_row {H : Hp} {r : Addr} {ys : List V} {es : List PyData} {n m : Nat} (hy : SqT K H r ys) (h : DpAll K H ys es) (p : plA es = true) (hn : szA es + 1 ≤ n) (hm : PyData.depthAll es + 1 ≤ m) : Pn K H (.ref r) n m :=
  ⟨.tuple es, .tup hy h, p, hn, by rw [depth_tuple]; exact hm⟩
theorem pn_cut {H : Hp} {r : Addr} {ys : List V} {es : List PyData} {n m a b : Nat} (hy : SqT K H r ((ys.drop a).take b)) (h : DpAll K H ys es) (p : plA es = true) (hn : szA es + 1 ≤ n) (hm : PyData.depthAll es + 1 ≤ m) : Pn K H (.ref r) n m := by
  have e1 := szA_append (es.take a) (es.drop a)
  have e2 := szA_append ((es.drop a).take b) ((es.drop a).drop b)
  rw [List.take_append_drop] at e1 e2
  have e3 : PyData.depthAll ((es.drop a).take b) ≤ PyData.depthAll es := depthA_le fun d hd => depth_mem (List.mem_of_mem_drop (List.mem_of_mem_take hd))
  exact pn_row hy (dpAll_take b (dpAll_drop a h)) (plA_of fun d hd => plA_mem p (List.mem_of_mem_drop (List.mem_of_mem_take hd))) (by omega) (by omega)
theorem tt_tup {d : PyData} (h : tt d = true) : ∃ es, d = .tuple es ∧ ttA es = true := by
  cases d with
  | tuple es => exact ⟨es, rfl, h⟩
  | _ => cases h
def sp__law_bent_tree (K : PySem.W.Frag) (n : Nat) : Sp := fun vs H Q _ => ∃ (dk cl lf t : Addr) (B : Nat) (ts : List PyData) (deep : Int), vs = [.ref dk, .ref t, .int deep] ∧ Dk H dk cl lf B ∧ B + n ≤ 2 ^ 37 ∧ Dp K H (.ref t) (.tuple ts) ∧ plA ts = true ∧ ttA ts = true ∧ (.tuple ts : PyData).depth < n ∧ sz (.tuple ts) ≤ 1000 ∧
  ∀ (v : V) (H' : Hp), Pn K H' v (sz (.tuple ts) + 20) ((.tuple ts : PyData).depth + 1) → Dk H' dk cl lf (B + n) → KD dk lf H H' → Q v H'
theorem nv__law_bent_tree {vs : List V} {H : Hp} {Q : VK} {E : XK} (h : sp__law_bent_tree K 0 vs H Q E) : False := by
  obtain ⟨_, _, _, _, _, _, _, _, _, _, _, _, _, h, _⟩ := h
  omega
def tSome (K : PySem.W.Frag) (dk cl lf t : Addr) (B : Nat) (ts : List PyData) (deep : Int) (H : Hp) (Q : VK) : L2.TS := fun D σ H' =>
  σ = [some (.ref dk), some (.ref t), some (.int deep), none, none] ∧ Dk H' dk cl lf B ∧ KD dk lf H H' ∧ D.rt = Q
theorem ok__law_bent_tree {f : Addr} {fd : FuncData} (F : Fun K "_law_bent_tree" "_law_bent_tree" s__law_bent_tree f fd) (g_self : mg "_law_bent_tree" = some (.ref f)) (b_self : Binds K fd pm__law_bent_tree []) (C__law_next : Cal P w K mg base "_law_next" pm__law_next 1 sp__law_next) (C__law_put : Cal P w K mg base "_law_put" pm__law_put 1 (sp__law_put K)) (m_len : mg "len" = none) : ∀ n : Nat, FnOk P w K mg base CX0 (n + 1 + 1) f fd pm__law_bent_tree (sp__law_bent_tree K n) := by
  obtain ⟨f__law_next, fd__law_next, G__law_next, g__law_next, k__law_next, b__law_next⟩ := C__law_next.ex
  obtain ⟨f__law_put, fd__law_put, G__law_put, g__law_put, k__law_put, b__law_put⟩ := C__law_put.ex
  intro n
  induction n with
  | zero => exact F.ok sc__law_bent_tree (fun vs H Q E h => (nv__law_bent_tree h).elim) (fun cdv A outer s H vs Q E hr h => (nv__law_bent_tree h).elim)
  | succ n ih =>
  refine F.ok sc__law_bent_tree (fun vs H Q E h => ?_) (fun cdv A outer s H vs Q E hr h => ?_)
  · obtain ⟨dk, cl, lf, t, B, ts, deep, rfl, _⟩ := h
    rfl
  · obtain ⟨dk, cl, lf, t, B, ts, deep, rfl, D0, hB, hT, pts, tts, hd, hs, q⟩ := h
    refine ⟨_, pss_cons (ps_if (PW.pt (pw_and (pt_cmpR op_gt (pv 2) pe_int (nomark _)) (pw_and1 (pt_cmpR (op_neM hr.units) (pv 1) (pe_tup pa_nil) (nomark _)))))
      (pss_cons (ps_set (i := 3) sc__law_bent_tree.nd rfl (.inl rfl) (pe_call G__law_next (hr.mono (by omega)) (by rfl) g__law_next k__law_next b__law_next .nil pass0 (pa_cons (pv 0) (pa_cons (pe_callB call_len_seq (by rfl) m_len PySem.boot_len (pa_cons (pv 1) pa_nil)) pa_nil))))
      (pss_one (ps_ret (pe_call G__law_put (hr.mono (by omega)) (by rfl) g__law_put k__law_put b__law_put .nil pass0 (pa_cons (pv 1) (pa_cons (pv 3) (pa_cons (pe_call ih (hr.mono (by omega)) (by rfl) g_self F.kp b_self .nil pass0 (pa_cons (pv 0) (pa_cons (pe_ix ix_tup (pv 1) (pv 3) (fun _ _ => rfl)) (pa_cons (pe_op op_sub (pv 2) pe_int) pa_nil)))) pa_nil))))))) pss_nil)
      (pss_weak (t' := tSome K dk cl lf t B ts deep H Q) (pss_cons (ps_set (i := 4) sc__law_bent_tree.nd rfl (.inl rfl) (pe_lst (pa_cons pe_non (pa_cons pe_int (pa_cons pe_bl (pa_cons pe_str (pa_cons (pe_tup pa_nil) (pa_cons (pe_op op_catA (pv 1) (pe_tup (pa_cons (pe_tup pa_nil) pa_nil))) (pa_cons (pe_slice sl_tupA (pv 1) (po_some pe_int) po_none) (pa_cons (pe_slice sl_tupA (pv 1) po_none (po_some (pe_un un_neg pe_int))) (pa_cons (pe_op op_catA (pv 1) (pe_tup (pa_cons pe_non pa_nil))) (pa_cons (pe_tup (pa_cons (pv 1) pa_nil)) pa_nil))))))))))))
      (pss_one (ps_ret (pe_ix ix_list (pv 4) (pe_call G__law_next (hr.mono (by omega)) (by rfl) g__law_next k__law_next b__law_next .nil pass0 (pa_cons (pv 0) (pa_cons pe_int pa_nil))) (fun _ _ => rfl))))) ?some), ?_⟩
    case some =>
      rintro DD σ H1 ⟨rfl, D1, k1, rfl⟩
      have t01 := D0.ts (K := K) k1
      obtain ⟨_, xs, ee, hx0, hxs0⟩ := dp_tup hT
      cases ee
      have hx := t01 _ _ hx0
      have hxs := TS.dps t01 _ _ pts hxs0
      have hxl := dpAll_len hxs
      have hls := len_szA ts
      have esz : sz (.tuple ts) = szA ts + 1 := rfl
      have edp := depth_tuple ts
      refine ⟨Nat.zero_le _, fun t2 n2 => ?_⟩
      have s2 : Same H1 (upd H1 t2 (.tup [])) := same_upd n2
      have c2 : (upd H1 t2 (.tup [])) t2 = some (.tup []) := upd_same
      generalize upd H1 t2 (HO.tup []) = H2 at s2 c2 ⊢
      refine ⟨.ref t, rfl, Nat.zero_le _, fun t3 n3 => ⟨(by show 1 ≤ sizeLine; decide), fun t4 n4 => ?_⟩⟩
      have s3 : Same H2 (upd H2 t3 (.tup [])) := same_upd n3
      have c3 : (upd H2 t3 (.tup [])) t3 = some (.tup []) := upd_same
      generalize upd H2 t3 (HO.tup []) = H3 at s3 c3 n4 ⊢
      have s4 : Same H3 (upd H3 t4 (.tup [.ref t3])) := same_upd n4
      have c4 : (upd H3 t4 (.tup [.ref t3])) t4 = some (.tup [.ref t3]) := upd_same
      generalize upd H3 t4 (HO.tup [.ref t3]) = H4 at s4 c4 ⊢
      have s14 := (s2.trans s3).trans s4
      have room : xs.length + 1 ≤ sizeLine := Nat.le_trans (show _ ≤ 2000 by omega) (by decide)
      refine catA_any (ts_same (K := K) s14 _ _ hx) (.inl (.inl c4)) room fun r5 H5 s5 h5 => ?_
      have s15 := s14.trans s5
      refine ⟨.ref t, rfl, 1, rfl, ?_⟩
      dsimp only [tNoPart]
      refine slA_any (ts_same (K := K) s15 _ _ hx) fun r6 H6 s6 h6 => ?_
      have s16 := s15.trans s6
      refine ⟨.ref t, rfl, 1, rfl, _, rfl, slA_any (ts_same (K := K) s16 _ _ hx) fun r7 H7 s7 h7 => ?_⟩
      have s17 := s16.trans s7
      obtain ⟨a6, b6, e6⟩ := cut_some xs (some 1) none
      obtain ⟨a7, b7, e7⟩ := cut_some xs none (some (-1))
      rw [e6] at h6
      rw [e7] at h7
      refine ⟨.ref t, rfl, (by show 1 ≤ sizeLine; decide), fun t8 n8 => ?_⟩
      have s8 : Same H7 (upd H7 t8 (.tup [.non])) := same_upd n8
      have c8 : (upd H7 t8 (.tup [.non])) t8 = some (.tup [.non]) := upd_same
      generalize upd H7 t8 (HO.tup [.non]) = H8 at s8 c8 ⊢
      have s18 := s17.trans s8
      refine catA_any (ts_same (K := K) s18 _ _ hx) (.inl (.inl c8)) room fun r9 H9 s9 h9 => ?_
      refine ⟨.ref t, rfl, (by show 1 ≤ sizeLine; decide), fun tA nA => ?_⟩
      have sA : Same H9 (upd H9 tA (.tup [.ref t])) := same_upd nA
      have cA : (upd H9 tA (.tup [.ref t])) tA = some (.tup [.ref t]) := upd_same
      generalize upd H9 tA (HO.tup [.ref t]) = HA at sA cA ⊢
      have s1A := (s18.trans s9).trans sA
      have s8A := s9.trans sA
      have s7A := s8.trans s8A
      have s6A := s7.trans s7A
      have s5A := s6.trans s6A
      have s4A := s5.trans s5A
      have s3A := s4.trans s4A
      have s2A := s3.trans s3A
      have hxsA := TS.dps (ts_same (K := K) s1A) _ _ pts hxs
      refine ⟨(by show 10 ≤ sizeLine; decide), fun l nl => ⟨.ref l, rfl, .ref dk, rfl, pick_next (K := K) (E := E0) (n := sz (.tuple ts) + 20) (m := (.tuple ts : PyData).depth + 1) rfl (by simp) (by simp) (D1.same s1A) (by omega) nl (fun x hx' => ?_) fun v H' hv D' k' => q v H' hv (D'.mono (by omega)) ((k1.trans (KD.of_same s1A)).trans k')⟩⟩
      simp only [List.mem_cons, List.not_mem_nil, or_false] at hx'
      rcases hx' with rfl | rfl | rfl | rfl | rfl | rfl | rfl | rfl | rfl | rfl
      · exact pn_non (by omega) (by omega)
      · exact pn_int (by omega) (by omega)
      · exact pn_bl (by omega) (by omega)
      · exact Pn.mono (pn_str (n := 5) (m := 1) (by decide +kernel) (by decide +kernel) (by decide)) (by omega) (by omega)
      · exact pn_row (.inl (.inl (s2A _ _ c2))) .nil rfl (by simp [szA]) (by simp [PyData.depthAll])
      · refine pn_row (es := ts ++ [.tuple []]) (ts_same s5A _ _ h5) (dpAll_append hxsA (.cons (.tup (.inl (.inl (s3A _ _ c3))) .nil) .nil)) (plA_append _ _ pts rfl) (by rw [szA_append]; simp only [szA, sz]; omega) ?_
        have : PyData.depthAll (ts ++ [.tuple []]) ≤ PyData.depthAll ts + 1 := depthA_le fun d hd => by
          rcases List.mem_append.mp hd with hd | hd
          · have := depth_mem hd
            omega
          · rw [List.mem_singleton.mp hd]
            simp [PyData.depth, PyData.depthAll]
        omega
      · exact pn_cut (ts_same s6A _ _ h6) hxsA pts (by omega) (by omega)
      · exact pn_cut (ts_same s7A _ _ h7) hxsA pts (by omega) (by omega)
      · refine pn_row (es := ts ++ [.none]) (ts_same sA _ _ h9) (dpAll_append hxsA (.cons .non .nil)) (plA_append _ _ pts rfl) (by rw [szA_append]; simp only [szA, sz]; omega) ?_
        have : PyData.depthAll (ts ++ [.none]) ≤ PyData.depthAll ts + 1 := depthA_le fun d hd => by
          rcases List.mem_append.mp hd with hd | hd
          · have := depth_mem hd
            omega
          · rw [List.mem_singleton.mp hd]
            simp [PyData.depth]
        omega
      · refine pn_row (es := [.tuple ts]) (.inl (.inl cA)) (.cons (.tup (ts_same (K := K) s1A _ _ hx) hxsA) .nil) (by show (plA ts && true) = true; rw [pts]; rfl) (by simp only [szA]; omega) ?_
        have : PyData.depthAll [.tuple ts] ≤ (.tuple ts : PyData).depth := depthA_le fun d hd => by rw [List.mem_singleton.mp hd]; exact Nat.le_refl _
        omega
    refine ⟨.int deep, rfl, _, _, rfl, rfl, _, rfl, ite2 (fun c => ?_) (fun _ => ⟨rfl, D0, KD.refl, rfl⟩)⟩
    obtain ⟨_, xs, ee, hx, hxs⟩ := dp_tup hT
    cases ee
    have hxl := dpAll_len hxs
    have hls := len_szA ts
    have esz : sz (.tuple ts) = szA ts + 1 := rfl
    have edp := depth_tuple ts
    refine ⟨.ref t, rfl, Nat.zero_le _, fun t1 n1 => ?_⟩
    have s1 : Same H (upd H t1 (.tup [])) := same_upd n1
    have c1 : (upd H t1 (.tup [])) t1 = some (.tup []) := upd_same
    generalize upd H t1 (HO.tup []) = H1 at s1 c1 ⊢
    have D1 := D0.same s1
    refine ⟨.tuple ts, .tuple [], .tup (ts_same (K := K) s1 _ _ hx) (TS.dps (ts_same (K := K) s1) _ _ pts hxs), .tup (.inl (.inl c1)) .nil, canLay _ pts, rfl, Nat.le_trans (Nat.min_le_right _ _) (by decide), _, rfl, ite2 (fun c2 => ?_) (fun _ => ⟨rfl, D1, KD.of_same s1, rfl⟩)⟩
    have hpos : 0 < xs.length := by
      rw [hxl]
      cases ts with
      | nil => rw [eqv_nilT] at c2; exact absurd c2 (by decide)
      | cons _ _ => exact Nat.succ_pos _
    refine ⟨.ref dk, rfl, .ref t, rfl, t, _, rfl, .inr (ts_same (K := K) s1 _ _ hx), dk, cl, lf, B, _, rfl, D1, by omega, by omega, rate_log (by omega) (by omega), fun at' H2 a0 a1 D2 k2 => ?_⟩
    obtain ⟨j, rfl⟩ : ∃ j : Nat, at' = (j : Int) := ⟨at'.toNat, by omega⟩
    have t02 : K1.TS K H H2 := fun a xs h => D1.ts (K := K) k2 _ _ (ts_same s1 _ _ h)
    have hx2 := t02 _ _ hx
    have hxs2 := TS.dps t02 _ _ pts hxs
    obtain ⟨z, gz, mz⟩ := pick_mem (vs := xs) (j := j) (by omega)
    obtain ⟨d, ed, hdz⟩ := dpAll_get hxs2 gz
    have md := List.mem_of_getElem? ed
    obtain ⟨es, rfl, tes⟩ := tt_tup (ttA_mem tts md)
    obtain ⟨u, us, rfl, hu, hus⟩ := dp_tup hdz
    have m1 := sz_mem md
    have m2 := depth_mem md
    have m3 := plA_mem pts md
    refine ⟨.ref t, rfl, .int j, rfl, .ref dk, rfl, .ref t, rfl, .int j, rfl, t, _, _, .ref u, rfl, rfl, hx2, atI_nat gz, .int deep, rfl, _, _, rfl, rfl, dk, cl, lf, u, B + 1, es, deep - 1, rfl, D2, by omega, hdz, m3, tes, by omega, by omega, fun v H3 pv D3 k3 => ?_⟩
    have t03 : K1.TS K H H3 := fun a xs h => D2.ts (K := K) k3 _ _ (t02 _ _ h)
    refine ⟨t, j, v, _, rfl, t03 _ _ hx, by omega, by omega, fun r H4 s4 h4 => ?_⟩
    refine q _ H4 ?_ ((D3.same s4).mono (by omega)) ((((KD.of_same s1).trans k2).trans k3).trans (KD.of_same s4))
    obtain ⟨d', p1, p2, p3, p4⟩ := pv.ts (ts_same s4)
    have hxs4 := TS.dps (ts_same (K := K) s4) _ _ pts (TS.dps t03 _ _ pts hxs)
    refine pn_row (es := (ts.take j ++ [d']) ++ ts.drop (j + 1)) h4 (dpAll_append (dpAll_append (dpAll_take j hxs4) (.cons p1 .nil)) (dpAll_drop (j + 1) hxs4)) ?_ ?_ ?_
    · refine plA_of fun d hd => ?_
      rcases List.mem_append.mp hd with hd | hd
      · rcases List.mem_append.mp hd with hd | hd
        · exact plA_mem pts (List.mem_of_mem_take hd)
        · rw [List.mem_singleton.mp hd]; exact p2
      · exact plA_mem pts (List.mem_of_mem_drop hd)
    · have e1 := szA_append (ts.take j) (ts.drop j)
      rw [List.take_append_drop] at e1
      obtain ⟨hj, ej⟩ := List.getElem?_eq_some_iff.mp ed
      rw [List.drop_eq_getElem_cons hj, ej] at e1
      have e2 : szA (.tuple es :: ts.drop (j + 1)) = sz (.tuple es) + szA (ts.drop (j + 1)) := rfl
      rw [szA_append, szA_append]
      have e3 : szA [d'] = sz d' + 0 := rfl
      omega
    · have : PyData.depthAll ((ts.take j ++ [d']) ++ ts.drop (j + 1)) ≤ PyData.depthAll ts + 1 := depthA_le fun d hd => by
        rcases List.mem_append.mp hd with hd | hd
        · rcases List.mem_append.mp hd with hd | hd
          · have := depth_mem (List.mem_of_mem_take hd)
            omega
          · rw [List.mem_singleton.mp hd]
            omega
        · have := depth_mem (List.mem_of_mem_drop hd)
          omega
      omega
end
end K3
namespace K3
open PySem PySem.Spec PyProof.Rows L2 K1
abbrev s_law : Stmt := topS 40
abbrev nm_law : List Str := ["_law_script", "_law_drawn", "_law_spoils", "_law_pieces", "_law_order", "_law_bits", "_law_tree_here", "_law_paper"]
abbrev pm_law : List Str := ["_law_script"]
theorem sc_law : FnScope nm_law pm_law (defScope s_law) := ⟨rfl, rfl, rfl, by decide +kernel, rfl, by decide +kernel, by decide +kernel⟩
section
variable {P : Program} {w : World} {K : PySem.W.Frag} {mg : Str → Option Value} {base : Heap}
def sp_law (K : PySem.W.Frag) : Sp := fun vs H Q _ => ∃ (a : Addr) (ns : List Int), vs = [.ref a] ∧ SqL K H a (ns.map V.int) ∧ ns.length ≤ 63 ∧ ∀ H', Q (.bl true) H'
/-- the deck and what shall be spoilt -/
def Deck (H : Hp) (dk cl lf sl : Addr) (B : Nat) : Prop := Dk H dk cl lf B ∧ (∃ i j : Int, H sl = some (.lst [.int i, .int j])) ∧ sl ≠ dk ∧ sl ≠ lf
theorem left_nil (n : Nat) : leftN n [] = List.range n := by
  unfold leftN
  exact List.filter_eq_self.mpr fun _ _ => by simp
theorem Deck.kd {H H' : Hp} {dk cl lf sl : Addr} {B B' : Nat} (h : Deck H dk cl lf sl B) (D' : Dk H' dk cl lf B') (k : KD dk lf H H') : Deck H' dk cl lf sl B' := by
  obtain ⟨_, ⟨i, j, e⟩, n1, n2⟩ := h
  exact ⟨D', ⟨i, j, k _ _ n1 n2 e⟩, n1, n2⟩
theorem Deck.mono {H : Hp} {dk cl lf sl : Addr} {B B' : Nat} (h : Deck H dk cl lf sl B) (l : B ≤ B') : Deck H dk cl lf sl B' := ⟨h.1.mono l, h.2⟩
mutual
theorem wr_len {ps : List Part} {bits : Int} : ∀ (d : PyData) (b b' : List Nat), wrT ps bits d b = some b' → b'.length ≤ b.length + d.depth
  | .tuple ts, b, b', h => by
    rw [wrT_tuple] at h
    rw [depth_tuple]
    by_cases he : ts.isEmpty = true
    · rw [if_pos he] at h
      by_cases hc : cutF ps b bits = true
      · rw [if_pos hc] at h; cases h
      · rw [if_neg hc] at h; cases h; omega
    · rw [if_neg he] at h
      by_cases hl : ts.length = (leftN ps.length b).length
      · rw [if_pos hl] at h
        have := wr_lenA ts _ b b' h
        omega
      · rw [if_neg hl] at h; cases h; omega
  | .none, b, b', h => by cases h; omega
  | .bool _, b, b', h => by cases h; omega
  | .int _, b, b', h => by cases h; omega
  | .str _, b, b', h => by cases h; omega
  | .list _, b, b', h => by cases h; omega
  | .dict _, b, b', h => by cases h; omega
theorem wr_lenA {ps : List Part} {bits : Int} : ∀ (ts : List PyData) (ks b b' : List Nat), wrA ps bits ts ks b = some b' → b'.length ≤ b.length + 1 + PyData.depthAll ts
  | [], ks, b, b', h => by rw [wrA] at h; cases h
  | t :: ts, ks, b, b', h => by
    cases ks with
    | nil => rw [wrA] at h; cases h
    | cons k ks =>
      rw [wrA] at h
      have e0 : PyData.depthAll (t :: ts) = max t.depth (PyData.depthAll ts) := by simp [PyData.depthAll]
      cases e : wrT ps bits t (b ++ [k]) with
      | some x =>
        rw [e] at h
        cases h
        have := wr_len t _ _ e
        rw [List.length_append] at this
        simp at this
        omega
      | none =>
        rw [e] at h
        have := wr_lenA ts ks b b' h
        omega
end
theorem word_ok (s : Str) (h : PyData.strOk s = true) (hl : s.length ≤ 10) : pl (wordD s) = true ∧ (wordD s).depth < 4 ∧ sz (wordD s) ≤ 1000000 := by
  refine ⟨?_, ?_, ?_⟩
  · show (pl (.str s) && true) = true
    have : pl (.str s) = true := h
    rw [this]; rfl
  · unfold wordD
    simp [PyData.depth, PyData.depthAll]
  · show ((s.length + 1) + (1 + 0)) + 1 ≤ 1000000
    omega
theorem tree_ok {ps : List Part} {bits : Int} {d : PyData} (hd : d.depth ≤ 1000) : pl (treeD (wrT ps bits d [])) = true ∧ (treeD (wrT ps bits d [])).depth < 4 ∧ sz (treeD (wrT ps bits d [])) ≤ 1000000 := by
  cases e : wrT ps bits d [] with
  | none => exact ⟨rfl, by simp [treeD, PyData.depth], by decide⟩
  | some b =>
    have hb := wr_len d [] b e
    have hn : (natsD b).depth ≤ 2 := by
      unfold natsD
      rw [depth_tuple]
      have : PyData.depthAll (b.map fun (n : Nat) => PyData.int (n : Int)) ≤ 1 := depthA_le fun d h => by
        obtain ⟨x, _, rfl⟩ := List.mem_map.mp h
        simp [PyData.depth]
      omega
    have h1 : szA (b.map fun (n : Nat) => PyData.int (n : Int)) ≤ (b.map fun (n : Nat) => PyData.int (n : Int)).length * 1 := szA_le fun d hd => by
      obtain ⟨x, _, rfl⟩ := List.mem_map.mp hd
      exact Nat.le_refl _
    rw [List.length_map] at h1
    refine ⟨?_, ?_, ?_⟩
    · show (pl (.str "tree") && (pl (natsD b) && true)) = true
      rw [nats_pl]
      decide +kernel
    · show (PyData.tuple [.str "tree", natsD b]).depth < 4
      rw [depth_tuple]
      have : PyData.depthAll [.str "tree", natsD b] ≤ 2 := depthA_le fun d hd => by
        rcases List.mem_cons.mp hd with rfl | hd
        · simp [PyData.depth]
        · rw [List.mem_singleton.mp hd]; exact hn
      omega
    · show (sz (.str "tree") + ((szA (b.map fun (n : Nat) => PyData.int (n : Int)) + 1) + 0)) + 1 ≤ 1000000
      have : sz (.str "tree") ≤ 10 := by decide +kernel
      simp at hb
      omega
theorem faultG_ok {d e : PyData} (hd : e.depth ≤ 1000) : pl (faultG d e) = true ∧ (faultG d e).depth < 4 ∧ sz (faultG d e) ≤ 1000000 := by
  have w1 := word_ok "form" (by decide +kernel) (by decide +kernel)
  have w2 := word_ok "order" (by decide +kernel) (by decide +kernel)
  have w3 := word_ok "parts" (by decide +kernel) (by decide +kernel)
  have w4 : pl bitsD = true ∧ bitsD.depth < 4 ∧ sz bitsD ≤ 1000000 := word_ok "bits" (by decide +kernel) (by decide +kernel)
  unfold faultG
  split
  · split
    · rename_i b o t
      split
      · split
        · unfold faultD
          split
          · refine tree_ok ?_
            have : t.depth ≤ PyData.depthAll [b, o, t] := depth_mem (by simp)
            rw [depth_tuple] at hd
            omega
          · exact w4
        · exact w2
      · exact w1
    · exact w1
  · exact w3
def t2 (K : PySem.W.Frag) (a0 : Addr) (Q : VK) : L2.TS := fun D σ H => ∃ (dk cl lf sl a o : Addr) (bits : Int) (tv : V) (ps : List Part) (os : List Nat), σ = [some (.ref a0), some (.ref dk), some (.ref sl), some (.ref a), some (.ref o), some (.int bits), some tv, none] ∧
  Deck H dk cl lf sl (2 ^ 30) ∧ (Pts K H a ps ∧ (∀ p ∈ ps, PtOk p) ∧ ps.length ≤ 5) ∧ (SqT K H o (os.map natV) ∧ os.length ≤ 8) ∧ Pn K H tv 3000 8 ∧ D.rt = Q
def t3 (K : PySem.W.Frag) (a0 : Addr) (Q : VK) : L2.TS := fun D σ H => ∃ (dk cl lf sl a o : Addr) (bv tv : V) (ps : List Part) (os : List Nat), σ = [some (.ref a0), some (.ref dk), some (.ref sl), some (.ref a), some (.ref o), some bv, some tv, none] ∧
  Deck H dk cl lf sl (2 ^ 31) ∧ (Pts K H a ps ∧ (∀ p ∈ ps, PtOk p) ∧ ps.length ≤ 5) ∧ (SqT K H o (os.map natV) ∧ os.length ≤ 8) ∧ Pn K H tv 3000 8 ∧ Pn K H bv 3000 8 ∧ D.rt = Q
def t4 (K : PySem.W.Frag) (a0 : Addr) (Q : VK) : L2.TS := fun D σ H => ∃ (dk cl lf sl a : Addr) (ov bv tv : V) (ps : List Part), σ = [some (.ref a0), some (.ref dk), some (.ref sl), some (.ref a), some ov, some bv, some tv, none] ∧
  Deck H dk cl lf sl (2 ^ 32) ∧ (Pts K H a ps ∧ (∀ p ∈ ps, PtOk p) ∧ ps.length ≤ 5) ∧ Pn K H ov 3000 8 ∧ Pn K H tv 3000 8 ∧ Pn K H bv 3000 8 ∧ D.rt = Q
def t5 (K : PySem.W.Frag) (a0 : Addr) (Q : VK) : L2.TS := fun D σ H => ∃ (dk cl lf sl : Addr) (pv ov bv tv : V), σ = [some (.ref a0), some (.ref dk), some (.ref sl), some pv, some ov, some bv, some tv, none] ∧
  Deck H dk cl lf sl (2 ^ 33) ∧ Pn K H pv 3000 8 ∧ Pn K H ov 3000 8 ∧ Pn K H tv 3000 8 ∧ Pn K H bv 3000 8 ∧ D.rt = Q
def t6 (K : PySem.W.Frag) (a0 : Addr) (Q : VK) : L2.TS := fun D σ H => ∃ (dk sl : Addr) (pv ov bv tv wv : V), σ = [some (.ref a0), some (.ref dk), some (.ref sl), some pv, some ov, some bv, some tv, some wv] ∧
  Pn K H pv 3000 8 ∧ Pn K H wv 30000 10 ∧ D.rt = Q
theorem ok_law {f : Addr} {fd : FuncData} (F : Fun K "law" "law" s_law f fd) (C__law_draws : Cal P w K mg base "_law_draws" pm__law_draws 1 (sp__law_draws K)) (C__law_parts : Cal P w K mg base "_law_parts" pm__law_parts 3 (sp__law_parts K)) (C__law_any_order : Cal P w K mg base "_law_any_order" pm__law_any_order 2 (sp__law_any_order K)) (C__law_tree : Cal P w K mg base "_law_tree" pm__law_tree 10 (sp__law_tree K 6)) (C__law_just : Cal P w K mg base "_law_just" pm__law_just 6 (sp__law_just K 4)) (C__law_next : Cal P w K mg base "_law_next" pm__law_next 1 sp__law_next) (C__law_laid : Cal P w K mg base "_law_laid" pm__law_laid 2 (sp__law_laid K)) (C__law_bent_tree : Cal P w K mg base "_law_bent_tree" pm__law_bent_tree 9 (sp__law_bent_tree K 7)) (C__law_bent_order : Cal P w K mg base "_law_bent_order" pm__law_bent_order 3 (sp__law_bent_order K)) (C__law_bent_parts : Cal P w K mg base "_law_bent_parts" pm__law_bent_parts 3 (sp__law_bent_parts K)) (C_orderfault : Cal P w K mg base "orderfault" pm_orderfault 6 (sp_orderfault K)) (C__law_fault : Cal P w K mg base "_law_fault" pm__law_fault 17 (sp__law_fault K)) (C__law_odd : Cal P w K mg base "_law_odd" pm__law_odd 2 (sp__law_odd K)) (m_len : mg "len" = none) : FnOk P w K mg base CX0 18 f fd pm_law (sp_law K) := by
  obtain ⟨f__law_draws, fd__law_draws, G__law_draws, g__law_draws, k__law_draws, b__law_draws⟩ := C__law_draws.ex
  obtain ⟨f__law_parts, fd__law_parts, G__law_parts, g__law_parts, k__law_parts, b__law_parts⟩ := C__law_parts.ex
  obtain ⟨f__law_any_order, fd__law_any_order, G__law_any_order, g__law_any_order, k__law_any_order, b__law_any_order⟩ := C__law_any_order.ex
  obtain ⟨f__law_tree, fd__law_tree, G__law_tree, g__law_tree, k__law_tree, b__law_tree⟩ := C__law_tree.ex
  obtain ⟨f__law_just, fd__law_just, G__law_just, g__law_just, k__law_just, b__law_just⟩ := C__law_just.ex
  obtain ⟨f__law_next, fd__law_next, G__law_next, g__law_next, k__law_next, b__law_next⟩ := C__law_next.ex
  obtain ⟨f__law_laid, fd__law_laid, G__law_laid, g__law_laid, k__law_laid, b__law_laid⟩ := C__law_laid.ex
  obtain ⟨f__law_bent_tree, fd__law_bent_tree, G__law_bent_tree, g__law_bent_tree, k__law_bent_tree, b__law_bent_tree⟩ := C__law_bent_tree.ex
  obtain ⟨f__law_bent_order, fd__law_bent_order, G__law_bent_order, g__law_bent_order, k__law_bent_order, b__law_bent_order⟩ := C__law_bent_order.ex
  obtain ⟨f__law_bent_parts, fd__law_bent_parts, G__law_bent_parts, g__law_bent_parts, k__law_bent_parts, b__law_bent_parts⟩ := C__law_bent_parts.ex
  obtain ⟨f_orderfault, fd_orderfault, G_orderfault, g_orderfault, k_orderfault, b_orderfault⟩ := C_orderfault.ex
  obtain ⟨f__law_fault, fd__law_fault, G__law_fault, g__law_fault, k__law_fault, b__law_fault⟩ := C__law_fault.ex
  obtain ⟨f__law_odd, fd__law_odd, G__law_odd, g__law_odd, k__law_odd, b__law_odd⟩ := C__law_odd.ex
  refine F.ok sc_law (fun vs H Q E h => ?_) (fun cdv A outer s H vs Q E hr h => ?_)
  · obtain ⟨a, ns, rfl, _⟩ := h
    rfl
  · obtain ⟨a0, ns, rfl, hS, hlen, q⟩ := h
    have rm : ∀ {j : Nat}, j ≤ 17 → Room j (A.deeper (envOfC "law" (defScope s_law) s.heap.objs.size f cdv)) := fun hj => hr.mono hj
    refine ⟨_, pss_cons (ps_set (i := 1) sc_law.nd rfl (.inl rfl) (pe_call G__law_draws (rm (by decide)) (by rfl) g__law_draws k__law_draws b__law_draws .nil pass0 (pa_cons (pv 0) pa_nil)))
      (pss_cons (ps_set (i := 2) sc_law.nd rfl (.inl rfl) (pe_lst (pa_cons (pe_call G__law_next (rm (by decide)) (by rfl) g__law_next k__law_next b__law_next .nil pass0 (pa_cons (pv 1) (pa_cons pe_int pa_nil))) (pa_cons (pe_call G__law_next (rm (by decide)) (by rfl) g__law_next k__law_next b__law_next .nil pass0 (pa_cons (pv 1) (pa_cons pe_int pa_nil))) pa_nil))))
      (pss_cons (ps_set (i := 3) sc_law.nd rfl (.inl rfl) (pe_call G__law_parts (rm (by decide)) (by rfl) g__law_parts k__law_parts b__law_parts .nil pass0 (pa_cons (pv 1) (pa_cons pe_int pa_nil))))
      (pss_cons (ps_set (i := 4) sc_law.nd rfl (.inl rfl) (pe_call G__law_any_order (rm (by decide)) (by rfl) g__law_any_order k__law_any_order b__law_any_order .nil pass0 (pa_cons (pv 1) (pa_cons (pe_callB call_len_seq (by rfl) m_len PySem.boot_len (pa_cons (pv 3) pa_nil)) pa_nil))))
      (pss_cons (ps_set (i := 5) sc_law.nd rfl (.inl rfl) (pe_ix ix_tup (pe_call G__law_laid (rm (by decide)) (by rfl) g__law_laid k__law_laid b__law_laid .nil pass0 (pa_cons (pv 3) (pa_cons (pv 4) pa_nil))) pe_int (fun _ _ => rfl)))
      (pss_cons (ps_set (i := 6) sc_law.nd rfl (.inl rfl) (pe_call G__law_tree (rm (by decide)) (by rfl) g__law_tree k__law_tree b__law_tree .nil pass0 (pa_cons (pv 1) (pa_cons (pv 3) (pa_cons (pv 5) (pa_cons (pe_tup pa_nil) (pa_cons (pe_ix ix_list (pe_lst (pa_cons pe_int (pa_cons pe_int (pa_cons pe_int pa_nil)))) (pe_call G__law_next (rm (by decide)) (by rfl) g__law_next k__law_next b__law_next .nil pass0 (pa_cons (pv 1) (pa_cons pe_int pa_nil))) (fun _ _ => rfl)) pa_nil)))))))
      (pss_cons (ps_if (pt_cmpR op_in_seq pe_int (pv 2) (by rfl))
      (pss_one (ps_set (i := 6) sc_law.nd rfl (.inl rfl) (pe_call G__law_bent_tree (rm (by decide)) (by rfl) g__law_bent_tree k__law_bent_tree b__law_bent_tree .nil pass0 (pa_cons (pv 1) (pa_cons (pv 6) (pa_cons (pe_call G__law_next (rm (by decide)) (by rfl) g__law_next k__law_next b__law_next .nil pass0 (pa_cons (pv 1) (pa_cons pe_int pa_nil))) pa_nil)))))) pss_nil)
      (pss_weak (t' := t2 K a0 Q) (pss_cons (ps_if (pt_cmpR op_in_seq pe_int (pv 2) (by rfl))
      (pss_one (ps_set (i := 5) sc_law.nd rfl (.inl rfl) (pe_ix ix_list (pe_lst (pa_cons (pe_op op_add (pv 5) pe_int) (pa_cons (pe_op op_sub (pv 5) pe_int) (pa_cons (pe_call G__law_odd (rm (by decide)) (by rfl) g__law_odd k__law_odd b__law_odd .nil pass0 (pa_cons (pv 1) pa_nil)) pa_nil)))) (pe_call G__law_next (rm (by decide)) (by rfl) g__law_next k__law_next b__law_next .nil pass0 (pa_cons (pv 1) (pa_cons pe_int pa_nil))) (fun _ _ => rfl)))) pss_nil)
      (pss_weak (t' := t3 K a0 Q) (pss_cons (ps_if (pt_cmpR op_in_seq pe_int (pv 2) (by rfl))
      (pss_one (ps_set (i := 4) sc_law.nd rfl (.inl rfl) (pe_call G__law_bent_order (rm (by decide)) (by rfl) g__law_bent_order k__law_bent_order b__law_bent_order .nil pass0 (pa_cons (pv 1) (pa_cons (pv 4) pa_nil))))) pss_nil)
      (pss_weak (t' := t4 K a0 Q) (pss_cons (ps_if (pt_cmpR op_in_seq pe_int (pv 2) (by rfl))
      (pss_one (ps_set (i := 3) sc_law.nd rfl (.inl rfl) (pe_call G__law_bent_parts (rm (by decide)) (by rfl) g__law_bent_parts k__law_bent_parts b__law_bent_parts .nil pass0 (pa_cons (pv 1) (pa_cons (pv 3) pa_nil))))) pss_nil)
      (pss_weak (t' := t5 K a0 Q) (pss_cons (ps_set (i := 7) sc_law.nd rfl (.inl rfl) (pe_tup (pa_cons (pv 5) (pa_cons (pv 4) (pa_cons (pv 6) pa_nil)))))
      (pss_cons (ps_if (pt_cmpR op_eq (pe_ix ix_list (pv 2) pe_int (fun _ _ => rfl)) pe_int (nomark _))
      (pss_one (ps_set (i := 7) sc_law.nd rfl (.inl rfl) (pe_ix ix_list (pe_lst (pa_cons pe_non (pa_cons (pe_tup pa_nil) (pa_cons (pe_slice sl_tupA (pv 7) po_none (po_some pe_int)) (pa_cons (pe_op op_catA (pv 7) (pe_tup (pa_cons pe_non pa_nil))) (pa_cons (pe_tup (pa_cons (pv 7) pa_nil)) (pa_cons pe_str pa_nil))))))) (pe_call G__law_next (rm (by decide)) (by rfl) g__law_next k__law_next b__law_next .nil pass0 (pa_cons (pv 1) (pa_cons pe_int pa_nil))) (fun _ _ => rfl)))) pss_nil)
      (pss_weak (t' := t6 K a0 Q) (pss_one (ps_ret (pe_call G__law_just (rm (by decide)) (by rfl) g__law_just k__law_just b__law_just .nil pass0 (pa_cons (pe_call G_orderfault (rm (by decide)) (by rfl) g_orderfault k_orderfault b_orderfault .nil pass0 (pa_cons (pv 3) (pa_cons (pv 7) pa_nil))) (pa_cons (pe_call G__law_fault (rm (by decide)) (by rfl) g__law_fault k__law_fault b__law_fault .nil pass0 (pa_cons (pv 3) (pa_cons (pv 7) pa_nil))) pa_nil))))) ?s6))) ?s5)) ?s4)) ?s3)) ?s2))))))), ?_⟩
    case s2 =>
      rintro D σ H1 ⟨dk, cl, lf, sl, a, o, bits, tv, ps, os, rfl, hK, hP, hO, hT, rfl⟩
      obtain ⟨i, j, es⟩ := hK.2.1
      refine ⟨.ref sl, rfl, sl, _, rfl, .inl (.inl (.inl es)), rfl, rfl, _, rfl, ite2 (fun _ => ?_) (fun _ => ?_)⟩
      · refine ⟨.int bits, rfl, _, _, rfl, rfl, .int bits, rfl, _, _, rfl, rfl, .ref dk, rfl, dk, cl, lf, _, rfl, hK.1, by omega, fun v H2 pv D2 k2 => ⟨(by show 3 ≤ sizeLine; decide), fun l nl => ⟨.ref dk, rfl, pick_next (K := K) (E := E0) (n := 10) (m := 2) rfl (by simp) (by simp) D2 (by omega) nl (fun x hx' => ?_) fun x H3 hx D3 k3 => ?_⟩⟩⟩
        · simp only [List.mem_cons, List.not_mem_nil, or_false] at hx'
          rcases hx' with rfl | rfl | rfl
          · exact pn_int (by decide) (by decide)
          · exact pn_int (by decide) (by decide)
          · exact pv
        have k13 := k2.trans k3
        have t13 := hK.1.ts (K := K) k13
        exact ⟨dk, cl, lf, sl, a, o, x, tv, ps, os, rfl, (hK.kd D3 k13).mono (by omega), ⟨hP.1.ts t13, hP.2⟩, ⟨t13 _ _ hO.1, hO.2⟩, hT.ts t13, hx.mono (by decide) (by decide), rfl⟩
      · exact ⟨dk, cl, lf, sl, a, o, .int bits, tv, ps, os, rfl, hK.mono (by omega), hP, hO, hT, pn_int (by decide) (by decide), rfl⟩
    case s3 =>
      rintro D σ H1 ⟨dk, cl, lf, sl, a, o, bv, tv, ps, os, rfl, hK, hP, hO, hT, hb, rfl⟩
      obtain ⟨i, j, es⟩ := hK.2.1
      refine ⟨.ref sl, rfl, sl, _, rfl, .inl (.inl (.inl es)), rfl, rfl, _, rfl, ite2 (fun _ => ?_) (fun _ => ?_)⟩
      · refine ⟨.ref dk, rfl, .ref o, rfl, dk, cl, lf, o, _, os, rfl, hK.1, by omega, hO.1, hO.2, fun v H2 pv D2 k2 => ?_⟩
        have t12 := hK.1.ts (K := K) k2
        exact ⟨dk, cl, lf, sl, a, v, bv, tv, ps, rfl, (hK.kd D2 k2).mono (by omega), ⟨hP.1.ts t12, hP.2⟩, pv.mono (by decide) (by decide), hT.ts t12, hb.ts t12, rfl⟩
      · exact ⟨dk, cl, lf, sl, a, .ref o, bv, tv, ps, rfl, hK.mono (by omega), hP, Pn.mono (pn_tup (K := K) (n := 1) (m := 1) (c := 8) hO.1 (fun x hx => pn_nats hx) (by rw [List.length_map]; exact hO.2)) (by decide) (by decide), hT, hb, rfl⟩
    case s4 =>
      rintro D σ H1 ⟨dk, cl, lf, sl, a, ov, bv, tv, ps, rfl, hK, hP, hO, hT, hb, rfl⟩
      obtain ⟨i, j, es⟩ := hK.2.1
      refine ⟨.ref sl, rfl, sl, _, rfl, .inl (.inl (.inl es)), rfl, rfl, _, rfl, ite2 (fun _ => ?_) (fun _ => ?_)⟩
      · refine ⟨.ref dk, rfl, .ref a, rfl, dk, cl, lf, a, _, ps, rfl, hK.1, by omega, hP.1, hP.2.1, hP.2.2, fun v H2 pv D2 k2 => ?_⟩
        have t12 := hK.1.ts (K := K) k2
        exact ⟨dk, cl, lf, sl, v, ov, bv, tv, rfl, (hK.kd D2 k2).mono (by omega), pv.mono (by decide) (by decide), hO.ts t12, hT.ts t12, hb.ts t12, rfl⟩
      · obtain ⟨xs, hx, hxl, hpn, _⟩ := pts_pn hP.1
        have := hP.2.2
        exact ⟨dk, cl, lf, sl, .ref a, ov, bv, tv, rfl, hK.mono (by omega), Pn.mono (pn_tup (K := K) (n := 3) (m := 2) (c := 5) hx hpn (by omega)) (by decide) (by decide), hO, hT, hb, rfl⟩
    case s5 =>
      rintro D σ H1 ⟨dk, cl, lf, sl, pv, ov, bv, tv, rfl, hK, hP, hO, hT, hb, rfl⟩
      obtain ⟨i, j, es⟩ := hK.2.1
      refine ⟨bv, rfl, ov, rfl, tv, rfl, (by show 3 ≤ sizeLine; decide), fun p np => ?_⟩
      have s2 : Same H1 (upd H1 p (.tup [bv, ov, tv])) := same_upd np
      have c2 : (upd H1 p (.tup [bv, ov, tv])) p = some (.tup [bv, ov, tv]) := upd_same
      generalize upd H1 p (HO.tup [bv, ov, tv]) = H2 at s2 c2 ⊢
      have hp : SqT K H2 p [bv, ov, tv] := .inl (.inl c2)
      have all3 : ∀ H', Same H1 H' → ∀ x ∈ [bv, ov, tv], Pn K H' x 3000 8 := fun H' s x hx => by
        simp only [List.mem_cons, List.not_mem_nil, or_false] at hx
        rcases hx with rfl | rfl | rfl
        · exact hb.ts (ts_same s)
        · exact hO.ts (ts_same s)
        · exact hT.ts (ts_same s)
      refine ⟨.ref sl, rfl, sl, _, _, .int i, rfl, rfl, .inl (.inl (s2 _ _ es)), atI_nat (j := 0) rfl, rfl, _, rfl, ite2 (fun _ => ?_) (fun _ => ?_)⟩
      · refine ⟨Nat.zero_le _, fun t3 n3 => ?_⟩
        have s3 : Same H2 (upd H2 t3 (.tup [])) := same_upd n3
        have c3 : (upd H2 t3 (.tup [])) t3 = some (.tup []) := upd_same
        generalize upd H2 t3 (HO.tup []) = H3 at s3 c3 ⊢
        refine ⟨.ref p, rfl, 2, rfl, slA_any (ts_same (K := K) s3 _ _ hp) fun r4 H4 s4 h4 => ?_⟩
        replace h4 : SqT K H4 r4 [bv, ov] := h4
        refine ⟨.ref p, rfl, (by show 1 ≤ sizeLine; decide), fun t5 n5 => ?_⟩
        have s5 : Same H4 (upd H4 t5 (.tup [.non])) := same_upd n5
        have c5 : (upd H4 t5 (.tup [.non])) t5 = some (.tup [.non]) := upd_same
        generalize upd H4 t5 (HO.tup [.non]) = H5 at s5 c5 ⊢
        have s25 := (s3.trans s4).trans s5
        refine catA_any (ts_same (K := K) s25 _ _ hp) (.inl (.inl c5)) (by show 4 ≤ sizeLine; decide) fun r6 H6 s6 h6 => ?_
        refine ⟨.ref p, rfl, (by show 1 ≤ sizeLine; decide), fun t7 n7 => ?_⟩
        have s7 : Same H6 (upd H6 t7 (.tup [.ref p])) := same_upd n7
        have c7 : (upd H6 t7 (.tup [.ref p])) t7 = some (.tup [.ref p]) := upd_same
        generalize upd H6 t7 (HO.tup [.ref p]) = H7 at s7 c7 ⊢
        have s67 := s6.trans s7
        have s57 := s5.trans s67
        have s47 := s4.trans s57
        have s27 := s25.trans s67
        have s17 := s2.trans s27
        have a3 := all3 H7 s17
        refine ⟨(by show 6 ≤ sizeLine; decide), fun l nl => ⟨.ref dk, rfl, pick_next (K := K) (E := E0) (n := 30000) (m := 10) rfl (by simp) (by simp) (hK.1.same s17) (by omega) nl (fun x hx' => ?_) fun x H8 hx D8 k8 => ?_⟩⟩
        · simp only [List.mem_cons, List.not_mem_nil, or_false] at hx'
          rcases hx' with rfl | rfl | rfl | rfl | rfl | rfl
          · exact pn_non (by decide) (by decide)
          · exact pn_row (.inl (.inl (s47 _ _ c3))) .nil rfl (by simp [szA]) (by simp [PyData.depthAll])
          · exact Pn.mono (pn_tup (K := K) (n := 3000) (m := 8) (c := 3) (ts_same s57 _ _ h4) (fun x hx => a3 x (by
              simp only [List.mem_cons, List.not_mem_nil, or_false] at hx ⊢
              rcases hx with rfl | rfl
              · exact .inl rfl
              · exact .inr (.inl rfl))) (by simp)) (by decide) (by decide)
          · exact Pn.mono (pn_app (K := K) (n := 3000) (m := 8) (c := 4) (ts_same s7 _ _ h6) a3 (pn_one (pn_non (by decide) (by decide))) (Nat.le_refl 4)) (by decide) (by decide)
          · exact Pn.mono (pn_tup (K := K) (n := 9001) (m := 9) (c := 1) (.inl (.inl c7)) (pn_one (Pn.mono (pn_tup (K := K) (n := 3000) (m := 8) (c := 3) (ts_same s27 _ _ hp) a3 (Nat.le_refl 3)) (by decide) (by decide))) (Nat.le_refl 1)) (by decide) (by decide)
          · exact Pn.mono (pn_str (n := 10) (m := 1) (by decide +kernel) (by decide +kernel) (by decide)) (by decide) (by decide)
        exact ⟨dk, sl, pv, ov, bv, tv, x, rfl, (hP.ts (ts_same s17)).ts ((hK.1.same s17).ts k8), hx, rfl⟩
      · exact ⟨dk, sl, pv, ov, bv, tv, .ref p, rfl, hP.ts (ts_same s2), Pn.mono (pn_tup (K := K) (n := 3000) (m := 8) (c := 3) hp (all3 H2 s2) (Nat.le_refl 3)) (by decide) (by decide), rfl⟩
    case s6 =>
      rintro D σ H1 ⟨dk, sl, pv, ov, bv, tv, wv, rfl, hP, hW, rfl⟩
      obtain ⟨d, d1, d2, d3, d4⟩ := hP
      obtain ⟨e, e1, e2, e3, e4⟩ := hW
      obtain ⟨g1, g2, g3⟩ := faultG_ok (d := d) (e := e) (by omega)
      refine ⟨pv, rfl, wv, rfl, pv, wv, d, e, rfl, d1, e1, d2, e2, by omega, by omega, fun x H2 s2 hx => ?_⟩
      refine ⟨pv, rfl, wv, rfl, pv, wv, d, e, rfl, (ts_same s2).dp _ _ d2 d1, (ts_same s2).dp _ _ e2 e1, d2, e2, by omega, by omega, by omega, fun y H3 s3 hy => ?_⟩
      refine ⟨x, y, faultG d e, faultG d e, rfl, (ts_same s3).dp _ _ g1 hx, hy, g1, g1, g2, g3, fun H4 s4 => ?_⟩
      rw [eqB_true rfl]
      exact q _
    refine ⟨.ref a0, rfl, a0, ns, rfl, hS, hlen, fun dk cl lf H1 D1 s1 nd nl => ?_⟩
    refine ⟨.ref dk, rfl, dk, cl, lf, 0, 6, rfl, D1, by omega, by decide, by decide +kernel, fun i H2 _ _ D2 k2 => ⟨.ref dk, rfl, dk, cl, lf, _, 6, rfl, D2, by omega, by decide, by decide +kernel, fun j H3 _ _ D3 k3 => ⟨(by show 2 ≤ sizeLine; decide), fun sl nsl => ?_⟩⟩⟩
    have nn := D3.not nsl
    have s4 : Same H3 (upd H3 sl (.lst [.int i, .int j])) := same_upd nsl
    have c4 : (upd H3 sl (.lst [.int i, .int j])) sl = some (.lst [.int i, .int j]) := upd_same
    generalize upd H3 sl (HO.lst [.int i, .int j]) = H4 at s4 c4 ⊢
    have K4 : Deck H4 dk cl lf sl _ := ⟨D3.same s4, ⟨i, j, c4⟩, nn.1, nn.2.2⟩
    refine ⟨.ref dk, rfl, dk, cl, lf, _, 5, rfl, K4.1, by omega, by omega, fun a ps H5 hP hok hl D5 k5 => ?_⟩
    have K5 := K4.kd D5 k5
    obtain ⟨ws, hw, lw⟩ := hP.len
    refine ⟨.ref dk, rfl, .ref a, rfl, a, ws, rfl, .inr hw, dk, cl, lf, _, ws.length, rfl, D5, by omega, by omega, fun o os H6 ho perm D6 k6 => ?_⟩
    have K6 := K5.kd D6 k6
    have t6 := D5.ts (K := K) k6
    have hP6 := hP.ts t6
    rw [lw] at perm
    have osl : os.length = ps.length := by rw [perm.length_eq, List.length_range]
    refine ⟨.ref a, rfl, .ref o, rfl, a, o, ps, os, rfl, ⟨hP6, ho, hok, fun n hn => List.mem_range.mp (perm.mem_iff.mp hn)⟩, by omega, fun r t H7 s7 hr7 _ => ⟨r, _, _, .int (laidF ps os).2, rfl, rfl, hr7, atI_nat (j := 1) rfl, ?_⟩⟩
    refine ⟨.ref dk, rfl, .ref a, rfl, .int _, rfl, Nat.zero_le _, fun t0 n0 => ⟨(by show 3 ≤ sizeLine; decide), fun l nl8 => ?_⟩⟩
    have s8 : Same H7 (upd H7 t0 (.tup [])) := same_upd n0
    have c8 : (upd H7 t0 (.tup [])) t0 = some (.tup []) := upd_same
    generalize upd H7 t0 (HO.tup []) = H8 at s8 c8 nl8 ⊢
    have s9 : Same H8 (upd H8 l (.lst [.int 1, .int 3, .int 60])) := same_upd nl8
    have c9 : (upd H8 l (.lst [.int 1, .int 3, .int 60])) l = some (.lst [.int 1, .int 3, .int 60]) := upd_same
    have nl9 := ((D6.same s7).same s8).not nl8
    generalize upd H8 l (HO.lst [.int 1, .int 3, .int 60]) = H9 at s9 c9 ⊢
    have s69 := (s7.trans s8).trans s9
    have D9 := D6.same s69
    refine ⟨.ref dk, rfl, dk, cl, lf, _, 3, rfl, D9, by omega, by decide, by decide +kernel, fun k H10 k0 k1 D10 k10 => ?_⟩
    obtain ⟨k, rfl⟩ : ∃ i' : Nat, k = (i' : Int) := ⟨k.toNat, by omega⟩
    obtain ⟨z, gz, mz⟩ := pick_mem (vs := [V.int 1, V.int 3, V.int 60]) (j := k) (show k < 3 by omega)
    obtain ⟨rate, rfl, rt0, rt1⟩ : ∃ rate : Int, z = .int rate ∧ 0 < rate ∧ rate ≤ 100 := by
      simp only [List.mem_cons, List.not_mem_nil, or_false] at mz
      rcases mz with rfl | rfl | rfl <;> exact ⟨_, rfl, by decide, by decide⟩
    have k610 : KD dk lf H6 H10 := (KD.of_same s69).trans k10
    have t610 := D6.ts (K := K) k610
    have K10 := K6.kd D10 k610
    have hlen0 : (leftN ps.length []).length = ps.length := by rw [left_nil, List.length_range]
    have hc : cnt ps.length ≤ 326 := Nat.le_trans (cnt_mono hl) (by decide)
    refine ⟨l, _, _, .int rate, rfl, rfl, .inl (.inl (k10 _ _ nl9.1 nl9.2.2 c9)), atI_nat gz, ?_⟩
    refine ⟨dk, cl, lf, a, t0, _, ps, [], _, rate, rfl, D10, by rw [hlen0]; omega, ⟨hP6.ts t610, D9.ts (K := K) k10 _ _ (.inl (.inl (s9 _ _ c8))), hok, fun _ h => (nomatch h)⟩, beg_nil _, by omega, by omega, rt0, rt1, fun tv ts H11 htv hT D11 k11 => ?_⟩
    rw [hlen0] at hT D11
    obtain ⟨pts, zts, tts, dts, _⟩ := hT
    have K11 := K10.kd D11 k11
    have t611 : K1.TS K H6 H11 := fun a xs h => D10.ts (K := K) k11 _ _ (t610 _ _ h)
    obtain ⟨u, us, rfl, hu, hus⟩ := dp_tup htv
    obtain ⟨i', j', es⟩ := K11.2.1
    refine ⟨.ref sl, rfl, sl, _, rfl, .inl (.inl (.inl es)), rfl, rfl, _, rfl, ite2 (fun _ => ?_) (fun _ => ?_)⟩
    · refine ⟨.ref dk, rfl, .ref u, rfl, .ref dk, rfl, dk, cl, lf, _, 6, rfl, D11, by omega, by decide, by decide +kernel, fun deep H12 _ _ D12 k12 => ?_⟩
      have t12 := D11.ts (K := K) k12
      refine ⟨dk, cl, lf, u, _, ts, deep, rfl, D12, by omega, t12.dp _ _ pts htv, pts, tts, by omega, by omega, fun v H13 pv D13 k13 => ?_⟩
      have t613 : K1.TS K H6 H13 := fun a xs h => D12.ts (K := K) k13 _ _ (t12 _ _ (t611 _ _ h))
      exact ⟨dk, cl, lf, sl, a, o, _, v, ps, os, rfl, ((K11.kd D12 k12).kd D13 k13).mono (by omega), ⟨hP6.ts t613, hok, hl⟩, ⟨t613 _ _ ho, by omega⟩, pv.mono (by omega) (by omega), rfl⟩
    · exact ⟨dk, cl, lf, sl, a, o, _, .ref u, ps, os, rfl, K11.mono (by omega), ⟨hP6.ts t611, hok, hl⟩, ⟨t611 _ _ ho, by omega⟩, ⟨_, htv, pts, by omega, by omega⟩, rfl⟩
end
end K3
namespace K3
open PySem PySem.Spec PyProof.Rows L2 K1
/-! ### what the top has written -/
theorem all_mk {l : PySem.W.OpenLaw} {w : World} {K : PySem.W.Frag} {h : Heap} {mg : Str → Option Value} {fa f1 f2 f3 f4 f5 f6 f7 f8 f9 f10 f11 f12 f13 f14 f15 f16 f17 f18 f19 f20 f21 f22 f23 f24 f25 f26 f27 f28 f29 f30 f31 f32 f33 f34 f35 a_ALIGNS : Addr} (X : K.In h) (G : h.Ns mainGlobals mg) (hfa : mg "law" = some (.ref fa))
    {od1 an1 od2 an2 od3 an3 od4 an4 od5 an5 od6 an6 od7 an7 od8 an8 od9 an9 od10 an10 od11 an11 od12 an12 od13 an13 od14 an14 od15 an15 od16 an16 od17 an17 od18 an18 od19 an19 od20 an20 od21 an21 od22 an22 od23 an23 od24 an24 od25 an25 od26 an26 od27 an27 od28 an28 od29 an29 od30 an30 od31 an31 od32 an32 od33 an33 od34 an34 od35 an35 odg_ALIGNS : Option Addr} {sl1 sl2 sl3 sl4 sl5 sl6 sl7 sl8 sl9 sl10 sl11 sl12 sl13 sl14 sl15 sl16 sl17 sl18 sl19 sl20 sl21 sl22 sl23 sl24 sl25 sl26 sl27 sl28 sl29 sl30 sl31 sl32 sl33 sl34 sl35 slg_ALIGNS : Array (Option Value)} {oc1 kV1 dc1 pm1 cd1 ct1 oc2 kV2 dc2 pm2 cd2 ct2 oc3 kV3 dc3 pm3 cd3 ct3 oc4 kV4 dc4 pm4 cd4 ct4 oc5 kV5 dc5 pm5 cd5 ct5 oc6 kV6 dc6 pm6 cd6 ct6 oc7 kV7 dc7 pm7 cd7 ct7 oc8 kV8 dc8 pm8 cd8 ct8 oc9 kV9 dc9 pm9 cd9 ct9 oc10 kV10 dc10 pm10 cd10 ct10 oc11 kV11 dc11 pm11 cd11 ct11 oc12 kV12 dc12 pm12 cd12 ct12 oc13 kV13 dc13 pm13 cd13 ct13 oc14 kV14 dc14 pm14 cd14 ct14 oc15 kV15 dc15 pm15 cd15 ct15 oc16 kV16 dc16 pm16 cd16 ct16 oc17 kV17 dc17 pm17 cd17 ct17 oc18 kV18 dc18 pm18 cd18 ct18 oc19 kV19 dc19 pm19 cd19 ct19 oc20 kV20 dc20 pm20 cd20 ct20 oc21 kV21 dc21 pm21 cd21 ct21 oc22 kV22 dc22 pm22 cd22 ct22 oc23 kV23 dc23 pm23 cd23 ct23 oc24 kV24 dc24 pm24 cd24 ct24 oc25 kV25 dc25 pm25 cd25 ct25 oc26 kV26 dc26 pm26 cd26 ct26 oc27 kV27 dc27 pm27 cd27 ct27 oc28 kV28 dc28 pm28 cd28 ct28 oc29 kV29 dc29 pm29 cd29 ct29 oc30 kV30 dc30 pm30 cd30 ct30 oc31 kV31 dc31 pm31 cd31 ct31 oc32 kV32 dc32 pm32 cd32 ct32 oc33 kV33 dc33 pm33 cd33 ct33 oc34 kV34 dc34 pm34 cd34 ct34 oc35 kV35 dc35 pm35 cd35 ct35 : Value} {t_MOST_SIZE t_MOST_LAID tw0_ALIGNS tw1_ALIGNS tw2_ALIGNS tw3_ALIGNS tw4_ALIGNS nn_ALIGNS : Nat}
    (ag_MOST_SIZE : PySem.W.nsIn K mainGlobals "MOST_SIZE" = some (some (.int 4096 t_MOST_SIZE)))
    (ag_MOST_LAID : PySem.W.nsIn K mainGlobals "MOST_LAID" = some (some (.int 8 t_MOST_LAID)))
    (ag_ALIGNS : PySem.W.nsIn K mainGlobals "ALIGNS" = some (some (.ref a_ALIGNS))) (lg_ALIGNS : K.lookup a_ALIGNS = some ⟨.type "tuple", odg_ALIGNS, .seq #[.int 1 tw0_ALIGNS, .int 8 tw1_ALIGNS, .int 16 tw2_ALIGNS, .int 32 tw3_ALIGNS, .int 64 tw4_ALIGNS] nn_ALIGNS, slg_ALIGNS⟩)
    (a1 : PySem.W.nsIn K mainGlobals "is_whole" = some (some (.ref f1))) (l1 : K.lookup f1 = some ⟨oc1, od1, .func (PySem.W.fnOf "is_whole" "is_whole" (defArgs s_is_whole) (defBody s_is_whole) (defScope s_is_whole) .none kV1 dc1 pm1 an1 cd1 ct1), sl1⟩) (c1 : PySem.W.codeIn K cd1 "is_whole" = true) (k1 : PySem.W.keepIn K (.ref f1) = true)
    (a2 : PySem.W.nsIn K mainGlobals "is_between" = some (some (.ref f2))) (l2 : K.lookup f2 = some ⟨oc2, od2, .func (PySem.W.fnOf "is_between" "is_between" (defArgs s_is_between) (defBody s_is_between) (defScope s_is_between) .none kV2 dc2 pm2 an2 cd2 ct2), sl2⟩) (c2 : PySem.W.codeIn K cd2 "is_between" = true) (k2 : PySem.W.keepIn K (.ref f2) = true)
    (a3 : PySem.W.nsIn K mainGlobals "is_tuple_of" = some (some (.ref f3))) (l3 : K.lookup f3 = some ⟨oc3, od3, .func (PySem.W.fnOf "is_tuple_of" "is_tuple_of" (defArgs s_is_tuple_of) (defBody s_is_tuple_of) (defScope s_is_tuple_of) .none kV3 dc3 pm3 an3 cd3 ct3), sl3⟩) (c3 : PySem.W.codeIn K cd3 "is_tuple_of" = true) (k3 : PySem.W.keepIn K (.ref f3) = true)
    (a4 : PySem.W.nsIn K mainGlobals "rounded" = some (some (.ref f4))) (l4 : K.lookup f4 = some ⟨oc4, od4, .func (PySem.W.fnOf "rounded" "rounded" (defArgs s_rounded) (defBody s_rounded) (defScope s_rounded) .none kV4 dc4 pm4 an4 cd4 ct4), sl4⟩) (c4 : PySem.W.codeIn K cd4 "rounded" = true) (k4 : PySem.W.keepIn K (.ref f4) = true)
    (a5 : PySem.W.nsIn K mainGlobals "laid_end" = some (some (.ref f5))) (l5 : K.lookup f5 = some ⟨oc5, od5, .func (PySem.W.fnOf "laid_end" "laid_end" (defArgs s_laid_end) (defBody s_laid_end) (defScope s_laid_end) .none kV5 dc5 pm5 an5 cd5 ct5), sl5⟩) (c5 : PySem.W.codeIn K cd5 "laid_end" = true) (k5 : PySem.W.keepIn K (.ref f5) = true)
    (a6 : PySem.W.nsIn K mainGlobals "end_of" = some (some (.ref f6))) (l6 : K.lookup f6 = some ⟨oc6, od6, .func (PySem.W.fnOf "end_of" "end_of" (defArgs s_end_of) (defBody s_end_of) (defScope s_end_of) .none kV6 dc6 pm6 an6 cd6 ct6), sl6⟩) (c6 : PySem.W.codeIn K cd6 "end_of" = true) (k6 : PySem.W.keepIn K (.ref f6) = true)
    (a7 : PySem.W.nsIn K mainGlobals "bits_of" = some (some (.ref f7))) (l7 : K.lookup f7 = some ⟨oc7, od7, .func (PySem.W.fnOf "bits_of" "bits_of" (defArgs s_bits_of) (defBody s_bits_of) (defScope s_bits_of) .none kV7 dc7 pm7 an7 cd7 ct7), sl7⟩) (c7 : PySem.W.codeIn K cd7 "bits_of" = true) (k7 : PySem.W.keepIn K (.ref f7) = true)
    (a8 : PySem.W.nsIn K mainGlobals "left_of" = some (some (.ref f8))) (l8 : K.lookup f8 = some ⟨oc8, od8, .func (PySem.W.fnOf "left_of" "left_of" (defArgs s_left_of) (defBody s_left_of) (defScope s_left_of) .none kV8 dc8 pm8 an8 cd8 ct8), sl8⟩) (c8 : PySem.W.codeIn K cd8 "left_of" = true) (k8 : PySem.W.keepIn K (.ref f8) = true)
    (a9 : PySem.W.nsIn K mainGlobals "is_cut" = some (some (.ref f9))) (l9 : K.lookup f9 = some ⟨oc9, od9, .func (PySem.W.fnOf "is_cut" "is_cut" (defArgs s_is_cut) (defBody s_is_cut) (defScope s_is_cut) .none kV9 dc9 pm9 an9 cd9 ct9), sl9⟩) (c9 : PySem.W.codeIn K cd9 "is_cut" = true) (k9 : PySem.W.keepIn K (.ref f9) = true)
    (a10 : PySem.W.nsIn K mainGlobals "is_part" = some (some (.ref f10))) (l10 : K.lookup f10 = some ⟨oc10, od10, .func (PySem.W.fnOf "is_part" "is_part" (defArgs s_is_part) (defBody s_is_part) (defScope s_is_part) .none kV10 dc10 pm10 an10 cd10 ct10), sl10⟩) (c10 : PySem.W.codeIn K cd10 "is_part" = true) (k10 : PySem.W.keepIn K (.ref f10) = true)
    (a11 : PySem.W.nsIn K mainGlobals "are_parts" = some (some (.ref f11))) (l11 : K.lookup f11 = some ⟨oc11, od11, .func (PySem.W.fnOf "are_parts" "are_parts" (defArgs s_are_parts) (defBody s_are_parts) (defScope s_are_parts) .none kV11 dc11 pm11 an11 cd11 ct11), sl11⟩) (c11 : PySem.W.codeIn K cd11 "are_parts" = true) (k11 : PySem.W.keepIn K (.ref f11) = true)
    (a12 : PySem.W.nsIn K mainGlobals "is_order" = some (some (.ref f12))) (l12 : K.lookup f12 = some ⟨oc12, od12, .func (PySem.W.fnOf "is_order" "is_order" (defArgs s_is_order) (defBody s_is_order) (defScope s_is_order) .none kV12 dc12 pm12 an12 cd12 ct12), sl12⟩) (c12 : PySem.W.codeIn K cd12 "is_order" = true) (k12 : PySem.W.keepIn K (.ref f12) = true)
    (a13 : PySem.W.nsIn K mainGlobals "tree_fault" = some (some (.ref f13))) (l13 : K.lookup f13 = some ⟨oc13, od13, .func (PySem.W.fnOf "tree_fault" "tree_fault" (defArgs s_tree_fault) (defBody s_tree_fault) (defScope s_tree_fault) .none kV13 dc13 pm13 an13 cd13 ct13), sl13⟩) (c13 : PySem.W.codeIn K cd13 "tree_fault" = true) (k13 : PySem.W.keepIn K (.ref f13) = true)
    (a14 : PySem.W.nsIn K mainGlobals "orderfault" = some (some (.ref f14))) (l14 : K.lookup f14 = some ⟨oc14, od14, .func (PySem.W.fnOf "orderfault" "orderfault" (defArgs s_orderfault) (defBody s_orderfault) (defScope s_orderfault) .none kV14 dc14 pm14 an14 cd14 ct14), sl14⟩) (c14 : PySem.W.codeIn K cd14 "orderfault" = true) (k14 : PySem.W.keepIn K (.ref f14) = true)
    (a15 : PySem.W.nsIn K mainGlobals "_law_draws" = some (some (.ref f15))) (l15 : K.lookup f15 = some ⟨oc15, od15, .func (PySem.W.fnOf "_law_draws" "_law_draws" (defArgs s__law_draws) (defBody s__law_draws) (defScope s__law_draws) .none kV15 dc15 pm15 an15 cd15 ct15), sl15⟩) (c15 : PySem.W.codeIn K cd15 "_law_draws" = true) (k15 : PySem.W.keepIn K (.ref f15) = true)
    (a16 : PySem.W.nsIn K mainGlobals "_law_next" = some (some (.ref f16))) (l16 : K.lookup f16 = some ⟨oc16, od16, .func (PySem.W.fnOf "_law_next" "_law_next" (defArgs s__law_next) (defBody s__law_next) (defScope s__law_next) .none kV16 dc16 pm16 an16 cd16 ct16), sl16⟩) (c16 : PySem.W.codeIn K cd16 "_law_next" = true) (k16 : PySem.W.keepIn K (.ref f16) = true)
    (a17 : PySem.W.nsIn K mainGlobals "_law_whole" = some (some (.ref f17))) (l17 : K.lookup f17 = some ⟨oc17, od17, .func (PySem.W.fnOf "_law_whole" "_law_whole" (defArgs s__law_whole) (defBody s__law_whole) (defScope s__law_whole) .none kV17 dc17 pm17 an17 cd17 ct17), sl17⟩) (c17 : PySem.W.codeIn K cd17 "_law_whole" = true) (k17 : PySem.W.keepIn K (.ref f17) = true)
    (a18 : PySem.W.nsIn K mainGlobals "_law_just" = some (some (.ref f18))) (l18 : K.lookup f18 = some ⟨oc18, od18, .func (PySem.W.fnOf "_law_just" "_law_just" (defArgs s__law_just) (defBody s__law_just) (defScope s__law_just) .none kV18 dc18 pm18 an18 cd18 ct18), sl18⟩) (c18 : PySem.W.codeIn K cd18 "_law_just" = true) (k18 : PySem.W.keepIn K (.ref f18) = true)
    (a19 : PySem.W.nsIn K mainGlobals "_law_measure" = some (some (.ref f19))) (l19 : K.lookup f19 = some ⟨oc19, od19, .func (PySem.W.fnOf "_law_measure" "_law_measure" (defArgs s__law_measure) (defBody s__law_measure) (defScope s__law_measure) .none kV19 dc19 pm19 an19 cd19 ct19), sl19⟩) (c19 : PySem.W.codeIn K cd19 "_law_measure" = true) (k19 : PySem.W.keepIn K (.ref f19) = true)
    (a20 : PySem.W.nsIn K mainGlobals "_law_parts" = some (some (.ref f20))) (l20 : K.lookup f20 = some ⟨oc20, od20, .func (PySem.W.fnOf "_law_parts" "_law_parts" (defArgs s__law_parts) (defBody s__law_parts) (defScope s__law_parts) .none kV20 dc20 pm20 an20 cd20 ct20), sl20⟩) (c20 : PySem.W.codeIn K cd20 "_law_parts" = true) (k20 : PySem.W.keepIn K (.ref f20) = true)
    (a21 : PySem.W.nsIn K mainGlobals "_law_any_order" = some (some (.ref f21))) (l21 : K.lookup f21 = some ⟨oc21, od21, .func (PySem.W.fnOf "_law_any_order" "_law_any_order" (defArgs s__law_any_order) (defBody s__law_any_order) (defScope s__law_any_order) .none kV21 dc21 pm21 an21 cd21 ct21), sl21⟩) (c21 : PySem.W.codeIn K cd21 "_law_any_order" = true) (k21 : PySem.W.keepIn K (.ref f21) = true)
    (a22 : PySem.W.nsIn K mainGlobals "_law_up" = some (some (.ref f22))) (l22 : K.lookup f22 = some ⟨oc22, od22, .func (PySem.W.fnOf "_law_up" "_law_up" (defArgs s__law_up) (defBody s__law_up) (defScope s__law_up) .none kV22 dc22 pm22 an22 cd22 ct22), sl22⟩) (c22 : PySem.W.codeIn K cd22 "_law_up" = true) (k22 : PySem.W.keepIn K (.ref f22) = true)
    (a23 : PySem.W.nsIn K mainGlobals "_law_laid" = some (some (.ref f23))) (l23 : K.lookup f23 = some ⟨oc23, od23, .func (PySem.W.fnOf "_law_laid" "_law_laid" (defArgs s__law_laid) (defBody s__law_laid) (defScope s__law_laid) .none kV23 dc23 pm23 an23 cd23 ct23), sl23⟩) (c23 : PySem.W.codeIn K cd23 "_law_laid" = true) (k23 : PySem.W.keepIn K (.ref f23) = true)
    (a24 : PySem.W.nsIn K mainGlobals "_law_left" = some (some (.ref f24))) (l24 : K.lookup f24 = some ⟨oc24, od24, .func (PySem.W.fnOf "_law_left" "_law_left" (defArgs s__law_left) (defBody s__law_left) (defScope s__law_left) .none kV24 dc24 pm24 an24 cd24 ct24), sl24⟩) (c24 : PySem.W.codeIn K cd24 "_law_left" = true) (k24 : PySem.W.keepIn K (.ref f24) = true)
    (a25 : PySem.W.nsIn K mainGlobals "_law_cut" = some (some (.ref f25))) (l25 : K.lookup f25 = some ⟨oc25, od25, .func (PySem.W.fnOf "_law_cut" "_law_cut" (defArgs s__law_cut) (defBody s__law_cut) (defScope s__law_cut) .none kV25 dc25 pm25 an25 cd25 ct25), sl25⟩) (c25 : PySem.W.codeIn K cd25 "_law_cut" = true) (k25 : PySem.W.keepIn K (.ref f25) = true)
    (a26 : PySem.W.nsIn K mainGlobals "_law_tree" = some (some (.ref f26))) (l26 : K.lookup f26 = some ⟨oc26, od26, .func (PySem.W.fnOf "_law_tree" "_law_tree" (defArgs s__law_tree) (defBody s__law_tree) (defScope s__law_tree) .none kV26 dc26 pm26 an26 cd26 ct26), sl26⟩) (c26 : PySem.W.codeIn K cd26 "_law_tree" = true) (k26 : PySem.W.keepIn K (.ref f26) = true)
    (a27 : PySem.W.nsIn K mainGlobals "_law_wrong" = some (some (.ref f27))) (l27 : K.lookup f27 = some ⟨oc27, od27, .func (PySem.W.fnOf "_law_wrong" "_law_wrong" (defArgs s__law_wrong) (defBody s__law_wrong) (defScope s__law_wrong) .none kV27 dc27 pm27 an27 cd27 ct27), sl27⟩) (c27 : PySem.W.codeIn K cd27 "_law_wrong" = true) (k27 : PySem.W.keepIn K (.ref f27) = true)
    (a28 : PySem.W.nsIn K mainGlobals "_law_are_parts" = some (some (.ref f28))) (l28 : K.lookup f28 = some ⟨oc28, od28, .func (PySem.W.fnOf "_law_are_parts" "_law_are_parts" (defArgs s__law_are_parts) (defBody s__law_are_parts) (defScope s__law_are_parts) .none kV28 dc28 pm28 an28 cd28 ct28), sl28⟩) (c28 : PySem.W.codeIn K cd28 "_law_are_parts" = true) (k28 : PySem.W.keepIn K (.ref f28) = true)
    (a29 : PySem.W.nsIn K mainGlobals "_law_fault" = some (some (.ref f29))) (l29 : K.lookup f29 = some ⟨oc29, od29, .func (PySem.W.fnOf "_law_fault" "_law_fault" (defArgs s__law_fault) (defBody s__law_fault) (defScope s__law_fault) .none kV29 dc29 pm29 an29 cd29 ct29), sl29⟩) (c29 : PySem.W.codeIn K cd29 "_law_fault" = true) (k29 : PySem.W.keepIn K (.ref f29) = true)
    (a30 : PySem.W.nsIn K mainGlobals "_law_odd" = some (some (.ref f30))) (l30 : K.lookup f30 = some ⟨oc30, od30, .func (PySem.W.fnOf "_law_odd" "_law_odd" (defArgs s__law_odd) (defBody s__law_odd) (defScope s__law_odd) .none kV30 dc30 pm30 an30 cd30 ct30), sl30⟩) (c30 : PySem.W.codeIn K cd30 "_law_odd" = true) (k30 : PySem.W.keepIn K (.ref f30) = true)
    (a31 : PySem.W.nsIn K mainGlobals "_law_put" = some (some (.ref f31))) (l31 : K.lookup f31 = some ⟨oc31, od31, .func (PySem.W.fnOf "_law_put" "_law_put" (defArgs s__law_put) (defBody s__law_put) (defScope s__law_put) .none kV31 dc31 pm31 an31 cd31 ct31), sl31⟩) (c31 : PySem.W.codeIn K cd31 "_law_put" = true) (k31 : PySem.W.keepIn K (.ref f31) = true)
    (a32 : PySem.W.nsIn K mainGlobals "_law_bent_parts" = some (some (.ref f32))) (l32 : K.lookup f32 = some ⟨oc32, od32, .func (PySem.W.fnOf "_law_bent_parts" "_law_bent_parts" (defArgs s__law_bent_parts) (defBody s__law_bent_parts) (defScope s__law_bent_parts) .none kV32 dc32 pm32 an32 cd32 ct32), sl32⟩) (c32 : PySem.W.codeIn K cd32 "_law_bent_parts" = true) (k32 : PySem.W.keepIn K (.ref f32) = true)
    (a33 : PySem.W.nsIn K mainGlobals "_law_bent_order" = some (some (.ref f33))) (l33 : K.lookup f33 = some ⟨oc33, od33, .func (PySem.W.fnOf "_law_bent_order" "_law_bent_order" (defArgs s__law_bent_order) (defBody s__law_bent_order) (defScope s__law_bent_order) .none kV33 dc33 pm33 an33 cd33 ct33), sl33⟩) (c33 : PySem.W.codeIn K cd33 "_law_bent_order" = true) (k33 : PySem.W.keepIn K (.ref f33) = true)
    (a34 : PySem.W.nsIn K mainGlobals "_law_bent_tree" = some (some (.ref f34))) (l34 : K.lookup f34 = some ⟨oc34, od34, .func (PySem.W.fnOf "_law_bent_tree" "_law_bent_tree" (defArgs s__law_bent_tree) (defBody s__law_bent_tree) (defScope s__law_bent_tree) .none kV34 dc34 pm34 an34 cd34 ct34), sl34⟩) (c34 : PySem.W.codeIn K cd34 "_law_bent_tree" = true) (k34 : PySem.W.keepIn K (.ref f34) = true)
    (a35 : PySem.W.nsIn K mainGlobals "law" = some (some (.ref f35))) (l35 : K.lookup f35 = some ⟨oc35, od35, .func (PySem.W.fnOf "law" "law" (defArgs s_law) (defBody s_law) (defScope s_law) .none kV35 dc35 pm35 an35 cd35 ct35), sl35⟩) (c35 : PySem.W.codeIn K cd35 "law" = true) (k35 : PySem.W.keepIn K (.ref f35) = true)
    (z_isinstance : PySem.W.nsIn K mainGlobals "isinstance" = some none) (z_int : PySem.W.nsIn K mainGlobals "int" = some none) (z_bool : PySem.W.nsIn K mainGlobals "bool" = some none) (z_tuple : PySem.W.nsIn K mainGlobals "tuple" = some none) (z_len : PySem.W.nsIn K mainGlobals "len" = some none) (z_range : PySem.W.nsIn K mainGlobals "range" = some none) (z_sum : PySem.W.nsIn K mainGlobals "sum" = some none) (z_all : PySem.W.nsIn K mainGlobals "all" = some none) (z_set : PySem.W.nsIn K mainGlobals "set" = some none) (z_zip : PySem.W.nsIn K mainGlobals "zip" = some none) (z_list : PySem.W.nsIn K mainGlobals "list" = some none) (z_str : PySem.W.nsIn K mainGlobals "str" = some none) (z_sorted : PySem.W.nsIn K mainGlobals "sorted" = some none) :
    ∃ fd : FuncData, (∀ (s : Shared) (v : Value), BindsTo s fd ⟨[v], []⟩ [("_law_script", v)]) ∧ ∀ base : Heap, K.In base → base.Ns mainGlobals mg → FnOk l.prog w K mg base CX0 18 fa fd ["_law_script"] (sp_law K) := by
  have e := hfa.symm.trans (PySem.W.mg_of X G a35)
  cases e
  have F1 := fun_mk (st := s_is_whole) l1 c1 k1
  have F2 := fun_mk (st := s_is_between) l2 c2 k2
  have F3 := fun_mk (st := s_is_tuple_of) l3 c3 k3
  have F4 := fun_mk (st := s_rounded) l4 c4 k4
  have F5 := fun_mk (st := s_laid_end) l5 c5 k5
  have F6 := fun_mk (st := s_end_of) l6 c6 k6
  have F7 := fun_mk (st := s_bits_of) l7 c7 k7
  have F8 := fun_mk (st := s_left_of) l8 c8 k8
  have F9 := fun_mk (st := s_is_cut) l9 c9 k9
  have F10 := fun_mk (st := s_is_part) l10 c10 k10
  have F11 := fun_mk (st := s_are_parts) l11 c11 k11
  have F12 := fun_mk (st := s_is_order) l12 c12 k12
  have F13 := fun_mk (st := s_tree_fault) l13 c13 k13
  have F14 := fun_mk (st := s_orderfault) l14 c14 k14
  have F15 := fun_mk (st := s__law_draws) l15 c15 k15
  have F16 := fun_mk (st := s__law_next) l16 c16 k16
  have F17 := fun_mk (st := s__law_whole) l17 c17 k17
  have F18 := fun_mk (st := s__law_just) l18 c18 k18
  have F19 := fun_mk (st := s__law_measure) l19 c19 k19
  have F20 := fun_mk (st := s__law_parts) l20 c20 k20
  have F21 := fun_mk (st := s__law_any_order) l21 c21 k21
  have F22 := fun_mk (st := s__law_up) l22 c22 k22
  have F23 := fun_mk (st := s__law_laid) l23 c23 k23
  have F24 := fun_mk (st := s__law_left) l24 c24 k24
  have F25 := fun_mk (st := s__law_cut) l25 c25 k25
  have F26 := fun_mk (st := s__law_tree) l26 c26 k26
  have F27 := fun_mk (st := s__law_wrong) l27 c27 k27
  have F28 := fun_mk (st := s__law_are_parts) l28 c28 k28
  have F29 := fun_mk (st := s__law_fault) l29 c29 k29
  have F30 := fun_mk (st := s__law_odd) l30 c30 k30
  have F31 := fun_mk (st := s__law_put) l31 c31 k31
  have F32 := fun_mk (st := s__law_bent_parts) l32 c32 k32
  have F33 := fun_mk (st := s__law_bent_order) l33 c33 k33
  have F34 := fun_mk (st := s__law_bent_tree) l34 c34 k34
  have F35 := fun_mk (st := s_law) l35 c35 k35
  have b1 := F1.binds (ps := pm_is_whole) fun _ _ _ _ _ _ us hl => match us, hl with | [_], _ => rfl
  have g1 := PySem.W.mg_of X G a1
  have b2 := F2.binds (ps := pm_is_between) fun _ _ _ _ _ _ us hl => match us, hl with | [_, _, _], _ => rfl
  have g2 := PySem.W.mg_of X G a2
  have b3 := F3.binds (ps := pm_is_tuple_of) fun _ _ _ _ _ _ us hl => match us, hl with | [_, _], _ => rfl
  have g3 := PySem.W.mg_of X G a3
  have b4 := F4.binds (ps := pm_rounded) fun _ _ _ _ _ _ us hl => match us, hl with | [_, _], _ => rfl
  have g4 := PySem.W.mg_of X G a4
  have b5 := F5.binds (ps := pm_laid_end) fun _ _ _ _ _ _ us hl => match us, hl with | [_, _], _ => rfl
  have g5 := PySem.W.mg_of X G a5
  have b6 := F6.binds (ps := pm_end_of) fun _ _ _ _ _ _ us hl => match us, hl with | [_, _], _ => rfl
  have g6 := PySem.W.mg_of X G a6
  have b7 := F7.binds (ps := pm_bits_of) fun _ _ _ _ _ _ us hl => match us, hl with | [_, _], _ => rfl
  have g7 := PySem.W.mg_of X G a7
  have b8 := F8.binds (ps := pm_left_of) fun _ _ _ _ _ _ us hl => match us, hl with | [_, _], _ => rfl
  have g8 := PySem.W.mg_of X G a8
  have b9 := F9.binds (ps := pm_is_cut) fun _ _ _ _ _ _ us hl => match us, hl with | [_, _, _], _ => rfl
  have g9 := PySem.W.mg_of X G a9
  have b10 := F10.binds (ps := pm_is_part) fun _ _ _ _ _ _ us hl => match us, hl with | [_], _ => rfl
  have g10 := PySem.W.mg_of X G a10
  have b11 := F11.binds (ps := pm_are_parts) fun _ _ _ _ _ _ us hl => match us, hl with | [_], _ => rfl
  have g11 := PySem.W.mg_of X G a11
  have b12 := F12.binds (ps := pm_is_order) fun _ _ _ _ _ _ us hl => match us, hl with | [_, _], _ => rfl
  have g12 := PySem.W.mg_of X G a12
  have b13 := F13.binds (ps := pm_tree_fault) fun _ _ _ _ _ _ us hl => match us, hl with | [_, _, _], _ => rfl
  have g13 := PySem.W.mg_of X G a13
  have b14 := F14.binds (ps := pm_orderfault) fun _ _ _ _ _ _ us hl => match us, hl with | [_, _], _ => rfl
  have g14 := PySem.W.mg_of X G a14
  have b15 := F15.binds (ps := pm__law_draws) fun _ _ _ _ _ _ us hl => match us, hl with | [_], _ => rfl
  have g15 := PySem.W.mg_of X G a15
  have b16 := F16.binds (ps := pm__law_next) fun _ _ _ _ _ _ us hl => match us, hl with | [_, _], _ => rfl
  have g16 := PySem.W.mg_of X G a16
  have b17 := F17.binds (ps := pm__law_whole) fun _ _ _ _ _ _ us hl => match us, hl with | [_], _ => rfl
  have g17 := PySem.W.mg_of X G a17
  have b18 := F18.binds (ps := pm__law_just) fun _ _ _ _ _ _ us hl => match us, hl with | [_, _], _ => rfl
  have g18 := PySem.W.mg_of X G a18
  have b19 := F19.binds (ps := pm__law_measure) fun _ _ _ _ _ _ us hl => match us, hl with | [_], _ => rfl
  have g19 := PySem.W.mg_of X G a19
  have b20 := F20.binds (ps := pm__law_parts) fun _ _ _ _ _ _ us hl => match us, hl with | [_, _], _ => rfl
  have g20 := PySem.W.mg_of X G a20
  have b21 := F21.binds (ps := pm__law_any_order) fun _ _ _ _ _ _ us hl => match us, hl with | [_, _], _ => rfl
  have g21 := PySem.W.mg_of X G a21
  have b22 := F22.binds (ps := pm__law_up) fun _ _ _ _ _ _ us hl => match us, hl with | [_, _], _ => rfl
  have g22 := PySem.W.mg_of X G a22
  have b23 := F23.binds (ps := pm__law_laid) fun _ _ _ _ _ _ us hl => match us, hl with | [_, _], _ => rfl
  have g23 := PySem.W.mg_of X G a23
  have b24 := F24.binds (ps := pm__law_left) fun _ _ _ _ _ _ us hl => match us, hl with | [_, _], _ => rfl
  have g24 := PySem.W.mg_of X G a24
  have b25 := F25.binds (ps := pm__law_cut) fun _ _ _ _ _ _ us hl => match us, hl with | [_, _, _], _ => rfl
  have g25 := PySem.W.mg_of X G a25
  have b26 := F26.binds (ps := pm__law_tree) fun _ _ _ _ _ _ us hl => match us, hl with | [_, _, _, _, _], _ => rfl
  have g26 := PySem.W.mg_of X G a26
  have b27 := F27.binds (ps := pm__law_wrong) fun _ _ _ _ _ _ us hl => match us, hl with | [_, _, _, _], _ => rfl
  have g27 := PySem.W.mg_of X G a27
  have b28 := F28.binds (ps := pm__law_are_parts) fun _ _ _ _ _ _ us hl => match us, hl with | [_], _ => rfl
  have g28 := PySem.W.mg_of X G a28
  have b29 := F29.binds (ps := pm__law_fault) fun _ _ _ _ _ _ us hl => match us, hl with | [_, _], _ => rfl
  have g29 := PySem.W.mg_of X G a29
  have b30 := F30.binds (ps := pm__law_odd) fun _ _ _ _ _ _ us hl => match us, hl with | [_], _ => rfl
  have g30 := PySem.W.mg_of X G a30
  have b31 := F31.binds (ps := pm__law_put) fun _ _ _ _ _ _ us hl => match us, hl with | [_, _, _], _ => rfl
  have g31 := PySem.W.mg_of X G a31
  have b32 := F32.binds (ps := pm__law_bent_parts) fun _ _ _ _ _ _ us hl => match us, hl with | [_, _], _ => rfl
  have g32 := PySem.W.mg_of X G a32
  have b33 := F33.binds (ps := pm__law_bent_order) fun _ _ _ _ _ _ us hl => match us, hl with | [_, _], _ => rfl
  have g33 := PySem.W.mg_of X G a33
  have b34 := F34.binds (ps := pm__law_bent_tree) fun _ _ _ _ _ _ us hl => match us, hl with | [_, _, _], _ => rfl
  have g34 := PySem.W.mg_of X G a34
  have b35 := F35.binds (ps := pm_law) fun _ _ _ _ _ _ us hl => match us, hl with | [_], _ => rfl
  have g35 := PySem.W.mg_of X G a35
  have g_MOST_SIZE := PySem.W.mg_of X G ag_MOST_SIZE
  have g_MOST_LAID := PySem.W.mg_of X G ag_MOST_LAID
  have g_ALIGNS := PySem.W.mg_of X G ag_ALIGNS
  have h_ALIGNS : ∀ H : Hp, SqT K H a_ALIGNS [.int 1, .int 8, .int 16, .int 32, .int 64] := fun H => .inr ⟨_, _, _, lg_ALIGNS, rfl, rfl, (by show 5 ≤ sizeLine; decide), (.cons ⟨_, rfl⟩ (.cons ⟨_, rfl⟩ (.cons ⟨_, rfl⟩ (.cons ⟨_, rfl⟩ (.cons ⟨_, rfl⟩ .nil)))))⟩
  have m_isinstance := PySem.W.mg_none_of X G z_isinstance
  have m_int := PySem.W.mg_none_of X G z_int
  have m_bool := PySem.W.mg_none_of X G z_bool
  have m_tuple := PySem.W.mg_none_of X G z_tuple
  have m_len := PySem.W.mg_none_of X G z_len
  have m_range := PySem.W.mg_none_of X G z_range
  have m_sum := PySem.W.mg_none_of X G z_sum
  have m_all := PySem.W.mg_none_of X G z_all
  have m_set := PySem.W.mg_none_of X G z_set
  have m_zip := PySem.W.mg_none_of X G z_zip
  have m_list := PySem.W.mg_none_of X G z_list
  have m_str := PySem.W.mg_none_of X G z_str
  have m_sorted := PySem.W.mg_none_of X G z_sorted
  refine ⟨PySem.W.fnOf "law" "law" (defArgs s_law) (defBody s_law) (defScope s_law) .none kV35 dc35 pm35 an35 cd35 ct35, fun s v => .of_eq rfl, fun base _ _ => ?_⟩
  have C_is_whole : Cal l.prog w K mg base "is_whole" pm_is_whole 1 (sp_is_whole K) := ⟨_, _, ok_is_whole F1 m_isinstance m_int m_bool, g1, k1, b1⟩
  have C_is_tuple_of : Cal l.prog w K mg base "is_tuple_of" pm_is_tuple_of 1 (sp_is_tuple_of K) := ⟨_, _, ok_is_tuple_of F3 m_isinstance m_tuple m_len, g3, k3, b3⟩
  have C_rounded : Cal l.prog w K mg base "rounded" pm_rounded 1 sp_rounded := ⟨_, _, ok_rounded F4, g4, k4, b4⟩
  have C_left_of : Cal l.prog w K mg base "left_of" pm_left_of 1 (sp_left_of K) := ⟨_, _, ok_left_of F8 m_range m_len, g8, k8, b8⟩
  have C__law_draws : Cal l.prog w K mg base "_law_draws" pm__law_draws 1 (sp__law_draws K) := ⟨_, _, ok__law_draws F15 m_list m_int m_len, g15, k15, b15⟩
  have C__law_next : Cal l.prog w K mg base "_law_next" pm__law_next 1 sp__law_next := ⟨_, _, ok__law_next F16 m_len, g16, k16, b16⟩
  have C__law_whole : Cal l.prog w K mg base "_law_whole" pm__law_whole 1 (sp__law_whole K) := ⟨_, _, ok__law_whole F17 m_isinstance m_int m_bool, g17, k17, b17⟩
  have C__law_up : Cal l.prog w K mg base "_law_up" pm__law_up 1 sp__law_up := ⟨_, _, ok__law_up F22, g22, k22, b22⟩
  have C__law_left : Cal l.prog w K mg base "_law_left" pm__law_left 1 (sp_left_of K) := ⟨_, _, ok__law_left F24 m_range m_len, g24, k24, b24⟩
  have C__law_put : Cal l.prog w K mg base "_law_put" pm__law_put 1 (sp__law_put K) := ⟨_, _, ok__law_put F31, g31, k31, b31⟩
  have C_is_between : Cal l.prog w K mg base "is_between" pm_is_between 2 (sp_is_between K) := ⟨_, _, ok_is_between F2 C_is_whole, g2, k2, b2⟩
  have C_laid_end : Cal l.prog w K mg base "laid_end" pm_laid_end 2 (sp_laid_end K) := ⟨_, _, ok_laid_end F5 C_rounded, g5, k5, b5⟩
  have C__law_measure : Cal l.prog w K mg base "_law_measure" pm__law_measure 2 (sp__law_measure K) := ⟨_, _, ok__law_measure F19 C__law_next, g19, k19, b19⟩
  have C__law_any_order : Cal l.prog w K mg base "_law_any_order" pm__law_any_order 2 (sp__law_any_order K) := ⟨_, _, ok__law_any_order F21 C__law_next m_list m_range m_len, g21, k21, b21⟩
  have C__law_laid : Cal l.prog w K mg base "_law_laid" pm__law_laid 2 (sp__law_laid K) := ⟨_, _, ok__law_laid F23 C__law_up m_len m_tuple, g23, k23, b23⟩
  have C__law_are_parts : Cal l.prog w K mg base "_law_are_parts" pm__law_are_parts 2 (sp__law_are_parts K) := ⟨_, _, ok__law_are_parts F28 C__law_whole m_isinstance m_tuple m_len, g28, k28, b28⟩
  have C__law_odd : Cal l.prog w K mg base "_law_odd" pm__law_odd 2 (sp__law_odd K) := ⟨_, _, ok__law_odd F30 C__law_next, g30, k30, b30⟩
  have C_end_of : Cal l.prog w K mg base "end_of" pm_end_of 3 (sp_end_of K) := ⟨_, _, ok_end_of F6 C_laid_end, g6, k6, b6⟩
  have C_is_part : Cal l.prog w K mg base "is_part" pm_is_part 3 (sp_is_part K) := ⟨_, _, ok_is_part F10 C_is_whole C_is_tuple_of C_is_between g_ALIGNS h_ALIGNS g_MOST_SIZE, g10, k10, b10⟩
  have C_is_order : Cal l.prog w K mg base "is_order" pm_is_order 3 (sp_is_order K) := ⟨_, _, ok_is_order F12 C_is_tuple_of C_is_between m_len m_all m_set, g12, k12, b12⟩
  have C__law_parts : Cal l.prog w K mg base "_law_parts" pm__law_parts 3 (sp__law_parts K) := ⟨_, _, ok__law_parts F20 C__law_measure C__law_next m_tuple m_range, g20, k20, b20⟩
  have C__law_cut : Cal l.prog w K mg base "_law_cut" pm__law_cut 3 (sp__law_cut K) := ⟨_, _, ok__law_cut F25 C__law_left C__law_laid m_sum, g25, k25, b25⟩
  have C__law_bent_parts : Cal l.prog w K mg base "_law_bent_parts" pm__law_bent_parts 3 (sp__law_bent_parts K) := ⟨_, _, ok__law_bent_parts F32 C__law_next C__law_put C__law_odd m_len, g32, k32, b32⟩
  have C__law_bent_order : Cal l.prog w K mg base "_law_bent_order" pm__law_bent_order 3 (sp__law_bent_order K) := ⟨_, _, ok__law_bent_order F33 C__law_next C__law_odd C__law_put m_len, g33, k33, b33⟩
  have C_bits_of : Cal l.prog w K mg base "bits_of" pm_bits_of 4 (sp_bits_of K) := ⟨_, _, ok_bits_of F7 C_end_of, g7, k7, b7⟩
  have C_is_cut : Cal l.prog w K mg base "is_cut" pm_is_cut 4 (sp_is_cut K) := ⟨_, _, ok_is_cut F9 C_end_of C_left_of m_sum, g9, k9, b9⟩
  have C_are_parts : Cal l.prog w K mg base "are_parts" pm_are_parts 4 (sp_are_parts K) := ⟨_, _, ok_are_parts F11 C_is_part m_isinstance m_tuple m_all m_len g_MOST_LAID, g11, k11, b11⟩
  have C_tree_fault : Cal l.prog w K mg base "tree_fault" pm_tree_fault 5 (sp_tree_fault K) := ⟨_, _, ok_tree_fault F13 C_left_of C_is_cut m_isinstance m_tuple m_len m_zip, g13, k13, b13⟩
  have C_orderfault : Cal l.prog w K mg base "orderfault" pm_orderfault 6 (sp_orderfault K) := ⟨_, _, ok_orderfault F14 C_tree_fault C_are_parts C_is_order C_bits_of C_is_tuple_of C_is_whole m_len, g14, k14, b14⟩
  have C__law_just : Cal l.prog w K mg base "_law_just" pm__law_just 6 (sp__law_just K 4) := ⟨_, _, ok__law_just F18 g18 b18 C__law_whole m_isinstance m_tuple m_str m_bool m_len m_zip 4, g18, k18, b18⟩
  have C__law_bent_tree : Cal l.prog w K mg base "_law_bent_tree" pm__law_bent_tree 9 (sp__law_bent_tree K 7) := ⟨_, _, ok__law_bent_tree F34 g34 b34 C__law_next C__law_put m_len 7, g34, k34, b34⟩
  have C__law_tree : Cal l.prog w K mg base "_law_tree" pm__law_tree 10 (sp__law_tree K 6) := ⟨_, _, ok__law_tree F26 g26 b26 C__law_left C__law_cut C__law_next m_tuple m_len 6, g26, k26, b26⟩
  have C__law_wrong : Cal l.prog w K mg base "_law_wrong" pm__law_wrong 16 (sp__law_wrong K 12) := ⟨_, _, ok__law_wrong F27 g27 b27 C__law_left C__law_cut m_zip m_isinstance m_tuple m_len 12, g27, k27, b27⟩
  have C__law_fault : Cal l.prog w K mg base "_law_fault" pm__law_fault 17 (sp__law_fault K) := ⟨_, _, ok__law_fault F29 C__law_wrong C__law_are_parts C__law_whole C__law_laid m_sorted m_list m_isinstance m_tuple m_len m_range, g29, k29, b29⟩
  exact ok_law F35 C__law_draws C__law_parts C__law_any_order C__law_tree C__law_just C__law_next C__law_laid C__law_bent_tree C__law_bent_order C__law_bent_parts C_orderfault C__law_fault C__law_odd m_len
end K3
open PySem PySem.W PyProof.Rows
set_option maxHeartbeats 0 in
theorem PySem.Challenge.cw_packedforms_k33_papers_spoilt_holds : PySem.Challenge.rw_packedforms_k33_papers_spoilt.Holds := by
  w_on; o_law; k_head; (case hw => w_witness2)
  k_fill
  refine L2.walk_of (l := PySem.Challenge.rw_packedforms_k33_papers_spoilt) (n := 63) (k := 18) (x := "_law_script") (CX := fun _ => L2.CX0) (sp := fun w => K3.sp_law _) rfl (by decide) rfl ⟨rfl, by decide, by decide⟩ (fun w h Y => PySem.W.kIn_of Y) ?F (fun _ _ a ns hl _ hS => ⟨a, ns, rfl, hS, hl, fun _ => rfl⟩) (fun _ _ _ _ _ h => h)
  case F =>
    intro w mg fa h KX G hmg
    refine' K3.all_mk KX G hmg ?ag_MOST_SIZE ?ag_MOST_LAID ?ag_ALIGNS ?lg_ALIGNS ?a1 ?l1 ?c1 ?k1 ?a2 ?l2 ?c2 ?k2 ?a3 ?l3 ?c3 ?k3 ?a4 ?l4 ?c4 ?k4 ?a5 ?l5 ?c5 ?k5 ?a6 ?l6 ?c6 ?k6 ?a7 ?l7 ?c7 ?k7 ?a8 ?l8 ?c8 ?k8 ?a9 ?l9 ?c9 ?k9 ?a10 ?l10 ?c10 ?k10 ?a11 ?l11 ?c11 ?k11 ?a12 ?l12 ?c12 ?k12 ?a13 ?l13 ?c13 ?k13 ?a14 ?l14 ?c14 ?k14 ?a15 ?l15 ?c15 ?k15 ?a16 ?l16 ?c16 ?k16 ?a17 ?l17 ?c17 ?k17 ?a18 ?l18 ?c18 ?k18 ?a19 ?l19 ?c19 ?k19 ?a20 ?l20 ?c20 ?k20 ?a21 ?l21 ?c21 ?k21 ?a22 ?l22 ?c22 ?k22 ?a23 ?l23 ?c23 ?k23 ?a24 ?l24 ?c24 ?k24 ?a25 ?l25 ?c25 ?k25 ?a26 ?l26 ?c26 ?k26 ?a27 ?l27 ?c27 ?k27 ?a28 ?l28 ?c28 ?k28 ?a29 ?l29 ?c29 ?k29 ?a30 ?l30 ?c30 ?k30 ?a31 ?l31 ?c31 ?k31 ?a32 ?l32 ?c32 ?k32 ?a33 ?l33 ?c33 ?k33 ?a34 ?l34 ?c34 ?k34 ?a35 ?l35 ?c35 ?k35 ?z_isinstance ?z_int ?z_bool ?z_tuple ?z_len ?z_range ?z_sum ?z_all ?z_set ?z_zip ?z_list ?z_str ?z_sorted
    (case ag_MOST_SIZE => k_is); (case ag_MOST_LAID => k_is); (case ag_ALIGNS => k_is); (case lg_ALIGNS => k_is); (case a1 => k_is); (case l1 => k_is); (case c1 => k_is); (case k1 => k_is); (case a2 => k_is); (case l2 => k_is); (case c2 => k_is); (case k2 => k_is); (case a3 => k_is); (case l3 => k_is); (case c3 => k_is); (case k3 => k_is); (case a4 => k_is); (case l4 => k_is); (case c4 => k_is); (case k4 => k_is); (case a5 => k_is); (case l5 => k_is); (case c5 => k_is); (case k5 => k_is); (case a6 => k_is); (case l6 => k_is); (case c6 => k_is); (case k6 => k_is); (case a7 => k_is); (case l7 => k_is); (case c7 => k_is); (case k7 => k_is); (case a8 => k_is); (case l8 => k_is); (case c8 => k_is); (case k8 => k_is); (case a9 => k_is); (case l9 => k_is); (case c9 => k_is); (case k9 => k_is); (case a10 => k_is); (case l10 => k_is); (case c10 => k_is); (case k10 => k_is); (case a11 => k_is); (case l11 => k_is); (case c11 => k_is); (case k11 => k_is); (case a12 => k_is); (case l12 => k_is); (case c12 => k_is); (case k12 => k_is); (case a13 => k_is); (case l13 => k_is); (case c13 => k_is); (case k13 => k_is); (case a14 => k_is); (case l14 => k_is); (case c14 => k_is); (case k14 => k_is); (case a15 => k_is); (case l15 => k_is); (case c15 => k_is); (case k15 => k_is); (case a16 => k_is); (case l16 => k_is); (case c16 => k_is); (case k16 => k_is); (case a17 => k_is); (case l17 => k_is); (case c17 => k_is); (case k17 => k_is); (case a18 => k_is); (case l18 => k_is); (case c18 => k_is); (case k18 => k_is); (case a19 => k_is); (case l19 => k_is); (case c19 => k_is); (case k19 => k_is); (case a20 => k_is); (case l20 => k_is); (case c20 => k_is); (case k20 => k_is); (case a21 => k_is); (case l21 => k_is); (case c21 => k_is); (case k21 => k_is); (case a22 => k_is); (case l22 => k_is); (case c22 => k_is); (case k22 => k_is); (case a23 => k_is); (case l23 => k_is); (case c23 => k_is); (case k23 => k_is); (case a24 => k_is); (case l24 => k_is); (case c24 => k_is); (case k24 => k_is); (case a25 => k_is); (case l25 => k_is); (case c25 => k_is); (case k25 => k_is); (case a26 => k_is); (case l26 => k_is); (case c26 => k_is); (case k26 => k_is); (case a27 => k_is); (case l27 => k_is); (case c27 => k_is); (case k27 => k_is); (case a28 => k_is); (case l28 => k_is); (case c28 => k_is); (case k28 => k_is); (case a29 => k_is); (case l29 => k_is); (case c29 => k_is); (case k29 => k_is); (case a30 => k_is); (case l30 => k_is); (case c30 => k_is); (case k30 => k_is); (case a31 => k_is); (case l31 => k_is); (case c31 => k_is); (case k31 => k_is); (case a32 => k_is); (case l32 => k_is); (case c32 => k_is); (case k32 => k_is); (case a33 => k_is); (case l33 => k_is); (case c33 => k_is); (case k33 => k_is); (case a34 => k_is); (case l34 => k_is); (case c34 => k_is); (case k34 => k_is); (case a35 => k_is); (case l35 => k_is); (case c35 => k_is); (case k35 => k_is); (case z_isinstance => k_is); (case z_int => k_is); (case z_bool => k_is); (case z_tuple => k_is); (case z_len => k_is); (case z_range => k_is); (case z_sum => k_is); (case z_all => k_is); (case z_set => k_is); (case z_zip => k_is); (case z_list => k_is); (case z_str => k_is); (case z_sorted => k_is)
