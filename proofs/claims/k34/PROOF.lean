import PyProof.Rows.All
import Wide.All
import OpenK.AllK
import Wide.FinOn
import HandS.ForMost
import HandS.IsInst
import HandS.TupAny
import HandS.Wide
import HandS.NoneIn
import HandS.Flow
import HandS.Conv
import HandS.Deep
import HandS.Zip
import HandS.Style
import HandS.SortInts
import PySem.Challenge.RW_packedforms_k34_fewest_told
set_option Elab.async false
set_option linter.all false
set_option maxRecDepth 100000
set_option maxHeartbeats 2000000
namespace K1
open PySem PySem.Spec PyProof.Rows L2
/-! ### written things as data -/
mutual
/-- None, truths, numbers, texts of right signs, tuples of such -/
def pl : PyData → Bool
  | .none => true
  | .bool _ => true
  | .int _ => true
  | .str x => PyData.strOk x
  | .tuple ds => plA ds
  | .list _ => false
  | .dict _ => false
def plA : List PyData → Bool
  | [] => true
  | d :: ds => pl d && plA ds
end
mutual
/-- how great a thing is: tuples and leaves, signs of texts -/
def sz : PyData → Nat
  | .none => 1
  | .bool _ => 1
  | .int _ => 1
  | .str x => x.length + 1
  | .tuple ds => szA ds + 1
  | .list _ => 1
  | .dict _ => 1
def szA : List PyData → Nat
  | [] => 0
  | d :: ds => sz d + szA ds
end
theorem sz_pos : ∀ d, 1 ≤ sz d
  | .none => Nat.le_refl _
  | .bool _ => Nat.le_refl _
  | .int _ => Nat.le_refl _
  | .str x => Nat.succ_le_succ (Nat.zero_le _)
  | .tuple ds => Nat.succ_le_succ (Nat.zero_le _)
  | .list _ => Nat.le_refl _
  | .dict _ => Nat.le_refl _
theorem len_szA : ∀ ds : List PyData, ds.length ≤ szA ds
  | [] => Nat.le_refl _
  | d :: ds => by
    have h1 := sz_pos d
    have h2 := len_szA ds
    simp only [List.length_cons, szA]
    omega
mutual
theorem canLay : ∀ d, pl d = true → PyData.canLay0 d = true
  | .none, _ => rfl
  | .bool _, _ => rfl
  | .int _, _ => rfl
  | .str _, h => h
  | .tuple ds, h => canLayA ds h
  | .list _, h => by cases h
  | .dict _, h => by cases h
theorem canLayA : ∀ ds, plA ds = true → PyData.canLayAll0 ds = true
  | [], _ => rfl
  | d :: ds, h => by
    have h' : pl d = true ∧ plA ds = true := by simpa [plA] using h
    show (PyData.canLay0 d && PyData.canLayAll0 ds) = true
    rw [canLay d h'.1, canLayA ds h'.2]
    rfl
end
theorem plA_mem : ∀ {ds : List PyData} {d : PyData}, plA ds = true → d ∈ ds → pl d = true
  | d :: ds, e, h, m => by
    have h' : pl d = true ∧ plA ds = true := by simpa [plA] using h
    rcases List.mem_cons.mp m with rfl | m
    · exact h'.1
    · exact plA_mem h'.2 m
theorem plA_of : ∀ {ds : List PyData}, (∀ d ∈ ds, pl d = true) → plA ds = true
  | [], _ => rfl
  | d :: ds, h => by
    show (pl d && plA ds) = true
    rw [h d List.mem_cons_self, plA_of fun e m => h e (List.mem_cons_of_mem _ m)]
    rfl
theorem szA_append : ∀ xs ys : List PyData, szA (xs ++ ys) = szA xs + szA ys
  | [], ys => by simp [szA]
  | x :: xs, ys => by
    simp only [List.cons_append, szA, szA_append xs ys]
    omega
theorem sz_mem : ∀ {ds : List PyData} {d : PyData}, d ∈ ds → sz d ≤ szA ds
  | d :: ds, e, m => by
    simp only [szA]
    rcases List.mem_cons.mp m with rfl | m
    · omega
    · have := sz_mem m
      omega
theorem szA_le {b : Nat} : ∀ {ds : List PyData}, (∀ d ∈ ds, sz d ≤ b) → szA ds ≤ ds.length * b
  | [], _ => by simp [szA]
  | d :: ds, h => by
    have h1 := h d List.mem_cons_self
    have h2 := szA_le fun e m => h e (List.mem_cons_of_mem _ m)
    simp only [szA, List.length_cons, Nat.add_mul]
    omega
theorem depthA_le {b : Nat} : ∀ {ds : List PyData}, (∀ d ∈ ds, d.depth ≤ b) → PyData.depthAll ds ≤ b
  | [], _ => by simp [PyData.depthAll]
  | d :: ds, h => by
    have h1 := h d List.mem_cons_self
    have h2 := depthA_le fun e m => h e (List.mem_cons_of_mem _ m)
    simp only [PyData.depthAll]
    omega
theorem depth_mem : ∀ {ds : List PyData} {d : PyData}, d ∈ ds → d.depth ≤ PyData.depthAll ds
  | d :: ds, e, m => by
    simp only [PyData.depthAll]
    rcases List.mem_cons.mp m with rfl | m
    · omega
    · have := depth_mem m
      omega
theorem depth_tuple (ds : List PyData) : (PyData.tuple ds).depth = PyData.depthAll ds + 1 := by simp [PyData.depth]
/-! ### heaps: what tuples stand -/
section
variable {K : PySem.W.Frag} {H H1 H2 : Hp}
def TS (K : PySem.W.Frag) (H H' : Hp) : Prop := ∀ a xs, SqT K H a xs → SqT K H' a xs
theorem TS.refl : TS K H H := fun _ _ h => h
theorem TS.trans (a : TS K H H1) (b : TS K H1 H2) : TS K H H2 := fun x xs h => b x xs (a x xs h)
theorem ts_same (s : Same H H1) : TS K H H1 := fun a xs h => by
  rcases h with (h | ⟨o, h⟩) | h
  · exact .inl (.inl (s _ _ h))
  · exact .inl (.inr ⟨o, s _ _ h⟩)
  · exact .inr h
theorem ts_new {p : Addr} {o : HO} (h : H p = none) : TS K H (upd H p o) := ts_same fun b u e => by rw [upd_ne (ne_of_none e h)]; exact e
theorem ts_but {S : Addr → Prop} (hS : ∀ b, S b → ∃ xs, H b = some (.lst xs)) (k : ∀ b o, ¬ S b → H b = some o → H1 b = some o) : TS K H H1 := fun a xs h => by
  rcases h with (h | ⟨o, h⟩) | h
  · refine .inl (.inl (k _ _ (fun z => ?_) h))
    obtain ⟨ys, e⟩ := hS a z
    rw [e] at h
    cases h
  · refine .inl (.inr ⟨o, k _ _ (fun z => ?_) h⟩)
    obtain ⟨ys, e⟩ := hS a z
    rw [e] at h
    cases h
  · exact .inr h
theorem ts_lst {l : Addr} {xs ys : List V} (h : H l = some (.lst xs)) : TS K H (upd H l (.lst ys)) :=
  ts_but (S := fun b => b = l) (fun b e => ⟨xs, by rw [e]; exact h⟩) fun b o n e => by rw [upd_ne n]; exact e
theorem same_upd {p : Addr} {o : HO} (h : H p = none) : Same H (upd H p o) := fun b x e => by rw [upd_ne (ne_of_none e h)]; exact e
mutual
theorem TS.dp (t : TS K H H1) : ∀ (d : PyData) (v : V), pl d = true → Dp K H v d → Dp K H1 v d
  | .none, _, _, h => by cases h; exact .non
  | .bool b, _, _, h => by cases h; exact .bl b
  | .int i, _, _, h => by cases h; exact .int i
  | .str x, _, _, h => by cases h; exact .str x
  | .tuple ds, _, p, h => by
    cases h with
    | tup hs ha => exact .tup (t _ _ hs) (TS.dps t ds _ p ha)
  | .list _, _, p, _ => by cases p
  | .dict _, _, p, _ => by cases p
theorem TS.dps (t : TS K H H1) : ∀ (ds : List PyData) (vs : List V), plA ds = true → DpAll K H vs ds → DpAll K H1 vs ds
  | [], _, _, h => by cases h; exact .nil
  | d :: ds, _, p, h => by
    have p' : pl d = true ∧ plA ds = true := by simpa [plA] using p
    cases h with
    | cons h1 h2 => exact .cons (TS.dp t d _ p'.1 h1) (TS.dps t ds _ p'.2 h2)
end
theorem dpAll_len : ∀ {vs : List V} {ds : List PyData}, DpAll K H vs ds → vs.length = ds.length
  | _, _, .nil => rfl
  | _, _, .cons _ t => by simp [dpAll_len t]
theorem dpAll_get : ∀ {vs : List V} {ds : List PyData} {i : Nat} {v : V}, DpAll K H vs ds → vs[i]? = some v → ∃ d, ds[i]? = some d ∧ Dp K H v d
  | _, _, i, v, .nil, e => by simp at e
  | _, _, 0, v, .cons h t, e => by
    simp at e
    subst e
    exact ⟨_, rfl, h⟩
  | _, _, i + 1, v, .cons h t, e => by
    obtain ⟨d, e1, e2⟩ := dpAll_get (i := i) t (by simpa using e)
    exact ⟨d, by simpa using e1, e2⟩
theorem dpAll_append : ∀ {vs ws : List V} {ds es : List PyData}, DpAll K H vs ds → DpAll K H ws es → DpAll K H (vs ++ ws) (ds ++ es)
  | _, _, _, _, .nil, s => s
  | _, _, _, _, .cons h t, s => .cons h (dpAll_append t s)
theorem dpAll_take : ∀ {vs : List V} {ds : List PyData} (n : Nat), DpAll K H vs ds → DpAll K H (vs.take n) (ds.take n)
  | _, _, 0, _ => by simp; exact .nil
  | _, _, _ + 1, .nil => by simp; exact .nil
  | _, _, n + 1, .cons h t => .cons h (dpAll_take n t)
theorem dpAll_drop : ∀ {vs : List V} {ds : List PyData} (n : Nat), DpAll K H vs ds → DpAll K H (vs.drop n) (ds.drop n)
  | _, _, 0, r => r
  | _, _, _ + 1, .nil => by simp; exact .nil
  | _, _, n + 1, .cons _ t => dpAll_drop n t
end
/-! ### a few operators -/
section
variable {X : Cx}
/-- a != b of data, where one of them is not deep -/
def rNeM (K : PySem.W.Frag) : R2 := fun x y H Q => ∃ d e, Dp K H x d ∧ Dp K H y e ∧ d.canLay0 = true ∧ e.canLay0 = true ∧ min d.depth e.depth ≤ 64 ∧ Q (.bl (!PyData.eqv d e)) H
def rEqM (K : PySem.W.Frag) : R2 := fun x y H Q => ∃ d e, Dp K H x d ∧ Dp K H y e ∧ d.canLay0 = true ∧ e.canLay0 = true ∧ min d.depth e.depth ≤ 64 ∧ Q (.bl (PyData.eqv d e)) H
theorem op_neM (hu : X.A.units + 64 < cLine) : OpR X (compareOp .NotEq) (rNeM X.K) := by
  intro pins s σ H x y v u Q I rx ry h
  obtain ⟨d, e, hd, he, sd, se, hm, q⟩ := h
  obtain ⟨as, r1⟩ := Dp.reads I d x v hd rx
  obtain ⟨bs, r2⟩ := Dp.reads I e y u he ry
  exact SeqAt.compareNe_reads r1 r2 sd se (Nat.lt_of_le_of_lt (Nat.add_le_add_left hm _) hu) ⟨.bl _, H, I, rfl, q⟩
theorem op_eqM (hu : X.A.units + 64 < cLine) : OpR X (compareOp .Eq) (rEqM X.K) := by
  intro pins s σ H x y v u Q I rx ry h
  obtain ⟨d, e, hd, he, sd, se, hm, q⟩ := h
  obtain ⟨as, r1⟩ := Dp.reads I d x v hd rx
  obtain ⟨bs, r2⟩ := Dp.reads I e y u he ry
  exact SeqAt.compareEq_reads r1 r2 sd se (Nat.lt_of_le_of_lt (Nat.add_le_add_left hm _) hu) ⟨.bl _, H, I, rfl, q⟩
def CPowW (i j : Int) : Prop := 0 ≤ j ∧ (Builtin.Int.intBits i : Int) * j ≤ 2 ^ 27
theorem op_powW : OpR X (binaryOp .Pow) (rI CPowW fun i j => .int (i ^ j.toNat)) := opI fun _ _ _ _ _ _ _ hc q => pow_int hc.1 hc.2 q
end
end K1
namespace K1
open PySem PySem.Spec PyProof.Rows L2
/-! ### the deck -/
structure Dk (H : Hp) (dk cl lf : Addr) (B : Nat) : Prop where
  ex : ∃ (cells lefts : List Int) (n : Int), H dk = some (.lst [.ref cl, .int n, .ref lf]) ∧ H cl = some (.lst (cells.map V.int)) ∧ H lf = some (.lst (lefts.map V.int)) ∧ cells.length = lefts.length ∧ 0 < cells.length ∧ cells.length ≤ 100 ∧ 0 ≤ n ∧ n ≤ B
  ne : cl ≠ lf
/-- all but the deck's own lists stays -/
def KD (dk lf : Addr) (H H' : Hp) : Prop := ∀ b o, b ≠ dk → b ≠ lf → H b = some o → H' b = some o
theorem KD.refl {dk lf : Addr} {H : Hp} : KD dk lf H H := fun _ _ _ _ h => h
theorem KD.trans {dk lf : Addr} {H H1 H2 : Hp} (a : KD dk lf H H1) (b : KD dk lf H1 H2) : KD dk lf H H2 := fun c o n1 n2 h => b c o n1 n2 (a c o n1 n2 h)
theorem Dk.ts {K : PySem.W.Frag} {H H' : Hp} {dk cl lf : Addr} {B : Nat} (d : Dk H dk cl lf B) (k : KD dk lf H H') : TS K H H' := by
  obtain ⟨⟨cells, lefts, n, e1, e2, e3, _⟩, _⟩ := d
  refine ts_but (S := fun b => b = dk ∨ b = lf) (fun b z => ?_) fun b o n e => k b o (fun z => n (.inl z)) (fun z => n (.inr z)) e
  rcases z with rfl | rfl
  · exact ⟨_, e1⟩
  · exact ⟨_, e3⟩
theorem Dk.same {H H' : Hp} {dk cl lf : Addr} {B : Nat} (d : Dk H dk cl lf B) (s : Same H H') : Dk H' dk cl lf B := by
  obtain ⟨⟨cells, lefts, n, e1, e2, e3, r⟩, ne⟩ := d
  exact ⟨⟨cells, lefts, n, s _ _ e1, s _ _ e2, s _ _ e3, r⟩, ne⟩
theorem Dk.mono {H : Hp} {dk cl lf : Addr} {B C : Nat} (h : B ≤ C) (d : Dk H dk cl lf B) : Dk H dk cl lf C := by
  obtain ⟨⟨cells, lefts, n, e1, e2, e3, a, b, c, e, f⟩, ne⟩ := d
  exact ⟨⟨cells, lefts, n, e1, e2, e3, a, b, c, e, by omega⟩, ne⟩
theorem KD.of_same {dk lf : Addr} {H H' : Hp} (s : Same H H') : KD dk lf H H' := fun b o _ _ e => s b o e
theorem emod_bounds (a : Int) {m : Int} (h : 0 < m) : 0 ≤ a % m ∧ a % m < m := ⟨Int.emod_nonneg a (by omega), Int.emod_lt_of_pos a h⟩
theorem small64 {i : Int} {m : Int} (hm : m ≤ 2 ^ 40) (h0 : 0 ≤ i) (h1 : i ≤ m) : -(2 ^ 64) < i ∧ i < 2 ^ 64 := by omega
theorem atI_of {xs : List V} {j : Nat} {v : V} {i : Int} (e : i = (j : Int)) (h : xs[j]? = some v) : atI xs i = some v := by subst e; exact atI_nat h
theorem cut63 (xs : List V) (h : xs.length ≤ 63) : cutV xs none (some 63) = xs := by
  unfold cutV
  rw [HT.sIx_none, show HT.sIx xs.length xs.length (some 63) = min 63 xs.length from HT.sIx_nat xs.length xs.length 63, show min 63 xs.length = xs.length by omega]
  simp
theorem Dk.not {H : Hp} {dk cl lf D : Addr} {B : Nat} (d : Dk H dk cl lf B) (h : H D = none) : D ≠ dk ∧ D ≠ cl ∧ D ≠ lf := by
  obtain ⟨⟨_, _, _, e1, e2, e3, _⟩, _⟩ := d
  exact ⟨(ne_of_none e1 h).symm, (ne_of_none e2 h).symm, (ne_of_none e3 h).symm⟩
theorem Dk.upd {H : Hp} {dk cl lf D : Addr} {B : Nat} {o : HO} (d : Dk H dk cl lf B) (h : D ≠ dk ∧ D ≠ cl ∧ D ≠ lf) : Dk (L2.upd H D o) dk cl lf B := by
  obtain ⟨⟨cells, lefts, n, e1, e2, e3, r⟩, ne⟩ := d
  exact ⟨⟨cells, lefts, n, by rw [upd_ne h.1.symm]; exact e1, by rw [upd_ne h.2.1.symm]; exact e2, by rw [upd_ne h.2.2.symm]; exact e3, r⟩, ne⟩
theorem KD.upd {dk lf D : Addr} {H H1 H2 : Hp} {o : HO} (a : KD dk lf H H1) (b : KD dk lf H1 H2) (h : H1 D = none) : KD dk lf H (L2.upd H2 D o) := fun c u n1 n2 e => by
  rw [upd_ne (ne_of_none (a c u n1 n2 e) h)]
  exact b c u n1 n2 (a c u n1 n2 e)
/-! ### a callee -/
structure Cal (P : Program) (w : World) (K : PySem.W.Frag) (mg : Str → Option Value) (base : Heap) (x : Str) (ps : List Str) (k : Nat) (sp : Sp) : Prop where
  ex : ∃ (f : Addr) (fd : FuncData), FnOk P w K mg base CX0 k f fd ps sp ∧ mg x = some (.ref f) ∧ PySem.W.keepIn K (.ref f) = true ∧ Binds K fd ps []
theorem atI_of2 {α : Type} {xs : List α} {j : Nat} {v : α} {i : Int} (e : i = (j : Int)) (h : xs[j]? = some v) : atI xs i = some v := by subst e; exact atI_nat h
end K1
namespace K1
open PySem PySem.Spec PyProof.Rows L2
/-! ### types of written things -/
def tyN : PyData → String
  | .none => "NoneType"
  | .bool _ => "bool"
  | .int _ => "int"
  | .str _ => "str"
  | .tuple _ => "tuple"
  | .list _ => "list"
  | .dict _ => "dict"
def isT : PyData → Bool
  | .tuple _ => true
  | _ => false
def isB : PyData → Bool
  | .bool _ => true
  | _ => false
def isI : PyData → Bool
  | .int _ => true
  | .bool _ => true
  | _ => false
def isS : PyData → Bool
  | .str _ => true
  | _ => false
theorem kT : ∀ d : PyData, kitB (tyN d) "tuple" = some (isT d)
  | .none => (by decide +kernel : kitB "NoneType" "tuple" = some false)
  | .bool _ => (by decide +kernel : kitB "bool" "tuple" = some false)
  | .int _ => (by decide +kernel : kitB "int" "tuple" = some false)
  | .str _ => (by decide +kernel : kitB "str" "tuple" = some false)
  | .tuple _ => (by decide +kernel : kitB "tuple" "tuple" = some true)
  | .list _ => (by decide +kernel : kitB "list" "tuple" = some false)
  | .dict _ => (by decide +kernel : kitB "dict" "tuple" = some false)
theorem kB : ∀ d : PyData, kitB (tyN d) "bool" = some (isB d)
  | .none => (by decide +kernel : kitB "NoneType" "bool" = some false)
  | .bool _ => (by decide +kernel : kitB "bool" "bool" = some true)
  | .int _ => (by decide +kernel : kitB "int" "bool" = some false)
  | .str _ => (by decide +kernel : kitB "str" "bool" = some false)
  | .tuple _ => (by decide +kernel : kitB "tuple" "bool" = some false)
  | .list _ => (by decide +kernel : kitB "list" "bool" = some false)
  | .dict _ => (by decide +kernel : kitB "dict" "bool" = some false)
theorem kI : ∀ d : PyData, kitB (tyN d) "int" = some (isI d)
  | .none => (by decide +kernel : kitB "NoneType" "int" = some false)
  | .bool _ => (by decide +kernel : kitB "bool" "int" = some true)
  | .int _ => (by decide +kernel : kitB "int" "int" = some true)
  | .str _ => (by decide +kernel : kitB "str" "int" = some false)
  | .tuple _ => (by decide +kernel : kitB "tuple" "int" = some false)
  | .list _ => (by decide +kernel : kitB "list" "int" = some false)
  | .dict _ => (by decide +kernel : kitB "dict" "int" = some false)
theorem kS : ∀ d : PyData, kitB (tyN d) "str" = some (isS d)
  | .none => (by decide +kernel : kitB "NoneType" "str" = some false)
  | .bool _ => (by decide +kernel : kitB "bool" "str" = some false)
  | .int _ => (by decide +kernel : kitB "int" "str" = some false)
  | .str _ => (by decide +kernel : kitB "str" "str" = some true)
  | .tuple _ => (by decide +kernel : kitB "tuple" "str" = some false)
  | .list _ => (by decide +kernel : kitB "list" "str" = some false)
  | .dict _ => (by decide +kernel : kitB "dict" "str" = some false)
theorem dp_ty {K : PySem.W.Frag} {H : Hp} {v : V} {d : PyData} (h : Dp K H v d) (p : pl d = true) : TyX K H v (.type (tyN d)) := by
  cases h with
  | non => exact .base .non
  | bl b => exact .base (.bl b)
  | int i => exact .base (.int i)
  | str x => exact .base (.str x)
  | lst hs ha => cases p
  | tup hs ha =>
    rcases hs with (hs | ⟨o, hs⟩) | ⟨o, its, n, h1, h2, _⟩
    · exact .base (.tup hs)
    · exact .fTuple hs
    · exact .kTuple h1 h2
end K1
namespace K1
open PySem PySem.Spec PyProof.Rows L2
theorem paired_len {α β : Type} {F : α → β → Prop} : ∀ {xs : List α} {ys : List β}, Paired F xs ys → xs.length = ys.length
  | _, _, .nil => rfl
  | _, _, .cons _ t => by simp [paired_len t]
theorem paired_last {α β : Type} {F : α → β → Prop} : ∀ {xs : List α} {ys : List β}, Paired F xs ys → xs ≠ [] → ∃ xs' x ys' y, xs = xs' ++ [x] ∧ ys = ys' ++ [y] ∧ Paired F xs' ys' ∧ F x y
  | _, _, .nil, h => absurd rfl h
  | _, _, .cons (l₁ := []) h .nil, _ => ⟨[], _, [], _, rfl, rfl, .nil, h⟩
  | _, _, .cons (l₁ := _ :: _) h (.cons h2 t), _ => by
    obtain ⟨xs', x, ys', y, e1, e2, r, f⟩ := paired_last (.cons h2 t) (by simp)
    exact ⟨_ :: xs', x, _ :: ys', y, by rw [e1]; rfl, by rw [e2]; rfl, .cons h r, f⟩
theorem paired_append {α β : Type} {F : α → β → Prop} : ∀ {xs xs' : List α} {ys ys' : List β}, Paired F xs ys → Paired F xs' ys' → Paired F (xs ++ xs') (ys ++ ys')
  | _, _, _, _, .nil, s => s
  | _, _, _, _, .cons h t, s => .cons h (paired_append t s)
theorem paired_of {α β : Type} {F : α → β → Prop} : ∀ {xs : List α} {ys : List β}, xs.length = ys.length → (∀ (i : Nat) (x : α) (y : β), xs[i]? = some x → ys[i]? = some y → F x y) → Paired F xs ys
  | [], [], _, _ => .nil
  | [], _ :: _, h, _ => by cases h
  | _ :: _, [], h, _ => by cases h
  | x :: xs, y :: ys, h, f => .cons (f 0 x y rfl rfl) (paired_of (Nat.succ.inj h) fun i a b ea eb => f (i + 1) a b (by simpa using ea) (by simpa using eb))
/-- what the last test of alike says -/
theorem flat_alike : ∀ (d e : PyData), pl d = true → pl e = true → (isT d && isT e) = false → (isB d = isB e ∧ PyData.eqv d e = true ↔ d = e) := by
  intro d e p1 p2 nt
  cases d <;> cases e <;> simp_all [isT, isB, PyData.eqv, pl]
open Classical in
/-- the answer -/
noncomputable def eqB (d e : PyData) : Bool := decide (d = e)
open Classical in
theorem eqB_true {d e : PyData} (h : d = e) : eqB d e = true := decide_eq_true h
open Classical in
theorem eqB_false {d e : PyData} (h : d ≠ e) : eqB d e = false := decide_eq_false h
theorem flat_min {d e : PyData} (p1 : pl d = true) (p2 : pl e = true) (nt : (isT d && isT e) = false) : min d.depth e.depth ≤ 64 := by
  cases d <;> cases e <;> simp_all [isT, PyData.depth, pl]
theorem pss_weak {X : Cx} {st : List Stmt} {t t' : L2.TS} (h : PSs X st t) (g : ∀ D σ H, t' D σ H → t D σ H) : PSs X st t' := ⟨fun pins s σ H D I hh => h.run pins s σ H D I (g D σ H hh)⟩
theorem non_iff {K : PySem.W.Frag} {H : Hp} {x : V} {d : PyData} (h : Dp K H x d) : x = .non ↔ d = .none := by
  cases h <;> simp
theorem flat_same : ∀ (d e : PyData), pl d = true → pl e = true → d ≠ .none → e ≠ .none → isB d = isB e → isT d = false → isT e = false → (PyData.eqv d e = true ↔ d = e) := by
  intro d e p1 p2 n1 n2 b t1 t2
  cases d <;> cases e <;> simp_all [isT, isB, PyData.eqv, pl]
theorem eqv_nil (xs : List PyData) : PyData.eqv (.list xs) (.list []) = xs.isEmpty := by
  cases xs <;> simp [PyData.eqv, PyData.eqvAll]
end K1
namespace K1
open PySem PySem.Spec PyProof.Rows L2
theorem emp_iff {α β : Type} {F : α → β → Prop} {xs : List α} {ys : List β} (h : Paired F xs ys) : xs.isEmpty = ys.isEmpty := by cases h <;> rfl
theorem dpAll_emp {K : PySem.W.Frag} {H : Hp} {xs : List V} {ys : List PyData} (h : DpAll K H xs ys) : xs.isEmpty = ys.isEmpty := by cases h <;> rfl
/-- a sum of two tuples, wherever it lies -/
theorem catA_any {K : PySem.W.Frag} {H : Hp} {a b : Addr} {xs ys : List V} {Q : VK} (ha : SqT K H a xs) (hb : SqT K H b ys) (hl : xs.length + ys.length ≤ sizeLine)
    (q : ∀ r H', Same H H' → SqT K H' r (xs ++ ys) → Q (.ref r) H') : rCatA K (.ref a) (.ref b) H Q := by
  refine ⟨a, b, xs, ys, rfl, rfl, ha, hb, hl, fun e => ?_, fun e1 e2 => ?_, fun e1 e2 p np => q p _ (same_upd np) (.inl (.inl upd_same))⟩
  · subst e; exact q b H (Same.refl _) hb
  · subst e2; exact q a H (Same.refl _) (by rw [List.append_nil]; exact ha)
end K1
namespace K1
open PySem PySem.Spec PyProof.Rows L2
theorem slA_any {K : PySem.W.Frag} {H : Hp} {a : Addr} {xs : List V} {lo hi : Option Int} {Q : VK} (ha : SqT K H a xs) (q : ∀ r H', Same H H' → SqT K H' r (cutV xs lo hi) → Q (.ref r) H') : rSlA K (.ref a) lo hi H Q := by
  refine ⟨a, xs, rfl, ha, fun hw => ?_, fun _ p np => q p _ (same_upd np) (.inl (.inl upd_same))⟩
  have e : cutV xs lo hi = xs := by
    unfold cutV
    rw [hw.1, hw.2]
    simp
  exact q a H (Same.refl _) (by rw [e]; exact ha)
theorem cut_take (xs : List V) (i : Nat) : cutV xs none (some (i : Int)) = xs.take i := by
  unfold cutV
  rw [HT.sIx_none, HT.sIx_nat]
  simp only [List.drop_zero, Nat.sub_zero]
  by_cases h : i ≤ xs.length
  · rw [show min i xs.length = i by omega]
  · rw [show min i xs.length = xs.length by omega, List.take_length, List.take_of_length_le (by omega)]
theorem cut_drop (xs : List V) (i : Nat) : cutV xs (some (i : Int)) none = xs.drop i := by
  unfold cutV
  rw [HT.sIx_none, HT.sIx_nat]
  by_cases h : i ≤ xs.length
  · rw [show min i xs.length = i by omega]
    rw [List.take_of_length_le (by rw [List.length_drop]; omega)]
  · rw [show min i xs.length = xs.length by omega, List.drop_of_length_le (by omega), List.drop_of_length_le (by omega)]
    simp
theorem eqv_nilT (xs : List PyData) : PyData.eqv (.tuple xs) (.tuple []) = xs.isEmpty := by
  cases xs <;> simp [PyData.eqv, PyData.eqvAll]
end K1
namespace K1
open PySem PySem.Spec PyProof.Rows L2
/-! ### a comprehension over zip of two tuples of one length -/
theorem lc_zipT {K : PySem.W.Frag} {a b : Addr} {xs ys : List V} {g : TG} {tt : TT} {te : TE} {vs : List Nat} {σ : L2.St} {H1 : Hp} {D : Addr} {Qd : Hp → Prop} (hl : xs.length = ys.length) (Pv : Nat → Hp → Prop) (h0 : Pv 0 (L2.upd H1 D (.lst [])))
    (hq : ∀ i H, i ≤ xs.length → Pv i H → SqT K H a xs ∧ SqT K H b ys)
    (hs : ∀ (i : Nat) (x y : V) (T : Addr) (H : Hp), xs[i]? = some x → ys[i]? = some y → Pv i H → H T = none → g (.ref T) (wipe σ vs) (L2.upd H T (.tup [x, y])) fun σ2 H2 => wipe σ2 vs = wipe σ vs ∧ tt σ2 H2 fun b H3 =>
      if b = true then te σ2 H3 fun y H4 => ∃ acc, H4 D = some (.lst acc) ∧ acc.length < sizeLine ∧ Pv (i + 1) (L2.upd H4 D (.lst (acc ++ [y]))) else Pv (i + 1) H3) (hd : ∀ H, Pv xs.length H → Qd H) :
    ∃ W : Nat → Nat → Hp → Prop, (∃ m, W 0 m (L2.upd H1 D (.lst []))) ∧ ∀ i m H, W i m H →
      ((RZ.ItzT K a b).stop i H ∧ Qd H) ∨ ((RZ.ItzT K a b).go i H ∧ ∃ Nx : Hp → Prop, (∀ H', Nx H' → ∃ m', m' < m ∧ W (i + 1) m' H') ∧ ∀ x H', (RZ.ItzT K a b).yld i H x H' → g x (wipe σ vs) H' fun σ2 H2 => wipe σ2 vs = wipe σ vs ∧ tt σ2 H2 fun b H3 =>
        if b = true then te σ2 H3 fun y H4 => ∃ acc, H4 D = some (.lst acc) ∧ acc.length < sizeLine ∧ Nx (L2.upd H4 D (.lst (acc ++ [y]))) else Nx H3) := by
  refine ⟨fun i m H => m = xs.length - i ∧ i ≤ xs.length ∧ Pv i H, ⟨xs.length, by simp, Nat.zero_le _, h0⟩, ?_⟩
  rintro i m H ⟨rfl, hi, p⟩
  obtain ⟨qx, qy⟩ := hq i H hi p
  by_cases hlt : i < xs.length
  · have hx : xs[i]? = some xs[i] := List.getElem?_eq_getElem hlt
    have hlt2 : i < ys.length := by omega
    have hy : ys[i]? = some ys[i] := List.getElem?_eq_getElem hlt2
    refine .inr ⟨⟨xs, ys, _, _, qx, qy, hx, hy⟩, Pv (i + 1), fun H' p' => ⟨xs.length - (i + 1), by omega, rfl, hlt, p'⟩, fun v H' y => ?_⟩
    obtain ⟨T, x', y', rfl, hT, rfl, f1, f2⟩ := y
    exact hs i x' y' T H (f1 xs qx) (f2 ys qy) p hT
  · have e : i = xs.length := by omega
    subst e
    exact .inl ⟨⟨xs, ys, qx, qy, Or.inl (Nat.le_refl _)⟩, hd H p⟩
end K1
namespace K3
/-! ### parts, laid one behind the other -/
abbrev Part := Int × Int
def AlOk (m : Int) : Prop := m = 1 ∨ m = 8 ∨ m = 16 ∨ m = 32 ∨ m = 64
def PtOk (p : Part) : Prop := 0 ≤ p.1 ∧ p.1 ≤ 4096 ∧ AlOk p.2
theorem AlOk.pos {m : Int} (h : AlOk m) : 0 < m ∧ m ≤ 64 := by
  rcases h with rfl | rfl | rfl | rfl | rfl <;> decide
def rup (e m : Int) : Int := (e + m - 1) / m * m
theorem rup_neg {e m : Int} (h : AlOk m) : -(-e / m) * m = rup e m := by
  unfold rup
  rcases h with rfl | rfl | rfl | rfl | rfl <;> omega
theorem rup_ge {e m : Int} (h : AlOk m) : e ≤ rup e m := by
  unfold rup
  rcases h with rfl | rfl | rfl | rfl | rfl <;> omega
theorem rup_lt {e m : Int} (h : AlOk m) : rup e m < e + m := by
  unfold rup
  rcases h with rfl | rfl | rfl | rfl | rfl <;> omega
theorem rup_mod {e m : Int} (h : AlOk m) : rup e m % m = 0 := by
  unfold rup
  rcases h with rfl | rfl | rfl | rfl | rfl <;> omega
theorem rup_mono {e f m : Int} (h : AlOk m) (hl : e ≤ f) : rup e m ≤ rup f m := by
  unfold rup
  rcases h with rfl | rfl | rfl | rfl | rfl <;> omega
theorem rup_fix {e m : Int} (h : AlOk m) (hz : e % m = 0) : rup e m = e := by
  unfold rup
  rcases h with rfl | rfl | rfl | rfl | rfl <;> omega
def lay (p : Part) (e : Int) : Int := if p.1 = 0 then e else rup e p.2 + p.1
def pt (ps : List Part) (n : Nat) : Part := ps.getD n (0, 1)
theorem pt_of {ps : List Part} {n : Nat} {p : Part} (h : ps[n]? = some p) : pt ps n = p := by
  unfold pt
  rw [List.getD_eq_getElem?_getD, h]
  rfl
theorem pt_ok {ps : List Part} (h : ∀ p ∈ ps, PtOk p) (n : Nat) : PtOk (pt ps n) := by
  by_cases hn : n < ps.length
  · rw [pt_of (List.getElem?_eq_getElem hn)]
    exact h _ (List.getElem_mem hn)
  · unfold pt
    rw [List.getD_eq_getElem?_getD, List.getElem?_eq_none (by omega)]
    exact ⟨by decide, by decide, .inl rfl⟩
def step (ps : List Part) (st : List Int × Int) (n : Nat) : List Int × Int :=
  if (pt ps n).1 = 0 then st else (st.1.set n (rup st.2 (pt ps n).2), rup st.2 (pt ps n).2 + (pt ps n).1)
def laidF (ps : List Part) (os : List Nat) : List Int × Int := os.foldl (step ps) (List.replicate ps.length 0, 0)
theorem step_end (ps : List Part) (st : List Int × Int) (n : Nat) : (step ps st n).2 = lay (pt ps n) st.2 := by
  unfold step lay
  by_cases h : (pt ps n).1 = 0
  · rw [if_pos h, if_pos h]
  · rw [if_neg h, if_neg h]
theorem step_len (ps : List Part) (st : List Int × Int) (n : Nat) : (step ps st n).1.length = st.1.length := by
  unfold step
  by_cases h : (pt ps n).1 = 0
  · rw [if_pos h]
  · rw [if_neg h]
    exact List.length_set
theorem laidF_len (ps : List Part) (os : List Nat) : (laidF ps os).1.length = ps.length := by
  have : ∀ (os : List Nat) (st : List Int × Int), (os.foldl (step ps) st).1.length = st.1.length := by
    intro os
    induction os with
    | nil => intro st; rfl
    | cons o os ih => intro st; rw [List.foldl_cons, ih, step_len]
  unfold laidF
  rw [this, List.length_replicate]
theorem laidF_snoc (ps : List Part) (os : List Nat) (n : Nat) : laidF ps (os ++ [n]) = step ps (laidF ps os) n := by
  unfold laidF
  rw [List.foldl_append]
  rfl
/-- what is laid so far -/
structure Laid (ps : List Part) (os : List Nat) (st : List Int × Int) : Prop where
  len : st.1.length = ps.length
  nn : 0 ≤ st.2
  zero : ∀ k, (pt ps k).1 = 0 → st.1.getD k 0 = 0
  off : ∀ k, k ∉ os → st.1.getD k 0 = 0
  low : ∀ k, 0 ≤ st.1.getD k 0
  al : ∀ k, st.1.getD k 0 % (pt ps k).2 = 0
  ends : ∀ k ∈ os, 0 < (pt ps k).1 → st.1.getD k 0 + (pt ps k).1 ≤ st.2
  apart : ∀ k ∈ os, ∀ j ∈ os, k ≠ j → 0 < (pt ps k).1 → 0 < (pt ps j).1 → st.1.getD k 0 + (pt ps k).1 ≤ st.1.getD j 0 ∨ st.1.getD j 0 + (pt ps j).1 ≤ st.1.getD k 0
  last : st.2 = 0 ∨ ∃ k ∈ os, 0 < (pt ps k).1 ∧ st.1.getD k 0 + (pt ps k).1 = st.2
theorem getD_set (xs : List Int) (n k : Nat) (v : Int) (hn : n < xs.length) : (xs.set n v).getD k 0 = if k = n then v else xs.getD k 0 := by
  rw [List.getD_eq_getElem?_getD, List.getD_eq_getElem?_getD, List.getElem?_set]
  by_cases h : n = k
  · subst h
    simp [hn]
  · have h' : ¬ k = n := fun z => h z.symm
    simp [h, h']
theorem laid_nil (ps : List Part) (hp : ∀ p ∈ ps, PtOk p) : Laid ps [] (laidF ps []) := by
  have z : ∀ k, (List.replicate ps.length (0 : Int)).getD k 0 = 0 := fun k => by
    rw [List.getD_eq_getElem?_getD, List.getElem?_replicate]
    split <;> rfl
  refine ⟨by simp [laidF], by simp [laidF], fun k _ => z k, fun k _ => z k, fun k => ?_, fun k => ?_, fun k h => (nomatch h), fun k h => (nomatch h), .inl rfl⟩
  · show 0 ≤ (List.replicate ps.length (0 : Int)).getD k 0
    rw [z]; exact Int.le_refl _
  · show (List.replicate ps.length (0 : Int)).getD k 0 % _ = 0
    rw [z]; simp
theorem laid_step {ps : List Part} (hp : ∀ p ∈ ps, PtOk p) {os : List Nat} {st : List Int × Int} (h : Laid ps os st) {n : Nat} (hn : n < ps.length) (hno : n ∉ os) : Laid ps (os ++ [n]) (step ps st n) := by
  have ok := pt_ok hp n
  by_cases hz : (pt ps n).1 = 0
  · have e : step ps st n = st := by unfold step; rw [if_pos hz]
    rw [e]
    refine ⟨h.len, h.nn, h.zero, fun k hk => h.off k fun z => hk (List.mem_append.mpr (.inl z)), h.low, h.al, fun k hk hs => ?_, fun k hk j hj ne hs hs' => ?_, ?_⟩
    · rcases List.mem_append.mp hk with hk | hk
      · exact h.ends k hk hs
      · rw [List.mem_singleton.mp hk, hz] at hs
        exact absurd hs (by decide)
    · rcases List.mem_append.mp hk with hk | hk
      · rcases List.mem_append.mp hj with hj | hj
        · exact h.apart k hk j hj ne hs hs'
        · rw [List.mem_singleton.mp hj, hz] at hs'
          exact absurd hs' (by decide)
      · rw [List.mem_singleton.mp hk, hz] at hs
        exact absurd hs (by decide)
    · rcases h.last with l | ⟨k, hk, l⟩
      · exact .inl l
      · exact .inr ⟨k, List.mem_append.mpr (.inl hk), l⟩
  · have e : step ps st n = (st.1.set n (rup st.2 (pt ps n).2), rup st.2 (pt ps n).2 + (pt ps n).1) := by unfold step; rw [if_neg hz]
    have hpos : 0 < (pt ps n).1 := by have := ok.1; omega
    have hg := rup_ge (e := st.2) ok.2.2
    have hm := rup_mod (e := st.2) ok.2.2
    have hl : n < st.1.length := by rw [h.len]; exact hn
    have nn := h.nn
    rw [e]
    refine ⟨by rw [List.length_set]; exact h.len, by show 0 ≤ rup st.2 (pt ps n).2 + (pt ps n).1; omega, fun k hk => ?_, fun k hk => ?_, fun k => ?_, fun k => ?_, fun k hk hs => ?_, fun k hk j hj ne hs hs' => ?_, ?_⟩
    · rw [getD_set _ _ _ _ hl]
      by_cases c : k = n
      · subst c; exact absurd hk hz
      · rw [if_neg c]; exact h.zero k hk
    · rw [getD_set _ _ _ _ hl]
      by_cases c : k = n
      · subst c; exact absurd (List.mem_append.mpr (.inr (List.mem_singleton.mpr rfl))) hk
      · rw [if_neg c]; exact h.off k fun z => hk (List.mem_append.mpr (.inl z))
    · rw [getD_set _ _ _ _ hl]
      by_cases c : k = n
      · rw [if_pos c]; omega
      · rw [if_neg c]; exact h.low k
    · rw [getD_set _ _ _ _ hl]
      by_cases c : k = n
      · rw [if_pos c, c]; exact hm
      · rw [if_neg c]; exact h.al k
    · show (st.1.set n _).getD k 0 + _ ≤ rup st.2 (pt ps n).2 + (pt ps n).1
      rw [getD_set _ _ _ _ hl]
      by_cases c : k = n
      · rw [if_pos c, c]; exact Int.le_refl _
      · rw [if_neg c]
        rcases List.mem_append.mp hk with hk | hk
        · have := h.ends k hk hs
          omega
        · exact absurd (List.mem_singleton.mp hk) c
    · rw [getD_set _ _ _ _ hl, getD_set _ _ _ _ hl]
      by_cases c : k = n
      · by_cases c' : j = n
        · exact absurd (c.trans c'.symm) ne
        · rw [if_pos c, if_neg c']
          rcases List.mem_append.mp hj with hj | hj
          · have := h.ends j hj hs'
            exact .inr (by omega)
          · exact absurd (List.mem_singleton.mp hj) c'
      · by_cases c' : j = n
        · rw [if_neg c, if_pos c']
          rcases List.mem_append.mp hk with hk | hk
          · have := h.ends k hk hs
            exact .inl (by omega)
          · exact absurd (List.mem_singleton.mp hk) c
        · rw [if_neg c, if_neg c']
          rcases List.mem_append.mp hk with hk | hk
          · rcases List.mem_append.mp hj with hj | hj
            · exact h.apart k hk j hj ne hs hs'
            · exact absurd (List.mem_singleton.mp hj) c'
          · exact absurd (List.mem_singleton.mp hk) c
    · refine .inr ⟨n, List.mem_append.mpr (.inr (List.mem_singleton.mpr rfl)), hpos, ?_⟩
      rw [getD_set _ _ _ _ hl, if_pos rfl]
theorem laid_all {ps : List Part} (hp : ∀ p ∈ ps, PtOk p) : ∀ (os : List Nat), os.Nodup → (∀ n ∈ os, n < ps.length) → Laid ps os (laidF ps os) := by
  intro os
  have : ∀ (m : Nat) (os : List Nat), os.length = m → os.Nodup → (∀ n ∈ os, n < ps.length) → Laid ps os (laidF ps os) := by
    intro m
    induction m with
    | zero =>
      intro os hl _ _
      rw [List.length_eq_zero_iff.mp hl]
      exact laid_nil ps hp
    | succ m ih =>
      intro os hl nd hb
      have hne : os ≠ [] := fun z => by rw [z] at hl; cases hl
      have es := List.dropLast_concat_getLast hne
      rw [← es] at nd hb ⊢
      have nd' := List.nodup_append.mp nd
      rw [laidF_snoc]
      refine laid_step hp (ih _ ?_ nd'.1 fun k hk => hb k (List.mem_append.mpr (.inl hk))) (hb _ (List.mem_append.mpr (.inr (List.mem_singleton.mpr rfl)))) fun z => ?_
      · rw [List.length_dropLast, hl]; rfl
      · exact nd'.2.2 _ z _ (List.mem_singleton.mpr rfl) rfl
  exact this os.length os rfl
theorem laid_bound {ps : List Part} (hp : ∀ p ∈ ps, PtOk p) : ∀ (os : List Nat), 0 ≤ (laidF ps os).2 ∧ (laidF ps os).2 ≤ 4160 * os.length := by
  intro os
  have : ∀ (os : List Nat) (st : List Int × Int) (b : Int), 0 ≤ st.2 → st.2 ≤ b → 0 ≤ (os.foldl (step ps) st).2 ∧ (os.foldl (step ps) st).2 ≤ b + 4160 * os.length := by
    intro os
    induction os with
    | nil => intro st b h0 h1; exact ⟨h0, by simpa using h1⟩
    | cons o os ih =>
      intro st b h0 h1
      rw [List.foldl_cons]
      have ok := pt_ok hp o
      have ha := ok.2.2.pos
      have hg := rup_ge (e := st.2) ok.2.2
      have hl := rup_lt (e := st.2) ok.2.2
      have hs : 0 ≤ (step ps st o).2 ∧ (step ps st o).2 ≤ b + 4160 := by
        rw [step_end]
        unfold lay
        have := ok.1
        have := ok.2.1
        by_cases hz : (pt ps o).1 = 0
        · rw [if_pos hz]; omega
        · rw [if_neg hz]; omega
      obtain ⟨a1, a2⟩ := ih _ (b + 4160) hs.1 hs.2
      refine ⟨a1, ?_⟩
      rw [List.length_cons]
      omega
  have := this os (List.replicate ps.length 0, 0) 0 (by simp) (by simp)
  refine ⟨this.1, ?_⟩
  have h2 := this.2
  unfold laidF
  omega
end K3
namespace K3
/-! ### beginnings, what is left, cuts -/
def leftN (n : Nat) (bs : List Nat) : List Nat := (List.range n).filter fun k => decide (k ∉ bs)
def szs (ps : List Part) (ks : List Nat) : Int := (ks.map fun k => (pt ps k).1).sum
def restS (ps : List Part) (bs : List Nat) : Int := szs ps (leftN ps.length bs)
def cutF (ps : List Part) (bs : List Nat) (bits : Int) : Bool := decide (bits ≤ (laidF ps bs).2 + restS ps bs)
theorem leftN_succ (n : Nat) (bs : List Nat) : leftN (n + 1) bs = if n ∉ bs then leftN n bs ++ [n] else leftN n bs := by
  unfold leftN
  rw [List.range_succ, List.filter_append]
  by_cases h : n ∈ bs
  · simp [h]
  · simp [h]
theorem mem_leftN {n k : Nat} {bs : List Nat} : k ∈ leftN n bs ↔ k < n ∧ k ∉ bs := by
  unfold leftN
  rw [List.mem_filter, List.mem_range, decide_eq_true_eq]
theorem leftN_len (n : Nat) (bs : List Nat) : (leftN n bs).length ≤ n := by
  unfold leftN
  exact Nat.le_trans (List.length_filter_le _ _) (by rw [List.length_range]; exact Nat.le_refl _)
theorem leftN_nodup (n : Nat) (bs : List Nat) : (leftN n bs).Nodup := List.nodup_range.filter _
/-- a beginning -/
def Beg (n : Nat) (bs : List Nat) : Prop := bs.Nodup ∧ ∀ k ∈ bs, k < n
theorem beg_nil (n : Nat) : Beg n [] := ⟨List.nodup_nil, fun _ h => nomatch h⟩
theorem beg_snoc {n k : Nat} {bs : List Nat} (h : Beg n bs) (hk : k ∈ leftN n bs) : Beg n (bs ++ [k]) := by
  obtain ⟨h1, h2⟩ := mem_leftN.mp hk
  refine ⟨List.nodup_append.mpr ⟨h.1, by simp, fun a ha b hb e => ?_⟩, fun j hj => ?_⟩
  · rw [List.mem_singleton.mp hb] at e
    rw [e] at ha
    exact h2 ha
  · rcases List.mem_append.mp hj with m | m
    · exact h.2 j m
    · rw [List.mem_singleton.mp m]; exact h1
theorem left_perm {n : Nat} {bs rest : List Nat} (h : (bs ++ rest).Perm (List.range n)) : rest.Perm (leftN n bs) := by
  have nd : (bs ++ rest).Nodup := h.nodup_iff.mpr List.nodup_range
  have dis := (List.nodup_append.mp nd).2.2
  have h1 := h.filter fun k => decide (k ∉ bs)
  rw [List.filter_append] at h1
  have e1 : bs.filter (fun k => decide (k ∉ bs)) = [] := List.filter_eq_nil_iff.mpr fun a ha => by simpa using ha
  have e2 : rest.filter (fun k => decide (k ∉ bs)) = rest := List.filter_eq_self.mpr fun a ha => by
    rw [decide_eq_true_eq]
    intro z
    exact dis a z a ha rfl
  rw [e1, e2, List.nil_append] at h1
  exact h1
theorem beg_of_perm {n : Nat} {bs rest : List Nat} (h : (bs ++ rest).Perm (List.range n)) : Beg n bs := by
  refine ⟨(List.nodup_append.mp (h.nodup_iff.mpr List.nodup_range)).1, fun k hk => ?_⟩
  exact List.mem_range.mp (h.mem_iff.mp (List.mem_append.mpr (.inl hk)))
theorem perm_of_beg {n : Nat} {bs : List Nat} (h : Beg n bs) : (bs ++ leftN n bs).Perm (List.range n) := by
  have key : ∀ (xs ys : List Nat), xs.Nodup → ys.Nodup → (∀ a, a ∈ xs ↔ a ∈ ys) → xs.Perm ys := by
    intro xs
    induction xs with
    | nil =>
      intro ys _ _ hm
      cases ys with
      | nil => exact List.Perm.refl _
      | cons y ys => exact absurd ((hm y).mpr List.mem_cons_self) (by simp)
    | cons x xs ih =>
      intro ys hx hy hm
      have mx : x ∈ ys := (hm x).mp List.mem_cons_self
      have p := List.perm_cons_erase mx
      have hx' := List.nodup_cons.mp hx
      have hy' : (x :: ys.erase x).Nodup := p.nodup_iff.mp hy
      have hy2 := List.nodup_cons.mp hy'
      refine List.Perm.trans ((ih (ys.erase x) hx'.2 hy2.2 fun a => ?_).cons x) p.symm
      constructor
      · intro ha
        have hne : a ≠ x := fun z => hx'.1 (z ▸ ha)
        exact (List.mem_cons.mp (p.mem_iff.mp ((hm a).mp (List.mem_cons_of_mem _ ha)))).resolve_left hne
      · intro ha
        have hne : a ≠ x := fun z => hy2.1 (z ▸ ha)
        exact (List.mem_cons.mp ((hm a).mpr (p.mem_iff.mpr (List.mem_cons_of_mem _ ha)))).resolve_left hne
  refine key _ _ (List.nodup_append.mpr ⟨h.1, leftN_nodup n bs, fun a ha b hb e => ?_⟩) List.nodup_range fun a => ?_
  · exact (mem_leftN.mp hb).2 (e ▸ ha)
  · rw [List.mem_append, mem_leftN, List.mem_range]
    constructor
    · rintro (m | m)
      · exact h.2 a m
      · exact m.1
    · intro hl
      by_cases m : a ∈ bs
      · exact .inl m
      · exact .inr ⟨hl, m⟩
theorem beg_len {n : Nat} {bs : List Nat} (h : Beg n bs) : bs.length + (leftN n bs).length = n := by
  have := (perm_of_beg h).length_eq
  rw [List.length_append, List.length_range] at this
  exact this
theorem end_ge {ps : List Part} (hp : ∀ p ∈ ps, PtOk p) : ∀ (rest bs : List Nat), (laidF ps bs).2 + szs ps rest ≤ (laidF ps (bs ++ rest)).2
  | [], bs => by simp [szs]
  | k :: rest, bs => by
    have ih := end_ge hp rest (bs ++ [k])
    rw [List.append_assoc] at ih
    have e : (laidF ps bs).2 + (pt ps k).1 ≤ (laidF ps (bs ++ [k])).2 := by
      rw [laidF_snoc, step_end]
      unfold lay
      have ok := pt_ok hp k
      have := rup_ge (e := (laidF ps bs).2) ok.2.2
      by_cases hz : (pt ps k).1 = 0
      · rw [if_pos hz]; omega
      · rw [if_neg hz]; omega
    have e2 : szs ps (k :: rest) = (pt ps k).1 + szs ps rest := by simp [szs]
    rw [e2]
    have e3 : (laidF ps (bs ++ ([k] ++ rest))).2 = (laidF ps (bs ++ k :: rest)).2 := rfl
    omega
theorem szs_perm {ps : List Part} {xs ys : List Nat} (h : xs.Perm ys) : szs ps xs = szs ps ys := by
  unfold szs
  have : ∀ {as bs : List Int}, as.Perm bs → as.sum = bs.sum := by
    intro as bs p
    induction p with
    | nil => rfl
    | cons x _ ih => simp [ih]
    | swap x y l => simp; omega
    | trans _ _ a b => exact a.trans b
  exact this (h.map _)
theorem cut_ge {ps : List Part} (hp : ∀ p ∈ ps, PtOk p) {bs rest : List Nat} {bits : Int} (hc : cutF ps bs bits = true) (h : (bs ++ rest).Perm (List.range ps.length)) : bits ≤ (laidF ps (bs ++ rest)).2 := by
  have h1 := of_decide_eq_true hc
  have h2 := end_ge hp rest bs
  rw [szs_perm (left_perm h)] at h2
  unfold restS at h1
  omega
/-- no order has fewer bits -/
def Least (ps : List Part) (bits : Int) : Prop := ∀ o : List Nat, o.Perm (List.range ps.length) → bits ≤ (laidF ps o).2
theorem full_cut {ps : List Part} {bs : List Nat} {bits : Int} (hb : Beg ps.length bs) (h0 : leftN ps.length bs = []) (hl : Least ps bits) : cutF ps bs bits = true := by
  have hp := perm_of_beg hb
  rw [h0, List.append_nil] at hp
  have := hl bs hp
  refine decide_eq_true ?_
  unfold restS
  rw [h0]
  simp [szs]
  omega
/-! ### how many beginnings there are -/
def cnt : Nat → Nat
  | 0 => 1
  | r + 1 => 1 + (r + 1) * cnt r
theorem cnt_pos (r : Nat) : 1 ≤ cnt r := by
  cases r with
  | zero => exact Nat.le_refl _
  | succ r => unfold cnt; omega
theorem cnt_mono {r q : Nat} (h : r ≤ q) : cnt r ≤ cnt q := by
  induction h with
  | refl => exact Nat.le_refl _
  | step h ih =>
    rename_i m
    refine Nat.le_trans ih ?_
    show cnt m ≤ 1 + (m + 1) * cnt m
    have : cnt m ≤ (m + 1) * cnt m := Nat.le_mul_of_pos_left _ (by omega)
    omega
def wt (n : Nat) (ss : List (List Nat)) : Nat := (ss.map fun s => cnt (n - s.length)).sum
theorem wt_append (n : Nat) (xs ys : List (List Nat)) : wt n (xs ++ ys) = wt n xs + wt n ys := by
  unfold wt
  rw [List.map_append, List.sum_append]
theorem wt_len (n : Nat) : ∀ ss : List (List Nat), ss.length ≤ wt n ss
  | [] => Nat.le_refl _
  | s :: ss => by
    have h1 := cnt_pos (n - s.length)
    have h2 := wt_len n ss
    simp only [wt, List.map_cons, List.sum_cons, List.length_cons] at h2 ⊢
    omega
theorem wt_kids (n : Nat) (bs : List Nat) : ∀ ks : List Nat, wt n (ks.map fun k => bs ++ [k]) = ks.length * cnt (n - (bs.length + 1))
  | [] => by simp [wt]
  | k :: ks => by
    have h := wt_kids n bs ks
    simp only [wt, List.map_cons, List.sum_cons, List.length_cons, List.length_append, List.length_nil] at h ⊢
    rw [h, Nat.succ_mul, Nat.zero_add]
    omega
theorem wt_rev (n : Nat) (ss : List (List Nat)) : wt n ss.reverse = wt n ss := by
  unfold wt
  rw [List.map_reverse]
  exact (List.reverse_perm _).sum_nat
/-- what the search has ahead of it -/
structure Seek (ps : List Part) (ss : List (List Nat)) (best : List Nat) : Prop where
  ord : best.Perm (List.range ps.length)
  beg : ∀ s ∈ ss, Beg ps.length s
  cov : ∀ o : List Nat, o.Perm (List.range ps.length) → (laidF ps best).2 ≤ (laidF ps o).2 ∨ ∃ s ∈ ss, ∃ rest, o = s ++ rest
theorem seek_start (ps : List Part) : Seek ps [[]] (List.range ps.length) :=
  ⟨List.Perm.refl _, fun s hs => by rw [List.mem_singleton.mp hs]; exact beg_nil _, fun o _ => .inr ⟨[], List.mem_singleton.mpr rfl, o, rfl⟩⟩
theorem seek_end {ps : List Part} {best : List Nat} (h : Seek ps [] best) : Least ps (laidF ps best).2 := fun o ho => by
  rcases h.cov o ho with c | ⟨s, hs, _⟩
  · exact c
  · exact nomatch hs
theorem seek_cut {ps : List Part} (hp : ∀ p ∈ ps, PtOk p) {ss : List (List Nat)} {best s : List Nat} (h : Seek ps (ss ++ [s]) best) (hc : cutF ps s (laidF ps best).2 = true) : Seek ps ss best := by
  refine ⟨h.ord, fun x hx => h.beg x (List.mem_append.mpr (.inl hx)), fun o ho => ?_⟩
  rcases h.cov o ho with c | ⟨x, hx, rest, e⟩
  · exact .inl c
  · rcases List.mem_append.mp hx with m | m
    · exact .inr ⟨x, m, rest, e⟩
    · rw [List.mem_singleton.mp m] at e
      subst e
      exact .inl (cut_ge hp hc ho)
theorem seek_go {ps : List Part} {ss : List (List Nat)} {best s : List Nat} (h : Seek ps (ss ++ [s]) best) (hl : s.length ≠ ps.length) :
    Seek ps (ss ++ ((leftN ps.length s).reverse.map fun k => s ++ [k])) best := by
  have hb := h.beg s (List.mem_append.mpr (.inr (List.mem_singleton.mpr rfl)))
  refine ⟨h.ord, fun x hx => ?_, fun o ho => ?_⟩
  · rcases List.mem_append.mp hx with m | m
    · exact h.beg x (List.mem_append.mpr (.inl m))
    · obtain ⟨k, hk, rfl⟩ := List.mem_map.mp m
      exact beg_snoc hb (List.mem_reverse.mp hk)
  · rcases h.cov o ho with c | ⟨x, hx, rest, e⟩
    · exact .inl c
    · refine .inr ?_
      rcases List.mem_append.mp hx with m | m
      · exact ⟨x, List.mem_append.mpr (.inl m), rest, e⟩
      · rw [List.mem_singleton.mp m] at e
        cases rest with
        | nil =>
          rw [List.append_nil] at e
          rw [e] at ho
          have := ho.length_eq
          rw [List.length_range] at this
          exact absurd this hl
        | cons k rest =>
          refine ⟨s ++ [k], List.mem_append.mpr (.inr (List.mem_map.mpr ⟨k, List.mem_reverse.mpr ?_, rfl⟩)), rest, by rw [e, List.append_assoc]; rfl⟩
          rw [e] at ho
          exact (left_perm ho).mem_iff.mp List.mem_cons_self
theorem seek_best {ps : List Part} {ss : List (List Nat)} {best s : List Nat} (h : Seek ps (ss ++ [s]) best) (hn : cutF ps s (laidF ps best).2 ≠ true) (hl : s.length = ps.length) : leftN ps.length s = [] ∧ Seek ps ss s := by
  have hb := h.beg s (List.mem_append.mpr (.inr (List.mem_singleton.mpr rfl)))
  have h0 : leftN ps.length s = [] := List.length_eq_zero_iff.mp (by have := beg_len hb; omega)
  have hp := perm_of_beg hb
  rw [h0, List.append_nil] at hp
  refine ⟨h0, hp, fun x hx => h.beg x (List.mem_append.mpr (.inl hx)), fun o ho => ?_⟩
  have lt : (laidF ps s).2 < (laidF ps best).2 := by
    have : ¬ (laidF ps best).2 ≤ (laidF ps s).2 + restS ps s := fun z => hn (decide_eq_true z)
    unfold restS at this
    rw [h0] at this
    simp [szs] at this
    omega
  rcases h.cov o ho with c | ⟨x, hx, rest, e⟩
  · exact .inl (by omega)
  · rcases List.mem_append.mp hx with m | m
    · exact .inr ⟨x, m, rest, e⟩
    · rw [List.mem_singleton.mp m] at e
      rw [e] at ho
      have hr := (left_perm ho)
      rw [h0] at hr
      rw [hr.eq_nil, List.append_nil] at e
      rw [e]
      exact .inl (Int.le_refl _)
end K3
namespace K3
open PySem PySem.Spec PyProof.Rows L2 K1
/-! ### trees at beginnings -/
mutual
def wrT (ps : List Part) (bits : Int) : PyData → List Nat → Option (List Nat)
  | .tuple ts, b => if ts.isEmpty = true then (if cutF ps b bits = true then none else some b) else if ts.length = (leftN ps.length b).length then wrA ps bits ts (leftN ps.length b) b else some b
  | .none, b => some b
  | .bool _, b => some b
  | .int _, b => some b
  | .str _, b => some b
  | .list _, b => some b
  | .dict _, b => some b
def wrA (ps : List Part) (bits : Int) : List PyData → List Nat → List Nat → Option (List Nat)
  | [], _, _ => none
  | t :: ts, ks, b => match ks with
    | [] => none
    | k :: ks => match wrT ps bits t (b ++ [k]) with
      | some x => some x
      | none => wrA ps bits ts ks b
end
theorem wrT_leaf (ps : List Part) (bits : Int) {d : PyData} (h : isT d = false) (b : List Nat) : wrT ps bits d b = some b := by
  cases d <;> first | rfl | cases h
theorem wrT_tuple (ps : List Part) (bits : Int) (ts : List PyData) (b : List Nat) : wrT ps bits (.tuple ts) b = if ts.isEmpty = true then (if cutF ps b bits = true then none else some b) else if ts.length = (leftN ps.length b).length then wrA ps bits ts (leftN ps.length b) b else some b := by
  rw [wrT]
def stW (ps : List Part) (bits : Int) : List (List Nat × PyData) → Option (List Nat)
  | [] => none
  | e :: es => match wrT ps bits e.2 e.1 with
    | some x => some x
    | none => stW ps bits es
theorem stW_append (ps : List Part) (bits : Int) : ∀ xs ys, stW ps bits (xs ++ ys) = match stW ps bits xs with
    | some x => some x
    | none => stW ps bits ys
  | [], ys => rfl
  | e :: xs, ys => by
    show (match wrT ps bits e.2 e.1 with | some x => some x | none => stW ps bits (xs ++ ys)) = match (match wrT ps bits e.2 e.1 with | some x => some x | none => stW ps bits xs) with | some x => some x | none => stW ps bits ys
    cases wrT ps bits e.2 e.1 with
    | some x => rfl
    | none => exact stW_append ps bits xs ys
theorem stW_rows (ps : List Part) (bits : Int) (b : List Nat) : ∀ (ts : List PyData) (ks : List Nat), stW ps bits ((ks.zip ts).map fun (p : Nat × PyData) => (b ++ [p.1], p.2)) = wrA ps bits ts ks b
  | [], ks => by
    rw [List.zip_nil_right]
    simp [stW, wrA]
  | t :: ts, [] => by simp [stW, wrA]
  | t :: ts, k :: ks => by
    have ih := stW_rows ps bits b ts ks
    show (match wrT ps bits t (b ++ [k]) with | some x => some x | none => stW ps bits ((ks.zip ts).map fun (p : Nat × PyData) => (b ++ [p.1], p.2))) = _
    rw [ih, wrA]
mutual
theorem wr_least {ps : List Part} (hp : ∀ p ∈ ps, PtOk p) {bits : Int} : ∀ (d : PyData) (b : List Nat), wrT ps bits d b = none → ∀ rest, (b ++ rest).Perm (List.range ps.length) → bits ≤ (laidF ps (b ++ rest)).2
  | .tuple ts, b, h, rest, ho => by
    rw [wrT_tuple] at h
    by_cases he : ts.isEmpty = true
    · rw [if_pos he] at h
      by_cases hc : cutF ps b bits = true
      · exact cut_ge hp hc ho
      · rw [if_neg hc] at h; cases h
    · rw [if_neg he] at h
      by_cases hl : ts.length = (leftN ps.length b).length
      · rw [if_pos hl] at h
        have hr := left_perm ho
        cases rest with
        | nil =>
          have := hr.length_eq
          rw [← hl] at this
          cases ts with
          | nil => exact absurd rfl he
          | cons _ _ => simp at this
        | cons k rest =>
          have := wr_leastA hp ts (leftN ps.length b) b h hl k (hr.mem_iff.mp List.mem_cons_self) rest (by rw [List.append_assoc]; exact ho)
          rw [List.append_assoc] at this
          exact this
      · rw [if_neg hl] at h; cases h
  | .none, b, h, rest, ho => by cases h
  | .bool _, b, h, rest, ho => by cases h
  | .int _, b, h, rest, ho => by cases h
  | .str _, b, h, rest, ho => by cases h
  | .list _, b, h, rest, ho => by cases h
  | .dict _, b, h, rest, ho => by cases h
theorem wr_leastA {ps : List Part} (hp : ∀ p ∈ ps, PtOk p) {bits : Int} : ∀ (ts : List PyData) (ks b : List Nat), wrA ps bits ts ks b = none → ts.length = ks.length → ∀ k ∈ ks, ∀ rest, ((b ++ [k]) ++ rest).Perm (List.range ps.length) → bits ≤ (laidF ps ((b ++ [k]) ++ rest)).2
  | [], ks, b, h, hl, k, hk, rest, ho => by
    cases ks with
    | nil => exact nomatch hk
    | cons _ _ => simp at hl
  | t :: ts, ks, b, h, hl, k, hk, rest, ho => by
    cases ks with
    | nil => exact nomatch hk
    | cons k0 ks =>
      rw [wrA] at h
      cases e : wrT ps bits t (b ++ [k0]) with
      | some x => rw [e] at h; cases h
      | none =>
        rw [e] at h
        rcases List.mem_cons.mp hk with rfl | hk
        · exact wr_least hp t _ e rest ho
        · exact wr_leastA hp ts ks b h (by simpa using hl) k hk rest ho
end
theorem wr_min {ps : List Part} (hp : ∀ p ∈ ps, PtOk p) {bits : Int} {d : PyData} (h : wrT ps bits d [] = none) : Least ps bits := fun o ho => wr_least hp d [] h o ho
/-- the tree that is grown -/
def gr (ps : List Part) (bits : Int) : Nat → List Nat → PyData
  | 0, b => .tuple []
  | r + 1, b => if cutF ps b bits = true then .tuple [] else .tuple ((leftN ps.length b).map fun k => gr ps bits r (b ++ [k]))
theorem kid_left {n k : Nat} {b : List Nat} (hb : Beg n b) (hk : k ∈ leftN n b) {r : Nat} (hr : (leftN n b).length = r + 1) : (leftN n (b ++ [k])).length = r := by
  have h1 := beg_len hb
  have h2 := beg_len (beg_snoc hb hk)
  rw [List.length_append] at h2
  simp at h2
  omega
theorem wrA_all {ps : List Part} {bits : Int} {b : List Nat} (f : Nat → PyData) : ∀ ks : List Nat, (∀ k ∈ ks, wrT ps bits (f k) (b ++ [k]) = none) → wrA ps bits (ks.map f) ks b = none
  | [], _ => by simp [wrA]
  | k :: ks, h => by
    rw [List.map_cons, wrA, h k List.mem_cons_self]
    exact wrA_all f ks fun j hj => h j (List.mem_cons_of_mem _ hj)
theorem wr_gr {ps : List Part} {bits : Int} (hl : Least ps bits) : ∀ (r : Nat) (b : List Nat), Beg ps.length b → (leftN ps.length b).length = r → wrT ps bits (gr ps bits r b) b = none
  | 0, b, hb, hr => by
    have hc := full_cut hb (List.length_eq_zero_iff.mp hr) hl
    rw [gr, wrT_tuple, if_pos (show ([] : List PyData).isEmpty = true from rfl), if_pos hc]
  | r + 1, b, hb, hr => by
    rw [gr]
    by_cases hc : cutF ps b bits = true
    · rw [if_pos hc, wrT_tuple, if_pos (show ([] : List PyData).isEmpty = true from rfl), if_pos hc]
    · rw [if_neg hc, wrT_tuple]
      have ne : ¬ ((leftN ps.length b).map fun k => gr ps bits r (b ++ [k])).isEmpty = true := by
        cases e : leftN ps.length b with
        | nil => rw [e] at hr; simp at hr
        | cons _ _ => simp
      rw [if_neg ne, if_pos (by rw [List.length_map])]
      exact wrA_all _ _ fun k hk => wr_gr hl r (b ++ [k]) (beg_snoc hb hk) (kid_left hb hk hr)
theorem gr_pl (ps : List Part) (bits : Int) : ∀ (r : Nat) (b : List Nat), pl (gr ps bits r b) = true
  | 0, b => rfl
  | r + 1, b => by
    rw [gr]
    split
    · rfl
    · refine plA_of fun d hd => ?_
      obtain ⟨k, _, rfl⟩ := List.mem_map.mp hd
      exact gr_pl ps bits r _
theorem gr_sz (ps : List Part) (bits : Int) : ∀ (r : Nat) (b : List Nat), Beg ps.length b → (leftN ps.length b).length = r → sz (gr ps bits r b) ≤ cnt r
  | 0, b, _, _ => by rw [gr]; exact Nat.le_refl _
  | r + 1, b, hb, hr => by
    rw [gr]
    split
    · exact cnt_pos _
    · have h : szA ((leftN ps.length b).map fun k => gr ps bits r (b ++ [k])) ≤ ((leftN ps.length b).map fun k => gr ps bits r (b ++ [k])).length * cnt r := szA_le fun d hd => by
        obtain ⟨k, hk, rfl⟩ := List.mem_map.mp hd
        exact gr_sz ps bits r _ (beg_snoc hb hk) (kid_left hb hk hr)
      rw [List.length_map, hr] at h
      show szA _ + 1 ≤ 1 + (r + 1) * cnt r
      omega
theorem gr_depth (ps : List Part) (bits : Int) : ∀ (r : Nat) (b : List Nat), (gr ps bits r b).depth ≤ r + 1
  | 0, b => by rw [gr, depth_tuple]; simp [PyData.depthAll]
  | r + 1, b => by
    rw [gr]
    split
    · rw [depth_tuple]; simp [PyData.depthAll]
    · rw [depth_tuple]
      have : PyData.depthAll ((leftN ps.length b).map fun k => gr ps bits r (b ++ [k])) ≤ r + 1 := depthA_le fun d hd => by
        obtain ⟨k, hk, rfl⟩ := List.mem_map.mp hd
        exact gr_depth ps bits r _
      omega
end K3
namespace K3
/-! ### all orders, number by number -/
def lev (n : Nat) : Nat → List (List Nat)
  | 0 => [[]]
  | i + 1 => (lev n i).flatMap fun b => (leftN n b).map fun k => b ++ [k]
theorem lev_beg (n : Nat) : ∀ (i : Nat) (b : List Nat), b ∈ lev n i → Beg n b ∧ b.length = i
  | 0, b, h => by
    rw [List.mem_singleton.mp h]
    exact ⟨beg_nil n, rfl⟩
  | i + 1, b, h => by
    obtain ⟨c, hc, hb⟩ := List.mem_flatMap.mp h
    obtain ⟨k, hk, rfl⟩ := List.mem_map.mp hb
    obtain ⟨h1, h2⟩ := lev_beg n i c hc
    exact ⟨beg_snoc h1 hk, by rw [List.length_append, h2]; rfl⟩
theorem beg_front {n k : Nat} {b : List Nat} (h : Beg n (b ++ [k])) : Beg n b ∧ k ∈ leftN n b := by
  have nd := List.nodup_append.mp h.1
  refine ⟨⟨nd.1, fun j hj => h.2 j (List.mem_append.mpr (.inl hj))⟩, mem_leftN.mpr ⟨h.2 k (List.mem_append.mpr (.inr (List.mem_singleton.mpr rfl))), fun z => ?_⟩⟩
  exact nd.2.2 k z k (List.mem_singleton.mpr rfl) rfl
theorem lev_all (n : Nat) : ∀ (i : Nat) (b : List Nat), Beg n b → b.length = i → b ∈ lev n i
  | 0, b, _, hl => by
    rw [List.length_eq_zero_iff.mp hl]
    exact List.mem_singleton.mpr rfl
  | i + 1, b, hb, hl => by
    have hne : b ≠ [] := fun z => by rw [z] at hl; cases hl
    have es := List.dropLast_concat_getLast hne
    rw [← es] at hb ⊢
    obtain ⟨h1, h2⟩ := beg_front hb
    refine List.mem_flatMap.mpr ⟨b.dropLast, lev_all n i _ h1 (by rw [List.length_dropLast, hl]; rfl), List.mem_map.mpr ⟨_, h2, rfl⟩⟩
theorem lev_perm {n : Nat} {o : List Nat} : o ∈ lev n n ↔ o.Perm (List.range n) := by
  constructor
  · intro h
    obtain ⟨h1, h2⟩ := lev_beg n n o h
    have hl := beg_len h1
    have h0 : leftN n o = [] := List.length_eq_zero_iff.mp (by omega)
    have hp := perm_of_beg h1
    rw [h0, List.append_nil] at hp
    exact hp
  · intro h
    have h' : (o ++ []).Perm (List.range n) := by rw [List.append_nil]; exact h
    exact lev_all n n o (beg_of_perm h') (by rw [h.length_eq, List.length_range])
theorem flat_len {α β : Type} {f : α → List β} {m : Nat} : ∀ {l : List α}, (∀ x ∈ l, (f x).length ≤ m) → (l.flatMap f).length ≤ l.length * m
  | [], _ => by simp
  | x :: l, h => by
    have h1 := h x List.mem_cons_self
    have h2 := flat_len fun y hy => h y (List.mem_cons_of_mem _ hy)
    rw [List.flatMap_cons, List.length_append, List.length_cons, Nat.succ_mul]
    omega
theorem lev_len (n : Nat) : ∀ i : Nat, (lev n i).length ≤ n ^ i
  | 0 => Nat.le_refl _
  | i + 1 => by
    have h := flat_len (f := fun b => (leftN n b).map fun k => b ++ [k]) (m := n) (l := lev n i) fun b _ => by
      rw [List.length_map]
      exact leftN_len n b
    have h2 := Nat.mul_le_mul_right n (lev_len n i)
    rw [Nat.pow_succ]
    exact Nat.le_trans h h2
theorem lev_small {n i : Nat} (hn : n ≤ 5) (hi : i ≤ 5) : (lev n i).length ≤ 3125 := by
  refine Nat.le_trans (lev_len n i) ?_
  have h1 : n ^ i ≤ 5 ^ i := Nat.pow_le_pow_left hn i
  have h2 : 5 ^ i ≤ 5 ^ 5 := Nat.pow_le_pow_right (by decide) hi
  exact Nat.le_trans h1 h2
theorem lev_ne (n : Nat) : lev n n ≠ [] := fun z => by
  have : List.range n ∈ lev n n := lev_perm.mpr (List.Perm.refl _)
  rw [z] at this
  exact nomatch this
/-! ### parts of align 1 lie dense -/
def Dense (ps : List Part) : Prop := ∀ k, (pt ps k).2 = 1
theorem dense_lay {ps : List Part} (hd : Dense ps) (k : Nat) (e : Int) : lay (pt ps k) e = e + (pt ps k).1 := by
  unfold lay
  by_cases h : (pt ps k).1 = 0
  · rw [if_pos h, h]; omega
  · rw [if_neg h, hd k]
    unfold rup
    omega
theorem dense_end {ps : List Part} (hd : Dense ps) : ∀ (rest bs : List Nat), (laidF ps (bs ++ rest)).2 = (laidF ps bs).2 + szs ps rest
  | [], bs => by simp [szs]
  | k :: rest, bs => by
    have ih := dense_end hd rest (bs ++ [k])
    rw [List.append_assoc] at ih
    have e2 : szs ps (k :: rest) = (pt ps k).1 + szs ps rest := by simp [szs]
    have e3 : (laidF ps (bs ++ ([k] ++ rest))).2 = (laidF ps (bs ++ k :: rest)).2 := rfl
    rw [e2, ← e3, ih, laidF_snoc, step_end, dense_lay hd]
    omega
theorem dense_all {ps : List Part} (hd : Dense ps) (os : List Nat) : (laidF ps os).2 = szs ps os := by
  have := dense_end hd os []
  rw [List.nil_append] at this
  rw [this]
  show (0 : Int) + szs ps os = szs ps os
  omega
theorem dense_cut {ps : List Part} (hd : Dense ps) {bs : List Nat} (hb : Beg ps.length bs) : cutF ps bs (szs ps (List.range ps.length)) = true := by
  refine decide_eq_true ?_
  rw [dense_all hd]
  unfold restS
  have h := szs_perm (ps := ps) (perm_of_beg hb)
  have e : szs ps (bs ++ leftN ps.length bs) = szs ps bs + szs ps (leftN ps.length bs) := by
    unfold szs
    rw [List.map_append, List.sum_append]
  omega
theorem szs_range : ∀ ps : List Part, szs ps (List.range ps.length) = (ps.map (·.1)).sum := by
  intro ps
  have : (List.range ps.length).map (fun k => (pt ps k).1) = ps.map (·.1) := by
    refine List.ext_getElem? fun i => ?_
    rw [List.getElem?_map, List.getElem?_map]
    by_cases h : i < ps.length
    · rw [List.getElem?_range h, List.getElem?_eq_getElem h]
      show some (pt ps i).1 = some (ps[i]).1
      rw [pt_of (List.getElem?_eq_getElem h)]
    · rw [List.getElem?_eq_none (by rw [List.length_range]; omega), List.getElem?_eq_none (by omega)]
      rfl
  unfold szs
  rw [this]
end K3
namespace K3
/-! ### the first of the shortest orders -/
def ext (n : Nat) : Nat → List Nat → List (List Nat)
  | 0, b => [b]
  | r + 1, b => (leftN n b).flatMap fun k => ext n r (b ++ [k])
theorem flatMap_flat {α β γ : Type} (f : α → List β) (g : β → List γ) : ∀ l : List α, (l.flatMap f).flatMap g = l.flatMap fun x => (f x).flatMap g
  | [] => rfl
  | x :: l => by rw [List.flatMap_cons, List.flatMap_append, List.flatMap_cons, flatMap_flat f g l]
theorem flatMap_mapL {α β γ : Type} (f : α → β) (g : β → List γ) : ∀ l : List α, (l.map f).flatMap g = l.flatMap fun x => g (f x)
  | [] => rfl
  | x :: l => by rw [List.map_cons, List.flatMap_cons, List.flatMap_cons, flatMap_mapL f g l]
theorem flatMap_one {α : Type} : ∀ l : List α, (l.flatMap fun x => [x]) = l
  | [] => rfl
  | x :: l => by rw [List.flatMap_cons, flatMap_one l]; rfl
theorem lev_ext (n : Nat) : ∀ (r i : Nat), i + r = n → (lev n i).flatMap (ext n r) = lev n n
  | 0, i, h => by
    have : i = n := h
    subst this
    exact flatMap_one _
  | r + 1, i, h => by
    rw [← lev_ext n r (i + 1) (by omega)]
    show (lev n i).flatMap (ext n (r + 1)) = ((lev n i).flatMap fun b => (leftN n b).map fun k => b ++ [k]).flatMap (ext n r)
    rw [flatMap_flat]
    congr 1
    funext b
    rw [flatMap_mapL]
    rfl
theorem ext_all (n : Nat) : ext n n [] = lev n n := by
  have := lev_ext n n 0 (by omega)
  rw [← this]
  show ext n n [] = ([[]] : List (List Nat)).flatMap (ext n n)
  simp
theorem ext_mem {n : Nat} : ∀ (r : Nat) (b o : List Nat), Beg n b → b.length + r = n → o ∈ ext n r b → o.Perm (List.range n) ∧ ∃ rest, o = b ++ rest
  | 0, b, o, hb, hl, ho => by
    rw [List.mem_singleton.mp ho]
    have h0 : leftN n b = [] := List.length_eq_zero_iff.mp (by have := beg_len hb; omega)
    have hp := perm_of_beg hb
    rw [h0, List.append_nil] at hp
    exact ⟨hp, [], (List.append_nil _).symm⟩
  | r + 1, b, o, hb, hl, ho => by
    obtain ⟨k, hk, ho⟩ := List.mem_flatMap.mp ho
    obtain ⟨h1, rest, h2⟩ := ext_mem r (b ++ [k]) o (beg_snoc hb hk) (by rw [List.length_append]; simp; omega) ho
    exact ⟨h1, k :: rest, by rw [h2, List.append_assoc]; rfl⟩
theorem left_front {n i : Nat} (h : i < n) : ∃ rest, leftN n (List.range i) = i :: rest := by
  have e : List.range n = List.range i ++ (i :: (List.range (n - i - 1)).map fun x => i + 1 + x) := by
    have h1 : n = i + ((n - i - 1) + 1) := by omega
    conv => lhs; rw [h1, List.range_add]
    congr 1
    rw [List.range_succ_eq_map, List.map_cons, List.map_map]
    congr 1
    refine List.map_congr_left fun x _ => ?_
    show i + (x + 1) = i + 1 + x
    omega
  unfold leftN
  rw [e, List.filter_append]
  have e1 : (List.range i).filter (fun k => decide (k ∉ List.range i)) = [] := List.filter_eq_nil_iff.mpr fun a ha => by simpa using ha
  rw [e1, List.nil_append, List.filter_cons]
  have e2 : decide (i ∉ List.range i) = true := by simp
  rw [if_pos e2]
  exact ⟨_, rfl⟩
theorem ext_front {n : Nat} : ∀ (r i : Nat), i + r = n → ∃ rest, ext n r (List.range i) = List.range n :: rest
  | 0, i, h => ⟨[], by rw [← h]; rfl⟩
  | r + 1, i, h => by
    have hi : i < n := by omega
    obtain ⟨ks, e⟩ := left_front hi
    obtain ⟨rest, e2⟩ := ext_front (n := n) r (i + 1) (by omega)
    rw [List.range_succ] at e2
    refine ⟨rest ++ ks.flatMap fun k => ext n r (List.range i ++ [k]), ?_⟩
    rw [ext, e, List.flatMap_cons, e2]
    rfl
theorem lev_front (n : Nat) : ∃ rest, lev n n = List.range n :: rest := by
  rw [← ext_all]
  have := ext_front (n := n) n 0 (Nat.zero_add n)
  exact this
/-- the first one of the fewest bits -/
def FirstOf (ps : List Part) (best : List Nat) : Prop := ∃ pre post, lev ps.length ps.length = pre ++ best :: post ∧ ∀ o ∈ pre, (laidF ps best).2 < (laidF ps o).2
def remL (n : Nat) (ss : List (List Nat)) : List (List Nat) := ss.reverse.flatMap fun s => ext n (n - s.length) s
structure FSeek (ps : List Part) (ss : List (List Nat)) (best : List Nat) : Prop where
  base : Seek ps ss best
  first : FirstOf ps best
  done : ∃ dn, lev ps.length ps.length = dn ++ remL ps.length ss ∧ ∀ o ∈ dn, (laidF ps best).2 ≤ (laidF ps o).2
theorem fseek_start (ps : List Part) : FSeek ps [[]] (List.range ps.length) := by
  refine ⟨seek_start ps, ?_, [], ?_, fun _ h => nomatch h⟩
  · obtain ⟨rest, e⟩ := lev_front ps.length
    exact ⟨[], rest, e, fun _ h => nomatch h⟩
  · rw [List.nil_append, ← ext_all]
    simp [remL]
theorem remL_snoc (n : Nat) (ss : List (List Nat)) (s : List Nat) : remL n (ss ++ [s]) = ext n (n - s.length) s ++ remL n ss := by
  unfold remL
  rw [List.reverse_append]
  simp
theorem fseek_cut {ps : List Part} (hp : ∀ p ∈ ps, PtOk p) {ss : List (List Nat)} {best s : List Nat} (h : FSeek ps (ss ++ [s]) best) (hc : cutF ps s (laidF ps best).2 = true) : FSeek ps ss best := by
  have hb := h.base.beg s (List.mem_append.mpr (.inr (List.mem_singleton.mpr rfl)))
  obtain ⟨dn, e, hd⟩ := h.done
  refine ⟨seek_cut hp h.base hc, h.first, dn ++ ext ps.length (ps.length - s.length) s, ?_, fun o ho => ?_⟩
  · rw [e, remL_snoc, List.append_assoc]
  · rcases List.mem_append.mp ho with m | m
    · exact hd o m
    · obtain ⟨h1, rest, h2⟩ := ext_mem _ s o hb (by have := beg_len hb; omega) m
      subst h2
      exact cut_ge hp hc h1
theorem fseek_go {ps : List Part} {ss : List (List Nat)} {best s : List Nat} (h : FSeek ps (ss ++ [s]) best) (hl : s.length ≠ ps.length) :
    FSeek ps (ss ++ ((leftN ps.length s).reverse.map fun k => s ++ [k])) best := by
  have hb := h.base.beg s (List.mem_append.mpr (.inr (List.mem_singleton.mpr rfl)))
  have hbl := beg_len hb
  obtain ⟨dn, e, hd⟩ := h.done
  refine ⟨seek_go h.base hl, h.first, dn, ?_, hd⟩
  rw [e, remL_snoc]
  unfold remL
  rw [List.reverse_append, ← List.map_reverse, List.reverse_reverse, List.flatMap_append, flatMap_mapL]
  congr 2
  obtain ⟨r, hr⟩ : ∃ r, ps.length - s.length = r + 1 := ⟨ps.length - s.length - 1, by omega⟩
  rw [hr, ext]
  congr 1
  funext k
  have : ps.length - (s ++ [k]).length = r := by
    rw [List.length_append]
    simp
    omega
  rw [this]
theorem fseek_best {ps : List Part} {ss : List (List Nat)} {best s : List Nat} (h : FSeek ps (ss ++ [s]) best) (hn : cutF ps s (laidF ps best).2 ≠ true) (hl : s.length = ps.length) : leftN ps.length s = [] ∧ FSeek ps ss s := by
  obtain ⟨h0, hS⟩ := seek_best h.base hn hl
  obtain ⟨dn, e, hd⟩ := h.done
  have lt : (laidF ps s).2 < (laidF ps best).2 := by
    have : ¬ (laidF ps best).2 ≤ (laidF ps s).2 + restS ps s := fun z => hn (decide_eq_true z)
    unfold restS at this
    rw [h0] at this
    simp [szs] at this
    omega
  have ee : ext ps.length (ps.length - s.length) s = [s] := by
    have : ps.length - s.length = 0 := by omega
    rw [this]
    rfl
  rw [remL_snoc, ee] at e
  refine ⟨h0, hS, ⟨dn, remL ps.length ss, e, fun o ho => ?_⟩, dn ++ [s], by rw [e, List.append_assoc], fun o ho => ?_⟩
  · have := hd o ho
    omega
  · rcases List.mem_append.mp ho with m | m
    · have := hd o m
      omega
    · rw [List.mem_singleton.mp m]
      exact Int.le_refl _
end K3
/-! zip of a list and a tuple, walked by a for or a comprehension -/
namespace ZM
open PySem PySem.Spec PyProof.Rows L2 RZ
section
variable {prog : Program} {w : World} {A : Around} {E : Value → Shared → Prop} {s : Shared}
theorem draw_item {z TI TO i1 i2 l1 l2 : Addr} {k1 k2 : Nat} {xs ys : Array Value} {x y a b : Value} {Q : Value → Shared → Prop}
    (D : ZipApart z TI TO i1 i2 l1 l2) (zz : IsZip s.heap z TI TO .none) (ti : IsPair s.heap TI (.ref i1) (.ref i2)) (ot : IsPair s.heap TO a b)
    (u1 : s.heap.IsListIter i1 l1 k1) (u2 : s.heap.IsTupleIter i2 l2 k2) (t1 : s.heap.IsList l1 xs) (t2 : s.heap.IsTuple l2 ys) (gx : xs[k1]? = some x) (gy : ys[k2]? = some y)
    (q : ∀ g, IsZip g z TI TO (rawInt s.heap.objs.size) → IsPair g TO x y → g.IsListIter i1 l1 (k1 + 1) → g.IsTupleIter i2 l2 (k2 + 1) → IsPair g s.heap.objs.size x y → g.objs.size = s.heap.objs.size + 1 →
      (∀ c o, c ≠ z → c ≠ TO → c ≠ i1 → c ≠ i2 → s.heap.get? c = some o → g.get? c = some o) → Q (.ref s.heap.objs.size) { s with heap := g }) :
    wpAny (model prog w) A (Builtin.«zip.__next__» ⟨[.ref z], []⟩) (fun fin s' => ∃ v, fin = .done (.ret v) ∧ Q v s') E s := by
  show wpAny _ _ (field (.ref z) 2 >>= _) _ _ _; refine wpAny_bind (wpAny_field zz rfl (x := .bool false) rfl ?_)
  show wpAny _ _ (field (.ref z) 3 >>= _) _ _ _; refine wpAny_bind (wpAny_field zz rfl (x := .ref TI) rfl ?_)
  refine wpAny_bind (wpAny_seqItems ti rfl ?_)
  show wpAny _ _ (Builtin.SmallTypes.ownedTupleIsFree (.ref z) >>= _) _ _ _; refine wpAny_bind ?_
  unfold Builtin.SmallTypes.ownedTupleIsFree
  refine wpAny_bind (wpAny_field zz rfl (x := .none) rfl (wpAny_pure ?_))
  simp only [if_true]
  refine wpAny_bind (wpAny_rule (wpAny_bind (wpAny_field zz rfl (x := .ref TO) rfl (wpAny_bind (wpAny_setField_rec zz (by simp) fun g1 zz1 e1 => ?_)))))
  replace zz1 : IsZip g1 z TI TO .ellipsis := zz1
  refine wpAny_bind ?_
  simp only [List.zipIdx_cons, List.zipIdx_nil, List.forIn_cons, List.forIn_nil]
  refine wpAny_bind (wpAny_bind (wpAny_onRaise ?_)); show wpAny _ _ (Builtin.SmallTypes.nextOf (.ref i1) >>= _) _ _ _
  refine wpAny_bind (wpAny_nextOf_list_item (u1.extBut e1.extBut D.i1z) (t1.extBut e1.extBut D.l1z) gx fun g2 u12 e2 => wpAny_pure ?_)
  have ot2 : IsPair g2 TO a b := e2.extBut _ _ D.TOi1 (e1.extBut _ _ D.TOz ot)
  refine wpAny_bind (wpAny_seqItems ot2 rfl (wpAny_bind (wpAny_updateSeq_pair ot2 fun g3 ot3 e3 => ?_)))
  replace ot3 : IsPair g3 TO x b := ot3
  refine wpAny_bind (wpAny_letGo (wpAny_pure ?_))
  refine wpAny_bind (wpAny_bind (wpAny_onRaise ?_)); show wpAny _ _ (Builtin.SmallTypes.nextOf (.ref i2) >>= _) _ _ _
  refine wpAny_bind (nextOf_tuple_item (((u2.extBut e1.extBut D.i2z).extBut e2.extBut D.i12.symm).extBut e3.extBut D.TOi2.symm) (((t2.extBut e1.extBut D.l2z).extBut e2.extBut D.l2i1).extBut e3.extBut D.l2TO) gy fun g4 u24 e4 => wpAny_pure ?_)
  have ot4 : IsPair g4 TO x b := e4.extBut _ _ D.TOi2 ot3
  refine wpAny_bind (wpAny_seqItems ot4 rfl (wpAny_bind (wpAny_updateSeq_pair ot4 fun g5 ot5 e5 => ?_)))
  replace ot5 : IsPair g5 TO x y := ot5
  refine wpAny_bind (wpAny_letGo (wpAny_pure (wpAny_pure ?_)))
  refine wpAny_bind (wpAny_seqItems ot5 rfl (wpAny_bind (wpAny_newTuple ?_)))
  have es : g5.objs.size = s.heap.objs.size := by rw [e5.1, e4.1, e3.1, e2.1, e1.1]
  have zz5 : IsZip g5 z TI TO .ellipsis := e5.extBut _ _ D.TOz.symm (e4.extBut _ _ D.i2z.symm (e3.extBut _ _ D.TOz.symm (e2.extBut _ _ D.i1z.symm zz1)))
  have kk : ∀ c o, c ≠ z → c ≠ TO → c ≠ i1 → c ≠ i2 → s.heap.get? c = some o → g5.get? c = some o := fun c o c1 c2 c3 c4 e => e5.extBut _ _ c2 (e4.extBut _ _ c4 (e3.extBut _ _ c2 (e2.extBut _ _ c3 (e1.extBut _ _ c1 e))))
  have u15 : g5.IsListIter i1 l1 (k1 + 1) := ((u12.extBut e3.extBut D.TOi1.symm).extBut e4.extBut D.i12).extBut e5.extBut D.TOi1.symm
  have u25 : g5.IsTupleIter i2 l2 (k2 + 1) := u24.extBut e5.extBut D.TOi2.symm
  have zl : z < g5.objs.size := Heap.lt_size zz5
  show wpAny _ _ (Builtin.SmallTypes.ownedTupleHandOut (.ref z) (.ref g5.objs.size) >>= _) _ _ _; refine wpAny_bind ?_
  unfold Builtin.SmallTypes.ownedTupleHandOut
  have zz6 : IsZip (g5.push { cls := .type "tuple", data := .seq #[x, y] }) z TI TO .ellipsis := Heap.get?_push_of_some _ zz5
  refine wpAny_bind (wpAny_setField_rec zz6 (by simp) fun g7 zz7 e7 => ?_)
  replace zz7 : IsZip g7 z TI TO (rawInt g5.objs.size) := zz7
  refine wpAny_setField_rec zz7 (by simp) fun g8 zz8 e8 => ?_
  replace zz8 : IsZip g8 z TI TO (rawInt g5.objs.size) := zz8
  have up : ∀ c o, c ≠ z → g5.get? c = some o → g8.get? c = some o := fun c o c1 e => e8.extBut _ _ c1 (e7.extBut _ _ c1 (Heap.get?_push_of_some _ e))
  have pr : IsPair g8 g5.objs.size x y := e8.extBut _ _ (Nat.ne_of_gt zl) (e7.extBut _ _ (Nat.ne_of_gt zl) (Heap.get?_push_size _ rfl))
  have s8 : g8.objs.size = g5.objs.size + 1 := by rw [e8.1, e7.1, Heap.size_push]
  rw [es] at zz8 pr s8
  refine wpAny_pure ⟨_, rfl, ?_⟩
  show Q (.ref g5.objs.size) _
  rw [es]
  exact q g8 zz8 (up _ _ D.TOz ot5) (u15.at fun o e => up _ o D.i1z e) (u25.at fun o e => up _ o D.i2z e) pr s8 fun c o c1 c2 c3 c4 e => up c o c1 (kk c o c1 c2 c3 c4 e)
theorem draw_end {z TI TO i1 i2 l1 l2 : Addr} {k1 k2 : Nat} {xs ys : Array Value} {a b : Value} {Q : Fin → Shared → Prop} (hh : A.handled = none)
    (D : ZipApart z TI TO i1 i2 l1 l2) (zz : IsZip s.heap z TI TO .none) (ti : IsPair s.heap TI (.ref i1) (.ref i2)) (ot : IsPair s.heap TO a b)
    (u1 : s.heap.IsListIter i1 l1 k1) (u2 : s.heap.IsTupleIter i2 l2 k2) (t1 : s.heap.IsList l1 xs) (t2 : s.heap.IsTuple l2 ys) (he : xs[k1]? = none ∨ ys[k2]? = none)
    (q : ∀ g e, (∀ c o, c ≠ z → c ≠ TO → c ≠ i1 → c ≠ i2 → s.heap.get? c = some o → g.get? c = some o) → (∃ o, g.get? e = some o ∧ o.cls = .type "StopIteration") → E (.ref e) { s with heap := g }) :
    wpAny (model prog w) A (Builtin.«zip.__next__» ⟨[.ref z], []⟩) Q E s := by
  show wpAny _ _ (field (.ref z) 2 >>= _) _ _ _; refine wpAny_bind (wpAny_field zz rfl (x := .bool false) rfl ?_)
  show wpAny _ _ (field (.ref z) 3 >>= _) _ _ _; refine wpAny_bind (wpAny_field zz rfl (x := .ref TI) rfl ?_)
  refine wpAny_bind (wpAny_seqItems ti rfl ?_)
  show wpAny _ _ (Builtin.SmallTypes.ownedTupleIsFree (.ref z) >>= _) _ _ _; refine wpAny_bind ?_
  unfold Builtin.SmallTypes.ownedTupleIsFree
  refine wpAny_bind (wpAny_field zz rfl (x := .none) rfl (wpAny_pure ?_))
  simp only [if_true]
  refine wpAny_bind (wpAny_rule (wpAny_bind (wpAny_field zz rfl (x := .ref TO) rfl (wpAny_bind (wpAny_setField_rec zz (by simp) fun g1 zz1 e1 => ?_)))))
  replace zz1 : IsZip g1 z TI TO .ellipsis := zz1
  refine wpAny_bind ?_
  simp only [List.zipIdx_cons, List.zipIdx_nil, List.forIn_cons, List.forIn_nil]
  refine wpAny_bind (wpAny_bind (wpAny_onRaise ?_)); show wpAny _ _ (Builtin.SmallTypes.nextOf (.ref i1) >>= _) _ _ _
  cases gx : xs[k1]? with
  | none =>
    refine wpAny_bind (wpAny_nextOf_list_end hh (u1.extBut e1.extBut D.i1z) (t1.extBut e1.extBut D.l1z) gx fun g2 e e2 ⟨oe, ho, hc⟩ => ?_)
    have zz2 : IsZip g2 z TI TO .ellipsis := e2 _ _ D.i1z.symm zz1
    have nz : e ≠ z := fun x => by subst x; rw [zz2] at ho; cases ho; simp at hc
    exact wpAny_setField_rec zz2 (by simp) fun g3 _ e3 => q g3 e (fun c o c1 _ c3 _ x => e3.extBut _ _ c1 (e2 _ _ c3 (e1.extBut _ _ c1 x))) ⟨oe, e3.extBut _ _ nz ho, hc⟩
  | some x =>
    have gy : ys[k2]? = none := by
      rcases he with h | h
      · rw [gx] at h; cases h
      · exact h
    refine wpAny_bind (wpAny_nextOf_list_item (u1.extBut e1.extBut D.i1z) (t1.extBut e1.extBut D.l1z) gx fun g2 u12 e2 => wpAny_pure ?_)
    have ot2 : IsPair g2 TO a b := e2.extBut _ _ D.TOi1 (e1.extBut _ _ D.TOz ot)
    refine wpAny_bind (wpAny_seqItems ot2 rfl (wpAny_bind (wpAny_updateSeq_pair ot2 fun g3 ot3 e3 => ?_)))
    refine wpAny_bind (wpAny_letGo (wpAny_pure ?_))
    refine wpAny_bind (wpAny_bind (wpAny_onRaise ?_)); show wpAny _ _ (Builtin.SmallTypes.nextOf (.ref i2) >>= _) _ _ _
    refine wpAny_bind (nextOf_tuple_end hh (((u2.extBut e1.extBut D.i2z).extBut e2.extBut D.i12.symm).extBut e3.extBut D.TOi2.symm) (((t2.extBut e1.extBut D.l2z).extBut e2.extBut D.l2i1).extBut e3.extBut D.l2TO) gy fun g4 e e4 ⟨oe, ho, hc⟩ => ?_)
    have zz4 : IsZip g4 z TI TO .ellipsis := e4 _ _ D.i2z.symm (e3.extBut _ _ D.TOz.symm (e2.extBut _ _ D.i1z.symm zz1))
    have nz : e ≠ z := fun x => by subst x; rw [zz4] at ho; cases ho; simp at hc
    exact wpAny_setField_rec zz4 (by simp) fun g5 _ e5 => q g5 e (fun c o c1 c2 c3 c4 x => e5.extBut _ _ c1 (e4 _ _ c4 (e3.extBut _ _ c2 (e2.extBut _ _ c3 (e1.extBut _ _ c1 x))))) ⟨oe, e5.extBut _ _ nz ho, hc⟩
theorem next_item {z TI TO i1 i2 l1 l2 : Addr} {k1 k2 : Nat} {xs ys : Array Value} {x y a b : Value} {Q : Option Value → Shared → Prop}
    (D : ZipApart z TI TO i1 i2 l1 l2) (zz : IsZip s.heap z TI TO .none) (ti : IsPair s.heap TI (.ref i1) (.ref i2)) (ot : IsPair s.heap TO a b)
    (u1 : s.heap.IsListIter i1 l1 k1) (u2 : s.heap.IsTupleIter i2 l2 k2) (t1 : s.heap.IsList l1 xs) (t2 : s.heap.IsTuple l2 ys) (gx : xs[k1]? = some x) (gy : ys[k2]? = some y)
    (q : ∀ g, IsZip g z TI TO (rawInt s.heap.objs.size) → IsPair g TO x y → g.IsListIter i1 l1 (k1 + 1) → g.IsTupleIter i2 l2 (k2 + 1) → IsPair g s.heap.objs.size x y → g.objs.size = s.heap.objs.size + 1 →
      (∀ c o, c ≠ z → c ≠ TO → c ≠ i1 → c ≠ i2 → s.heap.get? c = some o → g.get? c = some o) → Q (some (.ref s.heap.objs.size)) { s with heap := g }) :
    wpAny (model prog w) A (pyNext (.ref z)) Q E s := by
  have hT : s.TypeIs (.ref z) "zip" := ⟨_, zz, rfl⟩
  unfold pyNext
  exact wpAny_bind (wpAny_attempt (wpAny_callSpecial?_slot (name := Str.ofString "__next__") hT F.slot_zip_next (wpAny_call_entry F.slot_zip_next hT F.entry_zip_next
    (draw_item D zz ti ot u1 u2 t1 t2 gx gy fun g a1 a2 a3 a4 a5 a6 a7 => wpAny_pure (q g a1 a2 a3 a4 a5 a6 a7)) (F.args_zip_next_1 _))))
theorem next_end {z TI TO i1 i2 l1 l2 : Addr} {k1 k2 : Nat} {xs ys : Array Value} {a b : Value} {Q : Option Value → Shared → Prop} (hh : A.handled = none)
    (D : ZipApart z TI TO i1 i2 l1 l2) (zz : IsZip s.heap z TI TO .none) (ti : IsPair s.heap TI (.ref i1) (.ref i2)) (ot : IsPair s.heap TO a b)
    (u1 : s.heap.IsListIter i1 l1 k1) (u2 : s.heap.IsTupleIter i2 l2 k2) (t1 : s.heap.IsList l1 xs) (t2 : s.heap.IsTuple l2 ys) (he : xs[k1]? = none ∨ ys[k2]? = none)
    (q : ∀ g, (∀ c o, c ≠ z → c ≠ TO → c ≠ i1 → c ≠ i2 → s.heap.get? c = some o → g.get? c = some o) → Q none { s with heap := g }) : wpAny (model prog w) A (pyNext (.ref z)) Q E s := by
  have hT : s.TypeIs (.ref z) "zip" := ⟨_, zz, rfl⟩
  unfold pyNext
  refine wpAny_bind (wpAny_attempt (wpAny_callSpecial?_slot (name := Str.ofString "__next__") hT F.slot_zip_next (wpAny_call_entry F.slot_zip_next hT F.entry_zip_next
    (draw_end hh D zz ti ot u1 u2 t1 t2 he fun g e k ⟨o, ho, hc⟩ => ?_) (F.args_zip_next_1 _))))
  refine wpAny_bind (wpAny_isInstance (T := "StopIteration") (b := true) ⟨o, ho, hc⟩ isSubtype_stop ?_)
  exact wpAny_pure (q _ k)
end
abbrev hp1 (h : Heap) (a : Addr) : Heap := h.push { cls := .type "list_iterator", data := .fields #[.ref a, .int 0 0] }
abbrev hp2 (h : Heap) (a b : Addr) : Heap := (hp1 h a).push { cls := .type "tuple_iterator", data := .fields #[.ref b, .int 0 0] }
abbrev hp3 (h : Heap) (a b : Addr) : Heap := (hp2 h a b).push { cls := .type "tuple", data := .seq #[.ref h.objs.size, .ref (hp1 h a).objs.size] }
abbrev hp4 (h : Heap) (a b : Addr) : Heap := (hp3 h a b).push { cls := .type "tuple", data := .seq #[.none, .none] }
abbrev hp5 (h : Heap) (a b : Addr) : Heap := (hp4 h a b).push { cls := .type "zip", data := .fields #[.none, .bool false, .bool false, .ref (hp2 h a b).objs.size, .ref (hp3 h a b).objs.size] }
theorem meets_new (a b : Addr) (xs ys : Array Value) :
    Meets (Builtin.«zip.__new__» ⟨[.type "zip", .ref a, .ref b], []⟩) (fun _ R s => s.heap.IsList a xs ∧ s.heap.IsTuple b ys ∧ R (.ok (.ret (.ref (hp4 s.heap a b).objs.size))) { s with heap := hp5 s.heap a b }) :=
  .of_wp fun prog w A R s h => by
    obtain ⟨hp, g, d, tk, os⟩ := s
    obtain ⟨ha, hb, h⟩ := h
    have hsub := sub_zip
    have hA : Heap.IsList (Shared.heap ⟨hp, g, d, tk, os⟩) a xs := ha
    have hB : Heap.IsTuple (Shared.heap ⟨hp.push { cls := .type "list_iterator", data := .fields #[.ref a, .int 0 0] }, g, d, tk, os⟩) b ys := Heap.IsTuple.push hb _
    wp_walk using wpAny_pyIter_list hA, wpAny_pyIter_tuple hB
    exact ⟨_, rfl, h⟩
section
variable {prog : Program} {w : World} {A : Around} {E : Value → Shared → Prop} {s : Shared}
theorem call_new {a b : Addr} {xs ys : Array Value} {Q : Value → Shared → Prop} (ha : s.heap.IsList a xs) (hb : s.heap.IsTuple b ys)
    (h : ∀ g, IsZip g (s.heap.objs.size + 4) (s.heap.objs.size + 2) (s.heap.objs.size + 3) .none → IsPair g (s.heap.objs.size + 2) (.ref s.heap.objs.size) (.ref (s.heap.objs.size + 1)) →
      IsPair g (s.heap.objs.size + 3) .none .none → g.IsListIter s.heap.objs.size a 0 → g.IsTupleIter (s.heap.objs.size + 1) b 0 → (∀ c o, s.heap.get? c = some o → g.get? c = some o) → Q (.ref (s.heap.objs.size + 4)) { s with heap := g }) :
    wpAny (model prog w) A (call (.type "zip") [.ref a, .ref b]) Q E s := by
  refine callType_new F.called_zip (by decide) (F.typeCall_zip_2 _ _) (F.newCall_zip_2 _ _) (fun obj => F.args_object_init_3 obj _ _) F.entry_zip_new (meets_new a b xs ys) ⟨ha, hb, ?_⟩
  have z1 : (hp1 s.heap a).objs.size = s.heap.objs.size + 1 := Heap.size_push ..
  have z2 : (hp2 s.heap a b).objs.size = s.heap.objs.size + 2 := by rw [Heap.size_push, z1]
  have z3 : (hp3 s.heap a b).objs.size = s.heap.objs.size + 3 := by rw [Heap.size_push, z2]
  have z4 : (hp4 s.heap a b).objs.size = s.heap.objs.size + 4 := by rw [Heap.size_push, z3]
  have g5 : (hp5 s.heap a b).get? (hp4 s.heap a b).objs.size = some _ := Heap.get?_push_size _ rfl
  have p4 : ∀ c o, (hp4 s.heap a b).get? c = some o → (hp5 s.heap a b).get? c = some o := fun c o e => Heap.get?_push_of_some _ e
  have p3 : ∀ c o, (hp3 s.heap a b).get? c = some o → (hp5 s.heap a b).get? c = some o := fun c o e => p4 _ _ (Heap.get?_push_of_some _ e)
  have p2 : ∀ c o, (hp2 s.heap a b).get? c = some o → (hp5 s.heap a b).get? c = some o := fun c o e => p3 _ _ (Heap.get?_push_of_some _ e)
  have p1 : ∀ c o, (hp1 s.heap a).get? c = some o → (hp5 s.heap a b).get? c = some o := fun c o e => p2 _ _ (Heap.get?_push_of_some _ e)
  have g4 : (hp5 s.heap a b).get? (hp3 s.heap a b).objs.size = some _ := p4 _ _ (Heap.get?_push_size _ rfl)
  have g3 : (hp5 s.heap a b).get? (hp2 s.heap a b).objs.size = some _ := p3 _ _ (Heap.get?_push_size _ rfl)
  have g2 : (hp5 s.heap a b).get? (hp1 s.heap a).objs.size = some _ := p2 _ _ (Heap.get?_push_size _ rfl)
  have g1 : (hp5 s.heap a b).get? s.heap.objs.size = some _ := p1 _ _ (Heap.get?_push_size _ rfl)
  show _ ∧ _
  rw [z2, z3, z4] at g5; rw [z1, z2] at g3; rw [z3] at g4; rw [z1] at g2; rw [z4]
  exact ⟨⟨_, g5, rfl⟩, h _ g5 g3 g4 ⟨_, g1, rfl, rfl⟩ ⟨_, g2, rfl, rfl⟩ fun c o x => p1 _ _ (Heap.get?_push_of_some _ x)⟩
end
/-- a list and a tuple as they stand at each turn, the items in new pairs -/
def ItM (K : PySem.W.Frag) (a b : Addr) : It :=
  ⟨fun i H => ∃ (xs ys : List V) (x y : V), SqL K H a xs ∧ SqT K H b ys ∧ xs[i]? = some x ∧ ys[i]? = some y,
    fun i H v H' => ∃ T x y, v = .ref T ∧ H T = none ∧ H' = upd H T (.tup [x, y]) ∧ (∀ xs, SqL K H a xs → xs[i]? = some x) ∧ ∀ ys, SqT K H b ys → ys[i]? = some y,
    fun i H => ∃ xs ys : List V, SqL K H a xs ∧ SqT K H b ys ∧ (xs.length ≤ i ∨ ys.length ≤ i)⟩
theorem five {z TI TO i1 i2 c : Addr} (h : c ∈ [z, TI, TO, i1, i2]) : c = z ∨ c = TI ∨ c = TO ∨ c = i1 ∨ c = i2 := by simpa using h
theorem turn_M {P : Program} {w : World} {K : PySem.W.Frag} {elts : List Expr} {kk : Nat} {tpos : Pos} {a b z TI TO i1 i2 : Addr} (D : ZipApart z TI TO i1 i2 a b) :
    Turn P w K (.Tuple elts kk tpos) (ItM K a b) [z, TI, TO, i1, i2] z (fun i h => IsZip h z TI TO .none ∧ IsPair h TI (.ref i1) (.ref i2) ∧ (∃ x y, IsPair h TO x y) ∧ h.IsListIter i1 a i ∧ h.IsTupleIter i2 b i) where
  mem := by simp
  obj := fun i h st c hc => by
    obtain ⟨hz, hTI, ⟨x, y, hTO⟩, ⟨o1, e1, _, d1⟩, ⟨o2, e2, _, d2⟩⟩ := st
    rcases five hc with q | q | q | q | q <;> rw [q]
    · exact ⟨_, hz, fun v q => nomatch q⟩
    · exact ⟨_, hTI, fun v q => nomatch q⟩
    · exact ⟨_, hTO, fun v q => nomatch q⟩
    · exact ⟨o1, e1, fun v q => by rw [d1] at q; cases q⟩
    · exact ⟨o2, e2, fun v q => by rw [d2] at q; cases q⟩
  keep := fun i h h' st k => by
    obtain ⟨hz, hTI, ⟨x, y, hTO⟩, h1, h2⟩ := st
    exact ⟨k z (by simp) _ hz, k TI (by simp) _ hTI, ⟨x, y, k TO (by simp) _ hTO⟩, h1.at fun o q => k i1 (by simp) o q, h2.at fun o q => k i2 (by simp) o q⟩
  item := by
    intro X hP hw hK hc i pins s σ H E I hf st hg
    subst hP hw hK
    obtain ⟨hz, hTI, ⟨x0, y0, hTO⟩, h1, h2⟩ := st
    obtain ⟨xs, ys, x, y, hqx, hqy, hx, hy⟩ := hg
    obtain ⟨its, rv, p, _⟩ := I.list hqx
    obtain ⟨its2, rv2, p2, _⟩ := I.tuple hqy
    obtain ⟨u, hu, ru⟩ := rv.get hx
    obtain ⟨u2, hu2, ru2⟩ := rv2.get hy
    have hzl : z < s.heap.objs.size := Heap.lt_size hz
    refine next_item D hz hTI hTO h1 h2 p.isList p2 (x := u) (y := u2) (by simpa using hu) (by simpa using hu2) fun g z' TO' h1' h2' hT hsz hk => ?_
    refine ⟨_, rfl, wpAny_letOwnedTupleGo_zip (s := { s with heap := g }) z' fun g2 z'' sb => ?_⟩
    have hT2 : g2.get? s.heap.objs.size = some { cls := .type "tuple", data := .seq #[u, u2] } := (sb.2 _ (Nat.ne_of_gt hzl)).trans hT
    have new : ObjOk X.prog X.w (upd H s.heap.objs.size (.tup [x, y])) g2 s.heap.objs.size (.tup [x, y]) :=
      ⟨by show 2 ≤ sizeLine; decide, [u, u2], .cons ru (.cons ru2 .nil), ⟨_, hT2, rfl, _, rfl⟩⟩
    have I1 : Inv X pins σ (upd H s.heap.objs.size (.tup [x, y])) { s with heap := g2 } :=
      I.turnedNew (t' := s.toks) (ch := [z, TI, TO, i1, i2]) (fun c o nb e => (sb.2 c (fun q' => nb (by simp [q']))).trans (hk c o (fun q' => nb (by simp [q'])) (fun q' => nb (by simp [q'])) (fun q' => nb (by simp [q'])) (fun q' => nb (by simp [q'])) e)) hf (Nat.le_refl _) new
    refine ⟨.ref s.heap.objs.size, _, I1, rfl, ⟨_, x, y, rfl, I.hok.fresh (Nat.le_refl _), rfl, fun l hl => by rw [I.list_inj hl hqx]; exact hx, fun l hl => by rw [I.tuple_inj hl hqy]; exact hy⟩, ⟨z'', ?_, ⟨u, u2, ?_⟩, ?_, ?_⟩, fun c hcm => ?_⟩
    · exact (sb.2 _ D.TIz).trans (hk _ _ D.TIz D.TITO D.TIi1 D.TIi2 hTI)
    · exact (sb.2 _ D.TOz).trans TO'
    · exact h1'.at fun o e => (sb.2 _ D.i1z).trans e
    · exact h2'.at fun o e => (sb.2 _ D.i2z).trans e
    · have hlt : c < s.heap.objs.size := by
        rcases five hcm with q | q | q | q | q <;> rw [q]
        · exact hzl
        · exact Heap.lt_size hTI
        · exact Heap.lt_size hTO
        · obtain ⟨_, e1, _⟩ := h1; exact Heap.lt_size e1
        · obtain ⟨_, e2, _⟩ := h2; exact Heap.lt_size e2
      rw [upd_ne (Nat.ne_of_lt hlt)]
      exact (hf c hcm).1
  done := by
    intro X hP hw hK hc i pins s σ H E I hf st hg
    subst hP hw hK
    obtain ⟨hz, hTI, ⟨x0, y0, hTO⟩, h1, h2⟩ := st
    obtain ⟨xs, ys, hqx, hqy, hend⟩ := hg
    obtain ⟨its, rv, p, _⟩ := I.list hqx
    obtain ⟨its2, rv2, p2, _⟩ := I.tuple hqy
    have l1 := rv.length
    have l2 := rv2.length
    have he : its.toArray[i]? = none ∨ its2.toArray[i]? = none := by
      rcases hend with q | q
      · exact .inl (by simp; omega)
      · exact .inr (by simp; omega)
    exact next_end (I.ok.hd hc) D hz hTI hTO h1 h2 p.isList p2 he fun g hk => ⟨rfl, I.turnedL (t' := s.toks) (ch := [z, TI, TO, i1, i2]) (fun c o nb e =>
      hk c o (fun q' => nb (by simp [q'])) (fun q' => nb (by simp [q'])) (fun q' => nb (by simp [q'])) (fun q' => nb (by simp [q'])) e) hf⟩
  self := fun A i s Q E st h => wpAny_pyIter_zip st.1 h
def iZipM (K : PySem.W.Frag) (ta : TA) : TI := fun σ H R => ta σ H fun vs H1 => ∃ a b xs ys, vs = [.ref a, .ref b] ∧ SqL K H1 a xs ∧ SqT K H1 b ys ∧ R (ItM K a b) H1
theorem pi_zipM {X : Cx} {e e2 : Expr} {ta : TA} {p pos tpos : Pos} {elts : List Expr} {kk : Nat} (hg : Gl X "zip") (hm : X.mg "zip" = none) (ha : PA X [e, e2] ta)
    (hs : starEach [e, e2] X.env = (false, eval e X.env) :: starEach [e2] X.env := by rfl) (hpl : (backTo pos (starEach [e2] X.env)).any (·.1) = false := by rfl) :
    PI X (.Tuple elts kk tpos) (.Call (.Name "zip" p) [e, e2] [] pos) (iZipM X.K ta) := by
  refine ⟨fun pins s σ H R I h => ?_⟩
  refine Call_ (ld_blt I hg hm PyProof.Rows.boot_zip (PyProof.Rows.callWith_type1 (thn (ha.run pos pins s σ H _ I h) fun us s1 ⟨vs, H1, I1, r1, q1⟩ => ?_) hs hpl))
  obtain ⟨a, b, xs, ys, rfl, hqx, hqy, q⟩ := q1
  cases r1 with
  | cons r rr =>
    cases rr with
    | cons r' rr =>
      cases rr
      cases r
      cases r'
      have fresh5 : ∀ c, c ∈ [s1.heap.objs.size + 4, s1.heap.objs.size + 2, s1.heap.objs.size + 3, s1.heap.objs.size, s1.heap.objs.size + 1] → FpOk X pins H1 c := fun c hcm => by
        have hle : s1.heap.objs.size ≤ c := by
          rcases five hcm with e | e | e | e | e <;> rw [e]
          · exact Nat.le_add_right _ _
          · exact Nat.le_add_right _ _
          · exact Nat.le_add_right _ _
          · exact Nat.le_refl _
          · exact Nat.le_add_right _ _
        exact I1.fpOk hle (I1.hok.fresh hle)
      obtain ⟨its, rv, p1, _⟩ := I1.list hqx
      obtain ⟨its2, rv2, p2, _⟩ := I1.tuple hqy
      obtain ⟨o2, ho2, _⟩ := id p2
      refine call_new p1.isList (show s1.heap.IsTuple b its2.toArray from p2) fun g hz hTI hTO h1 h2 hk => wpAny_pyIter_zip hz ?_
      have I2 : Inv X pins σ H1 { s1 with heap := g } := I1.kept (t' := s1.toks) hk
      exact ⟨s1.heap.objs.size + 4, [s1.heap.objs.size + 4, s1.heap.objs.size + 2, s1.heap.objs.size + 3, s1.heap.objs.size, s1.heap.objs.size + 1], _, _, H1, rfl, I2, turn_M (PySem.W.ktu_apart s1.heap.objs.size a b p1.lt (Heap.lt_size ho2)), ⟨hz, hTI, ⟨_, _, hTO⟩, h1, h2⟩, fresh5, q⟩
/-- a loop over it, as long as the shorter of both -/
theorem for_zipM {K : PySem.W.Frag} {a b : Addr} {xs ys : List V} {g : TG} {tb : TS} {D : Ends} {σ : L2.St} {H : Hp} (Pv : Nat → L2.St → Hp → Prop) (h0 : Pv 0 σ H) (hq : ∀ i σ H, Pv i σ H → SqL K H a xs ∧ SqT K H b ys)
    (hs : ∀ (i : Nat) (x y : V) (T : Addr) (σ : L2.St) (H : Hp), xs[i]? = some x → ys[i]? = some y → Pv i σ H → H T = none → g (.ref T) σ (upd H T (.tup [x, y])) fun σ2 H2 => tb { D with nx := Pv (i + 1), ct := Pv (i + 1), bk := D.nx } σ2 H2)
    (hd : ∀ σ H, Pv (min xs.length ys.length) σ H → D.nx σ H) :
    ∃ W : Nat → Nat → L2.St → Hp → Prop, (∃ m, W 0 m σ H) ∧ ∀ i m σ H, W i m σ H →
      ((ItM K a b).stop i H ∧ D.nx σ H) ∨ ((ItM K a b).go i H ∧ ∃ N : L2.St → Hp → Prop, (∀ σ' H', N σ' H' → ∃ m', m' < m ∧ W (i + 1) m' σ' H') ∧ ∀ v H', (ItM K a b).yld i H v H' → g v σ H' fun σ2 H2 => tb { D with nx := N, ct := N, bk := D.nx } σ2 H2) := by
  refine ⟨fun i m σ H => m = min xs.length ys.length - i ∧ i ≤ min xs.length ys.length ∧ Pv i σ H, ⟨min xs.length ys.length, rfl, Nat.zero_le _, h0⟩, ?_⟩
  rintro i m σ H ⟨rfl, hi, p⟩
  obtain ⟨qx, qy⟩ := hq i σ H p
  by_cases hlt : i < min xs.length ys.length
  · have hx : xs[i]? = some xs[i] := List.getElem?_eq_getElem (by omega)
    have hy : ys[i]? = some ys[i] := List.getElem?_eq_getElem (by omega)
    refine .inr ⟨⟨xs, ys, _, _, qx, qy, hx, hy⟩, Pv (i + 1), fun σ' H' p' => ⟨min xs.length ys.length - (i + 1), by omega, rfl, by omega, p'⟩, fun v H' y => ?_⟩
    obtain ⟨T, x', y', rfl, hT, rfl, f1, f2⟩ := y
    exact hs i x' y' T σ H (f1 xs qx) (f2 ys qy) p hT
  · have e : i = min xs.length ys.length := by omega
    subst e
    exact .inl ⟨⟨xs, ys, qx, qy, by omega⟩, hd σ H p⟩
theorem lc_zipM {K : PySem.W.Frag} {a b : Addr} {xs ys : List V} {g : TG} {tt : TT} {te : TE} {vs : List Nat} {σ : L2.St} {H1 : Hp} {D : Addr} {Qd : Hp → Prop} (Pv : Nat → Hp → Prop) (h0 : Pv 0 (upd H1 D (.lst [])))
    (hq : ∀ i H, Pv i H → SqL K H a xs ∧ SqT K H b ys)
    (hs : ∀ (i : Nat) (x y : V) (T : Addr) (H : Hp), xs[i]? = some x → ys[i]? = some y → Pv i H → H T = none → g (.ref T) (wipe σ vs) (upd H T (.tup [x, y])) fun σ2 H2 => wipe σ2 vs = wipe σ vs ∧ tt σ2 H2 fun b H3 =>
      if b = true then te σ2 H3 fun y H4 => ∃ acc, H4 D = some (.lst acc) ∧ acc.length < sizeLine ∧ Pv (i + 1) (upd H4 D (.lst (acc ++ [y]))) else Pv (i + 1) H3) (hd : ∀ H, Pv (min xs.length ys.length) H → Qd H) :
    ∃ W : Nat → Nat → Hp → Prop, (∃ m, W 0 m (upd H1 D (.lst []))) ∧ ∀ i m H, W i m H →
      ((ItM K a b).stop i H ∧ Qd H) ∨ ((ItM K a b).go i H ∧ ∃ Nx : Hp → Prop, (∀ H', Nx H' → ∃ m', m' < m ∧ W (i + 1) m' H') ∧ ∀ x H', (ItM K a b).yld i H x H' → g x (wipe σ vs) H' fun σ2 H2 => wipe σ2 vs = wipe σ vs ∧ tt σ2 H2 fun b H3 =>
        if b = true then te σ2 H3 fun y H4 => ∃ acc, H4 D = some (.lst acc) ∧ acc.length < sizeLine ∧ Nx (upd H4 D (.lst (acc ++ [y]))) else Nx H3) := by
  refine ⟨fun i m H => m = min xs.length ys.length - i ∧ i ≤ min xs.length ys.length ∧ Pv i H, ⟨min xs.length ys.length, by simp, Nat.zero_le _, h0⟩, ?_⟩
  rintro i m H ⟨rfl, hi, p⟩
  obtain ⟨qx, qy⟩ := hq i H p
  by_cases hlt : i < min xs.length ys.length
  · have hx : xs[i]? = some xs[i] := List.getElem?_eq_getElem (by omega)
    have hy : ys[i]? = some ys[i] := List.getElem?_eq_getElem (by omega)
    refine .inr ⟨⟨xs, ys, _, _, qx, qy, hx, hy⟩, Pv (i + 1), fun H' p' => ⟨min xs.length ys.length - (i + 1), by omega, rfl, by omega, p'⟩, fun v H' y => ?_⟩
    obtain ⟨T, x', y', rfl, hT, rfl, f1, f2⟩ := y
    exact hs i x' y' T H (f1 xs qx) (f2 ys qy) p hT
  · have e : i = min xs.length ys.length := by omega
    subst e
    exact .inl ⟨⟨xs, ys, qx, qy, by omega⟩, hd H p⟩
theorem lc_zipL {K : PySem.W.Frag} {a b : Addr} {xs ys : List V} {g : TG} {tt : TT} {te : TE} {vs : List Nat} {σ : L2.St} {H1 : Hp} {D : Addr} {Qd : Hp → Prop} (Pv : Nat → Hp → Prop) (h0 : Pv 0 (upd H1 D (.lst [])))
    (hq : ∀ i H, Pv i H → SqL K H a xs ∧ SqL K H b ys)
    (hs : ∀ (i : Nat) (x y : V) (T : Addr) (H : Hp), xs[i]? = some x → ys[i]? = some y → Pv i H → H T = none → g (.ref T) (wipe σ vs) (upd H T (.tup [x, y])) fun σ2 H2 => wipe σ2 vs = wipe σ vs ∧ tt σ2 H2 fun b H3 =>
      if b = true then te σ2 H3 fun y H4 => ∃ acc, H4 D = some (.lst acc) ∧ acc.length < sizeLine ∧ Pv (i + 1) (upd H4 D (.lst (acc ++ [y]))) else Pv (i + 1) H3) (hd : ∀ H, Pv (min xs.length ys.length) H → Qd H) :
    ∃ W : Nat → Nat → Hp → Prop, (∃ m, W 0 m (upd H1 D (.lst []))) ∧ ∀ i m H, W i m H →
      ((Itz K a b).stop i H ∧ Qd H) ∨ ((Itz K a b).go i H ∧ ∃ Nx : Hp → Prop, (∀ H', Nx H' → ∃ m', m' < m ∧ W (i + 1) m' H') ∧ ∀ x H', (Itz K a b).yld i H x H' → g x (wipe σ vs) H' fun σ2 H2 => wipe σ2 vs = wipe σ vs ∧ tt σ2 H2 fun b H3 =>
        if b = true then te σ2 H3 fun y H4 => ∃ acc, H4 D = some (.lst acc) ∧ acc.length < sizeLine ∧ Nx (upd H4 D (.lst (acc ++ [y]))) else Nx H3) := by
  refine ⟨fun i m H => m = min xs.length ys.length - i ∧ i ≤ min xs.length ys.length ∧ Pv i H, ⟨min xs.length ys.length, by simp, Nat.zero_le _, h0⟩, ?_⟩
  rintro i m H ⟨rfl, hi, p⟩
  obtain ⟨qx, qy⟩ := hq i H p
  by_cases hlt : i < min xs.length ys.length
  · have hx : xs[i]? = some xs[i] := List.getElem?_eq_getElem (by omega)
    have hy : ys[i]? = some ys[i] := List.getElem?_eq_getElem (by omega)
    refine .inr ⟨⟨xs, ys, _, _, qx, qy, hx, hy⟩, Pv (i + 1), fun H' p' => ⟨min xs.length ys.length - (i + 1), by omega, rfl, by omega, p'⟩, fun v H' y => ?_⟩
    obtain ⟨T, x', y', rfl, hT, rfl, f1, f2⟩ := y
    exact hs i x' y' T H (f1 xs qx) (f2 ys qy) p hT
  · have e : i = min xs.length ys.length := by omega
    subst e
    exact .inl ⟨⟨xs, ys, qx, qy, by omega⟩, hd H p⟩
end ZM
/-! sorted(t) of a tuple of whole numbers -/
namespace ST
open PySem PySem.Spec PyProof.Rows L2 Srt SrtO
section
variable {prog : Program} {w : World} {A : Around} {E : Value → Shared → Prop} {s : Shared}
abbrev grownH (h : Heap) (vs : List Value) : Heap := (h.push (seqObj "list" #[] 0)).update h.objs.size (Obj.mapSeq (· ++ vs.toArray))
theorem collect_tup {l : Addr} {vs : List Value} {Q : List Value → Shared → Prop} (hl : s.heap.IsTuple l vs.toArray) (hsz : vs.length ≤ sizeLine) (h : Q vs { s with heap := grownH s.heap vs }) :
    wpAny (model prog w) A (collect (.ref l)) Q E s := by
  obtain ⟨o, ho, hc, n, hd⟩ := id hl
  unfold collect
  refine wpAny_bind (wpAny_runValue (codeAny_builtin entry_proto_collect' ?_))
  show wpAny _ _ (do again (.builtin "list.__iadd__" ⟨[← newList [], .ref l], []⟩)) _ _ s
  refine wpAny_bind (wpAny_newList (wpAny_pure ⟨Code.quiet_builtin _ (by decide +kernel), codeAny_builtin entry_list_iadd' ?_⟩))
  show wpAny _ _ (Builtin.List.listExtendWith (.ref s.heap.objs.size) (.ref l) (.ref s.heap.objs.size)) _ _ { s with heap := s.heap.push (seqObj "list" #[] 0) }
  unfold Builtin.List.listExtendWith
  have ho' : (s.heap.push (seqObj "list" #[] 0)).get? l = some o := Heap.get?_push_of_some _ ho
  refine wpAny_bind (wpAny_typeOf (T := "tuple") ⟨o, ho', hc⟩ ?_)
  have ht : (Value.type "tuple" == Value.type "tuple") = true := by rfl
  rw [if_pos (by rw [ht]; simp)]
  refine wpAny_bind (listItems_at ho' hd (wpAny_bind (listItems_at (xs := #[]) (n := 0) (Heap.get?_push_size _ rfl) rfl ?_)))
  rw [if_neg (by simp)]
  refine wpAny_bind (listUpdate_at (xs := #[]) (n := 0) (Heap.get?_push_size _ rfl) rfl (wpAny_pure ?_) (Nat.zero_le _) (by show (#[] ++ vs.toArray).size ≤ sizeLine + 1; simp only [Array.size_append, List.size_toArray, List.length_nil]; omega))
  show wpAny (model prog w) A (do
      let o ← load s.heap.objs.size
      match o.data with | .seq xs _ => pure xs.toList | _ => unsupported "internal:collect") Q E { s with heap := grownH s.heap vs }
  refine wpAny_bind (wpAny_load (get?_update_seq (Heap.get?_push_size _ rfl) _) ?_)
  show wpAny _ _ (pure ((#[] : Array Value) ++ vs.toArray).toList) Q E _
  rw [show ((#[] : Array Value) ++ vs.toArray).toList = vs by simp]
  exact wpAny_pure h
theorem sorted_tup {l : Addr} {vs : List Value} {ltv : Value → Value → Bool} {Q : Value → Shared → Prop} (O : Swo ltv) (hl : s.heap.IsTuple l vs.toArray) (hz : vs.length ≤ sizeLine)
    (hS : 2 ≤ vs.length → ∀ (h₁ : Heap) (a : Addr), SortableO prog w A.in1.in1 { s with heap := h₁ } a vs ltv)
    (h : ∀ out : List Value, Srtd ltv out → Stb ltv out vs → Q (.ref (s.heap.objs.size + 1)) { s with heap := sortedAll s.heap vs out.toArray }) :
    wpAny (model prog w) A (call (.builtin "sorted") [.ref l]) Q E s := by
  refine Calls.call_function_entry kind_sorted plain_sorted entry_sorted (args_sorted1 _) ?_
  unfold Builtin.«sorted»
  refine wpAny_bind (m := checkCount "sorted" 1 1 _) (wpAny_pure (wpAny_bind (collect_tup hl hz (wpAny_bind (wpAny_newList ?_ hz)))))
  have e1 : (grownH s.heap vs).objs.size = s.heap.objs.size + 1 := by rw [Heap.size_update, size_push']
  have e2 : ((grownH s.heap vs).push (seqObj "list" vs.toArray 0)).get? (s.heap.objs.size + 1) = some (seqObj "list" vs.toArray 0) := by
    rw [← e1]; exact Heap.get?_push_size _ rfl
  show wpAny _ _ _ _ _ { s with heap := (grownH s.heap vs).push (seqObj "list" vs.toArray 0) }
  rw [e1]
  refine wpAny_bind (wpAny_holding (wpAny_call_entry slot_list_sort ⟨_, e2, rfl⟩ entry_list_sort (list_sort_ord O e2 hz (fun h2 => hS h2 _ _) fun out hs hb => ⟨_, rfl, ?_⟩) (args_list_sort _)))
  exact wpAny_pure ⟨_, rfl, h out hs hb⟩
end
def rSortedT (K : PySem.W.Frag) : List V → Hp → VK → Prop := fun vs H Q => ∃ (a : Addr) (ns : List Int), vs = [V.ref a] ∧ SqT K H a (ns.map V.int) ∧
  ∀ (ns' : List Int) (p : Addr), ns'.Perm ns → ns'.Pairwise (· ≤ ·) → H p = none → Q (.ref p) (upd H p (.lst (ns'.map V.int)))
theorem cr_sortedT {X : Cx} : CallR X (.builtin "sorted") (rSortedT X.K) := by
  intro pins s σ H vs us Q I r h
  obtain ⟨a, ns, rfl, hs, q⟩ := h
  obtain ⟨its, rv, hl, hz⟩ := I.tuple hs
  rw [Vals.ref1 r]
  have hi := rv.ints
  refine sorted_tup SrtO.swo_int (show s.heap.IsTuple a its.toArray from hl) (by rw [← rv.length]; exact hz) (fun h2 h₁ a' => SrtO.ints_sortable hi h2) fun out h1 h2 => ?_
  obtain ⟨k1, k2, k3⟩ := SrtO.ints_out hi h1 h2
  obtain ⟨ep, he'⟩ := PyProof.Rows.sortedAll_at s.heap its out.toArray
  have hlen : ((out.map SrtO.iv).map V.int).length ≤ sizeLine := by
    rw [List.length_map, k2.length_eq]
    rw [List.length_map] at hz
    exact hz
  exact ⟨.ref _, upd H (s.heap.objs.size + 1) (.lst ((out.map SrtO.iv).map V.int)), I.laid (t' := s.toks) (fun _ _ => PyProof.Rows.sortedAll_old) (Nat.le_succ _) ⟨hlen, out, ep, vals_of_ints k1, he'⟩, rfl, q _ _ k2 k3 (I.hok.fresh (Nat.le_succ _))⟩
end ST
namespace K3
open PySem PySem.Spec PyProof.Rows L2 K1
def topS (i : Nat) : Stmt := PySem.Challenge.pw_packedforms_k34_fewest_told.main.body.getD i (.Pass ⟨0, 0, 0, 0⟩)
end K3
namespace K3
open PySem PySem.Spec PyProof.Rows L2 K1
abbrev s__law_draws : Stmt := topS 11
abbrev nm__law_draws : List Str := ["_law_script", "_law_cells", "_law_cell"]
abbrev pm__law_draws : List Str := ["_law_script"]
theorem sc__law_draws : FnScope nm__law_draws pm__law_draws (defScope s__law_draws) := ⟨rfl, rfl, rfl, by decide +kernel, rfl, by decide +kernel, by decide +kernel⟩
abbrev s__law_next : Stmt := topS 12
abbrev nm__law_next : List Str := ["_law_drawn", "_law_many", "_law_cells", "_law_sofar", "_law_rests", "_law_at", "_law_digit", "_law_primes", "_law_mixed", "_law_more"]
abbrev pm__law_next : List Str := ["_law_drawn", "_law_many"]
theorem sc__law_next : FnScope nm__law_next pm__law_next (defScope s__law_next) := ⟨rfl, rfl, rfl, by decide +kernel, rfl, by decide +kernel, by decide +kernel⟩
section
variable {P : Program} {w : World} {K : PySem.W.Frag} {mg : Str → Option Value} {base : Heap}
def sp__law_next : Sp := fun vs H Q _ => ∃ (dk cl lf : Addr) (B : Nat) (m : Int), vs = [.ref dk, .int m] ∧ Dk H dk cl lf B ∧ B ≤ 2 ^ 40 ∧ 0 < m ∧ m.natAbs.log2 < 9000 ∧
  ∀ (d : Int) (H' : Hp), 0 ≤ d → d < m → Dk H' dk cl lf (B + 1) → KD dk lf H H' → Q (.int d) H'
def sp__law_draws (K : PySem.W.Frag) : Sp := fun vs H Q _ => ∃ (a : Addr) (ns : List Int), vs = [.ref a] ∧ SqL K H a (ns.map V.int) ∧ ns.length ≤ 63 ∧
  ∀ (dk cl lf : Addr) (H' : Hp), Dk H' dk cl lf 0 → Same H H' → H dk = none → H lf = none → Q (.ref dk) H'
theorem primes_at (d : Nat) (h : d < 7) : ∃ p : Int, ([V.int 2147483629, V.int 2147483587, V.int 2147483579, V.int 2147483563, V.int 2147483549, V.int 2147483543, V.int 2147483497] : List V)[d]? = some (.int p) ∧ 0 < p ∧ p ≤ 2147483629 := by
  rcases (show d = 0 ∨ d = 1 ∨ d = 2 ∨ d = 3 ∨ d = 4 ∨ d = 5 ∨ d = 6 by omega) with e | e | e | e | e | e | e <;> subst e <;> exact ⟨_, rfl, by decide, by decide⟩
theorem ok__law_next {f : Addr} {fd : FuncData} (F : Fun K "_law_next" "_law_next" s__law_next f fd) (m_len : mg "len" = none) : FnOk P w K mg base CX0 1 f fd pm__law_next sp__law_next := by
  refine F.ok sc__law_next (fun vs H Q E h => ?_) (fun cdv A outer s H vs Q E hr h => ?_)
  · obtain ⟨dk, cl, lf, B, m, rfl, _⟩ := h
    rfl
  · obtain ⟨dk, cl, lf, B, m, rfl, ⟨⟨cells, lefts, n, e1, e2, e3, hlen, hpos, hmx, hn, hnB⟩, hne⟩, hB, hm, hm2, q⟩ := h
    refine ⟨_, pss_cons (ps_asg (pv 0) (pg_unl rfl (pgs_cons (pg_name (i := 2) sc__law_next.nd rfl (.inl rfl)) (pgs_cons (pg_name (i := 3) sc__law_next.nd rfl (.inl rfl)) (pgs_cons (pg_name (i := 4) sc__law_next.nd rfl (.inl rfl)) pgs_nil)))))
      (pss_cons (ps_set (i := 5) sc__law_next.nd rfl (.inl rfl) (pe_op op_mod (pv 3) (pe_callB call_len_seq (by rfl) m_len PySem.boot_len (pa_cons (pv 2) pa_nil))))
      (pss_cons (ps_asg (pe_op op_add (pv 3) pe_int) (pg_sub (pv 0) pe_int set_list))
      (pss_cons (ps_if (pt_cmpR op_gt (pe_ix ix_list (pv 4) (pv 5) (fun _ _ => rfl)) pe_int (nomark _))
      (pss_cons (ps_set (i := 6) sc__law_next.nd rfl (.inl rfl) (pe_op op_mod (pe_ix ix_list (pv 4) (pv 5) (fun _ _ => rfl)) (pv 1)))
      (pss_cons (ps_asg (pe_op op_fdivW (pe_ix ix_list (pv 4) (pv 5) (fun _ _ => rfl)) (pv 1)) (pg_sub (pv 4) (pv 5) set_list))
      (pss_one (ps_ret (pv 6))))) pss_nil)
      (pss_cons (ps_set (i := 7) sc__law_next.nd rfl (.inl rfl) (pe_lst (pa_cons pe_int (pa_cons pe_int (pa_cons pe_int (pa_cons pe_int (pa_cons pe_int (pa_cons pe_int (pa_cons pe_int pa_nil)))))))))
      (pss_cons (ps_set (i := 8) sc__law_next.nd rfl (.inl rfl) (pe_op op_add (pe_op op_add (pe_op op_mod (pe_ix ix_list (pv 2) (pv 5) (fun _ _ => rfl)) pe_int) (pe_op op_mul pe_int (pv 3))) pe_int))
      (pss_cons (ps_set (i := 8) sc__law_next.nd rfl (.inl rfl) (pe_op op_mod (pe_op op_pow (pv 8) pe_int) (pe_ix ix_list (pv 7) (pe_op op_mod (pv 3) pe_int) (fun _ _ => rfl))))
      (pss_cons (ps_set (i := 9) sc__law_next.nd rfl (.inl rfl) (pe_op op_mod (pe_op op_pow (pe_op op_add (pv 8) (pe_op op_mul pe_int (pv 3))) pe_int) pe_int))
      (pss_one (ps_ret (pe_op op_mod (pe_op op_mod (pe_op op_add (pe_op op_mul (pv 9) pe_int) (pv 8)) pe_int) (pv 1))))))))))), ?_⟩
    have hS1 : SqL K H dk [.ref cl, .int n, .ref lf] := .inl (.inl e1)
    have hS2 : SqL K H cl (cells.map V.int) := .inl (.inl e2)
    refine ⟨.ref dk, rfl, dk, _, rfl, hS1, rfl, _, _, rfl, _, _, rfl, _, _, rfl, rfl, ?_⟩
    refine ⟨.int n, rfl, .ref cl, rfl, cl, _, rfl, .inl hS2, n, (cells.map V.int).length, rfl, rfl, ?_, ?_⟩
    · show (0 : Int) < ((cells.map V.int).length : Nat)
      rw [List.length_map]
      omega
    · have hlm : (cells.map V.int).length = cells.length := List.length_map ..
      obtain ⟨j, hj, ej⟩ : ∃ j : Nat, j < cells.length ∧ n % (((cells.map V.int).length : Nat) : Int) = (j : Int) := by
        have hb := emod_bounds n (m := ((cells.map V.int).length : Nat)) (by rw [hlm]; omega)
        rw [hlm] at hb ⊢
        exact ⟨(n % (cells.length : Int)).toNat, by omega, by omega⟩
      have eat : ((fun i j => V.int (i % j)) n (((cells.map V.int).length : Nat) : Int)) = V.int (j : Int) := congrArg V.int ej
      rw [eat]
      have hj2 : j < lefts.length := by omega
      have gc : (cells.map V.int)[j]? = some (.int cells[j]) := by rw [List.getElem?_map, List.getElem?_eq_getElem hj]; rfl
      have gl : (lefts.map V.int)[j]? = some (.int lefts[j]) := by rw [List.getElem?_map, List.getElem?_eq_getElem hj2]; rfl
      have nd1 : cl ≠ dk := ne_of e2 e1 (fun z => by
        injection z with z
        cases cells with
        | nil => simp at hpos
        | cons c r => simp at z)
      have nd2 : lf ≠ dk := ne_of e3 e1 (fun z => by
        injection z with z
        cases lefts with
        | nil => simp at hj2
        | cons c r => simp at z)
      refine ⟨.int n, rfl, n, 1, rfl, rfl, .ref dk, rfl, dk, _, 1, 1, rfl, rfl, e1, rfl, ?_⟩
      generalize hH1 : upd H dk (HO.lst ([V.ref cl, V.int n, V.ref lf].set 1 (V.int (n + 1)))) = H1
      have f1 : H1 dk = some (.lst [.ref cl, .int (n + 1), .ref lf]) := by rw [← hH1, upd_same]; rfl
      have f2 : H1 cl = some (.lst (cells.map V.int)) := by rw [← hH1, upd_ne nd1]; exact e2
      have f3 : H1 lf = some (.lst (lefts.map V.int)) := by rw [← hH1, upd_ne nd2]; exact e3
      have k1 : KD dk lf H H1 := fun b o n1 n2 e => by rw [← hH1, upd_ne n1]; exact e
      have D1 : Dk H1 dk cl lf (B + 1) := ⟨⟨cells, lefts, n + 1, f1, f2, f3, hlen, hpos, hmx, by omega, by omega⟩, hne⟩
      have sl : SqL K H1 lf (lefts.map V.int) := .inl (.inl f3)
      have sc : SqL K H1 cl (cells.map V.int) := .inl (.inl f2)
      refine ⟨.ref lf, rfl, .int j, rfl, lf, _, _, _, rfl, rfl, sl, atI_nat gl, _, _, rfl, rfl, _, rfl, ite2 (fun _ => ?_) (fun _ => ?_)⟩
      · refine ⟨.ref lf, rfl, .int j, rfl, lf, _, _, _, rfl, rfl, sl, atI_nat gl, .int m, rfl, _, _, rfl, rfl, hm, ?_⟩
        refine ⟨.ref lf, rfl, .int j, rfl, lf, _, _, _, rfl, rfl, sl, atI_nat gl, .int m, rfl, _, _, rfl, rfl, ⟨hm, hm2⟩, .ref lf, rfl, .int j, rfl, lf, _, j, j, rfl, rfl, f3, ?_, ?_⟩
        · rw [List.length_map]
          unfold ixN
          rw [if_pos (by omega), if_pos (by omega)]
          simp
        · refine ⟨_, rfl, q _ _ (Int.emod_nonneg _ (by omega)) (Int.emod_lt_of_pos _ hm) ⟨⟨cells, lefts.set j (lefts[j] / m), n + 1, ?_, ?_, ?_, ?_, hpos, hmx, by omega, by omega⟩, hne⟩ ?_⟩
          · rw [upd_ne nd2.symm]; exact f1
          · rw [upd_ne hne]; exact f2
          · rw [upd_same, List.map_set]
          · rw [List.length_set]; exact hlen
          · intro b o n1 n2 e
            rw [upd_ne n2]
            exact k1 b o n1 n2 e
      · have c1 := emod_bounds cells[j] (m := 2147483647) (by decide)
        refine ⟨(by show 7 ≤ sizeLine; decide), fun l nl => ?_⟩
        have s2 : Same H1 (upd H1 l (.lst [V.int 2147483629, V.int 2147483587, V.int 2147483579, V.int 2147483563, V.int 2147483549, V.int 2147483543, V.int 2147483497])) := same_upd nl
        have cl2 : (upd H1 l (.lst [V.int 2147483629, V.int 2147483587, V.int 2147483579, V.int 2147483563, V.int 2147483549, V.int 2147483543, V.int 2147483497])) l = some (.lst [V.int 2147483629, V.int 2147483587, V.int 2147483579, V.int 2147483563, V.int 2147483549, V.int 2147483543, V.int 2147483497]) := upd_same
        generalize upd H1 l (HO.lst [V.int 2147483629, V.int 2147483587, V.int 2147483579, V.int 2147483563, V.int 2147483549, V.int 2147483543, V.int 2147483497]) = H2 at s2 cl2 ⊢
        have sc2 : SqL K H2 cl (cells.map V.int) := .inl (.inl (s2 _ _ f2))
        have sl2 : SqL K H2 l _ := .inl (.inl cl2)
        refine ⟨.ref cl, rfl, .int j, rfl, cl, _, _, _, rfl, rfl, sc2, atI_nat gc, _, _, rfl, rfl, (by show (0 : Int) < 2147483647; decide), .int n, rfl, _, _, rfl, rfl, .inl ⟨by decide, by decide⟩, _, _, rfl, rfl, _, _, rfl, rfl, ?_⟩
        dsimp only
        generalize hmx1 : cells[j] % 2147483647 + 48271 * n + 104729 = mixed
        have b1 : 0 ≤ mixed ∧ mixed < 2 ^ 60 := by
          constructor
          · omega
          · have : (n : Int) ≤ 2 ^ 40 := by omega
            omega
        obtain ⟨d7, hd7, ed7⟩ : ∃ d : Nat, d < 7 ∧ n % 7 = (d : Int) := by
          have hb := emod_bounds n (m := 7) (by decide)
          exact ⟨(n % 7).toNat, by omega, by omega⟩
        obtain ⟨p, gp, pp, pq⟩ := primes_at d7 hd7
        refine ⟨.int mixed, rfl, _, _, rfl, rfl, ⟨by decide, by decide, by omega⟩, .ref l, rfl, .int n, rfl, _, _, rfl, rfl, (by show (0 : Int) < 7; decide), l, _, _, _, rfl, rfl, sl2, atI_of ed7 gp, _, _, rfl, rfl, pp, ?_⟩
        dsimp only
        generalize hm3 : mixed ^ Int.toNat 3 % p = mix3
        have b3 : 0 ≤ mix3 ∧ mix3 < 2147483629 := by
          have := emod_bounds (mixed ^ Int.toNat 3) pp
          omega
        refine ⟨.int mix3, rfl, .int n, rfl, _, _, rfl, rfl, .inl ⟨by decide, by decide⟩, _, _, rfl, rfl, _, _, rfl, rfl, ⟨by decide, by decide, ?_⟩, _, _, rfl, rfl, (by show (0 : Int) < 2147483477; decide), ?_⟩
        · have : (n : Int) ≤ 2 ^ 40 := by omega
          omega
        dsimp only
        generalize hm4 : (mix3 + 7919 * n) ^ Int.toNat 2 % 2147483477 = more
        have b4 : 0 ≤ more ∧ more < 2147483477 := by rw [← hm4]; exact emod_bounds _ (by decide)
        refine ⟨.int more, rfl, _, _, rfl, rfl, .inl ⟨by omega, by omega⟩, .int mix3, rfl, _, _, rfl, rfl, _, _, rfl, rfl, (by show (0 : Int) < 4611686018427387847; decide), .int m, rfl, _, _, rfl, rfl, hm, ?_⟩
        exact q _ _ (Int.emod_nonneg _ (by omega)) (Int.emod_lt_of_pos _ hm) (D1.same s2) (k1.trans (KD.of_same s2))
theorem ok__law_draws {f : Addr} {fd : FuncData} (F : Fun K "_law_draws" "_law_draws" s__law_draws f fd) (m_list : mg "list" = none) (m_int : mg "int" = none) (m_len : mg "len" = none) : FnOk P w K mg base CX0 1 f fd pm__law_draws (sp__law_draws K) := by
  refine F.ok sc__law_draws (fun vs H Q E h => ?_) (fun cdv A outer s H vs Q E hr h => ?_)
  · obtain ⟨a, ns, rfl, _⟩ := h
    rfl
  · obtain ⟨a, ns, rfl, hS, hlen, q⟩ := h
    refine ⟨_, pss_cons (ps_set (i := 1) sc__law_draws.nd rfl (.inl rfl) (pe_op op_cat (pe_callTy call_list_of (by rfl) m_list (by decide +kernel) (pa_cons (pe_slice sl_list (pv 0) po_none (po_some pe_int)) pa_nil)) (pe_op op_rep (pe_lst (pa_cons pe_int pa_nil)) (pe_callTy call_int1 (by rfl) m_int (by decide +kernel) (pa_cons (pe_cmpR op_eq (pe_callB call_len_seq (by rfl) m_len PySem.boot_len (pa_cons (pv 0) pa_nil)) pe_int (nomark _)) pa_nil)))))
      (pss_one (ps_ret (pe_lst (pa_cons (pv 1) (pa_cons pe_int (pa_cons (pe_lc (own := [("_law_cell", 2)]) (g := gName 2) (tt := tYes) rfl sc__law_draws.nd (pi_list (pv 1)) (blkOk_by (N := nm__law_draws) (sc := defScope s__law_draws) (by decide +kernel)) (fun _ _ _ _ _ => pg_name (i := 2) sc__law_draws.nd rfl (Or.inl rfl)) (fun _ _ _ _ _ => pts_nil) (fun _ _ _ _ _ => (pe_op op_mul (pv 2) (pe_callTy call_int1 (by rfl) m_int (by decide +kernel) (pa_cons (pe_cmpR op_ge (pv 2) (pe_op op_pow pe_int pe_int) (nomark _)) pa_nil))))) pa_nil)))))), ?_⟩
    refine ⟨.ref a, rfl, 63, rfl, a, _, rfl, hS, fun c nc => ?_⟩
    rw [cut63 _ (by rw [List.length_map]; exact hlen)]
    generalize hH1 : upd H c (HO.lst (ns.map V.int)) = H1
    have s1 : Same H H1 := by rw [← hH1]; exact same_upd nc
    have c1 : H1 c = some (.lst (ns.map V.int)) := by rw [← hH1, upd_same]
    refine ⟨c, _, rfl, .inl (.inl (.inl c1)), fun l nl => ?_⟩
    generalize hH2 : upd H1 l (HO.lst (ns.map V.int)) = H2
    have s2 : Same H1 H2 := by rw [← hH2]; exact same_upd nl
    have c2 : H2 l = some (.lst (ns.map V.int)) := by rw [← hH2, upd_same]
    refine ⟨(by show 1 ≤ sizeLine; decide), fun z nz => ?_⟩
    generalize hH3 : upd H2 z (HO.lst [V.int 0]) = H3
    have s3 : Same H2 H3 := by rw [← hH3]; exact same_upd nz
    have c3 : H3 z = some (.lst [V.int 0]) := by rw [← hH3, upd_same]
    have s03 : Same H H3 := s1.trans (s2.trans s3)
    obtain ⟨kk, hkk, hkv⟩ : ∃ kk : Nat, kk ≤ 1 ∧ (if decide (V.int ((ns.map V.int).length : Nat) = V.int 0) = true then (1 : Int) else 0) = kk ∧ (ns = [] → kk = 1) := by
      by_cases e : ns = []
      · subst e; exact ⟨1, by omega, by simp, fun _ => rfl⟩
      · refine ⟨0, by omega, ?_, fun z => absurd z e⟩
        have : ¬ V.int ((ns.map V.int).length : Nat) = V.int 0 := fun z => e (by
          have z1 := V.int.inj z
          rw [List.length_map] at z1
          exact List.length_eq_zero_iff.mp (by omega))
        rw [decide_eq_false this]
        rfl
    refine ⟨.ref a, rfl, a, _, rfl, .inl (s03.seq hS), rfl, .inr ⟨_, rfl, ?_⟩⟩
    refine ⟨z, _, [V.int 0], rfl, rfl, c3, ?_, ?_, ?_, fun p np => ?_⟩
    · rw [hkv.1]; omega
    · rw [hkv.1]; omega
    · rw [hkv.1]
      show 1 * ((kk : Int)).toNat ≤ sizeLine
      exact Nat.le_trans (show 1 * ((kk : Int)).toNat ≤ 1 by omega) (by decide)
    rw [hkv.1]
    have hrep : (List.replicate ((kk : Int)).toNat [V.int 0]).flatten = (List.replicate kk (0 : Int)).map V.int := by
      rw [Int.toNat_natCast]
      rcases (show kk = 0 ∨ kk = 1 by omega) with e | e <;> (subst e; rfl)
    rw [hrep]
    generalize hH4 : upd H3 p (HO.lst ((List.replicate kk (0 : Int)).map V.int)) = H4
    have s4 : Same H3 H4 := by rw [← hH4]; exact same_upd np
    have c4 : H4 p = some (.lst ((List.replicate kk (0 : Int)).map V.int)) := by rw [← hH4, upd_same]
    refine ⟨l, p, _, _, rfl, rfl, s4 _ _ (s3 _ _ c2), c4, ?_, fun r nr => ?_⟩
    · rw [List.length_map, List.length_map, List.length_replicate]
      exact Nat.le_trans (show ns.length + kk ≤ 64 by omega) (by decide)
    rw [← List.map_append]
    generalize hcells : ns ++ List.replicate kk 0 = cells
    have hcl : 0 < cells.length ∧ cells.length ≤ 100 := by
      rw [← hcells, List.length_append, List.length_replicate]
      refine ⟨?_, by omega⟩
      cases ns with
      | nil => have := hkv.2 rfl; omega
      | cons x r => simp; omega
    generalize hH5 : upd H4 r (HO.lst (cells.map V.int)) = H5
    have s5 : Same H4 H5 := by rw [← hH5]; exact same_upd nr
    have c5 : H5 r = some (.lst (cells.map V.int)) := by rw [← hH5, upd_same]
    have s05 : Same H H5 := s03.trans (s4.trans s5)
    refine ⟨.ref r, rfl, .ref r, rfl, r, rfl, ⟨_, .inl (.inl c5)⟩, fun D hD => lc_list (xs := cells.map V.int) (fun i H' => ∃ lefts : List Int, lefts.length = i ∧ H' D = some (.lst (lefts.map V.int)) ∧ Same H5 H') ⟨[], rfl, upd_same, same_upd hD⟩
      (fun i H' _ hp => ?_) (fun i x H' hx hp => ?_) (fun H' hp => ?_)⟩
    · obtain ⟨_, _, _, sm⟩ := hp
      exact .inl (.inl (sm _ _ c5))
    · obtain ⟨lefts, el, eD, sm⟩ := hp
      obtain ⟨n, rfl⟩ : ∃ n, x = V.int n := by
        rw [List.getElem?_map] at hx
        cases h : cells[i]? with
        | none => rw [h] at hx; cases hx
        | some n => rw [h] at hx; exact ⟨n, (Option.some.inj hx).symm⟩
      have hi : i < cells.length := by
        have := (List.getElem?_eq_some_iff.mp hx).1
        rwa [List.length_map] at this
      refine ⟨rfl, ?_⟩
      refine iteT (B := ∃ lefts : List Int, lefts.length = i + 1 ∧ H' D = some (.lst (lefts.map V.int)) ∧ Same H5 H') ?_
      refine ⟨.int n, rfl, .int n, rfl, _, _, rfl, rfl, ⟨by decide, by decide, by decide⟩, _, _, rfl, rfl, .inr ⟨_, rfl, _, _, rfl, rfl, .inr ?_, ?_⟩⟩
      · constructor
        · split <;> decide
        · split <;> decide
      · refine ⟨_, eD, ?_, lefts ++ [n * (if decide (10 ^ Int.toNat 18 ≤ n) = true then 1 else 0)], ?_, ?_, ?_⟩
        · rw [List.length_map]
          exact Nat.lt_of_le_of_lt (show lefts.length ≤ 100 by omega) (by decide)
        · rw [List.length_append, el]; rfl
        · rw [upd_same, List.map_append]; rfl
        · intro b o e
          rw [upd_ne (ne_of_none e hD)]
          exact sm b o e
    · obtain ⟨lefts, el, eD, sm⟩ := hp
      refine ⟨(by show 3 ≤ sizeLine; decide), fun dk ndk => ?_⟩
      have eDr : r ≠ D := ne_of_none c5 hD
      refine q dk r D _ ⟨⟨cells, lefts, 0, upd_same, ?_, ?_, ?_, hcl.1, hcl.2, by omega, by omega⟩, eDr⟩ ?_ ?_ ?_
      · rw [upd_ne (ne_of_none (sm _ _ c5) ndk)]; exact sm _ _ c5
      · rw [upd_ne (ne_of_none eD ndk)]; exact eD
      · rw [el, List.length_map]
      · exact (s05.trans sm).trans (same_upd ndk)
      · exact (s05.trans sm).free ndk
      · exact s05.free hD
end
end K3
namespace K3
open PySem PySem.Spec PyProof.Rows L2 K1
abbrev s__law_whole : Stmt := topS 13
abbrev nm__law_whole : List Str := ["_law_found"]
abbrev pm__law_whole : List Str := ["_law_found"]
theorem sc__law_whole : FnScope nm__law_whole pm__law_whole (defScope s__law_whole) := ⟨rfl, rfl, rfl, by decide +kernel, rfl, by decide +kernel, by decide +kernel⟩
abbrev s__law_just : Stmt := topS 14
abbrev nm__law_just : List Str := ["_law_thing", "_law_due", "_law_one", "_law_other"]
abbrev pm__law_just : List Str := ["_law_thing", "_law_due"]
theorem sc__law_just : FnScope nm__law_just pm__law_just (defScope s__law_just) := ⟨rfl, rfl, rfl, by decide +kernel, rfl, by decide +kernel, by decide +kernel⟩
section
variable {P : Program} {w : World} {K : PySem.W.Frag} {mg : Str → Option Value} {base : Heap}
def isW (d : PyData) : Bool := isI d && !isB d
def sp__law_whole (K : PySem.W.Frag) : Sp := fun vs H Q _ => ∃ (v : V) (d : PyData), vs = [v] ∧ Dp K H v d ∧ pl d = true ∧ Q (.bl (isW d)) H
theorem ok__law_whole {f : Addr} {fd : FuncData} (F : Fun K "_law_whole" "_law_whole" s__law_whole f fd) (m_isinstance : mg "isinstance" = none) (m_int : mg "int" = none) (m_bool : mg "bool" = none) : FnOk P w K mg base CX0 1 f fd pm__law_whole (sp__law_whole K) := by
  refine F.ok sc__law_whole (fun vs H Q E h => ?_) (fun cdv A outer s H vs Q E hr h => ?_)
  · obtain ⟨v, d, rfl, _⟩ := h
    rfl
  · obtain ⟨v, d, rfl, hv, pd, q⟩ := h
    refine ⟨_, pss_one (ps_ret (pe_and (pe_callB call_isi (by rfl) m_isinstance (by decide +kernel) (pa_cons (pv 0) (pa_cons (pe_bltn (v := .ty "int") (by rfl) m_int (show bootBuiltins "int" = some (.type "int") by decide +kernel) rfl) pa_nil))) (pe_one (pe_not (pe_callB call_isi (by rfl) m_isinstance (by decide +kernel) (pa_cons (pv 0) (pa_cons (pe_bltn (v := .ty "bool") (by rfl) m_bool (show bootBuiltins "bool" = some (.type "bool") by decide +kernel) rfl) pa_nil))))))), ?_⟩
    refine ⟨v, rfl, v, _, _, _, isI d, rfl, .ty "int", dp_ty hv pd, kit_ty (kI d), isI d, rfl, ite2 (fun c => ?_) (fun c => ?_)⟩
    · refine ⟨v, rfl, v, _, _, _, isB d, rfl, .ty "bool", dp_ty hv pd, kit_ty (kB d), isB d, rfl, ?_⟩
      have e : isW d = !isB d := by unfold isW; rw [c]; rfl
      rw [← e]
      exact q
    · have e : isW d = false := by unfold isW; rw [Bool.eq_false_iff.mpr c]; rfl
      rw [e] at q
      exact q
def sp__law_just (K : PySem.W.Frag) (n : Nat) : Sp := fun vs H Q _ => ∃ (v u : V) (d e : PyData), vs = [v, u] ∧ Dp K H v d ∧ Dp K H u e ∧ pl d = true ∧ pl e = true ∧ e.depth < n ∧ sz e ≤ 1000000 ∧ ∀ H' : Hp, Same H H' → Q (.bl (eqB d e)) H'
theorem nv__law_just {vs : List V} {H : Hp} {Q : VK} {E : XK} (h : sp__law_just K 0 vs H Q E) : False := by
  obtain ⟨_, _, _, _, _, _, _, _, _, h, _⟩ := h
  omega
theorem ones_data {H : Hp} : ∀ {ws : List V}, (∀ w ∈ ws, w = V.int 1) → DpAll K H ws (ws.map fun _ => PyData.int 1) ∧ PyData.canLayAll0 (ws.map fun _ => PyData.int 1) = true
  | [], _ => ⟨.nil, rfl⟩
  | v :: ws, h => by
    obtain ⟨a, b⟩ := ones_data (H := H) (ws := ws) fun w hw => h w (List.mem_cons_of_mem _ hw)
    have e := h v List.mem_cons_self
    subst e
    exact ⟨.cons (.int 1) a, b⟩
theorem flat_str {d e : PyData} (p1 : pl d = true) (hs : isS e = true) (hd : isS d = true) : (PyData.eqv d e = true ↔ d = e) := by
  cases d <;> cases e <;> simp_all [isS, PyData.eqv, pl]
theorem flat_bool {d e : PyData} (hs : isB e = true) (hd : isB d = true) : (PyData.eqv d e = true ↔ d = e) := by
  cases d <;> cases e <;> simp_all [isB, PyData.eqv, pl]
theorem flat_int {d e : PyData} (hs : isW e = true) (hd : isW d = true) : (PyData.eqv d e = true ↔ d = e) := by
  cases d <;> cases e <;> simp_all [isW, isI, isB, PyData.eqv, pl]
theorem eqv_eqB {d e : PyData} (h : PyData.eqv d e = true ↔ d = e) : PyData.eqv d e = eqB d e := by
  by_cases c : d = e
  · rw [h.mpr c, eqB_true c]
  · rw [eqB_false c]
    exact Bool.eq_false_iff.mpr fun z => c (h.mp z)
theorem min_leaf {d e : PyData} (h : e.depth ≤ 64) : min d.depth e.depth ≤ 64 := Nat.le_trans (Nat.min_le_right _ _) h
theorem leaf_depth {e : PyData} (p : pl e = true) (h : isT e = false) : e.depth ≤ 64 := by
  cases e <;> simp_all [isT, PyData.depth, pl]
theorem take_eq_iff {α : Type} {xs ys : List α} {i : Nat} {x y : α} (hx : xs[i]? = some x) (hy : ys[i]? = some y) : xs.take (i + 1) = ys.take (i + 1) ↔ xs.take i = ys.take i ∧ x = y := by
  rw [List.take_add_one, List.take_add_one, hx, hy]
  have hi : i < xs.length := (List.getElem?_eq_some_iff.mp hx).1
  have hi' : i < ys.length := (List.getElem?_eq_some_iff.mp hy).1
  constructor
  · intro h
    have := List.append_inj h (by rw [List.length_take, List.length_take]; omega)
    exact ⟨this.1, by simpa using this.2⟩
  · rintro ⟨h1, h2⟩
    rw [h1, h2]
theorem ok__law_just {f : Addr} {fd : FuncData} (F : Fun K "_law_just" "_law_just" s__law_just f fd) (g_self : mg "_law_just" = some (.ref f)) (b_self : Binds K fd pm__law_just []) (C__law_whole : Cal P w K mg base "_law_whole" pm__law_whole 1 (sp__law_whole K)) (m_isinstance : mg "isinstance" = none) (m_tuple : mg "tuple" = none) (m_str : mg "str" = none) (m_bool : mg "bool" = none) (m_len : mg "len" = none) (m_zip : mg "zip" = none) : ∀ n : Nat, FnOk P w K mg base CX0 (n + 1 + 1) f fd pm__law_just (sp__law_just K n) := by
  obtain ⟨f__law_whole, fd__law_whole, G__law_whole, g__law_whole, k__law_whole, b__law_whole⟩ := C__law_whole.ex
  intro n
  induction n with
  | zero => exact F.ok sc__law_just (fun vs H Q E h => (nv__law_just h).elim) (fun cdv A outer s H vs Q E hr h => (nv__law_just h).elim)
  | succ n ih =>
  refine F.ok sc__law_just (fun vs H Q E h => ?_) (fun cdv A outer s H vs Q E hr h => ?_)
  · obtain ⟨v, u, d, e, rfl, _⟩ := h
    rfl
  · obtain ⟨v, u, d, e, rfl, hv, hu, pd, pe, hdp, hsz, q⟩ := h
    refine ⟨_, pss_cons (ps_if (pt_val (pe_callB call_isi (by rfl) m_isinstance (by decide +kernel) (pa_cons (pv 1) (pa_cons (pe_bltn (v := .ty "tuple") (by rfl) m_tuple (show bootBuiltins "tuple" = some (.type "tuple") by decide +kernel) rfl) pa_nil))))
      (pss_cons (ps_if (PW.pt (pw_or (pt_not (pt_val (pe_callB call_isi (by rfl) m_isinstance (by decide +kernel) (pa_cons (pv 0) (pa_cons (pe_bltn (v := .ty "tuple") (by rfl) m_tuple (show bootBuiltins "tuple" = some (.type "tuple") by decide +kernel) rfl) pa_nil))))) (pw_or1 (pt_cmpR op_ne (pe_callB call_len_seq (by rfl) m_len PySem.boot_len (pa_cons (pv 0) pa_nil)) (pe_callB call_len_seq (by rfl) m_len PySem.boot_len (pa_cons (pv 1) pa_nil)) (nomark _)))))
      (pss_one (ps_ret pe_bl)) pss_nil)
      (pss_one (ps_ret (pe_cmpR (op_eqM hr.units) (pe_lc (own := [("_law_one", 2), ("_law_other", 3)]) (g := gTup K 2 (gCons (gName 2) (gCons (gName 3) gNil))) rfl sc__law_just.nd (RZ.pi_zipA (by rfl) m_zip (pa_cons (pv 0) (pa_cons (pv 1) pa_nil))) (blkOk_by (N := nm__law_just) (sc := defScope s__law_just) (by decide +kernel)) (fun _ _ _ _ _ => pg_tup (by rfl) (pgs_cons (pg_name (i := 2) sc__law_just.nd rfl (Or.inl rfl)) (pgs_cons (pg_name (i := 3) sc__law_just.nd rfl (Or.inl rfl)) pgs_nil))) (fun _ _ _ _ _ => (pts_one (pt_not (pt_val (pe_call ih (hr.mono (by omega)) (by rfl) g_self F.kp b_self .nil pass0 (pa_cons (pv 2) (pa_cons (pv 3) pa_nil))))))) (fun _ _ _ _ _ => pe_int)) (pe_lst pa_nil) (nomark _))))) pss_nil)
      (pss_cons (ps_if (pt_cmpR op_isN (pv 1) pe_non (nomark _))
      (pss_one (ps_ret (pe_cmpR op_isN (pv 0) pe_non (nomark _)))) pss_nil)
      (pss_cons (ps_if (pt_val (pe_callB call_isi (by rfl) m_isinstance (by decide +kernel) (pa_cons (pv 1) (pa_cons (pe_bltn (v := .ty "str") (by rfl) m_str (show bootBuiltins "str" = some (.type "str") by decide +kernel) rfl) pa_nil))))
      (pss_one (ps_ret (pe_and (pe_callB call_isi (by rfl) m_isinstance (by decide +kernel) (pa_cons (pv 0) (pa_cons (pe_bltn (v := .ty "str") (by rfl) m_str (show bootBuiltins "str" = some (.type "str") by decide +kernel) rfl) pa_nil))) (pe_one (pe_cmpR (op_eqM hr.units) (pv 0) (pv 1) (nomark _)))))) pss_nil)
      (pss_cons (ps_if (pt_val (pe_callB call_isi (by rfl) m_isinstance (by decide +kernel) (pa_cons (pv 1) (pa_cons (pe_bltn (v := .ty "bool") (by rfl) m_bool (show bootBuiltins "bool" = some (.type "bool") by decide +kernel) rfl) pa_nil))))
      (pss_one (ps_ret (pe_and (pe_callB call_isi (by rfl) m_isinstance (by decide +kernel) (pa_cons (pv 0) (pa_cons (pe_bltn (v := .ty "bool") (by rfl) m_bool (show bootBuiltins "bool" = some (.type "bool") by decide +kernel) rfl) pa_nil))) (pe_one (pe_cmpR (op_eqM hr.units) (pv 0) (pv 1) (nomark _)))))) pss_nil)
      (pss_one (ps_ret (pe_and (pe_call G__law_whole (hr.mono (by omega)) (by rfl) g__law_whole k__law_whole b__law_whole .nil pass0 (pa_cons (pv 0) pa_nil)) (pe_one (pe_cmpR (op_eqM hr.units) (pv 0) (pv 1) (nomark _))))))))), ?_⟩
    have no : d ≠ e → ∀ H', Same H H' → Q (.bl false) H' := fun ne H' s' => by
      have := q H' s'
      rw [eqB_false ne] at this
      exact this
    refine ⟨u, rfl, u, _, _, _, isT e, rfl, .ty "tuple", dp_ty hu pe, kit_ty (kT e), isT e, rfl, ite2 (fun a1 => ?_) (fun a1 => ?_)⟩
    · cases e with
      | tuple es =>
        refine ⟨v, rfl, v, _, _, _, isT d, rfl, .ty "tuple", dp_ty hv pd, kit_ty (kT d), isT d, rfl, ite2 (fun a2 => ?_) (fun a2 => ?_)⟩
        · refine no (fun z => ?_) H (Same.refl _)
          rw [z] at a2
          cases a2
        · cases d with
          | tuple ds =>
            cases hu with
            | @tup b ys _ hsy hay =>
              cases hv with
              | @tup a xs _ hsx hax =>
                have lx := dpAll_len hax
                have ly := dpAll_len hay
                refine ⟨.ref a, rfl, a, xs, rfl, .inr hsx, .ref b, rfl, b, ys, rfl, .inr hsy, rfl, _, rfl, ite2 (fun b1 => ?_) (fun b1 => ?_)⟩
                · refine no (fun z => ?_) H (Same.refl _)
                  have h2 : ds = es := PyData.tuple.inj z
                  rw [lx, ly, h2] at b1
                  simp at b1
                · have hl2 : xs.length = ys.length := by
                    have z : V.int (xs.length : Nat) = V.int (ys.length : Nat) := by simpa using b1
                    have := V.int.inj z
                    omega
                  have hls := len_szA es
                  have hse : szA es + 1 ≤ 1000000 := hsz
                  rw [depth_tuple] at hdp
                  refine ⟨.ref a, rfl, .ref b, rfl, a, b, xs, ys, rfl, .inr ⟨hsx, hsy, fun D hD => lc_zipT hl2 (fun i H3 => ∃ ws : List V, (∀ w ∈ ws, w = V.int 1) ∧ ws.length ≤ i ∧ (ws = [] ↔ ds.take i = es.take i) ∧ H3 D = some (.lst ws) ∧ Same H H3) ⟨[], fun _ h => (nomatch h), Nat.le_refl _, ⟨fun _ => rfl, fun _ => rfl⟩, upd_same, same_upd hD⟩ (fun i H3 _ hP => ?_) (fun i x y T H3 gx gy hP nT => ?_) (fun H3 hP => ?_)⟩⟩
                  · obtain ⟨ws, _, _, _, _, s3⟩ := hP
                    exact ⟨ts_same s3 _ _ hsx, ts_same s3 _ _ hsy⟩
                  · obtain ⟨ws, hw, hwl, hiff, eD, s3⟩ := hP
                    obtain ⟨di, k1, k2⟩ := dpAll_get hax gx
                    obtain ⟨ei, k3, k4⟩ := dpAll_get hay gy
                    have q1 : pl di = true := plA_mem pd (List.mem_of_getElem? k1)
                    have q2 : pl ei = true := plA_mem pe (List.mem_of_getElem? k3)
                    have d1 := depth_mem (List.mem_of_getElem? k3)
                    have z1 := sz_mem (List.mem_of_getElem? k3)
                    have hi : i < ys.length := (List.getElem?_eq_some_iff.mp gy).1
                    have s4 : Same H (upd H3 T (.tup [x, y])) := s3.trans (same_upd nT)
                    have eD4 : (upd H3 T (.tup [x, y])) D = some (.lst ws) := same_upd nT _ _ eD
                    refine ⟨T, [x, y], rfl, .inl (.inl upd_same), rfl, x, [y], rfl, y, [], rfl, rfl, rfl, x, rfl, y, rfl, x, y, di, ei, rfl, (ts_same s4).dp _ _ q1 k2, (ts_same s4).dp _ _ q2 k4, q1, q2, by omega, by omega, fun H5 s5 => ⟨eqB di ei, rfl, ite2 (fun c => ?_) (fun c => ?_)⟩⟩
                    · have ne : di ≠ ei := fun z => by rw [eqB_true z] at c; cases c
                      refine ⟨ws, s5 _ _ eD4, ?_, ws ++ [.int 1], ?_, ?_, ?_, upd_same, ?_⟩
                      · exact Nat.lt_of_le_of_lt (show ws.length ≤ 1000000 by omega) (by decide)
                      · intro w' hw'
                        rcases List.mem_append.mp hw' with m | m
                        · exact hw _ m
                        · exact List.mem_singleton.mp m
                      · rw [List.length_append]
                        exact Nat.succ_le_succ hwl
                      · rw [take_eq_iff k1 k3]
                        constructor
                        · intro z
                          simp at z
                        · intro z
                          exact absurd z.2 ne
                      · intro b' o eb
                        rw [upd_ne (ne_of_none eb hD)]
                        exact s5 _ _ (s4 _ _ eb)
                    · have eq : di = ei := by
                        by_cases z : di = ei
                        · exact z
                        · rw [eqB_false z] at c
                          exact absurd rfl c
                      refine ⟨ws, hw, by omega, ?_, s5 _ _ eD4, s4.trans s5⟩
                      rw [take_eq_iff k1 k3, hiff]
                      exact ⟨fun z => ⟨z, eq⟩, fun z => z.1⟩
                  · obtain ⟨ws, hw, hwl, hiff, eD, s3⟩ := hP
                    refine ⟨Nat.zero_le _, fun z nz => ?_⟩
                    have sz1 : Same H3 (upd H3 z (.lst [])) := same_upd nz
                    have cz : (upd H3 z (.lst [])) z = some (.lst []) := upd_same
                    generalize hHz : upd H3 z (HO.lst []) = Hz at sz1 cz ⊢
                    obtain ⟨o1, o2⟩ := ones_data (K := K) (H := Hz) hw
                    refine ⟨.list (ws.map fun _ => PyData.int 1), .list [], .lst (.inl (.inl (sz1 _ _ eD))) o1, .lst (.inl (.inl cz)) .nil, o2, rfl, ?_, ?_⟩
                    · refine Nat.le_trans (Nat.min_le_right _ _) ?_
                      decide
                    · rw [eqv_nil]
                      have hd : ds.take xs.length = ds := by rw [lx]; exact List.take_length
                      have he : es.take xs.length = es := by rw [hl2, ly]; exact List.take_length
                      rw [hd, he] at hiff
                      have := q Hz (s3.trans sz1)
                      have e : eqB (.tuple ds) (.tuple es) = (ws.map fun _ => PyData.int 1).isEmpty := by
                        by_cases c : ds = es
                        · rw [eqB_true (by rw [c]), hiff.mpr c]
                          rfl
                        · rw [eqB_false fun z => c (PyData.tuple.inj z)]
                          cases ws with
                          | nil => exact absurd (hiff.mp rfl) c
                          | cons _ _ => rfl
                      rw [e] at this
                      exact this
          | _ => exact absurd rfl a2
      | _ => cases a1
    · have le : e.depth ≤ 64 := leaf_depth pe (Bool.eq_false_iff.mpr a1)
      refine ⟨u, rfl, rfl, _, rfl, ite2 (fun n1 => ?_) (fun n1 => ?_)⟩
      · have e1 : e = .none := (non_iff hu).mp (of_decide_eq_true n1)
        refine ⟨v, rfl, rfl, ?_⟩
        have := q H (Same.refl _)
        have e2 : eqB d e = decide (v = .non) := by
          by_cases c : d = e
          · rw [eqB_true c, decide_eq_true ((non_iff hv).mpr (c.trans e1))]
          · rw [eqB_false c, decide_eq_false fun z => c (((non_iff hv).mp z).trans e1.symm)]
        rw [e2] at this
        exact this
      · have en : e ≠ .none := fun z => n1 (decide_eq_true ((non_iff hu).mpr z))
        refine ⟨u, rfl, u, _, _, _, isS e, rfl, .ty "str", dp_ty hu pe, kit_ty (kS e), isS e, rfl, ite2 (fun a3 => ?_) (fun a3 => ?_)⟩
        · refine ⟨v, rfl, v, _, _, _, isS d, rfl, .ty "str", dp_ty hv pd, kit_ty (kS d), isS d, rfl, ite2 (fun a4 => ?_) (fun a4 => ?_)⟩
          · refine ⟨v, rfl, u, rfl, d, e, hv, hu, canLay d pd, canLay e pe, min_leaf le, ?_⟩
            rw [eqv_eqB (flat_str pd a3 a4)]
            exact q H (Same.refl _)
          · exact no (fun z => a4 (by rw [z]; exact a3)) H (Same.refl _)
        · refine ⟨u, rfl, u, _, _, _, isB e, rfl, .ty "bool", dp_ty hu pe, kit_ty (kB e), isB e, rfl, ite2 (fun a5 => ?_) (fun a5 => ?_)⟩
          · refine ⟨v, rfl, v, _, _, _, isB d, rfl, .ty "bool", dp_ty hv pd, kit_ty (kB d), isB d, rfl, ite2 (fun a4 => ?_) (fun a4 => ?_)⟩
            · refine ⟨v, rfl, u, rfl, d, e, hv, hu, canLay d pd, canLay e pe, min_leaf le, ?_⟩
              rw [eqv_eqB (flat_bool a5 a4)]
              exact q H (Same.refl _)
            · exact no (fun z => a4 (by rw [z]; exact a5)) H (Same.refl _)
          · have ew : isW e = true := by
              cases e <;> simp_all [isW, isI, isB, isS, isT, pl]
            refine ⟨v, rfl, v, d, rfl, hv, pd, isW d, rfl, ite2 (fun a4 => ?_) (fun a4 => ?_)⟩
            · refine ⟨v, rfl, u, rfl, d, e, hv, hu, canLay d pd, canLay e pe, min_leaf le, ?_⟩
              rw [eqv_eqB (flat_int ew a4)]
              exact q H (Same.refl _)
            · exact no (fun z => a4 (by rw [z]; exact ew)) H (Same.refl _)
end
end K3
namespace K3
open PySem PySem.Spec PyProof.Rows L2 K1
/-! ### parts and orders in the heap -/
def natV (n : Nat) : V := .int (n : Int)
theorem rgV_nat (n : Nat) : rgV 0 (n : Int) = (List.range n).map natV := by
  unfold rgV natV
  rw [Int.sub_zero, Int.toNat_natCast]
  refine List.map_congr_left fun i _ => ?_
  rw [Int.zero_add]
def Pts (K : PySem.W.Frag) (H : Hp) (a : Addr) (ps : List Part) : Prop := ∃ vs : List V, SqT K H a vs ∧ vs.length = ps.length ∧ ∀ (i : Nat) (p : Part), ps[i]? = some p → ∃ t, vs[i]? = some (.ref t) ∧ SqT K H t [.int p.1, .int p.2]
theorem Pts.ts {K : PySem.W.Frag} {H H1 : Hp} {a : Addr} {ps : List Part} (h : Pts K H a ps) (s : TS K H H1) : Pts K H1 a ps := by
  obtain ⟨vs, h1, h2, h3⟩ := h
  refine ⟨vs, s _ _ h1, h2, fun i p e => ?_⟩
  obtain ⟨t, a1, a2⟩ := h3 i p e
  exact ⟨t, a1, s _ _ a2⟩
theorem Pts.at {K : PySem.W.Frag} {H : Hp} {a : Addr} {ps : List Part} (h : Pts K H a ps) {n : Nat} (hn : n < ps.length) : ∃ vs t, SqT K H a vs ∧ atI vs (n : Int) = some (.ref t) ∧ SqT K H t [.int (pt ps n).1, .int (pt ps n).2] := by
  obtain ⟨vs, h1, h2, h3⟩ := h
  have e := List.getElem?_eq_getElem hn
  obtain ⟨t, a1, a2⟩ := h3 n _ e
  rw [← pt_of e] at a2
  exact ⟨vs, t, h1, atI_nat a1, a2⟩
theorem Pts.len {K : PySem.W.Frag} {H : Hp} {a : Addr} {ps : List Part} (h : Pts K H a ps) : ∃ vs : List V, SqT K H a vs ∧ vs.length = ps.length := by
  obtain ⟨vs, h1, h2, _⟩ := h
  exact ⟨vs, h1, h2⟩
abbrev s__law_measure : Stmt := topS 15
abbrev nm__law_measure : List Str := ["_law_drawn", "_law_by", "_law_way"]
abbrev pm__law_measure : List Str := ["_law_drawn"]
theorem sc__law_measure : FnScope nm__law_measure pm__law_measure (defScope s__law_measure) := ⟨rfl, rfl, rfl, by decide +kernel, rfl, by decide +kernel, by decide +kernel⟩
abbrev s__law_parts : Stmt := topS 16
abbrev nm__law_parts : List Str := ["_law_drawn", "_law_most", "_law_k"]
abbrev pm__law_parts : List Str := ["_law_drawn", "_law_most"]
theorem sc__law_parts : FnScope nm__law_parts pm__law_parts (defScope s__law_parts) := ⟨rfl, rfl, rfl, by decide +kernel, rfl, by decide +kernel, by decide +kernel⟩
section
variable {P : Program} {w : World} {K : PySem.W.Frag} {mg : Str → Option Value} {base : Heap}
def sp__law_measure (K : PySem.W.Frag) : Sp := fun vs H Q _ => ∃ (dk cl lf : Addr) (B : Nat), vs = [.ref dk] ∧ Dk H dk cl lf B ∧ B ≤ 2 ^ 39 ∧
  ∀ (t : Addr) (p : Part) (H' : Hp), PtOk p → SqT K H' t [.int p.1, .int p.2] → Dk H' dk cl lf (B + 3) → KD dk lf H H' → Q (.ref t) H'
theorem al_at (d : Nat) (h : d < 6) : ∃ m : Int, ([V.int 1, V.int 1, V.int 8, V.int 16, V.int 32, V.int 64] : List V)[d]? = some (.int m) ∧ AlOk m := by
  rcases (show d = 0 ∨ d = 1 ∨ d = 2 ∨ d = 3 ∨ d = 4 ∨ d = 5 by omega) with e | e | e | e | e | e <;> subst e
  · exact ⟨_, rfl, .inl rfl⟩
  · exact ⟨_, rfl, .inl rfl⟩
  · exact ⟨_, rfl, .inr (.inl rfl)⟩
  · exact ⟨_, rfl, .inr (.inr (.inl rfl))⟩
  · exact ⟨_, rfl, .inr (.inr (.inr (.inl rfl)))⟩
  · exact ⟨_, rfl, .inr (.inr (.inr (.inr rfl)))⟩
theorem al_many {m : Int} (h : AlOk m) : 0 < 4096 / m ∧ (4096 / m).natAbs.log2 < 9000 ∧ ∀ d : Int, 0 ≤ d → d < 4096 / m → 0 ≤ m * (1 + d) ∧ m * (1 + d) ≤ 4096 := by
  rcases h with rfl | rfl | rfl | rfl | rfl <;> exact ⟨by decide, by decide +kernel, fun d h0 h1 => by omega⟩
theorem ok__law_measure {f : Addr} {fd : FuncData} (F : Fun K "_law_measure" "_law_measure" s__law_measure f fd) (C__law_next : Cal P w K mg base "_law_next" pm__law_next 1 sp__law_next) : FnOk P w K mg base CX0 2 f fd pm__law_measure (sp__law_measure K) := by
  obtain ⟨f__law_next, fd__law_next, G__law_next, g__law_next, k__law_next, b__law_next⟩ := C__law_next.ex
  refine F.ok sc__law_measure (fun vs H Q E h => ?_) (fun cdv A outer s H vs Q E hr h => ?_)
  · obtain ⟨dk, cl, lf, B, rfl, _⟩ := h
    rfl
  · obtain ⟨dk, cl, lf, B, rfl, D0, hB, q⟩ := h
    have rm : ∀ {j : Nat}, j ≤ 1 → Room j (A.deeper (envOfC "_law_measure" (defScope s__law_measure) s.heap.objs.size f cdv)) := fun hj => hr.mono hj
    refine ⟨_, pss_cons (ps_set (i := 1) sc__law_measure.nd rfl (.inl rfl) (pe_ix ix_list (pe_lst (pa_cons pe_int (pa_cons pe_int (pa_cons pe_int (pa_cons pe_int (pa_cons pe_int (pa_cons pe_int pa_nil))))))) (pe_call G__law_next (rm (by decide)) (by rfl) g__law_next k__law_next b__law_next .nil pass0 (pa_cons (pv 0) (pa_cons pe_int pa_nil))) (fun _ _ => rfl)))
      (pss_cons (ps_set (i := 2) sc__law_measure.nd rfl (.inl rfl) (pe_call G__law_next (rm (by decide)) (by rfl) g__law_next k__law_next b__law_next .nil pass0 (pa_cons (pv 0) (pa_cons pe_int pa_nil))))
      (pss_cons (ps_if (pt_cmpR op_eq (pv 2) pe_int (nomark _))
      (pss_one (ps_ret (pe_tup (pa_cons pe_int (pa_cons (pv 1) pa_nil))))) pss_nil)
      (pss_cons (ps_if (pt_cmpR op_eq (pv 2) pe_int (nomark _))
      (pss_one (ps_ret (pe_tup (pa_cons (pe_op op_sub pe_int (pe_call G__law_next (rm (by decide)) (by rfl) g__law_next k__law_next b__law_next .nil pass0 (pa_cons (pv 0) (pa_cons pe_int pa_nil)))) (pa_cons (pv 1) pa_nil))))) pss_nil)
      (pss_cons (ps_if (pt_cmpR op_eq (pv 2) pe_int (nomark _))
      (pss_one (ps_ret (pe_tup (pa_cons (pe_call G__law_next (rm (by decide)) (by rfl) g__law_next k__law_next b__law_next .nil pass0 (pa_cons (pv 0) (pa_cons pe_int pa_nil))) (pa_cons (pv 1) pa_nil))))) pss_nil)
      (pss_cons (ps_if (pt_cmpR op_eq (pv 2) pe_int (nomark _))
      (pss_one (ps_ret (pe_tup (pa_cons (pe_op op_mul (pv 1) (pe_op op_add pe_int (pe_call G__law_next (rm (by decide)) (by rfl) g__law_next k__law_next b__law_next .nil pass0 (pa_cons (pv 0) (pa_cons (pe_op op_fdivW pe_int (pv 1)) pa_nil))))) (pa_cons (pv 1) pa_nil))))) pss_nil)
      (pss_one (ps_ret (pe_tup (pa_cons (pe_op op_add pe_int (pe_call G__law_next (rm (by decide)) (by rfl) g__law_next k__law_next b__law_next .nil pass0 (pa_cons (pv 0) (pa_cons pe_int pa_nil)))) (pa_cons (pv 1) pa_nil)))))))))), ?_⟩
    refine ⟨(by show 6 ≤ sizeLine; decide), fun l nl => ?_⟩
    have nD := D0.not nl
    have D1 : Dk (upd H l (.lst [V.int 1, V.int 1, V.int 8, V.int 16, V.int 32, V.int 64])) dk cl lf B := D0.upd nD
    have s1 : Same H (upd H l (.lst [V.int 1, V.int 1, V.int 8, V.int 16, V.int 32, V.int 64])) := same_upd nl
    have c1 : (upd H l (.lst [V.int 1, V.int 1, V.int 8, V.int 16, V.int 32, V.int 64])) l = some (.lst [V.int 1, V.int 1, V.int 8, V.int 16, V.int 32, V.int 64]) := upd_same
    generalize upd H l (HO.lst [V.int 1, V.int 1, V.int 8, V.int 16, V.int 32, V.int 64]) = H1 at D1 s1 c1 ⊢
    refine ⟨.ref dk, rfl, dk, cl, lf, B, 6, rfl, D1, by omega, by decide, by decide +kernel, fun d H2 d0 d1 D2 k2 => ?_⟩
    obtain ⟨j, rfl⟩ : ∃ j : Nat, d = (j : Int) := ⟨d.toNat, by omega⟩
    obtain ⟨m, gm, hm⟩ := al_at j (by omega)
    have c2 := k2 l _ nD.1 nD.2.2 c1
    have mp := hm.pos
    refine ⟨l, _, _, _, rfl, rfl, .inl (.inl c2), atI_nat gm, ?_⟩
    have kk2 : KD dk lf H H2 := (KD.of_same s1).trans k2
    have fin : ∀ (Hn : Hp) (b : Int), Dk Hn dk cl lf (B + 3) → KD dk lf H Hn → PtOk (b, m) → ∀ t, Hn t = none → Q (.ref t) (upd Hn t (.tup [.int b, .int m])) := fun Hn b Dn kn hp t nt =>
      q t (b, m) _ hp (.inl (.inl upd_same)) (Dn.upd (Dn.not nt)) (kn.trans (KD.of_same (same_upd nt)))
    refine ⟨.ref dk, rfl, dk, cl, lf, B + 1, 7, rfl, D2, by omega, by decide, by decide +kernel, fun way H3 w0 w1 D3 k3 => ?_⟩
    have kk3 : KD dk lf H H3 := kk2.trans k3
    refine ⟨.int way, rfl, rfl, _, rfl, ite2 (fun e1 => ?_) (fun e1 => ?_)⟩
    · refine ⟨.int m, rfl, (by show 2 ≤ sizeLine; decide), fun t nt => fin H3 0 (D3.mono (by omega)) kk3 ⟨Int.le_refl 0, (by show (0:Int) ≤ 4096; decide), hm⟩ t nt⟩
    refine ⟨.int way, rfl, rfl, _, rfl, ite2 (fun e2 => ?_) (fun e2 => ?_)⟩
    · refine ⟨.ref dk, rfl, dk, cl, lf, B + 2, 3, rfl, D3, by omega, by decide, by decide +kernel, fun d H4 d0 d1 D4 k4 => ?_⟩
      exact ⟨_, _, rfl, rfl, .int m, rfl, (by show 2 ≤ sizeLine; decide), fun t nt => fin H4 (4096 - d) D4 (kk3.trans k4) ⟨by show 0 ≤ 4096 - d; omega, by show 4096 - d ≤ 4096; omega, hm⟩ t nt⟩
    refine ⟨.int way, rfl, rfl, _, rfl, ite2 (fun e3 => ?_) (fun e3 => ?_)⟩
    · refine ⟨.ref dk, rfl, dk, cl, lf, B + 2, 4097, rfl, D3, by omega, by decide, by decide +kernel, fun d H4 d0 d1 D4 k4 => ?_⟩
      exact ⟨.int m, rfl, (by show 2 ≤ sizeLine; decide), fun t nt => fin H4 d D4 (kk3.trans k4) ⟨d0, by show d ≤ 4096; omega, hm⟩ t nt⟩
    refine ⟨.int way, rfl, rfl, _, rfl, ite2 (fun e4 => ?_) (fun e4 => ?_)⟩
    · obtain ⟨m0, m1, m2⟩ := al_many hm
      refine ⟨.int m, rfl, .ref dk, rfl, .int m, rfl, _, _, rfl, rfl, ⟨mp.1, ?_⟩, dk, cl, lf, B + 2, 4096 / m, rfl, D3, by omega, m0, m1, fun d H4 d0 d1 D4 k4 => ?_⟩
      · rcases hm with rfl | rfl | rfl | rfl | rfl <;> decide +kernel
      obtain ⟨b0, b1⟩ := m2 d d0 d1
      exact ⟨_, _, rfl, rfl, _, _, rfl, rfl, .inl ⟨by omega, by omega⟩, .int m, rfl, (by show 2 ≤ sizeLine; decide), fun t nt => fin H4 (m * (1 + d)) D4 (kk3.trans k4) ⟨b0, b1, hm⟩ t nt⟩
    · refine ⟨.ref dk, rfl, dk, cl, lf, B + 2, 70, rfl, D3, by omega, by decide, by decide +kernel, fun d H4 d0 d1 D4 k4 => ?_⟩
      exact ⟨_, _, rfl, rfl, .int m, rfl, (by show 2 ≤ sizeLine; decide), fun t nt => fin H4 (1 + d) D4 (kk3.trans k4) ⟨by show 0 ≤ 1 + d; omega, by show 1 + d ≤ 4096; omega, hm⟩ t nt⟩
def sp__law_parts (K : PySem.W.Frag) : Sp := fun vs H Q _ => ∃ (dk cl lf : Addr) (B most : Nat), vs = [.ref dk, natV most] ∧ Dk H dk cl lf B ∧ B ≤ 2 ^ 38 ∧ most ≤ 100 ∧
  ∀ (a : Addr) (ps : List Part) (H' : Hp), Pts K H' a ps → (∀ p ∈ ps, PtOk p) → ps.length ≤ most → Dk H' dk cl lf (B + 1 + 3 * most) → KD dk lf H H' → Q (.ref a) H'
theorem nat_log {n : Nat} (h : n ≤ 1000) : ((n : Int) + 1).natAbs.log2 < 9000 := by
  have : ((n : Int) + 1).natAbs = n + 1 := by omega
  rw [this]
  have h2 := Nat.log2_lt (n := n + 1) (by omega) (k := 9000)
  exact h2.mpr (Nat.lt_of_le_of_lt (show n + 1 ≤ 2 ^ 10 by omega) (Nat.pow_lt_pow_right (by decide) (by decide)))
theorem ok__law_parts {f : Addr} {fd : FuncData} (F : Fun K "_law_parts" "_law_parts" s__law_parts f fd) (C__law_measure : Cal P w K mg base "_law_measure" pm__law_measure 2 (sp__law_measure K)) (C__law_next : Cal P w K mg base "_law_next" pm__law_next 1 sp__law_next) (m_tuple : mg "tuple" = none) (m_range : mg "range" = none) : FnOk P w K mg base CX0 3 f fd pm__law_parts (sp__law_parts K) := by
  obtain ⟨f__law_measure, fd__law_measure, G__law_measure, g__law_measure, k__law_measure, b__law_measure⟩ := C__law_measure.ex
  obtain ⟨f__law_next, fd__law_next, G__law_next, g__law_next, k__law_next, b__law_next⟩ := C__law_next.ex
  refine F.ok sc__law_parts (fun vs H Q E h => ?_) (fun cdv A outer s H vs Q E hr h => ?_)
  · obtain ⟨dk, cl, lf, B, most, rfl, _⟩ := h
    rfl
  · obtain ⟨dk, cl, lf, B, most, rfl, D0, hB, hm, q⟩ := h
    have rm : ∀ {j : Nat}, j ≤ 2 → Room j (A.deeper (envOfC "_law_parts" (defScope s__law_parts) s.heap.objs.size f cdv)) := fun hj => hr.mono hj
    refine ⟨_, pss_one (ps_ret (pe_callTy call_tuple_of (by rfl) m_tuple (by decide +kernel) (pa_cons (pe_lc (own := [("_law_k", 2)]) (g := gName 2) (tt := tYes) rfl sc__law_parts.nd (pi_range1 (by rfl) m_range (pa_cons (pe_call G__law_next (rm (by decide)) (by rfl) g__law_next k__law_next b__law_next .nil pass0 (pa_cons (pv 0) (pa_cons (pe_op op_add (pv 1) pe_int) pa_nil))) pa_nil)) (blkOk_by (N := nm__law_parts) (sc := defScope s__law_parts) (by decide +kernel)) (fun _ _ _ _ _ => pg_name (i := 2) sc__law_parts.nd rfl (Or.inl rfl)) (fun _ _ _ _ _ => pts_nil) (fun _ _ _ _ _ => (pe_call G__law_measure (rm (by decide)) (by rfl) g__law_measure k__law_measure b__law_measure .nil pass0 (pa_cons (pv 0) pa_nil)))) pa_nil))), ?_⟩
    refine ⟨.ref dk, rfl, natV most, rfl, _, _, rfl, rfl, dk, cl, lf, B, (most : Int) + 1, rfl, D0, by omega, by omega, nat_log (by omega), fun d H1 d0 d1 D1 k1 => ?_⟩
    obtain ⟨n, rfl⟩ : ∃ n : Nat, d = (n : Int) := ⟨d.toNat, by omega⟩
    refine ⟨n, rfl, by omega, by omega, fun D hD => lc_range (lo := 0) (n := ((n : Nat) : Int).toNat) (fun i H3 => ∃ (vs : List V) (ps : List Part), vs.length = i ∧ ps.length = i ∧ (∀ p ∈ ps, PtOk p) ∧ (∀ (j : Nat) (p : Part), ps[j]? = some p → ∃ t, vs[j]? = some (.ref t) ∧ SqT K H3 t [.int p.1, .int p.2]) ∧ H3 D = some (.lst vs) ∧ Dk H3 dk cl lf (B + 1 + 3 * i) ∧ KD dk lf H1 H3) ⟨[], [], rfl, rfl, fun _ h => (nomatch h), fun j p h => by simp at h, upd_same, D1.upd (D1.not hD), KD.of_same (same_upd hD)⟩ (fun i H3 hi hP => ?_) (fun H3 hP => ?_)⟩
    · obtain ⟨vs, ps, l1, l2, ok, hp, eD, D3, k3⟩ := hP
      rw [Int.toNat_natCast] at hi
      have nD := D1.not hD
      refine ⟨rfl, ?_⟩
      dsimp only [tYes]
      refine iteT ?_
      refine ⟨.ref dk, rfl, dk, cl, lf, B + 1 + 3 * i, rfl, D3, by omega, fun t p H4 okp ht D4 k4 => ?_⟩
      have eD4 := k4 D _ nD.1 nD.2.2 eD
      have ts4 : K1.TS K H3 H4 := D3.ts k4
      have ts5 : K1.TS K H4 (upd H4 D (.lst (vs ++ [.ref t]))) := ts_lst eD4
      refine ⟨vs, eD4, ?_, vs ++ [.ref t], ps ++ [p], ?_, ?_, ?_, ?_, upd_same, ?_, ?_⟩
      · exact Nat.lt_of_le_of_lt (show vs.length ≤ 1000 by omega) (by decide)
      · rw [List.length_append, l1]; rfl
      · rw [List.length_append, l2]; rfl
      · intro p' m
        rcases List.mem_append.mp m with m | m
        · exact ok _ m
        · rw [List.mem_singleton.mp m]; exact okp
      · intro j p' e
        by_cases c : j < ps.length
        · rw [List.getElem?_append_left c] at e
          obtain ⟨t', a1, a2⟩ := hp j p' e
          refine ⟨t', ?_, ts5 _ _ (ts4 _ _ a2)⟩
          rw [List.getElem?_append_left (by omega)]
          exact a1
        · rw [List.getElem?_append_right (by omega)] at e
          have e0 : j - ps.length = 0 := by
            have := (List.getElem?_eq_some_iff.mp e).1
            simp at this
            omega
          rw [e0] at e
          have ep : p = p' := by simpa using e
          subst ep
          refine ⟨t, ?_, ts5 _ _ ht⟩
          rw [List.getElem?_append_right (by omega), show j - vs.length = 0 by omega]
          rfl
      · exact (D4.upd nD).mono (by omega)
      · intro b o n1 n2 e
        rw [upd_ne (ne_of_none e hD)]
        exact k4 b o n1 n2 (k3 b o n1 n2 e)
    · obtain ⟨vs, ps, l1, l2, ok, hp, eD, D3, k3⟩ := hP
      rw [Int.toNat_natCast] at l1 l2
      refine ⟨D, vs, rfl, .inl ⟨.inl (.inl eD), fun l nl => ?_⟩⟩
      have t1 : K1.TS K H3 (upd H3 l (.tup vs)) := ts_new nl
      refine q l ps _ ⟨vs, .inl (.inl upd_same), by omega, fun i p e => ?_⟩ ok (by omega) ((D3.upd (D3.not nl)).mono (by rw [Int.toNat_natCast]; omega)) ((k1.trans k3).trans (KD.of_same (same_upd nl)))
      obtain ⟨t, a1, a2⟩ := hp i p e
      exact ⟨t, a1, t1 _ _ a2⟩
end
end K3
namespace K3
open PySem PySem.Spec PyProof.Rows L2 K1
abbrev s__law_up : Stmt := topS 17
abbrev nm__law_up : List Str := ["_law_end", "_law_by"]
abbrev pm__law_up : List Str := ["_law_end", "_law_by"]
theorem sc__law_up : FnScope nm__law_up pm__law_up (defScope s__law_up) := ⟨rfl, rfl, rfl, by decide +kernel, rfl, by decide +kernel, by decide +kernel⟩
abbrev s__law_laid : Stmt := topS 18
abbrev nm__law_laid : List Str := ["_law_pieces", "_law_beginning", "_law_places", "_law_end", "_law_number"]
abbrev pm__law_laid : List Str := ["_law_pieces", "_law_beginning"]
theorem sc__law_laid : FnScope nm__law_laid pm__law_laid (defScope s__law_laid) := ⟨rfl, rfl, rfl, by decide +kernel, rfl, by decide +kernel, by decide +kernel⟩
abbrev s_rounded : Stmt := topS 1
abbrev nm_rounded : List Str := ["number", "multiple"]
abbrev pm_rounded : List Str := ["number", "multiple"]
theorem sc_rounded : FnScope nm_rounded pm_rounded (defScope s_rounded) := ⟨rfl, rfl, rfl, by decide +kernel, rfl, by decide +kernel, by decide +kernel⟩
abbrev s_laid_end : Stmt := topS 2
abbrev nm_laid_end : List Str := ["part", "end", "bits", "multiple"]
abbrev pm_laid_end : List Str := ["part", "end"]
theorem sc_laid_end : FnScope nm_laid_end pm_laid_end (defScope s_laid_end) := ⟨rfl, rfl, rfl, by decide +kernel, rfl, by decide +kernel, by decide +kernel⟩
abbrev s_end_of : Stmt := topS 3
abbrev nm_end_of : List Str := ["parts", "order", "end", "number"]
abbrev pm_end_of : List Str := ["parts", "order"]
theorem sc_end_of : FnScope nm_end_of pm_end_of (defScope s_end_of) := ⟨rfl, rfl, rfl, by decide +kernel, rfl, by decide +kernel, by decide +kernel⟩
abbrev s_bits_of : Stmt := topS 4
abbrev nm_bits_of : List Str := ["parts", "order"]
abbrev pm_bits_of : List Str := ["parts", "order"]
theorem sc_bits_of : FnScope nm_bits_of pm_bits_of (defScope s_bits_of) := ⟨rfl, rfl, rfl, by decide +kernel, rfl, by decide +kernel, by decide +kernel⟩
section
variable {P : Program} {w : World} {K : PySem.W.Frag} {mg : Str → Option Value} {base : Heap}
def sp__law_up : Sp := fun vs H Q _ => ∃ (e m : Int), vs = [.int e, .int m] ∧ AlOk m ∧ Q (.int (rup e m)) H
def sp_rounded : Sp := sp__law_up
theorem al_log {m : Int} (h : AlOk m) : m.natAbs.log2 < 9000 := by
  rcases h with rfl | rfl | rfl | rfl | rfl <;> decide +kernel
theorem ok__law_up {f : Addr} {fd : FuncData} (F : Fun K "_law_up" "_law_up" s__law_up f fd) : FnOk P w K mg base CX0 1 f fd pm__law_up sp__law_up := by
  refine F.ok sc__law_up (fun vs H Q E h => ?_) (fun cdv A outer s H vs Q E hr h => ?_)
  · obtain ⟨e, m, rfl, _⟩ := h
    rfl
  · obtain ⟨e, m, rfl, hm, q⟩ := h
    refine ⟨_, pss_one (ps_ret (pe_op op_mul (pe_op op_fdivW (pe_op op_sub (pe_op op_add (pv 0) (pv 1)) pe_int) (pv 1)) (pv 1))), ?_⟩
    have hp := hm.pos
    exact ⟨.int e, rfl, .int m, rfl, _, _, rfl, rfl, _, _, rfl, rfl, .int m, rfl, _, _, rfl, rfl, ⟨hp.1, al_log hm⟩, .int m, rfl, _, _, rfl, rfl, .inr ⟨by omega, by omega⟩, q⟩
theorem ok_rounded {f : Addr} {fd : FuncData} (F : Fun K "rounded" "rounded" s_rounded f fd) : FnOk P w K mg base CX0 1 f fd pm_rounded sp_rounded := by
  refine F.ok sc_rounded (fun vs H Q E h => ?_) (fun cdv A outer s H vs Q E hr h => ?_)
  · obtain ⟨e, m, rfl, _⟩ := h
    rfl
  · obtain ⟨e, m, rfl, hm, q⟩ := h
    refine ⟨_, pss_one (ps_ret (pe_op op_mul (pe_un un_neg (pe_op op_fdivW (pe_un un_neg (pv 0)) (pv 1))) (pv 1))), ?_⟩
    have hp := hm.pos
    rw [← rup_neg hm] at q
    exact ⟨.int e, rfl, _, rfl, .int m, rfl, _, _, rfl, rfl, ⟨hp.1, al_log hm⟩, _, rfl, .int m, rfl, _, _, rfl, rfl, .inr ⟨by omega, by omega⟩, q⟩
def sp_laid_end (K : PySem.W.Frag) : Sp := fun vs H Q _ => ∃ (t : Addr) (b m e : Int), vs = [.ref t, .int e] ∧ SqT K H t [.int b, .int m] ∧ AlOk m ∧ Q (.int (lay (b, m) e)) H
theorem ok_laid_end {f : Addr} {fd : FuncData} (F : Fun K "laid_end" "laid_end" s_laid_end f fd) (C_rounded : Cal P w K mg base "rounded" pm_rounded 1 sp_rounded) : FnOk P w K mg base CX0 2 f fd pm_laid_end (sp_laid_end K) := by
  obtain ⟨f_rounded, fd_rounded, G_rounded, g_rounded, k_rounded, b_rounded⟩ := C_rounded.ex
  refine F.ok sc_laid_end (fun vs H Q E h => ?_) (fun cdv A outer s H vs Q E hr h => ?_)
  · obtain ⟨t, b, m, e, rfl, _⟩ := h
    rfl
  · obtain ⟨t, b, m, e, rfl, ht, hm, q⟩ := h
    have rm : ∀ {j : Nat}, j ≤ 1 → Room j (A.deeper (envOfC "laid_end" (defScope s_laid_end) s.heap.objs.size f cdv)) := fun hj => hr.mono hj
    refine ⟨_, pss_cons (ps_asg (pv 0) (pg_tup (by rfl) (pgs_cons (pg_name (i := 2) sc_laid_end.nd rfl (.inl rfl)) (pgs_cons (pg_name (i := 3) sc_laid_end.nd rfl (.inl rfl)) pgs_nil))))
      (pss_one (ps_ret (pe_ifExp (pt_cmpR op_eq (pv 2) pe_int (nomark _)) (pv 1) (pe_op op_add (pe_call G_rounded (rm (by decide)) (by rfl) g_rounded k_rounded b_rounded .nil pass0 (pa_cons (pv 1) (pa_cons (pv 3) pa_nil))) (pv 2))))), ?_⟩
    refine ⟨.ref t, rfl, t, _, rfl, ht, rfl, _, _, rfl, _, _, rfl, rfl, .int b, rfl, rfl, _, rfl, ite2 (fun c => ?_) (fun c => ?_)⟩
    · have hb : b = 0 := V.int.inj (of_decide_eq_true c)
      have e1 : lay (b, m) e = e := by unfold lay; rw [if_pos hb]
      rw [e1] at q
      exact ⟨.int e, rfl, q⟩
    · have hb : b ≠ 0 := fun z => c (decide_eq_true (congrArg V.int z))
      have e1 : lay (b, m) e = rup e m + b := by unfold lay; rw [if_neg hb]
      rw [e1] at q
      exact ⟨.int e, rfl, .int m, rfl, e, m, rfl, hm, .int b, rfl, _, _, rfl, rfl, q⟩
/-- parts, an order of some of them -/
def Asked (K : PySem.W.Frag) (H : Hp) (a o : Addr) (ps : List Part) (os : List Nat) : Prop := Pts K H a ps ∧ SqT K H o (os.map natV) ∧ (∀ p ∈ ps, PtOk p) ∧ (∀ n ∈ os, n < ps.length)
def sp_end_of (K : PySem.W.Frag) : Sp := fun vs H Q _ => ∃ (a o : Addr) (ps : List Part) (os : List Nat), vs = [.ref a, .ref o] ∧ Asked K H a o ps os ∧ Q (.int (laidF ps os).2) H
def sp_bits_of (K : PySem.W.Frag) : Sp := sp_end_of K
theorem natV_at {os : List Nat} {i : Nat} {x : V} (h : (os.map natV)[i]? = some x) : ∃ n, os[i]? = some n ∧ x = natV n := by
  rw [List.getElem?_map] at h
  cases e : os[i]? with
  | none => rw [e] at h; cases h
  | some n => rw [e] at h; exact ⟨n, rfl, (Option.some.inj h).symm⟩
theorem laid_take {ps : List Part} {os : List Nat} {i n : Nat} (h : os[i]? = some n) : laidF ps (os.take (i + 1)) = step ps (laidF ps (os.take i)) n := by
  rw [List.take_add_one, h]
  exact laidF_snoc ps _ n
theorem ok_end_of {f : Addr} {fd : FuncData} (F : Fun K "end_of" "end_of" s_end_of f fd) (C_laid_end : Cal P w K mg base "laid_end" pm_laid_end 2 (sp_laid_end K)) : FnOk P w K mg base CX0 3 f fd pm_end_of (sp_end_of K) := by
  obtain ⟨f_laid_end, fd_laid_end, G_laid_end, g_laid_end, k_laid_end, b_laid_end⟩ := C_laid_end.ex
  refine F.ok sc_end_of (fun vs H Q E h => ?_) (fun cdv A outer s H vs Q E hr h => ?_)
  · obtain ⟨a, o, ps, os, rfl, _⟩ := h
    rfl
  · obtain ⟨a, o, ps, os, rfl, ⟨hP, hO, hok, hb⟩, q⟩ := h
    have rm : ∀ {j : Nat}, j ≤ 2 → Room j (A.deeper (envOfC "end_of" (defScope s_end_of) s.heap.objs.size f cdv)) := fun hj => hr.mono hj
    refine ⟨_, pss_cons (ps_set (i := 2) sc_end_of.nd rfl (.inl rfl) pe_int)
      (pss_cons (ps_for PassesOwn.never rfl (pi_tup (pv 1)) (pg_name (i := 3) sc_end_of.nd rfl (.inl rfl))
      (pss_one (ps_set (i := 2) sc_end_of.nd rfl (.inl rfl) (pe_call G_laid_end (rm (by decide)) (by rfl) g_laid_end k_laid_end b_laid_end .nil pass0 (pa_cons (pe_ix ix_tup (pv 0) (pv 3) (fun _ _ => rfl)) (pa_cons (pv 2) pa_nil))))))
      (pss_one (ps_ret (pv 2)))), ?_⟩
    refine ⟨.ref o, rfl, o, rfl, ⟨_, hO⟩, for_tup (xs := os.map natV) (fun i σ H' => ∃ x3, σ = [some (.ref a), some (.ref o), some (.int (laidF ps (os.take i)).2), x3] ∧ H' = H) ⟨none, rfl, rfl⟩ (fun i σ H' _ hp => ?_) (fun i x σ H' hx hp => ?_) (fun σ H' hp => ?_)⟩
    · obtain ⟨_, _, rfl⟩ := hp
      exact hO
    · obtain ⟨x3, rfl, rfl⟩ := hp
      obtain ⟨n, en, rfl⟩ := natV_at hx
      have hn : n < ps.length := hb n (List.mem_of_getElem? en)
      obtain ⟨vs, t, h1, h2, h3⟩ := hP.at hn
      refine ⟨.ref a, rfl, natV n, rfl, a, vs, n, .ref t, rfl, rfl, h1, h2, .int _, rfl, t, _, _, _, rfl, h3, (pt_ok hok n).2.2, ?_⟩
      refine ⟨some (natV n), ?_, rfl⟩
      rw [laid_take en, step_end]
      rfl
    · obtain ⟨x3, rfl, rfl⟩ := hp
      rw [List.length_map, List.take_length]
      exact ⟨_, rfl, q⟩
theorem ok_bits_of {f : Addr} {fd : FuncData} (F : Fun K "bits_of" "bits_of" s_bits_of f fd) (C_end_of : Cal P w K mg base "end_of" pm_end_of 3 (sp_end_of K)) : FnOk P w K mg base CX0 4 f fd pm_bits_of (sp_bits_of K) := by
  obtain ⟨f_end_of, fd_end_of, G_end_of, g_end_of, k_end_of, b_end_of⟩ := C_end_of.ex
  refine F.ok sc_bits_of (fun vs H Q E h => ?_) (fun cdv A outer s H vs Q E hr h => ?_)
  · obtain ⟨a, o, ps, os, rfl, _⟩ := h
    rfl
  · obtain ⟨a, o, ps, os, rfl, hA, q⟩ := h
    have rm : ∀ {j : Nat}, j ≤ 3 → Room j (A.deeper (envOfC "bits_of" (defScope s_bits_of) s.heap.objs.size f cdv)) := fun hj => hr.mono hj
    refine ⟨_, pss_one (ps_ret (pe_call G_end_of (rm (by decide)) (by rfl) g_end_of k_end_of b_end_of .nil pass0 (pa_cons (pv 0) (pa_cons (pv 1) pa_nil)))), ?_⟩
    exact ⟨.ref a, rfl, .ref o, rfl, a, o, ps, os, rfl, hA, q⟩
def sp__law_laid (K : PySem.W.Frag) : Sp := fun vs H Q _ => ∃ (a o : Addr) (ps : List Part) (os : List Nat), vs = [.ref a, .ref o] ∧ Asked K H a o ps os ∧ ps.length ≤ 1000 ∧
  ∀ (r t : Addr) (H' : Hp), Same H H' → SqT K H' r [.ref t, .int (laidF ps os).2] → SqT K H' t ((laidF ps os).1.map V.int) → Q (.ref r) H'
theorem rep_zero (n : Nat) : (List.replicate n [V.int 0]).flatten = (List.replicate n (0 : Int)).map V.int := by
  induction n with
  | zero => rfl
  | succ n ih => rw [List.replicate_succ, List.replicate_succ, List.flatten_cons, ih]; rfl
theorem ixN_nat {j n : Nat} (h : j < n) : ixN n (j : Int) = some j := by
  unfold ixN
  rw [if_pos (by omega), if_pos (by omega)]
  simp
theorem ok__law_laid {f : Addr} {fd : FuncData} (F : Fun K "_law_laid" "_law_laid" s__law_laid f fd) (C__law_up : Cal P w K mg base "_law_up" pm__law_up 1 sp__law_up) (m_len : mg "len" = none) (m_tuple : mg "tuple" = none) : FnOk P w K mg base CX0 2 f fd pm__law_laid (sp__law_laid K) := by
  obtain ⟨f__law_up, fd__law_up, G__law_up, g__law_up, k__law_up, b__law_up⟩ := C__law_up.ex
  refine F.ok sc__law_laid (fun vs H Q E h => ?_) (fun cdv A outer s H vs Q E hr h => ?_)
  · obtain ⟨a, o, ps, os, rfl, _⟩ := h
    rfl
  · obtain ⟨a, o, ps, os, rfl, ⟨hP, hO, hok, hb⟩, hl, q⟩ := h
    have rm : ∀ {j : Nat}, j ≤ 1 → Room j (A.deeper (envOfC "_law_laid" (defScope s__law_laid) s.heap.objs.size f cdv)) := fun hj => hr.mono hj
    refine ⟨_, pss_cons (ps_set (i := 2) sc__law_laid.nd rfl (.inl rfl) (pe_op op_rep (pe_lst (pa_cons pe_int pa_nil)) (pe_callB call_len_seq (by rfl) m_len PySem.boot_len (pa_cons (pv 0) pa_nil))))
      (pss_cons (ps_set (i := 3) sc__law_laid.nd rfl (.inl rfl) pe_int)
      (pss_cons (ps_for PassesOwn.never rfl (pi_tup (pv 1)) (pg_name (i := 4) sc__law_laid.nd rfl (.inl rfl))
      (pss_one (ps_if (pt_cmpR op_gt (pe_ix ix_tup (pe_ix ix_tup (pv 0) (pv 4) (fun _ _ => rfl)) pe_int (fun _ _ => rfl)) pe_int (nomark _))
      (pss_cons (ps_asg (pe_call G__law_up (rm (by decide)) (by rfl) g__law_up k__law_up b__law_up .nil pass0 (pa_cons (pv 3) (pa_cons (pe_ix ix_tup (pe_ix ix_tup (pv 0) (pv 4) (fun _ _ => rfl)) pe_int (fun _ _ => rfl)) pa_nil))) (pg_sub (pv 2) (pv 4) set_list))
      (pss_one (ps_set (i := 3) sc__law_laid.nd rfl (.inl rfl) (pe_op op_add (pe_ix ix_list (pv 2) (pv 4) (fun _ _ => rfl)) (pe_ix ix_tup (pe_ix ix_tup (pv 0) (pv 4) (fun _ _ => rfl)) pe_int (fun _ _ => rfl)))))) pss_nil)))
      (pss_one (ps_ret (pe_tup (pa_cons (pe_callTy call_tuple_of (by rfl) m_tuple (by decide +kernel) (pa_cons (pv 2) pa_nil)) (pa_cons (pv 3) pa_nil))))))), ?_⟩
    obtain ⟨ws, hw, lw⟩ := hP.len
    refine ⟨(by show 1 ≤ sizeLine; decide), fun z nz => ?_⟩
    have s1 : Same H (upd H z (.lst [V.int 0])) := same_upd nz
    have c1 : (upd H z (.lst [V.int 0])) z = some (.lst [V.int 0]) := upd_same
    generalize upd H z (HO.lst [V.int 0]) = H1 at s1 c1 ⊢
    refine ⟨.ref a, rfl, a, ws, rfl, .inr (ts_same s1 _ _ hw), z, _, [V.int 0], rfl, rfl, c1, by omega, by omega, ?_, fun p np => ?_⟩
    · rw [Int.toNat_natCast]
      exact Nat.le_trans (show 1 * ws.length ≤ 1000 by omega) (by decide)
    rw [Int.toNat_natCast, lw, rep_zero]
    have s2 : Same H1 (upd H1 p (.lst ((List.replicate ps.length (0 : Int)).map V.int))) := same_upd np
    have c2 : (upd H1 p (.lst ((List.replicate ps.length (0 : Int)).map V.int))) p = some (.lst ((List.replicate ps.length (0 : Int)).map V.int)) := upd_same
    generalize upd H1 p (HO.lst ((List.replicate ps.length (0 : Int)).map V.int)) = H2 at s2 c2 ⊢
    have np0 : H p = none := s1.free np
    refine ⟨.ref o, rfl, o, rfl, ⟨_, ts_same (s1.trans s2) _ _ hO⟩, for_tup (xs := os.map natV) (fun i σ H' => ∃ x4, σ = [some (.ref a), some (.ref o), some (.ref p), some (.int (laidF ps (os.take i)).2), x4] ∧ H' p = some (.lst ((laidF ps (os.take i)).1.map V.int)) ∧ Same H H') ⟨none, rfl, c2, s1.trans s2⟩ (fun i σ H' _ hp => ?_) (fun i x σ H' hx hp => ?_) (fun σ H' hp => ?_)⟩
    · obtain ⟨_, _, _, s'⟩ := hp
      exact ts_same s' _ _ hO
    · obtain ⟨x4, rfl, eP, s'⟩ := hp
      obtain ⟨n, en, rfl⟩ := natV_at hx
      have hn : n < ps.length := hb n (List.mem_of_getElem? en)
      obtain ⟨vs, t, h1, h2, h3⟩ := (hP.ts (ts_same s')).at hn
      have okn := pt_ok hok n
      have lst := laidF_len ps (os.take i)
      generalize hst : laidF ps (os.take i) = st at eP lst ⊢
      have hst2 : laidF ps (os.take (i + 1)) = step ps st n := by rw [laid_take en, hst]
      refine ⟨.ref a, rfl, natV n, rfl, a, vs, n, .ref t, rfl, rfl, h1, h2, t, _, 0, _, rfl, rfl, h3, atI_nat (j := 0) rfl, _, _, rfl, rfl, _, rfl, ite2 (fun c => ?_) (fun c => ?_)⟩
      · have hpos : 0 < (pt ps n).1 := of_decide_eq_true c
        have hz : (pt ps n).1 ≠ 0 := by omega
        have e2 : step ps st n = (st.1.set n (rup st.2 (pt ps n).2), rup st.2 (pt ps n).2 + (pt ps n).1) := by unfold step; rw [if_neg hz]
        refine ⟨.int st.2, rfl, .ref a, rfl, natV n, rfl, a, vs, n, .ref t, rfl, rfl, h1, h2, t, _, 1, _, rfl, rfl, h3, atI_nat (j := 1) rfl, _, _, rfl, okn.2.2, ?_⟩
        refine ⟨.ref p, rfl, natV n, rfl, p, _, n, n, rfl, rfl, eP, ?_, ?_⟩
        · rw [List.length_map]; exact ixN_nat (by omega)
        rw [← List.map_set]
        have s3 : Same H (upd H' p (.lst ((st.1.set n (rup st.2 (pt ps n).2)).map V.int))) := fun b u e => by
          rw [upd_ne (ne_of_none e np0)]
          exact s' b u e
        have t3 : K1.TS K H' (upd H' p (.lst ((st.1.set n (rup st.2 (pt ps n).2)).map V.int))) := ts_lst eP
        have c3 : (upd H' p (.lst ((st.1.set n (rup st.2 (pt ps n).2)).map V.int))) p = some (.lst ((st.1.set n (rup st.2 (pt ps n).2)).map V.int)) := upd_same
        generalize upd H' p (HO.lst ((st.1.set n (rup st.2 (pt ps n).2)).map V.int)) = H3 at s3 t3 c3 ⊢
        have g3 : ((st.1.set n (rup st.2 (pt ps n).2)).map V.int)[n]? = some (.int (rup st.2 (pt ps n).2)) := by
          rw [List.getElem?_map, List.getElem?_set_self (by omega)]
          rfl
        refine ⟨.ref p, rfl, natV n, rfl, p, _, n, _, rfl, rfl, .inl (.inl c3), atI_nat g3, .ref a, rfl, natV n, rfl, a, vs, n, .ref t, rfl, rfl, t3 _ _ h1, h2, t, _, 0, _, rfl, rfl, t3 _ _ h3, atI_nat (j := 0) rfl, _, _, rfl, rfl, ?_⟩
        refine ⟨some (natV n), ?_, ?_, s3⟩
        · rw [hst2, e2]; rfl
        · rw [hst2, e2]; exact c3
      · have hz : (pt ps n).1 = 0 := by
          have h0 := okn.1
          have : ¬ 0 < (pt ps n).1 := fun z => c (decide_eq_true z)
          omega
        have e2 : step ps st n = st := by unfold step; rw [if_pos hz]
        refine ⟨some (natV n), ?_, ?_, s'⟩
        · rw [hst2, e2]; rfl
        · rw [hst2, e2]; exact eP
    · obtain ⟨x4, rfl, eP, s'⟩ := hp
      rw [List.length_map, List.take_length] at eP ⊢
      refine ⟨.ref p, rfl, p, _, rfl, .inl ⟨.inl (.inl eP), fun t nt => ?_⟩⟩
      refine ⟨_, rfl, (by show 2 ≤ sizeLine; decide), fun r nr => ?_⟩
      exact q r t _ ((s'.trans (same_upd nt)).trans (same_upd nr)) (.inl (.inl upd_same)) (ts_new nr _ _ (.inl (.inl upd_same)))
end
end K3
namespace K3
open PySem PySem.Spec PyProof.Rows L2 K1
abbrev s_left_of : Stmt := topS 5
abbrev nm_left_of : List Str := ["parts", "beginning", "number"]
abbrev pm_left_of : List Str := ["parts", "beginning"]
theorem sc_left_of : FnScope nm_left_of pm_left_of (defScope s_left_of) := ⟨rfl, rfl, rfl, by decide +kernel, rfl, by decide +kernel, by decide +kernel⟩
abbrev s_is_cut : Stmt := topS 6
abbrev nm_is_cut : List Str := ["parts", "beginning", "bits", "others", "number"]
abbrev pm_is_cut : List Str := ["parts", "beginning", "bits"]
theorem sc_is_cut : FnScope nm_is_cut pm_is_cut (defScope s_is_cut) := ⟨rfl, rfl, rfl, by decide +kernel, rfl, by decide +kernel, by decide +kernel⟩
section
variable {P : Program} {w : World} {K : PySem.W.Frag} {mg : Str → Option Value} {base : Heap}
theorem inV_nat (k : Nat) (bs : List Nat) : inV (natV k) (bs.map natV) = decide (k ∈ bs) := by
  unfold inV
  induction bs with
  | nil => simp
  | cons b bs ih =>
    rw [List.map_cons, List.any_cons, ih]
    show (((b : Int) == (k : Int)) || decide (k ∈ bs)) = decide (k ∈ b :: bs)
    by_cases h : k = b
    · subst h; simp
    · have h2 : ¬ (b : Int) = (k : Int) := fun z => h (by omega)
      have h3 : ((b : Int) == (k : Int)) = false := by simpa using h2
      rw [h3, Bool.false_or]
      simp [h]
theorem flat_nats (bs : List Nat) : (bs.map natV).all flatV = true := by
  rw [List.all_eq_true]
  intro x hx
  obtain ⟨k, _, rfl⟩ := List.mem_map.mp hx
  rfl
def sp_left_of (K : PySem.W.Frag) : Sp := fun vs H Q _ => ∃ (a o : Addr) (ps : List Part) (bs : List Nat), vs = [.ref a, .ref o] ∧ Pts K H a ps ∧ SqT K H o (bs.map natV) ∧ ps.length ≤ 1000 ∧
  ∀ (l : Addr) (H' : Hp), Same H H' → H l = none → H' l = some (.lst ((leftN ps.length bs).map natV)) → Q (.ref l) H'
theorem ok_left_of {f : Addr} {fd : FuncData} (F : Fun K "left_of" "left_of" s_left_of f fd) (m_range : mg "range" = none) (m_len : mg "len" = none) : FnOk P w K mg base CX0 1 f fd pm_left_of (sp_left_of K) := by
  refine F.ok sc_left_of (fun vs H Q E h => ?_) (fun cdv A outer s H vs Q E hr h => ?_)
  · obtain ⟨a, o, ps, bs, rfl, _⟩ := h
    rfl
  · obtain ⟨a, o, ps, bs, rfl, hP, hO, hl, q⟩ := h
    refine ⟨_, pss_one (ps_ret (pe_lc (own := [("number", 2)]) (g := gName 2) rfl sc_left_of.nd (pi_range1 (by rfl) m_range (pa_cons (pe_callB call_len_seq (by rfl) m_len PySem.boot_len (pa_cons (pv 0) pa_nil)) pa_nil)) (blkOk_by (N := nm_left_of) (sc := defScope s_left_of) (by decide +kernel)) (fun _ _ _ _ _ => pg_name (i := 2) sc_left_of.nd rfl (Or.inl rfl)) (fun _ _ _ _ _ => (pts_one (pt_cmpR (show OpR _ (compareOp .NotIn) (rIn K true) from op_notIn_seq) (pv 2) (pv 1) (by rfl)))) (fun _ _ _ _ _ => (pv 2)))), ?_⟩
    obtain ⟨ws, hw, lw⟩ := hP.len
    refine ⟨.ref a, rfl, a, ws, rfl, .inr hw, (ws.length : Nat), rfl, by omega, by omega, fun D hD => lc_range (lo := 0) (n := ((ws.length : Nat) : Int).toNat) (fun i H' => H' D = some (.lst ((leftN i bs).map natV)) ∧ Same H H') ⟨upd_same, same_upd hD⟩ (fun i H' hi hp => ?_) (fun H' hp => ?_)⟩
    · obtain ⟨eD, s'⟩ := hp
      rw [Int.toNat_natCast] at hi
      have e0 : (0 : Int) + (i : Int) = (i : Int) := Int.zero_add _
      rw [e0]
      refine ⟨rfl, natV i, rfl, .ref o, rfl, o, _, rfl, .inr (ts_same s' _ _ hO), rfl, flat_nats bs, _, rfl, ?_⟩
      rw [if_pos rfl, inV_nat]
      refine ite2 (fun c => ?_) (fun c => ?_)
      · have nb : i ∉ bs := by simpa using c
        have hll := leftN_len i bs
        refine ⟨natV i, rfl, _, eD, ?_, ?_, ?_⟩
        · rw [List.length_map]
          exact Nat.lt_of_le_of_lt (show (leftN i bs).length ≤ 1000 by omega) (by decide)
        · rw [leftN_succ, if_pos nb, List.map_append]
          exact upd_same
        · intro b u e
          rw [upd_ne (ne_of_none e hD)]
          exact s' b u e
      · have nb : i ∈ bs := by simpa using c
        rw [leftN_succ, if_neg (fun z => z nb)]
        exact ⟨eD, s'⟩
    · obtain ⟨eD, s'⟩ := hp
      rw [Int.toNat_natCast, lw] at eD
      exact q D H' s' hD eD
def sp_is_cut (K : PySem.W.Frag) : Sp := fun vs H Q _ => ∃ (a o : Addr) (ps : List Part) (bs : List Nat) (bits : Int), vs = [.ref a, .ref o, .int bits] ∧ Asked K H a o ps bs ∧ ps.length ≤ 1000 ∧ ∀ H', Same H H' → Q (.bl (cutF ps bs bits)) H'
theorem ok_is_cut {f : Addr} {fd : FuncData} (F : Fun K "is_cut" "is_cut" s_is_cut f fd) (C_end_of : Cal P w K mg base "end_of" pm_end_of 3 (sp_end_of K)) (C_left_of : Cal P w K mg base "left_of" pm_left_of 1 (sp_left_of K)) (m_sum : mg "sum" = none) : FnOk P w K mg base CX0 4 f fd pm_is_cut (sp_is_cut K) := by
  obtain ⟨f_end_of, fd_end_of, G_end_of, g_end_of, k_end_of, b_end_of⟩ := C_end_of.ex
  obtain ⟨f_left_of, fd_left_of, G_left_of, g_left_of, k_left_of, b_left_of⟩ := C_left_of.ex
  refine F.ok sc_is_cut (fun vs H Q E h => ?_) (fun cdv A outer s H vs Q E hr h => ?_)
  · obtain ⟨a, o, ps, bs, bits, rfl, _⟩ := h
    rfl
  · obtain ⟨a, o, ps, bs, bits, rfl, ⟨hP, hO, hok, hb⟩, hl, q⟩ := h
    have rm : ∀ {j : Nat}, j ≤ 3 → Room j (A.deeper (envOfC "is_cut" (defScope s_is_cut) s.heap.objs.size f cdv)) := fun hj => hr.mono hj
    refine ⟨_, pss_cons (ps_set (i := 3) sc_is_cut.nd rfl (.inl rfl) (pe_callB (cr_sum rfl) (by rfl) m_sum (by decide +kernel) (pa_cons (pe_lc (own := [("number", 4)]) (g := gName 4) (tt := tYes) rfl sc_is_cut.nd (pi_list (pe_call G_left_of (rm (by decide)) (by rfl) g_left_of k_left_of b_left_of .nil pass0 (pa_cons (pv 0) (pa_cons (pv 1) pa_nil)))) (blkOk_by (N := nm_is_cut) (sc := defScope s_is_cut) (by decide +kernel)) (fun _ _ _ _ _ => pg_name (i := 4) sc_is_cut.nd rfl (Or.inl rfl)) (fun _ _ _ _ _ => pts_nil) (fun _ _ _ _ _ => (pe_ix (show IxR _ (rIxT K) from ix_tup) (pe_ix (show IxR _ (rIxT K) from ix_tup) (pv 0) (pv 4) (fun _ _ => rfl)) pe_int (fun _ _ => rfl)))) pa_nil)))
      (pss_one (ps_ret (pe_cmpR op_ge (pe_op op_add (pe_call G_end_of (rm (by decide)) (by rfl) g_end_of k_end_of b_end_of .nil pass0 (pa_cons (pv 0) (pa_cons (pv 1) pa_nil))) (pv 3)) (pv 2) (nomark _)))), ?_⟩
    refine ⟨.ref a, rfl, .ref o, rfl, a, o, ps, bs, rfl, hP, hO, hl, fun l H1 s1 nl el => ?_⟩
    have hll := leftN_len ps.length bs
    have hS : SqL K H1 l ((leftN ps.length bs).map natV) := .inl (.inl el)
    refine ⟨l, rfl, ⟨_, hS⟩, fun D hD => lc_list (xs := (leftN ps.length bs).map natV) (fun i H' => H' D = some (.lst ((((leftN ps.length bs).take i).map fun k => (pt ps k).1).map V.int)) ∧ Same H1 H') ⟨upd_same, same_upd hD⟩ (fun i H' _ hp => .inl (.inl (hp.2 _ _ el))) (fun i x H' hx hp => ?_) (fun H' hp => ?_)⟩
    · obtain ⟨eD, s'⟩ := hp
      obtain ⟨n, en, rfl⟩ := natV_at hx
      have hn : n < ps.length := (mem_leftN.mp (List.mem_of_getElem? en)).1
      have hi := (List.getElem?_eq_some_iff.mp en).1
      obtain ⟨vs, t, h1, h2, h3⟩ := (hP.ts (ts_same (s1.trans s'))).at hn
      refine ⟨rfl, ?_⟩
      dsimp only [tYes]
      refine iteT ?_
      refine ⟨.ref a, rfl, natV n, rfl, a, vs, n, .ref t, rfl, rfl, h1, h2, t, _, 0, _, rfl, rfl, h3, atI_nat (j := 0) rfl, _, eD, ?_, ?_, ?_⟩
      · rw [List.length_map, List.length_map, List.length_take]
        exact Nat.lt_of_le_of_lt (show min i (leftN ps.length bs).length ≤ 1000 by omega) (by decide)
      · rw [List.take_add_one, en, upd_same, List.map_append, List.map_append]
        rfl
      · intro b u e
        rw [upd_ne (ne_of_none e hD)]
        exact s' b u e
    · obtain ⟨eD, s'⟩ := hp
      rw [List.length_map, List.take_length] at eD
      refine ⟨D, _, rfl, .inl (.inl eD), ?_⟩
      have s2 : Same H H' := s1.trans s'
      refine ⟨.ref a, rfl, .ref o, rfl, a, o, ps, bs, rfl, ⟨hP.ts (ts_same s2), ts_same s2 _ _ hO, hok, hb⟩, ?_⟩
      exact ⟨.int _, rfl, _, _, rfl, rfl, .int bits, rfl, _, _, rfl, rfl, q H' s2⟩
def BgP (K : PySem.W.Frag) (H : Hp) (v : V) (s : List Nat) : Prop := ∃ t, v = .ref t ∧ SqT K H t (s.map natV)
abbrev BgA (K : PySem.W.Frag) (H : Hp) : List V → List (List Nat) → Prop := Paired (BgP K H)
theorem BgA.ts {H H1 : Hp} {vs : List V} {ss : List (List Nat)} (h : BgA K H vs ss) (s : K1.TS K H H1) : BgA K H1 vs ss := Paired.mapP h fun _ _ ⟨t, e, z⟩ => ⟨t, e, s _ _ z⟩
def natsD (b : List Nat) : PyData := .tuple (b.map fun (n : Nat) => PyData.int (n : Int))
theorem nats_dp {H : Hp} : ∀ b : List Nat, DpAll K H (b.map natV) (b.map fun (n : Nat) => PyData.int (n : Int))
  | [] => .nil
  | x :: b => .cons (.int _) (nats_dp b)
def resD : Option (List Nat) → PyData
  | none => .none
  | some b => natsD b
def bitsD : PyData := .tuple [.str "bits", .tuple []]
def treeD : Option (List Nat) → PyData
  | none => .none
  | some b => .tuple [.str "tree", natsD b]
def faultD (ps : List Part) (os : List Nat) (bits : Int) (d : PyData) : PyData := if (laidF ps os).2 = bits then treeD (wrT ps bits d []) else bitsD
theorem nats_pl (b : List Nat) : pl (natsD b) = true := plA_of fun d h => by
  obtain ⟨x, _, rfl⟩ := List.mem_map.mp h
  rfl
/-- parts, a paper of them whose order is one -/
structure Paper (K : PySem.W.Frag) (H : Hp) (a p : Addr) (ps : List Part) (os : List Nat) (bits : Int) (d : PyData) : Prop where
  ex : ∃ (o : Addr) (tv : V), SqT K H p [.int bits, .ref o, tv] ∧ SqT K H o (os.map natV) ∧ Dp K H tv d
  pts : Pts K H a ps
  ok : ∀ q ∈ ps, PtOk q
  len : ps.length ≤ 8
  perm : os.Perm (List.range ps.length)
  pl : pl d = true
  sz : sz d ≤ 1000000
theorem Paper.ts {H H1 : Hp} {a p : Addr} {ps : List Part} {os : List Nat} {bits : Int} {d : PyData} (h : Paper K H a p ps os bits d) (s : K1.TS K H H1) : Paper K H1 a p ps os bits d := by
  obtain ⟨⟨o, tv, h1, h2, h3⟩, h4, h5, h6, h7, h8, h9⟩ := h
  exact ⟨⟨o, tv, s _ _ h1, s _ _ h2, s.dp _ _ h8 h3⟩, h4.ts s, h5, h6, h7, h8, h9⟩
end
end K3
namespace K3
open PySem PySem.Spec PyProof.Rows L2 K1
abbrev s__law_left : Stmt := topS 20
abbrev nm__law_left : List Str := ["_law_pieces", "_law_beginning", "_law_k"]
abbrev pm__law_left : List Str := ["_law_pieces", "_law_beginning"]
theorem sc__law_left : FnScope nm__law_left pm__law_left (defScope s__law_left) := ⟨rfl, rfl, rfl, by decide +kernel, rfl, by decide +kernel, by decide +kernel⟩
abbrev s__law_cut : Stmt := topS 21
abbrev nm__law_cut : List Str := ["_law_pieces", "_law_bits", "_law_beginning", "_law_more", "_law_k"]
abbrev pm__law_cut : List Str := ["_law_pieces", "_law_bits", "_law_beginning"]
theorem sc__law_cut : FnScope nm__law_cut pm__law_cut (defScope s__law_cut) := ⟨rfl, rfl, rfl, by decide +kernel, rfl, by decide +kernel, by decide +kernel⟩
section
variable {P : Program} {w : World} {K : PySem.W.Frag} {mg : Str → Option Value} {base : Heap}
theorem ok__law_left {f : Addr} {fd : FuncData} (F : Fun K "_law_left" "_law_left" s__law_left f fd) (m_range : mg "range" = none) (m_len : mg "len" = none) : FnOk P w K mg base CX0 1 f fd pm__law_left (sp_left_of K) := by
  refine F.ok sc__law_left (fun vs H Q E h => ?_) (fun cdv A outer s H vs Q E hr h => ?_)
  · obtain ⟨a, o, ps, bs, rfl, _⟩ := h
    rfl
  · obtain ⟨a, o, ps, bs, rfl, hP, hO, hl, q⟩ := h
    refine ⟨_, pss_one (ps_ret (pe_lc (own := [("_law_k", 2)]) (g := gName 2) rfl sc__law_left.nd (pi_range1 (by rfl) m_range (pa_cons (pe_callB call_len_seq (by rfl) m_len PySem.boot_len (pa_cons (pv 0) pa_nil)) pa_nil)) (blkOk_by (N := nm__law_left) (sc := defScope s__law_left) (by decide +kernel)) (fun _ _ _ _ _ => pg_name (i := 2) sc__law_left.nd rfl (Or.inl rfl)) (fun _ _ _ _ _ => (pts_one (pt_cmpR (show OpR _ (compareOp .NotIn) (rIn K true) from op_notIn_seq) (pv 2) (pv 1) (by rfl)))) (fun _ _ _ _ _ => (pv 2)))), ?_⟩
    obtain ⟨ws, hw, lw⟩ := hP.len
    refine ⟨.ref a, rfl, a, ws, rfl, .inr hw, (ws.length : Nat), rfl, by omega, by omega, fun D hD => lc_range (lo := 0) (n := ((ws.length : Nat) : Int).toNat) (fun i H' => H' D = some (.lst ((leftN i bs).map natV)) ∧ Same H H') ⟨upd_same, same_upd hD⟩ (fun i H' hi hp => ?_) (fun H' hp => ?_)⟩
    · obtain ⟨eD, s'⟩ := hp
      rw [Int.toNat_natCast] at hi
      have e0 : (0 : Int) + (i : Int) = (i : Int) := Int.zero_add _
      rw [e0]
      refine ⟨rfl, natV i, rfl, .ref o, rfl, o, _, rfl, .inr (ts_same s' _ _ hO), rfl, flat_nats bs, _, rfl, ?_⟩
      rw [if_pos rfl, inV_nat]
      refine ite2 (fun c => ?_) (fun c => ?_)
      · have nb : i ∉ bs := by simpa using c
        have hll := leftN_len i bs
        refine ⟨natV i, rfl, _, eD, ?_, ?_, ?_⟩
        · rw [List.length_map]
          exact Nat.lt_of_le_of_lt (show (leftN i bs).length ≤ 1000 by omega) (by decide)
        · rw [leftN_succ, if_pos nb, List.map_append]
          exact upd_same
        · intro b u e
          rw [upd_ne (ne_of_none e hD)]
          exact s' b u e
      · have nb : i ∈ bs := by simpa using c
        rw [leftN_succ, if_neg (fun z => z nb)]
        exact ⟨eD, s'⟩
    · obtain ⟨eD, s'⟩ := hp
      rw [Int.toNat_natCast, lw] at eD
      exact q D H' s' hD eD
def sp__law_cut (K : PySem.W.Frag) : Sp := fun vs H Q _ => ∃ (a o : Addr) (ps : List Part) (bs : List Nat) (bits : Int), vs = [.ref a, .int bits, .ref o] ∧ Asked K H a o ps bs ∧ ps.length ≤ 1000 ∧ ∀ H', Same H H' → Q (.bl (cutF ps bs bits)) H'
theorem ok__law_cut {f : Addr} {fd : FuncData} (F : Fun K "_law_cut" "_law_cut" s__law_cut f fd) (C__law_left : Cal P w K mg base "_law_left" pm__law_left 1 (sp_left_of K)) (C__law_laid : Cal P w K mg base "_law_laid" pm__law_laid 2 (sp__law_laid K)) (m_sum : mg "sum" = none) : FnOk P w K mg base CX0 3 f fd pm__law_cut (sp__law_cut K) := by
  obtain ⟨f__law_left, fd__law_left, G__law_left, g__law_left, k__law_left, b__law_left⟩ := C__law_left.ex
  obtain ⟨f__law_laid, fd__law_laid, G__law_laid, g__law_laid, k__law_laid, b__law_laid⟩ := C__law_laid.ex
  refine F.ok sc__law_cut (fun vs H Q E h => ?_) (fun cdv A outer s H vs Q E hr h => ?_)
  · obtain ⟨a, o, ps, bs, bits, rfl, _⟩ := h
    rfl
  · obtain ⟨a, o, ps, bs, bits, rfl, ⟨hP, hO, hok, hb⟩, hl, q⟩ := h
    have rm : ∀ {j : Nat}, j ≤ 2 → Room j (A.deeper (envOfC "_law_cut" (defScope s__law_cut) s.heap.objs.size f cdv)) := fun hj => hr.mono hj
    refine ⟨_, pss_cons (ps_set (i := 3) sc__law_cut.nd rfl (.inl rfl) (pe_callB (cr_sum rfl) (by rfl) m_sum (by decide +kernel) (pa_cons (pe_lc (own := [("_law_k", 4)]) (g := gName 4) (tt := tYes) rfl sc__law_cut.nd (pi_list (pe_call G__law_left (rm (by decide)) (by rfl) g__law_left k__law_left b__law_left .nil pass0 (pa_cons (pv 0) (pa_cons (pv 2) pa_nil)))) (blkOk_by (N := nm__law_cut) (sc := defScope s__law_cut) (by decide +kernel)) (fun _ _ _ _ _ => pg_name (i := 4) sc__law_cut.nd rfl (Or.inl rfl)) (fun _ _ _ _ _ => pts_nil) (fun _ _ _ _ _ => (pe_ix (show IxR _ (rIxT K) from ix_tup) (pe_ix (show IxR _ (rIxT K) from ix_tup) (pv 0) (pv 4) (fun _ _ => rfl)) pe_int (fun _ _ => rfl)))) pa_nil)))
      (pss_one (ps_ret (pe_cmpR op_ge (pe_op op_add (pe_ix ix_tup (pe_call G__law_laid (rm (by decide)) (by rfl) g__law_laid k__law_laid b__law_laid .nil pass0 (pa_cons (pv 0) (pa_cons (pv 2) pa_nil))) pe_int (fun _ _ => rfl)) (pv 3)) (pv 1) (nomark _)))), ?_⟩
    refine ⟨.ref a, rfl, .ref o, rfl, a, o, ps, bs, rfl, hP, hO, hl, fun l H1 s1 nl el => ?_⟩
    have hll := leftN_len ps.length bs
    have hS : SqL K H1 l ((leftN ps.length bs).map natV) := .inl (.inl el)
    refine ⟨l, rfl, ⟨_, hS⟩, fun D hD => lc_list (xs := (leftN ps.length bs).map natV) (fun i H' => H' D = some (.lst ((((leftN ps.length bs).take i).map fun k => (pt ps k).1).map V.int)) ∧ Same H1 H') ⟨upd_same, same_upd hD⟩ (fun i H' _ hp => .inl (.inl (hp.2 _ _ el))) (fun i x H' hx hp => ?_) (fun H' hp => ?_)⟩
    · obtain ⟨eD, s'⟩ := hp
      obtain ⟨n, en, rfl⟩ := natV_at hx
      have hn : n < ps.length := (mem_leftN.mp (List.mem_of_getElem? en)).1
      have hi := (List.getElem?_eq_some_iff.mp en).1
      obtain ⟨vs, t, h1, h2, h3⟩ := (hP.ts (ts_same (s1.trans s'))).at hn
      refine ⟨rfl, ?_⟩
      dsimp only [tYes]
      refine iteT ?_
      refine ⟨.ref a, rfl, natV n, rfl, a, vs, n, .ref t, rfl, rfl, h1, h2, t, _, 0, _, rfl, rfl, h3, atI_nat (j := 0) rfl, _, eD, ?_, ?_, ?_⟩
      · rw [List.length_map, List.length_map, List.length_take]
        exact Nat.lt_of_le_of_lt (show min i (leftN ps.length bs).length ≤ 1000 by omega) (by decide)
      · rw [List.take_add_one, en, upd_same, List.map_append, List.map_append]
        rfl
      · intro b u e
        rw [upd_ne (ne_of_none e hD)]
        exact s' b u e
    · obtain ⟨eD, s'⟩ := hp
      rw [List.length_map, List.take_length] at eD
      refine ⟨D, _, rfl, .inl (.inl eD), ?_⟩
      have s2 : Same H H' := s1.trans s'
      refine ⟨.ref a, rfl, .ref o, rfl, a, o, ps, bs, rfl, ⟨hP.ts (ts_same s2), ts_same s2 _ _ hO, hok, hb⟩, hl, fun r t H3 s3 hr3 _ => ?_⟩
      exact ⟨r, _, 1, _, rfl, rfl, hr3, atI_nat (j := 1) rfl, .int _, rfl, _, _, rfl, rfl, .int bits, rfl, _, _, rfl, rfl, q H3 (s2.trans s3)⟩
end
end K3
namespace K3
open PySem PySem.Spec PyProof.Rows L2 K1
abbrev s_first_fewest : Stmt := topS 7
abbrev nm_first_fewest : List Str := ["parts", "best", "least", "left", "beginning", "number"]
abbrev pm_first_fewest : List Str := ["parts"]
theorem sc_first_fewest : FnScope nm_first_fewest pm_first_fewest (defScope s_first_fewest) := ⟨rfl, rfl, rfl, by decide +kernel, rfl, by decide +kernel, by decide +kernel⟩
abbrev s_grown_tree : Stmt := topS 8
abbrev nm_grown_tree : List Str := ["parts", "beginning", "bits", "number"]
abbrev pm_grown_tree : List Str := ["parts", "beginning", "bits"]
theorem sc_grown_tree : FnScope nm_grown_tree pm_grown_tree (defScope s_grown_tree) := ⟨rfl, rfl, rfl, by decide +kernel, rfl, by decide +kernel, by decide +kernel⟩
abbrev s_fewest : Stmt := topS 9
abbrev nm_fewest : List Str := ["parts", "order", "bits"]
abbrev pm_fewest : List Str := ["parts"]
theorem sc_fewest : FnScope nm_fewest pm_fewest (defScope s_fewest) := ⟨rfl, rfl, rfl, by decide +kernel, rfl, by decide +kernel, by decide +kernel⟩
section
variable {P : Program} {w : World} {K : PySem.W.Frag} {mg : Str → Option Value} {base : Heap}
def kids (n : Nat) (s : List Nat) : List (List Nat) := (leftN n s).reverse.map fun k => s ++ [k]
def tExt (K : PySem.W.Frag) (H : Hp) (a : Addr) (ps : List Part) : L2.TS := fun D σ H' => ∃ (bo l t : Addr) (best : List Nat) (ss : List (List Nat)) (s : List Nat) (vs : List V),
  σ = [some (.ref a), some (.ref bo), some (.int (laidF ps best).2), some (.ref l), some (.ref t), none] ∧ H l = none ∧ H' l = some (.lst vs) ∧ BgA K H' vs ss ∧ SqT K H' t (s.map natV) ∧ SqT K H' bo (best.map natV) ∧ Pts K H a ps ∧ Same H H' ∧ ps.length ≤ 100 ∧ vs.length ≤ 1000 ∧ s.length ≤ 100 ∧
  ∀ (H2 : Hp) (vs2 : List V), H2 l = some (.lst vs2) → BgA K H2 vs2 (ss ++ kids ps.length s) → SqT K H2 bo (best.map natV) → Same H H2 → D.nx [some (.ref a), some (.ref bo), some (.int (laidF ps best).2), some (.ref l), some (.ref t), none] H2
def sp_first_fewest (K : PySem.W.Frag) : Sp := fun vs H Q _ => ∃ (a : Addr) (ps : List Part), vs = [.ref a] ∧ Pts K H a ps ∧ (∀ p ∈ ps, PtOk p) ∧ ps.length ≤ 5 ∧
  ∀ (o : Addr) (os : List Nat) (H' : Hp), Same H H' → SqT K H' o (os.map natV) → os.Perm (List.range ps.length) → Least ps (laidF ps os).2 → FirstOf ps os → Q (.ref o) H'
def WF (K : PySem.W.Frag) (H : Hp) (a l : Addr) (ps : List Part) (m : Nat) (σ : L2.St) (H' : Hp) : Prop :=
  ∃ (bo : Addr) (best : List Nat) (ss : List (List Nat)) (vs : List V) (x4 : Option V), σ = [some (.ref a), some (.ref bo), some (.int (laidF ps best).2), some (.ref l), x4, none] ∧ H' l = some (.lst vs) ∧ BgA K H' vs ss ∧ SqT K H' bo (best.map natV) ∧ FSeek ps ss best ∧ m = wt ps.length ss ∧ m ≤ 326 ∧ Same H H'
theorem wt_one (n : Nat) (s : List Nat) : wt n [s] = cnt (n - s.length) := by simp [wt]
theorem wt_kid {n : Nat} {s : List Nat} (hb : Beg n s) : wt n (kids n s) < wt n [s] := by
  unfold kids
  rw [wt_kids, wt_one, List.length_reverse]
  have h := beg_len hb
  cases e : (leftN n s).length with
  | zero => rw [Nat.zero_mul]; exact cnt_pos _
  | succ r =>
    have e1 : n - s.length = r + 1 := by omega
    have e2 : n - (s.length + 1) = r := by omega
    rw [e1, e2]
    show (r + 1) * cnt r < 1 + (r + 1) * cnt r
    omega
theorem emp_bg {H : Hp} {vs : List V} {ss : List (List Nat)} (h : BgA K H vs ss) : vs.isEmpty = ss.isEmpty := emp_iff h
theorem ok_first_fewest {f : Addr} {fd : FuncData} (F : Fun K "first_fewest" "first_fewest" s_first_fewest f fd) (C_end_of : Cal P w K mg base "end_of" pm_end_of 3 (sp_end_of K)) (C_is_cut : Cal P w K mg base "is_cut" pm_is_cut 4 (sp_is_cut K)) (C_left_of : Cal P w K mg base "left_of" pm_left_of 1 (sp_left_of K)) (m_tuple : mg "tuple" = none) (m_range : mg "range" = none) (m_len : mg "len" = none) : FnOk P w K mg base CX0 5 f fd pm_first_fewest (sp_first_fewest K) := by
  obtain ⟨f_end_of, fd_end_of, G_end_of, g_end_of, k_end_of, b_end_of⟩ := C_end_of.ex
  obtain ⟨f_is_cut, fd_is_cut, G_is_cut, g_is_cut, k_is_cut, b_is_cut⟩ := C_is_cut.ex
  obtain ⟨f_left_of, fd_left_of, G_left_of, g_left_of, k_left_of, b_left_of⟩ := C_left_of.ex
  refine F.ok sc_first_fewest (fun vs H Q E h => ?_) (fun cdv A outer s H vs Q E hr h => ?_)
  · obtain ⟨a, ps, rfl, _⟩ := h
    rfl
  · obtain ⟨a, ps, rfl, hP, hok, hl, q⟩ := h
    have rm : ∀ {j : Nat}, j ≤ 4 → Room j (A.deeper (envOfC "first_fewest" (defScope s_first_fewest) s.heap.objs.size f cdv)) := fun hj => hr.mono hj
    refine ⟨_, pss_cons (ps_set (i := 1) sc_first_fewest.nd rfl (.inl rfl) (pe_tupRg rfl (by rfl) m_tuple (prg_1 (by rfl) m_range (pe_callB call_len_seq (by rfl) m_len PySem.boot_len (pa_cons (pv 0) pa_nil)))))
      (pss_cons (ps_set (i := 2) sc_first_fewest.nd rfl (.inl rfl) (pe_call G_end_of (rm (by decide)) (by rfl) g_end_of k_end_of b_end_of .nil pass0 (pa_cons (pv 0) (pa_cons (pv 1) pa_nil))))
      (pss_cons (ps_set (i := 3) sc_first_fewest.nd rfl (.inl rfl) (pe_lst (pa_cons (pe_tup pa_nil) pa_nil)))
      (pss_cons (ps_while PassesOwn.never (pt_truth (pv 3) (by intro _; rfl))
      (pss_cons (ps_set (i := 4) sc_first_fewest.nd rfl (.inr rfl) (pe_bm0 PySem.F.plainAttrs_list PySem.F.slot_list_pop PySem.F.type_list_pop mt_pop (pv 3)))
      (pss_cons (ps_if (pt_val (pe_call G_is_cut (rm (by decide)) (by rfl) g_is_cut k_is_cut b_is_cut .nil pass0 (pa_cons (pv 0) (pa_cons (pv 4) (pa_cons (pv 2) pa_nil)))))
      (pss_one ps_continue) pss_nil)
      (pss_cons (ps_if (pt_cmpR op_eq (pe_callB call_len_seq (by rfl) m_len PySem.boot_len (pa_cons (pv 4) pa_nil)) (pe_callB call_len_seq (by rfl) m_len PySem.boot_len (pa_cons (pv 0) pa_nil)) (nomark _))
      (pss_cons (ps_set (i := 1) sc_first_fewest.nd rfl (.inl rfl) (pv 4))
      (pss_one (ps_set (i := 2) sc_first_fewest.nd rfl (.inl rfl) (pe_call G_end_of (rm (by decide)) (by rfl) g_end_of k_end_of b_end_of .nil pass0 (pa_cons (pv 0) (pa_cons (pv 4) pa_nil)))))) pss_nil)
      (pss_weak (t' := tExt K H a ps) (pss_one (ps_expr (pe_bm PySem.F.plainAttrs_list PySem.F.slot_list_extend PySem.F.type_list_extend mt_extend (pv 3) (pa_cons (pe_lc (own := [("number", 5)]) (g := gName 5) (tt := tYes) rfl sc_first_fewest.nd (pi_list (pe_revL (pe_call G_left_of (rm (by decide)) (by rfl) g_left_of k_left_of b_left_of .nil pass0 (pa_cons (pv 0) (pa_cons (pv 4) pa_nil))))) (blkOk_by (N := nm_first_fewest) (sc := defScope s_first_fewest) (by decide +kernel)) (fun _ _ _ _ _ => pg_name (i := 5) sc_first_fewest.nd rfl (Or.inl rfl)) (fun _ _ _ _ _ => pts_nil) (fun _ _ _ _ _ => (pe_op (show OpR _ (binaryOp .Add) (rCatA K) from op_catA) (pv 4) (pe_tup (pa_cons (pv 5) pa_nil))))) pa_nil)))) ?ext)))))
      (pss_one (ps_ret (pv 1)))))), ?_⟩
    case ext =>
      rintro D σ H' ⟨bo, l, t, best, ss, s, vs, rfl, nl, el, hB, ht, hbo, hP0, s', hl1, hl2, hl3, nx⟩
      have hPh := hP0.ts (ts_same (K := K) s')
      refine ⟨.ref l, rfl, .inl ⟨rfl, _, .inl (.inl el)⟩, .ref a, rfl, .ref t, rfl, a, t, ps, s, rfl, hPh, ht, by omega, fun L H1 s1 nL eL => ?_⟩
      refine ⟨L, _, rfl, .inl (.inl eL), fun q nq => ?_⟩
      have hll := leftN_len ps.length s
      have s2 : Same H1 (upd H1 q (.lst ((leftN ps.length s).map natV).reverse)) := same_upd nq
      have c2 : (upd H1 q (.lst ((leftN ps.length s).map natV).reverse)) q = some (.lst ((leftN ps.length s).map natV).reverse) := upd_same
      rw [← List.map_reverse] at s2 c2 ⊢
      generalize upd H1 q (HO.lst ((leftN ps.length s).reverse.map natV)) = H2 at s2 c2 ⊢
      have s02 : Same H' H2 := s1.trans s2
      refine ⟨q, rfl, ⟨_, .inl (.inl c2)⟩, fun D' hD => lc_list (xs := (leftN ps.length s).reverse.map natV) (fun i H3 => ∃ ws : List V, ws.length = i ∧ H3 D' = some (.lst ws) ∧ BgA K H3 ws (((leftN ps.length s).reverse.take i).map fun k => s ++ [k]) ∧ Same H2 H3) ⟨[], rfl, upd_same, .nil, same_upd hD⟩ (fun i H3 _ hp => ?_) (fun i x H3 hx hp => ?_) (fun H3 hp => ?_)⟩
      · obtain ⟨_, _, _, _, s3⟩ := hp
        exact .inl (.inl (s3 _ _ c2))
      · obtain ⟨ws, lw, eD, hW, s3⟩ := hp
        obtain ⟨k, ek, rfl⟩ := natV_at hx
        have hi := (List.getElem?_eq_some_iff.mp ek).1
        rw [List.length_reverse] at hi
        refine ⟨rfl, ?_⟩
        dsimp only [tYes]
        refine iteT ?_
        refine ⟨.ref t, rfl, natV k, rfl, (by show 1 ≤ sizeLine; decide), fun u nu => ?_⟩
        have s4 : Same H3 (upd H3 u (.tup [natV k])) := same_upd nu
        refine catA_any (xs := s.map natV) (ys := [natV k]) (ts_same ((s02.trans s3).trans s4) _ _ ht) (.inl (.inl upd_same)) ?_ fun r H5 s5 hr5 => ?_
        · rw [List.length_map]
          exact Nat.le_trans (show s.length + 1 ≤ 1000 by omega) (by decide)
        have eD5 := s5 _ _ (s4 _ _ eD)
        have t5 : K1.TS K H5 (upd H5 D' (.lst (ws ++ [.ref r]))) := ts_lst eD5
        refine ⟨ws, eD5, ?_, ws ++ [.ref r], ?_, upd_same, ?_, ?_⟩
        · exact Nat.lt_of_le_of_lt (show ws.length ≤ 1000 by omega) (by decide)
        · rw [List.length_append, lw]; rfl
        · rw [List.take_add_one, ek, List.map_append]
          refine paired_append ((hW.ts (ts_same (s4.trans s5))).ts t5) (.cons ⟨r, rfl, ?_⟩ .nil)
          rw [List.map_append]
          exact t5 _ _ hr5
        · intro b o e
          rw [upd_ne (ne_of_none e hD)]
          exact s5 _ _ (s4 _ _ (s3 b o e))
      · obtain ⟨ws, lw, eD, hW, s3⟩ := hp
        rw [List.length_map, List.take_length] at hW
        rw [List.length_map, List.length_reverse] at lw
        have el3 := s3 _ _ (s02 _ _ el)
        refine ⟨l, D', vs, ws, rfl, rfl, el3, eD, ?_, ?_⟩
        · exact Nat.le_trans (show vs.length + ws.length ≤ 2000 by omega) (by decide)
        have t4 : K1.TS K H3 (upd H3 l (.lst (vs ++ ws))) := ts_lst el3
        refine nx _ (vs ++ ws) upd_same (paired_append ((hB.ts (ts_same (s02.trans s3))).ts t4) (hW.ts t4)) (t4 _ _ (ts_same (s02.trans s3) _ _ hbo)) fun b o e => ?_
        rw [upd_ne (ne_of_none e nl)]
        exact s3 _ _ (s02 _ _ (s' b o e))
    obtain ⟨ws, hw, lw⟩ := hP.len
    refine ⟨.ref a, rfl, a, ws, rfl, .inr hw, (ws.length : Nat), rfl, RgOk.of_le (by omega) (by omega) (by omega) (by omega), fun bo nb => ?_⟩
    rw [rgV_nat, lw]
    have s1 : Same H (upd H bo (.tup ((List.range ps.length).map natV))) := same_upd nb
    have c1 : (upd H bo (.tup ((List.range ps.length).map natV))) bo = some (.tup ((List.range ps.length).map natV)) := upd_same
    generalize upd H bo (HO.tup ((List.range ps.length).map natV)) = H1 at s1 c1 ⊢
    refine ⟨.ref a, rfl, .ref bo, rfl, a, bo, ps, List.range ps.length, rfl, ⟨hP.ts (ts_same s1), .inl (.inl c1), hok, fun n hn => List.mem_range.mp hn⟩, ?_⟩
    refine ⟨Nat.zero_le _, fun t nt => ⟨(by show 1 ≤ sizeLine; decide), fun l nl => ?_⟩⟩
    have s2 : Same H1 (upd H1 t (.tup [])) := same_upd nt
    have c2 : (upd H1 t (.tup [])) t = some (.tup []) := upd_same
    generalize upd H1 t (HO.tup []) = H2 at s2 c2 nl ⊢
    have s3 : Same H2 (upd H2 l (.lst [.ref t])) := same_upd nl
    have nl0 : H l = none := (s1.trans s2).free nl
    refine ⟨WF K H a l ps, ⟨wt ps.length [[]], bo, List.range ps.length, [[]], [.ref t], none, rfl, upd_same, .cons ⟨t, rfl, .inl (.inl (s3 _ _ c2))⟩ .nil, .inl (.inl (s3 _ _ (s2 _ _ c1))), fseek_start ps, rfl, ?_, (s1.trans s2).trans s3⟩, fun m σ H' hW => ?_⟩
    · rw [wt_one]
      exact Nat.le_trans (cnt_mono (show ps.length - ([] : List Nat).length ≤ 5 by simp; omega)) (by decide)
    clear s3 nl c2 s2 nt c1 s1 nb hw lw
    obtain ⟨bo', best, ss, vs, x4, rfl, el, hB, hbo, hS, rfl, hm, s'⟩ := hW
    refine ⟨.ref l, rfl, !vs.isEmpty, .inl ⟨vs, .inl (.inl el), rfl⟩, ite2 (fun c => ?_) (fun c => ?_)⟩
    · have hne : vs ≠ [] := fun z => by subst z; cases c
      obtain ⟨vs', vl, ss', s, rfl, rfl, hB', t', rfl, ht'⟩ := paired_last hB hne
      refine ⟨fun σ' H2 => ∃ m', m' < wt ps.length (ss' ++ [s]) ∧ WF K H a l ps m' σ' H2, fun _ _ h => h, ?_⟩
      refine ⟨.ref l, rfl, .inl ⟨rfl, _, .inl (.inl el)⟩, l, _, .ref t', rfl, rfl, el, (by simp), ?_⟩
      rw [List.dropLast_concat]
      have t3 : K1.TS K H' (upd H' l (.lst vs')) := ts_lst el
      have c3 : (upd H' l (.lst vs')) l = some (.lst vs') := upd_same
      have s3 : Same H (upd H' l (.lst vs')) := fun b o e => by
        rw [upd_ne (ne_of_none e nl0)]
        exact s' b o e
      generalize upd H' l (HO.lst vs') = H3 at t3 c3 s3 ⊢
      have hbs : Beg ps.length s := hS.base.beg s (List.mem_append.mpr (.inr (List.mem_singleton.mpr rfl)))
      have hwt := wt_append ps.length ss' [s]
      have hw1 : 1 ≤ wt ps.length [s] := by rw [wt_one]; exact cnt_pos _
      have hlen := wt_len ps.length ss'
      have hlv := paired_len hB'
      have hsl := beg_len hbs
      refine ⟨.ref a, rfl, .ref t', rfl, .int _, rfl, a, t', ps, s, _, rfl, ⟨hP.ts (ts_same s3), t3 _ _ ht', hok, hbs.2⟩, by omega, fun H4 s4 => ⟨_, rfl, ite2 (fun cc => ?_) (fun cc => ?_)⟩⟩
      · exact ⟨wt ps.length ss', by omega, bo', best, ss', vs', _, rfl, s4 _ _ c3, BgA.ts (BgA.ts hB' t3) (ts_same s4), ts_same s4 _ _ (t3 _ _ hbo), fseek_cut hok hS cc, rfl, by omega, s3.trans s4⟩
      obtain ⟨ws, hw, lw⟩ := (hP.ts (ts_same (K := K) (s3.trans s4))).len
      have ht4 : SqT K H4 t' (s.map natV) := ts_same s4 _ _ (t3 _ _ ht')
      have go : ∀ (D : Ends) (b2 : Addr) (best2 : List Nat), (D.nx = fun σ' H2 => ∃ m', m' < wt ps.length (ss' ++ [s]) ∧ WF K H a l ps m' σ' H2) → SqT K H4 b2 (best2.map natV) → FSeek ps (ss' ++ kids ps.length s) best2 →
          tExt K H a ps D [some (.ref a), some (.ref b2), some (.int (laidF ps best2).2), some (.ref l), some (.ref t'), none] H4 := fun D b2 best2 hD hb2 hS2 => by
        refine ⟨b2, l, t', best2, ss', s, vs', rfl, nl0, s4 _ _ c3, BgA.ts (BgA.ts hB' t3) (ts_same s4), ht4, hb2, hP, s3.trans s4, by omega, by omega, by omega, fun H5 vs5 e5 hB5 hb5 s5 => ?_⟩
        rw [hD]
        have hk := wt_kid hbs
        have hw2 := wt_append ps.length ss' (kids ps.length s)
        exact ⟨wt ps.length (ss' ++ kids ps.length s), by omega, b2, best2, _, vs5, _, rfl, e5, hB5, hb5, hS2, rfl, by omega, s5⟩
      refine ⟨.ref t', rfl, t', _, rfl, .inr ht4, .ref a, rfl, a, ws, rfl, .inr hw, rfl, _, rfl, ite2 (fun ce => ?_) (fun ce => ?_)⟩
      · have hsl2 : s.length = ps.length := by
          have z := V.int.inj (of_decide_eq_true ce)
          rw [List.length_map, lw] at z
          omega
        obtain ⟨h0, hS2⟩ := fseek_best hS cc hsl2
        refine ⟨.ref t', rfl, .ref a, rfl, .ref t', rfl, a, t', ps, s, rfl, ⟨hP.ts (ts_same (s3.trans s4)), ht4, hok, hbs.2⟩, ?_⟩
        refine go _ t' s rfl ht4 ?_
        have : kids ps.length s = [] := by unfold kids; rw [h0]; rfl
        rw [this, List.append_nil]
        exact hS2
      · have hsl2 : s.length ≠ ps.length := fun z => ce (decide_eq_true (congrArg V.int (by rw [List.length_map, lw, z])))
        exact go _ bo' best rfl (ts_same s4 _ _ (t3 _ _ hbo)) (fseek_go hS hsl2)
    · have hv : vs = [] := by
        cases vs with
        | nil => rfl
        | cons _ _ => exact absurd rfl c
      subst hv
      cases hB
      exact ⟨.ref bo', rfl, q bo' best H' s' hbo hS.base.ord (seek_end hS.base) hS.first⟩
def sp_grown_tree (K : PySem.W.Frag) (n : Nat) : Sp := fun vs H Q _ => ∃ (a o : Addr) (ps : List Part) (bs : List Nat) (bits : Int), vs = [.ref a, .ref o, .int bits] ∧ Asked K H a o ps bs ∧ Beg ps.length bs ∧ ps.length ≤ 100 ∧ (leftN ps.length bs).length < n ∧
  ∀ (v : V) (H' : Hp), Same H H' → Dp K H' v (gr ps bits (leftN ps.length bs).length bs) → Q v H'
theorem nv_grown_tree {vs : List V} {H : Hp} {Q : VK} {E : XK} (h : sp_grown_tree K 0 vs H Q E) : False := by
  obtain ⟨_, _, _, _, _, _, _, _, _, h, _⟩ := h
  omega
theorem ok_grown_tree {f : Addr} {fd : FuncData} (F : Fun K "grown_tree" "grown_tree" s_grown_tree f fd) (g_self : mg "grown_tree" = some (.ref f)) (b_self : Binds K fd pm_grown_tree []) (C_is_cut : Cal P w K mg base "is_cut" pm_is_cut 4 (sp_is_cut K)) (C_left_of : Cal P w K mg base "left_of" pm_left_of 1 (sp_left_of K)) (m_tuple : mg "tuple" = none) : ∀ n : Nat, FnOk P w K mg base CX0 (n + 4 + 1) f fd pm_grown_tree (sp_grown_tree K n) := by
  obtain ⟨f_is_cut, fd_is_cut, G_is_cut, g_is_cut, k_is_cut, b_is_cut⟩ := C_is_cut.ex
  obtain ⟨f_left_of, fd_left_of, G_left_of, g_left_of, k_left_of, b_left_of⟩ := C_left_of.ex
  intro n
  induction n with
  | zero => exact F.ok sc_grown_tree (fun vs H Q E h => (nv_grown_tree h).elim) (fun cdv A outer s H vs Q E hr h => (nv_grown_tree h).elim)
  | succ n ih =>
  refine F.ok sc_grown_tree (fun vs H Q E h => ?_) (fun cdv A outer s H vs Q E hr h => ?_)
  · obtain ⟨a, o, ps, bs, bits, rfl, _⟩ := h
    rfl
  · obtain ⟨a, o, ps, bs, bits, rfl, hA, hb, hl, hn, q⟩ := h
    refine ⟨_, pss_cons (ps_if (pt_val (pe_call G_is_cut (hr.mono (by omega)) (by rfl) g_is_cut k_is_cut b_is_cut .nil pass0 (pa_cons (pv 0) (pa_cons (pv 1) (pa_cons (pv 2) pa_nil)))))
      (pss_one (ps_ret (pe_tup pa_nil))) pss_nil)
      (pss_one (ps_ret (pe_callTy call_tuple_of (by rfl) m_tuple (by decide +kernel) (pa_cons (pe_lc (own := [("number", 3)]) (g := gName 3) (tt := tYes) rfl sc_grown_tree.nd (pi_list (pe_call G_left_of (hr.mono (by omega)) (by rfl) g_left_of k_left_of b_left_of .nil pass0 (pa_cons (pv 0) (pa_cons (pv 1) pa_nil)))) (blkOk_by (N := nm_grown_tree) (sc := defScope s_grown_tree) (by decide +kernel)) (fun _ _ _ _ _ => pg_name (i := 3) sc_grown_tree.nd rfl (Or.inl rfl)) (fun _ _ _ _ _ => pts_nil) (fun _ _ _ _ _ => (pe_call ih (hr.mono (by omega)) (by rfl) g_self F.kp b_self .nil pass0 (pa_cons (pv 0) (pa_cons (pe_op (show OpR _ (binaryOp .Add) (rCatA K) from op_catA) (pv 1) (pe_tup (pa_cons (pv 3) pa_nil))) (pa_cons (pv 2) pa_nil)))))) pa_nil)))), ?_⟩
    have hll := leftN_len ps.length bs
    have emp : ∀ (H1 : Hp) (t : Addr), Same H H1 → H1 t = none → gr ps bits (leftN ps.length bs).length bs = .tuple [] → Q (.ref t) (upd H1 t (.tup [])) := fun H1 t s1 nt e => by
      refine q _ _ (s1.trans (same_upd nt)) ?_
      rw [e]
      exact .tup (.inl (.inl upd_same)) .nil
    refine ⟨.ref a, rfl, .ref o, rfl, .int bits, rfl, a, o, ps, bs, bits, rfl, hA, by omega, fun H1 s1 => ⟨_, rfl, ite2 (fun c => ?_) (fun c => ?_)⟩⟩
    · refine ⟨Nat.zero_le _, fun t nt => emp H1 t s1 nt ?_⟩
      cases (leftN ps.length bs).length with
      | zero => rfl
      | succ r => rw [gr, if_pos c]
    · refine ⟨.ref a, rfl, .ref o, rfl, a, o, ps, bs, rfl, hA.1.ts (ts_same s1), ts_same s1 _ _ hA.2.1, by omega, fun L H2 s2 nL eL => ?_⟩
      have s02 : Same H H2 := s1.trans s2
      obtain ⟨r, hr'⟩ : ∃ r, r = (leftN ps.length bs).length - 1 := ⟨_, rfl⟩
      refine ⟨L, rfl, ⟨_, .inl (.inl eL)⟩, fun D hD => lc_list (xs := (leftN ps.length bs).map natV) (fun i H3 => ∃ ws : List V, ws.length = i ∧ H3 D = some (.lst ws) ∧ DpAll K H3 ws (((leftN ps.length bs).take i).map fun k => gr ps bits r (bs ++ [k])) ∧ Same H2 H3) ⟨[], rfl, upd_same, .nil, same_upd hD⟩ (fun i H3 _ hp => ?_) (fun i x H3 hx hp => ?_) (fun H3 hp => ?_)⟩
      · obtain ⟨_, _, _, _, s3⟩ := hp
        exact .inl (.inl (s3 _ _ eL))
      · obtain ⟨ws, lw, eD, hW, s3⟩ := hp
        obtain ⟨k, ek, rfl⟩ := natV_at hx
        have hi := (List.getElem?_eq_some_iff.mp ek).1
        have mk : k ∈ leftN ps.length bs := List.mem_of_getElem? ek
        have hkl := kid_left hb mk (r := r) (by omega)
        refine ⟨rfl, ?_⟩
        dsimp only [tYes]
        refine iteT ?_
        refine ⟨.ref a, rfl, .ref o, rfl, natV k, rfl, (by show 1 ≤ sizeLine; decide), fun u nu => ?_⟩
        have s4 : Same H3 (upd H3 u (.tup [natV k])) := same_upd nu
        have sb := beg_len hb
        refine catA_any (xs := bs.map natV) (ys := [natV k]) (ts_same ((s02.trans s3).trans s4) _ _ hA.2.1) (.inl (.inl upd_same)) ?_ fun rr H5 s5 hr5 => ?_
        · rw [List.length_map]
          exact Nat.le_trans (show bs.length + 1 ≤ 1000 by omega) (by decide)
        have s05 : Same H H5 := ((s02.trans s3).trans s4).trans s5
        refine ⟨.int bits, rfl, a, rr, ps, bs ++ [k], bits, rfl, ⟨hA.1.ts (ts_same s05), by rw [List.map_append]; exact hr5, hA.2.2.1, (beg_snoc hb mk).2⟩, beg_snoc hb mk, hl, by omega, fun v H6 s6 hv => ?_⟩
        rw [hkl] at hv
        have eD6 := s6 _ _ (s5 _ _ (s4 _ _ eD))
        have t6 : K1.TS K H6 (upd H6 D (.lst (ws ++ [v]))) := ts_lst eD6
        refine ⟨ws, eD6, ?_, ws ++ [v], ?_, upd_same, ?_, ?_⟩
        · exact Nat.lt_of_le_of_lt (show ws.length ≤ 1000 by omega) (by decide)
        · rw [List.length_append, lw]; rfl
        · rw [List.take_add_one, ek, List.map_append]
          have pa : plA (((leftN ps.length bs).take i).map fun k => gr ps bits r (bs ++ [k])) = true := plA_of fun d hd => by
            obtain ⟨k, _, rfl⟩ := List.mem_map.mp hd
            exact gr_pl ps bits r _
          exact dpAll_append (TS.dps ((ts_same ((s4.trans s5).trans s6)).trans t6) _ _ pa hW) (.cons (TS.dp t6 _ _ (gr_pl ps bits r _) hv) .nil)
        · intro b' o' e
          rw [upd_ne (ne_of_none e hD)]
          exact s6 _ _ (s5 _ _ (s4 _ _ (s3 b' o' e)))
      · obtain ⟨ws, lw, eD, hW, s3⟩ := hp
        rw [List.length_map, List.take_length] at hW
        refine ⟨D, ws, rfl, .inl ⟨.inl (.inl eD), fun t nt => ?_⟩⟩
        have t4 : K1.TS K H3 (upd H3 t (.tup ws)) := ts_new nt
        refine q _ _ ((s02.trans s3).trans (same_upd nt)) ?_
        have pa : plA ((leftN ps.length bs).map fun k => gr ps bits r (bs ++ [k])) = true := plA_of fun d hd => by
          obtain ⟨k, _, rfl⟩ := List.mem_map.mp hd
          exact gr_pl ps bits r _
        have eg : gr ps bits (leftN ps.length bs).length bs = .tuple ((leftN ps.length bs).map fun k => gr ps bits r (bs ++ [k])) := by
          cases e : (leftN ps.length bs).length with
          | zero =>
            rw [List.length_eq_zero_iff.mp e]
            rfl
          | succ r' =>
            have : r' = r := by omega
            rw [gr, if_neg c, this]
        rw [eg]
        exact .tup (.inl (.inl upd_same)) (TS.dps t4 _ _ pa hW)
def sp_fewest (K : PySem.W.Frag) : Sp := fun vs H Q _ => ∃ (a : Addr) (ps : List Part), vs = [.ref a] ∧ Pts K H a ps ∧ (∀ p ∈ ps, PtOk p) ∧ ps.length ≤ 5 ∧
  ∀ (r o : Addr) (os : List Nat) (v : V) (H' : Hp), Same H H' → SqT K H' r [.int (laidF ps os).2, .ref o, v] → SqT K H' o (os.map natV) → os.Perm (List.range ps.length) → Least ps (laidF ps os).2 → FirstOf ps os → Dp K H' v (gr ps (laidF ps os).2 ps.length []) → Q (.ref r) H'
theorem left_nil (n : Nat) : leftN n [] = List.range n := by
  unfold leftN
  exact List.filter_eq_self.mpr fun _ _ => by simp
theorem ok_fewest {f : Addr} {fd : FuncData} (F : Fun K "fewest" "fewest" s_fewest f fd) (C_first_fewest : Cal P w K mg base "first_fewest" pm_first_fewest 5 (sp_first_fewest K)) (C_bits_of : Cal P w K mg base "bits_of" pm_bits_of 4 (sp_bits_of K)) (C_grown_tree : Cal P w K mg base "grown_tree" pm_grown_tree 11 (sp_grown_tree K 6)) : FnOk P w K mg base CX0 12 f fd pm_fewest (sp_fewest K) := by
  obtain ⟨f_first_fewest, fd_first_fewest, G_first_fewest, g_first_fewest, k_first_fewest, b_first_fewest⟩ := C_first_fewest.ex
  obtain ⟨f_bits_of, fd_bits_of, G_bits_of, g_bits_of, k_bits_of, b_bits_of⟩ := C_bits_of.ex
  obtain ⟨f_grown_tree, fd_grown_tree, G_grown_tree, g_grown_tree, k_grown_tree, b_grown_tree⟩ := C_grown_tree.ex
  refine F.ok sc_fewest (fun vs H Q E h => ?_) (fun cdv A outer s H vs Q E hr h => ?_)
  · obtain ⟨a, ps, rfl, _⟩ := h
    rfl
  · obtain ⟨a, ps, rfl, hP, hok, hl, q⟩ := h
    have rm : ∀ {j : Nat}, j ≤ 11 → Room j (A.deeper (envOfC "fewest" (defScope s_fewest) s.heap.objs.size f cdv)) := fun hj => hr.mono hj
    refine ⟨_, pss_cons (ps_set (i := 1) sc_fewest.nd rfl (.inl rfl) (pe_call G_first_fewest (rm (by decide)) (by rfl) g_first_fewest k_first_fewest b_first_fewest .nil pass0 (pa_cons (pv 0) pa_nil)))
      (pss_cons (ps_set (i := 2) sc_fewest.nd rfl (.inl rfl) (pe_call G_bits_of (rm (by decide)) (by rfl) g_bits_of k_bits_of b_bits_of .nil pass0 (pa_cons (pv 0) (pa_cons (pv 1) pa_nil))))
      (pss_one (ps_ret (pe_tup (pa_cons (pv 2) (pa_cons (pv 1) (pa_cons (pe_call G_grown_tree (rm (by decide)) (by rfl) g_grown_tree k_grown_tree b_grown_tree .nil pass0 (pa_cons (pv 0) (pa_cons (pe_tup pa_nil) (pa_cons (pv 2) pa_nil)))) pa_nil))))))), ?_⟩
    refine ⟨.ref a, rfl, a, ps, rfl, hP, hok, hl, fun o os H1 s1 hO hperm hL hF => ?_⟩
    have mem : ∀ k, k ∈ os → k < ps.length := fun k hk => List.mem_range.mp (hperm.mem_iff.mp hk)
    refine ⟨.ref a, rfl, .ref o, rfl, a, o, ps, os, rfl, ⟨hP.ts (ts_same s1), hO, hok, mem⟩, ?_⟩
    refine ⟨_, rfl, .ref o, rfl, .ref a, rfl, Nat.zero_le _, fun t nt => ?_⟩
    have s2 : Same H1 (upd H1 t (.tup [])) := same_upd nt
    have c2 : (upd H1 t (.tup [])) t = some (.tup []) := upd_same
    generalize upd H1 t (HO.tup []) = H2 at s2 c2 ⊢
    have s02 : Same H H2 := s1.trans s2
    have hlen : (leftN ps.length []).length = ps.length := by rw [left_nil, List.length_range]
    refine ⟨.int _, rfl, a, t, ps, [], _, rfl, ⟨hP.ts (ts_same s02), .inl (.inl c2), hok, fun _ h => (nomatch h)⟩, beg_nil _, by omega, by omega, fun v H3 s3 hv => ?_⟩
    rw [hlen] at hv
    refine ⟨(by show 3 ≤ sizeLine; decide), fun r nr => ?_⟩
    have t4 : K1.TS K H3 (upd H3 r (.tup [.int (laidF ps os).2, .ref o, v])) := ts_new nr
    exact q r o os v _ ((s02.trans s3).trans (same_upd nr)) (.inl (.inl upd_same)) (t4 _ _ (ts_same (s2.trans s3) _ _ hO)) hperm hL hF (TS.dp t4 _ _ (gr_pl _ _ _ _) hv)
end
end K3
namespace K3
open PySem PySem.Spec PyProof.Rows L2 K1
abbrev s__law_orders : Stmt := topS 19
abbrev nm__law_orders : List Str := ["_law_many", "_law_found", "_law_turn", "_law_longer", "_law_one", "_law_k"]
abbrev pm__law_orders : List Str := ["_law_many"]
theorem sc__law_orders : FnScope nm__law_orders pm__law_orders (defScope s__law_orders) := ⟨rfl, rfl, rfl, by decide +kernel, rfl, by decide +kernel, by decide +kernel⟩
section
variable {P : Program} {w : World} {K : PySem.W.Frag} {mg : Str → Option Value} {base : Heap}
def sp__law_orders (K : PySem.W.Frag) : Sp := fun vs H Q _ => ∃ n : Nat, vs = [natV n] ∧ n ≤ 5 ∧ ∀ (l : Addr) (us : List V) (H' : Hp), Same H H' → H l = none → H' l = some (.lst us) → BgA K H' us (lev n n) → Q (.ref l) H'
theorem flat_take {α β : Type} {f : α → List β} {l : List α} {j : Nat} {x : α} (h : l[j]? = some x) : (l.take (j + 1)).flatMap f = (l.take j).flatMap f ++ f x := by
  rw [List.take_add_one, h, List.flatMap_append]
  simp
theorem paired_at {α β : Type} {F : α → β → Prop} : ∀ {xs : List α} {ys : List β} {i : Nat} {x : α}, Paired F xs ys → xs[i]? = some x → ∃ y, ys[i]? = some y ∧ F x y
  | _, _, i, x, .nil, e => by simp at e
  | _, _, 0, x, .cons h t, e => by
    simp at e
    subst e
    exact ⟨_, rfl, h⟩
  | _, _, i + 1, x, .cons h t, e => by
    obtain ⟨y, e1, e2⟩ := paired_at (i := i) t (by simpa using e)
    exact ⟨y, by simpa using e1, e2⟩
theorem ok__law_orders {f : Addr} {fd : FuncData} (F : Fun K "_law_orders" "_law_orders" s__law_orders f fd) (m_range : mg "range" = none) : FnOk P w K mg base CX0 1 f fd pm__law_orders (sp__law_orders K) := by
  refine F.ok sc__law_orders (fun vs H Q E h => ?_) (fun cdv A outer s H vs Q E hr h => ?_)
  · obtain ⟨n, rfl, _⟩ := h
    rfl
  · obtain ⟨n, rfl, hn, q⟩ := h
    refine ⟨_, pss_cons (ps_set (i := 1) sc__law_orders.nd rfl (.inl rfl) (pe_lst (pa_cons (pe_tup pa_nil) pa_nil)))
      (pss_cons (ps_for PassesOwn.never rfl (pi_range1 (by rfl) m_range (pa_cons (pv 0) pa_nil)) (pg_name (i := 2) sc__law_orders.nd rfl (.inl rfl))
      (pss_cons (ps_set (i := 3) sc__law_orders.nd rfl (.inl rfl) (pe_lst pa_nil))
      (pss_cons (ps_for PassesOwn.never rfl (pi_list (pv 1)) (pg_name (i := 4) sc__law_orders.nd rfl (.inr rfl))
      (pss_one (ps_set (i := 3) sc__law_orders.nd rfl (.inl rfl) (pe_op op_cat (pv 3) (pe_lc (own := [("_law_k", 5)]) (g := gName 5) rfl sc__law_orders.nd (pi_range1 (by rfl) m_range (pa_cons (pv 0) pa_nil)) (blkOk_by (N := nm__law_orders) (sc := defScope s__law_orders) (by decide +kernel)) (fun _ _ _ _ _ => pg_name (i := 5) sc__law_orders.nd rfl (Or.inl rfl)) (fun _ _ _ _ _ => (pts_one (pt_cmpR (show OpR _ (compareOp .NotIn) (rIn K true) from op_notIn_seq) (pv 5) (pv 4) (by rfl)))) (fun _ _ _ _ _ => (pe_op (show OpR _ (binaryOp .Add) (rCatA K) from op_catA) (pv 4) (pe_tup (pa_cons (pv 5) pa_nil)))))))))
      (pss_one (ps_set (i := 1) sc__law_orders.nd rfl (.inl rfl) (pv 3))))))
      (pss_one (ps_ret (pv 1)))), ?_⟩
    refine ⟨Nat.zero_le _, fun t nt => ⟨(by show 1 ≤ sizeLine; decide), fun l0 n0 => ?_⟩⟩
    have s1 : Same H (upd H t (.tup [])) := same_upd nt
    have c1 : (upd H t (.tup [])) t = some (.tup []) := upd_same
    generalize upd H t (HO.tup []) = H1 at s1 c1 n0 ⊢
    have s2 : Same H1 (upd H1 l0 (.lst [.ref t])) := same_upd n0
    refine ⟨natV n, rfl, n, rfl, by omega, by omega, for_range (lo := 0) (n := ((n : Nat) : Int).toNat) (fun i σ H' => ∃ (fl : Addr) (us : List V) (x2 x3 x4 : Option V), σ = [some (natV n), some (.ref fl), x2, x3, x4, none] ∧ H fl = none ∧ H' fl = some (.lst us) ∧ BgA K H' us (lev n i) ∧ Same H H') ⟨l0, [.ref t], none, none, none, rfl, s1.free n0, upd_same, .cons ⟨t, rfl, .inl (.inl (s2 _ _ c1))⟩ .nil, s1.trans s2⟩ (fun i σ H' hi hp => ?_) (fun σ H' hp => ?_)⟩
    · obtain ⟨fl, us, x2, x3, x4, rfl, nfl, efl, hU, s'⟩ := hp
      rw [Int.toNat_natCast] at hi
      have hlev := lev_small hn (show i ≤ 5 by omega)
      have hlev1 := lev_small hn (show i + 1 ≤ 5 by omega)
      refine ⟨Nat.zero_le _, fun lg ng => ?_⟩
      have s3 : Same H' (upd H' lg (.lst [])) := same_upd ng
      have c3 : (upd H' lg (.lst [])) lg = some (.lst []) := upd_same
      have ng0 : H lg = none := s'.free ng
      generalize upd H' lg (HO.lst []) = H3 at s3 c3 ⊢
      refine ⟨.ref fl, rfl, fl, rfl, ⟨_, .inl (.inl (s3 _ _ efl))⟩, for_list (xs := us) (fun j σ H2 => ∃ (lg2 : Addr) (ws : List V) (y2 y4 : Option V), σ = [some (natV n), some (.ref fl), y2, some (.ref lg2), y4, none] ∧ H lg2 = none ∧ H2 lg2 = some (.lst ws) ∧ BgA K H2 ws (((lev n i).take j).flatMap fun b => (leftN n b).map fun k => b ++ [k]) ∧ Same H3 H2) ⟨lg, [], _, _, rfl, ng0, c3, .nil, Same.refl _⟩ (fun j σ H2 _ hp2 => ?_) (fun j x σ H2 hx hp2 => ?_) (fun σ H2 hp2 => ?_)⟩
      · obtain ⟨_, _, _, _, _, _, _, _, s4⟩ := hp2
        exact .inl (.inl (s4 _ _ (s3 _ _ efl)))
      · obtain ⟨lg2, ws, y2, y4, rfl, ng2, eg, hW, s4⟩ := hp2
        have s04 : Same H H2 := (s'.trans s3).trans s4
        obtain ⟨b, eb, tb, rfl, htb⟩ := paired_at (BgA.ts hU (ts_same (s3.trans s4))) hx
        have hb := lev_beg n i b (List.mem_of_getElem? eb)
        have hbb := beg_len hb.1
        have hjl := (List.getElem?_eq_some_iff.mp eb).1
        have hwl := paired_len hW
        have hfl : (((lev n i).take j).flatMap fun b => (leftN n b).map fun k => b ++ [k]).length ≤ 3125 * 5 := by
          have z := flat_len (f := fun b => (leftN n b).map fun k => b ++ [k]) (m := 5) (l := (lev n i).take j) fun b _ => by
            rw [List.length_map]
            exact Nat.le_trans (leftN_len n b) hn
          refine Nat.le_trans z (Nat.mul_le_mul_right 5 ?_)
          rw [List.length_take]
          omega
        refine ⟨.ref lg2, rfl, natV n, rfl, n, rfl, by omega, by omega, fun D hD => lc_range (lo := 0) (n := ((n : Nat) : Int).toNat) (fun m H5 => ∃ ws2 : List V, H5 D = some (.lst ws2) ∧ BgA K H5 ws2 ((leftN m b).map fun k => b ++ [k]) ∧ Same H2 H5) ⟨[], upd_same, .nil, same_upd hD⟩ (fun m H5 hm hp5 => ?_) (fun H5 hp5 => ?_)⟩
        · obtain ⟨ws2, eD, hW2, s5⟩ := hp5
          rw [Int.toNat_natCast] at hm
          have e0 : (0 : Int) + (m : Int) = (m : Int) := Int.zero_add _
          rw [e0]
          have htb5 := ts_same (K := K) s5 _ _ htb
          have hw2 := paired_len hW2
          have hl2 := leftN_len m b
          rw [List.length_map] at hw2
          refine ⟨rfl, natV m, rfl, .ref tb, rfl, tb, _, rfl, .inr htb5, rfl, flat_nats b, _, rfl, ?_⟩
          rw [if_pos rfl, inV_nat]
          refine ite2 (fun c => ?_) (fun c => ?_)
          · have nb : m ∉ b := by simpa using c
            refine ⟨.ref tb, rfl, natV m, rfl, (by show 1 ≤ sizeLine; decide), fun u nu => ?_⟩
            have s6 : Same H5 (upd H5 u (.tup [natV m])) := same_upd nu
            refine catA_any (xs := b.map natV) (ys := [natV m]) (ts_same s6 _ _ htb5) (.inl (.inl upd_same)) ?_ fun r H7 s7 hr7 => ?_
            · rw [List.length_map]
              exact Nat.le_trans (show b.length + 1 ≤ 1000 by omega) (by decide)
            have eD7 := s7 _ _ (s6 _ _ eD)
            have t7 : K1.TS K H7 (upd H7 D (.lst (ws2 ++ [.ref r]))) := ts_lst eD7
            refine ⟨ws2, eD7, ?_, ws2 ++ [.ref r], upd_same, ?_, ?_⟩
            · exact Nat.lt_of_le_of_lt (show ws2.length ≤ 1000 by omega) (by decide)
            · rw [leftN_succ, if_pos nb, List.map_append]
              refine paired_append (BgA.ts (BgA.ts hW2 (ts_same (s6.trans s7))) t7) (.cons ⟨r, rfl, ?_⟩ .nil)
              rw [List.map_append]
              exact t7 _ _ hr7
            · intro b' o' e
              rw [upd_ne (ne_of_none e hD)]
              exact s7 _ _ (s6 _ _ (s5 b' o' e))
          · have nb : m ∈ b := by simpa using c
            rw [leftN_succ, if_neg (fun z => z nb)]
            exact ⟨ws2, eD, hW2, s5⟩
        · obtain ⟨ws2, eD, hW2, s5⟩ := hp5
          rw [Int.toNat_natCast] at hW2
          have hw2 := paired_len hW2
          have hl2 := leftN_len n b
          rw [List.length_map] at hw2
          refine ⟨lg2, D, ws, ws2, rfl, rfl, s5 _ _ eg, eD, ?_, fun p np => ?_⟩
          · exact Nat.le_trans (show ws.length + ws2.length ≤ 100000 by omega) (by decide)
          have t6 : K1.TS K H5 (upd H5 p (.lst (ws ++ ws2))) := ts_new np
          refine ⟨p, ws ++ ws2, _, _, rfl, (s04.trans s5).free np, upd_same, ?_, (s4.trans s5).trans (same_upd np)⟩
          rw [flat_take eb]
          exact paired_append (BgA.ts (BgA.ts hW (ts_same s5)) t6) (BgA.ts hW2 t6)
      · obtain ⟨lg2, ws, y2, y4, rfl, ng2, eg, hW, s4⟩ := hp2
        have hul := paired_len hU
        rw [hul, List.take_length] at hW
        exact ⟨.ref lg2, rfl, lg2, ws, _, _, _, rfl, ng2, eg, hW, (s'.trans s3).trans s4⟩
    · obtain ⟨fl, us, x2, x3, x4, rfl, nfl, efl, hU, s'⟩ := hp
      rw [Int.toNat_natCast] at hU
      exact ⟨.ref fl, rfl, q fl us H' s' nfl efl hU⟩
end
end K3
namespace K3
open PySem PySem.Spec PyProof.Rows L2 K1
abbrev s__law_wrong : Stmt := topS 22
abbrev nm__law_wrong : List Str := ["_law_pieces", "_law_bits", "_law_tree", "_law_beginning", "_law_left_here", "_law_k", "_law_nested", "_law_found"]
abbrev pm__law_wrong : List Str := ["_law_pieces", "_law_bits", "_law_tree", "_law_beginning"]
theorem sc__law_wrong : FnScope nm__law_wrong pm__law_wrong (defScope s__law_wrong) := ⟨rfl, rfl, rfl, by decide +kernel, rfl, by decide +kernel, by decide +kernel⟩
section
variable {P : Program} {w : World} {K : PySem.W.Frag} {mg : Str → Option Value} {base : Heap}
def WrR (K : PySem.W.Frag) (H : Hp) (l : Addr) : Option (List Nat) → Prop
  | none => H l = some (.lst [])
  | some b => ∃ t, H l = some (.lst [.ref t]) ∧ SqT K H t (b.map natV)
def sp__law_wrong (K : PySem.W.Frag) (n : Nat) : Sp := fun vs H Q _ => ∃ (a o : Addr) (tv : V) (ps : List Part) (bs : List Nat) (bits : Int) (d : PyData), vs = [.ref a, .int bits, tv, .ref o] ∧ Asked K H a o ps bs ∧ Beg ps.length bs ∧ ps.length ≤ 100 ∧ Dp K H tv d ∧ pl d = true ∧ d.depth < n ∧
  ∀ (l : Addr) (H' : Hp), Same H H' → WrR K H' l (wrT ps bits d bs) → Q (.ref l) H'
theorem nv__law_wrong {vs : List V} {H : Hp} {Q : VK} {E : XK} (h : sp__law_wrong K 0 vs H Q E) : False := by
  obtain ⟨_, _, _, _, _, _, _, _, _, _, _, _, _, h, _⟩ := h
  omega
def tWrong (K : PySem.W.Frag) (H : Hp) (a o : Addr) (tv : V) (ps : List Part) (bs : List Nat) (bits : Int) (d : PyData) (Q : VK) : L2.TS := fun D σ H' => ∃ (tt lh : Addr) (xs : List V) (ts : List PyData), d = .tuple ts ∧ tv = .ref tt ∧ SqT K H tt xs ∧ DpAll K H xs ts ∧
  σ = [some (.ref a), some (.int bits), some tv, some (.ref o), some (.ref lh), none, none, none] ∧ H' lh = some (.lst ((leftN ps.length bs).map natV)) ∧ Same H H' ∧ (ts = [] → cutF ps bs bits ≠ true) ∧ D.rt = Q
theorem drop_at {α : Type} {xs : List α} {i : Nat} {x : α} (h : xs[i]? = some x) : xs.drop i = x :: xs.drop (i + 1) := by
  obtain ⟨h1, h2⟩ := List.getElem?_eq_some_iff.mp h
  rw [List.drop_eq_getElem_cons h1, h2]
theorem wrR_dp {H : Hp} {l : Addr} : ∀ {r : Option (List Nat)}, WrR K H l r → ∃ xs, Dp K H (.ref l) (.list xs) ∧ PyData.canLayAll0 xs = true ∧ xs.isEmpty = r.isNone
  | none, h => ⟨[], .lst (.inl (.inl h)) .nil, rfl, rfl⟩
  | some b, h => by
    obtain ⟨t, h1, h2⟩ := h
    refine ⟨[natsD b], .lst (.inl (.inl h1)) (.cons (.tup h2 (nats_dp b)) .nil), ?_, rfl⟩
    simp only [PyData.canLayAll0, canLay _ (nats_pl b), Bool.and_self]
theorem WrR.ts {H H1 : Hp} {l : Addr} {r : Option (List Nat)} (h : WrR K H l r) (s : Same H H1) : WrR K H1 l r := by
  cases r with
  | none => exact s _ _ h
  | some b =>
    obtain ⟨t, h1, h2⟩ := h
    exact ⟨t, s _ _ h1, ts_same s _ _ h2⟩
theorem ok__law_wrong {f : Addr} {fd : FuncData} (F : Fun K "_law_wrong" "_law_wrong" s__law_wrong f fd) (g_self : mg "_law_wrong" = some (.ref f)) (b_self : Binds K fd pm__law_wrong []) (C__law_left : Cal P w K mg base "_law_left" pm__law_left 1 (sp_left_of K)) (C__law_cut : Cal P w K mg base "_law_cut" pm__law_cut 3 (sp__law_cut K)) (m_zip : mg "zip" = none) (m_isinstance : mg "isinstance" = none) (m_tuple : mg "tuple" = none) (m_len : mg "len" = none) : ∀ n : Nat, FnOk P w K mg base CX0 (n + 3 + 1) f fd pm__law_wrong (sp__law_wrong K n) := by
  obtain ⟨f__law_left, fd__law_left, G__law_left, g__law_left, k__law_left, b__law_left⟩ := C__law_left.ex
  obtain ⟨f__law_cut, fd__law_cut, G__law_cut, g__law_cut, k__law_cut, b__law_cut⟩ := C__law_cut.ex
  intro n
  induction n with
  | zero => exact F.ok sc__law_wrong (fun vs H Q E h => (nv__law_wrong h).elim) (fun cdv A outer s H vs Q E hr h => (nv__law_wrong h).elim)
  | succ n ih =>
  refine F.ok sc__law_wrong (fun vs H Q E h => ?_) (fun cdv A outer s H vs Q E hr h => ?_)
  · obtain ⟨a, o, tv, ps, bs, bits, d, rfl, _⟩ := h
    rfl
  · obtain ⟨a, o, tv, ps, bs, bits, d, rfl, hA, hb, hl, hv, pd, hdp, q⟩ := h
    have hbl := beg_len hb
    refine ⟨_, pss_cons (ps_set (i := 4) sc__law_wrong.nd rfl (.inl rfl) (pe_call G__law_left (hr.mono (by omega)) (by rfl) g__law_left k__law_left b__law_left .nil pass0 (pa_cons (pv 0) (pa_cons (pv 3) pa_nil))))
      (pss_cons (ps_if (pt_not (pt_val (pe_callB call_isi (by rfl) m_isinstance (by decide +kernel) (pa_cons (pv 2) (pa_cons (pe_bltn (v := .ty "tuple") (by rfl) m_tuple (show bootBuiltins "tuple" = some (.type "tuple") by decide +kernel) rfl) pa_nil)))))
      (pss_one (ps_ret (pe_lst (pa_cons (pv 3) pa_nil)))) pss_nil)
      (pss_cons (ps_if (PW.pt (pw_and (pt_cmpR op_eq (pe_callB call_len_seq (by rfl) m_len PySem.boot_len (pa_cons (pv 2) pa_nil)) pe_int (nomark _)) (pw_and1 (pt_val (pe_call G__law_cut (hr.mono (by omega)) (by rfl) g__law_cut k__law_cut b__law_cut .nil pass0 (pa_cons (pv 0) (pa_cons (pv 1) (pa_cons (pv 3) pa_nil))))))))
      (pss_one (ps_ret (pe_lst pa_nil))) pss_nil)
      (pss_weak (t' := tWrong K H a o tv ps bs bits d Q) (pss_cons (ps_if (PW.pt (pw_or (pt_cmpR op_eq (pe_callB call_len_seq (by rfl) m_len PySem.boot_len (pa_cons (pv 2) pa_nil)) pe_int (nomark _)) (pw_or1 (pt_cmpR op_ne (pe_callB call_len_seq (by rfl) m_len PySem.boot_len (pa_cons (pv 2) pa_nil)) (pe_callB call_len_seq (by rfl) m_len PySem.boot_len (pa_cons (pv 4) pa_nil)) (nomark _)))))
      (pss_one (ps_ret (pe_lst (pa_cons (pv 3) pa_nil)))) pss_nil)
      (pss_cons (ps_for PassesOwn.never rfl (ZM.pi_zipM (by rfl) m_zip (pa_cons (pv 4) (pa_cons (pv 2) pa_nil))) (pg_tup (by rfl) (pgs_cons (pg_name (i := 5) sc__law_wrong.nd rfl (.inl rfl)) (pgs_cons (pg_name (i := 6) sc__law_wrong.nd rfl (.inl rfl)) pgs_nil)))
      (pss_cons (ps_set (i := 7) sc__law_wrong.nd rfl (.inl rfl) (pe_call ih (hr.mono (by omega)) (by rfl) g_self F.kp b_self .nil pass0 (pa_cons (pv 0) (pa_cons (pv 1) (pa_cons (pv 6) (pa_cons (pe_op op_catA (pv 3) (pe_tup (pa_cons (pv 5) pa_nil))) pa_nil))))))
      (pss_one (ps_if (pt_cmpR (op_neM hr.units) (pv 7) (pe_lst pa_nil) (nomark _))
      (pss_one (ps_ret (pv 7))) pss_nil))))
      (pss_one (ps_ret (pe_lst pa_nil))))) ?go))), ?_⟩
    case go =>
      rintro DD σ H1 ⟨tt, lh, xs, ts, rfl, rfl, hxs, hax, rfl, el, s1, hcut, hrt⟩
      have hxl := dpAll_len hax
      rw [depth_tuple] at hdp
      have one : ∀ (H2 : Hp), Same H H2 → wrT ps bits (.tuple ts) bs = some bs → ∀ l, H2 l = none → Q (.ref l) (upd H2 l (.lst [.ref o])) := fun H2 s2 e l nl => by
        refine q l _ (s2.trans (same_upd nl)) ?_
        rw [e]
        exact ⟨o, upd_same, ts_same (s2.trans (same_upd nl)) _ _ hA.2.1⟩
      refine ⟨.ref tt, rfl, tt, xs, rfl, .inr (ts_same s1 _ _ hxs), rfl, _, rfl, ite2 (fun c => ?_) (fun c => ?_)⟩
      · have h0 : ts = [] := List.length_eq_zero_iff.mp (by have z := V.int.inj (of_decide_eq_true c); omega)
        refine ⟨.ref o, rfl, (by show 1 ≤ sizeLine; decide), fun l nl => ?_⟩
        show DD.rt _ _
        rw [hrt]
        refine one H1 s1 ?_ l nl
        subst h0
        rw [wrT_tuple, if_pos (show ([] : List PyData).isEmpty = true from rfl), if_neg (hcut rfl)]
      have hne : ¬ ts.isEmpty = true := fun z => c (decide_eq_true (congrArg V.int (by rw [hxl, List.isEmpty_iff.mp z]; rfl)))
      refine ⟨.ref tt, rfl, tt, xs, rfl, .inr (ts_same s1 _ _ hxs), .ref lh, rfl, lh, _, rfl, .inl (.inl (.inl el)), rfl, _, rfl, ite2 (fun c2 => ?_) (fun c2 => ?_)⟩
      · refine ⟨.ref o, rfl, (by show 1 ≤ sizeLine; decide), fun l nl => ?_⟩
        show DD.rt _ _
        rw [hrt]
        refine one H1 s1 ?_ l nl
        rw [wrT_tuple, if_neg hne, if_neg]
        intro z
        rw [hxl, z, List.length_map] at c2
        simp at c2
      have hll : ts.length = (leftN ps.length bs).length := by
        have z : V.int (xs.length : Nat) = V.int (((leftN ps.length bs).map natV).length : Nat) := by simpa using c2
        have z2 := V.int.inj z
        rw [List.length_map] at z2
        omega
      have ew : wrT ps bits (.tuple ts) bs = wrA ps bits ts (leftN ps.length bs) bs := by rw [wrT_tuple, if_neg hne, if_pos hll]
      rw [ew] at q
      refine ⟨.ref lh, rfl, .ref tt, rfl, lh, tt, _, xs, rfl, .inl (.inl el), ts_same s1 _ _ hxs, ZM.for_zipM (xs := (leftN ps.length bs).map natV) (ys := xs) (fun i σ H' => ∃ x5 x6 x7 : Option V, σ = [some (.ref a), some (.int bits), some (.ref tt), some (.ref o), some (.ref lh), x5, x6, x7] ∧ H' lh = some (.lst ((leftN ps.length bs).map natV)) ∧ Same H H' ∧ wrA ps bits ts (leftN ps.length bs) bs = wrA ps bits (ts.drop i) ((leftN ps.length bs).drop i) bs) ⟨none, none, none, rfl, el, s1, rfl⟩ (fun i σ H' hp => ?_) (fun i x y T σ H' gx gy hp nT => ?_) (fun σ H' hp => ?_)⟩
      · obtain ⟨_, _, _, _, e', s', _⟩ := hp
        exact ⟨.inl (.inl e'), ts_same s' _ _ hxs⟩
      · obtain ⟨x5, x6, x7, rfl, e', s', hw⟩ := hp
        obtain ⟨k, ek, rfl⟩ := natV_at gx
        obtain ⟨di, k1, k2⟩ := dpAll_get hax gy
        have pdi : pl di = true := plA_mem pd (List.mem_of_getElem? k1)
        have ddi := depth_mem (List.mem_of_getElem? k1)
        have mk : k ∈ leftN ps.length bs := List.mem_of_getElem? ek
        have s2 : Same H' (upd H' T (.tup [natV k, y])) := same_upd nT
        refine ⟨T, [natV k, y], rfl, .inl (.inl upd_same), rfl, natV k, [y], rfl, y, [], rfl, rfl, ?_⟩
        generalize upd H' T (HO.tup [natV k, y]) = H2 at s2 ⊢
        refine ⟨.ref a, rfl, .int bits, rfl, y, rfl, .ref o, rfl, natV k, rfl, (by show 1 ≤ sizeLine; decide), fun u nu => ?_⟩
        have s3 : Same H2 (upd H2 u (.tup [natV k])) := same_upd nu
        have s03 : Same H (upd H2 u (.tup [natV k])) := (s'.trans s2).trans s3
        refine catA_any (xs := bs.map natV) (ys := [natV k]) (ts_same s03 _ _ hA.2.1) (.inl (.inl upd_same)) ?_ fun rr H4 s4 hr4 => ?_
        · rw [List.length_map]
          exact Nat.le_trans (show bs.length + 1 ≤ 1000 by omega) (by decide)
        have s04 : Same H H4 := s03.trans s4
        refine ⟨a, rr, y, ps, bs ++ [k], bits, di, rfl, ⟨hA.1.ts (ts_same s04), by rw [List.map_append]; exact hr4, hA.2.2.1, (beg_snoc hb mk).2⟩, beg_snoc hb mk, hl, (ts_same s04).dp _ _ pdi k2, pdi, by omega, fun l H5 s5 hR => ?_⟩
        have s25 : Same H' H5 := ((s2.trans s3).trans s4).trans s5
        rw [drop_at k1, drop_at ek] at hw
        rw [wrA] at hw
        obtain ⟨fs, hfs, cfs, efs⟩ := wrR_dp hR
        refine ⟨.ref l, rfl, Nat.zero_le _, fun z nz => ?_⟩
        have s6 : Same H5 (upd H5 z (.lst [])) := same_upd nz
        have c6 : (upd H5 z (.lst [])) z = some (.lst []) := upd_same
        generalize upd H5 z (HO.lst []) = H6 at s6 c6 ⊢
        have hR6 := hR.ts s6
        obtain ⟨fs, hfs, cfs, efs⟩ := wrR_dp hR6
        refine ⟨.list fs, .list [], hfs, .lst (.inl (.inl c6)) .nil, cfs, rfl, Nat.le_trans (Nat.min_le_right _ _) (by decide), _, rfl, ite2 (fun c3 => ?_) (fun c3 => ?_)⟩
        · rw [eqv_nil, efs] at c3
          cases e : wrT ps bits di (bs ++ [k]) with
          | none => rw [e] at c3; cases c3
          | some b =>
            rw [e] at hw hR6
            refine ⟨.ref l, rfl, ?_⟩
            show DD.rt _ _
            rw [hrt]
            refine q l H6 ((s'.trans s25).trans s6) ?_
            rw [hw]
            exact hR6
        · rw [eqv_nil, efs] at c3
          cases e : wrT ps bits di (bs ++ [k]) with
          | some b => rw [e] at c3; exact absurd rfl c3
          | none =>
            rw [e] at hw
            exact ⟨_, _, _, rfl, s6 _ _ (s25 _ _ e'), (s'.trans s25).trans s6, hw⟩
      · obtain ⟨x5, x6, x7, rfl, e', s', hw⟩ := hp
        refine ⟨Nat.zero_le _, fun l nl => ?_⟩
        show DD.rt _ _
        rw [hrt]
        refine q l _ (s'.trans (same_upd nl)) ?_
        have em : min ((leftN ps.length bs).map natV).length xs.length = ts.length := by rw [List.length_map, hxl, hll]; omega
        rw [em, List.drop_length, wrA] at hw
        rw [hw]
        exact upd_same
    refine ⟨.ref a, rfl, .ref o, rfl, a, o, ps, bs, rfl, hA.1, hA.2.1, by omega, fun lh H1 s1 nl el => ?_⟩
    refine ⟨tv, rfl, tv, _, _, _, isT d, rfl, .ty "tuple", dp_ty ((ts_same s1).dp _ _ pd hv) pd, kit_ty (kT d), isT d, rfl, ite2 (fun c => ?_) (fun c => ?_)⟩
    · refine ⟨.ref o, rfl, (by show 1 ≤ sizeLine; decide), fun l nl => q l _ (s1.trans (same_upd nl)) ?_⟩
      rw [wrT_leaf ps bits (by cases e : isT d with | false => rfl | true => rw [e] at c; cases c) bs]
      exact ⟨o, upd_same, ts_same (s1.trans (same_upd nl)) _ _ hA.2.1⟩
    cases d with
    | tuple ts =>
      cases hv with
      | @tup tt xs _ hxs hax =>
        have hxl := dpAll_len hax
        refine ⟨.ref tt, rfl, tt, xs, rfl, .inr (ts_same s1 _ _ hxs), rfl, _, rfl, ite2 (fun c1 => ?_) (fun c1 => ?_)⟩
        · have h0 : ts = [] := List.length_eq_zero_iff.mp (by have z := V.int.inj (of_decide_eq_true c1); omega)
          refine ⟨.ref a, rfl, .int bits, rfl, .ref o, rfl, a, o, ps, bs, bits, rfl, ⟨hA.1.ts (ts_same s1), ts_same s1 _ _ hA.2.1, hA.2.2⟩, by omega, fun H2 s2 => ⟨_, rfl, ite2 (fun cc => ?_) (fun cc => ?_)⟩⟩
          · refine ⟨Nat.zero_le _, fun l nl => q l _ ((s1.trans s2).trans (same_upd nl)) ?_⟩
            subst h0
            rw [wrT_tuple, if_pos (show ([] : List PyData).isEmpty = true from rfl), if_pos cc]
            exact upd_same
          · exact ⟨tt, lh, xs, ts, rfl, rfl, hxs, hax, rfl, s2 _ _ el, s1.trans s2, fun _ => cc, rfl⟩
        · exact ⟨tt, lh, xs, ts, rfl, rfl, hxs, hax, rfl, el, s1, fun z => absurd (decide_eq_true (congrArg V.int (by rw [hxl, z]; rfl))) c1, rfl⟩
    | _ => exact absurd rfl c
end
end K3
namespace K3
open PySem PySem.Spec PyProof.Rows L2 K1
abbrev s__law_are_parts : Stmt := topS 23
abbrev nm__law_are_parts : List Str := ["_law_pieces", "_law_piece"]
abbrev pm__law_are_parts : List Str := ["_law_pieces"]
theorem sc__law_are_parts : FnScope nm__law_are_parts pm__law_are_parts (defScope s__law_are_parts) := ⟨rfl, rfl, rfl, by decide +kernel, rfl, by decide +kernel, by decide +kernel⟩
abbrev s__law_fault : Stmt := topS 24
abbrev nm__law_fault : List Str := ["_law_pieces", "_law_paper", "_law_bits", "_law_order", "_law_tree", "_law_found", "_law_k"]
abbrev pm__law_fault : List Str := ["_law_pieces", "_law_paper"]
theorem sc__law_fault : FnScope nm__law_fault pm__law_fault (defScope s__law_fault) := ⟨rfl, rfl, rfl, by decide +kernel, rfl, by decide +kernel, by decide +kernel⟩
abbrev s__law_paper_right : Stmt := topS 25
abbrev nm__law_paper_right : List Str := ["_law_pieces", "_law_paper", "_law_lines", "_law_counts", "_law_line"]
abbrev pm__law_paper_right : List Str := ["_law_pieces", "_law_paper"]
theorem sc__law_paper_right : FnScope nm__law_paper_right pm__law_paper_right (defScope s__law_paper_right) := ⟨rfl, rfl, rfl, by decide +kernel, rfl, by decide +kernel, by decide +kernel⟩
section
variable {P : Program} {w : World} {K : PySem.W.Frag} {mg : Str → Option Value} {base : Heap}
theorem tup_ty {H : Hp} {a : Addr} {xs : List V} (hs : SqT K H a xs) : TyX K H (.ref a) (.type "tuple") := by
  rcases hs with (hs | ⟨o, hs⟩) | ⟨o, its, n, h1, h2, _⟩
  · exact .base (.tup hs)
  · exact .fTuple hs
  · exact .kTuple h1 h2
theorem in_als {m : Int} (h : AlOk m) : inV (.int m) [.int 1, .int 8, .int 16, .int 32, .int 64] = true := by
  rcases h with rfl | rfl | rfl | rfl | rfl <;> rfl
def sp__law_are_parts (K : PySem.W.Frag) : Sp := fun vs H Q _ => ∃ (a : Addr) (ps : List Part), vs = [.ref a] ∧ Pts K H a ps ∧ (∀ p ∈ ps, PtOk p) ∧ ps.length ≤ 8 ∧ ∀ H', Same H H' → Q (.bl true) H'
theorem ok__law_are_parts {f : Addr} {fd : FuncData} (F : Fun K "_law_are_parts" "_law_are_parts" s__law_are_parts f fd) (C__law_whole : Cal P w K mg base "_law_whole" pm__law_whole 1 (sp__law_whole K)) (m_isinstance : mg "isinstance" = none) (m_tuple : mg "tuple" = none) (m_len : mg "len" = none) : FnOk P w K mg base CX0 2 f fd pm__law_are_parts (sp__law_are_parts K) := by
  obtain ⟨f__law_whole, fd__law_whole, G__law_whole, g__law_whole, k__law_whole, b__law_whole⟩ := C__law_whole.ex
  refine F.ok sc__law_are_parts (fun vs H Q E h => ?_) (fun cdv A outer s H vs Q E hr h => ?_)
  · obtain ⟨a, ps, rfl, _⟩ := h
    rfl
  · obtain ⟨a, ps, rfl, hP, hok, hl, q⟩ := h
    have rm : ∀ {j : Nat}, j ≤ 1 → Room j (A.deeper (envOfC "_law_are_parts" (defScope s__law_are_parts) s.heap.objs.size f cdv)) := fun hj => hr.mono hj
    refine ⟨_, pss_cons (ps_if (PW.pt (pw_or (pt_not (pt_val (pe_callB call_isi (by rfl) m_isinstance (by decide +kernel) (pa_cons (pv 0) (pa_cons (pe_bltn (v := .ty "tuple") (by rfl) m_tuple (show bootBuiltins "tuple" = some (.type "tuple") by decide +kernel) rfl) pa_nil))))) (pw_or1 (pt_cmpR op_gt (pe_callB call_len_seq (by rfl) m_len PySem.boot_len (pa_cons (pv 0) pa_nil)) pe_int (nomark _)))))
      (pss_one (ps_ret pe_bl)) pss_nil)
      (pss_cons (ps_for PassesOwn.never rfl (pi_tup (pv 0)) (pg_name (i := 1) sc__law_are_parts.nd rfl (.inl rfl))
      (pss_cons (ps_if (PW.pt (pw_or (pt_not (pt_val (pe_callB call_isi (by rfl) m_isinstance (by decide +kernel) (pa_cons (pv 1) (pa_cons (pe_bltn (v := .ty "tuple") (by rfl) m_tuple (show bootBuiltins "tuple" = some (.type "tuple") by decide +kernel) rfl) pa_nil))))) (pw_or (pt_cmpR op_ne (pe_callB call_len_seq (by rfl) m_len PySem.boot_len (pa_cons (pv 1) pa_nil)) pe_int (nomark _)) (pw_or (pt_not (pt_val (pe_call G__law_whole (rm (by decide)) (by rfl) g__law_whole k__law_whole b__law_whole .nil pass0 (pa_cons (pe_ix ix_tup (pv 1) pe_int (fun _ _ => rfl)) pa_nil)))) (pw_or1 (pt_not (pt_val (pe_call G__law_whole (rm (by decide)) (by rfl) g__law_whole k__law_whole b__law_whole .nil pass0 (pa_cons (pe_ix ix_tup (pv 1) pe_int (fun _ _ => rfl)) pa_nil)))))))))
      (pss_one (ps_ret pe_bl)) pss_nil)
      (pss_one (ps_if (PW.pt (pw_or (pt_cmpR op_lt (pe_ix ix_tup (pv 1) pe_int (fun _ _ => rfl)) pe_int (nomark _)) (pw_or (pt_cmpR op_gt (pe_ix ix_tup (pv 1) pe_int (fun _ _ => rfl)) pe_int (nomark _)) (pw_or1 (pt_cmpR op_notIn_seq (pe_ix ix_tup (pv 1) pe_int (fun _ _ => rfl)) (pe_lst (pa_cons pe_int (pa_cons pe_int (pa_cons pe_int (pa_cons pe_int (pa_cons pe_int pa_nil)))))) (by rfl))))))
      (pss_one (ps_ret pe_bl)) pss_nil))))
      (pss_one (ps_ret pe_bl))), ?_⟩
    obtain ⟨ws, hw, lw, hat⟩ := hP
    refine ⟨_, rfl, _, _, _, _, true, rfl, .ty "tuple", tup_ty hw, kit_ty (by decide +kernel), true, rfl, iteF ?_⟩
    refine ⟨.ref a, rfl, a, ws, rfl, .inr hw, _, _, rfl, rfl, _, rfl, ite2 (fun c => absurd (of_decide_eq_true c) (by omega)) (fun _ => ?_)⟩
    refine ⟨.ref a, rfl, a, rfl, ⟨_, hw⟩, for_tup (xs := ws) (fun i σ H' => ∃ x1, σ = [some (.ref a), x1] ∧ Same H H') ⟨none, rfl, Same.refl _⟩ (fun i σ H' _ hp => ?_) (fun i x σ H' hx hp => ?_) (fun σ H' hp => ?_)⟩
    · obtain ⟨_, _, s'⟩ := hp
      exact ts_same s' _ _ hw
    · obtain ⟨x1, rfl, s'⟩ := hp
      have hi := (List.getElem?_eq_some_iff.mp hx).1
      have ep : ps[i]? = some ps[i] := List.getElem?_eq_getElem (by omega)
      obtain ⟨t, a1, a2⟩ := hat i _ ep
      rw [a1] at hx
      cases hx
      have okp := hok _ (List.getElem_mem (show i < ps.length by omega))
      generalize ps[i] = p at a2 okp
      have ht := ts_same (K := K) s' _ _ a2
      refine ⟨_, rfl, _, _, _, _, true, rfl, .ty "tuple", tup_ty ht, kit_ty (by decide +kernel), true, rfl, iteF ?_⟩
      refine ⟨.ref t, rfl, t, _, rfl, .inr ht, rfl, _, rfl, iteF ?_⟩
      refine ⟨.ref t, rfl, t, _, 0, _, rfl, rfl, ht, atI_nat (j := 0) rfl, _, .int p.1, rfl, .int _, rfl, true, rfl, iteF ?_⟩
      refine ⟨.ref t, rfl, t, _, 1, _, rfl, rfl, ht, atI_nat (j := 1) rfl, _, .int p.2, rfl, .int _, rfl, true, rfl, iteF ?_⟩
      have p1 := okp.1
      have p2 := okp.2.1
      refine ⟨.ref t, rfl, t, _, 0, _, rfl, rfl, ht, atI_nat (j := 0) rfl, _, _, rfl, rfl, _, rfl, ite2 (fun c => absurd (of_decide_eq_true c) (by omega)) (fun _ => ?_)⟩
      refine ⟨.ref t, rfl, t, _, 0, _, rfl, rfl, ht, atI_nat (j := 0) rfl, _, _, rfl, rfl, _, rfl, ite2 (fun c => absurd (of_decide_eq_true c) (by omega)) (fun _ => ?_)⟩
      refine ⟨.ref t, rfl, t, _, 1, _, rfl, rfl, ht, atI_nat (j := 1) rfl, (by show 5 ≤ sizeLine; decide), fun l nl => ⟨l, _, rfl, .inl (.inl (.inl upd_same)), rfl, rfl, _, rfl, ?_⟩⟩
      rw [if_pos rfl, in_als okp.2.2]
      exact iteF ⟨_, rfl, s'.trans (same_upd nl)⟩
    · obtain ⟨x1, rfl, s'⟩ := hp
      exact q H' s'
def sp__law_fault (K : PySem.W.Frag) : Sp := fun vs H Q _ => ∃ (a p : Addr) (ps : List Part) (os : List Nat) (bits : Int) (d : PyData), vs = [.ref a, .ref p] ∧ Paper K H a p ps os bits d ∧ d.depth < 12 ∧
  ∀ (v : V) (H' : Hp), Same H H' → Dp K H' v (faultD ps os bits d) → Q v H'
theorem sorted_eq : ∀ {xs ys : List Int}, xs.Perm ys → xs.Pairwise (· ≤ ·) → ys.Pairwise (· ≤ ·) → xs = ys
  | [], ys, h, _, _ => h.nil_eq
  | x :: xs, [], h, _, _ => absurd h.length_eq (by simp)
  | x :: xs, y :: ys, h, hx, hy => by
    have hx' := List.pairwise_cons.mp hx
    have hy' := List.pairwise_cons.mp hy
    have e : x = y := by
      have h1 : x ∈ y :: ys := h.mem_iff.mp List.mem_cons_self
      have h2 : y ∈ x :: xs := h.mem_iff.mpr List.mem_cons_self
      rcases List.mem_cons.mp h1 with e | m1
      · exact e
      rcases List.mem_cons.mp h2 with e | m2
      · exact e.symm
      have a1 := hy'.1 x m1
      have a2 := hx'.1 y m2
      omega
    subst e
    rw [sorted_eq (List.Perm.cons_inv h) hx'.2 hy'.2]
theorem range_sorted (n : Nat) : ((List.range n).map fun (k : Nat) => (k : Int)).Pairwise (· ≤ ·) := by
  rw [List.pairwise_map]
  exact List.pairwise_lt_range.imp fun {a b} h => by omega
theorem nats_ints (os : List Nat) : os.map natV = (os.map fun (n : Nat) => (n : Int)).map V.int := by
  rw [List.map_map]
  rfl
theorem ints_dpL {H : Hp} : ∀ xs : List Int, DpAll K H (xs.map V.int) (xs.map PyData.int)
  | [] => .nil
  | x :: xs => .cons (.int x) (ints_dpL xs)
theorem ints_can (xs : List Int) : PyData.canLayAll0 (xs.map PyData.int) = true := canLayA _ (plA_of fun d h => by
  obtain ⟨x, _, rfl⟩ := List.mem_map.mp h
  rfl)
theorem eqvAll_ints : ∀ xs : List Int, PyData.eqvAll (xs.map PyData.int) (xs.map PyData.int) = true
  | [] => by simp [PyData.eqvAll]
  | x :: xs => by
    have := eqvAll_ints xs
    simp [PyData.eqvAll, PyData.eqv, this]
theorem ints_depthL (xs : List Int) : PyData.depthAll (xs.map PyData.int) ≤ 1 := depthA_le fun d h => by
  obtain ⟨x, _, rfl⟩ := List.mem_map.mp h
  simp [PyData.depth]
theorem ok__law_fault {f : Addr} {fd : FuncData} (F : Fun K "_law_fault" "_law_fault" s__law_fault f fd) (C__law_wrong : Cal P w K mg base "_law_wrong" pm__law_wrong 16 (sp__law_wrong K 12)) (C__law_are_parts : Cal P w K mg base "_law_are_parts" pm__law_are_parts 2 (sp__law_are_parts K)) (C__law_whole : Cal P w K mg base "_law_whole" pm__law_whole 1 (sp__law_whole K)) (C__law_laid : Cal P w K mg base "_law_laid" pm__law_laid 2 (sp__law_laid K)) (m_sorted : mg "sorted" = none) (m_list : mg "list" = none) (m_isinstance : mg "isinstance" = none) (m_tuple : mg "tuple" = none) (m_len : mg "len" = none) (m_range : mg "range" = none) : FnOk P w K mg base CX0 17 f fd pm__law_fault (sp__law_fault K) := by
  obtain ⟨f__law_wrong, fd__law_wrong, G__law_wrong, g__law_wrong, k__law_wrong, b__law_wrong⟩ := C__law_wrong.ex
  obtain ⟨f__law_are_parts, fd__law_are_parts, G__law_are_parts, g__law_are_parts, k__law_are_parts, b__law_are_parts⟩ := C__law_are_parts.ex
  obtain ⟨f__law_whole, fd__law_whole, G__law_whole, g__law_whole, k__law_whole, b__law_whole⟩ := C__law_whole.ex
  obtain ⟨f__law_laid, fd__law_laid, G__law_laid, g__law_laid, k__law_laid, b__law_laid⟩ := C__law_laid.ex
  refine F.ok sc__law_fault (fun vs H Q E h => ?_) (fun cdv A outer s H vs Q E hr h => ?_)
  · obtain ⟨a, p, ps, os, bits, d, rfl, _⟩ := h
    rfl
  · obtain ⟨a, p, ps, os, bits, d, rfl, ⟨⟨o, tv, hp, ho, hd⟩, hP, hok, hl, hperm, pd, sd⟩, hdp, q⟩ := h
    have rm : ∀ {j : Nat}, j ≤ 16 → Room j (A.deeper (envOfC "_law_fault" (defScope s__law_fault) s.heap.objs.size f cdv)) := fun hj => hr.mono hj
    refine ⟨_, pss_cons (ps_if (pt_not (pt_val (pe_call G__law_are_parts (rm (by decide)) (by rfl) g__law_are_parts k__law_are_parts b__law_are_parts .nil pass0 (pa_cons (pv 0) pa_nil))))
      (pss_one (ps_ret (pe_tup (pa_cons pe_str (pa_cons (pe_tup pa_nil) pa_nil))))) pss_nil)
      (pss_cons (ps_if (PW.pt (pw_or (pt_not (pt_val (pe_callB call_isi (by rfl) m_isinstance (by decide +kernel) (pa_cons (pv 1) (pa_cons (pe_bltn (v := .ty "tuple") (by rfl) m_tuple (show bootBuiltins "tuple" = some (.type "tuple") by decide +kernel) rfl) pa_nil))))) (pw_or (pt_cmpR op_ne (pe_callB call_len_seq (by rfl) m_len PySem.boot_len (pa_cons (pv 1) pa_nil)) pe_int (nomark _)) (pw_or1 (pt_not (pt_val (pe_call G__law_whole (rm (by decide)) (by rfl) g__law_whole k__law_whole b__law_whole .nil pass0 (pa_cons (pe_ix ix_tup (pv 1) pe_int (fun _ _ => rfl)) pa_nil))))))))
      (pss_one (ps_ret (pe_tup (pa_cons pe_str (pa_cons (pe_tup pa_nil) pa_nil))))) pss_nil)
      (pss_cons (ps_asg (pv 1) (pg_tup (by rfl) (pgs_cons (pg_name (i := 2) sc__law_fault.nd rfl (.inl rfl)) (pgs_cons (pg_name (i := 3) sc__law_fault.nd rfl (.inl rfl)) (pgs_cons (pg_name (i := 4) sc__law_fault.nd rfl (.inl rfl)) pgs_nil)))))
      (pss_cons (ps_if (PW.pt (pw_or (pt_not (pt_val (pe_callB call_isi (by rfl) m_isinstance (by decide +kernel) (pa_cons (pv 3) (pa_cons (pe_bltn (v := .ty "tuple") (by rfl) m_tuple (show bootBuiltins "tuple" = some (.type "tuple") by decide +kernel) rfl) pa_nil))))) (pw_or1 (pt_cmpR (op_neM hr.units) (pe_lc (own := [("_law_k", 6)]) (g := gName 6) rfl sc__law_fault.nd (pi_tup (pv 3)) (blkOk_by (N := nm__law_fault) (sc := defScope s__law_fault) (by decide +kernel)) (fun _ _ _ _ _ => pg_name (i := 6) sc__law_fault.nd rfl (Or.inl rfl)) (fun _ _ _ _ _ => (pts_one (pt_not (pt_val (pe_call G__law_whole (rm (by decide)) (by rfl) g__law_whole k__law_whole b__law_whole .nil pass0 (pa_cons (pv 6) pa_nil)))))) (fun _ _ _ _ _ => (pv 6))) (pe_lst pa_nil) (nomark _)))))
      (pss_one (ps_ret (pe_tup (pa_cons pe_str (pa_cons (pe_tup pa_nil) pa_nil))))) pss_nil)
      (pss_cons (ps_if (pt_cmpR (op_neM hr.units) (pe_callB ST.cr_sortedT (by rfl) m_sorted (by decide +kernel) (pa_cons (pv 3) pa_nil)) (pe_listRg rfl (by rfl) m_list (prg_1 (by rfl) m_range (pe_callB call_len_seq (by rfl) m_len PySem.boot_len (pa_cons (pv 0) pa_nil)))) (nomark _))
      (pss_one (ps_ret (pe_tup (pa_cons pe_str (pa_cons (pe_tup pa_nil) pa_nil))))) pss_nil)
      (pss_cons (ps_if (pt_cmpR op_ne (pe_ix ix_tup (pe_call G__law_laid (rm (by decide)) (by rfl) g__law_laid k__law_laid b__law_laid .nil pass0 (pa_cons (pv 0) (pa_cons (pv 3) pa_nil))) pe_int (fun _ _ => rfl)) (pv 2) (nomark _))
      (pss_one (ps_ret (pe_tup (pa_cons pe_str (pa_cons (pe_tup pa_nil) pa_nil))))) pss_nil)
      (pss_cons (ps_set (i := 5) sc__law_fault.nd rfl (.inl rfl) (pe_call G__law_wrong (rm (by decide)) (by rfl) g__law_wrong k__law_wrong b__law_wrong .nil pass0 (pa_cons (pv 0) (pa_cons (pv 2) (pa_cons (pv 4) (pa_cons (pe_tup pa_nil) pa_nil))))))
      (pss_cons (ps_if (pt_cmpR (op_neM hr.units) (pv 5) (pe_lst pa_nil) (nomark _))
      (pss_one (ps_ret (pe_tup (pa_cons pe_str (pa_cons (pe_ix ix_list (pv 5) pe_int (fun _ _ => rfl)) pa_nil))))) pss_nil)
      (pss_one (ps_ret pe_non))))))))), ?_⟩
    refine ⟨.ref a, rfl, a, ps, rfl, hP, hok, hl, fun H1 s1 => ⟨true, rfl, iteF ?_⟩⟩
    have hp1 := ts_same (K := K) s1 _ _ hp
    refine ⟨_, rfl, _, _, _, _, true, rfl, .ty "tuple", tup_ty hp1, kit_ty (by decide +kernel), true, rfl, iteF ?_⟩
    refine ⟨.ref p, rfl, p, _, rfl, .inr hp1, rfl, _, rfl, iteF ?_⟩
    refine ⟨.ref p, rfl, p, _, 0, _, rfl, rfl, hp1, atI_nat (j := 0) rfl, _, .int bits, rfl, .int _, rfl, true, rfl, iteF ?_⟩
    refine ⟨.ref p, rfl, p, _, rfl, hp1, rfl, _, _, rfl, _, _, rfl, _, _, rfl, rfl, ?_⟩
    have ho1 := ts_same (K := K) s1 _ _ ho
    refine ⟨_, rfl, _, _, _, _, true, rfl, .ty "tuple", tup_ty ho1, kit_ty (by decide +kernel), true, rfl, iteF ?_⟩
    refine ⟨.ref o, rfl, o, rfl, ⟨_, ho1⟩, fun D hD => lc_tup (xs := os.map natV) (fun i H' => H' D = some (.lst []) ∧ Same H1 H') ⟨upd_same, same_upd hD⟩ (fun i H' _ hp => ts_same hp.2 _ _ ho1) (fun i x H' hx hpv => ?_) (fun H2 hpv => ?_)⟩
    · obtain ⟨eD, s'⟩ := hpv
      obtain ⟨k, ek, rfl⟩ := natV_at hx
      exact ⟨rfl, natV k, rfl, _, .int (k : Int), rfl, .int _, rfl, true, rfl, iteF ⟨eD, s'⟩⟩
    obtain ⟨eD, s2⟩ := hpv
    refine ⟨Nat.zero_le _, fun z nz => ?_⟩
    have s3 : Same H2 (upd H2 z (.lst [])) := same_upd nz
    have c3 : (upd H2 z (.lst [])) z = some (.lst []) := upd_same
    generalize upd H2 z (HO.lst []) = H3 at s3 c3 ⊢
    refine ⟨.list [], .list [], .lst (.inl (.inl (s3 _ _ eD))) .nil, .lst (.inl (.inl c3)) .nil, rfl, rfl, Nat.le_trans (Nat.min_le_right _ _) (by decide), _, rfl, ite2 (fun c => ?_) (fun _ => ?_)⟩
    · rw [eqv_nil] at c
      cases c
    have s13 : Same H1 H3 := s2.trans s3
    have s03 : Same H H3 := s1.trans s13
    refine ⟨.ref o, rfl, o, os.map fun (n : Nat) => (n : Int), rfl, by rw [← nats_ints]; exact ts_same s03 _ _ ho, fun ns' sl hsp hss nsl => ?_⟩
    have ens : ns' = (List.range ps.length).map fun (k : Nat) => (k : Int) := sorted_eq (hsp.trans (hperm.map _)) hss (range_sorted _)
    subst ens
    have s4 : Same H3 (upd H3 sl (.lst (((List.range ps.length).map fun (k : Nat) => (k : Int)).map V.int))) := same_upd nsl
    have c4 : (upd H3 sl (.lst (((List.range ps.length).map fun (k : Nat) => (k : Int)).map V.int))) sl = some (.lst (((List.range ps.length).map fun (k : Nat) => (k : Int)).map V.int)) := upd_same
    generalize upd H3 sl (HO.lst (((List.range ps.length).map fun (k : Nat) => (k : Int)).map V.int)) = H4 at s4 c4 ⊢
    obtain ⟨ws, hw, lw⟩ := (hP.ts (ts_same (K := K) (s03.trans s4))).len
    refine ⟨.ref a, rfl, a, ws, rfl, .inr hw, (ws.length : Nat), rfl, RgOk.of_le (by omega) (by omega) (by omega) (by omega), fun rl nrl => ?_⟩
    rw [rgV_nat, lw, nats_ints]
    have s5 : Same H4 (upd H4 rl (.lst (((List.range ps.length).map fun (k : Nat) => (k : Int)).map V.int))) := same_upd nrl
    have c5 : (upd H4 rl (.lst (((List.range ps.length).map fun (k : Nat) => (k : Int)).map V.int))) rl = some (.lst (((List.range ps.length).map fun (k : Nat) => (k : Int)).map V.int)) := upd_same
    generalize upd H4 rl (HO.lst (((List.range ps.length).map fun (k : Nat) => (k : Int)).map V.int)) = H5 at s5 c5 ⊢
    generalize (List.range ps.length).map (fun (k : Nat) => (k : Int)) = rg at c4 c5
    refine ⟨.list (rg.map PyData.int), .list (rg.map PyData.int), .lst (.inl (.inl (s5 _ _ c4))) (ints_dpL rg), .lst (.inl (.inl c5)) (ints_dpL rg), ints_can rg, ints_can rg, ?_, _, rfl, ite2 (fun c => ?_) (fun _ => ?_)⟩
    · refine Nat.le_trans (Nat.min_le_right _ _) ?_
      have := ints_depthL rg
      simp only [PyData.depth]
      omega
    · have e : PyData.eqv (.list (rg.map PyData.int)) (.list (rg.map PyData.int)) = true := by
        simp only [PyData.eqv]
        exact eqvAll_ints rg
      rw [e] at c
      cases c
    have s05 : Same H H5 := (s03.trans s4).trans s5
    have mem : ∀ k, k ∈ os → k < ps.length := fun k hk => List.mem_range.mp (hperm.mem_iff.mp hk)
    refine ⟨.ref a, rfl, .ref o, rfl, a, o, ps, os, rfl, ⟨hP.ts (ts_same s05), ts_same s05 _ _ ho, hok, mem⟩, by omega, fun r t H6 s6 hr6 _ => ?_⟩
    have s06 : Same H H6 := s05.trans s6
    refine ⟨r, _, 1, _, rfl, rfl, hr6, atI_nat (j := 1) rfl, .int bits, rfl, rfl, _, rfl, ite2 (fun c => ?_) (fun c => ?_)⟩
    · have ne : (laidF ps os).2 ≠ bits := fun z => by rw [z] at c; simp at c
      refine ⟨Nat.zero_le _, fun t1 n1 => ⟨(by show 2 ≤ sizeLine; decide), fun t2 n2 => ?_⟩⟩
      have s7 : Same H6 (upd H6 t1 (.tup [])) := same_upd n1
      have c7 : (upd H6 t1 (.tup [])) t1 = some (.tup []) := upd_same
      generalize upd H6 t1 (HO.tup []) = H7 at s7 c7 n2 ⊢
      refine q _ _ ((s06.trans s7).trans (same_upd n2)) ?_
      unfold faultD
      rw [if_neg ne]
      exact .tup (.inl (.inl upd_same)) (.cons (.str _) (.cons (.tup (.inl (.inl (same_upd n2 _ _ c7))) .nil) .nil))
    have eq : (laidF ps os).2 = bits := by
      have z : V.int (laidF ps os).2 = V.int bits := by simpa using c
      exact V.int.inj z
    have fin : ∀ v' H', Same H H' → Dp K H' v' (treeD (wrT ps bits d [])) → Q v' H' := fun v' H' s' h' => by
      refine q v' H' s' ?_
      unfold faultD
      rw [if_pos eq]
      exact h'
    refine ⟨.ref a, rfl, .int bits, rfl, tv, rfl, Nat.zero_le _, fun t0 n0 => ?_⟩
    have s7 : Same H6 (upd H6 t0 (.tup [])) := same_upd n0
    have c7 : (upd H6 t0 (.tup [])) t0 = some (.tup []) := upd_same
    generalize upd H6 t0 (HO.tup []) = H7 at s7 c7 ⊢
    have s07 : Same H H7 := s06.trans s7
    refine ⟨a, t0, tv, ps, [], bits, d, rfl, ⟨hP.ts (ts_same s07), .inl (.inl c7), hok, fun _ h => (nomatch h)⟩, beg_nil _, by omega, (ts_same s07).dp _ _ pd hd, pd, hdp, fun l H8 s8 hR => ?_⟩
    refine ⟨.ref l, rfl, Nat.zero_le _, fun z nz => ?_⟩
    have s9 : Same H8 (upd H8 z (.lst [])) := same_upd nz
    have c9 : (upd H8 z (.lst [])) z = some (.lst []) := upd_same
    generalize upd H8 z (HO.lst []) = H9 at s9 c9 ⊢
    have hR9 := hR.ts s9
    have s09 : Same H H9 := (s07.trans s8).trans s9
    obtain ⟨fs, hfs, cfs, efs⟩ := wrR_dp hR9
    refine ⟨.list fs, .list [], hfs, .lst (.inl (.inl c9)) .nil, cfs, rfl, Nat.le_trans (Nat.min_le_right _ _) (by decide), _, rfl, ite2 (fun c3 => ?_) (fun c3 => ?_)⟩
    · rw [eqv_nil, efs] at c3
      cases e : wrT ps bits d [] with
      | none => rw [e] at c3; cases c3
      | some b =>
        rw [e] at hR9
        obtain ⟨t, h1, h2⟩ := hR9
        refine ⟨.ref l, rfl, l, _, 0, _, rfl, rfl, .inl (.inl h1), atI_nat (j := 0) rfl, (by show 2 ≤ sizeLine; decide), fun u nu => fin _ _ (s09.trans (same_upd nu)) ?_⟩
        rw [e]
        exact .tup (.inl (.inl upd_same)) (.cons (.str _) (.cons (.tup (ts_same (same_upd nu) _ _ h2) (nats_dp b)) .nil))
    · rw [eqv_nil, efs] at c3
      cases e : wrT ps bits d [] with
      | some b => rw [e] at c3; exact absurd rfl c3
      | none =>
        refine fin _ _ s09 ?_
        rw [e]
        exact .non
end
end K3
namespace K3
open PySem PySem.Spec PyProof.Rows L2 K1
abbrev s_law : Stmt := topS 26
abbrev nm_law : List Str := ["_law_script", "_law_drawn", "_law_one", "_law_other", "_law_first", "_law_second"]
abbrev pm_law : List Str := ["_law_script"]
theorem sc_law : FnScope nm_law pm_law (defScope s_law) := ⟨rfl, rfl, rfl, by decide +kernel, rfl, by decide +kernel, by decide +kernel⟩
section
variable {P : Program} {w : World} {K : PySem.W.Frag} {mg : Str → Option Value} {base : Heap}
def sp__law_paper_right (K : PySem.W.Frag) : Sp := fun vs H Q _ => ∃ (a p : Addr) (ps : List Part) (os : List Nat) (d : PyData), vs = [.ref a, .ref p] ∧ Paper K H a p ps os (laidF ps os).2 d ∧ d.depth < 12 ∧ ps.length ≤ 5 ∧ faultD ps os (laidF ps os).2 d = .none ∧ Least ps (laidF ps os).2 ∧ FirstOf ps os ∧
  ∀ H', Same H H' → Q (.bl true) H'
def endsL (ps : List Part) (os : List (List Nat)) : List Int := os.map fun o => (laidF ps o).2
theorem endsL_len (ps : List Part) (os : List (List Nat)) : (endsL ps os).length = os.length := List.length_map ..
theorem flat_ints (xs : List Int) : (xs.map V.int).all flatV = true := by
  rw [List.all_eq_true]
  intro x hx
  obtain ⟨k, _, rfl⟩ := List.mem_map.mp hx
  rfl
theorem ok__law_paper_right {f : Addr} {fd : FuncData} (F : Fun K "_law_paper_right" "_law_paper_right" s__law_paper_right f fd) (C__law_orders : Cal P w K mg base "_law_orders" pm__law_orders 1 (sp__law_orders K)) (C__law_fault : Cal P w K mg base "_law_fault" pm__law_fault 17 (sp__law_fault K)) (C__law_laid : Cal P w K mg base "_law_laid" pm__law_laid 2 (sp__law_laid K)) (m_len : mg "len" = none) (m_min : mg "min" = none) : FnOk P w K mg base CX0 18 f fd pm__law_paper_right (sp__law_paper_right K) := by
  obtain ⟨f__law_orders, fd__law_orders, G__law_orders, g__law_orders, k__law_orders, b__law_orders⟩ := C__law_orders.ex
  obtain ⟨f__law_fault, fd__law_fault, G__law_fault, g__law_fault, k__law_fault, b__law_fault⟩ := C__law_fault.ex
  obtain ⟨f__law_laid, fd__law_laid, G__law_laid, g__law_laid, k__law_laid, b__law_laid⟩ := C__law_laid.ex
  refine F.ok sc__law_paper_right (fun vs H Q E h => ?_) (fun cdv A outer s H vs Q E hr h => ?_)
  · obtain ⟨a, p, ps, os, d, rfl, _⟩ := h
    rfl
  · obtain ⟨a, p, ps, os, d, rfl, hp, hdp, hl, hf, hL, hF, q⟩ := h
    have rm : ∀ {j : Nat}, j ≤ 17 → Room j (A.deeper (envOfC "_law_paper_right" (defScope s__law_paper_right) s.heap.objs.size f cdv)) := fun hj => hr.mono hj
    refine ⟨_, pss_cons (ps_if (pt_cmpR op_notN (pe_call G__law_fault (rm (by decide)) (by rfl) g__law_fault k__law_fault b__law_fault .nil pass0 (pa_cons (pv 0) (pa_cons (pv 1) pa_nil))) pe_non (nomark _))
      (pss_one (ps_ret pe_bl)) pss_nil)
      (pss_cons (ps_set (i := 2) sc__law_paper_right.nd rfl (.inl rfl) (pe_call G__law_orders (rm (by decide)) (by rfl) g__law_orders k__law_orders b__law_orders .nil pass0 (pa_cons (pe_callB call_len_seq (by rfl) m_len PySem.boot_len (pa_cons (pv 0) pa_nil)) pa_nil)))
      (pss_cons (ps_setLc (i := 3) (own := [("_law_line", 4)]) (g := gName 4) (tt := tYes) rfl sc__law_paper_right.nd rfl rfl (sw_true rfl rfl rfl (by decide +kernel)) (pi_list (pv 2)) (blkOk_by (N := nm__law_paper_right) (sc := defScope s__law_paper_right) (by decide +kernel)) (fun _ _ _ _ _ => pg_name (i := 4) sc__law_paper_right.nd rfl (Or.inl rfl)) (fun _ _ _ _ _ => pts_nil) (fun _ _ _ _ _ => (pe_ix (show IxR _ (rIxT K) from ix_tup) (pe_call G__law_laid (rm (by decide)) (by rfl) g__law_laid k__law_laid b__law_laid .nil pass0 (pa_cons (pv 0) (pa_cons (pv 4) pa_nil))) pe_int (fun _ _ => rfl))))
      (pss_one (ps_ret (pe_and (pe_cmpR op_eq (pe_ix ix_tup (pv 1) pe_int (fun _ _ => rfl)) (pe_callB (cr_min rfl) (by rfl) m_min (by decide +kernel) (pa_cons (pv 3) pa_nil)) (nomark _)) (pe_one (pe_cmpR (op_eqM hr.units) (pe_ix ix_tup (pv 1) pe_int (fun _ _ => rfl)) (pe_ix ix_list (pv 2) (pe_bm PySem.F.plainAttrs_list PySem.F.slot_list_index PySem.F.type_list_index mt_index (pv 3) (pa_cons (pe_callB (cr_min rfl) (by rfl) m_min (by decide +kernel) (pa_cons (pv 3) pa_nil)) pa_nil)) (fun _ _ => rfl)) (nomark _)))))))), ?_⟩
    refine ⟨.ref a, rfl, .ref p, rfl, a, p, ps, os, _, d, rfl, hp, hdp, fun v H1 s1 hv => ⟨rfl, _, rfl, ite2 (fun c => ?_) (fun _ => ?_)⟩⟩
    · rw [hf] at hv
      rw [(non_iff hv).mpr rfl] at c
      simp at c
    obtain ⟨⟨o, tv, hpp, hO, hd⟩, hP, hok, hl8, hperm, pd, sd⟩ := hp.ts (ts_same (K := K) s1)
    obtain ⟨ws, hw, lw⟩ := hP.len
    have hlev := lev_small hl hl
    refine ⟨.ref a, rfl, a, ws, rfl, .inr hw, ws.length, rfl, by omega, fun l us H2 s2 nl el hU => ?_⟩
    rw [lw] at hU
    have hul := paired_len hU
    refine ⟨.ref l, rfl, l, rfl, ⟨_, .inl (.inl el)⟩, fun D hD => lc_list (xs := us) (fun i H3 => H3 D = some (.lst ((endsL ps ((lev ps.length ps.length).take i)).map V.int)) ∧ Same H2 H3) ⟨upd_same, same_upd hD⟩ (fun i H3 _ hp => .inl (.inl (hp.2 _ _ el))) (fun i x H3 hx hp => ?_) (fun H3 hp => ?_)⟩
    · obtain ⟨eD, s3⟩ := hp
      obtain ⟨b, eb, tb, rfl, htb⟩ := paired_at (BgA.ts hU (ts_same s3)) hx
      have hb := lev_beg _ _ b (List.mem_of_getElem? eb)
      have hi := (List.getElem?_eq_some_iff.mp eb).1
      refine ⟨rfl, ?_⟩
      dsimp only [tYes]
      refine iteT ?_
      refine ⟨.ref a, rfl, .ref tb, rfl, a, tb, ps, b, rfl, ⟨hP.ts (ts_same (s2.trans s3)), htb, hok, hb.1.2⟩, by omega, fun r t H4 s4 hr4 _ => ?_⟩
      refine ⟨r, _, 1, _, rfl, rfl, hr4, atI_nat (j := 1) rfl, _, s4 _ _ eD, ?_, ?_, ?_⟩
      · rw [List.length_map, endsL_len, List.length_take]
        exact Nat.lt_of_le_of_lt (show min i (lev ps.length ps.length).length ≤ 3125 by omega) (by decide)
      · unfold endsL
        rw [List.take_add_one, eb, upd_same, List.map_append, List.map_append]
        rfl
      · intro b' o' e
        rw [upd_ne (ne_of_none e hD)]
        exact s4 _ _ (s3 b' o' e)
    obtain ⟨eD, s3⟩ := hp
    rw [hul, List.take_length] at eD
    have s13 : Same H1 H3 := s2.trans s3
    have hp3 := ts_same (K := K) s13 _ _ hpp
    have hSD : SqL K H3 D ((endsL ps (lev ps.length ps.length)).map V.int) := .inl (.inl eD)
    have npos : 0 < (endsL ps (lev ps.length ps.length)).length := by
      rw [endsL_len]
      cases e : lev ps.length ps.length with
      | nil => exact absurd e (lev_ne _)
      | cons _ _ => simp
    have mIs : ∀ m, m ∈ endsL ps (lev ps.length ps.length) → (∀ y, y ∈ endsL ps (lev ps.length ps.length) → m ≤ y) → m = (laidF ps os).2 := fun m hm hle => by
      obtain ⟨o', ho', e⟩ := List.mem_map.mp hm
      have h1 := hL o' (lev_perm.mp ho')
      have h2 := hle _ (List.mem_map.mpr ⟨os, lev_perm.mpr hperm, rfl⟩)
      rw [← e] at h2 ⊢
      exact Int.le_antisymm h2 h1
    refine ⟨.ref p, rfl, p, _, 0, _, rfl, rfl, hp3, atI_nat (j := 0) rfl, .ref D, rfl, D, _, rfl, hSD, npos, fun m hm hle => ?_⟩
    have em := mIs m hm hle
    refine ⟨rfl, _, rfl, ite2 (fun _ => ?_) (fun c => absurd (decide_eq_true (congrArg V.int em.symm)) c)⟩
    obtain ⟨pre, post, elev, hpre⟩ := hF
    have eat : (lev ps.length ps.length)[pre.length]? = some os := by rw [elev, List.getElem?_append_right (Nat.le_refl _)]; simp
    refine ⟨.ref p, rfl, p, _, 1, _, rfl, rfl, hp3, atI_nat (j := 1) rfl, .ref l, rfl, .ref D, rfl, .inl ⟨rfl, _, hSD⟩, .ref D, rfl, D, _, rfl, hSD, npos, fun m' hm' hle' => ?_⟩
    have em' := mIs m' hm' hle'
    refine ⟨D, _, _, pre.length, .int (laidF ps os).2, rfl, rfl, hSD, rfl, flat_ints _, ?_, ?_, ?_, ?_⟩
    · unfold endsL
      rw [List.getElem?_map, List.getElem?_map, eat]
      rfl
    · rw [em']
      show ((laidF ps os).2 == (laidF ps os).2) = true
      simp
    · intro i z' hi hz
      have hilt : i < pre.length := hi
      unfold endsL at hz
      rw [List.getElem?_map, List.getElem?_map, elev, List.getElem?_append_left hilt, List.getElem?_eq_getElem hilt] at hz
      have ez : z' = .int (laidF ps pre[i]).2 := (Option.some.inj hz).symm
      have hlt := hpre _ (List.getElem_mem hilt)
      rw [ez, em']
      show ((laidF ps pre[i]).2 == (laidF ps os).2) = false
      exact beq_eq_false_iff_ne.mpr (by omega)
    · have hlt2 : pre.length < us.length := by rw [hul]; exact (List.getElem?_eq_some_iff.mp eat).1
      have gj : us[pre.length]? = some us[pre.length] := List.getElem?_eq_getElem hlt2
      obtain ⟨b, eb, tb, etb, htb⟩ := paired_at (BgA.ts hU (ts_same s3)) gj
      rw [eat] at eb
      cases eb
      refine ⟨l, _, _, _, rfl, rfl, .inl (.inl (s3 _ _ el)), atI_nat gj, ?_⟩
      rw [etb]
      have pn := nats_pl os
      refine ⟨natsD os, natsD os, .tup (ts_same s13 _ _ hO) (nats_dp os), .tup htb (nats_dp os), canLay _ pn, canLay _ pn, ?_, ?_⟩
      · refine Nat.le_trans (Nat.min_le_right _ _) ?_
        unfold natsD
        rw [depth_tuple]
        have : PyData.depthAll (os.map fun (n : Nat) => PyData.int (n : Int)) ≤ 1 := depthA_le fun d h => by
          obtain ⟨x, _, rfl⟩ := List.mem_map.mp h
          simp [PyData.depth]
        omega
      · have e : PyData.eqv (natsD os) (natsD os) = true := eqv_eqB (d := natsD os) (e := natsD os) ⟨fun _ => rfl, fun _ => PySem.SeqAt.eqv_refl _ (canLay _ pn)⟩ ▸ eqB_true rfl
        rw [e]
        exact q H3 (s1.trans s13)
def sp_law (K : PySem.W.Frag) : Sp := fun vs H Q _ => ∃ (a : Addr) (ns : List Int), vs = [.ref a] ∧ SqL K H a (ns.map V.int) ∧ ns.length ≤ 63 ∧ ∀ H', Q (.bl true) H'
theorem first_one {ps : List Part} {o1 o2 : List Nat} (h1 : FirstOf ps o1) (h2 : FirstOf ps o2) (l1 : Least ps (laidF ps o1).2) (l2 : Least ps (laidF ps o2).2) (p1 : o1.Perm (List.range ps.length)) (p2 : o2.Perm (List.range ps.length)) : o1 = o2 := by
  obtain ⟨a1, b1, e1, f1⟩ := h1
  obtain ⟨a2, b2, e2, f2⟩ := h2
  have ee : (laidF ps o1).2 = (laidF ps o2).2 := Int.le_antisymm (l1 o2 p2) (l2 o1 p1)
  have g1 : (lev ps.length ps.length)[a1.length]? = some o1 := by rw [e1, List.getElem?_append_right (Nat.le_refl _)]; simp
  have g2 : (lev ps.length ps.length)[a2.length]? = some o2 := by rw [e2, List.getElem?_append_right (Nat.le_refl _)]; simp
  rcases Nat.lt_trichotomy a1.length a2.length with h | h | h
  · rw [e2, List.getElem?_append_left h, List.getElem?_eq_getElem h] at g1
    have := f2 _ (List.getElem_mem h)
    rw [Option.some.inj g1] at this
    omega
  · rw [h, g2] at g1
    exact (Option.some.inj g1).symm
  · rw [e1, List.getElem?_append_left h, List.getElem?_eq_getElem h] at g2
    have := f1 _ (List.getElem_mem h)
    rw [Option.some.inj g2] at this
    omega
def paperD (ps : List Part) (os : List Nat) : PyData := .tuple [.int (laidF ps os).2, natsD os, gr ps (laidF ps os).2 ps.length []]
theorem paperD_pl (ps : List Part) (os : List Nat) : pl (paperD ps os) = true := by
  show (pl (.int (laidF ps os).2) && (pl (natsD os) && (pl (gr ps (laidF ps os).2 ps.length []) && true))) = true
  rw [nats_pl, gr_pl]
  rfl
theorem paperD_depth {ps : List Part} (os : List Nat) (h : ps.length ≤ 5) : (paperD ps os).depth < 9 := by
  unfold paperD
  rw [depth_tuple]
  have hg := gr_depth ps (laidF ps os).2 ps.length []
  have hn : (natsD os).depth ≤ 2 := by
    unfold natsD
    rw [depth_tuple]
    have : PyData.depthAll (os.map fun (n : Nat) => PyData.int (n : Int)) ≤ 1 := depthA_le fun d h => by
      obtain ⟨x, _, rfl⟩ := List.mem_map.mp h
      simp [PyData.depth]
    omega
  have : PyData.depthAll [.int (laidF ps os).2, natsD os, gr ps (laidF ps os).2 ps.length []] ≤ 6 := depthA_le fun d hd => by
    rcases List.mem_cons.mp hd with rfl | hd
    · simp [PyData.depth]
    rcases List.mem_cons.mp hd with rfl | hd
    · omega
    rw [List.mem_singleton.mp hd]
    omega
  omega
theorem paperD_sz {ps : List Part} {os : List Nat} (h : ps.length ≤ 5) (hp : os.Perm (List.range ps.length)) : sz (paperD ps os) ≤ 1000000 := by
  have hlen : (leftN ps.length []).length = ps.length := by rw [left_nil, List.length_range]
  have hg := gr_sz ps (laidF ps os).2 ps.length [] (beg_nil _) hlen
  have hc : cnt ps.length ≤ 326 := Nat.le_trans (cnt_mono h) (by decide)
  have h1 : szA (os.map fun (n : Nat) => PyData.int (n : Int)) ≤ (os.map fun (n : Nat) => PyData.int (n : Int)).length * 1 := szA_le fun d hd => by
    obtain ⟨x, _, rfl⟩ := List.mem_map.mp hd
    exact Nat.le_refl _
  rw [List.length_map, hp.length_eq, List.length_range] at h1
  show (1 + ((szA (os.map fun (n : Nat) => PyData.int (n : Int)) + 1) + (sz (gr ps (laidF ps os).2 ps.length []) + 0))) + 1 ≤ 1000000
  omega
theorem ok_law {f : Addr} {fd : FuncData} (F : Fun K "law" "law" s_law f fd) (C__law_draws : Cal P w K mg base "_law_draws" pm__law_draws 1 (sp__law_draws K)) (C__law_parts : Cal P w K mg base "_law_parts" pm__law_parts 3 (sp__law_parts K)) (C_fewest : Cal P w K mg base "fewest" pm_fewest 12 (sp_fewest K)) (C__law_just : Cal P w K mg base "_law_just" pm__law_just 11 (sp__law_just K 9)) (C__law_paper_right : Cal P w K mg base "_law_paper_right" pm__law_paper_right 18 (sp__law_paper_right K)) : FnOk P w K mg base CX0 19 f fd pm_law (sp_law K) := by
  obtain ⟨f__law_draws, fd__law_draws, G__law_draws, g__law_draws, k__law_draws, b__law_draws⟩ := C__law_draws.ex
  obtain ⟨f__law_parts, fd__law_parts, G__law_parts, g__law_parts, k__law_parts, b__law_parts⟩ := C__law_parts.ex
  obtain ⟨f_fewest, fd_fewest, G_fewest, g_fewest, k_fewest, b_fewest⟩ := C_fewest.ex
  obtain ⟨f__law_just, fd__law_just, G__law_just, g__law_just, k__law_just, b__law_just⟩ := C__law_just.ex
  obtain ⟨f__law_paper_right, fd__law_paper_right, G__law_paper_right, g__law_paper_right, k__law_paper_right, b__law_paper_right⟩ := C__law_paper_right.ex
  refine F.ok sc_law (fun vs H Q E h => ?_) (fun cdv A outer s H vs Q E hr h => ?_)
  · obtain ⟨a, ns, rfl, _⟩ := h
    rfl
  · obtain ⟨a0, ns, rfl, hS, hlen, q⟩ := h
    have rm : ∀ {j : Nat}, j ≤ 18 → Room j (A.deeper (envOfC "law" (defScope s_law) s.heap.objs.size f cdv)) := fun hj => hr.mono hj
    refine ⟨_, pss_cons (ps_set (i := 1) sc_law.nd rfl (.inl rfl) (pe_call G__law_draws (rm (by decide)) (by rfl) g__law_draws k__law_draws b__law_draws .nil pass0 (pa_cons (pv 0) pa_nil)))
      (pss_cons (ps_set (i := 2) sc_law.nd rfl (.inl rfl) (pe_call G__law_parts (rm (by decide)) (by rfl) g__law_parts k__law_parts b__law_parts .nil pass0 (pa_cons (pv 1) (pa_cons pe_int pa_nil))))
      (pss_cons (ps_set (i := 3) sc_law.nd rfl (.inl rfl) (pe_call G__law_parts (rm (by decide)) (by rfl) g__law_parts k__law_parts b__law_parts .nil pass0 (pa_cons (pv 1) (pa_cons pe_int pa_nil))))
      (pss_cons (ps_set (i := 4) sc_law.nd rfl (.inl rfl) (pe_call G_fewest (rm (by decide)) (by rfl) g_fewest k_fewest b_fewest .nil pass0 (pa_cons (pv 2) pa_nil)))
      (pss_cons (ps_set (i := 5) sc_law.nd rfl (.inl rfl) (pe_call G_fewest (rm (by decide)) (by rfl) g_fewest k_fewest b_fewest .nil pass0 (pa_cons (pv 3) pa_nil)))
      (pss_cons (ps_if (PW.pt (pw_or (pt_not (pt_val (pe_call G__law_paper_right (rm (by decide)) (by rfl) g__law_paper_right k__law_paper_right b__law_paper_right .nil pass0 (pa_cons (pv 2) (pa_cons (pv 4) pa_nil))))) (pw_or1 (pt_not (pt_val (pe_call G__law_paper_right (rm (by decide)) (by rfl) g__law_paper_right k__law_paper_right b__law_paper_right .nil pass0 (pa_cons (pv 3) (pa_cons (pv 5) pa_nil))))))))
      (pss_one (ps_ret pe_bl)) pss_nil)
      (pss_one (ps_ret (pe_and (pe_call G__law_just (rm (by decide)) (by rfl) g__law_just k__law_just b__law_just .nil pass0 (pa_cons (pe_call G_fewest (rm (by decide)) (by rfl) g_fewest k_fewest b_fewest .nil pass0 (pa_cons (pv 2) pa_nil)) (pa_cons (pv 4) pa_nil))) (pe_one (pe_call G__law_just (rm (by decide)) (by rfl) g__law_just k__law_just b__law_just .nil pass0 (pa_cons (pe_call G_fewest (rm (by decide)) (by rfl) g_fewest k_fewest b_fewest .nil pass0 (pa_cons (pv 3) pa_nil)) (pa_cons (pv 5) pa_nil)))))))))))), ?_⟩
    refine ⟨.ref a0, rfl, a0, ns, rfl, hS, hlen, fun dk cl lf H1 D1 s1 nd nl => ?_⟩
    refine ⟨.ref dk, rfl, dk, cl, lf, 0, 5, rfl, D1, by omega, by omega, fun a ps H2 hP hok hl D2 k2 => ?_⟩
    refine ⟨.ref dk, rfl, dk, cl, lf, _, 5, rfl, D2, by omega, by omega, fun b qs H3 hQ hoq hm D3 k3 => ?_⟩
    have hP3 := hP.ts (D2.ts (K := K) k3)
    have mkP : ∀ {H : Hp} {a p o : Addr} {ps : List Part} {os : List Nat} {v : V}, Pts K H a ps → (∀ p ∈ ps, PtOk p) → ps.length ≤ 5 → SqT K H p [.int (laidF ps os).2, .ref o, v] → SqT K H o (os.map natV) → os.Perm (List.range ps.length) → Dp K H v (gr ps (laidF ps os).2 ps.length []) → Paper K H a p ps os (laidF ps os).2 (gr ps (laidF ps os).2 ps.length []) := fun {H a p o ps os v} h1 h2 h3 h4 h5 h6 h7 => by
      have hlen : (leftN ps.length []).length = ps.length := by rw [left_nil, List.length_range]
      have hg := gr_sz ps (laidF ps os).2 ps.length [] (beg_nil _) hlen
      have hc : cnt ps.length ≤ 326 := Nat.le_trans (cnt_mono h3) (by decide)
      exact ⟨⟨o, v, h4, h5, h7⟩, h1, h2, by omega, h6, gr_pl _ _ _ _, by omega⟩
    have mkF : ∀ {ps : List Part} {os : List Nat}, Least ps (laidF ps os).2 → faultD ps os (laidF ps os).2 (gr ps (laidF ps os).2 ps.length []) = .none := fun {ps os} hL => by
      have hlen : (leftN ps.length []).length = ps.length := by rw [left_nil, List.length_range]
      unfold faultD
      rw [if_pos rfl, wr_gr hL ps.length [] (beg_nil _) hlen]
      rfl
    have mkD : ∀ {H : Hp} {p o : Addr} {ps : List Part} {os : List Nat} {v : V}, SqT K H p [.int (laidF ps os).2, .ref o, v] → SqT K H o (os.map natV) → Dp K H v (gr ps (laidF ps os).2 ps.length []) → Dp K H (.ref p) (paperD ps os) := fun h4 h5 h7 => .tup h4 (.cons (.int _) (.cons (.tup h5 (nats_dp _)) (.cons h7 .nil)))
    refine ⟨.ref a, rfl, a, ps, rfl, hP3, hok, hl, fun p1 o1 os1 v1 H4 s4 hp1 ho1 perm1 L1 F1 hv1 => ?_⟩
    refine ⟨.ref b, rfl, b, qs, rfl, hQ.ts (ts_same s4), hoq, hm, fun p2 o2 os2 v2 H5 s5 hp2 ho2 perm2 L2 F2 hv2 => ?_⟩
    have d1 := mkD hp1 ho1 hv1
    have d2 := mkD hp2 ho2 hv2
    have P1 := (mkP (hP3.ts (ts_same s4)) hok hl hp1 ho1 perm1 hv1).ts (ts_same (K := K) s5)
    have P2 := mkP (hQ.ts (ts_same (s4.trans s5))) hoq hm hp2 ho2 perm2 hv2
    have g1 := gr_depth ps (laidF ps os1).2 ps.length []
    have g2 := gr_depth qs (laidF qs os2).2 qs.length []
    refine ⟨.ref a, rfl, .ref p1, rfl, a, p1, ps, os1, _, rfl, P1, by omega, hl, mkF L1, L1, F1, fun H6 s6 => ⟨true, rfl, iteF ?_⟩⟩
    refine ⟨.ref b, rfl, .ref p2, rfl, b, p2, qs, os2, _, rfl, P2.ts (ts_same s6), by omega, hm, mkF L2, L2, F2, fun H7 s7 => ⟨true, rfl, iteF ?_⟩⟩
    have s37 : Same H3 H7 := ((s4.trans s5).trans s6).trans s7
    refine ⟨.ref a, rfl, a, ps, rfl, hP3.ts (ts_same s37), hok, hl, fun p3 o3 os3 v3 H8 s8 hp3 ho3 perm3 L3 F3 hv3 => ?_⟩
    have e3 := first_one F3 F1 L3 L1 perm3 perm1
    subst e3
    have s48 : Same H4 H8 := ((s5.trans s6).trans s7).trans s8
    refine ⟨.ref p1, rfl, .ref p3, .ref p1, paperD ps os3, paperD ps os3, rfl, mkD hp3 ho3 hv3, (ts_same s48).dp _ _ (paperD_pl _ _) d1, paperD_pl _ _, paperD_pl _ _, paperD_depth _ hl, paperD_sz hl perm3, fun H9 s9 => ⟨_, rfl, ite2 (fun _ => ?_) (fun c => absurd (eqB_true rfl) c)⟩⟩
    refine ⟨.ref b, rfl, b, qs, rfl, hQ.ts (ts_same ((s37.trans s8).trans s9)), hoq, hm, fun p4 o4 os4 v4 H10 s10 hp4 ho4 perm4 L4 F4 hv4 => ?_⟩
    have e4 := first_one F4 F2 L4 L2 perm4 perm2
    subst e4
    have s510 : Same H5 H10 := (((s6.trans s7).trans s8).trans s9).trans s10
    refine ⟨.ref p2, rfl, .ref p4, .ref p2, paperD qs os4, paperD qs os4, rfl, mkD hp4 ho4 hv4, (ts_same s510).dp _ _ (paperD_pl _ _) d2, paperD_pl _ _, paperD_pl _ _, paperD_depth _ hm, paperD_sz hm perm4, fun H11 s11 => ?_⟩
    rw [eqB_true rfl]
    exact q _
end
end K3
namespace K3
open PySem PySem.Spec PyProof.Rows L2 K1
/-! ### what the top has written -/
theorem all_mk {l : PySem.W.OpenLaw} {w : World} {K : PySem.W.Frag} {h : Heap} {mg : Str → Option Value} {fa f1 f2 f3 f4 f5 f6 f7 f8 f9 f10 f11 f12 f13 f14 f15 f16 f17 f18 f19 f20 f21 f22 f23 f24 f25 : Addr} (X : K.In h) (G : h.Ns mainGlobals mg) (hfa : mg "law" = some (.ref fa))
    {od1 an1 od2 an2 od3 an3 od4 an4 od5 an5 od6 an6 od7 an7 od8 an8 od9 an9 od10 an10 od11 an11 od12 an12 od13 an13 od14 an14 od15 an15 od16 an16 od17 an17 od18 an18 od19 an19 od20 an20 od21 an21 od22 an22 od23 an23 od24 an24 od25 an25 : Option Addr} {sl1 sl2 sl3 sl4 sl5 sl6 sl7 sl8 sl9 sl10 sl11 sl12 sl13 sl14 sl15 sl16 sl17 sl18 sl19 sl20 sl21 sl22 sl23 sl24 sl25 : Array (Option Value)} {oc1 kV1 dc1 pm1 cd1 ct1 oc2 kV2 dc2 pm2 cd2 ct2 oc3 kV3 dc3 pm3 cd3 ct3 oc4 kV4 dc4 pm4 cd4 ct4 oc5 kV5 dc5 pm5 cd5 ct5 oc6 kV6 dc6 pm6 cd6 ct6 oc7 kV7 dc7 pm7 cd7 ct7 oc8 kV8 dc8 pm8 cd8 ct8 oc9 kV9 dc9 pm9 cd9 ct9 oc10 kV10 dc10 pm10 cd10 ct10 oc11 kV11 dc11 pm11 cd11 ct11 oc12 kV12 dc12 pm12 cd12 ct12 oc13 kV13 dc13 pm13 cd13 ct13 oc14 kV14 dc14 pm14 cd14 ct14 oc15 kV15 dc15 pm15 cd15 ct15 oc16 kV16 dc16 pm16 cd16 ct16 oc17 kV17 dc17 pm17 cd17 ct17 oc18 kV18 dc18 pm18 cd18 ct18 oc19 kV19 dc19 pm19 cd19 ct19 oc20 kV20 dc20 pm20 cd20 ct20 oc21 kV21 dc21 pm21 cd21 ct21 oc22 kV22 dc22 pm22 cd22 ct22 oc23 kV23 dc23 pm23 cd23 ct23 oc24 kV24 dc24 pm24 cd24 ct24 oc25 kV25 dc25 pm25 cd25 ct25 : Value}
    (a1 : PySem.W.nsIn K mainGlobals "rounded" = some (some (.ref f1))) (l1 : K.lookup f1 = some ⟨oc1, od1, .func (PySem.W.fnOf "rounded" "rounded" (defArgs s_rounded) (defBody s_rounded) (defScope s_rounded) .none kV1 dc1 pm1 an1 cd1 ct1), sl1⟩) (c1 : PySem.W.codeIn K cd1 "rounded" = true) (k1 : PySem.W.keepIn K (.ref f1) = true)
    (a2 : PySem.W.nsIn K mainGlobals "laid_end" = some (some (.ref f2))) (l2 : K.lookup f2 = some ⟨oc2, od2, .func (PySem.W.fnOf "laid_end" "laid_end" (defArgs s_laid_end) (defBody s_laid_end) (defScope s_laid_end) .none kV2 dc2 pm2 an2 cd2 ct2), sl2⟩) (c2 : PySem.W.codeIn K cd2 "laid_end" = true) (k2 : PySem.W.keepIn K (.ref f2) = true)
    (a3 : PySem.W.nsIn K mainGlobals "end_of" = some (some (.ref f3))) (l3 : K.lookup f3 = some ⟨oc3, od3, .func (PySem.W.fnOf "end_of" "end_of" (defArgs s_end_of) (defBody s_end_of) (defScope s_end_of) .none kV3 dc3 pm3 an3 cd3 ct3), sl3⟩) (c3 : PySem.W.codeIn K cd3 "end_of" = true) (k3 : PySem.W.keepIn K (.ref f3) = true)
    (a4 : PySem.W.nsIn K mainGlobals "bits_of" = some (some (.ref f4))) (l4 : K.lookup f4 = some ⟨oc4, od4, .func (PySem.W.fnOf "bits_of" "bits_of" (defArgs s_bits_of) (defBody s_bits_of) (defScope s_bits_of) .none kV4 dc4 pm4 an4 cd4 ct4), sl4⟩) (c4 : PySem.W.codeIn K cd4 "bits_of" = true) (k4 : PySem.W.keepIn K (.ref f4) = true)
    (a5 : PySem.W.nsIn K mainGlobals "left_of" = some (some (.ref f5))) (l5 : K.lookup f5 = some ⟨oc5, od5, .func (PySem.W.fnOf "left_of" "left_of" (defArgs s_left_of) (defBody s_left_of) (defScope s_left_of) .none kV5 dc5 pm5 an5 cd5 ct5), sl5⟩) (c5 : PySem.W.codeIn K cd5 "left_of" = true) (k5 : PySem.W.keepIn K (.ref f5) = true)
    (a6 : PySem.W.nsIn K mainGlobals "is_cut" = some (some (.ref f6))) (l6 : K.lookup f6 = some ⟨oc6, od6, .func (PySem.W.fnOf "is_cut" "is_cut" (defArgs s_is_cut) (defBody s_is_cut) (defScope s_is_cut) .none kV6 dc6 pm6 an6 cd6 ct6), sl6⟩) (c6 : PySem.W.codeIn K cd6 "is_cut" = true) (k6 : PySem.W.keepIn K (.ref f6) = true)
    (a7 : PySem.W.nsIn K mainGlobals "first_fewest" = some (some (.ref f7))) (l7 : K.lookup f7 = some ⟨oc7, od7, .func (PySem.W.fnOf "first_fewest" "first_fewest" (defArgs s_first_fewest) (defBody s_first_fewest) (defScope s_first_fewest) .none kV7 dc7 pm7 an7 cd7 ct7), sl7⟩) (c7 : PySem.W.codeIn K cd7 "first_fewest" = true) (k7 : PySem.W.keepIn K (.ref f7) = true)
    (a8 : PySem.W.nsIn K mainGlobals "grown_tree" = some (some (.ref f8))) (l8 : K.lookup f8 = some ⟨oc8, od8, .func (PySem.W.fnOf "grown_tree" "grown_tree" (defArgs s_grown_tree) (defBody s_grown_tree) (defScope s_grown_tree) .none kV8 dc8 pm8 an8 cd8 ct8), sl8⟩) (c8 : PySem.W.codeIn K cd8 "grown_tree" = true) (k8 : PySem.W.keepIn K (.ref f8) = true)
    (a9 : PySem.W.nsIn K mainGlobals "fewest" = some (some (.ref f9))) (l9 : K.lookup f9 = some ⟨oc9, od9, .func (PySem.W.fnOf "fewest" "fewest" (defArgs s_fewest) (defBody s_fewest) (defScope s_fewest) .none kV9 dc9 pm9 an9 cd9 ct9), sl9⟩) (c9 : PySem.W.codeIn K cd9 "fewest" = true) (k9 : PySem.W.keepIn K (.ref f9) = true)
    (a10 : PySem.W.nsIn K mainGlobals "_law_draws" = some (some (.ref f10))) (l10 : K.lookup f10 = some ⟨oc10, od10, .func (PySem.W.fnOf "_law_draws" "_law_draws" (defArgs s__law_draws) (defBody s__law_draws) (defScope s__law_draws) .none kV10 dc10 pm10 an10 cd10 ct10), sl10⟩) (c10 : PySem.W.codeIn K cd10 "_law_draws" = true) (k10 : PySem.W.keepIn K (.ref f10) = true)
    (a11 : PySem.W.nsIn K mainGlobals "_law_next" = some (some (.ref f11))) (l11 : K.lookup f11 = some ⟨oc11, od11, .func (PySem.W.fnOf "_law_next" "_law_next" (defArgs s__law_next) (defBody s__law_next) (defScope s__law_next) .none kV11 dc11 pm11 an11 cd11 ct11), sl11⟩) (c11 : PySem.W.codeIn K cd11 "_law_next" = true) (k11 : PySem.W.keepIn K (.ref f11) = true)
    (a12 : PySem.W.nsIn K mainGlobals "_law_whole" = some (some (.ref f12))) (l12 : K.lookup f12 = some ⟨oc12, od12, .func (PySem.W.fnOf "_law_whole" "_law_whole" (defArgs s__law_whole) (defBody s__law_whole) (defScope s__law_whole) .none kV12 dc12 pm12 an12 cd12 ct12), sl12⟩) (c12 : PySem.W.codeIn K cd12 "_law_whole" = true) (k12 : PySem.W.keepIn K (.ref f12) = true)
    (a13 : PySem.W.nsIn K mainGlobals "_law_just" = some (some (.ref f13))) (l13 : K.lookup f13 = some ⟨oc13, od13, .func (PySem.W.fnOf "_law_just" "_law_just" (defArgs s__law_just) (defBody s__law_just) (defScope s__law_just) .none kV13 dc13 pm13 an13 cd13 ct13), sl13⟩) (c13 : PySem.W.codeIn K cd13 "_law_just" = true) (k13 : PySem.W.keepIn K (.ref f13) = true)
    (a14 : PySem.W.nsIn K mainGlobals "_law_measure" = some (some (.ref f14))) (l14 : K.lookup f14 = some ⟨oc14, od14, .func (PySem.W.fnOf "_law_measure" "_law_measure" (defArgs s__law_measure) (defBody s__law_measure) (defScope s__law_measure) .none kV14 dc14 pm14 an14 cd14 ct14), sl14⟩) (c14 : PySem.W.codeIn K cd14 "_law_measure" = true) (k14 : PySem.W.keepIn K (.ref f14) = true)
    (a15 : PySem.W.nsIn K mainGlobals "_law_parts" = some (some (.ref f15))) (l15 : K.lookup f15 = some ⟨oc15, od15, .func (PySem.W.fnOf "_law_parts" "_law_parts" (defArgs s__law_parts) (defBody s__law_parts) (defScope s__law_parts) .none kV15 dc15 pm15 an15 cd15 ct15), sl15⟩) (c15 : PySem.W.codeIn K cd15 "_law_parts" = true) (k15 : PySem.W.keepIn K (.ref f15) = true)
    (a16 : PySem.W.nsIn K mainGlobals "_law_up" = some (some (.ref f16))) (l16 : K.lookup f16 = some ⟨oc16, od16, .func (PySem.W.fnOf "_law_up" "_law_up" (defArgs s__law_up) (defBody s__law_up) (defScope s__law_up) .none kV16 dc16 pm16 an16 cd16 ct16), sl16⟩) (c16 : PySem.W.codeIn K cd16 "_law_up" = true) (k16 : PySem.W.keepIn K (.ref f16) = true)
    (a17 : PySem.W.nsIn K mainGlobals "_law_laid" = some (some (.ref f17))) (l17 : K.lookup f17 = some ⟨oc17, od17, .func (PySem.W.fnOf "_law_laid" "_law_laid" (defArgs s__law_laid) (defBody s__law_laid) (defScope s__law_laid) .none kV17 dc17 pm17 an17 cd17 ct17), sl17⟩) (c17 : PySem.W.codeIn K cd17 "_law_laid" = true) (k17 : PySem.W.keepIn K (.ref f17) = true)
    (a18 : PySem.W.nsIn K mainGlobals "_law_orders" = some (some (.ref f18))) (l18 : K.lookup f18 = some ⟨oc18, od18, .func (PySem.W.fnOf "_law_orders" "_law_orders" (defArgs s__law_orders) (defBody s__law_orders) (defScope s__law_orders) .none kV18 dc18 pm18 an18 cd18 ct18), sl18⟩) (c18 : PySem.W.codeIn K cd18 "_law_orders" = true) (k18 : PySem.W.keepIn K (.ref f18) = true)
    (a19 : PySem.W.nsIn K mainGlobals "_law_left" = some (some (.ref f19))) (l19 : K.lookup f19 = some ⟨oc19, od19, .func (PySem.W.fnOf "_law_left" "_law_left" (defArgs s__law_left) (defBody s__law_left) (defScope s__law_left) .none kV19 dc19 pm19 an19 cd19 ct19), sl19⟩) (c19 : PySem.W.codeIn K cd19 "_law_left" = true) (k19 : PySem.W.keepIn K (.ref f19) = true)
    (a20 : PySem.W.nsIn K mainGlobals "_law_cut" = some (some (.ref f20))) (l20 : K.lookup f20 = some ⟨oc20, od20, .func (PySem.W.fnOf "_law_cut" "_law_cut" (defArgs s__law_cut) (defBody s__law_cut) (defScope s__law_cut) .none kV20 dc20 pm20 an20 cd20 ct20), sl20⟩) (c20 : PySem.W.codeIn K cd20 "_law_cut" = true) (k20 : PySem.W.keepIn K (.ref f20) = true)
    (a21 : PySem.W.nsIn K mainGlobals "_law_wrong" = some (some (.ref f21))) (l21 : K.lookup f21 = some ⟨oc21, od21, .func (PySem.W.fnOf "_law_wrong" "_law_wrong" (defArgs s__law_wrong) (defBody s__law_wrong) (defScope s__law_wrong) .none kV21 dc21 pm21 an21 cd21 ct21), sl21⟩) (c21 : PySem.W.codeIn K cd21 "_law_wrong" = true) (k21 : PySem.W.keepIn K (.ref f21) = true)
    (a22 : PySem.W.nsIn K mainGlobals "_law_are_parts" = some (some (.ref f22))) (l22 : K.lookup f22 = some ⟨oc22, od22, .func (PySem.W.fnOf "_law_are_parts" "_law_are_parts" (defArgs s__law_are_parts) (defBody s__law_are_parts) (defScope s__law_are_parts) .none kV22 dc22 pm22 an22 cd22 ct22), sl22⟩) (c22 : PySem.W.codeIn K cd22 "_law_are_parts" = true) (k22 : PySem.W.keepIn K (.ref f22) = true)
    (a23 : PySem.W.nsIn K mainGlobals "_law_fault" = some (some (.ref f23))) (l23 : K.lookup f23 = some ⟨oc23, od23, .func (PySem.W.fnOf "_law_fault" "_law_fault" (defArgs s__law_fault) (defBody s__law_fault) (defScope s__law_fault) .none kV23 dc23 pm23 an23 cd23 ct23), sl23⟩) (c23 : PySem.W.codeIn K cd23 "_law_fault" = true) (k23 : PySem.W.keepIn K (.ref f23) = true)
    (a24 : PySem.W.nsIn K mainGlobals "_law_paper_right" = some (some (.ref f24))) (l24 : K.lookup f24 = some ⟨oc24, od24, .func (PySem.W.fnOf "_law_paper_right" "_law_paper_right" (defArgs s__law_paper_right) (defBody s__law_paper_right) (defScope s__law_paper_right) .none kV24 dc24 pm24 an24 cd24 ct24), sl24⟩) (c24 : PySem.W.codeIn K cd24 "_law_paper_right" = true) (k24 : PySem.W.keepIn K (.ref f24) = true)
    (a25 : PySem.W.nsIn K mainGlobals "law" = some (some (.ref f25))) (l25 : K.lookup f25 = some ⟨oc25, od25, .func (PySem.W.fnOf "law" "law" (defArgs s_law) (defBody s_law) (defScope s_law) .none kV25 dc25 pm25 an25 cd25 ct25), sl25⟩) (c25 : PySem.W.codeIn K cd25 "law" = true) (k25 : PySem.W.keepIn K (.ref f25) = true)
    (z_range : PySem.W.nsIn K mainGlobals "range" = some none) (z_len : PySem.W.nsIn K mainGlobals "len" = some none) (z_sum : PySem.W.nsIn K mainGlobals "sum" = some none) (z_tuple : PySem.W.nsIn K mainGlobals "tuple" = some none) (z_list : PySem.W.nsIn K mainGlobals "list" = some none) (z_int : PySem.W.nsIn K mainGlobals "int" = some none) (z_isinstance : PySem.W.nsIn K mainGlobals "isinstance" = some none) (z_bool : PySem.W.nsIn K mainGlobals "bool" = some none) (z_str : PySem.W.nsIn K mainGlobals "str" = some none) (z_zip : PySem.W.nsIn K mainGlobals "zip" = some none) (z_sorted : PySem.W.nsIn K mainGlobals "sorted" = some none) (z_min : PySem.W.nsIn K mainGlobals "min" = some none) :
    ∃ fd : FuncData, (∀ (s : Shared) (v : Value), BindsTo s fd ⟨[v], []⟩ [("_law_script", v)]) ∧ ∀ base : Heap, K.In base → base.Ns mainGlobals mg → FnOk l.prog w K mg base CX0 19 fa fd ["_law_script"] (sp_law K) := by
  have e := hfa.symm.trans (PySem.W.mg_of X G a25)
  cases e
  have F1 := fun_mk (st := s_rounded) l1 c1 k1
  have F2 := fun_mk (st := s_laid_end) l2 c2 k2
  have F3 := fun_mk (st := s_end_of) l3 c3 k3
  have F4 := fun_mk (st := s_bits_of) l4 c4 k4
  have F5 := fun_mk (st := s_left_of) l5 c5 k5
  have F6 := fun_mk (st := s_is_cut) l6 c6 k6
  have F7 := fun_mk (st := s_first_fewest) l7 c7 k7
  have F8 := fun_mk (st := s_grown_tree) l8 c8 k8
  have F9 := fun_mk (st := s_fewest) l9 c9 k9
  have F10 := fun_mk (st := s__law_draws) l10 c10 k10
  have F11 := fun_mk (st := s__law_next) l11 c11 k11
  have F12 := fun_mk (st := s__law_whole) l12 c12 k12
  have F13 := fun_mk (st := s__law_just) l13 c13 k13
  have F14 := fun_mk (st := s__law_measure) l14 c14 k14
  have F15 := fun_mk (st := s__law_parts) l15 c15 k15
  have F16 := fun_mk (st := s__law_up) l16 c16 k16
  have F17 := fun_mk (st := s__law_laid) l17 c17 k17
  have F18 := fun_mk (st := s__law_orders) l18 c18 k18
  have F19 := fun_mk (st := s__law_left) l19 c19 k19
  have F20 := fun_mk (st := s__law_cut) l20 c20 k20
  have F21 := fun_mk (st := s__law_wrong) l21 c21 k21
  have F22 := fun_mk (st := s__law_are_parts) l22 c22 k22
  have F23 := fun_mk (st := s__law_fault) l23 c23 k23
  have F24 := fun_mk (st := s__law_paper_right) l24 c24 k24
  have F25 := fun_mk (st := s_law) l25 c25 k25
  have b1 := F1.binds (ps := pm_rounded) fun _ _ _ _ _ _ us hl => match us, hl with | [_, _], _ => rfl
  have g1 := PySem.W.mg_of X G a1
  have b2 := F2.binds (ps := pm_laid_end) fun _ _ _ _ _ _ us hl => match us, hl with | [_, _], _ => rfl
  have g2 := PySem.W.mg_of X G a2
  have b3 := F3.binds (ps := pm_end_of) fun _ _ _ _ _ _ us hl => match us, hl with | [_, _], _ => rfl
  have g3 := PySem.W.mg_of X G a3
  have b4 := F4.binds (ps := pm_bits_of) fun _ _ _ _ _ _ us hl => match us, hl with | [_, _], _ => rfl
  have g4 := PySem.W.mg_of X G a4
  have b5 := F5.binds (ps := pm_left_of) fun _ _ _ _ _ _ us hl => match us, hl with | [_, _], _ => rfl
  have g5 := PySem.W.mg_of X G a5
  have b6 := F6.binds (ps := pm_is_cut) fun _ _ _ _ _ _ us hl => match us, hl with | [_, _, _], _ => rfl
  have g6 := PySem.W.mg_of X G a6
  have b7 := F7.binds (ps := pm_first_fewest) fun _ _ _ _ _ _ us hl => match us, hl with | [_], _ => rfl
  have g7 := PySem.W.mg_of X G a7
  have b8 := F8.binds (ps := pm_grown_tree) fun _ _ _ _ _ _ us hl => match us, hl with | [_, _, _], _ => rfl
  have g8 := PySem.W.mg_of X G a8
  have b9 := F9.binds (ps := pm_fewest) fun _ _ _ _ _ _ us hl => match us, hl with | [_], _ => rfl
  have g9 := PySem.W.mg_of X G a9
  have b10 := F10.binds (ps := pm__law_draws) fun _ _ _ _ _ _ us hl => match us, hl with | [_], _ => rfl
  have g10 := PySem.W.mg_of X G a10
  have b11 := F11.binds (ps := pm__law_next) fun _ _ _ _ _ _ us hl => match us, hl with | [_, _], _ => rfl
  have g11 := PySem.W.mg_of X G a11
  have b12 := F12.binds (ps := pm__law_whole) fun _ _ _ _ _ _ us hl => match us, hl with | [_], _ => rfl
  have g12 := PySem.W.mg_of X G a12
  have b13 := F13.binds (ps := pm__law_just) fun _ _ _ _ _ _ us hl => match us, hl with | [_, _], _ => rfl
  have g13 := PySem.W.mg_of X G a13
  have b14 := F14.binds (ps := pm__law_measure) fun _ _ _ _ _ _ us hl => match us, hl with | [_], _ => rfl
  have g14 := PySem.W.mg_of X G a14
  have b15 := F15.binds (ps := pm__law_parts) fun _ _ _ _ _ _ us hl => match us, hl with | [_, _], _ => rfl
  have g15 := PySem.W.mg_of X G a15
  have b16 := F16.binds (ps := pm__law_up) fun _ _ _ _ _ _ us hl => match us, hl with | [_, _], _ => rfl
  have g16 := PySem.W.mg_of X G a16
  have b17 := F17.binds (ps := pm__law_laid) fun _ _ _ _ _ _ us hl => match us, hl with | [_, _], _ => rfl
  have g17 := PySem.W.mg_of X G a17
  have b18 := F18.binds (ps := pm__law_orders) fun _ _ _ _ _ _ us hl => match us, hl with | [_], _ => rfl
  have g18 := PySem.W.mg_of X G a18
  have b19 := F19.binds (ps := pm__law_left) fun _ _ _ _ _ _ us hl => match us, hl with | [_, _], _ => rfl
  have g19 := PySem.W.mg_of X G a19
  have b20 := F20.binds (ps := pm__law_cut) fun _ _ _ _ _ _ us hl => match us, hl with | [_, _, _], _ => rfl
  have g20 := PySem.W.mg_of X G a20
  have b21 := F21.binds (ps := pm__law_wrong) fun _ _ _ _ _ _ us hl => match us, hl with | [_, _, _, _], _ => rfl
  have g21 := PySem.W.mg_of X G a21
  have b22 := F22.binds (ps := pm__law_are_parts) fun _ _ _ _ _ _ us hl => match us, hl with | [_], _ => rfl
  have g22 := PySem.W.mg_of X G a22
  have b23 := F23.binds (ps := pm__law_fault) fun _ _ _ _ _ _ us hl => match us, hl with | [_, _], _ => rfl
  have g23 := PySem.W.mg_of X G a23
  have b24 := F24.binds (ps := pm__law_paper_right) fun _ _ _ _ _ _ us hl => match us, hl with | [_, _], _ => rfl
  have g24 := PySem.W.mg_of X G a24
  have b25 := F25.binds (ps := pm_law) fun _ _ _ _ _ _ us hl => match us, hl with | [_], _ => rfl
  have g25 := PySem.W.mg_of X G a25
  have m_range := PySem.W.mg_none_of X G z_range
  have m_len := PySem.W.mg_none_of X G z_len
  have m_sum := PySem.W.mg_none_of X G z_sum
  have m_tuple := PySem.W.mg_none_of X G z_tuple
  have m_list := PySem.W.mg_none_of X G z_list
  have m_int := PySem.W.mg_none_of X G z_int
  have m_isinstance := PySem.W.mg_none_of X G z_isinstance
  have m_bool := PySem.W.mg_none_of X G z_bool
  have m_str := PySem.W.mg_none_of X G z_str
  have m_zip := PySem.W.mg_none_of X G z_zip
  have m_sorted := PySem.W.mg_none_of X G z_sorted
  have m_min := PySem.W.mg_none_of X G z_min
  refine ⟨PySem.W.fnOf "law" "law" (defArgs s_law) (defBody s_law) (defScope s_law) .none kV25 dc25 pm25 an25 cd25 ct25, fun s v => .of_eq rfl, fun base _ _ => ?_⟩
  have C_rounded : Cal l.prog w K mg base "rounded" pm_rounded 1 sp_rounded := ⟨_, _, ok_rounded F1, g1, k1, b1⟩
  have C_left_of : Cal l.prog w K mg base "left_of" pm_left_of 1 (sp_left_of K) := ⟨_, _, ok_left_of F5 m_range m_len, g5, k5, b5⟩
  have C__law_draws : Cal l.prog w K mg base "_law_draws" pm__law_draws 1 (sp__law_draws K) := ⟨_, _, ok__law_draws F10 m_list m_int m_len, g10, k10, b10⟩
  have C__law_next : Cal l.prog w K mg base "_law_next" pm__law_next 1 sp__law_next := ⟨_, _, ok__law_next F11 m_len, g11, k11, b11⟩
  have C__law_whole : Cal l.prog w K mg base "_law_whole" pm__law_whole 1 (sp__law_whole K) := ⟨_, _, ok__law_whole F12 m_isinstance m_int m_bool, g12, k12, b12⟩
  have C__law_up : Cal l.prog w K mg base "_law_up" pm__law_up 1 sp__law_up := ⟨_, _, ok__law_up F16, g16, k16, b16⟩
  have C__law_orders : Cal l.prog w K mg base "_law_orders" pm__law_orders 1 (sp__law_orders K) := ⟨_, _, ok__law_orders F18 m_range, g18, k18, b18⟩
  have C__law_left : Cal l.prog w K mg base "_law_left" pm__law_left 1 (sp_left_of K) := ⟨_, _, ok__law_left F19 m_range m_len, g19, k19, b19⟩
  have C_laid_end : Cal l.prog w K mg base "laid_end" pm_laid_end 2 (sp_laid_end K) := ⟨_, _, ok_laid_end F2 C_rounded, g2, k2, b2⟩
  have C__law_measure : Cal l.prog w K mg base "_law_measure" pm__law_measure 2 (sp__law_measure K) := ⟨_, _, ok__law_measure F14 C__law_next, g14, k14, b14⟩
  have C__law_laid : Cal l.prog w K mg base "_law_laid" pm__law_laid 2 (sp__law_laid K) := ⟨_, _, ok__law_laid F17 C__law_up m_len m_tuple, g17, k17, b17⟩
  have C__law_are_parts : Cal l.prog w K mg base "_law_are_parts" pm__law_are_parts 2 (sp__law_are_parts K) := ⟨_, _, ok__law_are_parts F22 C__law_whole m_isinstance m_tuple m_len, g22, k22, b22⟩
  have C_end_of : Cal l.prog w K mg base "end_of" pm_end_of 3 (sp_end_of K) := ⟨_, _, ok_end_of F3 C_laid_end, g3, k3, b3⟩
  have C__law_parts : Cal l.prog w K mg base "_law_parts" pm__law_parts 3 (sp__law_parts K) := ⟨_, _, ok__law_parts F15 C__law_measure C__law_next m_tuple m_range, g15, k15, b15⟩
  have C__law_cut : Cal l.prog w K mg base "_law_cut" pm__law_cut 3 (sp__law_cut K) := ⟨_, _, ok__law_cut F20 C__law_left C__law_laid m_sum, g20, k20, b20⟩
  have C_bits_of : Cal l.prog w K mg base "bits_of" pm_bits_of 4 (sp_bits_of K) := ⟨_, _, ok_bits_of F4 C_end_of, g4, k4, b4⟩
  have C_is_cut : Cal l.prog w K mg base "is_cut" pm_is_cut 4 (sp_is_cut K) := ⟨_, _, ok_is_cut F6 C_end_of C_left_of m_sum, g6, k6, b6⟩
  have C_first_fewest : Cal l.prog w K mg base "first_fewest" pm_first_fewest 5 (sp_first_fewest K) := ⟨_, _, ok_first_fewest F7 C_end_of C_is_cut C_left_of m_tuple m_range m_len, g7, k7, b7⟩
  have C_grown_tree : Cal l.prog w K mg base "grown_tree" pm_grown_tree 11 (sp_grown_tree K 6) := ⟨_, _, ok_grown_tree F8 g8 b8 C_is_cut C_left_of m_tuple 6, g8, k8, b8⟩
  have C__law_just : Cal l.prog w K mg base "_law_just" pm__law_just 11 (sp__law_just K 9) := ⟨_, _, ok__law_just F13 g13 b13 C__law_whole m_isinstance m_tuple m_str m_bool m_len m_zip 9, g13, k13, b13⟩
  have C_fewest : Cal l.prog w K mg base "fewest" pm_fewest 12 (sp_fewest K) := ⟨_, _, ok_fewest F9 C_first_fewest C_bits_of C_grown_tree, g9, k9, b9⟩
  have C__law_wrong : Cal l.prog w K mg base "_law_wrong" pm__law_wrong 16 (sp__law_wrong K 12) := ⟨_, _, ok__law_wrong F21 g21 b21 C__law_left C__law_cut m_zip m_isinstance m_tuple m_len 12, g21, k21, b21⟩
  have C__law_fault : Cal l.prog w K mg base "_law_fault" pm__law_fault 17 (sp__law_fault K) := ⟨_, _, ok__law_fault F23 C__law_wrong C__law_are_parts C__law_whole C__law_laid m_sorted m_list m_isinstance m_tuple m_len m_range, g23, k23, b23⟩
  have C__law_paper_right : Cal l.prog w K mg base "_law_paper_right" pm__law_paper_right 18 (sp__law_paper_right K) := ⟨_, _, ok__law_paper_right F24 C__law_orders C__law_fault C__law_laid m_len m_min, g24, k24, b24⟩
  exact ok_law F25 C__law_draws C__law_parts C_fewest C__law_just C__law_paper_right
end K3
open PySem PySem.W PyProof.Rows
set_option maxHeartbeats 0 in
theorem PySem.Challenge.cw_packedforms_k34_fewest_told_holds : PySem.Challenge.rw_packedforms_k34_fewest_told.Holds := by
  w_on; o_law; k_head; (case hw => w_witness2)
  k_fill
  refine L2.walk_of (l := PySem.Challenge.rw_packedforms_k34_fewest_told) (n := 63) (k := 19) (x := "_law_script") (CX := fun _ => L2.CX0) (sp := fun w => K3.sp_law _) rfl (by decide) rfl ⟨rfl, by decide, by decide⟩ (fun w h Y => PySem.W.kIn_of Y) ?F (fun _ _ a ns hl _ hS => ⟨a, ns, rfl, hS, hl, fun _ => rfl⟩) (fun _ _ _ _ _ h => h)
  case F =>
    intro w mg fa h KX G hmg
    refine' K3.all_mk KX G hmg ?a1 ?l1 ?c1 ?k1 ?a2 ?l2 ?c2 ?k2 ?a3 ?l3 ?c3 ?k3 ?a4 ?l4 ?c4 ?k4 ?a5 ?l5 ?c5 ?k5 ?a6 ?l6 ?c6 ?k6 ?a7 ?l7 ?c7 ?k7 ?a8 ?l8 ?c8 ?k8 ?a9 ?l9 ?c9 ?k9 ?a10 ?l10 ?c10 ?k10 ?a11 ?l11 ?c11 ?k11 ?a12 ?l12 ?c12 ?k12 ?a13 ?l13 ?c13 ?k13 ?a14 ?l14 ?c14 ?k14 ?a15 ?l15 ?c15 ?k15 ?a16 ?l16 ?c16 ?k16 ?a17 ?l17 ?c17 ?k17 ?a18 ?l18 ?c18 ?k18 ?a19 ?l19 ?c19 ?k19 ?a20 ?l20 ?c20 ?k20 ?a21 ?l21 ?c21 ?k21 ?a22 ?l22 ?c22 ?k22 ?a23 ?l23 ?c23 ?k23 ?a24 ?l24 ?c24 ?k24 ?a25 ?l25 ?c25 ?k25 ?z_range ?z_len ?z_sum ?z_tuple ?z_list ?z_int ?z_isinstance ?z_bool ?z_str ?z_zip ?z_sorted ?z_min
    (case a1 => k_is); (case l1 => k_is); (case c1 => k_is); (case k1 => k_is); (case a2 => k_is); (case l2 => k_is); (case c2 => k_is); (case k2 => k_is); (case a3 => k_is); (case l3 => k_is); (case c3 => k_is); (case k3 => k_is); (case a4 => k_is); (case l4 => k_is); (case c4 => k_is); (case k4 => k_is); (case a5 => k_is); (case l5 => k_is); (case c5 => k_is); (case k5 => k_is); (case a6 => k_is); (case l6 => k_is); (case c6 => k_is); (case k6 => k_is); (case a7 => k_is); (case l7 => k_is); (case c7 => k_is); (case k7 => k_is); (case a8 => k_is); (case l8 => k_is); (case c8 => k_is); (case k8 => k_is); (case a9 => k_is); (case l9 => k_is); (case c9 => k_is); (case k9 => k_is); (case a10 => k_is); (case l10 => k_is); (case c10 => k_is); (case k10 => k_is); (case a11 => k_is); (case l11 => k_is); (case c11 => k_is); (case k11 => k_is); (case a12 => k_is); (case l12 => k_is); (case c12 => k_is); (case k12 => k_is); (case a13 => k_is); (case l13 => k_is); (case c13 => k_is); (case k13 => k_is); (case a14 => k_is); (case l14 => k_is); (case c14 => k_is); (case k14 => k_is); (case a15 => k_is); (case l15 => k_is); (case c15 => k_is); (case k15 => k_is); (case a16 => k_is); (case l16 => k_is); (case c16 => k_is); (case k16 => k_is); (case a17 => k_is); (case l17 => k_is); (case c17 => k_is); (case k17 => k_is); (case a18 => k_is); (case l18 => k_is); (case c18 => k_is); (case k18 => k_is); (case a19 => k_is); (case l19 => k_is); (case c19 => k_is); (case k19 => k_is); (case a20 => k_is); (case l20 => k_is); (case c20 => k_is); (case k20 => k_is); (case a21 => k_is); (case l21 => k_is); (case c21 => k_is); (case k21 => k_is); (case a22 => k_is); (case l22 => k_is); (case c22 => k_is); (case k22 => k_is); (case a23 => k_is); (case l23 => k_is); (case c23 => k_is); (case k23 => k_is); (case a24 => k_is); (case l24 => k_is); (case c24 => k_is); (case k24 => k_is); (case a25 => k_is); (case l25 => k_is); (case c25 => k_is); (case k25 => k_is); (case z_range => k_is); (case z_len => k_is); (case z_sum => k_is); (case z_tuple => k_is); (case z_list => k_is); (case z_int => k_is); (case z_isinstance => k_is); (case z_bool => k_is); (case z_str => k_is); (case z_zip => k_is); (case z_sorted => k_is); (case z_min => k_is)
