import PyProof.Rows.All
import Wide.All
import OpenK.AllK
import Wide.FinOn
import HandS.ForMost
import HandS.IsInst
import HandS.TupAny
import HandS.Wide
import HandS.NoneIn
import HandS.Flow
import HandS.Conv
import HandS.Deep
import HandS.Zip
import HandS.Style
import HandS.Exc
import HandS.TryMany
import HandS.ExcInit
import HandS.ExcField
import KE.KExcIs
import HandS.Iter
import HandS.Walk
import KE.GoesMore
import PyProof.EnumMake
import PySem.Challenge.RW_packedforms_k11_codes_of_numbers
import HandS.Steps
import HandS.More
import HandS.Dict
import HandS.DictComp
import HandS.ExcOwn
import HandS.WordsExc
set_option Elab.async false
set_option linter.all false
set_option maxRecDepth 100000
set_option maxHeartbeats 2000000
namespace K1
open PySem PySem.Spec PyProof.Rows L2
/-! ### written things as data -/
mutual
/-- None, truths, numbers, texts of right signs, tuples of such -/
def pl : PyData → Bool
  | .none => true
  | .bool _ => true
  | .int _ => true
  | .str x => PyData.strOk x
  | .tuple ds => plA ds
  | .list _ => false
  | .dict _ => false
def plA : List PyData → Bool
  | [] => true
  | d :: ds => pl d && plA ds
end
mutual
/-- how great a thing is: tuples and leaves, signs of texts -/
def sz : PyData → Nat
  | .none => 1
  | .bool _ => 1
  | .int _ => 1
  | .str x => x.length + 1
  | .tuple ds => szA ds + 1
  | .list _ => 1
  | .dict _ => 1
def szA : List PyData → Nat
  | [] => 0
  | d :: ds => sz d + szA ds
end
theorem sz_pos : ∀ d, 1 ≤ sz d
  | .none => Nat.le_refl _
  | .bool _ => Nat.le_refl _
  | .int _ => Nat.le_refl _
  | .str x => Nat.succ_le_succ (Nat.zero_le _)
  | .tuple ds => Nat.succ_le_succ (Nat.zero_le _)
  | .list _ => Nat.le_refl _
  | .dict _ => Nat.le_refl _
theorem len_szA : ∀ ds : List PyData, ds.length ≤ szA ds
  | [] => Nat.le_refl _
  | d :: ds => by
    have h1 := sz_pos d
    have h2 := len_szA ds
    simp only [List.length_cons, szA]
    omega
mutual
theorem canLay : ∀ d, pl d = true → PyData.canLay0 d = true
  | .none, _ => rfl
  | .bool _, _ => rfl
  | .int _, _ => rfl
  | .str _, h => h
  | .tuple ds, h => canLayA ds h
  | .list _, h => by cases h
  | .dict _, h => by cases h
theorem canLayA : ∀ ds, plA ds = true → PyData.canLayAll0 ds = true
  | [], _ => rfl
  | d :: ds, h => by
    have h' : pl d = true ∧ plA ds = true := by simpa [plA] using h
    show (PyData.canLay0 d && PyData.canLayAll0 ds) = true
    rw [canLay d h'.1, canLayA ds h'.2]
    rfl
end
theorem plA_mem : ∀ {ds : List PyData} {d : PyData}, plA ds = true → d ∈ ds → pl d = true
  | d :: ds, e, h, m => by
    have h' : pl d = true ∧ plA ds = true := by simpa [plA] using h
    rcases List.mem_cons.mp m with rfl | m
    · exact h'.1
    · exact plA_mem h'.2 m
theorem plA_of : ∀ {ds : List PyData}, (∀ d ∈ ds, pl d = true) → plA ds = true
  | [], _ => rfl
  | d :: ds, h => by
    show (pl d && plA ds) = true
    rw [h d List.mem_cons_self, plA_of fun e m => h e (List.mem_cons_of_mem _ m)]
    rfl
theorem szA_append : ∀ xs ys : List PyData, szA (xs ++ ys) = szA xs + szA ys
  | [], ys => by simp [szA]
  | x :: xs, ys => by
    simp only [List.cons_append, szA, szA_append xs ys]
    omega
theorem sz_mem : ∀ {ds : List PyData} {d : PyData}, d ∈ ds → sz d ≤ szA ds
  | d :: ds, e, m => by
    simp only [szA]
    rcases List.mem_cons.mp m with rfl | m
    · omega
    · have := sz_mem m
      omega
theorem szA_le {b : Nat} : ∀ {ds : List PyData}, (∀ d ∈ ds, sz d ≤ b) → szA ds ≤ ds.length * b
  | [], _ => by simp [szA]
  | d :: ds, h => by
    have h1 := h d List.mem_cons_self
    have h2 := szA_le fun e m => h e (List.mem_cons_of_mem _ m)
    simp only [szA, List.length_cons, Nat.add_mul]
    omega
theorem depthA_le {b : Nat} : ∀ {ds : List PyData}, (∀ d ∈ ds, d.depth ≤ b) → PyData.depthAll ds ≤ b
  | [], _ => by simp [PyData.depthAll]
  | d :: ds, h => by
    have h1 := h d List.mem_cons_self
    have h2 := depthA_le fun e m => h e (List.mem_cons_of_mem _ m)
    simp only [PyData.depthAll]
    omega
theorem depth_mem : ∀ {ds : List PyData} {d : PyData}, d ∈ ds → d.depth ≤ PyData.depthAll ds
  | d :: ds, e, m => by
    simp only [PyData.depthAll]
    rcases List.mem_cons.mp m with rfl | m
    · omega
    · have := depth_mem m
      omega
theorem depth_tuple (ds : List PyData) : (PyData.tuple ds).depth = PyData.depthAll ds + 1 := by simp [PyData.depth]
/-! ### heaps: what tuples stand -/
section
variable {K : PySem.W.Frag} {H H1 H2 : Hp}
def TS (K : PySem.W.Frag) (H H' : Hp) : Prop := ∀ a xs, SqT K H a xs → SqT K H' a xs
theorem TS.refl : TS K H H := fun _ _ h => h
theorem TS.trans (a : TS K H H1) (b : TS K H1 H2) : TS K H H2 := fun x xs h => b x xs (a x xs h)
theorem ts_same (s : Same H H1) : TS K H H1 := fun a xs h => by
  rcases h with (h | ⟨o, h⟩) | h
  · exact .inl (.inl (s _ _ h))
  · exact .inl (.inr ⟨o, s _ _ h⟩)
  · exact .inr h
theorem ts_new {p : Addr} {o : HO} (h : H p = none) : TS K H (upd H p o) := ts_same fun b u e => by rw [upd_ne (ne_of_none e h)]; exact e
theorem ts_but {S : Addr → Prop} (hS : ∀ b, S b → ∃ xs, H b = some (.lst xs)) (k : ∀ b o, ¬ S b → H b = some o → H1 b = some o) : TS K H H1 := fun a xs h => by
  rcases h with (h | ⟨o, h⟩) | h
  · refine .inl (.inl (k _ _ (fun z => ?_) h))
    obtain ⟨ys, e⟩ := hS a z
    rw [e] at h
    cases h
  · refine .inl (.inr ⟨o, k _ _ (fun z => ?_) h⟩)
    obtain ⟨ys, e⟩ := hS a z
    rw [e] at h
    cases h
  · exact .inr h
theorem ts_lst {l : Addr} {xs ys : List V} (h : H l = some (.lst xs)) : TS K H (upd H l (.lst ys)) :=
  ts_but (S := fun b => b = l) (fun b e => ⟨xs, by rw [e]; exact h⟩) fun b o n e => by rw [upd_ne n]; exact e
theorem same_upd {p : Addr} {o : HO} (h : H p = none) : Same H (upd H p o) := fun b x e => by rw [upd_ne (ne_of_none e h)]; exact e
mutual
theorem TS.dp (t : TS K H H1) : ∀ (d : PyData) (v : V), pl d = true → Dp K H v d → Dp K H1 v d
  | .none, _, _, h => by cases h; exact .non
  | .bool b, _, _, h => by cases h; exact .bl b
  | .int i, _, _, h => by cases h; exact .int i
  | .str x, _, _, h => by cases h; exact .str x
  | .tuple ds, _, p, h => by
    cases h with
    | tup hs ha => exact .tup (t _ _ hs) (TS.dps t ds _ p ha)
  | .list _, _, p, _ => by cases p
  | .dict _, _, p, _ => by cases p
theorem TS.dps (t : TS K H H1) : ∀ (ds : List PyData) (vs : List V), plA ds = true → DpAll K H vs ds → DpAll K H1 vs ds
  | [], _, _, h => by cases h; exact .nil
  | d :: ds, _, p, h => by
    have p' : pl d = true ∧ plA ds = true := by simpa [plA] using p
    cases h with
    | cons h1 h2 => exact .cons (TS.dp t d _ p'.1 h1) (TS.dps t ds _ p'.2 h2)
end
theorem dpAll_len : ∀ {vs : List V} {ds : List PyData}, DpAll K H vs ds → vs.length = ds.length
  | _, _, .nil => rfl
  | _, _, .cons _ t => by simp [dpAll_len t]
theorem dpAll_get : ∀ {vs : List V} {ds : List PyData} {i : Nat} {v : V}, DpAll K H vs ds → vs[i]? = some v → ∃ d, ds[i]? = some d ∧ Dp K H v d
  | _, _, i, v, .nil, e => by simp at e
  | _, _, 0, v, .cons h t, e => by
    simp at e
    subst e
    exact ⟨_, rfl, h⟩
  | _, _, i + 1, v, .cons h t, e => by
    obtain ⟨d, e1, e2⟩ := dpAll_get (i := i) t (by simpa using e)
    exact ⟨d, by simpa using e1, e2⟩
theorem dpAll_append : ∀ {vs ws : List V} {ds es : List PyData}, DpAll K H vs ds → DpAll K H ws es → DpAll K H (vs ++ ws) (ds ++ es)
  | _, _, _, _, .nil, s => s
  | _, _, _, _, .cons h t, s => .cons h (dpAll_append t s)
theorem dpAll_take : ∀ {vs : List V} {ds : List PyData} (n : Nat), DpAll K H vs ds → DpAll K H (vs.take n) (ds.take n)
  | _, _, 0, _ => by simp; exact .nil
  | _, _, _ + 1, .nil => by simp; exact .nil
  | _, _, n + 1, .cons h t => .cons h (dpAll_take n t)
theorem dpAll_drop : ∀ {vs : List V} {ds : List PyData} (n : Nat), DpAll K H vs ds → DpAll K H (vs.drop n) (ds.drop n)
  | _, _, 0, r => r
  | _, _, _ + 1, .nil => by simp; exact .nil
  | _, _, n + 1, .cons _ t => dpAll_drop n t
end
/-! ### a few operators -/
section
variable {X : Cx}
/-- a != b of data, where one of them is not deep -/
def rNeM (K : PySem.W.Frag) : R2 := fun x y H Q => ∃ d e, Dp K H x d ∧ Dp K H y e ∧ d.canLay0 = true ∧ e.canLay0 = true ∧ min d.depth e.depth ≤ 64 ∧ Q (.bl (!PyData.eqv d e)) H
def rEqM (K : PySem.W.Frag) : R2 := fun x y H Q => ∃ d e, Dp K H x d ∧ Dp K H y e ∧ d.canLay0 = true ∧ e.canLay0 = true ∧ min d.depth e.depth ≤ 64 ∧ Q (.bl (PyData.eqv d e)) H
theorem op_neM (hu : X.A.units + 64 < cLine) : OpR X (compareOp .NotEq) (rNeM X.K) := by
  intro pins s σ H x y v u Q I rx ry h
  obtain ⟨d, e, hd, he, sd, se, hm, q⟩ := h
  obtain ⟨as, r1⟩ := Dp.reads I d x v hd rx
  obtain ⟨bs, r2⟩ := Dp.reads I e y u he ry
  exact SeqAt.compareNe_reads r1 r2 sd se (Nat.lt_of_le_of_lt (Nat.add_le_add_left hm _) hu) ⟨.bl _, H, I, rfl, q⟩
theorem op_eqM (hu : X.A.units + 64 < cLine) : OpR X (compareOp .Eq) (rEqM X.K) := by
  intro pins s σ H x y v u Q I rx ry h
  obtain ⟨d, e, hd, he, sd, se, hm, q⟩ := h
  obtain ⟨as, r1⟩ := Dp.reads I d x v hd rx
  obtain ⟨bs, r2⟩ := Dp.reads I e y u he ry
  exact SeqAt.compareEq_reads r1 r2 sd se (Nat.lt_of_le_of_lt (Nat.add_le_add_left hm _) hu) ⟨.bl _, H, I, rfl, q⟩
def CPowW (i j : Int) : Prop := 0 ≤ j ∧ (Builtin.Int.intBits i : Int) * j ≤ 2 ^ 27
theorem op_powW : OpR X (binaryOp .Pow) (rI CPowW fun i j => .int (i ^ j.toNat)) := opI fun _ _ _ _ _ _ _ hc q => pow_int hc.1 hc.2 q
end
end K1
namespace K1
open PySem PySem.Spec PyProof.Rows L2
/-! ### the deck -/
structure Dk (H : Hp) (dk cl lf : Addr) (B : Nat) : Prop where
  ex : ∃ (cells lefts : List Int) (n : Int), H dk = some (.lst [.ref cl, .int n, .ref lf]) ∧ H cl = some (.lst (cells.map V.int)) ∧ H lf = some (.lst (lefts.map V.int)) ∧ cells.length = lefts.length ∧ 0 < cells.length ∧ cells.length ≤ 100 ∧ 0 ≤ n ∧ n ≤ B
  ne : cl ≠ lf
/-- all but the deck's own lists stays -/
def KD (dk lf : Addr) (H H' : Hp) : Prop := ∀ b o, b ≠ dk → b ≠ lf → H b = some o → H' b = some o
theorem KD.refl {dk lf : Addr} {H : Hp} : KD dk lf H H := fun _ _ _ _ h => h
theorem KD.trans {dk lf : Addr} {H H1 H2 : Hp} (a : KD dk lf H H1) (b : KD dk lf H1 H2) : KD dk lf H H2 := fun c o n1 n2 h => b c o n1 n2 (a c o n1 n2 h)
theorem Dk.ts {K : PySem.W.Frag} {H H' : Hp} {dk cl lf : Addr} {B : Nat} (d : Dk H dk cl lf B) (k : KD dk lf H H') : TS K H H' := by
  obtain ⟨⟨cells, lefts, n, e1, e2, e3, _⟩, _⟩ := d
  refine ts_but (S := fun b => b = dk ∨ b = lf) (fun b z => ?_) fun b o n e => k b o (fun z => n (.inl z)) (fun z => n (.inr z)) e
  rcases z with rfl | rfl
  · exact ⟨_, e1⟩
  · exact ⟨_, e3⟩
theorem Dk.same {H H' : Hp} {dk cl lf : Addr} {B : Nat} (d : Dk H dk cl lf B) (s : Same H H') : Dk H' dk cl lf B := by
  obtain ⟨⟨cells, lefts, n, e1, e2, e3, r⟩, ne⟩ := d
  exact ⟨⟨cells, lefts, n, s _ _ e1, s _ _ e2, s _ _ e3, r⟩, ne⟩
theorem Dk.mono {H : Hp} {dk cl lf : Addr} {B C : Nat} (h : B ≤ C) (d : Dk H dk cl lf B) : Dk H dk cl lf C := by
  obtain ⟨⟨cells, lefts, n, e1, e2, e3, a, b, c, e, f⟩, ne⟩ := d
  exact ⟨⟨cells, lefts, n, e1, e2, e3, a, b, c, e, by omega⟩, ne⟩
theorem KD.of_same {dk lf : Addr} {H H' : Hp} (s : Same H H') : KD dk lf H H' := fun b o _ _ e => s b o e
theorem emod_bounds (a : Int) {m : Int} (h : 0 < m) : 0 ≤ a % m ∧ a % m < m := ⟨Int.emod_nonneg a (by omega), Int.emod_lt_of_pos a h⟩
theorem small64 {i : Int} {m : Int} (hm : m ≤ 2 ^ 40) (h0 : 0 ≤ i) (h1 : i ≤ m) : -(2 ^ 64) < i ∧ i < 2 ^ 64 := by omega
theorem atI_of {xs : List V} {j : Nat} {v : V} {i : Int} (e : i = (j : Int)) (h : xs[j]? = some v) : atI xs i = some v := by subst e; exact atI_nat h
theorem cut63 (xs : List V) (h : xs.length ≤ 63) : cutV xs none (some 63) = xs := by
  unfold cutV
  rw [HT.sIx_none, show HT.sIx xs.length xs.length (some 63) = min 63 xs.length from HT.sIx_nat xs.length xs.length 63, show min 63 xs.length = xs.length by omega]
  simp
theorem Dk.not {H : Hp} {dk cl lf D : Addr} {B : Nat} (d : Dk H dk cl lf B) (h : H D = none) : D ≠ dk ∧ D ≠ cl ∧ D ≠ lf := by
  obtain ⟨⟨_, _, _, e1, e2, e3, _⟩, _⟩ := d
  exact ⟨(ne_of_none e1 h).symm, (ne_of_none e2 h).symm, (ne_of_none e3 h).symm⟩
theorem Dk.upd {H : Hp} {dk cl lf D : Addr} {B : Nat} {o : HO} (d : Dk H dk cl lf B) (h : D ≠ dk ∧ D ≠ cl ∧ D ≠ lf) : Dk (L2.upd H D o) dk cl lf B := by
  obtain ⟨⟨cells, lefts, n, e1, e2, e3, r⟩, ne⟩ := d
  exact ⟨⟨cells, lefts, n, by rw [upd_ne h.1.symm]; exact e1, by rw [upd_ne h.2.1.symm]; exact e2, by rw [upd_ne h.2.2.symm]; exact e3, r⟩, ne⟩
theorem KD.upd {dk lf D : Addr} {H H1 H2 : Hp} {o : HO} (a : KD dk lf H H1) (b : KD dk lf H1 H2) (h : H1 D = none) : KD dk lf H (L2.upd H2 D o) := fun c u n1 n2 e => by
  rw [upd_ne (ne_of_none (a c u n1 n2 e) h)]
  exact b c u n1 n2 (a c u n1 n2 e)
/-! ### a callee -/
structure Cal (P : Program) (w : World) (K : PySem.W.Frag) (mg : Str → Option Value) (base : Heap) (x : Str) (ps : List Str) (k : Nat) (sp : Sp) : Prop where
  ex : ∃ (f : Addr) (fd : FuncData), FnOk P w K mg base CX0 k f fd ps sp ∧ mg x = some (.ref f) ∧ PySem.W.keepIn K (.ref f) = true ∧ Binds K fd ps []
theorem atI_of2 {α : Type} {xs : List α} {j : Nat} {v : α} {i : Int} (e : i = (j : Int)) (h : xs[j]? = some v) : atI xs i = some v := by subst e; exact atI_nat h
end K1
namespace K1
open PySem PySem.Spec PyProof.Rows L2
/-! ### types of written things -/
def tyN : PyData → String
  | .none => "NoneType"
  | .bool _ => "bool"
  | .int _ => "int"
  | .str _ => "str"
  | .tuple _ => "tuple"
  | .list _ => "list"
  | .dict _ => "dict"
def isT : PyData → Bool
  | .tuple _ => true
  | _ => false
def isB : PyData → Bool
  | .bool _ => true
  | _ => false
def isI : PyData → Bool
  | .int _ => true
  | .bool _ => true
  | _ => false
def isS : PyData → Bool
  | .str _ => true
  | _ => false
theorem kT : ∀ d : PyData, kitB (tyN d) "tuple" = some (isT d)
  | .none => (by decide +kernel : kitB "NoneType" "tuple" = some false)
  | .bool _ => (by decide +kernel : kitB "bool" "tuple" = some false)
  | .int _ => (by decide +kernel : kitB "int" "tuple" = some false)
  | .str _ => (by decide +kernel : kitB "str" "tuple" = some false)
  | .tuple _ => (by decide +kernel : kitB "tuple" "tuple" = some true)
  | .list _ => (by decide +kernel : kitB "list" "tuple" = some false)
  | .dict _ => (by decide +kernel : kitB "dict" "tuple" = some false)
theorem kB : ∀ d : PyData, kitB (tyN d) "bool" = some (isB d)
  | .none => (by decide +kernel : kitB "NoneType" "bool" = some false)
  | .bool _ => (by decide +kernel : kitB "bool" "bool" = some true)
  | .int _ => (by decide +kernel : kitB "int" "bool" = some false)
  | .str _ => (by decide +kernel : kitB "str" "bool" = some false)
  | .tuple _ => (by decide +kernel : kitB "tuple" "bool" = some false)
  | .list _ => (by decide +kernel : kitB "list" "bool" = some false)
  | .dict _ => (by decide +kernel : kitB "dict" "bool" = some false)
theorem kI : ∀ d : PyData, kitB (tyN d) "int" = some (isI d)
  | .none => (by decide +kernel : kitB "NoneType" "int" = some false)
  | .bool _ => (by decide +kernel : kitB "bool" "int" = some true)
  | .int _ => (by decide +kernel : kitB "int" "int" = some true)
  | .str _ => (by decide +kernel : kitB "str" "int" = some false)
  | .tuple _ => (by decide +kernel : kitB "tuple" "int" = some false)
  | .list _ => (by decide +kernel : kitB "list" "int" = some false)
  | .dict _ => (by decide +kernel : kitB "dict" "int" = some false)
theorem kS : ∀ d : PyData, kitB (tyN d) "str" = some (isS d)
  | .none => (by decide +kernel : kitB "NoneType" "str" = some false)
  | .bool _ => (by decide +kernel : kitB "bool" "str" = some false)
  | .int _ => (by decide +kernel : kitB "int" "str" = some false)
  | .str _ => (by decide +kernel : kitB "str" "str" = some true)
  | .tuple _ => (by decide +kernel : kitB "tuple" "str" = some false)
  | .list _ => (by decide +kernel : kitB "list" "str" = some false)
  | .dict _ => (by decide +kernel : kitB "dict" "str" = some false)
theorem dp_ty {K : PySem.W.Frag} {H : Hp} {v : V} {d : PyData} (h : Dp K H v d) (p : pl d = true) : TyX K H v (.type (tyN d)) := by
  cases h with
  | non => exact .base .non
  | bl b => exact .base (.bl b)
  | int i => exact .base (.int i)
  | str x => exact .base (.str x)
  | lst hs ha => cases p
  | tup hs ha =>
    rcases hs with (hs | ⟨o, hs⟩) | ⟨o, its, n, h1, h2, _⟩
    · exact .base (.tup hs)
    · exact .fTuple hs
    · exact .kTuple h1 h2
end K1
namespace K1
open PySem PySem.Spec PyProof.Rows L2
theorem paired_len {α β : Type} {F : α → β → Prop} : ∀ {xs : List α} {ys : List β}, Paired F xs ys → xs.length = ys.length
  | _, _, .nil => rfl
  | _, _, .cons _ t => by simp [paired_len t]
theorem paired_last {α β : Type} {F : α → β → Prop} : ∀ {xs : List α} {ys : List β}, Paired F xs ys → xs ≠ [] → ∃ xs' x ys' y, xs = xs' ++ [x] ∧ ys = ys' ++ [y] ∧ Paired F xs' ys' ∧ F x y
  | _, _, .nil, h => absurd rfl h
  | _, _, .cons (l₁ := []) h .nil, _ => ⟨[], _, [], _, rfl, rfl, .nil, h⟩
  | _, _, .cons (l₁ := _ :: _) h (.cons h2 t), _ => by
    obtain ⟨xs', x, ys', y, e1, e2, r, f⟩ := paired_last (.cons h2 t) (by simp)
    exact ⟨_ :: xs', x, _ :: ys', y, by rw [e1]; rfl, by rw [e2]; rfl, .cons h r, f⟩
theorem paired_append {α β : Type} {F : α → β → Prop} : ∀ {xs xs' : List α} {ys ys' : List β}, Paired F xs ys → Paired F xs' ys' → Paired F (xs ++ xs') (ys ++ ys')
  | _, _, _, _, .nil, s => s
  | _, _, _, _, .cons h t, s => .cons h (paired_append t s)
theorem paired_of {α β : Type} {F : α → β → Prop} : ∀ {xs : List α} {ys : List β}, xs.length = ys.length → (∀ (i : Nat) (x : α) (y : β), xs[i]? = some x → ys[i]? = some y → F x y) → Paired F xs ys
  | [], [], _, _ => .nil
  | [], _ :: _, h, _ => by cases h
  | _ :: _, [], h, _ => by cases h
  | x :: xs, y :: ys, h, f => .cons (f 0 x y rfl rfl) (paired_of (Nat.succ.inj h) fun i a b ea eb => f (i + 1) a b (by simpa using ea) (by simpa using eb))
/-- what the last test of alike says -/
theorem flat_alike : ∀ (d e : PyData), pl d = true → pl e = true → (isT d && isT e) = false → (isB d = isB e ∧ PyData.eqv d e = true ↔ d = e) := by
  intro d e p1 p2 nt
  cases d <;> cases e <;> simp_all [isT, isB, PyData.eqv, pl]
open Classical in
/-- the answer -/
noncomputable def eqB (d e : PyData) : Bool := decide (d = e)
open Classical in
theorem eqB_true {d e : PyData} (h : d = e) : eqB d e = true := decide_eq_true h
open Classical in
theorem eqB_false {d e : PyData} (h : d ≠ e) : eqB d e = false := decide_eq_false h
theorem flat_min {d e : PyData} (p1 : pl d = true) (p2 : pl e = true) (nt : (isT d && isT e) = false) : min d.depth e.depth ≤ 64 := by
  cases d <;> cases e <;> simp_all [isT, PyData.depth, pl]
theorem pss_weak {X : Cx} {st : List Stmt} {t t' : L2.TS} (h : PSs X st t) (g : ∀ D σ H, t' D σ H → t D σ H) : PSs X st t' := ⟨fun pins s σ H D I hh => h.run pins s σ H D I (g D σ H hh)⟩
theorem non_iff {K : PySem.W.Frag} {H : Hp} {x : V} {d : PyData} (h : Dp K H x d) : x = .non ↔ d = .none := by
  cases h <;> simp
theorem flat_same : ∀ (d e : PyData), pl d = true → pl e = true → d ≠ .none → e ≠ .none → isB d = isB e → isT d = false → isT e = false → (PyData.eqv d e = true ↔ d = e) := by
  intro d e p1 p2 n1 n2 b t1 t2
  cases d <;> cases e <;> simp_all [isT, isB, PyData.eqv, pl]
theorem eqv_nil (xs : List PyData) : PyData.eqv (.list xs) (.list []) = xs.isEmpty := by
  cases xs <;> simp [PyData.eqv, PyData.eqvAll]
end K1
namespace K1
open PySem PySem.Spec PyProof.Rows L2
theorem emp_iff {α β : Type} {F : α → β → Prop} {xs : List α} {ys : List β} (h : Paired F xs ys) : xs.isEmpty = ys.isEmpty := by cases h <;> rfl
theorem dpAll_emp {K : PySem.W.Frag} {H : Hp} {xs : List V} {ys : List PyData} (h : DpAll K H xs ys) : xs.isEmpty = ys.isEmpty := by cases h <;> rfl
/-- a sum of two tuples, wherever it lies -/
theorem catA_any {K : PySem.W.Frag} {H : Hp} {a b : Addr} {xs ys : List V} {Q : VK} (ha : SqT K H a xs) (hb : SqT K H b ys) (hl : xs.length + ys.length ≤ sizeLine)
    (q : ∀ r H', Same H H' → SqT K H' r (xs ++ ys) → Q (.ref r) H') : rCatA K (.ref a) (.ref b) H Q := by
  refine ⟨a, b, xs, ys, rfl, rfl, ha, hb, hl, fun e => ?_, fun e1 e2 => ?_, fun e1 e2 p np => q p _ (same_upd np) (.inl (.inl upd_same))⟩
  · subst e; exact q b H (Same.refl _) hb
  · subst e2; exact q a H (Same.refl _) (by rw [List.append_nil]; exact ha)
end K1
namespace K1
open PySem PySem.Spec PyProof.Rows L2
theorem slA_any {K : PySem.W.Frag} {H : Hp} {a : Addr} {xs : List V} {lo hi : Option Int} {Q : VK} (ha : SqT K H a xs) (q : ∀ r H', Same H H' → SqT K H' r (cutV xs lo hi) → Q (.ref r) H') : rSlA K (.ref a) lo hi H Q := by
  refine ⟨a, xs, rfl, ha, fun hw => ?_, fun _ p np => q p _ (same_upd np) (.inl (.inl upd_same))⟩
  have e : cutV xs lo hi = xs := by
    unfold cutV
    rw [hw.1, hw.2]
    simp
  exact q a H (Same.refl _) (by rw [e]; exact ha)
theorem cut_take (xs : List V) (i : Nat) : cutV xs none (some (i : Int)) = xs.take i := by
  unfold cutV
  rw [HT.sIx_none, HT.sIx_nat]
  simp only [List.drop_zero, Nat.sub_zero]
  by_cases h : i ≤ xs.length
  · rw [show min i xs.length = i by omega]
  · rw [show min i xs.length = xs.length by omega, List.take_length, List.take_of_length_le (by omega)]
theorem cut_drop (xs : List V) (i : Nat) : cutV xs (some (i : Int)) none = xs.drop i := by
  unfold cutV
  rw [HT.sIx_none, HT.sIx_nat]
  by_cases h : i ≤ xs.length
  · rw [show min i xs.length = i by omega]
    rw [List.take_of_length_le (by rw [List.length_drop]; omega)]
  · rw [show min i xs.length = xs.length by omega, List.drop_of_length_le (by omega), List.drop_of_length_le (by omega)]
    simp
theorem eqv_nilT (xs : List PyData) : PyData.eqv (.tuple xs) (.tuple []) = xs.isEmpty := by
  cases xs <;> simp [PyData.eqv, PyData.eqvAll]
end K1
namespace K1
open PySem PySem.Spec PyProof.Rows L2
/-! ### a comprehension over zip of two tuples of one length -/
theorem lc_zipT {K : PySem.W.Frag} {a b : Addr} {xs ys : List V} {g : TG} {tt : TT} {te : TE} {vs : List Nat} {σ : L2.St} {H1 : Hp} {D : Addr} {Qd : Hp → Prop} (hl : xs.length = ys.length) (Pv : Nat → Hp → Prop) (h0 : Pv 0 (L2.upd H1 D (.lst [])))
    (hq : ∀ i H, i ≤ xs.length → Pv i H → SqT K H a xs ∧ SqT K H b ys)
    (hs : ∀ (i : Nat) (x y : V) (T : Addr) (H : Hp), xs[i]? = some x → ys[i]? = some y → Pv i H → H T = none → g (.ref T) (wipe σ vs) (L2.upd H T (.tup [x, y])) fun σ2 H2 => wipe σ2 vs = wipe σ vs ∧ tt σ2 H2 fun b H3 =>
      if b = true then te σ2 H3 fun y H4 => ∃ acc, H4 D = some (.lst acc) ∧ acc.length < sizeLine ∧ Pv (i + 1) (L2.upd H4 D (.lst (acc ++ [y]))) else Pv (i + 1) H3) (hd : ∀ H, Pv xs.length H → Qd H) :
    ∃ W : Nat → Nat → Hp → Prop, (∃ m, W 0 m (L2.upd H1 D (.lst []))) ∧ ∀ i m H, W i m H →
      ((RZ.ItzT K a b).stop i H ∧ Qd H) ∨ ((RZ.ItzT K a b).go i H ∧ ∃ Nx : Hp → Prop, (∀ H', Nx H' → ∃ m', m' < m ∧ W (i + 1) m' H') ∧ ∀ x H', (RZ.ItzT K a b).yld i H x H' → g x (wipe σ vs) H' fun σ2 H2 => wipe σ2 vs = wipe σ vs ∧ tt σ2 H2 fun b H3 =>
        if b = true then te σ2 H3 fun y H4 => ∃ acc, H4 D = some (.lst acc) ∧ acc.length < sizeLine ∧ Nx (L2.upd H4 D (.lst (acc ++ [y]))) else Nx H3) := by
  refine ⟨fun i m H => m = xs.length - i ∧ i ≤ xs.length ∧ Pv i H, ⟨xs.length, by simp, Nat.zero_le _, h0⟩, ?_⟩
  rintro i m H ⟨rfl, hi, p⟩
  obtain ⟨qx, qy⟩ := hq i H hi p
  by_cases hlt : i < xs.length
  · have hx : xs[i]? = some xs[i] := List.getElem?_eq_getElem hlt
    have hlt2 : i < ys.length := by omega
    have hy : ys[i]? = some ys[i] := List.getElem?_eq_getElem hlt2
    refine .inr ⟨⟨xs, ys, _, _, qx, qy, hx, hy⟩, Pv (i + 1), fun H' p' => ⟨xs.length - (i + 1), by omega, rfl, hlt, p'⟩, fun v H' y => ?_⟩
    obtain ⟨T, x', y', rfl, hT, rfl, f1, f2⟩ := y
    exact hs i x' y' T H (f1 xs qx) (f2 ys qy) p hT
  · have e : i = xs.length := by omega
    subst e
    exact .inl ⟨⟨xs, ys, qx, qy, Or.inl (Nat.le_refl _)⟩, hd H p⟩
end K1
/-! several except clauses with one name, isinstance of the error that a suite holds, where it has fields -/
namespace EX
open PySem PySem.Spec PyProof.Rows L2
/-- behind a suite the name is gone -/
abbrev gone (D : Ends) (i : Nat) : Ends :=
  { nx := fun σ' H' => D.nx (σ'.set i none) H', rt := D.rt, bk := fun σ' H' => D.bk (σ'.set i none) H', ct := fun σ' H' => D.ct (σ'.set i none) H' }
abbrev Cl := Value × (Addr → Value → Option Addr → TS)
def wManyAs (K : PySem.W.Frag) (i : Nat) (Wout : WX) (D : Ends) : List Cl → WX
  | [] => Wout
  | (c, ts) :: rest => fun cls d σ H => ∃ yes, PySem.W.exmOne K cls c = some yes ∧
      (yes = true → ∀ x, H x = none → ts x cls d (gone D i) (σ.set i (some (.ref x))) H) ∧ (yes = false → wManyAs K i Wout D rest cls d σ H)
inductive HdsAs (X : Cx) (n : Str) : List ExceptHandler → List Cl → Prop
  | nil : HdsAs X n [] []
  | cons {nm : Str} {c : Value} {ts : Addr → Value → Option Addr → TS} {first : Stmt} {more : List Stmt} {p1 p2 : Pos} {hs : List ExceptHandler} {cl : List Cl} (known : Names X nm c)
      (suite : ∀ (x : Addr) (ox : Obj) (cls : Value) (d : Option Addr) (pn : List (Addr × Obj)), Zc cls d ox → (∃ vs, ox.data = .fields vs) → PSs (X.suite x ((x, ox) :: pn)) (first :: more) (ts x cls d))
      (rest : HdsAs X n hs cl) : HdsAs X n (.ExceptHandler (some (.Name nm p1)) (some n) (first :: more) p2 :: hs) ((c, ts) :: cl)
section
variable {X : Cx} {n : Str} {i : Nat} {body : List Stmt} {hd : ExceptHandler} {hs : List ExceptHandler} {cl : List Cl} {pos : Pos} {tb : WX → TS} {Wout : WX}
theorem ps_try_manyAs (hst : X.stack = X.env :: X.outer) (hfm : X.env.frame = some X.env.locals) (hN : X.N.Nodup) (hi : X.N[i]? = some n) (hln : X.env.kindOf n = some .local) (tk : Takes X Wout)
    (hb : ∀ (W : WX) (pn : List (Addr × Obj)) (xe : Value → Shared → Prop), Takes (X.tr pn xe) W → PassesOwn (model X.prog X.w) X.A X.env xe → PSs (X.tr pn xe) body (tb W))
    (hh : HdsAs X n (hd :: hs) cl) : PS X (.Try body (hd :: hs) [] [] pos) (fun D σ H => tb (wManyAs X.K i Wout D cl) D σ H) := by
  refine ⟨fun pins s σ H D I h => ?_⟩
  have okX := I.ok
  have hfr : X.A.frames = some (X.env :: X.outer) := okX.frames.trans (congrArg some hst)
  have hloc : Loc X.env.scope n := .inl hln
  refine wpAny_Try_except ?_
  refine wpAny_mono ((hb (wManyAs X.K i Wout D cl) (X.pn ++ pins)
    (fun er s₁ => wpAny (model X.prog X.w) X.A (noteFrame er X.env) (fun _ s₂ => wpAny (model X.prog X.w) X.A (setFlight er none) (fun _ s₃ =>
      wpAny (model X.prog X.w) X.A (handleBy er X.env (hd :: hs)) (SP X pins D) X.xe s₃) X.xe s₂) X.xe s₁)
    (fun u s' caught => ?_) PassesOwn.looking).run [] s σ H D (I.toTry _) h) (fun fl s1 hsp => ?_) (fun er s1 he => he)
  · obtain ⟨x, B, sI, pins', σ', H', cls, d, rfl, J', nb, up, sky, na, hos, ag, w⟩ := caught
    have J : Inv X pins σ' H' sI := J'.ofTry okX
    have sky' : Sky B (X.env :: X.outer) x (Zc cls d) X.env.locals s'.heap := hst ▸ sky
    show wpAny (model X.prog X.w) X.A (noteFrame (.ref x) X.env) _ _ _
    refine Sky.land Zc.steady hfr hfm sky' fun hA flA upA => ?_
    have JA : Inv X pins σ' H' { s' with heap := hA } := J.landed nb flA.1 (up.trans upA) hos ag
    obtain ⟨oA, vA, gA, zA, dA⟩ := flA.there
    have nfr : x ∉ frs (X.env :: X.outer) := fun hm => by
      obtain ⟨_, o', e', hnf⟩ := flA.2.2.1.mem hm
      rw [gA] at e'
      cases e'
      exact hnf _ dA
    have nL : x ≠ X.env.locals := fun z => nfr (List.mem_filterMap.mpr ⟨X.env, List.mem_cons_self, hfm.trans (congrArg some z.symm)⟩)
    have nF : x ∉ X.fs := fun hm => by
      obtain ⟨en, hen, q⟩ := List.mem_filterMap.mp hm
      exact nfr (List.mem_filterMap.mpr ⟨en, List.mem_cons_of_mem _ hen, q⟩)
    have SA := JA.suite gA dA na nL nF
    have go : ∀ {hs' : List ExceptHandler} {cl' : List Cl}, HdsAs X n hs' cl' → wManyAs X.K i Wout D cl' cls d σ' H' →
        wpAny (model X.prog X.w) X.A (handleBy (.ref x) X.env hs') (SP X pins D) X.xe { s' with heap := hA } := by
      intro hs' cl' hk
      induction hk with
      | nil =>
        intro w
        refine wpAny_handleBy_nil ?_
        obtain ⟨k1, k2, k3, ox, vs, T, oT, ts', he, hz, hd', h1, hr⟩ := id flA
        unfold PySem.passOn
        refine wpAny_bind (wpAny_field he hd' h1 ?_)
        rw [if_neg (show ¬ ((Value.ref T == Value.none) = true) from by simp)]
        have fin : wpAny (model X.prog X.w) X.A (setFlight (.ref x) X.env.frame) (fun _ sE => wpAny (model X.prog X.w) X.A (throw (.ref x) : Sem Flow) (SP X pins D) X.xe sE) X.xe { s' with heap := hA } := by
          rw [hfm]
          refine HandSPX.setFlight_upZ flA fun hB hhB upB => wpAny_throw (tk _ _ ?_)
          exact ⟨x, B, sI, pins, σ', H', cls, d, rfl, J, nb, (up.trans upA).trans upB, .inr (.inr (by rw [hst]; exact hhB)), na, hos, ag, w⟩
        first
          | exact wpAny_bind (wpAny_pure (wpAny_bind fin))
          | exact wpAny_bind fin
      | @cons nm c ts first more p1 p2 hs2 cl2 known suite rest ih =>
        intro w
        obtain ⟨yes, isOne, hyes, hno⟩ := w
        refine wpAny_handleBy_cons (codeAny_handlers_test ?_) (by intro q; cases q)
        have LT : PySem.W.Looks (model X.prog X.w) hA (typeOf (.ref x)) cls := fun A Q E s k q => wpAny_typeOf_ref (k _ _ gA) (by rw [zA.1]; exact q)
        have LM := PySem.W.exm_one (M := model X.prog X.w) (JA.kIn) LT isOne
        have asked : ∀ {Q : Value → Shared → Prop} {E : Value → Shared → Prop}, Q c { s' with heap := hA } → wpAny (model X.prog X.w) (X.A.mark (some (.ref x))) (eval (.Name nm p1) X.env) Q E { s' with heap := hA } := fun {Q E} q => by
          obtain ⟨hg, hdbg, hm | ⟨hm, hv, hnn⟩⟩ := known
          · exact ld_glob (X := X.suite x ((x, oA) :: (X.pn ++ pins))) SA hg hm q hdbg
          · exact ld_blt (X := X.suite x ((x, oA) :: (X.pn ++ pins))) SA hg hm hv q hnn hdbg
        refine asked (LM.here ?_)
        cases yes with
        | true =>
          refine codeAny_handlers_suite_as ?_
          refine HandSPX.lands_againZ flA fun hB flB upB => ?_
          have JB : Inv X pins σ' H' { s' with heap := hB } := J.landed nb flB.1 ((up.trans upA).trans upB) hos ag
          obtain ⟨oB, vB, gB, zB, dB⟩ := flB.there
          have SB := JB.suite gB dB na nL nF
          refine store_ok (X := X.suite x ((x, oB) :: (X.pn ++ pins))) (v := .ref x) SB hN hi hloc rfl (fun sC SC => ?_) (.inr hln)
          refine wpAny_mono ((suite x oB cls d (X.pn ++ pins) zB ⟨_, dB⟩).run [] sC _ H' _ SC (hyes rfl x na)) (fun fl sD hsp => ?_) (fun _ _ z => False.elim z)
          have ends : ∀ {σD : L2.St} {HD : Hp} {Q : Shared → Prop}, Inv (X.suite x ((x, oB) :: (X.pn ++ pins))) [] σD HD sD → (∀ sE, Inv X pins (σD.set i none) HD sE → Q sE) →
              wpAny (model X.prog X.w) X.A (do bindName X.env n .none; unbindBehindTheSuite X.env n p2) (fun _ sE => Q sE) X.xe sD := fun {σD HD Q} SD hq => gone_ok (SD.unsuite okX) hN hi hln hq
          cases fl with
          | next =>
            obtain ⟨σD, HD, SD, qD⟩ := hsp
            exact ends SD fun sE JE => ⟨_, _, JE, qD⟩
          | brk =>
            obtain ⟨σD, HD, SD, qD⟩ := hsp
            exact ends SD fun sE JE => ⟨_, _, JE, qD⟩
          | cont =>
            obtain ⟨σD, HD, SD, qD⟩ := hsp
            exact ends SD fun sE JE => ⟨_, _, JE, qD⟩
          | ret u =>
            obtain ⟨vD, σD, HD, SD, rD, qD⟩ := hsp
            exact ends SD fun sE JE => ⟨_, _, _, JE, rD, qD⟩
        | false =>
          show wpAny _ X.A (handleBy (.ref x) X.env hs2) _ _ _
          exact ih (hno rfl)
    exact go hh w
  · cases fl with
    | next =>
      obtain ⟨σD, HD, JD, q⟩ := hsp
      exact wpAny_execs_nil ⟨σD, HD, JD.ofTry okX, q⟩
    | brk =>
      obtain ⟨σD, HD, JD, q⟩ := hsp
      exact ⟨σD, HD, JD.ofTry okX, q⟩
    | cont =>
      obtain ⟨σD, HD, JD, q⟩ := hsp
      exact ⟨σD, HD, JD.ofTry okX, q⟩
    | ret u =>
      obtain ⟨vD, σD, HD, JD, rD, q⟩ := hsp
      exact ⟨vD, σD, HD, JD.ofTry okX, rD, q⟩
end
/-- what a class must say so that isinstance asks its errors rightly -/
structure IsC (K : PySem.W.Frag) (D : Addr) : Prop where
  cl : (PySem.W.clsIn K D).isSome = true
  ga : PySem.W.findIn K (.ref D) "__getattribute__" = some (some (.builtin "BaseException.__getattribute__"))
  gt : PySem.W.findIn K (.ref D) "__getattr__" = some none
  sb : PySem.W.subIn K (.ref D) (.type "BaseException") = some true
  ca : PySem.W.findIn K (.ref D) "__class__" = some (some (.builtin "object.__class__"))
  sg : PySem.W.specialIn K (.builtin "object.__class__") "__get__" = some (some (.builtin "getset_descriptor.__get__"))
  tk : PySem.W.takesIn K (.builtin "object.__class__") = some true
  mr : PySem.W.mroIn K D (.type "object") = some true
section
variable {X : Cx} {x : Addr} {ox : Obj} {cls : Value} {d : Option Addr} {pn : List (Addr × Obj)}
/-- the error of the suite, of the class D, its dict at dd -/
structure Held (K : PySem.W.Frag) (H : Hp) (cls : Value) (d : Option Addr) (D dd : Addr) (fs : List (Str × V)) : Prop where
  c : cls = .ref D
  d : d = some dd
  t : IsC K D
  h : H dd = some (.xd fs)
theorem held_at {pins : List (Addr × Obj)} {σ : L2.St} {H : Hp} {s : Shared} {D dd : Addr} {fs : List (Str × V)} (I : Inv (X.suite x ((x, ox) :: pn)) pins σ H s) (hz : Zc cls d ox) (hf : ∃ vs, ox.data = .fields vs) (hh : Held X.K H cls d D dd fs) :
    ∃ od, PySem.W.InstAt s.heap x ox D (some od) := by
  obtain ⟨hget, _⟩ := I.pin (x, ox) (List.mem_append_left _ List.mem_cons_self)
  obtain ⟨vs, hv⟩ := hf
  obtain ⟨mA, hns, _⟩ := (show ObjOk X.prog X.w H s.heap dd (.xd fs) from I.hok dd _ hh.h)
  obtain ⟨od, ho, _⟩ := lookIn_ns hns
  exact ⟨od, hget, hz.1.trans hh.c, by unfold PySem.W.notCls; rw [hv] <;> rfl, by rw [hz.2, hh.d]; exact ho⟩
def rIsOne (K : PySem.W.Frag) (x : Addr) (cls : Value) (d : Option Addr) : List V → Hp → VK → Prop := fun vs H Q => ∃ (c : V) (cv : Value) (b : Bool) (D dd : Addr) (fs : List (Str × V)), vs = [.ref x, c] ∧ ClsV c cv ∧ Held K H cls d D dd fs ∧ PySem.W.kitOne K (.ref D) cv = some b ∧ Q (.bl b) H
def rIsAny (K : PySem.W.Frag) (x : Addr) (cls : Value) (d : Option Addr) : List V → Hp → VK → Prop := fun vs H Q => ∃ (tp : Addr) (cs : List V) (us : List Value) (b : Bool) (D dd : Addr) (fs : List (Str × V)), vs = [.ref x, .ref tp] ∧ H tp = some (.tup cs) ∧ Paired ClsV cs us ∧ Held K H cls d D dd fs ∧
  PySem.W.kitAny K (.ref D) us = some b ∧ Q (.bl b) H
theorem call_isOne (hz : Zc cls d ox) (hf : ∃ vs, ox.data = .fields vs) : CallR (X.suite x ((x, ox) :: pn)) (.builtin "isinstance") (rIsOne X.K x cls d) := by
  intro pins s σ H vs us Q I r h
  obtain ⟨c, cv, b, D, dd, fs, rfl, hc, hh, e, q⟩ := h
  obtain ⟨u1, u2, rfl, r1, r2⟩ := vals2 r
  cases (show u1 = Value.ref x from r1)
  have e2 := hc.eq r2
  subst e2
  obtain ⟨od, J⟩ := held_at I hz hf hh
  exact PySem.W.kia_one (PySem.W.kitx_exc hh.t.cl hh.t.ga hh.t.gt hh.t.sb hh.t.ca hh.t.sg hh.t.tk hh.t.mr) I.kIn J e (fun z => nomatch z) fun tk => ⟨.bl b, H, I.tok tk, rfl, q⟩
theorem call_isAny (hz : Zc cls d ox) (hf : ∃ vs, ox.data = .fields vs) : CallR (X.suite x ((x, ox) :: pn)) (.builtin "isinstance") (rIsAny X.K x cls d) := by
  intro pins s σ H vs us Q I r h
  obtain ⟨tp, cs, ws, b, D, dd, fs, rfl, hT, k, hh, e, q⟩ := h
  obtain ⟨u1, u2, rfl, r1, r2⟩ := vals2 r
  cases (show u1 = Value.ref x from r1)
  cases (show u2 = Value.ref tp from r2)
  obtain ⟨_, its, rv, o, g1, g2, n, g3⟩ := (show ObjOk X.prog X.w H s.heap tp (.tup cs) from I.hok tp _ hT)
  have e3 := ClsV.all k rv
  subst e3
  obtain ⟨oc, oD, dt, sl⟩ := o
  simp only at g2 g3
  subst g2 g3
  obtain ⟨od, J⟩ := held_at I hz hf hh
  exact PySem.W.kia_tup (PySem.W.kitx_exc hh.t.cl hh.t.ga hh.t.gt hh.t.sb hh.t.ca hh.t.sg hh.t.tk hh.t.mr) I.kIn J g1 e (fun z => nomatch z) fun tk => ⟨.bl b, H, I.tok tk, rfl, q⟩
end
end EX
/-! enumerate of a tuple -/
namespace EN
open PySem PySem.Spec PyProof.Rows L2
abbrev itO (a : Addr) : Obj := { cls := .type "tuple_iterator", data := .fields #[.ref a, .int 0 0] }
abbrev enO (it : Addr) : Obj := { cls := .type "enumerate", data := .fields #[.none, .bool false, .ref it, rawInt 0, .none, .none] }
theorem meets_newT (a : Addr) (xs : Array Value) :
    Meets (Builtin.«enumerate.__new__» ⟨[.type "enumerate", .ref a], []⟩) (fun _ R s => s.heap.IsTuple a xs ∧
      R (.ok (.ret (.ref (s.heap.push (itO a)).objs.size))) { s with heap := (s.heap.push (itO a)).push (enO s.heap.objs.size) }) :=
  .of_wp fun prog w A R s h => by
    obtain ⟨hp, g, d, tk, os⟩ := s
    obtain ⟨hl, h⟩ := h
    have hsub := sub_enumerate
    have hT : Heap.IsTuple (Shared.heap ⟨hp, g, d, tk, os⟩) a xs := hl
    obtain ⟨ob, hob, hcl, nn, hdt⟩ := id hT
    wp_walk using wpAny_loadPart' hob
    refine wpAny_stack_any fun st => wpAny_pure ?_
    split
    · rename_i c _ _ _ _ _
      cases (c == Value.type "enumerate")
      · wp_walk using wpAny_loadPart' hob, wpAny_pyIter_tuple hT
        exact ⟨_, rfl, h⟩
      · wp_walk using wpAny_loadPart' hob, wpAny_pyIter_tuple hT
        exact ⟨_, rfl, h⟩
    · wp_walk using wpAny_loadPart' hob, wpAny_pyIter_tuple hT
      exact ⟨_, rfl, h⟩
theorem call_enumT {prog : Program} {w : World} {A : Around} {E : Value → Shared → Prop} {s : Shared} {a : Addr} {xs : Array Value} {Q : Value → Shared → Prop} (ha : s.heap.IsTuple a xs)
    (h : ∀ g, IsEnum g (s.heap.objs.size + 1) s.heap.objs.size 0 .none → g.IsTupleIter s.heap.objs.size a 0 → (∀ b o, s.heap.get? b = some o → g.get? b = some o) → Q (.ref (s.heap.objs.size + 1)) { s with heap := g }) :
    wpAny (model prog w) A (call (.type "enumerate") [.ref a]) Q E s := by
  refine callType_new F.called_enumerate (by decide) (F.typeCall_enumerate_1 _) (F.newCall_enumerate_1 _) (fun ob => F.args_object_init_2 ob _) F.entry_enumerate_new (meets_newT a xs) ⟨ha, ?_⟩
  have hz : (s.heap.push (itO a)).objs.size = s.heap.objs.size + 1 := Heap.size_push ..
  show _ ∧ _
  rw [hz]
  have he : IsEnum ((s.heap.push (itO a)).push (enO s.heap.objs.size)) (s.heap.objs.size + 1) s.heap.objs.size 0 .none := by
    have e := Heap.get?_push_size (s.heap.push (itO a)) (o := enO s.heap.objs.size) rfl
    rw [hz] at e
    exact e
  exact ⟨⟨_, he, rfl⟩, h _ he ⟨_, Heap.get?_push_of_some _ (Heap.get?_push_size _ rfl), rfl, rfl⟩ fun b o q => Heap.get?_push_of_some _ (Heap.get?_push_of_some _ q)⟩
/-- the tuple at a, each item in a new pair with its number -/
def ItE (K : PySem.W.Frag) (a : Addr) : It :=
  ⟨fun i H => ∃ (xs : List V) (x : V), SqT K H a xs ∧ xs[i]? = some x, fun i H v H' => ∃ T x, v = .ref T ∧ H T = none ∧ H' = upd H T (.tup [.int (i : Nat), x]) ∧ ∀ xs, SqT K H a xs → xs[i]? = some x,
    fun i H => ∃ xs : List V, SqT K H a xs ∧ xs.length ≤ i⟩
theorem turn_enumT {P : Program} {w : World} {K : PySem.W.Frag} {elts : List Expr} {kk : Nat} {tpos : Pos} (a en it : Addr) :
    Turn P w K (.Tuple elts kk tpos) (ItE K a) [en, it] en (fun i h => (∃ old, IsEnum h en it ((i : Nat) : Int) old) ∧ h.IsTupleIter it a i ∧ en ≠ it ∧ a ≠ it ∧ a ≠ en) where
  mem := by simp
  obj := fun i h st b hb => by
    obtain ⟨⟨old, he⟩, ⟨o, ho, hc, hd⟩, _⟩ := st
    have e' : b = en ∨ b = it := by simpa using hb
    rcases e' with z | z
    · rw [z]; exact ⟨_, he, fun v q => nomatch q⟩
    · rw [z]; exact ⟨o, ho, fun v q => by rw [hd] at q; cases q⟩
  keep := fun i h h' st k => let ⟨⟨old, he⟩, hi, hne⟩ := st; ⟨⟨old, k en (by simp) _ he⟩, hi.at fun o q => k it (by simp) o q, hne⟩
  item := by
    intro X hP hw hK hc i pins s σ H E I hf st hg
    subst hP hw hK
    obtain ⟨⟨old, he⟩, hit, hne, hai, hae⟩ := st
    obtain ⟨xs, x, hq, hx⟩ := hg
    obtain ⟨its, rv, p, hz⟩ := I.tuple hq
    obtain ⟨u, hu, ru⟩ := rv.get hx
    have hlt : i < its.toArray.size := by
      rw [List.size_toArray]
      exact (List.getElem?_eq_some_iff.mp hu).1
    have hel : en < s.heap.objs.size := Heap.lt_size he
    have hil : it < s.heap.objs.size := by obtain ⟨_, q, _⟩ := hit; exact Heap.lt_size q
    have hh1 : X.A.in1.handled = none := I.ok.hd hc
    have D := Draws.tuple (prog := X.prog) (w := X.w) (A := X.A.in1) hh1 it a hai its.toArray
    refine wpAny_pyNext_enum_itemD D he ⟨hit, p⟩ hlt hne (by simp [hne, Ne.symm hae]) fun y h' tk hy ho hst hT hsz hk => ?_
    have ey : y = u := by
      have h1 : its.toArray[i]? = some u := by simpa using hu
      rw [h1] at hy
      exact (Option.some.inj hy).symm
    subst ey
    refine ⟨_, rfl, wpAny_letOwnedTupleGo_enum (s := { s with heap := h', toks := tk + 1 }) ho fun h'' he' sb => ?_⟩
    have hT2 : h''.get? s.heap.objs.size = some { cls := .type "tuple", data := .seq #[.int i tk, y] } := (sb.2 _ (Nat.ne_of_gt hel)).trans hT
    have new : ObjOk X.prog X.w (upd H s.heap.objs.size (.tup [.int (i : Nat), x])) h'' s.heap.objs.size (.tup [.int (i : Nat), x]) :=
      ⟨by show 2 ≤ sizeLine; decide, [.int i tk, y], .cons ⟨_, rfl⟩ (.cons ru .nil), ⟨_, hT2, rfl, _, rfl⟩⟩
    have I1 : Inv X pins σ (upd H s.heap.objs.size (.tup [.int (i : Nat), x])) { s with heap := h'', toks := tk + 1 } :=
      I.turnedNew (ch := [en, it]) (fun b ob hb q => (sb.2 b (fun z => hb (by simp [z]))).trans (hk b ob (fun z => hb (by simp [z])) (fun z => hb (by simp [z])) q)) hf (Nat.le_refl _) new
    refine ⟨.ref s.heap.objs.size, _, I1, rfl, ⟨_, x, rfl, I.hok.fresh (Nat.le_refl _), rfl, fun ys hy' => by rw [I.tuple_inj hy' hq]; exact hx⟩, ⟨⟨y, ?_⟩, hst.1.at fun o q => (sb.2 it (Ne.symm hne)).trans q, hne, hai, hae⟩, fun b hb => ?_⟩
    · have e1 : ((i + 1 : Nat) : Int) = (i : Int) + 1 := by omega
      rw [e1]; exact he'
    · have hb' : b < s.heap.objs.size := by
        have e' : b = en ∨ b = it := by simpa using hb
        rcases e' with z | z
        · rw [z]; exact hel
        · rw [z]; exact hil
      rw [upd_ne (Nat.ne_of_lt hb')]
      exact (hf b hb).1
  done := by
    intro X hP hw hK hc i pins s σ H E I hf st hg
    subst hP hw hK
    obtain ⟨⟨old, he⟩, hit, hne, hai, hae⟩ := st
    obtain ⟨xs, hq, hx⟩ := hg
    obtain ⟨its, rv, p, hz⟩ := I.tuple hq
    obtain ⟨f0, f1, f2, f3, f4, f5⟩ := hf it (by simp)
    have hl := rv.length
    have hh1 : X.A.in1.handled = none := I.ok.hd hc
    -- from the place i on there is nothing
    have D : Draws X.prog X.w X.A.in1 it [it, a] i (fun _ _ => False) (fun j h => j = i ∧ h.IsTupleIter it a i ∧ h.IsTuple a its.toArray) :=
      ⟨fun _ _ st => let ⟨o, ho, _⟩ := st.2.1; ⟨o, ho⟩, fun _ _ _ st hk => ⟨st.1, st.2.1.at fun o e => hk it (by simp) o e, st.2.2.at fun o e => hk a (by simp) o e⟩,
        fun j s Q E hj st _ => absurd st.1 (Nat.ne_of_lt hj), fun s Q E st hE => wpAny_nextOf_tuple_end hh1 st.2.1 st.2.2 (by simp; omega) hE⟩
    exact wpAny_pyNext_enum_endD D he ⟨rfl, hit, p⟩ fun h' eb => ⟨rfl, I.turned (t' := s.toks) (fun b o hb q => eb b o hb q) f0 f1 f3 f4 f5⟩
  self := fun A i s Q E st h => let ⟨⟨_, he⟩, _⟩ := st; wpAny_pyIter_enum he h
def iEnT (K : PySem.W.Frag) (ta : TA) : TI := fun σ H R => ta σ H fun vs H1 => ∃ a xs, vs = [.ref a] ∧ SqT K H1 a xs ∧ R (ItE K a) H1
theorem pi_enumT {X : Cx} {e : Expr} {ta : TA} {p pos tpos : Pos} {elts : List Expr} {kk : Nat} (hg : Gl X "enumerate") (hm : X.mg "enumerate" = none) (ha : PA X [e] ta) (hs : starEach [e] X.env = [(false, eval e X.env)] := by rfl) :
    PI X (.Tuple elts kk tpos) (.Call (.Name "enumerate" p) [e] [] pos) (iEnT X.K ta) := by
  refine ⟨fun pins s σ H R I h => ?_⟩
  refine Call_ (ld_blt I hg hm boot_enumerate (PyProof.Rows.callWith_type1 (thn (ha.run pos pins s σ H _ I h) fun us s1 ⟨vs, H1, I1, r1, q1⟩ => ?_) hs rfl))
  obtain ⟨a, xs, ex, hq, q⟩ := q1
  subst ex
  cases r1 with
  | cons r rr =>
    cases rr
    cases r
    obtain ⟨its, rv, pt, hz⟩ := I1.tuple hq
    have hal : a < s1.heap.objs.size := by obtain ⟨o, ho, _⟩ := pt; exact Heap.lt_size ho
    refine call_enumT pt fun g he hit hk => wpAny_pyIter_enum he ?_
    have I2 : Inv X pins σ H1 { s1 with heap := g } := I1.kept (t' := s1.toks) hk
    refine ⟨s1.heap.objs.size + 1, [s1.heap.objs.size + 1, s1.heap.objs.size], _, _, H1, rfl, I2, turn_enumT a (s1.heap.objs.size + 1) s1.heap.objs.size, ⟨⟨.none, he⟩, hit, Nat.succ_ne_self _, Nat.ne_of_lt hal, Nat.ne_of_lt (Nat.lt_succ_of_lt hal)⟩, fun b hb => ?_, q⟩
    have e' : b = s1.heap.objs.size + 1 ∨ b = s1.heap.objs.size := by simpa using hb
    have hle : s1.heap.objs.size ≤ b := by
      rcases e' with z | z
      · rw [z]; exact Nat.le_add_right _ _
      · rw [z]; exact Nat.le_refl _
    exact I1.fpOk hle (I1.hok.fresh hle)
theorem walk_enumT {K : PySem.W.Frag} {a : Addr} {xs : List V} : Walk (ItE K a) xs.length (fun H => SqT K H a xs) (YPair (fun i => some (.int (i : Nat))) (fun i => xs[i]?)) := by
  refine ⟨fun i _ hi q => ⟨xs, xs[i], q, by simp [hi]⟩, fun _ q => ⟨xs, q, Nat.le_refl _⟩, fun i H v H' _ q y => ?_⟩
  obtain ⟨T, x, h1, h2, h3, h4⟩ := y
  exact ⟨T, .int (i : Nat), x, h1, h2, h3, rfl, h4 xs q⟩
end EN
namespace K3
open PySem PySem.Spec PyProof.Rows L2 K1
def topS (i : Nat) : Stmt := PySem.Challenge.pw_packedforms_k11_codes_of_numbers.main.body.getD i (.Pass ⟨0, 0, 0, 0⟩)
end K3
namespace K3
open PySem PySem.Spec PyProof.Rows L2 K1
/-! ### plain looks at any thing -/
def isW (d : PyData) : Bool := isI d && !isB d
def valI : PyData → Int
  | .int i => i
  | _ => 0
theorem isW_int {d : PyData} (h : isW d = true) : d = .int (valI d) := by
  cases d <;> first | rfl | cases h
def btw (d : PyData) (lo hi : Int) : Bool := isW d && (decide (lo ≤ valI d) && decide (valI d ≤ hi))
theorem btw_iff {d : PyData} {lo hi : Int} : btw d lo hi = true ↔ isW d = true ∧ lo ≤ valI d ∧ valI d ≤ hi := by
  unfold btw
  rw [Bool.and_eq_true, Bool.and_eq_true, decide_eq_true_eq, decide_eq_true_eq]
def tupN (d : PyData) (m : Int) : Bool := match d with
  | .tuple ds => decide ((ds.length : Int) = m)
  | _ => false
theorem dp_int {K : PySem.W.Frag} {H : Hp} {v : V} {i : Int} (h : Dp K H v (.int i)) : v = .int i := by cases h; rfl
theorem dp_str {K : PySem.W.Frag} {H : Hp} {v : V} {z : Str} (h : Dp K H v (.str z)) : v = .str z := by cases h; rfl
theorem dp_tup {K : PySem.W.Frag} {H : Hp} {v : V} {ds : List PyData} (h : Dp K H v (.tuple ds)) : ∃ a xs, v = .ref a ∧ SqT K H a xs ∧ DpAll K H xs ds := by
  cases h with
  | tup hs ha => exact ⟨_, _, rfl, hs, ha⟩
abbrev s_is_whole : Stmt := topS 8
abbrev nm_is_whole : List Str := ["thing"]
abbrev pm_is_whole : List Str := ["thing"]
theorem sc_is_whole : FnScope nm_is_whole pm_is_whole (defScope s_is_whole) := ⟨rfl, rfl, rfl, by decide +kernel, rfl, by decide +kernel, by decide +kernel⟩
abbrev s_is_between : Stmt := topS 9
abbrev nm_is_between : List Str := ["thing", "least", "most"]
abbrev pm_is_between : List Str := ["thing", "least", "most"]
theorem sc_is_between : FnScope nm_is_between pm_is_between (defScope s_is_between) := ⟨rfl, rfl, rfl, by decide +kernel, rfl, by decide +kernel, by decide +kernel⟩
abbrev s_is_tuple_of : Stmt := topS 10
abbrev nm_is_tuple_of : List Str := ["thing", "many"]
abbrev pm_is_tuple_of : List Str := ["thing", "many"]
theorem sc_is_tuple_of : FnScope nm_is_tuple_of pm_is_tuple_of (defScope s_is_tuple_of) := ⟨rfl, rfl, rfl, by decide +kernel, rfl, by decide +kernel, by decide +kernel⟩
abbrev s_power : Stmt := topS 11
abbrev nm_power : List Str := ["bits"]
abbrev pm_power : List Str := ["bits"]
theorem sc_power : FnScope nm_power pm_power (defScope s_power) := ⟨rfl, rfl, rfl, by decide +kernel, rfl, by decide +kernel, by decide +kernel⟩
section
variable {P : Program} {w : World} {K : PySem.W.Frag} {mg : Str → Option Value} {base : Heap}
def sp_is_whole (K : PySem.W.Frag) : Sp := fun vs H Q _ => ∃ (v : V) (d : PyData), vs = [v] ∧ Dp K H v d ∧ pl d = true ∧ Q (.bl (isW d)) H
theorem ok_is_whole {f : Addr} {fd : FuncData} (F : Fun K "is_whole" "is_whole" s_is_whole f fd) (m_isinstance : mg "isinstance" = none) (m_int : mg "int" = none) (m_bool : mg "bool" = none) : FnOk P w K mg base CX0 1 f fd pm_is_whole (sp_is_whole K) := by
  refine F.ok sc_is_whole (fun vs H Q E h => ?_) (fun cdv A outer s H vs Q E hr h => ?_)
  · obtain ⟨v, d, rfl, _⟩ := h
    rfl
  · obtain ⟨v, d, rfl, hv, pd, q⟩ := h
    refine ⟨_, pss_one (ps_ret (pe_and (pe_callB call_isi (by rfl) m_isinstance (by decide +kernel) (pa_cons (pv 0) (pa_cons (pe_bltn (v := .ty "int") (by rfl) m_int (show bootBuiltins "int" = some (.type "int") by decide +kernel) rfl) pa_nil))) (pe_one (pe_not (pe_callB call_isi (by rfl) m_isinstance (by decide +kernel) (pa_cons (pv 0) (pa_cons (pe_bltn (v := .ty "bool") (by rfl) m_bool (show bootBuiltins "bool" = some (.type "bool") by decide +kernel) rfl) pa_nil))))))), ?_⟩
    refine ⟨v, rfl, v, _, _, _, isI d, rfl, .ty "int", dp_ty hv pd, kit_ty (kI d), isI d, rfl, ite2 (fun c => ?_) (fun c => ?_)⟩
    · refine ⟨v, rfl, v, _, _, _, isB d, rfl, .ty "bool", dp_ty hv pd, kit_ty (kB d), isB d, rfl, ?_⟩
      have e : isW d = !isB d := by unfold isW; rw [c]; rfl
      rw [← e]
      exact q
    · have e : isW d = false := by unfold isW; rw [Bool.eq_false_iff.mpr c]; rfl
      rw [e] at q
      exact q
def sp_is_between (K : PySem.W.Frag) : Sp := fun vs H Q _ => ∃ (v : V) (d : PyData) (lo hi : Int), vs = [v, .int lo, .int hi] ∧ Dp K H v d ∧ pl d = true ∧ Q (.bl (btw d lo hi)) H
theorem ok_is_between {f : Addr} {fd : FuncData} (F : Fun K "is_between" "is_between" s_is_between f fd) (C_is_whole : Cal P w K mg base "is_whole" pm_is_whole 1 (sp_is_whole K)) : FnOk P w K mg base CX0 2 f fd pm_is_between (sp_is_between K) := by
  obtain ⟨f_is_whole, fd_is_whole, G_is_whole, g_is_whole, k_is_whole, b_is_whole⟩ := C_is_whole.ex
  refine F.ok sc_is_between (fun vs H Q E h => ?_) (fun cdv A outer s H vs Q E hr h => ?_)
  · obtain ⟨v, d, lo, hi, rfl, _⟩ := h
    rfl
  · obtain ⟨v, d, lo, hi, rfl, hv, pd, q⟩ := h
    have rm : ∀ {j : Nat}, j ≤ 1 → Room j (A.deeper (envOfC "is_between" (defScope s_is_between) s.heap.objs.size f cdv)) := fun hj => hr.mono hj
    refine ⟨_, pss_one (ps_ret (pe_and (pe_call G_is_whole (rm (by decide)) (by rfl) g_is_whole k_is_whole b_is_whole .nil pass0 (pa_cons (pv 0) pa_nil)) (pe_one (pe_chain op_le op_le (pv 1) (pv 0) (pv 2))))), ?_⟩
    refine ⟨v, rfl, v, d, rfl, hv, pd, isW d, rfl, ite2 (fun c => ?_) (fun c => ?_)⟩
    · have ed := isW_int c
      have e : btw d lo hi = (decide (lo ≤ valI d) && decide (valI d ≤ hi)) := by unfold btw; rw [c]; rfl
      rw [e] at q
      generalize valI d = i at ed q
      subst ed
      have ev := dp_int hv
      subst ev
      refine ⟨.int lo, rfl, .int i, rfl, _, _, rfl, rfl, _, rfl, ite2 (fun c1 => ?_) (fun c1 => ?_)⟩
      · refine ⟨.int hi, rfl, _, _, rfl, rfl, ?_⟩
        have c1' : decide (lo ≤ i) = true := c1
        rw [c1', Bool.true_and] at q
        exact q
      · have c1' : decide (lo ≤ i) = false := Bool.eq_false_iff.mpr c1
        rw [c1', Bool.false_and] at q
        exact q
    · have e : btw d lo hi = false := by unfold btw; rw [Bool.eq_false_iff.mpr c]; rfl
      rw [e] at q
      exact q
def sp_is_tuple_of (K : PySem.W.Frag) : Sp := fun vs H Q _ => ∃ (v : V) (d : PyData) (m : Int), vs = [v, .int m] ∧ Dp K H v d ∧ pl d = true ∧ Q (.bl (tupN d m)) H
theorem ok_is_tuple_of {f : Addr} {fd : FuncData} (F : Fun K "is_tuple_of" "is_tuple_of" s_is_tuple_of f fd) (m_isinstance : mg "isinstance" = none) (m_tuple : mg "tuple" = none) (m_len : mg "len" = none) : FnOk P w K mg base CX0 1 f fd pm_is_tuple_of (sp_is_tuple_of K) := by
  refine F.ok sc_is_tuple_of (fun vs H Q E h => ?_) (fun cdv A outer s H vs Q E hr h => ?_)
  · obtain ⟨v, d, m, rfl, _⟩ := h
    rfl
  · obtain ⟨v, d, m, rfl, hv, pd, q⟩ := h
    refine ⟨_, pss_one (ps_ret (pe_and (pe_callB call_isi (by rfl) m_isinstance (by decide +kernel) (pa_cons (pv 0) (pa_cons (pe_bltn (v := .ty "tuple") (by rfl) m_tuple (show bootBuiltins "tuple" = some (.type "tuple") by decide +kernel) rfl) pa_nil))) (pe_one (pe_cmpR op_eq (pe_callB call_len_seq (by rfl) m_len PySem.boot_len (pa_cons (pv 0) pa_nil)) (pv 1) (nomark _))))), ?_⟩
    refine ⟨v, rfl, v, _, _, _, isT d, rfl, .ty "tuple", dp_ty hv pd, kit_ty (kT d), isT d, rfl, ite2 (fun c => ?_) (fun c => ?_)⟩
    · cases d with
      | tuple ds =>
        obtain ⟨a, xs, rfl, hs, ha⟩ := dp_tup hv
        have hl := dpAll_len ha
        refine ⟨.ref a, rfl, a, xs, rfl, .inr hs, .int m, rfl, rfl, ?_⟩
        have e : decide (V.int (xs.length : Int) = V.int m) = tupN (.tuple ds) m := by
          show _ = decide ((ds.length : Int) = m)
          by_cases z : (ds.length : Int) = m
          · rw [decide_eq_true z, decide_eq_true (by rw [hl, z])]
          · rw [decide_eq_false z, decide_eq_false fun z' => z (by rw [← hl]; exact V.int.inj z')]
        rw [e]
        exact q
      | _ => cases c
    · have e : tupN d m = false := by
        cases d <;> first | rfl | exact absurd rfl c
      rw [e] at q
      exact q
def sp_power : Sp := fun vs H Q _ => ∃ b : Nat, vs = [.int (b : Int)] ∧ b ≤ 100 ∧ Q (.int ((2 : Int) ^ b)) H
theorem ok_power {f : Addr} {fd : FuncData} (F : Fun K "power" "power" s_power f fd) : FnOk P w K mg base CX0 1 f fd pm_power sp_power := by
  refine F.ok sc_power (fun vs H Q E h => ?_) (fun cdv A outer s H vs Q E hr h => ?_)
  · obtain ⟨b, rfl, _⟩ := h
    rfl
  · obtain ⟨b, rfl, hb, q⟩ := h
    refine ⟨_, pss_one (ps_ret (pe_op op_shl pe_int (pv 0))), ?_⟩
    refine ⟨.int b, rfl, _, _, rfl, rfl, ⟨by omega, by omega, by decide⟩, ?_⟩
    have e : (1 : Int) * 2 ^ ((b : Int).toNat) = 2 ^ b := by rw [Int.one_mul, Int.toNat_natCast]
    show Q (.int ((1 : Int) * 2 ^ ((b : Int).toNat))) H
    rw [e]
    exact q
end
end K3
namespace K3
open PySem PySem.Spec PyProof.Rows L2 K1
/-! ### names -/
abbrev abc : Str := "abcdefghijklmnopqrstuvwxyz"
def nameS (z : Str) : Bool := (decide (1 ≤ z.length) && decide (z.length ≤ 12)) && z.cps.toList.all fun c => decide (c ∈ abc.cps.toList)
def nameB : PyData → Bool
  | .str z => nameS z
  | _ => false
abbrev s_is_name : Stmt := topS 24
abbrev nm_is_name : List Str := ["thing", "letter"]
abbrev pm_is_name : List Str := ["thing"]
theorem sc_is_name : FnScope nm_is_name pm_is_name (defScope s_is_name) := ⟨rfl, rfl, rfl, by decide +kernel, rfl, by decide +kernel, by decide +kernel⟩
abbrev s_name_fault : Stmt := topS 25
abbrev nm_name_fault : List Str := ["earlier", "thing", "place"]
abbrev pm_name_fault : List Str := ["earlier", "thing", "place"]
theorem sc_name_fault : FnScope nm_name_fault pm_name_fault (defScope s_name_fault) := ⟨rfl, rfl, rfl, by decide +kernel, rfl, by decide +kernel, by decide +kernel⟩
section
variable {P : Program} {w : World} {K : PySem.W.Frag} {mg : Str → Option Value} {base : Heap}
theorem walk_its (x : Str) : Walk (Its x) x.cps.size (fun _ => True) (fun i H v H' => H' = H ∧ ∃ c, x.cps[i]? = some c ∧ v = .str ⟨#[c]⟩) :=
  ⟨fun _ _ hi _ => hi, fun _ _ => Nat.le_refl _, fun _ _ _ _ _ _ y => y⟩
/-- any thing with texts of at most a million signs -/
def okT : PyData → Bool
  | .str z => decide (z.length ≤ 1000000)
  | _ => true
def sp_is_name (K : PySem.W.Frag) : Sp := fun vs H Q _ => ∃ (v : V) (d : PyData), vs = [v] ∧ Dp K H v d ∧ pl d = true ∧ okT d = true ∧ ∀ H', Same H H' → Q (.bl (nameB d)) H'
theorem ok_is_name {f : Addr} {fd : FuncData} (F : Fun K "is_name" "is_name" s_is_name f fd) (m_all : mg "all" = none) (m_isinstance : mg "isinstance" = none) (m_str : mg "str" = none) (m_len : mg "len" = none) {t_MOST_LETTERS : Nat} (g_MOST_LETTERS : mg "MOST_LETTERS" = some (.int 12 t_MOST_LETTERS)) {t_LETTERS : Nat} (g_LETTERS : mg "LETTERS" = some (.str "abcdefghijklmnopqrstuvwxyz" t_LETTERS)) : FnOk P w K mg base CX0 1 f fd pm_is_name (sp_is_name K) := by
  refine F.ok sc_is_name (fun vs H Q E h => ?_) (fun cdv A outer s H vs Q E hr h => ?_)
  · obtain ⟨v, d, rfl, _⟩ := h
    rfl
  · obtain ⟨v, d, rfl, hv, pd, ot, q⟩ := h
    refine ⟨_, pss_cons (ps_if (PW.pt (pw_or (pt_not (pt_val (pe_callB call_isi (by rfl) m_isinstance (by decide +kernel) (pa_cons (pv 0) (pa_cons (pe_bltn (v := .ty "str") (by rfl) m_str (show bootBuiltins "str" = some (.type "str") by decide +kernel) rfl) pa_nil))))) (pw_or1 (pt_not (pt_chain op_le op_le pe_int (pe_callB call_len_str (by rfl) m_len PySem.boot_len (pa_cons (pv 0) pa_nil)) (pe_glob (v := .int 12) (by rfl) g_MOST_LETTERS ⟨_, rfl⟩))))))
      (pss_one (ps_ret pe_bl)) pss_nil)
      (pss_one (ps_ret (pe_callB (cr_all rfl) (by rfl) m_all (by decide +kernel) (pa_cons (pe_lc (own := [("letter", 1)]) (g := gName 1) (tt := tYes) rfl sc_is_name.nd (pi_str (pv 0)) (blkOk_by (N := nm_is_name) (sc := defScope s_is_name) (by decide +kernel)) (fun _ _ _ _ _ => pg_name (i := 1) sc_is_name.nd rfl (Or.inl rfl)) (fun _ _ _ _ _ => pts_nil) (fun _ _ _ _ _ => (pe_cmpR op_inS (pv 1) (pe_glob (v := .str "abcdefghijklmnopqrstuvwxyz") (by rfl) g_LETTERS ⟨_, rfl⟩) (by rfl)))) pa_nil)))), ?_⟩
    refine ⟨v, rfl, v, _, _, _, isS d, rfl, .ty "str", dp_ty hv pd, kit_ty (kS d), isS d, rfl, ?_⟩
    cases d with
    | str z =>
      have ev := dp_str hv
      subst ev
      have hz : z.length ≤ 1000000 := of_decide_eq_true ot
      have hsl : z.length ≤ sizeLine := Nat.le_trans hz (by decide)
      refine iteF ?_
      have no : ¬ (1 ≤ z.length ∧ z.length ≤ 12) → nameB (.str z) = false := fun c => by
        show nameS z = false
        unfold nameS
        by_cases c1 : 1 ≤ z.length
        · rw [decide_eq_true c1, decide_eq_false fun c2 => c ⟨c1, c2⟩]
          rfl
        · rw [decide_eq_false c1]
          rfl
      refine ⟨.str z, rfl, z, rfl, hsl, _, _, rfl, rfl, _, rfl, ite2 (fun c1 => ?_) (fun c1 => ?_)⟩
      · have c1' : (1 : Int) ≤ (z.length : Int) := of_decide_eq_true c1
        refine ⟨_, _, rfl, rfl, _, rfl, ite2 (fun c2 => ?_) (fun c2 => ?_)⟩
        · have c2' : ¬ (z.length : Int) ≤ 12 := by
            have c3 : (!decide ((z.length : Int) ≤ 12)) = true := c2
            simpa using c3
          have e := no (by omega)
          rw [e] at q
          exact q H (Same.refl _)
        · have c2' : (z.length : Int) ≤ 12 := by
            have c3 : ¬ (!decide ((z.length : Int) ≤ 12)) = true := c2
            simpa using c3
          refine ⟨.str z, rfl, z, rfl, fun D hD => lc_it (walk_its z) (fun i H' => H' D = some (.lst (((z.cps.toList.take i).map fun c => decide (c ∈ abc.cps.toList)).map V.bl)) ∧ Same H H') ⟨upd_same, same_upd hD⟩ (fun _ _ _ _ => trivial) (fun i x H1 H2 hi hp hy => ?_) (fun H1 hp => ?_)⟩
          · obtain ⟨eD, s1⟩ := hp
            obtain ⟨rfl, c, hc, rfl⟩ := hy
            have ec : z.cps.toList[i]? = some c := by rw [Array.getElem?_toList]; exact hc
            refine ⟨rfl, ?_⟩
            dsimp only [tYes]
            refine iteT ?_
            refine ⟨.str ⟨#[c]⟩, rfl, c, abc, rfl, rfl, _, eD, ?_, ?_, ?_⟩
            · rw [List.length_map, List.length_map, List.length_take]
              have : z.cps.toList.length = z.length := by rw [Array.length_toList]; rfl
              exact Nat.lt_of_le_of_lt (show _ ≤ 1000 by omega) (by decide)
            · rw [List.take_add_one, ec, upd_same, List.map_append, List.map_append]
              rfl
            · intro b' o' e'
              rw [upd_ne (ne_of_none e' hD)]
              exact s1 b' o' e'
          · obtain ⟨eD, s1⟩ := hp
            have el : z.cps.toList.take z.cps.size = z.cps.toList := List.take_of_length_le (by rw [Array.length_toList]; exact Nat.le_refl _)
            rw [el] at eD
            refine ⟨D, _, rfl, .inl (.inl eD), ?_⟩
            have e : nameB (.str z) = (z.cps.toList.map fun c => decide (c ∈ abc.cps.toList)).all id := by
              show nameS z = _
              unfold nameS
              rw [decide_eq_true (show 1 ≤ z.length by omega), decide_eq_true (show z.length ≤ 12 by omega), List.all_map]
              rfl
            have q' := q H1 s1
            rw [e] at q'
            exact q'
      · have c1' : ¬ (1 : Int) ≤ (z.length : Int) := fun z' => c1 (decide_eq_true z')
        have e := no (by omega)
        rw [e] at q
        exact ⟨_, rfl, iteT (q H (Same.refl _))⟩
    | _ => exact iteT (q H (Same.refl _))
end
end K3
namespace K3
open PySem PySem.Spec PyProof.Rows L2 K1
/-! ### faults of names -/
def faD (p : PyData) (w : Str) : PyData := .tuple [p, .str w]
def nfM (names : List Str) (d p : PyData) : PyData := match d with
  | .str z => if nameS z = true then (if z ∈ names then faD p "twice" else .none) else faD p "name"
  | _ => faD p "name"
section
variable {P : Program} {w : World} {K : PySem.W.Frag} {mg : Str → Option Value} {base : Heap}
theorem sql_same {H H' : Hp} {a : Addr} {xs : List V} (s : Same H H') (h : SqL K H a xs) : SqL K H' a xs := by
  rcases h with (h | ⟨o, h⟩) | h
  · exact .inl (.inl (s _ _ h))
  · exact .inl (.inr ⟨o, s _ _ h⟩)
  · exact .inr h
theorem strs_flat (names : List Str) : (names.map V.str).all flatV = true := by
  rw [List.all_map]
  exact List.all_eq_true.mpr fun _ _ => rfl
theorem in_strs (names : List Str) (z : Str) : inV (.str z) (names.map V.str) = true ↔ z ∈ names := by
  unfold inV
  rw [List.any_map, List.any_eq_true]
  constructor
  · rintro ⟨x, hx, e⟩
    have e' : (x == z) = true := e
    rw [← eq_of_beq e']
    exact hx
  · intro h
    exact ⟨z, h, (beq_self_eq_true z : (z == z) = true)⟩
theorem dp_fa {H' : Hp} {pw : V} {p : PyData} {a : Addr} {z : Str} (hp : Dp K H' pw p) (ha : H' a = some (.tup [pw, .str z])) : Dp K H' (.ref a) (faD p z) :=
  .tup (.inl (.inl ha)) (.cons hp (.cons (.str _) .nil))
def sp_name_fault (K : PySem.W.Frag) : Sp := fun vs H Q _ => ∃ (e : Addr) (v pw : V) (names : List Str) (d p : PyData), vs = [.ref e, v, pw] ∧ SqL K H e (names.map V.str) ∧ Dp K H v d ∧ pl d = true ∧ okT d = true ∧ Dp K H pw p ∧ pl p = true ∧
  ∀ r H', Same H H' → Dp K H' r (nfM names d p) → Q r H'
theorem ok_name_fault {f : Addr} {fd : FuncData} (F : Fun K "name_fault" "name_fault" s_name_fault f fd) (C_is_name : Cal P w K mg base "is_name" pm_is_name 1 (sp_is_name K)) : FnOk P w K mg base CX0 2 f fd pm_name_fault (sp_name_fault K) := by
  obtain ⟨f_is_name, fd_is_name, G_is_name, g_is_name, k_is_name, b_is_name⟩ := C_is_name.ex
  refine F.ok sc_name_fault (fun vs H Q E h => ?_) (fun cdv A outer s H vs Q E hr h => ?_)
  · obtain ⟨e, v, pw, names, d, p, rfl, _⟩ := h
    rfl
  · obtain ⟨e, v, pw, names, d, p, rfl, he, hv, pd, ot, hp, pp, q⟩ := h
    have rm : ∀ {j : Nat}, j ≤ 1 → Room j (A.deeper (envOfC "name_fault" (defScope s_name_fault) s.heap.objs.size f cdv)) := fun hj => hr.mono hj
    refine ⟨_, pss_cons (ps_if (pt_not (pt_val (pe_call G_is_name (rm (by decide)) (by rfl) g_is_name k_is_name b_is_name .nil pass0 (pa_cons (pv 1) pa_nil))))
      (pss_one (ps_ret (pe_tup (pa_cons (pv 2) (pa_cons pe_str pa_nil))))) pss_nil)
      (pss_cons (ps_if (pt_cmpR op_in_seq (pv 1) (pv 0) (by rfl))
      (pss_one (ps_ret (pe_tup (pa_cons (pv 2) (pa_cons pe_str pa_nil))))) pss_nil)
      (pss_one (ps_ret pe_non))), ?_⟩
    refine ⟨v, rfl, v, d, rfl, hv, pd, ot, fun H1 s1 => ⟨_, rfl, ite2 (fun c => ?_) (fun c => ?_)⟩⟩
    · have c' : nameB d = false := by simpa using c
      have e1 : nfM names d p = faD p "name" := by
        cases d with
        | str z => exact if_neg (by rw [show nameS z = false from c']; decide)
        | _ => rfl
      refine ⟨pw, rfl, (by show 2 ≤ sizeLine; decide), fun a ha => q _ _ (s1.trans (same_upd ha)) ?_⟩
      rw [e1]
      exact dp_fa ((ts_same (s1.trans (same_upd ha))).dp p pw pp hp) upd_same
    · have c' : nameB d = true := by simpa using c
      cases d with
      | str z =>
        have ev := dp_str hv
        subst ev
        have e1 : nfM names (.str z) p = if z ∈ names then faD p "twice" else .none := by
          exact if_pos (show nameS z = true from c')
        rw [e1] at q
        have he1 : SqL K H1 e (names.map V.str) := sql_same s1 he
        refine ⟨.str z, rfl, .ref e, rfl, e, _, rfl, .inl he1, rfl, strs_flat names, _, rfl, ite2 (fun c2 => ?_) (fun c2 => ?_)⟩
        · have hm : z ∈ names := (in_strs names z).mp c2
          rw [if_pos hm] at q
          refine ⟨pw, rfl, (by show 2 ≤ sizeLine; decide), fun a ha => q _ _ (s1.trans (same_upd ha)) ?_⟩
          exact dp_fa ((ts_same (s1.trans (same_upd ha))).dp p pw pp hp) upd_same
        · rw [if_neg fun hm => c2 ((in_strs names z).mpr hm)] at q
          exact q _ _ s1 .non
      | _ => cases c'
end
end K3
namespace K3
open PySem PySem.Spec PyProof.Rows L2 K1
/-! ### a thing's own faults -/
def wlen (z : Str) : Option Nat :=
  if z = "nat" then some 2 else if z = "int" then some 2 else if z = "truth" then some 1 else if z = "record" then some 2 else if z = "variant" then some 2
  else if z = "row" then some 3 else if z = "maybe" then some 2 else if z = "box" then some 2 else if z = "use" then some 3 else if z = "hole" then some 2 else none
/-- the table of lengths, as it stands written -/
def KLen (K : PySem.W.Frag) (w : World) (a : Addr) : Prop := ∃ es n, KDict K w a es n ∧ ∀ z : Str, ∃ r, PySem.W.nsIn K a z = some r ∧ (match wlen z with
  | none => r = none
  | some m => ∃ t, r = some (.int (m : Int) t))
def ownM (d : PyData) (dep forms : Nat) : Nat × Option Str := match d with
  | .tuple (.str z :: rest) => (match wlen z with
    | none => (forms, some "kind")
    | some m => (forms + 1, if dep > 8 then some "deep" else if forms + 1 > 40 then some "forms" else if rest.length + 1 ≠ m then some "shape" else none))
  | _ => (forms, some "kind")
structure LkT (K : PySem.W.Frag) (C : Addr) : Prop where
  cl : Cls K C
  n1 : NoAttr K C "heads"
  n2 : NoAttr K C "holes"
  n3 : NoAttr K C "forms"
structure Lk where
  C : Addr
  hd : Addr
  ho : Addr
  heads : List (Str × Nat)
  holes : List Str
def headK (hs : List (Str × Nat)) : List (Key × V) := hs.map fun p => (Sum.inr p.1, V.int (p.2 : Int))
structure LkAt (K : PySem.W.Frag) (L : Lk) (H : Hp) (lk : Addr) (n : Nat) : Prop where
  t : LkT K L.C
  o : ∃ dx fs, H lk = some (.ins L.C dx fs) ∧ fs.lookup ("heads" : Str) = some (.ref L.hd) ∧ fs.lookup ("holes" : Str) = some (.ref L.ho) ∧ fs.lookup ("forms" : Str) = some (.int (n : Int)) ∧ fs.length ≤ 10
  h : H L.hd = some (.dK (headK L.heads))
  s : SqT K H L.ho (L.holes.map V.str)
/-- all but the look stays -/
def KBut (lk : Addr) (H H' : Hp) : Prop := ∀ b o, b ≠ lk → H b = some o → H' b = some o
theorem KBut.refl {lk : Addr} {H : Hp} : KBut lk H H := fun _ _ _ h => h
theorem KBut.trans {lk : Addr} {H H1 H2 : Hp} (a : KBut lk H H1) (b : KBut lk H1 H2) : KBut lk H H2 := fun c o n h => b c o n (a c o n h)
theorem KBut.of {lk : Addr} {H H' : Hp} (s : Same H H') : KBut lk H H' := fun b o _ e => s b o e
section
variable {K : PySem.W.Frag} {L : Lk} {H H' : Hp} {lk : Addr} {n : Nat}
theorem LkAt.same (x : LkAt K L H lk n) (s : Same H H') : LkAt K L H' lk n := by
  obtain ⟨t, ⟨dx, fs, e, r⟩, h, q⟩ := x
  exact ⟨t, ⟨dx, fs, s _ _ e, r⟩, s _ _ h, ts_same s _ _ q⟩
theorem LkAt.ts (x : LkAt K L H lk n) (k : KBut lk H H') : TS K H H' := fun a xs h => by
  obtain ⟨dx, fs, e, _⟩ := x.o
  have ne : ∀ o, H a = some o → (∀ C dx fs, o ≠ .ins C dx fs) → a ≠ lk := fun o eo n z => by
    rw [z, e] at eo
    exact n _ _ _ (Option.some.inj eo).symm
  rcases h with (h | ⟨o, h⟩) | h
  · exact .inl (.inl (k _ _ (ne _ h fun _ _ _ z => nomatch z) h))
  · exact .inl (.inr ⟨o, k _ _ (ne _ h fun _ _ _ z => nomatch z) h⟩)
  · exact .inr h
/-- one form more -/
theorem LkAt.more (x : LkAt K L H lk n) {dx : Addr} {fs : List (Str × V)} (e : H lk = some (.ins L.C dx fs)) (m : Nat) : LkAt K L (upd H lk (.ins L.C dx (putF "forms" (.int (m : Int)) fs))) lk m ∧ KBut lk H (upd H lk (.ins L.C dx (putF "forms" (.int (m : Int)) fs))) := by
  obtain ⟨dx', fs', e', l1, l2, l3, hl⟩ := x.o
  rw [e] at e'
  cases e'
  have k : KBut lk H (upd H lk (.ins L.C dx (putF "forms" (.int (m : Int)) fs))) := fun b o ne eb => by rw [upd_ne ne]; exact eb
  have hne : L.hd ≠ lk := fun z => by
    have := x.h
    rw [z, e] at this
    cases this
  have keys : ∀ fs : List (Str × V), (fs.lookup ("forms" : Str)).isSome = true → (putF "forms" (.int (m : Int)) fs).length = fs.length := by
    intro fs
    induction fs with
    | nil => intro h; cases h
    | cons p r ih =>
      intro h
      unfold putF
      by_cases c : p.1 = "forms"
      · rw [if_pos c]; rfl
      · rw [if_neg c, List.length_cons, List.length_cons, ih ?_]
        rw [List.lookup_cons] at h
        have : (("forms" : Str) == p.1) = false := by
          cases q : (("forms" : Str) == p.1) with
          | false => rfl
          | true => exact absurd (eq_of_beq q).symm c
        rw [this] at h
        exact h
  refine ⟨⟨x.t, ⟨dx, _, upd_same, ?_, ?_, ?_, ?_⟩, k _ _ hne x.h, x.ts k _ _ x.s⟩, k⟩
  · rw [lookup_putF, if_neg (by decide)]; exact l1
  · rw [lookup_putF, if_neg (by decide)]; exact l2
  · rw [lookup_putF, if_pos rfl]
  · rw [keys _ (by rw [l3]; rfl)]; exact hl
end
abbrev s_own_fault : Stmt := topS 26
abbrev nm_own_fault : List Str := ["look", "thing", "depth"]
abbrev pm_own_fault : List Str := ["look", "thing", "depth"]
theorem sc_own_fault : FnScope nm_own_fault pm_own_fault (defScope s_own_fault) := ⟨rfl, rfl, rfl, by decide +kernel, rfl, by decide +kernel, by decide +kernel⟩
section
variable {P : Program} {w : World} {K : PySem.W.Frag} {mg : Str → Option Value} {base : Heap}
def wrdV : Option Str → V
  | none => .non
  | some z => .str z
def sp_own_fault (K : PySem.W.Frag) : Sp := fun vs H Q _ => ∃ (L : Lk) (lk : Addr) (v : V) (d : PyData) (dep n : Nat), vs = [.ref lk, v, .int (dep : Int)] ∧ LkAt K L H lk n ∧ Dp K H v d ∧ pl d = true ∧
  ∀ H', LkAt K L H' lk (ownM d dep n).1 → KBut lk H H' → Q (wrdV (ownM d dep n).2) H'
theorem ok_own_fault {f : Addr} {fd : FuncData} (F : Fun K "own_fault" "own_fault" s_own_fault f fd) (m_len : mg "len" = none) (m_isinstance : mg "isinstance" = none) (m_tuple : mg "tuple" = none) (m_str : mg "str" = none) {t_MOST_DEPTH : Nat} (g_MOST_DEPTH : mg "MOST_DEPTH" = some (.int 8 t_MOST_DEPTH)) {t_MOST_FORMS : Nat} (g_MOST_FORMS : mg "MOST_FORMS" = some (.int 40 t_MOST_FORMS)) {a_LENGTHS : Addr} (g_LENGTHS : mg "LENGTHS" = some (.ref a_LENGTHS)) (D_LENGTHS : KLen K w a_LENGTHS) : FnOk P w K mg base CX0 1 f fd pm_own_fault (sp_own_fault K) := by
  refine F.ok sc_own_fault (fun vs H Q E h => ?_) (fun cdv A outer s H vs Q E hr h => ?_)
  · obtain ⟨L, lk, v, d, dep, n, rfl, _⟩ := h
    rfl
  · obtain ⟨L, lk, v, d, dep, n, rfl, hL, hv, pd, q⟩ := h
    obtain ⟨es, nL, D_LENGTHS, hLen⟩ := D_LENGTHS
    refine ⟨_, pss_cons (ps_if (PW.pt (pw_or (pt_not (pt_val (pe_callB call_isi (by rfl) m_isinstance (by decide +kernel) (pa_cons (pv 1) (pa_cons (pe_bltn (v := .ty "tuple") (by rfl) m_tuple (show bootBuiltins "tuple" = some (.type "tuple") by decide +kernel) rfl) pa_nil))))) (pw_or1 (pt_not (pt_truth (pv 1) (by intro _; rfl))))))
      (pss_one (ps_ret pe_str)) pss_nil)
      (pss_cons (ps_if (PW.pt (pw_or (pt_not (pt_val (pe_callB call_isi (by rfl) m_isinstance (by decide +kernel) (pa_cons (pe_ix ix_tup (pv 1) pe_int (fun _ _ => rfl)) (pa_cons (pe_bltn (v := .ty "str") (by rfl) m_str (show bootBuiltins "str" = some (.type "str") by decide +kernel) rfl) pa_nil))))) (pw_or1 (pt_cmpR (op_notIn_kd D_LENGTHS) (pe_ix ix_tup (pv 1) pe_int (fun _ _ => rfl)) (pe_glob (v := .ref a_LENGTHS) (by rfl) g_LENGTHS rfl) (by rfl)))))
      (pss_one (ps_ret pe_str)) pss_nil)
      (pss_cons (ps_fldaug (pv 0) pe_int in_add)
      (pss_cons (ps_if (pt_cmpR op_gt (pv 2) (pe_glob (v := .int 8) (by rfl) g_MOST_DEPTH ⟨_, rfl⟩) (nomark _))
      (pss_one (ps_ret pe_str)) pss_nil)
      (pss_cons (ps_if (pt_cmpR op_gt (pe_fld (pv 0) rfl) (pe_glob (v := .int 40) (by rfl) g_MOST_FORMS ⟨_, rfl⟩) (nomark _))
      (pss_one (ps_ret pe_str)) pss_nil)
      (pss_cons (ps_if (pt_cmpR op_ne (pe_callB call_len_seq (by rfl) m_len PySem.boot_len (pa_cons (pv 1) pa_nil)) (pe_ix ix_kdict (pe_glob (v := .ref a_LENGTHS) (by rfl) g_LENGTHS rfl) (pe_ix ix_tup (pv 1) pe_int (fun _ _ => rfl)) (fun _ _ => rfl)) (nomark _))
      (pss_one (ps_ret pe_str)) pss_nil)
      (pss_one (ps_ret pe_non))))))), ?_⟩
    refine ⟨v, rfl, v, _, _, _, isT d, rfl, .ty "tuple", dp_ty hv pd, kit_ty (kT d), isT d, rfl, ?_⟩
    have bad : ownM d dep n = (n, some ("kind" : Str)) → Q (.str "kind") H := fun e => by
      have q' := q H
      rw [e] at q'
      exact q' hL KBut.refl
    cases d with
    | tuple ds =>
      obtain ⟨a, xs, rfl, hs, ha⟩ := dp_tup hv
      refine iteF ?_
      cases ha with
      | nil => exact ⟨.ref a, rfl, _, .inr (.inl ⟨_, hs, rfl⟩), iteT (bad rfl)⟩
      | @cons v0 vr x rest h0 hr0 =>
      have px : pl x = true := plA_mem (show plA (x :: rest) = true from pd) (List.mem_cons_self ..)
      refine ⟨.ref a, rfl, _, .inr (.inl ⟨_, hs, rfl⟩), iteF ?_⟩
      refine ⟨.ref a, rfl, a, _, 0, v0, rfl, rfl, hs, atI_nat (j := 0) rfl, v0, _, _, _, isS x, rfl, .ty "str", dp_ty h0 px, kit_ty (kS x), isS x, rfl, ?_⟩
      cases x with
      | str z =>
        have ev := dp_str h0
        subst ev
        obtain ⟨r, hr1, hr2⟩ := hLen z
        refine iteF ⟨.ref a, rfl, a, _, 0, .str z, rfl, rfl, hs, atI_nat (j := 0) rfl, z, r, rfl, rfl, hr1, _, rfl, ?_⟩
        cases hw : wlen z with
        | none =>
          rw [hw] at hr2
          subst hr2
          refine iteT (bad ?_)
          show (match wlen z with | none => (n, some ("kind" : Str)) | some m => _) = _
          rw [hw]
        | some m =>
          rw [hw] at hr2
          obtain ⟨t, rfl⟩ := hr2
          refine iteF ?_
          obtain ⟨dx, fs, e, l1, l2, l3, hl⟩ := hL.o
          have hown : ownM (.tuple (.str z :: rest)) dep n = (n + 1, if dep > 8 then some ("deep" : Str) else if n + 1 > 40 then some ("forms" : Str) else if rest.length + 1 ≠ m then some ("shape" : Str) else none) := by
            show (match wlen z with | none => (n, some ("kind" : Str)) | some m => _) = _
            rw [hw]
          rw [hown] at q
          refine ⟨.ref lk, rfl, lk, L.C, dx, fs, .int (n : Int), rfl, e, hL.t.cl, hL.t.n3, l3, _, _, rfl, rfl, dx, fs, e, by omega, ?_⟩
          have hm := hL.more e (n + 1)
          have e1 : ((n : Int) + 1) = ((n + 1 : Nat) : Int) := by omega
          rw [e1]
          obtain ⟨hL2, kb⟩ := hm
          generalize upd H lk (.ins L.C dx (putF "forms" (.int ((n + 1 : Nat) : Int)) fs)) = H2 at hL2 kb ⊢
          refine ⟨.int (dep : Int), rfl, _, _, rfl, rfl, _, rfl, ite2 (fun c => ?_) (fun c => ?_)⟩
          · have c' : (8 : Int) < (dep : Int) := of_decide_eq_true c
            have q' := q H2 hL2 kb
            rw [if_pos (show dep > 8 by omega)] at q'
            exact q'
          have c' : ¬ (8 : Int) < (dep : Int) := fun z' => c (decide_eq_true z')
          rw [if_neg (show ¬ dep > 8 by omega)] at q
          obtain ⟨dx2, fs2, e2, l12, l22, l32, hl2⟩ := hL2.o
          refine ⟨.ref lk, rfl, lk, L.C, dx2, fs2, _, rfl, e2, hL.t.cl, hL.t.n3, l32, _, _, rfl, rfl, _, rfl, ite2 (fun c2 => ?_) (fun c2 => ?_)⟩
          · have c2' : (40 : Int) < ((n + 1 : Nat) : Int) := of_decide_eq_true c2
            have q' := q H2 hL2 kb
            rw [if_pos (show n + 1 > 40 by omega)] at q'
            exact q'
          have c2' : ¬ (40 : Int) < ((n + 1 : Nat) : Int) := fun z' => c2 (decide_eq_true z')
          rw [if_neg (show ¬ n + 1 > 40 by omega)] at q
          have hs2 := hL.ts kb _ _ hs
          have lr := dpAll_len hr0
          refine ⟨.ref a, rfl, a, _, rfl, .inr hs2, .ref a, rfl, a, _, 0, .str z, rfl, rfl, hs2, atI_nat (j := 0) rfl, _, z, .int (m : Int), rfl, rfl, ⟨es, nL, _, D_LENGTHS.at_, D_LENGTHS.lit, hr1, t, rfl⟩, rfl, _, rfl, ite2 (fun c3 => ?_) (fun c3 => ?_)⟩
          · have q' := q H2 hL2 kb
            have c3' : ¬ rest.length + 1 = m := fun z' => by
              have c4 : (!decide (V.int (((V.str z :: vr).length : Nat) : Int) = V.int (m : Int))) = true := c3
              rw [decide_eq_true (by rw [List.length_cons, lr, z'])] at c4
              cases c4
            rw [if_pos c3'] at q'
            exact q'
          · have q' := q H2 hL2 kb
            have c3' : rest.length + 1 = m := by
              have c4 : ¬ (!decide (V.int (((V.str z :: vr).length : Nat) : Int) = V.int (m : Int))) = true := c3
              have c5 : V.int (((V.str z :: vr).length : Nat) : Int) = V.int (m : Int) := by simpa using c4
              have c6 := V.int.inj c5
              rw [List.length_cons, lr] at c6
              omega
            rw [if_neg (fun z' => z' c3')] at q'
            exact q'
      | _ => exact iteT (bad rfl)
    | _ => exact iteT (bad rfl)
end
end K3
namespace K3
open PySem PySem.Spec PyProof.Rows L2 K1
/-! ### the faults of a thing as a kind -/
abbrev Fa := Option (List Int × Str)
def plD (p : List Int) : PyData := .tuple (p.map PyData.int)
def resD : Fa → PyData
  | none => .none
  | some (p, z) => faD (plD p) z
mutual
def okD : PyData → Bool
  | .str z => decide (z.length ≤ 1000000)
  | .tuple ds => okA ds
  | _ => true
def okA : List PyData → Bool
  | [] => true
  | d :: r => okD d && okA r
end
theorem okA_mem : ∀ {ds : List PyData} {d : PyData}, okA ds = true → d ∈ ds → okD d = true
  | x :: r, d, h, hm => by
    have h' : okD x = true ∧ okA r = true := by simpa [okA] using h
    rcases List.mem_cons.mp hm with rfl | hm
    · exact h'.1
    · exact okA_mem h'.2 hm
theorem okD_T {d : PyData} (h : okD d = true) : okT d = true := by
  cases d <;> first | rfl | (simpa [okD, okT] using h)
def nfO (names : List Str) : PyData → Option Str
  | .str z => if nameS z = true then (if z ∈ names then some "twice" else none) else some "name"
  | _ => some "name"
def strO : PyData → Str
  | .str z => z
  | _ => ""
theorem nfM_O (names : List Str) (d p : PyData) : nfM names d p = (match nfO names d with | none => .none | some z => faD p z) := by
  cases d with
  | str z =>
    show (if nameS z = true then _ else _) = _
    unfold nfO
    by_cases c : nameS z = true
    · simp only [if_pos c]
      by_cases c2 : z ∈ names
      · simp only [if_pos c2]
      · simp only [if_neg c2]
    · simp only [if_neg c]
  | _ => rfl
abbrev Rk := PyData → List Int → Nat → Nat × Fa
def ptsM (rc : Rk) (p : List Int) : List PyData → Nat → List Str → Nat → Nat × Fa
  | [], _, _, f => (f, none)
  | d :: r, j, names, f => match d with
    | .tuple [a, b] => (match nfO names a with
      | some z => (f, some (p ++ [1, (j : Int)] ++ [0], z))
      | none => (match rc b (p ++ [1, (j : Int)] ++ [1]) f with
        | (f', some x) => (f', some x)
        | (f', none) => ptsM rc p r (j + 1) (names ++ [strO a]) f'))
    | _ => (f, some (p ++ [1, (j : Int)], "part"))
def filM (rc : Rk) (p : List Int) : List PyData → Nat → Nat → Nat × Fa
  | [], _, f => (f, none)
  | d :: r, j, f => match rc d (p ++ [2, (j : Int)]) f with
    | (f', some x) => (f', some x)
    | (f', none) => filM rc p r (j + 1) f'
def paM (least : Nat) (rc : Rk) (a : PyData) (p : List Int) (f : Nat) : Nat × Fa := match a with
  | .tuple ds => if least ≤ ds.length ∧ ds.length ≤ 8 then ptsM rc p ds 0 [] f else (f, some (p ++ [1], "many"))
  | _ => (f, some (p ++ [1], "parts"))
def hdLk (hs : List (Str × Nat)) (z : Str) : Option Nat := (hs.find? fun q => decide (q.1 = z)).map (·.2)
def flM (m : Nat) (rc : Rk) (b : PyData) (p : List Int) (f : Nat) : Nat × Fa := match b with
  | .tuple ds => if ds.length = m then filM rc p ds 0 f else (f, some (p ++ [2], "fills"))
  | _ => (f, some (p ++ [2], "fills"))
def usM (hs : List (Str × Nat)) (rc : Rk) (a b : PyData) (p : List Int) (f : Nat) : Nat × Fa := match a with
  | .str z => (match hdLk hs z with
    | none => (f, some (p ++ [1], "unknown"))
    | some m => flM m rc b p f)
  | _ => (f, some (p ++ [1], "unknown"))
def holB (ho : List Str) : PyData → Bool
  | .str z => decide (z ∈ ho)
  | _ => false
def inM (hs : List (Str × Nat)) (ho : List Str) (rc : Rk) (z : Str) (a b : PyData) (p : List Int) (f : Nat) : Nat × Fa :=
  if z = "record" then paM 0 rc a p f
  else if z = "variant" then paM 1 rc a p f
  else if z = "use" then usM hs rc a b p f
  else if z = "row" then (if btw a 1 16 = true then rc b (p ++ [2]) f else (f, some (p ++ [1], "many")))
  else if z = "maybe" ∨ z = "box" then rc a (p ++ [1]) f
  else if z = "hole" then (f, if holB ho a = true then none else some (p ++ [1], "hole"))
  else if z = "truth" then (f, none)
  else (f, if btw a 1 64 = true then none else some (p ++ [1], "bits"))
def kfM (hs : List (Str × Nat)) (ho : List Str) : Nat → PyData → List Int → Nat → Nat → Nat × Fa
  | 0, _, _, _, f => (f, none)
  | k + 1, d, p, dep, f => match ownM d dep f with
    | (f', some z) => (f', some (p, z))
    | (f', none) => (match d with
      | .tuple (.str z :: r) => inM hs ho (fun d' p' g => kfM hs ho k d' p' (dep + 1) g) z (r.getD 0 .none) (r.getD 1 .none) p f'
      | _ => (f', none))
abbrev s_kind_fault : Stmt := topS 27
abbrev nm_kind_fault : List Str := ["look", "thing", "place", "depth", "why", "word", "may_stand"]
abbrev pm_kind_fault : List Str := ["look", "thing", "place", "depth"]
theorem sc_kind_fault : FnScope nm_kind_fault pm_kind_fault (defScope s_kind_fault) := ⟨rfl, rfl, rfl, by decide +kernel, rfl, by decide +kernel, by decide +kernel⟩
abbrev s_parts_fault : Stmt := topS 28
abbrev nm_parts_fault : List Str := ["look", "thing", "place", "depth", "least", "names", "number", "pair", "at", "fault"]
abbrev pm_parts_fault : List Str := ["look", "thing", "place", "depth"]
theorem sc_parts_fault : FnScope nm_parts_fault pm_parts_fault (defScope s_parts_fault) := ⟨rfl, rfl, rfl, by decide +kernel, rfl, by decide +kernel, by decide +kernel⟩
abbrev s_use_fault : Stmt := topS 29
abbrev nm_use_fault : List Str := ["look", "thing", "place", "depth", "number", "each", "fault"]
abbrev pm_use_fault : List Str := ["look", "thing", "place", "depth"]
theorem sc_use_fault : FnScope nm_use_fault pm_use_fault (defScope s_use_fault) := ⟨rfl, rfl, rfl, by decide +kernel, rfl, by decide +kernel, by decide +kernel⟩
section
variable {P : Program} {w : World} {K : PySem.W.Frag} {mg : Str → Option Value} {base : Heap}
theorem ints_dp {H : Hp} : ∀ p : List Int, DpAll K H (p.map V.int) (p.map PyData.int)
  | [] => .nil
  | x :: r => .cons (.int x) (ints_dp r)
theorem pl_plD (p : List Int) : pl (plD p) = true := plA_of fun d h => by
  obtain ⟨x, _, rfl⟩ := List.mem_map.mp h
  rfl
theorem dp_plD {H : Hp} {a : Addr} {p : List Int} (h : SqT K H a (p.map V.int)) : Dp K H (.ref a) (plD p) := .tup h (ints_dp p)
/-- what a look at a thing promises: rc tells the count and the fault -/
def Looked (K : PySem.W.Frag) (L : Lk) (lk : Addr) (H : Hp) (rs : Nat × Fa) (Q : VK) : Prop := ∀ r H', LkAt K L H' lk rs.1 → KBut lk H H' → Dp K H' r (resD rs.2) → Q r H'
theorem ifC {b : Bool} {x y : V} {σ : L2.St} {H : Hp} {Q : VK} (h : ∀ v, v = (if b = true then x else y) → Q v H) : if b = true then tC x σ H Q else tC y σ H Q := by
  cases b with
  | true => exact h x rfl
  | false => exact h y rfl
theorem ifN {x : V} {p q : Prop} (ne : x ≠ .non) (h : q) : if decide (x = .non) = true then p else q := by
  rw [decide_eq_false ne]
  exact iteF h
theorem ifNN {x : V} {p q : Prop} (ne : x ≠ .non) (h : p) : if (!decide (x = .non)) = true then p else q := by
  rw [decide_eq_false ne]
  exact iteT h
/-- all but one list stays -/
def Same' (nm : Addr) (H H' : Hp) : Prop := ∀ b o, b ≠ nm → H b = some o → H' b = some o
theorem LkAt.lst {L : Lk} {H H' : Hp} {lk nm : Addr} {n : Nat} {xs : List V} (x : LkAt K L H lk n) (e : H nm = some (.lst xs)) (k : Same' nm H H') : LkAt K L H' lk n := by
  obtain ⟨t, ⟨dx, fs, e1, r⟩, h, q⟩ := x
  have ne : ∀ b o, H b = some o → (∀ ys, o ≠ .lst ys) → b ≠ nm := fun b o eb nl z => by
    rw [z, e] at eb
    exact nl _ (Option.some.inj eb).symm
  refine ⟨t, ⟨dx, fs, k _ _ (ne _ _ e1 fun _ z => nomatch z) e1, r⟩, k _ _ (ne _ _ h fun _ z => nomatch z) h, ?_⟩
  rcases q with (q | ⟨o, q⟩) | q
  · exact .inl (.inl (k _ _ (ne _ _ q fun _ z => nomatch z) q))
  · exact .inl (.inr ⟨o, k _ _ (ne _ _ q fun _ z => nomatch z) q⟩)
  · exact .inr q
theorem pair_of {d : PyData} (h : tupN d 2 = true) : ∃ a b, d = .tuple [a, b] := by
  cases d with
  | tuple ds =>
    have h2 : (ds.length : Int) = 2 := of_decide_eq_true h
    match ds, h2 with
    | [a, b], _ => exact ⟨a, b, rfl⟩
    | [], h => exact absurd h (by simp)
    | [_], h => exact absurd h (by simp)
    | _ :: _ :: _ :: _, h => simp at h; omega
  | _ => cases h
theorem dp_faP {H' : Hp} {a t : Addr} {p : List Int} {z : Str} (hp : SqT K H' a (p.map V.int)) (ht : H' t = some (.tup [.ref a, .str z])) : Dp K H' (.ref t) (faD (plD p) z) := dp_fa (dp_plD hp) ht
/-- (place + (c,), 'z') -/
theorem fa1 {σ : L2.St} {H : Hp} {i : Nat} {pa : Addr} {p : List Int} {c : Int} {z : Str} {Q : VK} (hσ : σ[i]? = some (some (.ref pa))) (hp : SqT K H pa (p.map V.int)) (hl : p.length ≤ 1000)
    (q : ∀ r H', Same H H' → Dp K H' r (faD (plD (p ++ [c])) z) → Q r H') : tTup (tCons (tOp (rCatA K) (tVar i) (tTup (tCons (tC (.int c)) tNil))) (tCons (tC (.str z)) tNil)) σ H Q := by
  refine ⟨.ref pa, hσ, (by show 1 ≤ sizeLine; decide), fun t nt => ?_⟩
  have s1 : Same H (upd H t (.tup [.int c])) := same_upd nt
  refine catA_any (ts_same s1 _ _ hp) (.inl (.inl upd_same)) (by rw [List.length_map]; exact Nat.le_trans (show p.length + 1 ≤ 1001 by omega) (by decide)) fun r H2 s2 h2 => ?_
  refine ⟨(by show 2 ≤ sizeLine; decide), fun t3 n3 => q _ _ ((s1.trans s2).trans (same_upd n3)) ?_⟩
  have h2' : SqT K H2 r ((p ++ [c]).map V.int) := by rw [List.map_append]; exact h2
  exact dp_faP (ts_same (same_upd n3) _ _ h2') upd_same
def sp_kind_fault (K : PySem.W.Frag) (k : Nat) : Sp := fun vs H Q _ => ∃ (L : Lk) (lk pa : Addr) (v : V) (d : PyData) (p : List Int) (dep f : Nat), vs = [.ref lk, v, .ref pa, .int (dep : Int)] ∧ LkAt K L H lk f ∧ Dp K H v d ∧ pl d = true ∧ okD d = true ∧ SqT K H pa (p.map V.int) ∧ p.length + 4 * k ≤ 1000 ∧
  dep ≤ 9 ∧ 10 ≤ dep + k ∧ Looked K L lk H (kfM L.heads L.holes k d p dep f) Q
def sp_parts_fault (K : PySem.W.Frag) (k : Nat) : Sp := fun vs H Q _ => ∃ (L : Lk) (lk pa : Addr) (v : V) (z : Str) (a : PyData) (p : List Int) (dep f : Nat), vs = [.ref lk, v, .ref pa, .int (dep : Int)] ∧ LkAt K L H lk f ∧ (z = "record" ∨ z = "variant") ∧ Dp K H v (.tuple [.str z, a]) ∧ pl a = true ∧ okD a = true ∧
  SqT K H pa (p.map V.int) ∧ p.length + 4 * k + 4 ≤ 1000 ∧ dep ≤ 8 ∧ 10 ≤ dep + 1 + k ∧ Looked K L lk H (paM (if z = "variant" then 1 else 0) (fun d' p' g => kfM L.heads L.holes k d' p' (dep + 1) g) a p f) Q
theorem ok_parts_fault {f : Addr} {fd : FuncData} {k lv : Nat} (F : Fun K "parts_fault" "parts_fault" s_parts_fault f fd) (C_is_tuple_of : Cal P w K mg base "is_tuple_of" pm_is_tuple_of 1 (sp_is_tuple_of K)) (C_name_fault : Cal P w K mg base "name_fault" pm_name_fault 2 (sp_name_fault K))
    (C_kind_fault : Cal P w K mg base "kind_fault" pm_kind_fault lv (sp_kind_fault K k)) (m_isinstance : mg "isinstance" = none) (m_tuple : mg "tuple" = none) (m_len : mg "len" = none) (m_enumerate : mg "enumerate" = none) {t_MOST_PARTS : Nat} (g_MOST_PARTS : mg "MOST_PARTS" = some (.int 8 t_MOST_PARTS)) :
    FnOk P w K mg base CX0 (lv + 3) f fd pm_parts_fault (sp_parts_fault K k) := by
  obtain ⟨f_is_tuple_of, fd_is_tuple_of, G_is_tuple_of, g_is_tuple_of, k_is_tuple_of, b_is_tuple_of⟩ := C_is_tuple_of.ex
  obtain ⟨f_name_fault, fd_name_fault, G_name_fault, g_name_fault, k_name_fault, b_name_fault⟩ := C_name_fault.ex
  obtain ⟨f_kind_fault, fd_kind_fault, G_kind_fault, g_kind_fault, k_kind_fault, b_kind_fault⟩ := C_kind_fault.ex
  refine F.ok sc_parts_fault (fun vs H Q E h => ?_) (fun cdv A outer s H vs Q E hr h => ?_)
  · obtain ⟨L, lk, pa, v, z, a, p, dep, f, rfl, _⟩ := h
    rfl
  · obtain ⟨L, lk, pa, v, z, a, p, dep, n, rfl, hL, hz, hv, pla, oka, hp, hpl, hdep, hk, q⟩ := h
    refine ⟨_, pss_cons (ps_set (i := 4) sc_parts_fault.nd rfl (.inl rfl) (pe_ifExp (pt_cmpR op_eq (pe_ix ix_tup (pv 1) pe_int (fun _ _ => rfl)) pe_str (nomark _)) pe_int pe_int))
      (pss_cons (ps_if (pt_not (pt_val (pe_callB call_isi (by rfl) m_isinstance (by decide +kernel) (pa_cons (pe_ix ix_tup (pv 1) pe_int (fun _ _ => rfl)) (pa_cons (pe_bltn (v := .ty "tuple") (by rfl) m_tuple (show bootBuiltins "tuple" = some (.type "tuple") by decide +kernel) rfl) pa_nil)))))
      (pss_one (ps_ret (pe_tup (pa_cons (pe_op op_catA (pv 2) (pe_tup (pa_cons pe_int pa_nil))) (pa_cons pe_str pa_nil))))) pss_nil)
      (pss_cons (ps_if (pt_not (pt_chain op_le op_le (pv 4) (pe_callB call_len_seq (by rfl) m_len PySem.boot_len (pa_cons (pe_ix ix_tup (pv 1) pe_int (fun _ _ => rfl)) pa_nil)) (pe_glob (v := .int 8) (by rfl) g_MOST_PARTS ⟨_, rfl⟩)))
      (pss_one (ps_ret (pe_tup (pa_cons (pe_op op_catA (pv 2) (pe_tup (pa_cons pe_int pa_nil))) (pa_cons pe_str pa_nil))))) pss_nil)
      (pss_cons (ps_set (i := 5) sc_parts_fault.nd rfl (.inl rfl) (pe_lst pa_nil))
      (pss_cons (ps_for PassesOwn.never rfl (EN.pi_enumT (by rfl) m_enumerate (pa_cons (pe_ix ix_tup (pv 1) pe_int (fun _ _ => rfl)) pa_nil)) (pg_tup (by rfl) (pgs_cons (pg_name (i := 6) sc_parts_fault.nd rfl (.inl rfl)) (pgs_cons (pg_name (i := 7) sc_parts_fault.nd rfl (.inl rfl)) pgs_nil)))
      (pss_cons (ps_set (i := 8) sc_parts_fault.nd rfl (.inl rfl) (pe_op op_catA (pv 2) (pe_tup (pa_cons pe_int (pa_cons (pv 6) pa_nil)))))
      (pss_cons (ps_if (pt_not (pt_val (pe_call G_is_tuple_of (hr.mono (by omega)) (by rfl) g_is_tuple_of k_is_tuple_of b_is_tuple_of .nil pass0 (pa_cons (pv 7) (pa_cons pe_int pa_nil)))))
      (pss_one (ps_ret (pe_tup (pa_cons (pv 8) (pa_cons pe_str pa_nil))))) pss_nil)
      (pss_cons (ps_set (i := 9) sc_parts_fault.nd rfl (.inl rfl) (pe_call G_name_fault (hr.mono (by omega)) (by rfl) g_name_fault k_name_fault b_name_fault .nil pass0 (pa_cons (pv 5) (pa_cons (pe_ix ix_tup (pv 7) pe_int (fun _ _ => rfl)) (pa_cons (pe_op op_catA (pv 8) (pe_tup (pa_cons pe_int pa_nil))) pa_nil)))))
      (pss_cons (ps_if (pt_cmpR op_isN (pv 9) pe_non (nomark _))
      (pss_one (ps_set (i := 9) sc_parts_fault.nd rfl (.inl rfl) (pe_call G_kind_fault (hr.mono (by omega)) (by rfl) g_kind_fault k_kind_fault b_kind_fault .nil pass0 (pa_cons (pv 0) (pa_cons (pe_ix ix_tup (pv 7) pe_int (fun _ _ => rfl)) (pa_cons (pe_op op_catA (pv 8) (pe_tup (pa_cons pe_int pa_nil))) (pa_cons (pe_op op_add (pv 3) pe_int) pa_nil))))))) pss_nil)
      (pss_cons (ps_if (pt_cmpR op_notN (pv 9) pe_non (nomark _))
      (pss_one (ps_ret (pv 9))) pss_nil)
      (pss_one (ps_expr (pe_bm PySem.F.plainAttrs_list PySem.F.slot_list_append PySem.F.type_list_append mt_append (pv 5) (pa_cons (pe_ix ix_tup (pv 7) pe_int (fun _ _ => rfl)) pa_nil))))))))))
      (pss_one (ps_ret pe_non)))))), ?_⟩
    obtain ⟨tv, xs0, rfl, hs, hx⟩ := dp_tup hv
    cases hx with
    | @cons v0 _ _ _ hx0 hx1 =>
    cases hx1 with
    | @cons va _ _ _ hxa hx2 =>
    cases hx2
    have ev := dp_str hx0
    subst ev
    refine ⟨.ref tv, rfl, tv, _, 0, .str z, rfl, rfl, hs, atI_nat (j := 0) rfl, rfl, _, rfl, ?_⟩
    refine ifC fun lv hlv => ?_
    generalize hle : (if z = "variant" then 1 else 0) = least at q
    have hlv' : lv = .int (least : Int) := by
      rw [hlv, ← hle]
      by_cases c : z = "variant"
      · rw [if_pos c, if_pos (decide_eq_true (congrArg V.str c))]; rfl
      · rw [if_neg c, if_neg (fun z' => c (V.str.inj (of_decide_eq_true z')))]; rfl
    subst hlv'
    have hls : least ≤ 1 := by rw [← hle]; split <;> omega
    refine ⟨.ref tv, rfl, tv, _, 1, va, rfl, rfl, hs, atI_nat (j := 1) rfl, va, _, _, _, isT a, rfl, .ty "tuple", dp_ty hxa pla, kit_ty (kT a), isT a, rfl, ?_⟩
    cases a with
    | tuple ds =>
      obtain ⟨da, xs, rfl, hds, hxs⟩ := dp_tup hxa
      have hlen := dpAll_len hxs
      refine iteF ⟨.int (least : Int), rfl, .ref tv, rfl, tv, _, 1, .ref da, rfl, rfl, hs, atI_nat (j := 1) rfl, da, _, rfl, .inr hds, _, _, rfl, rfl, _, rfl, ?_⟩
      have many : ¬ (least ≤ ds.length ∧ ds.length ≤ 8) → paM least (fun d' p' g => kfM L.heads L.holes k d' p' (dep + 1) g) (.tuple ds) p n = (n, some (p ++ [1], ("many" : Str))) := fun c => if_neg c
      refine ite2 (fun c1 => ⟨_, _, rfl, rfl, _, rfl, ite2 (fun c2 => ?_) (fun c2 => ?_)⟩) (fun c1 => ⟨_, rfl, iteT (by
        have c1' : ¬ (least : Int) ≤ (xs.length : Int) := fun z' => c1 (decide_eq_true z')
        rw [many (by omega)] at q
        exact fa1 rfl hp (by omega) fun r H' s' d' => q r H' (hL.same s') (KBut.of s') d')⟩)
      · have c2' : ¬ (xs.length : Int) ≤ 8 := by
          have c3 : (!decide ((xs.length : Int) ≤ 8)) = true := c2
          simpa using c3
        rw [many (by omega)] at q
        exact fa1 rfl hp (by omega) fun r H' s' d' => q r H' (hL.same s') (KBut.of s') d'
      have c2' : (xs.length : Int) ≤ 8 := by
        have c3 : ¬ (!decide ((xs.length : Int) ≤ 8)) = true := c2
        simpa using c3
      have c1' : (least : Int) ≤ (xs.length : Int) := of_decide_eq_true c1
      have epa : paM least (fun d' p' g => kfM L.heads L.holes k d' p' (dep + 1) g) (.tuple ds) p n = ptsM (fun d' p' g => kfM L.heads L.holes k d' p' (dep + 1) g) p ds 0 [] n := if_pos (by omega)
      rw [epa] at q
      clear epa many
      refine ⟨Nat.zero_le _, fun nm hnm => ?_⟩
      have s1 : Same H (upd H nm (.lst [])) := same_upd hnm
      have e1 : (upd H nm (.lst [])) nm = some (.lst ([].map V.str)) := upd_same
      generalize upd H nm (HO.lst []) = H1 at s1 e1 ⊢
      have plds : plA ds = true := pla
      have okds : okA ds = true := oka
      generalize hrc : (fun d' p' g => kfM L.heads L.holes k d' p' (dep + 1) g : Rk) = rc at q
      refine ⟨.ref tv, rfl, tv, _, 1, .ref da, rfl, rfl, ts_same s1 _ _ hs, atI_nat (j := 1) rfl, da, xs, rfl, ts_same s1 _ _ hds, for_it (EN.walk_enumT (xs := xs))
        (fun j σ H' => ∃ (x6 x7 x8 x9 : Option V) (names : List Str) (n' : Nat), σ = [some (.ref lk), some (.ref tv), some (.ref pa), some (.int (dep : Int)), some (.int (least : Int)), some (.ref nm), x6, x7, x8, x9] ∧ H' nm = some (.lst (names.map V.str)) ∧
          LkAt K L H' lk n' ∧ KBut lk H H' ∧ names.length ≤ j ∧ ptsM rc p ds 0 [] n = ptsM rc p (ds.drop j) j names n')
        ⟨none, none, none, none, [], n, rfl, e1, hL.same s1, KBut.of s1, Nat.le_refl _, rfl⟩ (fun j σ H' _ hp' => ?_) (fun j v σ H' H'' hj hp' hy => ?_) (fun σ H' hp' => ?_)⟩
      · obtain ⟨_, _, _, _, _, _, _, _, lk', kb, _, _⟩ := hp'
        exact hL.ts kb _ _ hds
      · obtain ⟨x6, x7, x8, x9, names, n', rfl, enm, hL', kb, hnl, hpt⟩ := hp'
        obtain ⟨T, xi, xj, rfl, hT, rfl, hi, hxj⟩ := hy
        obtain rfl : V.int (j : Int) = xi := Option.some.inj hi
        obtain ⟨dj, edj, hdj⟩ := dpAll_get hxs hxj
        have pdj : pl dj = true := plA_mem plds (List.mem_of_getElem? edj)
        have odj : okD dj = true := okA_mem okds (List.mem_of_getElem? edj)
        have edr : ds.drop j = dj :: ds.drop (j + 1) := by
          obtain ⟨hlt, e⟩ := List.getElem?_eq_some_iff.mp edj
          rw [List.drop_eq_getElem_cons hlt, e]
        rw [edr] at hpt
        have sT : Same H' (upd H' T (.tup [.int (j : Nat), xj])) := same_upd hT
        have eT : (upd H' T (.tup [.int (j : Nat), xj])) T = some (.tup [.int (j : Nat), xj]) := upd_same
        generalize upd H' T (HO.tup [V.int (j : Nat), xj]) = H2 at sT eT ⊢
        have hL2 := hL'.same sT
        have kb2 : KBut lk H H2 := kb.trans (KBut.of sT)
        have ts2 : TS K H H2 := hL.ts kb2
        refine ⟨T, _, rfl, .inl (.inl eT), rfl, _, _, rfl, _, _, rfl, rfl, ?_⟩
        refine ⟨.ref pa, rfl, .int (j : Int), rfl, (by show 2 ≤ sizeLine; decide), fun t1 n1 => catA_any (ts_same (same_upd n1) _ _ (ts2 _ _ hp)) (.inl (.inl upd_same)) (by rw [List.length_map]; exact Nat.le_trans (show p.length + 2 ≤ 1002 by omega) (by decide)) fun r3 H3 s3 h3 => ?_⟩
        have s23 : Same H2 H3 := (same_upd n1).trans s3
        have h3' : SqT K H3 r3 ((p ++ [1, (j : Int)]).map V.int) := by rw [List.map_append]; exact h3
        have hL3 := hL2.same s23
        have kb3 : KBut lk H H3 := kb2.trans (KBut.of s23)
        have ts3 : TS K H H3 := hL.ts kb3
        have enm3 : H3 nm = some (.lst (names.map V.str)) := s23 _ _ (sT _ _ enm)
        have hdj3 : Dp K H3 xj dj := ts3.dp dj xj pdj hdj
        clear s3 h3
        refine ⟨xj, rfl, xj, dj, 2, rfl, hdj3, pdj, tupN dj 2, rfl, ite2 (fun c => ?_) (fun c => ?_)⟩
        · have c' : tupN dj 2 = false := by simpa using c
          have e9 : ptsM rc p (dj :: ds.drop (j + 1)) j names n' = (n', some (p ++ [1, (j : Int)], ("part" : Str))) := by
            unfold ptsM
            split
            · exact absurd c' (by simp [tupN])
            · rfl
          rw [hpt, e9] at q
          refine ⟨.ref r3, rfl, (by show 2 ≤ sizeLine; decide), fun t4 n4 => q _ _ (hL3.same (same_upd n4)) (fun b o nb e => same_upd n4 _ _ (kb3 b o nb e)) ?_⟩
          exact dp_faP (ts_same (same_upd n4) _ _ h3') upd_same
        have c' : tupN dj 2 = true := by simpa using c
        obtain ⟨a1, b1, rfl⟩ := pair_of c'
        obtain ⟨pj, ys, rfl, hpj, hys⟩ := dp_tup hdj3
        cases hys with
        | @cons va1 _ _ _ ha1 hys1 =>
        cases hys1 with
        | @cons vb1 _ _ _ hb1 hys2 =>
        cases hys2
        have pa1 : pl a1 = true := plA_mem (show plA [a1, b1] = true from pdj) (List.mem_cons_self ..)
        have pb1 : pl b1 = true := plA_mem (show plA [a1, b1] = true from pdj) (List.mem_cons_of_mem _ (List.mem_cons_self ..))
        have oa1 : okD a1 = true := okA_mem (show okA [a1, b1] = true from odj) (List.mem_cons_self ..)
        have ob1 : okD b1 = true := okA_mem (show okA [a1, b1] = true from odj) (List.mem_cons_of_mem _ (List.mem_cons_self ..))
        refine ⟨.ref nm, rfl, .ref pj, rfl, pj, _, 0, va1, rfl, rfl, hpj, atI_nat (j := 0) rfl, .ref r3, rfl, (by show 1 ≤ sizeLine; decide), fun t5 n5 => catA_any (ts_same (same_upd n5) _ _ h3') (.inl (.inl upd_same)) (by rw [List.length_map, List.length_append]; exact Nat.le_trans (show p.length + 2 + 1 ≤ 1003 by omega) (by decide)) fun r6 H6 s6 h6 => ?_⟩
        have s36 : Same H3 H6 := (same_upd n5).trans s6
        have h6' : SqT K H6 r6 ((p ++ [1, (j : Int)] ++ [0]).map V.int) := by rw [List.map_append]; exact h6
        refine ⟨nm, va1, .ref r6, names, a1, plD (p ++ [1, (j : Int)] ++ [0]), rfl, .inl (.inl (s36 _ _ enm3)), (ts_same s36).dp a1 va1 pa1 ha1, pa1, okD_T oa1, dp_plD h6', pl_plD _, fun r7 H7 s7 d7 => ?_⟩
        have s37 : Same H3 H7 := s36.trans s7
        have hL7 := hL3.same s37
        have kb7 : KBut lk H H7 := kb3.trans (KBut.of s37)
        have ts7 : TS K H H7 := hL.ts kb7
        rw [nfM_O] at d7
        have eP : ptsM rc p (.tuple [a1, b1] :: ds.drop (j + 1)) j names n' = (match nfO names a1 with
            | some z => (n', some (p ++ [1, (j : Int)] ++ [0], z))
            | none => (match rc b1 (p ++ [1, (j : Int)] ++ [1]) n' with
              | (f', some x) => (f', some x)
              | (f', none) => ptsM rc p (ds.drop (j + 1)) (j + 1) (names ++ [strO a1]) f')) := by
          conv => lhs; unfold ptsM
        rw [hpt, eP] at q
        cases hnf : nfO names a1 with
        | some zz =>
          rw [hnf] at d7 q
          have ne : r7 ≠ .non := fun z' => nomatch (non_iff d7).mp z'
          refine ⟨r7, rfl, rfl, _, rfl, ifN ne ?_⟩
          refine ⟨r7, rfl, rfl, _, rfl, ifNN ne ?_⟩
          exact ⟨r7, rfl, q _ _ hL7 (fun b o nb e => kb7 b o nb e) d7⟩
        | none =>
          rw [hnf] at d7 q
          have en : r7 = .non := (non_iff d7).mpr rfl
          subst en
          refine ⟨.non, rfl, rfl, _, rfl, iteT ?_⟩
          have hpj7 : SqT K H7 pj [va1, vb1] := ts_same s37 _ _ hpj
          have h37 : SqT K H7 r3 ((p ++ [1, (j : Int)]).map V.int) := ts_same s37 _ _ h3'
          refine ⟨.ref lk, rfl, .ref pj, rfl, pj, _, 1, vb1, rfl, rfl, hpj7, atI_nat (j := 1) rfl, .ref r3, rfl, (by show 1 ≤ sizeLine; decide), fun t8 n8 => catA_any (ts_same (same_upd n8) _ _ h37) (.inl (.inl upd_same)) (by rw [List.length_map, List.length_append]; exact Nat.le_trans (show p.length + 2 + 1 ≤ 1003 by omega) (by decide)) fun r9 H9 s9 h9 => ?_⟩
          have s79 : Same H7 H9 := (same_upd n8).trans s9
          have h9' : SqT K H9 r9 ((p ++ [1, (j : Int)] ++ [1]).map V.int) := by rw [List.map_append]; exact h9
          refine ⟨.int (dep : Int), rfl, _, _, rfl, rfl, ?_⟩
          have ed1 : (dep : Int) + 1 = ((dep + 1 : Nat) : Int) := by omega
          refine ⟨L, lk, r9, vb1, b1, p ++ [1, (j : Int)] ++ [1], dep + 1, n', (by rw [← ed1]; rfl), hL7.same s79, (ts_same (s37.trans s79)).dp b1 vb1 pb1 hb1, pb1, ob1, h9', (by rw [List.length_append, List.length_append]; show p.length + 2 + 1 + 4 * k ≤ 1000; omega), by omega, by omega, fun rA HA hLA kbA dA => ?_⟩
          have erc : kfM L.heads L.holes k b1 (p ++ [1, (j : Int)] ++ [1]) (dep + 1) n' = rc b1 (p ++ [1, (j : Int)] ++ [1]) n' := by rw [← hrc]
          rw [erc] at hLA dA
          have kbB : KBut lk H HA := (kb7.trans (KBut.of s79)).trans kbA
          cases hrs : rc b1 (p ++ [1, (j : Int)] ++ [1]) n' with
          | mk n2 fa =>
          rw [hrs] at hLA dA q
          cases fa with
          | some pz =>
            obtain ⟨pp, zz⟩ := pz
            have ne : rA ≠ .non := fun z' => nomatch (non_iff dA).mp z'
            refine ⟨rA, rfl, rfl, _, rfl, ifNN ne ?_⟩
            exact ⟨rA, rfl, q _ _ hLA (fun b o nb e => kbB b o nb e) dA⟩
          | none =>
            have en : rA = .non := (non_iff dA).mpr rfl
            subst en
            refine ⟨.non, rfl, rfl, _, rfl, iteF ?_⟩
            have ea1 : ∃ z1, a1 = .str z1 := by
              cases a1 with
              | str z1 => exact ⟨z1, rfl⟩
              | _ => cases hnf
            obtain ⟨z1, rfl⟩ := ea1
            have ev1 := dp_str ha1
            subst ev1
            have nml : nm ≠ lk := fun z' => by
              obtain ⟨dx, fs, e, _⟩ := hL.o
              rw [z', e] at hnm
              cases hnm
            have enmA : HA nm = some (.lst (names.map V.str)) := kbA _ _ nml (s79 _ _ (s37 _ _ enm3))
            have hpjA : SqT K HA pj [.str z1, vb1] := (hL7.same s79).ts kbA _ _ (ts_same s79 _ _ hpj7)
            refine ⟨.ref nm, rfl, .inl ⟨rfl, _, .inl (.inl enmA)⟩, .ref pj, rfl, pj, _, 0, .str z1, rfl, rfl, hpjA, atI_nat (j := 0) rfl, nm, _, .str z1, rfl, rfl, enmA, ?_, ?_⟩
            · rw [List.length_map]
              exact Nat.lt_of_le_of_lt (show names.length ≤ 1000 by omega) (by decide)
            · have kC : Same' nm HA (upd HA nm (.lst (names.map V.str ++ [.str z1]))) := fun b o nb e => by rw [upd_ne nb]; exact e
              refine ⟨_, _, _, _, names ++ [z1], n2, rfl, by rw [upd_same, List.map_append]; rfl, ?_, ?_, by rw [List.length_append]; show names.length + 1 ≤ j + 1; omega, hpt.trans (eP.trans ?_)⟩
              · exact hLA.lst enmA kC
              · intro b o nb e
                exact kC b o (ne_of_none e hnm) (kbB b o nb e)
              · rw [hnf]
                show (match rc b1 (p ++ [1, (j : Int)] ++ [1]) n' with | (f', some x) => (f', some x) | (f', none) => ptsM rc p (ds.drop (j + 1)) (j + 1) (names ++ [z1]) f') = _
                rw [hrs]
      · obtain ⟨x6, x7, x8, x9, names, n', rfl, enm, hL', kb, hnl, hpt⟩ := hp'
        have ed : ds.drop xs.length = [] := List.drop_eq_nil_of_le (by omega)
        rw [ed] at hpt
        rw [hpt] at q
        exact q .non H' hL' (fun b o nb e => kb b o nb e) .non
    | _ => exact iteT (fa1 rfl hp (by omega) fun r H' s' d' => q r H' (hL.same s') (KBut.of s') d')
end
end K3
namespace K3
open PySem PySem.Spec PyProof.Rows L2 K1
section
variable {P : Program} {w : World} {K : PySem.W.Frag} {mg : Str → Option Value} {base : Heap}
theorem valV_head (hs : List (Str × Nat)) (z : Str) : valV (headK hs) (Sum.inr z) = (hdLk hs z).map fun (m : Nat) => V.int (m : Int) := by
  unfold valV headK hdLk
  rw [List.find?_map]
  have e : ((fun kv : Key × V => decide (kv.1 = Sum.inr z)) ∘ fun p : Str × Nat => ((Sum.inr p.1 : Key), V.int (p.2 : Int))) = fun q => decide (q.1 = z) := by
    funext q
    by_cases c : q.1 = z
    · show decide (Sum.inr q.1 = (Sum.inr z : Key)) = decide (q.1 = z)
      rw [decide_eq_true c, decide_eq_true (by rw [c])]
    · show decide (Sum.inr q.1 = (Sum.inr z : Key)) = decide (q.1 = z)
      rw [decide_eq_false c, decide_eq_false fun z' => c (Sum.inr.inj z')]
  rw [e, Option.map_map, Option.map_map]
  rfl
def sp_use_fault (K : PySem.W.Frag) (k : Nat) : Sp := fun vs H Q _ => ∃ (L : Lk) (lk pa : Addr) (v : V) (z : Str) (a b : PyData) (p : List Int) (dep f : Nat), vs = [.ref lk, v, .ref pa, .int (dep : Int)] ∧ LkAt K L H lk f ∧ Dp K H v (.tuple [.str z, a, b]) ∧ pl a = true ∧ okD a = true ∧ pl b = true ∧ okD b = true ∧
  SqT K H pa (p.map V.int) ∧ p.length + 4 * k + 4 ≤ 1000 ∧ dep ≤ 8 ∧ 10 ≤ dep + 1 + k ∧ Looked K L lk H (usM L.heads (fun d' p' g => kfM L.heads L.holes k d' p' (dep + 1) g) a b p f) Q
theorem ok_use_fault {f : Addr} {fd : FuncData} {k lv : Nat} (F : Fun K "use_fault" "use_fault" s_use_fault f fd) (C_is_tuple_of : Cal P w K mg base "is_tuple_of" pm_is_tuple_of 1 (sp_is_tuple_of K))
    (C_kind_fault : Cal P w K mg base "kind_fault" pm_kind_fault lv (sp_kind_fault K k)) (m_isinstance : mg "isinstance" = none) (m_str : mg "str" = none) (m_enumerate : mg "enumerate" = none) :
    FnOk P w K mg base CX0 (lv + 3) f fd pm_use_fault (sp_use_fault K k) := by
  obtain ⟨f_is_tuple_of, fd_is_tuple_of, G_is_tuple_of, g_is_tuple_of, k_is_tuple_of, b_is_tuple_of⟩ := C_is_tuple_of.ex
  obtain ⟨f_kind_fault, fd_kind_fault, G_kind_fault, g_kind_fault, k_kind_fault, b_kind_fault⟩ := C_kind_fault.ex
  refine F.ok sc_use_fault (fun vs H Q E h => ?_) (fun cdv A outer s H vs Q E hr h => ?_)
  · obtain ⟨L, lk, pa, v, z, a, b, p, dep, f, rfl, _⟩ := h
    rfl
  · obtain ⟨L, lk, pa, v, z, a, b, p, dep, n, rfl, hL, hv, pla, oka, plb, okb, hp, hpl, hdep, hk, q⟩ := h
    refine ⟨_, pss_cons (ps_if (PW.pt (pw_or (pt_not (pt_val (pe_callB call_isi (by rfl) m_isinstance (by decide +kernel) (pa_cons (pe_ix ix_tup (pv 1) pe_int (fun _ _ => rfl)) (pa_cons (pe_bltn (v := .ty "str") (by rfl) m_str (show bootBuiltins "str" = some (.type "str") by decide +kernel) rfl) pa_nil))))) (pw_or1 (pt_cmp (pc_dnotin (hu_of hr) (pe_ix ix_tup (pv 1) pe_int (fun _ _ => rfl)) (pe_fld (pv 0) rfl))))))
      (pss_one (ps_ret (pe_tup (pa_cons (pe_op op_catA (pv 2) (pe_tup (pa_cons pe_int pa_nil))) (pa_cons pe_str pa_nil))))) pss_nil)
      (pss_cons (ps_if (pt_not (pt_val (pe_call G_is_tuple_of (hr.mono (by omega)) (by rfl) g_is_tuple_of k_is_tuple_of b_is_tuple_of .nil pass0 (pa_cons (pe_ix ix_tup (pv 1) pe_int (fun _ _ => rfl)) (pa_cons (pe_dget (hu_of hr) (pe_fld (pv 0) rfl) (pe_ix ix_tup (pv 1) pe_int (fun _ _ => rfl)) (fun _ _ => rfl)) pa_nil)))))
      (pss_one (ps_ret (pe_tup (pa_cons (pe_op op_catA (pv 2) (pe_tup (pa_cons pe_int pa_nil))) (pa_cons pe_str pa_nil))))) pss_nil)
      (pss_cons (ps_for PassesOwn.never rfl (EN.pi_enumT (by rfl) m_enumerate (pa_cons (pe_ix ix_tup (pv 1) pe_int (fun _ _ => rfl)) pa_nil)) (pg_tup (by rfl) (pgs_cons (pg_name (i := 4) sc_use_fault.nd rfl (.inl rfl)) (pgs_cons (pg_name (i := 5) sc_use_fault.nd rfl (.inl rfl)) pgs_nil)))
      (pss_cons (ps_set (i := 6) sc_use_fault.nd rfl (.inl rfl) (pe_call G_kind_fault (hr.mono (by omega)) (by rfl) g_kind_fault k_kind_fault b_kind_fault .nil pass0 (pa_cons (pv 0) (pa_cons (pv 5) (pa_cons (pe_op op_catA (pv 2) (pe_tup (pa_cons pe_int (pa_cons (pv 4) pa_nil)))) (pa_cons (pe_op op_add (pv 3) pe_int) pa_nil))))))
      (pss_one (ps_if (pt_cmpR op_notN (pv 6) pe_non (nomark _))
      (pss_one (ps_ret (pv 6))) pss_nil))))
      (pss_one (ps_ret pe_non)))), ?_⟩
    obtain ⟨tv, xs0, rfl, hs, hx⟩ := dp_tup hv
    cases hx with
    | @cons v0 _ _ _ hx0 hx1 =>
    cases hx1 with
    | @cons va _ _ _ hxa hx2 =>
    cases hx2 with
    | @cons vb _ _ _ hxb hx3 =>
    cases hx3
    generalize hrc : (fun d' p' g => kfM L.heads L.holes k d' p' (dep + 1) g : Rk) = rc at q
    refine ⟨.ref tv, rfl, tv, _, 1, va, rfl, rfl, hs, atI_nat (j := 1) rfl, va, _, _, _, isS a, rfl, .ty "str", dp_ty hxa pla, kit_ty (kS a), isS a, rfl, ?_⟩
    cases a with
    | str za =>
      have ev := dp_str hxa
      subst ev
      obtain ⟨dx, fs, e, l1, l2, l3, hl⟩ := hL.o
      refine iteF ⟨.ref tv, rfl, tv, _, 1, .str za, rfl, rfl, hs, atI_nat (j := 1) rfl, .ref lk, rfl, lk, L.C, dx, fs, _, rfl, e, hL.t.cl, hL.t.n1, l1, L.hd, _, rfl, DGet.k (k := Sum.inr za) hL.h, ?_⟩
      rw [valV_head]
      cases hm : hdLk L.heads za with
      | none =>
        have eq : usM L.heads rc (.str za) b p n = (n, some (p ++ [1], ("unknown" : Str))) := by
          show (match hdLk L.heads za with | none => _ | some m => _) = _
          rw [hm]
        rw [eq] at q
        refine ⟨_, rfl, iteT ?_⟩
        exact fa1 rfl hp (by omega) fun r H' s' d' => q r H' (hL.same s') (KBut.of s') d'
      | some m =>
        refine ⟨_, rfl, iteF ?_⟩
        have eq : usM L.heads rc (.str za) b p n = flM m rc b p n := by
          show (match hdLk L.heads za with | none => _ | some m => _) = _
          rw [hm]
        rw [eq] at q
        refine ⟨.ref tv, rfl, tv, _, 2, vb, rfl, rfl, hs, atI_nat (j := 2) rfl, .ref lk, rfl, lk, L.C, dx, fs, _, rfl, e, hL.t.cl, hL.t.n1, l1, .ref tv, rfl, tv, _, 1, .str za, rfl, rfl, hs, atI_nat (j := 1) rfl, L.hd, .int (m : Int), rfl, ?_, ?_⟩
        · have dg := DGet.k (k := Sum.inr za) hL.h
          rw [valV_head, hm] at dg
          exact dg
        refine ⟨vb, b, (m : Int), rfl, hxb, plb, tupN b (m : Int), rfl, ite2 (fun c => ?_) (fun c => ?_)⟩
        · have c' : tupN b (m : Int) = false := by simpa using c
          have eq2 : flM m rc b p n = (n, some (p ++ [2], ("fills" : Str))) := by
            cases b with
            | tuple ds =>
              refine if_neg fun z' => ?_
              have c2 : decide ((ds.length : Int) = (m : Int)) = false := c'
              rw [decide_eq_true (by rw [z'])] at c2
              cases c2
            | _ => rfl
          rw [eq2] at q
          exact fa1 rfl hp (by omega) fun r H' s' d' => q r H' (hL.same s') (KBut.of s') d'
        have c' : tupN b (m : Int) = true := by simpa using c
        cases b with
        | tuple ds =>
          have hlm : ds.length = m := by
            have c2 : (ds.length : Int) = (m : Int) := of_decide_eq_true c'
            omega
          rw [show flM m rc (.tuple ds) p n = filM rc p ds 0 n from if_pos hlm] at q
          obtain ⟨da, xs, rfl, hds, hxs⟩ := dp_tup hxb
          have hlen := dpAll_len hxs
          have plds : plA ds = true := plb
          have okds : okA ds = true := okb
          refine ⟨.ref tv, rfl, tv, _, 2, .ref da, rfl, rfl, hs, atI_nat (j := 2) rfl, da, xs, rfl, hds, for_it (EN.walk_enumT (xs := xs))
            (fun j σ H' => ∃ (x4 x5 x6 : Option V) (n' : Nat), σ = [some (.ref lk), some (.ref tv), some (.ref pa), some (.int (dep : Int)), x4, x5, x6] ∧ LkAt K L H' lk n' ∧ KBut lk H H' ∧ filM rc p ds 0 n = filM rc p (ds.drop j) j n')
            ⟨none, none, none, n, rfl, hL, KBut.refl, rfl⟩ (fun j σ H' _ hp' => ?_) (fun j v σ H' H'' hj hp' hy => ?_) (fun σ H' hp' => ?_)⟩
          · obtain ⟨_, _, _, _, _, lk', kb, _⟩ := hp'
            exact hL.ts kb _ _ hds
          · obtain ⟨x4, x5, x6, n', rfl, hL', kb, hpt⟩ := hp'
            obtain ⟨T, xi, xj, rfl, hT, rfl, hi, hxj⟩ := hy
            obtain rfl : V.int (j : Int) = xi := Option.some.inj hi
            obtain ⟨dj, edj, hdj⟩ := dpAll_get hxs hxj
            have pdj : pl dj = true := plA_mem plds (List.mem_of_getElem? edj)
            have odj : okD dj = true := okA_mem okds (List.mem_of_getElem? edj)
            have edr : ds.drop j = dj :: ds.drop (j + 1) := by
              obtain ⟨hlt, e⟩ := List.getElem?_eq_some_iff.mp edj
              rw [List.drop_eq_getElem_cons hlt, e]
            rw [edr] at hpt
            have sT : Same H' (upd H' T (.tup [.int (j : Nat), xj])) := same_upd hT
            have eT : (upd H' T (.tup [.int (j : Nat), xj])) T = some (.tup [.int (j : Nat), xj]) := upd_same
            generalize upd H' T (HO.tup [V.int (j : Nat), xj]) = H2 at sT eT ⊢
            have hL2 := hL'.same sT
            have kb2 : KBut lk H H2 := kb.trans (KBut.of sT)
            have ts2 : TS K H H2 := hL.ts kb2
            refine ⟨T, _, rfl, .inl (.inl eT), rfl, _, _, rfl, _, _, rfl, rfl, ?_⟩
            refine ⟨.ref lk, rfl, xj, rfl, .ref pa, rfl, .int (j : Int), rfl, (by show 2 ≤ sizeLine; decide), fun t1 n1 => catA_any (ts_same (same_upd n1) _ _ (ts2 _ _ hp)) (.inl (.inl upd_same)) (by rw [List.length_map]; exact Nat.le_trans (show p.length + 2 ≤ 1002 by omega) (by decide)) fun r3 H3 s3 h3 => ?_⟩
            have s23 : Same H2 H3 := (same_upd n1).trans s3
            have h3' : SqT K H3 r3 ((p ++ [2, (j : Int)]).map V.int) := by rw [List.map_append]; exact h3
            have kb3 : KBut lk H H3 := kb2.trans (KBut.of s23)
            refine ⟨.int (dep : Int), rfl, _, _, rfl, rfl, ?_⟩
            have ed1 : (dep : Int) + 1 = ((dep + 1 : Nat) : Int) := by omega
            refine ⟨L, lk, r3, xj, dj, p ++ [2, (j : Int)], dep + 1, n', (by rw [← ed1]; rfl), hL2.same s23, (hL.ts kb3).dp dj xj pdj hdj, pdj, odj, h3', (by rw [List.length_append]; show p.length + 2 + 4 * k ≤ 1000; omega), by omega, by omega, fun rA HA hLA kbA dA => ?_⟩
            have erc : kfM L.heads L.holes k dj (p ++ [2, (j : Int)]) (dep + 1) n' = rc dj (p ++ [2, (j : Int)]) n' := by rw [← hrc]
            rw [erc] at hLA dA
            have kbB : KBut lk H HA := kb3.trans kbA
            have eP : filM rc p (dj :: ds.drop (j + 1)) j n' = (match rc dj (p ++ [2, (j : Int)]) n' with
                | (f', some x) => (f', some x)
                | (f', none) => filM rc p (ds.drop (j + 1)) (j + 1) f') := rfl
            cases hrs : rc dj (p ++ [2, (j : Int)]) n' with
            | mk n2 fa =>
            rw [hrs] at hLA dA eP
            cases fa with
            | some pz =>
              obtain ⟨pp, zz⟩ := pz
              have ne : rA ≠ .non := fun z' => nomatch (non_iff dA).mp z'
              rw [hpt, eP] at q
              refine ⟨rA, rfl, rfl, _, rfl, ifNN ne ?_⟩
              exact ⟨rA, rfl, q _ _ hLA kbB dA⟩
            | none =>
              have en : rA = .non := (non_iff dA).mpr rfl
              subst en
              refine ⟨.non, rfl, rfl, _, rfl, iteF ?_⟩
              exact ⟨_, _, _, n2, rfl, hLA, kbB, hpt.trans eP⟩
          · obtain ⟨x4, x5, x6, n', rfl, hL', kb, hpt⟩ := hp'
            have ed : ds.drop xs.length = [] := List.drop_eq_nil_of_le (by omega)
            rw [ed] at hpt
            rw [hpt] at q
            exact q .non H' hL' kb .non
        | _ => cases c'
    | _ => exact iteT (fa1 rfl hp (by omega) fun r H' s' d' => q r H' (hL.same s') (KBut.of s') d')
end
end K3
namespace K3
open PySem PySem.Spec PyProof.Rows L2 K1
section
variable {P : Program} {w : World} {K : PySem.W.Frag} {mg : Str → Option Value} {base : Heap}
theorem own_none {d : PyData} {dep f f' : Nat} (h : ownM d dep f = (f', none)) : ∃ z r m, d = .tuple (.str z :: r) ∧ wlen z = some m ∧ r.length + 1 = m ∧ dep ≤ 8 ∧ f' = f + 1 := by
  unfold ownM at h
  split at h
  · rename_i z r
    split at h
    · cases h
    · rename_i m hm
      have h1 := congrArg Prod.fst h
      have h2 := congrArg Prod.snd h
      simp only at h1 h2
      split at h2
      · cases h2
      · split at h2
        · cases h2
        · split at h2
          · cases h2
          · rename_i c1 c2 c3
            exact ⟨z, r, m, rfl, hm, by simpa using c3, by omega, h1.symm⟩
  · cases h
theorem ifSN {x y : Str} {p q : Prop} (ne : x ≠ y) (h : q) : if decide (V.str x = V.str y) = true then p else q := by
  rw [decide_eq_false fun z => ne (V.str.inj z)]
  exact iteF h
theorem ifSY {x y : Str} {p q : Prop} (e : x = y) (h : p) : if decide (V.str x = V.str y) = true then p else q := by
  rw [decide_eq_true (congrArg V.str e)]
  exact iteT h
theorem in_parts (z : Str) : inV (.str z) [.str "record", .str "variant"] = true ↔ z = "record" ∨ z = "variant" := by
  have := in_strs ["record", "variant"] z
  simpa using this
theorem wlen_two {z : Str} {m : Nat} (h : wlen z = some m) (c : z ≠ "truth") (c2 : z ≠ "row") (c3 : z ≠ "use") : m = 2 := by
  unfold wlen at h
  repeat' split at h
  all_goals first | (cases h; rfl) | (cases h; contradiction) | contradiction
theorem len1 {r : List PyData} (h : r.length + 1 = 2) : ∃ a, r = [a] := by
  match r, h with
  | [a], _ => exact ⟨a, rfl⟩
theorem len2 {r : List PyData} (h : r.length + 1 = 3) : ∃ a b, r = [a, b] := by
  match r, h with
  | [a, b], _ => exact ⟨a, b, rfl⟩
theorem kfM_some {hs : List (Str × Nat)} {ho : List Str} {k dep n n1 : Nat} {d : PyData} {p : List Int} {z : Str} (h : ownM d dep n = (n1, some z)) : kfM hs ho (k + 1) d p dep n = (n1, some (p, z)) := by
  unfold kfM
  rw [h]
theorem kfM_none {hs : List (Str × Nat)} {ho : List Str} {k dep n n1 : Nat} {r : List PyData} {p : List Int} {z : Str} (h : ownM (.tuple (.str z :: r)) dep n = (n1, none)) :
    kfM hs ho (k + 1) (.tuple (.str z :: r)) p dep n = inM hs ho (fun d' p' g => kfM hs ho k d' p' (dep + 1) g) z (r.getD 0 .none) (r.getD 1 .none) p n1 := by
  conv => lhs; unfold kfM
  rw [h]
theorem nv_kind_fault {vs : List V} {H : Hp} {Q : VK} {E : XK} (h : sp_kind_fault K 0 vs H Q E) : False := by
  obtain ⟨L, lk, pa, v, d, p, dep, f, _, _, _, _, _, _, _, h1, h2, _⟩ := h
  omega
theorem ok_kind_fault {f : Addr} {fd : FuncData} (F : Fun K "kind_fault" "kind_fault" s_kind_fault f fd) (g_self : mg "kind_fault" = some (.ref f)) (b_self : Binds K fd pm_kind_fault []) (C_own_fault : Cal P w K mg base "own_fault" pm_own_fault 1 (sp_own_fault K))
    (C_is_between : Cal P w K mg base "is_between" pm_is_between 2 (sp_is_between K)) (C_is_tuple_of : Cal P w K mg base "is_tuple_of" pm_is_tuple_of 1 (sp_is_tuple_of K)) (C_name_fault : Cal P w K mg base "name_fault" pm_name_fault 2 (sp_name_fault K))
    {fp : Addr} {fdp : FuncData} (Fp : Fun K "parts_fault" "parts_fault" s_parts_fault fp fdp) (gp : mg "parts_fault" = some (.ref fp)) (kp : PySem.W.keepIn K (.ref fp) = true) (bp : Binds K fdp pm_parts_fault [])
    {fu : Addr} {fdu : FuncData} (Fu : Fun K "use_fault" "use_fault" s_use_fault fu fdu) (gu : mg "use_fault" = some (.ref fu)) (ku : PySem.W.keepIn K (.ref fu) = true) (bu : Binds K fdu pm_use_fault [])
    (m_isinstance : mg "isinstance" = none) (m_tuple : mg "tuple" = none) (m_len : mg "len" = none) (m_enumerate : mg "enumerate" = none) (m_str : mg "str" = none) {t_MOST_PARTS t_MOST_MANY t_MOST_BITS : Nat} (g_MOST_PARTS : mg "MOST_PARTS" = some (.int 8 t_MOST_PARTS))
    (g_MOST_MANY : mg "MOST_MANY" = some (.int 16 t_MOST_MANY)) (g_MOST_BITS : mg "MOST_BITS" = some (.int 64 t_MOST_BITS)) {a_PART_WORDS : Addr} (g_PART_WORDS : mg "PART_WORDS" = some (.ref a_PART_WORDS)) (h_PART_WORDS : ∀ H : Hp, SqT K H a_PART_WORDS [.str "record", .str "variant"]) :
    ∀ k : Nat, FnOk P w K mg base CX0 (4 * k + 3) f fd pm_kind_fault (sp_kind_fault K k) := by
  obtain ⟨f_own_fault, fd_own_fault, G_own_fault, g_own_fault, k_own_fault, b_own_fault⟩ := C_own_fault.ex
  obtain ⟨f_is_between, fd_is_between, G_is_between, g_is_between, k_is_between, b_is_between⟩ := C_is_between.ex
  intro k
  induction k with
  | zero => exact F.ok (k := 2) sc_kind_fault (fun vs H Q E h => (nv_kind_fault h).elim) (fun cdv A outer s H vs Q E hr h => (nv_kind_fault h).elim)
  | succ k ih =>
  have C_self : Cal P w K mg base "kind_fault" pm_kind_fault (4 * k + 3) (sp_kind_fault K k) := ⟨f, fd, ih, g_self, F.kp, b_self⟩
  have C_parts_fault : Cal P w K mg base "parts_fault" pm_parts_fault (4 * k + 3 + 3) (sp_parts_fault K k) := ⟨_, _, ok_parts_fault Fp C_is_tuple_of C_name_fault C_self m_isinstance m_tuple m_len m_enumerate g_MOST_PARTS, gp, kp, bp⟩
  have C_use_fault : Cal P w K mg base "use_fault" pm_use_fault (4 * k + 3 + 3) (sp_use_fault K k) := ⟨_, _, ok_use_fault Fu C_is_tuple_of C_self m_isinstance m_str m_enumerate, gu, ku, bu⟩
  obtain ⟨f_parts_fault, fd_parts_fault, G_parts_fault, g_parts_fault, k_parts_fault, b_parts_fault⟩ := C_parts_fault.ex
  obtain ⟨f_use_fault, fd_use_fault, G_use_fault, g_use_fault, k_use_fault, b_use_fault⟩ := C_use_fault.ex
  refine F.ok (k := 4 * k + 6) sc_kind_fault (fun vs H Q E h => ?_) (fun cdv A outer s H vs Q E hr h => ?_)
  · obtain ⟨L, lk, pa, v, d, p, dep, f, rfl, _⟩ := h
    rfl
  · obtain ⟨L, lk, pa, v, d, p, dep, n, rfl, hL, hv, pd, od, hp, hpl, hdep, hk, q⟩ := h
    refine ⟨_, pss_cons (ps_set (i := 4) sc_kind_fault.nd rfl (.inl rfl) (pe_call G_own_fault (hr.mono (by omega)) (by rfl) g_own_fault k_own_fault b_own_fault .nil pass0 (pa_cons (pv 0) (pa_cons (pv 1) (pa_cons (pv 3) pa_nil)))))
      (pss_cons (ps_if (pt_cmpR op_notN (pv 4) pe_non (nomark _))
      (pss_one (ps_ret (pe_tup (pa_cons (pv 2) (pa_cons (pv 4) pa_nil))))) pss_nil)
      (pss_cons (ps_set (i := 5) sc_kind_fault.nd rfl (.inl rfl) (pe_ix ix_tup (pv 1) pe_int (fun _ _ => rfl)))
      (pss_cons (ps_if (pt_cmpR op_in_seq (pv 5) (pe_glob (v := .ref a_PART_WORDS) (by rfl) g_PART_WORDS rfl) (by rfl))
      (pss_one (ps_ret (pe_call G_parts_fault (hr.mono (by omega)) (by rfl) g_parts_fault k_parts_fault b_parts_fault .nil pass0 (pa_cons (pv 0) (pa_cons (pv 1) (pa_cons (pv 2) (pa_cons (pv 3) pa_nil))))))) pss_nil)
      (pss_cons (ps_if (pt_cmpR op_eq (pv 5) pe_str (nomark _))
      (pss_one (ps_ret (pe_call G_use_fault (hr.mono (by omega)) (by rfl) g_use_fault k_use_fault b_use_fault .nil pass0 (pa_cons (pv 0) (pa_cons (pv 1) (pa_cons (pv 2) (pa_cons (pv 3) pa_nil))))))) pss_nil)
      (pss_cons (ps_if (pt_cmpR op_eq (pv 5) pe_str (nomark _))
      (pss_cons (ps_if (pt_not (pt_val (pe_call G_is_between (hr.mono (by omega)) (by rfl) g_is_between k_is_between b_is_between .nil pass0 (pa_cons (pe_ix ix_tup (pv 1) pe_int (fun _ _ => rfl)) (pa_cons pe_int (pa_cons (pe_glob (v := .int 16) (by rfl) g_MOST_MANY ⟨_, rfl⟩) pa_nil))))))
      (pss_one (ps_ret (pe_tup (pa_cons (pe_op op_catA (pv 2) (pe_tup (pa_cons pe_int pa_nil))) (pa_cons pe_str pa_nil))))) pss_nil)
      (pss_one (ps_ret (pe_call ih (hr.mono (by omega)) (by rfl) g_self F.kp b_self .nil pass0 (pa_cons (pv 0) (pa_cons (pe_ix ix_tup (pv 1) pe_int (fun _ _ => rfl)) (pa_cons (pe_op op_catA (pv 2) (pe_tup (pa_cons pe_int pa_nil))) (pa_cons (pe_op op_add (pv 3) pe_int) pa_nil)))))))) pss_nil)
      (pss_cons (ps_if (PW.pt (pw_or (pt_cmpR op_eq (pv 5) pe_str (nomark _)) (pw_or1 (pt_cmpR op_eq (pv 5) pe_str (nomark _)))))
      (pss_one (ps_ret (pe_call ih (hr.mono (by omega)) (by rfl) g_self F.kp b_self .nil pass0 (pa_cons (pv 0) (pa_cons (pe_ix ix_tup (pv 1) pe_int (fun _ _ => rfl)) (pa_cons (pe_op op_catA (pv 2) (pe_tup (pa_cons pe_int pa_nil))) (pa_cons (pe_op op_add (pv 3) pe_int) pa_nil))))))) pss_nil)
      (pss_cons (ps_if (pt_cmpR op_eq (pv 5) pe_str (nomark _))
      (pss_cons (ps_set (i := 6) sc_kind_fault.nd rfl (.inl rfl) (pe_and (pe_callB call_isi (by rfl) m_isinstance (by decide +kernel) (pa_cons (pe_ix ix_tup (pv 1) pe_int (fun _ _ => rfl)) (pa_cons (pe_bltn (v := .ty "str") (by rfl) m_str (show bootBuiltins "str" = some (.type "str") by decide +kernel) rfl) pa_nil))) (pe_one (pe_cmpR op_in_seq (pe_ix ix_tup (pv 1) pe_int (fun _ _ => rfl)) (pe_fld (pv 0) rfl) (by rfl)))))
      (pss_one (ps_ret (pe_ifExp (pt_val (pv 6)) pe_non (pe_tup (pa_cons (pe_op op_catA (pv 2) (pe_tup (pa_cons pe_int pa_nil))) (pa_cons pe_str pa_nil))))))) pss_nil)
      (pss_cons (ps_if (PW.pt (pw_or (pt_cmpR op_eq (pv 5) pe_str (nomark _)) (pw_or1 (pt_val (pe_call G_is_between (hr.mono (by omega)) (by rfl) g_is_between k_is_between b_is_between .nil pass0 (pa_cons (pe_ix ix_tup (pv 1) pe_int (fun _ _ => rfl)) (pa_cons pe_int (pa_cons (pe_glob (v := .int 64) (by rfl) g_MOST_BITS ⟨_, rfl⟩) pa_nil))))))))
      (pss_one (ps_ret pe_non)) pss_nil)
      (pss_one (ps_ret (pe_tup (pa_cons (pe_op op_catA (pv 2) (pe_tup (pa_cons pe_int pa_nil))) (pa_cons pe_str pa_nil))))))))))))), ?_⟩
    refine ⟨.ref lk, rfl, v, rfl, .int (dep : Int), rfl, L, lk, v, d, dep, n, rfl, hL, hv, pd, fun H1 hL1 kb1 => ?_⟩
    have ts1 := hL.ts kb1
    have hp1 := ts1 _ _ hp
    cases ho : ownM d dep n with
    | mk n1 wo =>
    rw [ho] at hL1
    cases wo with
    | some zz =>
      rw [kfM_some ho] at q
      refine ⟨.str zz, rfl, rfl, _, rfl, ifNN (fun z' => nomatch z') ?_⟩
      refine ⟨.ref pa, rfl, .str zz, rfl, (by show 2 ≤ sizeLine; decide), fun t2 n2 => q _ _ (hL1.same (same_upd n2)) (kb1.trans (KBut.of (same_upd n2))) ?_⟩
      exact dp_faP (ts_same (same_upd n2) _ _ hp1) upd_same
    | none =>
    obtain ⟨z, r, m, rfl, hw, hrl, hd8, rfl⟩ := own_none ho
    rw [kfM_none ho] at q
    refine ⟨.non, rfl, rfl, _, rfl, iteF ?_⟩
    obtain ⟨tv, xs0, rfl, hs, hx⟩ := dp_tup (ts1.dp _ _ pd hv)
    cases hx with
    | @cons v0 vr _ _ hx0 hxr =>
    have ev := dp_str hx0
    subst ev
    have plr : ∀ x ∈ r, pl x = true := fun x hx => plA_mem (show plA (.str z :: r) = true from pd) (List.mem_cons_of_mem _ hx)
    have okr : ∀ x ∈ r, okD x = true := fun x hx => okA_mem (show okA (.str z :: r) = true from od) (List.mem_cons_of_mem _ hx)
    generalize hrc : (fun d' p' g => kfM L.heads L.holes k d' p' (dep + 1) g : Rk) = rc at q
    refine ⟨.ref tv, rfl, tv, _, 0, .str z, rfl, rfl, hs, atI_nat (j := 0) rfl, ?_⟩
    refine ⟨.str z, rfl, a_PART_WORDS, _, rfl, .inr (h_PART_WORDS H1), rfl, rfl, _, rfl, ite2 (fun c => ?_) (fun c => ?_)⟩
    · have hz := (in_parts z).mp c
      have hne : z ≠ "truth" ∧ z ≠ "row" ∧ z ≠ "use" := by rcases hz with rfl | rfl <;> decide
      have hm2 := wlen_two hw hne.1 hne.2.1 hne.2.2
      subst hm2
      obtain ⟨a, rfl⟩ := len1 hrl
      have ein : inM L.heads L.holes rc z ([a].getD 0 .none) ([a].getD 1 .none) p (n + 1) = paM (if z = "variant" then 1 else 0) rc a p (n + 1) := by
        rcases hz with rfl | rfl <;> rfl
      rw [ein] at q
      refine ⟨.ref lk, rfl, .ref tv, rfl, .ref pa, rfl, .int (dep : Int), rfl, L, lk, pa, .ref tv, z, a, p, dep, n + 1, rfl, hL1, hz, .tup hs (.cons (.str z) hxr), plr a (List.mem_cons_self ..), okr a (List.mem_cons_self ..), hp1, by omega, hd8, by omega, ?_⟩
      rw [hrc]
      exact fun r' H' h1 h2 h3 => q r' H' h1 (kb1.trans h2) h3
    have nz : ¬ (z = "record" ∨ z = "variant") := fun z' => c ((in_parts z).mpr z')
    have c1 : z ≠ "record" := fun z' => nz (.inl z')
    have c2 : z ≠ "variant" := fun z' => nz (.inr z')
    by_cases c3 : z = "use"
    · subst c3
      obtain rfl : 3 = m := Option.some.inj hw
      obtain ⟨a, b, rfl⟩ := len2 hrl
      have ein : inM L.heads L.holes rc "use" ([a, b].getD 0 .none) ([a, b].getD 1 .none) p (n + 1) = usM L.heads rc a b p (n + 1) := rfl
      rw [ein] at q
      refine ⟨.str "use", rfl, rfl, _, rfl, ifSY rfl ?_⟩
      refine ⟨.ref lk, rfl, .ref tv, rfl, .ref pa, rfl, .int (dep : Int), rfl, L, lk, pa, .ref tv, "use", a, b, p, dep, n + 1, rfl, hL1, .tup hs (.cons (.str _) hxr), plr a (by simp), okr a (by simp), plr b (by simp), okr b (by simp), hp1, by omega, hd8, by omega, ?_⟩
      rw [hrc]
      exact fun r' H' h1 h2 h3 => q r' H' h1 (kb1.trans h2) h3
    refine ⟨.str z, rfl, rfl, _, rfl, ifSN c3 ?_⟩
    by_cases c4 : z = "row"
    · subst c4
      obtain rfl : 3 = m := Option.some.inj hw
      obtain ⟨a, b, rfl⟩ := len2 hrl
      have ein : inM L.heads L.holes rc "row" ([a, b].getD 0 .none) ([a, b].getD 1 .none) p (n + 1) = (if btw a 1 16 = true then rc b (p ++ [2]) (n + 1) else (n + 1, some (p ++ [1], ("many" : Str)))) := rfl
      rw [ein] at q
      refine ⟨.str "row", rfl, rfl, _, rfl, ifSY rfl ?_⟩
      cases hxr with
      | @cons va _ _ _ hxa hx2 =>
      cases hx2 with
      | @cons vb _ _ _ hxb hx3 =>
      cases hx3
      have pa0 := plr a (by simp)
      refine ⟨.ref tv, rfl, tv, _, 1, va, rfl, rfl, hs, atI_nat (j := 1) rfl, va, a, 1, 16, rfl, hxa, pa0, btw a 1 16, rfl, ite2 (fun c5 => ?_) (fun c5 => ?_)⟩
      · have c5' : btw a 1 16 = false := by simpa using c5
        rw [if_neg (by rw [c5']; decide)] at q
        exact fa1 rfl hp1 (by omega) fun r H' s' d' => q r H' (hL1.same s') (kb1.trans (KBut.of s')) d'
      · have c5' : btw a 1 16 = true := by simpa using c5
        rw [if_pos c5'] at q
        refine ⟨.ref lk, rfl, .ref tv, rfl, tv, _, 2, vb, rfl, rfl, hs, atI_nat (j := 2) rfl, .ref pa, rfl, (by show 1 ≤ sizeLine; decide), fun t8 n8 => catA_any (ts_same (same_upd n8) _ _ hp1) (.inl (.inl upd_same)) (by rw [List.length_map]; exact Nat.le_trans (show p.length + 1 ≤ 1001 by omega) (by decide)) fun r9 H9 s9 h9 => ?_⟩
        have s19 : Same H1 H9 := (same_upd n8).trans s9
        have h9' : SqT K H9 r9 ((p ++ [2]).map V.int) := by rw [List.map_append]; exact h9
        refine ⟨.int (dep : Int), rfl, _, _, rfl, rfl, ?_⟩
        have ed1 : (dep : Int) + 1 = ((dep + 1 : Nat) : Int) := by omega
        refine ⟨L, lk, r9, vb, b, p ++ [2], dep + 1, n + 1, (by rw [← ed1]; rfl), hL1.same s19, (ts_same s19).dp b vb (plr b (by simp)) hxb, plr b (by simp), okr b (by simp), h9', (by rw [List.length_append]; show p.length + 1 + 4 * k ≤ 1000; omega), by omega, by omega, ?_⟩
        have erc : kfM L.heads L.holes k b (p ++ [2]) (dep + 1) (n + 1) = rc b (p ++ [2]) (n + 1) := by rw [← hrc]
        rw [erc]
        exact fun r' H' h1 h2 h3 => q r' H' h1 ((kb1.trans (KBut.of s19)).trans h2) h3
    refine ⟨.str z, rfl, rfl, _, rfl, ifSN c4 ?_⟩
    by_cases c6 : z = "truth"
    · subst c6
      have ein : inM L.heads L.holes rc "truth" (r.getD 0 .none) (r.getD 1 .none) p (n + 1) = (n + 1, none) := rfl
      rw [ein] at q
      refine ⟨.str "truth", rfl, rfl, _, rfl, ifSN (by decide) ⟨.str "truth", rfl, rfl, _, rfl, ifSN (by decide) ?_⟩⟩
      refine ⟨.str "truth", rfl, rfl, _, rfl, ifSN (by decide) ?_⟩
      refine ⟨.str "truth", rfl, rfl, _, rfl, ifSY rfl ?_⟩
      exact q .non H1 hL1 kb1 .non
    have hm2 := wlen_two hw c6 c4 c3
    subst hm2
    obtain ⟨a, rfl⟩ := len1 hrl
    cases hxr with
    | @cons va _ _ _ hxa hx2 =>
    cases hx2
    have pa0 := plr a (by simp)
    have oa0 := okr a (by simp)
    by_cases c7 : z = "maybe" ∨ z = "box"
    · have ein : inM L.heads L.holes rc z ([a].getD 0 .none) ([a].getD 1 .none) p (n + 1) = rc a (p ++ [1]) (n + 1) := by
        rcases c7 with rfl | rfl <;> rfl
      rw [ein] at q
      have tail : tRet (tCall (sp_kind_fault K k) [] E0 (tCons (tVar 0) (tCons (tOp (rIxT K) (tVar 1) (tC (V.int 1))) (tCons (tOp (rCatA K) (tVar 2) (tTup (tCons (tC (V.int 1)) tNil))) (tCons (tOp (rI0 fun i j => V.int (i + j)) (tVar 3) (tC (V.int 1))) tNil)))))
          { nx := fun _ H' => Q .non H', rt := Q } [some (.ref lk), some (.ref tv), some (.ref pa), some (.int (dep : Int)), some .non, some (.str z), none] H1 := by
        refine ⟨.ref lk, rfl, .ref tv, rfl, tv, _, 1, va, rfl, rfl, hs, atI_nat (j := 1) rfl, .ref pa, rfl, (by show 1 ≤ sizeLine; decide), fun t8 n8 => catA_any (ts_same (same_upd n8) _ _ hp1) (.inl (.inl upd_same)) (by rw [List.length_map]; exact Nat.le_trans (show p.length + 1 ≤ 1001 by omega) (by decide)) fun r9 H9 s9 h9 => ?_⟩
        have s19 : Same H1 H9 := (same_upd n8).trans s9
        have h9' : SqT K H9 r9 ((p ++ [1]).map V.int) := by rw [List.map_append]; exact h9
        refine ⟨.int (dep : Int), rfl, _, _, rfl, rfl, ?_⟩
        have ed1 : (dep : Int) + 1 = ((dep + 1 : Nat) : Int) := by omega
        refine ⟨L, lk, r9, va, a, p ++ [1], dep + 1, n + 1, (by rw [← ed1]; rfl), hL1.same s19, (ts_same s19).dp a va pa0 hxa, pa0, oa0, h9', (by rw [List.length_append]; show p.length + 1 + 4 * k ≤ 1000; omega), by omega, by omega, ?_⟩
        have erc : kfM L.heads L.holes k a (p ++ [1]) (dep + 1) (n + 1) = rc a (p ++ [1]) (n + 1) := by rw [← hrc]
        rw [erc]
        exact fun r' H' h1 h2 h3 => q r' H' h1 ((kb1.trans (KBut.of s19)).trans h2) h3
      by_cases c8 : z = "maybe"
      · exact ⟨.str z, rfl, rfl, _, rfl, ifSY c8 tail⟩
      · exact ⟨.str z, rfl, rfl, _, rfl, ifSN c8 ⟨.str z, rfl, rfl, _, rfl, ifSY (c7.resolve_left c8) tail⟩⟩
    have c8 : z ≠ "maybe" := fun z' => c7 (.inl z')
    have c9 : z ≠ "box" := fun z' => c7 (.inr z')
    refine ⟨.str z, rfl, rfl, _, rfl, ifSN c8 ⟨.str z, rfl, rfl, _, rfl, ifSN c9 ?_⟩⟩
    by_cases c10 : z = "hole"
    · subst c10
      have ein : inM L.heads L.holes rc "hole" ([a].getD 0 .none) ([a].getD 1 .none) p (n + 1) = (n + 1, if holB L.holes a = true then none else some (p ++ [1], ("hole" : Str))) := rfl
      rw [ein] at q
      refine ⟨.str "hole", rfl, rfl, _, rfl, ifSY rfl ?_⟩
      refine ⟨.ref tv, rfl, tv, _, 1, va, rfl, rfl, hs, atI_nat (j := 1) rfl, va, _, _, _, isS a, rfl, .ty "str", dp_ty hxa pa0, kit_ty (kS a), isS a, rfl, ?_⟩
      -- behind the truth
      have ends : ∀ b : Bool, b = holB L.holes a → (if b = true then tC V.non [some (.ref lk), some (.ref tv), some (.ref pa), some (.int (dep : Int)), some .non, some (.str "hole"), some (.bl b)] H1 Q
          else tTup (tCons (tOp (rCatA K) (tVar 2) (tTup (tCons (tC (.int 1)) tNil))) (tCons (tC (.str "hole")) tNil)) [some (.ref lk), some (.ref tv), some (.ref pa), some (.int (dep : Int)), some .non, some (.str "hole"), some (.bl b)] H1 Q) := by
        intro b hb
        cases b with
        | true =>
          rw [if_pos hb.symm] at q
          exact iteT (q .non H1 hL1 kb1 .non)
        | false =>
          rw [if_neg (by rw [← hb]; decide)] at q
          exact iteF (fa1 rfl hp1 (by omega) fun r H' s' d' => q r H' (hL1.same s') (kb1.trans (KBut.of s')) d')
      cases a with
      | str za =>
        have ev := dp_str hxa
        subst ev
        obtain ⟨dx, fs, e, l1, l2, l3, hl⟩ := hL1.o
        refine iteT ⟨.ref tv, rfl, tv, _, 1, .str za, rfl, rfl, hs, atI_nat (j := 1) rfl, .ref lk, rfl, lk, L.C, dx, fs, _, rfl, e, hL1.t.cl, hL1.t.n2, l2, L.ho, _, rfl, .inr hL1.s, rfl, strs_flat _, .bl (inV (.str za) (L.holes.map V.str)), rfl, _, rfl, ends _ ?_⟩
        show _ = decide (za ∈ L.holes)
        by_cases c : za ∈ L.holes
        · rw [decide_eq_true c, (in_strs L.holes za).mpr c]
        · rw [decide_eq_false c, Bool.eq_false_iff.mpr fun z' => c ((in_strs L.holes za).mp z')]
      | _ => exact iteF ⟨.bl false, rfl, _, rfl, ends false rfl⟩
    have ein : inM L.heads L.holes rc z ([a].getD 0 .none) ([a].getD 1 .none) p (n + 1) = (n + 1, if btw a 1 64 = true then none else some (p ++ [1], ("bits" : Str))) := by
      unfold inM
      rw [if_neg c1, if_neg c2, if_neg c3, if_neg c4, if_neg c7, if_neg c10, if_neg c6]
      rfl
    rw [ein] at q
    refine ⟨.str z, rfl, rfl, _, rfl, ifSN c10 ?_⟩
    refine ⟨.str z, rfl, rfl, _, rfl, ifSN c6 ?_⟩
    refine ⟨.ref tv, rfl, tv, _, 1, va, rfl, rfl, hs, atI_nat (j := 1) rfl, va, a, 1, 64, rfl, hxa, pa0, btw a 1 64, rfl, ite2 (fun c11 => ?_) (fun c11 => ?_)⟩
    · rw [if_pos c11] at q
      exact q .non H1 hL1 kb1 .non
    · rw [if_neg c11] at q
      exact fa1 rfl hp1 (by omega) fun r H' s' d' => q r H' (hL1.same s') (kb1.trans (KBut.of s')) d'
end
end K3
namespace K3
open PySem PySem.Spec PyProof.Rows L2 K1
abbrev s_LookI : Stmt := inClass (topS 23) 0
abbrev pm_LookI : List Str := ["self", "heads", "holes"]
theorem sc_LookI : FnScope pm_LookI pm_LookI (defScope s_LookI) := ⟨rfl, rfl, rfl, by decide +kernel, rfl, by decide +kernel, by decide +kernel⟩
abbrev s_heads_of : Stmt := topS 31
abbrev nm_heads_of : List Str := ["book", "name", "holes", "kind"]
abbrev pm_heads_of : List Str := ["book"]
theorem sc_heads_of : FnScope nm_heads_of pm_heads_of (defScope s_heads_of) := ⟨rfl, rfl, rfl, by decide +kernel, rfl, by decide +kernel, by decide +kernel⟩
abbrev s_head_fault : Stmt := topS 30
abbrev nm_head_fault : List Str := ["earlier", "thing", "number", "fault", "holes", "at", "hole"]
abbrev pm_head_fault : List Str := ["earlier", "thing", "number"]
theorem sc_head_fault : FnScope nm_head_fault pm_head_fault (defScope s_head_fault) := ⟨rfl, rfl, rfl, by decide +kernel, rfl, by decide +kernel, by decide +kernel⟩
abbrev s_bookfault : Stmt := topS 32
abbrev nm_bookfault : List Str := ["thing", "names", "number", "row", "fault", "heads"]
abbrev pm_bookfault : List Str := ["thing"]
theorem sc_bookfault : FnScope nm_bookfault pm_bookfault (defScope s_bookfault) := ⟨rfl, rfl, rfl, by decide +kernel, rfl, by decide +kernel, by decide +kernel⟩
abbrev s_closed_fault : Stmt := topS 33
abbrev nm_closed_fault : List Str := ["book", "thing"]
abbrev pm_closed_fault : List Str := ["book", "thing"]
theorem sc_closed_fault : FnScope nm_closed_fault pm_closed_fault (defScope s_closed_fault) := ⟨rfl, rfl, rfl, by decide +kernel, rfl, by decide +kernel, by decide +kernel⟩
abbrev s_formfault : Stmt := topS 34
abbrev nm_formfault : List Str := ["book", "thing"]
abbrev pm_formfault : List Str := ["book", "thing"]
theorem sc_formfault : FnScope nm_formfault pm_formfault (defScope s_formfault) := ⟨rfl, rfl, rfl, by decide +kernel, rfl, by decide +kernel, by decide +kernel⟩
section
variable {P : Program} {w : World} {K : PySem.W.Frag} {mg : Str → Option Value} {base : Heap}
def sp_LookI (K : PySem.W.Frag) (C : Addr) : Sp := fun vs H Q _ => ∃ (x dx hd ho : Addr) (heads : List (Str × Nat)) (holes : List Str), vs = [.ref x, .ref hd, .ref ho] ∧ H x = some (.ins C dx []) ∧ H hd = some (.dK (headK heads)) ∧ SqT K H ho (holes.map V.str) ∧
  ∀ H', LkAt K ⟨C, hd, ho, heads, holes⟩ H' x 0 → KBut x H H' → Q .non H'
theorem ok_LookI {f C : Addr} {fd : FuncData} (F : Fun K "__init__" "Look.__init__" s_LookI f fd) (T : LkT K C) : FnOk P w K mg base CX0 1 f fd pm_LookI (sp_LookI K C) := by
  refine F.ok sc_LookI (fun vs H Q E h => ?_) (fun cdv A outer s H vs Q E hr h => ?_)
  · obtain ⟨x, dx, hd, ho, heads, holes, rfl, _⟩ := h
    rfl
  · obtain ⟨x, dx, hd, ho, heads, holes, rfl, hx, hh, hs, q⟩ := h
    refine ⟨_, pss_cons (ps_fld (pv 0) (pv 1) rfl) (pss_cons (ps_fld (pv 0) (pv 2) rfl) (pss_one (ps_fld (pv 0) pe_int rfl))), ?_⟩
    refine ⟨.ref hd, rfl, .ref x, rfl, x, C, dx, [], rfl, hx, T.cl, T.n1, (by show 0 < 1000; decide), ?_⟩
    refine ⟨.ref ho, rfl, .ref x, rfl, x, C, dx, _, rfl, upd_same, T.cl, T.n2, (by show 1 < 1000; decide), ?_⟩
    refine ⟨.ref x, rfl, x, C, dx, _, rfl, upd_same, T.cl, T.n3, ?_, ?_⟩
    · exact Nat.lt_of_le_of_lt (length_putF _ _ _) (by show 1 + 1 < 1000; decide)
    have k : KBut x H (upd (upd (upd H x (.ins C dx (putF "heads" (.ref hd) []))) x (.ins C dx (putF "holes" (.ref ho) (putF "heads" (.ref hd) [])))) x (.ins C dx (putF "forms" (.int 0) (putF "holes" (.ref ho) (putF "heads" (.ref hd) []))))) := fun b o nb e => by
      rw [upd_ne nb, upd_ne nb, upd_ne nb]
      exact e
    refine q _ ⟨T, ⟨dx, _, upd_same, ?_, ?_, ?_, ?_⟩, k _ _ ?_ hh, ?_⟩ k
    · rw [lookup_putF, if_neg (by decide), lookup_putF, if_neg (by decide), lookup_putF, if_pos rfl]
    · rw [lookup_putF, if_neg (by decide), lookup_putF, if_pos rfl]
    · rw [lookup_putF, if_pos rfl]; rfl
    · exact Nat.le_trans (length_putF _ _ _) (Nat.succ_le_succ (Nat.le_trans (length_putF _ _ _) (by show 1 + 1 ≤ 9; decide)))
    · show hd ≠ x
      intro z'
      rw [z', hx] at hh
      cases hh
    · have ne : ∀ b o, H b = some o → (∀ C dx fs, o ≠ .ins C dx fs) → b ≠ x := fun b o eb nl z' => by
        rw [z', hx] at eb
        exact nl _ _ _ (Option.some.inj eb).symm
      rcases hs with (h | ⟨o, h⟩) | h
      · exact .inl (.inl (k _ _ (ne _ _ h fun _ _ _ z => nomatch z) h))
      · exact .inl (.inr ⟨o, k _ _ (ne _ _ h fun _ _ _ z => nomatch z) h⟩)
      · exact .inr h
def rLenQ (K : PySem.W.Frag) : List V → Hp → VK → Prop := fun xs H Q => ∃ p ys, xs = [.ref p] ∧ (SqL K H p ys ∨ SqT K H p ys) ∧ Q (.int ys.length) H
/-- of an empty book -/
def sp_heads_of (K : PySem.W.Frag) : Sp := fun vs H Q _ => ∃ b : Addr, vs = [.ref b] ∧ SqT K H b [] ∧ ∀ (r : Addr) (H' : Hp), Same H H' → H' r = some (.dK (headK [])) → Q (.ref r) H'
theorem ok_heads_of {f : Addr} {fd : FuncData} (F : Fun K "heads_of" "heads_of" s_heads_of f fd) (m_len : mg "len" = none) : FnOk P w K mg base CX0 1 f fd pm_heads_of (sp_heads_of K) := by
  refine F.ok sc_heads_of (fun vs H Q E h => ?_) (fun cdv A outer s H vs Q E hr h => ?_)
  · obtain ⟨b, rfl, _⟩ := h
    rfl
  · obtain ⟨b, rfl, hb, q⟩ := h
    refine ⟨_, pss_one (ps_ret (pe_dc (own := [("name", 1), ("holes", 2), ("kind", 3)]) (g := gTup K 3 (gCons (gName 1) (gCons (gName 2) (gCons (gName 3) gNil)))) (tt := tYes) rfl sc_heads_of.nd (pi_tup (pv 0)) (blkOk_by (N := nm_heads_of) (sc := defScope s_heads_of) (by decide +kernel)) (fun _ _ _ _ _ => pg_tup (by rfl) (pgs_cons (pg_name (i := 1) sc_heads_of.nd rfl (Or.inl rfl)) (pgs_cons (pg_name (i := 2) sc_heads_of.nd rfl (Or.inl rfl)) (pgs_cons (pg_name (i := 3) sc_heads_of.nd rfl (Or.inl rfl)) pgs_nil)))) (fun _ _ _ _ _ => pts_nil) (fun _ _ _ _ _ => (pv 1)) (fun _ _ _ _ _ => (pe_callB (show CallR _ (.builtin "len") (rLenQ K) from call_len_seq) (by rfl) m_len PySem.boot_len (pa_cons (pv 2) pa_nil))))), ?_⟩
    refine ⟨.ref b, rfl, b, rfl, ⟨_, hb⟩, fun D hD => ⟨fun i m H' => i = 0 ∧ m = 0 ∧ H' = upd H D (.dK []), ⟨0, rfl, rfl, rfl⟩, fun i m H' hp => .inl ?_⟩⟩
    obtain ⟨rfl, rfl, rfl⟩ := hp
    exact ⟨⟨[], ts_new hD _ _ hb, Nat.le_refl _⟩, q D _ (same_upd hD) upd_same⟩
/-- never called here -/
def sp_head_fault (K : PySem.W.Frag) : Sp := fun _ _ _ _ => False
theorem ok_head_fault {f : Addr} {fd : FuncData} : FnOk P w K mg base CX0 1 f fd pm_head_fault (sp_head_fault K) := ⟨fun _ _ _ _ h => h.elim, fun _ _ _ _ _ _ _ _ _ _ _ _ _ h => h.elim⟩
def sp_closed_fault (K : PySem.W.Frag) : Sp := fun vs H Q _ => ∃ (b : Addr) (v : V) (d : PyData), vs = [.ref b, v] ∧ SqT K H b [] ∧ Dp K H v d ∧ pl d = true ∧ okD d = true ∧ ∀ r H', Same H H' → Dp K H' r (resD (kfM [] [] 10 d [] 1 0).2) → Q r H'
theorem ok_closed_fault {f : Addr} {fd : FuncData} (F : Fun K "closed_fault" "closed_fault" s_closed_fault f fd) (C_kind_fault : Cal P w K mg base "kind_fault" pm_kind_fault 43 (sp_kind_fault K 10)) (C_heads_of : Cal P w K mg base "heads_of" pm_heads_of 1 (sp_heads_of K)) {C_Look fI : Addr} {fdI : FuncData} (M_Look : Mk K C_Look fI) (G_Look : FnOk P w K mg base CX0 1 fI fdI pm_LookI (sp_LookI K C_Look)) (g_Look : mg "Look" = some (.ref C_Look)) (b_Look : Binds K fdI pm_LookI []) : FnOk P w K mg base CX0 44 f fd pm_closed_fault (sp_closed_fault K) := by
  obtain ⟨f_kind_fault, fd_kind_fault, G_kind_fault, g_kind_fault, k_kind_fault, b_kind_fault⟩ := C_kind_fault.ex
  obtain ⟨f_heads_of, fd_heads_of, G_heads_of, g_heads_of, k_heads_of, b_heads_of⟩ := C_heads_of.ex
  refine F.ok sc_closed_fault (fun vs H Q E h => ?_) (fun cdv A outer s H vs Q E hr h => ?_)
  · obtain ⟨b, v, d, rfl, _⟩ := h
    rfl
  · obtain ⟨b, v, d, rfl, hb, hv, pd, od, q⟩ := h
    have rm : ∀ {j : Nat}, j ≤ 43 → Room j (A.deeper (envOfC "closed_fault" (defScope s_closed_fault) s.heap.objs.size f cdv)) := fun hj => hr.mono hj
    refine ⟨_, pss_one (ps_ret (pe_call G_kind_fault (rm (by decide)) (by rfl) g_kind_fault k_kind_fault b_kind_fault .nil pass0 (pa_cons (pe_make M_Look G_Look (rm (by decide)) (by rfl) g_Look b_Look .nil pass0 (pa_cons (pe_call G_heads_of (rm (by decide)) (by rfl) g_heads_of k_heads_of b_heads_of .nil pass0 (pa_cons (pv 0) pa_nil)) (pa_cons (pe_tup pa_nil) pa_nil))) (pa_cons (pv 1) (pa_cons (pe_tup pa_nil) (pa_cons pe_int pa_nil)))))), ?_⟩
    refine ⟨.ref b, rfl, b, rfl, hb, fun r1 H1 s1 h1 => ⟨Nat.zero_le _, fun t nt => ?_⟩⟩
    have s2 : Same H1 (upd H1 t (.tup [])) := same_upd nt
    have e2 : (upd H1 t (.tup [])) t = some (.tup []) := upd_same
    generalize upd H1 t (HO.tup []) = H2 at s2 e2 ⊢
    intro x dx nx ndx nex
    have s3 : Same H2 (upd (upd H2 dx (.own x)) x (.ins C_Look dx [])) := fun b' o e => by
      rw [upd_ne (ne_of_none e nx), upd_ne (ne_of_none e ndx)]
      exact e
    refine ⟨x, dx, r1, t, [], [], rfl, upd_same, s3 _ _ (s2 _ _ h1), .inl (.inl (s3 _ _ e2)), fun H3 hL3 kb3 => ⟨rfl, ?_⟩⟩
    refine ⟨v, rfl, Nat.zero_le _, fun t2 n2 => ?_⟩
    have k3 : Same H2 (upd H3 t2 (.tup [])) := fun b' o e => same_upd n2 _ _ (kb3 b' o (ne_of_none e nx) (s3 b' o e))
    have s02 := s1.trans s2
    refine ⟨⟨C_Look, r1, t, [], []⟩, x, t2, v, d, [], 1, 0, rfl, hL3.same (same_upd n2), (ts_same (s02.trans k3)).dp d v pd hv, pd, od, .inl (.inl upd_same), by decide, by decide, by decide, fun r H' hL' kb' d' => ?_⟩
    exact q r H' (fun b' o e => kb' b' o (ne_of_none (s02 b' o e) nx) (k3 b' o (s02 b' o e))) d'
/-- an empty book has no fault -/
def sp_bookfault (K : PySem.W.Frag) : Sp := fun vs H Q _ => ∃ b : Addr, vs = [.ref b] ∧ SqT K H b [] ∧ ∀ H', Same H H' → Q .non H'
theorem ok_bookfault {f : Addr} {fd : FuncData} (F : Fun K "bookfault" "bookfault" s_bookfault f fd) (C_heads_of : Cal P w K mg base "heads_of" pm_heads_of 1 (sp_heads_of K)) (C_head_fault : Cal P w K mg base "head_fault" pm_head_fault 3 (sp_head_fault K)) (C_kind_fault : Cal P w K mg base "kind_fault" pm_kind_fault 43 (sp_kind_fault K 10)) (m_enumerate : mg "enumerate" = none) (m_isinstance : mg "isinstance" = none) (m_tuple : mg "tuple" = none) (m_len : mg "len" = none) {t_MOST_DECLARATIONS : Nat} (g_MOST_DECLARATIONS : mg "MOST_DECLARATIONS" = some (.int 12 t_MOST_DECLARATIONS)) {C_Look fI : Addr} {fdI : FuncData} (M_Look : Mk K C_Look fI) (G_Look : FnOk P w K mg base CX0 1 fI fdI pm_LookI (sp_LookI K C_Look)) (g_Look : mg "Look" = some (.ref C_Look)) (b_Look : Binds K fdI pm_LookI []) : FnOk P w K mg base CX0 44 f fd pm_bookfault (sp_bookfault K) := by
  obtain ⟨f_heads_of, fd_heads_of, G_heads_of, g_heads_of, k_heads_of, b_heads_of⟩ := C_heads_of.ex
  obtain ⟨f_head_fault, fd_head_fault, G_head_fault, g_head_fault, k_head_fault, b_head_fault⟩ := C_head_fault.ex
  obtain ⟨f_kind_fault, fd_kind_fault, G_kind_fault, g_kind_fault, k_kind_fault, b_kind_fault⟩ := C_kind_fault.ex
  refine F.ok sc_bookfault (fun vs H Q E h => ?_) (fun cdv A outer s H vs Q E hr h => ?_)
  · obtain ⟨b, rfl, _⟩ := h
    rfl
  · obtain ⟨b, rfl, hb, q⟩ := h
    have rm : ∀ {j : Nat}, j ≤ 43 → Room j (A.deeper (envOfC "bookfault" (defScope s_bookfault) s.heap.objs.size f cdv)) := fun hj => hr.mono hj
    refine ⟨_, pss_cons (ps_if (pt_not (pt_val (pe_callB call_isi (by rfl) m_isinstance (by decide +kernel) (pa_cons (pv 0) (pa_cons (pe_bltn (v := .ty "tuple") (by rfl) m_tuple (show bootBuiltins "tuple" = some (.type "tuple") by decide +kernel) rfl) pa_nil)))))
      (pss_one (ps_ret (pe_tup (pa_cons (pe_tup pa_nil) (pa_cons pe_str pa_nil))))) pss_nil)
      (pss_cons (ps_if (pt_cmpR op_gt (pe_callB call_len_seq (by rfl) m_len PySem.boot_len (pa_cons (pv 0) pa_nil)) (pe_glob (v := .int 12) (by rfl) g_MOST_DECLARATIONS ⟨_, rfl⟩) (nomark _))
      (pss_one (ps_ret (pe_tup (pa_cons (pe_tup pa_nil) (pa_cons pe_str pa_nil))))) pss_nil)
      (pss_cons (ps_set (i := 1) sc_bookfault.nd rfl (.inl rfl) (pe_lst pa_nil))
      (pss_cons (ps_for PassesOwn.never rfl (EN.pi_enumT (by rfl) m_enumerate (pa_cons (pv 0) pa_nil)) (pg_tup (by rfl) (pgs_cons (pg_name (i := 2) sc_bookfault.nd rfl (.inl rfl)) (pgs_cons (pg_name (i := 3) sc_bookfault.nd rfl (.inl rfl)) pgs_nil)))
      (pss_cons (ps_set (i := 4) sc_bookfault.nd rfl (.inl rfl) (pe_call G_head_fault (rm (by decide)) (by rfl) g_head_fault k_head_fault b_head_fault .nil pass0 (pa_cons (pv 1) (pa_cons (pv 3) (pa_cons (pv 2) pa_nil)))))
      (pss_cons (ps_if (pt_cmpR op_notN (pv 4) pe_non (nomark _))
      (pss_one (ps_ret (pv 4))) pss_nil)
      (pss_one (ps_expr (pe_bm PySem.F.plainAttrs_list PySem.F.slot_list_append PySem.F.type_list_append mt_append (pv 1) (pa_cons (pe_ix ix_tup (pv 3) pe_int (fun _ _ => rfl)) pa_nil)))))))
      (pss_cons (ps_set (i := 5) sc_bookfault.nd rfl (.inl rfl) (pe_call G_heads_of (rm (by decide)) (by rfl) g_heads_of k_heads_of b_heads_of .nil pass0 (pa_cons (pv 0) pa_nil)))
      (pss_cons (ps_for PassesOwn.never rfl (EN.pi_enumT (by rfl) m_enumerate (pa_cons (pv 0) pa_nil)) (pg_tup (by rfl) (pgs_cons (pg_name (i := 2) sc_bookfault.nd rfl (.inl rfl)) (pgs_cons (pg_name (i := 3) sc_bookfault.nd rfl (.inl rfl)) pgs_nil)))
      (pss_cons (ps_set (i := 4) sc_bookfault.nd rfl (.inl rfl) (pe_call G_kind_fault (rm (by decide)) (by rfl) g_kind_fault k_kind_fault b_kind_fault .nil pass0 (pa_cons (pe_make M_Look G_Look (rm (by decide)) (by rfl) g_Look b_Look .nil pass0 (pa_cons (pv 5) (pa_cons (pe_ix ix_tup (pv 3) pe_int (fun _ _ => rfl)) pa_nil))) (pa_cons (pe_ix ix_tup (pv 3) pe_int (fun _ _ => rfl)) (pa_cons (pe_tup (pa_cons (pv 2) (pa_cons pe_int pa_nil))) (pa_cons pe_int pa_nil))))))
      (pss_one (ps_if (pt_cmpR op_notN (pv 4) pe_non (nomark _))
      (pss_one (ps_ret (pv 4))) pss_nil))))
      (pss_one (ps_ret pe_non))))))), ?_⟩
    refine ⟨.ref b, rfl, .ref b, _, _, _, true, rfl, .ty "tuple", dp_ty (d := .tuple []) (.tup hb .nil) rfl, kit_ty (kT (.tuple [])), true, rfl, iteF ?_⟩
    refine ⟨.ref b, rfl, b, _, rfl, .inr hb, _, _, rfl, rfl, _, rfl, iteF ?_⟩
    refine ⟨Nat.zero_le _, fun nm hnm => ?_⟩
    have s1 : Same H (upd H nm (.lst [])) := same_upd hnm
    generalize upd H nm (HO.lst []) = H1 at s1 ⊢
    have hb1 := ts_same s1 _ _ hb
    refine ⟨.ref b, rfl, b, [], rfl, hb1, for_it (EN.walk_enumT (xs := [])) (fun j σ H' => σ = [some (.ref b), some (.ref nm), none, none, none, none] ∧ H' = H1) ⟨rfl, rfl⟩ (fun j σ H' _ hp => by rw [hp.2]; exact hb1) (fun j v σ H' H'' hj _ _ => absurd hj (Nat.not_lt_zero _)) (fun σ H' hp => ?_)⟩
    obtain ⟨rfl, rfl⟩ := hp
    refine ⟨.ref b, rfl, b, rfl, hb1, fun r2 H2 s2 h2 => ?_⟩
    have hb2 := ts_same s2 _ _ hb1
    refine ⟨.ref b, rfl, b, [], rfl, hb2, for_it (EN.walk_enumT (xs := [])) (fun j σ H' => H' = H2) rfl (fun j σ H' _ hp => by rw [hp]; exact hb2) (fun j v σ H' H'' hj _ _ => absurd hj (Nat.not_lt_zero _)) (fun σ H' hp => ?_)⟩
    subst hp
    exact q _ (s1.trans s2)
def sp_formfault (K : PySem.W.Frag) : Sp := fun vs H Q _ => ∃ (b : Addr) (v : V) (d : PyData), vs = [.ref b, v] ∧ SqT K H b [] ∧ Dp K H v d ∧ pl d = true ∧ okD d = true ∧ ∀ r H', Same H H' → Dp K H' r (resD (kfM [] [] 10 d [] 1 0).2) → Q r H'
theorem ok_formfault {f : Addr} {fd : FuncData} (F : Fun K "formfault" "formfault" s_formfault f fd) (C_closed_fault : Cal P w K mg base "closed_fault" pm_closed_fault 44 (sp_closed_fault K)) (C_bookfault : Cal P w K mg base "bookfault" pm_bookfault 44 (sp_bookfault K)) : FnOk P w K mg base CX0 45 f fd pm_formfault (sp_formfault K) := by
  obtain ⟨f_closed_fault, fd_closed_fault, G_closed_fault, g_closed_fault, k_closed_fault, b_closed_fault⟩ := C_closed_fault.ex
  obtain ⟨f_bookfault, fd_bookfault, G_bookfault, g_bookfault, k_bookfault, b_bookfault⟩ := C_bookfault.ex
  refine F.ok sc_formfault (fun vs H Q E h => ?_) (fun cdv A outer s H vs Q E hr h => ?_)
  · obtain ⟨b, v, d, rfl, _⟩ := h
    rfl
  · obtain ⟨b, v, d, rfl, hb, hv, pd, od, q⟩ := h
    have rm : ∀ {j : Nat}, j ≤ 44 → Room j (A.deeper (envOfC "formfault" (defScope s_formfault) s.heap.objs.size f cdv)) := fun hj => hr.mono hj
    refine ⟨_, pss_cons (ps_if (pt_cmpR op_notN (pe_call G_bookfault (rm (by decide)) (by rfl) g_bookfault k_bookfault b_bookfault .nil pass0 (pa_cons (pv 0) pa_nil)) pe_non (nomark _))
      (pss_one (ps_ret (pe_tup (pa_cons (pe_tup pa_nil) (pa_cons pe_str pa_nil))))) pss_nil)
      (pss_one (ps_ret (pe_call G_closed_fault (rm (by decide)) (by rfl) g_closed_fault k_closed_fault b_closed_fault .nil pass0 (pa_cons (pv 0) (pa_cons (pv 1) pa_nil))))), ?_⟩
    refine ⟨.ref b, rfl, b, rfl, hb, fun H1 s1 => ⟨rfl, _, rfl, iteF ?_⟩⟩
    exact ⟨.ref b, rfl, v, rfl, b, v, d, rfl, ts_same s1 _ _ hb, (ts_same s1).dp d v pd hv, pd, od, fun r H' s' d' => q r H' (s1.trans s') d'⟩
end
end K3
namespace K3
open PySem PySem.Spec PyProof.Rows L2 K1
/-! ### the errors -/
structure ErC (K : PySem.W.Frag) (mg : Str → Option Value) (x : Str) (C fI : Addr) : Prop where
  o : OexC K C
  i : PySem.W.findIn K (.ref C) "__init__" = some (some (.ref fI))
  t : PySem.W.typeIn K (.ref fI) = some (.type "function")
  g : mg x = some (.ref C)
abbrev s_BadKindI : Stmt := inClass (topS 2) 0
abbrev pm_BadKindI : List Str := ["self", "place", "why"]
theorem sc_BadKindI : FnScope pm_BadKindI pm_BadKindI (defScope s_BadKindI) := ⟨rfl, rfl, rfl, by decide +kernel, rfl, by decide +kernel, by decide +kernel⟩
abbrev s_MisfitI : Stmt := inClass (topS 3) 0
abbrev pm_MisfitI : List Str := ["self", "path"]
theorem sc_MisfitI : FnScope pm_MisfitI pm_MisfitI (defScope s_MisfitI) := ⟨rfl, rfl, rfl, by decide +kernel, rfl, by decide +kernel, by decide +kernel⟩
abbrev s_NoCodeI : Stmt := inClass (topS 4) 0
abbrev pm_NoCodeI : List Str := ["self", "code"]
theorem sc_NoCodeI : FnScope pm_NoCodeI pm_NoCodeI (defScope s_NoCodeI) := ⟨rfl, rfl, rfl, by decide +kernel, rfl, by decide +kernel, by decide +kernel⟩
abbrev s_plain_fits : Stmt := topS 36
abbrev nm_plain_fits : List Str := ["kind", "thing", "half"]
abbrev pm_plain_fits : List Str := ["kind", "thing"]
theorem sc_plain_fits : FnScope nm_plain_fits pm_plain_fits (defScope s_plain_fits) := ⟨rfl, rfl, rfl, by decide +kernel, rfl, by decide +kernel, by decide +kernel⟩
abbrev s_refuse_unplain : Stmt := topS 37
abbrev nm_refuse_unplain : List Str := ["kind", "fault"]
abbrev pm_refuse_unplain : List Str := ["kind"]
theorem sc_refuse_unplain : FnScope nm_refuse_unplain pm_refuse_unplain (defScope s_refuse_unplain) := ⟨rfl, rfl, rfl, by decide +kernel, rfl, by decide +kernel, by decide +kernel⟩
abbrev s_coded : Stmt := topS 38
abbrev nm_coded : List Str := ["kind", "worth"]
abbrev pm_coded : List Str := ["kind", "worth"]
theorem sc_coded : FnScope nm_coded pm_coded (defScope s_coded) := ⟨rfl, rfl, rfl, by decide +kernel, rfl, by decide +kernel, by decide +kernel⟩
abbrev s_decoded : Stmt := topS 39
abbrev nm_decoded : List Str := ["kind", "code", "bits"]
abbrev pm_decoded : List Str := ["kind", "code"]
theorem sc_decoded : FnScope nm_decoded pm_decoded (defScope s_decoded) := ⟨rfl, rfl, rfl, by decide +kernel, rfl, by decide +kernel, by decide +kernel⟩
section
variable {P : Program} {w : World} {K : PySem.W.Frag} {mg : Str → Option Value} {base : Heap}
/-- an __init__ that keeps two fields -/
def sp_two (C : Addr) (f1 f2 : Str) : Sp := fun vs H Q _ => ∃ (a : Addr) (v1 v2 : V), vs = [.ref a, v1, v2] ∧ H a = some (exo a C none) ∧
  ∀ (dx : Addr) (H' : Hp), H dx = none → dx ≠ a → H' a = some (exo a C (some dx)) → H' dx = some (exd dx [(f2, v2), (f1, v1)]) → (∀ b o, b ≠ a → b ≠ dx → H b = some o → H' b = some o) → Q .non H'
def sp_one (C : Addr) (f1 : Str) : Sp := fun vs H Q _ => ∃ (a : Addr) (v1 : V), vs = [.ref a, v1] ∧ H a = some (exo a C none) ∧
  ∀ (dx : Addr) (H' : Hp), H dx = none → dx ≠ a → H' a = some (exo a C (some dx)) → H' dx = some (exd dx [(f1, v1)]) → (∀ b o, b ≠ a → b ≠ dx → H b = some o → H' b = some o) → Q .non H'
theorem ok_BadKindI {f C : Addr} {fd : FuncData} (F : Fun K "__init__" "BadKind.__init__" s_BadKindI f fd) (T : OexC K C) (n1 : PySem.W.findIn K (.ref C) "place" = some none) (n2 : PySem.W.findIn K (.ref C) "why" = some none) : FnOk P w K mg base CX0 1 f fd pm_BadKindI (sp_two C "place" "why") := by
  refine F.ok sc_BadKindI (fun vs H Q E h => ?_) (fun cdv A outer s H vs Q E hr h => ?_)
  · obtain ⟨a, v1, v2, rfl, _⟩ := h
    rfl
  · obtain ⟨a, v1, v2, rfl, ha, q⟩ := h
    refine ⟨_, pss_cons (ps_ost (pv 0) (pv 1)) (pss_one (ps_ost (pv 0) (pv 2))), ?_⟩
    refine ⟨v1, rfl, .ref a, rfl, a, C, rfl, T, n1, .inl ⟨ha, fun dx nd nda => ?_⟩⟩
    have ed : (upd (upd H dx (exd dx [("place", v1)])) a (exo a C (some dx))) dx = some (exd dx [("place", v1)]) := by rw [upd_ne nda, upd_same]
    refine ⟨v2, rfl, .ref a, rfl, a, C, rfl, T, n2, .inr ⟨dx, _, upd_same, ed, (by show 1 ≤ 900; decide), ?_⟩⟩
    refine q dx _ nd nda (by rw [upd_ne (Ne.symm nda), upd_same]) upd_same fun b o nb nb2 e => ?_
    rw [upd_ne nb2, upd_ne nb, upd_ne nb2]
    exact e
theorem ok_MisfitI {f C : Addr} {fd : FuncData} (F : Fun K "__init__" "Misfit.__init__" s_MisfitI f fd) (T : OexC K C) (n1 : PySem.W.findIn K (.ref C) "path" = some none) : FnOk P w K mg base CX0 1 f fd pm_MisfitI (sp_one C "path") := by
  refine F.ok sc_MisfitI (fun vs H Q E h => ?_) (fun cdv A outer s H vs Q E hr h => ?_)
  · obtain ⟨a, v1, rfl, _⟩ := h
    rfl
  · obtain ⟨a, v1, rfl, ha, q⟩ := h
    refine ⟨_, pss_one (ps_ost (pv 0) (pv 1)), ?_⟩
    refine ⟨v1, rfl, .ref a, rfl, a, C, rfl, T, n1, .inl ⟨ha, fun dx nd nda => ?_⟩⟩
    refine q dx _ nd nda upd_same (by rw [upd_ne nda, upd_same]) fun b o nb nb2 e => ?_
    rw [upd_ne nb, upd_ne nb2]
    exact e
theorem ok_NoCodeI {f C : Addr} {fd : FuncData} (F : Fun K "__init__" "NoCode.__init__" s_NoCodeI f fd) (T : OexC K C) (n1 : PySem.W.findIn K (.ref C) "code" = some none) : FnOk P w K mg base CX0 1 f fd pm_NoCodeI (sp_one C "code") := by
  refine F.ok sc_NoCodeI (fun vs H Q E h => ?_) (fun cdv A outer s H vs Q E hr h => ?_)
  · obtain ⟨a, v1, rfl, _⟩ := h
    rfl
  · obtain ⟨a, v1, rfl, ha, q⟩ := h
    refine ⟨_, pss_one (ps_ost (pv 0) (pv 1)), ?_⟩
    refine ⟨v1, rfl, .ref a, rfl, a, C, rfl, T, n1, .inl ⟨ha, fun dx nd nda => ?_⟩⟩
    refine q dx _ nd nda upd_same (by rw [upd_ne nda, upd_same]) fun b o nb nb2 e => ?_
    rw [upd_ne nb, upd_ne nb2]
    exact e
/-- what stands when an error is made: all that stood, its fields at dd -/
theorem made {H H2 : Hp} {C a d : Addr} {o : HO} {fs : List (Str × V)} (na : H a = none) (nd : H d = none) (k : ∀ b u, b ≠ a → b ≠ d → (upd H a o) b = some u → H2 b = some u) : Same H (upd (del H2 a) d (.xd fs)) := fun b u e => by
  have n1 := ne_of_none e na
  have n2 := ne_of_none e nd
  rw [upd_ne n2, del_ne n1]
  exact k b u n1 n2 (by rw [upd_ne n1]; exact e)
theorem mk2 {H1 : Hp} {C : Addr} {v1 v2 : V} {f1 f2 : Str} {Q : XK} (q : ∀ (dd : Addr) (H' : Hp), Same H1 H' → H' dd = some (.xd [(f2, v2), (f1, v1)]) → Q (.ref C) (some dd) H') :
    [v1, v2].length ≤ 1000 ∧ ∀ a, H1 a = none → sp_two C f1 f2 (.ref a :: ([v1, v2] ++ [])) (upd H1 a (exo a C none))
      (fun v H2 => v = .non ∧ ∃ (d : Addr) (fs : List (Str × V)), H2 a = some (exo a C (some d)) ∧ H2 d = some (exd d fs) ∧ H1 d = none ∧ Q (.ref C) (some d) (upd (del H2 a) d (.xd fs))) (fun _ _ _ => False) := by
  refine ⟨by show 2 ≤ 1000; decide, fun a na => ⟨a, v1, v2, rfl, upd_same, fun dx H' nd nda e1 e2 k => ?_⟩⟩
  rw [upd_ne nda] at nd
  exact ⟨rfl, dx, _, e1, e2, nd, q dx _ (made (C := C) na nd k) upd_same⟩
theorem mk1 {H1 : Hp} {C : Addr} {v1 : V} {f1 : Str} {Q : XK} (q : ∀ (dd : Addr) (H' : Hp), Same H1 H' → H' dd = some (.xd [(f1, v1)]) → Q (.ref C) (some dd) H') :
    [v1].length ≤ 1000 ∧ ∀ a, H1 a = none → sp_one C f1 (.ref a :: ([v1] ++ [])) (upd H1 a (exo a C none))
      (fun v H2 => v = .non ∧ ∃ (d : Addr) (fs : List (Str × V)), H2 a = some (exo a C (some d)) ∧ H2 d = some (exd d fs) ∧ H1 d = none ∧ Q (.ref C) (some d) (upd (del H2 a) d (.xd fs))) (fun _ _ _ => False) := by
  refine ⟨by show 1 ≤ 1000; decide, fun a na => ⟨a, v1, rfl, upd_same, fun dx H' nd nda e1 e2 k => ?_⟩⟩
  rw [upd_ne nda] at nd
  exact ⟨rfl, dx, _, e1, e2, nd, q dx _ (made (C := C) na nd k) upd_same⟩
theorem in_plain (z : Str) : inV (.str z) [.str "nat", .str "int", .str "truth"] = true ↔ z = "nat" ∨ z = "int" ∨ z = "truth" := by
  have := in_strs ["nat", "int", "truth"] z
  simpa using this
/-! ### refused kinds -/
def plainB : PyData → Bool
  | .tuple (.str z :: _) => decide (z = "nat" ∨ z = "int" ∨ z = "truth")
  | _ => false
def rfM (d : PyData) : Fa := match (kfM [] [] 10 d [] 1 0).2 with
  | some x => some x
  | none => if plainB d = true then none else some ([], "plain")
theorem kf_tup {d : PyData} (h : (kfM [] [] 10 d [] 1 0).2 = none) : ∃ z r, d = .tuple (.str z :: r) := by
  cases ho : ownM d 1 0 with
  | mk n1 wo =>
  cases wo with
  | some z =>
    rw [kfM_some ho] at h
    cases h
  | none =>
    obtain ⟨z, r, _, e, _⟩ := own_none ho
    exact ⟨z, r, e⟩
def sp_refuse_unplain (K : PySem.W.Frag) (CB : Addr) : Sp := fun vs H Q E => ∃ (v : V) (d : PyData), vs = [v] ∧ Dp K H v d ∧ pl d = true ∧ okD d = true ∧ (rfM d = none → ∀ H', Same H H' → Q .non H') ∧
  ∀ p z, rfM d = some (p, z) → ∀ (dd : Addr) (pw : V) (H' : Hp), Same H H' → H' dd = some (.xd [("why", .str z), ("place", pw)]) → Dp K H' pw (plD p) → E (.ref CB) (some dd) H'
theorem ok_refuse_unplain {f CB fB : Addr} {fd fdB : FuncData} (F : Fun K "refuse_unplain" "refuse_unplain" s_refuse_unplain f fd) (C_closed_fault : Cal P w K mg base "closed_fault" pm_closed_fault 44 (sp_closed_fault K)) (T_BadKind : ErC K mg "BadKind" CB fB)
    (G_BadKind : FnOk P w K mg base CX0 1 fB fdB pm_BadKindI (sp_two CB "place" "why")) (b_BadKind : Binds K fdB pm_BadKindI []) {a_PLAIN_WORDS : Addr} (g_PLAIN_WORDS : mg "PLAIN_WORDS" = some (.ref a_PLAIN_WORDS)) (h_PLAIN_WORDS : ∀ H : Hp, SqT K H a_PLAIN_WORDS [.str "nat", .str "int", .str "truth"]) :
    FnOk P w K mg base (L2.CX P w) 45 f fd pm_refuse_unplain (sp_refuse_unplain K CB) := by
  obtain ⟨f_closed_fault, fd_closed_fault, G_closed_fault, g_closed_fault, k_closed_fault, b_closed_fault⟩ := C_closed_fault.ex
  refine F.okX sc_refuse_unplain (fun vs H Q E h => ?_) (fun cdv A outer s H vs Q E hr h => ?_)
  · obtain ⟨v, d, rfl, _⟩ := h
    rfl
  · obtain ⟨v, d, rfl, hv, pd, od, q, qe⟩ := h
    have rm : ∀ {j : Nat}, j ≤ 44 → Room j (A.deeper (envOfC "refuse_unplain" (defScope s_refuse_unplain) s.heap.objs.size f cdv)) := fun hj => hr.mono hj
    refine ⟨_, pss_cons (ps_set (i := 1) sc_refuse_unplain.nd rfl (.inl rfl) (pe_call G_closed_fault (rm (by decide)) (by rfl) g_closed_fault k_closed_fault b_closed_fault .nil pass0 (pa_cons (pe_tup pa_nil) (pa_cons (pv 0) pa_nil))))
      (pss_cons (ps_if (pt_cmpR op_notN (pv 1) pe_non (nomark _))
      (pss_one (ps_raise rfl (takes_of rfl rfl rfl rfl) (pmk_oex T_BadKind.o T_BadKind.i T_BadKind.t G_BadKind (rm (by decide)) b_BadKind .nil pass0 (by rfl) T_BadKind.g (pa_cons (pe_ix ix_tup (pv 1) pe_int (fun _ _ => rfl)) (pa_cons (pe_ix ix_tup (pv 1) pe_int (fun _ _ => rfl)) pa_nil))))) pss_nil)
      (pss_one (ps_if (pt_cmpR op_notIn_seq (pe_ix ix_tup (pv 0) pe_int (fun _ _ => rfl)) (pe_glob (v := .ref a_PLAIN_WORDS) (by rfl) g_PLAIN_WORDS rfl) (by rfl))
      (pss_one (ps_raise rfl (takes_of rfl rfl rfl rfl) (pmk_oex T_BadKind.o T_BadKind.i T_BadKind.t G_BadKind (rm (by decide)) b_BadKind .nil pass0 (by rfl) T_BadKind.g (pa_cons (pe_tup pa_nil) (pa_cons pe_str pa_nil))))) pss_nil))), ?_⟩
    refine ⟨Nat.zero_le _, fun t0 n0 => ⟨v, rfl, t0, v, d, rfl, .inl (.inl upd_same), (ts_new n0).dp d v pd hv, pd, od, fun r H1 s1 d1 => ?_⟩⟩
    have s01 : Same H H1 := (same_upd n0).trans s1
    cases hk : (kfM [] [] 10 d [] 1 0).2 with
    | some pz =>
      obtain ⟨p, z⟩ := pz
      rw [hk] at d1
      have er : rfM d = some (p, z) := by unfold rfM; rw [hk]
      obtain ⟨ta, xs, rfl, hs, hx⟩ := dp_tup (ds := [plD p, .str z]) d1
      cases hx with
      | @cons v0 _ _ _ hx0 hx1 =>
      cases hx1 with
      | @cons v1 _ _ _ hx1 hx2 =>
      cases hx2
      have ev := dp_str hx1
      subst ev
      refine ⟨.ref ta, rfl, rfl, _, rfl, ifNN (fun z' => nomatch z') ?_⟩
      refine ⟨.ref ta, rfl, ta, _, 0, v0, rfl, rfl, hs, atI_nat (j := 0) rfl, .ref ta, rfl, ta, _, 1, .str z, rfl, rfl, hs, atI_nat (j := 1) rfl, ?_⟩
      exact mk2 fun dd H' s' e' => qe p z er dd v0 H' (s01.trans s') e' ((ts_same s').dp _ _ (pl_plD p) hx0)
    | none =>
      rw [hk] at d1
      have en : r = .non := (non_iff d1).mpr rfl
      subst en
      obtain ⟨z, rs, rfl⟩ := kf_tup hk
      obtain ⟨tv, xs, rfl, hs, hx⟩ := dp_tup ((ts_same s01).dp _ _ pd hv)
      cases hx with
      | @cons v0 vr _ _ hx0 hxr =>
      have ev := dp_str hx0
      subst ev
      refine ⟨.non, rfl, rfl, _, rfl, iteF ?_⟩
      refine ⟨.ref tv, rfl, tv, _, 0, .str z, rfl, rfl, hs, atI_nat (j := 0) rfl, a_PLAIN_WORDS, _, rfl, .inr (h_PLAIN_WORDS H1), rfl, rfl, _, rfl, ite2 (fun c => ?_) (fun c => ?_)⟩
      · have c' : ¬ (z = "nat" ∨ z = "int" ∨ z = "truth") := fun z' => by
          have c2 : (!inV (.str z) [.str "nat", .str "int", .str "truth"]) = true := c
          rw [(in_plain z).mpr z'] at c2
          cases c2
        have er : rfM (.tuple (.str z :: rs)) = some ([], ("plain" : Str)) := by
          unfold rfM
          rw [hk]
          exact if_neg (by rw [show plainB (.tuple (.str z :: rs)) = false from decide_eq_false c']; decide)
        refine ⟨Nat.zero_le _, fun t3 n3 => ?_⟩
        exact mk2 fun dd H' s' e' => qe [] "plain" er dd (.ref t3) H' (s01.trans ((same_upd n3).trans s')) e' (.tup (.inl (.inl (s' _ _ upd_same))) .nil)
      · have c' : z = "nat" ∨ z = "int" ∨ z = "truth" := by
          have c2 : ¬ (!inV (.str z) [.str "nat", .str "int", .str "truth"]) = true := c
          refine (in_plain z).mp ?_
          simpa using c2
        have er : rfM (.tuple (.str z :: rs)) = none := by
          unfold rfM
          rw [hk]
          exact if_pos (decide_eq_true c')
        exact q er H1 s01
end
end K3
namespace K3
open PySem PySem.Spec PyProof.Rows L2 K1
/-! ### plain kinds -/
inductive PKd where
  | nat (b : Nat) | int (b : Nat) | tr
def kindD : PKd → PyData
  | .nat b => .tuple [.str "nat", .int (b : Int)]
  | .int b => .tuple [.str "int", .int (b : Int)]
  | .tr => .tuple [.str "truth"]
def bitsK : PKd → Nat
  | .nat b => b
  | .int b => b
  | .tr => 1
def PKd.ok (k : PKd) : Prop := 1 ≤ bitsK k ∧ bitsK k ≤ 64
def fitsK (k : PKd) (t : PyData) : Bool := match k with
  | .tr => isB t
  | .nat b => btw t 0 (2 ^ b - 1)
  | .int b => btw t (-(2 ^ (b - 1))) (2 ^ (b - 1) - 1)
theorem plain_is {d : PyData} (h : rfM d = none) : ∃ k : PKd, k.ok ∧ d = kindD k := by
  unfold rfM at h
  cases hk : (kfM [] [] 10 d [] 1 0).2 with
  | some x =>
    rw [hk] at h
    cases h
  | none =>
    rw [hk] at h
    have hp : plainB d = true := by
      by_cases c : plainB d = true
      · exact c
      · have h' : (if plainB d = true then none else some ([], ("plain" : Str)) : Fa) = none := h
        rw [if_neg c] at h'
        cases h'
    cases ho : ownM d 1 0 with
    | mk n1 wo =>
    cases wo with
    | some z =>
      rw [kfM_some ho] at hk
      cases hk
    | none =>
    obtain ⟨z, r, m, rfl, hw, hrl, _, rfl⟩ := own_none ho
    rw [kfM_none ho] at hk
    have hz : z = "nat" ∨ z = "int" ∨ z = "truth" := of_decide_eq_true hp
    rcases hz with rfl | rfl | rfl
    · obtain rfl : 2 = m := Option.some.inj hw
      obtain ⟨a, rfl⟩ := len1 hrl
      have hk' : (if btw a 1 64 = true then none else some ([] ++ [1], ("bits" : Str)) : Fa) = none := hk
      by_cases c : btw a 1 64 = true
      · obtain ⟨w1, l1, l2⟩ := btw_iff.mp c
        have ea := isW_int w1
        refine ⟨.nat (valI a).toNat, ⟨by show 1 ≤ (valI a).toNat; omega, by show (valI a).toNat ≤ 64; omega⟩, ?_⟩
        show PyData.tuple [_, a] = .tuple [_, .int (((valI a).toNat : Nat) : Int)]
        rw [show (((valI a).toNat : Nat) : Int) = valI a by omega, ← ea]
      · rw [if_neg c] at hk'
        cases hk'
    · obtain rfl : 2 = m := Option.some.inj hw
      obtain ⟨a, rfl⟩ := len1 hrl
      have hk' : (if btw a 1 64 = true then none else some ([] ++ [1], ("bits" : Str)) : Fa) = none := hk
      by_cases c : btw a 1 64 = true
      · obtain ⟨w1, l1, l2⟩ := btw_iff.mp c
        have ea := isW_int w1
        refine ⟨.int (valI a).toNat, ⟨by show 1 ≤ (valI a).toNat; omega, by show (valI a).toNat ≤ 64; omega⟩, ?_⟩
        show PyData.tuple [_, a] = .tuple [_, .int (((valI a).toNat : Nat) : Int)]
        rw [show (((valI a).toNat : Nat) : Int) = valI a by omega, ← ea]
      · rw [if_neg c] at hk'
        cases hk'
    · obtain rfl : 1 = m := Option.some.inj hw
      have : r = [] := List.eq_nil_of_length_eq_zero (by omega)
      subst this
      exact ⟨.tr, ⟨by decide, by decide⟩, rfl⟩
section
variable {P : Program} {w : World} {K : PySem.W.Frag} {mg : Str → Option Value} {base : Heap}
/-- a kind's word and bits, as they stand in the heap -/
theorem kind_at {H : Hp} {v : V} {k : PKd} (h : Dp K H v (kindD k)) : ∃ a, v = .ref a ∧ SqT K H a (match k with | .nat b => [.str "nat", .int (b : Int)] | .int b => [.str "int", .int (b : Int)] | .tr => [.str "truth"]) := by
  cases k with
  | nat b =>
    obtain ⟨a, xs, rfl, hs, hx⟩ := dp_tup h
    cases hx with | cons h0 hx => cases hx with | cons h1 hx => cases hx; cases h0; cases h1; exact ⟨a, rfl, hs⟩
  | int b =>
    obtain ⟨a, xs, rfl, hs, hx⟩ := dp_tup h
    cases hx with | cons h0 hx => cases hx with | cons h1 hx => cases hx; cases h0; cases h1; exact ⟨a, rfl, hs⟩
  | tr =>
    obtain ⟨a, xs, rfl, hs, hx⟩ := dp_tup h
    cases hx with | cons h0 hx => cases hx; cases h0; exact ⟨a, rfl, hs⟩
def sp_plain_fits (K : PySem.W.Frag) : Sp := fun vs H Q _ => ∃ (kv v : V) (k : PKd) (t : PyData), vs = [kv, v] ∧ Dp K H kv (kindD k) ∧ k.ok ∧ Dp K H v t ∧ pl t = true ∧ Q (.bl (fitsK k t)) H
theorem ok_plain_fits {f : Addr} {fd : FuncData} (F : Fun K "plain_fits" "plain_fits" s_plain_fits f fd) (C_power : Cal P w K mg base "power" pm_power 1 sp_power) (C_is_between : Cal P w K mg base "is_between" pm_is_between 2 (sp_is_between K)) (m_isinstance : mg "isinstance" = none) (m_bool : mg "bool" = none) : FnOk P w K mg base CX0 3 f fd pm_plain_fits (sp_plain_fits K) := by
  obtain ⟨f_power, fd_power, G_power, g_power, k_power, b_power⟩ := C_power.ex
  obtain ⟨f_is_between, fd_is_between, G_is_between, g_is_between, k_is_between, b_is_between⟩ := C_is_between.ex
  refine F.ok sc_plain_fits (fun vs H Q E h => ?_) (fun cdv A outer s H vs Q E hr h => ?_)
  · obtain ⟨kv, v, k, t, rfl, _⟩ := h
    rfl
  · obtain ⟨kv, v, k, t, rfl, hk, ok, hv, pt, q⟩ := h
    have rm : ∀ {j : Nat}, j ≤ 2 → Room j (A.deeper (envOfC "plain_fits" (defScope s_plain_fits) s.heap.objs.size f cdv)) := fun hj => hr.mono hj
    refine ⟨_, pss_cons (ps_if (pt_cmpR op_eq (pe_ix ix_tup (pv 0) pe_int (fun _ _ => rfl)) pe_str (nomark _))
      (pss_one (ps_ret (pe_callB call_isi (by rfl) m_isinstance (by decide +kernel) (pa_cons (pv 1) (pa_cons (pe_bltn (v := .ty "bool") (by rfl) m_bool (show bootBuiltins "bool" = some (.type "bool") by decide +kernel) rfl) pa_nil))))) pss_nil)
      (pss_cons (ps_if (pt_cmpR op_eq (pe_ix ix_tup (pv 0) pe_int (fun _ _ => rfl)) pe_str (nomark _))
      (pss_one (ps_ret (pe_call G_is_between (rm (by decide)) (by rfl) g_is_between k_is_between b_is_between .nil pass0 (pa_cons (pv 1) (pa_cons pe_int (pa_cons (pe_op op_sub (pe_call G_power (rm (by decide)) (by rfl) g_power k_power b_power .nil pass0 (pa_cons (pe_ix ix_tup (pv 0) pe_int (fun _ _ => rfl)) pa_nil)) pe_int) pa_nil)))))) pss_nil)
      (pss_cons (ps_set (i := 2) sc_plain_fits.nd rfl (.inl rfl) (pe_call G_power (rm (by decide)) (by rfl) g_power k_power b_power .nil pass0 (pa_cons (pe_op op_sub (pe_ix ix_tup (pv 0) pe_int (fun _ _ => rfl)) pe_int) pa_nil)))
      (pss_one (ps_ret (pe_call G_is_between (rm (by decide)) (by rfl) g_is_between k_is_between b_is_between .nil pass0 (pa_cons (pv 1) (pa_cons (pe_un un_neg (pv 2)) (pa_cons (pe_op op_sub (pv 2) pe_int) pa_nil)))))))), ?_⟩
    obtain ⟨a, rfl, hs⟩ := kind_at hk
    cases k with
    | tr =>
      refine ⟨.ref a, rfl, a, _, 0, _, rfl, rfl, hs, atI_nat (j := 0) rfl, rfl, _, rfl, ifSY rfl ?_⟩
      exact ⟨v, rfl, v, _, _, _, isB t, rfl, .ty "bool", dp_ty hv pt, kit_ty (kB t), q⟩
    | nat b =>
      have hb : b ≤ 64 := ok.2
      refine ⟨.ref a, rfl, a, _, 0, _, rfl, rfl, hs, atI_nat (j := 0) rfl, rfl, _, rfl, ifSN (by decide) ?_⟩
      refine ⟨.ref a, rfl, a, _, 0, _, rfl, rfl, hs, atI_nat (j := 0) rfl, rfl, _, rfl, ifSY rfl ?_⟩
      refine ⟨v, rfl, .ref a, rfl, a, _, 1, _, rfl, rfl, hs, atI_nat (j := 1) rfl, b, rfl, by omega, _, _, rfl, rfl, ?_⟩
      exact ⟨v, t, 0, _, rfl, hv, pt, q⟩
    | int b =>
      have hb : 1 ≤ b ∧ b ≤ 64 := ok
      refine ⟨.ref a, rfl, a, _, 0, _, rfl, rfl, hs, atI_nat (j := 0) rfl, rfl, _, rfl, ifSN (by decide) ?_⟩
      refine ⟨.ref a, rfl, a, _, 0, _, rfl, rfl, hs, atI_nat (j := 0) rfl, rfl, _, rfl, ifSN (by decide) ?_⟩
      refine ⟨.ref a, rfl, a, _, 1, _, rfl, rfl, hs, atI_nat (j := 1) rfl, _, _, rfl, rfl, b - 1, ?_, by omega, ?_⟩
      · have e : (b : Int) - 1 = ((b - 1 : Nat) : Int) := by omega
        rw [← e]
        rfl
      refine ⟨v, rfl, .int (2 ^ (b - 1)), rfl, _, rfl, .int (2 ^ (b - 1)), rfl, _, _, rfl, rfl, ?_⟩
      exact ⟨v, t, _, _, rfl, hv, pt, q⟩
end
end K3
namespace K3
open PySem PySem.Spec PyProof.Rows L2 K1
/-! ### codes -/
def codeK (k : PKd) (t : PyData) : Int := match k with
  | .tr => (match t with | .bool true => 1 | _ => 0)
  | _ => if valI t < 0 then valI t + 2 ^ bitsK k else valI t
def decK (k : PKd) (i : Int) : PyData := match k with
  | .tr => .bool (decide (i = 1))
  | .nat _ => .int i
  | .int b => if 2 ^ (b - 1) ≤ i then .int (i - 2 ^ b) else .int i
section
variable {P : Program} {w : World} {K : PySem.W.Frag} {mg : Str → Option Value} {base : Heap}
/-- what a refused kind leads to -/
def Bad (K : PySem.W.Frag) (CB : Addr) (H : Hp) (d : PyData) (E : XK) : Prop := ∀ p z, rfM d = some (p, z) → ∀ (dd : Addr) (pw : V) (H' : Hp), Same H H' → H' dd = some (.xd [("why", .str z), ("place", pw)]) → Dp K H' pw (plD p) → E (.ref CB) (some dd) H'
def sp_coded (K : PySem.W.Frag) (CB CM : Addr) : Sp := fun vs H Q E => ∃ (kv v : V) (d t : PyData), vs = [kv, v] ∧ Dp K H kv d ∧ pl d = true ∧ okD d = true ∧ Dp K H v t ∧ pl t = true ∧ Bad K CB H d E ∧
  ∀ k : PKd, k.ok → d = kindD k → (fitsK k t = false → ∀ (dd : Addr) (pw : V) (H' : Hp), Same H H' → H' dd = some (.xd [("path", pw)]) → Dp K H' pw (.tuple []) → E (.ref CM) (some dd) H') ∧ (fitsK k t = true → ∀ H', Same H H' → Q (.int (codeK k t)) H')
theorem fits_shape {k : PKd} {t : PyData} (h : fitsK k t = true) : (k = .tr ∧ ∃ b, t = .bool b) ∨ (k ≠ .tr ∧ t = .int (valI t)) := by
  cases k with
  | tr =>
    refine .inl ⟨rfl, ?_⟩
    cases t with
    | bool b => exact ⟨b, rfl⟩
    | _ => cases h
  | nat b => exact .inr ⟨(fun z => nomatch z), isW_int (btw_iff.mp h).1⟩
  | int b => exact .inr ⟨(fun z => nomatch z), isW_int (btw_iff.mp h).1⟩
theorem ok_coded {f CB CM fM : Addr} {fd fdM : FuncData} (F : Fun K "coded" "coded" s_coded f fd) {f_refuse_unplain : Addr} {fd_refuse_unplain : FuncData} (G_refuse_unplain : FnOk P w K mg base (L2.CX P w) 45 f_refuse_unplain fd_refuse_unplain pm_refuse_unplain (sp_refuse_unplain K CB))
    (g_refuse_unplain : mg "refuse_unplain" = some (.ref f_refuse_unplain)) (k_refuse_unplain : PySem.W.keepIn K (.ref f_refuse_unplain) = true) (b_refuse_unplain : Binds K fd_refuse_unplain pm_refuse_unplain []) (C_plain_fits : Cal P w K mg base "plain_fits" pm_plain_fits 3 (sp_plain_fits K))
    (C_power : Cal P w K mg base "power" pm_power 1 sp_power) (T_Misfit : ErC K mg "Misfit" CM fM) (G_Misfit : FnOk P w K mg base CX0 1 fM fdM pm_MisfitI (sp_one CM "path")) (b_Misfit : Binds K fdM pm_MisfitI []) :
    FnOk P w K mg base (L2.CX P w) 46 f fd pm_coded (sp_coded K CB CM) := by
  obtain ⟨f_plain_fits, fd_plain_fits, G_plain_fits, g_plain_fits, k_plain_fits, b_plain_fits⟩ := C_plain_fits.ex
  obtain ⟨f_power, fd_power, G_power, g_power, k_power, b_power⟩ := C_power.ex
  refine F.okX sc_coded (fun vs H Q E h => ?_) (fun cdv A outer s H vs Q E hr h => ?_)
  · obtain ⟨kv, v, d, t, rfl, _⟩ := h
    rfl
  · obtain ⟨kv, v, d, t, rfl, hk, pd, od, hv, pt, qb, qk⟩ := h
    have rm : ∀ {j : Nat}, j ≤ 45 → Room j (A.deeper (envOfC "coded" (defScope s_coded) s.heap.objs.size f cdv)) := fun hj => hr.mono hj
    refine ⟨_, pss_cons (ps_expr (pe_callS G_refuse_unplain (rm (by decide)) (by rfl) g_refuse_unplain k_refuse_unplain b_refuse_unplain (fun σ => passAt (takes_of rfl rfl rfl rfl) σ) (pa_cons (pv 0) pa_nil)))
      (pss_cons (ps_if (pt_not (pt_val (pe_call G_plain_fits (rm (by decide)) (by rfl) g_plain_fits k_plain_fits b_plain_fits .nil pass0 (pa_cons (pv 0) (pa_cons (pv 1) pa_nil)))))
      (pss_one (ps_raise rfl (takes_of rfl rfl rfl rfl) (pmk_oex T_Misfit.o T_Misfit.i T_Misfit.t G_Misfit (rm (by decide)) b_Misfit .nil pass0 (by rfl) T_Misfit.g (pa_cons (pe_tup pa_nil) pa_nil)))) pss_nil)
      (pss_cons (ps_if (pt_cmpR op_eq (pe_ix ix_tup (pv 0) pe_int (fun _ _ => rfl)) pe_str (nomark _))
      (pss_one (ps_ret (pe_ifExp (pt_truth (pv 1) (by intro _; rfl)) pe_int pe_int))) pss_nil)
      (pss_one (ps_ret (pe_ifExp (pt_cmpR op_lt (pv 1) pe_int (nomark _)) (pe_op op_add (pv 1) (pe_call G_power (rm (by decide)) (by rfl) g_power k_power b_power .nil pass0 (pa_cons (pe_ix ix_tup (pv 0) pe_int (fun _ _ => rfl)) pa_nil))) (pv 1)))))), ?_⟩
    refine ⟨kv, rfl, kv, d, rfl, hk, pd, od, fun en H1 s1 => ?_, fun p z er dd pw H' s' e' d' => qb p z er dd pw H' s' e' d'⟩
    obtain ⟨k, ok, rfl⟩ := plain_is en
    obtain ⟨q1, q2⟩ := qk k ok rfl
    have hk1 := (ts_same s1).dp _ _ pd hk
    have hv1 := (ts_same s1).dp _ _ pt hv
    refine ⟨kv, rfl, v, rfl, kv, v, k, t, rfl, hk1, ok, hv1, pt, fitsK k t, rfl, ite2 (fun c => ?_) (fun c => ?_)⟩
    · have c' : fitsK k t = false := by simpa using c
      refine ⟨Nat.zero_le _, fun t2 n2 => ?_⟩
      exact mk1 fun dd H' s' e' => q1 c' dd (.ref t2) H' (s1.trans ((same_upd n2).trans s')) e' (.tup (.inl (.inl (s' _ _ upd_same))) .nil)
    have c' : fitsK k t = true := by simpa using c
    replace q2 := q2 c' H1 s1
    obtain ⟨a, rfl, hs⟩ := kind_at hk1
    rcases fits_shape c' with ⟨rfl, b, rfl⟩ | ⟨nt, et⟩
    · have ev : v = .bl b := by cases hv1; rfl
      subst ev
      refine ⟨.ref a, rfl, a, _, 0, _, rfl, rfl, hs, atI_nat (j := 0) rfl, rfl, _, rfl, ifSY rfl ?_⟩
      refine ⟨.bl b, rfl, b, rfl, ?_⟩
      cases b with
      | true => exact iteT q2
      | false => exact iteF q2
    · generalize hi : valI t = i at et
      subst et
      have ev := dp_int hv1
      subst ev
      have hbk : bitsK k ≤ 64 := ok.2
      cases k with
      | tr => exact absurd rfl nt
      | nat b =>
        have q3 : Q (.int (if i < 0 then i + 2 ^ b else i)) H1 := q2
        refine ⟨.ref a, rfl, a, _, 0, _, rfl, rfl, hs, atI_nat (j := 0) rfl, rfl, _, rfl, ifSN (by decide) ?_⟩
        refine ⟨.int i, rfl, _, _, rfl, rfl, _, rfl, ite2 (fun c2 => ?_) (fun c2 => ?_)⟩
        · rw [if_pos (of_decide_eq_true c2)] at q3
          exact ⟨.int i, rfl, .ref a, rfl, a, _, 1, _, rfl, rfl, hs, atI_nat (j := 1) rfl, b, rfl, (by show b ≤ 100; have : b ≤ 64 := hbk; omega), _, _, rfl, rfl, q3⟩
        · rw [if_neg (fun z => c2 (decide_eq_true z))] at q3
          exact ⟨.int i, rfl, q3⟩
      | int b =>
        have q3 : Q (.int (if i < 0 then i + 2 ^ b else i)) H1 := q2
        refine ⟨.ref a, rfl, a, _, 0, _, rfl, rfl, hs, atI_nat (j := 0) rfl, rfl, _, rfl, ifSN (by decide) ?_⟩
        refine ⟨.int i, rfl, _, _, rfl, rfl, _, rfl, ite2 (fun c2 => ?_) (fun c2 => ?_)⟩
        · rw [if_pos (of_decide_eq_true c2)] at q3
          exact ⟨.int i, rfl, .ref a, rfl, a, _, 1, _, rfl, rfl, hs, atI_nat (j := 1) rfl, b, rfl, (by show b ≤ 100; have : b ≤ 64 := hbk; omega), _, _, rfl, rfl, q3⟩
        · rw [if_neg (fun z => c2 (decide_eq_true z))] at q3
          exact ⟨.int i, rfl, q3⟩
def sp_decoded (K : PySem.W.Frag) (CB CN : Addr) : Sp := fun vs H Q E => ∃ (kv v : V) (d t : PyData), vs = [kv, v] ∧ Dp K H kv d ∧ pl d = true ∧ okD d = true ∧ Dp K H v t ∧ pl t = true ∧ Bad K CB H d E ∧
  ∀ k : PKd, k.ok → d = kindD k → (btw t 0 (2 ^ bitsK k - 1) = false → ∀ (dd : Addr) (H' : Hp), Same H H' → H' dd = some (.xd [("code", v)]) → E (.ref CN) (some dd) H') ∧ (btw t 0 (2 ^ bitsK k - 1) = true → ∀ H' r, Same H H' → Dp K H' r (decK k (valI t)) → Q r H')
theorem ok_decoded {f CB CN fN : Addr} {fd fdN : FuncData} (F : Fun K "decoded" "decoded" s_decoded f fd) {f_refuse_unplain : Addr} {fd_refuse_unplain : FuncData} (G_refuse_unplain : FnOk P w K mg base (L2.CX P w) 45 f_refuse_unplain fd_refuse_unplain pm_refuse_unplain (sp_refuse_unplain K CB))
    (g_refuse_unplain : mg "refuse_unplain" = some (.ref f_refuse_unplain)) (k_refuse_unplain : PySem.W.keepIn K (.ref f_refuse_unplain) = true) (b_refuse_unplain : Binds K fd_refuse_unplain pm_refuse_unplain []) (C_is_between : Cal P w K mg base "is_between" pm_is_between 2 (sp_is_between K))
    (C_power : Cal P w K mg base "power" pm_power 1 sp_power) (T_NoCode : ErC K mg "NoCode" CN fN) (G_NoCode : FnOk P w K mg base CX0 1 fN fdN pm_NoCodeI (sp_one CN "code")) (b_NoCode : Binds K fdN pm_NoCodeI []) :
    FnOk P w K mg base (L2.CX P w) 46 f fd pm_decoded (sp_decoded K CB CN) := by
  obtain ⟨f_is_between, fd_is_between, G_is_between, g_is_between, k_is_between, b_is_between⟩ := C_is_between.ex
  obtain ⟨f_power, fd_power, G_power, g_power, k_power, b_power⟩ := C_power.ex
  refine F.okX sc_decoded (fun vs H Q E h => ?_) (fun cdv A outer s H vs Q E hr h => ?_)
  · obtain ⟨kv, v, d, t, rfl, _⟩ := h
    rfl
  · obtain ⟨kv, v, d, t, rfl, hk, pd, od, hv, pt, qb, qk⟩ := h
    have rm : ∀ {j : Nat}, j ≤ 45 → Room j (A.deeper (envOfC "decoded" (defScope s_decoded) s.heap.objs.size f cdv)) := fun hj => hr.mono hj
    refine ⟨_, pss_cons (ps_expr (pe_callS G_refuse_unplain (rm (by decide)) (by rfl) g_refuse_unplain k_refuse_unplain b_refuse_unplain (fun σ => passAt (takes_of rfl rfl rfl rfl) σ) (pa_cons (pv 0) pa_nil)))
      (pss_cons (ps_set (i := 2) sc_decoded.nd rfl (.inl rfl) (pe_ifExp (pt_cmpR op_eq (pe_ix ix_tup (pv 0) pe_int (fun _ _ => rfl)) pe_str (nomark _)) pe_int (pe_ix ix_tup (pv 0) pe_int (fun _ _ => rfl))))
      (pss_cons (ps_if (pt_not (pt_val (pe_call G_is_between (rm (by decide)) (by rfl) g_is_between k_is_between b_is_between .nil pass0 (pa_cons (pv 1) (pa_cons pe_int (pa_cons (pe_op op_sub (pe_call G_power (rm (by decide)) (by rfl) g_power k_power b_power .nil pass0 (pa_cons (pv 2) pa_nil)) pe_int) pa_nil))))))
      (pss_one (ps_raise rfl (takes_of rfl rfl rfl rfl) (pmk_oex T_NoCode.o T_NoCode.i T_NoCode.t G_NoCode (rm (by decide)) b_NoCode .nil pass0 (by rfl) T_NoCode.g (pa_cons (pv 1) pa_nil)))) pss_nil)
      (pss_cons (ps_if (pt_cmpR op_eq (pe_ix ix_tup (pv 0) pe_int (fun _ _ => rfl)) pe_str (nomark _))
      (pss_one (ps_ret (pe_cmpR op_eq (pv 1) pe_int (nomark _)))) pss_nil)
      (pss_cons (ps_if (PW.pt (pw_and (pt_cmpR op_eq (pe_ix ix_tup (pv 0) pe_int (fun _ _ => rfl)) pe_str (nomark _)) (pw_and1 (pt_cmpR op_ge (pv 1) (pe_call G_power (rm (by decide)) (by rfl) g_power k_power b_power .nil pass0 (pa_cons (pe_op op_sub (pv 2) pe_int) pa_nil)) (nomark _)))))
      (pss_one (ps_ret (pe_op op_sub (pv 1) (pe_call G_power (rm (by decide)) (by rfl) g_power k_power b_power .nil pass0 (pa_cons (pv 2) pa_nil))))) pss_nil)
      (pss_one (ps_ret (pv 1))))))), ?_⟩
    refine ⟨kv, rfl, kv, d, rfl, hk, pd, od, fun en H1 s1 => ?_, fun p z er dd pw H' s' e' d' => qb p z er dd pw H' s' e' d'⟩
    obtain ⟨k, ok, rfl⟩ := plain_is en
    obtain ⟨q1, q2⟩ := qk k ok rfl
    have hk1 := (ts_same s1).dp _ _ pd hk
    have hv1 := (ts_same s1).dp _ _ pt hv
    obtain ⟨a, rfl, hs⟩ := kind_at hk1
    have hbk : bitsK k ≤ 64 := ok.2
    cases k with
    | tr =>
      refine ⟨.ref a, rfl, a, _, 0, _, rfl, rfl, hs, atI_nat (j := 0) rfl, rfl, _, rfl, ifSY rfl ?_⟩
      refine ⟨v, rfl, .int 1, rfl, 1, rfl, by decide, _, _, rfl, rfl, v, t, 0, _, rfl, hv1, pt, _, rfl, ite2 (fun c => ?_) (fun c => ?_)⟩
      · have c' : btw t 0 (2 ^ 1 - 1) = false := by simpa using c
        exact ⟨v, rfl, mk1 fun dd H' s' e' => q1 c' dd H' (s1.trans s') e'⟩
      have c' : btw t 0 (2 ^ 1 - 1) = true := by simpa using c
      replace q2 := q2 c' H1
      have et := isW_int (btw_iff.mp c').1
      generalize hi : valI t = i at et q2
      subst et
      have ev := dp_int hv1
      subst ev
      refine ⟨.ref a, rfl, a, _, 0, _, rfl, rfl, hs, atI_nat (j := 0) rfl, rfl, _, rfl, ifSY rfl ?_⟩
      have e1 : decide (V.int i = V.int 1) = decide (i = 1) := by
        by_cases z : i = 1
        · rw [decide_eq_true z, decide_eq_true (by rw [z])]
        · rw [decide_eq_false z, decide_eq_false fun z' => z (V.int.inj z')]
      refine ⟨.int i, rfl, rfl, ?_⟩
      show Q (.bl (decide (V.int i = V.int 1))) H1
      rw [e1]
      exact q2 _ s1 (.bl _)
    | nat b =>
      have hb : b ≤ 64 := hbk
      refine ⟨.ref a, rfl, a, _, 0, _, rfl, rfl, hs, atI_nat (j := 0) rfl, rfl, _, rfl, ifSN (by decide) ?_⟩
      refine ⟨.ref a, rfl, a, _, 1, _, rfl, rfl, hs, atI_nat (j := 1) rfl, ?_⟩
      refine ⟨v, rfl, .int (b : Int), rfl, b, rfl, by omega, _, _, rfl, rfl, v, t, 0, _, rfl, hv1, pt, _, rfl, ite2 (fun c => ?_) (fun c => ?_)⟩
      · have c' : btw t 0 (2 ^ b - 1) = false := by simpa using c
        exact ⟨v, rfl, mk1 fun dd H' s' e' => q1 c' dd H' (s1.trans s') e'⟩
      have c' : btw t 0 (2 ^ b - 1) = true := by simpa using c
      replace q2 := q2 c' H1
      have et := isW_int (btw_iff.mp c').1
      generalize hi : valI t = i at et q2
      subst et
      have ev := dp_int hv1
      subst ev
      refine ⟨.ref a, rfl, a, _, 0, _, rfl, rfl, hs, atI_nat (j := 0) rfl, rfl, _, rfl, ifSN (by decide) ?_⟩
      refine ⟨.ref a, rfl, a, _, 0, _, rfl, rfl, hs, atI_nat (j := 0) rfl, rfl, _, rfl, ifSN (by decide) ?_⟩
      exact ⟨.int i, rfl, q2 _ s1 (.int _)⟩
    | int b =>
      have hb : 1 ≤ b ∧ b ≤ 64 := ok
      refine ⟨.ref a, rfl, a, _, 0, _, rfl, rfl, hs, atI_nat (j := 0) rfl, rfl, _, rfl, ifSN (by decide) ?_⟩
      refine ⟨.ref a, rfl, a, _, 1, _, rfl, rfl, hs, atI_nat (j := 1) rfl, ?_⟩
      refine ⟨v, rfl, .int (b : Int), rfl, b, rfl, by omega, _, _, rfl, rfl, v, t, 0, _, rfl, hv1, pt, _, rfl, ite2 (fun c => ?_) (fun c => ?_)⟩
      · have c' : btw t 0 (2 ^ b - 1) = false := by simpa using c
        exact ⟨v, rfl, mk1 fun dd H' s' e' => q1 c' dd H' (s1.trans s') e'⟩
      have c' : btw t 0 (2 ^ b - 1) = true := by simpa using c
      replace q2 := q2 c' H1
      have et := isW_int (btw_iff.mp c').1
      generalize hi : valI t = i at et q2
      subst et
      have ev := dp_int hv1
      subst ev
      refine ⟨.ref a, rfl, a, _, 0, _, rfl, rfl, hs, atI_nat (j := 0) rfl, rfl, _, rfl, ifSN (by decide) ?_⟩
      refine ⟨.ref a, rfl, a, _, 0, _, rfl, rfl, hs, atI_nat (j := 0) rfl, rfl, _, rfl, ifSY rfl ?_⟩
      refine ⟨.int i, rfl, .int (b : Int), rfl, _, _, rfl, rfl, b - 1, ?_, by omega, _, _, rfl, rfl, _, rfl, ite2 (fun c2 => ?_) (fun c2 => ?_)⟩
      · have e : (b : Int) - 1 = ((b - 1 : Nat) : Int) := by omega
        rw [← e]
        rfl
      · have q3 := q2 (.int (i - 2 ^ b)) s1 (by
          show Dp K H1 _ (if 2 ^ (b - 1) ≤ i then .int (i - 2 ^ b) else .int i)
          rw [if_pos (of_decide_eq_true c2)]
          exact .int _)
        exact ⟨.int i, rfl, .int (b : Int), rfl, b, rfl, by omega, _, _, rfl, rfl, q3⟩
      · have q3 := q2 (.int i) s1 (by
          show Dp K H1 _ (if 2 ^ (b - 1) ≤ i then .int (i - 2 ^ b) else .int i)
          rw [if_neg (fun z => c2 (decide_eq_true z))]
          exact .int _)
        exact ⟨.int i, rfl, q3⟩
end
end K3
namespace K3
open PySem PySem.Spec PyProof.Rows L2 K1
abbrev s__law_deck : Stmt := topS 41
abbrev nm__law_deck : List Str := ["_law_script", "_law_cells", "_law_cell"]
abbrev pm__law_deck : List Str := ["_law_script"]
theorem sc__law_deck : FnScope nm__law_deck pm__law_deck (defScope s__law_deck) := ⟨rfl, rfl, rfl, by decide +kernel, rfl, by decide +kernel, by decide +kernel⟩
abbrev s__law_pick : Stmt := topS 42
abbrev nm__law_pick : List Str := ["_law_deck_here", "_law_many", "_law_cells", "_law_drawn", "_law_left", "_law_at", "_law_digit", "_law_low", "_law_high"]
abbrev pm__law_pick : List Str := ["_law_deck_here", "_law_many"]
theorem sc__law_pick : FnScope nm__law_pick pm__law_pick (defScope s__law_pick) := ⟨rfl, rfl, rfl, by decide +kernel, rfl, by decide +kernel, by decide +kernel⟩
section
variable {P : Program} {w : World} {K : PySem.W.Frag} {mg : Str → Option Value} {base : Heap}
def sp__law_pick : Sp := fun vs H Q _ => ∃ (dk cl lf : Addr) (B : Nat) (m : Int), vs = [.ref dk, .int m] ∧ Dk H dk cl lf B ∧ B ≤ 2 ^ 40 ∧ 0 < m ∧ m.natAbs.log2 < 9000 ∧
  ∀ (d : Int) (H' : Hp), 0 ≤ d → d < m → Dk H' dk cl lf (B + 1) → KD dk lf H H' → Q (.int d) H'
def sp__law_deck (K : PySem.W.Frag) : Sp := fun vs H Q _ => ∃ (a : Addr) (ns : List Int), vs = [.ref a] ∧ SqL K H a (ns.map V.int) ∧ ns.length ≤ 63 ∧
  ∀ (dk cl lf : Addr) (H' : Hp), Dk H' dk cl lf 0 → Same H H' → H dk = none → H lf = none → Q (.ref dk) H'
theorem ok__law_pick {f : Addr} {fd : FuncData} (F : Fun K "_law_pick" "_law_pick" s__law_pick f fd) (m_len : mg "len" = none) : FnOk P w K mg base CX0 1 f fd pm__law_pick sp__law_pick := by
  refine F.ok sc__law_pick (fun vs H Q E h => ?_) (fun cdv A outer s H vs Q E hr h => ?_)
  · obtain ⟨dk, cl, lf, B, m, rfl, _⟩ := h
    rfl
  · obtain ⟨dk, cl, lf, B, m, rfl, ⟨⟨cells, lefts, n, e1, e2, e3, hlen, hpos, hmx, hn, hnB⟩, hne⟩, hB, hm, hm2, q⟩ := h
    refine ⟨_, pss_cons (ps_asg (pv 0) (pg_unl rfl (pgs_cons (pg_name (i := 2) sc__law_pick.nd rfl (.inl rfl)) (pgs_cons (pg_name (i := 3) sc__law_pick.nd rfl (.inl rfl)) (pgs_cons (pg_name (i := 4) sc__law_pick.nd rfl (.inl rfl)) pgs_nil)))))
      (pss_cons (ps_set (i := 5) sc__law_pick.nd rfl (.inl rfl) (pe_op op_mod (pv 3) (pe_callB call_len_seq (by rfl) m_len PySem.boot_len (pa_cons (pv 2) pa_nil))))
      (pss_cons (ps_asg (pe_op op_add (pv 3) pe_int) (pg_sub (pv 0) pe_int set_list))
      (pss_cons (ps_if (pt_cmpR op_gt (pe_ix ix_list (pv 4) (pv 5) (fun _ _ => rfl)) pe_int (nomark _))
      (pss_cons (ps_set (i := 6) sc__law_pick.nd rfl (.inl rfl) (pe_op op_mod (pe_ix ix_list (pv 4) (pv 5) (fun _ _ => rfl)) (pv 1)))
      (pss_cons (ps_asg (pe_op op_fdivW (pe_ix ix_list (pv 4) (pv 5) (fun _ _ => rfl)) (pv 1)) (pg_sub (pv 4) (pv 5) set_list))
      (pss_one (ps_ret (pv 6))))) pss_nil)
      (pss_cons (ps_set (i := 7) sc__law_pick.nd rfl (.inl rfl) (pe_op op_mod (pe_op op_mul (pe_op op_add (pe_op op_mod (pe_ix ix_list (pv 2) (pv 5) (fun _ _ => rfl)) pe_int) pe_int) (pe_op op_add (pe_op op_add (pe_op op_mul pe_int (pv 3)) pe_int) (pv 5))) pe_int))
      (pss_cons (ps_set (i := 8) sc__law_pick.nd rfl (.inl rfl) (pe_op op_add (pe_op op_mod (pe_op op_fdivW (pe_ix ix_list (pv 2) (pv 5) (fun _ _ => rfl)) pe_int) pe_int) pe_int))
      (pss_cons (ps_set (i := 8) sc__law_pick.nd rfl (.inl rfl) (pe_op op_mod (pe_op op_mul (pv 8) (pe_op op_add pe_int (pe_op op_mul pe_int (pv 3)))) pe_int))
      (pss_cons (ps_set (i := 7) sc__law_pick.nd rfl (.inl rfl) (pe_op op_mod (pe_op op_add (pe_op op_add (pe_op op_mul (pv 7) (pv 7)) (pe_op op_mul pe_int (pv 8))) (pv 3)) pe_int))
      (pss_cons (ps_set (i := 8) sc__law_pick.nd rfl (.inl rfl) (pe_op op_mod (pe_op op_add (pe_op op_add (pe_op op_mul (pv 8) (pv 8)) (pe_op op_mul pe_int (pv 7))) (pv 5)) pe_int))
      (pss_one (ps_ret (pe_op op_mod (pe_op op_mod (pe_op op_add (pe_op op_mul (pv 7) pe_int) (pv 8)) pe_int) (pv 1)))))))))))), ?_⟩
    have hS1 : SqL K H dk [.ref cl, .int n, .ref lf] := .inl (.inl e1)
    have hS2 : SqL K H cl (cells.map V.int) := .inl (.inl e2)
    refine ⟨.ref dk, rfl, dk, _, rfl, hS1, rfl, _, _, rfl, _, _, rfl, _, _, rfl, rfl, ?_⟩
    refine ⟨.int n, rfl, .ref cl, rfl, cl, _, rfl, .inl hS2, n, (cells.map V.int).length, rfl, rfl, ?_, ?_⟩
    · show (0 : Int) < ((cells.map V.int).length : Nat)
      rw [List.length_map]
      omega
    · have hlm : (cells.map V.int).length = cells.length := List.length_map ..
      obtain ⟨j, hj, ej⟩ : ∃ j : Nat, j < cells.length ∧ n % (((cells.map V.int).length : Nat) : Int) = (j : Int) := by
        have hb := emod_bounds n (m := ((cells.map V.int).length : Nat)) (by rw [hlm]; omega)
        rw [hlm] at hb ⊢
        exact ⟨(n % (cells.length : Int)).toNat, by omega, by omega⟩
      have eat : ((fun i j => V.int (i % j)) n (((cells.map V.int).length : Nat) : Int)) = V.int (j : Int) := congrArg V.int ej
      rw [eat]
      have hj2 : j < lefts.length := by omega
      have gc : (cells.map V.int)[j]? = some (.int cells[j]) := by rw [List.getElem?_map, List.getElem?_eq_getElem hj]; rfl
      have gl : (lefts.map V.int)[j]? = some (.int lefts[j]) := by rw [List.getElem?_map, List.getElem?_eq_getElem hj2]; rfl
      have nd1 : cl ≠ dk := ne_of e2 e1 (fun z => by
        injection z with z
        cases cells with
        | nil => simp at hpos
        | cons c r => simp at z)
      have nd2 : lf ≠ dk := ne_of e3 e1 (fun z => by
        injection z with z
        cases lefts with
        | nil => simp at hj2
        | cons c r => simp at z)
      refine ⟨.int n, rfl, n, 1, rfl, rfl, .ref dk, rfl, dk, _, 1, 1, rfl, rfl, e1, rfl, ?_⟩
      generalize hH1 : upd H dk (HO.lst ([V.ref cl, V.int n, V.ref lf].set 1 (V.int (n + 1)))) = H1
      have f1 : H1 dk = some (.lst [.ref cl, .int (n + 1), .ref lf]) := by rw [← hH1, upd_same]; rfl
      have f2 : H1 cl = some (.lst (cells.map V.int)) := by rw [← hH1, upd_ne nd1]; exact e2
      have f3 : H1 lf = some (.lst (lefts.map V.int)) := by rw [← hH1, upd_ne nd2]; exact e3
      have k1 : KD dk lf H H1 := fun b o n1 n2 e => by rw [← hH1, upd_ne n1]; exact e
      have D1 : Dk H1 dk cl lf (B + 1) := ⟨⟨cells, lefts, n + 1, f1, f2, f3, hlen, hpos, hmx, by omega, by omega⟩, hne⟩
      have sl : SqL K H1 lf (lefts.map V.int) := .inl (.inl f3)
      have sc : SqL K H1 cl (cells.map V.int) := .inl (.inl f2)
      refine ⟨.ref lf, rfl, .int j, rfl, lf, _, _, _, rfl, rfl, sl, atI_nat gl, _, _, rfl, rfl, _, rfl, ite2 (fun _ => ?_) (fun _ => ?_)⟩
      · refine ⟨.ref lf, rfl, .int j, rfl, lf, _, _, _, rfl, rfl, sl, atI_nat gl, .int m, rfl, _, _, rfl, rfl, hm, ?_⟩
        refine ⟨.ref lf, rfl, .int j, rfl, lf, _, _, _, rfl, rfl, sl, atI_nat gl, .int m, rfl, _, _, rfl, rfl, ⟨hm, hm2⟩, .ref lf, rfl, .int j, rfl, lf, _, j, j, rfl, rfl, f3, ?_, ?_⟩
        · rw [List.length_map]
          unfold ixN
          rw [if_pos (by omega), if_pos (by omega)]
          simp
        · refine ⟨_, rfl, q _ _ (Int.emod_nonneg _ (by omega)) (Int.emod_lt_of_pos _ hm) ⟨⟨cells, lefts.set j (lefts[j] / m), n + 1, ?_, ?_, ?_, ?_, hpos, hmx, by omega, by omega⟩, hne⟩ ?_⟩
          · rw [upd_ne nd2.symm]; exact f1
          · rw [upd_ne hne]; exact f2
          · rw [upd_same, List.map_set]
          · rw [List.length_set]; exact hlen
          · intro b o n1 n2 e
            rw [upd_ne n2]
            exact k1 b o n1 n2 e
      · have c1 := emod_bounds cells[j] (m := 2147483647) (by decide)
        have hn40 : (n : Int) ≤ 2 ^ 40 := by omega
        refine ⟨.ref cl, rfl, .int j, rfl, cl, _, _, _, rfl, rfl, sc, atI_nat gc, _, _, rfl, rfl, (by show (0 : Int) < 2147483647; decide), _, _, rfl, rfl, .int n, rfl, _, _, rfl, rfl, .inl ⟨by decide, by decide⟩, _, _, rfl, rfl, .int j, rfl, _, _, rfl, rfl, _, _, rfl, rfl, .inl ⟨by omega, by omega⟩, _, _, rfl, rfl, (by show (0 : Int) < 2147483629; decide), ?_⟩
        dsimp only
        generalize h1 : (cells[j] % 2147483647 + 1) * (1299709 * n + 15485863 + (j : Int)) % 2147483629 = low1
        have b1 : 0 ≤ low1 ∧ low1 < 2147483629 := by rw [← h1]; exact emod_bounds _ (by decide)
        refine ⟨.ref cl, rfl, .int j, rfl, cl, _, _, _, rfl, rfl, sc, atI_nat gc, _, _, rfl, rfl, ⟨by decide, by decide⟩, _, _, rfl, rfl, (by show (0 : Int) < 2147483647; decide), _, _, rfl, rfl, ?_⟩
        dsimp only
        generalize h2 : cells[j] / 2147483647 % 2147483647 + 3 = high1
        have b2 : 0 ≤ high1 ∧ high1 < 2147483660 := by
          have := emod_bounds (cells[j] / 2147483647) (m := 2147483647) (by decide)
          omega
        refine ⟨.int high1, rfl, .int n, rfl, _, _, rfl, rfl, .inl ⟨by decide, by decide⟩, _, _, rfl, rfl, _, _, rfl, rfl, .inl ⟨by omega, by omega⟩, _, _, rfl, rfl, (by show (0 : Int) < 2147483587; decide), ?_⟩
        dsimp only
        generalize h3 : high1 * (49979687 + 86028121 * n) % 2147483587 = high2
        have b3 : 0 ≤ high2 ∧ high2 < 2147483587 := by rw [← h3]; exact emod_bounds _ (by decide)
        refine ⟨.int low1, rfl, .int low1, rfl, _, _, rfl, rfl, .inl ⟨by omega, by omega⟩, .int high2, rfl, _, _, rfl, rfl, .inl ⟨by decide, by decide⟩, _, _, rfl, rfl, .int n, rfl, _, _, rfl, rfl, _, _, rfl, rfl, (by show (0 : Int) < 2147483579; decide), ?_⟩
        dsimp only
        generalize h4 : (low1 * low1 + 32452843 * high2 + n) % 2147483579 = low2
        have b4 : 0 ≤ low2 ∧ low2 < 2147483579 := by rw [← h4]; exact emod_bounds _ (by decide)
        refine ⟨.int high2, rfl, .int high2, rfl, _, _, rfl, rfl, .inl ⟨by omega, by omega⟩, .int low2, rfl, _, _, rfl, rfl, .inl ⟨by decide, by decide⟩, _, _, rfl, rfl, .int j, rfl, _, _, rfl, rfl, _, _, rfl, rfl, (by show (0 : Int) < 2147483563; decide), ?_⟩
        dsimp only
        generalize h5 : (high2 * high2 + 67867967 * low2 + (j : Int)) % 2147483563 = high3
        refine ⟨.int low2, rfl, _, _, rfl, rfl, .inl ⟨by omega, by omega⟩, .int high3, rfl, _, _, rfl, rfl, _, _, rfl, rfl, (by show (0 : Int) < 4611686018427387847; decide), .int m, rfl, _, _, rfl, rfl, hm, ?_⟩
        exact q _ _ (Int.emod_nonneg _ (by omega)) (Int.emod_lt_of_pos _ hm) D1 k1
theorem ok__law_deck {f : Addr} {fd : FuncData} (F : Fun K "_law_deck" "_law_deck" s__law_deck f fd) (m_list : mg "list" = none) (m_int : mg "int" = none) (m_len : mg "len" = none) : FnOk P w K mg base CX0 1 f fd pm__law_deck (sp__law_deck K) := by
  refine F.ok sc__law_deck (fun vs H Q E h => ?_) (fun cdv A outer s H vs Q E hr h => ?_)
  · obtain ⟨a, ns, rfl, _⟩ := h
    rfl
  · obtain ⟨a, ns, rfl, hS, hlen, q⟩ := h
    refine ⟨_, pss_cons (ps_set (i := 1) sc__law_deck.nd rfl (.inl rfl) (pe_op op_cat (pe_callTy call_list_of (by rfl) m_list (by decide +kernel) (pa_cons (pe_slice sl_list (pv 0) po_none (po_some pe_int)) pa_nil)) (pe_op op_rep (pe_lst (pa_cons pe_int pa_nil)) (pe_callTy call_int1 (by rfl) m_int (by decide +kernel) (pa_cons (pe_cmpR op_eq (pe_callB call_len_seq (by rfl) m_len PySem.boot_len (pa_cons (pv 0) pa_nil)) pe_int (nomark _)) pa_nil)))))
      (pss_one (ps_ret (pe_lst (pa_cons (pv 1) (pa_cons pe_int (pa_cons (pe_lc (own := [("_law_cell", 2)]) (g := gName 2) (tt := tYes) rfl sc__law_deck.nd (pi_list (pv 1)) (blkOk_by (N := nm__law_deck) (sc := defScope s__law_deck) (by decide +kernel)) (fun _ _ _ _ _ => pg_name (i := 2) sc__law_deck.nd rfl (Or.inl rfl)) (fun _ _ _ _ _ => pts_nil) (fun _ _ _ _ _ => (pe_op op_mul (pv 2) (pe_callTy call_int1 (by rfl) m_int (by decide +kernel) (pa_cons (pe_cmpR op_ge (pv 2) (pe_op op_pow pe_int pe_int) (nomark _)) pa_nil))))) pa_nil)))))), ?_⟩
    refine ⟨.ref a, rfl, 63, rfl, a, _, rfl, hS, fun c nc => ?_⟩
    rw [cut63 _ (by rw [List.length_map]; exact hlen)]
    generalize hH1 : upd H c (HO.lst (ns.map V.int)) = H1
    have s1 : Same H H1 := by rw [← hH1]; exact same_upd nc
    have c1 : H1 c = some (.lst (ns.map V.int)) := by rw [← hH1, upd_same]
    refine ⟨c, _, rfl, .inl (.inl (.inl c1)), fun l nl => ?_⟩
    generalize hH2 : upd H1 l (HO.lst (ns.map V.int)) = H2
    have s2 : Same H1 H2 := by rw [← hH2]; exact same_upd nl
    have c2 : H2 l = some (.lst (ns.map V.int)) := by rw [← hH2, upd_same]
    refine ⟨(by show 1 ≤ sizeLine; decide), fun z nz => ?_⟩
    generalize hH3 : upd H2 z (HO.lst [V.int 0]) = H3
    have s3 : Same H2 H3 := by rw [← hH3]; exact same_upd nz
    have c3 : H3 z = some (.lst [V.int 0]) := by rw [← hH3, upd_same]
    have s03 : Same H H3 := s1.trans (s2.trans s3)
    obtain ⟨kk, hkk, hkv⟩ : ∃ kk : Nat, kk ≤ 1 ∧ (if decide (V.int ((ns.map V.int).length : Nat) = V.int 0) = true then (1 : Int) else 0) = kk ∧ (ns = [] → kk = 1) := by
      by_cases e : ns = []
      · subst e; exact ⟨1, by omega, by simp, fun _ => rfl⟩
      · refine ⟨0, by omega, ?_, fun z => absurd z e⟩
        have : ¬ V.int ((ns.map V.int).length : Nat) = V.int 0 := fun z => e (by
          have z1 := V.int.inj z
          rw [List.length_map] at z1
          exact List.length_eq_zero_iff.mp (by omega))
        rw [decide_eq_false this]
        rfl
    refine ⟨.ref a, rfl, a, _, rfl, .inl (s03.seq hS), rfl, .inr ⟨_, rfl, ?_⟩⟩
    refine ⟨z, _, [V.int 0], rfl, rfl, c3, ?_, ?_, ?_, fun p np => ?_⟩
    · rw [hkv.1]; omega
    · rw [hkv.1]; omega
    · rw [hkv.1]
      show 1 * ((kk : Int)).toNat ≤ sizeLine
      exact Nat.le_trans (show 1 * ((kk : Int)).toNat ≤ 1 by omega) (by decide)
    rw [hkv.1]
    have hrep : (List.replicate ((kk : Int)).toNat [V.int 0]).flatten = (List.replicate kk (0 : Int)).map V.int := by
      rw [Int.toNat_natCast]
      rcases (show kk = 0 ∨ kk = 1 by omega) with e | e <;> (subst e; rfl)
    rw [hrep]
    generalize hH4 : upd H3 p (HO.lst ((List.replicate kk (0 : Int)).map V.int)) = H4
    have s4 : Same H3 H4 := by rw [← hH4]; exact same_upd np
    have c4 : H4 p = some (.lst ((List.replicate kk (0 : Int)).map V.int)) := by rw [← hH4, upd_same]
    refine ⟨l, p, _, _, rfl, rfl, s4 _ _ (s3 _ _ c2), c4, ?_, fun r nr => ?_⟩
    · rw [List.length_map, List.length_map, List.length_replicate]
      exact Nat.le_trans (show ns.length + kk ≤ 64 by omega) (by decide)
    rw [← List.map_append]
    generalize hcells : ns ++ List.replicate kk 0 = cells
    have hcl : 0 < cells.length ∧ cells.length ≤ 100 := by
      rw [← hcells, List.length_append, List.length_replicate]
      refine ⟨?_, by omega⟩
      cases ns with
      | nil => have := hkv.2 rfl; omega
      | cons x r => simp; omega
    generalize hH5 : upd H4 r (HO.lst (cells.map V.int)) = H5
    have s5 : Same H4 H5 := by rw [← hH5]; exact same_upd nr
    have c5 : H5 r = some (.lst (cells.map V.int)) := by rw [← hH5, upd_same]
    have s05 : Same H H5 := s03.trans (s4.trans s5)
    refine ⟨.ref r, rfl, .ref r, rfl, r, rfl, ⟨_, .inl (.inl c5)⟩, fun D hD => lc_list (xs := cells.map V.int) (fun i H' => ∃ lefts : List Int, lefts.length = i ∧ H' D = some (.lst (lefts.map V.int)) ∧ Same H5 H') ⟨[], rfl, upd_same, same_upd hD⟩
      (fun i H' _ hp => ?_) (fun i x H' hx hp => ?_) (fun H' hp => ?_)⟩
    · obtain ⟨_, _, _, sm⟩ := hp
      exact .inl (.inl (sm _ _ c5))
    · obtain ⟨lefts, el, eD, sm⟩ := hp
      obtain ⟨n, rfl⟩ : ∃ n, x = V.int n := by
        rw [List.getElem?_map] at hx
        cases h : cells[i]? with
        | none => rw [h] at hx; cases hx
        | some n => rw [h] at hx; exact ⟨n, (Option.some.inj hx).symm⟩
      have hi : i < cells.length := by
        have := (List.getElem?_eq_some_iff.mp hx).1
        rwa [List.length_map] at this
      refine ⟨rfl, ?_⟩
      refine iteT (B := ∃ lefts : List Int, lefts.length = i + 1 ∧ H' D = some (.lst (lefts.map V.int)) ∧ Same H5 H') ?_
      refine ⟨.int n, rfl, .int n, rfl, _, _, rfl, rfl, ⟨by decide, by decide, by decide⟩, _, _, rfl, rfl, .inr ⟨_, rfl, _, _, rfl, rfl, .inr ?_, ?_⟩⟩
      · constructor
        · split <;> decide
        · split <;> decide
      · refine ⟨_, eD, ?_, lefts ++ [n * (if decide (10 ^ Int.toNat 18 ≤ n) = true then 1 else 0)], ?_, ?_, ?_⟩
        · rw [List.length_map]
          exact Nat.lt_of_le_of_lt (show lefts.length ≤ 100 by omega) (by decide)
        · rw [List.length_append, el]; rfl
        · rw [upd_same, List.map_append]; rfl
        · intro b o e
          rw [upd_ne (ne_of_none e hD)]
          exact sm b o e
    · obtain ⟨lefts, el, eD, sm⟩ := hp
      refine ⟨(by show 3 ≤ sizeLine; decide), fun dk ndk => ?_⟩
      have eDr : r ≠ D := ne_of_none c5 hD
      refine q dk r D _ ⟨⟨cells, lefts, 0, upd_same, ?_, ?_, ?_, hcl.1, hcl.2, by omega, by omega⟩, eDr⟩ ?_ ?_ ?_
      · rw [upd_ne (ne_of_none (sm _ _ c5) ndk)]; exact sm _ _ c5
      · rw [upd_ne (ne_of_none eD ndk)]; exact eD
      · rw [el, List.length_map]
      · exact (s05.trans sm).trans (same_upd ndk)
      · exact (s05.trans sm).free ndk
      · exact s05.free hD
end
end K3
namespace K3
open PySem PySem.Spec PyProof.Rows L2 K1
abbrev s__law_power : Stmt := topS 43
abbrev nm__law_power : List Str := ["_law_bits", "_law_found", "_law_k"]
abbrev pm__law_power : List Str := ["_law_bits"]
theorem sc__law_power : FnScope nm__law_power pm__law_power (defScope s__law_power) := ⟨rfl, rfl, rfl, by decide +kernel, rfl, by decide +kernel, by decide +kernel⟩
abbrev s__law_any : Stmt := topS 44
abbrev nm__law_any : List Str := ["_law_deck_here", "_law_many", "_law_way"]
abbrev pm__law_any : List Str := ["_law_deck_here", "_law_many"]
theorem sc__law_any : FnScope nm__law_any pm__law_any (defScope s__law_any) := ⟨rfl, rfl, rfl, by decide +kernel, rfl, by decide +kernel, by decide +kernel⟩
section
variable {P : Program} {w : World} {K : PySem.W.Frag} {mg : Str → Option Value} {base : Heap}
def sp__law_power : Sp := fun vs H Q _ => ∃ b : Nat, vs = [.int (b : Int)] ∧ b ≤ 64 ∧ Q (.int (2 ^ b)) H
theorem ok__law_power {f : Addr} {fd : FuncData} (F : Fun K "_law_power" "_law_power" s__law_power f fd) (m_range : mg "range" = none) : FnOk P w K mg base CX0 1 f fd pm__law_power sp__law_power := by
  refine F.ok sc__law_power (fun vs H Q E h => ?_) (fun cdv A outer s H vs Q E hr h => ?_)
  · obtain ⟨b, rfl, _⟩ := h
    rfl
  · obtain ⟨b, rfl, hb, q⟩ := h
    refine ⟨_, pss_cons (ps_set (i := 1) sc__law_power.nd rfl (.inl rfl) pe_int)
      (pss_cons (ps_for PassesOwn.never rfl (pi_range1 (by rfl) m_range (pa_cons (pv 0) pa_nil)) (pg_name (i := 2) sc__law_power.nd rfl (.inl rfl))
      (pss_one (ps_set (i := 1) sc__law_power.nd rfl (.inl rfl) (pe_op op_mul (pv 1) pe_int))))
      (pss_one (ps_ret (pv 1)))), ?_⟩
    refine ⟨.int (b : Int), rfl, (b : Int), rfl, by omega, by omega, for_range (lo := 0) (n := ((b : Int)).toNat) (fun i σ H' => ∃ x2 : Option V, σ = [some (.int (b : Int)), some (.int (2 ^ i)), x2] ∧ H' = H) ⟨none, rfl, rfl⟩ (fun i σ H' hi hp => ?_) (fun σ H' hp => ?_)⟩
    · obtain ⟨x2, rfl, rfl⟩ := hp
      refine ⟨.int (2 ^ i), rfl, _, _, rfl, rfl, .inr ⟨by decide, by decide⟩, ?_⟩
      refine ⟨some (V.int (0 + (i : Int))), ?_, rfl⟩
      show [some (V.int (b : Int)), some (V.int (2 ^ i * 2)), some (V.int (0 + (i : Int)))] = _
      rw [← Int.pow_succ]
    · obtain ⟨x2, rfl, rfl⟩ := hp
      rw [Int.toNat_natCast]
      exact ⟨_, rfl, q⟩
def sp__law_any (K : PySem.W.Frag) : Sp := fun vs H Q _ => ∃ (dk cl lf : Addr) (B : Nat) (m : Int), vs = [.ref dk, .int m] ∧ Dk H dk cl lf B ∧ B + 10 ≤ 2 ^ 40 ∧ 0 < m ∧ m ≤ 2 ^ 64 ∧
  ∀ (d : Int) (H' : Hp), 0 ≤ d → d < m → Dk H' dk cl lf (B + 3) → KD dk lf H H' → Q (.int d) H'
theorem log_small {m : Int} (h0 : 0 < m) (h : m ≤ 2 ^ 64) : m.natAbs.log2 < 9000 := by
  have h1 : m.natAbs ≤ 2 ^ 64 := by omega
  have h2 : m.natAbs.log2 < 65 := (Nat.log2_lt (by omega)).mpr (by omega)
  omega
theorem ok__law_any {f : Addr} {fd : FuncData} (F : Fun K "_law_any" "_law_any" s__law_any f fd) (C__law_pick : Cal P w K mg base "_law_pick" pm__law_pick 1 sp__law_pick) : FnOk P w K mg base CX0 2 f fd pm__law_any (sp__law_any K) := by
  obtain ⟨f__law_pick, fd__law_pick, G__law_pick, g__law_pick, k__law_pick, b__law_pick⟩ := C__law_pick.ex
  refine F.ok sc__law_any (fun vs H Q E h => ?_) (fun cdv A outer s H vs Q E hr h => ?_)
  · obtain ⟨dk, cl, lf, B, m, rfl, _⟩ := h
    rfl
  · obtain ⟨dk, cl, lf, B, m, rfl, D, hB, h0, hm, q⟩ := h
    have rm : ∀ {j : Nat}, j ≤ 1 → Room j (A.deeper (envOfC "_law_any" (defScope s__law_any) s.heap.objs.size f cdv)) := fun hj => hr.mono hj
    refine ⟨_, pss_cons (ps_set (i := 2) sc__law_any.nd rfl (.inl rfl) (pe_call G__law_pick (rm (by decide)) (by rfl) g__law_pick k__law_pick b__law_pick .nil pass0 (pa_cons (pv 0) (pa_cons pe_int pa_nil))))
      (pss_cons (ps_if (pt_cmpR op_lt (pv 2) pe_int (nomark _))
      (pss_one (ps_ret (pe_ix ix_list (pe_lst (pa_cons pe_int (pa_cons (pe_op op_sub (pv 1) pe_int) (pa_cons (pe_op op_fdivW (pv 1) pe_int) pa_nil)))) (pv 2) (fun _ _ => rfl)))) pss_nil)
      (pss_one (ps_ret (pe_op op_mod (pe_op op_mul (pe_op op_add (pe_op op_mul (pe_call G__law_pick (rm (by decide)) (by rfl) g__law_pick k__law_pick b__law_pick .nil pass0 (pa_cons (pv 0) (pa_cons pe_int pa_nil))) pe_int) (pe_call G__law_pick (rm (by decide)) (by rfl) g__law_pick k__law_pick b__law_pick .nil pass0 (pa_cons (pv 0) (pa_cons pe_int pa_nil)))) (pe_op op_add pe_int (pe_op op_mul pe_int (pe_op op_sub (pv 2) pe_int)))) (pv 1))))), ?_⟩
    refine ⟨.ref dk, rfl, dk, cl, lf, B, 5, rfl, D, by omega, by decide, by decide +kernel, fun wy H1 w0 w1 D1 k1 => ?_⟩
    refine ⟨.int wy, rfl, _, _, rfl, rfl, _, rfl, ite2 (fun c => ?_) (fun c => ?_)⟩
    · have c' : wy < 3 := of_decide_eq_true c
      refine ⟨.int m, rfl, _, _, rfl, rfl, .int m, rfl, _, _, rfl, rfl, ⟨by decide, by decide⟩, (by show 3 ≤ sizeLine; decide), fun l nl => ?_⟩
      have s2 : Same H1 (upd H1 l (.lst [.int 0, .int (m - 1), .int (m / 2)])) := same_upd nl
      obtain ⟨j, hj, ej⟩ : ∃ j : Nat, j < 3 ∧ wy = (j : Int) := ⟨wy.toNat, by omega, by omega⟩
      have hd : ∃ x : Int, ([V.int 0, V.int (m - 1), V.int (m / 2)] : List V)[j]? = some (.int x) ∧ 0 ≤ x ∧ x < m := by
        have h2 : 0 ≤ m / 2 ∧ m / 2 < m := by omega
        rcases (show j = 0 ∨ j = 1 ∨ j = 2 by omega) with e | e | e <;> subst e
        · exact ⟨_, rfl, by omega, by omega⟩
        · exact ⟨_, rfl, by omega, by omega⟩
        · exact ⟨_, rfl, h2.1, h2.2⟩
      obtain ⟨x, gx, x0, x1⟩ := hd
      refine ⟨.int wy, rfl, l, _, wy, .int x, rfl, rfl, .inl (.inl upd_same), atI_of ej gx, ?_⟩
      exact q _ _ x0 x1 ((D1.same s2).mono (by omega)) (k1.trans (KD.of_same s2))
    · refine ⟨.ref dk, rfl, dk, cl, lf, B + 1, 2147483648, rfl, D1, by omega, by decide, by decide +kernel, fun a H2 a0 a1 D2 k2 => ?_⟩
      refine ⟨_, _, rfl, rfl, .inl ⟨by omega, by omega⟩, ?_⟩
      refine ⟨.ref dk, rfl, dk, cl, lf, B + 1 + 1, 4294967296, rfl, D2, by omega, by decide, by decide +kernel, fun b H3 b0 b1 D3 k3 => ?_⟩
      refine ⟨_, _, rfl, rfl, .int wy, rfl, _, _, rfl, rfl, _, _, rfl, rfl, .inl ⟨by decide, by decide⟩, _, _, rfl, rfl, _, _, rfl, rfl, .inr ⟨by omega, by omega⟩, .int m, rfl, _, _, rfl, rfl, h0, ?_⟩
      exact q _ _ (Int.emod_nonneg _ (by omega)) (Int.emod_lt_of_pos _ h0) (D3.mono (by omega)) ((k1.trans k2).trans k3)
end
end K3
namespace K3
open PySem PySem.Spec PyProof.Rows L2 K1
abbrev s__law_asked : Stmt := topS 45
abbrev nm__law_asked : List Str := ["_law_way", "_law_kind", "_law_thing", "_law_found", "e"]
abbrev pm__law_asked : List Str := ["_law_way", "_law_kind", "_law_thing"]
theorem sc__law_asked : FnScope nm__law_asked pm__law_asked (defScope s__law_asked) := ⟨rfl, rfl, rfl, by decide +kernel, rfl, by decide +kernel, by decide +kernel⟩
/-- what is known of the four classes -/
structure ErT (K : PySem.W.Frag) (mg : Str → Option Value) (CP CB CM CN : Addr) : Prop where
  gP : mg "PackError" = some (.ref CP)
  gB : mg "BadKind" = some (.ref CB)
  gM : mg "Misfit" = some (.ref CM)
  gN : mg "NoCode" = some (.ref CN)
  mm : PySem.W.exmOne K (.ref CM) (.ref CM) = some true
  nm : PySem.W.exmOne K (.ref CN) (.ref CM) = some false
  nn : PySem.W.exmOne K (.ref CN) (.ref CN) = some true
  bm : PySem.W.exmOne K (.ref CB) (.ref CM) = some false
  bn : PySem.W.exmOne K (.ref CB) (.ref CN) = some false
  bb : PySem.W.exmOne K (.ref CB) (.ref CB) = some true
  iM : EX.IsC K CM
  iN : EX.IsC K CN
  iB : EX.IsC K CB
  xM : XfC K CM
  xN : XfC K CN
  xB : XfC K CB
  fM : PySem.W.findIn K (.ref CM) "path" = some none
  fN : PySem.W.findIn K (.ref CN) "code" = some none
  fB : PySem.W.findIn K (.ref CB) "place" = some none
  fW : PySem.W.findIn K (.ref CB) "why" = some none
  aM : PySem.W.kitAny K (.ref CM) [.ref CB, .ref CN] = some false
  aN : PySem.W.kitAny K (.ref CN) [.ref CB, .ref CM] = some false
  aB : PySem.W.kitAny K (.ref CB) [.ref CM, .ref CN] = some false
  pM : PySem.W.kitOne K (.ref CM) (.ref CP) = some true
  pN : PySem.W.kitOne K (.ref CN) (.ref CP) = some true
  pB : PySem.W.kitOne K (.ref CB) (.ref CP) = some true
def askK (way : Int) (k : PKd) (t : PyData) : List PyData :=
  if way = 0 then (if fitsK k t = true then [.int (codeK k t)] else [.str "misfit", .bool false, .bool true, .tuple []])
  else (if btw t 0 (2 ^ bitsK k - 1) = true then [decK k (valI t)] else [.str "code", .bool false, .bool true, t])
def badD (p : List Int) (z : Str) : List PyData := [.str "kind", .bool false, .bool true, plD p, .str z]
section
variable {P : Program} {w : World} {K : PySem.W.Frag} {mg : Str → Option Value} {base : Heap}
theorem kindD_inj : ∀ {k' k : PKd}, kindD k' = kindD k → k' = k := fun {k' k} h => match k', k, h with
  | .nat a, .nat b, h => by
    injection h with h
    injection h with _ h
    injection h with h _
    injection h with h
    have e : a = b := by omega
    rw [e]
  | .int a, .int b, h => by
    injection h with h
    injection h with _ h
    injection h with h _
    injection h with h
    have e : a = b := by omega
    rw [e]
  | .tr, .tr, _ => rfl
  | .nat _, .int _, h => by
    injection h with h
    injection h with h _
    injection h with h
    exact absurd h (by decide)
  | .nat _, .tr, h => by
    injection h with h
    injection h with h _
    injection h with h
    exact absurd h (by decide)
  | .int _, .nat _, h => by
    injection h with h
    injection h with h _
    injection h with h
    exact absurd h (by decide)
  | .int _, .tr, h => by
    injection h with h
    injection h with h _
    injection h with h
    exact absurd h (by decide)
  | .tr, .nat _, h => by
    injection h with h
    injection h with h _
    injection h with h
    exact absurd h (by decide)
  | .tr, .int _, h => by
    injection h with h
    injection h with h _
    injection h with h
    exact absurd h (by decide)
theorem pl_decK (k : PKd) (i : Int) : pl (decK k i) = true := by
  cases k with
  | tr => rfl
  | nat b => rfl
  | int b =>
    show pl (if 2 ^ (b - 1) ≤ i then _ else _) = true
    split <;> rfl
theorem rfM_kind {k : PKd} (ok : k.ok) : rfM (kindD k) = none := by
  cases k with
  | tr => rfl
  | nat b =>
    have hb : btw (.int (b : Int)) 1 64 = true := btw_iff.mpr ⟨rfl, by have := ok.1; show (1 : Int) ≤ (b : Int); have h : 1 ≤ b := ok.1; omega, by show (b : Int) ≤ 64; have h : b ≤ 64 := ok.2; omega⟩
    have e : (kfM [] [] 10 (kindD (.nat b)) [] 1 0).2 = (if btw (.int (b : Int)) 1 64 = true then none else some ([] ++ [1], ("bits" : Str)) : Fa) := rfl
    rw [if_pos hb] at e
    unfold rfM
    rw [e]
    rfl
  | int b =>
    have hb : btw (.int (b : Int)) 1 64 = true := btw_iff.mpr ⟨rfl, by show (1 : Int) ≤ (b : Int); have h : 1 ≤ b := ok.1; omega, by show (b : Int) ≤ 64; have h : b ≤ 64 := ok.2; omega⟩
    have e : (kfM [] [] 10 (kindD (.int b)) [] 1 0).2 = (if btw (.int (b : Int)) 1 64 = true then none else some ([] ++ [1], ("bits" : Str)) : Fa) := rfl
    rw [if_pos hb] at e
    unfold rfM
    rw [e]
    rfl
def sp__law_asked (K : PySem.W.Frag) : Sp := fun vs H Q _ => ∃ (way : Int) (kv v : V) (d t : PyData), vs = [.int way, kv, v] ∧ (way = 0 ∨ way = 1) ∧ Dp K H kv d ∧ pl d = true ∧ okD d = true ∧ Dp K H v t ∧ pl t = true ∧
  ((∃ p z, rfM d = some (p, z) ∧ ∀ r H', Same H H' → Dp K H' (.ref r) (.list (badD p z)) → Q (.ref r) H') ∨ (∃ k : PKd, k.ok ∧ d = kindD k ∧ ∀ r H', Same H H' → Dp K H' (.ref r) (.list (askK way k t)) → Q (.ref r) H'))
theorem ok__law_asked {f CP CB CM CN : Addr} {fd : FuncData} (F : Fun K "_law_asked" "_law_asked" s__law_asked f fd) (T : ErT K mg CP CB CM CN)
    {f_coded : Addr} {fd_coded : FuncData} (G_coded : FnOk P w K mg base (L2.CX P w) 46 f_coded fd_coded pm_coded (sp_coded K CB CM)) (g_coded : mg "coded" = some (.ref f_coded)) (k_coded : PySem.W.keepIn K (.ref f_coded) = true) (b_coded : Binds K fd_coded pm_coded [])
    {f_decoded : Addr} {fd_decoded : FuncData} (G_decoded : FnOk P w K mg base (L2.CX P w) 46 f_decoded fd_decoded pm_decoded (sp_decoded K CB CN)) (g_decoded : mg "decoded" = some (.ref f_decoded)) (k_decoded : PySem.W.keepIn K (.ref f_decoded) = true) (b_decoded : Binds K fd_decoded pm_decoded [])
    (m_isinstance : mg "isinstance" = none) : FnOk P w K mg base CX0 47 f fd pm__law_asked (sp__law_asked K) := by
  refine F.ok sc__law_asked (fun vs H Q E h => ?_) (fun cdv A outer s H vs Q E hr h => ?_)
  · obtain ⟨way, kv, v, d, t, rfl, _⟩ := h
    rfl
  · obtain ⟨way, kv, v, d, t, rfl, hw, hk, pd, od, hv, pt, q⟩ := h
    refine ⟨_, pss_cons (ps_set (i := 3) sc__law_asked.nd rfl (.inl rfl) pe_non)
      (pss_cons (EX.ps_try_manyAs (i := 4) (n := "e") rfl rfl sc__law_asked.nd rfl rfl takes_none5
        (fun W pn xe tk _ => pss_one (ps_if (pt_cmpR op_eq (pv 0) pe_int (nomark _))
          (pss_one (ps_set (i := 3) sc__law_asked.nd rfl (.inl rfl) (pe_lst (pa_cons (pe_callS G_coded hr (by rfl) g_coded k_coded b_coded (fun σ => passAt tk σ) (pa_cons (pv 1) (pa_cons (pv 2) pa_nil))) pa_nil))))
          (pss_one (ps_set (i := 3) sc__law_asked.nd rfl (.inl rfl) (pe_lst (pa_cons (pe_callS G_decoded hr (by rfl) g_decoded k_decoded b_decoded (fun σ => passAt tk σ) (pa_cons (pv 1) (pa_cons (pv 2) pa_nil))) pa_nil))))))
        (EX.HdsAs.cons ⟨by rfl, by decide, .inl T.gM⟩ (fun x ox cls dd pn hz hf => pss_one (ps_set (i := 3) sc__law_asked.nd rfl (.inl rfl) (pe_lst (pa_cons pe_str (pa_cons (pe_callB (EX.call_isAny hz hf) (by rfl) m_isinstance (by decide +kernel) (pa_cons (pv 4) (pa_cons (pe_tup (pa_cons (pe_glob (v := .ref CB) (by rfl) T.gB rfl) (pa_cons (pe_glob (v := .ref CN) (by rfl) T.gN rfl) pa_nil))) pa_nil)))
            (pa_cons (pe_callB (EX.call_isOne hz hf) (by rfl) m_isinstance (by decide +kernel) (pa_cons (pv 4) (pa_cons (pe_glob (v := .ref CP) (by rfl) T.gP rfl) pa_nil))) (pa_cons (pe_xf T.xM T.fM hz hf (pv 4)) pa_nil))))) ))
        (EX.HdsAs.cons ⟨by rfl, by decide, .inl T.gN⟩ (fun x ox cls dd pn hz hf => pss_one (ps_set (i := 3) sc__law_asked.nd rfl (.inl rfl) (pe_lst (pa_cons pe_str (pa_cons (pe_callB (EX.call_isAny hz hf) (by rfl) m_isinstance (by decide +kernel) (pa_cons (pv 4) (pa_cons (pe_tup (pa_cons (pe_glob (v := .ref CB) (by rfl) T.gB rfl) (pa_cons (pe_glob (v := .ref CM) (by rfl) T.gM rfl) pa_nil))) pa_nil)))
            (pa_cons (pe_callB (EX.call_isOne hz hf) (by rfl) m_isinstance (by decide +kernel) (pa_cons (pv 4) (pa_cons (pe_glob (v := .ref CP) (by rfl) T.gP rfl) pa_nil))) (pa_cons (pe_xf T.xN T.fN hz hf (pv 4)) pa_nil))))) ))
        (EX.HdsAs.cons ⟨by rfl, by decide, .inl T.gB⟩ (fun x ox cls dd pn hz hf => pss_one (ps_set (i := 3) sc__law_asked.nd rfl (.inl rfl) (pe_lst (pa_cons pe_str (pa_cons (pe_callB (EX.call_isAny hz hf) (by rfl) m_isinstance (by decide +kernel) (pa_cons (pv 4) (pa_cons (pe_tup (pa_cons (pe_glob (v := .ref CM) (by rfl) T.gM rfl) (pa_cons (pe_glob (v := .ref CN) (by rfl) T.gN rfl) pa_nil))) pa_nil)))
            (pa_cons (pe_callB (EX.call_isOne hz hf) (by rfl) m_isinstance (by decide +kernel) (pa_cons (pv 4) (pa_cons (pe_glob (v := .ref CP) (by rfl) T.gP rfl) pa_nil))) (pa_cons (pe_xf T.xB T.fB hz hf (pv 4)) (pa_cons (pe_xf T.xB T.fW hz hf (pv 4)) pa_nil)))))) )) EX.HdsAs.nil))))
      (pss_one (ps_ret (pv 3)))), ?_⟩
    rcases hw with rfl | rfl
    · refine ⟨.int 0, rfl, rfl, _, rfl, iteT ?_⟩
      rcases q with ⟨p, z, er, qq⟩ | ⟨k, ok, rfl, qq⟩
      · refine ⟨kv, rfl, v, rfl, kv, v, d, t, rfl, hk, pd, od, hv, pt, fun p' z' er' dd pw H' s' e' d' => ?_, fun k ok ed => absurd er (by rw [ed, rfM_kind ok]; exact fun z' => nomatch z')⟩
        rw [er] at er'
        cases er'
        refine ⟨false, T.bm, (fun z' => nomatch z'), fun _ => ⟨false, T.bn, (fun z' => nomatch z'), fun _ => ⟨true, T.bb, fun _ x nx => ?_, (fun z' => nomatch z')⟩⟩⟩
        refine ⟨.ref x, rfl, (by show 2 ≤ sizeLine; decide), fun tp ntp => ?_⟩
        have s2 : Same H' (upd H' tp (.tup [.ref CM, .ref CN])) := same_upd ntp
        have eT : (upd H' tp (.tup [.ref CM, .ref CN])) tp = some (.tup [.ref CM, .ref CN]) := upd_same
        generalize upd H' tp (HO.tup [V.ref CM, V.ref CN]) = H2 at s2 eT ⊢
        have e2 := s2 _ _ e'
        refine ⟨tp, _, _, false, CB, dd, _, rfl, eT, .cons (.own _) (.cons (.own _) .nil), ⟨rfl, rfl, T.iB, e2⟩, T.aB, ?_⟩
        refine ⟨.ref x, rfl, .ref CP, _, true, CB, dd, _, rfl, .own _, ⟨rfl, rfl, T.iB, e2⟩, T.pB, ?_⟩
        refine ⟨.ref x, rfl, rfl, rfl, dd, _, pw, rfl, e2, rfl, ?_⟩
        refine ⟨.ref x, rfl, rfl, rfl, dd, _, .str z, rfl, e2, rfl, ?_⟩
        refine ⟨(by show 5 ≤ sizeLine; decide), fun r nr => ?_⟩
        refine ⟨.ref r, rfl, ?_⟩
        have s3 : ∀ o, Same H' (upd H2 r o) := fun o => s2.trans (same_upd nr)
        exact qq r _ (s'.trans (s3 _)) (.lst (.inl (.inl upd_same)) (.cons (.str _) (.cons (.bl _) (.cons (.bl _) (.cons ((ts_same (s3 _)).dp _ _ (pl_plD p) d') (.cons (.str _) .nil))))))
      · refine ⟨kv, rfl, v, rfl, kv, v, _, t, rfl, hk, pd, od, hv, pt, fun p' z' er' => absurd er' (by rw [rfM_kind ok]; exact fun z' => nomatch z'), fun k' ok' ed => ?_⟩
        obtain rfl := kindD_inj ed
        refine ⟨fun c dd pw H' s' e' d' => ⟨true, T.mm, fun _ x nx => ?_, (fun z' => nomatch z')⟩, fun c H' s' => ?_⟩
        · skip
          refine ⟨.ref x, rfl, (by show 2 ≤ sizeLine; decide), fun tp ntp => ?_⟩
          have s2 : Same H' (upd H' tp (.tup [.ref CB, .ref CN])) := same_upd ntp
          have eT : (upd H' tp (.tup [.ref CB, .ref CN])) tp = some (.tup [.ref CB, .ref CN]) := upd_same
          generalize upd H' tp (HO.tup [V.ref CB, V.ref CN]) = H2 at s2 eT ⊢
          have e2 := s2 _ _ e'
          refine ⟨tp, _, _, false, CM, dd, _, rfl, eT, .cons (.own _) (.cons (.own _) .nil), ⟨rfl, rfl, T.iM, e2⟩, T.aM, ?_⟩
          refine ⟨.ref x, rfl, .ref CP, _, true, CM, dd, _, rfl, .own _, ⟨rfl, rfl, T.iM, e2⟩, T.pM, ?_⟩
          refine ⟨.ref x, rfl, rfl, rfl, dd, _, pw, rfl, e2, rfl, ?_⟩
          refine ⟨(by show 4 ≤ sizeLine; decide), fun r nr => ?_⟩
          refine ⟨.ref r, rfl, ?_⟩
          have s3 : ∀ o, Same H' (upd H2 r o) := fun o => s2.trans (same_upd nr)
          exact qq r _ (s'.trans (s3 _)) (by rw [askK, if_pos rfl, if_neg (by rw [c]; decide)]; exact .lst (.inl (.inl upd_same)) (.cons (.str _) (.cons (.bl _) (.cons (.bl _) (.cons ((ts_same (s3 _)).dp _ _ rfl d') .nil)))))
        · refine ⟨(by show 1 ≤ sizeLine; decide), fun r nr => ⟨.ref r, rfl, qq r _ (s'.trans (same_upd nr)) ?_⟩⟩
          rw [askK, if_pos rfl, if_pos c]
          exact .lst (.inl (.inl upd_same)) (.cons (.int _) .nil)
    · refine ⟨.int 1, rfl, rfl, _, rfl, iteF ?_⟩
      rcases q with ⟨p, z, er, qq⟩ | ⟨k, ok, rfl, qq⟩
      · refine ⟨kv, rfl, v, rfl, kv, v, d, t, rfl, hk, pd, od, hv, pt, fun p' z' er' dd pw H' s' e' d' => ?_, fun k ok ed => absurd er (by rw [ed, rfM_kind ok]; exact fun z' => nomatch z')⟩
        rw [er] at er'
        cases er'
        refine ⟨false, T.bm, (fun z' => nomatch z'), fun _ => ⟨false, T.bn, (fun z' => nomatch z'), fun _ => ⟨true, T.bb, fun _ x nx => ?_, (fun z' => nomatch z')⟩⟩⟩
        refine ⟨.ref x, rfl, (by show 2 ≤ sizeLine; decide), fun tp ntp => ?_⟩
        have s2 : Same H' (upd H' tp (.tup [.ref CM, .ref CN])) := same_upd ntp
        have eT : (upd H' tp (.tup [.ref CM, .ref CN])) tp = some (.tup [.ref CM, .ref CN]) := upd_same
        generalize upd H' tp (HO.tup [V.ref CM, V.ref CN]) = H2 at s2 eT ⊢
        have e2 := s2 _ _ e'
        refine ⟨tp, _, _, false, CB, dd, _, rfl, eT, .cons (.own _) (.cons (.own _) .nil), ⟨rfl, rfl, T.iB, e2⟩, T.aB, ?_⟩
        refine ⟨.ref x, rfl, .ref CP, _, true, CB, dd, _, rfl, .own _, ⟨rfl, rfl, T.iB, e2⟩, T.pB, ?_⟩
        refine ⟨.ref x, rfl, rfl, rfl, dd, _, pw, rfl, e2, rfl, ?_⟩
        refine ⟨.ref x, rfl, rfl, rfl, dd, _, .str z, rfl, e2, rfl, ?_⟩
        refine ⟨(by show 5 ≤ sizeLine; decide), fun r nr => ?_⟩
        refine ⟨.ref r, rfl, ?_⟩
        have s3 : ∀ o, Same H' (upd H2 r o) := fun o => s2.trans (same_upd nr)
        exact qq r _ (s'.trans (s3 _)) (.lst (.inl (.inl upd_same)) (.cons (.str _) (.cons (.bl _) (.cons (.bl _) (.cons ((ts_same (s3 _)).dp _ _ (pl_plD p) d') (.cons (.str _) .nil))))))
      · refine ⟨kv, rfl, v, rfl, kv, v, _, t, rfl, hk, pd, od, hv, pt, fun p' z' er' => absurd er' (by rw [rfM_kind ok]; exact fun z' => nomatch z'), fun k' ok' ed => ?_⟩
        obtain rfl := kindD_inj ed
        refine ⟨fun c dd H' s' e' => ⟨false, T.nm, (fun z' => nomatch z'), fun _ => ⟨true, T.nn, fun _ x nx => ?_, (fun z' => nomatch z')⟩⟩, fun c H' r0 s' d' => ?_⟩
        · skip
          refine ⟨.ref x, rfl, (by show 2 ≤ sizeLine; decide), fun tp ntp => ?_⟩
          have s2 : Same H' (upd H' tp (.tup [.ref CB, .ref CM])) := same_upd ntp
          have eT : (upd H' tp (.tup [.ref CB, .ref CM])) tp = some (.tup [.ref CB, .ref CM]) := upd_same
          generalize upd H' tp (HO.tup [V.ref CB, V.ref CM]) = H2 at s2 eT ⊢
          have e2 := s2 _ _ e'
          refine ⟨tp, _, _, false, CN, dd, _, rfl, eT, .cons (.own _) (.cons (.own _) .nil), ⟨rfl, rfl, T.iN, e2⟩, T.aN, ?_⟩
          refine ⟨.ref x, rfl, .ref CP, _, true, CN, dd, _, rfl, .own _, ⟨rfl, rfl, T.iN, e2⟩, T.pN, ?_⟩
          refine ⟨.ref x, rfl, rfl, rfl, dd, _, v, rfl, e2, rfl, ?_⟩
          refine ⟨(by show 4 ≤ sizeLine; decide), fun r nr => ?_⟩
          refine ⟨.ref r, rfl, ?_⟩
          have s3 : ∀ o, Same H' (upd H2 r o) := fun o => s2.trans (same_upd nr)
          exact qq r _ (s'.trans (s3 _)) (by rw [askK, if_neg (by decide), if_neg (by rw [c]; decide)]; exact .lst (.inl (.inl upd_same)) (.cons (.str _) (.cons (.bl _) (.cons (.bl _) (.cons ((ts_same (s'.trans (s3 _))).dp _ _ pt hv) .nil)))))
        · refine ⟨(by show 1 ≤ sizeLine; decide), fun r nr => ⟨.ref r, rfl, qq r _ (s'.trans (same_upd nr)) ?_⟩⟩
          rw [askK, if_neg (by decide), if_pos c]
          exact .lst (.inl (.inl upd_same)) (.cons ((ts_same (same_upd nr)).dp _ _ (pl_decK _ _) d') .nil)
end
end K3
namespace K3
open PySem PySem.Spec PyProof.Rows L2 K1
abbrev s__law_there_and_back : Stmt := topS 46
abbrev nm__law_there_and_back : List Str := ["_law_kind", "_law_low", "_law_many", "_law_number", "_law_worth", "_law_code", "_law_found", "_law_back"]
abbrev pm__law_there_and_back : List Str := ["_law_kind", "_law_low", "_law_many", "_law_number"]
theorem sc__law_there_and_back : FnScope nm__law_there_and_back pm__law_there_and_back (defScope s__law_there_and_back) := ⟨rfl, rfl, rfl, by decide +kernel, rfl, by decide +kernel, by decide +kernel⟩
theorem ifQN {x : V} {p q : Prop} (h : q) : if (!decide (x = x)) = true then p else q := by
  rw [decide_eq_true rfl]
  exact iteF h
theorem lst_at {K : PySem.W.Frag} {H : Hp} {r : Addr} {ds : List PyData} (h : Dp K H (.ref r) (.list ds)) : ∃ xs, SqL K H r xs ∧ DpAll K H xs ds := by
  cases h with
  | lst hs ha => exact ⟨_, hs, ha⟩
theorem one_at {K : PySem.W.Frag} {H : Hp} {xs : List V} {d : PyData} (h : DpAll K H xs [d]) : ∃ v, xs = [v] ∧ Dp K H v d := by
  cases h with
  | cons h0 h1 =>
    cases h1
    exact ⟨_, rfl, h0⟩
theorem pl_kindD (k : PKd) : pl (kindD k) = true := by
  cases k <;> simp [kindD, pl, plA] <;> decide +kernel
theorem okD_kindD (k : PKd) : okD (kindD k) = true := by
  cases k <;> simp [kindD, okD, okA] <;> decide
/-- the lowest worth -/
def lowK : PKd → Int
  | .int b => 0 - 2 ^ (b - 1)
  | _ => 0
def worthD (k : PKd) (i : Int) : PyData := match k with
  | .tr => .bool (decide (i = 1))
  | _ => .int i
def codI (many i : Int) : Int := i + many * (if i < 0 then 1 else 0)
theorem back {k : PKd} (ok : k.ok) {n : Int} (h0 : 0 ≤ n) (h1 : n < 2 ^ bitsK k) :
    fitsK k (worthD k (lowK k + n)) = true ∧ codeK k (worthD k (lowK k + n)) = codI (2 ^ bitsK k) (lowK k + n) ∧ btw (.int (codI (2 ^ bitsK k) (lowK k + n))) 0 (2 ^ bitsK k - 1) = true ∧ decK k (codI (2 ^ bitsK k) (lowK k + n)) = worthD k (lowK k + n) := by
  cases k with
  | tr =>
    have h1' : n < 2 := h1
    rcases (show n = 0 ∨ n = 1 by omega) with rfl | rfl <;> exact ⟨rfl, rfl, rfl, rfl⟩
  | nat b =>
    have h1' : n < 2 ^ b := h1
    have e : codI (2 ^ b) (0 + n) = n := by
      unfold codI
      rw [if_neg (by omega)]
      omega
    refine ⟨btw_iff.mpr ⟨rfl, by show 0 ≤ 0 + n; omega, by show 0 + n ≤ 2 ^ b - 1; omega⟩, ?_, ?_, ?_⟩
    · show (if 0 + n < 0 then _ else 0 + n) = codI (2 ^ b) (0 + n)
      rw [e, if_neg (by omega)]
      omega
    · show btw (.int (codI (2 ^ b) (0 + n))) 0 (2 ^ b - 1) = true
      rw [e]
      exact btw_iff.mpr ⟨rfl, by show 0 ≤ n; omega, by show n ≤ 2 ^ b - 1; omega⟩
    · show PyData.int (codI (2 ^ b) (0 + n)) = .int (0 + n)
      rw [e, Int.zero_add]
  | int b =>
    have hb : 1 ≤ b := ok.1
    have e2 : (2 : Int) ^ b = 2 * 2 ^ (b - 1) := by
      obtain ⟨c, rfl⟩ : ∃ c, b = c + 1 := ⟨b - 1, by omega⟩
      rw [Nat.add_sub_cancel, Int.pow_succ]
      omega
    have h1' : n < 2 ^ b := h1
    have hp : (0 : Int) < 2 ^ (b - 1) := Int.pow_pos (by decide)
    show fitsK (.int b) (.int (0 - 2 ^ (b - 1) + n)) = true ∧ codeK (.int b) (.int (0 - 2 ^ (b - 1) + n)) = codI (2 ^ b) (0 - 2 ^ (b - 1) + n) ∧ btw (.int (codI (2 ^ b) (0 - 2 ^ (b - 1) + n))) 0 (2 ^ b - 1) = true ∧ decK (.int b) (codI (2 ^ b) (0 - 2 ^ (b - 1) + n)) = .int (0 - 2 ^ (b - 1) + n)
    rw [e2] at h1' ⊢
    have eD : ∀ i, decK (.int b) i = if 2 ^ (b - 1) ≤ i then .int (i - 2 ^ b) else .int i := fun _ => rfl
    have eC : ∀ i, codeK (.int b) (.int i) = if i < 0 then i + 2 ^ b else i := fun _ => rfl
    have eF : ∀ d, fitsK (.int b) d = btw d (-(2 ^ (b - 1))) (2 ^ (b - 1) - 1) := fun _ => rfl
    rw [eD, eC, eF, e2]
    generalize (2 : Int) ^ (b - 1) = m at hp h1' ⊢
    refine ⟨btw_iff.mpr ⟨rfl, ?_, ?_⟩, ?_, ?_, ?_⟩
    · show -m ≤ 0 - m + n
      omega
    · show 0 - m + n ≤ m - 1
      omega
    · unfold codI
      split <;> omega
    · unfold codI
      refine btw_iff.mpr ⟨rfl, ?_, ?_⟩
      · show 0 ≤ 0 - m + n + 2 * m * (if 0 - m + n < 0 then 1 else 0)
        split <;> omega
      · show 0 - m + n + 2 * m * (if 0 - m + n < 0 then 1 else 0) ≤ 2 * m - 1
        split <;> omega
    · unfold codI
      by_cases c : 0 - m + n < 0
      · rw [if_pos c, if_pos (by omega)]
        exact congrArg PyData.int (by omega)
      · rw [if_neg c, if_neg (by omega)]
        exact congrArg PyData.int (by omega)
section
variable {P : Program} {w : World} {K : PySem.W.Frag} {mg : Str → Option Value} {base : Heap}
def sp__law_there_and_back (K : PySem.W.Frag) : Sp := fun vs H Q _ => ∃ (kv : V) (k : PKd) (n : Int), vs = [kv, .int (lowK k), .int (2 ^ bitsK k), .int n] ∧ k.ok ∧ Dp K H kv (kindD k) ∧ 0 ≤ n ∧ n < 2 ^ bitsK k ∧ ∀ H', Same H H' → Q (.bl true) H'
theorem ok__law_there_and_back {f : Addr} {fd : FuncData} (F : Fun K "_law_there_and_back" "_law_there_and_back" s__law_there_and_back f fd) (C__law_asked : Cal P w K mg base "_law_asked" pm__law_asked 47 (sp__law_asked K)) (m_isinstance : mg "isinstance" = none) (m_int : mg "int" = none) (m_bool : mg "bool" = none) (m_len : mg "len" = none) : FnOk P w K mg base CX0 48 f fd pm__law_there_and_back (sp__law_there_and_back K) := by
  obtain ⟨f__law_asked, fd__law_asked, G__law_asked, g__law_asked, k__law_asked, b__law_asked⟩ := C__law_asked.ex
  refine F.ok sc__law_there_and_back (fun vs H Q E h => ?_) (fun cdv A outer s H vs Q E hr h => ?_)
  · obtain ⟨kv, k, n, rfl, _⟩ := h
    rfl
  · obtain ⟨kv, k, n, rfl, ok, hk, h0, h1, q⟩ := h
    have rm : ∀ {j : Nat}, j ≤ 47 → Room j (A.deeper (envOfC "_law_there_and_back" (defScope s__law_there_and_back) s.heap.objs.size f cdv)) := fun hj => hr.mono hj
    refine ⟨_, pss_cons (ps_set (i := 4) sc__law_there_and_back.nd rfl (.inl rfl) (pe_op op_add (pv 1) (pv 3)))
      (pss_cons (ps_set (i := 5) sc__law_there_and_back.nd rfl (.inl rfl) (pe_op op_add (pv 4) (pe_op op_mul (pv 2) (pe_callTy call_int1 (by rfl) m_int (by decide +kernel) (pa_cons (pe_cmpR op_lt (pv 4) pe_int (nomark _)) pa_nil)))))
      (pss_cons (ps_if (pt_cmpR op_eq (pe_ix ix_tup (pv 0) pe_int (fun _ _ => rfl)) pe_str (nomark _))
      (pss_one (ps_set (i := 4) sc__law_there_and_back.nd rfl (.inl rfl) (pe_cmpR op_eq (pv 4) pe_int (nomark _)))) pss_nil)
      (pss_cons (ps_set (i := 6) sc__law_there_and_back.nd rfl (.inl rfl) (pe_call G__law_asked (rm (by decide)) (by rfl) g__law_asked k__law_asked b__law_asked .nil pass0 (pa_cons pe_int (pa_cons (pv 0) (pa_cons (pv 4) pa_nil)))))
      (pss_cons (ps_set (i := 7) sc__law_there_and_back.nd rfl (.inl rfl) (pe_call G__law_asked (rm (by decide)) (by rfl) g__law_asked k__law_asked b__law_asked .nil pass0 (pa_cons pe_int (pa_cons (pv 0) (pa_cons (pv 5) pa_nil)))))
      (pss_cons (ps_if (PW.pt (pw_or (pt_cmpR op_ne (pe_callB call_len_seq (by rfl) m_len PySem.boot_len (pa_cons (pv 6) pa_nil)) pe_int (nomark _)) (pw_or (pt_val (pe_callB call_isi (by rfl) m_isinstance (by decide +kernel) (pa_cons (pe_ix ix_list (pv 6) pe_int (fun _ _ => rfl)) (pa_cons (pe_bltn (v := .ty "bool") (by rfl) m_bool (show bootBuiltins "bool" = some (.type "bool") by decide +kernel) rfl) pa_nil)))) (pw_or (pt_not (pt_val (pe_callB call_isi (by rfl) m_isinstance (by decide +kernel) (pa_cons (pe_ix ix_list (pv 6) pe_int (fun _ _ => rfl)) (pa_cons (pe_bltn (v := .ty "int") (by rfl) m_int (show bootBuiltins "int" = some (.type "int") by decide +kernel) rfl) pa_nil))))) (pw_or1 (pt_cmpR op_ne (pe_ix ix_list (pv 6) pe_int (fun _ _ => rfl)) (pv 5) (nomark _)))))))
      (pss_one (ps_ret pe_bl)) pss_nil)
      (pss_cons (ps_if (PW.pt (pw_or (pt_cmpR op_ne (pe_callB call_len_seq (by rfl) m_len PySem.boot_len (pa_cons (pv 7) pa_nil)) pe_int (nomark _)) (pw_or (pt_cmpR op_ne (pe_callB call_isi (by rfl) m_isinstance (by decide +kernel) (pa_cons (pe_ix ix_list (pv 7) pe_int (fun _ _ => rfl)) (pa_cons (pe_bltn (v := .ty "bool") (by rfl) m_bool (show bootBuiltins "bool" = some (.type "bool") by decide +kernel) rfl) pa_nil))) (pe_cmpR op_eq (pe_ix ix_tup (pv 0) pe_int (fun _ _ => rfl)) pe_str (nomark _)) (nomark _)) (pw_or1 (pt_cmpR op_ne (pe_ix ix_list (pv 7) pe_int (fun _ _ => rfl)) (pv 4) (nomark _))))))
      (pss_one (ps_ret pe_bl)) pss_nil)
      (pss_one (ps_ret (pe_callB call_isi (by rfl) m_isinstance (by decide +kernel) (pa_cons (pe_ix ix_list (pv 7) pe_int (fun _ _ => rfl)) (pa_cons (pe_bltn (v := .ty "int") (by rfl) m_int (show bootBuiltins "int" = some (.type "int") by decide +kernel) rfl) pa_nil))))))))))), ?_⟩
    obtain ⟨a, rfl, hs⟩ := kind_at hk
    obtain ⟨f1, f2, f3, f4⟩ := back ok h0 h1
    refine ⟨.int (lowK k), rfl, .int n, rfl, _, _, rfl, rfl, ?_⟩
    dsimp only
    generalize lowK k + n = i at f1 f2 f3 f4 ⊢
    refine ⟨.int i, rfl, .int (2 ^ bitsK k), rfl, .int i, rfl, _, _, rfl, rfl, .inr ⟨_, rfl, _, _, rfl, rfl, .inr (by split <;> exact ⟨by decide, by decide⟩), _, _, rfl, rfl, ?_⟩⟩
    have e : i + 2 ^ bitsK k * (if decide (i < 0) = true then 1 else 0) = codI (2 ^ bitsK k) i := by
      unfold codI
      by_cases c : i < 0 <;> simp [c]
    dsimp only
    rw [e]
    generalize codI (2 ^ bitsK k) i = co at f2 f3 f4 ⊢
    cases k with
    | tr =>
      refine ⟨.ref a, rfl, a, _, 0, _, rfl, rfl, hs, atI_nat (j := 0) rfl, rfl, _, rfl, ifSY rfl ?_⟩
      refine ⟨.int i, rfl, rfl, ?_⟩
      have eb : (V.bl (decide (V.int i = V.int 1))) = .bl (decide (i = 1)) := by
        by_cases c : i = 1 <;> simp [c]
      rw [eb]
      refine ⟨_, rfl, _, rfl, 0, .ref a, .bl (decide (i = 1)), _, worthD .tr i, rfl, .inl rfl, hk, pl_kindD _, okD_kindD _, .bl _, rfl, .inr ⟨.tr, ok, rfl, fun r H1 s1 d1 => ?_⟩⟩
      rw [askK, if_pos rfl, if_pos f1, f2] at d1
      obtain ⟨xs, hx, dx⟩ := lst_at d1
      obtain ⟨xv, rfl, x0⟩ := one_at dx
      cases x0
      have hk1 := (ts_same s1).dp _ _ (pl_kindD _) hk
      refine ⟨_, rfl, _, rfl, 1, .ref a, .int co, _, .int co, rfl, .inr rfl, hk1, pl_kindD _, okD_kindD _, .int _, rfl, .inr ⟨.tr, ok, rfl, fun r2 H2 s2 d2 => ?_⟩⟩
      rw [askK, if_neg (by decide), if_pos f3, show valI (.int co) = co from rfl, f4] at d2
      obtain ⟨ys, hy, dy⟩ := lst_at d2
      obtain ⟨yv, rfl, y0⟩ := one_at dy
      cases y0
      have hx2 := sql_same s2 hx
      have hs2 := ts_same (s1.trans s2) _ _ hs
      refine ⟨.ref r, rfl, r, _, rfl, .inl hx2, rfl, _, rfl, iteF ?_⟩
      refine ⟨.ref r, rfl, r, _, 0, .int co, rfl, rfl, hx2, atI_nat (j := 0) rfl, _, _, _, _, false, rfl, .ty "bool", dp_ty (.int co) rfl, kit_ty (kB (.int co)), false, rfl, iteF ?_⟩
      refine ⟨.ref r, rfl, r, _, 0, .int co, rfl, rfl, hx2, atI_nat (j := 0) rfl, _, _, _, _, true, rfl, .ty "int", dp_ty (.int co) rfl, kit_ty (kI (.int co)), true, rfl, iteF ?_⟩
      refine ⟨.ref r, rfl, r, _, 0, .int co, rfl, rfl, hx2, atI_nat (j := 0) rfl, .int co, rfl, rfl, _, rfl, ifQN ?_⟩
      refine ⟨.ref r2, rfl, r2, _, rfl, .inl hy, rfl, _, rfl, iteF ?_⟩
      refine ⟨.ref r2, rfl, r2, _, 0, .bl (decide (i = 1)), rfl, rfl, hy, atI_nat (j := 0) rfl, _, _, _, _, true, rfl, .ty "bool", dp_ty (d := worthD .tr i) (.bl _) rfl, kit_ty (kB (worthD .tr i)), .ref a, rfl, a, _, 0, _, rfl, rfl, hs2, atI_nat (j := 0) rfl, rfl, rfl, _, rfl, iteF ?_⟩
      refine ⟨.ref r2, rfl, r2, _, 0, .bl (decide (i = 1)), rfl, rfl, hy, atI_nat (j := 0) rfl, _, rfl, rfl, _, rfl, ifQN ?_⟩
      refine ⟨.ref r2, rfl, r2, _, 0, .bl (decide (i = 1)), rfl, rfl, hy, atI_nat (j := 0) rfl, _, _, _, _, true, rfl, .ty "int", dp_ty (d := worthD .tr i) (.bl _) rfl, kit_ty (kI (worthD .tr i)), ?_⟩
      exact q H2 (s1.trans s2)
    | nat b =>
      refine ⟨.ref a, rfl, a, _, 0, _, rfl, rfl, hs, atI_nat (j := 0) rfl, rfl, _, rfl, ifSN (by decide) ?_⟩
      refine ⟨_, rfl, _, rfl, 0, .ref a, .int i, _, worthD (.nat b) i, rfl, .inl rfl, hk, pl_kindD _, okD_kindD _, .int _, rfl, .inr ⟨(.nat b), ok, rfl, fun r H1 s1 d1 => ?_⟩⟩
      rw [askK, if_pos rfl, if_pos f1, f2] at d1
      obtain ⟨xs, hx, dx⟩ := lst_at d1
      obtain ⟨xv, rfl, x0⟩ := one_at dx
      cases x0
      have hk1 := (ts_same s1).dp _ _ (pl_kindD _) hk
      refine ⟨_, rfl, _, rfl, 1, .ref a, .int co, _, .int co, rfl, .inr rfl, hk1, pl_kindD _, okD_kindD _, .int _, rfl, .inr ⟨(.nat b), ok, rfl, fun r2 H2 s2 d2 => ?_⟩⟩
      rw [askK, if_neg (by decide), if_pos f3, show valI (.int co) = co from rfl, f4] at d2
      obtain ⟨ys, hy, dy⟩ := lst_at d2
      obtain ⟨yv, rfl, y0⟩ := one_at dy
      cases y0
      have hx2 := sql_same s2 hx
      have hs2 := ts_same (s1.trans s2) _ _ hs
      refine ⟨.ref r, rfl, r, _, rfl, .inl hx2, rfl, _, rfl, iteF ?_⟩
      refine ⟨.ref r, rfl, r, _, 0, .int co, rfl, rfl, hx2, atI_nat (j := 0) rfl, _, _, _, _, false, rfl, .ty "bool", dp_ty (.int co) rfl, kit_ty (kB (.int co)), false, rfl, iteF ?_⟩
      refine ⟨.ref r, rfl, r, _, 0, .int co, rfl, rfl, hx2, atI_nat (j := 0) rfl, _, _, _, _, true, rfl, .ty "int", dp_ty (.int co) rfl, kit_ty (kI (.int co)), true, rfl, iteF ?_⟩
      refine ⟨.ref r, rfl, r, _, 0, .int co, rfl, rfl, hx2, atI_nat (j := 0) rfl, .int co, rfl, rfl, _, rfl, ifQN ?_⟩
      refine ⟨.ref r2, rfl, r2, _, rfl, .inl hy, rfl, _, rfl, iteF ?_⟩
      refine ⟨.ref r2, rfl, r2, _, 0, .int i, rfl, rfl, hy, atI_nat (j := 0) rfl, _, _, _, _, false, rfl, .ty "bool", dp_ty (d := worthD (.nat b) i) (.int _) rfl, kit_ty (kB (worthD (.nat b) i)), .ref a, rfl, a, _, 0, _, rfl, rfl, hs2, atI_nat (j := 0) rfl, rfl, rfl, _, rfl, iteF ?_⟩
      refine ⟨.ref r2, rfl, r2, _, 0, .int i, rfl, rfl, hy, atI_nat (j := 0) rfl, _, rfl, rfl, _, rfl, ifQN ?_⟩
      refine ⟨.ref r2, rfl, r2, _, 0, .int i, rfl, rfl, hy, atI_nat (j := 0) rfl, _, _, _, _, true, rfl, .ty "int", dp_ty (d := worthD (.nat b) i) (.int _) rfl, kit_ty (kI (worthD (.nat b) i)), ?_⟩
      exact q H2 (s1.trans s2)
    | int b =>
      refine ⟨.ref a, rfl, a, _, 0, _, rfl, rfl, hs, atI_nat (j := 0) rfl, rfl, _, rfl, ifSN (by decide) ?_⟩
      refine ⟨_, rfl, _, rfl, 0, .ref a, .int i, _, worthD (.int b) i, rfl, .inl rfl, hk, pl_kindD _, okD_kindD _, .int _, rfl, .inr ⟨(.int b), ok, rfl, fun r H1 s1 d1 => ?_⟩⟩
      rw [askK, if_pos rfl, if_pos f1, f2] at d1
      obtain ⟨xs, hx, dx⟩ := lst_at d1
      obtain ⟨xv, rfl, x0⟩ := one_at dx
      cases x0
      have hk1 := (ts_same s1).dp _ _ (pl_kindD _) hk
      refine ⟨_, rfl, _, rfl, 1, .ref a, .int co, _, .int co, rfl, .inr rfl, hk1, pl_kindD _, okD_kindD _, .int _, rfl, .inr ⟨(.int b), ok, rfl, fun r2 H2 s2 d2 => ?_⟩⟩
      rw [askK, if_neg (by decide), if_pos f3, show valI (.int co) = co from rfl, f4] at d2
      obtain ⟨ys, hy, dy⟩ := lst_at d2
      obtain ⟨yv, rfl, y0⟩ := one_at dy
      cases y0
      have hx2 := sql_same s2 hx
      have hs2 := ts_same (s1.trans s2) _ _ hs
      refine ⟨.ref r, rfl, r, _, rfl, .inl hx2, rfl, _, rfl, iteF ?_⟩
      refine ⟨.ref r, rfl, r, _, 0, .int co, rfl, rfl, hx2, atI_nat (j := 0) rfl, _, _, _, _, false, rfl, .ty "bool", dp_ty (.int co) rfl, kit_ty (kB (.int co)), false, rfl, iteF ?_⟩
      refine ⟨.ref r, rfl, r, _, 0, .int co, rfl, rfl, hx2, atI_nat (j := 0) rfl, _, _, _, _, true, rfl, .ty "int", dp_ty (.int co) rfl, kit_ty (kI (.int co)), true, rfl, iteF ?_⟩
      refine ⟨.ref r, rfl, r, _, 0, .int co, rfl, rfl, hx2, atI_nat (j := 0) rfl, .int co, rfl, rfl, _, rfl, ifQN ?_⟩
      refine ⟨.ref r2, rfl, r2, _, rfl, .inl hy, rfl, _, rfl, iteF ?_⟩
      refine ⟨.ref r2, rfl, r2, _, 0, .int i, rfl, rfl, hy, atI_nat (j := 0) rfl, _, _, _, _, false, rfl, .ty "bool", dp_ty (d := worthD (.int b) i) (.int _) rfl, kit_ty (kB (worthD (.int b) i)), .ref a, rfl, a, _, 0, _, rfl, rfl, hs2, atI_nat (j := 0) rfl, rfl, rfl, _, rfl, iteF ?_⟩
      refine ⟨.ref r2, rfl, r2, _, 0, .int i, rfl, rfl, hy, atI_nat (j := 0) rfl, _, rfl, rfl, _, rfl, ifQN ?_⟩
      refine ⟨.ref r2, rfl, r2, _, 0, .int i, rfl, rfl, hy, atI_nat (j := 0) rfl, _, _, _, _, true, rfl, .ty "int", dp_ty (d := worthD (.int b) i) (.int _) rfl, kit_ty (kI (worthD (.int b) i)), ?_⟩
      exact q H2 (s1.trans s2)
end
end K3
namespace K3
open PySem PySem.Spec PyProof.Rows L2 K1
abbrev s__law_wrong : Stmt := topS 47
abbrev nm__law_wrong : List Str := ["_law_deck_here", "_law_low", "_law_many", "_law_is_truth", "_law_far", "_law_some"]
abbrev pm__law_wrong : List Str := ["_law_deck_here", "_law_low", "_law_many", "_law_is_truth"]
theorem sc__law_wrong : FnScope nm__law_wrong pm__law_wrong (defScope s__law_wrong) := ⟨rfl, rfl, rfl, by decide +kernel, rfl, by decide +kernel, by decide +kernel⟩
theorem pickd {K : PySem.W.Frag} {H' : Hp} {vs : List V} {ds : List PyData} (h : DpAll K H' vs ds) {j : Int} (h0 : 0 ≤ j) (h1 : j < (ds.length : Nat)) : ∃ v t, atI vs j = some v ∧ t ∈ ds ∧ Dp K H' v t := by
  have hl := dpAll_len h
  have hj : j.toNat < vs.length := by omega
  have g : vs[j.toNat]? = some vs[j.toNat] := List.getElem?_eq_getElem hj
  obtain ⟨d, e1, e2⟩ := dpAll_get h g
  exact ⟨_, d, atI_of (by omega) g, List.mem_of_getElem? e1, e2⟩
/-- no worth of so many from the lowest on -/
def notW (tr : Bool) (low many : Int) (t : PyData) : Prop := if tr = true then isB t = false else btw t low (low + many - 1) = false
section
variable {P : Program} {w : World} {K : PySem.W.Frag} {mg : Str → Option Value} {base : Heap}
def sp__law_wrong (K : PySem.W.Frag) : Sp := fun vs H Q _ => ∃ (dk cl lf : Addr) (B : Nat) (low many : Int) (tr : Bool), vs = [.ref dk, .int low, .int many, .bl tr] ∧ Dk H dk cl lf B ∧ B + 10 ≤ 2 ^ 40 ∧ 0 < many ∧
  ∀ (v : V) (t : PyData) (H' : Hp), notW tr low many t → pl t = true → t.depth ≤ 3 → Dp K H' v t → Dk H' dk cl lf (B + 2) → KD dk lf H H' → Q v H'
theorem ok__law_wrong {f : Addr} {fd : FuncData} (F : Fun K "_law_wrong" "_law_wrong" s__law_wrong f fd) (C__law_pick : Cal P w K mg base "_law_pick" pm__law_pick 1 sp__law_pick) : FnOk P w K mg base CX0 2 f fd pm__law_wrong (sp__law_wrong K) := by
  obtain ⟨f__law_pick, fd__law_pick, G__law_pick, g__law_pick, k__law_pick, b__law_pick⟩ := C__law_pick.ex
  refine F.ok sc__law_wrong (fun vs H Q E h => ?_) (fun cdv A outer s H vs Q E hr h => ?_)
  · obtain ⟨dk, cl, lf, B, low, many, tr, rfl, _⟩ := h
    rfl
  · obtain ⟨dk, cl, lf, B, low, many, tr, rfl, D, hB, h0, q⟩ := h
    have rm : ∀ {j : Nat}, j ≤ 1 → Room j (A.deeper (envOfC "_law_wrong" (defScope s__law_wrong) s.heap.objs.size f cdv)) := fun hj => hr.mono hj
    refine ⟨_, pss_cons (ps_set (i := 4) sc__law_wrong.nd rfl (.inl rfl) (pe_op op_add pe_int (pe_op op_mul (pe_call G__law_pick (rm (by decide)) (by rfl) g__law_pick k__law_pick b__law_pick .nil pass0 (pa_cons (pv 0) (pa_cons (pe_op op_pow pe_int pe_int) pa_nil))) (pe_op op_pow pe_int pe_int))))
      (pss_cons (ps_set (i := 5) sc__law_wrong.nd rfl (.inl rfl) (pe_lst (pa_cons (pe_op op_sub (pv 1) pe_int) (pa_cons (pe_op op_add (pv 1) (pv 2)) (pa_cons (pe_op op_sub (pv 1) (pv 4)) (pa_cons (pe_op op_add (pe_op op_add (pv 1) (pv 2)) (pv 4)) (pa_cons pe_str (pa_cons pe_non (pa_cons (pe_tup (pa_cons (pv 1) pa_nil)) (pa_cons (pe_tup pa_nil) pa_nil))))))))))
      (pss_cons (ps_if (pt_val (pv 3))
      (pss_one (ps_ret (pe_ix ix_list (pe_lst (pa_cons pe_int (pa_cons pe_int (pa_cons pe_non (pa_cons pe_str (pa_cons (pe_tup (pa_cons pe_bl pa_nil)) (pa_cons (pe_un un_neg pe_int) (pa_cons pe_int (pa_cons (pv 4) pa_nil))))))))) (pe_call G__law_pick (rm (by decide)) (by rfl) g__law_pick k__law_pick b__law_pick .nil pass0 (pa_cons (pv 0) (pa_cons pe_int pa_nil))) (fun _ _ => rfl)))) pss_nil)
      (pss_one (ps_ret (pe_ix ix_list (pe_op op_cat (pv 5) (pe_lst (pa_cons pe_bl (pa_cons pe_bl pa_nil)))) (pe_call G__law_pick (rm (by decide)) (by rfl) g__law_pick k__law_pick b__law_pick .nil pass0 (pa_cons (pv 0) (pa_cons pe_int pa_nil))) (fun _ _ => rfl)))))), ?_⟩
    refine ⟨.ref dk, rfl, _, _, rfl, rfl, ⟨by decide, by decide, by decide⟩, dk, cl, lf, B, 10 ^ 9, rfl, D, by omega, by decide, by decide +kernel, fun d H1 d0 d1 D1 k1 => ?_⟩
    refine ⟨_, _, rfl, rfl, ⟨by decide, by decide, by decide⟩, _, _, rfl, rfl, .inr ⟨by decide, by decide⟩, _, _, rfl, rfl, ?_⟩
    have hf : (1 : Int) ≤ 1 + d * 10 ^ ((12 : Int)).toNat := by
      have : 0 ≤ d * 10 ^ ((12 : Int)).toNat := Int.mul_nonneg d0 (by decide)
      omega
    dsimp only
    generalize 1 + d * 10 ^ ((12 : Int)).toNat = far at hf ⊢
    refine ⟨.int low, rfl, _, _, rfl, rfl, .int low, rfl, .int many, rfl, _, _, rfl, rfl, .int low, rfl, .int far, rfl, _, _, rfl, rfl, .int low, rfl, .int many, rfl, _, _, rfl, rfl, .int far, rfl, _, _, rfl, rfl, .int low, rfl, (by show 1 ≤ sizeLine; decide), fun t1 n1 => ?_⟩
    generalize hH2 : upd H1 t1 (HO.tup [V.int low]) = H2
    have s2 : Same H1 H2 := by rw [← hH2]; exact same_upd n1
    have e1 : H2 t1 = some (.tup [.int low]) := by rw [← hH2, upd_same]
    refine ⟨Nat.zero_le _, fun t2 n2 => ?_⟩
    generalize hH3 : upd H2 t2 (HO.tup []) = H3
    have s3 : Same H2 H3 := by rw [← hH3]; exact same_upd n2
    have e2 : H3 t2 = some (.tup []) := by rw [← hH3, upd_same]
    refine ⟨(by show 8 ≤ sizeLine; decide), fun l nl => ?_⟩
    have s4 : ∀ o, Same H3 (upd H3 l o) := fun o => same_upd nl
    generalize hH4 : upd H3 l _ = H4
    have s4 : Same H3 H4 := by rw [← hH4]; exact same_upd nl
    have e4 : H4 l = some (.lst [.int (low - 1), .int (low + many), .int (low - far), .int (low + many + far), .str "1", .non, .ref t1, .ref t2]) := by rw [← hH4, upd_same]
    have s14 : Same H1 H4 := s2.trans (s3.trans s4)
    have D4 := D1.same s14
    refine ⟨.bl tr, rfl, tr, rfl, ite2 (fun c => ?_) (fun c => ?_)⟩
    · subst c
      refine ⟨(by show 1 ≤ sizeLine; decide), fun t5 n5 => ?_⟩
      generalize hH5 : upd H4 t5 (HO.tup [V.bl true]) = H5
      have s5 : Same H4 H5 := by rw [← hH5]; exact same_upd n5
      have e5 : H5 t5 = some (.tup [.bl true]) := by rw [← hH5, upd_same]
      refine ⟨_, rfl, .int far, rfl, (by show 8 ≤ sizeLine; decide), fun l6 n6 => ?_⟩
      have n6' := (D4.same s5).not n6
      refine ⟨.ref dk, rfl, dk, cl, lf, B + 1, 8, rfl, (D4.same s5).same (same_upd n6), by omega, by decide, by decide +kernel, fun j H7 j0 j1 D7 k7 => ?_⟩
      have e7 : H7 l6 = some (.lst [.int 0, .int 1, .non, .str "True", .ref t5, .int (-1), .int 2, .int far]) := k7 _ _ n6'.1 n6'.2.2 upd_same
      have n5' := D4.not n5
      have e57 : H7 t5 = some (.tup [.bl true]) := k7 _ _ n5'.1 n5'.2.2 (same_upd n6 _ _ e5)
      obtain ⟨v, t, hv, ht, hd⟩ := pickd (K := K) (H' := H7) (ds := [.int 0, .int 1, .none, .str "True", .tuple [.bool true], .int (-1), .int 2, .int far]) (.cons (.int _) (.cons (.int _) (.cons .non (.cons (.str _) (.cons (.tup (.inl (.inl e57)) (.cons (.bl _) .nil)) (.cons (.int _) (.cons (.int _) (.cons (.int _) .nil)))))))) j0 j1
      refine ⟨l6, _, j, v, rfl, rfl, .inl (.inl e7), hv, ?_⟩
      have k06 : KD dk lf H H7 := k1.trans ((KD.of_same (s14.trans (s5.trans (same_upd n6)))).trans k7)
      have ht' : isB t = false ∧ pl t = true ∧ t.depth ≤ 3 := by
        simp only [List.mem_cons, List.not_mem_nil, or_false] at ht
        rcases ht with rfl | rfl | rfl | rfl | rfl | rfl | rfl | rfl <;> exact ⟨rfl, by first | rfl | decide +kernel, by simp [PyData.depth, PyData.depthAll]⟩
      exact q v t H7 ht'.1 ht'.2.1 ht'.2.2 hd (D7.mono (by omega)) k06
    · have c' : tr = false := by simpa using c
      subst c'
      refine ⟨.ref l, rfl, (by show 2 ≤ sizeLine; decide), fun l5 n5 => ?_⟩
      have s5 : Same H4 (upd H4 l5 (.lst [.bl true, .bl false])) := same_upd n5
      refine ⟨l, l5, _, _, rfl, rfl, s5 _ _ e4, upd_same, (by show 8 + 2 ≤ sizeLine; decide), fun l6 n6 => ?_⟩
      have D5 := D4.same s5
      have n6' := D5.not n6
      refine ⟨.ref dk, rfl, dk, cl, lf, B + 1, 10, rfl, D5.same (same_upd n6), by omega, by decide, by decide +kernel, fun j H7 j0 j1 D7 k7 => ?_⟩
      have e7 : H7 l6 = some (.lst [.int (low - 1), .int (low + many), .int (low - far), .int (low + many + far), .str "1", .non, .ref t1, .ref t2, .bl true, .bl false]) := k7 _ _ n6'.1 n6'.2.2 upd_same
      have s36 := s4.trans (s5.trans (same_upd (o := HO.lst [.int (low - 1), .int (low + many), .int (low - far), .int (low + many + far), .str "1", .non, .ref t1, .ref t2, .bl true, .bl false]) n6))
      have n1' := D1.not n1
      have n2' := (D1.same s2).not n2
      have e17 : H7 t1 = some (.tup [.int low]) := k7 _ _ n1'.1 n1'.2.2 (s36 _ _ (s3 _ _ e1))
      have e27 : H7 t2 = some (.tup []) := k7 _ _ n2'.1 n2'.2.2 (s36 _ _ e2)
      obtain ⟨v, t, hv, ht, hd⟩ := pickd (K := K) (H' := H7) (ds := [.int (low - 1), .int (low + many), .int (low - far), .int (low + many + far), .str "1", .none, .tuple [.int low], .tuple [], .bool true, .bool false])
        (.cons (.int _) (.cons (.int _) (.cons (.int _) (.cons (.int _) (.cons (.str _) (.cons .non (.cons (.tup (.inl (.inl e17)) (.cons (.int _) .nil)) (.cons (.tup (.inl (.inl e27)) .nil) (.cons (.bl _) (.cons (.bl _) .nil)))))))))) j0 j1
      refine ⟨l6, _, j, v, rfl, rfl, .inl (.inl e7), hv, ?_⟩
      have k06 : KD dk lf H H7 := k1.trans ((KD.of_same (s2.trans (s3.trans s36))).trans k7)
      have ht' : btw t low (low + many - 1) = false ∧ pl t = true ∧ t.depth ≤ 3 := by
        simp only [List.mem_cons, List.not_mem_nil, or_false] at ht
        have no : ∀ i : Int, (i < low ∨ low + many ≤ i) → btw (.int i) low (low + many - 1) = false := fun i h => by
          refine Bool.eq_false_iff.mpr fun z => ?_
          obtain ⟨_, z1, z2⟩ := btw_iff.mp z
          have z1' : low ≤ i := z1
          have z2' : i ≤ low + many - 1 := z2
          omega
        rcases ht with rfl | rfl | rfl | rfl | rfl | rfl | rfl | rfl | rfl | rfl
        · exact ⟨no _ (by omega), rfl, by simp [PyData.depth]⟩
        · exact ⟨no _ (by omega), rfl, by simp [PyData.depth]⟩
        · exact ⟨no _ (by omega), rfl, by simp [PyData.depth]⟩
        · exact ⟨no _ (by omega), rfl, by simp [PyData.depth]⟩
        all_goals exact ⟨rfl, by first | rfl | decide +kernel, by simp [PyData.depth, PyData.depthAll]⟩
      exact q v t H7 ht'.1 ht'.2.1 ht'.2.2 hd (D7.mono (by omega)) k06
end
end K3
namespace K3
open PySem PySem.Spec PyProof.Rows L2 K1
abbrev s_law : Stmt := topS 48
abbrev nm_law : List Str := ["_law_script", "_law_deck_here", "_law_word", "_law_bits", "_law_kind", "_law_low", "_law_many", "_law_turn", "_law_thing", "_law_code", "_law_told", "_law_other", "_law_way", "_law_bad", "_law_place", "_law_why", "_law_due"]
abbrev pm_law : List Str := ["_law_script"]
theorem sc_law : FnScope nm_law pm_law (defScope s_law) := ⟨rfl, rfl, rfl, by decide +kernel, rfl, by decide +kernel, by decide +kernel⟩
section
variable {P : Program} {w : World} {K : PySem.W.Frag} {mg : Str → Option Value} {base : Heap}
def sp_law (K : PySem.W.Frag) : Sp := fun vs H Q _ => ∃ (a : Addr) (ns : List Int), vs = [.ref a] ∧ SqL K H a (ns.map V.int) ∧ ns.length ≤ 63 ∧ ∀ H', Q (.bl true) H'
def wordK : PKd → Str
  | .nat _ => "nat"
  | .int _ => "int"
  | .tr => "truth"
def t1 (K : PySem.W.Frag) (a : Addr) (Q : VK) : L2.TS := fun D σ H => ∃ (dk cl lf : Addr) (kv : V) (k : PKd), σ = [some (.ref a), some (.ref dk), some (.str (wordK k)), some (.int (bitsK k : Nat)), some kv, some (.int (lowK k)), none, none, none, none, none, none, none, none, none, none, none] ∧ Dk H dk cl lf 10 ∧ k.ok ∧ Dp K H kv (kindD k) ∧ D.rt = Q
def t2 (K : PySem.W.Frag) (a : Addr) (Q : VK) : L2.TS := fun D σ H => ∃ (dk cl lf : Addr) (kv tv cv x2 x3 x5 x6 : V) (x7 x10 : Option V) (k : PKd) (t c : PyData), σ = [some (.ref a), some (.ref dk), some x2, some x3, some kv, some x5, some x6, x7, some tv, some cv, x10, none, none, none, none, none, none] ∧ Dk H dk cl lf 50 ∧ k.ok ∧ Dp K H kv (kindD k) ∧ Dp K H tv t ∧ pl t = true ∧ Dp K H cv c ∧ pl c = true ∧ D.rt = Q
def t3 (K : PySem.W.Frag) (a : Addr) (Q : VK) : L2.TS := fun D σ H => ∃ (dk cl lf : Addr) (kv tv cv x2 x3 x5 x6 : V) (x7 x10 x11 x12 : Option V) (k : PKd) (t c : PyData), σ = [some (.ref a), some (.ref dk), some x2, some x3, some kv, some x5, some x6, x7, some tv, some cv, x10, x11, x12, none, none, none, none] ∧ Dk H dk cl lf 60 ∧ k.ok ∧ Dp K H kv (kindD k) ∧ Dp K H tv t ∧ pl t = true ∧ Dp K H cv c ∧ pl c = true ∧ D.rt = Q
theorem pow_le64 {b : Nat} (h : b ≤ 64) : (2 : Int) ^ b ≤ 2 ^ 64 := by
  have := Nat.pow_le_pow_right (show 1 ≤ 2 by decide) h
  exact_mod_cast this
theorem nofit {k : PKd} {t : PyData} (h : notW (decide (V.str (wordK k) = V.str "truth")) (lowK k) (2 ^ bitsK k) t) (ok : k.ok := by assumption) : fitsK k t = false := by
  cases k with
  | tr => exact h
  | nat b =>
    have h' : btw t 0 (0 + 2 ^ b - 1) = false := h
    rw [Int.zero_add] at h'
    exact h'
  | int b =>
    have h' : btw t (0 - 2 ^ (b - 1)) (0 - 2 ^ (b - 1) + 2 ^ b - 1) = false := h
    have hb : 1 ≤ b := ok.1
    have e2 : (2 : Int) ^ b = 2 * 2 ^ (b - 1) := by
      obtain ⟨c, rfl⟩ : ∃ c, b = c + 1 := ⟨b - 1, by omega⟩
      rw [Nat.add_sub_cancel, Int.pow_succ]
      omega
    rw [show (0 : Int) - 2 ^ (b - 1) = -(2 ^ (b - 1)) by omega, e2, show -(2 ^ (b - 1)) + 2 * 2 ^ (b - 1) - 1 = (2 : Int) ^ (b - 1) - 1 by omega] at h'
    exact h'
theorem neSame {x y : V} {H : Hp} {d : PyData} {Q : VK} (h1 : Dp K H x d) (h2 : Dp K H y d) (c : d.canLay0 = true) (m : d.depth ≤ 64) (q : Q (.bl false) H) : rNeM K x y H Q := ⟨d, d, h1, h2, c, c, Nat.le_trans (Nat.min_le_left _ _) m, by rw [PySem.SeqAt.eqv_refl d c]; exact q⟩
theorem eqSame {x y : V} {H : Hp} {d : PyData} {Q : VK} (h1 : Dp K H x d) (h2 : Dp K H y d) (c : d.canLay0 = true) (m : d.depth ≤ 64) (q : Q (.bl true) H) : rEqM K x y H Q := ⟨d, d, h1, h2, c, c, Nat.le_trans (Nat.min_le_left _ _) m, by rw [PySem.SeqAt.eqv_refl d c]; exact q⟩
theorem dpl_same {H H' : Hp} {r : Addr} {ds : List PyData} (s : Same H H') (p : plA ds = true) (h : Dp K H (.ref r) (.list ds)) : Dp K H' (.ref r) (.list ds) := by
  obtain ⟨xs, hx, dx⟩ := lst_at h
  exact .lst (sql_same s hx) ((ts_same s).dps _ _ p dx)
theorem kf_in {k : PKd} (ok : k.ok) {p : List Int} : kfM [] [] 9 (kindD k) p 2 1 = (2, none) := by
  cases k with
  | tr => rfl
  | nat b =>
    have hb : btw (.int (b : Int)) 1 64 = true := btw_iff.mpr ⟨rfl, by show (1 : Int) ≤ (b : Int); have h : 1 ≤ b := ok.1; omega, by show (b : Int) ≤ 64; have h : b ≤ 64 := ok.2; omega⟩
    have e : kfM [] [] 9 (kindD (.nat b)) p 2 1 = (2, if btw (.int (b : Int)) 1 64 = true then none else some (p ++ [1], ("bits" : Str))) := rfl
    rw [e, if_pos hb]
  | int b =>
    have hb : btw (.int (b : Int)) 1 64 = true := btw_iff.mpr ⟨rfl, by show (1 : Int) ≤ (b : Int); have h : 1 ≤ b := ok.1; omega, by show (b : Int) ≤ 64; have h : b ≤ 64 := ok.2; omega⟩
    have e : kfM [] [] 9 (kindD (.int b)) p 2 1 = (2, if btw (.int (b : Int)) 1 64 = true then none else some (p ++ [1], ("bits" : Str))) := rfl
    rw [e, if_pos hb]
def otherD (k : PKd) : List PyData := [.tuple [.str "record", .tuple []], .tuple [.str "maybe", kindD k], .tuple [.str "row", .int 2, kindD k], .tuple [.str "box", kindD k], .tuple [.str "variant", .tuple [.tuple [.str "a", kindD k]]]]
theorem other_ok {k : PKd} (ok : k.ok) {d : PyData} (h : d ∈ otherD k) : rfM d = some ([], ("plain" : Str)) ∧ pl d = true ∧ okD d = true := by
  have hp := pl_kindD k
  have ho := okD_kindD k
  simp only [otherD, List.mem_cons, List.not_mem_nil, or_false] at h
  rcases h with rfl | rfl | rfl | rfl | rfl
  · exact ⟨rfl, by decide +kernel, by decide +kernel⟩
  · refine ⟨?_, ?_, ?_⟩
    · have e : (kfM [] [] 10 (.tuple [.str "maybe", kindD k]) [] 1 0) = kfM [] [] 9 (kindD k) ([] ++ [1]) 2 1 := rfl
      unfold rfM
      rw [e, kf_in ok]
      rfl
    · show (pl (.str "maybe") && (pl (kindD k) && true)) = true
      rw [hp]; decide +kernel
    · show (okD (.str "maybe") && (okD (kindD k) && true)) = true
      rw [ho]; decide +kernel
  · refine ⟨?_, ?_, ?_⟩
    · have e : (kfM [] [] 10 (.tuple [.str "row", .int 2, kindD k]) [] 1 0) = kfM [] [] 9 (kindD k) ([] ++ [2]) 2 1 := rfl
      unfold rfM
      rw [e, kf_in ok]
      rfl
    · show (pl (.str "row") && (true && (pl (kindD k) && true))) = true
      rw [hp]; decide +kernel
    · show (okD (.str "row") && (true && (okD (kindD k) && true))) = true
      rw [ho]; decide +kernel
  · refine ⟨?_, ?_, ?_⟩
    · have e : (kfM [] [] 10 (.tuple [.str "box", kindD k]) [] 1 0) = kfM [] [] 9 (kindD k) ([] ++ [1]) 2 1 := rfl
      unfold rfM
      rw [e, kf_in ok]
      rfl
    · show (pl (.str "box") && (pl (kindD k) && true)) = true
      rw [hp]; decide +kernel
    · show (okD (.str "box") && (okD (kindD k) && true)) = true
      rw [ho]; decide +kernel
  · refine ⟨?_, ?_, ?_⟩
    · have e : (kfM [] [] 10 (.tuple [.str "variant", .tuple [.tuple [.str "a", kindD k]]]) [] 1 0) = (match kfM [] [] 9 (kindD k) ([] ++ [1, 0] ++ [1]) 2 1 with | (f', some x) => (f', some x) | (f', none) => (f', none)) := rfl
      unfold rfM
      rw [e, kf_in ok]
      rfl
    · show (pl (.str "variant") && (((pl (.str "a") && (pl (kindD k) && true)) && true) && true)) = true
      rw [hp]; decide +kernel
    · show (okD (.str "variant") && (((okD (.str "a") && (okD (kindD k) && true)) && true) && true)) = true
      rw [ho]; decide +kernel
def kindL (k : PKd) : List PyData := match k with
  | .nat b => [.str "nat", .int (b : Int)]
  | .int b => [.str "int", .int (b : Int)]
  | .tr => [.str "truth"]
theorem kindL_eq (k : PKd) : kindD k = .tuple (kindL k) := by cases k <;> rfl
def badK (k : PKd) : List PyData := [.tuple [.str "nat", .int 65], .tuple [.str "int", .int 0], .tuple [.str "hole", .str "a"], .tuple [.str "use", .str "a", .tuple []], .tuple (kindL k ++ [.int 1]), .none, .tuple [.str "maybe", .int 5]]
theorem bad_ok {k : PKd} {d : PyData} (h : d ∈ badK k) : ∃ p z, (kfM [] [] 10 d [] 1 0).2 = some (p, z) ∧ rfM d = some (p, z) ∧ pl d = true ∧ okD d = true ∧ p.length ≤ 1 ∧ pl (.str z) = true := by
  simp only [badK, List.mem_cons, List.not_mem_nil, or_false] at h
  rcases h with rfl | rfl | rfl | rfl | rfl | rfl | rfl
  · exact ⟨_, _, rfl, rfl, by decide +kernel, by decide +kernel, by decide, by decide +kernel⟩
  · exact ⟨_, _, rfl, rfl, by decide +kernel, by decide +kernel, by decide, by decide +kernel⟩
  · exact ⟨_, _, rfl, rfl, by decide +kernel, by decide +kernel, by decide, by decide +kernel⟩
  · exact ⟨_, _, rfl, rfl, by decide +kernel, by decide +kernel, by decide, by decide +kernel⟩
  · cases k with
    | nat b =>
      refine ⟨_, _, rfl, rfl, ?_, ?_, by decide, by decide +kernel⟩
      · show (pl (.str "nat") && true) = true
        decide +kernel
      · show (okD (.str "nat") && true) = true
        decide +kernel
    | int b =>
      refine ⟨_, _, rfl, rfl, ?_, ?_, by decide, by decide +kernel⟩
      · show (pl (.str "int") && true) = true
        decide +kernel
      · show (okD (.str "int") && true) = true
        decide +kernel
    | tr => exact ⟨_, _, rfl, rfl, by decide +kernel, by decide +kernel, by decide, by decide +kernel⟩
  · exact ⟨_, _, rfl, rfl, rfl, rfl, by decide, by decide +kernel⟩
  · exact ⟨_, _, rfl, rfl, by decide +kernel, by decide +kernel, by decide, by decide +kernel⟩
theorem ok_law {f : Addr} {fd : FuncData} (F : Fun K "law" "law" s_law f fd) (C__law_deck : Cal P w K mg base "_law_deck" pm__law_deck 1 (sp__law_deck K)) (C__law_power : Cal P w K mg base "_law_power" pm__law_power 1 sp__law_power) (C__law_wrong : Cal P w K mg base "_law_wrong" pm__law_wrong 2 (sp__law_wrong K)) (C__law_asked : Cal P w K mg base "_law_asked" pm__law_asked 47 (sp__law_asked K)) (C_formfault : Cal P w K mg base "formfault" pm_formfault 45 (sp_formfault K)) (C__law_pick : Cal P w K mg base "_law_pick" pm__law_pick 1 sp__law_pick) (C__law_there_and_back : Cal P w K mg base "_law_there_and_back" pm__law_there_and_back 48 (sp__law_there_and_back K)) (C__law_any : Cal P w K mg base "_law_any" pm__law_any 2 (sp__law_any K)) (m_range : mg "range" = none) (m_isinstance : mg "isinstance" = none) (m_bool : mg "bool" = none) : FnOk P w K mg base CX0 49 f fd pm_law (sp_law K) := by
  obtain ⟨f__law_deck, fd__law_deck, G__law_deck, g__law_deck, k__law_deck, b__law_deck⟩ := C__law_deck.ex
  obtain ⟨f__law_power, fd__law_power, G__law_power, g__law_power, k__law_power, b__law_power⟩ := C__law_power.ex
  obtain ⟨f__law_wrong, fd__law_wrong, G__law_wrong, g__law_wrong, k__law_wrong, b__law_wrong⟩ := C__law_wrong.ex
  obtain ⟨f__law_asked, fd__law_asked, G__law_asked, g__law_asked, k__law_asked, b__law_asked⟩ := C__law_asked.ex
  obtain ⟨f_formfault, fd_formfault, G_formfault, g_formfault, k_formfault, b_formfault⟩ := C_formfault.ex
  obtain ⟨f__law_pick, fd__law_pick, G__law_pick, g__law_pick, k__law_pick, b__law_pick⟩ := C__law_pick.ex
  obtain ⟨f__law_there_and_back, fd__law_there_and_back, G__law_there_and_back, g__law_there_and_back, k__law_there_and_back, b__law_there_and_back⟩ := C__law_there_and_back.ex
  obtain ⟨f__law_any, fd__law_any, G__law_any, g__law_any, k__law_any, b__law_any⟩ := C__law_any.ex
  refine F.ok sc_law (fun vs H Q E h => ?_) (fun cdv A outer s H vs Q E hr h => ?_)
  · obtain ⟨a, ns, rfl, _⟩ := h
    rfl
  · obtain ⟨a, ns, rfl, hS, hlen, q⟩ := h
    have rm : ∀ {j : Nat}, j ≤ 48 → Room j (A.deeper (envOfC "law" (defScope s_law) s.heap.objs.size f cdv)) := fun hj => hr.mono hj
    refine ⟨_, pss_cons (ps_set (i := 1) sc_law.nd rfl (.inl rfl) (pe_call G__law_deck (rm (by decide)) (by rfl) g__law_deck k__law_deck b__law_deck .nil pass0 (pa_cons (pv 0) pa_nil)))
      (pss_cons (ps_set (i := 2) sc_law.nd rfl (.inl rfl) (pe_ix ix_list (pe_lst (pa_cons pe_str (pa_cons pe_str (pa_cons pe_str (pa_cons pe_str pa_nil))))) (pe_call G__law_pick (rm (by decide)) (by rfl) g__law_pick k__law_pick b__law_pick .nil pass0 (pa_cons (pv 1) (pa_cons pe_int pa_nil))) (fun _ _ => rfl)))
      (pss_cons (ps_set (i := 3) sc_law.nd rfl (.inl rfl) (pe_ix ix_list (pe_lst (pa_cons (pe_op op_add pe_int (pe_call G__law_pick (rm (by decide)) (by rfl) g__law_pick k__law_pick b__law_pick .nil pass0 (pa_cons (pv 1) (pa_cons pe_int pa_nil)))) (pa_cons (pe_ix ix_list (pe_lst (pa_cons pe_int (pa_cons pe_int (pa_cons pe_int (pa_cons pe_int (pa_cons pe_int pa_nil)))))) (pe_call G__law_pick (rm (by decide)) (by rfl) g__law_pick k__law_pick b__law_pick .nil pass0 (pa_cons (pv 1) (pa_cons pe_int pa_nil))) (fun _ _ => rfl)) pa_nil))) (pe_call G__law_pick (rm (by decide)) (by rfl) g__law_pick k__law_pick b__law_pick .nil pass0 (pa_cons (pv 1) (pa_cons pe_int pa_nil))) (fun _ _ => rfl)))
      (pss_cons (ps_set (i := 4) sc_law.nd rfl (.inl rfl) (pe_tup (pa_cons (pv 2) (pa_cons (pv 3) pa_nil))))
      (pss_cons (ps_set (i := 5) sc_law.nd rfl (.inl rfl) pe_int)
      (pss_cons (ps_if (pt_cmpR op_eq (pv 2) pe_str (nomark _))
      (pss_one (ps_set (i := 5) sc_law.nd rfl (.inl rfl) (pe_op op_sub pe_int (pe_call G__law_power (rm (by decide)) (by rfl) g__law_power k__law_power b__law_power .nil pass0 (pa_cons (pe_op op_sub (pv 3) pe_int) pa_nil))))) pss_nil)
      (pss_cons (ps_if (pt_cmpR op_eq (pv 2) pe_str (nomark _))
      (pss_cons (ps_set (i := 4) sc_law.nd rfl (.inl rfl) (pe_tup (pa_cons pe_str pa_nil)))
      (pss_one (ps_set (i := 3) sc_law.nd rfl (.inl rfl) pe_int))) pss_nil)
      (pss_weak (t' := t1 K a Q) (pss_cons (ps_set (i := 6) sc_law.nd rfl (.inl rfl) (pe_call G__law_power (rm (by decide)) (by rfl) g__law_power k__law_power b__law_power .nil pass0 (pa_cons (pv 3) pa_nil)))
      (pss_cons (ps_for PassesOwn.never rfl (pi_range1 (by rfl) m_range (pa_cons pe_int pa_nil)) (pg_name (i := 7) sc_law.nd rfl (.inl rfl))
      (pss_one (ps_if (pt_not (pt_val (pe_call G__law_there_and_back (rm (by decide)) (by rfl) g__law_there_and_back k__law_there_and_back b__law_there_and_back .nil pass0 (pa_cons (pv 4) (pa_cons (pv 5) (pa_cons (pv 6) (pa_cons (pe_call G__law_any (rm (by decide)) (by rfl) g__law_any k__law_any b__law_any .nil pass0 (pa_cons (pv 1) (pa_cons (pv 6) pa_nil))) pa_nil)))))))
      (pss_one (ps_ret pe_bl)) pss_nil)))
      (pss_cons (ps_set (i := 8) sc_law.nd rfl (.inl rfl) (pe_call G__law_wrong (rm (by decide)) (by rfl) g__law_wrong k__law_wrong b__law_wrong .nil pass0 (pa_cons (pv 1) (pa_cons (pv 5) (pa_cons (pv 6) (pa_cons (pe_cmpR op_eq (pv 2) pe_str (nomark _)) pa_nil))))))
      (pss_cons (ps_if (pt_cmpR (op_neM hr.units) (pe_call G__law_asked (rm (by decide)) (by rfl) g__law_asked k__law_asked b__law_asked .nil pass0 (pa_cons pe_int (pa_cons (pv 4) (pa_cons (pv 8) pa_nil)))) (pe_lst (pa_cons pe_str (pa_cons pe_bl (pa_cons pe_bl (pa_cons (pe_tup pa_nil) pa_nil))))) (nomark _))
      (pss_one (ps_ret pe_bl)) pss_nil)
      (pss_cons (ps_set (i := 9) sc_law.nd rfl (.inl rfl) (pe_call G__law_wrong (rm (by decide)) (by rfl) g__law_wrong k__law_wrong b__law_wrong .nil pass0 (pa_cons (pv 1) (pa_cons pe_int (pa_cons (pv 6) (pa_cons pe_bl pa_nil))))))
      (pss_cons (ps_set (i := 10) sc_law.nd rfl (.inl rfl) (pe_call G__law_asked (rm (by decide)) (by rfl) g__law_asked k__law_asked b__law_asked .nil pass0 (pa_cons pe_int (pa_cons (pv 4) (pa_cons (pv 9) pa_nil)))))
      (pss_cons (ps_if (PW.pt (pw_or (pt_cmpR (op_neM hr.units) (pv 10) (pe_lst (pa_cons pe_str (pa_cons pe_bl (pa_cons pe_bl (pa_cons (pv 9) pa_nil))))) (nomark _)) (pw_or1 (pt_cmpR op_ne (pe_callB call_isi (by rfl) m_isinstance (by decide +kernel) (pa_cons (pe_ix ix_list (pv 10) pe_int (fun _ _ => rfl)) (pa_cons (pe_bltn (v := .ty "bool") (by rfl) m_bool (show bootBuiltins "bool" = some (.type "bool") by decide +kernel) rfl) pa_nil))) (pe_callB call_isi (by rfl) m_isinstance (by decide +kernel) (pa_cons (pv 9) (pa_cons (pe_bltn (v := .ty "bool") (by rfl) m_bool (show bootBuiltins "bool" = some (.type "bool") by decide +kernel) rfl) pa_nil))) (nomark _)))))
      (pss_one (ps_ret pe_bl)) pss_nil)
      (pss_weak (t' := t2 K a Q) (pss_cons (ps_set (i := 11) sc_law.nd rfl (.inl rfl) (pe_lst (pa_cons (pe_tup (pa_cons pe_str (pa_cons (pe_tup pa_nil) pa_nil))) (pa_cons (pe_tup (pa_cons pe_str (pa_cons (pv 4) pa_nil))) (pa_cons (pe_tup (pa_cons pe_str (pa_cons pe_int (pa_cons (pv 4) pa_nil)))) (pa_cons (pe_tup (pa_cons pe_str (pa_cons (pv 4) pa_nil))) (pa_cons (pe_tup (pa_cons pe_str (pa_cons (pe_tup (pa_cons (pe_tup (pa_cons pe_str (pa_cons (pv 4) pa_nil))) pa_nil)) pa_nil))) pa_nil)))))))
      (pss_cons (ps_set (i := 11) sc_law.nd rfl (.inl rfl) (pe_ix ix_list (pv 11) (pe_call G__law_pick (rm (by decide)) (by rfl) g__law_pick k__law_pick b__law_pick .nil pass0 (pa_cons (pv 1) (pa_cons pe_int pa_nil))) (fun _ _ => rfl)))
      (pss_cons (ps_for PassesOwn.never rfl (pi_list (pe_lst (pa_cons pe_int (pa_cons pe_int pa_nil)))) (pg_name (i := 12) sc_law.nd rfl (.inl rfl))
      (pss_one (ps_if (pt_cmpR (op_neM hr.units) (pe_call G__law_asked (rm (by decide)) (by rfl) g__law_asked k__law_asked b__law_asked .nil pass0 (pa_cons (pv 12) (pa_cons (pv 11) (pa_cons (pv 8) pa_nil)))) (pe_lst (pa_cons pe_str (pa_cons pe_bl (pa_cons pe_bl (pa_cons (pe_tup pa_nil) (pa_cons pe_str pa_nil)))))) (nomark _))
      (pss_one (ps_ret pe_bl)) pss_nil)))
      (pss_weak (t' := t3 K a Q) (pss_cons (ps_set (i := 13) sc_law.nd rfl (.inl rfl) (pe_lst (pa_cons (pe_tup (pa_cons pe_str (pa_cons pe_int pa_nil))) (pa_cons (pe_tup (pa_cons pe_str (pa_cons pe_int pa_nil))) (pa_cons (pe_tup (pa_cons pe_str (pa_cons pe_str pa_nil))) (pa_cons (pe_tup (pa_cons pe_str (pa_cons pe_str (pa_cons (pe_tup pa_nil) pa_nil)))) (pa_cons (pe_op op_catA (pv 4) (pe_tup (pa_cons pe_int pa_nil))) (pa_cons pe_non (pa_cons (pe_tup (pa_cons pe_str (pa_cons pe_int pa_nil))) pa_nil)))))))))
      (pss_cons (ps_set (i := 13) sc_law.nd rfl (.inl rfl) (pe_ix ix_list (pv 13) (pe_call G__law_pick (rm (by decide)) (by rfl) g__law_pick k__law_pick b__law_pick .nil pass0 (pa_cons (pv 1) (pa_cons pe_int pa_nil))) (fun _ _ => rfl)))
      (pss_cons (ps_asg (pe_call G_formfault (rm (by decide)) (by rfl) g_formfault k_formfault b_formfault .nil pass0 (pa_cons (pe_tup pa_nil) (pa_cons (pv 13) pa_nil))) (pg_tup (by rfl) (pgs_cons (pg_name (i := 14) sc_law.nd rfl (.inl rfl)) (pgs_cons (pg_name (i := 15) sc_law.nd rfl (.inl rfl)) pgs_nil))))
      (pss_cons (ps_set (i := 16) sc_law.nd rfl (.inl rfl) (pe_lst (pa_cons pe_str (pa_cons pe_bl (pa_cons pe_bl (pa_cons (pv 14) (pa_cons (pv 15) pa_nil)))))))
      (pss_one (ps_ret (pe_and (pe_cmpR (op_eqM hr.units) (pe_call G__law_asked (rm (by decide)) (by rfl) g__law_asked k__law_asked b__law_asked .nil pass0 (pa_cons pe_int (pa_cons (pv 13) (pa_cons (pv 8) pa_nil)))) (pv 16) (nomark _)) (pe_one (pe_cmpR (op_eqM hr.units) (pe_call G__law_asked (rm (by decide)) (by rfl) g__law_asked k__law_asked b__law_asked .nil pass0 (pa_cons pe_int (pa_cons (pv 13) (pa_cons (pv 9) pa_nil)))) (pv 16) (nomark _)))))))))) ?w3)))) ?w2)))))))) ?w1))))))), ?_⟩
    case w1 =>
      rintro D σ H0 ⟨dk, cl, lf, kv, k, rfl, D0, ok, hk, hrt⟩
      refine ⟨_, rfl, bitsK k, rfl, ok.2, ?_⟩
      have hm0 : (0 : Int) < 2 ^ bitsK k := Int.pow_pos (by decide)
      have hm1 : (2 : Int) ^ bitsK k ≤ 2 ^ 64 := pow_le64 ok.2
      refine ⟨3, rfl, by decide, by decide, for_range (lo := 0) (n := 3) (fun i σ H' => ∃ x7 : Option V, σ = [some (.ref a), some (.ref dk), some (.str (wordK k)), some (.int (bitsK k : Nat)), some kv, some (.int (lowK k)), some (.int (2 ^ bitsK k)), x7, none, none, none, none, none, none, none, none, none] ∧ Dk H' dk cl lf (10 + 3 * i) ∧ Dp K H' kv (kindD k)) ⟨none, rfl, D0, hk⟩ (fun i σ H' hi hp => ?_) (fun σ H' hp => ?_)⟩
      · obtain ⟨x7, rfl, Di, hki⟩ := hp
        refine ⟨_, rfl, _, rfl, _, rfl, _, rfl, _, rfl, dk, cl, lf, 10 + 3 * i, 2 ^ bitsK k, rfl, Di, by omega, hm0, hm1, fun d H1 d0 d1 D1 k1 => ?_⟩
        have hk1 := (Di.ts k1).dp _ _ (pl_kindD k) hki
        refine ⟨kv, k, d, rfl, ok, hk1, d0, d1, fun H2 s2 => ?_⟩
        refine ⟨true, rfl, iteF ?_⟩
        exact ⟨_, rfl, (D1.same s2).mono (by omega), (ts_same s2).dp _ _ (pl_kindD k) hk1⟩
      · obtain ⟨x7, rfl, D1, hk1⟩ := hp
        refine ⟨_, rfl, _, rfl, _, rfl, _, rfl, rfl, dk, cl, lf, 19, lowK k, 2 ^ bitsK k, _, rfl, D1, by decide, hm0, fun v t H2 nw pt dt hv D2 k2 => ?_⟩
        have hk2 := (D1.ts k2).dp _ _ (pl_kindD k) hk1
        refine ⟨_, rfl, _, rfl, 0, kv, v, _, t, rfl, .inl rfl, hk2, pl_kindD k, okD_kindD k, hv, pt, .inr ⟨k, ok, rfl, fun r H3 s3 d3 => ?_⟩⟩
        rw [askK, if_pos rfl, if_neg (by rw [nofit nw]; decide)] at d3
        refine ⟨Nat.zero_le _, fun u1 m1 => ?_⟩
        have s4 : Same H3 (upd H3 u1 (.tup [])) := same_upd m1
        have e4 : (upd H3 u1 (.tup [])) u1 = some (.tup []) := upd_same
        generalize upd H3 u1 (HO.tup []) = H4 at s4 e4 ⊢
        refine ⟨(by show 4 ≤ sizeLine; decide), fun l m2 => ?_⟩
        refine neSame (dpl_same (s4.trans (same_upd m2)) (by first | rfl | decide +kernel) d3) (.lst (.inl (.inl upd_same)) (.cons (.str _) (.cons (.bl _) (.cons (.bl _) (.cons (.tup (.inl (.inl (same_upd m2 _ _ e4))) .nil) .nil))))) (by first | rfl | decide +kernel) (by decide +kernel) ⟨false, rfl, iteF ?_⟩
        have s5 := s3.trans (s4.trans (same_upd (o := HO.lst [.str "misfit", .bl false, .bl true, .ref u1]) m2))
        have D5 := D2.same s5
        have hk5 := (ts_same s5).dp _ _ (pl_kindD k) hk2
        have hv5 := (ts_same s5).dp _ _ pt hv
        generalize upd H4 l _ = H5 at s5 D5 hk5 hv5 ⊢
        refine ⟨_, rfl, _, rfl, dk, cl, lf, 21, 0, 2 ^ bitsK k, false, rfl, D5, by decide, hm0, fun cv c H6 nc pc dc hc D6 k6 => ?_⟩
        have hk6 := (D5.ts k6).dp _ _ (pl_kindD k) hk5
        have hv6 := (D5.ts k6).dp _ _ pt hv5
        have nc' : btw c 0 (2 ^ bitsK k - 1) = false := by
          have h' : btw c 0 (0 + 2 ^ bitsK k - 1) = false := nc
          rw [Int.zero_add] at h'
          exact h'
        refine ⟨_, rfl, _, rfl, 1, kv, cv, _, c, rfl, .inr rfl, hk6, pl_kindD k, okD_kindD k, hc, pc, .inr ⟨k, ok, rfl, fun r7 H7 s7 d7 => ?_⟩⟩
        rw [askK, if_neg (by decide), if_neg (by rw [nc']; decide)] at d7
        refine ⟨_, rfl, _, rfl, (by show 4 ≤ sizeLine; decide), fun l8 m8 => ?_⟩
        have s8 : Same H7 (upd H7 l8 (.lst [.str "code", .bl false, .bl true, cv])) := same_upd m8
        have e8 : (upd H7 l8 (.lst [.str "code", .bl false, .bl true, cv])) l8 = some (.lst [.str "code", .bl false, .bl true, cv]) := upd_same
        generalize upd H7 l8 (HO.lst [.str "code", .bl false, .bl true, cv]) = H8 at s8 e8 ⊢
        have pcA : plA [.str "code", .bool false, .bool true, c] = true := by
          show (pl (.str "code") && (true && (true && (pl c && true)))) = true
          rw [pc]
          decide +kernel
        have d8 := dpl_same s8 pcA d7
        have hc8 := (ts_same (s7.trans s8)).dp _ _ pc hc
        refine neSame d8 (.lst (.inl (.inl e8)) (.cons (.str _) (.cons (.bl _) (.cons (.bl _) (.cons hc8 .nil))))) (canLayA _ pcA) ?_ ⟨false, rfl, iteF ?_⟩
        · simp only [PyData.depth, PyData.depthAll]
          omega
        obtain ⟨xs, hx, dx⟩ := lst_at d8
        obtain ⟨x3, ex3, dx3⟩ : ∃ x3, xs[3]? = some x3 ∧ Dp K H8 x3 c := by
          cases dx with
          | cons _ dx =>
          cases dx with
          | cons _ dx =>
          cases dx with
          | cons _ dx =>
          cases dx with
          | cons h3 _ => exact ⟨_, rfl, h3⟩
        refine ⟨_, rfl, r7, xs, 3, x3, rfl, rfl, hx, atI_nat (j := 3) ex3, _, _, _, _, isB c, rfl, .ty "bool", dp_ty dx3 pc, kit_ty (kB c), ?_⟩
        refine ⟨_, rfl, _, _, _, _, isB c, rfl, .ty "bool", dp_ty hc8 pc, kit_ty (kB c), rfl, _, rfl, ifQN ?_⟩
        exact ⟨dk, cl, lf, kv, v, cv, _, _, _, _, _, _, k, t, c, rfl, ((D6.same s7).same s8).mono (by decide), ok, (ts_same (s7.trans s8)).dp _ _ (pl_kindD k) hk6, (ts_same (s7.trans s8)).dp _ _ pt hv6, pt, hc8, pc, hrt⟩
    case w2 =>
      rintro D σ H0 ⟨dk, cl, lf, kv, tv, cv, x2, x3, x5, x6, x7, x10, k, t, c, rfl, D0, ok, hk, ht, pt, hc, pc, hrt⟩
      refine ⟨Nat.zero_le _, fun a1 n1 => ⟨(by show 2 ≤ sizeLine; decide), fun a2 n2 => ?_⟩⟩
      generalize hH1 : upd H0 a1 (HO.tup []) = H1 at n2 ⊢
      have s1 : Same H0 H1 := by rw [← hH1]; exact same_upd n1
      have d1 : Dp K H1 (.ref a1) (.tuple []) := by rw [← hH1]; exact .tup (.inl (.inl upd_same)) .nil
      generalize hH2 : upd H1 a2 (HO.tup _) = H2
      have s2 : Same H1 H2 := by rw [← hH2]; exact same_upd n2
      have d2 : Dp K H2 (.ref a2) (.tuple [.str "record", .tuple []]) := .tup (.inl (.inl (by rw [← hH2]; exact upd_same))) (.cons (.str _) (.cons ((ts_same s2).dp _ _ rfl d1) .nil))
      have hk2 := (ts_same (s1.trans s2)).dp _ _ (pl_kindD k) hk
      have pk := pl_kindD k
      clear hH2 hH1
      refine ⟨kv, rfl, (by show 2 ≤ sizeLine; decide), fun a3 n3 => ?_⟩
      generalize hH3 : upd H2 a3 (HO.tup _) = H3
      have s3 : Same H2 H3 := by rw [← hH3]; exact same_upd n3
      have hk3 := (ts_same s3).dp _ _ pk hk2
      have d3 : Dp K H3 (.ref a3) (.tuple [.str "maybe", kindD k]) := .tup (.inl (.inl (by rw [← hH3]; exact upd_same))) (.cons (.str _) (.cons hk3 .nil))
      clear hH3
      refine ⟨kv, rfl, (by show 3 ≤ sizeLine; decide), fun a4 n4 => ?_⟩
      generalize hH4 : upd H3 a4 (HO.tup _) = H4
      have s4 : Same H3 H4 := by rw [← hH4]; exact same_upd n4
      have hk4 := (ts_same s4).dp _ _ pk hk3
      have d4 : Dp K H4 (.ref a4) (.tuple [.str "row", .int 2, kindD k]) := .tup (.inl (.inl (by rw [← hH4]; exact upd_same))) (.cons (.str _) (.cons (.int _) (.cons hk4 .nil)))
      clear hH4
      refine ⟨kv, rfl, (by show 2 ≤ sizeLine; decide), fun a5 n5 => ?_⟩
      generalize hH5 : upd H4 a5 (HO.tup _) = H5
      have s5 : Same H4 H5 := by rw [← hH5]; exact same_upd n5
      have hk5 := (ts_same s5).dp _ _ pk hk4
      have d5 : Dp K H5 (.ref a5) (.tuple [.str "box", kindD k]) := .tup (.inl (.inl (by rw [← hH5]; exact upd_same))) (.cons (.str _) (.cons hk5 .nil))
      clear hH5
      refine ⟨kv, rfl, (by show 2 ≤ sizeLine; decide), fun a6 n6 => ?_⟩
      generalize hH6 : upd H5 a6 (HO.tup _) = H6
      have s6 : Same H5 H6 := by rw [← hH6]; exact same_upd n6
      have hk6 := (ts_same s6).dp _ _ pk hk5
      have d6 : Dp K H6 (.ref a6) (.tuple [.str "a", kindD k]) := .tup (.inl (.inl (by rw [← hH6]; exact upd_same))) (.cons (.str _) (.cons hk6 .nil))
      clear hH6
      have p6 : pl (.tuple [.str "a", kindD k]) = true := by
        show (pl (.str "a") && (pl (kindD k) && true)) = true
        rw [pk]; decide +kernel
      refine ⟨(by show 1 ≤ sizeLine; decide), fun a7 n7 => ?_⟩
      generalize hH7 : upd H6 a7 (HO.tup _) = H7
      have s7 : Same H6 H7 := by rw [← hH7]; exact same_upd n7
      have d7 : Dp K H7 (.ref a7) (.tuple [.tuple [.str "a", kindD k]]) := .tup (.inl (.inl (by rw [← hH7]; exact upd_same))) (.cons ((ts_same s7).dp _ _ p6 d6) .nil)
      clear hH7
      have p7 : pl (.tuple [.tuple [.str "a", kindD k]]) = true := by
        show (pl (.tuple [.str "a", kindD k]) && true) = true
        rw [p6]; rfl
      refine ⟨(by show 2 ≤ sizeLine; decide), fun a8 n8 => ?_⟩
      generalize hH8 : upd H7 a8 (HO.tup _) = H8
      have s8 : Same H7 H8 := by rw [← hH8]; exact same_upd n8
      have d8 : Dp K H8 (.ref a8) (.tuple [.str "variant", .tuple [.tuple [.str "a", kindD k]]]) := .tup (.inl (.inl (by rw [← hH8]; exact upd_same))) (.cons (.str _) (.cons ((ts_same s8).dp _ _ p7 d7) .nil))
      clear hH8
      refine ⟨(by show 5 ≤ sizeLine; decide), fun l9 n9 => ?_⟩
      have s08 : Same H0 H8 := s1.trans (s2.trans (s3.trans (s4.trans (s5.trans (s6.trans (s7.trans s8))))))
      have D8 := D0.same s08
      have n9' := D8.not n9
      have s28 : Same H2 H8 := s3.trans (s4.trans (s5.trans (s6.trans (s7.trans s8))))
      have s38 : Same H3 H8 := s4.trans (s5.trans (s6.trans (s7.trans s8)))
      have s48 : Same H4 H8 := s5.trans (s6.trans (s7.trans s8))
      have s58 : Same H5 H8 := s6.trans (s7.trans s8)
      have hmem : ∀ d ∈ otherD k, pl d = true := fun d hd => (other_ok ok hd).2.1
      have f2 := (ts_same s28).dp _ _ (hmem _ (by simp [otherD])) d2
      have f3 := (ts_same s38).dp _ _ (hmem _ (by simp [otherD])) d3
      have f4 := (ts_same s48).dp _ _ (hmem _ (by simp [otherD])) d4
      have f5 := (ts_same s58).dp _ _ (hmem _ (by simp [otherD])) d5
      generalize hH9 : upd H8 l9 (HO.lst _) = H9
      have s9 : Same H8 H9 := by rw [← hH9]; exact same_upd n9
      have e9 : H9 l9 = some (.lst [.ref a2, .ref a3, .ref a4, .ref a5, .ref a8]) := by rw [← hH9]; exact upd_same
      clear hH9
      have f9 : DpAll K H9 [.ref a2, .ref a3, .ref a4, .ref a5, .ref a8] (otherD k) := by
        have t := ts_same (K := K) s9
        exact .cons (t.dp _ _ (hmem _ (by simp [otherD])) f2) (.cons (t.dp _ _ (hmem _ (by simp [otherD])) f3) (.cons (t.dp _ _ (hmem _ (by simp [otherD])) f4) (.cons (t.dp _ _ (hmem _ (by simp [otherD])) f5) (.cons (t.dp _ _ (hmem _ (by simp [otherD])) d8) .nil))))
      have D9 := D8.same s9
      refine ⟨_, rfl, .ref dk, rfl, dk, cl, lf, 50, 5, rfl, D9, by decide, by decide, by decide +kernel, fun j H10 j0 j1 D10 k10 => ?_⟩
      have e10 := k10 _ _ n9'.1 n9'.2.2 e9
      have f10 := (D9.ts k10).dps _ _ (plA_of hmem) f9
      obtain ⟨ov, od, hov, hod, hod2⟩ := pickd f10 j0 j1
      obtain ⟨o1, o2, o3⟩ := other_ok ok hod
      refine ⟨l9, _, j, ov, rfl, rfl, .inl (.inl e10), hov, ?_⟩
      have t010 : TS K H0 H10 := (ts_same (s08.trans s9)).trans (D9.ts k10)
      have hk10 := t010.dp _ _ pk hk
      have ht10 := t010.dp _ _ pt ht
      have hc10 := t010.dp _ _ pc hc
      refine ⟨(by show 2 ≤ sizeLine; decide), fun l11 n11 => ?_⟩
      generalize hH11 : upd H10 l11 (HO.lst _) = H11
      have s11 : Same H10 H11 := by rw [← hH11]; exact same_upd n11
      have e11 : H11 l11 = some (.lst [.int 0, .int 1]) := by rw [← hH11]; exact upd_same
      clear hH11
      refine ⟨l11, rfl, ⟨_, .inl (.inl e11)⟩, for_list (xs := [.int 0, .int 1]) (fun i σ H' => ∃ x12 : Option V, σ = [some (.ref a), some (.ref dk), some x2, some x3, some kv, some x5, some x6, x7, some tv, some cv, x10, some ov, x12, none, none, none, none] ∧ Same H11 H') ⟨none, rfl, Same.refl _⟩ (fun i σ H' _ hp => ?_) (fun i x σ H' hx hp => ?_) (fun σ H' hp => ?_)⟩
      · obtain ⟨_, _, s'⟩ := hp
        exact .inl (.inl (s' _ _ e11))
      · obtain ⟨x12, rfl, s'⟩ := hp
        have t' : TS K H10 H' := ts_same (s11.trans s')
        obtain ⟨wy, rfl, hwy⟩ : ∃ wy : Int, x = .int wy ∧ (wy = 0 ∨ wy = 1) := by
          match i, hx with
          | 0, hx => exact ⟨0, (Option.some.inj hx).symm, .inl rfl⟩
          | 1, hx => exact ⟨1, (Option.some.inj hx).symm, .inr rfl⟩
        refine ⟨_, rfl, ov, rfl, tv, rfl, wy, ov, tv, od, t, rfl, hwy, t'.dp _ _ o2 hod2, o2, o3, t'.dp _ _ pt ht10, pt, .inl ⟨_, _, o1, fun r H12 s12 d12 => ?_⟩⟩
        refine ⟨Nat.zero_le _, fun u n13 => ?_⟩
        have s13 : Same H12 (upd H12 u (.tup [])) := same_upd n13
        have e13 : (upd H12 u (.tup [])) u = some (.tup []) := upd_same
        generalize upd H12 u (HO.tup []) = H13 at s13 e13 ⊢
        refine ⟨(by show 5 ≤ sizeLine; decide), fun l14 n14 => ?_⟩
        refine neSame (dpl_same (s13.trans (same_upd n14)) (by first | rfl | decide +kernel) d12) (.lst (.inl (.inl upd_same)) (.cons (.str _) (.cons (.bl _) (.cons (.bl _) (.cons (.tup (.inl (.inl (same_upd n14 _ _ e13))) .nil) (.cons (.str _) .nil)))))) (by first | rfl | decide +kernel) (by decide +kernel) ⟨false, rfl, iteF ?_⟩
        exact ⟨_, rfl, s'.trans (s12.trans (s13.trans (same_upd n14)))⟩
      · obtain ⟨x12, rfl, s'⟩ := hp
        have t' : TS K H10 H' := ts_same (s11.trans s')
        exact ⟨dk, cl, lf, kv, tv, cv, _, _, _, _, _, _, _, _, k, t, c, rfl, (D10.same (s11.trans s')).mono (by decide), ok, t'.dp _ _ pk hk10, t'.dp _ _ pt ht10, pt, t'.dp _ _ pc hc10, pc, hrt⟩
    case w3 =>
      rintro D σ H0 ⟨dk, cl, lf, kv, tv, cv, x2, x3, x5, x6, x7, x10, x11, x12, k, t, c, rfl, D0, ok, hk, ht, pt, hc, pc, hrt⟩
      have pk := pl_kindD k
      refine ⟨(by show 2 ≤ sizeLine; decide), fun a1 n1 => ?_⟩
      generalize hH1 : upd H0 a1 (HO.tup _) = H1
      have s1 : Same H0 H1 := by rw [← hH1]; exact same_upd n1
      have d1 : Dp K H1 (.ref a1) (.tuple [.str "nat", .int 65]) := .tup (.inl (.inl (by rw [← hH1]; exact upd_same))) (.cons (.str _) (.cons (.int _) .nil))
      clear hH1
      refine ⟨(by show 2 ≤ sizeLine; decide), fun a2 n2 => ?_⟩
      generalize hH2 : upd H1 a2 (HO.tup _) = H2
      have s2 : Same H1 H2 := by rw [← hH2]; exact same_upd n2
      have d2 : Dp K H2 (.ref a2) (.tuple [.str "int", .int 0]) := .tup (.inl (.inl (by rw [← hH2]; exact upd_same))) (.cons (.str _) (.cons (.int _) .nil))
      clear hH2
      refine ⟨(by show 2 ≤ sizeLine; decide), fun a3 n3 => ?_⟩
      generalize hH3 : upd H2 a3 (HO.tup _) = H3
      have s3 : Same H2 H3 := by rw [← hH3]; exact same_upd n3
      have d3 : Dp K H3 (.ref a3) (.tuple [.str "hole", .str "a"]) := .tup (.inl (.inl (by rw [← hH3]; exact upd_same))) (.cons (.str _) (.cons (.str _) .nil))
      clear hH3
      refine ⟨Nat.zero_le _, fun a4 n4 => ?_⟩
      generalize hH4 : upd H3 a4 (HO.tup []) = H4
      have s4 : Same H3 H4 := by rw [← hH4]; exact same_upd n4
      have d4 : Dp K H4 (.ref a4) (.tuple []) := .tup (.inl (.inl (by rw [← hH4]; exact upd_same))) .nil
      clear hH4
      refine ⟨(by show 3 ≤ sizeLine; decide), fun a5 n5 => ?_⟩
      generalize hH5 : upd H4 a5 (HO.tup _) = H5
      have s5 : Same H4 H5 := by rw [← hH5]; exact same_upd n5
      have d5 : Dp K H5 (.ref a5) (.tuple [.str "use", .str "a", .tuple []]) := .tup (.inl (.inl (by rw [← hH5]; exact upd_same))) (.cons (.str _) (.cons (.str _) (.cons ((ts_same s5).dp _ _ rfl d4) .nil)))
      clear hH5
      refine ⟨kv, rfl, (by show 1 ≤ sizeLine; decide), fun a6 n6 => ?_⟩
      generalize hH6 : upd H5 a6 (HO.tup _) = H6
      have s6 : Same H5 H6 := by rw [← hH6]; exact same_upd n6
      have e6 : H6 a6 = some (.tup [.int 1]) := by rw [← hH6]; exact upd_same
      clear hH6
      have s06 : Same H0 H6 := s1.trans (s2.trans (s3.trans (s4.trans (s5.trans s6))))
      have hk6 := (ts_same s06).dp _ _ pk hk
      rw [kindL_eq] at hk6
      obtain ⟨ak, kx, rfl, hks, hkx⟩ := dp_tup hk6
      have lkx := dpAll_len hkx
      refine catA_any hks (.inl (.inl e6)) ?_ (fun a7 H7 s7 hs7 => ?_)
      · rw [lkx]
        exact Nat.le_trans (show (kindL k).length + 1 ≤ 3 by cases k <;> simp [kindL]) (by decide)
      have hb : ∀ d ∈ badK k, pl d = true := fun d hd => (bad_ok hd).choose_spec.choose_spec.2.2.1
      have d7 : Dp K H7 (.ref a7) (.tuple (kindL k ++ [.int 1])) := by
        refine .tup hs7 (dpAll_append ?_ (.cons (.int _) .nil))
        have hpk : plA (kindL k) = true := by
          have := pk
          rw [kindL_eq] at this
          exact this
        exact (ts_same s7).dps _ _ hpk hkx
      refine ⟨(by show 2 ≤ sizeLine; decide), fun a8 n8 => ?_⟩
      generalize hH8 : upd H7 a8 (HO.tup _) = H8
      have s8 : Same H7 H8 := by rw [← hH8]; exact same_upd n8
      have d8 : Dp K H8 (.ref a8) (.tuple [.str "maybe", .int 5]) := .tup (.inl (.inl (by rw [← hH8]; exact upd_same))) (.cons (.str _) (.cons (.int _) .nil))
      clear hH8
      refine ⟨(by show 7 ≤ sizeLine; decide), fun l9 n9 => ?_⟩
      have s08 : Same H0 H8 := s06.trans (s7.trans s8)
      have D8 := D0.same s08
      have n9' := D8.not n9
      have s58 : Same H5 H8 := s6.trans (s7.trans s8)
      have s38 : Same H3 H8 := s4.trans (s5.trans s58)
      have f1 := (ts_same (s2.trans (s3.trans s38))).dp _ _ (hb _ (by simp [badK])) d1
      have f2 := (ts_same (s3.trans s38)).dp _ _ (hb _ (by simp [badK])) d2
      have f3 := (ts_same s38).dp _ _ (hb _ (by simp [badK])) d3
      have f5 := (ts_same s58).dp _ _ (hb _ (by simp [badK])) d5
      have f7 := (ts_same s8).dp _ _ (hb _ (by simp [badK])) d7
      generalize hH9 : upd H8 l9 (HO.lst _) = H9
      have s9 : Same H8 H9 := by rw [← hH9]; exact same_upd n9
      have e9 : H9 l9 = some (.lst [.ref a1, .ref a2, .ref a3, .ref a5, .ref a7, .non, .ref a8]) := by rw [← hH9]; exact upd_same
      clear hH9
      have f9 : DpAll K H9 [.ref a1, .ref a2, .ref a3, .ref a5, .ref a7, .non, .ref a8] (badK k) := by
        have t := ts_same (K := K) s9
        exact .cons (t.dp _ _ (hb _ (by simp [badK])) f1) (.cons (t.dp _ _ (hb _ (by simp [badK])) f2) (.cons (t.dp _ _ (hb _ (by simp [badK])) f3) (.cons (t.dp _ _ (hb _ (by simp [badK])) f5) (.cons (t.dp _ _ (hb _ (by simp [badK])) f7) (.cons .non (.cons (t.dp _ _ (hb _ (by simp [badK])) d8) .nil))))))
      have D9 := D8.same s9
      refine ⟨_, rfl, .ref dk, rfl, dk, cl, lf, 60, 7, rfl, D9, by decide, by decide, by decide +kernel, fun j H10 j0 j1 D10 k10 => ?_⟩
      have e10 := k10 _ _ n9'.1 n9'.2.2 e9
      have f10 := (D9.ts k10).dps _ _ (plA_of hb) f9
      obtain ⟨bv, bd, hbv, hbd, hbd2⟩ := pickd f10 j0 j1
      obtain ⟨p, z, b1, b2, b3, b4, b5, hz⟩ := bad_ok hbd
      refine ⟨l9, _, j, bv, rfl, rfl, .inl (.inl e10), hbv, ?_⟩
      have t010 : TS K H0 H10 := (ts_same (s08.trans s9)).trans (D9.ts k10)
      have ht10 := t010.dp _ _ pt ht
      have hc10 := t010.dp _ _ pc hc
      refine ⟨Nat.zero_le _, fun a11 n11 => ?_⟩
      generalize hH11 : upd H10 a11 (HO.tup []) = H11
      have s11 : Same H10 H11 := by rw [← hH11]; exact same_upd n11
      have e11 : H11 a11 = some (.tup []) := by rw [← hH11]; exact upd_same
      clear hH11
      refine ⟨bv, rfl, a11, bv, bd, rfl, .inl (.inl e11), (ts_same s11).dp _ _ b3 hbd2, b3, b4, fun r H12 s12 d12 => ?_⟩
      rw [b1] at d12
      obtain ⟨ar, rx, rfl, hrs, hrx⟩ := dp_tup (ds := [plD p, .str z]) d12
      obtain ⟨pv, rfl, hpv⟩ : ∃ pv, rx = [pv, .str z] ∧ Dp K H12 pv (plD p) := by
        cases hrx with
        | cons h0 h1 =>
        cases h1 with
        | cons h2 h3 =>
        cases h3
        rw [dp_str h2]
        exact ⟨_, rfl, h0⟩
      have t12 : TS K H10 H12 := ts_same (s11.trans s12)
      refine ⟨ar, _, rfl, hrs, rfl, _, _, rfl, _, _, rfl, rfl, ?_⟩
      refine ⟨pv, rfl, .str z, rfl, (by show 5 ≤ sizeLine; decide), fun l13 n13 => ?_⟩
      generalize hH13 : upd H12 l13 (HO.lst _) = H13
      have s13 : Same H12 H13 := by rw [← hH13]; exact same_upd n13
      have e13 : H13 l13 = some (.lst [.str "kind", .bl false, .bl true, pv, .str z]) := by rw [← hH13]; exact upd_same
      clear hH13
      have pp := pl_plD p
      have d13 : Dp K H13 (.ref l13) (.list (badD p z)) := .lst (.inl (.inl e13)) (.cons (.str _) (.cons (.bl _) (.cons (.bl _) (.cons ((ts_same s13).dp _ _ pp hpv) (.cons (.str _) .nil)))))
      have t13 : TS K H10 H13 := t12.trans (ts_same s13)
      have pA : plA (badD p z) = true := by
        show (pl (.str "kind") && (true && (true && (pl (plD p) && (pl (.str z) && true))))) = true
        rw [pp, hz]
        decide +kernel
      have mA : (PyData.list (badD p z)).depth ≤ 64 := by
        have hd : PyData.depthAll (p.map PyData.int) ≤ 1 := depthA_le fun d hd => by
          obtain ⟨i, _, rfl⟩ := List.mem_map.mp hd
          simp [PyData.depth]
        simp only [badD, plD, PyData.depth, PyData.depthAll]
        omega
      refine ⟨bv, rfl, tv, rfl, 0, bv, tv, bd, t, rfl, .inl rfl, t13.dp _ _ b3 hbd2, b3, b4, t13.dp _ _ pt ht10, pt, .inl ⟨p, z, b2, fun r14 H14 s14 d14 => ?_⟩⟩
      have d13' := dpl_same s14 pA d13
      refine ⟨.ref l13, rfl, eqSame d14 d13' (canLayA _ pA) mA ⟨true, rfl, iteT ?_⟩⟩
      have t14 := t13.trans (ts_same s14)
      refine ⟨bv, rfl, cv, rfl, 1, bv, cv, bd, c, rfl, .inr rfl, t14.dp _ _ b3 hbd2, b3, b4, t14.dp _ _ pc hc10, pc, .inl ⟨p, z, b2, fun r15 H15 s15 d15 => ?_⟩⟩
      have d13'' := dpl_same s15 pA d13'
      refine ⟨.ref l13, rfl, eqSame d15 d13'' (canLayA _ pA) mA ?_⟩
      rw [hrt]
      exact q _
    refine ⟨.ref a, rfl, a, ns, rfl, hS, hlen, fun dk cl lf H0 D0 s0 _ _ => ?_⟩
    refine ⟨(by show 4 ≤ sizeLine; decide), fun l1 n1 => ?_⟩
    have n1' := D0.not n1
    refine ⟨.ref dk, rfl, dk, cl, lf, 0, 4, rfl, D0.same (same_upd n1), by decide, by decide, by decide +kernel, fun j1 H1 p0 p1 D1 k1 => ?_⟩
    have e1 : H1 l1 = some (.lst [.str "nat", .str "int", .str "int", .str "truth"]) := k1 _ _ n1'.1 n1'.2.2 upd_same
    obtain ⟨wd, hw, hw'⟩ : ∃ wd : Str, atI [V.str "nat", .str "int", .str "int", .str "truth"] j1 = some (.str wd) ∧ (wd = "nat" ∨ wd = "int" ∨ wd = "truth") := by
      obtain ⟨j, rfl⟩ : ∃ j : Nat, j1 = (j : Int) := ⟨j1.toNat, by omega⟩
      rcases (show j = 0 ∨ j = 1 ∨ j = 2 ∨ j = 3 by omega) with rfl | rfl | rfl | rfl
      · exact ⟨_, atI_nat (j := 0) rfl, .inl rfl⟩
      · exact ⟨_, atI_nat (j := 1) rfl, .inr (.inl rfl)⟩
      · exact ⟨_, atI_nat (j := 2) rfl, .inr (.inl rfl)⟩
      · exact ⟨_, atI_nat (j := 3) rfl, .inr (.inr rfl)⟩
    refine ⟨l1, _, j1, .str wd, rfl, rfl, .inl (.inl e1), hw, ?_⟩
    refine ⟨.ref dk, rfl, dk, cl, lf, 1, 64, rfl, D1, by decide, by decide, by decide +kernel, fun j2 H2 p2 p3 D2 k2 => ?_⟩
    refine ⟨_, _, rfl, rfl, (by show 5 ≤ sizeLine; decide), fun l3 n3 => ?_⟩
    have n3' := D2.not n3
    refine ⟨.ref dk, rfl, dk, cl, lf, 2, 5, rfl, D2.same (same_upd n3), by decide, by decide, by decide +kernel, fun j3 H3 p4 p5 D3 k3 => ?_⟩
    have e3 : H3 l3 = some (.lst [.int 1, .int 2, .int 8, .int 63, .int 64]) := k3 _ _ n3'.1 n3'.2.2 upd_same
    obtain ⟨b3, hb3, hb3'⟩ : ∃ b : Int, atI [V.int 1, .int 2, .int 8, .int 63, .int 64] j3 = some (.int b) ∧ 1 ≤ b ∧ b ≤ 64 := by
      obtain ⟨j, rfl⟩ : ∃ j : Nat, j3 = (j : Int) := ⟨j3.toNat, by omega⟩
      rcases (show j = 0 ∨ j = 1 ∨ j = 2 ∨ j = 3 ∨ j = 4 by omega) with rfl | rfl | rfl | rfl | rfl
      · exact ⟨_, atI_nat (j := 0) rfl, by decide⟩
      · exact ⟨_, atI_nat (j := 1) rfl, by decide⟩
      · exact ⟨_, atI_nat (j := 2) rfl, by decide⟩
      · exact ⟨_, atI_nat (j := 3) rfl, by decide⟩
      · exact ⟨_, atI_nat (j := 4) rfl, by decide⟩
    refine ⟨l3, _, j3, .int b3, rfl, rfl, .inl (.inl e3), hb3, ?_⟩
    refine ⟨(by show 2 ≤ sizeLine; decide), fun l4 n4 => ?_⟩
    have n4' := D3.not n4
    refine ⟨.ref dk, rfl, dk, cl, lf, 3, 2, rfl, D3.same (same_upd n4), by decide, by decide, by decide +kernel, fun j4 H4 p6 p7 D4 k4 => ?_⟩
    have e4 : H4 l4 = some (.lst [.int (1 + j2), .int b3]) := k4 _ _ n4'.1 n4'.2.2 upd_same
    obtain ⟨b4, hb4, hb4'⟩ : ∃ b : Int, atI [V.int (1 + j2), .int b3] j4 = some (.int b) ∧ 1 ≤ b ∧ b ≤ 64 := by
      obtain ⟨j, rfl⟩ : ∃ j : Nat, j4 = (j : Int) := ⟨j4.toNat, by omega⟩
      rcases (show j = 0 ∨ j = 1 by omega) with rfl | rfl
      · exact ⟨_, atI_nat (j := 0) rfl, by omega⟩
      · exact ⟨_, atI_nat (j := 1) rfl, by omega⟩
    refine ⟨l4, _, j4, .int b4, rfl, rfl, .inl (.inl e4), hb4, ?_⟩
    obtain ⟨b, rfl, hb1, hb2⟩ : ∃ b : Nat, b4 = (b : Int) ∧ 1 ≤ b ∧ b ≤ 64 := ⟨b4.toNat, by omega, by omega, by omega⟩
    refine ⟨.str wd, rfl, .int (b : Int), rfl, (by show 2 ≤ sizeLine; decide), fun tk nk => ?_⟩
    have D5 : Dk (upd H4 tk (.tup [.str wd, .int (b : Int)])) dk cl lf 10 := (D4.same (same_upd nk)).mono (by decide)
    have e5 : (upd H4 tk (.tup [.str wd, .int (b : Int)])) tk = some (.tup [.str wd, .int (b : Int)]) := upd_same
    generalize upd H4 tk (HO.tup [.str wd, .int (b : Int)]) = H5 at D5 e5 ⊢
    have hkd : ∀ {H : Hp}, H tk = some (.tup [.str wd, .int (b : Int)]) → Dp K H (.ref tk) (.tuple [.str wd, .int (b : Int)]) := fun e => .tup (.inl (.inl e)) (.cons (.str _) (.cons (.int _) .nil))
    rcases hw' with rfl | rfl | rfl
    · refine ⟨.str "nat", rfl, rfl, _, rfl, ifSN (by decide) ?_⟩
      refine ⟨.str "nat", rfl, rfl, _, rfl, ifSN (by decide) ?_⟩
      exact ⟨dk, cl, lf, .ref tk, .nat b, rfl, D5, ⟨hb1, hb2⟩, hkd e5, rfl⟩
    · refine ⟨.str "int", rfl, rfl, _, rfl, ifSY rfl ?_⟩
      refine ⟨.int (b : Int), rfl, _, _, rfl, rfl, b - 1, congrArg (fun x => [V.int x]) (show (b : Int) - 1 = ((b - 1 : Nat) : Int) by omega), by omega, _, _, rfl, rfl, ?_⟩
      refine ⟨.str "int", rfl, rfl, _, rfl, ifSN (by decide) ?_⟩
      exact ⟨dk, cl, lf, .ref tk, .int b, rfl, D5, ⟨hb1, hb2⟩, hkd e5, rfl⟩
    · refine ⟨.str "truth", rfl, rfl, _, rfl, ifSN (by decide) ?_⟩
      refine ⟨.str "truth", rfl, rfl, _, rfl, ifSY rfl ?_⟩
      refine ⟨(by show 1 ≤ sizeLine; decide), fun t6 n6 => ?_⟩
      exact ⟨dk, cl, lf, .ref t6, .tr, rfl, D5.same (same_upd n6), ⟨by decide, by decide⟩, .tup (.inl (.inl upd_same)) (.cons (.str _) .nil), rfl⟩
end
end K3
namespace K3
open PySem PySem.Spec PyProof.Rows L2 K1
/-! ### what the top has written -/
theorem cls_of {K : PySem.W.Frag} {D S : Addr} {b : Bool} (h2 : PySem.W.isClsIn K S = true) (h3 : PySem.W.typeIn K (.ref S) = some (.type "type")) (h4 : PySem.W.subIn K (.ref D) (.ref S) = some b) : PySem.W.kitCls K (.ref D) (.ref S) = some b := by
  have e2 : ((PySem.W.clsIn K S).isSome && PySem.W.typeIn K (.ref S) == some (.type "type")) = true := by
    have h2' : (PySem.W.clsIn K S).isSome = true := h2
    rw [h2', h3] <;> rfl
  show (if ((PySem.W.clsIn K S).isSome && PySem.W.typeIn K (.ref S) == some (.type "type")) = true then PySem.W.subIn K (.ref D) (.ref S) else none) = some b
  rw [if_pos e2]
  exact h4
theorem exm_of {K : PySem.W.Frag} {D S : Addr} {b : Bool} (h1 : PySem.W.subIn K (.ref S) (.type "BaseException") = some true) (h2 : PySem.W.isClsIn K S = true) (h3 : PySem.W.typeIn K (.ref S) = some (.type "type")) (h4 : PySem.W.subIn K (.ref D) (.ref S) = some b) :
    PySem.W.exmOne K (.ref D) (.ref S) = some b := by
  have e1 : (PySem.W.subIn K (.ref S) (.type "BaseException") == some true) = true := by rw [h1] <;> rfl
  show (if (PySem.W.subIn K (.ref S) (.type "BaseException") == some true) = true then PySem.W.kitCls K (.ref D) (.ref S) else none) = some b
  rw [if_pos e1]
  exact cls_of h2 h3 h4
theorem kone_of {K : PySem.W.Frag} {D S : Addr} {b : Bool} (h2 : PySem.W.isClsIn K S = true) (h3 : PySem.W.typeIn K (.ref S) = some (.type "type")) (h4 : PySem.W.subIn K (.ref D) (.ref S) = some b) (hn : (D == S) = false) : PySem.W.kitOne K (.ref D) (.ref S) = some b := by
  have e : ((Value.ref D == Value.ref S) = true) ↔ (D == S) = true := by simp
  show (if (Value.ref D == Value.ref S) = true then some true else PySem.W.kitCls K (.ref D) (.ref S)) = some b
  rw [if_neg (fun z => by rw [e.mp z] at hn; cases hn)]
  exact cls_of h2 h3 h4
theorem kany_none {K : PySem.W.Frag} {t : Value} : ∀ cs : List Value, (∀ c ∈ cs, PySem.W.kitOne K t c = some false) → PySem.W.kitAny K t cs = some false
  | [], _ => rfl
  | c :: r, h => by
    show (match PySem.W.kitOne K t c with | some true => some true | some false => PySem.W.kitAny K t r | none => none) = some false
    rw [h c List.mem_cons_self]
    exact kany_none r fun d hd => h d (List.mem_cons_of_mem _ hd)
theorem all_mk {l : PySem.W.OpenLaw} {w : World} {K : PySem.W.Frag} {h : Heap} {mg : Str → Option Value} {fa a_LENGTHS a_PART_WORDS a_PLAIN_WORDS C_PackError C_BadKind N_BadKind f1 C_Misfit N_Misfit f2 C_NoCode N_NoCode f3 C_Look f4 f5 f6 f7 f8 f9 f10 f11 f12 f13 f14 f15 f16 f17 f18 f19 f20 f21 f22 f23 f24 f25 f26 f27 f28 f29 f30 f31 : Addr} (X : K.In h) (G : h.Ns mainGlobals mg) (hfa : mg "law" = some (.ref fa))
    {nm_BadKind q_BadKind : Str} {bs_BadKind sub_BadKind : List Value} {sn_BadKind : List Str} {ab_BadKind : Bool} {col_BadKind : Option Bool} {dd_BadKind : Option Addr} {m0_BadKind m1_BadKind m2_BadKind m3_BadKind m5_BadKind : Option Value} {nm_Misfit q_Misfit : Str} {bs_Misfit sub_Misfit : List Value} {sn_Misfit : List Str} {ab_Misfit : Bool} {col_Misfit : Option Bool} {dd_Misfit : Option Addr} {m0_Misfit m1_Misfit m2_Misfit m3_Misfit m5_Misfit : Option Value} {nm_NoCode q_NoCode : Str} {bs_NoCode sub_NoCode : List Value} {sn_NoCode : List Str} {ab_NoCode : Bool} {col_NoCode : Option Bool} {dd_NoCode : Option Addr} {m0_NoCode m1_NoCode m2_NoCode m3_NoCode m5_NoCode : Option Value} {odg_PART_WORDS odg_PLAIN_WORDS od1 an1 od2 an2 od3 an3 od4 an4 od5 an5 od6 an6 od7 an7 od8 an8 od9 an9 od10 an10 od11 an11 od12 an12 od13 an13 od14 an14 od15 an15 od16 an16 od17 an17 od18 an18 od19 an19 od20 an20 od21 an21 od22 an22 od23 an23 od24 an24 od25 an25 od26 an26 od27 an27 od28 an28 od29 an29 od30 an30 od31 an31 : Option Addr} {slg_PART_WORDS slg_PLAIN_WORDS sl1 sl2 sl3 sl4 sl5 sl6 sl7 sl8 sl9 sl10 sl11 sl12 sl13 sl14 sl15 sl16 sl17 sl18 sl19 sl20 sl21 sl22 sl23 sl24 sl25 sl26 sl27 sl28 sl29 sl30 sl31 : Array (Option Value)} {oc1 kV1 dc1 pm1 cd1 ct1 oc2 kV2 dc2 pm2 cd2 ct2 oc3 kV3 dc3 pm3 cd3 ct3 oc4 kV4 dc4 pm4 cd4 ct4 oc5 kV5 dc5 pm5 cd5 ct5 oc6 kV6 dc6 pm6 cd6 ct6 oc7 kV7 dc7 pm7 cd7 ct7 oc8 kV8 dc8 pm8 cd8 ct8 oc9 kV9 dc9 pm9 cd9 ct9 oc10 kV10 dc10 pm10 cd10 ct10 oc11 kV11 dc11 pm11 cd11 ct11 oc12 kV12 dc12 pm12 cd12 ct12 oc13 kV13 dc13 pm13 cd13 ct13 oc14 kV14 dc14 pm14 cd14 ct14 oc15 kV15 dc15 pm15 cd15 ct15 oc16 kV16 dc16 pm16 cd16 ct16 oc17 kV17 dc17 pm17 cd17 ct17 oc18 kV18 dc18 pm18 cd18 ct18 oc19 kV19 dc19 pm19 cd19 ct19 oc20 kV20 dc20 pm20 cd20 ct20 oc21 kV21 dc21 pm21 cd21 ct21 oc22 kV22 dc22 pm22 cd22 ct22 oc23 kV23 dc23 pm23 cd23 ct23 oc24 kV24 dc24 pm24 cd24 ct24 oc25 kV25 dc25 pm25 cd25 ct25 oc26 kV26 dc26 pm26 cd26 ct26 oc27 kV27 dc27 pm27 cd27 ct27 oc28 kV28 dc28 pm28 cd28 ct28 oc29 kV29 dc29 pm29 cd29 ct29 oc30 kV30 dc30 pm30 cd30 ct30 oc31 kV31 dc31 pm31 cd31 ct31 : Value} {t_MOST_LETTERS t_LETTERS t_MOST_DEPTH t_MOST_FORMS tk0_LENGTHS tv0_LENGTHS tk1_LENGTHS tv1_LENGTHS tk2_LENGTHS tv2_LENGTHS tk3_LENGTHS tv3_LENGTHS tk4_LENGTHS tv4_LENGTHS tk5_LENGTHS tv5_LENGTHS tk6_LENGTHS tv6_LENGTHS tk7_LENGTHS tv7_LENGTHS tk8_LENGTHS tv8_LENGTHS tk9_LENGTHS tv9_LENGTHS nn_LENGTHS tw0_PART_WORDS tw1_PART_WORDS nn_PART_WORDS t_MOST_BITS t_MOST_MANY t_MOST_PARTS t_MOST_HOLES t_MOST_DECLARATIONS tw0_PLAIN_WORDS tw1_PLAIN_WORDS tw2_PLAIN_WORDS nn_PLAIN_WORDS : Nat}
    (ag_MOST_LETTERS : PySem.W.nsIn K mainGlobals "MOST_LETTERS" = some (some (.int 12 t_MOST_LETTERS)))
    (ag_LETTERS : PySem.W.nsIn K mainGlobals "LETTERS" = some (some (.str (Str.ofString "abcdefghijklmnopqrstuvwxyz") t_LETTERS)))
    (ag_MOST_DEPTH : PySem.W.nsIn K mainGlobals "MOST_DEPTH" = some (some (.int 8 t_MOST_DEPTH)))
    (ag_MOST_FORMS : PySem.W.nsIn K mainGlobals "MOST_FORMS" = some (some (.int 40 t_MOST_FORMS)))
    (ag_LENGTHS : PySem.W.nsIn K mainGlobals "LENGTHS" = some (some (.ref a_LENGTHS)))
    (lg_LENGTHS : K.lookup a_LENGTHS = some ⟨.type "dict", none, .dict #[⟨PyData.keyHash w.params (Str.ofString "nat"), .str (Str.ofString "nat") tk0_LENGTHS, .int 2 tv0_LENGTHS⟩, ⟨PyData.keyHash w.params (Str.ofString "int"), .str (Str.ofString "int") tk1_LENGTHS, .int 2 tv1_LENGTHS⟩, ⟨PyData.keyHash w.params (Str.ofString "truth"), .str (Str.ofString "truth") tk2_LENGTHS, .int 1 tv2_LENGTHS⟩, ⟨PyData.keyHash w.params (Str.ofString "record"), .str (Str.ofString "record") tk3_LENGTHS, .int 2 tv3_LENGTHS⟩, ⟨PyData.keyHash w.params (Str.ofString "variant"), .str (Str.ofString "variant") tk4_LENGTHS, .int 2 tv4_LENGTHS⟩, ⟨PyData.keyHash w.params (Str.ofString "row"), .str (Str.ofString "row") tk5_LENGTHS, .int 3 tv5_LENGTHS⟩, ⟨PyData.keyHash w.params (Str.ofString "maybe"), .str (Str.ofString "maybe") tk6_LENGTHS, .int 2 tv6_LENGTHS⟩, ⟨PyData.keyHash w.params (Str.ofString "box"), .str (Str.ofString "box") tk7_LENGTHS, .int 2 tv7_LENGTHS⟩, ⟨PyData.keyHash w.params (Str.ofString "use"), .str (Str.ofString "use") tk8_LENGTHS, .int 3 tv8_LENGTHS⟩, ⟨PyData.keyHash w.params (Str.ofString "hole"), .str (Str.ofString "hole") tk9_LENGTHS, .int 2 tv9_LENGTHS⟩] nn_LENGTHS, #[]⟩)
    (wg_LENGTHS : (a_LENGTHS == sysModules) = false)
    (ag_PART_WORDS : PySem.W.nsIn K mainGlobals "PART_WORDS" = some (some (.ref a_PART_WORDS)))
    (lg_PART_WORDS : K.lookup a_PART_WORDS = some ⟨.type "tuple", odg_PART_WORDS, .seq #[.str (Str.ofString "record") tw0_PART_WORDS, .str (Str.ofString "variant") tw1_PART_WORDS] nn_PART_WORDS, slg_PART_WORDS⟩)
    (ag_MOST_BITS : PySem.W.nsIn K mainGlobals "MOST_BITS" = some (some (.int 64 t_MOST_BITS)))
    (ag_MOST_MANY : PySem.W.nsIn K mainGlobals "MOST_MANY" = some (some (.int 16 t_MOST_MANY)))
    (ag_MOST_PARTS : PySem.W.nsIn K mainGlobals "MOST_PARTS" = some (some (.int 8 t_MOST_PARTS)))
    (ag_MOST_HOLES : PySem.W.nsIn K mainGlobals "MOST_HOLES" = some (some (.int 3 t_MOST_HOLES)))
    (ag_MOST_DECLARATIONS : PySem.W.nsIn K mainGlobals "MOST_DECLARATIONS" = some (some (.int 12 t_MOST_DECLARATIONS)))
    (ag_PLAIN_WORDS : PySem.W.nsIn K mainGlobals "PLAIN_WORDS" = some (some (.ref a_PLAIN_WORDS)))
    (lg_PLAIN_WORDS : K.lookup a_PLAIN_WORDS = some ⟨.type "tuple", odg_PLAIN_WORDS, .seq #[.str (Str.ofString "nat") tw0_PLAIN_WORDS, .str (Str.ofString "int") tw1_PLAIN_WORDS, .str (Str.ofString "truth") tw2_PLAIN_WORDS] nn_PLAIN_WORDS, slg_PLAIN_WORDS⟩)
    (aC_PackError : PySem.W.nsIn K mainGlobals "PackError" = some (some (.ref C_PackError)))
    (iC_PackError : PySem.W.isClsIn K C_PackError = true)
    (tC_PackError : PySem.W.typeIn K (.ref C_PackError) = some (.type "type"))
    (eC_PackError : PySem.W.subIn K (.ref C_PackError) (.type "BaseException") = some true)
    (aC_BadKind : PySem.W.nsIn K mainGlobals "BadKind" = some (some (.ref C_BadKind)))
    (x_BadKind : K.lookup C_BadKind = some (excClassObj nm_BadKind q_BadKind C_BadKind N_BadKind bs_BadKind [.ref C_PackError, .type "ValueError", .type "Exception", .type "BaseException", .type "object"] true sn_BadKind sub_BadKind ab_BadKind col_BadKind dd_BadKind m0_BadKind m1_BadKind m2_BadKind m3_BadKind m5_BadKind "ValueError.__new__"))
    (sa_BadKind : PySem.W.findIn K (.ref C_BadKind) "__setattr__" = some (some (.builtin "object.__setattr__")))
    (ga_BadKind : PySem.W.findIn K (.ref C_BadKind) "__getattribute__" = some (some (.builtin "BaseException.__getattribute__")))
    (gg_BadKind : PySem.W.findIn K (.ref C_BadKind) "__getattr__" = some none)
    (kC_BadKind : PySem.W.keepIn K (.ref C_BadKind) = true)
    (eC_BadKind : PySem.W.subIn K (.ref C_BadKind) (.type "BaseException") = some true)
    (tC_BadKind : PySem.W.typeIn K (.ref C_BadKind) = some (.type "type"))
    (hC_BadKind : PySem.W.hasDictIn K C_BadKind = true)
    (iC_BadKind : PySem.W.isClsIn K C_BadKind = true)
    (ca_BadKind : PySem.W.findIn K (.ref C_BadKind) "__class__" = some (some (.builtin "object.__class__")))
    (mr_BadKind : PySem.W.mroIn K C_BadKind (.type "object") = some true)
    (n_BadKind_place : PySem.W.findIn K (.ref C_BadKind) "place" = some none)
    (n_BadKind_why : PySem.W.findIn K (.ref C_BadKind) "why" = some none)
    (a1 : PySem.W.findIn K (.ref C_BadKind) "__init__" = some (some (.ref f1)))
    (l1 : K.lookup f1 = some ⟨oc1, od1, .func (PySem.W.fnOf "__init__" "BadKind.__init__" (defArgs s_BadKindI) (defBody s_BadKindI) (defScope s_BadKindI) .none kV1 dc1 pm1 an1 cd1 ct1), sl1⟩)
    (c1 : PySem.W.codeIn K cd1 "BadKind.__init__" = true)
    (k1 : PySem.W.keepIn K (.ref f1) = true)
    (y1 : PySem.W.typeIn K (.ref f1) = some (.type "function"))
    (aC_Misfit : PySem.W.nsIn K mainGlobals "Misfit" = some (some (.ref C_Misfit)))
    (x_Misfit : K.lookup C_Misfit = some (excClassObj nm_Misfit q_Misfit C_Misfit N_Misfit bs_Misfit [.ref C_PackError, .type "ValueError", .type "Exception", .type "BaseException", .type "object"] true sn_Misfit sub_Misfit ab_Misfit col_Misfit dd_Misfit m0_Misfit m1_Misfit m2_Misfit m3_Misfit m5_Misfit "ValueError.__new__"))
    (sa_Misfit : PySem.W.findIn K (.ref C_Misfit) "__setattr__" = some (some (.builtin "object.__setattr__")))
    (ga_Misfit : PySem.W.findIn K (.ref C_Misfit) "__getattribute__" = some (some (.builtin "BaseException.__getattribute__")))
    (gg_Misfit : PySem.W.findIn K (.ref C_Misfit) "__getattr__" = some none)
    (kC_Misfit : PySem.W.keepIn K (.ref C_Misfit) = true)
    (eC_Misfit : PySem.W.subIn K (.ref C_Misfit) (.type "BaseException") = some true)
    (tC_Misfit : PySem.W.typeIn K (.ref C_Misfit) = some (.type "type"))
    (hC_Misfit : PySem.W.hasDictIn K C_Misfit = true)
    (iC_Misfit : PySem.W.isClsIn K C_Misfit = true)
    (ca_Misfit : PySem.W.findIn K (.ref C_Misfit) "__class__" = some (some (.builtin "object.__class__")))
    (mr_Misfit : PySem.W.mroIn K C_Misfit (.type "object") = some true)
    (n_Misfit_path : PySem.W.findIn K (.ref C_Misfit) "path" = some none)
    (a2 : PySem.W.findIn K (.ref C_Misfit) "__init__" = some (some (.ref f2)))
    (l2 : K.lookup f2 = some ⟨oc2, od2, .func (PySem.W.fnOf "__init__" "Misfit.__init__" (defArgs s_MisfitI) (defBody s_MisfitI) (defScope s_MisfitI) .none kV2 dc2 pm2 an2 cd2 ct2), sl2⟩)
    (c2 : PySem.W.codeIn K cd2 "Misfit.__init__" = true)
    (k2 : PySem.W.keepIn K (.ref f2) = true)
    (y2 : PySem.W.typeIn K (.ref f2) = some (.type "function"))
    (aC_NoCode : PySem.W.nsIn K mainGlobals "NoCode" = some (some (.ref C_NoCode)))
    (x_NoCode : K.lookup C_NoCode = some (excClassObj nm_NoCode q_NoCode C_NoCode N_NoCode bs_NoCode [.ref C_PackError, .type "ValueError", .type "Exception", .type "BaseException", .type "object"] true sn_NoCode sub_NoCode ab_NoCode col_NoCode dd_NoCode m0_NoCode m1_NoCode m2_NoCode m3_NoCode m5_NoCode "ValueError.__new__"))
    (sa_NoCode : PySem.W.findIn K (.ref C_NoCode) "__setattr__" = some (some (.builtin "object.__setattr__")))
    (ga_NoCode : PySem.W.findIn K (.ref C_NoCode) "__getattribute__" = some (some (.builtin "BaseException.__getattribute__")))
    (gg_NoCode : PySem.W.findIn K (.ref C_NoCode) "__getattr__" = some none)
    (kC_NoCode : PySem.W.keepIn K (.ref C_NoCode) = true)
    (eC_NoCode : PySem.W.subIn K (.ref C_NoCode) (.type "BaseException") = some true)
    (tC_NoCode : PySem.W.typeIn K (.ref C_NoCode) = some (.type "type"))
    (hC_NoCode : PySem.W.hasDictIn K C_NoCode = true)
    (iC_NoCode : PySem.W.isClsIn K C_NoCode = true)
    (ca_NoCode : PySem.W.findIn K (.ref C_NoCode) "__class__" = some (some (.builtin "object.__class__")))
    (mr_NoCode : PySem.W.mroIn K C_NoCode (.type "object") = some true)
    (n_NoCode_code : PySem.W.findIn K (.ref C_NoCode) "code" = some none)
    (a3 : PySem.W.findIn K (.ref C_NoCode) "__init__" = some (some (.ref f3)))
    (l3 : K.lookup f3 = some ⟨oc3, od3, .func (PySem.W.fnOf "__init__" "NoCode.__init__" (defArgs s_NoCodeI) (defBody s_NoCodeI) (defScope s_NoCodeI) .none kV3 dc3 pm3 an3 cd3 ct3), sl3⟩)
    (c3 : PySem.W.codeIn K cd3 "NoCode.__init__" = true)
    (k3 : PySem.W.keepIn K (.ref f3) = true)
    (y3 : PySem.W.typeIn K (.ref f3) = some (.type "function"))
    (su_BadKind_BadKind : PySem.W.subIn K (.ref C_BadKind) (.ref C_BadKind) = some true)
    (su_BadKind_Misfit : PySem.W.subIn K (.ref C_BadKind) (.ref C_Misfit) = some false)
    (ne_BadKind_Misfit : (C_BadKind == C_Misfit) = false)
    (su_BadKind_NoCode : PySem.W.subIn K (.ref C_BadKind) (.ref C_NoCode) = some false)
    (ne_BadKind_NoCode : (C_BadKind == C_NoCode) = false)
    (su_BadKind_PackError : PySem.W.subIn K (.ref C_BadKind) (.ref C_PackError) = some true)
    (ne_BadKind_PackError : (C_BadKind == C_PackError) = false)
    (su_Misfit_BadKind : PySem.W.subIn K (.ref C_Misfit) (.ref C_BadKind) = some false)
    (ne_Misfit_BadKind : (C_Misfit == C_BadKind) = false)
    (su_Misfit_Misfit : PySem.W.subIn K (.ref C_Misfit) (.ref C_Misfit) = some true)
    (su_Misfit_NoCode : PySem.W.subIn K (.ref C_Misfit) (.ref C_NoCode) = some false)
    (ne_Misfit_NoCode : (C_Misfit == C_NoCode) = false)
    (su_Misfit_PackError : PySem.W.subIn K (.ref C_Misfit) (.ref C_PackError) = some true)
    (ne_Misfit_PackError : (C_Misfit == C_PackError) = false)
    (su_NoCode_BadKind : PySem.W.subIn K (.ref C_NoCode) (.ref C_BadKind) = some false)
    (ne_NoCode_BadKind : (C_NoCode == C_BadKind) = false)
    (su_NoCode_Misfit : PySem.W.subIn K (.ref C_NoCode) (.ref C_Misfit) = some false)
    (ne_NoCode_Misfit : (C_NoCode == C_Misfit) = false)
    (su_NoCode_NoCode : PySem.W.subIn K (.ref C_NoCode) (.ref C_NoCode) = some true)
    (su_NoCode_PackError : PySem.W.subIn K (.ref C_NoCode) (.ref C_PackError) = some true)
    (ne_NoCode_PackError : (C_NoCode == C_PackError) = false)
    (sgC : PySem.W.specialIn K (.builtin "object.__class__") "__get__" = some (some (.builtin "getset_descriptor.__get__")))
    (tkC : PySem.W.takesIn K (.builtin "object.__class__") = some true)
    (aC_Look : PySem.W.nsIn K mainGlobals "Look" = some (some (.ref C_Look)))
    (pg_Look : PySem.W.plainGet K C_Look Str.empty = true)
    (hd_Look : PySem.W.hasDictIn K C_Look = true)
    (po_Look : PySem.W.plainOver K C_Look = true)
    (sa_Look : PySem.W.findIn K (.ref C_Look) "__setattr__" = some (some (.builtin "object.__setattr__")))
    (mk_Look : PySem.W.makesIn K C_Look = true)
    (kc_Look : PySem.W.keepIn K (.ref C_Look) = true)
    (n_Look_heads : PySem.W.findIn K (.ref C_Look) "heads" = some none)
    (n_Look_holes : PySem.W.findIn K (.ref C_Look) "holes" = some none)
    (n_Look_forms : PySem.W.findIn K (.ref C_Look) "forms" = some none)
    (a4 : PySem.W.findIn K (.ref C_Look) "__init__" = some (some (.ref f4)))
    (l4 : K.lookup f4 = some ⟨oc4, od4, .func (PySem.W.fnOf "__init__" "Look.__init__" (defArgs s_LookI) (defBody s_LookI) (defScope s_LookI) .none kV4 dc4 pm4 an4 cd4 ct4), sl4⟩)
    (c4 : PySem.W.codeIn K cd4 "Look.__init__" = true)
    (k4 : PySem.W.keepIn K (.ref f4) = true)
    (i4 : PySem.W.isFn K (.ref f4) = true)
    (a5 : PySem.W.nsIn K mainGlobals "is_whole" = some (some (.ref f5)))
    (l5 : K.lookup f5 = some ⟨oc5, od5, .func (PySem.W.fnOf "is_whole" "is_whole" (defArgs s_is_whole) (defBody s_is_whole) (defScope s_is_whole) .none kV5 dc5 pm5 an5 cd5 ct5), sl5⟩)
    (c5 : PySem.W.codeIn K cd5 "is_whole" = true)
    (k5 : PySem.W.keepIn K (.ref f5) = true)
    (a6 : PySem.W.nsIn K mainGlobals "is_between" = some (some (.ref f6)))
    (l6 : K.lookup f6 = some ⟨oc6, od6, .func (PySem.W.fnOf "is_between" "is_between" (defArgs s_is_between) (defBody s_is_between) (defScope s_is_between) .none kV6 dc6 pm6 an6 cd6 ct6), sl6⟩)
    (c6 : PySem.W.codeIn K cd6 "is_between" = true)
    (k6 : PySem.W.keepIn K (.ref f6) = true)
    (a7 : PySem.W.nsIn K mainGlobals "is_tuple_of" = some (some (.ref f7)))
    (l7 : K.lookup f7 = some ⟨oc7, od7, .func (PySem.W.fnOf "is_tuple_of" "is_tuple_of" (defArgs s_is_tuple_of) (defBody s_is_tuple_of) (defScope s_is_tuple_of) .none kV7 dc7 pm7 an7 cd7 ct7), sl7⟩)
    (c7 : PySem.W.codeIn K cd7 "is_tuple_of" = true)
    (k7 : PySem.W.keepIn K (.ref f7) = true)
    (a8 : PySem.W.nsIn K mainGlobals "power" = some (some (.ref f8)))
    (l8 : K.lookup f8 = some ⟨oc8, od8, .func (PySem.W.fnOf "power" "power" (defArgs s_power) (defBody s_power) (defScope s_power) .none kV8 dc8 pm8 an8 cd8 ct8), sl8⟩)
    (c8 : PySem.W.codeIn K cd8 "power" = true)
    (k8 : PySem.W.keepIn K (.ref f8) = true)
    (a9 : PySem.W.nsIn K mainGlobals "is_name" = some (some (.ref f9)))
    (l9 : K.lookup f9 = some ⟨oc9, od9, .func (PySem.W.fnOf "is_name" "is_name" (defArgs s_is_name) (defBody s_is_name) (defScope s_is_name) .none kV9 dc9 pm9 an9 cd9 ct9), sl9⟩)
    (c9 : PySem.W.codeIn K cd9 "is_name" = true)
    (k9 : PySem.W.keepIn K (.ref f9) = true)
    (a10 : PySem.W.nsIn K mainGlobals "name_fault" = some (some (.ref f10)))
    (l10 : K.lookup f10 = some ⟨oc10, od10, .func (PySem.W.fnOf "name_fault" "name_fault" (defArgs s_name_fault) (defBody s_name_fault) (defScope s_name_fault) .none kV10 dc10 pm10 an10 cd10 ct10), sl10⟩)
    (c10 : PySem.W.codeIn K cd10 "name_fault" = true)
    (k10 : PySem.W.keepIn K (.ref f10) = true)
    (a11 : PySem.W.nsIn K mainGlobals "own_fault" = some (some (.ref f11)))
    (l11 : K.lookup f11 = some ⟨oc11, od11, .func (PySem.W.fnOf "own_fault" "own_fault" (defArgs s_own_fault) (defBody s_own_fault) (defScope s_own_fault) .none kV11 dc11 pm11 an11 cd11 ct11), sl11⟩)
    (c11 : PySem.W.codeIn K cd11 "own_fault" = true)
    (k11 : PySem.W.keepIn K (.ref f11) = true)
    (a12 : PySem.W.nsIn K mainGlobals "kind_fault" = some (some (.ref f12)))
    (l12 : K.lookup f12 = some ⟨oc12, od12, .func (PySem.W.fnOf "kind_fault" "kind_fault" (defArgs s_kind_fault) (defBody s_kind_fault) (defScope s_kind_fault) .none kV12 dc12 pm12 an12 cd12 ct12), sl12⟩)
    (c12 : PySem.W.codeIn K cd12 "kind_fault" = true)
    (k12 : PySem.W.keepIn K (.ref f12) = true)
    (a13 : PySem.W.nsIn K mainGlobals "parts_fault" = some (some (.ref f13)))
    (l13 : K.lookup f13 = some ⟨oc13, od13, .func (PySem.W.fnOf "parts_fault" "parts_fault" (defArgs s_parts_fault) (defBody s_parts_fault) (defScope s_parts_fault) .none kV13 dc13 pm13 an13 cd13 ct13), sl13⟩)
    (c13 : PySem.W.codeIn K cd13 "parts_fault" = true)
    (k13 : PySem.W.keepIn K (.ref f13) = true)
    (a14 : PySem.W.nsIn K mainGlobals "use_fault" = some (some (.ref f14)))
    (l14 : K.lookup f14 = some ⟨oc14, od14, .func (PySem.W.fnOf "use_fault" "use_fault" (defArgs s_use_fault) (defBody s_use_fault) (defScope s_use_fault) .none kV14 dc14 pm14 an14 cd14 ct14), sl14⟩)
    (c14 : PySem.W.codeIn K cd14 "use_fault" = true)
    (k14 : PySem.W.keepIn K (.ref f14) = true)
    (a15 : PySem.W.nsIn K mainGlobals "head_fault" = some (some (.ref f15)))
    (l15 : K.lookup f15 = some ⟨oc15, od15, .func (PySem.W.fnOf "head_fault" "head_fault" (defArgs s_head_fault) (defBody s_head_fault) (defScope s_head_fault) .none kV15 dc15 pm15 an15 cd15 ct15), sl15⟩)
    (c15 : PySem.W.codeIn K cd15 "head_fault" = true)
    (k15 : PySem.W.keepIn K (.ref f15) = true)
    (a16 : PySem.W.nsIn K mainGlobals "heads_of" = some (some (.ref f16)))
    (l16 : K.lookup f16 = some ⟨oc16, od16, .func (PySem.W.fnOf "heads_of" "heads_of" (defArgs s_heads_of) (defBody s_heads_of) (defScope s_heads_of) .none kV16 dc16 pm16 an16 cd16 ct16), sl16⟩)
    (c16 : PySem.W.codeIn K cd16 "heads_of" = true)
    (k16 : PySem.W.keepIn K (.ref f16) = true)
    (a17 : PySem.W.nsIn K mainGlobals "bookfault" = some (some (.ref f17)))
    (l17 : K.lookup f17 = some ⟨oc17, od17, .func (PySem.W.fnOf "bookfault" "bookfault" (defArgs s_bookfault) (defBody s_bookfault) (defScope s_bookfault) .none kV17 dc17 pm17 an17 cd17 ct17), sl17⟩)
    (c17 : PySem.W.codeIn K cd17 "bookfault" = true)
    (k17 : PySem.W.keepIn K (.ref f17) = true)
    (a18 : PySem.W.nsIn K mainGlobals "closed_fault" = some (some (.ref f18)))
    (l18 : K.lookup f18 = some ⟨oc18, od18, .func (PySem.W.fnOf "closed_fault" "closed_fault" (defArgs s_closed_fault) (defBody s_closed_fault) (defScope s_closed_fault) .none kV18 dc18 pm18 an18 cd18 ct18), sl18⟩)
    (c18 : PySem.W.codeIn K cd18 "closed_fault" = true)
    (k18 : PySem.W.keepIn K (.ref f18) = true)
    (a19 : PySem.W.nsIn K mainGlobals "formfault" = some (some (.ref f19)))
    (l19 : K.lookup f19 = some ⟨oc19, od19, .func (PySem.W.fnOf "formfault" "formfault" (defArgs s_formfault) (defBody s_formfault) (defScope s_formfault) .none kV19 dc19 pm19 an19 cd19 ct19), sl19⟩)
    (c19 : PySem.W.codeIn K cd19 "formfault" = true)
    (k19 : PySem.W.keepIn K (.ref f19) = true)
    (a20 : PySem.W.nsIn K mainGlobals "plain_fits" = some (some (.ref f20)))
    (l20 : K.lookup f20 = some ⟨oc20, od20, .func (PySem.W.fnOf "plain_fits" "plain_fits" (defArgs s_plain_fits) (defBody s_plain_fits) (defScope s_plain_fits) .none kV20 dc20 pm20 an20 cd20 ct20), sl20⟩)
    (c20 : PySem.W.codeIn K cd20 "plain_fits" = true)
    (k20 : PySem.W.keepIn K (.ref f20) = true)
    (a21 : PySem.W.nsIn K mainGlobals "refuse_unplain" = some (some (.ref f21)))
    (l21 : K.lookup f21 = some ⟨oc21, od21, .func (PySem.W.fnOf "refuse_unplain" "refuse_unplain" (defArgs s_refuse_unplain) (defBody s_refuse_unplain) (defScope s_refuse_unplain) .none kV21 dc21 pm21 an21 cd21 ct21), sl21⟩)
    (c21 : PySem.W.codeIn K cd21 "refuse_unplain" = true)
    (k21 : PySem.W.keepIn K (.ref f21) = true)
    (a22 : PySem.W.nsIn K mainGlobals "coded" = some (some (.ref f22)))
    (l22 : K.lookup f22 = some ⟨oc22, od22, .func (PySem.W.fnOf "coded" "coded" (defArgs s_coded) (defBody s_coded) (defScope s_coded) .none kV22 dc22 pm22 an22 cd22 ct22), sl22⟩)
    (c22 : PySem.W.codeIn K cd22 "coded" = true)
    (k22 : PySem.W.keepIn K (.ref f22) = true)
    (a23 : PySem.W.nsIn K mainGlobals "decoded" = some (some (.ref f23)))
    (l23 : K.lookup f23 = some ⟨oc23, od23, .func (PySem.W.fnOf "decoded" "decoded" (defArgs s_decoded) (defBody s_decoded) (defScope s_decoded) .none kV23 dc23 pm23 an23 cd23 ct23), sl23⟩)
    (c23 : PySem.W.codeIn K cd23 "decoded" = true)
    (k23 : PySem.W.keepIn K (.ref f23) = true)
    (a24 : PySem.W.nsIn K mainGlobals "_law_deck" = some (some (.ref f24)))
    (l24 : K.lookup f24 = some ⟨oc24, od24, .func (PySem.W.fnOf "_law_deck" "_law_deck" (defArgs s__law_deck) (defBody s__law_deck) (defScope s__law_deck) .none kV24 dc24 pm24 an24 cd24 ct24), sl24⟩)
    (c24 : PySem.W.codeIn K cd24 "_law_deck" = true)
    (k24 : PySem.W.keepIn K (.ref f24) = true)
    (a25 : PySem.W.nsIn K mainGlobals "_law_pick" = some (some (.ref f25)))
    (l25 : K.lookup f25 = some ⟨oc25, od25, .func (PySem.W.fnOf "_law_pick" "_law_pick" (defArgs s__law_pick) (defBody s__law_pick) (defScope s__law_pick) .none kV25 dc25 pm25 an25 cd25 ct25), sl25⟩)
    (c25 : PySem.W.codeIn K cd25 "_law_pick" = true)
    (k25 : PySem.W.keepIn K (.ref f25) = true)
    (a26 : PySem.W.nsIn K mainGlobals "_law_power" = some (some (.ref f26)))
    (l26 : K.lookup f26 = some ⟨oc26, od26, .func (PySem.W.fnOf "_law_power" "_law_power" (defArgs s__law_power) (defBody s__law_power) (defScope s__law_power) .none kV26 dc26 pm26 an26 cd26 ct26), sl26⟩)
    (c26 : PySem.W.codeIn K cd26 "_law_power" = true)
    (k26 : PySem.W.keepIn K (.ref f26) = true)
    (a27 : PySem.W.nsIn K mainGlobals "_law_any" = some (some (.ref f27)))
    (l27 : K.lookup f27 = some ⟨oc27, od27, .func (PySem.W.fnOf "_law_any" "_law_any" (defArgs s__law_any) (defBody s__law_any) (defScope s__law_any) .none kV27 dc27 pm27 an27 cd27 ct27), sl27⟩)
    (c27 : PySem.W.codeIn K cd27 "_law_any" = true)
    (k27 : PySem.W.keepIn K (.ref f27) = true)
    (a28 : PySem.W.nsIn K mainGlobals "_law_asked" = some (some (.ref f28)))
    (l28 : K.lookup f28 = some ⟨oc28, od28, .func (PySem.W.fnOf "_law_asked" "_law_asked" (defArgs s__law_asked) (defBody s__law_asked) (defScope s__law_asked) .none kV28 dc28 pm28 an28 cd28 ct28), sl28⟩)
    (c28 : PySem.W.codeIn K cd28 "_law_asked" = true)
    (k28 : PySem.W.keepIn K (.ref f28) = true)
    (a29 : PySem.W.nsIn K mainGlobals "_law_there_and_back" = some (some (.ref f29)))
    (l29 : K.lookup f29 = some ⟨oc29, od29, .func (PySem.W.fnOf "_law_there_and_back" "_law_there_and_back" (defArgs s__law_there_and_back) (defBody s__law_there_and_back) (defScope s__law_there_and_back) .none kV29 dc29 pm29 an29 cd29 ct29), sl29⟩)
    (c29 : PySem.W.codeIn K cd29 "_law_there_and_back" = true)
    (k29 : PySem.W.keepIn K (.ref f29) = true)
    (a30 : PySem.W.nsIn K mainGlobals "_law_wrong" = some (some (.ref f30)))
    (l30 : K.lookup f30 = some ⟨oc30, od30, .func (PySem.W.fnOf "_law_wrong" "_law_wrong" (defArgs s__law_wrong) (defBody s__law_wrong) (defScope s__law_wrong) .none kV30 dc30 pm30 an30 cd30 ct30), sl30⟩)
    (c30 : PySem.W.codeIn K cd30 "_law_wrong" = true)
    (k30 : PySem.W.keepIn K (.ref f30) = true)
    (a31 : PySem.W.nsIn K mainGlobals "law" = some (some (.ref f31)))
    (l31 : K.lookup f31 = some ⟨oc31, od31, .func (PySem.W.fnOf "law" "law" (defArgs s_law) (defBody s_law) (defScope s_law) .none kV31 dc31 pm31 an31 cd31 ct31), sl31⟩)
    (c31 : PySem.W.codeIn K cd31 "law" = true)
    (k31 : PySem.W.keepIn K (.ref f31) = true)
    (z_isinstance : PySem.W.nsIn K mainGlobals "isinstance" = some none)
    (z_int : PySem.W.nsIn K mainGlobals "int" = some none)
    (z_bool : PySem.W.nsIn K mainGlobals "bool" = some none)
    (z_tuple : PySem.W.nsIn K mainGlobals "tuple" = some none)
    (z_len : PySem.W.nsIn K mainGlobals "len" = some none)
    (z_all : PySem.W.nsIn K mainGlobals "all" = some none)
    (z_str : PySem.W.nsIn K mainGlobals "str" = some none)
    (z_enumerate : PySem.W.nsIn K mainGlobals "enumerate" = some none)
    (z_list : PySem.W.nsIn K mainGlobals "list" = some none)
    (z_range : PySem.W.nsIn K mainGlobals "range" = some none) :
    ∃ fd : FuncData, (∀ (s : Shared) (v : Value), BindsTo s fd ⟨[v], []⟩ [("_law_script", v)]) ∧ ∀ base : Heap, K.In base → base.Ns mainGlobals mg → FnOk l.prog w K mg base CX0 49 fa fd ["_law_script"] (sp_law K) := by
  have e := hfa.symm.trans (PySem.W.mg_of X G a31)
  cases e
  have g_MOST_LETTERS := PySem.W.mg_of X G ag_MOST_LETTERS
  have g_LETTERS := PySem.W.mg_of X G ag_LETTERS
  have g_MOST_DEPTH := PySem.W.mg_of X G ag_MOST_DEPTH
  have g_MOST_FORMS := PySem.W.mg_of X G ag_MOST_FORMS
  have g_LENGTHS := PySem.W.mg_of X G ag_LENGTHS
  have g_PART_WORDS := PySem.W.mg_of X G ag_PART_WORDS
  have h_PART_WORDS : ∀ H : Hp, SqT K H a_PART_WORDS [.str "record", .str "variant"] := fun H => .inr ⟨_, _, _, lg_PART_WORDS, rfl, rfl, (by show 2 ≤ sizeLine; decide), (.cons ⟨_, rfl⟩ (.cons ⟨_, rfl⟩ .nil))⟩
  have g_MOST_BITS := PySem.W.mg_of X G ag_MOST_BITS
  have g_MOST_MANY := PySem.W.mg_of X G ag_MOST_MANY
  have g_MOST_PARTS := PySem.W.mg_of X G ag_MOST_PARTS
  have g_MOST_HOLES := PySem.W.mg_of X G ag_MOST_HOLES
  have g_MOST_DECLARATIONS := PySem.W.mg_of X G ag_MOST_DECLARATIONS
  have g_PLAIN_WORDS := PySem.W.mg_of X G ag_PLAIN_WORDS
  have h_PLAIN_WORDS : ∀ H : Hp, SqT K H a_PLAIN_WORDS [.str "nat", .str "int", .str "truth"] := fun H => .inr ⟨_, _, _, lg_PLAIN_WORDS, rfl, rfl, (by show 3 ≤ sizeLine; decide), (.cons ⟨_, rfl⟩ (.cons ⟨_, rfl⟩ (.cons ⟨_, rfl⟩ .nil)))⟩
  have g_PackError := PySem.W.mg_of X G aC_PackError
  have F1 := fun_mk (st := s_BadKindI) l1 c1 k1
  have b1 := F1.binds (ps := ["self", "place", "why"]) fun _ _ _ _ _ _ us hl => match us, hl with | [_, _, _], _ => rfl
  have g_BadKind := PySem.W.mg_of X G aC_BadKind
  have O_BadKind : OexC K C_BadKind := ⟨⟨nm_BadKind, q_BadKind, N_BadKind, bs_BadKind, _, sn_BadKind, sub_BadKind, ab_BadKind, col_BadKind, dd_BadKind, m0_BadKind, m1_BadKind, m2_BadKind, m3_BadKind, m5_BadKind, x_BadKind, rfl⟩, sa_BadKind, eC_BadKind, tC_BadKind, kC_BadKind⟩
  have T_BadKind : ErC K mg "BadKind" C_BadKind f1 := ⟨O_BadKind, a1, y1, g_BadKind⟩
  have F2 := fun_mk (st := s_MisfitI) l2 c2 k2
  have b2 := F2.binds (ps := ["self", "path"]) fun _ _ _ _ _ _ us hl => match us, hl with | [_, _], _ => rfl
  have g_Misfit := PySem.W.mg_of X G aC_Misfit
  have O_Misfit : OexC K C_Misfit := ⟨⟨nm_Misfit, q_Misfit, N_Misfit, bs_Misfit, _, sn_Misfit, sub_Misfit, ab_Misfit, col_Misfit, dd_Misfit, m0_Misfit, m1_Misfit, m2_Misfit, m3_Misfit, m5_Misfit, x_Misfit, rfl⟩, sa_Misfit, eC_Misfit, tC_Misfit, kC_Misfit⟩
  have T_Misfit : ErC K mg "Misfit" C_Misfit f2 := ⟨O_Misfit, a2, y2, g_Misfit⟩
  have F3 := fun_mk (st := s_NoCodeI) l3 c3 k3
  have b3 := F3.binds (ps := ["self", "code"]) fun _ _ _ _ _ _ us hl => match us, hl with | [_, _], _ => rfl
  have g_NoCode := PySem.W.mg_of X G aC_NoCode
  have O_NoCode : OexC K C_NoCode := ⟨⟨nm_NoCode, q_NoCode, N_NoCode, bs_NoCode, _, sn_NoCode, sub_NoCode, ab_NoCode, col_NoCode, dd_NoCode, m0_NoCode, m1_NoCode, m2_NoCode, m3_NoCode, m5_NoCode, x_NoCode, rfl⟩, sa_NoCode, eC_NoCode, tC_NoCode, kC_NoCode⟩
  have T_NoCode : ErC K mg "NoCode" C_NoCode f3 := ⟨O_NoCode, a3, y3, g_NoCode⟩
  have F4 := fun_mk (st := s_LookI) l4 c4 k4
  have b4 := F4.binds (ps := ["self", "heads", "holes"]) fun _ _ _ _ _ _ us hl => match us, hl with | [_, _, _], _ => rfl
  have g_Look := PySem.W.mg_of X G aC_Look
  have cl_Look : Cls K C_Look := ⟨pg_Look, hd_Look, po_Look, sa_Look⟩
  have M_Look : Mk K C_Look f4 := ⟨mk_Look, a4, i4, kc_Look⟩
  have F5 := fun_mk (st := s_is_whole) l5 c5 k5
  have b5 := F5.binds (ps := ["thing"]) fun _ _ _ _ _ _ us hl => match us, hl with | [_], _ => rfl
  have g5 := PySem.W.mg_of X G a5
  have F6 := fun_mk (st := s_is_between) l6 c6 k6
  have b6 := F6.binds (ps := ["thing", "least", "most"]) fun _ _ _ _ _ _ us hl => match us, hl with | [_, _, _], _ => rfl
  have g6 := PySem.W.mg_of X G a6
  have F7 := fun_mk (st := s_is_tuple_of) l7 c7 k7
  have b7 := F7.binds (ps := ["thing", "many"]) fun _ _ _ _ _ _ us hl => match us, hl with | [_, _], _ => rfl
  have g7 := PySem.W.mg_of X G a7
  have F8 := fun_mk (st := s_power) l8 c8 k8
  have b8 := F8.binds (ps := ["bits"]) fun _ _ _ _ _ _ us hl => match us, hl with | [_], _ => rfl
  have g8 := PySem.W.mg_of X G a8
  have F9 := fun_mk (st := s_is_name) l9 c9 k9
  have b9 := F9.binds (ps := ["thing"]) fun _ _ _ _ _ _ us hl => match us, hl with | [_], _ => rfl
  have g9 := PySem.W.mg_of X G a9
  have F10 := fun_mk (st := s_name_fault) l10 c10 k10
  have b10 := F10.binds (ps := ["earlier", "thing", "place"]) fun _ _ _ _ _ _ us hl => match us, hl with | [_, _, _], _ => rfl
  have g10 := PySem.W.mg_of X G a10
  have F11 := fun_mk (st := s_own_fault) l11 c11 k11
  have b11 := F11.binds (ps := ["look", "thing", "depth"]) fun _ _ _ _ _ _ us hl => match us, hl with | [_, _, _], _ => rfl
  have g11 := PySem.W.mg_of X G a11
  have F12 := fun_mk (st := s_kind_fault) l12 c12 k12
  have b12 := F12.binds (ps := ["look", "thing", "place", "depth"]) fun _ _ _ _ _ _ us hl => match us, hl with | [_, _, _, _], _ => rfl
  have g12 := PySem.W.mg_of X G a12
  have F13 := fun_mk (st := s_parts_fault) l13 c13 k13
  have b13 := F13.binds (ps := ["look", "thing", "place", "depth"]) fun _ _ _ _ _ _ us hl => match us, hl with | [_, _, _, _], _ => rfl
  have g13 := PySem.W.mg_of X G a13
  have F14 := fun_mk (st := s_use_fault) l14 c14 k14
  have b14 := F14.binds (ps := ["look", "thing", "place", "depth"]) fun _ _ _ _ _ _ us hl => match us, hl with | [_, _, _, _], _ => rfl
  have g14 := PySem.W.mg_of X G a14
  have F15 := fun_mk (st := s_head_fault) l15 c15 k15
  have b15 := F15.binds (ps := ["earlier", "thing", "number"]) fun _ _ _ _ _ _ us hl => match us, hl with | [_, _, _], _ => rfl
  have g15 := PySem.W.mg_of X G a15
  have F16 := fun_mk (st := s_heads_of) l16 c16 k16
  have b16 := F16.binds (ps := ["book"]) fun _ _ _ _ _ _ us hl => match us, hl with | [_], _ => rfl
  have g16 := PySem.W.mg_of X G a16
  have F17 := fun_mk (st := s_bookfault) l17 c17 k17
  have b17 := F17.binds (ps := ["thing"]) fun _ _ _ _ _ _ us hl => match us, hl with | [_], _ => rfl
  have g17 := PySem.W.mg_of X G a17
  have F18 := fun_mk (st := s_closed_fault) l18 c18 k18
  have b18 := F18.binds (ps := ["book", "thing"]) fun _ _ _ _ _ _ us hl => match us, hl with | [_, _], _ => rfl
  have g18 := PySem.W.mg_of X G a18
  have F19 := fun_mk (st := s_formfault) l19 c19 k19
  have b19 := F19.binds (ps := ["book", "thing"]) fun _ _ _ _ _ _ us hl => match us, hl with | [_, _], _ => rfl
  have g19 := PySem.W.mg_of X G a19
  have F20 := fun_mk (st := s_plain_fits) l20 c20 k20
  have b20 := F20.binds (ps := ["kind", "thing"]) fun _ _ _ _ _ _ us hl => match us, hl with | [_, _], _ => rfl
  have g20 := PySem.W.mg_of X G a20
  have F21 := fun_mk (st := s_refuse_unplain) l21 c21 k21
  have b21 := F21.binds (ps := ["kind"]) fun _ _ _ _ _ _ us hl => match us, hl with | [_], _ => rfl
  have g21 := PySem.W.mg_of X G a21
  have F22 := fun_mk (st := s_coded) l22 c22 k22
  have b22 := F22.binds (ps := ["kind", "worth"]) fun _ _ _ _ _ _ us hl => match us, hl with | [_, _], _ => rfl
  have g22 := PySem.W.mg_of X G a22
  have F23 := fun_mk (st := s_decoded) l23 c23 k23
  have b23 := F23.binds (ps := ["kind", "code"]) fun _ _ _ _ _ _ us hl => match us, hl with | [_, _], _ => rfl
  have g23 := PySem.W.mg_of X G a23
  have F24 := fun_mk (st := s__law_deck) l24 c24 k24
  have b24 := F24.binds (ps := ["_law_script"]) fun _ _ _ _ _ _ us hl => match us, hl with | [_], _ => rfl
  have g24 := PySem.W.mg_of X G a24
  have F25 := fun_mk (st := s__law_pick) l25 c25 k25
  have b25 := F25.binds (ps := ["_law_deck_here", "_law_many"]) fun _ _ _ _ _ _ us hl => match us, hl with | [_, _], _ => rfl
  have g25 := PySem.W.mg_of X G a25
  have F26 := fun_mk (st := s__law_power) l26 c26 k26
  have b26 := F26.binds (ps := ["_law_bits"]) fun _ _ _ _ _ _ us hl => match us, hl with | [_], _ => rfl
  have g26 := PySem.W.mg_of X G a26
  have F27 := fun_mk (st := s__law_any) l27 c27 k27
  have b27 := F27.binds (ps := ["_law_deck_here", "_law_many"]) fun _ _ _ _ _ _ us hl => match us, hl with | [_, _], _ => rfl
  have g27 := PySem.W.mg_of X G a27
  have F28 := fun_mk (st := s__law_asked) l28 c28 k28
  have b28 := F28.binds (ps := ["_law_way", "_law_kind", "_law_thing"]) fun _ _ _ _ _ _ us hl => match us, hl with | [_, _, _], _ => rfl
  have g28 := PySem.W.mg_of X G a28
  have F29 := fun_mk (st := s__law_there_and_back) l29 c29 k29
  have b29 := F29.binds (ps := ["_law_kind", "_law_low", "_law_many", "_law_number"]) fun _ _ _ _ _ _ us hl => match us, hl with | [_, _, _, _], _ => rfl
  have g29 := PySem.W.mg_of X G a29
  have F30 := fun_mk (st := s__law_wrong) l30 c30 k30
  have b30 := F30.binds (ps := ["_law_deck_here", "_law_low", "_law_many", "_law_is_truth"]) fun _ _ _ _ _ _ us hl => match us, hl with | [_, _, _, _], _ => rfl
  have g30 := PySem.W.mg_of X G a30
  have F31 := fun_mk (st := s_law) l31 c31 k31
  have b31 := F31.binds (ps := ["_law_script"]) fun _ _ _ _ _ _ us hl => match us, hl with | [_], _ => rfl
  have g31 := PySem.W.mg_of X G a31
  have m_isinstance := PySem.W.mg_none_of X G z_isinstance
  have m_int := PySem.W.mg_none_of X G z_int
  have m_bool := PySem.W.mg_none_of X G z_bool
  have m_tuple := PySem.W.mg_none_of X G z_tuple
  have m_len := PySem.W.mg_none_of X G z_len
  have m_all := PySem.W.mg_none_of X G z_all
  have m_str := PySem.W.mg_none_of X G z_str
  have m_enumerate := PySem.W.mg_none_of X G z_enumerate
  have m_list := PySem.W.mg_none_of X G z_list
  have m_range := PySem.W.mg_none_of X G z_range
  refine ⟨PySem.W.fnOf "law" "law" (defArgs s_law) (defBody s_law) (defScope s_law) .none kV31 dc31 pm31 an31 cd31 ct31, fun s v => .of_eq rfl, fun base _ _ => ?_⟩
  have D_LENGTHS : KLen K w a_LENGTHS := by
    refine ⟨_, _, ⟨lg_LENGTHS, ⟨⟨_, _, rfl, rfl⟩, ⟨_, _, rfl, rfl⟩, ⟨_, _, rfl, rfl⟩, ⟨_, _, rfl, rfl⟩, ⟨_, _, rfl, rfl⟩, ⟨_, _, rfl, rfl⟩, ⟨_, _, rfl, rfl⟩, ⟨_, _, rfl, rfl⟩, ⟨_, _, rfl, rfl⟩, ⟨_, _, rfl, rfl⟩, trivial⟩, wg_LENGTHS⟩, fun z => ?_⟩
    unfold PySem.W.nsIn
    rw [lg_LENGTHS]
    by_cases h1 : z = "nat"
    · subst h1; exact ⟨_, rfl, _, rfl⟩
    by_cases h2 : z = "int"
    · subst h2; exact ⟨_, rfl, _, rfl⟩
    by_cases h3 : z = "truth"
    · subst h3; exact ⟨_, rfl, _, rfl⟩
    by_cases h4 : z = "record"
    · subst h4; exact ⟨_, rfl, _, rfl⟩
    by_cases h5 : z = "variant"
    · subst h5; exact ⟨_, rfl, _, rfl⟩
    by_cases h6 : z = "row"
    · subst h6; exact ⟨_, rfl, _, rfl⟩
    by_cases h7 : z = "maybe"
    · subst h7; exact ⟨_, rfl, _, rfl⟩
    by_cases h8 : z = "box"
    · subst h8; exact ⟨_, rfl, _, rfl⟩
    by_cases h9 : z = "use"
    · subst h9; exact ⟨_, rfl, _, rfl⟩
    by_cases h10 : z = "hole"
    · subst h10; exact ⟨_, rfl, _, rfl⟩
    have ew : wlen z = none := by
      unfold wlen
      rw [if_neg h1, if_neg h2, if_neg h3, if_neg h4, if_neg h5, if_neg h6, if_neg h7, if_neg h8, if_neg h9, if_neg h10]
    have nb : ∀ s : Str, ¬ z = s → (s == z) = false := fun s h => by
      cases e : (s == z) with
      | false => rfl
      | true => exact absurd (eq_of_beq e).symm h
    refine ⟨none, ?_, by rw [ew]⟩
    simp only [List.find?, Value.isStr, nb _ h1, nb _ h2, nb _ h3, nb _ h4, nb _ h5, nb _ h6, nb _ h7, nb _ h8, nb _ h9, nb _ h10]
    rfl
  have T_Look : LkT K C_Look := ⟨cl_Look, n_Look_heads, n_Look_holes, n_Look_forms⟩
  have G_Look := ok_LookI (P := l.prog) (w := w) (mg := mg) (base := base) F4 T_Look
  have G_BadKind := ok_BadKindI (P := l.prog) (w := w) (mg := mg) (base := base) F1 O_BadKind n_BadKind_place n_BadKind_why
  have G_Misfit := ok_MisfitI (P := l.prog) (w := w) (mg := mg) (base := base) F2 O_Misfit n_Misfit_path
  have G_NoCode := ok_NoCodeI (P := l.prog) (w := w) (mg := mg) (base := base) F3 O_NoCode n_NoCode_code
  have C_is_whole : Cal l.prog w K mg base "is_whole" pm_is_whole 1 (sp_is_whole K) := ⟨_, _, ok_is_whole F5 m_isinstance m_int m_bool, g5, k5, b5⟩
  have C_is_between : Cal l.prog w K mg base "is_between" pm_is_between 2 (sp_is_between K) := ⟨_, _, ok_is_between F6 C_is_whole, g6, k6, b6⟩
  have C_is_tuple_of : Cal l.prog w K mg base "is_tuple_of" pm_is_tuple_of 1 (sp_is_tuple_of K) := ⟨_, _, ok_is_tuple_of F7 m_isinstance m_tuple m_len, g7, k7, b7⟩
  have C_power : Cal l.prog w K mg base "power" pm_power 1 sp_power := ⟨_, _, ok_power F8 , g8, k8, b8⟩
  have C_is_name : Cal l.prog w K mg base "is_name" pm_is_name 1 (sp_is_name K) := ⟨_, _, ok_is_name F9 m_all m_isinstance m_str m_len g_MOST_LETTERS g_LETTERS, g9, k9, b9⟩
  have C_name_fault : Cal l.prog w K mg base "name_fault" pm_name_fault 2 (sp_name_fault K) := ⟨_, _, ok_name_fault F10 C_is_name, g10, k10, b10⟩
  have C_own_fault : Cal l.prog w K mg base "own_fault" pm_own_fault 1 (sp_own_fault K) := ⟨_, _, ok_own_fault F11 m_len m_isinstance m_tuple m_str g_MOST_DEPTH g_MOST_FORMS g_LENGTHS D_LENGTHS, g11, k11, b11⟩
  have C_kind_fault : Cal l.prog w K mg base "kind_fault" pm_kind_fault 43 (sp_kind_fault K 10) := ⟨_, _, ok_kind_fault F12 g12 b12 C_own_fault C_is_between C_is_tuple_of C_name_fault F13 g13 k13 b13 F14 g14 k14 b14 m_isinstance m_tuple m_len m_enumerate m_str g_MOST_PARTS g_MOST_MANY g_MOST_BITS g_PART_WORDS h_PART_WORDS 10, g12, k12, b12⟩
  have C_heads_of : Cal l.prog w K mg base "heads_of" pm_heads_of 1 (sp_heads_of K) := ⟨_, _, ok_heads_of F16 m_len, g16, k16, b16⟩
  have C_head_fault : Cal l.prog w K mg base "head_fault" pm_head_fault 3 (sp_head_fault K) := ⟨_, _, (⟨fun _ _ _ _ h => h.elim, fun _ _ _ _ _ _ _ _ _ _ _ _ _ h => h.elim⟩ : FnOk l.prog w K mg base CX0 3 f15 _ pm_head_fault (sp_head_fault K)), g15, k15, b15⟩
  have C_closed_fault : Cal l.prog w K mg base "closed_fault" pm_closed_fault 44 (sp_closed_fault K) := ⟨_, _, ok_closed_fault F18 C_kind_fault C_heads_of M_Look G_Look g_Look b4, g18, k18, b18⟩
  have C_bookfault : Cal l.prog w K mg base "bookfault" pm_bookfault 44 (sp_bookfault K) := ⟨_, _, ok_bookfault F17 C_heads_of C_head_fault C_kind_fault m_enumerate m_isinstance m_tuple m_len g_MOST_DECLARATIONS M_Look G_Look g_Look b4, g17, k17, b17⟩
  have C_formfault : Cal l.prog w K mg base "formfault" pm_formfault 45 (sp_formfault K) := ⟨_, _, ok_formfault F19 C_closed_fault C_bookfault, g19, k19, b19⟩
  have C_plain_fits : Cal l.prog w K mg base "plain_fits" pm_plain_fits 3 (sp_plain_fits K) := ⟨_, _, ok_plain_fits F20 C_power C_is_between m_isinstance m_bool, g20, k20, b20⟩
  have G_refuse_unplain := ok_refuse_unplain (P := l.prog) (w := w) (base := base) F21 C_closed_fault T_BadKind G_BadKind b1 g_PLAIN_WORDS h_PLAIN_WORDS
  have G_coded := ok_coded F22 G_refuse_unplain g21 k21 b21 C_plain_fits C_power T_Misfit G_Misfit b2
  have G_decoded := ok_decoded F23 G_refuse_unplain g21 k21 b21 C_is_between C_power T_NoCode G_NoCode b3
  have TT : ErT K mg C_PackError C_BadKind C_Misfit C_NoCode :=
    { gP := g_PackError, gB := g_BadKind, gM := g_Misfit, gN := g_NoCode, mm := exm_of eC_Misfit iC_Misfit tC_Misfit su_Misfit_Misfit, nm := exm_of eC_Misfit iC_Misfit tC_Misfit su_NoCode_Misfit, nn := exm_of eC_NoCode iC_NoCode tC_NoCode su_NoCode_NoCode, bm := exm_of eC_Misfit iC_Misfit tC_Misfit su_BadKind_Misfit, bn := exm_of eC_NoCode iC_NoCode tC_NoCode su_BadKind_NoCode, bb := exm_of eC_BadKind iC_BadKind tC_BadKind su_BadKind_BadKind,
      iM := ⟨iC_Misfit, ga_Misfit, gg_Misfit, eC_Misfit, ca_Misfit, sgC, tkC, mr_Misfit⟩, iN := ⟨iC_NoCode, ga_NoCode, gg_NoCode, eC_NoCode, ca_NoCode, sgC, tkC, mr_NoCode⟩, iB := ⟨iC_BadKind, ga_BadKind, gg_BadKind, eC_BadKind, ca_BadKind, sgC, tkC, mr_BadKind⟩, xM := ⟨ga_Misfit, gg_Misfit, eC_Misfit, hC_Misfit⟩, xN := ⟨ga_NoCode, gg_NoCode, eC_NoCode, hC_NoCode⟩, xB := ⟨ga_BadKind, gg_BadKind, eC_BadKind, hC_BadKind⟩, fM := n_Misfit_path, fN := n_NoCode_code, fB := n_BadKind_place, fW := n_BadKind_why,
      aM := kany_none _ (fun c hc => (List.mem_cons.mp hc).elim (fun e => by rw [e]; exact kone_of iC_BadKind tC_BadKind su_Misfit_BadKind ne_Misfit_BadKind) (fun e => by rw [List.mem_singleton.mp e]; exact kone_of iC_NoCode tC_NoCode su_Misfit_NoCode ne_Misfit_NoCode)), aN := kany_none _ (fun c hc => (List.mem_cons.mp hc).elim (fun e => by rw [e]; exact kone_of iC_BadKind tC_BadKind su_NoCode_BadKind ne_NoCode_BadKind) (fun e => by rw [List.mem_singleton.mp e]; exact kone_of iC_Misfit tC_Misfit su_NoCode_Misfit ne_NoCode_Misfit)), aB := kany_none _ (fun c hc => (List.mem_cons.mp hc).elim (fun e => by rw [e]; exact kone_of iC_Misfit tC_Misfit su_BadKind_Misfit ne_BadKind_Misfit) (fun e => by rw [List.mem_singleton.mp e]; exact kone_of iC_NoCode tC_NoCode su_BadKind_NoCode ne_BadKind_NoCode)),
      pM := kone_of iC_PackError tC_PackError su_Misfit_PackError ne_Misfit_PackError, pN := kone_of iC_PackError tC_PackError su_NoCode_PackError ne_NoCode_PackError, pB := kone_of iC_PackError tC_PackError su_BadKind_PackError ne_BadKind_PackError }
  have C__law_pick : Cal l.prog w K mg base "_law_pick" pm__law_pick 1 sp__law_pick := ⟨_, _, ok__law_pick F25 m_len, g25, k25, b25⟩
  have C__law_deck : Cal l.prog w K mg base "_law_deck" pm__law_deck 1 (sp__law_deck K) := ⟨_, _, ok__law_deck F24 m_list m_int m_len, g24, k24, b24⟩
  have C__law_power : Cal l.prog w K mg base "_law_power" pm__law_power 1 sp__law_power := ⟨_, _, ok__law_power F26 m_range, g26, k26, b26⟩
  have C__law_any : Cal l.prog w K mg base "_law_any" pm__law_any 2 (sp__law_any K) := ⟨_, _, ok__law_any F27 C__law_pick, g27, k27, b27⟩
  have C__law_asked : Cal l.prog w K mg base "_law_asked" pm__law_asked 47 (sp__law_asked K) := ⟨_, _, ok__law_asked F28 TT G_coded g22 k22 b22 G_decoded g23 k23 b23 m_isinstance, g28, k28, b28⟩
  have C__law_there_and_back : Cal l.prog w K mg base "_law_there_and_back" pm__law_there_and_back 48 (sp__law_there_and_back K) := ⟨_, _, ok__law_there_and_back F29 C__law_asked m_isinstance m_int m_bool m_len, g29, k29, b29⟩
  have C__law_wrong : Cal l.prog w K mg base "_law_wrong" pm__law_wrong 2 (sp__law_wrong K) := ⟨_, _, ok__law_wrong F30 C__law_pick, g30, k30, b30⟩
  exact ok_law F31 C__law_deck C__law_power C__law_wrong C__law_asked C_formfault C__law_pick C__law_there_and_back C__law_any m_range m_isinstance m_bool
end K3
open PySem PySem.W PyProof.Rows
set_option maxHeartbeats 0 in
theorem PySem.Challenge.cw_packedforms_k11_codes_of_numbers_holds : PySem.Challenge.rw_packedforms_k11_codes_of_numbers.Holds := by
  w_on; o_law; k_head; (case hw => w_witness2)
  k_fill
  refine L2.walk_of (l := PySem.Challenge.rw_packedforms_k11_codes_of_numbers) (n := 63) (k := 49) (x := "_law_script") (CX := fun _ => L2.CX0) (sp := fun w => K3.sp_law _) rfl (by decide) rfl ⟨rfl, by decide, by decide⟩ (fun w h Y => PySem.W.kIn_of Y) ?F (fun _ _ a ns hl _ hS => ⟨a, ns, rfl, hS, hl, fun _ => rfl⟩) (fun _ _ _ _ _ h => h)
  case F =>
    intro w mg fa h KX G hmg
    refine' K3.all_mk KX G hmg ?ag_MOST_LETTERS ?ag_LETTERS ?ag_MOST_DEPTH ?ag_MOST_FORMS ?ag_LENGTHS ?lg_LENGTHS ?wg_LENGTHS ?ag_PART_WORDS ?lg_PART_WORDS ?ag_MOST_BITS ?ag_MOST_MANY ?ag_MOST_PARTS ?ag_MOST_HOLES ?ag_MOST_DECLARATIONS ?ag_PLAIN_WORDS ?lg_PLAIN_WORDS ?aC_PackError ?iC_PackError ?tC_PackError ?eC_PackError ?aC_BadKind ?x_BadKind ?sa_BadKind ?ga_BadKind ?gg_BadKind ?kC_BadKind ?eC_BadKind ?tC_BadKind ?hC_BadKind ?iC_BadKind ?ca_BadKind ?mr_BadKind ?n_BadKind_place ?n_BadKind_why ?a1 ?l1 ?c1 ?k1 ?y1 ?aC_Misfit ?x_Misfit ?sa_Misfit ?ga_Misfit ?gg_Misfit ?kC_Misfit ?eC_Misfit ?tC_Misfit ?hC_Misfit ?iC_Misfit ?ca_Misfit ?mr_Misfit ?n_Misfit_path ?a2 ?l2 ?c2 ?k2 ?y2 ?aC_NoCode ?x_NoCode ?sa_NoCode ?ga_NoCode ?gg_NoCode ?kC_NoCode ?eC_NoCode ?tC_NoCode ?hC_NoCode ?iC_NoCode ?ca_NoCode ?mr_NoCode ?n_NoCode_code ?a3 ?l3 ?c3 ?k3 ?y3 ?su_BadKind_BadKind ?su_BadKind_Misfit ?ne_BadKind_Misfit ?su_BadKind_NoCode ?ne_BadKind_NoCode ?su_BadKind_PackError ?ne_BadKind_PackError ?su_Misfit_BadKind ?ne_Misfit_BadKind ?su_Misfit_Misfit ?su_Misfit_NoCode ?ne_Misfit_NoCode ?su_Misfit_PackError ?ne_Misfit_PackError ?su_NoCode_BadKind ?ne_NoCode_BadKind ?su_NoCode_Misfit ?ne_NoCode_Misfit ?su_NoCode_NoCode ?su_NoCode_PackError ?ne_NoCode_PackError ?sgC ?tkC ?aC_Look ?pg_Look ?hd_Look ?po_Look ?sa_Look ?mk_Look ?kc_Look ?n_Look_heads ?n_Look_holes ?n_Look_forms ?a4 ?l4 ?c4 ?k4 ?i4 ?a5 ?l5 ?c5 ?k5 ?a6 ?l6 ?c6 ?k6 ?a7 ?l7 ?c7 ?k7 ?a8 ?l8 ?c8 ?k8 ?a9 ?l9 ?c9 ?k9 ?a10 ?l10 ?c10 ?k10 ?a11 ?l11 ?c11 ?k11 ?a12 ?l12 ?c12 ?k12 ?a13 ?l13 ?c13 ?k13 ?a14 ?l14 ?c14 ?k14 ?a15 ?l15 ?c15 ?k15 ?a16 ?l16 ?c16 ?k16 ?a17 ?l17 ?c17 ?k17 ?a18 ?l18 ?c18 ?k18 ?a19 ?l19 ?c19 ?k19 ?a20 ?l20 ?c20 ?k20 ?a21 ?l21 ?c21 ?k21 ?a22 ?l22 ?c22 ?k22 ?a23 ?l23 ?c23 ?k23 ?a24 ?l24 ?c24 ?k24 ?a25 ?l25 ?c25 ?k25 ?a26 ?l26 ?c26 ?k26 ?a27 ?l27 ?c27 ?k27 ?a28 ?l28 ?c28 ?k28 ?a29 ?l29 ?c29 ?k29 ?a30 ?l30 ?c30 ?k30 ?a31 ?l31 ?c31 ?k31 ?z_isinstance ?z_int ?z_bool ?z_tuple ?z_len ?z_all ?z_str ?z_enumerate ?z_list ?z_range
    (case ag_MOST_LETTERS => k_is); (case ag_LETTERS => k_is); (case ag_MOST_DEPTH => k_is); (case ag_MOST_FORMS => k_is); (case ag_LENGTHS => k_is); (case lg_LENGTHS => k_is); (case wg_LENGTHS => rfl); (case ag_PART_WORDS => k_is); (case lg_PART_WORDS => k_is); (case ag_MOST_BITS => k_is); (case ag_MOST_MANY => k_is); (case ag_MOST_PARTS => k_is); (case ag_MOST_HOLES => k_is); (case ag_MOST_DECLARATIONS => k_is); (case ag_PLAIN_WORDS => k_is); (case lg_PLAIN_WORDS => k_is); (case aC_PackError => k_is); (case iC_PackError => k_is); (case tC_PackError => k_is); (case eC_PackError => k_is); (case aC_BadKind => k_is); (case x_BadKind => k_is); (case sa_BadKind => k_is); (case ga_BadKind => k_is); (case gg_BadKind => k_is); (case kC_BadKind => k_is); (case eC_BadKind => k_is); (case tC_BadKind => k_is); (case hC_BadKind => k_is); (case iC_BadKind => k_is); (case ca_BadKind => k_is); (case mr_BadKind => k_is); (case n_BadKind_place => k_is); (case n_BadKind_why => k_is); (case a1 => k_is); (case l1 => k_is); (case c1 => k_is); (case k1 => k_is); (case y1 => k_is); (case aC_Misfit => k_is); (case x_Misfit => k_is); (case sa_Misfit => k_is); (case ga_Misfit => k_is); (case gg_Misfit => k_is); (case kC_Misfit => k_is); (case eC_Misfit => k_is); (case tC_Misfit => k_is); (case hC_Misfit => k_is); (case iC_Misfit => k_is); (case ca_Misfit => k_is); (case mr_Misfit => k_is); (case n_Misfit_path => k_is); (case a2 => k_is); (case l2 => k_is); (case c2 => k_is); (case k2 => k_is); (case y2 => k_is); (case aC_NoCode => k_is); (case x_NoCode => k_is); (case sa_NoCode => k_is); (case ga_NoCode => k_is); (case gg_NoCode => k_is); (case kC_NoCode => k_is); (case eC_NoCode => k_is); (case tC_NoCode => k_is); (case hC_NoCode => k_is); (case iC_NoCode => k_is); (case ca_NoCode => k_is); (case mr_NoCode => k_is); (case n_NoCode_code => k_is); (case a3 => k_is); (case l3 => k_is); (case c3 => k_is); (case k3 => k_is); (case y3 => k_is); (case su_BadKind_BadKind => k_is); (case su_BadKind_Misfit => k_is); (case ne_BadKind_Misfit => rfl); (case su_BadKind_NoCode => k_is); (case ne_BadKind_NoCode => rfl); (case su_BadKind_PackError => k_is); (case ne_BadKind_PackError => rfl); (case su_Misfit_BadKind => k_is); (case ne_Misfit_BadKind => rfl); (case su_Misfit_Misfit => k_is); (case su_Misfit_NoCode => k_is); (case ne_Misfit_NoCode => rfl); (case su_Misfit_PackError => k_is); (case ne_Misfit_PackError => rfl); (case su_NoCode_BadKind => k_is); (case ne_NoCode_BadKind => rfl); (case su_NoCode_Misfit => k_is); (case ne_NoCode_Misfit => rfl); (case su_NoCode_NoCode => k_is); (case su_NoCode_PackError => k_is); (case ne_NoCode_PackError => rfl); (case sgC => k_is); (case tkC => k_is); (case aC_Look => k_is); (case pg_Look => k_is); (case hd_Look => k_is); (case po_Look => k_is); (case sa_Look => k_is); (case mk_Look => k_is); (case kc_Look => k_is); (case n_Look_heads => k_is); (case n_Look_holes => k_is); (case n_Look_forms => k_is); (case a4 => k_is); (case l4 => k_is); (case c4 => k_is); (case k4 => k_is); (case i4 => k_is); (case a5 => k_is); (case l5 => k_is); (case c5 => k_is); (case k5 => k_is); (case a6 => k_is); (case l6 => k_is); (case c6 => k_is); (case k6 => k_is); (case a7 => k_is); (case l7 => k_is); (case c7 => k_is); (case k7 => k_is); (case a8 => k_is); (case l8 => k_is); (case c8 => k_is); (case k8 => k_is); (case a9 => k_is); (case l9 => k_is); (case c9 => k_is); (case k9 => k_is); (case a10 => k_is); (case l10 => k_is); (case c10 => k_is); (case k10 => k_is); (case a11 => k_is); (case l11 => k_is); (case c11 => k_is); (case k11 => k_is); (case a12 => k_is); (case l12 => k_is); (case c12 => k_is); (case k12 => k_is); (case a13 => k_is); (case l13 => k_is); (case c13 => k_is); (case k13 => k_is); (case a14 => k_is); (case l14 => k_is); (case c14 => k_is); (case k14 => k_is); (case a15 => k_is); (case l15 => k_is); (case c15 => k_is); (case k15 => k_is); (case a16 => k_is); (case l16 => k_is); (case c16 => k_is); (case k16 => k_is); (case a17 => k_is); (case l17 => k_is); (case c17 => k_is); (case k17 => k_is); (case a18 => k_is); (case l18 => k_is); (case c18 => k_is); (case k18 => k_is); (case a19 => k_is); (case l19 => k_is); (case c19 => k_is); (case k19 => k_is); (case a20 => k_is); (case l20 => k_is); (case c20 => k_is); (case k20 => k_is); (case a21 => k_is); (case l21 => k_is); (case c21 => k_is); (case k21 => k_is); (case a22 => k_is); (case l22 => k_is); (case c22 => k_is); (case k22 => k_is); (case a23 => k_is); (case l23 => k_is); (case c23 => k_is); (case k23 => k_is); (case a24 => k_is); (case l24 => k_is); (case c24 => k_is); (case k24 => k_is); (case a25 => k_is); (case l25 => k_is); (case c25 => k_is); (case k25 => k_is); (case a26 => k_is); (case l26 => k_is); (case c26 => k_is); (case k26 => k_is); (case a27 => k_is); (case l27 => k_is); (case c27 => k_is); (case k27 => k_is); (case a28 => k_is); (case l28 => k_is); (case c28 => k_is); (case k28 => k_is); (case a29 => k_is); (case l29 => k_is); (case c29 => k_is); (case k29 => k_is); (case a30 => k_is); (case l30 => k_is); (case c30 => k_is); (case k30 => k_is); (case a31 => k_is); (case l31 => k_is); (case c31 => k_is); (case k31 => k_is); (case z_isinstance => k_is); (case z_int => k_is); (case z_bool => k_is); (case z_tuple => k_is); (case z_len => k_is); (case z_all => k_is); (case z_str => k_is); (case z_enumerate => k_is); (case z_list => k_is); (case z_range => k_is)
