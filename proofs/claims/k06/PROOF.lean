import PyProof.Rows.All
import Wide.All
import OpenK.AllK
import Wide.FinOn
import HandS.ForMost
import HandS.IsInst
import HandS.TupAny
import HandS.Wide
import HandS.NoneIn
import HandS.Flow
import HandS.Conv
import HandS.Deep
import HandS.Zip
import HandS.Style
import HandS.Exc
import HandS.TryMany
import HandS.ExcInit
import HandS.ExcField
import KE.KExcIs
import HandS.Iter
import HandS.Walk
import KE.GoesMore
import PyProof.EnumMake
import KE.KDictZip
import HandS.Dict
import KE.KDictPairs
import HandS.ExcOwn
import HandS.WordsExc
import KE.DataMinMax
import HandS.SortKw
import HandS.CallSlots
import HandS.Defaults
import PySem.Challenge.RW_packedforms_k06_reaches
import HandS.Steps
import HandS.More
import HandS.DictComp
import HandS.FStr
set_option Elab.async false
set_option linter.all false
set_option maxRecDepth 100000
set_option maxHeartbeats 4000000
namespace K1
open PySem PySem.Spec PyProof.Rows L2
/-! ### written things as data -/
mutual
/-- None, truths, numbers, texts of right signs, tuples of such -/
def pl : PyData → Bool
  | .none => true
  | .bool _ => true
  | .int _ => true
  | .str x => PyData.strOk x
  | .tuple ds => plA ds
  | .list _ => false
  | .dict _ => false
def plA : List PyData → Bool
  | [] => true
  | d :: ds => pl d && plA ds
end
mutual
/-- how great a thing is: tuples and leaves, signs of texts -/
def sz : PyData → Nat
  | .none => 1
  | .bool _ => 1
  | .int _ => 1
  | .str x => x.length + 1
  | .tuple ds => szA ds + 1
  | .list _ => 1
  | .dict _ => 1
def szA : List PyData → Nat
  | [] => 0
  | d :: ds => sz d + szA ds
end
theorem sz_pos : ∀ d, 1 ≤ sz d
  | .none => Nat.le_refl _
  | .bool _ => Nat.le_refl _
  | .int _ => Nat.le_refl _
  | .str x => Nat.succ_le_succ (Nat.zero_le _)
  | .tuple ds => Nat.succ_le_succ (Nat.zero_le _)
  | .list _ => Nat.le_refl _
  | .dict _ => Nat.le_refl _
theorem len_szA : ∀ ds : List PyData, ds.length ≤ szA ds
  | [] => Nat.le_refl _
  | d :: ds => by
    have h1 := sz_pos d
    have h2 := len_szA ds
    simp only [List.length_cons, szA]
    omega
mutual
theorem canLay : ∀ d, pl d = true → PyData.canLay0 d = true
  | .none, _ => rfl
  | .bool _, _ => rfl
  | .int _, _ => rfl
  | .str _, h => h
  | .tuple ds, h => canLayA ds h
  | .list _, h => by cases h
  | .dict _, h => by cases h
theorem canLayA : ∀ ds, plA ds = true → PyData.canLayAll0 ds = true
  | [], _ => rfl
  | d :: ds, h => by
    have h' : pl d = true ∧ plA ds = true := by simpa [plA] using h
    show (PyData.canLay0 d && PyData.canLayAll0 ds) = true
    rw [canLay d h'.1, canLayA ds h'.2]
    rfl
end
theorem plA_mem : ∀ {ds : List PyData} {d : PyData}, plA ds = true → d ∈ ds → pl d = true
  | d :: ds, e, h, m => by
    have h' : pl d = true ∧ plA ds = true := by simpa [plA] using h
    rcases List.mem_cons.mp m with rfl | m
    · exact h'.1
    · exact plA_mem h'.2 m
theorem plA_of : ∀ {ds : List PyData}, (∀ d ∈ ds, pl d = true) → plA ds = true
  | [], _ => rfl
  | d :: ds, h => by
    show (pl d && plA ds) = true
    rw [h d List.mem_cons_self, plA_of fun e m => h e (List.mem_cons_of_mem _ m)]
    rfl
theorem szA_append : ∀ xs ys : List PyData, szA (xs ++ ys) = szA xs + szA ys
  | [], ys => by simp [szA]
  | x :: xs, ys => by
    simp only [List.cons_append, szA, szA_append xs ys]
    omega
theorem sz_mem : ∀ {ds : List PyData} {d : PyData}, d ∈ ds → sz d ≤ szA ds
  | d :: ds, e, m => by
    simp only [szA]
    rcases List.mem_cons.mp m with rfl | m
    · omega
    · have := sz_mem m
      omega
theorem szA_le {b : Nat} : ∀ {ds : List PyData}, (∀ d ∈ ds, sz d ≤ b) → szA ds ≤ ds.length * b
  | [], _ => by simp [szA]
  | d :: ds, h => by
    have h1 := h d List.mem_cons_self
    have h2 := szA_le fun e m => h e (List.mem_cons_of_mem _ m)
    simp only [szA, List.length_cons, Nat.add_mul]
    omega
theorem depthA_le {b : Nat} : ∀ {ds : List PyData}, (∀ d ∈ ds, d.depth ≤ b) → PyData.depthAll ds ≤ b
  | [], _ => by simp [PyData.depthAll]
  | d :: ds, h => by
    have h1 := h d List.mem_cons_self
    have h2 := depthA_le fun e m => h e (List.mem_cons_of_mem _ m)
    simp only [PyData.depthAll]
    omega
theorem depth_mem : ∀ {ds : List PyData} {d : PyData}, d ∈ ds → d.depth ≤ PyData.depthAll ds
  | d :: ds, e, m => by
    simp only [PyData.depthAll]
    rcases List.mem_cons.mp m with rfl | m
    · omega
    · have := depth_mem m
      omega
theorem depth_tuple (ds : List PyData) : (PyData.tuple ds).depth = PyData.depthAll ds + 1 := by simp [PyData.depth]
/-! ### heaps: what tuples stand -/
section
variable {K : PySem.W.Frag} {H H1 H2 : Hp}
def TS (K : PySem.W.Frag) (H H' : Hp) : Prop := ∀ a xs, SqT K H a xs → SqT K H' a xs
theorem TS.refl : TS K H H := fun _ _ h => h
theorem TS.trans (a : TS K H H1) (b : TS K H1 H2) : TS K H H2 := fun x xs h => b x xs (a x xs h)
theorem ts_same (s : Same H H1) : TS K H H1 := fun a xs h => by
  rcases h with (h | ⟨o, h⟩) | h
  · exact .inl (.inl (s _ _ h))
  · exact .inl (.inr ⟨o, s _ _ h⟩)
  · exact .inr h
theorem ts_new {p : Addr} {o : HO} (h : H p = none) : TS K H (upd H p o) := ts_same fun b u e => by rw [upd_ne (ne_of_none e h)]; exact e
theorem ts_but {S : Addr → Prop} (hS : ∀ b, S b → ∃ xs, H b = some (.lst xs)) (k : ∀ b o, ¬ S b → H b = some o → H1 b = some o) : TS K H H1 := fun a xs h => by
  rcases h with (h | ⟨o, h⟩) | h
  · refine .inl (.inl (k _ _ (fun z => ?_) h))
    obtain ⟨ys, e⟩ := hS a z
    rw [e] at h
    cases h
  · refine .inl (.inr ⟨o, k _ _ (fun z => ?_) h⟩)
    obtain ⟨ys, e⟩ := hS a z
    rw [e] at h
    cases h
  · exact .inr h
theorem ts_lst {l : Addr} {xs ys : List V} (h : H l = some (.lst xs)) : TS K H (upd H l (.lst ys)) :=
  ts_but (S := fun b => b = l) (fun b e => ⟨xs, by rw [e]; exact h⟩) fun b o n e => by rw [upd_ne n]; exact e
theorem same_upd {p : Addr} {o : HO} (h : H p = none) : Same H (upd H p o) := fun b x e => by rw [upd_ne (ne_of_none e h)]; exact e
mutual
theorem TS.dp (t : TS K H H1) : ∀ (d : PyData) (v : V), pl d = true → Dp K H v d → Dp K H1 v d
  | .none, _, _, h => by cases h; exact .non
  | .bool b, _, _, h => by cases h; exact .bl b
  | .int i, _, _, h => by cases h; exact .int i
  | .str x, _, _, h => by cases h; exact .str x
  | .tuple ds, _, p, h => by
    cases h with
    | tup hs ha => exact .tup (t _ _ hs) (TS.dps t ds _ p ha)
  | .list _, _, p, _ => by cases p
  | .dict _, _, p, _ => by cases p
theorem TS.dps (t : TS K H H1) : ∀ (ds : List PyData) (vs : List V), plA ds = true → DpAll K H vs ds → DpAll K H1 vs ds
  | [], _, _, h => by cases h; exact .nil
  | d :: ds, _, p, h => by
    have p' : pl d = true ∧ plA ds = true := by simpa [plA] using p
    cases h with
    | cons h1 h2 => exact .cons (TS.dp t d _ p'.1 h1) (TS.dps t ds _ p'.2 h2)
end
theorem dpAll_len : ∀ {vs : List V} {ds : List PyData}, DpAll K H vs ds → vs.length = ds.length
  | _, _, .nil => rfl
  | _, _, .cons _ t => by simp [dpAll_len t]
theorem dpAll_get : ∀ {vs : List V} {ds : List PyData} {i : Nat} {v : V}, DpAll K H vs ds → vs[i]? = some v → ∃ d, ds[i]? = some d ∧ Dp K H v d
  | _, _, i, v, .nil, e => by simp at e
  | _, _, 0, v, .cons h t, e => by
    simp at e
    subst e
    exact ⟨_, rfl, h⟩
  | _, _, i + 1, v, .cons h t, e => by
    obtain ⟨d, e1, e2⟩ := dpAll_get (i := i) t (by simpa using e)
    exact ⟨d, by simpa using e1, e2⟩
theorem dpAll_append : ∀ {vs ws : List V} {ds es : List PyData}, DpAll K H vs ds → DpAll K H ws es → DpAll K H (vs ++ ws) (ds ++ es)
  | _, _, _, _, .nil, s => s
  | _, _, _, _, .cons h t, s => .cons h (dpAll_append t s)
theorem dpAll_take : ∀ {vs : List V} {ds : List PyData} (n : Nat), DpAll K H vs ds → DpAll K H (vs.take n) (ds.take n)
  | _, _, 0, _ => by simp; exact .nil
  | _, _, _ + 1, .nil => by simp; exact .nil
  | _, _, n + 1, .cons h t => .cons h (dpAll_take n t)
theorem dpAll_drop : ∀ {vs : List V} {ds : List PyData} (n : Nat), DpAll K H vs ds → DpAll K H (vs.drop n) (ds.drop n)
  | _, _, 0, r => r
  | _, _, _ + 1, .nil => by simp; exact .nil
  | _, _, n + 1, .cons _ t => dpAll_drop n t
end
/-! ### a few operators -/
section
variable {X : Cx}
/-- a != b of data, where one of them is not deep -/
def rNeM (K : PySem.W.Frag) : R2 := fun x y H Q => ∃ d e, Dp K H x d ∧ Dp K H y e ∧ d.canLay0 = true ∧ e.canLay0 = true ∧ min d.depth e.depth ≤ 64 ∧ Q (.bl (!PyData.eqv d e)) H
def rEqM (K : PySem.W.Frag) : R2 := fun x y H Q => ∃ d e, Dp K H x d ∧ Dp K H y e ∧ d.canLay0 = true ∧ e.canLay0 = true ∧ min d.depth e.depth ≤ 64 ∧ Q (.bl (PyData.eqv d e)) H
theorem op_neM (hu : X.A.units + 64 < cLine) : OpR X (compareOp .NotEq) (rNeM X.K) := by
  intro pins s σ H x y v u Q I rx ry h
  obtain ⟨d, e, hd, he, sd, se, hm, q⟩ := h
  obtain ⟨as, r1⟩ := Dp.reads I d x v hd rx
  obtain ⟨bs, r2⟩ := Dp.reads I e y u he ry
  exact SeqAt.compareNe_reads r1 r2 sd se (Nat.lt_of_le_of_lt (Nat.add_le_add_left hm _) hu) ⟨.bl _, H, I, rfl, q⟩
theorem op_eqM (hu : X.A.units + 64 < cLine) : OpR X (compareOp .Eq) (rEqM X.K) := by
  intro pins s σ H x y v u Q I rx ry h
  obtain ⟨d, e, hd, he, sd, se, hm, q⟩ := h
  obtain ⟨as, r1⟩ := Dp.reads I d x v hd rx
  obtain ⟨bs, r2⟩ := Dp.reads I e y u he ry
  exact SeqAt.compareEq_reads r1 r2 sd se (Nat.lt_of_le_of_lt (Nat.add_le_add_left hm _) hu) ⟨.bl _, H, I, rfl, q⟩
def CPowW (i j : Int) : Prop := 0 ≤ j ∧ (Builtin.Int.intBits i : Int) * j ≤ 2 ^ 27
theorem op_powW : OpR X (binaryOp .Pow) (rI CPowW fun i j => .int (i ^ j.toNat)) := opI fun _ _ _ _ _ _ _ hc q => pow_int hc.1 hc.2 q
end
end K1
namespace K1
open PySem PySem.Spec PyProof.Rows L2
/-! ### the deck -/
structure Dk (H : Hp) (dk cl lf : Addr) (B : Nat) : Prop where
  ex : ∃ (cells lefts : List Int) (n : Int), H dk = some (.lst [.ref cl, .int n, .ref lf]) ∧ H cl = some (.lst (cells.map V.int)) ∧ H lf = some (.lst (lefts.map V.int)) ∧ cells.length = lefts.length ∧ 0 < cells.length ∧ cells.length ≤ 100 ∧ 0 ≤ n ∧ n ≤ B
  ne : cl ≠ lf
/-- all but the deck's own lists stays -/
def KD (dk lf : Addr) (H H' : Hp) : Prop := ∀ b o, b ≠ dk → b ≠ lf → H b = some o → H' b = some o
theorem KD.refl {dk lf : Addr} {H : Hp} : KD dk lf H H := fun _ _ _ _ h => h
theorem KD.trans {dk lf : Addr} {H H1 H2 : Hp} (a : KD dk lf H H1) (b : KD dk lf H1 H2) : KD dk lf H H2 := fun c o n1 n2 h => b c o n1 n2 (a c o n1 n2 h)
theorem Dk.ts {K : PySem.W.Frag} {H H' : Hp} {dk cl lf : Addr} {B : Nat} (d : Dk H dk cl lf B) (k : KD dk lf H H') : TS K H H' := by
  obtain ⟨⟨cells, lefts, n, e1, e2, e3, _⟩, _⟩ := d
  refine ts_but (S := fun b => b = dk ∨ b = lf) (fun b z => ?_) fun b o n e => k b o (fun z => n (.inl z)) (fun z => n (.inr z)) e
  rcases z with rfl | rfl
  · exact ⟨_, e1⟩
  · exact ⟨_, e3⟩
theorem Dk.same {H H' : Hp} {dk cl lf : Addr} {B : Nat} (d : Dk H dk cl lf B) (s : Same H H') : Dk H' dk cl lf B := by
  obtain ⟨⟨cells, lefts, n, e1, e2, e3, r⟩, ne⟩ := d
  exact ⟨⟨cells, lefts, n, s _ _ e1, s _ _ e2, s _ _ e3, r⟩, ne⟩
theorem Dk.mono {H : Hp} {dk cl lf : Addr} {B C : Nat} (h : B ≤ C) (d : Dk H dk cl lf B) : Dk H dk cl lf C := by
  obtain ⟨⟨cells, lefts, n, e1, e2, e3, a, b, c, e, f⟩, ne⟩ := d
  exact ⟨⟨cells, lefts, n, e1, e2, e3, a, b, c, e, by omega⟩, ne⟩
theorem KD.of_same {dk lf : Addr} {H H' : Hp} (s : Same H H') : KD dk lf H H' := fun b o _ _ e => s b o e
theorem emod_bounds (a : Int) {m : Int} (h : 0 < m) : 0 ≤ a % m ∧ a % m < m := ⟨Int.emod_nonneg a (by omega), Int.emod_lt_of_pos a h⟩
theorem small64 {i : Int} {m : Int} (hm : m ≤ 2 ^ 40) (h0 : 0 ≤ i) (h1 : i ≤ m) : -(2 ^ 64) < i ∧ i < 2 ^ 64 := by omega
theorem atI_of {xs : List V} {j : Nat} {v : V} {i : Int} (e : i = (j : Int)) (h : xs[j]? = some v) : atI xs i = some v := by subst e; exact atI_nat h
theorem cut63 (xs : List V) (h : xs.length ≤ 63) : cutV xs none (some 63) = xs := by
  unfold cutV
  rw [HT.sIx_none, show HT.sIx xs.length xs.length (some 63) = min 63 xs.length from HT.sIx_nat xs.length xs.length 63, show min 63 xs.length = xs.length by omega]
  simp
theorem Dk.not {H : Hp} {dk cl lf D : Addr} {B : Nat} (d : Dk H dk cl lf B) (h : H D = none) : D ≠ dk ∧ D ≠ cl ∧ D ≠ lf := by
  obtain ⟨⟨_, _, _, e1, e2, e3, _⟩, _⟩ := d
  exact ⟨(ne_of_none e1 h).symm, (ne_of_none e2 h).symm, (ne_of_none e3 h).symm⟩
theorem Dk.upd {H : Hp} {dk cl lf D : Addr} {B : Nat} {o : HO} (d : Dk H dk cl lf B) (h : D ≠ dk ∧ D ≠ cl ∧ D ≠ lf) : Dk (L2.upd H D o) dk cl lf B := by
  obtain ⟨⟨cells, lefts, n, e1, e2, e3, r⟩, ne⟩ := d
  exact ⟨⟨cells, lefts, n, by rw [upd_ne h.1.symm]; exact e1, by rw [upd_ne h.2.1.symm]; exact e2, by rw [upd_ne h.2.2.symm]; exact e3, r⟩, ne⟩
theorem KD.upd {dk lf D : Addr} {H H1 H2 : Hp} {o : HO} (a : KD dk lf H H1) (b : KD dk lf H1 H2) (h : H1 D = none) : KD dk lf H (L2.upd H2 D o) := fun c u n1 n2 e => by
  rw [upd_ne (ne_of_none (a c u n1 n2 e) h)]
  exact b c u n1 n2 (a c u n1 n2 e)
/-! ### a callee -/
structure Cal (P : Program) (w : World) (K : PySem.W.Frag) (mg : Str → Option Value) (base : Heap) (x : Str) (ps : List Str) (k : Nat) (sp : Sp) : Prop where
  ex : ∃ (f : Addr) (fd : FuncData), FnOk P w K mg base CX0 k f fd ps sp ∧ mg x = some (.ref f) ∧ PySem.W.keepIn K (.ref f) = true ∧ Binds K fd ps []
theorem atI_of2 {α : Type} {xs : List α} {j : Nat} {v : α} {i : Int} (e : i = (j : Int)) (h : xs[j]? = some v) : atI xs i = some v := by subst e; exact atI_nat h
end K1
namespace K1
open PySem PySem.Spec PyProof.Rows L2
/-! ### types of written things -/
def tyN : PyData → String
  | .none => "NoneType"
  | .bool _ => "bool"
  | .int _ => "int"
  | .str _ => "str"
  | .tuple _ => "tuple"
  | .list _ => "list"
  | .dict _ => "dict"
def isT : PyData → Bool
  | .tuple _ => true
  | _ => false
def isB : PyData → Bool
  | .bool _ => true
  | _ => false
def isI : PyData → Bool
  | .int _ => true
  | .bool _ => true
  | _ => false
def isS : PyData → Bool
  | .str _ => true
  | _ => false
theorem kT : ∀ d : PyData, kitB (tyN d) "tuple" = some (isT d)
  | .none => (by decide +kernel : kitB "NoneType" "tuple" = some false)
  | .bool _ => (by decide +kernel : kitB "bool" "tuple" = some false)
  | .int _ => (by decide +kernel : kitB "int" "tuple" = some false)
  | .str _ => (by decide +kernel : kitB "str" "tuple" = some false)
  | .tuple _ => (by decide +kernel : kitB "tuple" "tuple" = some true)
  | .list _ => (by decide +kernel : kitB "list" "tuple" = some false)
  | .dict _ => (by decide +kernel : kitB "dict" "tuple" = some false)
theorem kB : ∀ d : PyData, kitB (tyN d) "bool" = some (isB d)
  | .none => (by decide +kernel : kitB "NoneType" "bool" = some false)
  | .bool _ => (by decide +kernel : kitB "bool" "bool" = some true)
  | .int _ => (by decide +kernel : kitB "int" "bool" = some false)
  | .str _ => (by decide +kernel : kitB "str" "bool" = some false)
  | .tuple _ => (by decide +kernel : kitB "tuple" "bool" = some false)
  | .list _ => (by decide +kernel : kitB "list" "bool" = some false)
  | .dict _ => (by decide +kernel : kitB "dict" "bool" = some false)
theorem kI : ∀ d : PyData, kitB (tyN d) "int" = some (isI d)
  | .none => (by decide +kernel : kitB "NoneType" "int" = some false)
  | .bool _ => (by decide +kernel : kitB "bool" "int" = some true)
  | .int _ => (by decide +kernel : kitB "int" "int" = some true)
  | .str _ => (by decide +kernel : kitB "str" "int" = some false)
  | .tuple _ => (by decide +kernel : kitB "tuple" "int" = some false)
  | .list _ => (by decide +kernel : kitB "list" "int" = some false)
  | .dict _ => (by decide +kernel : kitB "dict" "int" = some false)
theorem kS : ∀ d : PyData, kitB (tyN d) "str" = some (isS d)
  | .none => (by decide +kernel : kitB "NoneType" "str" = some false)
  | .bool _ => (by decide +kernel : kitB "bool" "str" = some false)
  | .int _ => (by decide +kernel : kitB "int" "str" = some false)
  | .str _ => (by decide +kernel : kitB "str" "str" = some true)
  | .tuple _ => (by decide +kernel : kitB "tuple" "str" = some false)
  | .list _ => (by decide +kernel : kitB "list" "str" = some false)
  | .dict _ => (by decide +kernel : kitB "dict" "str" = some false)
theorem dp_ty {K : PySem.W.Frag} {H : Hp} {v : V} {d : PyData} (h : Dp K H v d) (p : pl d = true) : TyX K H v (.type (tyN d)) := by
  cases h with
  | non => exact .base .non
  | bl b => exact .base (.bl b)
  | int i => exact .base (.int i)
  | str x => exact .base (.str x)
  | lst hs ha => cases p
  | tup hs ha =>
    rcases hs with (hs | ⟨o, hs⟩) | ⟨o, its, n, h1, h2, _⟩
    · exact .base (.tup hs)
    · exact .fTuple hs
    · exact .kTuple h1 h2
end K1
namespace K1
open PySem PySem.Spec PyProof.Rows L2
theorem paired_len {α β : Type} {F : α → β → Prop} : ∀ {xs : List α} {ys : List β}, Paired F xs ys → xs.length = ys.length
  | _, _, .nil => rfl
  | _, _, .cons _ t => by simp [paired_len t]
theorem paired_last {α β : Type} {F : α → β → Prop} : ∀ {xs : List α} {ys : List β}, Paired F xs ys → xs ≠ [] → ∃ xs' x ys' y, xs = xs' ++ [x] ∧ ys = ys' ++ [y] ∧ Paired F xs' ys' ∧ F x y
  | _, _, .nil, h => absurd rfl h
  | _, _, .cons (l₁ := []) h .nil, _ => ⟨[], _, [], _, rfl, rfl, .nil, h⟩
  | _, _, .cons (l₁ := _ :: _) h (.cons h2 t), _ => by
    obtain ⟨xs', x, ys', y, e1, e2, r, f⟩ := paired_last (.cons h2 t) (by simp)
    exact ⟨_ :: xs', x, _ :: ys', y, by rw [e1]; rfl, by rw [e2]; rfl, .cons h r, f⟩
theorem paired_append {α β : Type} {F : α → β → Prop} : ∀ {xs xs' : List α} {ys ys' : List β}, Paired F xs ys → Paired F xs' ys' → Paired F (xs ++ xs') (ys ++ ys')
  | _, _, _, _, .nil, s => s
  | _, _, _, _, .cons h t, s => .cons h (paired_append t s)
theorem paired_of {α β : Type} {F : α → β → Prop} : ∀ {xs : List α} {ys : List β}, xs.length = ys.length → (∀ (i : Nat) (x : α) (y : β), xs[i]? = some x → ys[i]? = some y → F x y) → Paired F xs ys
  | [], [], _, _ => .nil
  | [], _ :: _, h, _ => by cases h
  | _ :: _, [], h, _ => by cases h
  | x :: xs, y :: ys, h, f => .cons (f 0 x y rfl rfl) (paired_of (Nat.succ.inj h) fun i a b ea eb => f (i + 1) a b (by simpa using ea) (by simpa using eb))
/-- what the last test of alike says -/
theorem flat_alike : ∀ (d e : PyData), pl d = true → pl e = true → (isT d && isT e) = false → (isB d = isB e ∧ PyData.eqv d e = true ↔ d = e) := by
  intro d e p1 p2 nt
  cases d <;> cases e <;> simp_all [isT, isB, PyData.eqv, pl]
open Classical in
/-- the answer -/
noncomputable def eqB (d e : PyData) : Bool := decide (d = e)
open Classical in
theorem eqB_true {d e : PyData} (h : d = e) : eqB d e = true := decide_eq_true h
open Classical in
theorem eqB_false {d e : PyData} (h : d ≠ e) : eqB d e = false := decide_eq_false h
theorem flat_min {d e : PyData} (p1 : pl d = true) (p2 : pl e = true) (nt : (isT d && isT e) = false) : min d.depth e.depth ≤ 64 := by
  cases d <;> cases e <;> simp_all [isT, PyData.depth, pl]
theorem pss_weak {X : Cx} {st : List Stmt} {t t' : L2.TS} (h : PSs X st t) (g : ∀ D σ H, t' D σ H → t D σ H) : PSs X st t' := ⟨fun pins s σ H D I hh => h.run pins s σ H D I (g D σ H hh)⟩
theorem non_iff {K : PySem.W.Frag} {H : Hp} {x : V} {d : PyData} (h : Dp K H x d) : x = .non ↔ d = .none := by
  cases h <;> simp
theorem flat_same : ∀ (d e : PyData), pl d = true → pl e = true → d ≠ .none → e ≠ .none → isB d = isB e → isT d = false → isT e = false → (PyData.eqv d e = true ↔ d = e) := by
  intro d e p1 p2 n1 n2 b t1 t2
  cases d <;> cases e <;> simp_all [isT, isB, PyData.eqv, pl]
theorem eqv_nil (xs : List PyData) : PyData.eqv (.list xs) (.list []) = xs.isEmpty := by
  cases xs <;> simp [PyData.eqv, PyData.eqvAll]
end K1
namespace K1
open PySem PySem.Spec PyProof.Rows L2
theorem emp_iff {α β : Type} {F : α → β → Prop} {xs : List α} {ys : List β} (h : Paired F xs ys) : xs.isEmpty = ys.isEmpty := by cases h <;> rfl
theorem dpAll_emp {K : PySem.W.Frag} {H : Hp} {xs : List V} {ys : List PyData} (h : DpAll K H xs ys) : xs.isEmpty = ys.isEmpty := by cases h <;> rfl
/-- a sum of two tuples, wherever it lies -/
theorem catA_any {K : PySem.W.Frag} {H : Hp} {a b : Addr} {xs ys : List V} {Q : VK} (ha : SqT K H a xs) (hb : SqT K H b ys) (hl : xs.length + ys.length ≤ sizeLine)
    (q : ∀ r H', Same H H' → SqT K H' r (xs ++ ys) → Q (.ref r) H') : rCatA K (.ref a) (.ref b) H Q := by
  refine ⟨a, b, xs, ys, rfl, rfl, ha, hb, hl, fun e => ?_, fun e1 e2 => ?_, fun e1 e2 p np => q p _ (same_upd np) (.inl (.inl upd_same))⟩
  · subst e; exact q b H (Same.refl _) hb
  · subst e2; exact q a H (Same.refl _) (by rw [List.append_nil]; exact ha)
end K1
namespace K1
open PySem PySem.Spec PyProof.Rows L2
theorem slA_any {K : PySem.W.Frag} {H : Hp} {a : Addr} {xs : List V} {lo hi : Option Int} {Q : VK} (ha : SqT K H a xs) (q : ∀ r H', Same H H' → SqT K H' r (cutV xs lo hi) → Q (.ref r) H') : rSlA K (.ref a) lo hi H Q := by
  refine ⟨a, xs, rfl, ha, fun hw => ?_, fun _ p np => q p _ (same_upd np) (.inl (.inl upd_same))⟩
  have e : cutV xs lo hi = xs := by
    unfold cutV
    rw [hw.1, hw.2]
    simp
  exact q a H (Same.refl _) (by rw [e]; exact ha)
theorem cut_take (xs : List V) (i : Nat) : cutV xs none (some (i : Int)) = xs.take i := by
  unfold cutV
  rw [HT.sIx_none, HT.sIx_nat]
  simp only [List.drop_zero, Nat.sub_zero]
  by_cases h : i ≤ xs.length
  · rw [show min i xs.length = i by omega]
  · rw [show min i xs.length = xs.length by omega, List.take_length, List.take_of_length_le (by omega)]
theorem cut_drop (xs : List V) (i : Nat) : cutV xs (some (i : Int)) none = xs.drop i := by
  unfold cutV
  rw [HT.sIx_none, HT.sIx_nat]
  by_cases h : i ≤ xs.length
  · rw [show min i xs.length = i by omega]
    rw [List.take_of_length_le (by rw [List.length_drop]; omega)]
  · rw [show min i xs.length = xs.length by omega, List.drop_of_length_le (by omega), List.drop_of_length_le (by omega)]
    simp
theorem eqv_nilT (xs : List PyData) : PyData.eqv (.tuple xs) (.tuple []) = xs.isEmpty := by
  cases xs <;> simp [PyData.eqv, PyData.eqvAll]
end K1
namespace K1
open PySem PySem.Spec PyProof.Rows L2
/-! ### a comprehension over zip of two tuples of one length -/
theorem lc_zipT {K : PySem.W.Frag} {a b : Addr} {xs ys : List V} {g : TG} {tt : TT} {te : TE} {vs : List Nat} {σ : L2.St} {H1 : Hp} {D : Addr} {Qd : Hp → Prop} (hl : xs.length = ys.length) (Pv : Nat → Hp → Prop) (h0 : Pv 0 (L2.upd H1 D (.lst [])))
    (hq : ∀ i H, i ≤ xs.length → Pv i H → SqT K H a xs ∧ SqT K H b ys)
    (hs : ∀ (i : Nat) (x y : V) (T : Addr) (H : Hp), xs[i]? = some x → ys[i]? = some y → Pv i H → H T = none → g (.ref T) (wipe σ vs) (L2.upd H T (.tup [x, y])) fun σ2 H2 => wipe σ2 vs = wipe σ vs ∧ tt σ2 H2 fun b H3 =>
      if b = true then te σ2 H3 fun y H4 => ∃ acc, H4 D = some (.lst acc) ∧ acc.length < sizeLine ∧ Pv (i + 1) (L2.upd H4 D (.lst (acc ++ [y]))) else Pv (i + 1) H3) (hd : ∀ H, Pv xs.length H → Qd H) :
    ∃ W : Nat → Nat → Hp → Prop, (∃ m, W 0 m (L2.upd H1 D (.lst []))) ∧ ∀ i m H, W i m H →
      ((RZ.ItzT K a b).stop i H ∧ Qd H) ∨ ((RZ.ItzT K a b).go i H ∧ ∃ Nx : Hp → Prop, (∀ H', Nx H' → ∃ m', m' < m ∧ W (i + 1) m' H') ∧ ∀ x H', (RZ.ItzT K a b).yld i H x H' → g x (wipe σ vs) H' fun σ2 H2 => wipe σ2 vs = wipe σ vs ∧ tt σ2 H2 fun b H3 =>
        if b = true then te σ2 H3 fun y H4 => ∃ acc, H4 D = some (.lst acc) ∧ acc.length < sizeLine ∧ Nx (L2.upd H4 D (.lst (acc ++ [y]))) else Nx H3) := by
  refine ⟨fun i m H => m = xs.length - i ∧ i ≤ xs.length ∧ Pv i H, ⟨xs.length, by simp, Nat.zero_le _, h0⟩, ?_⟩
  rintro i m H ⟨rfl, hi, p⟩
  obtain ⟨qx, qy⟩ := hq i H hi p
  by_cases hlt : i < xs.length
  · have hx : xs[i]? = some xs[i] := List.getElem?_eq_getElem hlt
    have hlt2 : i < ys.length := by omega
    have hy : ys[i]? = some ys[i] := List.getElem?_eq_getElem hlt2
    refine .inr ⟨⟨xs, ys, _, _, qx, qy, hx, hy⟩, Pv (i + 1), fun H' p' => ⟨xs.length - (i + 1), by omega, rfl, hlt, p'⟩, fun v H' y => ?_⟩
    obtain ⟨T, x', y', rfl, hT, rfl, f1, f2⟩ := y
    exact hs i x' y' T H (f1 xs qx) (f2 ys qy) p hT
  · have e : i = xs.length := by omega
    subst e
    exact .inl ⟨⟨xs, ys, qx, qy, Or.inl (Nat.le_refl _)⟩, hd H p⟩
end K1
/-! several except clauses with one name, isinstance of the error that a suite holds, where it has fields -/
namespace EX
open PySem PySem.Spec PyProof.Rows L2
/-- behind a suite the name is gone -/
abbrev gone (D : Ends) (i : Nat) : Ends :=
  { nx := fun σ' H' => D.nx (σ'.set i none) H', rt := D.rt, bk := fun σ' H' => D.bk (σ'.set i none) H', ct := fun σ' H' => D.ct (σ'.set i none) H' }
abbrev Cl := Value × (Addr → Value → Option Addr → TS)
def wManyAs (K : PySem.W.Frag) (i : Nat) (Wout : WX) (D : Ends) : List Cl → WX
  | [] => Wout
  | (c, ts) :: rest => fun cls d σ H => ∃ yes, PySem.W.exmOne K cls c = some yes ∧
      (yes = true → ∀ x, H x = none → ts x cls d (gone D i) (σ.set i (some (.ref x))) H) ∧ (yes = false → wManyAs K i Wout D rest cls d σ H)
inductive HdsAs (X : Cx) (n : Str) : List ExceptHandler → List Cl → Prop
  | nil : HdsAs X n [] []
  | cons {nm : Str} {c : Value} {ts : Addr → Value → Option Addr → TS} {first : Stmt} {more : List Stmt} {p1 p2 : Pos} {hs : List ExceptHandler} {cl : List Cl} (known : Names X nm c)
      (suite : ∀ (x : Addr) (ox : Obj) (cls : Value) (d : Option Addr) (pn : List (Addr × Obj)), Zc cls d ox → (∃ vs, ox.data = .fields vs) → PSs (X.suite x ((x, ox) :: pn)) (first :: more) (ts x cls d))
      (rest : HdsAs X n hs cl) : HdsAs X n (.ExceptHandler (some (.Name nm p1)) (some n) (first :: more) p2 :: hs) ((c, ts) :: cl)
section
variable {X : Cx} {n : Str} {i : Nat} {body : List Stmt} {hd : ExceptHandler} {hs : List ExceptHandler} {cl : List Cl} {pos : Pos} {tb : WX → TS} {Wout : WX}
theorem ps_try_manyAs (hst : X.stack = X.env :: X.outer) (hfm : X.env.frame = some X.env.locals) (hN : X.N.Nodup) (hi : X.N[i]? = some n) (hln : X.env.kindOf n = some .local) (tk : Takes X Wout)
    (hb : ∀ (W : WX) (pn : List (Addr × Obj)) (xe : Value → Shared → Prop), Takes (X.tr pn xe) W → PassesOwn (model X.prog X.w) X.A X.env xe → PSs (X.tr pn xe) body (tb W))
    (hh : HdsAs X n (hd :: hs) cl) : PS X (.Try body (hd :: hs) [] [] pos) (fun D σ H => tb (wManyAs X.K i Wout D cl) D σ H) := by
  refine ⟨fun pins s σ H D I h => ?_⟩
  have okX := I.ok
  have hfr : X.A.frames = some (X.env :: X.outer) := okX.frames.trans (congrArg some hst)
  have hloc : Loc X.env.scope n := .inl hln
  refine wpAny_Try_except ?_
  refine wpAny_mono ((hb (wManyAs X.K i Wout D cl) (X.pn ++ pins)
    (fun er s₁ => wpAny (model X.prog X.w) X.A (noteFrame er X.env) (fun _ s₂ => wpAny (model X.prog X.w) X.A (setFlight er none) (fun _ s₃ =>
      wpAny (model X.prog X.w) X.A (handleBy er X.env (hd :: hs)) (SP X pins D) X.xe s₃) X.xe s₂) X.xe s₁)
    (fun u s' caught => ?_) PassesOwn.looking).run [] s σ H D (I.toTry _) h) (fun fl s1 hsp => ?_) (fun er s1 he => he)
  · obtain ⟨x, B, sI, pins', σ', H', cls, d, rfl, J', nb, up, sky, na, hos, ag, w⟩ := caught
    have J : Inv X pins σ' H' sI := J'.ofTry okX
    have sky' : Sky B (X.env :: X.outer) x (Zc cls d) X.env.locals s'.heap := hst ▸ sky
    show wpAny (model X.prog X.w) X.A (noteFrame (.ref x) X.env) _ _ _
    refine Sky.land Zc.steady hfr hfm sky' fun hA flA upA => ?_
    have JA : Inv X pins σ' H' { s' with heap := hA } := J.landed nb flA.1 (up.trans upA) hos ag
    obtain ⟨oA, vA, gA, zA, dA⟩ := flA.there
    have nfr : x ∉ frs (X.env :: X.outer) := fun hm => by
      obtain ⟨_, o', e', hnf⟩ := flA.2.2.1.mem hm
      rw [gA] at e'
      cases e'
      exact hnf _ dA
    have nL : x ≠ X.env.locals := fun z => nfr (List.mem_filterMap.mpr ⟨X.env, List.mem_cons_self, hfm.trans (congrArg some z.symm)⟩)
    have nF : x ∉ X.fs := fun hm => by
      obtain ⟨en, hen, q⟩ := List.mem_filterMap.mp hm
      exact nfr (List.mem_filterMap.mpr ⟨en, List.mem_cons_of_mem _ hen, q⟩)
    have SA := JA.suite gA dA na nL nF
    have go : ∀ {hs' : List ExceptHandler} {cl' : List Cl}, HdsAs X n hs' cl' → wManyAs X.K i Wout D cl' cls d σ' H' →
        wpAny (model X.prog X.w) X.A (handleBy (.ref x) X.env hs') (SP X pins D) X.xe { s' with heap := hA } := by
      intro hs' cl' hk
      induction hk with
      | nil =>
        intro w
        refine wpAny_handleBy_nil ?_
        obtain ⟨k1, k2, k3, ox, vs, T, oT, ts', he, hz, hd', h1, hr⟩ := id flA
        unfold PySem.passOn
        refine wpAny_bind (wpAny_field he hd' h1 ?_)
        rw [if_neg (show ¬ ((Value.ref T == Value.none) = true) from by simp)]
        have fin : wpAny (model X.prog X.w) X.A (setFlight (.ref x) X.env.frame) (fun _ sE => wpAny (model X.prog X.w) X.A (throw (.ref x) : Sem Flow) (SP X pins D) X.xe sE) X.xe { s' with heap := hA } := by
          rw [hfm]
          refine HandSPX.setFlight_upZ flA fun hB hhB upB => wpAny_throw (tk _ _ ?_)
          exact ⟨x, B, sI, pins, σ', H', cls, d, rfl, J, nb, (up.trans upA).trans upB, .inr (.inr (by rw [hst]; exact hhB)), na, hos, ag, w⟩
        first
          | exact wpAny_bind (wpAny_pure (wpAny_bind fin))
          | exact wpAny_bind fin
      | @cons nm c ts first more p1 p2 hs2 cl2 known suite rest ih =>
        intro w
        obtain ⟨yes, isOne, hyes, hno⟩ := w
        refine wpAny_handleBy_cons (codeAny_handlers_test ?_) (by intro q; cases q)
        have LT : PySem.W.Looks (model X.prog X.w) hA (typeOf (.ref x)) cls := fun A Q E s k q => wpAny_typeOf_ref (k _ _ gA) (by rw [zA.1]; exact q)
        have LM := PySem.W.exm_one (M := model X.prog X.w) (JA.kIn) LT isOne
        have asked : ∀ {Q : Value → Shared → Prop} {E : Value → Shared → Prop}, Q c { s' with heap := hA } → wpAny (model X.prog X.w) (X.A.mark (some (.ref x))) (eval (.Name nm p1) X.env) Q E { s' with heap := hA } := fun {Q E} q => by
          obtain ⟨hg, hdbg, hm | ⟨hm, hv, hnn⟩⟩ := known
          · exact ld_glob (X := X.suite x ((x, oA) :: (X.pn ++ pins))) SA hg hm q hdbg
          · exact ld_blt (X := X.suite x ((x, oA) :: (X.pn ++ pins))) SA hg hm hv q hnn hdbg
        refine asked (LM.here ?_)
        cases yes with
        | true =>
          refine codeAny_handlers_suite_as ?_
          refine HandSPX.lands_againZ flA fun hB flB upB => ?_
          have JB : Inv X pins σ' H' { s' with heap := hB } := J.landed nb flB.1 ((up.trans upA).trans upB) hos ag
          obtain ⟨oB, vB, gB, zB, dB⟩ := flB.there
          have SB := JB.suite gB dB na nL nF
          refine store_ok (X := X.suite x ((x, oB) :: (X.pn ++ pins))) (v := .ref x) SB hN hi hloc rfl (fun sC SC => ?_) (.inr hln)
          refine wpAny_mono ((suite x oB cls d (X.pn ++ pins) zB ⟨_, dB⟩).run [] sC _ H' _ SC (hyes rfl x na)) (fun fl sD hsp => ?_) (fun _ _ z => False.elim z)
          have ends : ∀ {σD : L2.St} {HD : Hp} {Q : Shared → Prop}, Inv (X.suite x ((x, oB) :: (X.pn ++ pins))) [] σD HD sD → (∀ sE, Inv X pins (σD.set i none) HD sE → Q sE) →
              wpAny (model X.prog X.w) X.A (do bindName X.env n .none; unbindBehindTheSuite X.env n p2) (fun _ sE => Q sE) X.xe sD := fun {σD HD Q} SD hq => gone_ok (SD.unsuite okX) hN hi hln hq
          cases fl with
          | next =>
            obtain ⟨σD, HD, SD, qD⟩ := hsp
            exact ends SD fun sE JE => ⟨_, _, JE, qD⟩
          | brk =>
            obtain ⟨σD, HD, SD, qD⟩ := hsp
            exact ends SD fun sE JE => ⟨_, _, JE, qD⟩
          | cont =>
            obtain ⟨σD, HD, SD, qD⟩ := hsp
            exact ends SD fun sE JE => ⟨_, _, JE, qD⟩
          | ret u =>
            obtain ⟨vD, σD, HD, SD, rD, qD⟩ := hsp
            exact ends SD fun sE JE => ⟨_, _, _, JE, rD, qD⟩
        | false =>
          show wpAny _ X.A (handleBy (.ref x) X.env hs2) _ _ _
          exact ih (hno rfl)
    exact go hh w
  · cases fl with
    | next =>
      obtain ⟨σD, HD, JD, q⟩ := hsp
      exact wpAny_execs_nil ⟨σD, HD, JD.ofTry okX, q⟩
    | brk =>
      obtain ⟨σD, HD, JD, q⟩ := hsp
      exact ⟨σD, HD, JD.ofTry okX, q⟩
    | cont =>
      obtain ⟨σD, HD, JD, q⟩ := hsp
      exact ⟨σD, HD, JD.ofTry okX, q⟩
    | ret u =>
      obtain ⟨vD, σD, HD, JD, rD, q⟩ := hsp
      exact ⟨vD, σD, HD, JD.ofTry okX, rD, q⟩
end
/-- what a class must say so that isinstance asks its errors rightly -/
structure IsC (K : PySem.W.Frag) (D : Addr) : Prop where
  cl : (PySem.W.clsIn K D).isSome = true
  ga : PySem.W.findIn K (.ref D) "__getattribute__" = some (some (.builtin "BaseException.__getattribute__"))
  gt : PySem.W.findIn K (.ref D) "__getattr__" = some none
  sb : PySem.W.subIn K (.ref D) (.type "BaseException") = some true
  ca : PySem.W.findIn K (.ref D) "__class__" = some (some (.builtin "object.__class__"))
  sg : PySem.W.specialIn K (.builtin "object.__class__") "__get__" = some (some (.builtin "getset_descriptor.__get__"))
  tk : PySem.W.takesIn K (.builtin "object.__class__") = some true
  mr : PySem.W.mroIn K D (.type "object") = some true
section
variable {X : Cx} {x : Addr} {ox : Obj} {cls : Value} {d : Option Addr} {pn : List (Addr × Obj)}
/-- the error of the suite, of the class D, its dict at dd -/
structure Held (K : PySem.W.Frag) (H : Hp) (cls : Value) (d : Option Addr) (D dd : Addr) (fs : List (Str × V)) : Prop where
  c : cls = .ref D
  d : d = some dd
  t : IsC K D
  h : H dd = some (.xd fs)
theorem held_at {pins : List (Addr × Obj)} {σ : L2.St} {H : Hp} {s : Shared} {D dd : Addr} {fs : List (Str × V)} (I : Inv (X.suite x ((x, ox) :: pn)) pins σ H s) (hz : Zc cls d ox) (hf : ∃ vs, ox.data = .fields vs) (hh : Held X.K H cls d D dd fs) :
    ∃ od, PySem.W.InstAt s.heap x ox D (some od) := by
  obtain ⟨hget, _⟩ := I.pin (x, ox) (List.mem_append_left _ List.mem_cons_self)
  obtain ⟨vs, hv⟩ := hf
  obtain ⟨mA, hns, _⟩ := (show ObjOk X.prog X.w H s.heap dd (.xd fs) from I.hok dd _ hh.h)
  obtain ⟨od, ho, _⟩ := lookIn_ns hns
  exact ⟨od, hget, hz.1.trans hh.c, by unfold PySem.W.notCls; rw [hv] <;> rfl, by rw [hz.2, hh.d]; exact ho⟩
def rIsOne (K : PySem.W.Frag) (x : Addr) (cls : Value) (d : Option Addr) : List V → Hp → VK → Prop := fun vs H Q => ∃ (c : V) (cv : Value) (b : Bool) (D dd : Addr) (fs : List (Str × V)), vs = [.ref x, c] ∧ ClsV c cv ∧ Held K H cls d D dd fs ∧ PySem.W.kitOne K (.ref D) cv = some b ∧ Q (.bl b) H
def rIsAny (K : PySem.W.Frag) (x : Addr) (cls : Value) (d : Option Addr) : List V → Hp → VK → Prop := fun vs H Q => ∃ (tp : Addr) (cs : List V) (us : List Value) (b : Bool) (D dd : Addr) (fs : List (Str × V)), vs = [.ref x, .ref tp] ∧ H tp = some (.tup cs) ∧ Paired ClsV cs us ∧ Held K H cls d D dd fs ∧
  PySem.W.kitAny K (.ref D) us = some b ∧ Q (.bl b) H
theorem call_isOne (hz : Zc cls d ox) (hf : ∃ vs, ox.data = .fields vs) : CallR (X.suite x ((x, ox) :: pn)) (.builtin "isinstance") (rIsOne X.K x cls d) := by
  intro pins s σ H vs us Q I r h
  obtain ⟨c, cv, b, D, dd, fs, rfl, hc, hh, e, q⟩ := h
  obtain ⟨u1, u2, rfl, r1, r2⟩ := vals2 r
  cases (show u1 = Value.ref x from r1)
  have e2 := hc.eq r2
  subst e2
  obtain ⟨od, J⟩ := held_at I hz hf hh
  exact PySem.W.kia_one (PySem.W.kitx_exc hh.t.cl hh.t.ga hh.t.gt hh.t.sb hh.t.ca hh.t.sg hh.t.tk hh.t.mr) I.kIn J e (fun z => nomatch z) fun tk => ⟨.bl b, H, I.tok tk, rfl, q⟩
theorem call_isAny (hz : Zc cls d ox) (hf : ∃ vs, ox.data = .fields vs) : CallR (X.suite x ((x, ox) :: pn)) (.builtin "isinstance") (rIsAny X.K x cls d) := by
  intro pins s σ H vs us Q I r h
  obtain ⟨tp, cs, ws, b, D, dd, fs, rfl, hT, k, hh, e, q⟩ := h
  obtain ⟨u1, u2, rfl, r1, r2⟩ := vals2 r
  cases (show u1 = Value.ref x from r1)
  cases (show u2 = Value.ref tp from r2)
  obtain ⟨_, its, rv, o, g1, g2, n, g3⟩ := (show ObjOk X.prog X.w H s.heap tp (.tup cs) from I.hok tp _ hT)
  have e3 := ClsV.all k rv
  subst e3
  obtain ⟨oc, oD, dt, sl⟩ := o
  simp only at g2 g3
  subst g2 g3
  obtain ⟨od, J⟩ := held_at I hz hf hh
  exact PySem.W.kia_tup (PySem.W.kitx_exc hh.t.cl hh.t.ga hh.t.gt hh.t.sb hh.t.ca hh.t.sg hh.t.tk hh.t.mr) I.kIn J g1 e (fun z => nomatch z) fun tk => ⟨.bl b, H, I.tok tk, rfl, q⟩
end
end EX
/-! enumerate of a tuple -/
namespace EN
open PySem PySem.Spec PyProof.Rows L2
abbrev itO (a : Addr) : Obj := { cls := .type "tuple_iterator", data := .fields #[.ref a, .int 0 0] }
abbrev enO (it : Addr) : Obj := { cls := .type "enumerate", data := .fields #[.none, .bool false, .ref it, rawInt 0, .none, .none] }
theorem meets_newT (a : Addr) (xs : Array Value) :
    Meets (Builtin.«enumerate.__new__» ⟨[.type "enumerate", .ref a], []⟩) (fun _ R s => s.heap.IsTuple a xs ∧
      R (.ok (.ret (.ref (s.heap.push (itO a)).objs.size))) { s with heap := (s.heap.push (itO a)).push (enO s.heap.objs.size) }) :=
  .of_wp fun prog w A R s h => by
    obtain ⟨hp, g, d, tk, os⟩ := s
    obtain ⟨hl, h⟩ := h
    have hsub := sub_enumerate
    have hT : Heap.IsTuple (Shared.heap ⟨hp, g, d, tk, os⟩) a xs := hl
    obtain ⟨ob, hob, hcl, nn, hdt⟩ := id hT
    wp_walk using wpAny_loadPart' hob
    refine wpAny_stack_any fun st => wpAny_pure ?_
    split
    · rename_i c _ _ _ _ _
      cases (c == Value.type "enumerate")
      · wp_walk using wpAny_loadPart' hob, wpAny_pyIter_tuple hT
        exact ⟨_, rfl, h⟩
      · wp_walk using wpAny_loadPart' hob, wpAny_pyIter_tuple hT
        exact ⟨_, rfl, h⟩
    · wp_walk using wpAny_loadPart' hob, wpAny_pyIter_tuple hT
      exact ⟨_, rfl, h⟩
theorem call_enumT {prog : Program} {w : World} {A : Around} {E : Value → Shared → Prop} {s : Shared} {a : Addr} {xs : Array Value} {Q : Value → Shared → Prop} (ha : s.heap.IsTuple a xs)
    (h : ∀ g, IsEnum g (s.heap.objs.size + 1) s.heap.objs.size 0 .none → g.IsTupleIter s.heap.objs.size a 0 → (∀ b o, s.heap.get? b = some o → g.get? b = some o) → Q (.ref (s.heap.objs.size + 1)) { s with heap := g }) :
    wpAny (model prog w) A (call (.type "enumerate") [.ref a]) Q E s := by
  refine callType_new F.called_enumerate (by decide) (F.typeCall_enumerate_1 _) (F.newCall_enumerate_1 _) (fun ob => F.args_object_init_2 ob _) F.entry_enumerate_new (meets_newT a xs) ⟨ha, ?_⟩
  have hz : (s.heap.push (itO a)).objs.size = s.heap.objs.size + 1 := Heap.size_push ..
  show _ ∧ _
  rw [hz]
  have he : IsEnum ((s.heap.push (itO a)).push (enO s.heap.objs.size)) (s.heap.objs.size + 1) s.heap.objs.size 0 .none := by
    have e := Heap.get?_push_size (s.heap.push (itO a)) (o := enO s.heap.objs.size) rfl
    rw [hz] at e
    exact e
  exact ⟨⟨_, he, rfl⟩, h _ he ⟨_, Heap.get?_push_of_some _ (Heap.get?_push_size _ rfl), rfl, rfl⟩ fun b o q => Heap.get?_push_of_some _ (Heap.get?_push_of_some _ q)⟩
/-- the tuple at a, each item in a new pair with its number -/
def ItE (K : PySem.W.Frag) (a : Addr) : It :=
  ⟨fun i H => ∃ (xs : List V) (x : V), SqT K H a xs ∧ xs[i]? = some x, fun i H v H' => ∃ T x, v = .ref T ∧ H T = none ∧ H' = upd H T (.tup [.int (i : Nat), x]) ∧ ∀ xs, SqT K H a xs → xs[i]? = some x,
    fun i H => ∃ xs : List V, SqT K H a xs ∧ xs.length ≤ i⟩
theorem turn_enumT {P : Program} {w : World} {K : PySem.W.Frag} {elts : List Expr} {kk : Nat} {tpos : Pos} (a en it : Addr) :
    Turn P w K (.Tuple elts kk tpos) (ItE K a) [en, it] en (fun i h => (∃ old, IsEnum h en it ((i : Nat) : Int) old) ∧ h.IsTupleIter it a i ∧ en ≠ it ∧ a ≠ it ∧ a ≠ en) where
  mem := by simp
  obj := fun i h st b hb => by
    obtain ⟨⟨old, he⟩, ⟨o, ho, hc, hd⟩, _⟩ := st
    have e' : b = en ∨ b = it := by simpa using hb
    rcases e' with z | z
    · rw [z]; exact ⟨_, he, fun v q => nomatch q⟩
    · rw [z]; exact ⟨o, ho, fun v q => by rw [hd] at q; cases q⟩
  keep := fun i h h' st k => let ⟨⟨old, he⟩, hi, hne⟩ := st; ⟨⟨old, k en (by simp) _ he⟩, hi.at fun o q => k it (by simp) o q, hne⟩
  item := by
    intro X hP hw hK hc i pins s σ H E I hf st hg
    subst hP hw hK
    obtain ⟨⟨old, he⟩, hit, hne, hai, hae⟩ := st
    obtain ⟨xs, x, hq, hx⟩ := hg
    obtain ⟨its, rv, p, hz⟩ := I.tuple hq
    obtain ⟨u, hu, ru⟩ := rv.get hx
    have hlt : i < its.toArray.size := by
      rw [List.size_toArray]
      exact (List.getElem?_eq_some_iff.mp hu).1
    have hel : en < s.heap.objs.size := Heap.lt_size he
    have hil : it < s.heap.objs.size := by obtain ⟨_, q, _⟩ := hit; exact Heap.lt_size q
    have hh1 : X.A.in1.handled = none := I.ok.hd hc
    have D := Draws.tuple (prog := X.prog) (w := X.w) (A := X.A.in1) hh1 it a hai its.toArray
    refine wpAny_pyNext_enum_itemD D he ⟨hit, p⟩ hlt hne (by simp [hne, Ne.symm hae]) fun y h' tk hy ho hst hT hsz hk => ?_
    have ey : y = u := by
      have h1 : its.toArray[i]? = some u := by simpa using hu
      rw [h1] at hy
      exact (Option.some.inj hy).symm
    subst ey
    refine ⟨_, rfl, wpAny_letOwnedTupleGo_enum (s := { s with heap := h', toks := tk + 1 }) ho fun h'' he' sb => ?_⟩
    have hT2 : h''.get? s.heap.objs.size = some { cls := .type "tuple", data := .seq #[.int i tk, y] } := (sb.2 _ (Nat.ne_of_gt hel)).trans hT
    have new : ObjOk X.prog X.w (upd H s.heap.objs.size (.tup [.int (i : Nat), x])) h'' s.heap.objs.size (.tup [.int (i : Nat), x]) :=
      ⟨by show 2 ≤ sizeLine; decide, [.int i tk, y], .cons ⟨_, rfl⟩ (.cons ru .nil), ⟨_, hT2, rfl, _, rfl⟩⟩
    have I1 : Inv X pins σ (upd H s.heap.objs.size (.tup [.int (i : Nat), x])) { s with heap := h'', toks := tk + 1 } :=
      I.turnedNew (ch := [en, it]) (fun b ob hb q => (sb.2 b (fun z => hb (by simp [z]))).trans (hk b ob (fun z => hb (by simp [z])) (fun z => hb (by simp [z])) q)) hf (Nat.le_refl _) new
    refine ⟨.ref s.heap.objs.size, _, I1, rfl, ⟨_, x, rfl, I.hok.fresh (Nat.le_refl _), rfl, fun ys hy' => by rw [I.tuple_inj hy' hq]; exact hx⟩, ⟨⟨y, ?_⟩, hst.1.at fun o q => (sb.2 it (Ne.symm hne)).trans q, hne, hai, hae⟩, fun b hb => ?_⟩
    · have e1 : ((i + 1 : Nat) : Int) = (i : Int) + 1 := by omega
      rw [e1]; exact he'
    · have hb' : b < s.heap.objs.size := by
        have e' : b = en ∨ b = it := by simpa using hb
        rcases e' with z | z
        · rw [z]; exact hel
        · rw [z]; exact hil
      rw [upd_ne (Nat.ne_of_lt hb')]
      exact (hf b hb).1
  done := by
    intro X hP hw hK hc i pins s σ H E I hf st hg
    subst hP hw hK
    obtain ⟨⟨old, he⟩, hit, hne, hai, hae⟩ := st
    obtain ⟨xs, hq, hx⟩ := hg
    obtain ⟨its, rv, p, hz⟩ := I.tuple hq
    obtain ⟨f0, f1, f2, f3, f4, f5⟩ := hf it (by simp)
    have hl := rv.length
    have hh1 : X.A.in1.handled = none := I.ok.hd hc
    -- from the place i on there is nothing
    have D : Draws X.prog X.w X.A.in1 it [it, a] i (fun _ _ => False) (fun j h => j = i ∧ h.IsTupleIter it a i ∧ h.IsTuple a its.toArray) :=
      ⟨fun _ _ st => let ⟨o, ho, _⟩ := st.2.1; ⟨o, ho⟩, fun _ _ _ st hk => ⟨st.1, st.2.1.at fun o e => hk it (by simp) o e, st.2.2.at fun o e => hk a (by simp) o e⟩,
        fun j s Q E hj st _ => absurd st.1 (Nat.ne_of_lt hj), fun s Q E st hE => wpAny_nextOf_tuple_end hh1 st.2.1 st.2.2 (by simp; omega) hE⟩
    exact wpAny_pyNext_enum_endD D he ⟨rfl, hit, p⟩ fun h' eb => ⟨rfl, I.turned (t' := s.toks) (fun b o hb q => eb b o hb q) f0 f1 f3 f4 f5⟩
  self := fun A i s Q E st h => let ⟨⟨_, he⟩, _⟩ := st; wpAny_pyIter_enum he h
def iEnT (K : PySem.W.Frag) (ta : TA) : TI := fun σ H R => ta σ H fun vs H1 => ∃ a xs, vs = [.ref a] ∧ SqT K H1 a xs ∧ R (ItE K a) H1
theorem pi_enumT {X : Cx} {e : Expr} {ta : TA} {p pos tpos : Pos} {elts : List Expr} {kk : Nat} (hg : Gl X "enumerate") (hm : X.mg "enumerate" = none) (ha : PA X [e] ta) (hs : starEach [e] X.env = [(false, eval e X.env)] := by rfl) :
    PI X (.Tuple elts kk tpos) (.Call (.Name "enumerate" p) [e] [] pos) (iEnT X.K ta) := by
  refine ⟨fun pins s σ H R I h => ?_⟩
  refine Call_ (ld_blt I hg hm boot_enumerate (PyProof.Rows.callWith_type1 (thn (ha.run pos pins s σ H _ I h) fun us s1 ⟨vs, H1, I1, r1, q1⟩ => ?_) hs rfl))
  obtain ⟨a, xs, ex, hq, q⟩ := q1
  subst ex
  cases r1 with
  | cons r rr =>
    cases rr
    cases r
    obtain ⟨its, rv, pt, hz⟩ := I1.tuple hq
    have hal : a < s1.heap.objs.size := by obtain ⟨o, ho, _⟩ := pt; exact Heap.lt_size ho
    refine call_enumT pt fun g he hit hk => wpAny_pyIter_enum he ?_
    have I2 : Inv X pins σ H1 { s1 with heap := g } := I1.kept (t' := s1.toks) hk
    refine ⟨s1.heap.objs.size + 1, [s1.heap.objs.size + 1, s1.heap.objs.size], _, _, H1, rfl, I2, turn_enumT a (s1.heap.objs.size + 1) s1.heap.objs.size, ⟨⟨.none, he⟩, hit, Nat.succ_ne_self _, Nat.ne_of_lt hal, Nat.ne_of_lt (Nat.lt_succ_of_lt hal)⟩, fun b hb => ?_, q⟩
    have e' : b = s1.heap.objs.size + 1 ∨ b = s1.heap.objs.size := by simpa using hb
    have hle : s1.heap.objs.size ≤ b := by
      rcases e' with z | z
      · rw [z]; exact Nat.le_add_right _ _
      · rw [z]; exact Nat.le_refl _
    exact I1.fpOk hle (I1.hok.fresh hle)
theorem walk_enumT {K : PySem.W.Frag} {a : Addr} {xs : List V} : Walk (ItE K a) xs.length (fun H => SqT K H a xs) (YPair (fun i => some (.int (i : Nat))) (fun i => xs[i]?)) := by
  refine ⟨fun i _ hi q => ⟨xs, xs[i], q, by simp [hi]⟩, fun _ q => ⟨xs, q, Nat.le_refl _⟩, fun i H v H' _ q y => ?_⟩
  obtain ⟨T, x, h1, h2, h3, h4⟩ := y
  exact ⟨T, .int (i : Nat), x, h1, h2, h3, rfl, h4 xs q⟩
end EN
/-! kinds as data, the deck without a bound, names, places: what is law-independent -/
namespace K2
open PySem PySem.Spec PyProof.Rows L2 K1
open TL (tl joinL)
/-! ### the deck -/
structure Dk (H : Hp) (dk cl lf : Addr) : Prop where
  ex : ∃ (cells lefts : List Int) (n : Int), H dk = some (.lst [.ref cl, .int n, .ref lf]) ∧ H cl = some (.lst (cells.map V.int)) ∧ H lf = some (.lst (lefts.map V.int)) ∧ cells.length = lefts.length ∧ 0 < cells.length ∧ cells.length ≤ 100 ∧ 0 ≤ n
  ne : cl ≠ lf
/-- all but the deck's own lists stays -/
def KD (dk lf : Addr) (H H' : Hp) : Prop := ∀ b o, b ≠ dk → b ≠ lf → H b = some o → H' b = some o
theorem KD.refl {dk lf : Addr} {H : Hp} : KD dk lf H H := fun _ _ _ _ h => h
theorem KD.trans {dk lf : Addr} {H H1 H2 : Hp} (a : KD dk lf H H1) (b : KD dk lf H1 H2) : KD dk lf H H2 := fun c o n1 n2 h => b c o n1 n2 (a c o n1 n2 h)
theorem Dk.ts {K : PySem.W.Frag} {H H' : Hp} {dk cl lf : Addr} (d : Dk H dk cl lf) (k : KD dk lf H H') : TS K H H' := by
  obtain ⟨⟨cells, lefts, n, e1, e2, e3, _⟩, _⟩ := d
  refine ts_but (S := fun b => b = dk ∨ b = lf) (fun b z => ?_) fun b o n e => k b o (fun z => n (.inl z)) (fun z => n (.inr z)) e
  rcases z with rfl | rfl
  · exact ⟨_, e1⟩
  · exact ⟨_, e3⟩
theorem Dk.same {H H' : Hp} {dk cl lf : Addr} (d : Dk H dk cl lf) (s : Same H H') : Dk H' dk cl lf := by
  obtain ⟨⟨cells, lefts, n, e1, e2, e3, r⟩, ne⟩ := d
  exact ⟨⟨cells, lefts, n, s _ _ e1, s _ _ e2, s _ _ e3, r⟩, ne⟩
theorem KD.of_same {dk lf : Addr} {H H' : Hp} (s : Same H H') : KD dk lf H H' := fun b o _ _ e => s b o e
theorem Dk.not {H : Hp} {dk cl lf D : Addr} (d : Dk H dk cl lf) (h : H D = none) : D ≠ dk ∧ D ≠ cl ∧ D ≠ lf := by
  obtain ⟨⟨_, _, _, e1, e2, e3, _⟩, _⟩ := d
  exact ⟨(ne_of_none e1 h).symm, (ne_of_none e2 h).symm, (ne_of_none e3 h).symm⟩
theorem Dk.upd {H : Hp} {dk cl lf D : Addr} {o : HO} (d : Dk H dk cl lf) (h : D ≠ dk ∧ D ≠ cl ∧ D ≠ lf) : Dk (L2.upd H D o) dk cl lf := by
  obtain ⟨⟨cells, lefts, n, e1, e2, e3, r⟩, ne⟩ := d
  exact ⟨⟨cells, lefts, n, by rw [upd_ne h.1.symm]; exact e1, by rw [upd_ne h.2.1.symm]; exact e2, by rw [upd_ne h.2.2.symm]; exact e3, r⟩, ne⟩
theorem KD.upd {dk lf D : Addr} {H H1 H2 : Hp} {o : HO} (a : KD dk lf H H1) (b : KD dk lf H1 H2) (h : H1 D = none) : KD dk lf H (L2.upd H2 D o) := fun c u n1 n2 e => by
  rw [upd_ne (ne_of_none (a c u n1 n2 e) h)]
  exact b c u n1 n2 (a c u n1 n2 e)
def CodesOk (l : List Nat) : Prop := ∀ c ∈ l, c < 0x110000
theorem strOk_iff {x : Str} : PyData.strOk x = true ↔ CodesOk (tl x) := by
  unfold PyData.strOk CodesOk tl
  rw [← Array.all_toList, List.all_eq_true]
  constructor
  · intro h c hc
    exact of_decide_eq_true (h c hc)
  · intro h c hc
    exact decide_eq_true (h c hc)
theorem joinNil_ok : ∀ ps : List (List Nat), (∀ p ∈ ps, CodesOk p ∧ p.length = 1) → CodesOk (joinL [] ps) ∧ (joinL [] ps).length = ps.length
  | [], _ => ⟨fun c h => by simp [joinL] at h, rfl⟩
  | [p], h => ⟨(h p List.mem_cons_self).1, by simpa [joinL] using (h p List.mem_cons_self).2⟩
  | p :: q :: r, h => by
    obtain ⟨h1, h2⟩ := h p List.mem_cons_self
    obtain ⟨i1, i2⟩ := joinNil_ok (q :: r) fun z hz => h z (List.mem_cons_of_mem _ hz)
    refine ⟨fun c hc => ?_, ?_⟩
    · have hc' : c ∈ p ++ ([] ++ joinL [] (q :: r)) := hc
      rw [List.nil_append] at hc'
      rcases List.mem_append.mp hc' with m | m
      · exact h1 c m
      · exact i1 c m
    · show (p ++ ([] ++ joinL [] (q :: r))).length = _
      rw [List.nil_append, List.length_append, h2, i2]
      simp
      omega
mutual
/-- a kind, as the document's A2 has it -/
inductive Kd where
  | num (i : Bool) (b : Int)
  | truth
  | parts (v : Bool) (ps : Ps)
  | row (m : Int) (k : Kd)
  | one (b : Bool) (k : Kd)
  | use (n : Str) (fs : Ks)
  | hole (n : Str)
inductive Ps where
  | nil
  | cons (n : Str) (k : Kd) (ps : Ps)
inductive Ks where
  | nil
  | cons (k : Kd) (ks : Ks)
end
def wN (i : Bool) : String := if i then "int" else "nat"
def wP (v : Bool) : String := if v then "variant" else "record"
def wO (b : Bool) : String := if b then "box" else "maybe"
def S (s : String) : Str := Str.ofString s
mutual
def toD : Kd → PyData
  | .num i b => .tuple [.str (S (wN i)), .int b]
  | .truth => .tuple [.str (S "truth")]
  | .parts v ps => .tuple [.str (S (wP v)), .tuple (psD ps)]
  | .row m k => .tuple [.str (S "row"), .int m, toD k]
  | .one b k => .tuple [.str (S (wO b)), toD k]
  | .use n fs => .tuple [.str (S "use"), .str n, .tuple (ksD fs)]
  | .hole n => .tuple [.str (S "hole"), .str n]
def psD : Ps → List PyData
  | .nil => []
  | .cons n k ps => .tuple [.str n, toD k] :: psD ps
def ksD : Ks → List PyData
  | .nil => []
  | .cons k ks => toD k :: ksD ks
end
def letter (c : Nat) : Bool := decide (97 ≤ c) && decide (c ≤ 122)
structure Nm (n : Str) : Prop where
  let_ : ∀ c ∈ tl n, letter c = true
  pos : tl n ≠ []
  most : (tl n).length ≤ 12
mutual
def good : Kd → Prop
  | .num _ b => 1 ≤ b ∧ b ≤ 64
  | .truth => True
  | .parts _ ps => goodP ps
  | .row m k => (1 ≤ m ∧ m ≤ 16) ∧ good k
  | .one _ k => good k
  | .use n fs => Nm n ∧ goodK fs
  | .hole n => Nm n
def goodP : Ps → Prop
  | .nil => True
  | .cons n k ps => Nm n ∧ good k ∧ goodP ps
def goodK : Ks → Prop
  | .nil => True
  | .cons k ks => good k ∧ goodK ks
end
/-! ### forms, depth -/
mutual
def fm : Kd → Nat
  | .num _ _ => 1
  | .truth => 1
  | .parts _ ps => fmP ps + 1
  | .row _ k => fm k + 1
  | .one _ k => fm k + 1
  | .use _ fs => fmK fs + 1
  | .hole _ => 1
def fmP : Ps → Nat
  | .nil => 0
  | .cons _ k ps => fm k + fmP ps
def fmK : Ks → Nat
  | .nil => 0
  | .cons k ks => fm k + fmK ks
end
mutual
def dpt : Kd → Nat
  | .num _ _ => 1
  | .truth => 1
  | .parts _ ps => dptP ps + 1
  | .row _ k => dpt k + 1
  | .one _ k => dpt k + 1
  | .use _ fs => dptK fs + 1
  | .hole _ => 1
def dptP : Ps → Nat
  | .nil => 0
  | .cons _ k ps => max (dpt k) (dptP ps)
def dptK : Ks → Nat
  | .nil => 0
  | .cons k ks => max (dpt k) (dptK ks)
end
theorem fm_pos : ∀ k, 1 ≤ fm k
  | .num _ _ => by simp [fm]
  | .truth => by simp [fm]
  | .parts _ ps => by simp [fm]
  | .row _ k => by simp [fm]
  | .one _ k => by simp [fm]
  | .use _ fs => by simp [fm]
  | .hole _ => by simp [fm]
theorem dpt_pos : ∀ k, 1 ≤ dpt k
  | .num _ _ => by simp [dpt]
  | .truth => by simp [dpt]
  | .parts _ ps => by simp [dpt]
  | .row _ k => by simp [dpt]
  | .one _ k => by simp [dpt]
  | .use _ fs => by simp [dpt]
  | .hole _ => by simp [dpt]
/-! ### toD is one-to-one -/
theorem wPO : ∀ v b, S (wP v) ≠ S (wO b) := by decide +kernel
theorem sN_inj : ∀ {i j : Bool}, S (wN i) = S (wN j) → i = j := by decide +kernel
theorem sP_inj : ∀ {i j : Bool}, S (wP i) = S (wP j) → i = j := by decide +kernel
theorem sO_inj : ∀ {i j : Bool}, S (wO i) = S (wO j) → i = j := by decide +kernel
theorem toD_tuple : ∀ k, ∃ ds, toD k = .tuple ds
  | .num _ _ => ⟨_, rfl⟩
  | .truth => ⟨_, rfl⟩
  | .parts _ ps => ⟨_, rfl⟩
  | .row _ k => ⟨_, rfl⟩
  | .one _ k => ⟨_, rfl⟩
  | .use _ fs => ⟨_, rfl⟩
  | .hole _ => ⟨_, rfl⟩
mutual
theorem toD_inj : ∀ k k', toD k = toD k' → k = k'
  | .num i b, k', e => by
    cases k' with
    | num j c => simp only [toD, PyData.tuple.injEq, List.cons.injEq, PyData.str.injEq, PyData.int.injEq, and_true] at e; rw [sN_inj e.1, e.2]
    | one b k => obtain ⟨ds, h⟩ := toD_tuple k; simp [toD, h] at e
    | _ => simp [toD] at e
  | .truth, k', e => by
    cases k' with
    | truth => rfl
    | _ => simp [toD] at e
  | .parts v ps, k', e => by
    cases k' with
    | parts v' ps' =>
      simp only [toD, PyData.tuple.injEq, List.cons.injEq, PyData.str.injEq, and_true] at e
      rw [sP_inj e.1, psD_inj ps ps' e.2]
    | one b k => simp only [toD, PyData.tuple.injEq, List.cons.injEq, PyData.str.injEq, and_true] at e; exact absurd e.1 (wPO v b)
    | _ => simp [toD] at e
  | .row m k, k', e => by
    cases k' with
    | row m' k2 =>
      simp only [toD, PyData.tuple.injEq, List.cons.injEq, PyData.int.injEq, and_true, true_and] at e
      rw [e.1, toD_inj k k2 e.2]
    | _ => simp [toD] at e
  | .one b k, k', e => by
    cases k' with
    | one b' k2 =>
      simp only [toD, PyData.tuple.injEq, List.cons.injEq, PyData.str.injEq, and_true] at e
      rw [sO_inj e.1, toD_inj k k2 e.2]
    | parts v ps => simp only [toD, PyData.tuple.injEq, List.cons.injEq, PyData.str.injEq, and_true] at e; exact absurd e.1.symm (wPO v b)
    | num i c => obtain ⟨ds, h⟩ := toD_tuple k; simp [toD, h] at e
    | hole n => obtain ⟨ds, h⟩ := toD_tuple k; simp [toD, h] at e
    | _ => simp [toD] at e
  | .use n fs, k', e => by
    cases k' with
    | use n' fs' =>
      simp only [toD, PyData.tuple.injEq, List.cons.injEq, PyData.str.injEq, and_true, true_and] at e
      rw [e.1, ksD_inj fs fs' e.2]
    | _ => simp [toD] at e
  | .hole n, k', e => by
    cases k' with
    | hole n' => simp only [toD, PyData.tuple.injEq, List.cons.injEq, PyData.str.injEq, and_true, true_and] at e; rw [e]
    | one b k => obtain ⟨ds, h⟩ := toD_tuple k; simp [toD, h] at e
    | _ => simp [toD] at e
  termination_by structural k => k
theorem psD_inj : ∀ ps ps', psD ps = psD ps' → ps = ps'
  | .nil, ps', e => by
    cases ps' with
    | nil => rfl
    | cons n k ps => simp [psD] at e
  | .cons n k ps, ps', e => by
    cases ps' with
    | nil => simp [psD] at e
    | cons n' k' ps' =>
      simp only [psD, PyData.tuple.injEq, List.cons.injEq, PyData.str.injEq, and_true] at e
      rw [e.1.1, toD_inj k k' e.1.2, psD_inj ps ps' e.2]
  termination_by structural ps => ps
theorem ksD_inj : ∀ ks ks', ksD ks = ksD ks' → ks = ks'
  | .nil, ps', e => by
    cases ps' with
    | nil => rfl
    | cons k ps => simp [ksD] at e
  | .cons k ps, ps', e => by
    cases ps' with
    | nil => simp [ksD] at e
    | cons k' ps' =>
      simp only [ksD, List.cons.injEq] at e
      rw [toD_inj k k' e.1, ksD_inj ps ps' e.2]
  termination_by structural ks => ks
end
/-! ### good kinds as written things -/
theorem strOk_S (s : String) (h : PyData.strOk (S s) = true) : pl (.str (S s)) = true := h
theorem nm_ok {n : Str} (h : Nm n) : PyData.strOk n = true := strOk_iff.mpr fun c hc => by
  have := h.let_ c hc
  unfold letter at this
  simp at this
  omega
theorem nm_len {n : Str} (h : Nm n) : n.length ≤ 12 := by rw [TL.len_tl]; exact h.most
theorem okN : ∀ i, PyData.strOk (S (wN i)) = true ∧ (S (wN i)).length ≤ 8 := by decide +kernel
theorem okP : ∀ i, PyData.strOk (S (wP i)) = true ∧ (S (wP i)).length ≤ 8 := by decide +kernel
theorem okO : ∀ i, PyData.strOk (S (wO i)) = true ∧ (S (wO i)).length ≤ 8 := by decide +kernel
theorem okTr : PyData.strOk (S "truth") = true ∧ (S "truth").length ≤ 8 := by decide +kernel
theorem okR : PyData.strOk (S "row") = true ∧ (S "row").length ≤ 8 := by decide +kernel
theorem okU : PyData.strOk (S "use") = true ∧ (S "use").length ≤ 8 := by decide +kernel
theorem okH : PyData.strOk (S "hole") = true ∧ (S "hole").length ≤ 8 := by decide +kernel
mutual
theorem pl_D : ∀ k, good k → pl (toD k) = true ∧ sz (toD k) + 30 ≤ 80 * fm k ∧ (toD k).depth ≤ 3 * dpt k
  | .num i b, _ => by
    have := okN i
    refine ⟨by simp [toD, pl, plA, this.1], ?_, by simp [toD, PyData.depth, PyData.depthAll, dpt]⟩
    simp only [toD, sz, szA, fm]; omega
  | .truth, _ => by
    have := okTr
    refine ⟨by simp [toD, pl, plA, this.1], ?_, by simp [toD, PyData.depth, PyData.depthAll, dpt]⟩
    simp only [toD, sz, szA, fm]; omega
  | .parts v ps, g => by
    have := okP v
    obtain ⟨h1, h2, h3⟩ := pl_P ps g
    refine ⟨by simp [toD, pl, plA, this.1, h1], ?_, ?_⟩
    · simp only [toD, sz, szA, fm]; omega
    · simp only [toD, PyData.depth, PyData.depthAll, dpt]; omega
  | .row m k, g => by
    have := okR
    obtain ⟨h1, h2, h3⟩ := pl_D k g.2
    refine ⟨by simp [toD, pl, plA, this.1, h1], ?_, ?_⟩
    · simp only [toD, sz, szA, fm]; omega
    · simp only [toD, PyData.depth, PyData.depthAll, dpt]; omega
  | .one b k, g => by
    have := okO b
    obtain ⟨h1, h2, h3⟩ := pl_D k g
    refine ⟨by simp [toD, pl, plA, this.1, h1], ?_, ?_⟩
    · simp only [toD, sz, szA, fm]; omega
    · simp only [toD, PyData.depth, PyData.depthAll, dpt]; omega
  | .use n fs, g => by
    have := okU
    have hn := nm_len g.1
    obtain ⟨h1, h2, h3⟩ := pl_K fs g.2
    refine ⟨by simp [toD, pl, plA, this.1, h1, nm_ok g.1], ?_, ?_⟩
    · simp only [toD, sz, szA, fm]; omega
    · simp only [toD, PyData.depth, PyData.depthAll, dpt]; omega
  | .hole n, g => by
    have := okH
    have hn := nm_len g
    refine ⟨by simp [toD, pl, plA, this.1, nm_ok g], ?_, by simp [toD, PyData.depth, PyData.depthAll, dpt]⟩
    simp only [toD, sz, szA, fm]; omega
  termination_by structural k => k
theorem pl_P : ∀ ps, goodP ps → plA (psD ps) = true ∧ szA (psD ps) ≤ 80 * fmP ps ∧ PyData.depthAll (psD ps) ≤ 3 * dptP ps + 1
  | .nil, _ => by simp [psD, plA, szA, PyData.depthAll]
  | .cons n k ps, g => by
    have hn := nm_len g.1
    obtain ⟨h1, h2, h3⟩ := pl_D k g.2.1
    obtain ⟨h4, h5, h6⟩ := pl_P ps g.2.2
    refine ⟨by simp [psD, pl, plA, h1, h4, nm_ok g.1], ?_, ?_⟩
    · simp only [psD, sz, szA, fmP]; omega
    · simp only [psD, PyData.depth, PyData.depthAll, dptP]; omega
  termination_by structural ps => ps
theorem pl_K : ∀ ks, goodK ks → plA (ksD ks) = true ∧ szA (ksD ks) ≤ 80 * fmK ks ∧ PyData.depthAll (ksD ks) ≤ 3 * dptK ks
  | .nil, _ => by simp [ksD, plA, szA, PyData.depthAll]
  | .cons k ks, g => by
    obtain ⟨h1, h2, h3⟩ := pl_D k g.1
    obtain ⟨h4, h5, h6⟩ := pl_K ks g.2
    refine ⟨by simp [ksD, plA, h1, h4], ?_, ?_⟩
    · simp only [ksD, szA, fmK]; omega
    · simp only [ksD, PyData.depthAll, dptK]; omega
  termination_by structural ks => ks
end
theorem tF {x y : Str} {A B : Prop} (h : x ≠ y) (b : B) : if decide (V.str x = V.str y) = true then A else B := by
  rw [if_neg (by simpa using h)]
  exact b
theorem tT {x y : Str} {A B : Prop} (h : x = y) (a : A) : if decide (V.str x = V.str y) = true then A else B := by
  rw [if_pos (by simpa using h)]
  exact a
theorem cT {c A B : Prop} [Decidable c] (h : c) (a : A) : if c then A else B := by rw [if_pos h]; exact a
theorem cF {c A B : Prop} [Decidable c] (h : ¬ c) (b : B) : if c then A else B := by rw [if_neg h]; exact b
theorem fit {x : Str} (h : (tl x).length ≤ 1000000) : x.length ≤ sizeLine := by
  rw [TL.len_tl]
  exact Nat.le_trans h (by decide)
theorem tl_app (x y : Str) : tl (x ++ y) = tl x ++ tl y := TL.tl_append x y
/-- a kind's tuple: its word, then the rest -/
def wd : Kd → String
  | .num i _ => wN i
  | .truth => "truth"
  | .parts v _ => wP v
  | .row _ _ => "row"
  | .one b _ => wO b
  | .use _ _ => "use"
  | .hole _ => "hole"
def tlD : Kd → List PyData
  | .num _ b => [.int b]
  | .truth => []
  | .parts _ ps => [.tuple (psD ps)]
  | .row m k => [.int m, toD k]
  | .one _ k => [toD k]
  | .use n fs => [.str n, .tuple (ksD fs)]
  | .hole n => [.str n]
theorem toD_eq : ∀ k, toD k = .tuple (.str (S (wd k)) :: tlD k)
  | .num _ _ => rfl
  | .truth => rfl
  | .parts _ _ => rfl
  | .row _ _ => rfl
  | .one _ _ => rfl
  | .use _ _ => rfl
  | .hole _ => rfl
theorem dk {K : PySem.W.Frag} {H : Hp} {v : V} {k : Kd} (h : Dp K H v (toD k)) : ∃ a ws, v = .ref a ∧ SqT K H a (.str (S (wd k)) :: ws) ∧ DpAll K H ws (tlD k) := by
  rw [toD_eq] at h
  cases h with
  | tup hs ha =>
    cases ha with
    | cons h1 h2 =>
      cases h1
      exact ⟨_, _, rfl, hs, h2⟩
theorem all1 {K : PySem.W.Frag} {H : Hp} {ws : List V} {d : PyData} (h : DpAll K H ws [d]) : ∃ x, ws = [x] ∧ Dp K H x d := by
  cases h with
  | cons h1 h2 =>
    cases h2
    exact ⟨_, rfl, h1⟩
theorem all2 {K : PySem.W.Frag} {H : Hp} {ws : List V} {d e : PyData} (h : DpAll K H ws [d, e]) : ∃ x y, ws = [x, y] ∧ Dp K H x d ∧ Dp K H y e := by
  cases h with
  | cons h1 h2 =>
    cases h2 with
    | cons h3 h4 =>
      cases h4
      exact ⟨_, _, rfl, h1, h3⟩
theorem dInt {K : PySem.W.Frag} {H : Hp} {x : V} {i : Int} (h : Dp K H x (.int i)) : x = .int i := by cases h; rfl
theorem dStr {K : PySem.W.Frag} {H : Hp} {x : V} {i : Str} (h : Dp K H x (.str i)) : x = .str i := by cases h; rfl
theorem dTup {K : PySem.W.Frag} {H : Hp} {x : V} {ds : List PyData} (h : Dp K H x (.tuple ds)) : ∃ a ws, x = .ref a ∧ SqT K H a ws ∧ DpAll K H ws ds := by
  cases h with
  | tup hs ha => exact ⟨_, _, rfl, hs, ha⟩
theorem fit2 {x y : Str} (h : (tl x).length + (tl y).length ≤ 1000000) : x.length + y.length ≤ sizeLine := by
  rw [TL.len_tl, TL.len_tl]
  exact Nat.le_trans h (by decide)
/-! ### list(text) -/
def sgn (c : Nat) : V := .str ⟨#[c]⟩
theorem signs_vals (z : Str) (acc : Array Value) (h : ItemsOf (SignAt z) acc z.cps.size) : Vals ((tl z).map sgn) acc.toList := by
  have hl : ((tl z).map sgn).length = acc.toList.length := by
    rw [List.length_map, Array.length_toList]
    exact (Array.length_toList ..).trans (h.1).symm
  refine paired_of hl fun i x y hx hy => ?_
  rw [List.getElem?_map] at hx
  have hy' : acc[i]? = some y := by simpa using hy
  have hs := h.2 i y hy'
  cases hc : (tl z)[i]? with
  | none => rw [hc] at hx; cases hx
  | some c =>
    rw [hc] at hx
    obtain rfl : sgn c = x := Option.some.inj hx
    have hc' : z.cps[i]? = some c := by simpa [tl] using hc
    obtain ⟨c', t, e1, e2⟩ := hs
    rw [hc'] at e1
    cases e1
    exact ⟨t, e2⟩
section
variable {X : Cx}
theorem call_list_txt (hc : X.calm = true) : CallR X (.type "list") (fun xs H Q => ∃ z : Str, xs = [.str z] ∧ z.length ≤ sizeLine ∧ ∀ l, H l = none → Q (.ref l) (upd H l (.lst ((tl z).map sgn)))) := by
  intro pins s σ H xs us Q I r h
  obtain ⟨z, rfl, hz, q⟩ := h
  obtain ⟨u, rfl, t, rfl⟩ := vals1 r
  refine call_list_str (I.ok.hd hc) z t (fun h' tk acc c kp e hacc => ?_) hz
  refine ⟨.ref s.heap.objs.size, _, I.laid (t' := tk) kp (Nat.le_refl _) (show ObjOk X.prog X.w _ h' _ (.lst ((tl z).map sgn)) from ⟨?_, acc.toList, c, signs_vals z acc hacc, ?_⟩), rfl, q _ (I.hok.fresh (Nat.le_refl _))⟩
  · rw [List.length_map, ← TL.len_tl]
    exact hz
  · rw [Array.toArray_toList]
    exact e
end
def abc : String := "abcdefghijklmnopqrstuvwxyz"
theorem abc_len : (tl (S abc)).length = 26 := by decide +kernel
theorem abc_let : ∀ c ∈ tl (S abc), letter c = true := fun c hc => List.all_eq_true.mp (by decide +kernel) c hc
theorem joinNil_let : ∀ ps : List (List Nat), (∀ p ∈ ps, (∀ c ∈ p, letter c = true) ∧ p.length = 1) → (∀ c ∈ joinL [] ps, letter c = true) ∧ (joinL [] ps).length = ps.length
  | [], _ => ⟨fun c h => by simp [joinL] at h, rfl⟩
  | [p], h => ⟨(h p List.mem_cons_self).1, by simpa [joinL] using (h p List.mem_cons_self).2⟩
  | p :: q :: r, h => by
    obtain ⟨h1, h2⟩ := h p List.mem_cons_self
    obtain ⟨i1, i2⟩ := joinNil_let (q :: r) fun z hz => h z (List.mem_cons_of_mem _ hz)
    refine ⟨fun c hc => ?_, ?_⟩
    · have hc' : c ∈ p ++ ([] ++ joinL [] (q :: r)) := hc
      rw [List.nil_append] at hc'
      rcases List.mem_append.mp hc' with m | m
      · exact h1 c m
      · exact i1 c m
    · show (p ++ ([] ++ joinL [] (q :: r))).length = _
      rw [List.nil_append, List.length_append, h2, i2]
      simp
      omega
theorem cutS_tl (z : Str) (lo hi : Option Int) : tl (cutS z lo hi) = ((tl z).drop (HT.sIx z.length 0 lo)).take (HT.sIx z.length z.length hi - HT.sIx z.length 0 lo) := by
  unfold cutS
  simp [tl]
theorem cut_both (z : Str) (j : Nat) (h : j ≤ (tl z).length) : tl (cutS z none (some (j : Int))) = (tl z).take j ∧ tl (cutS z (some (j : Int)) none) = (tl z).drop j := by
  have hz := TL.len_tl z
  rw [cutS_tl, cutS_tl, HT.sIx_none, HT.sIx_none, HT.sIx_nat, HT.sIx_nat]
  rw [show min j z.length = j by omega]
  refine ⟨by simp, ?_⟩
  rw [List.take_of_length_le (by rw [List.length_drop]; omega)]
theorem flat_strs (ns : List Str) : (ns.map V.str).all flatV = true := by
  rw [List.all_eq_true]
  intro v hv
  obtain ⟨n, _, rfl⟩ := List.mem_map.mp hv
  rfl
theorem erase_map {α β : Type} (f : α → β) : ∀ (xs : List α) (i : Nat), (xs.map f).eraseIdx i = (xs.eraseIdx i).map f
  | [], _ => rfl
  | _ :: _, 0 => rfl
  | x :: xs, i + 1 => by
    show f x :: (xs.map f).eraseIdx i = f x :: (xs.eraseIdx i).map f
    rw [erase_map f xs i]
/-! ### lists of parts, of fills -/
def psL : List (Str × Kd) → Ps
  | [] => .nil
  | p :: l => .cons p.1 p.2 (psL l)
def ksL : List Kd → Ks
  | [] => .nil
  | k :: l => .cons k (ksL l)
theorem psD_snoc : ∀ (l : List (Str × Kd)) (n : Str) (k : Kd), psD (psL (l ++ [(n, k)])) = psD (psL l) ++ [.tuple [.str n, toD k]]
  | [], _, _ => rfl
  | p :: l, n, k => by simp [psL, psD, psD_snoc l n k]
theorem ksD_snoc : ∀ (l : List Kd) (k : Kd), ksD (ksL (l ++ [k])) = ksD (ksL l) ++ [toD k]
  | [], _ => rfl
  | p :: l, k => by simp [ksL, ksD, ksD_snoc l k]
theorem psL_ok {d r : Nat} : ∀ (l : List (Str × Kd)), (∀ p ∈ l, Nm p.1 ∧ good p.2 ∧ dpt p.2 ≤ d ∧ fm p.2 ≤ r) → goodP (psL l) ∧ dptP (psL l) ≤ d ∧ fmP (psL l) ≤ l.length * r
  | [], _ => ⟨True.intro, Nat.zero_le _, Nat.zero_le _⟩
  | p :: l, h => by
    obtain ⟨h1, h2, h3, h4⟩ := h p List.mem_cons_self
    obtain ⟨g1, g2, g3⟩ := psL_ok l fun q hq => h q (List.mem_cons_of_mem _ hq)
    refine ⟨⟨h1, h2, g1⟩, ?_, ?_⟩
    · simp only [psL, dptP]; omega
    · simp only [psL, fmP, List.length_cons, Nat.add_mul]; omega
theorem ksL_ok {d r : Nat} : ∀ (l : List Kd), (∀ p ∈ l, good p ∧ dpt p ≤ d ∧ fm p ≤ r) → goodK (ksL l) ∧ dptK (ksL l) ≤ d ∧ fmK (ksL l) ≤ l.length * r
  | [], _ => ⟨True.intro, Nat.zero_le _, Nat.zero_le _⟩
  | p :: l, h => by
    obtain ⟨h2, h3, h4⟩ := h p List.mem_cons_self
    obtain ⟨g1, g2, g3⟩ := ksL_ok l fun q hq => h q (List.mem_cons_of_mem _ hq)
    refine ⟨⟨h2, g1⟩, ?_, ?_⟩
    · simp only [ksL, dptK]; omega
    · simp only [ksL, fmK, List.length_cons, Nat.add_mul]; omega
/-! ### places in data -/
inductive At : PyData → List Nat → PyData → Prop
  | here (d : PyData) : At d [] d
  | step {ds : List PyData} {i : Nat} {c e : PyData} {p : List Nat} : ds[i]? = some c → At c p e → At (.tuple ds) (i :: p) e
inductive Put : PyData → List Nat → PyData → PyData → Prop
  | here (d e : PyData) : Put d [] e e
  | step {ds : List PyData} {i : Nat} {c e c' : PyData} {p : List Nat} : ds[i]? = some c → Put c p e c' → Put (.tuple ds) (i :: p) e (.tuple (ds.take i ++ [c'] ++ ds.drop (i + 1)))
theorem put_det : ∀ {d : PyData} {p : List Nat} {e d1 d2 : PyData}, Put d p e d1 → Put d p e d2 → d1 = d2
  | _, _, _, _, _, .here _ _, h => by cases h; rfl
  | _, _, _, _, _, .step g a, h => by
    cases h with
    | step g' a' =>
      obtain rfl := Option.some.inj (g.symm.trans g')
      rw [put_det a a']
theorem at_comp : ∀ {d : PyData} {p : List Nat} {c : PyData} {q : List Nat} {e : PyData}, At d p c → At c q e → At d (p ++ q) e
  | _, _, _, _, _, .here _, h => h
  | _, _, _, _, _, .step g a, h => .step g (at_comp a h)
theorem put_comp : ∀ {d : PyData} {p : List Nat} {c x d' : PyData} {q : List Nat} {e : PyData}, At d p c → Put c q e x → Put d p x d' → Put d (p ++ q) e d'
  | _, _, _, _, _, _, _, .here _, h, k => by cases k; exact h
  | _, _, _, _, _, _, _, .step g a, h, k => by
    cases k with
    | step g' a' =>
      obtain rfl := Option.some.inj (g.symm.trans g')
      exact .step g (put_comp a h a')
/-! ### kinds in kinds -/
structure Ctx (k : Kd) (p : List Nat) (c : Kd) (f : Kd → Kd) : Prop where
  at_ : At (toD k) p (toD c)
  put : ∀ e, Put (toD k) p (toD e) (toD (f e))
  gd : good k → ∀ e, good e → good (f e)
  gc : good k → good c
  fme : ∀ e, fm (f e) + fm c = fm k + fm e
  lv : ∃ l, l + dpt c ≤ dpt k ∧ p.length ≤ 3 * l ∧ ∀ e, dpt (f e) ≤ max (dpt k) (l + dpt e)
theorem Ctx.here (k : Kd) : Ctx k [] k id := ⟨.here _, fun e => .here _ _, fun _ e h => h, fun h => h, fun e => Nat.add_comm _ _, 0, by omega, by simp, fun e => by simp; omega⟩
theorem Ctx.comp {k c c' : Kd} {p q : List Nat} {f g : Kd → Kd} (a : Ctx k p c f) (b : Ctx c q c' g) : Ctx k (p ++ q) c' (f ∘ g) := by
  obtain ⟨l, l1, l2, l3⟩ := a.lv
  obtain ⟨m, m1, m2, m3⟩ := b.lv
  refine ⟨at_comp a.at_ b.at_, fun e => put_comp a.at_ (b.put e) (a.put (g e)), fun h e he => a.gd h _ (b.gd (a.gc h) e he), fun h => b.gc (a.gc h), fun e => ?_, l + m, by omega, by rw [List.length_append]; omega, fun e => ?_⟩
  · have h1 := a.fme (g e)
    have h2 := b.fme e
    show fm (f (g e)) + fm c' = _
    omega
  · have h1 := l3 (g e)
    have h2 := m3 e
    show dpt (f (g e)) ≤ _
    omega
def getP : Ps → Nat → Option (Str × Kd)
  | .nil, _ => none
  | .cons n k _, 0 => some (n, k)
  | .cons _ _ ps, i + 1 => getP ps i
def setP : Ps → Nat → Kd → Ps
  | .nil, _, _ => .nil
  | .cons n _ ps, 0, e => .cons n e ps
  | .cons n k ps, i + 1, e => .cons n k (setP ps i e)
def getK : Ks → Nat → Option Kd
  | .nil, _ => none
  | .cons k _, 0 => some k
  | .cons _ ps, i + 1 => getK ps i
def setK : Ks → Nat → Kd → Ks
  | .nil, _, _ => .nil
  | .cons _ ps, 0, e => .cons e ps
  | .cons k ps, i + 1, e => .cons k (setK ps i e)
theorem ps_ctx : ∀ (ps : Ps) (i : Nat) (n : Str) (c : Kd), getP ps i = some (n, c) → (psD ps)[i]? = some (.tuple [.str n, toD c]) ∧ (goodP ps → Nm n ∧ good c) ∧ dpt c ≤ dptP ps ∧ fm c ≤ fmP ps ∧
    ∀ e, psD (setP ps i e) = (psD ps).take i ++ [.tuple [.str n, toD e]] ++ (psD ps).drop (i + 1) ∧ (goodP ps → good e → goodP (setP ps i e)) ∧ fmP (setP ps i e) + fm c = fmP ps + fm e ∧ dptP (setP ps i e) ≤ max (dptP ps) (dpt e)
  | .nil, i, n, c, h => by simp [getP] at h
  | .cons n' k ps, 0, n, c, h => by
    simp only [getP, Option.some.injEq, Prod.mk.injEq] at h
    obtain ⟨rfl, rfl⟩ := h
    refine ⟨rfl, fun g => ⟨g.1, g.2.1⟩, by simp only [dptP]; omega, by simp only [fmP]; omega, fun e => ⟨by simp [setP, psD], fun g he => ⟨g.1, he, g.2.2⟩, ?_, ?_⟩⟩
    · simp only [setP, fmP]; omega
    · simp only [setP, dptP]; omega
  | .cons n' k ps, i + 1, n, c, h => by
    obtain ⟨a1, a2, a3, a4, a5⟩ := ps_ctx ps i n c (by simpa [getP] using h)
    refine ⟨by simpa [psD] using a1, fun g => a2 g.2.2, by simp only [dptP]; omega, by simp only [fmP]; omega, fun e => ?_⟩
    obtain ⟨b1, b2, b3, b4⟩ := a5 e
    refine ⟨by simp [setP, psD, b1], fun g he => ⟨g.1, g.2.1, b2 g.2.2 he⟩, ?_, ?_⟩
    · simp only [setP, fmP]; omega
    · simp only [setP, dptP]; omega
theorem ks_ctx : ∀ (ps : Ks) (i : Nat) (c : Kd), getK ps i = some c → (ksD ps)[i]? = some (toD c) ∧ (goodK ps → good c) ∧ dpt c ≤ dptK ps ∧ fm c ≤ fmK ps ∧
    ∀ e, ksD (setK ps i e) = (ksD ps).take i ++ [toD e] ++ (ksD ps).drop (i + 1) ∧ (goodK ps → good e → goodK (setK ps i e)) ∧ fmK (setK ps i e) + fm c = fmK ps + fm e ∧ dptK (setK ps i e) ≤ max (dptK ps) (dpt e)
  | .nil, i, c, h => by simp [getK] at h
  | .cons k ps, 0, c, h => by
    simp only [getK, Option.some.injEq] at h
    obtain rfl := h
    refine ⟨rfl, fun g => g.1, by simp only [dptK]; omega, by simp only [fmK]; omega, fun e => ⟨by simp [setK, ksD], fun g he => ⟨he, g.2⟩, ?_, ?_⟩⟩
    · simp only [setK, fmK]; omega
    · simp only [setK, dptK]; omega
  | .cons k ps, i + 1, c, h => by
    obtain ⟨a1, a2, a3, a4, a5⟩ := ks_ctx ps i c (by simpa [getK] using h)
    refine ⟨by simpa [ksD] using a1, fun g => a2 g.2, by simp only [dptK]; omega, by simp only [fmK]; omega, fun e => ?_⟩
    obtain ⟨b1, b2, b3, b4⟩ := a5 e
    refine ⟨by simp [setK, ksD, b1], fun g he => ⟨g.1, b2 g.2 he⟩, ?_, ?_⟩
    · simp only [setK, fmK]; omega
    · simp only [setK, dptK]; omega
theorem ctx_parts {v : Bool} {ps : Ps} {i : Nat} {n : Str} {c : Kd} (h : getP ps i = some (n, c)) : Ctx (.parts v ps) [1, i, 1] c (fun e => .parts v (setP ps i e)) := by
  obtain ⟨a1, a2, a3, a4, a5⟩ := ps_ctx ps i n c h
  refine ⟨.step rfl (.step a1 (.step rfl (.here _))), fun e => ?_, fun g e he => (a5 e).2.1 g he, fun g => (a2 g).2, fun e => ?_, 1, ?_, by simp, fun e => ?_⟩
  · have : toD (.parts v (setP ps i e)) = .tuple ([PyData.str (S (wP v)), .tuple (psD ps)].take 1 ++ [.tuple ((psD ps).take i ++ [.tuple ([PyData.str n, toD c].take 1 ++ [toD e] ++ [PyData.str n, toD c].drop 2)] ++ (psD ps).drop (i + 1))] ++ [PyData.str (S (wP v)), .tuple (psD ps)].drop 2) := by
      simp [toD, (a5 e).1]
    rw [this]
    exact .step rfl (.step a1 (.step rfl (.here _ _)))
  · have := (a5 e).2.2.1
    simp only [fm]; omega
  · simp only [dpt]; omega
  · have := (a5 e).2.2.2
    simp only [dpt]; omega
theorem ctx_use {n : Str} {fs : Ks} {i : Nat} {c : Kd} (h : getK fs i = some c) : Ctx (.use n fs) [2, i] c (fun e => .use n (setK fs i e)) := by
  obtain ⟨a1, a2, a3, a4, a5⟩ := ks_ctx fs i c h
  refine ⟨.step rfl (.step a1 (.here _)), fun e => ?_, fun g e he => ⟨g.1, (a5 e).2.1 g.2 he⟩, fun g => a2 g.2, fun e => ?_, 1, ?_, by simp, fun e => ?_⟩
  · have : toD (.use n (setK fs i e)) = .tuple ([PyData.str (S "use"), .str n, .tuple (ksD fs)].take 2 ++ [.tuple ((ksD fs).take i ++ [toD e] ++ (ksD fs).drop (i + 1))] ++ [PyData.str (S "use"), .str n, .tuple (ksD fs)].drop 3) := by
      simp [toD, (a5 e).1]
    rw [this]
    exact .step rfl (.step a1 (.here _ _))
  · have := (a5 e).2.2.1
    simp only [fm]; omega
  · simp only [dpt]; omega
  · have := (a5 e).2.2.2
    simp only [dpt]; omega
theorem ctx_row (m : Int) (c : Kd) : Ctx (.row m c) [2] c (fun e => .row m e) := by
  refine ⟨.step rfl (.here _), fun e => ?_, fun g e he => ⟨g.1, he⟩, fun g => g.2, fun e => by simp only [fm]; omega, 1, by simp only [dpt]; omega, by simp, fun e => by simp only [dpt]; omega⟩
  have : toD (.row m e) = .tuple ([PyData.str (S "row"), .int m, toD c].take 2 ++ [toD e] ++ [PyData.str (S "row"), .int m, toD c].drop 3) := by simp [toD]
  rw [this]
  exact .step rfl (.here _ _)
theorem ctx_one (b : Bool) (c : Kd) : Ctx (.one b c) [1] c (fun e => .one b e) := by
  refine ⟨.step rfl (.here _), fun e => ?_, fun g e he => he, fun g => g, fun e => by simp only [fm]; omega, 1, by simp only [dpt]; omega, by simp, fun e => by simp only [dpt]; omega⟩
  have : toD (.one b e) = .tuple ([PyData.str (S (wO b)), toD c].take 1 ++ [toD e] ++ [PyData.str (S (wO b)), toD c].drop 2) := by simp [toD]
  rw [this]
  exact .step rfl (.here _ _)
/-! ### entries: a place and the kind there -/
def nints (p : List Nat) : List V := p.map fun n : Nat => V.int (n : Int)
def En (K : PySem.W.Frag) (k0 : Kd) (H : Hp) (v : V) (q : List Nat × Kd) : Prop := ∃ t a x, v = .ref t ∧ SqT K H t [.ref a, x] ∧ SqT K H a (nints q.1) ∧ Dp K H x (toD q.2) ∧ good q.2 ∧ ∃ f, Ctx k0 q.1 q.2 f
abbrev EnA (K : PySem.W.Frag) (k0 : Kd) (H : Hp) : List V → List (List Nat × Kd) → Prop := Paired (En K k0 H)
theorem En.ts {K : PySem.W.Frag} {H H1 : Hp} {k0 : Kd} {v : V} {q : List Nat × Kd} (s : TS K H H1) (h : En K k0 H v q) : En K k0 H1 v q := by
  obtain ⟨t, a, x, e, ht, ha, hx, p1, p2⟩ := h
  exact ⟨t, a, x, e, s _ _ ht, s _ _ ha, s.dp _ _ (pl_D _ p1).1 hx, p1, p2⟩
theorem EnA.ts {K : PySem.W.Frag} {H H1 : Hp} {k0 : Kd} {vs : List V} {qs : List (List Nat × Kd)} (s : TS K H H1) (h : EnA K k0 H vs qs) : EnA K k0 H1 vs qs := Paired.mapP h fun _ _ z => z.ts s
def fmE : List (List Nat × Kd) → Nat
  | [] => 0
  | q :: qs => fm q.2 + fmE qs
theorem fmE_append : ∀ xs ys, fmE (xs ++ ys) = fmE xs + fmE ys
  | [], ys => by simp [fmE]
  | x :: xs, ys => by simp only [List.cons_append, fmE, fmE_append xs ys]; omega
theorem fmE_rev : ∀ xs, fmE xs.reverse = fmE xs
  | [] => rfl
  | x :: xs => by simp only [List.reverse_cons, fmE_append, fmE, fmE_rev xs]; omega
theorem len_fmE : ∀ qs : List (List Nat × Kd), qs.length ≤ fmE qs
  | [] => Nat.le_refl _
  | q :: qs => by
    have h1 := fm_pos q.2
    have h2 := len_fmE qs
    simp only [List.length_cons, fmE]
    omega
def entP : Nat → Ps → List (List Nat × Kd)
  | _, .nil => []
  | i, .cons _ k ps => ([1, i, 1], k) :: entP (i + 1) ps
def entK : Nat → Ks → List (List Nat × Kd)
  | _, .nil => []
  | i, .cons k ks => ([2, i], k) :: entK (i + 1) ks
theorem entP_fm : ∀ (ps : Ps) (i : Nat), fmE (entP i ps) = fmP ps
  | .nil, _ => rfl
  | .cons _ k ps, i => by simp only [entP, fmE, fmP, entP_fm ps (i + 1)]
theorem entK_fm : ∀ (ps : Ks) (i : Nat), fmE (entK i ps) = fmK ps
  | .nil, _ => rfl
  | .cons k ps, i => by simp only [entK, fmE, fmK, entK_fm ps (i + 1)]
theorem entP_get : ∀ (ps : Ps) (j i : Nat) (n : Str) (c : Kd), getP ps i = some (n, c) → (entP j ps)[i]? = some ([1, j + i, 1], c)
  | .nil, _, _, _, _, h => by simp [getP] at h
  | .cons n' k ps, j, 0, n, c, h => by
    simp only [getP, Option.some.injEq, Prod.mk.injEq] at h
    simp [entP, h.2]
  | .cons n' k ps, j, i + 1, n, c, h => by
    have := entP_get ps (j + 1) i n c (by simpa [getP] using h)
    simp only [entP, List.getElem?_cons_succ, this]
    rw [show j + 1 + i = j + (i + 1) by omega]
theorem entK_get : ∀ (ps : Ks) (j i : Nat) (c : Kd), getK ps i = some c → (entK j ps)[i]? = some ([2, j + i], c)
  | .nil, _, _, _, h => by simp [getK] at h
  | .cons k ps, j, 0, c, h => by
    simp only [getK, Option.some.injEq] at h
    simp [entK, h]
  | .cons k ps, j, i + 1, c, h => by
    have := entK_get ps (j + 1) i c (by simpa [getK] using h)
    simp only [entK, List.getElem?_cons_succ, this]
    rw [show j + 1 + i = j + (i + 1) by omega]
theorem getP_lt : ∀ (ps : Ps) (i : Nat), i < (psD ps).length → ∃ n c, getP ps i = some (n, c)
  | .nil, i, h => by simp [psD] at h
  | .cons n k ps, 0, _ => ⟨n, k, rfl⟩
  | .cons n k ps, i + 1, h => getP_lt ps i (by simpa [psD] using h)
theorem getK_lt : ∀ (ps : Ks) (i : Nat), i < (ksD ps).length → ∃ c, getK ps i = some c
  | .nil, i, h => by simp [ksD] at h
  | .cons k ps, 0, _ => ⟨k, rfl⟩
  | .cons k ps, i + 1, h => getK_lt ps i (by simpa [ksD] using h)
theorem entP_len : ∀ (ps : Ps) (i : Nat), (entP i ps).length = (psD ps).length
  | .nil, _ => rfl
  | .cons _ k ps, i => by simp [entP, psD, entP_len ps (i + 1)]
theorem entK_len : ∀ (ps : Ks) (i : Nat), (entK i ps).length = (ksD ps).length
  | .nil, _ => rfl
  | .cons k ps, i => by simp [entK, ksD, entK_len ps (i + 1)]
theorem paired_get {α β : Type} {F : α → β → Prop} : ∀ {xs : List α} {ys : List β} {i : Nat} {x : α}, Paired F xs ys → xs[i]? = some x → ∃ y, ys[i]? = some y ∧ F x y
  | _, _, i, x, .nil, e => by simp at e
  | _, _, 0, x, .cons h t, e => by
    simp at e
    subst e
    exact ⟨_, rfl, h⟩
  | _, _, i + 1, x, .cons h t, e => by
    obtain ⟨d, e1, e2⟩ := paired_get (i := i) t (by simpa using e)
    exact ⟨d, by simpa using e1, e2⟩
theorem paired_rev {α β : Type} {F : α → β → Prop} : ∀ {xs : List α} {ys : List β}, Paired F xs ys → Paired F xs.reverse ys.reverse
  | _, _, .nil => .nil
  | _, _, .cons h t => by
    rw [List.reverse_cons, List.reverse_cons]
    exact paired_append (paired_rev t) (.cons h .nil)
def under (p : List Nat) (es : List (List Nat × Kd)) : List (List Nat × Kd) := es.map fun q => (p ++ q.1, q.2)
theorem fmE_under (p : List Nat) : ∀ es, fmE (under p es) = fmE es
  | [] => rfl
  | e :: es => by
    have := fmE_under p es
    simp only [under, List.map_cons, fmE] at this ⊢
    omega
theorem Ctx.len {k c : Kd} {p : List Nat} {f : Kd → Kd} (a : Ctx k p c f) : p.length ≤ 3 * dpt k ∧ dpt c ≤ dpt k := by
  obtain ⟨l, l1, l2, l3⟩ := a.lv
  omega
end K2
/-! holes put in: all at once, and place by place -/
namespace K2
open PySem PySem.Spec PyProof.Rows L2 K1
open TL (tl joinL)
def fillOf : List Str → List Kd → Str → Option Kd
  | h :: ho, f :: fs, n => if n = h then some f else fillOf ho fs n
  | _, _, _ => none
mutual
def sub (σ : Str → Option Kd) : Kd → Kd
  | .num i b => .num i b
  | .truth => .truth
  | .parts v ps => .parts v (subP σ ps)
  | .row m k => .row m (sub σ k)
  | .one b k => .one b (sub σ k)
  | .use n fs => .use n (subK σ fs)
  | .hole n => (σ n).getD (.hole n)
def subP (σ : Str → Option Kd) : Ps → Ps
  | .nil => .nil
  | .cons n k ps => .cons n (sub σ k) (subP σ ps)
def subK (σ : Str → Option Kd) : Ks → Ks
  | .nil => .nil
  | .cons k ks => .cons (sub σ k) (subK σ ks)
end
mutual
theorem good_sub {σ : Str → Option Kd} (hσ : ∀ n e, σ n = some e → good e) : ∀ k, good k → good (sub σ k)
  | .num _ _, h => h
  | .truth, _ => True.intro
  | .parts v ps, h => goodP_sub hσ ps h
  | .row m k, h => ⟨h.1, good_sub hσ k h.2⟩
  | .one _ k, h => good_sub hσ k h
  | .use n fs, h => ⟨h.1, goodK_sub hσ fs h.2⟩
  | .hole n, h => by
    simp only [sub]
    cases e : σ n with
    | none => exact h
    | some d => exact hσ n d e
  termination_by structural k => k
theorem goodP_sub {σ : Str → Option Kd} (hσ : ∀ n e, σ n = some e → good e) : ∀ ps, goodP ps → goodP (subP σ ps)
  | .nil, _ => True.intro
  | .cons n k ps, h => ⟨h.1, good_sub hσ k h.2.1, goodP_sub hσ ps h.2.2⟩
  termination_by structural ps => ps
theorem goodK_sub {σ : Str → Option Kd} (hσ : ∀ n e, σ n = some e → good e) : ∀ ks, goodK ks → goodK (subK σ ks)
  | .nil, _ => True.intro
  | .cons k ks, h => ⟨good_sub hσ k h.1, goodK_sub hσ ks h.2⟩
  termination_by structural ks => ks
end
mutual
/-- holes put in among the first i forms alone -/
def subI (σ : Str → Option Kd) (i : Nat) : Kd → Kd
  | .num a b => .num a b
  | .truth => .truth
  | .parts v ps => .parts v (subIP σ (i - 1) ps)
  | .row m k => .row m (subI σ (i - 1) k)
  | .one b k => .one b (subI σ (i - 1) k)
  | .use n fs => .use n (subIK σ (i - 1) fs)
  | .hole n => if i = 0 then .hole n else (σ n).getD (.hole n)
def subIP (σ : Str → Option Kd) (i : Nat) : Ps → Ps
  | .nil => .nil
  | .cons n k ps => .cons n (subI σ i k) (subIP σ (i - fm k) ps)
def subIK (σ : Str → Option Kd) (i : Nat) : Ks → Ks
  | .nil => .nil
  | .cons k ks => .cons (subI σ i k) (subIK σ (i - fm k) ks)
end
mutual
theorem subI_0 {σ : Str → Option Kd} : ∀ k, subI σ 0 k = k
  | .num a b => rfl
  | .truth => rfl
  | .parts v ps => by simp only [subI, Nat.zero_sub, subIP_0 ps]
  | .row m k => by simp only [subI, Nat.zero_sub, subI_0 k]
  | .one b k => by simp only [subI, Nat.zero_sub, subI_0 k]
  | .use n fs => by simp only [subI, Nat.zero_sub, subIK_0 fs]
  | .hole n => rfl
  termination_by structural k => k
theorem subIP_0 {σ : Str → Option Kd} : ∀ ps, subIP σ 0 ps = ps
  | .nil => rfl
  | .cons n k ps => by simp only [subIP, Nat.zero_sub, subI_0 k, subIP_0 ps]
  termination_by structural ps => ps
theorem subIK_0 {σ : Str → Option Kd} : ∀ ks, subIK σ 0 ks = ks
  | .nil => rfl
  | .cons k ks => by simp only [subIK, Nat.zero_sub, subI_0 k, subIK_0 ks]
  termination_by structural ks => ks
end
mutual
theorem subI_all {σ : Str → Option Kd} : ∀ k i, fm k ≤ i → subI σ i k = sub σ k
  | .num a b, _, _ => rfl
  | .truth, _, _ => rfl
  | .parts v ps, i, h => by
    simp only [fm] at h
    simp only [subI, sub, subIP_all ps (i - 1) (by omega)]
  | .row m k, i, h => by
    simp only [fm] at h
    simp only [subI, sub, subI_all k (i - 1) (by omega)]
  | .one b k, i, h => by
    simp only [fm] at h
    simp only [subI, sub, subI_all k (i - 1) (by omega)]
  | .use n fs, i, h => by
    simp only [fm] at h
    simp only [subI, sub, subIK_all fs (i - 1) (by omega)]
  | .hole n, i, h => by
    simp only [fm] at h
    simp only [subI, sub]
    rw [if_neg (by omega)]
  termination_by structural k => k
theorem subIP_all {σ : Str → Option Kd} : ∀ ps i, fmP ps ≤ i → subIP σ i ps = subP σ ps
  | .nil, _, _ => rfl
  | .cons n k ps, i, h => by
    simp only [fmP] at h
    simp only [subIP, subP, subI_all k i (by omega), subIP_all ps (i - fm k) (by omega)]
  termination_by structural ps => ps
theorem subIK_all {σ : Str → Option Kd} : ∀ ks i, fmK ks ≤ i → subIK σ i ks = subK σ ks
  | .nil, _, _ => rfl
  | .cons k ks, i, h => by
    simp only [fmK] at h
    simp only [subIK, subK, subI_all k i (by omega), subIK_all ks (i - fm k) (by omega)]
  termination_by structural ks => ks
end
/-! ### all forms in preorder, with their places -/
mutual
def pre : Kd → List (List Nat × Kd)
  | .num a b => [([], .num a b)]
  | .truth => [([], .truth)]
  | .parts v ps => ([], .parts v ps) :: preP 0 ps
  | .row m k => ([], .row m k) :: under [2] (pre k)
  | .one b k => ([], .one b k) :: under [1] (pre k)
  | .use n fs => ([], .use n fs) :: preK 0 fs
  | .hole n => [([], .hole n)]
def preP (j : Nat) : Ps → List (List Nat × Kd)
  | .nil => []
  | .cons _ k ps => under [1, j, 1] (pre k) ++ preP (j + 1) ps
def preK (j : Nat) : Ks → List (List Nat × Kd)
  | .nil => []
  | .cons k ks => under [2, j] (pre k) ++ preK (j + 1) ks
end
theorem under_len (p : List Nat) (es : List (List Nat × Kd)) : (under p es).length = es.length := by simp [under]
mutual
theorem pre_len : ∀ k, (pre k).length = fm k
  | .num a b => rfl
  | .truth => rfl
  | .parts v ps => by simp only [pre, fm, List.length_cons, preP_len ps]
  | .row m k => by simp only [pre, fm, List.length_cons, under_len, pre_len k]
  | .one b k => by simp only [pre, fm, List.length_cons, under_len, pre_len k]
  | .use n fs => by simp only [pre, fm, List.length_cons, preK_len fs]
  | .hole n => rfl
  termination_by structural k => k
theorem preP_len : ∀ ps j, (preP j ps).length = fmP ps
  | .nil, _ => rfl
  | .cons n k ps, j => by simp only [preP, fmP, List.length_append, under_len, pre_len k, preP_len ps]
  termination_by structural ps => ps
theorem preK_len : ∀ ks j, (preK j ks).length = fmK ks
  | .nil, _ => rfl
  | .cons k ks, j => by simp only [preK, fmK, List.length_append, under_len, pre_len k, preK_len ks]
  termination_by structural ks => ks
end
def innerE : Kd → List (List Nat × Kd)
  | .parts _ ps => entP 0 ps
  | .row _ k => [([2], k)]
  | .one _ k => [([1], k)]
  | .use _ fs => entK 0 fs
  | _ => []
def unE (q : List Nat × Kd) : List (List Nat × Kd) := under q.1 (pre q.2)
theorem preP_eq : ∀ ps j, preP j ps = (entP j ps).flatMap unE
  | .nil, _ => rfl
  | .cons n k ps, j => by simp only [preP, entP, List.flatMap_cons, unE, preP_eq ps (j + 1)]
theorem preK_eq : ∀ ks j, preK j ks = (entK j ks).flatMap unE
  | .nil, _ => rfl
  | .cons k ks, j => by simp only [preK, entK, List.flatMap_cons, unE, preK_eq ks (j + 1)]
theorem pre_eq : ∀ k, pre k = ([], k) :: (innerE k).flatMap unE
  | .num a b => rfl
  | .truth => rfl
  | .parts v ps => by simp only [pre, innerE, preP_eq]
  | .row m k => by simp [pre, innerE, unE]
  | .one b k => by simp [pre, innerE, unE]
  | .use n fs => by simp only [pre, innerE, preK_eq]
  | .hole n => rfl
theorem under_nil (es : List (List Nat × Kd)) : under [] es = es := by simp [under]
theorem under_under (p q : List Nat) (es : List (List Nat × Kd)) : under p (under q es) = under (p ++ q) es := by simp [under]
theorem under_flat (p : List Nat) (es : List (List Nat × Kd)) : under p (es.flatMap unE) = (under p es).flatMap unE := by
  induction es with
  | nil => rfl
  | cons e es ih =>
    have : under p (unE e ++ es.flatMap unE) = under p (unE e) ++ under p (es.flatMap unE) := by simp [under]
    rw [List.flatMap_cons, this, ih]
    show under p (under e.1 (pre e.2)) ++ _ = _
    rw [under_under]
    rfl
/-- what stands behind an entry's own: its forms in preorder -/
theorem unE_eq (q : List Nat × Kd) : unE q = q :: (under q.1 (innerE q.2)).flatMap unE := by
  obtain ⟨p, k⟩ := q
  show under p (pre k) = _
  rw [pre_eq]
  show (p ++ [], k) :: under p ((innerE k).flatMap unE) = _
  rw [under_flat, List.append_nil]
/-! ### one place more -/
theorem put_mid {A B : List PyData} {x x' e : PyData} {p : List Nat} (h : Put x p e x') : Put (.tuple (A ++ x :: B)) (A.length :: p) e (.tuple (A ++ x' :: B)) := by
  have h1 : (A ++ x :: B)[A.length]? = some x := by simp
  have := Put.step h1 h
  rw [show (A ++ x :: B).take A.length ++ [x'] ++ (A ++ x :: B).drop (A.length + 1) = A ++ x' :: B by
    rw [List.take_left, show (A ++ x :: B).drop (A.length + 1) = B by
      rw [← List.drop_drop, List.drop_left]
      rfl]
    simp] at this
  exact this
theorem under_get {p : List Nat} {es : List (List Nat × Kd)} {i : Nat} {q : List Nat} {c : Kd} (h : (under p es)[i]? = some (q, c)) : ∃ r, q = p ++ r ∧ es[i]? = some (r, c) := by
  unfold under at h
  rw [List.getElem?_map] at h
  cases e : es[i]? with
  | none => rw [e] at h; cases h
  | some z =>
    rw [e] at h
    obtain ⟨r, d⟩ := z
    cases h
    exact ⟨r, rfl, rfl⟩
/-- c is a hole that σ fills -/
def Fills (σ : Str → Option Kd) (c e : Kd) : Prop := ∃ n, c = .hole n ∧ σ n = some e
theorem not_fills {σ : Str → Option Kd} {c : Kd} (h : ∀ n, c ≠ .hole n) : ∀ e, ¬ Fills σ c e := fun e ⟨n, hn, _⟩ => h n hn
mutual
theorem step {σ : Str → Option Kd} : ∀ (k : Kd) (i : Nat) (p : List Nat) (c : Kd), (pre k)[i]? = some (p, c) →
    (∀ e, Fills σ c e → Put (toD (subI σ i k)) p (toD e) (toD (subI σ (i + 1) k))) ∧ ((∀ e, ¬ Fills σ c e) → subI σ (i + 1) k = subI σ i k)
  | .num a b, i, p, c, h => by
    cases i with
    | succ i => simp [pre] at h
    | zero =>
      simp only [pre, List.getElem?_cons_zero, Option.some.injEq, Prod.mk.injEq] at h
      obtain ⟨rfl, rfl⟩ := h
      exact ⟨fun e hf => absurd hf (not_fills (by simp) e), fun _ => rfl⟩
  | .truth, i, p, c, h => by
    cases i with
    | succ i => simp [pre] at h
    | zero =>
      simp only [pre, List.getElem?_cons_zero, Option.some.injEq, Prod.mk.injEq] at h
      obtain ⟨rfl, rfl⟩ := h
      exact ⟨fun e hf => absurd hf (not_fills (by simp) e), fun _ => rfl⟩
  | .parts v ps, i, p, c, h => by
    cases i with
    | zero =>
      simp only [pre, List.getElem?_cons_zero, Option.some.injEq, Prod.mk.injEq] at h
      obtain ⟨rfl, rfl⟩ := h
      exact ⟨fun e hf => absurd hf (not_fills (by simp) e), fun _ => rfl⟩
    | succ i =>
      simp only [pre, List.getElem?_cons_succ] at h
      obtain ⟨h1, h2⟩ := stepP ps i 0 [] p c rfl h
      refine ⟨fun e hf => ?_, fun hn => ?_⟩
      · obtain ⟨p', rfl, hp⟩ := h1 e hf
        simp only [subI, Nat.add_sub_cancel, toD]
        exact .step (i := 1) rfl hp
      · simp only [subI, Nat.add_sub_cancel, h2 hn]
  | .row m k, i, p, c, h => by
    cases i with
    | zero =>
      simp only [pre, List.getElem?_cons_zero, Option.some.injEq, Prod.mk.injEq] at h
      obtain ⟨rfl, rfl⟩ := h
      exact ⟨fun e hf => absurd hf (not_fills (by simp) e), fun _ => rfl⟩
    | succ i =>
      simp only [pre, List.getElem?_cons_succ] at h
      obtain ⟨r, rfl, h'⟩ := under_get h
      obtain ⟨h1, h2⟩ := step k i r c h'
      refine ⟨fun e hf => ?_, fun hn => ?_⟩
      · simp only [subI, Nat.add_sub_cancel, toD]
        exact .step (i := 2) rfl (h1 e hf)
      · simp only [subI, Nat.add_sub_cancel, h2 hn]
  | .one b k, i, p, c, h => by
    cases i with
    | zero =>
      simp only [pre, List.getElem?_cons_zero, Option.some.injEq, Prod.mk.injEq] at h
      obtain ⟨rfl, rfl⟩ := h
      exact ⟨fun e hf => absurd hf (not_fills (by simp) e), fun _ => rfl⟩
    | succ i =>
      simp only [pre, List.getElem?_cons_succ] at h
      obtain ⟨r, rfl, h'⟩ := under_get h
      obtain ⟨h1, h2⟩ := step k i r c h'
      refine ⟨fun e hf => ?_, fun hn => ?_⟩
      · simp only [subI, Nat.add_sub_cancel, toD]
        exact .step (i := 1) rfl (h1 e hf)
      · simp only [subI, Nat.add_sub_cancel, h2 hn]
  | .use n fs, i, p, c, h => by
    cases i with
    | zero =>
      simp only [pre, List.getElem?_cons_zero, Option.some.injEq, Prod.mk.injEq] at h
      obtain ⟨rfl, rfl⟩ := h
      exact ⟨fun e hf => absurd hf (not_fills (by simp) e), fun _ => rfl⟩
    | succ i =>
      simp only [pre, List.getElem?_cons_succ] at h
      obtain ⟨h1, h2⟩ := stepK fs i 0 [] p c rfl h
      refine ⟨fun e hf => ?_, fun hn => ?_⟩
      · obtain ⟨p', rfl, hp⟩ := h1 e hf
        simp only [subI, Nat.add_sub_cancel, toD]
        exact .step (i := 2) rfl hp
      · simp only [subI, Nat.add_sub_cancel, h2 hn]
  | .hole n, i, p, c, h => by
    cases i with
    | succ i => simp [pre] at h
    | zero =>
      simp only [pre, List.getElem?_cons_zero, Option.some.injEq, Prod.mk.injEq] at h
      obtain ⟨rfl, rfl⟩ := h
      refine ⟨fun e hf => ?_, fun hn => ?_⟩
      · obtain ⟨n', e1, e2⟩ := hf
        cases e1
        simp only [subI, if_pos, e2, Option.getD_some, Nat.zero_add, Nat.one_ne_zero, if_false]
        exact .here _ _
      · simp only [subI]
        cases e : σ n with
        | none => simp
        | some e' => exact absurd ⟨n, rfl, e⟩ (hn e')
  termination_by structural k => k
theorem stepP {σ : Str → Option Kd} : ∀ (ps : Ps) (i j : Nat) (A : List PyData) (p : List Nat) (c : Kd), A.length = j → (preP j ps)[i]? = some (p, c) →
    (∀ e, Fills σ c e → ∃ p', p = 1 :: p' ∧ Put (.tuple (A ++ psD (subIP σ i ps))) p' (toD e) (.tuple (A ++ psD (subIP σ (i + 1) ps)))) ∧ ((∀ e, ¬ Fills σ c e) → subIP σ (i + 1) ps = subIP σ i ps)
  | .nil, i, j, A, p, c, _, h => by simp [preP] at h
  | .cons n k ps, i, j, A, p, c, hA, h => by
    simp only [preP] at h
    by_cases hi : i < fm k
    · rw [List.getElem?_append_left (by rw [under_len, pre_len]; exact hi)] at h
      obtain ⟨r, rfl, h'⟩ := under_get h
      obtain ⟨h1, h2⟩ := step k i r c h'
      refine ⟨fun e hf => ⟨j :: 1 :: r, rfl, ?_⟩, fun hn => ?_⟩
      · simp only [subIP, psD, show i - fm k = 0 by omega, show i + 1 - fm k = 0 by omega]
        rw [← hA]
        exact put_mid (.step (i := 1) rfl (h1 e hf))
      · simp only [subIP, h2 hn, show i - fm k = 0 by omega, show i + 1 - fm k = 0 by omega]
    · rw [List.getElem?_append_right (by rw [under_len, pre_len]; omega), under_len, pre_len] at h
      obtain ⟨h1, h2⟩ := stepP ps (i - fm k) (j + 1) (A ++ [.tuple [.str n, toD (sub σ k)]]) p c (by rw [List.length_append, hA]; rfl) h
      have e1 : subI σ i k = sub σ k := subI_all k i (by omega)
      have e2 : subI σ (i + 1) k = sub σ k := subI_all k (i + 1) (by omega)
      have e3 : i + 1 - fm k = i - fm k + 1 := by omega
      refine ⟨fun e hf => ?_, fun hn => ?_⟩
      · obtain ⟨p', rfl, hp⟩ := h1 e hf
        refine ⟨p', rfl, ?_⟩
        simp only [subIP, psD, e1, e2, e3]
        simpa using hp
      · simp only [subIP, e1, e2, e3, h2 hn]
  termination_by structural ps => ps
theorem stepK {σ : Str → Option Kd} : ∀ (ks : Ks) (i j : Nat) (A : List PyData) (p : List Nat) (c : Kd), A.length = j → (preK j ks)[i]? = some (p, c) →
    (∀ e, Fills σ c e → ∃ p', p = 2 :: p' ∧ Put (.tuple (A ++ ksD (subIK σ i ks))) p' (toD e) (.tuple (A ++ ksD (subIK σ (i + 1) ks)))) ∧ ((∀ e, ¬ Fills σ c e) → subIK σ (i + 1) ks = subIK σ i ks)
  | .nil, i, j, A, p, c, _, h => by simp [preK] at h
  | .cons k ks, i, j, A, p, c, hA, h => by
    simp only [preK] at h
    by_cases hi : i < fm k
    · rw [List.getElem?_append_left (by rw [under_len, pre_len]; exact hi)] at h
      obtain ⟨r, rfl, h'⟩ := under_get h
      obtain ⟨h1, h2⟩ := step k i r c h'
      refine ⟨fun e hf => ⟨j :: r, rfl, ?_⟩, fun hn => ?_⟩
      · simp only [subIK, ksD, show i - fm k = 0 by omega, show i + 1 - fm k = 0 by omega]
        rw [← hA]
        exact put_mid (h1 e hf)
      · simp only [subIK, h2 hn, show i - fm k = 0 by omega, show i + 1 - fm k = 0 by omega]
    · rw [List.getElem?_append_right (by rw [under_len, pre_len]; omega), under_len, pre_len] at h
      obtain ⟨h1, h2⟩ := stepK ks (i - fm k) (j + 1) (A ++ [toD (sub σ k)]) p c (by rw [List.length_append, hA]; rfl) h
      have e1 : subI σ i k = sub σ k := subI_all k i (by omega)
      have e2 : subI σ (i + 1) k = sub σ k := subI_all k (i + 1) (by omega)
      have e3 : i + 1 - fm k = i - fm k + 1 := by omega
      refine ⟨fun e hf => ?_, fun hn => ?_⟩
      · obtain ⟨p', rfl, hp⟩ := h1 e hf
        refine ⟨p', rfl, ?_⟩
        simp only [subIK, ksD, e1, e2, e3]
        simpa using hp
      · simp only [subIK, e1, e2, e3, h2 hn]
  termination_by structural ks => ks
end
/-! ### a kind's inner kinds -/
def kidsP : Ps → List Kd
  | .nil => []
  | .cons _ k ps => k :: kidsP ps
def kidsK : Ks → List Kd
  | .nil => []
  | .cons k ks => k :: kidsK ks
def innerK : Kd → List Kd
  | .parts _ ps => kidsP ps
  | .row _ k => [k]
  | .one _ k => [k]
  | .use _ fs => kidsK fs
  | _ => []
def withP : Ps → List Kd → Ps
  | .cons n _ ps, c :: cs => .cons n c (withP ps cs)
  | _, _ => .nil
def withK : Kd → List Kd → Kd
  | .parts v ps, cs => .parts v (withP ps cs)
  | .row m _, c :: _ => .row m c
  | .one b _, c :: _ => .one b c
  | .use n _, cs => .use n (ksL cs)
  | k, _ => k
theorem withP_sub {σ : Str → Option Kd} : ∀ ps, withP ps ((kidsP ps).map (sub σ)) = subP σ ps
  | .nil => rfl
  | .cons n k ps => by simp only [kidsP, List.map_cons, withP, subP, withP_sub ps]
theorem ksL_sub {σ : Str → Option Kd} : ∀ ks, ksL ((kidsK ks).map (sub σ)) = subK σ ks
  | .nil => rfl
  | .cons k ks => by simp only [kidsK, List.map_cons, ksL, subK, ksL_sub ks]
theorem withK_sub {σ : Str → Option Kd} : ∀ k, (∀ n, k ≠ .hole n) → withK k ((innerK k).map (sub σ)) = sub σ k
  | .num _ _, _ => rfl
  | .truth, _ => rfl
  | .parts v ps, _ => by simp only [innerK, withK, sub, withP_sub]
  | .row m k, _ => rfl
  | .one b k, _ => rfl
  | .use n fs, _ => by simp only [innerK, withK, sub, ksL_sub]
  | .hole n, h => absurd rfl (h n)
theorem kidsP_ent : ∀ ps j, (entP j ps).map (·.2) = kidsP ps
  | .nil, _ => rfl
  | .cons n k ps, j => by simp only [entP, List.map_cons, kidsP, kidsP_ent ps]
theorem kidsK_ent : ∀ ks j, (entK j ks).map (·.2) = kidsK ks
  | .nil, _ => rfl
  | .cons k ks, j => by simp only [entK, List.map_cons, kidsK, kidsK_ent ks]
theorem innerE_K : ∀ k, (innerE k).map (·.2) = innerK k
  | .num _ _ => rfl
  | .truth => rfl
  | .parts v ps => kidsP_ent ps 0
  | .row m k => rfl
  | .one b k => rfl
  | .use n fs => kidsK_ent fs 0
  | .hole n => rfl
theorem kidsP_ok : ∀ ps, (kidsP ps).length = (psD ps).length ∧ ∀ c ∈ kidsP ps, dpt c ≤ dptP ps ∧ fm c ≤ fmP ps ∧ (goodP ps → good c)
  | .nil => ⟨rfl, fun _ h => nomatch h⟩
  | .cons n k ps => by
    obtain ⟨h1, h2⟩ := kidsP_ok ps
    refine ⟨by simp only [kidsP, psD, List.length_cons, h1], fun c hc => ?_⟩
    simp only [dptP, fmP]
    rcases List.mem_cons.mp hc with rfl | hc
    · exact ⟨by omega, by omega, fun g => g.2.1⟩
    · obtain ⟨a, b, d⟩ := h2 c hc
      exact ⟨by omega, by omega, fun g => d g.2.2⟩
theorem kidsK_ok : ∀ ks, (kidsK ks).length = (ksD ks).length ∧ ∀ c ∈ kidsK ks, dpt c ≤ dptK ks ∧ fm c ≤ fmK ks ∧ (goodK ks → good c)
  | .nil => ⟨rfl, fun _ h => nomatch h⟩
  | .cons k ks => by
    obtain ⟨h1, h2⟩ := kidsK_ok ks
    refine ⟨by simp only [kidsK, ksD, List.length_cons, h1], fun c hc => ?_⟩
    simp only [dptK, fmK]
    rcases List.mem_cons.mp hc with rfl | hc
    · exact ⟨by omega, by omega, fun g => g.1⟩
    · obtain ⟨a, b, d⟩ := h2 c hc
      exact ⟨by omega, by omega, fun g => d g.2⟩
theorem innerK_ok : ∀ k c, c ∈ innerK k → dpt c < dpt k ∧ fm c < fm k ∧ (good k → good c)
  | .num _ _, c, h => nomatch h
  | .truth, c, h => nomatch h
  | .parts v ps, c, h => by
    obtain ⟨a, b, d⟩ := (kidsP_ok ps).2 c h
    exact ⟨by simp only [dpt]; omega, by simp only [fm]; omega, d⟩
  | .row m k, c, h => by
    rw [List.mem_singleton.mp h]
    exact ⟨by simp only [dpt]; omega, by simp only [fm]; omega, fun g => g.2⟩
  | .one b k, c, h => by
    rw [List.mem_singleton.mp h]
    exact ⟨by simp only [dpt]; omega, by simp only [fm]; omega, fun g => g⟩
  | .use n fs, c, h => by
    obtain ⟨a, b, d⟩ := (kidsK_ok fs).2 c h
    exact ⟨by simp only [dpt]; omega, by simp only [fm]; omega, fun g => d g.2⟩
  | .hole n, c, h => nomatch h
end K2
/-! the text of a kind, and that it is one-to-one -/
namespace K2
open PySem PySem.Spec PyProof.Rows L2 K1
open TL (tl joinL)
theorem b16 {m : Int} (h : 1 ≤ m ∧ m ≤ 16) : 1 ≤ m ∧ m ≤ 64 := ⟨h.1, by omega⟩
def cW (s : String) : List Nat := tl (S s)
def dg (n : Int) : List Nat := tl (S (toString n))
mutual
def cd : Kd → List Nat
  | .num i b => cW (wN i) ++ dg b
  | .truth => cW "truth"
  | .parts v ps => cW (wP v) ++ (40 :: (joinL (cW ", ") (lsP ps) ++ [41]))
  | .row m k => cW "row" ++ (32 :: (dg m ++ (32 :: cd k)))
  | .one b k => cW (wO b) ++ (32 :: cd k)
  | .use n fs => tl n ++ (91 :: (joinL (cW ", ") (lsK fs) ++ [93]))
  | .hole n => 63 :: tl n
def lsP : Ps → List (List Nat)
  | .nil => []
  | .cons n k ps => (tl n ++ (32 :: cd k)) :: lsP ps
def lsK : Ks → List (List Nat)
  | .nil => []
  | .cons k ks => cd k :: lsK ks
end
def digit (c : Nat) : Bool := decide (48 ≤ c) && decide (c ≤ 57)
theorem dg_tab : ∀ i : Nat, i < 65 → (dg (i : Int)).all digit = true ∧ dg (i : Int) ≠ [] ∧ (dg (i : Int)).length ≤ 2 := by decide +kernel
theorem dg_inj_tab : ∀ i : Nat, i < 65 → ∀ j : Nat, j < 65 → dg (i : Int) = dg (j : Int) → i = j := by decide +kernel
theorem dg_ok {b : Int} (h : 1 ≤ b ∧ b ≤ 64) : (∀ c ∈ dg b, digit c = true) ∧ dg b ≠ [] ∧ (dg b).length ≤ 2 := by
  obtain ⟨n, rfl⟩ : ∃ n : Nat, b = (n : Int) := ⟨b.toNat, by omega⟩
  obtain ⟨h1, h2⟩ := dg_tab n (by omega)
  exact ⟨fun c hc => List.all_eq_true.mp h1 c hc, h2⟩
theorem dg_inj {a b : Int} (h : 1 ≤ a ∧ a ≤ 64) (g : 1 ≤ b ∧ b ≤ 64) (e : dg a = dg b) : a = b := by
  obtain ⟨n, rfl⟩ : ∃ n : Nat, a = (n : Int) := ⟨a.toNat, by omega⟩
  obtain ⟨m, rfl⟩ : ∃ n : Nat, b = (n : Int) := ⟨b.toNat, by omega⟩
  rw [dg_inj_tab n (by omega) m (by omega) e]
/-! ### a text is of one kind alone -/
/-- a list that doesn't begin with a p -/
def Hd (p : Nat → Bool) (x : List Nat) : Prop := ∀ c t, x = c :: t → p c = false
theorem span_eq {p : Nat → Bool} : ∀ {a b x y : List Nat}, (∀ c ∈ a, p c = true) → (∀ c ∈ b, p c = true) → Hd p x → Hd p y → a ++ x = b ++ y → a = b ∧ x = y
  | [], [], _, _, _, _, _, _, e => ⟨rfl, e⟩
  | [], b :: bs, x, y, _, hb, hx, _, e => by
    have := hx b (bs ++ y) e
    rw [hb b List.mem_cons_self] at this
    cases this
  | a :: as, [], x, y, ha, _, _, hy, e => by
    have := hy a (as ++ x) e.symm
    rw [ha a List.mem_cons_self] at this
    cases this
  | a :: as, b :: bs, x, y, ha, hb, hx, hy, e => by
    have e1 : a = b ∧ as ++ x = bs ++ y := by simpa using e
    obtain ⟨h1, h2⟩ := span_eq (fun c hc => ha c (List.mem_cons_of_mem _ hc)) (fun c hc => hb c (List.mem_cons_of_mem _ hc)) hx hy e1.2
    exact ⟨by rw [e1.1, h1], h2⟩
/-- what may stand behind a kind's text -/
def Stop (r : List Nat) : Prop := r = [] ∨ ∃ t, r = 44 :: t ∨ r = 41 :: t ∨ r = 93 :: t
theorem Stop.hd {r : List Nat} (h : Stop r) : Hd letter r ∧ Hd digit r := by
  constructor
  · intro c t e
    rcases h with h | ⟨u, h | h | h⟩ <;> (rw [h] at e; cases e <;> rfl)
  · intro c t e
    rcases h with h | ⟨u, h | h | h⟩ <;> (rw [h] at e; cases e <;> rfl)
theorem hd_cons {p : Nat → Bool} {c : Nat} {t : List Nat} (h : p c = false) : Hd p (c :: t) := fun d u e => by cases e; exact h
/-- the word at a text's head, and the rest -/
def hw : Kd → List Nat
  | .num i _ => cW (wN i)
  | .truth => cW "truth"
  | .parts v _ => cW (wP v)
  | .row _ _ => cW "row"
  | .one b _ => cW (wO b)
  | .use n _ => tl n
  | .hole _ => []
def tw : Kd → List Nat
  | .num _ b => dg b
  | .truth => []
  | .parts _ ps => 40 :: (joinL (cW ", ") (lsP ps) ++ [41])
  | .row m k => 32 :: (dg m ++ (32 :: cd k))
  | .one _ k => 32 :: cd k
  | .use _ fs => 91 :: (joinL (cW ", ") (lsK fs) ++ [93])
  | .hole n => 63 :: tl n
theorem cd_hw : ∀ k, cd k = hw k ++ tw k
  | .num i b => by simp [cd, hw, tw]
  | .truth => by simp [cd, hw, tw]
  | .parts v ps => by simp [cd, hw, tw]
  | .row m k => by simp [cd, hw, tw]
  | .one b k => by simp [cd, hw, tw]
  | .use n fs => by simp [cd, hw, tw]
  | .hole n => by simp [cd, hw, tw]
theorem word_letters (s : String) (h : (cW s).all letter = true) : ∀ c ∈ cW s, letter c = true := fun c hc => List.all_eq_true.mp h c hc
theorem hw_letters : ∀ k, good k → ∀ c ∈ hw k, letter c = true
  | .num i _, _ => by cases i <;> exact word_letters _ (by decide +kernel)
  | .truth, _ => word_letters _ (by decide +kernel)
  | .parts v _, _ => by cases v <;> exact word_letters _ (by decide +kernel)
  | .row _ _, _ => word_letters _ (by decide +kernel)
  | .one b _, _ => by cases b <;> exact word_letters _ (by decide +kernel)
  | .use n _, h => h.1.let_
  | .hole _, _ => fun c hc => by cases hc
theorem tw_hd : ∀ k, good k → ∀ r, Stop r → Hd letter (tw k ++ r)
  | .num i b, h, r, _ => fun c t e => by
    obtain ⟨h1, h2, _⟩ := dg_ok h
    have e' : dg b ++ r = c :: t := e
    cases hd : dg b with
    | nil => exact absurd hd h2
    | cons x xs =>
      rw [hd] at e'
      cases e'
      have := h1 c (by rw [hd]; exact List.mem_cons_self)
      unfold digit at this
      unfold letter
      simp at this ⊢
      omega
  | .truth, _, r, hr => hr.hd.1
  | .parts v _, _, _, _ => hd_cons rfl
  | .row _ _, _, _, _ => hd_cons rfl
  | .one b _, _, _, _ => hd_cons rfl
  | .use n _, h, _, _ => hd_cons rfl
  | .hole _, _, _, _ => hd_cons rfl
theorem sep_eq : cW ", " = [44, 32] := by decide +kernel
theorem stop_sep (t : List Nat) : Stop (cW ", " ++ t) := by rw [sep_eq]; exact .inr ⟨32 :: t, .inl rfl⟩
theorem stop41 (t : List Nat) : Stop (41 :: t) := .inr ⟨t, .inr (.inl rfl)⟩
theorem stop93 (t : List Nat) : Stop (93 :: t) := .inr ⟨t, .inr (.inr rfl)⟩
theorem wN_ne : ∀ i, cW (wN i) ≠ [] := by decide +kernel
theorem wP_ne : ∀ i, cW (wP i) ≠ [] := by decide +kernel
theorem wO_ne : ∀ i, cW (wO i) ≠ [] := by decide +kernel
/-- a kind's text begins with a letter or a question mark -/
theorem cd_head (k : Kd) (h : good k) : ∃ c t, cd k = c :: t ∧ (letter c = true ∨ c = 63) := by
  rw [cd_hw]
  cases hh : hw k with
  | cons c t => exact ⟨c, t ++ tw k, rfl, .inl (hw_letters k h c (by rw [hh]; exact List.mem_cons_self))⟩
  | nil =>
    cases k with
    | num i b => exact absurd hh (wN_ne i)
    | truth => exact absurd hh (show cW "truth" ≠ [] by decide +kernel)
    | parts v _ => exact absurd hh (wP_ne v)
    | row _ _ => exact absurd hh (show cW "row" ≠ [] by decide +kernel)
    | one b _ => exact absurd hh (wO_ne b)
    | use n _ => exact absurd hh h.1.pos
    | hole n => exact ⟨63, tl n, rfl, .inr rfl⟩
theorem wN_inj {i j : Bool} (h : cW (wN i) = cW (wN j)) : i = j := by revert i j; decide +kernel
theorem wP_inj {i j : Bool} (h : cW (wP i) = cW (wP j)) : i = j := by revert i j; decide +kernel
theorem wO_inj {i j : Bool} (h : cW (wO i) = cW (wO j)) : i = j := by revert i j; decide +kernel
theorem row_one (b : Bool) : cW "row" ≠ cW (wO b) := by revert b; decide +kernel
theorem dg_hd {b : Int} (h : 1 ≤ b ∧ b ≤ 64) (r : List Nat) : ∃ c t, dg b ++ r = c :: t ∧ digit c = true := by
  obtain ⟨h1, h2, _⟩ := dg_ok h
  cases hd : dg b with
  | nil => exact absurd hd h2
  | cons x xs => exact ⟨x, xs ++ r, rfl, h1 x (by rw [hd]; exact List.mem_cons_self)⟩
theorem stop_not {r t : List Nat} {c : Nat} (h : Stop r) (e : r = c :: t) : c = 44 ∨ c = 41 ∨ c = 93 := by
  rcases h with h | ⟨u, h | h | h⟩ <;> (rw [h] at e; cases e <;> simp)
theorem joinL_cons (s p : List Nat) (ps : List (List Nat)) : joinL s (p :: ps) = p ++ (match ps with | [] => [] | _ :: _ => s ++ joinL s ps) := by
  cases ps <;> simp [joinL]
def tag : Kd → Nat
  | .num _ _ => 0
  | .truth => 1
  | .parts _ _ => 2
  | .row _ _ => 3
  | .one _ _ => 3
  | .use _ _ => 4
  | .hole _ => 5
def tagL : List Nat → Nat
  | [] => 1
  | c :: _ => if digit c = true then 0 else if c = 40 then 2 else if c = 32 then 3 else if c = 91 then 4 else if c = 63 then 5 else 1
theorem tag_eq : ∀ k, good k → ∀ r, Stop r → tagL (tw k ++ r) = tag k
  | .num i b, g, r, _ => by
    obtain ⟨c, t, e, h⟩ := dg_hd g r
    show tagL (dg b ++ r) = 0
    rw [e]
    show (if digit c = true then 0 else _) = 0
    rw [if_pos h]
  | .truth, _, r, s => by
    show tagL r = 1
    rcases s with h | ⟨u, h | h | h⟩ <;> (rw [h]; rfl)
  | .parts _ _, _, _, _ => rfl
  | .row _ _, _, _, _ => rfl
  | .one _ _, _, _, _ => rfl
  | .use _ _, _, _, _ => rfl
  | .hole _, _, _, _ => rfl
theorem nm_head {n : Str} (h : Nm n) (x : List Nat) : ∃ c t, tl n ++ x = c :: t ∧ letter c = true := by
  cases hn : tl n with
  | nil => exact absurd hn h.pos
  | cons c t => exact ⟨c, t ++ x, rfl, h.let_ c (by rw [hn]; exact List.mem_cons_self)⟩
/-- what stands behind the first of some joined pieces -/
def more (ps : List (List Nat)) (z : List Nat) : List Nat := match ps with
  | [] => z
  | _ :: _ => cW ", " ++ (joinL (cW ", ") ps ++ z)
theorem join_more (p : List Nat) (ps : List (List Nat)) (z : List Nat) : joinL (cW ", ") (p :: ps) ++ z = p ++ more ps z := by
  cases ps <;> simp [joinL, more]
theorem more_stop (ps : List (List Nat)) {z : List Nat} (h : Stop z) : Stop (more ps z) := by
  cases ps with
  | nil => exact h
  | cons p ps => exact stop_sep _
mutual
theorem inj : ∀ (k k' : Kd) (r r' : List Nat), good k → good k' → Stop r → Stop r' → cd k ++ r = cd k' ++ r' → k = k' ∧ r = r'
  | k, k', r, r', g, g', s, s', e => by
    rw [cd_hw k, cd_hw k', List.append_assoc, List.append_assoc] at e
    obtain ⟨e1, e2⟩ := span_eq (hw_letters k g) (hw_letters k' g') (tw_hd k g r s) (tw_hd k' g' r' s') e
    have ht : tag k = tag k' := by rw [← tag_eq k g r s, ← tag_eq k' g' r' s', e2]
    match k, k' with
    | .num i b, .num j c =>
      have e3 := span_eq (dg_ok g).1 (dg_ok g').1 s.hd.2 s'.hd.2 e2
      exact ⟨by rw [wN_inj e1, dg_inj g g' e3.1], e3.2⟩
    | .truth, .truth => exact ⟨rfl, e2⟩
    | .parts v ps, .parts v' ps' =>
      have e3 : joinL (cW ", ") (lsP ps) ++ (41 :: r) = joinL (cW ", ") (lsP ps') ++ (41 :: r') := by
        have : joinL (cW ", ") (lsP ps) ++ [41] ++ r = joinL (cW ", ") (lsP ps') ++ [41] ++ r' := by simpa [tw] using e2
        simpa using this
      obtain ⟨f1, f2⟩ := injP ps ps' r r' g g' e3
      exact ⟨by rw [wP_inj e1, f1], f2⟩
    | .row m k1, .row m' k2 =>
      have e3 : dg m ++ (32 :: (cd k1 ++ r)) = dg m' ++ (32 :: (cd k2 ++ r')) := by simpa [tw] using e2
      obtain ⟨f1, f2⟩ := span_eq (dg_ok (b16 g.1)).1 (dg_ok (b16 g'.1)).1 (hd_cons rfl) (hd_cons rfl) e3
      obtain ⟨f3, f4⟩ := inj k1 k2 r r' g.2 g'.2 s s' (by simpa using f2)
      exact ⟨by rw [dg_inj (b16 g.1) (b16 g'.1) f1, f3], f4⟩
    | .one b k1, .one b' k2 =>
      obtain ⟨f3, f4⟩ := inj k1 k2 r r' g g' s s' (by simpa [tw] using e2)
      exact ⟨by rw [wO_inj e1, f3], f4⟩
    | .use n fs, .use n' fs' =>
      have e3 : joinL (cW ", ") (lsK fs) ++ (93 :: r) = joinL (cW ", ") (lsK fs') ++ (93 :: r') := by
        have : joinL (cW ", ") (lsK fs) ++ [93] ++ r = joinL (cW ", ") (lsK fs') ++ [93] ++ r' := by simpa [tw] using e2
        simpa using this
      obtain ⟨f1, f2⟩ := injK fs fs' r r' g.2 g'.2 e3
      exact ⟨by rw [TL.ext_tl e1, f1], f2⟩
    | .hole n, .hole n' =>
      have e3 : tl n ++ r = tl n' ++ r' := by simpa [tw] using e2
      obtain ⟨f1, f2⟩ := span_eq g.let_ g'.let_ s.hd.1 s'.hd.1 e3
      exact ⟨by rw [TL.ext_tl f1], f2⟩
    | .row m k1, .one b k2 => exact absurd e1 (row_one b)
    | .one b k1, .row m k2 => exact absurd e1.symm (row_one b)
    | .num _ _, .truth => exact absurd ht (by simp [tag])
    | .num _ _, .parts _ _ => exact absurd ht (by simp [tag])
    | .num _ _, .row _ _ => exact absurd ht (by simp [tag])
    | .num _ _, .one _ _ => exact absurd ht (by simp [tag])
    | .num _ _, .use _ _ => exact absurd ht (by simp [tag])
    | .num _ _, .hole _ => exact absurd ht (by simp [tag])
    | .truth, .num _ _ => exact absurd ht (by simp [tag])
    | .truth, .parts _ _ => exact absurd ht (by simp [tag])
    | .truth, .row _ _ => exact absurd ht (by simp [tag])
    | .truth, .one _ _ => exact absurd ht (by simp [tag])
    | .truth, .use _ _ => exact absurd ht (by simp [tag])
    | .truth, .hole _ => exact absurd ht (by simp [tag])
    | .parts _ _, .num _ _ => exact absurd ht (by simp [tag])
    | .parts _ _, .truth => exact absurd ht (by simp [tag])
    | .parts _ _, .row _ _ => exact absurd ht (by simp [tag])
    | .parts _ _, .one _ _ => exact absurd ht (by simp [tag])
    | .parts _ _, .use _ _ => exact absurd ht (by simp [tag])
    | .parts _ _, .hole _ => exact absurd ht (by simp [tag])
    | .row _ _, .num _ _ => exact absurd ht (by simp [tag])
    | .row _ _, .truth => exact absurd ht (by simp [tag])
    | .row _ _, .parts _ _ => exact absurd ht (by simp [tag])
    | .row _ _, .use _ _ => exact absurd ht (by simp [tag])
    | .row _ _, .hole _ => exact absurd ht (by simp [tag])
    | .one _ _, .num _ _ => exact absurd ht (by simp [tag])
    | .one _ _, .truth => exact absurd ht (by simp [tag])
    | .one _ _, .parts _ _ => exact absurd ht (by simp [tag])
    | .one _ _, .use _ _ => exact absurd ht (by simp [tag])
    | .one _ _, .hole _ => exact absurd ht (by simp [tag])
    | .use _ _, .num _ _ => exact absurd ht (by simp [tag])
    | .use _ _, .truth => exact absurd ht (by simp [tag])
    | .use _ _, .parts _ _ => exact absurd ht (by simp [tag])
    | .use _ _, .row _ _ => exact absurd ht (by simp [tag])
    | .use _ _, .one _ _ => exact absurd ht (by simp [tag])
    | .use _ _, .hole _ => exact absurd ht (by simp [tag])
    | .hole _, .num _ _ => exact absurd ht (by simp [tag])
    | .hole _, .truth => exact absurd ht (by simp [tag])
    | .hole _, .parts _ _ => exact absurd ht (by simp [tag])
    | .hole _, .row _ _ => exact absurd ht (by simp [tag])
    | .hole _, .one _ _ => exact absurd ht (by simp [tag])
    | .hole _, .use _ _ => exact absurd ht (by simp [tag])
  termination_by structural k => k
theorem injP : ∀ (ps ps' : Ps) (r r' : List Nat), goodP ps → goodP ps' → joinL (cW ", ") (lsP ps) ++ (41 :: r) = joinL (cW ", ") (lsP ps') ++ (41 :: r') → ps = ps' ∧ r = r'
  | .nil, .nil, r, r', _, _, e => ⟨rfl, by simpa [lsP, joinL] using e⟩
  | .nil, .cons n k ps, r, r', _, g, e => by
    exfalso
    simp only [lsP] at e
    rw [join_more, List.append_assoc] at e
    obtain ⟨c, t, h1, h2⟩ := nm_head g.1 ((32 :: cd k) ++ more (lsP ps) (41 :: r'))
    rw [h1] at e
    cases e
    cases h2
  | .cons n k ps, .nil, r, r', g, _, e => by
    exfalso
    simp only [lsP] at e
    rw [join_more, List.append_assoc] at e
    obtain ⟨c, t, h1, h2⟩ := nm_head g.1 ((32 :: cd k) ++ more (lsP ps) (41 :: r))
    rw [h1] at e
    cases e
    cases h2
  | .cons n k ps, .cons n' k' ps', r, r', g, g', e => by
    simp only [lsP] at e
    rw [join_more, join_more, List.append_assoc, List.append_assoc] at e
    obtain ⟨f1, f2⟩ := span_eq g.1.let_ g'.1.let_ (hd_cons rfl) (hd_cons rfl) e
    have f3 : cd k ++ more (lsP ps) (41 :: r) = cd k' ++ more (lsP ps') (41 :: r') := by simpa using f2
    obtain ⟨f4, f5⟩ := inj k k' _ _ g.2.1 g'.2.1 (more_stop _ (stop41 r)) (more_stop _ (stop41 r')) f3
    have f6 : ps = ps' ∧ r = r' := by
      match ps, ps' with
      | .nil, .nil => exact ⟨rfl, by simpa [more, lsP] using f5⟩
      | .nil, .cons _ _ _ => simp [more, lsP, sep_eq] at f5
      | .cons _ _ _, .nil => simp [more, lsP, sep_eq] at f5
      | .cons a b c, .cons a' b' c' => exact injP (.cons a b c) (.cons a' b' c') r r' g.2.2 g'.2.2 (by simpa [more, lsP, sep_eq] using f5)
    exact ⟨by rw [TL.ext_tl f1, f4, f6.1], f6.2⟩
  termination_by structural ps => ps
theorem injK : ∀ (ps ps' : Ks) (r r' : List Nat), goodK ps → goodK ps' → joinL (cW ", ") (lsK ps) ++ (93 :: r) = joinL (cW ", ") (lsK ps') ++ (93 :: r') → ps = ps' ∧ r = r'
  | .nil, .nil, r, r', _, _, e => ⟨rfl, by simpa [lsK, joinL] using e⟩
  | .nil, .cons k ps, r, r', _, g, e => by
    exfalso
    simp only [lsK] at e
    rw [join_more] at e
    obtain ⟨c, t, h1, h2⟩ := cd_head k g.1
    rw [h1] at e
    cases e
    rcases h2 with h2 | h2 <;> cases h2
  | .cons k ps, .nil, r, r', g, _, e => by
    exfalso
    simp only [lsK] at e
    rw [join_more] at e
    obtain ⟨c, t, h1, h2⟩ := cd_head k g.1
    rw [h1] at e
    cases e
    rcases h2 with h2 | h2 <;> cases h2
  | .cons k ps, .cons k' ps', r, r', g, g', e => by
    simp only [lsK] at e
    rw [join_more, join_more] at e
    obtain ⟨f4, f5⟩ := inj k k' _ _ g.1 g'.1 (more_stop _ (stop93 r)) (more_stop _ (stop93 r')) e
    have f6 : ps = ps' ∧ r = r' := by
      match ps, ps' with
      | .nil, .nil => exact ⟨rfl, by simpa [more, lsK] using f5⟩
      | .nil, .cons _ _ => simp [more, lsK, sep_eq] at f5
      | .cons _ _, .nil => simp [more, lsK, sep_eq] at f5
      | .cons a b, .cons a' b' => exact injK (.cons a b) (.cons a' b') r r' g.2 g'.2 (by simpa [more, lsK, sep_eq] using f5)
    exact ⟨by rw [f4, f6.1], f6.2⟩
  termination_by structural ps => ps
end
theorem cd_inj {k k' : Kd} (g : good k) (g' : good k') (e : cd k = cd k') : k = k' := (inj k k' [] [] g g' (.inl rfl) (.inl rfl) (by rw [e])).1
theorem okT : PyData.strOk (S "truth") = true ∧ (S "truth").length ≤ 8 := by decide +kernel
def sumL : List (List Nat) → Nat
  | [] => 0
  | p :: ps => p.length + 2 + sumL ps
theorem joinL_len : ∀ ps, (joinL (cW ", ") ps).length ≤ sumL ps
  | [] => by simp [joinL]
  | [p] => by simp [joinL, sumL]
  | p :: q :: r => by
    have ih := joinL_len (q :: r)
    simp only [joinL, List.length_append, sumL, sep_eq, List.length_cons, List.length_nil] at ih ⊢
    omega
theorem lN : ∀ i, (cW (wN i)).length ≤ 8 := by decide +kernel
theorem lP : ∀ i, (cW (wP i)).length ≤ 8 := by decide +kernel
theorem lO : ∀ i, (cW (wO i)).length ≤ 8 := by decide +kernel
theorem lT : (cW "truth").length ≤ 8 ∧ (cW "row").length ≤ 8 := by decide +kernel
mutual
theorem cd_len : ∀ k, good k → (cd k).length + 20 ≤ 40 * fm k
  | .num i b, g => by
    have h1 := lN i
    have h2 := (dg_ok g).2.2
    simp only [cd, List.length_append, fm]; omega
  | .truth, _ => by
    have := lT.1
    simp only [cd, fm]; omega
  | .parts v ps, g => by
    have h1 := lP v
    have h2 := joinL_len (lsP ps)
    have h3 := cd_lenP ps g
    simp only [cd, List.length_append, List.length_cons, List.length_nil, fm]; omega
  | .row m k, g => by
    have h1 := lT.2
    have h2 := (dg_ok (b16 g.1)).2.2
    have h3 := cd_len k g.2
    simp only [cd, List.length_append, List.length_cons, fm]; omega
  | .one b k, g => by
    have h1 := lO b
    have h3 := cd_len k g
    simp only [cd, List.length_append, List.length_cons, fm]; omega
  | .use n fs, g => by
    have h1 := g.1.most
    have h2 := joinL_len (lsK fs)
    have h3 := cd_lenK fs g.2
    simp only [cd, List.length_append, List.length_cons, List.length_nil, fm]; omega
  | .hole n, g => by
    have h1 := g.most
    simp only [cd, List.length_cons, fm]; omega
  termination_by structural k => k
theorem cd_lenP : ∀ ps, goodP ps → sumL (lsP ps) ≤ 40 * fmP ps
  | .nil, _ => by simp [lsP, sumL]
  | .cons n k ps, g => by
    have h1 := g.1.most
    have h2 := cd_len k g.2.1
    have h3 := cd_lenP ps g.2.2
    simp only [lsP, sumL, List.length_append, List.length_cons, fmP]; omega
  termination_by structural ps => ps
theorem cd_lenK : ∀ ks, goodK ks → sumL (lsK ks) ≤ 40 * fmK ks
  | .nil, _ => by simp [lsK, sumL]
  | .cons k ks, g => by
    have h2 := cd_len k g.1
    have h3 := cd_lenK ks g.2
    simp only [lsK, sumL, fmK]; omega
  termination_by structural ks => ks
end
theorem tl_emp : tl Str.empty = [] := by decide +kernel
theorem small_num {b : Int} (h : 1 ≤ b ∧ b ≤ 64) : b.natAbs.log2 < 1920 := by
  have : b.natAbs < 2 ^ 7 := by omega
  exact Nat.lt_trans (PySem.Flt.log2_lt_of (by decide) this) (by decide)
theorem tl_num (b : Int) : tl (toString b : Str) = dg b := rfl
theorem lsP_get {K : PySem.W.Frag} {H : Hp} : ∀ {ps : Ps} {ws : List V} {i : Nat} {x : V}, DpAll K H ws (psD ps) → goodP ps → ws[i]? = some x → ∃ t u n k, x = .ref t ∧ SqT K H t [.str n, u] ∧ Dp K H u (toD k) ∧ Nm n ∧ good k ∧ dpt k ≤ dptP ps ∧ fm k ≤ fmP ps ∧ (lsP ps)[i]? = some (tl n ++ (32 :: cd k))
  | .nil, ws, i, x, h, _, e => by
    cases h
    simp at e
  | .cons n k ps, ws, i, x, h, g, e => by
    cases h with
    | cons h1 h2 =>
      cases i with
      | zero =>
        simp at e
        subst e
        obtain ⟨a, us, rfl, hs, ha⟩ := dTup h1
        obtain ⟨u1, u2, rfl, e1, e2⟩ := all2 ha
        have := dStr e1
        subst this
        exact ⟨a, u2, n, k, rfl, hs, e2, g.1, g.2.1, by simp only [dptP]; omega, by simp only [fmP]; omega, rfl⟩
      | succ i =>
        obtain ⟨t, u, n', k', r1, r2, r3, r4, r5, r6, r7, r8⟩ := lsP_get (i := i) h2 g.2.2 (by simpa using e)
        exact ⟨t, u, n', k', r1, r2, r3, r4, r5, by simp only [dptP]; omega, by simp only [fmP]; omega, by simpa [lsP] using r8⟩
theorem lsK_get {K : PySem.W.Frag} {H : Hp} : ∀ {ks : Ks} {ws : List V} {i : Nat} {x : V}, DpAll K H ws (ksD ks) → goodK ks → ws[i]? = some x → ∃ k, Dp K H x (toD k) ∧ good k ∧ dpt k ≤ dptK ks ∧ fm k ≤ fmK ks ∧ (lsK ks)[i]? = some (cd k)
  | .nil, ws, i, x, h, _, e => by
    cases h
    simp at e
  | .cons k ks, ws, i, x, h, g, e => by
    cases h with
    | cons h1 h2 =>
      cases i with
      | zero =>
        simp at e
        subst e
        exact ⟨k, h1, g.1, by simp only [dptK]; omega, by simp only [fmK]; omega, rfl⟩
      | succ i =>
        obtain ⟨k', r1, r2, r3, r4, r5⟩ := lsK_get (i := i) h2 g.2 (by simpa using e)
        exact ⟨k', r1, r2, by simp only [dptK]; omega, by simp only [fmK]; omega, by simpa [lsK] using r5⟩
theorem psD_len : ∀ ps, (psD ps).length = (lsP ps).length
  | .nil => rfl
  | .cons _ _ ps => by simp [psD, lsP, psD_len ps]
theorem ksD_len : ∀ ks, (ksD ks).length = (lsK ks).length
  | .nil => rfl
  | .cons _ ks => by simp [ksD, lsK, ksD_len ks]
theorem sumL_mem : ∀ {ps : List (List Nat)} {p : List Nat}, p ∈ ps → p.length ≤ sumL ps
  | q :: ps, p, h => by
    simp only [sumL]
    rcases List.mem_cons.mp h with rfl | h
    · omega
    · have := sumL_mem h
      omega
theorem sumL_len : ∀ ps : List (List Nat), ps.length ≤ sumL ps
  | [] => Nat.le_refl _
  | p :: ps => by
    have := sumL_len ps
    simp only [sumL, List.length_cons]
    omega
/-- texts that have given codes -/
def TxA (ys : List Str) (cs : List (List Nat)) : Prop := ys.map tl = cs
theorem txA_join {ys : List Str} {cs : List (List Nat)} (h : TxA ys cs) : tl (Txt.join (Str.ofString ", ") ys) = joinL (cW ", ") cs := by
  rw [TL.join_eq, TL.tl_join, h]
  rfl
theorem txA_sum : ∀ {ys : List Str} {cs : List (List Nat)}, TxA ys cs → (ys.map (·.length)).sum + ys.length * 2 ≤ sumL cs
  | [], cs, h => by
    unfold TxA at h
    subst h
    simp [sumL]
  | y :: ys, cs, h => by
    unfold TxA at h
    subst h
    have ih := txA_sum (ys := ys) (cs := ys.map tl) rfl
    simp only [List.map_cons, List.sum_cons, List.length_cons, sumL, TL.len_tl y] at ih ⊢
    omega
end K2
/-! list(zip(t, u)) of two tuples, as a rule of the hand layer -/
namespace ZL
open PySem PySem.Spec PyProof.Rows L2 RZ
section
variable {prog : Program} {w : World} {A : Around} {E : Value → Shared → Prop} {s : Shared}
/-- a draw while an earlier pair is still out -/
theorem draw_out {z TI TO T i1 i2 l1 l2 : Addr} {f : Bool} {oT : Obj} {k1 k2 : Nat} {xs ys : Array Value} {x y : Value} {Q : Value → Shared → Prop}
    (D : ZipApart z TI TO i1 i2 l1 l2) (zz : IsZipHeld s.heap z TI TO T f) (ot : s.heap.get? T = some oT) (ti : IsPair s.heap TI (.ref i1) (.ref i2))
    (u1 : s.heap.IsTupleIter i1 l1 k1) (u2 : s.heap.IsTupleIter i2 l2 k2) (t1 : s.heap.IsTuple l1 xs) (t2 : s.heap.IsTuple l2 ys) (gx : xs[k1]? = some x) (gy : ys[k2]? = some y)
    (q : ∀ g, IsZipHeld g z TI TO T true → g.IsTupleIter i1 l1 (k1 + 1) → g.IsTupleIter i2 l2 (k2 + 1) → IsPair g s.heap.objs.size x y → g.objs.size = s.heap.objs.size + 1 →
      (∀ c o, c ≠ z → c ≠ i1 → c ≠ i2 → s.heap.get? c = some o → g.get? c = some o) → Q (.ref s.heap.objs.size) { s with heap := g }) :
    wpAny (model prog w) A (Builtin.«zip.__next__» ⟨[.ref z], []⟩) (fun fin s' => ∃ v, fin = .done (.ret v) ∧ Q v s') E s := by
  show wpAny _ _ (field (.ref z) 2 >>= _) _ _ _
  refine wpAny_bind (wpAny_field zz rfl (x := .bool false) rfl ?_)
  show wpAny _ _ (field (.ref z) 3 >>= _) _ _ _
  refine wpAny_bind (wpAny_field zz rfl (x := .ref TI) rfl ?_)
  refine wpAny_bind (wpAny_seqItems ti rfl ?_)
  show wpAny _ _ (Builtin.SmallTypes.ownedTupleIsFree (.ref z) >>= _) _ _ _
  refine wpAny_bind (wpAny_tupleHeld_zip zz ot fun g1 zz1 e1 => ?_)
  simp only [Bool.false_eq_true, if_false]
  refine wpAny_bind ?_
  rw [← Array.forIn_toList]
  simp only [List.forIn_cons, List.forIn_nil]
  refine wpAny_bind (wpAny_bind (wpAny_holding ?_))
  show wpAny _ _ (Builtin.SmallTypes.nextOf (.ref i1) >>= _) _ _ _
  refine wpAny_bind (nextOf_tuple_item (s := { s with heap := g1 }) (u1.extBut e1.extBut D.i1z) (t1.extBut e1.extBut D.l1z) gx fun g2 u12 e2 => wpAny_pure ?_)
  refine wpAny_pure ?_
  refine wpAny_bind (wpAny_bind (wpAny_holding ?_))
  show wpAny _ _ (Builtin.SmallTypes.nextOf (.ref i2) >>= _) _ _ _
  refine wpAny_bind (nextOf_tuple_item (s := { s with heap := g2 }) ((u2.extBut e1.extBut D.i2z).extBut e2.extBut D.i12.symm) ((t2.extBut e1.extBut D.l2z).extBut e2.extBut D.l2i1) gy fun g3 u23 e3 => wpAny_pure ?_)
  refine wpAny_pure (wpAny_pure ?_)
  show wpAny _ _ (newTuple [x, y] >>= _) _ _ _
  refine wpAny_bind (wpAny_newTuple ?_)
  have es : g3.objs.size = s.heap.objs.size := by rw [e3.1, e2.1, e1.1]
  have zz3 : IsZipHeld g3 z TI TO T true := e3.extBut _ _ D.i2z.symm (e2.extBut _ _ D.i1z.symm zz1)
  have kk : ∀ c o, c ≠ z → c ≠ i1 → c ≠ i2 → s.heap.get? c = some o → g3.get? c = some o := fun c o c1 c2 c3 e => e3.extBut _ _ c3 (e2.extBut _ _ c2 (e1.extBut _ _ c1 e))
  have u13 : g3.IsTupleIter i1 l1 (k1 + 1) := u12.extBut e3.extBut D.i12
  refine wpAny_pure ⟨_, rfl, ?_⟩
  show Q (.ref g3.objs.size) _
  have pp : IsPair (g3.push { cls := .type "tuple", data := .seq #[x, y] }) g3.objs.size x y := Heap.get?_push_size _ rfl
  have ps : (g3.push { cls := .type "tuple", data := .seq #[x, y] }).objs.size = g3.objs.size + 1 := Heap.size_push ..
  rw [es] at pp ps ⊢
  exact q _ (Heap.get?_push_of_some _ zz3) (u13.at fun o e => Heap.get?_push_of_some _ e) (u23.at fun o e => Heap.get?_push_of_some _ e) pp ps fun c o c1 c2 c3 e => Heap.get?_push_of_some _ (kk c o c1 c2 c3 e)

theorem stop_out {z TI TO T i1 i2 l1 l2 : Addr} {f : Bool} {oT : Obj} {k1 k2 : Nat} {xs ys : Array Value} {Q : Fin → Shared → Prop} (hh : A.handled = none)
    (D : ZipApart z TI TO i1 i2 l1 l2) (zz : IsZipHeld s.heap z TI TO T f) (ot : s.heap.get? T = some oT) (ti : IsPair s.heap TI (.ref i1) (.ref i2))
    (u1 : s.heap.IsTupleIter i1 l1 k1) (u2 : s.heap.IsTupleIter i2 l2 k2) (t1 : s.heap.IsTuple l1 xs) (t2 : s.heap.IsTuple l2 ys) (he : xs[k1]? = none ∨ ys[k2]? = none)
    (q : ∀ g e, (∀ c o, c ≠ z → c ≠ i1 → c ≠ i2 → s.heap.get? c = some o → g.get? c = some o) → (∃ o, g.get? e = some o ∧ o.cls = .type "StopIteration") → E (.ref e) { s with heap := g }) :
    wpAny (model prog w) A (Builtin.«zip.__next__» ⟨[.ref z], []⟩) Q E s := by
  show wpAny _ _ (field (.ref z) 2 >>= _) _ _ _
  refine wpAny_bind (wpAny_field zz rfl (x := .bool false) rfl ?_)
  show wpAny _ _ (field (.ref z) 3 >>= _) _ _ _
  refine wpAny_bind (wpAny_field zz rfl (x := .ref TI) rfl ?_)
  refine wpAny_bind (wpAny_seqItems ti rfl ?_)
  show wpAny _ _ (Builtin.SmallTypes.ownedTupleIsFree (.ref z) >>= _) _ _ _
  refine wpAny_bind (wpAny_tupleHeld_zip zz ot fun g1 zz1 e1 => ?_)
  simp only [Bool.false_eq_true, if_false]
  refine wpAny_bind ?_
  rw [← Array.forIn_toList]
  simp only [List.forIn_cons, List.forIn_nil]
  refine wpAny_bind (wpAny_bind (wpAny_holding ?_))
  show wpAny _ _ (Builtin.SmallTypes.nextOf (.ref i1) >>= _) _ _ _
  cases gx : xs[k1]? with
  | none =>
    refine wpAny_bind (nextOf_tuple_end (s := { s with heap := g1 }) hh (u1.extBut e1.extBut D.i1z) (t1.extBut e1.extBut D.l1z) gx fun g2 e e2 se => ?_)
    exact q g2 e (fun c o c1 c2 _ x => e2 _ _ c2 (e1.extBut _ _ c1 x)) se
  | some x =>
    have gy : ys[k2]? = none := by
      rcases he with h | h
      · rw [gx] at h; cases h
      · exact h
    refine wpAny_bind (nextOf_tuple_item (s := { s with heap := g1 }) (u1.extBut e1.extBut D.i1z) (t1.extBut e1.extBut D.l1z) gx fun g2 u12 e2 => wpAny_pure ?_)
    refine wpAny_pure ?_
    refine wpAny_bind (wpAny_bind (wpAny_holding ?_))
    show wpAny _ _ (Builtin.SmallTypes.nextOf (.ref i2) >>= _) _ _ _
    refine wpAny_bind (nextOf_tuple_end (s := { s with heap := g2 }) hh ((u2.extBut e1.extBut D.i2z).extBut e2.extBut D.i12.symm) ((t2.extBut e1.extBut D.l2z).extBut e2.extBut D.l2i1) gy fun g3 e e3 se => ?_)
    exact q g3 e (fun c o c1 c2 c3 x => e3 _ _ c3 (e2.extBut _ _ c2 (e1.extBut _ _ c1 x))) se

/-- how the zip stands behind i draws, what it gave out being kept by someone -/
def Zs (h : Heap) (z TI TO i1 i2 l1 l2 S : Addr) (i : Nat) : Prop :=
  IsPair h TI (.ref i1) (.ref i2) ∧ h.IsTupleIter i1 l1 i ∧ h.IsTupleIter i2 l2 i ∧
  ((i = 0 ∧ IsZip h z TI TO .none ∧ ∃ a b, IsPair h TO a b) ∨ ∃ T f oT, IsZipHeld h z TI TO T f ∧ h.get? T = some oT ∧ T ≠ S ∧ T ≠ z ∧ T ≠ i1 ∧ T ≠ i2)
/-- everything the zip may touch -/
def Own (z TO i1 i2 c : Addr) : Prop := c = z ∨ c = TO ∨ c = i1 ∨ c = i2
theorem Zs.keep {h h' : Heap} {z TI TO i1 i2 l1 l2 S : Addr} {i : Nat} (x : Zs h z TI TO i1 i2 l1 l2 S i) (k : ∀ b o, b ≠ S → h.get? b = some o → h'.get? b = some o) (n1 : TI ≠ S) (n2 : i1 ≠ S) (n3 : i2 ≠ S) (n4 : z ≠ S) (n5 : TO ≠ S) : Zs h' z TI TO i1 i2 l1 l2 S i := by
  obtain ⟨a, b, c, d⟩ := x
  refine ⟨k _ _ n1 a, b.at fun o e => k _ o n2 e, c.at fun o e => k _ o n3 e, ?_⟩
  rcases d with ⟨e, d, p, q, d2⟩ | ⟨T, f, oT, d1, d2, d3, d4⟩
  · exact .inl ⟨e, k _ _ n4 d, p, q, k _ _ n5 d2⟩
  · exact .inr ⟨T, f, oT, k _ _ n4 d1, k _ _ d3 d2, d3, d4⟩
theorem next_item {z TI TO i1 i2 l1 l2 S : Addr} {i : Nat} {xs ys : Array Value} {x y : Value} {Q : Option Value → Shared → Prop} (D : ZipApart z TI TO i1 i2 l1 l2) (st : Zs s.heap z TI TO i1 i2 l1 l2 S i)
    (hS : S < s.heap.objs.size) (t1 : s.heap.IsTuple l1 xs) (t2 : s.heap.IsTuple l2 ys) (gx : xs[i]? = some x) (gy : ys[i]? = some y)
    (q : ∀ g, Zs g z TI TO i1 i2 l1 l2 S (i + 1) → IsPair g s.heap.objs.size x y → g.objs.size = s.heap.objs.size + 1 →
      (∀ c o, ¬ Own z TO i1 i2 c → s.heap.get? c = some o → g.get? c = some o) → Q (some (.ref s.heap.objs.size)) { s with heap := g }) : wpAny (model prog w) A (pyNext (.ref z)) Q E s := by
  obtain ⟨ti, u1, u2, d⟩ := st
  have zl : z < s.heap.objs.size := by
    rcases d with ⟨_, d, _⟩ | ⟨_, _, _, d, _⟩
    · exact Heap.lt_size d
    · exact Heap.lt_size d
  have l1' : i1 < s.heap.objs.size := by obtain ⟨_, e, _⟩ := u1; exact Heap.lt_size e
  have l2' : i2 < s.heap.objs.size := by obtain ⟨_, e, _⟩ := u2; exact Heap.lt_size e
  rcases d with ⟨e0, d, p, r, d2⟩ | ⟨T, f, oT, d1, d2, d3, d4, d5, d6⟩
  · subst e0
    refine pyNext_zipT_item D d ti d2 u1 u2 t1 t2 gx gy fun g a1 a2 a3 a4 a5 a6 a7 => q g ⟨?_, a3, a4, .inr ⟨_, false, _, a1, a5, Nat.ne_of_gt hS, Nat.ne_of_gt zl, Nat.ne_of_gt l1', Nat.ne_of_gt l2'⟩⟩ a5 a6 fun c o n e => ?_
    · exact a7 _ _ D.TIz D.TITO D.TIi1 D.TIi2 ti
    · exact a7 c o (fun z => n (.inl z)) (fun z => n (.inr (.inl z))) (fun z => n (.inr (.inr (.inl z)))) (fun z => n (.inr (.inr (.inr z)))) e
  · have hT : s.TypeIs (.ref z) "zip" := ⟨_, d1, rfl⟩
    unfold pyNext
    refine wpAny_bind (wpAny_attempt (wpAny_callSpecial?_slot (name := Str.ofString "__next__") hT F.slot_zip_next (wpAny_call_entry F.slot_zip_next hT F.entry_zip_next
      (draw_out D d1 d2 ti u1 u2 t1 t2 gx gy fun g a1 a3 a4 a5 a6 a7 => wpAny_pure (q g ⟨?_, a3, a4, .inr ⟨T, true, oT, a1, a7 _ _ d4 d5 d6 d2, d3, d4, d5, d6⟩⟩ a5 a6 fun c o n e => ?_)) (F.args_zip_next_1 _))))
    · exact a7 _ _ D.TIz D.TIi1 D.TIi2 ti
    · exact a7 c o (fun z => n (.inl z)) (fun z => n (.inr (.inr (.inl z)))) (fun z => n (.inr (.inr (.inr z)))) e
theorem next_stop {z TI TO i1 i2 l1 l2 S : Addr} {i : Nat} {xs ys : Array Value} {Q : Option Value → Shared → Prop} (hh : A.handled = none) (D : ZipApart z TI TO i1 i2 l1 l2) (st : Zs s.heap z TI TO i1 i2 l1 l2 S i)
    (t1 : s.heap.IsTuple l1 xs) (t2 : s.heap.IsTuple l2 ys) (he : xs[i]? = none ∨ ys[i]? = none)
    (q : ∀ g, (∀ c o, ¬ Own z TO i1 i2 c → s.heap.get? c = some o → g.get? c = some o) → Q none { s with heap := g }) : wpAny (model prog w) A (pyNext (.ref z)) Q E s := by
  obtain ⟨ti, u1, u2, d⟩ := st
  rcases d with ⟨e0, d, p, r, d2⟩ | ⟨T, f, oT, d1, d2, d3, d4, d5, d6⟩
  · subst e0
    exact pyNext_zipT_end hh D d ti d2 u1 u2 t1 t2 he fun g k => q g fun c o n e => k c o (fun z => n (.inl z)) (fun z => n (.inr (.inl z))) (fun z => n (.inr (.inr (.inl z)))) (fun z => n (.inr (.inr (.inr z)))) e
  · have hT : s.TypeIs (.ref z) "zip" := ⟨_, d1, rfl⟩
    unfold pyNext
    refine wpAny_bind (wpAny_attempt (wpAny_callSpecial?_slot (name := Str.ofString "__next__") hT F.slot_zip_next (wpAny_call_entry F.slot_zip_next hT F.entry_zip_next
      (stop_out hh D d1 d2 ti u1 u2 t1 t2 he fun g e k se => ?_) (F.args_zip_next_1 _))))
    obtain ⟨o, ho, hc⟩ := se
    refine wpAny_bind (wpAny_isInstance (T := "StopIteration") (b := true) ⟨o, ho, hc⟩ isSubtype_stop ?_)
    exact wpAny_pure (q _ fun c o n e => k c o (fun z => n (.inl z)) (fun z => n (.inr (.inr (.inl z)))) (fun z => n (.inr (.inr (.inr z)))) e)
end
/-- the pairs that were given out -/
structure Out (xs ys : Array Value) (lo : Addr) (h : Heap) (as : List Addr) : Prop where
  rise : as.Pairwise (· < ·)
  above : ∀ a ∈ as, lo ≤ a
  pair : ∀ (j : Nat) (a : Addr), as[j]? = some a → ∃ x y, xs[j]? = some x ∧ ys[j]? = some y ∧ IsPair h a x y
theorem Out.there {xs ys : Array Value} {lo : Addr} {h : Heap} {as : List Addr} (g : Out xs ys lo h as) {a : Addr} (ha : a ∈ as) : a < h.objs.size := by
  obtain ⟨j, hj⟩ := List.mem_iff_getElem?.mp ha
  obtain ⟨_, _, _, _, e⟩ := g.pair j a hj
  exact Heap.lt_size e
section
variable {prog : Program} {w : World} {A : Around} {s : Shared} {R : Result → Shared → Prop} {xs ys : Array Value}
/-- list.extend's own loop over the zip -/
theorem loop {S z TI TO i1 i2 l1 l2 : Addr} (hh : A.handled = none) (D : ZipApart z TI TO i1 i2 l1 l2) (eL : xs.size = ys.size) (hn : xs.size ≤ sizeLine) (res : Value) {h1 : Heap} {lo : Addr}
    (nS : S ≠ TI ∧ S ≠ i1 ∧ S ≠ i2 ∧ S ≠ z ∧ S ≠ TO ∧ S ≠ l1 ∧ S ≠ l2) (hlo : z < lo ∧ TO < lo ∧ i1 < lo ∧ i2 < lo ∧ S < lo)
    (hR : ∀ h' tk acc c as, (∀ b o, b ≠ S → ¬ Own z TO i1 i2 b → h1.get? b = some o → h'.get? b = some o) → h'.get? S = some { cls := .type "list", dict := none, data := .seq acc c, slots := #[] } → as.length = xs.size → Out xs ys lo h' as →
      acc.toList = as.map Value.ref → R (.ok (.ret res)) { s with heap := h', toks := tk }) :
    ∀ (k i : Nat) (h : Heap) (tk c : Nat) (acc : Array Value) (as : List Addr), xs.size - i = k → i ≤ xs.size → Zs h z TI TO i1 i2 l1 l2 S i → h.IsTuple l1 xs → h.IsTuple l2 ys → (∀ b o, b ≠ S → ¬ Own z TO i1 i2 b → h1.get? b = some o → h.get? b = some o) →
      h.get? S = some { cls := .type "list", dict := none, data := .seq acc c, slots := #[] } → acc.toList = as.map Value.ref → as.length = i → Out xs ys lo h as → lo ≤ h.objs.size →
      codeAny (model prog w) A (.builtin "list.extend.loop" ⟨[.ref S, .ref z, res], []⟩) R { s with heap := h, toks := tk } := by
  obtain ⟨n1, n2, n3, n4, n5, n6, n7⟩ := nS
  obtain ⟨o1, o2, o3, o4, o5⟩ := hlo
  have nOwn : ∀ c, lo ≤ c → ¬ Own z TO i1 i2 c := fun c hc e => by
    rcases e with e | e | e | e
    · rw [e] at hc; exact Nat.lt_irrefl _ (Nat.lt_of_lt_of_le o1 hc)
    · rw [e] at hc; exact Nat.lt_irrefl _ (Nat.lt_of_lt_of_le o2 hc)
    · rw [e] at hc; exact Nat.lt_irrefl _ (Nat.lt_of_lt_of_le o3 hc)
    · rw [e] at hc; exact Nat.lt_irrefl _ (Nat.lt_of_lt_of_le o4 hc)
  have sOwn : ¬ Own z TO i1 i2 S := fun e => by
    rcases e with e | e | e | e
    · exact n4 e
    · exact n5 e
    · exact n2 e
    · exact n3 e
  have t1Own : ¬ Own z TO i1 i2 l1 := fun e => by
    rcases e with e | e | e | e
    · exact D.l1z e
    · exact D.l1TO e
    · exact D.l1i1 e
    · exact D.l1i2 e
  have t2Own : ¬ Own z TO i1 i2 l2 := fun e => by
    rcases e with e | e | e | e
    · exact D.l2z e
    · exact D.l2TO e
    · exact D.l2i1 e
    · exact D.l2i2 e
  intro k
  induction k with
  | zero =>
    intro i h tk c acc as hk hi st t1 t2 kp hS ha hl G hz
    have ei : i = xs.size := by omega
    refine codeAny_builtin PySem.F.entry_extend_loop ?_
    rw [Around.under_plainId PySem.F.plain_extend_loop _]
    show wpAny _ A.in1 (pyNext (.ref z) >>= _) _ _ _
    refine wpAny_bind (next_stop (s := { s with heap := h, toks := tk }) (A := A.in1) hh D st t1 t2 (.inl (by rw [Array.getElem?_eq_none]; omega)) fun g e => ?_)
    refine wpAny_pure (hR g tk acc c as (fun b o q1 q2 x => e b o q2 (kp b o q1 q2 x)) (e S _ sOwn hS) (by omega) ⟨G.rise, G.above, fun j a hj => ?_⟩ ha)
    obtain ⟨x, y, f1, f2, f3⟩ := G.pair j a hj
    exact ⟨x, y, f1, f2, e a _ (nOwn a (G.above a (List.mem_of_getElem? hj))) f3⟩
  | succ k ih =>
    intro i h tk c acc as hk hi st t1 t2 kp hS ha hl G hz
    have hx : i < xs.size := by omega
    have hy : i < ys.size := by omega
    have sz : acc.size = i := by rw [← Array.length_toList, ha, List.length_map, hl]
    refine codeAny_builtin PySem.F.entry_extend_loop ?_
    rw [Around.under_plainId PySem.F.plain_extend_loop _]
    show wpAny _ A.in1 (pyNext (.ref z) >>= _) _ _ _
    refine wpAny_bind (next_item (s := { s with heap := h, toks := tk }) (S := S) D st (Heap.lt_size hS) t1 t2 (Array.getElem?_eq_getElem hx) (Array.getElem?_eq_getElem hy) fun g st' pr es kk => ?_)
    dsimp only at pr es kk ⊢
    have hS' := kk S _ sOwn hS
    have up : ∀ b o, b ≠ S → g.get? b = some o → (g.update S (Obj.mapSeq (·.push (Value.ref h.objs.size)))).get? b = some o := fun b o hb e => (Heap.get?_update_other _ _ (Ne.symm hb)).trans e
    have sl : S < h.objs.size := Heap.lt_size hS
    show wpAny _ A.in1 (updateSeq S (·.push (Value.ref h.objs.size)) >>= _) _ _ _
    refine wpAny_bind ?_
    refine wpAny_updateSeq hS' rfl (wpAny_pure ⟨plainId_quiet PySem.F.plain_extend_loop _, ih (i + 1) _ tk _ (acc.push (Value.ref h.objs.size)) (as ++ [h.objs.size]) (by omega) hx (st'.keep up n1.symm n2.symm n3.symm n4.symm n5.symm)
      ?a ?b (fun b o q1 q2 e => up b o q1 (kk b o q2 (kp b o q1 q2 e))) (Heap.get?_update_self _ hS' rfl) (by rw [Array.toList_push, ha, List.map_append]; rfl) (by rw [List.length_append, hl]; rfl) ⟨?_, ?_, ?_⟩ ?_⟩) (by rw [sz]; omega) (by show (acc.push (Value.ref h.objs.size)).size ≤ sizeLine + 1; rw [Array.size_push, sz]; omega)
    case a => obtain ⟨o, e, r⟩ := t1; exact ⟨o, up _ _ n6.symm (kk _ _ t1Own e), r⟩
    case b => obtain ⟨o, e, r⟩ := t2; exact ⟨o, up _ _ n7.symm (kk _ _ t2Own e), r⟩
    · refine List.pairwise_append.mpr ⟨G.rise, List.pairwise_singleton _ _, fun a h1 b hb => ?_⟩
      rw [List.mem_singleton.mp hb]
      exact G.there h1
    · intro a h1
      rcases List.mem_append.mp h1 with h1 | h1
      · exact G.above a h1
      · rw [List.mem_singleton.mp h1]; exact hz
    · intro j b hj
      rcases Nat.lt_trichotomy j as.length with q1 | q1 | q1
      · rw [List.getElem?_append_left q1] at hj
        obtain ⟨x', y', f1, f2, f3⟩ := G.pair j b hj
        have hb := G.above b (List.mem_of_getElem? hj)
        exact ⟨x', y', f1, f2, up b _ (fun e => by rw [e] at hb; exact Nat.lt_irrefl _ (Nat.lt_of_lt_of_le o5 hb)) (kk b _ (nOwn b hb) f3)⟩
      · subst q1
        have hb : h.objs.size = b := by simpa using hj
        subst hb
        exact ⟨_, _, by rw [hl]; exact Array.getElem?_eq_getElem hx, by rw [hl]; exact Array.getElem?_eq_getElem hy, up _ _ (Nat.ne_of_gt sl) pr⟩
      · have no : (as ++ [h.objs.size])[j]? = none := List.getElem?_eq_none (by rw [List.length_append, List.length_singleton]; omega)
        rw [no] at hj; cases hj
    · have e : (g.update S (Obj.mapSeq (·.push (Value.ref h.objs.size)))).get? h.objs.size = _ := up _ _ (Nat.ne_of_gt sl) pr
      exact Nat.le_trans hz (Nat.le_of_lt (Heap.lt_size e))
end
theorem zip_len : typeLookup (.type "zip") "__len__" = pure none := by rw [typeLookup_type, builtinLookup_eq_fast]; kernel_rfl
theorem zip_hint : typeLookup (.type "zip") "__length_hint__" = pure none := by rw [typeLookup_type, builtinLookup_eq_fast]; kernel_rfl
section
variable {prog : Program} {w : World} {A : Around} {s : Shared} {xs ys : Array Value} {z TI TO i1 i2 l1 l2 : Addr}
theorem ext {R : Result → Shared → Prop} (hh : A.handled = none) (D : ZipApart z TI TO i1 i2 l1 l2) (eL : xs.size = ys.size) (hn : xs.size ≤ sizeLine) (S : Addr) (res : Value) (c0 : Nat)
    (nS : S ≠ TI ∧ S ≠ i1 ∧ S ≠ i2 ∧ S ≠ z ∧ S ≠ TO ∧ S ≠ l1 ∧ S ≠ l2) (st : Zs s.heap z TI TO i1 i2 l1 l2 S 0) (zz : IsZip s.heap z TI TO .none) (to : TO < s.heap.objs.size) (t1 : s.heap.IsTuple l1 xs) (t2 : s.heap.IsTuple l2 ys)
    (hS : s.heap.get? S = some { cls := .type "list", data := .seq #[] c0 })
    (hR : ∀ h' tk acc c as, (∀ b o, b ≠ S → ¬ Own z TO i1 i2 b → s.heap.get? b = some o → h'.get? b = some o) → h'.get? S = some { cls := .type "list", dict := none, data := .seq acc c, slots := #[] } → as.length = xs.size → Out xs ys s.heap.objs.size h' as →
      acc.toList = as.map Value.ref → R (.ok (.ret res)) { s with heap := h', toks := tk }) :
    wpAny (model prog w) A.in1 (Builtin.List.listExtendWith (.ref S) (.ref z) res)
      (fun fin s' => match fin with | .done f => R (.ok f) s' | .again c' => c'.quiet = true ∧ codeAny (model prog w) A c' R s') (fun e s' => R (.error e) s') s := by
  have hT : s.TypeIs (.ref z) "zip" := ⟨_, zz, rfl⟩
  obtain ⟨n1, n2, n3, n4, n5, n6, n7⟩ := id nS
  have j1 : i1 < s.heap.objs.size := by obtain ⟨_, ⟨_, e, _⟩, _⟩ := st; exact Heap.lt_size e
  have j2 : i2 < s.heap.objs.size := by obtain ⟨_, _, ⟨_, e, _⟩, _⟩ := st; exact Heap.lt_size e
  have key : ∀ (h : Heap) (c1 tk : Nat), (∀ b o, b ≠ S → s.heap.get? b = some o → h.get? b = some o) → h.objs.size = s.heap.objs.size →
      h.get? S = some { cls := .type "list", data := .seq #[] c1 } → codeAny (model prog w) A (.builtin "list.extend.loop" ⟨[.ref S, .ref z, res], []⟩) R { s with heap := h, toks := tk } := by
    intro h c1 tk kp es hS1
    refine loop (s := s) (h1 := s.heap) (lo := s.heap.objs.size) hh D eL hn res nS ⟨Heap.lt_size zz, to, j1, j2, Heap.lt_size hS⟩ hR xs.size 0 h tk c1 #[] [] (Nat.sub_zero _) (Nat.zero_le _) (st.keep kp n1.symm n2.symm n3.symm n4.symm n5.symm)
      ?a ?b (fun b o hb _ e => kp b o hb e) hS1 rfl rfl ⟨List.Pairwise.nil, (fun _ ha => nomatch ha), (fun j a hj => by simp at hj)⟩ (Nat.le_of_eq es.symm)
    case a => obtain ⟨o, e, r⟩ := t1; exact ⟨o, kp _ _ n6.symm e, r⟩
    case b => obtain ⟨o, e, r⟩ := t2; exact ⟨o, kp _ _ n7.symm e, r⟩
  unfold Builtin.List.listExtendWith
  refine wpAny_bind (wpAny_typeOf (T := "zip") hT ?_)
  have q1 : Builtin.List.listSameRef (.ref S) (.ref z) = false := by simp [Builtin.List.listSameRef, n4]
  have q2 : (Value.type "zip" == Value.type "list") = false := by decide
  have q3 : (Value.type "zip" == Value.type "tuple") = false := by decide
  simp only [q1, q2, q3, Bool.or_false, Bool.false_eq_true, if_false]
  refine wpAny_bind (wpAny_pyIter_zip zz ?_)
  refine wpAny_bind (wpAny_holding ?_)
  unfold Builtin.List.listLengthHint
  refine wpAny_bind (wpAny_specialOf hT zip_len ?_)
  show wpAny _ A.in1 (specialOf (Value.ref z) (Str.ofString "__length_hint__") >>= _) _ _ _
  refine wpAny_bind (wpAny_specialOf hT zip_hint ?_)
  refine wpAny_pure ?_
  refine wpAny_ite_split (fun _ => ?_) (fun _ => wpAny_pure ⟨plainId_quiet PySem.F.plain_extend_loop _, key _ c0 _ (fun b o _ e => e) rfl hS⟩)
  refine wpAny_bind (wpAny_rule ?_)
  refine wpAny_bind ?_
  show wpAny _ _ (updateSeq S (·.push .none) >>= fun _ => updateSeq S (·.pop)) _ _ _
  refine wpAny_bind (wpAny_updateSeq hS rfl ?_)
  have hS2 := Heap.get?_update_self (Obj.mapSeq (·.push Value.none)) hS rfl
  refine wpAny_updateSeq (hz := by seq_fits) hS2 rfl ?_
  have hS3 := Heap.get?_update_self (Obj.mapSeq (·.pop)) hS2 rfl
  refine wpAny_pure ⟨plainId_quiet PySem.F.plain_extend_loop _, key _ _ _ (fun b o hb e => ?_) ?_ hS3⟩
  · exact (Heap.get?_update_other _ _ (Ne.symm hb)).trans ((Heap.get?_update_other _ _ (Ne.symm hb)).trans e)
  · simp [Heap.update]
end
section
variable {prog : Program} {w : World} {A : Around} {s : Shared} {xs ys : Array Value} {z TI TO i1 i2 l1 l2 : Addr}
theorem Out.low {lo lo' : Addr} {h : Heap} {as : List Addr} (g : Out xs ys lo h as) (e : lo' ≤ lo) : Out xs ys lo' h as := ⟨g.rise, fun a ha => Nat.le_trans e (g.above a ha), g.pair⟩
theorem init {R : Result → Shared → Prop} (hh : A.handled = none) (D : ZipApart z TI TO i1 i2 l1 l2) (eL : xs.size = ys.size) (hn : xs.size ≤ sizeLine) (S : Addr)
    (nS : S ≠ TI ∧ S ≠ i1 ∧ S ≠ i2 ∧ S ≠ z ∧ S ≠ TO ∧ S ≠ l1 ∧ S ≠ l2) (st : Zs s.heap z TI TO i1 i2 l1 l2 S 0) (zz : IsZip s.heap z TI TO .none) (to : TO < s.heap.objs.size) (t1 : s.heap.IsTuple l1 xs) (t2 : s.heap.IsTuple l2 ys)
    (hS : s.heap.get? S = some { cls := .type "list", data := .seq #[] })
    (hR : ∀ h' tk acc c as, (∀ b o, b ≠ S → ¬ Own z TO i1 i2 b → s.heap.get? b = some o → h'.get? b = some o) → h'.get? S = some { cls := .type "list", dict := none, data := .seq acc c, slots := #[] } → as.length = xs.size → Out xs ys s.heap.objs.size h' as →
      acc.toList = as.map Value.ref → R (.ok (.ret .none)) { s with heap := h', toks := tk }) :
    wpAny (model prog w) A.in1 (Builtin.«list.__init__» ⟨[.ref S, .ref z], []⟩)
      (fun fin s' => match fin with | .done f => R (.ok f) s' | .again c' => c'.quiet = true ∧ codeAny (model prog w) A c' R s') (fun e s' => R (.error e) s') s := by
  obtain ⟨n1, n2, n3, n4, n5, n6, n7⟩ := id nS
  show wpAny _ _ (do let old ← Builtin.List.listItems (.ref S); Builtin.List.listUpdate (.ref S) (fun _ => #[]); letGo old.toList.reverse; Builtin.List.listExtendWith (.ref S) (.ref z) .none) _ _ s
  refine wpAny_bind ?_
  unfold Builtin.List.listItems
  refine wpAny_bind (wpAny_seqItems hS rfl (wpAny_pure ?_))
  show wpAny _ _ (updateSeq S (fun _ => #[]) >>= fun _ => letGo (#[] : Array Value).toList.reverse >>= fun _ => Builtin.List.listExtendWith (.ref S) (.ref z) .none) _ _ s
  refine wpAny_bind (wpAny_updateSeq hS rfl ?_)
  have hS2 := Heap.get?_update_self (Obj.mapSeq (fun _ => (#[] : Array Value))) hS rfl
  have oth : ∀ b o, b ≠ S → s.heap.get? b = some o → (s.heap.update S (Obj.mapSeq (fun _ => (#[] : Array Value)))).get? b = some o :=
    fun b o hb e => (Heap.get?_update_other _ _ (Ne.symm hb)).trans e
  have es : (s.heap.update S (Obj.mapSeq (fun _ => (#[] : Array Value)))).objs.size = s.heap.objs.size := by simp [Heap.update]
  refine wpAny_bind (wpAny_letGo ?_)
  refine ext (s := { s with heap := s.heap.update S (Obj.mapSeq (fun _ => (#[] : Array Value))) }) hh D eL hn S .none _ nS (st.keep oth n1.symm n2.symm n3.symm n4.symm n5.symm) (oth _ _ n4.symm zz) (by rw [es]; exact to) ?a ?b hS2 (fun h' tk acc c as kp e1 e2 G e3 => ?_)
  case a => obtain ⟨o, e, r⟩ := t1; exact ⟨o, oth _ _ n6.symm e, r⟩
  case b => obtain ⟨o, e, r⟩ := t2; exact ⟨o, oth _ _ n7.symm e, r⟩
  exact hR h' tk acc c as (fun b o hb nb e => kp b o hb nb (oth b o hb e)) e1 e2 (G.low (Nat.le_of_eq es.symm)) e3
end
section
variable {prog : Program} {w : World} {A : Around} {E : Value → Shared → Prop} {s : Shared} {xs ys : Array Value} {z TI TO i1 i2 l1 l2 : Addr}
theorem listOf {Q : Value → Shared → Prop} (hh : A.handled = none) (D : ZipApart z TI TO i1 i2 l1 l2) (eL : xs.size = ys.size) (hn : xs.size ≤ sizeLine)
    (zz : IsZip s.heap z TI TO .none) (ti : IsPair s.heap TI (.ref i1) (.ref i2)) (to : IsPair s.heap TO .none .none) (u1 : s.heap.IsTupleIter i1 l1 0) (u2 : s.heap.IsTupleIter i2 l2 0) (t1 : s.heap.IsTuple l1 xs) (t2 : s.heap.IsTuple l2 ys)
    (q : ∀ h' tk acc c as, (∀ b o, ¬ Own z TO i1 i2 b → s.heap.get? b = some o → h'.get? b = some o) → h'.get? s.heap.objs.size = some { cls := .type "list", dict := none, data := .seq acc c, slots := #[] } → as.length = xs.size → Out xs ys (s.heap.objs.size + 1) h' as →
      acc.toList = as.map Value.ref → Q (.ref s.heap.objs.size) { s with heap := h', toks := tk }) :
    wpAny (model prog w) A (call (.type "list") [.ref z]) Q E s := by
  refine callType_codes (Q₁ := fun obj s1 => obj = .ref s.heap.objs.size ∧ s1 = { s with heap := s.heap.push { cls := .type "list", data := .seq #[] } }) PySem.F.called_list (PySem.F.typeCall_list_1 _) PySem.F.entry_list_init
    (code_list_new _ ⟨rfl, rfl⟩) fun obj s1 h1 => ?_
  obtain ⟨rfl, rfl⟩ := h1
  have hS : (s.heap.push { cls := .type "list", data := .seq #[] }).get? s.heap.objs.size = some { cls := .type "list", data := .seq #[] } := Heap.get?_push_size _ rfl
  have up : ∀ b o, s.heap.get? b = some o → (s.heap.push { cls := .type "list", data := .seq #[] }).get? b = some o := fun b o e => Heap.get?_push_of_some _ e
  have es : (s.heap.push { cls := .type "list", data := .seq #[] }).objs.size = s.heap.objs.size + 1 := Heap.size_push ..
  have m1 : i1 < s.heap.objs.size := by obtain ⟨_, e, _⟩ := u1; exact Heap.lt_size e
  have m2 : i2 < s.heap.objs.size := by obtain ⟨_, e, _⟩ := u2; exact Heap.lt_size e
  have m3 : l1 < s.heap.objs.size := by obtain ⟨_, e, _⟩ := t1; exact Heap.lt_size e
  have m4 : l2 < s.heap.objs.size := by obtain ⟨_, e, _⟩ := t2; exact Heap.lt_size e
  refine ⟨⟨_, hS, rfl⟩, PySem.F.args_list_init_2 _ _, init (A := A.in1) hh D eL hn s.heap.objs.size ⟨Nat.ne_of_gt (Heap.lt_size ti), Nat.ne_of_gt m1, Nat.ne_of_gt m2, Nat.ne_of_gt (Heap.lt_size zz), Nat.ne_of_gt (Heap.lt_size to), Nat.ne_of_gt m3, Nat.ne_of_gt m4⟩
    ⟨up _ _ ti, u1.at fun o e => up _ o e, u2.at fun o e => up _ o e, .inl ⟨rfl, up _ _ zz, _, _, up _ _ to⟩⟩ (up _ _ zz) (Nat.lt_of_lt_of_eq (Nat.lt_succ_of_lt (Heap.lt_size to)) es.symm) ?a ?b hS (fun h' tk acc c as kp e1 e2 G e3 => ?_)⟩
  case a => obtain ⟨o, e, r⟩ := t1; exact ⟨o, up _ _ e, r⟩
  case b => obtain ⟨o, e, r⟩ := t2; exact ⟨o, up _ _ e, r⟩
  exact ⟨rfl, q h' tk acc c as (fun b o nb e => kp b o (Nat.ne_of_lt (Heap.lt_size e)) nb (up b o e)) e1 e2 (G.low (Nat.le_of_eq es.symm)) e3⟩
end
/-! the same over the abstract heap -/
def putZ : Hp → List Addr → List (V × V) → Hp
  | H, a :: as, p :: ps => putZ (upd H a (.tup [p.1, p.2])) as ps
  | H, _, _ => H
theorem putZ_off {b : Addr} : ∀ (as : List Addr) (ps : List (V × V)) (H : Hp), b ∉ as → putZ H as ps b = H b
  | [], _, _, _ => rfl
  | _ :: _, [], _, _ => rfl
  | a :: as, p :: ps, H, h => by
    show putZ (upd H a (.tup [p.1, p.2])) as ps b = H b
    rw [putZ_off as ps _ (fun z => h (List.mem_cons_of_mem _ z)), upd_ne (fun z => h (by rw [z]; exact List.mem_cons_self))]
theorem putZ_at : ∀ (as : List Addr) (ps : List (V × V)) (H : Hp), as.Nodup → ∀ (j : Nat) (t : Addr) (p : V × V), as[j]? = some t → ps[j]? = some p → putZ H as ps t = some (.tup [p.1, p.2])
  | [], _, _, _, j, t, p, e, _ => by simp at e
  | _ :: _, [], _, _, j, t, p, _, e => by simp at e
  | a :: as, q :: ps, H, nd, 0, t, p, e, e2 => by
    simp at e e2
    subst e e2
    show putZ (upd H a (.tup [q.1, q.2])) as ps a = some (.tup [q.1, q.2])
    rw [putZ_off as ps _ (List.nodup_cons.mp nd).1, upd_same]
  | a :: as, q :: ps, H, nd, j + 1, t, p, e, e2 => putZ_at as ps _ (List.nodup_cons.mp nd).2 j t p (by simpa using e) (by simpa using e2)
theorem refs_ok : ∀ as : List Addr, Vals (as.map V.ref) (as.map Value.ref)
  | [] => .nil
  | _ :: as => .cons rfl (refs_ok as)
/-- what list(zip(t, u)) asks and gives -/
def rLZ (K : PySem.W.Frag) : List V → Hp → VK → Prop := fun vs H Q => ∃ (a b : Addr) (xs ys : List V), vs = [.ref a, .ref b] ∧ SqT K H a xs ∧ SqT K H b ys ∧ xs.length = ys.length ∧
  ∀ (H' : Hp) (p : Addr) (ts : List Addr), Same H H' → H p = none → (∀ t ∈ ts, H t = none) → p ∉ ts → H' p = some (.lst (ts.map V.ref)) → ts.length = xs.length →
    (∀ (j : Nat) (t : Addr), ts[j]? = some t → ∃ x y, xs[j]? = some x ∧ ys[j]? = some y ∧ H' t = some (.tup [x, y])) → Q (.ref p) H'
def tLZ (K : PySem.W.Frag) (ta : TA) : TE := fun σ H Q => ta σ H fun vs H1 => rLZ K vs H1 Q
section
variable {X : Cx}
theorem laidZ {pins : List (Addr × Obj)} {σ : L2.St} {H : Hp} {s : Shared} {h' : Heap} {tk : Nat} {xs ys : List V} {us ws : List Value} {acc : Array Value} {c : Nat} {as : List Addr} {S : Addr} (I : Inv X pins σ H s) (rx : Vals xs us) (ry : Vals ys ws) (hz : xs.length ≤ sizeLine) (eL : xs.length = ys.length)
    (hk : ∀ b o, s.heap.get? b = some o → h'.get? b = some o) (hSn : s.heap.objs.size ≤ S) (hS : h'.get? S = some { cls := .type "list", dict := none, data := .seq acc c, slots := #[] }) (hl : as.length = xs.length) (G : Out us.toArray ws.toArray (S + 1) h' as) (ha : acc.toList = as.map Value.ref) :
    ∃ H' : Hp, Same H H' ∧ H S = none ∧ (∀ t ∈ as, H t = none) ∧ S ∉ as ∧ H' S = some (.lst (as.map V.ref)) ∧ (∀ (j : Nat) (t : Addr), as[j]? = some t → ∃ x y, xs[j]? = some x ∧ ys[j]? = some y ∧ H' t = some (.tup [x, y])) ∧ Inv X pins σ H' { s with heap := h', toks := tk } := by
  have nS : S ∉ as := fun e => Nat.lt_irrefl _ (G.above _ e)
  have nd : as.Nodup := List.Pairwise.imp (fun {a b} (h : a < b) => Nat.ne_of_lt h) G.rise
  have big : ∀ t ∈ as, s.heap.objs.size ≤ t := fun t ht => Nat.le_trans hSn (Nat.le_of_lt (G.above t ht))
  have new : ∀ t ∈ as, H t = none := fun t ht => I.hok.fresh (big t ht)
  have newS : H S = none := I.hok.fresh hSn
  have off : ∀ b, b ∉ as → b ≠ S → putZ (upd H S (.lst (as.map V.ref))) as (xs.zip ys) b = H b := fun b h1 h2 => by rw [putZ_off _ _ _ h1, upd_ne h2]
  have low : ∀ b o, s.heap.get? b = some o → b ∉ as ∧ b ≠ S := fun b o e => ⟨fun z => absurd (Heap.lt_size e) (Nat.not_lt.mpr (big b z)), Nat.ne_of_lt (Nat.lt_of_lt_of_le (Heap.lt_size e) hSn)⟩
  have kp : Same H (putZ (upd H S (.lst (as.map V.ref))) as (xs.zip ys)) := fun b u e => by
    rw [off b (fun z => by rw [new b z] at e; cases e) (fun z => by rw [z, newS] at e; cases e)]
    exact e
  have eS : putZ (upd H S (.lst (as.map V.ref))) as (xs.zip ys) S = some (.lst (as.map V.ref)) := by rw [putZ_off _ _ _ nS, upd_same]
  have atj : ∀ (j : Nat) (t : Addr), as[j]? = some t → ∃ x y, xs[j]? = some x ∧ ys[j]? = some y ∧ putZ (upd H S (.lst (as.map V.ref))) as (xs.zip ys) t = some (.tup [x, y]) := fun j t e => by
    have jl : j < as.length := (List.getElem?_eq_some_iff.mp e).1
    have jx : j < xs.length := by omega
    have jy : j < ys.length := by omega
    refine ⟨xs[j], ys[j], List.getElem?_eq_getElem jx, List.getElem?_eq_getElem jy, putZ_at as (xs.zip ys) _ nd j t (xs[j], ys[j]) e ?_⟩
    rw [List.getElem?_eq_getElem (by rw [List.length_zip]; omega), List.getElem_zip]
  refine ⟨putZ (upd H S (.lst (as.map V.ref))) as (xs.zip ys), kp, newS, new, nS, eS, atj, ?_⟩
  refine I.call' (ch := []) rfl ⟨fun b o q _ _ _ => hk b o q, fun b o q _ _ _ => ⟨o.slots, hk b o q⟩, fun b o q n _ => ?_, fun b o q _ => ⟨o, hk b o q⟩, fun b xs q => kp b _ q, fun b o u q => kp b _ q, fun b ps q => ⟨#[], by rw [kp b _ q]; simp⟩⟩ (fun b u q => ?_) I.bare fun b z => by simp at z
  · obtain ⟨z1, z2⟩ := low b o q
    rw [off b z1 z2]
    exact n
  · by_cases hb : b ∈ as
    · obtain ⟨j, hj⟩ := List.mem_iff_getElem?.mp hb
      obtain ⟨x, y, g1, g2, g3⟩ := atj j b hj
      rw [g3] at q
      cases q
      obtain ⟨x', y', f1, f2, f3⟩ := G.pair j b hj
      obtain ⟨p, e1, r1⟩ := rx.get g1
      obtain ⟨p2, e2, r2⟩ := ry.get g2
      have c1 : p = x' := Option.some.inj (e1.symm.trans (by simpa using f1))
      have c2 : p2 = y' := Option.some.inj (e2.symm.trans (by simpa using f2))
      subst c1 c2
      exact ⟨by show 2 ≤ sizeLine; decide, [p, p2], .cons r1 (.cons r2 .nil), ⟨_, f3, rfl, _, rfl⟩⟩
    · by_cases hb2 : b = S
      · rw [hb2] at q ⊢
        rw [eS] at q
        cases q
        refine ⟨by rw [List.length_map]; omega, acc.toList, c, by rw [ha]; exact refs_ok as, ?_⟩
        rw [Array.toArray_toList]
        exact hS
      · rw [off b hb hb2] at q
        exact (I.hok b u q).stay (fun d v _ y => hk d v y) (fun d y => kp d _ y) fun d xs y => kp d _ y
theorem pe_listZip {e e2 : Expr} {ta : TA} {p p2 pos q2 : Pos} (hc : X.calm = true) (hg : Gl X "list") (hm : X.mg "list" = none) (hg2 : Gl X "zip") (hm2 : X.mg "zip" = none) (ha : PA X [e, e2] ta)
    (hs : starEach [e, e2] X.env = (false, eval e X.env) :: starEach [e2] X.env := by rfl) (hpl : (backTo q2 (starEach [e2] X.env)).any (·.1) = false := by rfl)
    (hs2 : starEach [.Call (.Name "zip" p2) [e, e2] [] q2] X.env = (false, eval (.Call (.Name "zip" p2) [e, e2] [] q2) X.env) :: starEach [] X.env := by rfl) :
    PE X (.Call (.Name "list" p) [.Call (.Name "zip" p2) [e, e2] [] q2] [] pos) (tLZ X.K ta) := by
  refine ⟨fun pins s σ H Q I h => ?_⟩
  refine Call_ (ld_blt I hg hm (show bootBuiltins "list" = some (.type "list") by decide +kernel) ?_)
  refine PyProof.Rows.callWith_type1 (PyProof.Rows.args_cons ?_ hs2) hs2 rfl
  refine Call_ (ld_blt I hg2 hm2 PyProof.Rows.boot_zip (PyProof.Rows.callWith_type1 (thn (ha.run q2 pins s σ H _ I h) fun us s1 ⟨vs, H1, I1, r1, q1⟩ => ?_) hs hpl))
  obtain ⟨a, b, xs, ys, ex, qx, qy, eL, q⟩ := q1
  subst ex
  cases r1 with
  | cons r rr =>
    cases rr with
    | cons r' rr =>
      cases rr
      cases r
      cases r'
      obtain ⟨its, rv, p1, hz⟩ := I1.tuple qx
      obtain ⟨its2, rv2, p2, _⟩ := I1.tuple qy
      obtain ⟨o1, ho1, _⟩ := id p1
      obtain ⟨o2, ho2, _⟩ := id p2
      have le1 := rv.length
      have le2 := rv2.length
      refine call_zipT (show s1.heap.IsTuple a its.toArray from p1) (show s1.heap.IsTuple b its2.toArray from p2) fun g zz ti to u1 u2 es kk => PyProof.Rows.args_nil ?_
      have I2 : Inv X pins σ H1 { s1 with heap := g } := I1.kept (t' := s1.toks) kk
      refine listOf (s := { s1 with heap := g }) (xs := its.toArray) (ys := its2.toArray) (I1.ok.hd hc) (PySem.W.ktu_apart s1.heap.objs.size a b (Heap.lt_size ho1) (Heap.lt_size ho2)) (by simp; omega) (by simp; omega) zz ti to u1 u2 ?a ?b fun h' tk acc c as kp hS hl G hacc => ?_
      case a => obtain ⟨o, e, r⟩ := p1; exact ⟨o, kk _ _ e, r⟩
      case b => obtain ⟨o, e, r⟩ := p2; exact ⟨o, kk _ _ e, r⟩
      have nOwn : ∀ b o, s1.heap.get? b = some o → ¬ Own (s1.heap.objs.size + 4) (s1.heap.objs.size + 3) s1.heap.objs.size (s1.heap.objs.size + 1) b := fun b o e y => by
        have bl := Heap.lt_size e
        rcases y with y | y | y | y <;> (rw [y] at bl; revert bl; exact Nat.not_lt.mpr (by first | exact Nat.le_add_right _ _ | exact Nat.le_refl _))
      obtain ⟨H', k1, k2, k3, k4, k5, k6, J⟩ := laidZ (tk := tk) (h' := h') I1 rv rv2 (by omega) eL (fun b o e => kp b o (nOwn b o e) (kk b o e)) (show s1.heap.objs.size ≤ g.objs.size by rw [es]; exact Nat.le_add_right _ _) hS (by simp at hl; omega) G hacc
      exact ⟨.ref _, H', J, rfl, q H' _ as k1 k2 k3 k4 k5 (by simp at hl; omega) k6⟩
end
end ZL
/-! dict(zip(t, u)) of two tuples, as a rule of the hand layer -/
namespace DZ
open PySem PySem.Spec PyProof.Rows L2 ZL RZ
theorem argT (prog : Program) (w : World) (z TI TO i1 i2 l1 l2 : Addr) (D : ZipApart z TI TO i1 i2 l1 l2) (xs ys : Array Value) :
    PairArg prog w "zip" z [z, TI, TO, i1, i2, l1, l2] [z, TO, i1, i2] (min xs.size ys.size) (fun i k v => xs[i]? = some k ∧ ys[i]? = some v)
      (fun h => IsZip h z TI TO .none ∧ IsPair h TI (.ref i1) (.ref i2) ∧ (∃ a b, IsPair h TO a b) ∧ h.IsTupleIter i1 l1 0 ∧ h.IsTupleIter i2 l2 0 ∧ h.IsTuple l1 xs ∧ h.IsTuple l2 ys) where
  type := fun s ok => ⟨_, ok.1, rfl⟩
  notDict := by decide
  keep := fun h h' ok hk => by
    obtain ⟨hz, hTI, ⟨a, b, hTO⟩, h1, h2, hl1, hl2⟩ := ok
    exact ⟨hk _ _ hz, hk _ _ hTI, ⟨a, b, hk _ _ hTO⟩, h1.at fun o e => hk _ o e, h2.at fun o e => hk _ o e, hl1.at fun o e => hk _ o e, hl2.at fun o e => hk _ o e⟩
  there := fun h ok b hb => by
    obtain ⟨hz, hTI, ⟨a, c, hTO⟩, ⟨o1, h1, _⟩, ⟨o2, h2, _⟩, ⟨o3, hl1, _⟩, ⟨o4, hl2, _⟩⟩ := ok
    simp only [List.mem_cons, List.not_mem_nil, or_false] at hb
    rcases hb with rfl | rfl | rfl | rfl | rfl | rfl | rfl
    all_goals first | exact ⟨_, hz⟩ | exact ⟨_, hTI⟩ | exact ⟨_, hTO⟩ | exact ⟨_, h1⟩ | exact ⟨_, h2⟩ | exact ⟨_, hl1⟩ | exact ⟨_, hl2⟩
  sub := fun b hb => by simp at hb ⊢; rcases hb with rfl | rfl | rfl | rfl <;> simp
  noKeys := fun A s Q E hA ok h => getAttrOr_miss_zip ok.1 rfl rfl rfl zip_no_keys (by decide +kernel) hA h
  iter := fun A s d Q E hA ok hd hdf h => by
    obtain ⟨hz, hTI, ⟨a, b, hTO⟩, h1, h2, hl1, hl2⟩ := ok
    simp only [List.mem_cons, List.not_mem_nil, or_false, not_or] at hdf
    obtain ⟨dz, dTI, dTO, di1, di2, dl1, dl2⟩ := hdf
    refine wpAny_pyIter_zip hz (h z [z, TO, i1, i2] (fun i h => Zs h z TI TO i1 i2 l1 l2 d i ∧ h.IsTuple l1 xs ∧ h.IsTuple l2 ys) s.heap s.toks ?_
      ⟨⟨hTI, h1, h2, .inl ⟨rfl, hz, a, b, hTO⟩⟩, hl1, hl2⟩ (fun _ _ e => e) fun b hb => .inl hb)
    have own : ∀ {c : Addr}, c ∉ [z, TO, i1, i2] → ¬ Own z TO i1 i2 c := fun hc y => hc (by
      rcases y with y | y | y | y <;> simp [y])
    have nown1 : ¬ Own z TO i1 i2 l1 := fun y => by
      rcases y with y | y | y | y
      · exact D.l1z y
      · exact D.l1TO y
      · exact D.l1i1 y
      · exact D.l1i2 y
    have nown2 : ¬ Own z TO i1 i2 l2 := fun y => by
      rcases y with y | y | y | y
      · exact D.l2z y
      · exact D.l2TO y
      · exact D.l2i1 y
      · exact D.l2i2 y
    exact {
      off := fun hm => by
        simp only [List.mem_cons, List.not_mem_nil, or_false] at hm
        rcases hm with e | e | e | e
        · exact dz e
        · exact dTO e
        · exact di1 e
        · exact di2 e
      frame := fun i h₁ h₂ st hk => by
        obtain ⟨hzs, hl1, hl2⟩ := st
        exact ⟨hzs.keep hk (Ne.symm dTI) (Ne.symm di1) (Ne.symm di2) (Ne.symm dz) (Ne.symm dTO), hl1.at fun o e => hk _ o (Ne.symm dl1) e, hl2.at fun o e => hk _ o (Ne.symm dl2) e⟩
      item := fun i s₁ Q₁ E₁ hi st hds hQ => by
        obtain ⟨hzs, hl1, hl2⟩ := st
        have hix : i < xs.size := Nat.lt_of_lt_of_le hi (Nat.min_le_left ..)
        have hiy : i < ys.size := Nat.lt_of_lt_of_le hi (Nat.min_le_right ..)
        have ex := Array.getElem?_eq_getElem hix
        have ey := Array.getElem?_eq_getElem hiy
        refine next_item D hzs hds hl1 hl2 ex ey fun g a1 a5 a6 hk => ?_
        exact hQ s₁.heap.objs.size _ _ g s₁.toks ⟨ex, ey⟩ (.inl ⟨_, a5, rfl, _, rfl⟩) ⟨a1, hl1.at fun o e => hk _ o nown1 e, hl2.at fun o e => hk _ o nown2 e⟩ fun c o hc e => hk c o (own hc) e
      done := fun s₁ Q₁ E₁ st hQ => by
        obtain ⟨hzs, hl1, hl2⟩ := st
        have hend : xs[min xs.size ys.size]? = none ∨ ys[min xs.size ys.size]? = none := by
          rcases Nat.le_total xs.size ys.size with h | h
          · exact .inl (Array.getElem?_eq_none (by rw [Nat.min_eq_left h]; exact Nat.le_refl _))
          · exact .inr (Array.getElem?_eq_none (by rw [Nat.min_eq_right h]; exact Nat.le_refl _))
        exact next_stop hA D hzs hl1 hl2 hend fun g hk => hQ g s₁.toks fun c o hc e => hk c o (own hc) e }
/-- what dict(zip(t, u)) asks and gives -/
def rDZ (K : PySem.W.Frag) : List V → Hp → VK → Prop := fun vs H Q => ∃ (a b : Addr) (ks : List Key) (ys : List V), vs = [.ref a, .ref b] ∧ SqT K H a (ks.map kV) ∧ SqT K H b ys ∧ ks.length = ys.length ∧
  ∀ p, H p = none → Q (.ref p) (upd H p (.dK (mergeK [] (ks.zip ys))))
def tDZ (K : PySem.W.Frag) (ta : TA) : TE := fun σ H Q => ta σ H fun vs H1 => rDZ K vs H1 Q
theorem rel_key {P : Program} {w : World} {k : Key} {u : Value} (r : RelV (kV k) u) : keyIs k u = true := kV_is (P := P) (w := w) r
section
variable {X : Cx}
theorem pe_dictZip {e e2 : Expr} {ta : TA} {p p2 pos q2 : Pos} (hc : X.calm = true) (hg : Gl X "dict") (hm : X.mg "dict" = none) (hg2 : Gl X "zip") (hm2 : X.mg "zip" = none) (ha : PA X [e, e2] ta)
    (hs : starEach [e, e2] X.env = (false, eval e X.env) :: starEach [e2] X.env := by rfl) (hpl : (backTo q2 (starEach [e2] X.env)).any (·.1) = false := by rfl)
    (hs2 : starEach [.Call (.Name "zip" p2) [e, e2] [] q2] X.env = (false, eval (.Call (.Name "zip" p2) [e, e2] [] q2) X.env) :: starEach [] X.env := by rfl) :
    PE X (.Call (.Name "dict" p) [.Call (.Name "zip" p2) [e, e2] [] q2] [] pos) (tDZ X.K ta) := by
  refine ⟨fun pins s σ H Q I h => ?_⟩
  refine Call_ (ld_blt I hg hm (show bootBuiltins "dict" = some (.type "dict") by decide +kernel) ?_)
  refine PyProof.Rows.callWith_type1 (PyProof.Rows.args_cons ?_ hs2) hs2 rfl
  refine Call_ (ld_blt I hg2 hm2 PyProof.Rows.boot_zip (PyProof.Rows.callWith_type1 (thn (ha.run q2 pins s σ H _ I h) fun us s1 ⟨vs, H1, I1, r1, q1⟩ => ?_) hs hpl))
  obtain ⟨a, b, ks, ys, ex, qx, qy, eL, q⟩ := q1
  subst ex
  cases r1 with
  | cons r rr =>
    cases rr with
    | cons r' rr =>
      cases rr
      cases r
      cases r'
      obtain ⟨its, rv, p1, hz⟩ := I1.tuple qx
      obtain ⟨its2, rv2, p2, hz2⟩ := I1.tuple qy
      obtain ⟨o1, ho1, hq1⟩ := id p1
      obtain ⟨o2, ho2, hq2⟩ := id p2
      have le1 := rv.length
      have le2 := rv2.length
      rw [List.length_map] at le1 hz
      refine call_zipT (show s1.heap.IsTuple a its.toArray from p1) (show s1.heap.IsTuple b its2.toArray from p2) fun g zz ti to u1 u2 es kk => PyProof.Rows.args_nil ?_
      have A1 := argT X.prog X.w (s1.heap.objs.size + 4) (s1.heap.objs.size + 2) (s1.heap.objs.size + 3) s1.heap.objs.size (s1.heap.objs.size + 1) a b (PySem.W.ktu_apart s1.heap.objs.size a b (Heap.lt_size ho1) (Heap.lt_size ho2)) its.toArray its2.toArray
      have nOwn : ∀ c o, s1.heap.get? c = some o → c ∉ [s1.heap.objs.size + 4, s1.heap.objs.size + 3, s1.heap.objs.size, s1.heap.objs.size + 1] := fun c o e y => by
        have bl := Heap.lt_size e
        simp only [List.mem_cons, List.not_mem_nil, or_false] at y
        rcases y with y | y | y | y <;> (rw [y] at bl; revert bl; exact Nat.not_lt.mpr (by first | exact Nat.le_add_right _ _ | exact Nat.le_refl _))
      obtain ⟨prs, eprs, lprs, aprs⟩ : ∃ prs : List (Key × Value), KV (ks.zip ys) prs ∧ prs.length = ks.length ∧ ∀ (i : Nat) (key v : Value), its[i]? = some key → its2[i]? = some v → ∃ k, prs[i]? = some (k, v) ∧ keyIs k key = true := by
        clear q A1 kk u1 u2 to ti zz es nOwn p1 p2 hz hz2 hq1 hq2 qx qy
        induction ks generalizing ys its its2 with
        | nil =>
          refine ⟨[], ?_, rfl, fun i key v e => ?_⟩
          · show Paired _ ([].zip ys) []
            rw [List.zip_nil_left]
            exact .nil
          · have : its.length = 0 := le1.symm
            rw [List.length_eq_zero_iff.mp this] at e
            simp at e
        | cons k ks ih =>
          cases ys with
          | nil => cases eL
          | cons y ys =>
            cases rv with
            | cons h1 t1 =>
            cases rv2 with
            | cons h2 t2 =>
              obtain ⟨prs, r1, r2, r3⟩ := ih _ (by simpa using eL) _ t1 _ t2 (by simpa using le1) (by simpa using le2)
              refine ⟨(k, _) :: prs, .cons ⟨rfl, h2⟩ r1, by rw [List.length_cons, r2, List.length_cons], fun i key v e e' => ?_⟩
              cases i with
              | zero =>
                simp at e e'
                subst e e'
                exact ⟨k, rfl, rel_key (P := X.prog) (w := X.w) h1⟩
              | succ i => exact r3 i key v (by simpa using e) (by simpa using e')
      refine PySem.call_dict_pairs (s := { s1 with heap := g }) (knd := mixKind X.prog X.w) (kvs := prs) A1 (I1.ok.hd hc) ⟨zz, ti, ⟨_, _, to⟩, u1, u2, ?a, ?b⟩ ⟨?_, fun i key v e => ?_⟩ ?_ fun h' tk hd' hk => ?_
      case a => obtain ⟨o, e, r⟩ := p1; exact ⟨o, kk _ _ e, r⟩
      case b => obtain ⟨o, e, r⟩ := p2; exact ⟨o, kk _ _ e, r⟩
      · rw [lprs]
        simp
        omega
      · exact aprs i key v (by simpa using e.1) (by simpa using e.2)
      · simp
        omega
      · have kp : ∀ c o, s1.heap.get? c = some o → h'.get? c = some o := fun c o e => hk c o (nOwn c o e) (kk c o e)
        have hm : (g.objs.size == sysModules) = false := beq_eq_false_iff_ne.mpr (Nat.ne_of_gt (by rw [es]; exact Nat.lt_of_lt_of_le I1.big (Nat.le_add_right _ _)))
        have hlen : (mergeK [] (ks.zip ys)).length ≤ sizeLine := by
          refine Nat.le_trans (length_mergeK _ []) ?_
          rw [List.length_nil, Nat.zero_add, List.length_zip, eL, Nat.min_self]
          omega
        exact ⟨.ref g.objs.size, upd H1 g.objs.size (.dK (mergeK [] (ks.zip ys))), I1.laid (t' := tk) kp (by rw [es]; exact Nat.le_add_right _ _) (show ObjOk X.prog X.w _ _ _ (.dK (mergeK [] (ks.zip ys))) from ⟨hlen, hm, merged [] prs, KV.merge eprs .nil, hd'⟩), rfl, q _ (I1.hok.fresh (by rw [es]; exact Nat.le_add_right _ _))⟩
end
end DZ
/-! zip of a tuple and a list, walked by a for or a comprehension -/
namespace ZN
open PySem PySem.Spec PyProof.Rows L2 RZ
section
variable {prog : Program} {w : World} {A : Around} {E : Value → Shared → Prop} {s : Shared}
theorem draw_item {z TI TO i1 i2 l1 l2 : Addr} {k1 k2 : Nat} {xs ys : Array Value} {x y a b : Value} {Q : Value → Shared → Prop}
    (D : ZipApart z TI TO i1 i2 l1 l2) (zz : IsZip s.heap z TI TO .none) (ti : IsPair s.heap TI (.ref i1) (.ref i2)) (ot : IsPair s.heap TO a b)
    (u1 : s.heap.IsTupleIter i1 l1 k1) (u2 : s.heap.IsListIter i2 l2 k2) (t1 : s.heap.IsTuple l1 xs) (t2 : s.heap.IsList l2 ys) (gx : xs[k1]? = some x) (gy : ys[k2]? = some y)
    (q : ∀ g, IsZip g z TI TO (rawInt s.heap.objs.size) → IsPair g TO x y → g.IsTupleIter i1 l1 (k1 + 1) → g.IsListIter i2 l2 (k2 + 1) → IsPair g s.heap.objs.size x y → g.objs.size = s.heap.objs.size + 1 →
      (∀ c o, c ≠ z → c ≠ TO → c ≠ i1 → c ≠ i2 → s.heap.get? c = some o → g.get? c = some o) → Q (.ref s.heap.objs.size) { s with heap := g }) :
    wpAny (model prog w) A (Builtin.«zip.__next__» ⟨[.ref z], []⟩) (fun fin s' => ∃ v, fin = .done (.ret v) ∧ Q v s') E s := by
  show wpAny _ _ (field (.ref z) 2 >>= _) _ _ _; refine wpAny_bind (wpAny_field zz rfl (x := .bool false) rfl ?_)
  show wpAny _ _ (field (.ref z) 3 >>= _) _ _ _; refine wpAny_bind (wpAny_field zz rfl (x := .ref TI) rfl ?_)
  refine wpAny_bind (wpAny_seqItems ti rfl ?_)
  show wpAny _ _ (Builtin.SmallTypes.ownedTupleIsFree (.ref z) >>= _) _ _ _; refine wpAny_bind ?_
  unfold Builtin.SmallTypes.ownedTupleIsFree
  refine wpAny_bind (wpAny_field zz rfl (x := .none) rfl (wpAny_pure ?_))
  simp only [if_true]
  refine wpAny_bind (wpAny_rule (wpAny_bind (wpAny_field zz rfl (x := .ref TO) rfl (wpAny_bind (wpAny_setField_rec zz (by simp) fun g1 zz1 e1 => ?_)))))
  replace zz1 : IsZip g1 z TI TO .ellipsis := zz1
  refine wpAny_bind ?_
  simp only [List.zipIdx_cons, List.zipIdx_nil, List.forIn_cons, List.forIn_nil]
  refine wpAny_bind (wpAny_bind (wpAny_onRaise ?_)); show wpAny _ _ (Builtin.SmallTypes.nextOf (.ref i1) >>= _) _ _ _
  refine wpAny_bind (nextOf_tuple_item (u1.extBut e1.extBut D.i1z) (t1.extBut e1.extBut D.l1z) gx fun g2 u12 e2 => wpAny_pure ?_)
  have ot2 : IsPair g2 TO a b := e2.extBut _ _ D.TOi1 (e1.extBut _ _ D.TOz ot)
  refine wpAny_bind (wpAny_seqItems ot2 rfl (wpAny_bind (wpAny_updateSeq_pair ot2 fun g3 ot3 e3 => ?_)))
  replace ot3 : IsPair g3 TO x b := ot3
  refine wpAny_bind (wpAny_letGo (wpAny_pure ?_))
  refine wpAny_bind (wpAny_bind (wpAny_onRaise ?_)); show wpAny _ _ (Builtin.SmallTypes.nextOf (.ref i2) >>= _) _ _ _
  refine wpAny_bind (wpAny_nextOf_list_item (((u2.extBut e1.extBut D.i2z).extBut e2.extBut D.i12.symm).extBut e3.extBut D.TOi2.symm) (((t2.extBut e1.extBut D.l2z).extBut e2.extBut D.l2i1).extBut e3.extBut D.l2TO) gy fun g4 u24 e4 => wpAny_pure ?_)
  have ot4 : IsPair g4 TO x b := e4.extBut _ _ D.TOi2 ot3
  refine wpAny_bind (wpAny_seqItems ot4 rfl (wpAny_bind (wpAny_updateSeq_pair ot4 fun g5 ot5 e5 => ?_)))
  replace ot5 : IsPair g5 TO x y := ot5
  refine wpAny_bind (wpAny_letGo (wpAny_pure (wpAny_pure ?_)))
  refine wpAny_bind (wpAny_seqItems ot5 rfl (wpAny_bind (wpAny_newTuple ?_)))
  have es : g5.objs.size = s.heap.objs.size := by rw [e5.1, e4.1, e3.1, e2.1, e1.1]
  have zz5 : IsZip g5 z TI TO .ellipsis := e5.extBut _ _ D.TOz.symm (e4.extBut _ _ D.i2z.symm (e3.extBut _ _ D.TOz.symm (e2.extBut _ _ D.i1z.symm zz1)))
  have kk : ∀ c o, c ≠ z → c ≠ TO → c ≠ i1 → c ≠ i2 → s.heap.get? c = some o → g5.get? c = some o := fun c o c1 c2 c3 c4 e => e5.extBut _ _ c2 (e4.extBut _ _ c4 (e3.extBut _ _ c2 (e2.extBut _ _ c3 (e1.extBut _ _ c1 e))))
  have u15 : g5.IsTupleIter i1 l1 (k1 + 1) := ((u12.extBut e3.extBut D.TOi1.symm).extBut e4.extBut D.i12).extBut e5.extBut D.TOi1.symm
  have u25 : g5.IsListIter i2 l2 (k2 + 1) := u24.extBut e5.extBut D.TOi2.symm
  have zl : z < g5.objs.size := Heap.lt_size zz5
  show wpAny _ _ (Builtin.SmallTypes.ownedTupleHandOut (.ref z) (.ref g5.objs.size) >>= _) _ _ _; refine wpAny_bind ?_
  unfold Builtin.SmallTypes.ownedTupleHandOut
  have zz6 : IsZip (g5.push { cls := .type "tuple", data := .seq #[x, y] }) z TI TO .ellipsis := Heap.get?_push_of_some _ zz5
  refine wpAny_bind (wpAny_setField_rec zz6 (by simp) fun g7 zz7 e7 => ?_)
  replace zz7 : IsZip g7 z TI TO (rawInt g5.objs.size) := zz7
  refine wpAny_setField_rec zz7 (by simp) fun g8 zz8 e8 => ?_
  replace zz8 : IsZip g8 z TI TO (rawInt g5.objs.size) := zz8
  have up : ∀ c o, c ≠ z → g5.get? c = some o → g8.get? c = some o := fun c o c1 e => e8.extBut _ _ c1 (e7.extBut _ _ c1 (Heap.get?_push_of_some _ e))
  have pr : IsPair g8 g5.objs.size x y := e8.extBut _ _ (Nat.ne_of_gt zl) (e7.extBut _ _ (Nat.ne_of_gt zl) (Heap.get?_push_size _ rfl))
  have s8 : g8.objs.size = g5.objs.size + 1 := by rw [e8.1, e7.1, Heap.size_push]
  rw [es] at zz8 pr s8
  refine wpAny_pure ⟨_, rfl, ?_⟩
  show Q (.ref g5.objs.size) _
  rw [es]
  exact q g8 zz8 (up _ _ D.TOz ot5) (u15.at fun o e => up _ o D.i1z e) (u25.at fun o e => up _ o D.i2z e) pr s8 fun c o c1 c2 c3 c4 e => up c o c1 (kk c o c1 c2 c3 c4 e)
theorem draw_end {z TI TO i1 i2 l1 l2 : Addr} {k1 k2 : Nat} {xs ys : Array Value} {a b : Value} {Q : Fin → Shared → Prop} (hh : A.handled = none)
    (D : ZipApart z TI TO i1 i2 l1 l2) (zz : IsZip s.heap z TI TO .none) (ti : IsPair s.heap TI (.ref i1) (.ref i2)) (ot : IsPair s.heap TO a b)
    (u1 : s.heap.IsTupleIter i1 l1 k1) (u2 : s.heap.IsListIter i2 l2 k2) (t1 : s.heap.IsTuple l1 xs) (t2 : s.heap.IsList l2 ys) (he : xs[k1]? = none ∨ ys[k2]? = none)
    (q : ∀ g e, (∀ c o, c ≠ z → c ≠ TO → c ≠ i1 → c ≠ i2 → s.heap.get? c = some o → g.get? c = some o) → (∃ o, g.get? e = some o ∧ o.cls = .type "StopIteration") → E (.ref e) { s with heap := g }) :
    wpAny (model prog w) A (Builtin.«zip.__next__» ⟨[.ref z], []⟩) Q E s := by
  show wpAny _ _ (field (.ref z) 2 >>= _) _ _ _; refine wpAny_bind (wpAny_field zz rfl (x := .bool false) rfl ?_)
  show wpAny _ _ (field (.ref z) 3 >>= _) _ _ _; refine wpAny_bind (wpAny_field zz rfl (x := .ref TI) rfl ?_)
  refine wpAny_bind (wpAny_seqItems ti rfl ?_)
  show wpAny _ _ (Builtin.SmallTypes.ownedTupleIsFree (.ref z) >>= _) _ _ _; refine wpAny_bind ?_
  unfold Builtin.SmallTypes.ownedTupleIsFree
  refine wpAny_bind (wpAny_field zz rfl (x := .none) rfl (wpAny_pure ?_))
  simp only [if_true]
  refine wpAny_bind (wpAny_rule (wpAny_bind (wpAny_field zz rfl (x := .ref TO) rfl (wpAny_bind (wpAny_setField_rec zz (by simp) fun g1 zz1 e1 => ?_)))))
  replace zz1 : IsZip g1 z TI TO .ellipsis := zz1
  refine wpAny_bind ?_
  simp only [List.zipIdx_cons, List.zipIdx_nil, List.forIn_cons, List.forIn_nil]
  refine wpAny_bind (wpAny_bind (wpAny_onRaise ?_)); show wpAny _ _ (Builtin.SmallTypes.nextOf (.ref i1) >>= _) _ _ _
  cases gx : xs[k1]? with
  | none =>
    refine wpAny_bind (nextOf_tuple_end hh (u1.extBut e1.extBut D.i1z) (t1.extBut e1.extBut D.l1z) gx fun g2 e e2 ⟨oe, ho, hc⟩ => ?_)
    have zz2 : IsZip g2 z TI TO .ellipsis := e2 _ _ D.i1z.symm zz1
    have nz : e ≠ z := fun x => by subst x; rw [zz2] at ho; cases ho; simp at hc
    exact wpAny_setField_rec zz2 (by simp) fun g3 _ e3 => q g3 e (fun c o c1 _ c3 _ x => e3.extBut _ _ c1 (e2 _ _ c3 (e1.extBut _ _ c1 x))) ⟨oe, e3.extBut _ _ nz ho, hc⟩
  | some x =>
    have gy : ys[k2]? = none := by
      rcases he with h | h
      · rw [gx] at h; cases h
      · exact h
    refine wpAny_bind (nextOf_tuple_item (u1.extBut e1.extBut D.i1z) (t1.extBut e1.extBut D.l1z) gx fun g2 u12 e2 => wpAny_pure ?_)
    have ot2 : IsPair g2 TO a b := e2.extBut _ _ D.TOi1 (e1.extBut _ _ D.TOz ot)
    refine wpAny_bind (wpAny_seqItems ot2 rfl (wpAny_bind (wpAny_updateSeq_pair ot2 fun g3 ot3 e3 => ?_)))
    refine wpAny_bind (wpAny_letGo (wpAny_pure ?_))
    refine wpAny_bind (wpAny_bind (wpAny_onRaise ?_)); show wpAny _ _ (Builtin.SmallTypes.nextOf (.ref i2) >>= _) _ _ _
    refine wpAny_bind (wpAny_nextOf_list_end hh (((u2.extBut e1.extBut D.i2z).extBut e2.extBut D.i12.symm).extBut e3.extBut D.TOi2.symm) (((t2.extBut e1.extBut D.l2z).extBut e2.extBut D.l2i1).extBut e3.extBut D.l2TO) gy fun g4 e e4 ⟨oe, ho, hc⟩ => ?_)
    have zz4 : IsZip g4 z TI TO .ellipsis := e4 _ _ D.i2z.symm (e3.extBut _ _ D.TOz.symm (e2.extBut _ _ D.i1z.symm zz1))
    have nz : e ≠ z := fun x => by subst x; rw [zz4] at ho; cases ho; simp at hc
    exact wpAny_setField_rec zz4 (by simp) fun g5 _ e5 => q g5 e (fun c o c1 c2 c3 c4 x => e5.extBut _ _ c1 (e4 _ _ c4 (e3.extBut _ _ c2 (e2.extBut _ _ c3 (e1.extBut _ _ c1 x))))) ⟨oe, e5.extBut _ _ nz ho, hc⟩
theorem next_item {z TI TO i1 i2 l1 l2 : Addr} {k1 k2 : Nat} {xs ys : Array Value} {x y a b : Value} {Q : Option Value → Shared → Prop}
    (D : ZipApart z TI TO i1 i2 l1 l2) (zz : IsZip s.heap z TI TO .none) (ti : IsPair s.heap TI (.ref i1) (.ref i2)) (ot : IsPair s.heap TO a b)
    (u1 : s.heap.IsTupleIter i1 l1 k1) (u2 : s.heap.IsListIter i2 l2 k2) (t1 : s.heap.IsTuple l1 xs) (t2 : s.heap.IsList l2 ys) (gx : xs[k1]? = some x) (gy : ys[k2]? = some y)
    (q : ∀ g, IsZip g z TI TO (rawInt s.heap.objs.size) → IsPair g TO x y → g.IsTupleIter i1 l1 (k1 + 1) → g.IsListIter i2 l2 (k2 + 1) → IsPair g s.heap.objs.size x y → g.objs.size = s.heap.objs.size + 1 →
      (∀ c o, c ≠ z → c ≠ TO → c ≠ i1 → c ≠ i2 → s.heap.get? c = some o → g.get? c = some o) → Q (some (.ref s.heap.objs.size)) { s with heap := g }) :
    wpAny (model prog w) A (pyNext (.ref z)) Q E s := by
  have hT : s.TypeIs (.ref z) "zip" := ⟨_, zz, rfl⟩
  unfold pyNext
  exact wpAny_bind (wpAny_attempt (wpAny_callSpecial?_slot (name := Str.ofString "__next__") hT F.slot_zip_next (wpAny_call_entry F.slot_zip_next hT F.entry_zip_next
    (draw_item D zz ti ot u1 u2 t1 t2 gx gy fun g a1 a2 a3 a4 a5 a6 a7 => wpAny_pure (q g a1 a2 a3 a4 a5 a6 a7)) (F.args_zip_next_1 _))))
theorem next_end {z TI TO i1 i2 l1 l2 : Addr} {k1 k2 : Nat} {xs ys : Array Value} {a b : Value} {Q : Option Value → Shared → Prop} (hh : A.handled = none)
    (D : ZipApart z TI TO i1 i2 l1 l2) (zz : IsZip s.heap z TI TO .none) (ti : IsPair s.heap TI (.ref i1) (.ref i2)) (ot : IsPair s.heap TO a b)
    (u1 : s.heap.IsTupleIter i1 l1 k1) (u2 : s.heap.IsListIter i2 l2 k2) (t1 : s.heap.IsTuple l1 xs) (t2 : s.heap.IsList l2 ys) (he : xs[k1]? = none ∨ ys[k2]? = none)
    (q : ∀ g, (∀ c o, c ≠ z → c ≠ TO → c ≠ i1 → c ≠ i2 → s.heap.get? c = some o → g.get? c = some o) → Q none { s with heap := g }) : wpAny (model prog w) A (pyNext (.ref z)) Q E s := by
  have hT : s.TypeIs (.ref z) "zip" := ⟨_, zz, rfl⟩
  unfold pyNext
  refine wpAny_bind (wpAny_attempt (wpAny_callSpecial?_slot (name := Str.ofString "__next__") hT F.slot_zip_next (wpAny_call_entry F.slot_zip_next hT F.entry_zip_next
    (draw_end hh D zz ti ot u1 u2 t1 t2 he fun g e k ⟨o, ho, hc⟩ => ?_) (F.args_zip_next_1 _))))
  refine wpAny_bind (wpAny_isInstance (T := "StopIteration") (b := true) ⟨o, ho, hc⟩ isSubtype_stop ?_)
  exact wpAny_pure (q _ k)
end
abbrev hp1 (h : Heap) (a : Addr) : Heap := h.push { cls := .type "tuple_iterator", data := .fields #[.ref a, .int 0 0] }
abbrev hp2 (h : Heap) (a b : Addr) : Heap := (hp1 h a).push { cls := .type "list_iterator", data := .fields #[.ref b, .int 0 0] }
abbrev hp3 (h : Heap) (a b : Addr) : Heap := (hp2 h a b).push { cls := .type "tuple", data := .seq #[.ref h.objs.size, .ref (hp1 h a).objs.size] }
abbrev hp4 (h : Heap) (a b : Addr) : Heap := (hp3 h a b).push { cls := .type "tuple", data := .seq #[.none, .none] }
abbrev hp5 (h : Heap) (a b : Addr) : Heap := (hp4 h a b).push { cls := .type "zip", data := .fields #[.none, .bool false, .bool false, .ref (hp2 h a b).objs.size, .ref (hp3 h a b).objs.size] }
theorem meets_new (a b : Addr) (xs ys : Array Value) :
    Meets (Builtin.«zip.__new__» ⟨[.type "zip", .ref a, .ref b], []⟩) (fun _ R s => s.heap.IsTuple a xs ∧ s.heap.IsList b ys ∧ R (.ok (.ret (.ref (hp4 s.heap a b).objs.size))) { s with heap := hp5 s.heap a b }) :=
  .of_wp fun prog w A R s h => by
    obtain ⟨hp, g, d, tk, os⟩ := s
    obtain ⟨ha, hb, h⟩ := h
    have hsub := sub_zip
    have hA : Heap.IsTuple (Shared.heap ⟨hp, g, d, tk, os⟩) a xs := ha
    have hB : Heap.IsList (Shared.heap ⟨hp.push { cls := .type "tuple_iterator", data := .fields #[.ref a, .int 0 0] }, g, d, tk, os⟩) b ys := Heap.IsList.push hb _
    wp_walk using wpAny_pyIter_tuple hA, wpAny_pyIter_list hB
    exact ⟨_, rfl, h⟩
section
variable {prog : Program} {w : World} {A : Around} {E : Value → Shared → Prop} {s : Shared}
theorem call_new {a b : Addr} {xs ys : Array Value} {Q : Value → Shared → Prop} (ha : s.heap.IsTuple a xs) (hb : s.heap.IsList b ys)
    (h : ∀ g, IsZip g (s.heap.objs.size + 4) (s.heap.objs.size + 2) (s.heap.objs.size + 3) .none → IsPair g (s.heap.objs.size + 2) (.ref s.heap.objs.size) (.ref (s.heap.objs.size + 1)) →
      IsPair g (s.heap.objs.size + 3) .none .none → g.IsTupleIter s.heap.objs.size a 0 → g.IsListIter (s.heap.objs.size + 1) b 0 → (∀ c o, s.heap.get? c = some o → g.get? c = some o) → Q (.ref (s.heap.objs.size + 4)) { s with heap := g }) :
    wpAny (model prog w) A (call (.type "zip") [.ref a, .ref b]) Q E s := by
  refine callType_new F.called_zip (by decide) (F.typeCall_zip_2 _ _) (F.newCall_zip_2 _ _) (fun obj => F.args_object_init_3 obj _ _) F.entry_zip_new (meets_new a b xs ys) ⟨ha, hb, ?_⟩
  have z1 : (hp1 s.heap a).objs.size = s.heap.objs.size + 1 := Heap.size_push ..
  have z2 : (hp2 s.heap a b).objs.size = s.heap.objs.size + 2 := by rw [Heap.size_push, z1]
  have z3 : (hp3 s.heap a b).objs.size = s.heap.objs.size + 3 := by rw [Heap.size_push, z2]
  have z4 : (hp4 s.heap a b).objs.size = s.heap.objs.size + 4 := by rw [Heap.size_push, z3]
  have g5 : (hp5 s.heap a b).get? (hp4 s.heap a b).objs.size = some _ := Heap.get?_push_size _ rfl
  have p4 : ∀ c o, (hp4 s.heap a b).get? c = some o → (hp5 s.heap a b).get? c = some o := fun c o e => Heap.get?_push_of_some _ e
  have p3 : ∀ c o, (hp3 s.heap a b).get? c = some o → (hp5 s.heap a b).get? c = some o := fun c o e => p4 _ _ (Heap.get?_push_of_some _ e)
  have p2 : ∀ c o, (hp2 s.heap a b).get? c = some o → (hp5 s.heap a b).get? c = some o := fun c o e => p3 _ _ (Heap.get?_push_of_some _ e)
  have p1 : ∀ c o, (hp1 s.heap a).get? c = some o → (hp5 s.heap a b).get? c = some o := fun c o e => p2 _ _ (Heap.get?_push_of_some _ e)
  have g4 : (hp5 s.heap a b).get? (hp3 s.heap a b).objs.size = some _ := p4 _ _ (Heap.get?_push_size _ rfl)
  have g3 : (hp5 s.heap a b).get? (hp2 s.heap a b).objs.size = some _ := p3 _ _ (Heap.get?_push_size _ rfl)
  have g2 : (hp5 s.heap a b).get? (hp1 s.heap a).objs.size = some _ := p2 _ _ (Heap.get?_push_size _ rfl)
  have g1 : (hp5 s.heap a b).get? s.heap.objs.size = some _ := p1 _ _ (Heap.get?_push_size _ rfl)
  show _ ∧ _
  rw [z2, z3, z4] at g5; rw [z1, z2] at g3; rw [z3] at g4; rw [z1] at g2; rw [z4]
  exact ⟨⟨_, g5, rfl⟩, h _ g5 g3 g4 ⟨_, g1, rfl, rfl⟩ ⟨_, g2, rfl, rfl⟩ fun c o x => p1 _ _ (Heap.get?_push_of_some _ x)⟩
end
/-- a list and a tuple as they stand at each turn, the items in new pairs -/
def ItN (K : PySem.W.Frag) (a b : Addr) : It :=
  ⟨fun i H => ∃ (xs ys : List V) (x y : V), SqT K H a xs ∧ SqL K H b ys ∧ xs[i]? = some x ∧ ys[i]? = some y,
    fun i H v H' => ∃ T x y, v = .ref T ∧ H T = none ∧ H' = upd H T (.tup [x, y]) ∧ (∀ xs, SqT K H a xs → xs[i]? = some x) ∧ ∀ ys, SqL K H b ys → ys[i]? = some y,
    fun i H => ∃ xs ys : List V, SqT K H a xs ∧ SqL K H b ys ∧ (xs.length ≤ i ∨ ys.length ≤ i)⟩
theorem five {z TI TO i1 i2 c : Addr} (h : c ∈ [z, TI, TO, i1, i2]) : c = z ∨ c = TI ∨ c = TO ∨ c = i1 ∨ c = i2 := by simpa using h
theorem turn_N {P : Program} {w : World} {K : PySem.W.Frag} {elts : List Expr} {kk : Nat} {tpos : Pos} {a b z TI TO i1 i2 : Addr} (D : ZipApart z TI TO i1 i2 a b) :
    Turn P w K (.Tuple elts kk tpos) (ItN K a b) [z, TI, TO, i1, i2] z (fun i h => IsZip h z TI TO .none ∧ IsPair h TI (.ref i1) (.ref i2) ∧ (∃ x y, IsPair h TO x y) ∧ h.IsTupleIter i1 a i ∧ h.IsListIter i2 b i) where
  mem := by simp
  obj := fun i h st c hc => by
    obtain ⟨hz, hTI, ⟨x, y, hTO⟩, ⟨o1, e1, _, d1⟩, ⟨o2, e2, _, d2⟩⟩ := st
    rcases five hc with q | q | q | q | q <;> rw [q]
    · exact ⟨_, hz, fun v q => nomatch q⟩
    · exact ⟨_, hTI, fun v q => nomatch q⟩
    · exact ⟨_, hTO, fun v q => nomatch q⟩
    · exact ⟨o1, e1, fun v q => by rw [d1] at q; cases q⟩
    · exact ⟨o2, e2, fun v q => by rw [d2] at q; cases q⟩
  keep := fun i h h' st k => by
    obtain ⟨hz, hTI, ⟨x, y, hTO⟩, h1, h2⟩ := st
    exact ⟨k z (by simp) _ hz, k TI (by simp) _ hTI, ⟨x, y, k TO (by simp) _ hTO⟩, h1.at fun o q => k i1 (by simp) o q, h2.at fun o q => k i2 (by simp) o q⟩
  item := by
    intro X hP hw hK hc i pins s σ H E I hf st hg
    subst hP hw hK
    obtain ⟨hz, hTI, ⟨x0, y0, hTO⟩, h1, h2⟩ := st
    obtain ⟨xs, ys, x, y, hqx, hqy, hx, hy⟩ := hg
    obtain ⟨its, rv, p, _⟩ := I.tuple hqx
    obtain ⟨its2, rv2, p2, _⟩ := I.list hqy
    obtain ⟨u, hu, ru⟩ := rv.get hx
    obtain ⟨u2, hu2, ru2⟩ := rv2.get hy
    have hzl : z < s.heap.objs.size := Heap.lt_size hz
    refine next_item D hz hTI hTO h1 h2 p p2.isList (x := u) (y := u2) (by simpa using hu) (by simpa using hu2) fun g z' TO' h1' h2' hT hsz hk => ?_
    refine ⟨_, rfl, wpAny_letOwnedTupleGo_zip (s := { s with heap := g }) z' fun g2 z'' sb => ?_⟩
    have hT2 : g2.get? s.heap.objs.size = some { cls := .type "tuple", data := .seq #[u, u2] } := (sb.2 _ (Nat.ne_of_gt hzl)).trans hT
    have new : ObjOk X.prog X.w (upd H s.heap.objs.size (.tup [x, y])) g2 s.heap.objs.size (.tup [x, y]) :=
      ⟨by show 2 ≤ sizeLine; decide, [u, u2], .cons ru (.cons ru2 .nil), ⟨_, hT2, rfl, _, rfl⟩⟩
    have I1 : Inv X pins σ (upd H s.heap.objs.size (.tup [x, y])) { s with heap := g2 } :=
      I.turnedNew (t' := s.toks) (ch := [z, TI, TO, i1, i2]) (fun c o nb e => (sb.2 c (fun q' => nb (by simp [q']))).trans (hk c o (fun q' => nb (by simp [q'])) (fun q' => nb (by simp [q'])) (fun q' => nb (by simp [q'])) (fun q' => nb (by simp [q'])) e)) hf (Nat.le_refl _) new
    refine ⟨.ref s.heap.objs.size, _, I1, rfl, ⟨_, x, y, rfl, I.hok.fresh (Nat.le_refl _), rfl, fun l hl => by rw [I.tuple_inj hl hqx]; exact hx, fun l hl => by rw [I.list_inj hl hqy]; exact hy⟩, ⟨z'', ?_, ⟨u, u2, ?_⟩, ?_, ?_⟩, fun c hcm => ?_⟩
    · exact (sb.2 _ D.TIz).trans (hk _ _ D.TIz D.TITO D.TIi1 D.TIi2 hTI)
    · exact (sb.2 _ D.TOz).trans TO'
    · exact h1'.at fun o e => (sb.2 _ D.i1z).trans e
    · exact h2'.at fun o e => (sb.2 _ D.i2z).trans e
    · have hlt : c < s.heap.objs.size := by
        rcases five hcm with q | q | q | q | q <;> rw [q]
        · exact hzl
        · exact Heap.lt_size hTI
        · exact Heap.lt_size hTO
        · obtain ⟨_, e1, _⟩ := h1; exact Heap.lt_size e1
        · obtain ⟨_, e2, _⟩ := h2; exact Heap.lt_size e2
      rw [upd_ne (Nat.ne_of_lt hlt)]
      exact (hf c hcm).1
  done := by
    intro X hP hw hK hc i pins s σ H E I hf st hg
    subst hP hw hK
    obtain ⟨hz, hTI, ⟨x0, y0, hTO⟩, h1, h2⟩ := st
    obtain ⟨xs, ys, hqx, hqy, hend⟩ := hg
    obtain ⟨its, rv, p, _⟩ := I.tuple hqx
    obtain ⟨its2, rv2, p2, _⟩ := I.list hqy
    have l1 := rv.length
    have l2 := rv2.length
    have he : its.toArray[i]? = none ∨ its2.toArray[i]? = none := by
      rcases hend with q | q
      · exact .inl (by simp; omega)
      · exact .inr (by simp; omega)
    exact next_end (I.ok.hd hc) D hz hTI hTO h1 h2 p p2.isList he fun g hk => ⟨rfl, I.turnedL (t' := s.toks) (ch := [z, TI, TO, i1, i2]) (fun c o nb e =>
      hk c o (fun q' => nb (by simp [q'])) (fun q' => nb (by simp [q'])) (fun q' => nb (by simp [q'])) (fun q' => nb (by simp [q'])) e) hf⟩
  self := fun A i s Q E st h => wpAny_pyIter_zip st.1 h
def iZipN (K : PySem.W.Frag) (ta : TA) : TI := fun σ H R => ta σ H fun vs H1 => ∃ a b xs ys, vs = [.ref a, .ref b] ∧ SqT K H1 a xs ∧ SqL K H1 b ys ∧ R (ItN K a b) H1
theorem pi_zipN {X : Cx} {e e2 : Expr} {ta : TA} {p pos tpos : Pos} {elts : List Expr} {kk : Nat} (hg : Gl X "zip") (hm : X.mg "zip" = none) (ha : PA X [e, e2] ta)
    (hs : starEach [e, e2] X.env = (false, eval e X.env) :: starEach [e2] X.env := by rfl) (hpl : (backTo pos (starEach [e2] X.env)).any (·.1) = false := by rfl) :
    PI X (.Tuple elts kk tpos) (.Call (.Name "zip" p) [e, e2] [] pos) (iZipN X.K ta) := by
  refine ⟨fun pins s σ H R I h => ?_⟩
  refine Call_ (ld_blt I hg hm PyProof.Rows.boot_zip (PyProof.Rows.callWith_type1 (thn (ha.run pos pins s σ H _ I h) fun us s1 ⟨vs, H1, I1, r1, q1⟩ => ?_) hs hpl))
  obtain ⟨a, b, xs, ys, rfl, hqx, hqy, q⟩ := q1
  cases r1 with
  | cons r rr =>
    cases rr with
    | cons r' rr =>
      cases rr
      cases r
      cases r'
      have fresh5 : ∀ c, c ∈ [s1.heap.objs.size + 4, s1.heap.objs.size + 2, s1.heap.objs.size + 3, s1.heap.objs.size, s1.heap.objs.size + 1] → FpOk X pins H1 c := fun c hcm => by
        have hle : s1.heap.objs.size ≤ c := by
          rcases five hcm with e | e | e | e | e <;> rw [e]
          · exact Nat.le_add_right _ _
          · exact Nat.le_add_right _ _
          · exact Nat.le_add_right _ _
          · exact Nat.le_refl _
          · exact Nat.le_add_right _ _
        exact I1.fpOk hle (I1.hok.fresh hle)
      obtain ⟨its, rv, p1, _⟩ := I1.tuple hqx
      obtain ⟨its2, rv2, p2, _⟩ := I1.list hqy
      obtain ⟨o2, ho2, _⟩ := id p1
      refine call_new (show s1.heap.IsTuple a its.toArray from p1) p2.isList fun g hz hTI hTO h1 h2 hk => wpAny_pyIter_zip hz ?_
      have I2 : Inv X pins σ H1 { s1 with heap := g } := I1.kept (t' := s1.toks) hk
      exact ⟨s1.heap.objs.size + 4, [s1.heap.objs.size + 4, s1.heap.objs.size + 2, s1.heap.objs.size + 3, s1.heap.objs.size, s1.heap.objs.size + 1], _, _, H1, rfl, I2, turn_N (PySem.W.ktu_apart s1.heap.objs.size a b (Heap.lt_size ho2) p2.lt), ⟨hz, hTI, ⟨_, _, hTO⟩, h1, h2⟩, fresh5, q⟩
/-- a loop over it, as long as the shorter of both -/
theorem for_zipN {K : PySem.W.Frag} {a b : Addr} {xs ys : List V} {g : TG} {tb : TS} {D : Ends} {σ : L2.St} {H : Hp} (Pv : Nat → L2.St → Hp → Prop) (h0 : Pv 0 σ H) (hq : ∀ i σ H, Pv i σ H → SqT K H a xs ∧ SqL K H b ys)
    (hs : ∀ (i : Nat) (x y : V) (T : Addr) (σ : L2.St) (H : Hp), xs[i]? = some x → ys[i]? = some y → Pv i σ H → H T = none → g (.ref T) σ (upd H T (.tup [x, y])) fun σ2 H2 => tb { D with nx := Pv (i + 1), ct := Pv (i + 1), bk := D.nx } σ2 H2)
    (hd : ∀ σ H, Pv (min xs.length ys.length) σ H → D.nx σ H) :
    ∃ W : Nat → Nat → L2.St → Hp → Prop, (∃ m, W 0 m σ H) ∧ ∀ i m σ H, W i m σ H →
      ((ItN K a b).stop i H ∧ D.nx σ H) ∨ ((ItN K a b).go i H ∧ ∃ N : L2.St → Hp → Prop, (∀ σ' H', N σ' H' → ∃ m', m' < m ∧ W (i + 1) m' σ' H') ∧ ∀ v H', (ItN K a b).yld i H v H' → g v σ H' fun σ2 H2 => tb { D with nx := N, ct := N, bk := D.nx } σ2 H2) := by
  refine ⟨fun i m σ H => m = min xs.length ys.length - i ∧ i ≤ min xs.length ys.length ∧ Pv i σ H, ⟨min xs.length ys.length, rfl, Nat.zero_le _, h0⟩, ?_⟩
  rintro i m σ H ⟨rfl, hi, p⟩
  obtain ⟨qx, qy⟩ := hq i σ H p
  by_cases hlt : i < min xs.length ys.length
  · have hx : xs[i]? = some xs[i] := List.getElem?_eq_getElem (by omega)
    have hy : ys[i]? = some ys[i] := List.getElem?_eq_getElem (by omega)
    refine .inr ⟨⟨xs, ys, _, _, qx, qy, hx, hy⟩, Pv (i + 1), fun σ' H' p' => ⟨min xs.length ys.length - (i + 1), by omega, rfl, by omega, p'⟩, fun v H' y => ?_⟩
    obtain ⟨T, x', y', rfl, hT, rfl, f1, f2⟩ := y
    exact hs i x' y' T σ H (f1 xs qx) (f2 ys qy) p hT
  · have e : i = min xs.length ys.length := by omega
    subst e
    exact .inl ⟨⟨xs, ys, qx, qy, by omega⟩, hd σ H p⟩
theorem lc_zipN {K : PySem.W.Frag} {a b : Addr} {xs ys : List V} {g : TG} {tt : TT} {te : TE} {vs : List Nat} {σ : L2.St} {H1 : Hp} {D : Addr} {Qd : Hp → Prop} (Pv : Nat → Hp → Prop) (h0 : Pv 0 (upd H1 D (.lst [])))
    (hq : ∀ i H, Pv i H → SqT K H a xs ∧ SqL K H b ys)
    (hs : ∀ (i : Nat) (x y : V) (T : Addr) (H : Hp), xs[i]? = some x → ys[i]? = some y → Pv i H → H T = none → g (.ref T) (wipe σ vs) (upd H T (.tup [x, y])) fun σ2 H2 => wipe σ2 vs = wipe σ vs ∧ tt σ2 H2 fun b H3 =>
      if b = true then te σ2 H3 fun y H4 => ∃ acc, H4 D = some (.lst acc) ∧ acc.length < sizeLine ∧ Pv (i + 1) (upd H4 D (.lst (acc ++ [y]))) else Pv (i + 1) H3) (hd : ∀ H, Pv (min xs.length ys.length) H → Qd H) :
    ∃ W : Nat → Nat → Hp → Prop, (∃ m, W 0 m (upd H1 D (.lst []))) ∧ ∀ i m H, W i m H →
      ((ItN K a b).stop i H ∧ Qd H) ∨ ((ItN K a b).go i H ∧ ∃ Nx : Hp → Prop, (∀ H', Nx H' → ∃ m', m' < m ∧ W (i + 1) m' H') ∧ ∀ x H', (ItN K a b).yld i H x H' → g x (wipe σ vs) H' fun σ2 H2 => wipe σ2 vs = wipe σ vs ∧ tt σ2 H2 fun b H3 =>
        if b = true then te σ2 H3 fun y H4 => ∃ acc, H4 D = some (.lst acc) ∧ acc.length < sizeLine ∧ Nx (upd H4 D (.lst (acc ++ [y]))) else Nx H3) := by
  refine ⟨fun i m H => m = min xs.length ys.length - i ∧ i ≤ min xs.length ys.length ∧ Pv i H, ⟨min xs.length ys.length, by simp, Nat.zero_le _, h0⟩, ?_⟩
  rintro i m H ⟨rfl, hi, p⟩
  obtain ⟨qx, qy⟩ := hq i H p
  by_cases hlt : i < min xs.length ys.length
  · have hx : xs[i]? = some xs[i] := List.getElem?_eq_getElem (by omega)
    have hy : ys[i]? = some ys[i] := List.getElem?_eq_getElem (by omega)
    refine .inr ⟨⟨xs, ys, _, _, qx, qy, hx, hy⟩, Pv (i + 1), fun H' p' => ⟨min xs.length ys.length - (i + 1), by omega, rfl, by omega, p'⟩, fun v H' y => ?_⟩
    obtain ⟨T, x', y', rfl, hT, rfl, f1, f2⟩ := y
    exact hs i x' y' T H (f1 xs qx) (f2 ys qy) p hT
  · have e : i = min xs.length ys.length := by omega
    subst e
    exact .inl ⟨⟨xs, ys, qx, qy, by omega⟩, hd H p⟩
end ZN
/-! errors with fields, made and let out -/
namespace K3
open PySem PySem.Spec PyProof.Rows L2 K1
structure ErC (K : PySem.W.Frag) (mg : Str → Option Value) (x : Str) (C fI : Addr) : Prop where
  o : OexC K C
  i : PySem.W.findIn K (.ref C) "__init__" = some (some (.ref fI))
  t : PySem.W.typeIn K (.ref fI) = some (.type "function")
  g : mg x = some (.ref C)
/-- a callee that may raise -/
structure CalX (P : Program) (w : World) (K : PySem.W.Frag) (mg : Str → Option Value) (base : Heap) (x : Str) (ps : List Str) (k : Nat) (sp : Sp) : Prop where
  ex : ∃ (f : Addr) (fd : FuncData), FnOk P w K mg base (L2.CX P w) k f fd ps sp ∧ mg x = some (.ref f) ∧ PySem.W.keepIn K (.ref f) = true ∧ Binds K fd ps []
/-- a call that raises nothing, though the callee may -/
theorem passN {X : Cx} : Passes (L2.CX X.prog X.w) X E0 := fun _ _ _ _ _ _ _ h => by
  obtain ⟨_, _, _, _, _, _, _, _, _, _, _, _, h⟩ := h
  exact h.elim
section
variable {P : Program} {w : World} {K : PySem.W.Frag} {mg : Str → Option Value} {base : Heap}
/-- an __init__ that keeps two fields -/
def sp_two (C : Addr) (f1 f2 : Str) : Sp := fun vs H Q _ => ∃ (a : Addr) (v1 v2 : V), vs = [.ref a, v1, v2] ∧ H a = some (exo a C none) ∧
  ∀ (dx : Addr) (H' : Hp), H dx = none → dx ≠ a → H' a = some (exo a C (some dx)) → H' dx = some (exd dx [(f2, v2), (f1, v1)]) → (∀ b o, b ≠ a → b ≠ dx → H b = some o → H' b = some o) → Q .non H'
def sp_one (C : Addr) (f1 : Str) : Sp := fun vs H Q _ => ∃ (a : Addr) (v1 : V), vs = [.ref a, v1] ∧ H a = some (exo a C none) ∧
  ∀ (dx : Addr) (H' : Hp), H dx = none → dx ≠ a → H' a = some (exo a C (some dx)) → H' dx = some (exd dx [(f1, v1)]) → (∀ b o, b ≠ a → b ≠ dx → H b = some o → H' b = some o) → Q .non H'

def sp_three (C : Addr) (f1 f2 f3 : Str) : Sp := fun vs H Q _ => ∃ (a : Addr) (v1 v2 v3 : V), vs = [.ref a, v1, v2, v3] ∧ H a = some (exo a C none) ∧
  ∀ (dx : Addr) (H' : Hp), H dx = none → dx ≠ a → H' a = some (exo a C (some dx)) → H' dx = some (exd dx [(f3, v3), (f2, v2), (f1, v1)]) → (∀ b o, b ≠ a → b ≠ dx → H b = some o → H' b = some o) → Q .non H'
/-- what stands when an error is made: all that stood, its fields at dd -/
theorem made {H H2 : Hp} {C a d : Addr} {o : HO} {fs : List (Str × V)} (na : H a = none) (nd : H d = none) (k : ∀ b u, b ≠ a → b ≠ d → (upd H a o) b = some u → H2 b = some u) : Same H (upd (del H2 a) d (.xd fs)) := fun b u e => by
  have n1 := ne_of_none e na
  have n2 := ne_of_none e nd
  rw [upd_ne n2, del_ne n1]
  exact k b u n1 n2 (by rw [upd_ne n1]; exact e)
theorem mk2 {H1 : Hp} {C : Addr} {v1 v2 : V} {f1 f2 : Str} {Q : XK} (q : ∀ (dd : Addr) (H' : Hp), Same H1 H' → H' dd = some (.xd [(f2, v2), (f1, v1)]) → Q (.ref C) (some dd) H') :
    [v1, v2].length ≤ 1000 ∧ ∀ a, H1 a = none → sp_two C f1 f2 (.ref a :: ([v1, v2] ++ [])) (upd H1 a (exo a C none))
      (fun v H2 => v = .non ∧ ∃ (d : Addr) (fs : List (Str × V)), H2 a = some (exo a C (some d)) ∧ H2 d = some (exd d fs) ∧ H1 d = none ∧ Q (.ref C) (some d) (upd (del H2 a) d (.xd fs))) (fun _ _ _ => False) := by
  refine ⟨by show 2 ≤ 1000; decide, fun a na => ⟨a, v1, v2, rfl, upd_same, fun dx H' nd nda e1 e2 k => ?_⟩⟩
  rw [upd_ne nda] at nd
  exact ⟨rfl, dx, _, e1, e2, nd, q dx _ (made (C := C) na nd k) upd_same⟩
theorem mk1 {H1 : Hp} {C : Addr} {v1 : V} {f1 : Str} {Q : XK} (q : ∀ (dd : Addr) (H' : Hp), Same H1 H' → H' dd = some (.xd [(f1, v1)]) → Q (.ref C) (some dd) H') :
    [v1].length ≤ 1000 ∧ ∀ a, H1 a = none → sp_one C f1 (.ref a :: ([v1] ++ [])) (upd H1 a (exo a C none))
      (fun v H2 => v = .non ∧ ∃ (d : Addr) (fs : List (Str × V)), H2 a = some (exo a C (some d)) ∧ H2 d = some (exd d fs) ∧ H1 d = none ∧ Q (.ref C) (some d) (upd (del H2 a) d (.xd fs))) (fun _ _ _ => False) := by
  refine ⟨by show 1 ≤ 1000; decide, fun a na => ⟨a, v1, rfl, upd_same, fun dx H' nd nda e1 e2 k => ?_⟩⟩
  rw [upd_ne nda] at nd
  exact ⟨rfl, dx, _, e1, e2, nd, q dx _ (made (C := C) na nd k) upd_same⟩

theorem mk3 {H1 : Hp} {C : Addr} {v1 v2 v3 : V} {f1 f2 f3 : Str} {Q : XK} (q : ∀ (dd : Addr) (H' : Hp), Same H1 H' → H' dd = some (.xd [(f3, v3), (f2, v2), (f1, v1)]) → Q (.ref C) (some dd) H') :
    [v1, v2, v3].length ≤ 1000 ∧ ∀ a, H1 a = none → sp_three C f1 f2 f3 (.ref a :: ([v1, v2, v3] ++ [])) (upd H1 a (exo a C none))
      (fun v H2 => v = .non ∧ ∃ (d : Addr) (fs : List (Str × V)), H2 a = some (exo a C (some d)) ∧ H2 d = some (exd d fs) ∧ H1 d = none ∧ Q (.ref C) (some d) (upd (del H2 a) d (.xd fs))) (fun _ _ _ => False) := by
  refine ⟨by show 3 ≤ 1000; decide, fun a na => ⟨a, v1, v2, v3, rfl, upd_same, fun dx H' nd nda e1 e2 k => ?_⟩⟩
  rw [upd_ne nda] at nd
  exact ⟨rfl, dx, _, e1, e2, nd, q dx _ (made (C := C) na nd k) upd_same⟩
end
end K3
/-! a text times an int -/
namespace SM
open PySem PySem.Spec PyProof.Rows L2
def rRepS : R2 := fun x y H Q => ∃ z k, x = .str z ∧ y = .int k ∧ 2 ≤ k ∧ k ≤ 1000 ∧ 1 ≤ z.length ∧ z.length ≤ 1000 ∧ (⟨(List.replicate k.toNat z.cps).foldl (· ++ ·) #[]⟩ : Str).length ≤ sizeLine ∧ Q (.str ⟨(List.replicate k.toNat z.cps).foldl (· ++ ·) #[]⟩) H
section
variable {X : Cx}
theorem op_repS : OpR X (binaryOp .Mult) rRepS := by
  intro pins s σ H x y v u Q I rx ry h
  obtain ⟨z, k, rfl, rfl, h1, h2, h3, h4, h5, q⟩ := h
  obtain ⟨t, rfl⟩ := rx
  obtain ⟨t2, rfl⟩ := ry
  refine PySem.P.mul_str ?_ (fun _ _ => ?_) (fun _ _ => ?_) ?_
  · rw [decide_eq_false (by omega), decide_eq_false (by omega)]; rfl
  · have : (1000 : Int) ≤ (2 ^ 63 - 1) / k := by
      rw [Int.le_ediv_iff_mul_le (by omega)]
      omega
    omega
  · have hm : z.length * k.toNat ≤ 1000 * 1000 := Nat.mul_le_mul h4 (by omega)
    unfold Builtin.Str.tooLong
    rw [sizeLine_eq]
    exact decide_eq_false (by omega)
  · have hb : (k == 1 || z.length == 0) = false := by
      rw [beq_eq_false_iff_ne.mpr (show k ≠ 1 by omega), beq_eq_false_iff_ne.mpr (show z.length ≠ 0 by omega)]
      rfl
    rw [if_neg (by omega), hb]
    exact ⟨h5, .str _, H, I.tok _, ⟨_, rfl⟩, q⟩
end
end SM
/-! max(list of ints, default=d) -/
namespace MX
open PySem PySem.Spec PyProof.Rows L2
def maxL (d : Int) : List Int → Int
  | [] => d
  | n :: r => r.foldl max n
def rMaxDf (K : PySem.W.Frag) : List V → List V → Hp → VK → Prop := fun xs zs H Q => ∃ (a : Addr) (ns : List Int) (d : Int), xs = [.ref a] ∧ zs = [.int d] ∧ SqL K H a (ns.map V.int) ∧ Q (.int (maxL d ns)) H
theorem reads_ints {h : Heap} : ∀ {its : List Value} {ns : List Int}, IntsAre its ns → ReadsAll h its (ns.map PyData.int) []
  | _, _, .nil => .nil
  | _, _, .cons n t r => by
    have := ReadsAll.cons (h := h) (Reads.int n t) (reads_ints r)
    simpa using this
theorem alike_ints (ns : List Int) : PySem.W.AlikeAll (ns.map PyData.int) := by
  refine ⟨fun x hx y hy => ?_, fun x hx => ?_⟩
  · obtain ⟨i, _, rfl⟩ := List.mem_map.mp hx
    obtain ⟨j, _, rfl⟩ := List.mem_map.mp hy
    rfl
  · obtain ⟨i, _, rfl⟩ := List.mem_map.mp hx
    exact fun z => nomatch z
theorem depth_ints (ns : List Int) : PyData.depthAll (ns.map PyData.int) ≤ 1 := K1.depthA_le fun d hd => by
  obtain ⟨i, _, rfl⟩ := List.mem_map.mp hd
  simp [PyData.depth]
section
variable {X : Cx}
theorem call_maxDf (hc : X.calm = true) (hu : X.A.units + 64 < cLine) : CallRK X (.builtin "max") ["default"] (rMaxDf X.K) := by
  intro pins s σ H xs zs us ws Q I r rz h
  obtain ⟨a, ns, d, rfl, rfl, hs, q⟩ := h
  obtain ⟨its, rv, hl, _⟩ := I.list hs
  rw [Vals.ref1 r]
  obtain ⟨t, rfl⟩ : ∃ t, ws = [.int d t] := by
    cases rz with
    | cons r1 t1 =>
      cases t1
      obtain ⟨t, rfl⟩ := r1
      exact ⟨t, rfl⟩
  refine PySem.W.max_list_default (vs := its.toArray) (xs := ns.map PyData.int) (as := []) (I.ok.hd hc) hl.isList (reads_ints rv.ints) (alike_ints ns) (by have := depth_ints ns; omega) (fun e h' tk hk => ?_) (fun y ys i v h' tk bs e hv hr hk => ?_)
  · have : ns = [] := List.map_eq_nil_iff.mp e
    subst this
    exact ⟨.int d, H, I.kept hk, ⟨_, rfl⟩, q⟩
  · cases ns with
    | nil => cases e
    | cons n r =>
      cases e
      rw [PySem.W.maxD_ints] at hr
      cases hr
      exact ⟨.int _, H, I.kept hk, ⟨_, rfl⟩, q⟩
end
end MX
/-! t[::-1] of a tuple; xs.extend(t) of a fresh tuple -/
namespace RV
open PySem PySem.Spec PyProof.Rows L2
section
variable {prog : Program} {w : World} {A : Around} {E : Value → Shared → Prop} {s : Shared}
theorem adjust_rev (n : Nat) : Builtin.Slice.sliceAdjust none none (-1) (n : Int) = ((n : Int) - 1, -1) := by
  unfold Builtin.Slice.sliceAdjust
  simp
theorem places_rev (n : Nat) : Builtin.Slice.slicePlaces ((n : Int) - 1) (-1) (-1) = n := by
  unfold Builtin.Slice.slicePlaces
  rw [if_neg (by decide)]
  by_cases h : (n : Int) - 1 > -1
  · rw [if_pos h, show -(-1 : Int) = 1 by rfl, Int.ediv_one]
    omega
  · rw [if_neg h]
    omega
theorem sliceApplied_rev {sl : Addr} {vl vu vs : Value} {n : Nat} {Q : Int × Int × Nat → Shared → Prop} (hs : s.heap.IsSliceOf sl vl vu vs) (pl : IsPart vl none) (pu : IsPart vu none) (ps : IsPart vs (some (-1)))
    (h : Q ((n : Int) - 1, -1, n) s) : wpAny (model prog w) A (Builtin.Slice.sliceApplied (.ref sl) (pure (n : Int))) Q E s := by
  obtain ⟨os, hos, hcs, hds⟩ := id hs
  unfold Builtin.Slice.sliceApplied Builtin.Slice.sliceFields
  refine wpAny_bind (wpAny_bind (wpAny_field hos hds (x := vl) rfl (wpAny_bind (wpAny_field hos hds (x := vu) rfl (wpAny_bind (wpAny_field hos hds (x := vs) rfl (wpAny_pure ?_)))))))
  refine wpAny_bind (HT.slicePart_ ps ?_)
  show wpAny _ _ (if ((-1 : Int) == 0) = true then _ else _) _ _ s
  rw [if_neg (by decide)]
  refine wpAny_bind (HT.slicePart_ pl (wpAny_bind (HT.slicePart_ pu (wpAny_bind (wpAny_pure ?_)))))
  show wpAny _ _ (match Builtin.Slice.sliceAdjust none none (-1) (n : Int) with | (lo, hi) => pure (lo, (-1 : Int), Builtin.Slice.slicePlaces lo hi (-1))) _ _ s
  rw [adjust_rev n]
  show wpAny _ _ (pure ((n : Int) - 1, (-1 : Int), Builtin.Slice.slicePlaces ((n : Int) - 1) (-1) (-1))) _ _ s
  rw [places_rev]
  exact wpAny_pure h
theorem pick_rev (xs : List Value) : (List.range xs.length).filterMap (fun (m : Nat) => xs.toArray[((xs.length : Int) - 1 + (m : Int) * (-1)).toNat]?) = xs.reverse := by
  have e : (List.range xs.length).filterMap (fun (m : Nat) => xs.toArray[((xs.length : Int) - 1 + (m : Int) * (-1)).toNat]?) = (List.range xs.length).filterMap (fun (m : Nat) => xs.reverse[m]?) := by
    have key : ∀ l : List Nat, (∀ m ∈ l, m < xs.length) → l.filterMap (fun (m : Nat) => xs.toArray[((xs.length : Int) - 1 + (m : Int) * (-1)).toNat]?) = l.filterMap (fun (m : Nat) => xs.reverse[m]?) := by
      intro l
      induction l with
      | nil => intro _; rfl
      | cons m l ih =>
        intro h
        have hm := h m List.mem_cons_self
        have e1 : xs.toArray[((xs.length : Int) - 1 + (m : Int) * (-1)).toNat]? = xs.reverse[m]? := by
          rw [List.getElem?_reverse (by omega), show ((xs.length : Int) - 1 + (m : Int) * (-1)).toNat = xs.length - 1 - m by omega]
          simp
        rw [List.filterMap_cons, List.filterMap_cons, e1, ih fun k hk => h k (List.mem_cons_of_mem _ hk)]
    exact key _ fun m hm => List.mem_range.mp hm
  rw [e]
  have e2 : (List.range xs.length).filterMap (fun (m : Nat) => xs.reverse[m]?) = xs.reverse := by
    have := PySem.W.krv_all xs.reverse.toArray
    simpa using this
  rw [e2]
theorem getItem_tuple_rev {t sl : Addr} {its : List Value} {vl vu vs : Value} {Q : Value → Shared → Prop} (ht : IsTup s.heap t its.toArray) (hs : s.heap.IsSliceOf sl vl vu vs) (pl : IsPart vl none) (pu : IsPart vu none) (ps : IsPart vs (some (-1)))
    (h : Q (.ref s.heap.objs.size) { s with heap := s.heap.push { cls := .type "tuple", data := .seq its.reverse.toArray } })
    (hsz : its.length ≤ sizeLine) : wpAny (model prog w) A (getItem (.ref t) (.ref sl)) Q E s := by
  have htake : sizeOk (.seq its.reverse.toArray) := by
    show its.reverse.toArray.size ≤ sizeLine
    rw [List.size_toArray, List.length_reverse]
    exact hsz
  obtain ⟨os, hos, hcs, hds⟩ := id hs
  have hTs : s.TypeIs (.ref sl) "slice" := ⟨os, hos, hcs⟩
  unfold getItem
  try with_reducible refine wpAny_holding ?_
  first | refine wpAny_bind (wpAny_pure ?_) | skip
  refine wpAny_bind (wpAny_sequenceKey ht.typeIs (by decide) ?_)
  refine wpAny_bind (wpAny_callSpecial?_slot (name := Str.ofString "__getitem__") ht.typeIs PyProof.Rows.slot_tuple_getitem
    (wpAny_call_entry PyProof.Rows.slot_tuple_getitem ht.typeIs PyProof.Rows.entry_tuple_getitem ?_ (PyProof.Rows.args_tuple_getitem _ _)))
  show wpAny _ _ (Builtin.Tuple.tupleItemsOf (.ref t) >>= _) _ _ s
  refine wpAny_bind (PyProof.Rows.tupleItemsOf_ ht ?_)
  refine wpAny_bind (wpAny_typeOf hTs ?_)
  rw [if_pos (by decide)]
  refine wpAny_bind (sliceApplied_rev (n := its.toArray.size) hs pl pu ps ?_)
  have hno : ¬ ((((its.toArray.size : Nat) : Int) - 1 == 0 && (-1 : Int) == 1 && its.toArray.size == its.toArray.size) = true) := by
    intro q
    rw [Bool.and_eq_true, Bool.and_eq_true] at q
    exact absurd q.1.2 (by decide)
  show wpAny _ _ (if (((its.toArray.size : Nat) : Int) - 1 == 0 && (-1 : Int) == 1 && its.toArray.size == its.toArray.size) = true then _ else _) _ _ s
  have hp := pick_rev its
  rw [if_neg hno, List.size_toArray, hp]
  first
    | exact wpAny_bind (m := Builtin.Tuple.tupleExact _) (wpAny_newObj_type (wpAny_pure ⟨_, rfl, wpAny_pure h⟩) htake)
    | exact wpAny_bind (m := Builtin.Tuple.tupleExact _) (wpAny_newObj_type (wpAny_bind (wpAny_pure (wpAny_pure ⟨_, rfl, wpAny_pure h⟩))) htake)
    | exact wpAny_bind (wpAny_bind (m := Builtin.Tuple.tupleExact _) (wpAny_newObj_type (wpAny_pure (wpAny_pure ⟨_, rfl, wpAny_pure h⟩)) htake))
    | exact wpAny_bind (wpAny_bind (m := Builtin.Tuple.tupleExact _) (wpAny_newObj_type (wpAny_pure ⟨_, rfl, wpAny_pure h⟩) htake))
end
/-- a tuple as the machine makes it -/
def Plain (o : Obj) : Prop := ∃ its : Array Value, o = { cls := .type "tuple", data := .seq its }
def tRevT (K : PySem.W.Frag) (te : TE) : TE := fun σ H Q => te σ H fun x H1 => ∃ a xs, x = .ref a ∧ SqT K H1 a xs ∧ ∀ p o, H1 p = none → Plain o → Q (.ref p) (upd H1 p (.frz o (.tup xs.reverse)))
section
variable {X : Cx}
theorem pe_revT {e : Expr} {te : TE} {k : Nat} {p1 p2 p3 pos : Pos} (he : PE X e te) : PE X (.Subscript e (.Slice none none (some (.UnaryOp .USub (.Constant (.int 1) k p1) p2)) p3) pos) (tRevT X.K te) := by
  refine ⟨fun pins s σ H Q I h => ?_⟩
  refine Subscript_ (thn (he.run pins s σ H _ I h) fun v s1 ⟨x, H1, I1, r1, q1⟩ => ?_)
  obtain ⟨a, xs, ex, hx, q⟩ := q1
  subst ex
  cases r1
  have hst : PO X (some (.UnaryOp .USub (.Constant (.int 1) k p1) p2)) (tPart (tUn (rU fun i => .int (-i)) (tC (.int 1)))) := po_some (pe_un un_neg pe_int)
  refine wpAny_Slice (thn (po_none.run pins s1 σ H1 (fun o H2 => o = none ∧ H2 = H1) I1 ⟨rfl, rfl⟩) fun vl s2 ⟨l, H2, I2, pl, el, e2⟩ => ?_)
  subst el e2
  refine thn (po_none.run pins s2 σ H2 (fun o H3 => o = none ∧ H3 = H2) I2 ⟨rfl, rfl⟩) fun vu s3 ⟨u, H3, I3, pu, eu, e3⟩ => ?_
  subst eu e3
  refine thn (hst.run pins s3 σ H3 (fun o H4 => o = some (-1) ∧ H4 = H3) I3 ⟨1, rfl, -1, rfl, rfl, rfl⟩) fun vs s4 ⟨o, H4, I4, ps, eo, e4⟩ => ?_
  subst eo e4
  have I5 : Inv X pins σ H4 { s4 with heap := s4.heap.push { cls := .type "slice", data := .fields #[vl, vu, vs] } } := I4.kept (t' := s4.toks) fun b ob q => Heap.get?_push_of_some _ q
  obtain ⟨its, r, ht, hz⟩ := I5.tuple hx
  have hlen := r.length
  show wpAny (model X.prog X.w) X.A (subscriptTail e (.Slice none none (some (.UnaryOp .USub (.Constant (.int 1) k p1) p2)) p3) (.ref a) (.ref s4.heap.objs.size)) (EP X pins σ Q) X.xe { s4 with heap := s4.heap.push { cls := .type "slice", data := .fields #[vl, vu, vs] } }
  refine tail_any (ops := [.ref a, .ref s4.heap.objs.size]) ht.typeIs (PyProof.Rows.slot_tuple_getitem.lookup) ?_ (by with_unfolding_all rfl)
  refine getItem_tuple_rev ht (Heap.IsSliceOf.new _ vl vu vs) pl pu ps ?_ (by omega)
  refine ⟨.ref _, _, I5.laid (t' := s4.toks) (o := .frz { cls := .type "tuple", data := .seq its.reverse.toArray } (.tup xs.reverse)) (fun b ob q => Heap.get?_push_of_some _ q) (Nat.le_refl _) ?_, rfl, q _ _ (I5.hok.fresh (Nat.le_refl _)) ⟨_, rfl⟩⟩
  exact ⟨Heap.get?_push_size _ rfl, by rw [List.length_reverse]; exact hz, _, r.reverse, IsTup.new _ _⟩
def rExtendT : V → List V → Hp → VK → Prop := fun x vs H Q => ∃ l b xs zs o, x = .ref l ∧ vs = [.ref b] ∧ H l = some (.lst xs) ∧ H b = some (.frz o (.tup zs)) ∧ Plain o ∧ xs.length + zs.length ≤ sizeLine ∧ Q .non (upd H l (.lst (xs ++ zs)))
theorem mt_extendT : MtM X "list.extend" rExtendT := by
  intro pins s σ H x vs v us Q I rx rv h
  obtain ⟨l, b, xs, zs, o, rfl, rfl, hH, hB, ⟨its2, rfl⟩, hz, q⟩ := h
  cases rx
  obtain ⟨u, rfl, ru⟩ := rv.one
  cases ru
  obtain ⟨z, its, n, r, hl, e⟩ := I.lstM hH
  obtain ⟨e2, hz2, its3, r2, ht⟩ := I.hok _ _ hB
  obtain ⟨o3, ho3, hc3, n3, hd3⟩ := ht
  rw [e2] at ho3
  cases ho3
  simp only at hd3
  injection hd3 with hd4 _
  subst hd4
  have hlen2 := r2.length
  have hsz : its.toArray.size + its3.toArray.size ≤ sizeLine := by rw [List.size_toArray, List.size_toArray]; omega
  have hlong : ¬ (!its.toArray.isEmpty && Builtin.List.listTooLong (its.toArray.size + its3.toArray.size)) = true := by
    rw [notLongL hsz, Bool.and_false]
    exact Bool.false_ne_true
  refine call_meets PySem.F.slot_list_extend ⟨_, e, rfl⟩ PySem.F.entry_list_extend (PySem.F.args_list_extend_2 _ _)
    (AutoSeq1.list_extend_list_tuple_0 l its.toArray n b its3.toArray 0 hlong (by rw [List.size_toArray]; omega) (by omega)) ⟨e, e2, ?_⟩
  refine ⟨.non, _, I.lset (its' := its ++ its3) hH e (by simp) (r.append r2) ?_, rfl, q⟩
  rw [List.length_append]
  omega
end
end RV
/-! f(e, .., k = v) of a def with keyword-only parameters, all of them told, what is raised wished for at the caller's slots -/
namespace KWC
open PySem PySem.Spec PyProof.Rows L2
structure KB (K : PySem.W.Frag) (fd : FuncData) (ps : List Str) (n : Nat) (ks : List Str) : Prop where
  to : ∀ (s : Shared) (us ws : List Value), K.In s.heap → us.length = n → ws.length = ks.length → BindsTo s fd ⟨us, ks.zip ws⟩ (ps.zip (us ++ ws))
section
variable {X : Cx} {CX : CXT} {k n : Nat} {f : Addr} {fd : FuncData} {ps ks : List Str} {sp : Sp} {E : L2.St → XK} {x : Str} {p pos : Pos} {e : Expr} {es : List Expr} {kws : List Keyword} {t tk : TA}
theorem run_fnKS {pins : List (Addr × Obj)} {σ : L2.St} {H : Hp} {s : Shared} {Q : VK} {us ws : List Value} {vs zs : List V} (F : FnOk X.prog X.w X.K X.mg X.base CX k f fd ps sp) (hr : Room k X.A) (hb : KB X.K fd ps n ks) (hx : PassesAt CX X σ (E σ))
    (I : Inv X pins σ H s) (r : Vals vs us) (rz : Vals zs ws) (l1 : vs.length = n) (l2 : zs.length = ks.length) (h : sp (vs ++ zs) H Q (E σ)) : wpAny (model X.prog X.w) X.A (call (.ref f) us (ks.zip ws)) (EP X pins σ Q) X.xe s := by
  have r2 : Vals (vs ++ zs) (us ++ ws) := r.append rz
  refine wpAny_call (codeAny_mono (F.run X.A X.stack s H ⟨us, ks.zip ws⟩ (us ++ ws) (vs ++ zs) Q (E σ) hr I.env0 (hb.to s us ws I.kIn (r.length.symm.trans l1) (rz.length.symm.trans l2)) r2 h) fun r s' hq => ?_)
  cases r with
  | error e => exact hx pins H s e s' I hq
  | ok fl =>
    cases fl with
    | ret u => exact I.after hq
    | next => exact False.elim hq
    | brk => exact False.elim hq
    | cont => exact False.elim hq
def tCallKS (n m : Nat) (sp : Sp) (E : L2.St → XK) (t tk : TA) : TE := fun σ H Q => t σ H fun vs H1 => tk σ H1 fun zs H2 => vs.length = n ∧ zs.length = m ∧ sp (vs ++ zs) H2 Q (E σ)
theorem pe_callKS (F : FnOk X.prog X.w X.K X.mg X.base CX k f fd ps sp) (hr : Room k X.A) (hg : Gl X x) (hm : X.mg x = some (.ref f)) (hk : PySem.W.keepIn X.K (.ref f) = true) (hb : KB X.K fd ps n ks) (hx : ∀ σ, PassesAt CX X σ (E σ))
    (ha : PA X (e :: es) t) (hkw : PK X kws tk) (hall : (backToKw pos (keywordEach kws X.env)).all (·.1.isSome) = true := by rfl) (hks : (backToKw pos (keywordEach kws X.env)).filterMap (·.1) = ks := by rfl)
    (hdb : (x == ("__debug__" : Str)) = false := by decide) (he : starEach (e :: es) X.env = (false, eval e X.env) :: starEach es X.env := by rfl)
    (hpl : ((backTo pos (starEach (e :: es) X.env)).any (·.1) || (backToKw pos (keywordEach kws X.env)).any (·.1.isNone)) = false := by rfl) :
    PE X (.Call (.Name x p) (e :: es) kws pos) (tCallKS n ks.length sp E t tk) := by
  refine ⟨fun pins s σ H Q I h => ?_⟩
  refine wpAny_Call_Name_kw (ld_glob I hg hm ?_ hdb)
  refine PySem.W.callWith_KW (h₀ := X.base) I.ok.mod.kin hk hall (thn (ha.run pos pins s σ H _ I h) fun us s1 ⟨vs, H1, I1, r, q⟩ => ?_) hpl he
  refine thn (hkw.run pos pins s1 σ H1 _ I1 q) fun ws s2 ⟨zs, H2, I2, rz, l1, l2, q2⟩ => ⟨I2.kIn, ?_⟩
  rw [hks]
  exact run_fnKS F hr hb (hx σ) I2 r rz l1 l2 q2
end
end KWC
namespace K3
open PySem PySem.Spec PyProof.Rows L2 K1
def topS (i : Nat) : Stmt := PySem.Challenge.pw_packedforms_k06_reaches.main.body.getD i (.Pass ⟨0, 0, 0, 0⟩)
end K3
namespace K3
open PySem PySem.Spec PyProof.Rows L2 K1
/-! ### plain looks at any thing -/
def isW (d : PyData) : Bool := isI d && !isB d
def valI : PyData → Int
  | .int i => i
  | _ => 0
theorem isW_int {d : PyData} (h : isW d = true) : d = .int (valI d) := by
  cases d <;> first | rfl | cases h
def btw (d : PyData) (lo hi : Int) : Bool := isW d && (decide (lo ≤ valI d) && decide (valI d ≤ hi))
theorem btw_iff {d : PyData} {lo hi : Int} : btw d lo hi = true ↔ isW d = true ∧ lo ≤ valI d ∧ valI d ≤ hi := by
  unfold btw
  rw [Bool.and_eq_true, Bool.and_eq_true, decide_eq_true_eq, decide_eq_true_eq]
def tupN (d : PyData) (m : Int) : Bool := match d with
  | .tuple ds => decide ((ds.length : Int) = m)
  | _ => false
theorem dp_int {K : PySem.W.Frag} {H : Hp} {v : V} {i : Int} (h : Dp K H v (.int i)) : v = .int i := by cases h; rfl
theorem dp_str {K : PySem.W.Frag} {H : Hp} {v : V} {z : Str} (h : Dp K H v (.str z)) : v = .str z := by cases h; rfl
theorem dp_tup {K : PySem.W.Frag} {H : Hp} {v : V} {ds : List PyData} (h : Dp K H v (.tuple ds)) : ∃ a xs, v = .ref a ∧ SqT K H a xs ∧ DpAll K H xs ds := by
  cases h with
  | tup hs ha => exact ⟨_, _, rfl, hs, ha⟩
abbrev s_is_whole : Stmt := topS 9
abbrev nm_is_whole : List Str := ["thing"]
abbrev pm_is_whole : List Str := ["thing"]
theorem sc_is_whole : FnScope nm_is_whole pm_is_whole (defScope s_is_whole) := ⟨rfl, rfl, rfl, by decide +kernel, rfl, by decide +kernel, by decide +kernel⟩
abbrev s_is_between : Stmt := topS 10
abbrev nm_is_between : List Str := ["thing", "least", "most"]
abbrev pm_is_between : List Str := ["thing", "least", "most"]
theorem sc_is_between : FnScope nm_is_between pm_is_between (defScope s_is_between) := ⟨rfl, rfl, rfl, by decide +kernel, rfl, by decide +kernel, by decide +kernel⟩
abbrev s_is_tuple_of : Stmt := topS 11
abbrev nm_is_tuple_of : List Str := ["thing", "many"]
abbrev pm_is_tuple_of : List Str := ["thing", "many"]
theorem sc_is_tuple_of : FnScope nm_is_tuple_of pm_is_tuple_of (defScope s_is_tuple_of) := ⟨rfl, rfl, rfl, by decide +kernel, rfl, by decide +kernel, by decide +kernel⟩
section
variable {P : Program} {w : World} {K : PySem.W.Frag} {mg : Str → Option Value} {base : Heap}
def sp_is_whole (K : PySem.W.Frag) : Sp := fun vs H Q _ => ∃ (v : V) (d : PyData), vs = [v] ∧ Dp K H v d ∧ pl d = true ∧ Q (.bl (isW d)) H
theorem ok_is_whole {f : Addr} {fd : FuncData} (F : Fun K "is_whole" "is_whole" s_is_whole f fd) (m_isinstance : mg "isinstance" = none) (m_int : mg "int" = none) (m_bool : mg "bool" = none) : FnOk P w K mg base CX0 1 f fd pm_is_whole (sp_is_whole K) := by
  refine F.ok sc_is_whole (fun vs H Q E h => ?_) (fun cdv A outer s H vs Q E hr h => ?_)
  · obtain ⟨v, d, rfl, _⟩ := h
    rfl
  · obtain ⟨v, d, rfl, hv, pd, q⟩ := h
    refine ⟨_, pss_one (ps_ret (pe_and (pe_callB call_isi (by rfl) m_isinstance (by decide +kernel) (pa_cons (pv 0) (pa_cons (pe_bltn (v := .ty "int") (by rfl) m_int (show bootBuiltins "int" = some (.type "int") by decide +kernel) rfl) pa_nil))) (pe_one (pe_not (pe_callB call_isi (by rfl) m_isinstance (by decide +kernel) (pa_cons (pv 0) (pa_cons (pe_bltn (v := .ty "bool") (by rfl) m_bool (show bootBuiltins "bool" = some (.type "bool") by decide +kernel) rfl) pa_nil))))))), ?_⟩
    refine ⟨v, rfl, v, _, _, _, isI d, rfl, .ty "int", dp_ty hv pd, kit_ty (kI d), isI d, rfl, ite2 (fun c => ?_) (fun c => ?_)⟩
    · refine ⟨v, rfl, v, _, _, _, isB d, rfl, .ty "bool", dp_ty hv pd, kit_ty (kB d), isB d, rfl, ?_⟩
      have e : isW d = !isB d := by unfold isW; rw [c]; rfl
      rw [← e]
      exact q
    · have e : isW d = false := by unfold isW; rw [Bool.eq_false_iff.mpr c]; rfl
      rw [e] at q
      exact q
def sp_is_between (K : PySem.W.Frag) : Sp := fun vs H Q _ => ∃ (v : V) (d : PyData) (lo hi : Int), vs = [v, .int lo, .int hi] ∧ Dp K H v d ∧ pl d = true ∧ Q (.bl (btw d lo hi)) H
theorem ok_is_between {f : Addr} {fd : FuncData} (F : Fun K "is_between" "is_between" s_is_between f fd) (C_is_whole : Cal P w K mg base "is_whole" pm_is_whole 1 (sp_is_whole K)) : FnOk P w K mg base CX0 2 f fd pm_is_between (sp_is_between K) := by
  obtain ⟨f_is_whole, fd_is_whole, G_is_whole, g_is_whole, k_is_whole, b_is_whole⟩ := C_is_whole.ex
  refine F.ok sc_is_between (fun vs H Q E h => ?_) (fun cdv A outer s H vs Q E hr h => ?_)
  · obtain ⟨v, d, lo, hi, rfl, _⟩ := h
    rfl
  · obtain ⟨v, d, lo, hi, rfl, hv, pd, q⟩ := h
    have rm : ∀ {j : Nat}, j ≤ 1 → Room j (A.deeper (envOfC "is_between" (defScope s_is_between) s.heap.objs.size f cdv)) := fun hj => hr.mono hj
    refine ⟨_, pss_one (ps_ret (pe_and (pe_call G_is_whole (rm (by decide)) (by rfl) g_is_whole k_is_whole b_is_whole .nil pass0 (pa_cons (pv 0) pa_nil)) (pe_one (pe_chain op_le op_le (pv 1) (pv 0) (pv 2))))), ?_⟩
    refine ⟨v, rfl, v, d, rfl, hv, pd, isW d, rfl, ite2 (fun c => ?_) (fun c => ?_)⟩
    · have ed := isW_int c
      have e : btw d lo hi = (decide (lo ≤ valI d) && decide (valI d ≤ hi)) := by unfold btw; rw [c]; rfl
      rw [e] at q
      generalize valI d = i at ed q
      subst ed
      have ev := dp_int hv
      subst ev
      refine ⟨.int lo, rfl, .int i, rfl, _, _, rfl, rfl, _, rfl, ite2 (fun c1 => ?_) (fun c1 => ?_)⟩
      · refine ⟨.int hi, rfl, _, _, rfl, rfl, ?_⟩
        have c1' : decide (lo ≤ i) = true := c1
        rw [c1', Bool.true_and] at q
        exact q
      · have c1' : decide (lo ≤ i) = false := Bool.eq_false_iff.mpr c1
        rw [c1', Bool.false_and] at q
        exact q
    · have e : btw d lo hi = false := by unfold btw; rw [Bool.eq_false_iff.mpr c]; rfl
      rw [e] at q
      exact q
def sp_is_tuple_of (K : PySem.W.Frag) : Sp := fun vs H Q _ => ∃ (v : V) (d : PyData) (m : Int), vs = [v, .int m] ∧ Dp K H v d ∧ pl d = true ∧ Q (.bl (tupN d m)) H
theorem ok_is_tuple_of {f : Addr} {fd : FuncData} (F : Fun K "is_tuple_of" "is_tuple_of" s_is_tuple_of f fd) (m_isinstance : mg "isinstance" = none) (m_tuple : mg "tuple" = none) (m_len : mg "len" = none) : FnOk P w K mg base CX0 1 f fd pm_is_tuple_of (sp_is_tuple_of K) := by
  refine F.ok sc_is_tuple_of (fun vs H Q E h => ?_) (fun cdv A outer s H vs Q E hr h => ?_)
  · obtain ⟨v, d, m, rfl, _⟩ := h
    rfl
  · obtain ⟨v, d, m, rfl, hv, pd, q⟩ := h
    refine ⟨_, pss_one (ps_ret (pe_and (pe_callB call_isi (by rfl) m_isinstance (by decide +kernel) (pa_cons (pv 0) (pa_cons (pe_bltn (v := .ty "tuple") (by rfl) m_tuple (show bootBuiltins "tuple" = some (.type "tuple") by decide +kernel) rfl) pa_nil))) (pe_one (pe_cmpR op_eq (pe_callB call_len_seq (by rfl) m_len PySem.boot_len (pa_cons (pv 0) pa_nil)) (pv 1) (nomark _))))), ?_⟩
    refine ⟨v, rfl, v, _, _, _, isT d, rfl, .ty "tuple", dp_ty hv pd, kit_ty (kT d), isT d, rfl, ite2 (fun c => ?_) (fun c => ?_)⟩
    · cases d with
      | tuple ds =>
        obtain ⟨a, xs, rfl, hs, ha⟩ := dp_tup hv
        have hl := dpAll_len ha
        refine ⟨.ref a, rfl, a, xs, rfl, .inr hs, .int m, rfl, rfl, ?_⟩
        have e : decide (V.int (xs.length : Int) = V.int m) = tupN (.tuple ds) m := by
          show _ = decide ((ds.length : Int) = m)
          by_cases z : (ds.length : Int) = m
          · rw [decide_eq_true z, decide_eq_true (by rw [hl, z])]
          · rw [decide_eq_false z, decide_eq_false fun z' => z (by rw [← hl]; exact V.int.inj z')]
        rw [e]
        exact q
      | _ => cases c
    · have e : tupN d m = false := by
        cases d <;> first | rfl | exact absurd rfl c
      rw [e] at q
      exact q
end
end K3
namespace K3
open PySem PySem.Spec PyProof.Rows L2 K1
/-! ### names -/
abbrev abc : Str := "abcdefghijklmnopqrstuvwxyz"
def nameS (z : Str) : Bool := (decide (1 ≤ z.length) && decide (z.length ≤ 12)) && z.cps.toList.all fun c => decide (c ∈ abc.cps.toList)
def nameB : PyData → Bool
  | .str z => nameS z
  | _ => false
abbrev s_is_name : Stmt := topS 29
abbrev nm_is_name : List Str := ["thing", "letter"]
abbrev pm_is_name : List Str := ["thing"]
theorem sc_is_name : FnScope nm_is_name pm_is_name (defScope s_is_name) := ⟨rfl, rfl, rfl, by decide +kernel, rfl, by decide +kernel, by decide +kernel⟩
abbrev s_name_fault : Stmt := topS 30
abbrev nm_name_fault : List Str := ["earlier", "thing", "place"]
abbrev pm_name_fault : List Str := ["earlier", "thing", "place"]
theorem sc_name_fault : FnScope nm_name_fault pm_name_fault (defScope s_name_fault) := ⟨rfl, rfl, rfl, by decide +kernel, rfl, by decide +kernel, by decide +kernel⟩
section
variable {P : Program} {w : World} {K : PySem.W.Frag} {mg : Str → Option Value} {base : Heap}
theorem walk_its (x : Str) : Walk (Its x) x.cps.size (fun _ => True) (fun i H v H' => H' = H ∧ ∃ c, x.cps[i]? = some c ∧ v = .str ⟨#[c]⟩) :=
  ⟨fun _ _ hi _ => hi, fun _ _ => Nat.le_refl _, fun _ _ _ _ _ _ y => y⟩
/-- any thing with texts of at most a million signs -/
def okT : PyData → Bool
  | .str z => decide (z.length ≤ 1000000)
  | _ => true
def sp_is_name (K : PySem.W.Frag) : Sp := fun vs H Q _ => ∃ (v : V) (d : PyData), vs = [v] ∧ Dp K H v d ∧ pl d = true ∧ okT d = true ∧ ∀ H', Same H H' → Q (.bl (nameB d)) H'
theorem ok_is_name {f : Addr} {fd : FuncData} (F : Fun K "is_name" "is_name" s_is_name f fd) (m_all : mg "all" = none) (m_isinstance : mg "isinstance" = none) (m_str : mg "str" = none) (m_len : mg "len" = none) {t_MOST_LETTERS : Nat} (g_MOST_LETTERS : mg "MOST_LETTERS" = some (.int 12 t_MOST_LETTERS)) {t_LETTERS : Nat} (g_LETTERS : mg "LETTERS" = some (.str "abcdefghijklmnopqrstuvwxyz" t_LETTERS)) : FnOk P w K mg base CX0 1 f fd pm_is_name (sp_is_name K) := by
  refine F.ok sc_is_name (fun vs H Q E h => ?_) (fun cdv A outer s H vs Q E hr h => ?_)
  · obtain ⟨v, d, rfl, _⟩ := h
    rfl
  · obtain ⟨v, d, rfl, hv, pd, ot, q⟩ := h
    refine ⟨_, pss_cons (ps_if (PW.pt (pw_or (pt_not (pt_val (pe_callB call_isi (by rfl) m_isinstance (by decide +kernel) (pa_cons (pv 0) (pa_cons (pe_bltn (v := .ty "str") (by rfl) m_str (show bootBuiltins "str" = some (.type "str") by decide +kernel) rfl) pa_nil))))) (pw_or1 (pt_not (pt_chain op_le op_le pe_int (pe_callB call_len_str (by rfl) m_len PySem.boot_len (pa_cons (pv 0) pa_nil)) (pe_glob (v := .int 12) (by rfl) g_MOST_LETTERS ⟨_, rfl⟩))))))
      (pss_one (ps_ret pe_bl)) pss_nil)
      (pss_one (ps_ret (pe_callB (cr_all rfl) (by rfl) m_all (by decide +kernel) (pa_cons (pe_lc (own := [("letter", 1)]) (g := gName 1) (tt := tYes) rfl sc_is_name.nd (pi_str (pv 0)) (blkOk_by (N := nm_is_name) (sc := defScope s_is_name) (by decide +kernel)) (fun _ _ _ _ _ => pg_name (i := 1) sc_is_name.nd rfl (Or.inl rfl)) (fun _ _ _ _ _ => pts_nil) (fun _ _ _ _ _ => (pe_cmpR op_inS (pv 1) (pe_glob (v := .str "abcdefghijklmnopqrstuvwxyz") (by rfl) g_LETTERS ⟨_, rfl⟩) (by rfl)))) pa_nil)))), ?_⟩
    refine ⟨v, rfl, v, _, _, _, isS d, rfl, .ty "str", dp_ty hv pd, kit_ty (kS d), isS d, rfl, ?_⟩
    cases d with
    | str z =>
      have ev := dp_str hv
      subst ev
      have hz : z.length ≤ 1000000 := of_decide_eq_true ot
      have hsl : z.length ≤ sizeLine := Nat.le_trans hz (by decide)
      refine iteF ?_
      have no : ¬ (1 ≤ z.length ∧ z.length ≤ 12) → nameB (.str z) = false := fun c => by
        show nameS z = false
        unfold nameS
        by_cases c1 : 1 ≤ z.length
        · rw [decide_eq_true c1, decide_eq_false fun c2 => c ⟨c1, c2⟩]
          rfl
        · rw [decide_eq_false c1]
          rfl
      refine ⟨.str z, rfl, z, rfl, hsl, _, _, rfl, rfl, _, rfl, ite2 (fun c1 => ?_) (fun c1 => ?_)⟩
      · have c1' : (1 : Int) ≤ (z.length : Int) := of_decide_eq_true c1
        refine ⟨_, _, rfl, rfl, _, rfl, ite2 (fun c2 => ?_) (fun c2 => ?_)⟩
        · have c2' : ¬ (z.length : Int) ≤ 12 := by
            have c3 : (!decide ((z.length : Int) ≤ 12)) = true := c2
            simpa using c3
          have e := no (by omega)
          rw [e] at q
          exact q H (Same.refl _)
        · have c2' : (z.length : Int) ≤ 12 := by
            have c3 : ¬ (!decide ((z.length : Int) ≤ 12)) = true := c2
            simpa using c3
          refine ⟨.str z, rfl, z, rfl, fun D hD => lc_it (walk_its z) (fun i H' => H' D = some (.lst (((z.cps.toList.take i).map fun c => decide (c ∈ abc.cps.toList)).map V.bl)) ∧ Same H H') ⟨upd_same, same_upd hD⟩ (fun _ _ _ _ => trivial) (fun i x H1 H2 hi hp hy => ?_) (fun H1 hp => ?_)⟩
          · obtain ⟨eD, s1⟩ := hp
            obtain ⟨rfl, c, hc, rfl⟩ := hy
            have ec : z.cps.toList[i]? = some c := by rw [Array.getElem?_toList]; exact hc
            refine ⟨rfl, ?_⟩
            dsimp only [tYes]
            refine iteT ?_
            refine ⟨.str ⟨#[c]⟩, rfl, c, abc, rfl, rfl, _, eD, ?_, ?_, ?_⟩
            · rw [List.length_map, List.length_map, List.length_take]
              have : z.cps.toList.length = z.length := by rw [Array.length_toList]; rfl
              exact Nat.lt_of_le_of_lt (show _ ≤ 1000 by omega) (by decide)
            · rw [List.take_add_one, ec, upd_same, List.map_append, List.map_append]
              rfl
            · intro b' o' e'
              rw [upd_ne (ne_of_none e' hD)]
              exact s1 b' o' e'
          · obtain ⟨eD, s1⟩ := hp
            have el : z.cps.toList.take z.cps.size = z.cps.toList := List.take_of_length_le (by rw [Array.length_toList]; exact Nat.le_refl _)
            rw [el] at eD
            refine ⟨D, _, rfl, .inl (.inl eD), ?_⟩
            have e : nameB (.str z) = (z.cps.toList.map fun c => decide (c ∈ abc.cps.toList)).all id := by
              show nameS z = _
              unfold nameS
              rw [decide_eq_true (show 1 ≤ z.length by omega), decide_eq_true (show z.length ≤ 12 by omega), List.all_map]
              rfl
            have q' := q H1 s1
            rw [e] at q'
            exact q'
      · have c1' : ¬ (1 : Int) ≤ (z.length : Int) := fun z' => c1 (decide_eq_true z')
        have e := no (by omega)
        rw [e] at q
        exact ⟨_, rfl, iteT (q H (Same.refl _))⟩
    | _ => exact iteT (q H (Same.refl _))
end
end K3
namespace K3
open PySem PySem.Spec PyProof.Rows L2 K1
/-! ### faults of names -/
def faD (p : PyData) (w : Str) : PyData := .tuple [p, .str w]
def nfM (names : List Str) (d p : PyData) : PyData := match d with
  | .str z => if nameS z = true then (if z ∈ names then faD p "twice" else .none) else faD p "name"
  | _ => faD p "name"
section
variable {P : Program} {w : World} {K : PySem.W.Frag} {mg : Str → Option Value} {base : Heap}
theorem sql_same {H H' : Hp} {a : Addr} {xs : List V} (s : Same H H') (h : SqL K H a xs) : SqL K H' a xs := by
  rcases h with (h | ⟨o, h⟩) | h
  · exact .inl (.inl (s _ _ h))
  · exact .inl (.inr ⟨o, s _ _ h⟩)
  · exact .inr h
theorem strs_flat (names : List Str) : (names.map V.str).all flatV = true := by
  rw [List.all_map]
  exact List.all_eq_true.mpr fun _ _ => rfl
theorem in_strs (names : List Str) (z : Str) : inV (.str z) (names.map V.str) = true ↔ z ∈ names := by
  unfold inV
  rw [List.any_map, List.any_eq_true]
  constructor
  · rintro ⟨x, hx, e⟩
    have e' : (x == z) = true := e
    rw [← eq_of_beq e']
    exact hx
  · intro h
    exact ⟨z, h, (beq_self_eq_true z : (z == z) = true)⟩
theorem dp_fa {H' : Hp} {pw : V} {p : PyData} {a : Addr} {z : Str} (hp : Dp K H' pw p) (ha : H' a = some (.tup [pw, .str z])) : Dp K H' (.ref a) (faD p z) :=
  .tup (.inl (.inl ha)) (.cons hp (.cons (.str _) .nil))
def sp_name_fault (K : PySem.W.Frag) : Sp := fun vs H Q _ => ∃ (e : Addr) (v pw : V) (names : List Str) (d p : PyData), vs = [.ref e, v, pw] ∧ SqL K H e (names.map V.str) ∧ Dp K H v d ∧ pl d = true ∧ okT d = true ∧ Dp K H pw p ∧ pl p = true ∧
  ∀ r H', Same H H' → Dp K H' r (nfM names d p) → Q r H'
theorem ok_name_fault {f : Addr} {fd : FuncData} (F : Fun K "name_fault" "name_fault" s_name_fault f fd) (C_is_name : Cal P w K mg base "is_name" pm_is_name 1 (sp_is_name K)) : FnOk P w K mg base CX0 2 f fd pm_name_fault (sp_name_fault K) := by
  obtain ⟨f_is_name, fd_is_name, G_is_name, g_is_name, k_is_name, b_is_name⟩ := C_is_name.ex
  refine F.ok sc_name_fault (fun vs H Q E h => ?_) (fun cdv A outer s H vs Q E hr h => ?_)
  · obtain ⟨e, v, pw, names, d, p, rfl, _⟩ := h
    rfl
  · obtain ⟨e, v, pw, names, d, p, rfl, he, hv, pd, ot, hp, pp, q⟩ := h
    have rm : ∀ {j : Nat}, j ≤ 1 → Room j (A.deeper (envOfC "name_fault" (defScope s_name_fault) s.heap.objs.size f cdv)) := fun hj => hr.mono hj
    refine ⟨_, pss_cons (ps_if (pt_not (pt_val (pe_call G_is_name (rm (by decide)) (by rfl) g_is_name k_is_name b_is_name .nil pass0 (pa_cons (pv 1) pa_nil))))
      (pss_one (ps_ret (pe_tup (pa_cons (pv 2) (pa_cons pe_str pa_nil))))) pss_nil)
      (pss_cons (ps_if (pt_cmpR op_in_seq (pv 1) (pv 0) (by rfl))
      (pss_one (ps_ret (pe_tup (pa_cons (pv 2) (pa_cons pe_str pa_nil))))) pss_nil)
      (pss_one (ps_ret pe_non))), ?_⟩
    refine ⟨v, rfl, v, d, rfl, hv, pd, ot, fun H1 s1 => ⟨_, rfl, ite2 (fun c => ?_) (fun c => ?_)⟩⟩
    · have c' : nameB d = false := by simpa using c
      have e1 : nfM names d p = faD p "name" := by
        cases d with
        | str z => exact if_neg (by rw [show nameS z = false from c']; decide)
        | _ => rfl
      refine ⟨pw, rfl, (by show 2 ≤ sizeLine; decide), fun a ha => q _ _ (s1.trans (same_upd ha)) ?_⟩
      rw [e1]
      exact dp_fa ((ts_same (s1.trans (same_upd ha))).dp p pw pp hp) upd_same
    · have c' : nameB d = true := by simpa using c
      cases d with
      | str z =>
        have ev := dp_str hv
        subst ev
        have e1 : nfM names (.str z) p = if z ∈ names then faD p "twice" else .none := by
          exact if_pos (show nameS z = true from c')
        rw [e1] at q
        have he1 : SqL K H1 e (names.map V.str) := sql_same s1 he
        refine ⟨.str z, rfl, .ref e, rfl, e, _, rfl, .inl he1, rfl, strs_flat names, _, rfl, ite2 (fun c2 => ?_) (fun c2 => ?_)⟩
        · have hm : z ∈ names := (in_strs names z).mp c2
          rw [if_pos hm] at q
          refine ⟨pw, rfl, (by show 2 ≤ sizeLine; decide), fun a ha => q _ _ (s1.trans (same_upd ha)) ?_⟩
          exact dp_fa ((ts_same (s1.trans (same_upd ha))).dp p pw pp hp) upd_same
        · rw [if_neg fun hm => c2 ((in_strs names z).mpr hm)] at q
          exact q _ _ s1 .non
      | _ => cases c'
end
end K3
namespace K3
open PySem PySem.Spec PyProof.Rows L2 K1
/-! ### a thing's own faults -/
def wlen (z : Str) : Option Nat :=
  if z = "nat" then some 2 else if z = "int" then some 2 else if z = "truth" then some 1 else if z = "record" then some 2 else if z = "variant" then some 2
  else if z = "row" then some 3 else if z = "maybe" then some 2 else if z = "box" then some 2 else if z = "use" then some 3 else if z = "hole" then some 2 else none
/-- the table of lengths, as it stands written -/
def KLen (K : PySem.W.Frag) (w : World) (a : Addr) : Prop := ∃ es n, KDict K w a es n ∧ ∀ z : Str, ∃ r, PySem.W.nsIn K a z = some r ∧ (match wlen z with
  | none => r = none
  | some m => ∃ t, r = some (.int (m : Int) t))
def ownM (d : PyData) (dep forms : Nat) : Nat × Option Str := match d with
  | .tuple (.str z :: rest) => (match wlen z with
    | none => (forms, some "kind")
    | some m => (forms + 1, if dep > 8 then some "deep" else if forms + 1 > 40 then some "forms" else if rest.length + 1 ≠ m then some "shape" else none))
  | _ => (forms, some "kind")
structure LkT (K : PySem.W.Frag) (C : Addr) : Prop where
  cl : Cls K C
  n1 : NoAttr K C "heads"
  n2 : NoAttr K C "holes"
  n3 : NoAttr K C "forms"
structure Lk where
  C : Addr
  hd : Addr
  ho : Addr
  heads : List (Str × Nat)
  holes : List Str
def headK (hs : List (Str × Nat)) : List (Key × V) := hs.map fun p => (Sum.inr p.1, V.int (p.2 : Int))
structure LkAt (K : PySem.W.Frag) (L : Lk) (H : Hp) (lk : Addr) (n : Nat) : Prop where
  t : LkT K L.C
  o : ∃ dx fs, H lk = some (.ins L.C dx fs) ∧ fs.lookup ("heads" : Str) = some (.ref L.hd) ∧ fs.lookup ("holes" : Str) = some (.ref L.ho) ∧ fs.lookup ("forms" : Str) = some (.int (n : Int)) ∧ fs.length ≤ 10
  h : H L.hd = some (.dK (headK L.heads))
  s : SqT K H L.ho (L.holes.map V.str)
/-- all but the look stays -/
def KBut (lk : Addr) (H H' : Hp) : Prop := ∀ b o, b ≠ lk → H b = some o → H' b = some o
theorem KBut.refl {lk : Addr} {H : Hp} : KBut lk H H := fun _ _ _ h => h
theorem KBut.trans {lk : Addr} {H H1 H2 : Hp} (a : KBut lk H H1) (b : KBut lk H1 H2) : KBut lk H H2 := fun c o n h => b c o n (a c o n h)
theorem KBut.of {lk : Addr} {H H' : Hp} (s : Same H H') : KBut lk H H' := fun b o _ e => s b o e
section
variable {K : PySem.W.Frag} {L : Lk} {H H' : Hp} {lk : Addr} {n : Nat}
theorem LkAt.same (x : LkAt K L H lk n) (s : Same H H') : LkAt K L H' lk n := by
  obtain ⟨t, ⟨dx, fs, e, r⟩, h, q⟩ := x
  exact ⟨t, ⟨dx, fs, s _ _ e, r⟩, s _ _ h, ts_same s _ _ q⟩
theorem LkAt.ts (x : LkAt K L H lk n) (k : KBut lk H H') : TS K H H' := fun a xs h => by
  obtain ⟨dx, fs, e, _⟩ := x.o
  have ne : ∀ o, H a = some o → (∀ C dx fs, o ≠ .ins C dx fs) → a ≠ lk := fun o eo n z => by
    rw [z, e] at eo
    exact n _ _ _ (Option.some.inj eo).symm
  rcases h with (h | ⟨o, h⟩) | h
  · exact .inl (.inl (k _ _ (ne _ h fun _ _ _ z => nomatch z) h))
  · exact .inl (.inr ⟨o, k _ _ (ne _ h fun _ _ _ z => nomatch z) h⟩)
  · exact .inr h
/-- one form more -/
theorem LkAt.more (x : LkAt K L H lk n) {dx : Addr} {fs : List (Str × V)} (e : H lk = some (.ins L.C dx fs)) (m : Nat) : LkAt K L (upd H lk (.ins L.C dx (putF "forms" (.int (m : Int)) fs))) lk m ∧ KBut lk H (upd H lk (.ins L.C dx (putF "forms" (.int (m : Int)) fs))) := by
  obtain ⟨dx', fs', e', l1, l2, l3, hl⟩ := x.o
  rw [e] at e'
  cases e'
  have k : KBut lk H (upd H lk (.ins L.C dx (putF "forms" (.int (m : Int)) fs))) := fun b o ne eb => by rw [upd_ne ne]; exact eb
  have hne : L.hd ≠ lk := fun z => by
    have := x.h
    rw [z, e] at this
    cases this
  have keys : ∀ fs : List (Str × V), (fs.lookup ("forms" : Str)).isSome = true → (putF "forms" (.int (m : Int)) fs).length = fs.length := by
    intro fs
    induction fs with
    | nil => intro h; cases h
    | cons p r ih =>
      intro h
      unfold putF
      by_cases c : p.1 = "forms"
      · rw [if_pos c]; rfl
      · rw [if_neg c, List.length_cons, List.length_cons, ih ?_]
        rw [List.lookup_cons] at h
        have : (("forms" : Str) == p.1) = false := by
          cases q : (("forms" : Str) == p.1) with
          | false => rfl
          | true => exact absurd (eq_of_beq q).symm c
        rw [this] at h
        exact h
  refine ⟨⟨x.t, ⟨dx, _, upd_same, ?_, ?_, ?_, ?_⟩, k _ _ hne x.h, x.ts k _ _ x.s⟩, k⟩
  · rw [lookup_putF, if_neg (by decide)]; exact l1
  · rw [lookup_putF, if_neg (by decide)]; exact l2
  · rw [lookup_putF, if_pos rfl]
  · rw [keys _ (by rw [l3]; rfl)]; exact hl
end
abbrev s_own_fault : Stmt := topS 31
abbrev nm_own_fault : List Str := ["look", "thing", "depth"]
abbrev pm_own_fault : List Str := ["look", "thing", "depth"]
theorem sc_own_fault : FnScope nm_own_fault pm_own_fault (defScope s_own_fault) := ⟨rfl, rfl, rfl, by decide +kernel, rfl, by decide +kernel, by decide +kernel⟩
section
variable {P : Program} {w : World} {K : PySem.W.Frag} {mg : Str → Option Value} {base : Heap}
def wrdV : Option Str → V
  | none => .non
  | some z => .str z
def sp_own_fault (K : PySem.W.Frag) : Sp := fun vs H Q _ => ∃ (L : Lk) (lk : Addr) (v : V) (d : PyData) (dep n : Nat), vs = [.ref lk, v, .int (dep : Int)] ∧ LkAt K L H lk n ∧ Dp K H v d ∧ pl d = true ∧
  ∀ H', LkAt K L H' lk (ownM d dep n).1 → KBut lk H H' → Q (wrdV (ownM d dep n).2) H'
theorem ok_own_fault {f : Addr} {fd : FuncData} (F : Fun K "own_fault" "own_fault" s_own_fault f fd) (m_len : mg "len" = none) (m_isinstance : mg "isinstance" = none) (m_tuple : mg "tuple" = none) (m_str : mg "str" = none) {t_MOST_DEPTH : Nat} (g_MOST_DEPTH : mg "MOST_DEPTH" = some (.int 8 t_MOST_DEPTH)) {t_MOST_FORMS : Nat} (g_MOST_FORMS : mg "MOST_FORMS" = some (.int 40 t_MOST_FORMS)) {a_LENGTHS : Addr} (g_LENGTHS : mg "LENGTHS" = some (.ref a_LENGTHS)) (D_LENGTHS : KLen K w a_LENGTHS) : FnOk P w K mg base CX0 1 f fd pm_own_fault (sp_own_fault K) := by
  refine F.ok sc_own_fault (fun vs H Q E h => ?_) (fun cdv A outer s H vs Q E hr h => ?_)
  · obtain ⟨L, lk, v, d, dep, n, rfl, _⟩ := h
    rfl
  · obtain ⟨L, lk, v, d, dep, n, rfl, hL, hv, pd, q⟩ := h
    obtain ⟨es, nL, D_LENGTHS, hLen⟩ := D_LENGTHS
    refine ⟨_, pss_cons (ps_if (PW.pt (pw_or (pt_not (pt_val (pe_callB call_isi (by rfl) m_isinstance (by decide +kernel) (pa_cons (pv 1) (pa_cons (pe_bltn (v := .ty "tuple") (by rfl) m_tuple (show bootBuiltins "tuple" = some (.type "tuple") by decide +kernel) rfl) pa_nil))))) (pw_or1 (pt_not (pt_truth (pv 1) (by intro _; rfl))))))
      (pss_one (ps_ret pe_str)) pss_nil)
      (pss_cons (ps_if (PW.pt (pw_or (pt_not (pt_val (pe_callB call_isi (by rfl) m_isinstance (by decide +kernel) (pa_cons (pe_ix ix_tup (pv 1) pe_int (fun _ _ => rfl)) (pa_cons (pe_bltn (v := .ty "str") (by rfl) m_str (show bootBuiltins "str" = some (.type "str") by decide +kernel) rfl) pa_nil))))) (pw_or1 (pt_cmpR (op_notIn_kd D_LENGTHS) (pe_ix ix_tup (pv 1) pe_int (fun _ _ => rfl)) (pe_glob (v := .ref a_LENGTHS) (by rfl) g_LENGTHS rfl) (by rfl)))))
      (pss_one (ps_ret pe_str)) pss_nil)
      (pss_cons (ps_fldaug (pv 0) pe_int in_add)
      (pss_cons (ps_if (pt_cmpR op_gt (pv 2) (pe_glob (v := .int 8) (by rfl) g_MOST_DEPTH ⟨_, rfl⟩) (nomark _))
      (pss_one (ps_ret pe_str)) pss_nil)
      (pss_cons (ps_if (pt_cmpR op_gt (pe_fld (pv 0) rfl) (pe_glob (v := .int 40) (by rfl) g_MOST_FORMS ⟨_, rfl⟩) (nomark _))
      (pss_one (ps_ret pe_str)) pss_nil)
      (pss_cons (ps_if (pt_cmpR op_ne (pe_callB call_len_seq (by rfl) m_len PySem.boot_len (pa_cons (pv 1) pa_nil)) (pe_ix ix_kdict (pe_glob (v := .ref a_LENGTHS) (by rfl) g_LENGTHS rfl) (pe_ix ix_tup (pv 1) pe_int (fun _ _ => rfl)) (fun _ _ => rfl)) (nomark _))
      (pss_one (ps_ret pe_str)) pss_nil)
      (pss_one (ps_ret pe_non))))))), ?_⟩
    refine ⟨v, rfl, v, _, _, _, isT d, rfl, .ty "tuple", dp_ty hv pd, kit_ty (kT d), isT d, rfl, ?_⟩
    have bad : ownM d dep n = (n, some ("kind" : Str)) → Q (.str "kind") H := fun e => by
      have q' := q H
      rw [e] at q'
      exact q' hL KBut.refl
    cases d with
    | tuple ds =>
      obtain ⟨a, xs, rfl, hs, ha⟩ := dp_tup hv
      refine iteF ?_
      cases ha with
      | nil => exact ⟨.ref a, rfl, _, .inr (.inl ⟨_, hs, rfl⟩), iteT (bad rfl)⟩
      | @cons v0 vr x rest h0 hr0 =>
      have px : pl x = true := plA_mem (show plA (x :: rest) = true from pd) (List.mem_cons_self ..)
      refine ⟨.ref a, rfl, _, .inr (.inl ⟨_, hs, rfl⟩), iteF ?_⟩
      refine ⟨.ref a, rfl, a, _, 0, v0, rfl, rfl, hs, atI_nat (j := 0) rfl, v0, _, _, _, isS x, rfl, .ty "str", dp_ty h0 px, kit_ty (kS x), isS x, rfl, ?_⟩
      cases x with
      | str z =>
        have ev := dp_str h0
        subst ev
        obtain ⟨r, hr1, hr2⟩ := hLen z
        refine iteF ⟨.ref a, rfl, a, _, 0, .str z, rfl, rfl, hs, atI_nat (j := 0) rfl, z, r, rfl, rfl, hr1, _, rfl, ?_⟩
        cases hw : wlen z with
        | none =>
          rw [hw] at hr2
          subst hr2
          refine iteT (bad ?_)
          show (match wlen z with | none => (n, some ("kind" : Str)) | some m => _) = _
          rw [hw]
        | some m =>
          rw [hw] at hr2
          obtain ⟨t, rfl⟩ := hr2
          refine iteF ?_
          obtain ⟨dx, fs, e, l1, l2, l3, hl⟩ := hL.o
          have hown : ownM (.tuple (.str z :: rest)) dep n = (n + 1, if dep > 8 then some ("deep" : Str) else if n + 1 > 40 then some ("forms" : Str) else if rest.length + 1 ≠ m then some ("shape" : Str) else none) := by
            show (match wlen z with | none => (n, some ("kind" : Str)) | some m => _) = _
            rw [hw]
          rw [hown] at q
          refine ⟨.ref lk, rfl, lk, L.C, dx, fs, .int (n : Int), rfl, e, hL.t.cl, hL.t.n3, l3, _, _, rfl, rfl, dx, fs, e, by omega, ?_⟩
          have hm := hL.more e (n + 1)
          have e1 : ((n : Int) + 1) = ((n + 1 : Nat) : Int) := by omega
          rw [e1]
          obtain ⟨hL2, kb⟩ := hm
          generalize upd H lk (.ins L.C dx (putF "forms" (.int ((n + 1 : Nat) : Int)) fs)) = H2 at hL2 kb ⊢
          refine ⟨.int (dep : Int), rfl, _, _, rfl, rfl, _, rfl, ite2 (fun c => ?_) (fun c => ?_)⟩
          · have c' : (8 : Int) < (dep : Int) := of_decide_eq_true c
            have q' := q H2 hL2 kb
            rw [if_pos (show dep > 8 by omega)] at q'
            exact q'
          have c' : ¬ (8 : Int) < (dep : Int) := fun z' => c (decide_eq_true z')
          rw [if_neg (show ¬ dep > 8 by omega)] at q
          obtain ⟨dx2, fs2, e2, l12, l22, l32, hl2⟩ := hL2.o
          refine ⟨.ref lk, rfl, lk, L.C, dx2, fs2, _, rfl, e2, hL.t.cl, hL.t.n3, l32, _, _, rfl, rfl, _, rfl, ite2 (fun c2 => ?_) (fun c2 => ?_)⟩
          · have c2' : (40 : Int) < ((n + 1 : Nat) : Int) := of_decide_eq_true c2
            have q' := q H2 hL2 kb
            rw [if_pos (show n + 1 > 40 by omega)] at q'
            exact q'
          have c2' : ¬ (40 : Int) < ((n + 1 : Nat) : Int) := fun z' => c2 (decide_eq_true z')
          rw [if_neg (show ¬ n + 1 > 40 by omega)] at q
          have hs2 := hL.ts kb _ _ hs
          have lr := dpAll_len hr0
          refine ⟨.ref a, rfl, a, _, rfl, .inr hs2, .ref a, rfl, a, _, 0, .str z, rfl, rfl, hs2, atI_nat (j := 0) rfl, _, z, .int (m : Int), rfl, rfl, ⟨es, nL, _, D_LENGTHS.at_, D_LENGTHS.lit, hr1, t, rfl⟩, rfl, _, rfl, ite2 (fun c3 => ?_) (fun c3 => ?_)⟩
          · have q' := q H2 hL2 kb
            have c3' : ¬ rest.length + 1 = m := fun z' => by
              have c4 : (!decide (V.int (((V.str z :: vr).length : Nat) : Int) = V.int (m : Int))) = true := c3
              rw [decide_eq_true (by rw [List.length_cons, lr, z'])] at c4
              cases c4
            rw [if_pos c3'] at q'
            exact q'
          · have q' := q H2 hL2 kb
            have c3' : rest.length + 1 = m := by
              have c4 : ¬ (!decide (V.int (((V.str z :: vr).length : Nat) : Int) = V.int (m : Int))) = true := c3
              have c5 : V.int (((V.str z :: vr).length : Nat) : Int) = V.int (m : Int) := by simpa using c4
              have c6 := V.int.inj c5
              rw [List.length_cons, lr] at c6
              omega
            rw [if_neg (fun z' => z' c3')] at q'
            exact q'
      | _ => exact iteT (bad rfl)
    | _ => exact iteT (bad rfl)
end
end K3
namespace K3
open PySem PySem.Spec PyProof.Rows L2 K1
/-! ### the faults of a thing as a kind -/
abbrev Fa := Option (List Int × Str)
def plD (p : List Int) : PyData := .tuple (p.map PyData.int)
def resD : Fa → PyData
  | none => .none
  | some (p, z) => faD (plD p) z
mutual
def okD : PyData → Bool
  | .str z => decide (z.length ≤ 1000000)
  | .tuple ds => okA ds
  | _ => true
def okA : List PyData → Bool
  | [] => true
  | d :: r => okD d && okA r
end
theorem okA_mem : ∀ {ds : List PyData} {d : PyData}, okA ds = true → d ∈ ds → okD d = true
  | x :: r, d, h, hm => by
    have h' : okD x = true ∧ okA r = true := by simpa [okA] using h
    rcases List.mem_cons.mp hm with rfl | hm
    · exact h'.1
    · exact okA_mem h'.2 hm
theorem okD_T {d : PyData} (h : okD d = true) : okT d = true := by
  cases d <;> first | rfl | (simpa [okD, okT] using h)
def nfO (names : List Str) : PyData → Option Str
  | .str z => if nameS z = true then (if z ∈ names then some "twice" else none) else some "name"
  | _ => some "name"
def strO : PyData → Str
  | .str z => z
  | _ => ""
theorem nfM_O (names : List Str) (d p : PyData) : nfM names d p = (match nfO names d with | none => .none | some z => faD p z) := by
  cases d with
  | str z =>
    show (if nameS z = true then _ else _) = _
    unfold nfO
    by_cases c : nameS z = true
    · simp only [if_pos c]
      by_cases c2 : z ∈ names
      · simp only [if_pos c2]
      · simp only [if_neg c2]
    · simp only [if_neg c]
  | _ => rfl
abbrev Rk := PyData → List Int → Nat → Nat × Fa
def ptsM (rc : Rk) (p : List Int) : List PyData → Nat → List Str → Nat → Nat × Fa
  | [], _, _, f => (f, none)
  | d :: r, j, names, f => match d with
    | .tuple [a, b] => (match nfO names a with
      | some z => (f, some (p ++ [1, (j : Int)] ++ [0], z))
      | none => (match rc b (p ++ [1, (j : Int)] ++ [1]) f with
        | (f', some x) => (f', some x)
        | (f', none) => ptsM rc p r (j + 1) (names ++ [strO a]) f'))
    | _ => (f, some (p ++ [1, (j : Int)], "part"))
def filM (rc : Rk) (p : List Int) : List PyData → Nat → Nat → Nat × Fa
  | [], _, f => (f, none)
  | d :: r, j, f => match rc d (p ++ [2, (j : Int)]) f with
    | (f', some x) => (f', some x)
    | (f', none) => filM rc p r (j + 1) f'
def paM (least : Nat) (rc : Rk) (a : PyData) (p : List Int) (f : Nat) : Nat × Fa := match a with
  | .tuple ds => if least ≤ ds.length ∧ ds.length ≤ 8 then ptsM rc p ds 0 [] f else (f, some (p ++ [1], "many"))
  | _ => (f, some (p ++ [1], "parts"))
def hdLk (hs : List (Str × Nat)) (z : Str) : Option Nat := (hs.find? fun q => decide (q.1 = z)).map (·.2)
def flM (m : Nat) (rc : Rk) (b : PyData) (p : List Int) (f : Nat) : Nat × Fa := match b with
  | .tuple ds => if ds.length = m then filM rc p ds 0 f else (f, some (p ++ [2], "fills"))
  | _ => (f, some (p ++ [2], "fills"))
def usM (hs : List (Str × Nat)) (rc : Rk) (a b : PyData) (p : List Int) (f : Nat) : Nat × Fa := match a with
  | .str z => (match hdLk hs z with
    | none => (f, some (p ++ [1], "unknown"))
    | some m => flM m rc b p f)
  | _ => (f, some (p ++ [1], "unknown"))
def holB (ho : List Str) : PyData → Bool
  | .str z => decide (z ∈ ho)
  | _ => false
def inM (hs : List (Str × Nat)) (ho : List Str) (rc : Rk) (z : Str) (a b : PyData) (p : List Int) (f : Nat) : Nat × Fa :=
  if z = "record" then paM 0 rc a p f
  else if z = "variant" then paM 1 rc a p f
  else if z = "use" then usM hs rc a b p f
  else if z = "row" then (if btw a 1 16 = true then rc b (p ++ [2]) f else (f, some (p ++ [1], "many")))
  else if z = "maybe" ∨ z = "box" then rc a (p ++ [1]) f
  else if z = "hole" then (f, if holB ho a = true then none else some (p ++ [1], "hole"))
  else if z = "truth" then (f, none)
  else (f, if btw a 1 64 = true then none else some (p ++ [1], "bits"))
def kfM (hs : List (Str × Nat)) (ho : List Str) : Nat → PyData → List Int → Nat → Nat → Nat × Fa
  | 0, _, _, _, f => (f, none)
  | k + 1, d, p, dep, f => match ownM d dep f with
    | (f', some z) => (f', some (p, z))
    | (f', none) => (match d with
      | .tuple (.str z :: r) => inM hs ho (fun d' p' g => kfM hs ho k d' p' (dep + 1) g) z (r.getD 0 .none) (r.getD 1 .none) p f'
      | _ => (f', none))
abbrev s_kind_fault : Stmt := topS 32
abbrev nm_kind_fault : List Str := ["look", "thing", "place", "depth", "why", "word", "may_stand"]
abbrev pm_kind_fault : List Str := ["look", "thing", "place", "depth"]
theorem sc_kind_fault : FnScope nm_kind_fault pm_kind_fault (defScope s_kind_fault) := ⟨rfl, rfl, rfl, by decide +kernel, rfl, by decide +kernel, by decide +kernel⟩
abbrev s_parts_fault : Stmt := topS 33
abbrev nm_parts_fault : List Str := ["look", "thing", "place", "depth", "least", "names", "number", "pair", "at", "fault"]
abbrev pm_parts_fault : List Str := ["look", "thing", "place", "depth"]
theorem sc_parts_fault : FnScope nm_parts_fault pm_parts_fault (defScope s_parts_fault) := ⟨rfl, rfl, rfl, by decide +kernel, rfl, by decide +kernel, by decide +kernel⟩
abbrev s_use_fault : Stmt := topS 34
abbrev nm_use_fault : List Str := ["look", "thing", "place", "depth", "number", "each", "fault"]
abbrev pm_use_fault : List Str := ["look", "thing", "place", "depth"]
theorem sc_use_fault : FnScope nm_use_fault pm_use_fault (defScope s_use_fault) := ⟨rfl, rfl, rfl, by decide +kernel, rfl, by decide +kernel, by decide +kernel⟩
section
variable {P : Program} {w : World} {K : PySem.W.Frag} {mg : Str → Option Value} {base : Heap}
theorem ints_dp {H : Hp} : ∀ p : List Int, DpAll K H (p.map V.int) (p.map PyData.int)
  | [] => .nil
  | x :: r => .cons (.int x) (ints_dp r)
theorem pl_plD (p : List Int) : pl (plD p) = true := plA_of fun d h => by
  obtain ⟨x, _, rfl⟩ := List.mem_map.mp h
  rfl
theorem dp_plD {H : Hp} {a : Addr} {p : List Int} (h : SqT K H a (p.map V.int)) : Dp K H (.ref a) (plD p) := .tup h (ints_dp p)
/-- what a look at a thing promises: rc tells the count and the fault -/
def Looked (K : PySem.W.Frag) (L : Lk) (lk : Addr) (H : Hp) (rs : Nat × Fa) (Q : VK) : Prop := ∀ r H', LkAt K L H' lk rs.1 → KBut lk H H' → Dp K H' r (resD rs.2) → Q r H'
theorem ifC {b : Bool} {x y : V} {σ : L2.St} {H : Hp} {Q : VK} (h : ∀ v, v = (if b = true then x else y) → Q v H) : if b = true then tC x σ H Q else tC y σ H Q := by
  cases b with
  | true => exact h x rfl
  | false => exact h y rfl
theorem ifN {x : V} {p q : Prop} (ne : x ≠ .non) (h : q) : if decide (x = .non) = true then p else q := by
  rw [decide_eq_false ne]
  exact iteF h
theorem ifNN {x : V} {p q : Prop} (ne : x ≠ .non) (h : p) : if (!decide (x = .non)) = true then p else q := by
  rw [decide_eq_false ne]
  exact iteT h
/-- all but one list stays -/
def Same' (nm : Addr) (H H' : Hp) : Prop := ∀ b o, b ≠ nm → H b = some o → H' b = some o
theorem LkAt.lst {L : Lk} {H H' : Hp} {lk nm : Addr} {n : Nat} {xs : List V} (x : LkAt K L H lk n) (e : H nm = some (.lst xs)) (k : Same' nm H H') : LkAt K L H' lk n := by
  obtain ⟨t, ⟨dx, fs, e1, r⟩, h, q⟩ := x
  have ne : ∀ b o, H b = some o → (∀ ys, o ≠ .lst ys) → b ≠ nm := fun b o eb nl z => by
    rw [z, e] at eb
    exact nl _ (Option.some.inj eb).symm
  refine ⟨t, ⟨dx, fs, k _ _ (ne _ _ e1 fun _ z => nomatch z) e1, r⟩, k _ _ (ne _ _ h fun _ z => nomatch z) h, ?_⟩
  rcases q with (q | ⟨o, q⟩) | q
  · exact .inl (.inl (k _ _ (ne _ _ q fun _ z => nomatch z) q))
  · exact .inl (.inr ⟨o, k _ _ (ne _ _ q fun _ z => nomatch z) q⟩)
  · exact .inr q
theorem pair_of {d : PyData} (h : tupN d 2 = true) : ∃ a b, d = .tuple [a, b] := by
  cases d with
  | tuple ds =>
    have h2 : (ds.length : Int) = 2 := of_decide_eq_true h
    match ds, h2 with
    | [a, b], _ => exact ⟨a, b, rfl⟩
    | [], h => exact absurd h (by simp)
    | [_], h => exact absurd h (by simp)
    | _ :: _ :: _ :: _, h => simp at h; omega
  | _ => cases h
theorem dp_faP {H' : Hp} {a t : Addr} {p : List Int} {z : Str} (hp : SqT K H' a (p.map V.int)) (ht : H' t = some (.tup [.ref a, .str z])) : Dp K H' (.ref t) (faD (plD p) z) := dp_fa (dp_plD hp) ht
/-- (place + (c,), 'z') -/
theorem fa1 {σ : L2.St} {H : Hp} {i : Nat} {pa : Addr} {p : List Int} {c : Int} {z : Str} {Q : VK} (hσ : σ[i]? = some (some (.ref pa))) (hp : SqT K H pa (p.map V.int)) (hl : p.length ≤ 1000)
    (q : ∀ r H', Same H H' → Dp K H' r (faD (plD (p ++ [c])) z) → Q r H') : tTup (tCons (tOp (rCatA K) (tVar i) (tTup (tCons (tC (.int c)) tNil))) (tCons (tC (.str z)) tNil)) σ H Q := by
  refine ⟨.ref pa, hσ, (by show 1 ≤ sizeLine; decide), fun t nt => ?_⟩
  have s1 : Same H (upd H t (.tup [.int c])) := same_upd nt
  refine catA_any (ts_same s1 _ _ hp) (.inl (.inl upd_same)) (by rw [List.length_map]; exact Nat.le_trans (show p.length + 1 ≤ 1001 by omega) (by decide)) fun r H2 s2 h2 => ?_
  refine ⟨(by show 2 ≤ sizeLine; decide), fun t3 n3 => q _ _ ((s1.trans s2).trans (same_upd n3)) ?_⟩
  have h2' : SqT K H2 r ((p ++ [c]).map V.int) := by rw [List.map_append]; exact h2
  exact dp_faP (ts_same (same_upd n3) _ _ h2') upd_same
def sp_kind_fault (K : PySem.W.Frag) (k : Nat) : Sp := fun vs H Q _ => ∃ (L : Lk) (lk pa : Addr) (v : V) (d : PyData) (p : List Int) (dep f : Nat), vs = [.ref lk, v, .ref pa, .int (dep : Int)] ∧ LkAt K L H lk f ∧ Dp K H v d ∧ pl d = true ∧ okD d = true ∧ SqT K H pa (p.map V.int) ∧ p.length + 4 * k ≤ 1000 ∧
  dep ≤ 9 ∧ 10 ≤ dep + k ∧ Looked K L lk H (kfM L.heads L.holes k d p dep f) Q
def sp_parts_fault (K : PySem.W.Frag) (k : Nat) : Sp := fun vs H Q _ => ∃ (L : Lk) (lk pa : Addr) (v : V) (z : Str) (a : PyData) (p : List Int) (dep f : Nat), vs = [.ref lk, v, .ref pa, .int (dep : Int)] ∧ LkAt K L H lk f ∧ (z = "record" ∨ z = "variant") ∧ Dp K H v (.tuple [.str z, a]) ∧ pl a = true ∧ okD a = true ∧
  SqT K H pa (p.map V.int) ∧ p.length + 4 * k + 4 ≤ 1000 ∧ dep ≤ 8 ∧ 10 ≤ dep + 1 + k ∧ Looked K L lk H (paM (if z = "variant" then 1 else 0) (fun d' p' g => kfM L.heads L.holes k d' p' (dep + 1) g) a p f) Q
theorem ok_parts_fault {f : Addr} {fd : FuncData} {k lv : Nat} (F : Fun K "parts_fault" "parts_fault" s_parts_fault f fd) (C_is_tuple_of : Cal P w K mg base "is_tuple_of" pm_is_tuple_of 1 (sp_is_tuple_of K)) (C_name_fault : Cal P w K mg base "name_fault" pm_name_fault 2 (sp_name_fault K))
    (C_kind_fault : Cal P w K mg base "kind_fault" pm_kind_fault lv (sp_kind_fault K k)) (m_isinstance : mg "isinstance" = none) (m_tuple : mg "tuple" = none) (m_len : mg "len" = none) (m_enumerate : mg "enumerate" = none) {t_MOST_PARTS : Nat} (g_MOST_PARTS : mg "MOST_PARTS" = some (.int 8 t_MOST_PARTS)) :
    FnOk P w K mg base CX0 (lv + 3) f fd pm_parts_fault (sp_parts_fault K k) := by
  obtain ⟨f_is_tuple_of, fd_is_tuple_of, G_is_tuple_of, g_is_tuple_of, k_is_tuple_of, b_is_tuple_of⟩ := C_is_tuple_of.ex
  obtain ⟨f_name_fault, fd_name_fault, G_name_fault, g_name_fault, k_name_fault, b_name_fault⟩ := C_name_fault.ex
  obtain ⟨f_kind_fault, fd_kind_fault, G_kind_fault, g_kind_fault, k_kind_fault, b_kind_fault⟩ := C_kind_fault.ex
  refine F.ok sc_parts_fault (fun vs H Q E h => ?_) (fun cdv A outer s H vs Q E hr h => ?_)
  · obtain ⟨L, lk, pa, v, z, a, p, dep, f, rfl, _⟩ := h
    rfl
  · obtain ⟨L, lk, pa, v, z, a, p, dep, n, rfl, hL, hz, hv, pla, oka, hp, hpl, hdep, hk, q⟩ := h
    refine ⟨_, pss_cons (ps_set (i := 4) sc_parts_fault.nd rfl (.inl rfl) (pe_ifExp (pt_cmpR op_eq (pe_ix ix_tup (pv 1) pe_int (fun _ _ => rfl)) pe_str (nomark _)) pe_int pe_int))
      (pss_cons (ps_if (pt_not (pt_val (pe_callB call_isi (by rfl) m_isinstance (by decide +kernel) (pa_cons (pe_ix ix_tup (pv 1) pe_int (fun _ _ => rfl)) (pa_cons (pe_bltn (v := .ty "tuple") (by rfl) m_tuple (show bootBuiltins "tuple" = some (.type "tuple") by decide +kernel) rfl) pa_nil)))))
      (pss_one (ps_ret (pe_tup (pa_cons (pe_op op_catA (pv 2) (pe_tup (pa_cons pe_int pa_nil))) (pa_cons pe_str pa_nil))))) pss_nil)
      (pss_cons (ps_if (pt_not (pt_chain op_le op_le (pv 4) (pe_callB call_len_seq (by rfl) m_len PySem.boot_len (pa_cons (pe_ix ix_tup (pv 1) pe_int (fun _ _ => rfl)) pa_nil)) (pe_glob (v := .int 8) (by rfl) g_MOST_PARTS ⟨_, rfl⟩)))
      (pss_one (ps_ret (pe_tup (pa_cons (pe_op op_catA (pv 2) (pe_tup (pa_cons pe_int pa_nil))) (pa_cons pe_str pa_nil))))) pss_nil)
      (pss_cons (ps_set (i := 5) sc_parts_fault.nd rfl (.inl rfl) (pe_lst pa_nil))
      (pss_cons (ps_for PassesOwn.never rfl (EN.pi_enumT (by rfl) m_enumerate (pa_cons (pe_ix ix_tup (pv 1) pe_int (fun _ _ => rfl)) pa_nil)) (pg_tup (by rfl) (pgs_cons (pg_name (i := 6) sc_parts_fault.nd rfl (.inl rfl)) (pgs_cons (pg_name (i := 7) sc_parts_fault.nd rfl (.inl rfl)) pgs_nil)))
      (pss_cons (ps_set (i := 8) sc_parts_fault.nd rfl (.inl rfl) (pe_op op_catA (pv 2) (pe_tup (pa_cons pe_int (pa_cons (pv 6) pa_nil)))))
      (pss_cons (ps_if (pt_not (pt_val (pe_call G_is_tuple_of (hr.mono (by omega)) (by rfl) g_is_tuple_of k_is_tuple_of b_is_tuple_of .nil pass0 (pa_cons (pv 7) (pa_cons pe_int pa_nil)))))
      (pss_one (ps_ret (pe_tup (pa_cons (pv 8) (pa_cons pe_str pa_nil))))) pss_nil)
      (pss_cons (ps_set (i := 9) sc_parts_fault.nd rfl (.inl rfl) (pe_call G_name_fault (hr.mono (by omega)) (by rfl) g_name_fault k_name_fault b_name_fault .nil pass0 (pa_cons (pv 5) (pa_cons (pe_ix ix_tup (pv 7) pe_int (fun _ _ => rfl)) (pa_cons (pe_op op_catA (pv 8) (pe_tup (pa_cons pe_int pa_nil))) pa_nil)))))
      (pss_cons (ps_if (pt_cmpR op_isN (pv 9) pe_non (nomark _))
      (pss_one (ps_set (i := 9) sc_parts_fault.nd rfl (.inl rfl) (pe_call G_kind_fault (hr.mono (by omega)) (by rfl) g_kind_fault k_kind_fault b_kind_fault .nil pass0 (pa_cons (pv 0) (pa_cons (pe_ix ix_tup (pv 7) pe_int (fun _ _ => rfl)) (pa_cons (pe_op op_catA (pv 8) (pe_tup (pa_cons pe_int pa_nil))) (pa_cons (pe_op op_add (pv 3) pe_int) pa_nil))))))) pss_nil)
      (pss_cons (ps_if (pt_cmpR op_notN (pv 9) pe_non (nomark _))
      (pss_one (ps_ret (pv 9))) pss_nil)
      (pss_one (ps_expr (pe_bm PySem.F.plainAttrs_list PySem.F.slot_list_append PySem.F.type_list_append mt_append (pv 5) (pa_cons (pe_ix ix_tup (pv 7) pe_int (fun _ _ => rfl)) pa_nil))))))))))
      (pss_one (ps_ret pe_non)))))), ?_⟩
    obtain ⟨tv, xs0, rfl, hs, hx⟩ := dp_tup hv
    cases hx with
    | @cons v0 _ _ _ hx0 hx1 =>
    cases hx1 with
    | @cons va _ _ _ hxa hx2 =>
    cases hx2
    have ev := dp_str hx0
    subst ev
    refine ⟨.ref tv, rfl, tv, _, 0, .str z, rfl, rfl, hs, atI_nat (j := 0) rfl, rfl, _, rfl, ?_⟩
    refine ifC fun lv hlv => ?_
    generalize hle : (if z = "variant" then 1 else 0) = least at q
    have hlv' : lv = .int (least : Int) := by
      rw [hlv, ← hle]
      by_cases c : z = "variant"
      · rw [if_pos c, if_pos (decide_eq_true (congrArg V.str c))]; rfl
      · rw [if_neg c, if_neg (fun z' => c (V.str.inj (of_decide_eq_true z')))]; rfl
    subst hlv'
    have hls : least ≤ 1 := by rw [← hle]; split <;> omega
    refine ⟨.ref tv, rfl, tv, _, 1, va, rfl, rfl, hs, atI_nat (j := 1) rfl, va, _, _, _, isT a, rfl, .ty "tuple", dp_ty hxa pla, kit_ty (kT a), isT a, rfl, ?_⟩
    cases a with
    | tuple ds =>
      obtain ⟨da, xs, rfl, hds, hxs⟩ := dp_tup hxa
      have hlen := dpAll_len hxs
      refine iteF ⟨.int (least : Int), rfl, .ref tv, rfl, tv, _, 1, .ref da, rfl, rfl, hs, atI_nat (j := 1) rfl, da, _, rfl, .inr hds, _, _, rfl, rfl, _, rfl, ?_⟩
      have many : ¬ (least ≤ ds.length ∧ ds.length ≤ 8) → paM least (fun d' p' g => kfM L.heads L.holes k d' p' (dep + 1) g) (.tuple ds) p n = (n, some (p ++ [1], ("many" : Str))) := fun c => if_neg c
      refine ite2 (fun c1 => ⟨_, _, rfl, rfl, _, rfl, ite2 (fun c2 => ?_) (fun c2 => ?_)⟩) (fun c1 => ⟨_, rfl, iteT (by
        have c1' : ¬ (least : Int) ≤ (xs.length : Int) := fun z' => c1 (decide_eq_true z')
        rw [many (by omega)] at q
        exact fa1 rfl hp (by omega) fun r H' s' d' => q r H' (hL.same s') (KBut.of s') d')⟩)
      · have c2' : ¬ (xs.length : Int) ≤ 8 := by
          have c3 : (!decide ((xs.length : Int) ≤ 8)) = true := c2
          simpa using c3
        rw [many (by omega)] at q
        exact fa1 rfl hp (by omega) fun r H' s' d' => q r H' (hL.same s') (KBut.of s') d'
      have c2' : (xs.length : Int) ≤ 8 := by
        have c3 : ¬ (!decide ((xs.length : Int) ≤ 8)) = true := c2
        simpa using c3
      have c1' : (least : Int) ≤ (xs.length : Int) := of_decide_eq_true c1
      have epa : paM least (fun d' p' g => kfM L.heads L.holes k d' p' (dep + 1) g) (.tuple ds) p n = ptsM (fun d' p' g => kfM L.heads L.holes k d' p' (dep + 1) g) p ds 0 [] n := if_pos (by omega)
      rw [epa] at q
      clear epa many
      refine ⟨Nat.zero_le _, fun nm hnm => ?_⟩
      have s1 : Same H (upd H nm (.lst [])) := same_upd hnm
      have e1 : (upd H nm (.lst [])) nm = some (.lst ([].map V.str)) := upd_same
      generalize upd H nm (HO.lst []) = H1 at s1 e1 ⊢
      have plds : plA ds = true := pla
      have okds : okA ds = true := oka
      generalize hrc : (fun d' p' g => kfM L.heads L.holes k d' p' (dep + 1) g : Rk) = rc at q
      refine ⟨.ref tv, rfl, tv, _, 1, .ref da, rfl, rfl, ts_same s1 _ _ hs, atI_nat (j := 1) rfl, da, xs, rfl, ts_same s1 _ _ hds, for_it (EN.walk_enumT (xs := xs))
        (fun j σ H' => ∃ (x6 x7 x8 x9 : Option V) (names : List Str) (n' : Nat), σ = [some (.ref lk), some (.ref tv), some (.ref pa), some (.int (dep : Int)), some (.int (least : Int)), some (.ref nm), x6, x7, x8, x9] ∧ H' nm = some (.lst (names.map V.str)) ∧
          LkAt K L H' lk n' ∧ KBut lk H H' ∧ names.length ≤ j ∧ ptsM rc p ds 0 [] n = ptsM rc p (ds.drop j) j names n')
        ⟨none, none, none, none, [], n, rfl, e1, hL.same s1, KBut.of s1, Nat.le_refl _, rfl⟩ (fun j σ H' _ hp' => ?_) (fun j v σ H' H'' hj hp' hy => ?_) (fun σ H' hp' => ?_)⟩
      · obtain ⟨_, _, _, _, _, _, _, _, lk', kb, _, _⟩ := hp'
        exact hL.ts kb _ _ hds
      · obtain ⟨x6, x7, x8, x9, names, n', rfl, enm, hL', kb, hnl, hpt⟩ := hp'
        obtain ⟨T, xi, xj, rfl, hT, rfl, hi, hxj⟩ := hy
        obtain rfl : V.int (j : Int) = xi := Option.some.inj hi
        obtain ⟨dj, edj, hdj⟩ := dpAll_get hxs hxj
        have pdj : pl dj = true := plA_mem plds (List.mem_of_getElem? edj)
        have odj : okD dj = true := okA_mem okds (List.mem_of_getElem? edj)
        have edr : ds.drop j = dj :: ds.drop (j + 1) := by
          obtain ⟨hlt, e⟩ := List.getElem?_eq_some_iff.mp edj
          rw [List.drop_eq_getElem_cons hlt, e]
        rw [edr] at hpt
        have sT : Same H' (upd H' T (.tup [.int (j : Nat), xj])) := same_upd hT
        have eT : (upd H' T (.tup [.int (j : Nat), xj])) T = some (.tup [.int (j : Nat), xj]) := upd_same
        generalize upd H' T (HO.tup [V.int (j : Nat), xj]) = H2 at sT eT ⊢
        have hL2 := hL'.same sT
        have kb2 : KBut lk H H2 := kb.trans (KBut.of sT)
        have ts2 : TS K H H2 := hL.ts kb2
        refine ⟨T, _, rfl, .inl (.inl eT), rfl, _, _, rfl, _, _, rfl, rfl, ?_⟩
        refine ⟨.ref pa, rfl, .int (j : Int), rfl, (by show 2 ≤ sizeLine; decide), fun t1 n1 => catA_any (ts_same (same_upd n1) _ _ (ts2 _ _ hp)) (.inl (.inl upd_same)) (by rw [List.length_map]; exact Nat.le_trans (show p.length + 2 ≤ 1002 by omega) (by decide)) fun r3 H3 s3 h3 => ?_⟩
        have s23 : Same H2 H3 := (same_upd n1).trans s3
        have h3' : SqT K H3 r3 ((p ++ [1, (j : Int)]).map V.int) := by rw [List.map_append]; exact h3
        have hL3 := hL2.same s23
        have kb3 : KBut lk H H3 := kb2.trans (KBut.of s23)
        have ts3 : TS K H H3 := hL.ts kb3
        have enm3 : H3 nm = some (.lst (names.map V.str)) := s23 _ _ (sT _ _ enm)
        have hdj3 : Dp K H3 xj dj := ts3.dp dj xj pdj hdj
        clear s3 h3
        refine ⟨xj, rfl, xj, dj, 2, rfl, hdj3, pdj, tupN dj 2, rfl, ite2 (fun c => ?_) (fun c => ?_)⟩
        · have c' : tupN dj 2 = false := by simpa using c
          have e9 : ptsM rc p (dj :: ds.drop (j + 1)) j names n' = (n', some (p ++ [1, (j : Int)], ("part" : Str))) := by
            unfold ptsM
            split
            · exact absurd c' (by simp [tupN])
            · rfl
          rw [hpt, e9] at q
          refine ⟨.ref r3, rfl, (by show 2 ≤ sizeLine; decide), fun t4 n4 => q _ _ (hL3.same (same_upd n4)) (fun b o nb e => same_upd n4 _ _ (kb3 b o nb e)) ?_⟩
          exact dp_faP (ts_same (same_upd n4) _ _ h3') upd_same
        have c' : tupN dj 2 = true := by simpa using c
        obtain ⟨a1, b1, rfl⟩ := pair_of c'
        obtain ⟨pj, ys, rfl, hpj, hys⟩ := dp_tup hdj3
        cases hys with
        | @cons va1 _ _ _ ha1 hys1 =>
        cases hys1 with
        | @cons vb1 _ _ _ hb1 hys2 =>
        cases hys2
        have pa1 : pl a1 = true := plA_mem (show plA [a1, b1] = true from pdj) (List.mem_cons_self ..)
        have pb1 : pl b1 = true := plA_mem (show plA [a1, b1] = true from pdj) (List.mem_cons_of_mem _ (List.mem_cons_self ..))
        have oa1 : okD a1 = true := okA_mem (show okA [a1, b1] = true from odj) (List.mem_cons_self ..)
        have ob1 : okD b1 = true := okA_mem (show okA [a1, b1] = true from odj) (List.mem_cons_of_mem _ (List.mem_cons_self ..))
        refine ⟨.ref nm, rfl, .ref pj, rfl, pj, _, 0, va1, rfl, rfl, hpj, atI_nat (j := 0) rfl, .ref r3, rfl, (by show 1 ≤ sizeLine; decide), fun t5 n5 => catA_any (ts_same (same_upd n5) _ _ h3') (.inl (.inl upd_same)) (by rw [List.length_map, List.length_append]; exact Nat.le_trans (show p.length + 2 + 1 ≤ 1003 by omega) (by decide)) fun r6 H6 s6 h6 => ?_⟩
        have s36 : Same H3 H6 := (same_upd n5).trans s6
        have h6' : SqT K H6 r6 ((p ++ [1, (j : Int)] ++ [0]).map V.int) := by rw [List.map_append]; exact h6
        refine ⟨nm, va1, .ref r6, names, a1, plD (p ++ [1, (j : Int)] ++ [0]), rfl, .inl (.inl (s36 _ _ enm3)), (ts_same s36).dp a1 va1 pa1 ha1, pa1, okD_T oa1, dp_plD h6', pl_plD _, fun r7 H7 s7 d7 => ?_⟩
        have s37 : Same H3 H7 := s36.trans s7
        have hL7 := hL3.same s37
        have kb7 : KBut lk H H7 := kb3.trans (KBut.of s37)
        have ts7 : TS K H H7 := hL.ts kb7
        rw [nfM_O] at d7
        have eP : ptsM rc p (.tuple [a1, b1] :: ds.drop (j + 1)) j names n' = (match nfO names a1 with
            | some z => (n', some (p ++ [1, (j : Int)] ++ [0], z))
            | none => (match rc b1 (p ++ [1, (j : Int)] ++ [1]) n' with
              | (f', some x) => (f', some x)
              | (f', none) => ptsM rc p (ds.drop (j + 1)) (j + 1) (names ++ [strO a1]) f')) := by
          conv => lhs; unfold ptsM
        rw [hpt, eP] at q
        cases hnf : nfO names a1 with
        | some zz =>
          rw [hnf] at d7 q
          have ne : r7 ≠ .non := fun z' => nomatch (non_iff d7).mp z'
          refine ⟨r7, rfl, rfl, _, rfl, ifN ne ?_⟩
          refine ⟨r7, rfl, rfl, _, rfl, ifNN ne ?_⟩
          exact ⟨r7, rfl, q _ _ hL7 (fun b o nb e => kb7 b o nb e) d7⟩
        | none =>
          rw [hnf] at d7 q
          have en : r7 = .non := (non_iff d7).mpr rfl
          subst en
          refine ⟨.non, rfl, rfl, _, rfl, iteT ?_⟩
          have hpj7 : SqT K H7 pj [va1, vb1] := ts_same s37 _ _ hpj
          have h37 : SqT K H7 r3 ((p ++ [1, (j : Int)]).map V.int) := ts_same s37 _ _ h3'
          refine ⟨.ref lk, rfl, .ref pj, rfl, pj, _, 1, vb1, rfl, rfl, hpj7, atI_nat (j := 1) rfl, .ref r3, rfl, (by show 1 ≤ sizeLine; decide), fun t8 n8 => catA_any (ts_same (same_upd n8) _ _ h37) (.inl (.inl upd_same)) (by rw [List.length_map, List.length_append]; exact Nat.le_trans (show p.length + 2 + 1 ≤ 1003 by omega) (by decide)) fun r9 H9 s9 h9 => ?_⟩
          have s79 : Same H7 H9 := (same_upd n8).trans s9
          have h9' : SqT K H9 r9 ((p ++ [1, (j : Int)] ++ [1]).map V.int) := by rw [List.map_append]; exact h9
          refine ⟨.int (dep : Int), rfl, _, _, rfl, rfl, ?_⟩
          have ed1 : (dep : Int) + 1 = ((dep + 1 : Nat) : Int) := by omega
          refine ⟨L, lk, r9, vb1, b1, p ++ [1, (j : Int)] ++ [1], dep + 1, n', (by rw [← ed1]; rfl), hL7.same s79, (ts_same (s37.trans s79)).dp b1 vb1 pb1 hb1, pb1, ob1, h9', (by rw [List.length_append, List.length_append]; show p.length + 2 + 1 + 4 * k ≤ 1000; omega), by omega, by omega, fun rA HA hLA kbA dA => ?_⟩
          have erc : kfM L.heads L.holes k b1 (p ++ [1, (j : Int)] ++ [1]) (dep + 1) n' = rc b1 (p ++ [1, (j : Int)] ++ [1]) n' := by rw [← hrc]
          rw [erc] at hLA dA
          have kbB : KBut lk H HA := (kb7.trans (KBut.of s79)).trans kbA
          cases hrs : rc b1 (p ++ [1, (j : Int)] ++ [1]) n' with
          | mk n2 fa =>
          rw [hrs] at hLA dA q
          cases fa with
          | some pz =>
            obtain ⟨pp, zz⟩ := pz
            have ne : rA ≠ .non := fun z' => nomatch (non_iff dA).mp z'
            refine ⟨rA, rfl, rfl, _, rfl, ifNN ne ?_⟩
            exact ⟨rA, rfl, q _ _ hLA (fun b o nb e => kbB b o nb e) dA⟩
          | none =>
            have en : rA = .non := (non_iff dA).mpr rfl
            subst en
            refine ⟨.non, rfl, rfl, _, rfl, iteF ?_⟩
            have ea1 : ∃ z1, a1 = .str z1 := by
              cases a1 with
              | str z1 => exact ⟨z1, rfl⟩
              | _ => cases hnf
            obtain ⟨z1, rfl⟩ := ea1
            have ev1 := dp_str ha1
            subst ev1
            have nml : nm ≠ lk := fun z' => by
              obtain ⟨dx, fs, e, _⟩ := hL.o
              rw [z', e] at hnm
              cases hnm
            have enmA : HA nm = some (.lst (names.map V.str)) := kbA _ _ nml (s79 _ _ (s37 _ _ enm3))
            have hpjA : SqT K HA pj [.str z1, vb1] := (hL7.same s79).ts kbA _ _ (ts_same s79 _ _ hpj7)
            refine ⟨.ref nm, rfl, .inl ⟨rfl, _, .inl (.inl enmA)⟩, .ref pj, rfl, pj, _, 0, .str z1, rfl, rfl, hpjA, atI_nat (j := 0) rfl, nm, _, .str z1, rfl, rfl, enmA, ?_, ?_⟩
            · rw [List.length_map]
              exact Nat.lt_of_le_of_lt (show names.length ≤ 1000 by omega) (by decide)
            · have kC : Same' nm HA (upd HA nm (.lst (names.map V.str ++ [.str z1]))) := fun b o nb e => by rw [upd_ne nb]; exact e
              refine ⟨_, _, _, _, names ++ [z1], n2, rfl, by rw [upd_same, List.map_append]; rfl, ?_, ?_, by rw [List.length_append]; show names.length + 1 ≤ j + 1; omega, hpt.trans (eP.trans ?_)⟩
              · exact hLA.lst enmA kC
              · intro b o nb e
                exact kC b o (ne_of_none e hnm) (kbB b o nb e)
              · rw [hnf]
                show (match rc b1 (p ++ [1, (j : Int)] ++ [1]) n' with | (f', some x) => (f', some x) | (f', none) => ptsM rc p (ds.drop (j + 1)) (j + 1) (names ++ [z1]) f') = _
                rw [hrs]
      · obtain ⟨x6, x7, x8, x9, names, n', rfl, enm, hL', kb, hnl, hpt⟩ := hp'
        have ed : ds.drop xs.length = [] := List.drop_eq_nil_of_le (by omega)
        rw [ed] at hpt
        rw [hpt] at q
        exact q .non H' hL' (fun b o nb e => kb b o nb e) .non
    | _ => exact iteT (fa1 rfl hp (by omega) fun r H' s' d' => q r H' (hL.same s') (KBut.of s') d')
end
end K3
namespace K3
open PySem PySem.Spec PyProof.Rows L2 K1
section
variable {P : Program} {w : World} {K : PySem.W.Frag} {mg : Str → Option Value} {base : Heap}
theorem valV_head (hs : List (Str × Nat)) (z : Str) : valV (headK hs) (Sum.inr z) = (hdLk hs z).map fun (m : Nat) => V.int (m : Int) := by
  unfold valV headK hdLk
  rw [List.find?_map]
  have e : ((fun kv : Key × V => decide (kv.1 = Sum.inr z)) ∘ fun p : Str × Nat => ((Sum.inr p.1 : Key), V.int (p.2 : Int))) = fun q => decide (q.1 = z) := by
    funext q
    by_cases c : q.1 = z
    · show decide (Sum.inr q.1 = (Sum.inr z : Key)) = decide (q.1 = z)
      rw [decide_eq_true c, decide_eq_true (by rw [c])]
    · show decide (Sum.inr q.1 = (Sum.inr z : Key)) = decide (q.1 = z)
      rw [decide_eq_false c, decide_eq_false fun z' => c (Sum.inr.inj z')]
  rw [e, Option.map_map, Option.map_map]
  rfl
def sp_use_fault (K : PySem.W.Frag) (k : Nat) : Sp := fun vs H Q _ => ∃ (L : Lk) (lk pa : Addr) (v : V) (z : Str) (a b : PyData) (p : List Int) (dep f : Nat), vs = [.ref lk, v, .ref pa, .int (dep : Int)] ∧ LkAt K L H lk f ∧ Dp K H v (.tuple [.str z, a, b]) ∧ pl a = true ∧ okD a = true ∧ pl b = true ∧ okD b = true ∧
  SqT K H pa (p.map V.int) ∧ p.length + 4 * k + 4 ≤ 1000 ∧ dep ≤ 8 ∧ 10 ≤ dep + 1 + k ∧ Looked K L lk H (usM L.heads (fun d' p' g => kfM L.heads L.holes k d' p' (dep + 1) g) a b p f) Q
theorem ok_use_fault {f : Addr} {fd : FuncData} {k lv : Nat} (F : Fun K "use_fault" "use_fault" s_use_fault f fd) (C_is_tuple_of : Cal P w K mg base "is_tuple_of" pm_is_tuple_of 1 (sp_is_tuple_of K))
    (C_kind_fault : Cal P w K mg base "kind_fault" pm_kind_fault lv (sp_kind_fault K k)) (m_isinstance : mg "isinstance" = none) (m_str : mg "str" = none) (m_enumerate : mg "enumerate" = none) :
    FnOk P w K mg base CX0 (lv + 3) f fd pm_use_fault (sp_use_fault K k) := by
  obtain ⟨f_is_tuple_of, fd_is_tuple_of, G_is_tuple_of, g_is_tuple_of, k_is_tuple_of, b_is_tuple_of⟩ := C_is_tuple_of.ex
  obtain ⟨f_kind_fault, fd_kind_fault, G_kind_fault, g_kind_fault, k_kind_fault, b_kind_fault⟩ := C_kind_fault.ex
  refine F.ok sc_use_fault (fun vs H Q E h => ?_) (fun cdv A outer s H vs Q E hr h => ?_)
  · obtain ⟨L, lk, pa, v, z, a, b, p, dep, f, rfl, _⟩ := h
    rfl
  · obtain ⟨L, lk, pa, v, z, a, b, p, dep, n, rfl, hL, hv, pla, oka, plb, okb, hp, hpl, hdep, hk, q⟩ := h
    refine ⟨_, pss_cons (ps_if (PW.pt (pw_or (pt_not (pt_val (pe_callB call_isi (by rfl) m_isinstance (by decide +kernel) (pa_cons (pe_ix ix_tup (pv 1) pe_int (fun _ _ => rfl)) (pa_cons (pe_bltn (v := .ty "str") (by rfl) m_str (show bootBuiltins "str" = some (.type "str") by decide +kernel) rfl) pa_nil))))) (pw_or1 (pt_cmp (pc_dnotin (hu_of hr) (pe_ix ix_tup (pv 1) pe_int (fun _ _ => rfl)) (pe_fld (pv 0) rfl))))))
      (pss_one (ps_ret (pe_tup (pa_cons (pe_op op_catA (pv 2) (pe_tup (pa_cons pe_int pa_nil))) (pa_cons pe_str pa_nil))))) pss_nil)
      (pss_cons (ps_if (pt_not (pt_val (pe_call G_is_tuple_of (hr.mono (by omega)) (by rfl) g_is_tuple_of k_is_tuple_of b_is_tuple_of .nil pass0 (pa_cons (pe_ix ix_tup (pv 1) pe_int (fun _ _ => rfl)) (pa_cons (pe_dget (hu_of hr) (pe_fld (pv 0) rfl) (pe_ix ix_tup (pv 1) pe_int (fun _ _ => rfl)) (fun _ _ => rfl)) pa_nil)))))
      (pss_one (ps_ret (pe_tup (pa_cons (pe_op op_catA (pv 2) (pe_tup (pa_cons pe_int pa_nil))) (pa_cons pe_str pa_nil))))) pss_nil)
      (pss_cons (ps_for PassesOwn.never rfl (EN.pi_enumT (by rfl) m_enumerate (pa_cons (pe_ix ix_tup (pv 1) pe_int (fun _ _ => rfl)) pa_nil)) (pg_tup (by rfl) (pgs_cons (pg_name (i := 4) sc_use_fault.nd rfl (.inl rfl)) (pgs_cons (pg_name (i := 5) sc_use_fault.nd rfl (.inl rfl)) pgs_nil)))
      (pss_cons (ps_set (i := 6) sc_use_fault.nd rfl (.inl rfl) (pe_call G_kind_fault (hr.mono (by omega)) (by rfl) g_kind_fault k_kind_fault b_kind_fault .nil pass0 (pa_cons (pv 0) (pa_cons (pv 5) (pa_cons (pe_op op_catA (pv 2) (pe_tup (pa_cons pe_int (pa_cons (pv 4) pa_nil)))) (pa_cons (pe_op op_add (pv 3) pe_int) pa_nil))))))
      (pss_one (ps_if (pt_cmpR op_notN (pv 6) pe_non (nomark _))
      (pss_one (ps_ret (pv 6))) pss_nil))))
      (pss_one (ps_ret pe_non)))), ?_⟩
    obtain ⟨tv, xs0, rfl, hs, hx⟩ := dp_tup hv
    cases hx with
    | @cons v0 _ _ _ hx0 hx1 =>
    cases hx1 with
    | @cons va _ _ _ hxa hx2 =>
    cases hx2 with
    | @cons vb _ _ _ hxb hx3 =>
    cases hx3
    generalize hrc : (fun d' p' g => kfM L.heads L.holes k d' p' (dep + 1) g : Rk) = rc at q
    refine ⟨.ref tv, rfl, tv, _, 1, va, rfl, rfl, hs, atI_nat (j := 1) rfl, va, _, _, _, isS a, rfl, .ty "str", dp_ty hxa pla, kit_ty (kS a), isS a, rfl, ?_⟩
    cases a with
    | str za =>
      have ev := dp_str hxa
      subst ev
      obtain ⟨dx, fs, e, l1, l2, l3, hl⟩ := hL.o
      refine iteF ⟨.ref tv, rfl, tv, _, 1, .str za, rfl, rfl, hs, atI_nat (j := 1) rfl, .ref lk, rfl, lk, L.C, dx, fs, _, rfl, e, hL.t.cl, hL.t.n1, l1, L.hd, _, rfl, DGet.k (k := Sum.inr za) hL.h, ?_⟩
      rw [valV_head]
      cases hm : hdLk L.heads za with
      | none =>
        have eq : usM L.heads rc (.str za) b p n = (n, some (p ++ [1], ("unknown" : Str))) := by
          show (match hdLk L.heads za with | none => _ | some m => _) = _
          rw [hm]
        rw [eq] at q
        refine ⟨_, rfl, iteT ?_⟩
        exact fa1 rfl hp (by omega) fun r H' s' d' => q r H' (hL.same s') (KBut.of s') d'
      | some m =>
        refine ⟨_, rfl, iteF ?_⟩
        have eq : usM L.heads rc (.str za) b p n = flM m rc b p n := by
          show (match hdLk L.heads za with | none => _ | some m => _) = _
          rw [hm]
        rw [eq] at q
        refine ⟨.ref tv, rfl, tv, _, 2, vb, rfl, rfl, hs, atI_nat (j := 2) rfl, .ref lk, rfl, lk, L.C, dx, fs, _, rfl, e, hL.t.cl, hL.t.n1, l1, .ref tv, rfl, tv, _, 1, .str za, rfl, rfl, hs, atI_nat (j := 1) rfl, L.hd, .int (m : Int), rfl, ?_, ?_⟩
        · have dg := DGet.k (k := Sum.inr za) hL.h
          rw [valV_head, hm] at dg
          exact dg
        refine ⟨vb, b, (m : Int), rfl, hxb, plb, tupN b (m : Int), rfl, ite2 (fun c => ?_) (fun c => ?_)⟩
        · have c' : tupN b (m : Int) = false := by simpa using c
          have eq2 : flM m rc b p n = (n, some (p ++ [2], ("fills" : Str))) := by
            cases b with
            | tuple ds =>
              refine if_neg fun z' => ?_
              have c2 : decide ((ds.length : Int) = (m : Int)) = false := c'
              rw [decide_eq_true (by rw [z'])] at c2
              cases c2
            | _ => rfl
          rw [eq2] at q
          exact fa1 rfl hp (by omega) fun r H' s' d' => q r H' (hL.same s') (KBut.of s') d'
        have c' : tupN b (m : Int) = true := by simpa using c
        cases b with
        | tuple ds =>
          have hlm : ds.length = m := by
            have c2 : (ds.length : Int) = (m : Int) := of_decide_eq_true c'
            omega
          rw [show flM m rc (.tuple ds) p n = filM rc p ds 0 n from if_pos hlm] at q
          obtain ⟨da, xs, rfl, hds, hxs⟩ := dp_tup hxb
          have hlen := dpAll_len hxs
          have plds : plA ds = true := plb
          have okds : okA ds = true := okb
          refine ⟨.ref tv, rfl, tv, _, 2, .ref da, rfl, rfl, hs, atI_nat (j := 2) rfl, da, xs, rfl, hds, for_it (EN.walk_enumT (xs := xs))
            (fun j σ H' => ∃ (x4 x5 x6 : Option V) (n' : Nat), σ = [some (.ref lk), some (.ref tv), some (.ref pa), some (.int (dep : Int)), x4, x5, x6] ∧ LkAt K L H' lk n' ∧ KBut lk H H' ∧ filM rc p ds 0 n = filM rc p (ds.drop j) j n')
            ⟨none, none, none, n, rfl, hL, KBut.refl, rfl⟩ (fun j σ H' _ hp' => ?_) (fun j v σ H' H'' hj hp' hy => ?_) (fun σ H' hp' => ?_)⟩
          · obtain ⟨_, _, _, _, _, lk', kb, _⟩ := hp'
            exact hL.ts kb _ _ hds
          · obtain ⟨x4, x5, x6, n', rfl, hL', kb, hpt⟩ := hp'
            obtain ⟨T, xi, xj, rfl, hT, rfl, hi, hxj⟩ := hy
            obtain rfl : V.int (j : Int) = xi := Option.some.inj hi
            obtain ⟨dj, edj, hdj⟩ := dpAll_get hxs hxj
            have pdj : pl dj = true := plA_mem plds (List.mem_of_getElem? edj)
            have odj : okD dj = true := okA_mem okds (List.mem_of_getElem? edj)
            have edr : ds.drop j = dj :: ds.drop (j + 1) := by
              obtain ⟨hlt, e⟩ := List.getElem?_eq_some_iff.mp edj
              rw [List.drop_eq_getElem_cons hlt, e]
            rw [edr] at hpt
            have sT : Same H' (upd H' T (.tup [.int (j : Nat), xj])) := same_upd hT
            have eT : (upd H' T (.tup [.int (j : Nat), xj])) T = some (.tup [.int (j : Nat), xj]) := upd_same
            generalize upd H' T (HO.tup [V.int (j : Nat), xj]) = H2 at sT eT ⊢
            have hL2 := hL'.same sT
            have kb2 : KBut lk H H2 := kb.trans (KBut.of sT)
            have ts2 : TS K H H2 := hL.ts kb2
            refine ⟨T, _, rfl, .inl (.inl eT), rfl, _, _, rfl, _, _, rfl, rfl, ?_⟩
            refine ⟨.ref lk, rfl, xj, rfl, .ref pa, rfl, .int (j : Int), rfl, (by show 2 ≤ sizeLine; decide), fun t1 n1 => catA_any (ts_same (same_upd n1) _ _ (ts2 _ _ hp)) (.inl (.inl upd_same)) (by rw [List.length_map]; exact Nat.le_trans (show p.length + 2 ≤ 1002 by omega) (by decide)) fun r3 H3 s3 h3 => ?_⟩
            have s23 : Same H2 H3 := (same_upd n1).trans s3
            have h3' : SqT K H3 r3 ((p ++ [2, (j : Int)]).map V.int) := by rw [List.map_append]; exact h3
            have kb3 : KBut lk H H3 := kb2.trans (KBut.of s23)
            refine ⟨.int (dep : Int), rfl, _, _, rfl, rfl, ?_⟩
            have ed1 : (dep : Int) + 1 = ((dep + 1 : Nat) : Int) := by omega
            refine ⟨L, lk, r3, xj, dj, p ++ [2, (j : Int)], dep + 1, n', (by rw [← ed1]; rfl), hL2.same s23, (hL.ts kb3).dp dj xj pdj hdj, pdj, odj, h3', (by rw [List.length_append]; show p.length + 2 + 4 * k ≤ 1000; omega), by omega, by omega, fun rA HA hLA kbA dA => ?_⟩
            have erc : kfM L.heads L.holes k dj (p ++ [2, (j : Int)]) (dep + 1) n' = rc dj (p ++ [2, (j : Int)]) n' := by rw [← hrc]
            rw [erc] at hLA dA
            have kbB : KBut lk H HA := kb3.trans kbA
            have eP : filM rc p (dj :: ds.drop (j + 1)) j n' = (match rc dj (p ++ [2, (j : Int)]) n' with
                | (f', some x) => (f', some x)
                | (f', none) => filM rc p (ds.drop (j + 1)) (j + 1) f') := rfl
            cases hrs : rc dj (p ++ [2, (j : Int)]) n' with
            | mk n2 fa =>
            rw [hrs] at hLA dA eP
            cases fa with
            | some pz =>
              obtain ⟨pp, zz⟩ := pz
              have ne : rA ≠ .non := fun z' => nomatch (non_iff dA).mp z'
              rw [hpt, eP] at q
              refine ⟨rA, rfl, rfl, _, rfl, ifNN ne ?_⟩
              exact ⟨rA, rfl, q _ _ hLA kbB dA⟩
            | none =>
              have en : rA = .non := (non_iff dA).mpr rfl
              subst en
              refine ⟨.non, rfl, rfl, _, rfl, iteF ?_⟩
              exact ⟨_, _, _, n2, rfl, hLA, kbB, hpt.trans eP⟩
          · obtain ⟨x4, x5, x6, n', rfl, hL', kb, hpt⟩ := hp'
            have ed : ds.drop xs.length = [] := List.drop_eq_nil_of_le (by omega)
            rw [ed] at hpt
            rw [hpt] at q
            exact q .non H' hL' kb .non
        | _ => cases c'
    | _ => exact iteT (fa1 rfl hp (by omega) fun r H' s' d' => q r H' (hL.same s') (KBut.of s') d')
end
end K3
namespace K3
open PySem PySem.Spec PyProof.Rows L2 K1
section
variable {P : Program} {w : World} {K : PySem.W.Frag} {mg : Str → Option Value} {base : Heap}
theorem own_none {d : PyData} {dep f f' : Nat} (h : ownM d dep f = (f', none)) : ∃ z r m, d = .tuple (.str z :: r) ∧ wlen z = some m ∧ r.length + 1 = m ∧ dep ≤ 8 ∧ f' = f + 1 := by
  unfold ownM at h
  split at h
  · rename_i z r
    split at h
    · cases h
    · rename_i m hm
      have h1 := congrArg Prod.fst h
      have h2 := congrArg Prod.snd h
      simp only at h1 h2
      split at h2
      · cases h2
      · split at h2
        · cases h2
        · split at h2
          · cases h2
          · rename_i c1 c2 c3
            exact ⟨z, r, m, rfl, hm, by simpa using c3, by omega, h1.symm⟩
  · cases h
theorem ifSN {x y : Str} {p q : Prop} (ne : x ≠ y) (h : q) : if decide (V.str x = V.str y) = true then p else q := by
  rw [decide_eq_false fun z => ne (V.str.inj z)]
  exact iteF h
theorem ifSY {x y : Str} {p q : Prop} (e : x = y) (h : p) : if decide (V.str x = V.str y) = true then p else q := by
  rw [decide_eq_true (congrArg V.str e)]
  exact iteT h
theorem in_parts (z : Str) : inV (.str z) [.str "record", .str "variant"] = true ↔ z = "record" ∨ z = "variant" := by
  have := in_strs ["record", "variant"] z
  simpa using this
theorem wlen_two {z : Str} {m : Nat} (h : wlen z = some m) (c : z ≠ "truth") (c2 : z ≠ "row") (c3 : z ≠ "use") : m = 2 := by
  unfold wlen at h
  repeat' split at h
  all_goals first | (cases h; rfl) | (cases h; contradiction) | contradiction
theorem len1 {r : List PyData} (h : r.length + 1 = 2) : ∃ a, r = [a] := by
  match r, h with
  | [a], _ => exact ⟨a, rfl⟩
theorem len2 {r : List PyData} (h : r.length + 1 = 3) : ∃ a b, r = [a, b] := by
  match r, h with
  | [a, b], _ => exact ⟨a, b, rfl⟩
theorem kfM_some {hs : List (Str × Nat)} {ho : List Str} {k dep n n1 : Nat} {d : PyData} {p : List Int} {z : Str} (h : ownM d dep n = (n1, some z)) : kfM hs ho (k + 1) d p dep n = (n1, some (p, z)) := by
  unfold kfM
  rw [h]
theorem kfM_none {hs : List (Str × Nat)} {ho : List Str} {k dep n n1 : Nat} {r : List PyData} {p : List Int} {z : Str} (h : ownM (.tuple (.str z :: r)) dep n = (n1, none)) :
    kfM hs ho (k + 1) (.tuple (.str z :: r)) p dep n = inM hs ho (fun d' p' g => kfM hs ho k d' p' (dep + 1) g) z (r.getD 0 .none) (r.getD 1 .none) p n1 := by
  conv => lhs; unfold kfM
  rw [h]
theorem nv_kind_fault {vs : List V} {H : Hp} {Q : VK} {E : XK} (h : sp_kind_fault K 0 vs H Q E) : False := by
  obtain ⟨L, lk, pa, v, d, p, dep, f, _, _, _, _, _, _, _, h1, h2, _⟩ := h
  omega
theorem ok_kind_fault {f : Addr} {fd : FuncData} (F : Fun K "kind_fault" "kind_fault" s_kind_fault f fd) (g_self : mg "kind_fault" = some (.ref f)) (b_self : Binds K fd pm_kind_fault []) (C_own_fault : Cal P w K mg base "own_fault" pm_own_fault 1 (sp_own_fault K))
    (C_is_between : Cal P w K mg base "is_between" pm_is_between 2 (sp_is_between K)) (C_is_tuple_of : Cal P w K mg base "is_tuple_of" pm_is_tuple_of 1 (sp_is_tuple_of K)) (C_name_fault : Cal P w K mg base "name_fault" pm_name_fault 2 (sp_name_fault K))
    {fp : Addr} {fdp : FuncData} (Fp : Fun K "parts_fault" "parts_fault" s_parts_fault fp fdp) (gp : mg "parts_fault" = some (.ref fp)) (kp : PySem.W.keepIn K (.ref fp) = true) (bp : Binds K fdp pm_parts_fault [])
    {fu : Addr} {fdu : FuncData} (Fu : Fun K "use_fault" "use_fault" s_use_fault fu fdu) (gu : mg "use_fault" = some (.ref fu)) (ku : PySem.W.keepIn K (.ref fu) = true) (bu : Binds K fdu pm_use_fault [])
    (m_isinstance : mg "isinstance" = none) (m_tuple : mg "tuple" = none) (m_len : mg "len" = none) (m_enumerate : mg "enumerate" = none) (m_str : mg "str" = none) {t_MOST_PARTS t_MOST_MANY t_MOST_BITS : Nat} (g_MOST_PARTS : mg "MOST_PARTS" = some (.int 8 t_MOST_PARTS))
    (g_MOST_MANY : mg "MOST_MANY" = some (.int 16 t_MOST_MANY)) (g_MOST_BITS : mg "MOST_BITS" = some (.int 64 t_MOST_BITS)) {a_PART_WORDS : Addr} (g_PART_WORDS : mg "PART_WORDS" = some (.ref a_PART_WORDS)) (h_PART_WORDS : ∀ H : Hp, SqT K H a_PART_WORDS [.str "record", .str "variant"]) :
    ∀ k : Nat, FnOk P w K mg base CX0 (4 * k + 3) f fd pm_kind_fault (sp_kind_fault K k) := by
  obtain ⟨f_own_fault, fd_own_fault, G_own_fault, g_own_fault, k_own_fault, b_own_fault⟩ := C_own_fault.ex
  obtain ⟨f_is_between, fd_is_between, G_is_between, g_is_between, k_is_between, b_is_between⟩ := C_is_between.ex
  intro k
  induction k with
  | zero => exact F.ok (k := 2) sc_kind_fault (fun vs H Q E h => (nv_kind_fault h).elim) (fun cdv A outer s H vs Q E hr h => (nv_kind_fault h).elim)
  | succ k ih =>
  have C_self : Cal P w K mg base "kind_fault" pm_kind_fault (4 * k + 3) (sp_kind_fault K k) := ⟨f, fd, ih, g_self, F.kp, b_self⟩
  have C_parts_fault : Cal P w K mg base "parts_fault" pm_parts_fault (4 * k + 3 + 3) (sp_parts_fault K k) := ⟨_, _, ok_parts_fault Fp C_is_tuple_of C_name_fault C_self m_isinstance m_tuple m_len m_enumerate g_MOST_PARTS, gp, kp, bp⟩
  have C_use_fault : Cal P w K mg base "use_fault" pm_use_fault (4 * k + 3 + 3) (sp_use_fault K k) := ⟨_, _, ok_use_fault Fu C_is_tuple_of C_self m_isinstance m_str m_enumerate, gu, ku, bu⟩
  obtain ⟨f_parts_fault, fd_parts_fault, G_parts_fault, g_parts_fault, k_parts_fault, b_parts_fault⟩ := C_parts_fault.ex
  obtain ⟨f_use_fault, fd_use_fault, G_use_fault, g_use_fault, k_use_fault, b_use_fault⟩ := C_use_fault.ex
  refine F.ok (k := 4 * k + 6) sc_kind_fault (fun vs H Q E h => ?_) (fun cdv A outer s H vs Q E hr h => ?_)
  · obtain ⟨L, lk, pa, v, d, p, dep, f, rfl, _⟩ := h
    rfl
  · obtain ⟨L, lk, pa, v, d, p, dep, n, rfl, hL, hv, pd, od, hp, hpl, hdep, hk, q⟩ := h
    refine ⟨_, pss_cons (ps_set (i := 4) sc_kind_fault.nd rfl (.inl rfl) (pe_call G_own_fault (hr.mono (by omega)) (by rfl) g_own_fault k_own_fault b_own_fault .nil pass0 (pa_cons (pv 0) (pa_cons (pv 1) (pa_cons (pv 3) pa_nil)))))
      (pss_cons (ps_if (pt_cmpR op_notN (pv 4) pe_non (nomark _))
      (pss_one (ps_ret (pe_tup (pa_cons (pv 2) (pa_cons (pv 4) pa_nil))))) pss_nil)
      (pss_cons (ps_set (i := 5) sc_kind_fault.nd rfl (.inl rfl) (pe_ix ix_tup (pv 1) pe_int (fun _ _ => rfl)))
      (pss_cons (ps_if (pt_cmpR op_in_seq (pv 5) (pe_glob (v := .ref a_PART_WORDS) (by rfl) g_PART_WORDS rfl) (by rfl))
      (pss_one (ps_ret (pe_call G_parts_fault (hr.mono (by omega)) (by rfl) g_parts_fault k_parts_fault b_parts_fault .nil pass0 (pa_cons (pv 0) (pa_cons (pv 1) (pa_cons (pv 2) (pa_cons (pv 3) pa_nil))))))) pss_nil)
      (pss_cons (ps_if (pt_cmpR op_eq (pv 5) pe_str (nomark _))
      (pss_one (ps_ret (pe_call G_use_fault (hr.mono (by omega)) (by rfl) g_use_fault k_use_fault b_use_fault .nil pass0 (pa_cons (pv 0) (pa_cons (pv 1) (pa_cons (pv 2) (pa_cons (pv 3) pa_nil))))))) pss_nil)
      (pss_cons (ps_if (pt_cmpR op_eq (pv 5) pe_str (nomark _))
      (pss_cons (ps_if (pt_not (pt_val (pe_call G_is_between (hr.mono (by omega)) (by rfl) g_is_between k_is_between b_is_between .nil pass0 (pa_cons (pe_ix ix_tup (pv 1) pe_int (fun _ _ => rfl)) (pa_cons pe_int (pa_cons (pe_glob (v := .int 16) (by rfl) g_MOST_MANY ⟨_, rfl⟩) pa_nil))))))
      (pss_one (ps_ret (pe_tup (pa_cons (pe_op op_catA (pv 2) (pe_tup (pa_cons pe_int pa_nil))) (pa_cons pe_str pa_nil))))) pss_nil)
      (pss_one (ps_ret (pe_call ih (hr.mono (by omega)) (by rfl) g_self F.kp b_self .nil pass0 (pa_cons (pv 0) (pa_cons (pe_ix ix_tup (pv 1) pe_int (fun _ _ => rfl)) (pa_cons (pe_op op_catA (pv 2) (pe_tup (pa_cons pe_int pa_nil))) (pa_cons (pe_op op_add (pv 3) pe_int) pa_nil)))))))) pss_nil)
      (pss_cons (ps_if (PW.pt (pw_or (pt_cmpR op_eq (pv 5) pe_str (nomark _)) (pw_or1 (pt_cmpR op_eq (pv 5) pe_str (nomark _)))))
      (pss_one (ps_ret (pe_call ih (hr.mono (by omega)) (by rfl) g_self F.kp b_self .nil pass0 (pa_cons (pv 0) (pa_cons (pe_ix ix_tup (pv 1) pe_int (fun _ _ => rfl)) (pa_cons (pe_op op_catA (pv 2) (pe_tup (pa_cons pe_int pa_nil))) (pa_cons (pe_op op_add (pv 3) pe_int) pa_nil))))))) pss_nil)
      (pss_cons (ps_if (pt_cmpR op_eq (pv 5) pe_str (nomark _))
      (pss_cons (ps_set (i := 6) sc_kind_fault.nd rfl (.inl rfl) (pe_and (pe_callB call_isi (by rfl) m_isinstance (by decide +kernel) (pa_cons (pe_ix ix_tup (pv 1) pe_int (fun _ _ => rfl)) (pa_cons (pe_bltn (v := .ty "str") (by rfl) m_str (show bootBuiltins "str" = some (.type "str") by decide +kernel) rfl) pa_nil))) (pe_one (pe_cmpR op_in_seq (pe_ix ix_tup (pv 1) pe_int (fun _ _ => rfl)) (pe_fld (pv 0) rfl) (by rfl)))))
      (pss_one (ps_ret (pe_ifExp (pt_val (pv 6)) pe_non (pe_tup (pa_cons (pe_op op_catA (pv 2) (pe_tup (pa_cons pe_int pa_nil))) (pa_cons pe_str pa_nil))))))) pss_nil)
      (pss_cons (ps_if (PW.pt (pw_or (pt_cmpR op_eq (pv 5) pe_str (nomark _)) (pw_or1 (pt_val (pe_call G_is_between (hr.mono (by omega)) (by rfl) g_is_between k_is_between b_is_between .nil pass0 (pa_cons (pe_ix ix_tup (pv 1) pe_int (fun _ _ => rfl)) (pa_cons pe_int (pa_cons (pe_glob (v := .int 64) (by rfl) g_MOST_BITS ⟨_, rfl⟩) pa_nil))))))))
      (pss_one (ps_ret pe_non)) pss_nil)
      (pss_one (ps_ret (pe_tup (pa_cons (pe_op op_catA (pv 2) (pe_tup (pa_cons pe_int pa_nil))) (pa_cons pe_str pa_nil))))))))))))), ?_⟩
    refine ⟨.ref lk, rfl, v, rfl, .int (dep : Int), rfl, L, lk, v, d, dep, n, rfl, hL, hv, pd, fun H1 hL1 kb1 => ?_⟩
    have ts1 := hL.ts kb1
    have hp1 := ts1 _ _ hp
    cases ho : ownM d dep n with
    | mk n1 wo =>
    rw [ho] at hL1
    cases wo with
    | some zz =>
      rw [kfM_some ho] at q
      refine ⟨.str zz, rfl, rfl, _, rfl, ifNN (fun z' => nomatch z') ?_⟩
      refine ⟨.ref pa, rfl, .str zz, rfl, (by show 2 ≤ sizeLine; decide), fun t2 n2 => q _ _ (hL1.same (same_upd n2)) (kb1.trans (KBut.of (same_upd n2))) ?_⟩
      exact dp_faP (ts_same (same_upd n2) _ _ hp1) upd_same
    | none =>
    obtain ⟨z, r, m, rfl, hw, hrl, hd8, rfl⟩ := own_none ho
    rw [kfM_none ho] at q
    refine ⟨.non, rfl, rfl, _, rfl, iteF ?_⟩
    obtain ⟨tv, xs0, rfl, hs, hx⟩ := dp_tup (ts1.dp _ _ pd hv)
    cases hx with
    | @cons v0 vr _ _ hx0 hxr =>
    have ev := dp_str hx0
    subst ev
    have plr : ∀ x ∈ r, pl x = true := fun x hx => plA_mem (show plA (.str z :: r) = true from pd) (List.mem_cons_of_mem _ hx)
    have okr : ∀ x ∈ r, okD x = true := fun x hx => okA_mem (show okA (.str z :: r) = true from od) (List.mem_cons_of_mem _ hx)
    generalize hrc : (fun d' p' g => kfM L.heads L.holes k d' p' (dep + 1) g : Rk) = rc at q
    refine ⟨.ref tv, rfl, tv, _, 0, .str z, rfl, rfl, hs, atI_nat (j := 0) rfl, ?_⟩
    refine ⟨.str z, rfl, a_PART_WORDS, _, rfl, .inr (h_PART_WORDS H1), rfl, rfl, _, rfl, ite2 (fun c => ?_) (fun c => ?_)⟩
    · have hz := (in_parts z).mp c
      have hne : z ≠ "truth" ∧ z ≠ "row" ∧ z ≠ "use" := by rcases hz with rfl | rfl <;> decide
      have hm2 := wlen_two hw hne.1 hne.2.1 hne.2.2
      subst hm2
      obtain ⟨a, rfl⟩ := len1 hrl
      have ein : inM L.heads L.holes rc z ([a].getD 0 .none) ([a].getD 1 .none) p (n + 1) = paM (if z = "variant" then 1 else 0) rc a p (n + 1) := by
        rcases hz with rfl | rfl <;> rfl
      rw [ein] at q
      refine ⟨.ref lk, rfl, .ref tv, rfl, .ref pa, rfl, .int (dep : Int), rfl, L, lk, pa, .ref tv, z, a, p, dep, n + 1, rfl, hL1, hz, .tup hs (.cons (.str z) hxr), plr a (List.mem_cons_self ..), okr a (List.mem_cons_self ..), hp1, by omega, hd8, by omega, ?_⟩
      rw [hrc]
      exact fun r' H' h1 h2 h3 => q r' H' h1 (kb1.trans h2) h3
    have nz : ¬ (z = "record" ∨ z = "variant") := fun z' => c ((in_parts z).mpr z')
    have c1 : z ≠ "record" := fun z' => nz (.inl z')
    have c2 : z ≠ "variant" := fun z' => nz (.inr z')
    by_cases c3 : z = "use"
    · subst c3
      obtain rfl : 3 = m := Option.some.inj hw
      obtain ⟨a, b, rfl⟩ := len2 hrl
      have ein : inM L.heads L.holes rc "use" ([a, b].getD 0 .none) ([a, b].getD 1 .none) p (n + 1) = usM L.heads rc a b p (n + 1) := rfl
      rw [ein] at q
      refine ⟨.str "use", rfl, rfl, _, rfl, ifSY rfl ?_⟩
      refine ⟨.ref lk, rfl, .ref tv, rfl, .ref pa, rfl, .int (dep : Int), rfl, L, lk, pa, .ref tv, "use", a, b, p, dep, n + 1, rfl, hL1, .tup hs (.cons (.str _) hxr), plr a (by simp), okr a (by simp), plr b (by simp), okr b (by simp), hp1, by omega, hd8, by omega, ?_⟩
      rw [hrc]
      exact fun r' H' h1 h2 h3 => q r' H' h1 (kb1.trans h2) h3
    refine ⟨.str z, rfl, rfl, _, rfl, ifSN c3 ?_⟩
    by_cases c4 : z = "row"
    · subst c4
      obtain rfl : 3 = m := Option.some.inj hw
      obtain ⟨a, b, rfl⟩ := len2 hrl
      have ein : inM L.heads L.holes rc "row" ([a, b].getD 0 .none) ([a, b].getD 1 .none) p (n + 1) = (if btw a 1 16 = true then rc b (p ++ [2]) (n + 1) else (n + 1, some (p ++ [1], ("many" : Str)))) := rfl
      rw [ein] at q
      refine ⟨.str "row", rfl, rfl, _, rfl, ifSY rfl ?_⟩
      cases hxr with
      | @cons va _ _ _ hxa hx2 =>
      cases hx2 with
      | @cons vb _ _ _ hxb hx3 =>
      cases hx3
      have pa0 := plr a (by simp)
      refine ⟨.ref tv, rfl, tv, _, 1, va, rfl, rfl, hs, atI_nat (j := 1) rfl, va, a, 1, 16, rfl, hxa, pa0, btw a 1 16, rfl, ite2 (fun c5 => ?_) (fun c5 => ?_)⟩
      · have c5' : btw a 1 16 = false := by simpa using c5
        rw [if_neg (by rw [c5']; decide)] at q
        exact fa1 rfl hp1 (by omega) fun r H' s' d' => q r H' (hL1.same s') (kb1.trans (KBut.of s')) d'
      · have c5' : btw a 1 16 = true := by simpa using c5
        rw [if_pos c5'] at q
        refine ⟨.ref lk, rfl, .ref tv, rfl, tv, _, 2, vb, rfl, rfl, hs, atI_nat (j := 2) rfl, .ref pa, rfl, (by show 1 ≤ sizeLine; decide), fun t8 n8 => catA_any (ts_same (same_upd n8) _ _ hp1) (.inl (.inl upd_same)) (by rw [List.length_map]; exact Nat.le_trans (show p.length + 1 ≤ 1001 by omega) (by decide)) fun r9 H9 s9 h9 => ?_⟩
        have s19 : Same H1 H9 := (same_upd n8).trans s9
        have h9' : SqT K H9 r9 ((p ++ [2]).map V.int) := by rw [List.map_append]; exact h9
        refine ⟨.int (dep : Int), rfl, _, _, rfl, rfl, ?_⟩
        have ed1 : (dep : Int) + 1 = ((dep + 1 : Nat) : Int) := by omega
        refine ⟨L, lk, r9, vb, b, p ++ [2], dep + 1, n + 1, (by rw [← ed1]; rfl), hL1.same s19, (ts_same s19).dp b vb (plr b (by simp)) hxb, plr b (by simp), okr b (by simp), h9', (by rw [List.length_append]; show p.length + 1 + 4 * k ≤ 1000; omega), by omega, by omega, ?_⟩
        have erc : kfM L.heads L.holes k b (p ++ [2]) (dep + 1) (n + 1) = rc b (p ++ [2]) (n + 1) := by rw [← hrc]
        rw [erc]
        exact fun r' H' h1 h2 h3 => q r' H' h1 ((kb1.trans (KBut.of s19)).trans h2) h3
    refine ⟨.str z, rfl, rfl, _, rfl, ifSN c4 ?_⟩
    by_cases c6 : z = "truth"
    · subst c6
      have ein : inM L.heads L.holes rc "truth" (r.getD 0 .none) (r.getD 1 .none) p (n + 1) = (n + 1, none) := rfl
      rw [ein] at q
      refine ⟨.str "truth", rfl, rfl, _, rfl, ifSN (by decide) ⟨.str "truth", rfl, rfl, _, rfl, ifSN (by decide) ?_⟩⟩
      refine ⟨.str "truth", rfl, rfl, _, rfl, ifSN (by decide) ?_⟩
      refine ⟨.str "truth", rfl, rfl, _, rfl, ifSY rfl ?_⟩
      exact q .non H1 hL1 kb1 .non
    have hm2 := wlen_two hw c6 c4 c3
    subst hm2
    obtain ⟨a, rfl⟩ := len1 hrl
    cases hxr with
    | @cons va _ _ _ hxa hx2 =>
    cases hx2
    have pa0 := plr a (by simp)
    have oa0 := okr a (by simp)
    by_cases c7 : z = "maybe" ∨ z = "box"
    · have ein : inM L.heads L.holes rc z ([a].getD 0 .none) ([a].getD 1 .none) p (n + 1) = rc a (p ++ [1]) (n + 1) := by
        rcases c7 with rfl | rfl <;> rfl
      rw [ein] at q
      have tail : tRet (tCall (sp_kind_fault K k) [] E0 (tCons (tVar 0) (tCons (tOp (rIxT K) (tVar 1) (tC (V.int 1))) (tCons (tOp (rCatA K) (tVar 2) (tTup (tCons (tC (V.int 1)) tNil))) (tCons (tOp (rI0 fun i j => V.int (i + j)) (tVar 3) (tC (V.int 1))) tNil)))))
          { nx := fun _ H' => Q .non H', rt := Q } [some (.ref lk), some (.ref tv), some (.ref pa), some (.int (dep : Int)), some .non, some (.str z), none] H1 := by
        refine ⟨.ref lk, rfl, .ref tv, rfl, tv, _, 1, va, rfl, rfl, hs, atI_nat (j := 1) rfl, .ref pa, rfl, (by show 1 ≤ sizeLine; decide), fun t8 n8 => catA_any (ts_same (same_upd n8) _ _ hp1) (.inl (.inl upd_same)) (by rw [List.length_map]; exact Nat.le_trans (show p.length + 1 ≤ 1001 by omega) (by decide)) fun r9 H9 s9 h9 => ?_⟩
        have s19 : Same H1 H9 := (same_upd n8).trans s9
        have h9' : SqT K H9 r9 ((p ++ [1]).map V.int) := by rw [List.map_append]; exact h9
        refine ⟨.int (dep : Int), rfl, _, _, rfl, rfl, ?_⟩
        have ed1 : (dep : Int) + 1 = ((dep + 1 : Nat) : Int) := by omega
        refine ⟨L, lk, r9, va, a, p ++ [1], dep + 1, n + 1, (by rw [← ed1]; rfl), hL1.same s19, (ts_same s19).dp a va pa0 hxa, pa0, oa0, h9', (by rw [List.length_append]; show p.length + 1 + 4 * k ≤ 1000; omega), by omega, by omega, ?_⟩
        have erc : kfM L.heads L.holes k a (p ++ [1]) (dep + 1) (n + 1) = rc a (p ++ [1]) (n + 1) := by rw [← hrc]
        rw [erc]
        exact fun r' H' h1 h2 h3 => q r' H' h1 ((kb1.trans (KBut.of s19)).trans h2) h3
      by_cases c8 : z = "maybe"
      · exact ⟨.str z, rfl, rfl, _, rfl, ifSY c8 tail⟩
      · exact ⟨.str z, rfl, rfl, _, rfl, ifSN c8 ⟨.str z, rfl, rfl, _, rfl, ifSY (c7.resolve_left c8) tail⟩⟩
    have c8 : z ≠ "maybe" := fun z' => c7 (.inl z')
    have c9 : z ≠ "box" := fun z' => c7 (.inr z')
    refine ⟨.str z, rfl, rfl, _, rfl, ifSN c8 ⟨.str z, rfl, rfl, _, rfl, ifSN c9 ?_⟩⟩
    by_cases c10 : z = "hole"
    · subst c10
      have ein : inM L.heads L.holes rc "hole" ([a].getD 0 .none) ([a].getD 1 .none) p (n + 1) = (n + 1, if holB L.holes a = true then none else some (p ++ [1], ("hole" : Str))) := rfl
      rw [ein] at q
      refine ⟨.str "hole", rfl, rfl, _, rfl, ifSY rfl ?_⟩
      refine ⟨.ref tv, rfl, tv, _, 1, va, rfl, rfl, hs, atI_nat (j := 1) rfl, va, _, _, _, isS a, rfl, .ty "str", dp_ty hxa pa0, kit_ty (kS a), isS a, rfl, ?_⟩
      -- behind the truth
      have ends : ∀ b : Bool, b = holB L.holes a → (if b = true then tC V.non [some (.ref lk), some (.ref tv), some (.ref pa), some (.int (dep : Int)), some .non, some (.str "hole"), some (.bl b)] H1 Q
          else tTup (tCons (tOp (rCatA K) (tVar 2) (tTup (tCons (tC (.int 1)) tNil))) (tCons (tC (.str "hole")) tNil)) [some (.ref lk), some (.ref tv), some (.ref pa), some (.int (dep : Int)), some .non, some (.str "hole"), some (.bl b)] H1 Q) := by
        intro b hb
        cases b with
        | true =>
          rw [if_pos hb.symm] at q
          exact iteT (q .non H1 hL1 kb1 .non)
        | false =>
          rw [if_neg (by rw [← hb]; decide)] at q
          exact iteF (fa1 rfl hp1 (by omega) fun r H' s' d' => q r H' (hL1.same s') (kb1.trans (KBut.of s')) d')
      cases a with
      | str za =>
        have ev := dp_str hxa
        subst ev
        obtain ⟨dx, fs, e, l1, l2, l3, hl⟩ := hL1.o
        refine iteT ⟨.ref tv, rfl, tv, _, 1, .str za, rfl, rfl, hs, atI_nat (j := 1) rfl, .ref lk, rfl, lk, L.C, dx, fs, _, rfl, e, hL1.t.cl, hL1.t.n2, l2, L.ho, _, rfl, .inr hL1.s, rfl, strs_flat _, .bl (inV (.str za) (L.holes.map V.str)), rfl, _, rfl, ends _ ?_⟩
        show _ = decide (za ∈ L.holes)
        by_cases c : za ∈ L.holes
        · rw [decide_eq_true c, (in_strs L.holes za).mpr c]
        · rw [decide_eq_false c, Bool.eq_false_iff.mpr fun z' => c ((in_strs L.holes za).mp z')]
      | _ => exact iteF ⟨.bl false, rfl, _, rfl, ends false rfl⟩
    have ein : inM L.heads L.holes rc z ([a].getD 0 .none) ([a].getD 1 .none) p (n + 1) = (n + 1, if btw a 1 64 = true then none else some (p ++ [1], ("bits" : Str))) := by
      unfold inM
      rw [if_neg c1, if_neg c2, if_neg c3, if_neg c4, if_neg c7, if_neg c10, if_neg c6]
      rfl
    rw [ein] at q
    refine ⟨.str z, rfl, rfl, _, rfl, ifSN c10 ?_⟩
    refine ⟨.str z, rfl, rfl, _, rfl, ifSN c6 ?_⟩
    refine ⟨.ref tv, rfl, tv, _, 1, va, rfl, rfl, hs, atI_nat (j := 1) rfl, va, a, 1, 64, rfl, hxa, pa0, btw a 1 64, rfl, ite2 (fun c11 => ?_) (fun c11 => ?_)⟩
    · rw [if_pos c11] at q
      exact q .non H1 hL1 kb1 .non
    · rw [if_neg c11] at q
      exact fa1 rfl hp1 (by omega) fun r H' s' d' => q r H' (hL1.same s') (kb1.trans (KBut.of s')) d'
end
end K3
/-! kinds of a book: which stand, what the look at kinds tells of them, holes put in -/
namespace K2
open PySem PySem.Spec PyProof.Rows L2 K1 K3
open TL (tl joinL)
def namesP : Ps → List Str
  | .nil => []
  | .cons n _ ps => n :: namesP ps
mutual
def wf (hs : List (Str × Nat)) (ho : List Str) : Kd → Prop
  | .num _ b => 1 ≤ b ∧ b ≤ 64
  | .truth => True
  | .parts v ps => (v = true → 1 ≤ (psD ps).length) ∧ (psD ps).length ≤ 8 ∧ (namesP ps).Nodup ∧ wfP hs ho ps
  | .row m k => (1 ≤ m ∧ m ≤ 16) ∧ wf hs ho k
  | .one _ k => wf hs ho k
  | .use n fs => (Nm n ∧ hdLk hs n = some (ksD fs).length) ∧ wfK hs ho fs
  | .hole n => Nm n ∧ n ∈ ho
def wfP (hs : List (Str × Nat)) (ho : List Str) : Ps → Prop
  | .nil => True
  | .cons n k ps => Nm n ∧ wf hs ho k ∧ wfP hs ho ps
def wfK (hs : List (Str × Nat)) (ho : List Str) : Ks → Prop
  | .nil => True
  | .cons k ks => wf hs ho k ∧ wfK hs ho ks
end
mutual
theorem wf_good {hs : List (Str × Nat)} {ho : List Str} : ∀ k, wf hs ho k → good k
  | .num _ _, h => h
  | .truth, _ => True.intro
  | .parts v ps, h => wfP_good ps h.2.2.2
  | .row m k, h => ⟨h.1, wf_good k h.2⟩
  | .one _ k, h => wf_good k h
  | .use n fs, h => ⟨h.1.1, wfK_good fs h.2⟩
  | .hole n, h => h.1
  termination_by structural k => k
theorem wfP_good {hs : List (Str × Nat)} {ho : List Str} : ∀ ps, wfP hs ho ps → goodP ps
  | .nil, _ => True.intro
  | .cons n k ps, h => ⟨h.1, wf_good k h.2.1, wfP_good ps h.2.2⟩
  termination_by structural ps => ps
theorem wfK_good {hs : List (Str × Nat)} {ho : List Str} : ∀ ks, wfK hs ho ks → goodK ks
  | .nil, _ => True.intro
  | .cons k ks, h => ⟨wf_good k h.1, wfK_good ks h.2⟩
  termination_by structural ks => ks
end
theorem nm_nameS {n : Str} (h : Nm n) : nameS n = true := by
  have h1 := h.most
  have h2 : 1 ≤ (tl n).length := by
    cases e : tl n with
    | nil => exact absurd e h.pos
    | cons _ _ => simp
  unfold nameS
  rw [Bool.and_eq_true, Bool.and_eq_true]
  rw [← TL.len_tl] at h1 h2
  refine ⟨⟨decide_eq_true h2, decide_eq_true h1⟩, List.all_eq_true.mpr fun c hc => decide_eq_true ?_⟩
  have hl := h.let_ c hc
  unfold letter at hl
  rw [Bool.and_eq_true] at hl
  have a1 := of_decide_eq_true hl.1
  have a2 := of_decide_eq_true hl.2
  have tab : ∀ i : Nat, i < 26 → (97 + i) ∈ K3.abc.cps.toList := by decide +kernel
  have := tab (c - 97) (by omega)
  rwa [show 97 + (c - 97) = c by omega] at this
theorem nfO_ok {names : List Str} {n : Str} (h : Nm n) (hn : n ∉ names) : nfO names (.str n) = none := by
  show (if nameS n = true then (if n ∈ names then some _ else none) else some _) = none
  rw [if_pos (nm_nameS h), if_neg hn]
theorem own_ok {z : Str} {r : List PyData} {m dep n : Nat} (hw : wlen z = some m) (hl : r.length + 1 = m) (hd : dep ≤ 8) (hn : n + 1 ≤ 40) : ownM (.tuple (.str z :: r)) dep n = (n + 1, none) := by
  show (match wlen z with | none => _ | some m => _) = _
  rw [hw]
  show (n + 1, _) = _
  rw [if_neg (by omega), if_neg (by omega), if_neg (by omega)]
theorem wl_num : ∀ i, wlen (S (wN i)) = some 2 := by decide +kernel
theorem wl_parts : ∀ i, wlen (S (wP i)) = some 2 := by decide +kernel
theorem wl_one : ∀ i, wlen (S (wO i)) = some 2 := by decide +kernel
theorem in_num {hs : List (Str × Nat)} {ho : List Str} {rc : Rk} {a b : PyData} {p : List Int} {f : Nat} : ∀ i, inM hs ho rc (S (wN i)) a b p f = (f, (if btw a 1 64 = true then none else some (p ++ [1], "bits") : Fa))
  | false => rfl
  | true => rfl
theorem in_parts2 {hs : List (Str × Nat)} {ho : List Str} {rc : Rk} {a b : PyData} {p : List Int} {f : Nat} : ∀ v, inM hs ho rc (S (wP v)) a b p f = paM (if v = true then 1 else 0) rc a p f
  | false => rfl
  | true => rfl
theorem in_one {hs : List (Str × Nat)} {ho : List Str} {rc : Rk} {a b : PyData} {p : List Int} {f : Nat} : ∀ v, inM hs ho rc (S (wO v)) a b p f = rc a (p ++ [1]) f
  | false => rfl
  | true => rfl
theorem in_truth {hs : List (Str × Nat)} {ho : List Str} {rc : Rk} {a b : PyData} {p : List Int} {f : Nat} : inM hs ho rc (S "truth") a b p f = (f, none) := rfl
theorem in_row {hs : List (Str × Nat)} {ho : List Str} {rc : Rk} {a b : PyData} {p : List Int} {f : Nat} : inM hs ho rc (S "row") a b p f = if btw a 1 16 = true then rc b (p ++ [2]) f else (f, (some (p ++ [1], "many") : Fa)) := rfl
theorem in_use {hs : List (Str × Nat)} {ho : List Str} {rc : Rk} {a b : PyData} {p : List Int} {f : Nat} : inM hs ho rc (S "use") a b p f = usM hs rc a b p f := rfl
theorem in_hole {hs : List (Str × Nat)} {ho : List Str} {rc : Rk} {a b : PyData} {p : List Int} {f : Nat} : inM hs ho rc (S "hole") a b p f = (f, (if holB ho a = true then none else some (p ++ [1], "hole") : Fa)) := rfl
theorem btw_of {b lo hi : Int} (h : lo ≤ b ∧ b ≤ hi) : btw (.int b) lo hi = true := btw_iff.mpr ⟨rfl, h.1, h.2⟩
mutual
theorem kfM_wf {hs : List (Str × Nat)} {ho : List Str} : ∀ k, wf hs ho k → ∀ (fuel : Nat) (p : List Int) (dep n : Nat), dpt k ≤ fuel → dep + dpt k ≤ 9 → n + fm k ≤ 40 → kfM hs ho fuel (toD k) p dep n = (n + fm k, none)
  | .num i b, h, fuel + 1, p, dep, n, hf, hd, hn => by
    simp only [dpt, fm] at hf hd hn
    rw [toD, kfM_none (own_ok (wl_num i) rfl (by omega) (by omega)), in_num]
    show (n + 1, if btw (.int b) 1 64 = true then none else _) = _
    rw [if_pos (btw_of h)]
    rfl
  | .truth, h, fuel + 1, p, dep, n, hf, hd, hn => by
    simp only [dpt, fm] at hf hd hn
    rw [toD, kfM_none (own_ok (m := 1) rfl rfl (by omega) (by omega)), in_truth]
    rfl
  | .parts v ps, h, fuel + 1, p, dep, n, hf, hd, hn => by
    simp only [dpt, fm] at hf hd hn
    rw [toD, kfM_none (own_ok (wl_parts v) rfl (by omega) (by omega)), in_parts2]
    show (if (if v = true then 1 else 0) ≤ (psD ps).length ∧ (psD ps).length ≤ 8 then ptsM (fun d' p' g => kfM hs ho fuel d' p' (dep + 1) g) p (psD ps) 0 [] (n + 1) else _) = _
    rw [if_pos ⟨by
      cases v with
      | false => exact Nat.zero_le _
      | true => exact h.1 rfl, h.2.1⟩]
    rw [ptsM_wf ps h.2.2.2 fuel p (dep + 1) (n + 1) 0 [] (by omega) (by omega) (by omega) (fun _ _ z => nomatch z) h.2.2.1]
    simp only [fm]
    rw [show n + 1 + fmP ps = n + (fmP ps + 1) by omega]
  | .row m k, h, fuel + 1, p, dep, n, hf, hd, hn => by
    simp only [dpt, fm] at hf hd hn
    rw [toD, kfM_none (own_ok (m := 3) rfl rfl (by omega) (by omega)), in_row]
    show (if btw (.int m) 1 16 = true then kfM hs ho fuel (toD k) (p ++ [2]) (dep + 1) (n + 1) else _) = _
    rw [if_pos (btw_of h.1), kfM_wf k h.2 fuel _ (dep + 1) (n + 1) (by omega) (by omega) (by omega)]
    simp only [fm]
    rw [show n + 1 + fm k = n + (fm k + 1) by omega]
  | .one b k, h, fuel + 1, p, dep, n, hf, hd, hn => by
    simp only [dpt, fm] at hf hd hn
    rw [toD, kfM_none (own_ok (wl_one b) rfl (by omega) (by omega)), in_one]
    show kfM hs ho fuel (toD k) (p ++ [1]) (dep + 1) (n + 1) = _
    rw [kfM_wf k h fuel _ (dep + 1) (n + 1) (by omega) (by omega) (by omega)]
    simp only [fm]
    rw [show n + 1 + fm k = n + (fm k + 1) by omega]
  | .use z fs, h, fuel + 1, p, dep, n, hf, hd, hn => by
    simp only [dpt, fm] at hf hd hn
    rw [toD, kfM_none (own_ok (m := 3) rfl rfl (by omega) (by omega)), in_use]
    show (match hdLk hs z with | none => _ | some m => flM m (fun d' p' g => kfM hs ho fuel d' p' (dep + 1) g) (.tuple (ksD fs)) p (n + 1)) = _
    rw [h.1.2]
    show (if (ksD fs).length = (ksD fs).length then filM (fun d' p' g => kfM hs ho fuel d' p' (dep + 1) g) p (ksD fs) 0 (n + 1) else _) = _
    rw [if_pos rfl, filM_wf fs h.2 fuel p (dep + 1) (n + 1) 0 (by omega) (by omega) (by omega)]
    simp only [fm]
    rw [show n + 1 + fmK fs = n + (fmK fs + 1) by omega]
  | .hole z, h, fuel + 1, p, dep, n, hf, hd, hn => by
    simp only [dpt, fm] at hf hd hn
    rw [toD, kfM_none (own_ok (m := 2) rfl rfl (by omega) (by omega)), in_hole]
    show (n + 1, if decide (z ∈ ho) = true then none else _) = _
    rw [if_pos (decide_eq_true h.2)]
    rfl
  | k, h, 0, p, dep, n, hf, hd, hn => by
    have := dpt_pos k
    omega
  termination_by structural k => k
theorem ptsM_wf {hs : List (Str × Nat)} {ho : List Str} : ∀ ps, wfP hs ho ps → ∀ (fuel : Nat) (p : List Int) (dep n j : Nat) (names : List Str), dptP ps ≤ fuel → dep + dptP ps ≤ 9 → n + fmP ps ≤ 40 → (∀ z ∈ namesP ps, z ∉ names) → (namesP ps).Nodup →
    ptsM (fun d' p' g => kfM hs ho fuel d' p' dep g) p (psD ps) j names n = (n + fmP ps, none)
  | .nil, _, _, _, _, _, _, _, _, _, _, _, _ => rfl
  | .cons z k ps, h, fuel, p, dep, n, j, names, hf, hd, hn, hni, hnd => by
    simp only [dptP, fmP] at hf hd hn
    show (match nfO names (.str z) with | some z => _ | none => (match kfM hs ho fuel (toD k) (p ++ [1, (j : Int)] ++ [1]) dep n with | (f', some x) => (f', some x) | (f', none) => ptsM (fun d' p' g => kfM hs ho fuel d' p' dep g) p (psD ps) (j + 1) (names ++ [z]) f')) = _
    rw [nfO_ok h.1 (hni z List.mem_cons_self), kfM_wf k h.2.1 fuel _ dep n (by omega) (by omega) (by omega)]
    show ptsM (fun d' p' g => kfM hs ho fuel d' p' dep g) p (psD ps) (j + 1) (names ++ [z]) (n + fm k) = _
    have hnd' := List.nodup_cons.mp hnd
    rw [ptsM_wf ps h.2.2 fuel p dep (n + fm k) (j + 1) (names ++ [z]) (by omega) (by omega) (by omega) (fun y hy hm => ?_) hnd'.2]
    · simp only [fmP]
      rw [show n + fm k + fmP ps = n + (fm k + fmP ps) by omega]
    · rcases List.mem_append.mp hm with hm | hm
      · exact hni y (List.mem_cons_of_mem _ hy) hm
      · rw [List.mem_singleton.mp hm] at hy
        exact hnd'.1 hy
  termination_by structural ps => ps
theorem filM_wf {hs : List (Str × Nat)} {ho : List Str} : ∀ ks, wfK hs ho ks → ∀ (fuel : Nat) (p : List Int) (dep n j : Nat), dptK ks ≤ fuel → dep + dptK ks ≤ 9 → n + fmK ks ≤ 40 →
    filM (fun d' p' g => kfM hs ho fuel d' p' dep g) p (ksD ks) j n = (n + fmK ks, none)
  | .nil, _, _, _, _, _, _, _, _, _ => rfl
  | .cons k ks, h, fuel, p, dep, n, j, hf, hd, hn => by
    simp only [dptK, fmK] at hf hd hn
    show (match kfM hs ho fuel (toD k) (p ++ [2, (j : Int)]) dep n with | (f', some x) => (f', some x) | (f', none) => filM (fun d' p' g => kfM hs ho fuel d' p' dep g) p (ksD ks) (j + 1) f') = _
    rw [kfM_wf k h.1 fuel _ dep n (by omega) (by omega) (by omega)]
    show filM (fun d' p' g => kfM hs ho fuel d' p' dep g) p (ksD ks) (j + 1) (n + fm k) = _
    rw [filM_wf ks h.2 fuel p dep (n + fm k) (j + 1) (by omega) (by omega) (by omega)]
    simp only [fmK]
    rw [show n + fm k + fmK ks = n + (fm k + fmK ks) by omega]
  termination_by structural ks => ks
end
end K2
/-! books -/
namespace K2
open PySem PySem.Spec PyProof.Rows L2 K1 K3
open TL (tl joinL)
theorem psD_sub {σ : Str → Option Kd} : ∀ ps, (psD (subP σ ps)).length = (psD ps).length ∧ namesP (subP σ ps) = namesP ps
  | .nil => ⟨rfl, rfl⟩
  | .cons n k ps => by
    obtain ⟨h1, h2⟩ := psD_sub (σ := σ) ps
    exact ⟨by simp only [subP, psD, List.length_cons, h1], by simp only [subP, namesP, h2]⟩
theorem ksD_sub {σ : Str → Option Kd} : ∀ ks, (ksD (subK σ ks)).length = (ksD ks).length
  | .nil => rfl
  | .cons k ks => by simp only [subK, ksD, List.length_cons, ksD_sub ks]
mutual
theorem wf_sub {hs : List (Str × Nat)} {ho ho' : List Str} {σ : Str → Option Kd} (hσ : ∀ n ∈ ho, ∃ e, σ n = some e ∧ wf hs ho' e) : ∀ k, wf hs ho k → wf hs ho' (sub σ k)
  | .num _ _, h => h
  | .truth, _ => True.intro
  | .parts v ps, h => by
    obtain ⟨a1, a2⟩ := psD_sub (σ := σ) ps
    refine ⟨fun hv => ?_, ?_, ?_, wfP_sub hσ ps h.2.2.2⟩
    · rw [a1]; exact h.1 hv
    · rw [a1]; exact h.2.1
    · rw [a2]; exact h.2.2.1
  | .row m k, h => ⟨h.1, wf_sub hσ k h.2⟩
  | .one _ k, h => wf_sub hσ k h
  | .use n fs, h => ⟨⟨h.1.1, by rw [ksD_sub]; exact h.1.2⟩, wfK_sub hσ fs h.2⟩
  | .hole n, h => by
    obtain ⟨e, e1, e2⟩ := hσ n h.2
    simp only [sub, e1, Option.getD_some]
    exact e2
  termination_by structural k => k
theorem wfP_sub {hs : List (Str × Nat)} {ho ho' : List Str} {σ : Str → Option Kd} (hσ : ∀ n ∈ ho, ∃ e, σ n = some e ∧ wf hs ho' e) : ∀ ps, wfP hs ho ps → wfP hs ho' (subP σ ps)
  | .nil, _ => True.intro
  | .cons n k ps, h => ⟨h.1, wf_sub hσ k h.2.1, wfP_sub hσ ps h.2.2⟩
  termination_by structural ps => ps
theorem wfK_sub {hs : List (Str × Nat)} {ho ho' : List Str} {σ : Str → Option Kd} (hσ : ∀ n ∈ ho, ∃ e, σ n = some e ∧ wf hs ho' e) : ∀ ks, wfK hs ho ks → wfK hs ho' (subK σ ks)
  | .nil, _ => True.intro
  | .cons k ks, h => ⟨wf_sub hσ k h.1, wfK_sub hσ ks h.2⟩
  termination_by structural ks => ks
end
mutual
theorem fm_sub {σ : Str → Option Kd} {F : Nat} (hF : 1 ≤ F) (hσ : ∀ n e, σ n = some e → fm e ≤ F) : ∀ k, fm (sub σ k) ≤ fm k * F
  | .num _ _ => by simp only [sub, fm]; omega
  | .truth => by simp only [sub, fm]; omega
  | .parts v ps => by
    have := fmP_sub hF hσ ps
    simp only [sub, fm, Nat.add_mul]; omega
  | .row m k => by
    have := fm_sub hF hσ k
    simp only [sub, fm, Nat.add_mul]; omega
  | .one _ k => by
    have := fm_sub hF hσ k
    simp only [sub, fm, Nat.add_mul]; omega
  | .use n fs => by
    have := fmK_sub hF hσ fs
    simp only [sub, fm, Nat.add_mul]; omega
  | .hole n => by
    simp only [sub, fm]
    cases e : σ n with
    | none => simp only [Option.getD_none, fm]; omega
    | some d =>
      have := hσ n d e
      simp only [Option.getD_some]; omega
  termination_by structural k => k
theorem fmP_sub {σ : Str → Option Kd} {F : Nat} (hF : 1 ≤ F) (hσ : ∀ n e, σ n = some e → fm e ≤ F) : ∀ ps, fmP (subP σ ps) ≤ fmP ps * F
  | .nil => by simp [subP, fmP]
  | .cons n k ps => by
    have h1 := fm_sub hF hσ k
    have h2 := fmP_sub hF hσ ps
    simp only [subP, fmP, Nat.add_mul]; omega
  termination_by structural ps => ps
theorem fmK_sub {σ : Str → Option Kd} {F : Nat} (hF : 1 ≤ F) (hσ : ∀ n e, σ n = some e → fm e ≤ F) : ∀ ks, fmK (subK σ ks) ≤ fmK ks * F
  | .nil => by simp [subK, fmK]
  | .cons k ks => by
    have h1 := fm_sub hF hσ k
    have h2 := fmK_sub hF hσ ks
    simp only [subK, fmK, Nat.add_mul]; omega
  termination_by structural ks => ks
end
mutual
theorem dpt_sub {σ : Str → Option Kd} {D : Nat} (hσ : ∀ n e, σ n = some e → dpt e ≤ D) : ∀ k, dpt (sub σ k) ≤ dpt k + D
  | .num _ _ => by simp only [sub, dpt]; omega
  | .truth => by simp only [sub, dpt]; omega
  | .parts v ps => by
    have := dptP_sub hσ ps
    simp only [sub, dpt]; omega
  | .row m k => by
    have := dpt_sub hσ k
    simp only [sub, dpt]; omega
  | .one _ k => by
    have := dpt_sub hσ k
    simp only [sub, dpt]; omega
  | .use n fs => by
    have := dptK_sub hσ fs
    simp only [sub, dpt]; omega
  | .hole n => by
    simp only [sub, dpt]
    cases e : σ n with
    | none => simp only [Option.getD_none, dpt]; omega
    | some d =>
      have := hσ n d e
      simp only [Option.getD_some]; omega
  termination_by structural k => k
theorem dptP_sub {σ : Str → Option Kd} {D : Nat} (hσ : ∀ n e, σ n = some e → dpt e ≤ D) : ∀ ps, dptP (subP σ ps) ≤ dptP ps + D
  | .nil => by simp [subP, dptP]
  | .cons n k ps => by
    have h1 := dpt_sub hσ k
    have h2 := dptP_sub hσ ps
    simp only [subP, dptP]; omega
  termination_by structural ps => ps
theorem dptK_sub {σ : Str → Option Kd} {D : Nat} (hσ : ∀ n e, σ n = some e → dpt e ≤ D) : ∀ ks, dptK (subK σ ks) ≤ dptK ks + D
  | .nil => by simp [subK, dptK]
  | .cons k ks => by
    have h1 := dpt_sub hσ k
    have h2 := dptK_sub hσ ks
    simp only [subK, dptK]; omega
  termination_by structural ks => ks
end
theorem fillOf_mem : ∀ {ho : List Str} {fs : List Kd} {n : Str} {e : Kd}, fillOf ho fs n = some e → e ∈ fs
  | h :: ho, f :: fs, n, e, hh => by
    unfold fillOf at hh
    by_cases c : n = h
    · rw [if_pos c] at hh
      rw [Option.some.inj hh]
      exact List.mem_cons_self
    · rw [if_neg c] at hh
      exact List.mem_cons_of_mem _ (fillOf_mem hh)
  | [], _, _, _, hh => by simp [fillOf] at hh
  | _ :: _, [], _, _, hh => by simp [fillOf] at hh
theorem fillOf_some : ∀ {ho : List Str} {fs : List Kd} {n : Str}, ho.length = fs.length → n ∈ ho → ∃ e, fillOf ho fs n = some e
  | h :: ho, f :: fs, n, hl, hn => by
    unfold fillOf
    by_cases c : n = h
    · exact ⟨f, if_pos c⟩
    · rw [if_neg c]
      refine fillOf_some (by simpa using hl) ?_
      rcases List.mem_cons.mp hn with z | z
      · exact absurd z c
      · exact z
  | [], _, _, _, hn => nomatch hn
  | _ :: _, [], _, hl, _ => by simp at hl
theorem fillOf_none : ∀ {ho : List Str} {fs : List Kd} {n : Str}, n ∉ ho → fillOf ho fs n = none
  | h :: ho, f :: fs, n, hn => by
    unfold fillOf
    rw [if_neg fun z => hn (by rw [z]; exact List.mem_cons_self)]
    exact fillOf_none fun z => hn (List.mem_cons_of_mem _ z)
  | [], _, _, _ => by simp [fillOf]
  | _ :: _, [], _, _ => by simp [fillOf]
theorem fillOf_get : ∀ {ho : List Str} {fs : List Kd} {n : Str} {f : Kd} {i : Nat}, ho.Nodup → ho[i]? = some n → fs[i]? = some f → fillOf ho fs n = some f
  | h :: ho, f0 :: fs, n, f, 0, _, h1, h2 => by
    simp at h1 h2
    unfold fillOf
    rw [if_pos h1.symm, h2]
  | h :: ho, f0 :: fs, n, f, i + 1, hd, h1, h2 => by
    have hd' := List.nodup_cons.mp hd
    unfold fillOf
    have hm : n ∈ ho := List.mem_of_getElem? (by simpa using h1)
    rw [if_neg fun z => hd'.1 (by rw [← z]; exact hm)]
    exact fillOf_get hd'.2 (by simpa using h1) (by simpa using h2)
  | [], _, _, _, _, _, h1, _ => by simp at h1
  | _ :: _, [], _, _, _, _, _, h2 => by simp at h2
/-! ### declarations -/
structure Dc where
  name : Str
  holes : List Str
  kd : Kd
def rowD (r : Dc) : PyData := .tuple [.str r.name, .tuple (r.holes.map PyData.str), toD r.kd]
def hdsB (B : List Dc) : List (Str × Nat) := B.map fun r => (r.name, r.holes.length)
structure okDc (hs : List (Str × Nat)) (r : Dc) : Prop where
  nm : Nm r.name
  len : r.holes.length ≤ 3
  nd : r.holes.Nodup
  hn : ∀ h ∈ r.holes, Nm h
  w : wf hs r.holes r.kd
  f : fm r.kd ≤ 40
  d : dpt r.kd ≤ 8
structure okB (B : List Dc) : Prop where
  len : B.length ≤ 12
  nd : (B.map (·.name)).Nodup
  row : ∀ r ∈ B, okDc (hdsB B) r
def bookD (B : List Dc) : PyData := .tuple (B.map rowD)
def bodyK (B : List Dc) (n : Str) (fs : List Kd) : Kd := match B.find? (fun r => decide (r.name = n)) with
  | some r => sub (fillOf r.holes fs) r.kd
  | none => .truth
def partsK (B : List Dc) : Kd → List Kd
  | .use n fs => [bodyK B n (kidsK fs)]
  | k => innerK k
theorem hdLk_B {B : List Dc} {n : Str} {m : Nat} (h : hdLk (hdsB B) n = some m) : ∃ r ∈ B, B.find? (fun r => decide (r.name = n)) = some r ∧ r.name = n ∧ r.holes.length = m := by
  unfold hdLk hdsB at h
  rw [List.find?_map] at h
  have e : ((fun q : Str × Nat => decide (q.1 = n)) ∘ fun r : Dc => (r.name, r.holes.length)) = fun r : Dc => decide (r.name = n) := rfl
  rw [e] at h
  cases hf : B.find? (fun r => decide (r.name = n)) with
  | none => rw [hf] at h; cases h
  | some r =>
    rw [hf] at h
    have hn := List.find?_some hf
    exact ⟨r, List.mem_of_find?_eq_some hf, rfl, of_decide_eq_true hn, by simpa using h⟩
theorem kidsK_ksL : ∀ ks, ksL (kidsK ks) = ks
  | .nil => rfl
  | .cons k ks => by simp only [kidsK, ksL, kidsK_ksL ks]
theorem kidsK_wf {hs : List (Str × Nat)} {ho : List Str} : ∀ ks, wfK hs ho ks → ∀ c ∈ kidsK ks, wf hs ho c
  | .nil, _, _, h => nomatch h
  | .cons k ks, h, c, hc => by
    rcases List.mem_cons.mp hc with rfl | hc
    · exact h.1
    · exact kidsK_wf ks h.2 c hc
theorem kidsP_wf {hs : List (Str × Nat)} {ho : List Str} : ∀ ps, wfP hs ho ps → ∀ c ∈ kidsP ps, wf hs ho c
  | .nil, _, _, h => nomatch h
  | .cons n k ks, h, c, hc => by
    rcases List.mem_cons.mp hc with rfl | hc
    · exact h.2.1
    · exact kidsP_wf ks h.2.2 c hc
theorem innerK_wf {hs : List (Str × Nat)} {ho : List Str} : ∀ k, wf hs ho k → ∀ c ∈ innerK k, wf hs ho c
  | .num _ _, _, _, h => nomatch h
  | .truth, _, _, h => nomatch h
  | .parts v ps, h, c, hc => kidsP_wf ps h.2.2.2 c hc
  | .row m k, h, c, hc => by rw [List.mem_singleton.mp hc]; exact h.2
  | .one b k, h, c, hc => by rw [List.mem_singleton.mp hc]; exact h
  | .use n fs, h, c, hc => kidsK_wf fs h.2 c hc
  | .hole n, _, _, h => nomatch h
/-- the body of a closed use of a good book -/
theorem body_ok {B : List Dc} (hB : okB B) {n : Str} {fs : Ks} {F D : Nat} (h : wf (hdsB B) [] (.use n fs)) (hf : ∀ c ∈ kidsK fs, fm c ≤ F) (hF : 1 ≤ F) (hd : ∀ c ∈ kidsK fs, dpt c ≤ D) :
    ∃ r ∈ B, B.find? (fun r => decide (r.name = n)) = some r ∧ r.name = n ∧ okDc (hdsB B) r ∧ r.holes.length = (kidsK fs).length ∧ bodyK B n (kidsK fs) = sub (fillOf r.holes (kidsK fs)) r.kd ∧
      wf (hdsB B) [] (bodyK B n (kidsK fs)) ∧ fm (bodyK B n (kidsK fs)) ≤ 40 * F ∧ dpt (bodyK B n (kidsK fs)) ≤ 8 + D := by
  obtain ⟨r, hr, h1, h2, h3⟩ := hdLk_B h.1.2
  have hl : r.holes.length = (kidsK fs).length := by rw [h3, (kidsK_ok fs).1]
  have hb : bodyK B n (kidsK fs) = sub (fillOf r.holes (kidsK fs)) r.kd := by unfold bodyK; rw [h1]
  have ro := hB.row r hr
  refine ⟨r, hr, h1, h2, ro, hl, hb, ?_, ?_, ?_⟩
  · rw [hb]
    refine wf_sub (fun m hm => ?_) r.kd ro.w
    obtain ⟨e, he⟩ := fillOf_some hl hm
    exact ⟨e, he, kidsK_wf fs h.2 e (fillOf_mem he)⟩
  · rw [hb]
    have := fm_sub hF (σ := fillOf r.holes (kidsK fs)) (fun m e he => hf e (fillOf_mem he)) r.kd
    exact Nat.le_trans this (Nat.mul_le_mul_right F ro.f)
  · rw [hb]
    have := dpt_sub (σ := fillOf r.holes (kidsK fs)) (fun m e he => hd e (fillOf_mem he)) r.kd
    have := ro.d
    omega
/-! ### the look at books -/
def holM (number : Int) : List PyData → Nat → List Str → Fa
  | [], _, _ => none
  | h :: r, j, names => match nfO names h with
    | some z => some ([number, 1, (j : Int)], z)
    | none => holM number r (j + 1) (names ++ [strO h])
def hfM (names : List Str) (d : PyData) (number : Int) : Fa := match d with
  | .tuple [a, b, _] => (match nfO names a with
    | some z => some ([number, 0], z)
    | none => (match b with
      | .tuple hs => if hs.length ≤ 3 then holM number hs 0 [] else some ([number, 1], "holes")
      | _ => some ([number, 1], "holes")))
  | _ => some ([number], "entry")
def nameO : PyData → Str
  | .tuple (a :: _) => strO a
  | _ => ""
def holesO : PyData → List Str
  | .tuple [_, .tuple hs, _] => hs.map strO
  | _ => []
def kdO : PyData → PyData
  | .tuple [_, _, k] => k
  | _ => .none
def bkM1 : List PyData → Nat → List Str → Fa
  | [], _, _ => none
  | d :: r, i, names => match hfM names d (i : Int) with
    | some x => some x
    | none => bkM1 r (i + 1) (names ++ [nameO d])
def hsM (rows : List PyData) : List (Str × Nat) := rows.map fun d => (nameO d, (holesO d).length)
def bkM2 (hs : List (Str × Nat)) : List PyData → Nat → Fa
  | [], _ => none
  | d :: r, i => match (kfM hs (holesO d) 10 (kdO d) [(i : Int), 2] 1 0).2 with
    | some x => some x
    | none => bkM2 hs r (i + 1)
def bkM (d : PyData) : Fa := match d with
  | .tuple rows => if rows.length ≤ 12 then (match bkM1 rows 0 [] with
    | some x => some x
    | none => bkM2 (hsM rows) rows 0) else some ([], "many")
  | _ => some ([], "book")
theorem holM_ok (number : Int) : ∀ (hs : List Str) (j : Nat) (names : List Str), (∀ h ∈ hs, Nm h ∧ h ∉ names) → hs.Nodup → holM number (hs.map PyData.str) j names = none
  | [], _, _, _, _ => rfl
  | h :: hs, j, names, hn, nd => by
    have hd := List.nodup_cons.mp nd
    obtain ⟨h1, h2⟩ := hn h List.mem_cons_self
    show (match nfO names (.str h) with | some z => _ | none => holM number (hs.map PyData.str) (j + 1) (names ++ [h])) = none
    rw [nfO_ok h1 h2]
    refine holM_ok number hs (j + 1) (names ++ [h]) (fun x hx => ⟨(hn x (List.mem_cons_of_mem _ hx)).1, fun z => ?_⟩) hd.2
    rcases List.mem_append.mp z with z | z
    · exact (hn x (List.mem_cons_of_mem _ hx)).2 z
    · rw [List.mem_singleton.mp z] at hx
      exact hd.1 hx
theorem hfM_ok {hs : List (Str × Nat)} {r : Dc} (h : okDc hs r) {names : List Str} (hn : r.name ∉ names) (number : Int) : hfM names (rowD r) number = none := by
  show (match nfO names (.str r.name) with | some z => _ | none => (if (r.holes.map PyData.str).length ≤ 3 then holM number (r.holes.map PyData.str) 0 [] else _)) = none
  rw [nfO_ok h.nm hn]
  show (if (r.holes.map PyData.str).length ≤ 3 then holM number (r.holes.map PyData.str) 0 [] else _) = none
  rw [if_pos (by rw [List.length_map]; exact h.len)]
  exact holM_ok number r.holes 0 [] (fun x hx => ⟨h.hn x hx, fun z => nomatch z⟩) h.nd
theorem bkM1_ok {hs : List (Str × Nat)} : ∀ (B : List Dc) (i : Nat) (names : List Str), (∀ r ∈ B, okDc hs r ∧ r.name ∉ names) → (B.map (·.name)).Nodup → bkM1 (B.map rowD) i names = none
  | [], _, _, _, _ => rfl
  | r :: B, i, names, hr, nd => by
    have hd := List.nodup_cons.mp nd
    obtain ⟨h1, h2⟩ := hr r List.mem_cons_self
    show (match hfM names (rowD r) (i : Int) with | some x => some x | none => bkM1 (B.map rowD) (i + 1) (names ++ [r.name])) = none
    rw [hfM_ok h1 h2]
    refine bkM1_ok B (i + 1) (names ++ [r.name]) (fun x hx => ⟨(hr x (List.mem_cons_of_mem _ hx)).1, fun z => ?_⟩) hd.2
    rcases List.mem_append.mp z with z | z
    · exact (hr x (List.mem_cons_of_mem _ hx)).2 z
    · exact hd.1 (by
        have e := List.mem_singleton.mp z
        show r.name ∈ _
        rw [← e]
        exact List.mem_map_of_mem (f := fun x : Dc => x.name) hx)
theorem holesO_row (r : Dc) : holesO (rowD r) = r.holes := by
  show (r.holes.map PyData.str).map strO = r.holes
  rw [List.map_map]
  exact List.map_id'' (fun x => rfl) r.holes
theorem hsM_rows (B : List Dc) : hsM (B.map rowD) = hdsB B := by
  unfold hsM hdsB
  rw [List.map_map]
  refine List.map_congr_left fun r _ => ?_
  show (r.name, (holesO (rowD r)).length) = _
  rw [holesO_row]
theorem bkM2_ok {hs : List (Str × Nat)} : ∀ (B : List Dc) (i : Nat), (∀ r ∈ B, okDc hs r) → bkM2 hs (B.map rowD) i = none
  | [], _, _ => rfl
  | r :: B, i, hr => by
    have h := hr r List.mem_cons_self
    show (match (kfM hs (holesO (rowD r)) 10 (toD r.kd) [(i : Int), 2] 1 0).2 with | some x => some x | none => bkM2 hs (B.map rowD) (i + 1)) = none
    have := h.d
    have := h.f
    rw [holesO_row, kfM_wf r.kd h.w 10 _ 1 0 (by omega) (by omega) (by omega)]
    exact bkM2_ok B (i + 1) fun x hx => hr x (List.mem_cons_of_mem _ hx)
theorem bkM_ok {B : List Dc} (h : okB B) : bkM (bookD B) = none := by
  show (if (B.map rowD).length ≤ 12 then (match bkM1 (B.map rowD) 0 [] with | some x => some x | none => bkM2 (hsM (B.map rowD)) (B.map rowD) 0) else some ([], ("many" : Str))) = none
  rw [if_pos (by rw [List.length_map]; exact h.len), bkM1_ok B 0 [] (fun r hr => ⟨h.row r hr, fun z => nomatch z⟩) h.nd, hsM_rows]
  exact bkM2_ok B 0 h.row
theorem pl_rows {hs : List (Str × Nat)} : ∀ {B : List Dc}, (∀ r ∈ B, okDc hs r) → plA (B.map rowD) = true
  | [], _ => rfl
  | r :: B, h => by
    have ro := h r List.mem_cons_self
    show ((pl (.str r.name) && (plA (r.holes.map PyData.str) && (pl (toD r.kd) && true))) && plA (B.map rowD)) = true
    rw [pl_rows fun x hx => h x (List.mem_cons_of_mem _ hx), (pl_D r.kd (wf_good _ ro.w)).1, show pl (.str r.name) = true from nm_ok ro.nm, plA_of fun d hd => ?_]
    · rfl
    · obtain ⟨z, hz, rfl⟩ := List.mem_map.mp hd
      exact nm_ok (ro.hn z hz)
end K2
/-! what heads that are let by look like -/
namespace K2
open PySem PySem.Spec PyProof.Rows L2 K1 K3
open TL (tl joinL)
theorem nfO_inv {names : List Str} {d : PyData} (h : nfO names d = none) : ∃ z, d = .str z ∧ nameS z = true ∧ z ∉ names := by
  cases d with
  | str z =>
    have h' : (if nameS z = true then (if z ∈ names then some ("twice" : Str) else none) else some ("name" : Str)) = none := h
    by_cases c : nameS z = true
    · rw [if_pos c] at h'
      by_cases c2 : z ∈ names
      · rw [if_pos c2] at h'; cases h'
      · exact ⟨z, rfl, c, c2⟩
    · rw [if_neg c] at h'; cases h'
  | _ => cases h
theorem holM_inv {number : Int} : ∀ {hs : List PyData} {j : Nat} {names : List Str}, holM number hs j names = none → hs = (hs.map strO).map PyData.str
  | [], _, _, _ => rfl
  | d :: hs, j, names, h => by
    have h' : (match nfO names d with | some z => some ([number, 1, (j : Int)], z) | none => holM number hs (j + 1) (names ++ [strO d]) : Fa) = none := h
    cases e : nfO names d with
    | some z => rw [e] at h'; cases h'
    | none =>
      rw [e] at h'
      obtain ⟨z, rfl, _, _⟩ := nfO_inv e
      show PyData.str z :: hs = PyData.str z :: (hs.map strO).map PyData.str
      rw [← holM_inv h']
/-- a declaration that is let by -/
def RowOk (d : PyData) : Prop := ∃ (n : Str) (hs : List Str) (k : PyData), d = .tuple [.str n, .tuple (hs.map PyData.str), k] ∧ nameS n = true ∧ hs.length ≤ 3
theorem hfM_inv {names : List Str} {d : PyData} {number : Int} (h : hfM names d number = none) : RowOk d ∧ nameO d ∉ names := by
  unfold hfM at h
  split at h
  · rename_i a b k
    cases e : nfO names a with
    | some z => rw [e] at h; cases h
    | none =>
      rw [e] at h
      obtain ⟨z, rfl, h1, h2⟩ := nfO_inv e
      cases b with
      | tuple hs =>
        have h' : (if hs.length ≤ 3 then holM number hs 0 [] else some ([number, 1], ("holes" : Str))) = none := h
        by_cases c : hs.length ≤ 3
        · rw [if_pos c] at h'
          exact ⟨⟨z, hs.map strO, k, by rw [← holM_inv h'], h1, by rw [List.length_map]; exact c⟩, h2⟩
        · rw [if_neg c] at h'; cases h'
      | _ => cases h
  · cases h
theorem bkM1_inv : ∀ {rows : List PyData} {i : Nat} {names : List Str}, bkM1 rows i names = none → names.Nodup → (∀ d ∈ rows, RowOk d) ∧ (names ++ rows.map nameO).Nodup
  | [], _, names, _, hn => ⟨fun _ h => (nomatch h), by simpa using hn⟩
  | d :: rows, i, names, h, hn => by
    have h' : (match hfM names d (i : Int) with | some x => some x | none => bkM1 rows (i + 1) (names ++ [nameO d]) : Fa) = none := h
    cases e : hfM names d (i : Int) with
    | some z => rw [e] at h'; cases h'
    | none =>
      rw [e] at h'
      obtain ⟨h1, h2⟩ := hfM_inv e
      obtain ⟨g1, g2⟩ := bkM1_inv h' (List.nodup_append.mpr ⟨hn, by simp, fun a ha b hb z => h2 (by rw [List.mem_singleton.mp hb] at z; rw [← z]; exact ha)⟩)
      refine ⟨fun x hx => ?_, ?_⟩
      · rcases List.mem_cons.mp hx with rfl | hx
        · exact h1
        · exact g1 x hx
      · simpa using g2
theorem bkM_tuple {d : PyData} (h : bkM d = none) : ∃ rows, d = .tuple rows ∧ rows.length ≤ 12 ∧ bkM1 rows 0 [] = none ∧ bkM2 (hsM rows) rows 0 = none := by
  cases d with
  | tuple rows =>
    have h' : (if rows.length ≤ 12 then (match bkM1 rows 0 [] with | some x => some x | none => bkM2 (hsM rows) rows 0) else some ([], ("many" : Str))) = none := h
    by_cases c : rows.length ≤ 12
    · rw [if_pos c] at h'
      cases e : bkM1 rows 0 [] with
      | some x => rw [e] at h'; cases h'
      | none => rw [e] at h'; exact ⟨rows, rfl, c, e, h'⟩
    · rw [if_neg c] at h'; cases h'
  | _ => cases h
/-- heads as a dict is filled -/
theorem putK_new {kvs : List (Key × V)} {k : Key} {v : V} (h : ∀ p ∈ kvs, p.1 ≠ k) : putK kvs k v = kvs ++ [(k, v)] := by
  unfold putK
  rw [if_neg]
  intro z
  rw [List.any_eq_true] at z
  obtain ⟨p, hp, e⟩ := z
  exact h p hp (of_decide_eq_true e)
theorem hsM_snoc (rows : List PyData) (d : PyData) : hsM (rows ++ [d]) = hsM rows ++ [(nameO d, (holesO d).length)] := by simp [hsM]
theorem headK_snoc (hs : List (Str × Nat)) (p : Str × Nat) : headK (hs ++ [p]) = headK hs ++ [(Sum.inr p.1, V.int (p.2 : Int))] := by simp [headK]
theorem headK_ne {rows : List PyData} {n : Str} (h : n ∉ rows.map nameO) : ∀ p ∈ headK (hsM rows), p.1 ≠ Sum.inr n := by
  intro p hp z
  obtain ⟨q, hq, rfl⟩ := List.mem_map.mp hp
  obtain ⟨d, hd, rfl⟩ := List.mem_map.mp hq
  exact h (by rw [← Sum.inr.inj z]; exact List.mem_map_of_mem hd)
/-- the parts of a row that is let by -/
theorem row_at {K : PySem.W.Frag} {H : Hp} {v : V} {d : PyData} (h : Dp K H v d) (r : RowOk d) : ∃ (a ho : Addr) (kv : V), v = .ref a ∧ SqT K H a [.str (nameO d), .ref ho, kv] ∧ SqT K H ho ((holesO d).map V.str) ∧ Dp K H kv (kdO d) ∧ (holesO d).length ≤ 3 := by
  obtain ⟨n, hs, k, rfl, hn, hl⟩ := r
  obtain ⟨a, xs, rfl, hs1, ha⟩ := dp_tup h
  cases ha with
  | cons h0 ha =>
  cases ha with
  | cons h1 ha =>
  cases ha with
  | cons h2 ha =>
  cases ha
  rw [dp_str h0] at hs1
  obtain ⟨ho, ys, rfl, hs2, hb⟩ := dp_tup h1
  have ey : ys = hs.map V.str := by
    clear hs1 hs2 h h1 h2 hl
    induction hs generalizing ys with
    | nil => cases hb; rfl
    | cons z hs ih =>
      cases hb with
      | cons g0 g1 => rw [dp_str g0, ih _ g1]; rfl
  have eh : holesO (.tuple [.str n, .tuple (hs.map PyData.str), k]) = hs := by
    show (hs.map PyData.str).map strO = hs
    rw [List.map_map]
    exact List.map_id'' (fun x => rfl) hs
  refine ⟨a, ho, _, rfl, hs1, ?_, h2, by rw [eh]; exact hl⟩
  rw [eh, ← ey]
  exact hs2
end K2
namespace K3
open PySem PySem.Spec PyProof.Rows L2 K1
abbrev s_LookI : Stmt := inClass (topS 28) 0
abbrev pm_LookI : List Str := ["self", "heads", "holes"]
theorem sc_LookI : FnScope pm_LookI pm_LookI (defScope s_LookI) := ⟨rfl, rfl, rfl, by decide +kernel, rfl, by decide +kernel, by decide +kernel⟩
abbrev s_heads_of : Stmt := topS 36
abbrev nm_heads_of : List Str := ["book", "name", "holes", "kind"]
abbrev pm_heads_of : List Str := ["book"]
theorem sc_heads_of : FnScope nm_heads_of pm_heads_of (defScope s_heads_of) := ⟨rfl, rfl, rfl, by decide +kernel, rfl, by decide +kernel, by decide +kernel⟩
abbrev s_head_fault : Stmt := topS 35
abbrev nm_head_fault : List Str := ["earlier", "thing", "number", "fault", "holes", "at", "hole"]
abbrev pm_head_fault : List Str := ["earlier", "thing", "number"]
theorem sc_head_fault : FnScope nm_head_fault pm_head_fault (defScope s_head_fault) := ⟨rfl, rfl, rfl, by decide +kernel, rfl, by decide +kernel, by decide +kernel⟩
section
variable {P : Program} {w : World} {K : PySem.W.Frag} {mg : Str → Option Value} {base : Heap}
def sp_LookI (K : PySem.W.Frag) (C : Addr) : Sp := fun vs H Q _ => ∃ (x dx hd ho : Addr) (heads : List (Str × Nat)) (holes : List Str), vs = [.ref x, .ref hd, .ref ho] ∧ H x = some (.ins C dx []) ∧ H hd = some (.dK (headK heads)) ∧ SqT K H ho (holes.map V.str) ∧
  ∀ H', LkAt K ⟨C, hd, ho, heads, holes⟩ H' x 0 → KBut x H H' → Q .non H'
theorem ok_LookI {f C : Addr} {fd : FuncData} (F : Fun K "__init__" "Look.__init__" s_LookI f fd) (T : LkT K C) : FnOk P w K mg base CX0 1 f fd pm_LookI (sp_LookI K C) := by
  refine F.ok sc_LookI (fun vs H Q E h => ?_) (fun cdv A outer s H vs Q E hr h => ?_)
  · obtain ⟨x, dx, hd, ho, heads, holes, rfl, _⟩ := h
    rfl
  · obtain ⟨x, dx, hd, ho, heads, holes, rfl, hx, hh, hs, q⟩ := h
    refine ⟨_, pss_cons (ps_fld (pv 0) (pv 1) rfl) (pss_cons (ps_fld (pv 0) (pv 2) rfl) (pss_one (ps_fld (pv 0) pe_int rfl))), ?_⟩
    refine ⟨.ref hd, rfl, .ref x, rfl, x, C, dx, [], rfl, hx, T.cl, T.n1, (by show 0 < 1000; decide), ?_⟩
    refine ⟨.ref ho, rfl, .ref x, rfl, x, C, dx, _, rfl, upd_same, T.cl, T.n2, (by show 1 < 1000; decide), ?_⟩
    refine ⟨.ref x, rfl, x, C, dx, _, rfl, upd_same, T.cl, T.n3, ?_, ?_⟩
    · exact Nat.lt_of_le_of_lt (length_putF _ _ _) (by show 1 + 1 < 1000; decide)
    have k : KBut x H (upd (upd (upd H x (.ins C dx (putF "heads" (.ref hd) []))) x (.ins C dx (putF "holes" (.ref ho) (putF "heads" (.ref hd) [])))) x (.ins C dx (putF "forms" (.int 0) (putF "holes" (.ref ho) (putF "heads" (.ref hd) []))))) := fun b o nb e => by
      rw [upd_ne nb, upd_ne nb, upd_ne nb]
      exact e
    refine q _ ⟨T, ⟨dx, _, upd_same, ?_, ?_, ?_, ?_⟩, k _ _ ?_ hh, ?_⟩ k
    · rw [lookup_putF, if_neg (by decide), lookup_putF, if_neg (by decide), lookup_putF, if_pos rfl]
    · rw [lookup_putF, if_neg (by decide), lookup_putF, if_pos rfl]
    · rw [lookup_putF, if_pos rfl]; rfl
    · exact Nat.le_trans (length_putF _ _ _) (Nat.succ_le_succ (Nat.le_trans (length_putF _ _ _) (by show 1 + 1 ≤ 9; decide)))
    · show hd ≠ x
      intro z'
      rw [z', hx] at hh
      cases hh
    · have ne : ∀ b o, H b = some o → (∀ C dx fs, o ≠ .ins C dx fs) → b ≠ x := fun b o eb nl z' => by
        rw [z', hx] at eb
        exact nl _ _ _ (Option.some.inj eb).symm
      rcases hs with (h | ⟨o, h⟩) | h
      · exact .inl (.inl (k _ _ (ne _ _ h fun _ _ _ z => nomatch z) h))
      · exact .inl (.inr ⟨o, k _ _ (ne _ _ h fun _ _ _ z => nomatch z) h⟩)
      · exact .inr h
def rLenQ (K : PySem.W.Frag) : List V → Hp → VK → Prop := fun xs H Q => ∃ p ys, xs = [.ref p] ∧ (SqL K H p ys ∨ SqT K H p ys) ∧ Q (.int ys.length) H

theorem strs_of {H : Hp} {xs : List V} {hs : List Str} (h : DpAll K H xs (hs.map PyData.str)) : xs = hs.map V.str := by
  induction hs generalizing xs with
  | nil => cases h; rfl
  | cons z hs ih =>
    cases h with
    | cons g0 g1 => rw [dp_str g0, ih g1]; rfl
/-- of rows that are let by -/
def sp_heads_of (K : PySem.W.Frag) : Sp := fun vs H Q _ => ∃ (b : Addr) (rows : List PyData), vs = [.ref b] ∧ Dp K H (.ref b) (.tuple rows) ∧ plA rows = true ∧ rows.length ≤ 12 ∧ K2.bkM1 rows 0 [] = none ∧ ∀ (r : Addr) (H' : Hp), Same H H' → H' r = some (.dK (headK (K2.hsM rows))) → Q (.ref r) H'
theorem ok_heads_of {f : Addr} {fd : FuncData} (F : Fun K "heads_of" "heads_of" s_heads_of f fd) (m_len : mg "len" = none) : FnOk P w K mg base CX0 1 f fd pm_heads_of (sp_heads_of K) := by
  refine F.ok sc_heads_of (fun vs H Q E h => ?_) (fun cdv A outer s H vs Q E hr h => ?_)
  · obtain ⟨b, rows, rfl, _⟩ := h
    rfl
  · obtain ⟨b, rows, rfl, hb, pb, hlen, hok, q⟩ := h
    refine ⟨_, pss_one (ps_ret (pe_dc (own := [("name", 1), ("holes", 2), ("kind", 3)]) (g := gTup K 3 (gCons (gName 1) (gCons (gName 2) (gCons (gName 3) gNil)))) (tt := tYes) rfl sc_heads_of.nd (pi_tup (pv 0)) (blkOk_by (N := nm_heads_of) (sc := defScope s_heads_of) (by decide +kernel)) (fun _ _ _ _ _ => pg_tup (by rfl) (pgs_cons (pg_name (i := 1) sc_heads_of.nd rfl (Or.inl rfl)) (pgs_cons (pg_name (i := 2) sc_heads_of.nd rfl (Or.inl rfl)) (pgs_cons (pg_name (i := 3) sc_heads_of.nd rfl (Or.inl rfl)) pgs_nil)))) (fun _ _ _ _ _ => pts_nil) (fun _ _ _ _ _ => (pv 1)) (fun _ _ _ _ _ => (pe_callB (show CallR _ (.builtin "len") (rLenQ K) from call_len_seq) (by rfl) m_len PySem.boot_len (pa_cons (pv 2) pa_nil))))), ?_⟩
    obtain ⟨b', xs, eb, hs, hx⟩ := dp_tup hb
    cases eb
    have hl := dpAll_len hx
    obtain ⟨hrow, hnd⟩ := K2.bkM1_inv hok List.nodup_nil
    rw [List.nil_append] at hnd
    refine ⟨.ref b, rfl, b, rfl, ⟨_, hs⟩, fun D hD => dc_tup (xs := xs) (fun i H' => H' D = some (.dK (headK (K2.hsM (rows.take i)))) ∧ Same H H') ⟨upd_same, same_upd hD⟩ (fun i H' _ hp => ts_same hp.2 _ _ hs) (fun i x H' hxi hp => ?_) (fun H' hp => ?_)⟩
    · obtain ⟨eD, s'⟩ := hp
      obtain ⟨d, ed, hd⟩ := dpAll_get hx hxi
      have hm : d ∈ rows := List.mem_of_getElem? ed
      have pd : pl d = true := plA_mem pb hm
      obtain ⟨a, ho, kv, rfl, h1, h2, h3, h4⟩ := K2.row_at ((ts_same s').dp _ _ pd hd) (hrow d hm)
      refine ⟨a, [.str (K2.nameO d), .ref ho, kv], rfl, h1, rfl, .str (K2.nameO d), [.ref ho, kv], rfl, .ref ho, [kv], rfl, kv, [], rfl, rfl, rfl, ?_⟩
      dsimp only [tYes]
      refine iteT ?_
      have hi : i < rows.length := (List.getElem?_eq_some_iff.mp ed).1
      have et : rows.take (i + 1) = rows.take i ++ [d] := by rw [List.take_add_one, ed]; rfl
      refine ⟨.str (K2.nameO d), rfl, .ref ho, rfl, ho, _, rfl, .inr h2, headK (K2.hsM (rows.take i)), Sum.inr (K2.nameO d), rfl, eD, ?_, ?_, ?_⟩
      · rw [headK, List.length_map, K2.hsM, List.length_map, List.length_take]
        exact Nat.lt_of_le_of_lt (show _ ≤ 12 by omega) (by decide)
      · rw [upd_same, List.length_map, et, K2.hsM_snoc, K2.headK_snoc, K2.putK_new]
        refine K2.headK_ne fun z => ?_
        have e2 : rows.map K2.nameO = (rows.take i).map K2.nameO ++ K2.nameO d :: (rows.drop (i + 1)).map K2.nameO := by
          conv => lhs; rw [← List.take_append_drop i rows]
          rw [List.map_append, List.drop_eq_getElem_cons hi, List.map_cons]
          congr 2
          rw [(List.getElem?_eq_some_iff.mp ed).2]
        rw [e2] at hnd
        exact (List.nodup_append.mp hnd).2.2 _ z _ List.mem_cons_self rfl
      · intro b' o' e'
        rw [upd_ne (ne_of_none e' hD)]
        exact s' _ _ e'
    · obtain ⟨eD, s'⟩ := hp
      rw [hl, List.take_length] at eD
      exact q D H' s' eD
def hoM (b : PyData) (number : Int) : Fa := match b with
  | .tuple hs => if hs.length ≤ 3 then K2.holM number hs 0 [] else some ([number, 1], "holes")
  | _ => some ([number, 1], "holes")
theorem hfM_eq (names : List Str) (a b k : PyData) (number : Int) : K2.hfM names (.tuple [a, b, k]) number = (match nfO names a with
    | some z => some ([number, 0], z)
    | none => hoM b number) := by
  cases b <;> rfl
def sp_head_fault (K : PySem.W.Frag) : Sp := fun vs H Q _ => ∃ (e : Addr) (v : V) (names : List Str) (d : PyData) (number : Int), vs = [.ref e, v, .int number] ∧ SqL K H e (names.map V.str) ∧ Dp K H v d ∧ pl d = true ∧ okD d = true ∧ names.length ≤ 1000 ∧
  ∀ r H', Same H H' → Dp K H' r (resD (K2.hfM names d number)) → Q r H'
theorem triple_of {d : PyData} (h : tupN d 3 = true) : ∃ a b c, d = .tuple [a, b, c] := by
  cases d with
  | tuple ds =>
    have h' : decide ((ds.length : Int) = 3) = true := h
    have h2 : ds.length = 3 := by have := of_decide_eq_true h'; omega
    match ds, h2 with
    | [a, b, c], _ => exact ⟨a, b, c, rfl⟩
  | _ => cases h
theorem hf_entry {names : List Str} {d : PyData} {number : Int} (h : tupN d 3 = false) : K2.hfM names d number = some ([number], ("entry" : Str)) := by
  unfold K2.hfM
  split
  · exact absurd h (by simp [tupN])
  · rfl
theorem dp_pl1 {H' : Hp} {a t : Addr} {p : List Int} {z : Str} (hp : H' a = some (.tup (p.map V.int))) (ht : H' t = some (.tup [.ref a, .str z])) : Dp K H' (.ref t) (resD (some (p, z))) := dp_faP (.inl (.inl hp)) ht
theorem ok_head_fault {f : Addr} {fd : FuncData} (F : Fun K "head_fault" "head_fault" s_head_fault f fd) (C_name_fault : Cal P w K mg base "name_fault" pm_name_fault 2 (sp_name_fault K)) (C_is_tuple_of : Cal P w K mg base "is_tuple_of" pm_is_tuple_of 1 (sp_is_tuple_of K)) (m_enumerate : mg "enumerate" = none) (m_isinstance : mg "isinstance" = none) (m_tuple : mg "tuple" = none) (m_len : mg "len" = none) {t_MOST_HOLES : Nat} (g_MOST_HOLES : mg "MOST_HOLES" = some (.int 3 t_MOST_HOLES)) : FnOk P w K mg base CX0 3 f fd pm_head_fault (sp_head_fault K) := by
  obtain ⟨f_name_fault, fd_name_fault, G_name_fault, g_name_fault, k_name_fault, b_name_fault⟩ := C_name_fault.ex
  obtain ⟨f_is_tuple_of, fd_is_tuple_of, G_is_tuple_of, g_is_tuple_of, k_is_tuple_of, b_is_tuple_of⟩ := C_is_tuple_of.ex
  refine F.ok sc_head_fault (fun vs H Q E h => ?_) (fun cdv A outer s H vs Q E hr h => ?_)
  · obtain ⟨e, v, names, d, number, rfl, _⟩ := h
    rfl
  · obtain ⟨e, v, names, d, number, rfl, he, hv, pd, od, hnl, q⟩ := h
    have rm : ∀ {j : Nat}, j ≤ 2 → Room j (A.deeper (envOfC "head_fault" (defScope s_head_fault) s.heap.objs.size f cdv)) := fun hj => hr.mono hj
    refine ⟨_, pss_cons (ps_if (pt_not (pt_val (pe_call G_is_tuple_of (rm (by decide)) (by rfl) g_is_tuple_of k_is_tuple_of b_is_tuple_of .nil pass0 (pa_cons (pv 1) (pa_cons pe_int pa_nil)))))
      (pss_one (ps_ret (pe_tup (pa_cons (pe_tup (pa_cons (pv 2) pa_nil)) (pa_cons pe_str pa_nil))))) pss_nil)
      (pss_cons (ps_set (i := 3) sc_head_fault.nd rfl (.inl rfl) (pe_call G_name_fault (rm (by decide)) (by rfl) g_name_fault k_name_fault b_name_fault .nil pass0 (pa_cons (pv 0) (pa_cons (pe_ix ix_tup (pv 1) pe_int (fun _ _ => rfl)) (pa_cons (pe_tup (pa_cons (pv 2) (pa_cons pe_int pa_nil))) pa_nil)))))
      (pss_cons (ps_if (pt_cmpR op_notN (pv 3) pe_non (nomark _))
      (pss_one (ps_ret (pv 3))) pss_nil)
      (pss_cons (ps_if (PW.pt (pw_or (pt_not (pt_val (pe_callB call_isi (by rfl) m_isinstance (by decide +kernel) (pa_cons (pe_ix ix_tup (pv 1) pe_int (fun _ _ => rfl)) (pa_cons (pe_bltn (v := .ty "tuple") (by rfl) m_tuple (show bootBuiltins "tuple" = some (.type "tuple") by decide +kernel) rfl) pa_nil))))) (pw_or1 (pt_cmpR op_gt (pe_callB call_len_seq (by rfl) m_len PySem.boot_len (pa_cons (pe_ix ix_tup (pv 1) pe_int (fun _ _ => rfl)) pa_nil)) (pe_glob (v := .int 3) (by rfl) g_MOST_HOLES ⟨_, rfl⟩) (nomark _)))))
      (pss_one (ps_ret (pe_tup (pa_cons (pe_tup (pa_cons (pv 2) (pa_cons pe_int pa_nil))) (pa_cons pe_str pa_nil))))) pss_nil)
      (pss_cons (ps_set (i := 4) sc_head_fault.nd rfl (.inl rfl) (pe_lst pa_nil))
      (pss_cons (ps_for PassesOwn.never rfl (EN.pi_enumT (by rfl) m_enumerate (pa_cons (pe_ix ix_tup (pv 1) pe_int (fun _ _ => rfl)) pa_nil)) (pg_tup (by rfl) (pgs_cons (pg_name (i := 5) sc_head_fault.nd rfl (.inl rfl)) (pgs_cons (pg_name (i := 6) sc_head_fault.nd rfl (.inl rfl)) pgs_nil)))
      (pss_cons (ps_set (i := 3) sc_head_fault.nd rfl (.inl rfl) (pe_call G_name_fault (rm (by decide)) (by rfl) g_name_fault k_name_fault b_name_fault .nil pass0 (pa_cons (pv 4) (pa_cons (pv 6) (pa_cons (pe_tup (pa_cons (pv 2) (pa_cons pe_int (pa_cons (pv 5) pa_nil)))) pa_nil)))))
      (pss_cons (ps_if (pt_cmpR op_notN (pv 3) pe_non (nomark _))
      (pss_one (ps_ret (pv 3))) pss_nil)
      (pss_one (ps_expr (pe_bm PySem.F.plainAttrs_list PySem.F.slot_list_append PySem.F.type_list_append mt_append (pv 4) (pa_cons (pv 6) pa_nil)))))))
      (pss_one (ps_ret pe_non))))))), ?_⟩
    refine ⟨v, rfl, v, d, 3, rfl, hv, pd, tupN d 3, rfl, ite2 (fun c => ?_) (fun c => ?_)⟩
    · have c' : tupN d 3 = false := by simpa using c
      rw [hf_entry c'] at q
      refine ⟨.int number, rfl, (by show 1 ≤ sizeLine; decide), fun t1 n1 => ⟨(by show 2 ≤ sizeLine; decide), fun t2 n2 => ?_⟩⟩
      exact q _ _ ((same_upd n1).trans (same_upd n2)) (dp_pl1 (p := [number]) (same_upd n2 _ _ upd_same) upd_same)
    have c' : tupN d 3 = true := by simpa using c
    obtain ⟨a, b, k, rfl⟩ := triple_of c'
    obtain ⟨t, xs, rfl, hs, hx⟩ := dp_tup hv
    cases hx with
    | @cons va _ _ _ ha hx =>
    cases hx with
    | @cons vb _ _ _ hb hx =>
    cases hx with
    | @cons vk _ _ _ hk hx =>
    cases hx
    have pa : pl a = true := plA_mem (show plA [a, b, k] = true from pd) (List.mem_cons_self ..)
    have pb : pl b = true := plA_mem (show plA [a, b, k] = true from pd) (List.mem_cons_of_mem _ (List.mem_cons_self ..))
    have oa : okD a = true := okA_mem (show okA [a, b, k] = true from od) (List.mem_cons_self ..)
    have ob : okD b = true := okA_mem (show okA [a, b, k] = true from od) (List.mem_cons_of_mem _ (List.mem_cons_self ..))
    refine ⟨.ref e, rfl, .ref t, rfl, t, _, 0, va, rfl, rfl, hs, atI_nat (j := 0) rfl, .int number, rfl, (by show 2 ≤ sizeLine; decide), fun t1 n1 => ?_⟩
    have s1 : Same H (upd H t1 (.tup [.int number, .int 0])) := same_upd n1
    have e1 : (upd H t1 (.tup [.int number, .int 0])) t1 = some (.tup [.int number, .int 0]) := upd_same
    generalize upd H t1 (HO.tup [V.int number, .int 0]) = H1 at s1 e1 ⊢
    refine ⟨e, va, .ref t1, names, a, plD [number, 0], rfl, sql_same s1 he, (ts_same s1).dp a va pa ha, pa, okD_T oa, dp_plD (p := [number, 0]) (.inl (.inl e1)), pl_plD _, fun r2 H2 s2 d2 => ?_⟩
    rw [nfM_O] at d2
    have s02 := s1.trans s2
    rw [hfM_eq] at q
    cases hnf : nfO names a with
    | some zz =>
      rw [hnf] at d2 q
      have ne : r2 ≠ .non := fun z' => nomatch (non_iff d2).mp z'
      refine ⟨r2, rfl, rfl, _, rfl, ifNN ne ?_⟩
      exact ⟨r2, rfl, q _ _ s02 d2⟩
    | none =>
      rw [hnf] at d2 q
      have en : r2 = .non := (non_iff d2).mpr rfl
      subst en
      refine ⟨.non, rfl, rfl, _, rfl, iteF ?_⟩
      have hs2 := ts_same s02 _ _ hs
      have hb2 := (ts_same s02).dp b vb pb hb
      refine ⟨.ref t, rfl, t, _, 1, vb, rfl, rfl, hs2, atI_nat (j := 1) rfl, vb, _, _, _, isT b, rfl, .ty "tuple", dp_ty hb2 pb, kit_ty (kT b), isT b, rfl, ?_⟩
      have bad : hoM b number = some ([number, 1], ("holes" : Str)) →
          ∀ (Q' : VK), Q' = Q → ∀ t3, H2 t3 = none → 2 ≤ sizeLine ∧ ∀ t4, (upd H2 t3 (.tup [.int number, .int 1])) t4 = none → Q' (.ref t4) (upd (upd H2 t3 (.tup [.int number, .int 1])) t4 (.tup [.ref t3, .str "holes"])) := by
        rintro hbad Q' rfl t3 n3
        refine ⟨by decide, fun t4 n4 => ?_⟩
        have q' := q
        rw [hbad] at q'
        exact q' _ _ (s02.trans ((same_upd n3).trans (same_upd n4))) (dp_pl1 (p := [number, 1]) (same_upd n4 _ _ upd_same) upd_same)
      cases b with
      | tuple hl =>
        obtain ⟨ba, ys, rfl, hys, hy⟩ := dp_tup hb2
        have hlen := dpAll_len hy
        refine iteF ⟨.ref t, rfl, t, _, 1, .ref ba, rfl, rfl, hs2, atI_nat (j := 1) rfl, ba, _, rfl, .inr hys, _, _, rfl, rfl, _, rfl, ite2 (fun c2 => ?_) (fun c2 => ?_)⟩
        · have c2' : (3 : Int) < (ys.length : Int) := of_decide_eq_true c2
          exact ⟨.int number, rfl, (by show 2 ≤ sizeLine; decide), fun t3 n3 => bad (if_neg (by omega)) _ rfl t3 n3⟩
        have c2' : ¬ (3 : Int) < (ys.length : Int) := fun z => c2 (decide_eq_true z)
        have q2 : ∀ r H', Same H H' → Dp K H' r (resD (K2.holM number hl 0 [])) → Q r H' := by
          have e3 : hoM (.tuple hl) number = K2.holM number hl 0 [] := if_pos (by omega)
          rw [e3] at q
          exact q
        clear q bad
        refine ⟨Nat.zero_le _, fun nm hnm => ?_⟩
        have s3 : Same H2 (upd H2 nm (.lst [])) := same_upd hnm
        have e3 : (upd H2 nm (.lst [])) nm = some (.lst ([].map V.str)) := upd_same
        generalize upd H2 nm (HO.lst []) = H3 at s3 e3 ⊢
        have s03 := s02.trans s3
        have hys3 := ts_same s3 _ _ hys
        refine ⟨.ref t, rfl, t, _, 1, .ref ba, rfl, rfl, ts_same s3 _ _ hs2, atI_nat (j := 1) rfl, ba, ys, rfl, hys3, for_it (EN.walk_enumT (xs := ys))
          (fun j σ H' => ∃ (x3 x5 x6 : Option V) (names' : List Str), σ = [some (.ref e), some (.ref t), some (.int number), x3, some (.ref nm), x5, x6] ∧ H' nm = some (.lst (names'.map V.str)) ∧ Same H H' ∧ Same' nm H3 H' ∧ names'.length ≤ j ∧ K2.holM number hl 0 [] = K2.holM number (hl.drop j) j names')
          ⟨_, none, none, [], rfl, e3, s03, fun _ _ _ e => e, Nat.le_refl _, rfl⟩ (fun j σ H' _ hp' => ?_) (fun j v σ H' H'' hj hp' hyy => ?_) (fun σ H' hp' => ?_)⟩
        · obtain ⟨_, _, _, _, _, _, s', k', _, _⟩ := hp'
          exact ts_but (S := fun b => b = nm) (fun b z => ⟨[].map V.str, by rw [z]; exact e3⟩) (fun b o ne eb => k' b o ne eb) _ _ hys3
        · obtain ⟨x3, x5, x6, names', rfl, enm, s', k', hn', hho⟩ := hp'
          obtain ⟨T, xi, xj, rfl, hT, rfl, hi, hxj⟩ := hyy
          obtain rfl : V.int (j : Int) = xi := Option.some.inj hi
          obtain ⟨dj, edj, hdj⟩ := dpAll_get hy hxj
          have pdj : pl dj = true := plA_mem (show plA hl = true from pb) (List.mem_of_getElem? edj)
          have odj : okD dj = true := okA_mem (show okA hl = true from ob) (List.mem_of_getElem? edj)
          have edr : hl.drop j = dj :: hl.drop (j + 1) := by
            obtain ⟨hlt, ee⟩ := List.getElem?_eq_some_iff.mp edj
            rw [List.drop_eq_getElem_cons hlt, ee]
          rw [edr] at hho
          have eH : K2.holM number (dj :: hl.drop (j + 1)) j names' = (match nfO names' dj with
            | some z => some ([number, 1, (j : Int)], z)
            | none => K2.holM number (hl.drop (j + 1)) (j + 1) (names' ++ [strO dj])) := rfl
          rw [eH] at hho
          have tsk : TS K H2 H' := (ts_same s3).trans (ts_but (S := fun b => b = nm) (fun b z => ⟨[].map V.str, by rw [z]; exact e3⟩) (fun b o ne eb => k' b o ne eb))
          have sT : Same H' (upd H' T (.tup [.int (j : Nat), xj])) := same_upd hT
          have eT : (upd H' T (.tup [.int (j : Nat), xj])) T = some (.tup [.int (j : Nat), xj]) := upd_same
          generalize upd H' T (HO.tup [V.int (j : Nat), xj]) = H4 at sT eT ⊢
          refine ⟨T, _, rfl, .inl (.inl eT), rfl, _, _, rfl, _, _, rfl, rfl, ?_⟩
          refine ⟨.ref nm, rfl, xj, rfl, .int number, rfl, .int (j : Int), rfl, (by show 3 ≤ sizeLine; decide), fun t5 n5 => ?_⟩
          have s5 : Same H4 (upd H4 t5 (.tup [.int number, .int 1, .int (j : Int)])) := same_upd n5
          have e5 : (upd H4 t5 (.tup [.int number, .int 1, .int (j : Int)])) t5 = some (.tup [.int number, .int 1, .int (j : Int)]) := upd_same
          generalize upd H4 t5 (HO.tup [V.int number, .int 1, .int (j : Int)]) = H5 at s5 e5 ⊢
          have s45 : Same H' H5 := sT.trans s5
          have ts5 : TS K H2 H5 := tsk.trans (ts_same s45)
          refine ⟨nm, xj, .ref t5, names', dj, plD [number, 1, (j : Int)], rfl, .inl (.inl (s45 _ _ enm)), ts5.dp dj xj pdj hdj, pdj, okD_T odj, dp_plD (p := [number, 1, (j : Int)]) (.inl (.inl e5)), pl_plD _, fun r6 H6 s6 d6 => ?_⟩
          rw [nfM_O] at d6
          have s06 : Same H H6 := s'.trans (s45.trans s6)
          cases hnf2 : nfO names' dj with
          | some zz =>
            rw [hnf2] at d6 hho
            have ne : r6 ≠ .non := fun z' => nomatch (non_iff d6).mp z'
            refine ⟨r6, rfl, rfl, _, rfl, ifNN ne ?_⟩
            rw [hho] at q2
            exact ⟨r6, rfl, q2 _ _ s06 d6⟩
          | none =>
            rw [hnf2] at d6 hho
            have en2 : r6 = .non := (non_iff d6).mpr rfl
            subst en2
            refine ⟨.non, rfl, rfl, _, rfl, iteF ?_⟩
            obtain ⟨z1, rfl, _, _⟩ := K2.nfO_inv hnf2
            have ev1 := dp_str hdj
            subst ev1
            have enm6 : H6 nm = some (.lst (names'.map V.str)) := s6 _ _ (s45 _ _ enm)
            refine ⟨.ref nm, rfl, .inl ⟨rfl, _, .inl (.inl enm6)⟩, .str z1, rfl, nm, _, .str z1, rfl, rfl, enm6, ?_, ?_⟩
            · rw [List.length_map]
              exact Nat.lt_of_le_of_lt (show names'.length ≤ 1000 by omega) (by decide)
            · refine ⟨_, _, _, names' ++ [z1], rfl, by rw [upd_same, List.map_append]; rfl, ?_, ?_, by rw [List.length_append]; show names'.length + 1 ≤ j + 1; omega, hho⟩
              · intro b o eb
                rw [upd_ne (ne_of_none (s02 _ _ eb) hnm)]
                exact s06 _ _ eb
              · intro b o ne eb
                rw [upd_ne ne]
                exact s6 _ _ (s45 _ _ (k' b o ne eb))
        · obtain ⟨x3, x5, x6, names', rfl, enm, s', k', hn', hho⟩ := hp'
          have ed : hl.drop ys.length = [] := List.drop_eq_nil_of_le (by omega)
          rw [ed] at hho
          rw [hho] at q2
          exact q2 .non H' s' .non
      | _ => exact iteT ⟨.int number, rfl, (by show 2 ≤ sizeLine; decide), fun t3 n3 => bad rfl _ rfl t3 n3⟩
end
end K3
namespace K3
open PySem PySem.Spec PyProof.Rows L2 K1
abbrev s_bookfault : Stmt := topS 37
abbrev nm_bookfault : List Str := ["thing", "names", "number", "row", "fault", "heads"]
abbrev pm_bookfault : List Str := ["thing"]
theorem sc_bookfault : FnScope nm_bookfault pm_bookfault (defScope s_bookfault) := ⟨rfl, rfl, rfl, by decide +kernel, rfl, by decide +kernel, by decide +kernel⟩
abbrev s_closed_fault : Stmt := topS 38
abbrev nm_closed_fault : List Str := ["book", "thing"]
abbrev pm_closed_fault : List Str := ["book", "thing"]
theorem sc_closed_fault : FnScope nm_closed_fault pm_closed_fault (defScope s_closed_fault) := ⟨rfl, rfl, rfl, by decide +kernel, rfl, by decide +kernel, by decide +kernel⟩
theorem ts_nm {K : PySem.W.Frag} {H H' : Hp} {nm : Addr} {xs : List V} (e : H nm = some (.lst xs)) (k : Same' nm H H') : TS K H H' :=
  ts_but (S := fun b => b = nm) (fun b z => ⟨xs, by rw [z]; exact e⟩) fun b o ne eb => k b o ne eb
section
variable {P : Program} {w : World} {K : PySem.W.Frag} {mg : Str → Option Value} {base : Heap}
def sp_closed_fault (K : PySem.W.Frag) : Sp := fun vs H Q _ => ∃ (b : Addr) (v : V) (rows : List PyData) (d : PyData), vs = [.ref b, v] ∧ Dp K H (.ref b) (.tuple rows) ∧ plA rows = true ∧ rows.length ≤ 12 ∧ K2.bkM1 rows 0 [] = none ∧ Dp K H v d ∧ pl d = true ∧ okD d = true ∧
  ∀ r H', Same H H' → Dp K H' r (resD (kfM (K2.hsM rows) [] 10 d [] 1 0).2) → Q r H'
theorem ok_closed_fault {f : Addr} {fd : FuncData} {C_Look : Addr} (F : Fun K "closed_fault" "closed_fault" s_closed_fault f fd) (C_kind_fault : Cal P w K mg base "kind_fault" pm_kind_fault 43 (sp_kind_fault K 10)) (C_heads_of : Cal P w K mg base "heads_of" pm_heads_of 1 (sp_heads_of K)) {fI_Look : Addr} {fdI_Look : FuncData} (M_Look : Mk K C_Look fI_Look) (G_Look : FnOk P w K mg base CX0 1 fI_Look fdI_Look pm_LookI (sp_LookI K C_Look)) (g_Look : mg "Look" = some (.ref C_Look)) (b_Look : Binds K fdI_Look pm_LookI []) : FnOk P w K mg base CX0 44 f fd pm_closed_fault (sp_closed_fault K) := by
  obtain ⟨f_kind_fault, fd_kind_fault, G_kind_fault, g_kind_fault, k_kind_fault, b_kind_fault⟩ := C_kind_fault.ex
  obtain ⟨f_heads_of, fd_heads_of, G_heads_of, g_heads_of, k_heads_of, b_heads_of⟩ := C_heads_of.ex
  refine F.ok sc_closed_fault (fun vs H Q E h => ?_) (fun cdv A outer s H vs Q E hr h => ?_)
  · obtain ⟨b, v, rows, d, rfl, _⟩ := h
    rfl
  · obtain ⟨b, v, rows, d, rfl, hb, pb, hlen, hok, hv, pd, od, q⟩ := h
    have rm : ∀ {j : Nat}, j ≤ 43 → Room j (A.deeper (envOfC "closed_fault" (defScope s_closed_fault) s.heap.objs.size f cdv)) := fun hj => hr.mono hj
    refine ⟨_, pss_one (ps_ret (pe_call G_kind_fault (rm (by decide)) (by rfl) g_kind_fault k_kind_fault b_kind_fault .nil pass0 (pa_cons (pe_make M_Look G_Look (rm (by decide)) (by rfl) g_Look b_Look .nil pass0 (pa_cons (pe_call G_heads_of (rm (by decide)) (by rfl) g_heads_of k_heads_of b_heads_of .nil pass0 (pa_cons (pv 0) pa_nil)) (pa_cons (pe_tup pa_nil) pa_nil))) (pa_cons (pv 1) (pa_cons (pe_tup pa_nil) (pa_cons pe_int pa_nil)))))), ?_⟩
    refine ⟨.ref b, rfl, b, rows, rfl, hb, pb, hlen, hok, fun r1 H1 s1 h1 => ⟨Nat.zero_le _, fun t nt => ?_⟩⟩
    have s2 : Same H1 (upd H1 t (.tup [])) := same_upd nt
    have e2 : (upd H1 t (.tup [])) t = some (.tup []) := upd_same
    generalize upd H1 t (HO.tup []) = H2 at s2 e2 ⊢
    intro x dx nx ndx nex
    have s3 : Same H2 (upd (upd H2 dx (.own x)) x (.ins C_Look dx [])) := fun b' o e => by
      rw [upd_ne (ne_of_none e nx), upd_ne (ne_of_none e ndx)]
      exact e
    refine ⟨x, dx, r1, t, K2.hsM rows, [], rfl, upd_same, s3 _ _ (s2 _ _ h1), .inl (.inl (s3 _ _ e2)), fun H3 hL3 kb3 => ⟨rfl, ?_⟩⟩
    refine ⟨v, rfl, Nat.zero_le _, fun t2 n2 => ?_⟩
    have k3 : Same H2 (upd H3 t2 (.tup [])) := fun b' o e => same_upd n2 _ _ (kb3 b' o (ne_of_none e nx) (s3 b' o e))
    have s02 := s1.trans s2
    refine ⟨⟨C_Look, r1, t, K2.hsM rows, []⟩, x, t2, v, d, [], 1, 0, rfl, hL3.same (same_upd n2), (ts_same (s02.trans k3)).dp d v pd hv, pd, od, .inl (.inl upd_same), by decide, by decide, by decide, fun r H' hL' kb' d' => ?_⟩
    exact q r H' (fun b' o e => kb' b' o (ne_of_none (s02 b' o e) nx) (k3 b' o (s02 b' o e))) d'
def sp_bookfault (K : PySem.W.Frag) : Sp := fun vs H Q _ => ∃ (v : V) (d : PyData), vs = [v] ∧ Dp K H v d ∧ pl d = true ∧ okD d = true ∧ ∀ r H', Same H H' → Dp K H' r (resD (K2.bkM d)) → Q r H'
theorem fa0 {σ : L2.St} {H : Hp} {z : Str} {Q : VK} (q : ∀ r H', Same H H' → Dp K H' r (resD (some ([], z))) → Q r H') : 0 ≤ sizeLine ∧ ∀ t1, H t1 = none → 2 ≤ sizeLine ∧ ∀ t2, (upd H t1 (.tup [])) t2 = none → Q (.ref t2) (upd (upd H t1 (.tup [])) t2 (.tup [.ref t1, .str z])) :=
  ⟨Nat.zero_le _, fun t1 n1 => ⟨by decide, fun t2 n2 => q _ _ ((same_upd n1).trans (same_upd n2)) (dp_pl1 (p := []) (same_upd n2 _ _ upd_same) upd_same)⟩⟩
theorem ok_bookfault {f : Addr} {fd : FuncData} {C_Look : Addr} (F : Fun K "bookfault" "bookfault" s_bookfault f fd) (C_heads_of : Cal P w K mg base "heads_of" pm_heads_of 1 (sp_heads_of K)) (C_head_fault : Cal P w K mg base "head_fault" pm_head_fault 3 (sp_head_fault K)) (C_kind_fault : Cal P w K mg base "kind_fault" pm_kind_fault 43 (sp_kind_fault K 10)) (m_enumerate : mg "enumerate" = none) (m_isinstance : mg "isinstance" = none) (m_tuple : mg "tuple" = none) (m_len : mg "len" = none) {t_MOST_DECLARATIONS : Nat} (g_MOST_DECLARATIONS : mg "MOST_DECLARATIONS" = some (.int 12 t_MOST_DECLARATIONS)) {fI_Look : Addr} {fdI_Look : FuncData} (M_Look : Mk K C_Look fI_Look) (G_Look : FnOk P w K mg base CX0 1 fI_Look fdI_Look pm_LookI (sp_LookI K C_Look)) (g_Look : mg "Look" = some (.ref C_Look)) (b_Look : Binds K fdI_Look pm_LookI []) : FnOk P w K mg base CX0 44 f fd pm_bookfault (sp_bookfault K) := by
  obtain ⟨f_heads_of, fd_heads_of, G_heads_of, g_heads_of, k_heads_of, b_heads_of⟩ := C_heads_of.ex
  obtain ⟨f_head_fault, fd_head_fault, G_head_fault, g_head_fault, k_head_fault, b_head_fault⟩ := C_head_fault.ex
  obtain ⟨f_kind_fault, fd_kind_fault, G_kind_fault, g_kind_fault, k_kind_fault, b_kind_fault⟩ := C_kind_fault.ex
  refine F.ok sc_bookfault (fun vs H Q E h => ?_) (fun cdv A outer s H vs Q E hr h => ?_)
  · obtain ⟨v, d, rfl, _⟩ := h
    rfl
  · obtain ⟨v, d, rfl, hv, pd, od, q⟩ := h
    have rm : ∀ {j : Nat}, j ≤ 43 → Room j (A.deeper (envOfC "bookfault" (defScope s_bookfault) s.heap.objs.size f cdv)) := fun hj => hr.mono hj
    refine ⟨_, pss_cons (ps_if (pt_not (pt_val (pe_callB call_isi (by rfl) m_isinstance (by decide +kernel) (pa_cons (pv 0) (pa_cons (pe_bltn (v := .ty "tuple") (by rfl) m_tuple (show bootBuiltins "tuple" = some (.type "tuple") by decide +kernel) rfl) pa_nil)))))
      (pss_one (ps_ret (pe_tup (pa_cons (pe_tup pa_nil) (pa_cons pe_str pa_nil))))) pss_nil)
      (pss_cons (ps_if (pt_cmpR op_gt (pe_callB call_len_seq (by rfl) m_len PySem.boot_len (pa_cons (pv 0) pa_nil)) (pe_glob (v := .int 12) (by rfl) g_MOST_DECLARATIONS ⟨_, rfl⟩) (nomark _))
      (pss_one (ps_ret (pe_tup (pa_cons (pe_tup pa_nil) (pa_cons pe_str pa_nil))))) pss_nil)
      (pss_cons (ps_set (i := 1) sc_bookfault.nd rfl (.inl rfl) (pe_lst pa_nil))
      (pss_cons (ps_for PassesOwn.never rfl (EN.pi_enumT (by rfl) m_enumerate (pa_cons (pv 0) pa_nil)) (pg_tup (by rfl) (pgs_cons (pg_name (i := 2) sc_bookfault.nd rfl (.inl rfl)) (pgs_cons (pg_name (i := 3) sc_bookfault.nd rfl (.inl rfl)) pgs_nil)))
      (pss_cons (ps_set (i := 4) sc_bookfault.nd rfl (.inl rfl) (pe_call G_head_fault (rm (by decide)) (by rfl) g_head_fault k_head_fault b_head_fault .nil pass0 (pa_cons (pv 1) (pa_cons (pv 3) (pa_cons (pv 2) pa_nil)))))
      (pss_cons (ps_if (pt_cmpR op_notN (pv 4) pe_non (nomark _))
      (pss_one (ps_ret (pv 4))) pss_nil)
      (pss_one (ps_expr (pe_bm PySem.F.plainAttrs_list PySem.F.slot_list_append PySem.F.type_list_append mt_append (pv 1) (pa_cons (pe_ix ix_tup (pv 3) pe_int (fun _ _ => rfl)) pa_nil)))))))
      (pss_cons (ps_set (i := 5) sc_bookfault.nd rfl (.inl rfl) (pe_call G_heads_of (rm (by decide)) (by rfl) g_heads_of k_heads_of b_heads_of .nil pass0 (pa_cons (pv 0) pa_nil)))
      (pss_cons (ps_for PassesOwn.never rfl (EN.pi_enumT (by rfl) m_enumerate (pa_cons (pv 0) pa_nil)) (pg_tup (by rfl) (pgs_cons (pg_name (i := 2) sc_bookfault.nd rfl (.inl rfl)) (pgs_cons (pg_name (i := 3) sc_bookfault.nd rfl (.inl rfl)) pgs_nil)))
      (pss_cons (ps_set (i := 4) sc_bookfault.nd rfl (.inl rfl) (pe_call G_kind_fault (rm (by decide)) (by rfl) g_kind_fault k_kind_fault b_kind_fault .nil pass0 (pa_cons (pe_make M_Look G_Look (rm (by decide)) (by rfl) g_Look b_Look .nil pass0 (pa_cons (pv 5) (pa_cons (pe_ix ix_tup (pv 3) pe_int (fun _ _ => rfl)) pa_nil))) (pa_cons (pe_ix ix_tup (pv 3) pe_int (fun _ _ => rfl)) (pa_cons (pe_tup (pa_cons (pv 2) (pa_cons pe_int pa_nil))) (pa_cons pe_int pa_nil))))))
      (pss_one (ps_if (pt_cmpR op_notN (pv 4) pe_non (nomark _))
      (pss_one (ps_ret (pv 4))) pss_nil))))
      (pss_one (ps_ret pe_non))))))), ?_⟩
    refine ⟨v, rfl, v, _, _, _, isT d, rfl, .ty "tuple", dp_ty hv pd, kit_ty (kT d), isT d, rfl, ?_⟩
    cases d with
    | tuple rows =>
      obtain ⟨b, xs, rfl, hs, hx⟩ := dp_tup hv
      have hlen := dpAll_len hx
      have pr : plA rows = true := pd
      have orw : okA rows = true := od
      refine iteF ⟨.ref b, rfl, b, _, rfl, .inr hs, _, _, rfl, rfl, _, rfl, ite2 (fun c => ?_) (fun c => ?_)⟩
      · have c' : (12 : Int) < (xs.length : Int) := of_decide_eq_true c
        have eb : K2.bkM (.tuple rows) = some ([], ("many" : Str)) := if_neg (by omega)
        rw [eb] at q
        exact fa0 (σ := []) q
      have c' : ¬ (12 : Int) < (xs.length : Int) := fun z => c (decide_eq_true z)
      have eb : K2.bkM (.tuple rows) = (match K2.bkM1 rows 0 [] with | some x => some x | none => K2.bkM2 (K2.hsM rows) rows 0) := if_pos (by omega)
      rw [eb] at q
      refine ⟨Nat.zero_le _, fun nm hnm => ?_⟩
      have s1 : Same H (upd H nm (.lst [])) := same_upd hnm
      have e1 : (upd H nm (.lst [])) nm = some (.lst ([].map V.str)) := upd_same
      generalize upd H nm (HO.lst []) = H1 at s1 e1 ⊢
      have hs1 := ts_same s1 _ _ hs
      refine ⟨.ref b, rfl, b, xs, rfl, hs1, for_it (EN.walk_enumT (xs := xs))
        (fun j σ H' => ∃ (x2 x3 x4 : Option V) (names : List Str), σ = [some (.ref b), some (.ref nm), x2, x3, x4, none] ∧ H' nm = some (.lst (names.map V.str)) ∧ Same H H' ∧ Same' nm H1 H' ∧ names.length ≤ j ∧ K2.bkM1 rows 0 [] = K2.bkM1 (rows.drop j) j names)
        ⟨none, none, none, [], rfl, e1, s1, fun _ _ _ e => e, Nat.le_refl _, rfl⟩ (fun j σ H' _ hp' => ?_) (fun j v σ H' H'' hj hp' hyy => ?_) (fun σ H' hp' => ?_)⟩
      · obtain ⟨_, _, _, _, _, _, s', k', _, _⟩ := hp'
        exact ts_nm e1 k' _ _ hs1
      · obtain ⟨x2, x3, x4, names, rfl, enm, s', k', hn', hbk⟩ := hp'
        obtain ⟨T, xi, xj, rfl, hT, rfl, hi, hxj⟩ := hyy
        obtain rfl : V.int (j : Int) = xi := Option.some.inj hi
        obtain ⟨dj, edj, hdj⟩ := dpAll_get hx hxj
        have hjl : j < rows.length := (List.getElem?_eq_some_iff.mp edj).1
        have pdj : pl dj = true := plA_mem pr (List.mem_of_getElem? edj)
        have odj : okD dj = true := okA_mem orw (List.mem_of_getElem? edj)
        have edr : rows.drop j = dj :: rows.drop (j + 1) := by
          obtain ⟨hlt, ee⟩ := List.getElem?_eq_some_iff.mp edj
          rw [List.drop_eq_getElem_cons hlt, ee]
        rw [edr] at hbk
        have eH : K2.bkM1 (dj :: rows.drop (j + 1)) j names = (match K2.hfM names dj (j : Int) with
          | some x => some x
          | none => K2.bkM1 (rows.drop (j + 1)) (j + 1) (names ++ [K2.nameO dj])) := rfl
        rw [eH] at hbk
        have tsk : TS K H H' := (ts_same s1).trans (ts_nm e1 k')
        have sT : Same H' (upd H' T (.tup [.int (j : Nat), xj])) := same_upd hT
        have eT : (upd H' T (.tup [.int (j : Nat), xj])) T = some (.tup [.int (j : Nat), xj]) := upd_same
        generalize upd H' T (HO.tup [V.int (j : Nat), xj]) = H4 at sT eT ⊢
        refine ⟨T, _, rfl, .inl (.inl eT), rfl, _, _, rfl, _, _, rfl, rfl, ?_⟩
        have hd4 := (tsk.trans (ts_same sT)).dp dj xj pdj hdj
        refine ⟨.ref nm, rfl, xj, rfl, .int (j : Int), rfl, nm, xj, names, dj, (j : Int), rfl, .inl (.inl (sT _ _ enm)), hd4, pdj, odj, by omega, fun r6 H6 s6 d6 => ?_⟩
        have s46 := sT.trans s6
        have s06 : Same H H6 := s'.trans s46
        cases hnf : K2.hfM names dj (j : Int) with
        | some zz =>
          rw [hnf] at d6 hbk
          obtain ⟨pp, zz⟩ := zz
          have ne : r6 ≠ .non := fun z' => nomatch (non_iff d6).mp z'
          refine ⟨r6, rfl, rfl, _, rfl, ifNN ne ?_⟩
          rw [hbk] at q
          exact ⟨r6, rfl, q _ _ s06 d6⟩
        | none =>
          rw [hnf] at d6 hbk
          have en : r6 = .non := (non_iff d6).mpr rfl
          subst en
          refine ⟨.non, rfl, rfl, _, rfl, iteF ?_⟩
          obtain ⟨hrow, _⟩ := K2.hfM_inv hnf
          obtain ⟨a, ho, kv, rfl, h1, h2, h3, h4⟩ := K2.row_at ((ts_same s6).dp dj _ pdj hd4) hrow
          have enm6 : H6 nm = some (.lst (names.map V.str)) := s6 _ _ (sT _ _ enm)
          refine ⟨.ref nm, rfl, .inl ⟨rfl, _, .inl (.inl enm6)⟩, .ref a, rfl, a, _, 0, .str (K2.nameO dj), rfl, rfl, h1, atI_nat (j := 0) rfl, nm, _, .str (K2.nameO dj), rfl, rfl, enm6, ?_, ?_⟩
          · rw [List.length_map]
            exact Nat.lt_of_le_of_lt (show names.length ≤ 1000 by omega) (by decide)
          · refine ⟨_, _, _, names ++ [K2.nameO dj], rfl, by rw [upd_same, List.map_append]; rfl, ?_, ?_, by rw [List.length_append]; show names.length + 1 ≤ j + 1; omega, hbk⟩
            · intro b o eb
              rw [upd_ne (ne_of_none eb hnm)]
              exact s06 _ _ eb
            · intro b o ne eb
              rw [upd_ne ne]
              exact s46 _ _ (k' b o ne eb)
      · obtain ⟨x2, x3, x4, names, rfl, enm, s', k', hn', hbk⟩ := hp'
        have ed : rows.drop xs.length = [] := List.drop_eq_nil_of_le (by omega)
        rw [ed] at hbk
        have hbk' : K2.bkM1 rows 0 [] = none := hbk
        rw [hbk'] at q
        obtain ⟨hrows, _⟩ := K2.bkM1_inv hbk' List.nodup_nil
        have tsk : TS K H H' := (ts_same s1).trans (ts_nm e1 k')
        refine ⟨.ref b, rfl, b, rows, rfl, tsk.dp (.tuple rows) _ pd hv, pr, by omega, hbk', fun r2 H2 s2 h2 => ?_⟩
        have s02 := s'.trans s2
        have ts2 : TS K H H2 := tsk.trans (ts_same s2)
        have hs2 := ts2 _ _ hs
        refine ⟨.ref b, rfl, b, xs, rfl, hs2, for_it (EN.walk_enumT (xs := xs))
          (fun j σ H' => ∃ (x2 x3 x4 : Option V), σ = [some (.ref b), some (.ref nm), x2, x3, x4, some (.ref r2)] ∧ Same H2 H' ∧ K2.bkM2 (K2.hsM rows) rows 0 = K2.bkM2 (K2.hsM rows) (rows.drop j) j)
          ⟨_, _, _, rfl, Same.refl _, rfl⟩ (fun j σ H' _ hp' => ?_) (fun j v σ H' H'' hj hp' hyy => ?_) (fun σ H' hp' => ?_)⟩
        · obtain ⟨_, _, _, _, s', _⟩ := hp'
          exact ts_same s' _ _ hs2
        · obtain ⟨x2', x3', x4', rfl, s3, hb2⟩ := hp'
          obtain ⟨T, xi, xj, rfl, hT, rfl, hi, hxj⟩ := hyy
          obtain rfl : V.int (j : Int) = xi := Option.some.inj hi
          obtain ⟨dj, edj, hdj⟩ := dpAll_get hx hxj
          have pdj : pl dj = true := plA_mem pr (List.mem_of_getElem? edj)
          have odj : okD dj = true := okA_mem orw (List.mem_of_getElem? edj)
          have edr : rows.drop j = dj :: rows.drop (j + 1) := by
            obtain ⟨hlt, ee⟩ := List.getElem?_eq_some_iff.mp edj
            rw [List.drop_eq_getElem_cons hlt, ee]
          rw [edr] at hb2
          have eH : K2.bkM2 (K2.hsM rows) (dj :: rows.drop (j + 1)) j = (match (kfM (K2.hsM rows) (K2.holesO dj) 10 (K2.kdO dj) [(j : Int), 2] 1 0).2 with
            | some x => some x
            | none => K2.bkM2 (K2.hsM rows) (rows.drop (j + 1)) (j + 1)) := rfl
          rw [eH] at hb2
          have sT : Same H' (upd H' T (.tup [.int (j : Nat), xj])) := same_upd hT
          have eT : (upd H' T (.tup [.int (j : Nat), xj])) T = some (.tup [.int (j : Nat), xj]) := upd_same
          generalize upd H' T (HO.tup [V.int (j : Nat), xj]) = H4 at sT eT ⊢
          have s24 := s3.trans sT
          refine ⟨T, _, rfl, .inl (.inl eT), rfl, _, _, rfl, _, _, rfl, rfl, ?_⟩
          have hd4 := (ts2.trans (ts_same s24)).dp dj xj pdj hdj
          obtain ⟨a, ho, kv, rfl, h1, hh2, h3, h4⟩ := K2.row_at hd4 (hrows dj (List.mem_of_getElem? edj))
          refine ⟨.ref r2, rfl, .ref a, rfl, a, _, 1, .ref ho, rfl, rfl, h1, atI_nat (j := 1) rfl, ?_⟩
          intro x dx nx ndx nex
          have s5 : Same H4 (upd (upd H4 dx (.own x)) x (.ins C_Look dx [])) := fun b' o e => by
            rw [upd_ne (ne_of_none e nx), upd_ne (ne_of_none e ndx)]
            exact e
          refine ⟨x, dx, r2, ho, K2.hsM rows, K2.holesO dj, rfl, upd_same, s5 _ _ (s24 _ _ h2), ts_same s5 _ _ hh2, fun H5 hL5 kb5 => ⟨rfl, ?_⟩⟩
          have s45 : Same H4 H5 := fun b' o e => kb5 b' o (ne_of_none e nx) (s5 b' o e)
          refine ⟨.ref a, rfl, a, _, 2, kv, rfl, rfl, ts_same s45 _ _ h1, atI_nat (j := 2) rfl, .int (j : Int), rfl, (by show 2 ≤ sizeLine; decide), fun t6 n6 => ?_⟩
          have pk : pl (K2.kdO dj) = true ∧ okD (K2.kdO dj) = true := by
            obtain ⟨n, hh, k, rfl, _, _⟩ := hrows dj (List.mem_of_getElem? edj)
            exact ⟨plA_mem (show plA [.str n, .tuple (hh.map PyData.str), k] = true from pdj) (by simp [K2.kdO]), okA_mem (show okA [.str n, .tuple (hh.map PyData.str), k] = true from odj) (by simp [K2.kdO])⟩
          refine ⟨⟨C_Look, r2, ho, K2.hsM rows, K2.holesO dj⟩, x, t6, kv, K2.kdO dj, [(j : Int), 2], 1, 0, rfl, hL5.same (same_upd n6), (ts_same (s45.trans (same_upd n6))).dp _ _ pk.1 h3, pk.1, pk.2, .inl (.inl upd_same), (by show 2 + 4 * 10 ≤ 1000; decide), by decide, by decide, fun r7 H7 hL7 kb7 d7 => ?_⟩
          have s47 : Same H4 H7 := fun b' o e => kb7 b' o (ne_of_none e nx) (same_upd n6 _ _ (s45 b' o e))
          cases hk : (kfM (K2.hsM rows) (K2.holesO dj) 10 (K2.kdO dj) [(j : Int), 2] 1 0).2 with
          | some zz =>
            have d7' : Dp K H7 r7 (resD (kfM (K2.hsM rows) (K2.holesO dj) 10 (K2.kdO dj) [(j : Int), 2] 1 0).2) := d7
            rw [hk] at d7' hb2
            obtain ⟨pp, zz⟩ := zz
            have ne : r7 ≠ .non := fun z' => nomatch (non_iff d7').mp z'
            refine ⟨r7, rfl, rfl, _, rfl, ifNN ne ?_⟩
            have q' : Q r7 H7 := by
              have q1 := q r7 H7 (s02.trans (s24.trans s47))
              have hb3 : K2.bkM2 (K2.hsM rows) rows 0 = some (pp, zz) := hb2
              have q2 : Dp K H7 r7 (resD (K2.bkM2 (K2.hsM rows) rows 0)) → Q r7 H7 := q1
              rw [hb3] at q2
              exact q2 d7'
            exact ⟨r7, rfl, q'⟩
          | none =>
            have d7' : Dp K H7 r7 (resD (kfM (K2.hsM rows) (K2.holesO dj) 10 (K2.kdO dj) [(j : Int), 2] 1 0).2) := d7
            rw [hk] at d7' hb2
            have en : r7 = .non := (non_iff d7').mpr rfl
            subst en
            refine ⟨.non, rfl, rfl, _, rfl, iteF ?_⟩
            exact ⟨_, _, _, rfl, s24.trans s47, hb2⟩
        · obtain ⟨x2', x3', x4', rfl, s3, hb2⟩ := hp'
          rw [ed] at hb2
          have hb3 : K2.bkM2 (K2.hsM rows) rows 0 = none := hb2
          have q1 : Dp K H' .non (resD (K2.bkM2 (K2.hsM rows) rows 0)) → Q .non H' := q .non H' (s02.trans s3)
          rw [hb3] at q1
          exact q1 .non
    | _ => exact iteT (fa0 (σ := []) q)
end
end K3
namespace K3
open PySem PySem.Spec PyProof.Rows L2 K1
abbrev s_BadBookI : Stmt := inClass (topS 2) 0
abbrev pm_BadBookI : List Str := ["self", "place", "why"]
theorem sc_BadBookI : FnScope pm_BadBookI pm_BadBookI (defScope s_BadBookI) := ⟨rfl, rfl, rfl, by decide +kernel, rfl, by decide +kernel, by decide +kernel⟩
theorem ok_BadBookI {P : Program} {w : World} {K : PySem.W.Frag} {mg : Str → Option Value} {base : Heap} {f C : Addr} {fd : FuncData} (F : Fun K "__init__" "BadBook.__init__" s_BadBookI f fd) (T : OexC K C) (n0 : PySem.W.findIn K (.ref C) "place" = some none) (n1 : PySem.W.findIn K (.ref C) "why" = some none) : FnOk P w K mg base CX0 1 f fd pm_BadBookI (sp_two C "place" "why") := by
  refine F.ok sc_BadBookI (fun vs H Q E h => ?_) (fun cdv A outer s H vs Q E hr h => ?_)
  · obtain ⟨a, v1, v2, rfl, _⟩ := h
    rfl
  · obtain ⟨a, v1, v2, rfl, ha, q⟩ := h
    refine ⟨_, (pss_cons (ps_ost (pv 0) (pv 1)) (pss_one (ps_ost (pv 0) (pv 2)))), ?_⟩
    refine ⟨v1, rfl, .ref a, rfl, a, C, rfl, T, n0, .inl ⟨ha, fun dx nd nda => ?_⟩⟩
    have ed : (upd (upd H dx (exd dx [("place", v1)])) a (exo a C (some dx))) dx = some (exd dx [("place", v1)]) := by rw [upd_ne nda, upd_same]
    have ea : (upd (upd H dx (exd dx [("place", v1)])) a (exo a C (some dx))) a = some (exo a C (some dx)) := upd_same
    have kk : ∀ b o, b ≠ a → b ≠ dx → H b = some o → (upd (upd H dx (exd dx [("place", v1)])) a (exo a C (some dx))) b = some o := fun b o nb nb2 e => by rw [upd_ne nb, upd_ne nb2]; exact e
    generalize upd (upd H dx (exd dx [("place", v1)])) a (exo a C (some dx)) = H1 at ed ea kk ⊢
    refine ⟨v2, rfl, .ref a, rfl, a, C, rfl, T, n1, .inr ⟨dx, _, ea, ed, (by show 1 ≤ 900; decide), ?_⟩⟩
    refine q dx _ nd nda (by rw [upd_ne (Ne.symm nda)]; exact ea) upd_same fun b o nb nb2 e => ?_
    rw [upd_ne nb2]
    exact kk b o nb nb2 e

abbrev s_BadKindI : Stmt := inClass (topS 3) 0
abbrev pm_BadKindI : List Str := ["self", "place", "why"]
theorem sc_BadKindI : FnScope pm_BadKindI pm_BadKindI (defScope s_BadKindI) := ⟨rfl, rfl, rfl, by decide +kernel, rfl, by decide +kernel, by decide +kernel⟩
theorem ok_BadKindI {P : Program} {w : World} {K : PySem.W.Frag} {mg : Str → Option Value} {base : Heap} {f C : Addr} {fd : FuncData} (F : Fun K "__init__" "BadKind.__init__" s_BadKindI f fd) (T : OexC K C) (n0 : PySem.W.findIn K (.ref C) "place" = some none) (n1 : PySem.W.findIn K (.ref C) "why" = some none) : FnOk P w K mg base CX0 1 f fd pm_BadKindI (sp_two C "place" "why") := by
  refine F.ok sc_BadKindI (fun vs H Q E h => ?_) (fun cdv A outer s H vs Q E hr h => ?_)
  · obtain ⟨a, v1, v2, rfl, _⟩ := h
    rfl
  · obtain ⟨a, v1, v2, rfl, ha, q⟩ := h
    refine ⟨_, (pss_cons (ps_ost (pv 0) (pv 1)) (pss_one (ps_ost (pv 0) (pv 2)))), ?_⟩
    refine ⟨v1, rfl, .ref a, rfl, a, C, rfl, T, n0, .inl ⟨ha, fun dx nd nda => ?_⟩⟩
    have ed : (upd (upd H dx (exd dx [("place", v1)])) a (exo a C (some dx))) dx = some (exd dx [("place", v1)]) := by rw [upd_ne nda, upd_same]
    have ea : (upd (upd H dx (exd dx [("place", v1)])) a (exo a C (some dx))) a = some (exo a C (some dx)) := upd_same
    have kk : ∀ b o, b ≠ a → b ≠ dx → H b = some o → (upd (upd H dx (exd dx [("place", v1)])) a (exo a C (some dx))) b = some o := fun b o nb nb2 e => by rw [upd_ne nb, upd_ne nb2]; exact e
    generalize upd (upd H dx (exd dx [("place", v1)])) a (exo a C (some dx)) = H1 at ed ea kk ⊢
    refine ⟨v2, rfl, .ref a, rfl, a, C, rfl, T, n1, .inr ⟨dx, _, ea, ed, (by show 1 ≤ 900; decide), ?_⟩⟩
    refine q dx _ nd nda (by rw [upd_ne (Ne.symm nda)]; exact ea) upd_same fun b o nb nb2 e => ?_
    rw [upd_ne nb2]
    exact kk b o nb nb2 e

abbrev s_refuse_book : Stmt := topS 39
abbrev nm_refuse_book : List Str := ["book", "fault"]
abbrev pm_refuse_book : List Str := ["book"]
theorem sc_refuse_book : FnScope nm_refuse_book pm_refuse_book (defScope s_refuse_book) := ⟨rfl, rfl, rfl, by decide +kernel, rfl, by decide +kernel, by decide +kernel⟩
abbrev s_refuse_unformed : Stmt := topS 40
abbrev nm_refuse_unformed : List Str := ["book", "kind", "fault"]
abbrev pm_refuse_unformed : List Str := ["book", "kind"]
theorem sc_refuse_unformed : FnScope nm_refuse_unformed pm_refuse_unformed (defScope s_refuse_unformed) := ⟨rfl, rfl, rfl, by decide +kernel, rfl, by decide +kernel, by decide +kernel⟩
section
variable {P : Program} {w : World} {K : PySem.W.Frag} {mg : Str → Option Value} {base : Heap}
/-- what is let out of a fault that is found -/
def Fail (K : PySem.W.Frag) (C : Addr) (H : Hp) (fa : Fa) (E : XK) : Prop := ∀ p z, fa = some (p, z) → ∀ (dd : Addr) (pw : V) (H' : Hp), Same H H' → H' dd = some (.xd [("why", .str z), ("place", pw)]) → Dp K H' pw (plD p) → E (.ref C) (some dd) H'
theorem Fail.to {C : Addr} {H H1 : Hp} {fa : Fa} {E : XK} (f : Fail K C H fa E) (s : Same H H1) : Fail K C H1 fa E := fun p z e dd pw H' s' => f p z e dd pw H' (s.trans s')
theorem fault_at {H : Hp} {r : V} {p : List Int} {z : Str} (h : Dp K H r (resD (some (p, z)))) : ∃ (ta : Addr) (v0 : V), r = .ref ta ∧ SqT K H ta [v0, .str z] ∧ Dp K H v0 (plD p) := by
  obtain ⟨ta, xs, rfl, hs, hx⟩ := dp_tup (ds := [plD p, .str z]) h
  cases hx with
  | @cons v0 _ _ _ hx0 hx1 =>
  cases hx1 with
  | @cons v1 _ _ _ hx1 hx2 =>
  cases hx2
  rw [dp_str hx1] at hs
  exact ⟨ta, v0, rfl, hs, hx0⟩
def sp_refuse_book (K : PySem.W.Frag) (CK : Addr) : Sp := fun vs H Q E => ∃ (bv : V) (b : PyData), vs = [bv] ∧ Dp K H bv b ∧ pl b = true ∧ okD b = true ∧ (K2.bkM b = none → ∀ H', Same H H' → Q .non H') ∧ Fail K CK H (K2.bkM b) E
theorem ok_refuse_book {f : Addr} {fd : FuncData} {C_BadBook : Addr} (F : Fun K "refuse_book" "refuse_book" s_refuse_book f fd) (C_bookfault : Cal P w K mg base "bookfault" pm_bookfault 44 (sp_bookfault K)) {fI_BadBook : Addr} {fdI_BadBook : FuncData} (T_BadBook : ErC K mg "BadBook" C_BadBook fI_BadBook) (G_BadBook : FnOk P w K mg base CX0 1 fI_BadBook fdI_BadBook pm_BadBookI (sp_two C_BadBook "place" "why")) (b_BadBook : Binds K fdI_BadBook pm_BadBookI []) : FnOk P w K mg base (L2.CX P w) 45 f fd pm_refuse_book (sp_refuse_book K C_BadBook) := by
  obtain ⟨f_bookfault, fd_bookfault, G_bookfault, g_bookfault, k_bookfault, b_bookfault⟩ := C_bookfault.ex
  refine F.okX sc_refuse_book (fun vs H Q E h => ?_) (fun cdv A outer s H vs Q E hr h => ?_)
  · obtain ⟨bv, b, rfl, _⟩ := h
    rfl
  · obtain ⟨bv, b, rfl, hb, pb, ob, q, qe⟩ := h
    have rm : ∀ {j : Nat}, j ≤ 44 → Room j (A.deeper (envOfC "refuse_book" (defScope s_refuse_book) s.heap.objs.size f cdv)) := fun hj => hr.mono hj
    refine ⟨_, pss_cons (ps_set (i := 1) sc_refuse_book.nd rfl (.inl rfl) (pe_call G_bookfault (rm (by decide)) (by rfl) g_bookfault k_bookfault b_bookfault .nil pass0 (pa_cons (pv 0) pa_nil)))
      (pss_one (ps_if (pt_cmpR op_notN (pv 1) pe_non (nomark _))
      (pss_one (ps_raise rfl (takes_of rfl rfl rfl rfl) (pmk_oex T_BadBook.o T_BadBook.i T_BadBook.t G_BadBook (rm (by decide)) b_BadBook .nil pass0 (by rfl) T_BadBook.g (pa_cons (pe_ix ix_tup (pv 1) pe_int (fun _ _ => rfl)) (pa_cons (pe_ix ix_tup (pv 1) pe_int (fun _ _ => rfl)) pa_nil))))) pss_nil)), ?_⟩
    refine ⟨bv, rfl, bv, b, rfl, hb, pb, ob, fun r H1 s1 d1 => ?_⟩
    cases hk : K2.bkM b with
    | some pz =>
      obtain ⟨p, z⟩ := pz
      rw [hk] at d1
      obtain ⟨ta, v0, rfl, hs, h0⟩ := fault_at d1
      refine ⟨.ref ta, rfl, rfl, _, rfl, ifNN (fun z' => nomatch z') ?_⟩
      refine ⟨.ref ta, rfl, ta, _, 0, v0, rfl, rfl, hs, atI_nat (j := 0) rfl, .ref ta, rfl, ta, _, 1, .str z, rfl, rfl, hs, atI_nat (j := 1) rfl, ?_⟩
      exact mk2 fun dd H' s' e' => qe p z hk dd v0 H' (s1.trans s') e' ((ts_same s').dp _ _ (pl_plD p) h0)
    | none =>
      rw [hk] at d1
      have en : r = .non := (non_iff d1).mpr rfl
      subst en
      exact ⟨.non, rfl, rfl, _, rfl, iteF (q hk H1 s1)⟩
def sp_refuse_unformed (K : PySem.W.Frag) (CK CB : Addr) : Sp := fun vs H Q E => ∃ (bv v : V) (b d : PyData), vs = [bv, v] ∧ Dp K H bv b ∧ pl b = true ∧ okD b = true ∧ Dp K H v d ∧ pl d = true ∧ okD d = true ∧ Fail K CK H (K2.bkM b) E ∧
  (∀ rows, b = .tuple rows → K2.bkM b = none → ((kfM (K2.hsM rows) [] 10 d [] 1 0).2 = none → ∀ H', Same H H' → Q .non H') ∧ Fail K CB H (kfM (K2.hsM rows) [] 10 d [] 1 0).2 E)
theorem ok_refuse_unformed {f : Addr} {fd : FuncData} {C_BadKind C_BadBook : Addr} (F : Fun K "refuse_unformed" "refuse_unformed" s_refuse_unformed f fd) (C_refuse_book : CalX P w K mg base "refuse_book" pm_refuse_book 45 (sp_refuse_book K C_BadBook)) (C_closed_fault : Cal P w K mg base "closed_fault" pm_closed_fault 44 (sp_closed_fault K)) {fI_BadKind : Addr} {fdI_BadKind : FuncData} (T_BadKind : ErC K mg "BadKind" C_BadKind fI_BadKind) (G_BadKind : FnOk P w K mg base CX0 1 fI_BadKind fdI_BadKind pm_BadKindI (sp_two C_BadKind "place" "why")) (b_BadKind : Binds K fdI_BadKind pm_BadKindI []) : FnOk P w K mg base (L2.CX P w) 46 f fd pm_refuse_unformed (sp_refuse_unformed K C_BadBook C_BadKind) := by
  obtain ⟨f_refuse_book, fd_refuse_book, G_refuse_book, g_refuse_book, k_refuse_book, b_refuse_book⟩ := C_refuse_book.ex
  obtain ⟨f_closed_fault, fd_closed_fault, G_closed_fault, g_closed_fault, k_closed_fault, b_closed_fault⟩ := C_closed_fault.ex
  refine F.okX sc_refuse_unformed (fun vs H Q E h => ?_) (fun cdv A outer s H vs Q E hr h => ?_)
  · obtain ⟨bv, v, b, d, rfl, _⟩ := h
    rfl
  · obtain ⟨bv, v, b, d, rfl, hb, pb, ob, hv, pd, od, qk, q⟩ := h
    have rm : ∀ {j : Nat}, j ≤ 45 → Room j (A.deeper (envOfC "refuse_unformed" (defScope s_refuse_unformed) s.heap.objs.size f cdv)) := fun hj => hr.mono hj
    refine ⟨_, pss_cons (ps_expr (pe_callS G_refuse_book (rm (by decide)) (by rfl) g_refuse_book k_refuse_book b_refuse_book (fun σ => passAt (takes_of rfl rfl rfl rfl) σ) (pa_cons (pv 0) pa_nil)))
      (pss_cons (ps_set (i := 2) sc_refuse_unformed.nd rfl (.inl rfl) (pe_call G_closed_fault (rm (by decide)) (by rfl) g_closed_fault k_closed_fault b_closed_fault .nil pass0 (pa_cons (pv 0) (pa_cons (pv 1) pa_nil))))
      (pss_one (ps_if (pt_cmpR op_notN (pv 2) pe_non (nomark _))
      (pss_one (ps_raise rfl (takes_of rfl rfl rfl rfl) (pmk_oex T_BadKind.o T_BadKind.i T_BadKind.t G_BadKind (rm (by decide)) b_BadKind .nil pass0 (by rfl) T_BadKind.g (pa_cons (pe_ix ix_tup (pv 2) pe_int (fun _ _ => rfl)) (pa_cons (pe_ix ix_tup (pv 2) pe_int (fun _ _ => rfl)) pa_nil))))) pss_nil))), ?_⟩
    refine ⟨bv, rfl, bv, b, rfl, hb, pb, ob, fun en H1 s1 => ?_, qk⟩
    obtain ⟨rows, rfl, h1, h2, h3⟩ := K2.bkM_tuple en
    obtain ⟨ba, xs, rfl, hs, hx⟩ := dp_tup hb
    obtain ⟨q1, q2⟩ := q rows rfl en
    refine ⟨.ref ba, rfl, v, rfl, ba, v, rows, d, rfl, (ts_same s1).dp _ _ pb hb, pb, h1, h2, (ts_same s1).dp d v pd hv, pd, od, fun r H2 s2 d2 => ?_⟩
    have s02 := s1.trans s2
    cases hk : (kfM (K2.hsM rows) [] 10 d [] 1 0).2 with
    | some pz =>
      obtain ⟨p, z⟩ := pz
      rw [hk] at d2
      obtain ⟨ta, v0, rfl, hs2, h0⟩ := fault_at d2
      refine ⟨.ref ta, rfl, rfl, _, rfl, ifNN (fun z' => nomatch z') ?_⟩
      refine ⟨.ref ta, rfl, ta, _, 0, v0, rfl, rfl, hs2, atI_nat (j := 0) rfl, .ref ta, rfl, ta, _, 1, .str z, rfl, rfl, hs2, atI_nat (j := 1) rfl, ?_⟩
      exact mk2 fun dd H' s' e' => q2 p z hk dd v0 H' (s02.trans s') e' ((ts_same s').dp _ _ (pl_plD p) h0)
    | none =>
      rw [hk] at d2
      have en2 : r = .non := (non_iff d2).mpr rfl
      subst en2
      exact ⟨.non, rfl, rfl, _, rfl, iteF (q1 hk H2 s02)⟩
end
end K3
namespace K3
open PySem PySem.Spec PyProof.Rows L2 K1
open K2 (Kd Ps Ks toD psD ksD good fm fmP fmK dpt dptP dptK innerK withK kidsP kidsK withP ksL getP getK)
abbrev s_inner_kinds : Stmt := topS 12
abbrev nm_inner_kinds : List Str := ["kind", "word", "part"]
abbrev pm_inner_kinds : List Str := ["kind"]
theorem sc_inner_kinds : FnScope nm_inner_kinds pm_inner_kinds (defScope s_inner_kinds) := ⟨rfl, rfl, rfl, by decide +kernel, rfl, by decide +kernel, by decide +kernel⟩
abbrev s_with_inner : Stmt := topS 13
abbrev nm_with_inner : List Str := ["kind", "inner", "word", "part", "other"]
abbrev pm_with_inner : List Str := ["kind", "inner"]
theorem sc_with_inner : FnScope nm_with_inner pm_with_inner (defScope s_with_inner) := ⟨rfl, rfl, rfl, by decide +kernel, rfl, by decide +kernel, by decide +kernel⟩
abbrev s_filled : Stmt := topS 41
abbrev nm_filled : List Str := ["kind", "fills", "each"]
abbrev pm_filled : List Str := ["kind", "fills"]
theorem sc_filled : FnScope nm_filled pm_filled (defScope s_filled) := ⟨rfl, rfl, rfl, by decide +kernel, rfl, by decide +kernel, by decide +kernel⟩
theorem ifIn {z : Str} {p q : Prop} (h : z = "record" ∨ z = "variant") (hp : p) : if inV (.str z) [.str "record", .str "variant"] = true then p else q := by
  rw [if_pos ((in_parts z).mpr h)]
  exact hp
theorem ifNi {z : Str} {p q : Prop} (h1 : z ≠ "record") (h2 : z ≠ "variant") (hq : q) : if inV (.str z) [.str "record", .str "variant"] = true then p else q := by
  rw [if_neg fun z' => ((in_parts z).mp z').elim h1 h2]
  exact hq
theorem psD_at {K : PySem.W.Frag} {H : Hp} : ∀ {ps : Ps} {ws : List V} {i : Nat} {x : V}, DpAll K H ws (psD ps) → ws[i]? = some x → ∃ t u n c, x = .ref t ∧ SqT K H t [.str n, u] ∧ Dp K H u (toD c) ∧ getP ps i = some (n, c)
  | .nil, _, i, x, h, e => by
    cases h
    simp at e
  | .cons n k ps, _, 0, x, .cons h _, e => by
    simp at e
    subst e
    obtain ⟨t, xs, rfl, hs, hx⟩ := dp_tup h
    cases hx with
    | cons h0 hx =>
    cases hx with
    | cons h1 hx =>
    cases hx
    rw [dp_str h0] at hs
    exact ⟨t, _, n, k, rfl, hs, h1, rfl⟩
  | .cons n k ps, _, i + 1, x, .cons _ t, e => by
    obtain ⟨t', u, n', c, r⟩ := psD_at (i := i) t (by simpa using e)
    exact ⟨t', u, n', c, r⟩
theorem kidsP_get : ∀ {ps : Ps} {i : Nat} {n : Str} {c : Kd}, getP ps i = some (n, c) → (kidsP ps)[i]? = some c
  | .nil, i, n, c, h => by simp [getP] at h
  | .cons n' k ps, 0, n, c, h => by
    simp only [getP, Option.some.injEq, Prod.mk.injEq] at h
    simp [kidsP, h.2]
  | .cons n' k ps, i + 1, n, c, h => by
    simp only [getP] at h
    simpa [kidsP] using kidsP_get h
theorem ksD_map : ∀ ks : Ks, ksD ks = (kidsK ks).map toD
  | .nil => rfl
  | .cons k ks => by simp only [ksD, kidsK, List.map_cons, ksD_map ks]
theorem ksL_map : ∀ cs : List Kd, ksD (ksL cs) = cs.map toD
  | [] => rfl
  | c :: cs => by simp only [ksL, ksD, List.map_cons, ksL_map cs]
theorem withP_get : ∀ {ps : Ps} {cs : List Kd} {i : Nat} {n : Str} {c0 c : Kd}, getP ps i = some (n, c0) → cs[i]? = some c → (psD (withP ps cs))[i]? = some (.tuple [.str n, toD c])
  | .nil, _, i, n, _, c, h, _ => by simp [getP] at h
  | .cons n' k ps, [], i, n, _, c, _, h => by simp at h
  | .cons n' k ps, d :: cs, 0, n, _, c, h, h2 => by
    simp only [getP, Option.some.injEq, Prod.mk.injEq] at h
    simp at h2
    simp [withP, psD, h.1, h2]
  | .cons n' k ps, d :: cs, i + 1, n, _, c, h, h2 => by
    simp only [getP] at h
    simpa [withP, psD] using withP_get h (by simpa using h2)
theorem withP_len : ∀ {ps : Ps} {cs : List Kd}, cs.length = (psD ps).length → (psD (withP ps cs)).length = cs.length
  | .nil, [], _ => rfl
  | .nil, _ :: _, h => by simp [psD] at h
  | .cons n k ps, [], h => by simp [psD] at h
  | .cons n k ps, c :: cs, h => by
    simp only [withP, psD, List.length_cons]
    rw [withP_len (by simpa [psD] using h)]
theorem len_fmP : ∀ ps : Ps, (psD ps).length ≤ fmP ps
  | .nil => Nat.le_refl _
  | .cons n k ps => by
    have := K2.fm_pos k
    have := len_fmP ps
    simp only [psD, List.length_cons, K2.fmP]; omega
theorem len_fmK : ∀ ks : Ks, (ksD ks).length ≤ fmK ks
  | .nil => Nat.le_refl _
  | .cons k ps => by
    have := K2.fm_pos k
    have := len_fmK ps
    simp only [ksD, List.length_cons, K2.fmK]; omega
theorem goodA {cs : List Kd} (h : ∀ c ∈ cs, good c) : plA (cs.map toD) = true := plA_of fun d hd => by
  obtain ⟨c, hc, rfl⟩ := List.mem_map.mp hd
  exact (K2.pl_D c (h c hc)).1
theorem map_get {cs : List Kd} {i : Nat} {d : PyData} (h : (cs.map toD)[i]? = some d) : ∃ c, cs[i]? = some c ∧ d = toD c := by
  rw [List.getElem?_map] at h
  cases e : cs[i]? with
  | none => rw [e] at h; cases h
  | some c => rw [e] at h; exact ⟨c, rfl, (Option.some.inj h).symm⟩
section
variable {P : Program} {w : World} {K : PySem.W.Frag} {mg : Str → Option Value} {base : Heap}
def sp_inner_kinds (K : PySem.W.Frag) : Sp := fun vs H Q _ => ∃ (v : V) (k : Kd), vs = [v] ∧ Dp K H v (toD k) ∧ good k ∧ fm k ≤ 100000 ∧ ∀ r H', Same H H' → Dp K H' r (.tuple ((innerK k).map toD)) → Q r H'
theorem ok_inner_kinds {f : Addr} {fd : FuncData} (F : Fun K "inner_kinds" "inner_kinds" s_inner_kinds f fd) (m_tuple : mg "tuple" = none) {a_PART_WORDS : Addr} (g_PART_WORDS : mg "PART_WORDS" = some (.ref a_PART_WORDS)) (h_PART_WORDS : ∀ H : Hp, SqT K H a_PART_WORDS [.str "record", .str "variant"]) : FnOk P w K mg base CX0 1 f fd pm_inner_kinds (sp_inner_kinds K) := by
  refine F.ok sc_inner_kinds (fun vs H Q E h => ?_) (fun cdv A outer s H vs Q E hr h => ?_)
  · obtain ⟨v, k, rfl, _⟩ := h
    rfl
  · obtain ⟨v, k, rfl, hv, g, hfm, q⟩ := h
    refine ⟨_, pss_cons (ps_set (i := 1) sc_inner_kinds.nd rfl (.inl rfl) (pe_ix ix_tup (pv 0) pe_int (fun _ _ => rfl)))
      (pss_cons (ps_if (pt_cmpR op_in_seq (pv 1) (pe_glob (v := .ref a_PART_WORDS) (by rfl) g_PART_WORDS rfl) (by rfl))
      (pss_one (ps_ret (pe_callTy call_tuple_of (by rfl) m_tuple (by decide +kernel) (pa_cons (pe_lc (own := [("part", 2)]) (g := gName 2) (tt := tYes) rfl sc_inner_kinds.nd (pi_tup (pe_ix ix_tup (pv 0) pe_int (fun _ _ => rfl))) (blkOk_by (N := nm_inner_kinds) (sc := defScope s_inner_kinds) (by decide +kernel)) (fun _ _ _ _ _ => pg_name (i := 2) sc_inner_kinds.nd rfl (Or.inl rfl)) (fun _ _ _ _ _ => pts_nil) (fun _ _ _ _ _ => (pe_ix (show IxR _ (rIxT K) from ix_tup) (pv 2) pe_int (fun _ _ => rfl)))) pa_nil)))) pss_nil)
      (pss_cons (ps_if (pt_cmpR op_eq (pv 1) pe_str (nomark _))
      (pss_one (ps_ret (pe_tup (pa_cons (pe_ix ix_tup (pv 0) pe_int (fun _ _ => rfl)) pa_nil)))) pss_nil)
      (pss_cons (ps_if (PW.pt (pw_or (pt_cmpR op_eq (pv 1) pe_str (nomark _)) (pw_or1 (pt_cmpR op_eq (pv 1) pe_str (nomark _)))))
      (pss_one (ps_ret (pe_tup (pa_cons (pe_ix ix_tup (pv 0) pe_int (fun _ _ => rfl)) pa_nil)))) pss_nil)
      (pss_cons (ps_if (pt_cmpR op_eq (pv 1) pe_str (nomark _))
      (pss_one (ps_ret (pe_ix ix_tup (pv 0) pe_int (fun _ _ => rfl)))) pss_nil)
      (pss_one (ps_ret (pe_tup pa_nil))))))), ?_⟩
    obtain ⟨a, ws, rfl, hs, hw⟩ := K2.dk hv
    refine ⟨.ref a, rfl, a, _, 0, .str (K2.S (K2.wd k)), rfl, rfl, hs, atI_nat (j := 0) rfl, ?_⟩
    refine ⟨.str (K2.S (K2.wd k)), rfl, a_PART_WORDS, _, rfl, .inr (h_PART_WORDS H), rfl, rfl, _, rfl, ?_⟩
    have emp : 0 ≤ sizeLine ∧ ∀ t, H t = none → innerK k = [] → Q (.ref t) (upd H t (.tup [])) := ⟨Nat.zero_le _, fun t nt e => q _ _ (same_upd nt) (by rw [e]; exact .tup (.inl (.inl upd_same)) .nil)⟩
    cases k with
    | parts vv ps =>
      obtain ⟨x0, rfl, hx0⟩ := K2.all1 hw
      obtain ⟨pa, ys, rfl, hys, hy⟩ := K2.dTup hx0
      have hlen := dpAll_len hy
      have hlf := len_fmP ps
      simp only [fm] at hfm
      refine ifIn (by cases vv; exact .inl rfl; exact .inr rfl) ?_
      refine ⟨.ref a, rfl, a, _, 1, .ref pa, rfl, rfl, hs, atI_nat (j := 1) rfl, pa, rfl, ⟨_, hys⟩, fun D hD => lc_tup (xs := ys) (fun i H' => ∃ us, H' D = some (.lst us) ∧ us.length = i ∧ DpAll K H' us (((kidsP ps).map toD).take i) ∧ Same H H') ⟨[], upd_same, rfl, by rw [List.take_zero]; exact .nil, same_upd hD⟩ (fun i H' _ hp => ?_) (fun i x H' hxi hp => ?_) (fun H' hp => ?_)⟩
      · obtain ⟨_, _, _, _, s'⟩ := hp
        exact ts_same s' _ _ hys
      · obtain ⟨us, eD, el, hu, s'⟩ := hp
        obtain ⟨t, u, n, c, rfl, ht, hc, hg⟩ := psD_at hy hxi
        have hi : i < ys.length := (List.getElem?_eq_some_iff.mp hxi).1
        refine ⟨rfl, ?_⟩
        dsimp only [tYes]
        refine iteT ?_
        have hk := kidsP_get hg
        have gc : good c := ((K2.kidsP_ok ps).2 c (List.mem_of_getElem? hk)).2.2 g
        refine ⟨.ref t, rfl, t, _, 1, u, rfl, rfl, ts_same s' _ _ ht, atI_nat (j := 1) rfl, us, eD, ?_, us ++ [u], upd_same, by rw [List.length_append, el]; rfl, ?_, fun b o e => by rw [upd_ne (ne_of_none e hD)]; exact s' b o e⟩
        · exact Nat.lt_of_le_of_lt (show us.length ≤ 100000 by omega) (by decide)
        · have tl := ts_lst (K := K) (ys := us ++ [u]) eD
          have hgd : ∀ c ∈ kidsP ps, good c := fun c hc => ((K2.kidsP_ok ps).2 c hc).2.2 g
          rw [List.take_add_one, List.getElem?_map, hk]
          refine dpAll_append (tl.dps _ _ (plA_of fun d hd => ?_) hu) (.cons (tl.dp _ _ (K2.pl_D c gc).1 ((ts_same s').dp _ _ (K2.pl_D c gc).1 hc)) .nil)
          exact plA_mem (goodA hgd) (List.mem_of_mem_take hd)
      · obtain ⟨us, eD, el, hu, s'⟩ := hp
        refine ⟨D, _, rfl, .inl ⟨.inl (.inl eD), fun tu ntu => ?_⟩⟩
        have s2 := s'.trans (same_upd (o := HO.tup us) ntu)
        refine q _ _ s2 (.tup (.inl (.inl upd_same)) ?_)
        have hgd : ∀ c ∈ kidsP ps, good c := fun c hc => ((K2.kidsP_ok ps).2 c hc).2.2 g
        rw [List.take_of_length_le (by rw [List.length_map, (K2.kidsP_ok ps).1]; omega)] at hu
        exact (ts_same (same_upd ntu)).dps _ _ (goodA hgd) hu
    | row m c =>
      obtain ⟨x0, x1, rfl, hx0, hx1⟩ := K2.all2 hw
      rw [show K2.S (K2.wd (.row m c)) = ("row" : Str) from rfl] at hs ⊢
      refine ifNi (by decide) (by decide) ⟨_, rfl, rfl, _, rfl, ifSY rfl ?_⟩
      refine ⟨.ref a, rfl, a, _, 2, x1, rfl, rfl, hs, atI_nat (j := 2) rfl, (by show 1 ≤ sizeLine; decide), fun t nt => ?_⟩
      exact q _ _ (same_upd nt) (.tup (.inl (.inl upd_same)) (.cons ((ts_new nt).dp _ _ (K2.pl_D c g.2).1 hx1) .nil))
    | one bb c =>
      obtain ⟨x0, rfl, hx0⟩ := K2.all1 hw
      have hl1 : 1 ≤ sizeLine := by decide
      have fin : ∀ t, H t = none → Q (.ref t) (upd H t (.tup [x0])) := fun t nt => q _ _ (same_upd nt) (.tup (.inl (.inl upd_same)) (.cons ((ts_new nt).dp _ _ (K2.pl_D c g).1 hx0) .nil))
      cases bb with
      | true =>
        rw [show K2.S (K2.wd (.one true c)) = ("box" : Str) from rfl] at hs ⊢
        exact ifNi (by decide) (by decide) ⟨_, rfl, rfl, _, rfl, ifSN (by decide) ⟨_, rfl, rfl, _, rfl, ifSN (by decide) ⟨_, rfl, rfl, _, rfl, ifSY rfl ⟨.ref a, rfl, a, _, 1, x0, rfl, rfl, hs, atI_nat (j := 1) rfl, hl1, fin⟩⟩⟩⟩
      | false =>
        rw [show K2.S (K2.wd (.one false c)) = ("maybe" : Str) from rfl] at hs ⊢
        exact ifNi (by decide) (by decide) ⟨_, rfl, rfl, _, rfl, ifSN (by decide) ⟨_, rfl, rfl, _, rfl, ifSY rfl ⟨.ref a, rfl, a, _, 1, x0, rfl, rfl, hs, atI_nat (j := 1) rfl, hl1, fin⟩⟩⟩
    | use n fs =>
      obtain ⟨x0, x1, rfl, hx0, hx1⟩ := K2.all2 hw
      rw [show K2.S (K2.wd (.use n fs)) = ("use" : Str) from rfl] at hs ⊢
      refine ifNi (by decide) (by decide) ⟨_, rfl, rfl, _, rfl, ifSN (by decide) ⟨_, rfl, rfl, _, rfl, ifSN (by decide) ⟨_, rfl, rfl, _, rfl, ifSN (by decide) ⟨_, rfl, rfl, _, rfl, ifSY rfl ?_⟩⟩⟩⟩
      refine ⟨.ref a, rfl, a, _, 2, x1, rfl, rfl, hs, atI_nat (j := 2) rfl, ?_⟩
      rw [ksD_map] at hx1
      exact q _ _ (Same.refl _) hx1
    | num i b =>
      cases i with
      | true =>
        rw [show K2.S (K2.wd (.num true b)) = ("int" : Str) from rfl] at hs ⊢
        exact ifNi (by decide) (by decide) ⟨_, rfl, rfl, _, rfl, ifSN (by decide) ⟨_, rfl, rfl, _, rfl, ifSN (by decide) ⟨_, rfl, rfl, _, rfl, ifSN (by decide) ⟨_, rfl, rfl, _, rfl, ifSN (by decide) ⟨emp.1, fun t nt => emp.2 t nt rfl⟩⟩⟩⟩⟩
      | false =>
        rw [show K2.S (K2.wd (.num false b)) = ("nat" : Str) from rfl] at hs ⊢
        exact ifNi (by decide) (by decide) ⟨_, rfl, rfl, _, rfl, ifSN (by decide) ⟨_, rfl, rfl, _, rfl, ifSN (by decide) ⟨_, rfl, rfl, _, rfl, ifSN (by decide) ⟨_, rfl, rfl, _, rfl, ifSN (by decide) ⟨emp.1, fun t nt => emp.2 t nt rfl⟩⟩⟩⟩⟩
    | truth =>
      rw [show K2.S (K2.wd .truth) = ("truth" : Str) from rfl] at hs ⊢
      exact ifNi (by decide) (by decide) ⟨_, rfl, rfl, _, rfl, ifSN (by decide) ⟨_, rfl, rfl, _, rfl, ifSN (by decide) ⟨_, rfl, rfl, _, rfl, ifSN (by decide) ⟨_, rfl, rfl, _, rfl, ifSN (by decide) ⟨emp.1, fun t nt => emp.2 t nt rfl⟩⟩⟩⟩⟩
    | hole n =>
      rw [show K2.S (K2.wd (.hole n)) = ("hole" : Str) from rfl] at hs ⊢
      exact ifNi (by decide) (by decide) ⟨_, rfl, rfl, _, rfl, ifSN (by decide) ⟨_, rfl, rfl, _, rfl, ifSN (by decide) ⟨_, rfl, rfl, _, rfl, ifSN (by decide) ⟨_, rfl, rfl, _, rfl, ifSN (by decide) ⟨emp.1, fun t nt => emp.2 t nt rfl⟩⟩⟩⟩⟩
end
end K3
namespace K3
open PySem PySem.Spec PyProof.Rows L2 K1
open K2 (Kd Ps Ks toD psD ksD good fm fmP fmK dpt dptP dptK innerK withK kidsP kidsK withP ksL getP getK sub)
theorem withP_good : ∀ {ps : Ps} {cs : List Kd}, K2.goodP ps → (∀ c ∈ cs, good c) → K2.goodP (withP ps cs)
  | .nil, _, _, _ => True.intro
  | .cons n k ps, [], _, _ => True.intro
  | .cons n k ps, c :: cs, g, h => ⟨g.1, h c List.mem_cons_self, withP_good g.2.2 fun d hd => h d (List.mem_cons_of_mem _ hd)⟩
section
variable {P : Program} {w : World} {K : PySem.W.Frag} {mg : Str → Option Value} {base : Heap}
def sp_with_inner (K : PySem.W.Frag) : Sp := fun vs H Q _ => ∃ (v : V) (l : Addr) (k : Kd) (cs : List Kd) (xs : List V), vs = [v, .ref l] ∧ Dp K H v (toD k) ∧ good k ∧ fm k ≤ 100000 ∧ SqL K H l xs ∧ DpAll K H xs (cs.map toD) ∧ (∀ c ∈ cs, good c) ∧ cs.length = (innerK k).length ∧
  ∀ r H', Same H H' → Dp K H' r (toD (withK k cs)) → Q r H'
theorem dps_same {H H' : Hp} {xs : List V} {cs : List Kd} (s : Same H H') (h : DpAll K H xs (cs.map toD)) (g : ∀ c ∈ cs, good c) : DpAll K H' xs (cs.map toD) := (ts_same s).dps _ _ (goodA g) h
theorem ok_with_inner {f : Addr} {fd : FuncData} (F : Fun K "with_inner" "with_inner" s_with_inner f fd) (m_tuple : mg "tuple" = none) (m_zip : mg "zip" = none) {a_PART_WORDS : Addr} (g_PART_WORDS : mg "PART_WORDS" = some (.ref a_PART_WORDS)) (h_PART_WORDS : ∀ H : Hp, SqT K H a_PART_WORDS [.str "record", .str "variant"]) : FnOk P w K mg base CX0 1 f fd pm_with_inner (sp_with_inner K) := by
  refine F.ok sc_with_inner (fun vs H Q E h => ?_) (fun cdv A outer s H vs Q E hr h => ?_)
  · obtain ⟨v, l, k, cs, xs, rfl, _⟩ := h
    rfl
  · obtain ⟨v, l, k, cs, xs, rfl, hv, g, hfm, hl, hx, gc, hlen, q⟩ := h
    refine ⟨_, pss_cons (ps_set (i := 2) sc_with_inner.nd rfl (.inl rfl) (pe_ix ix_tup (pv 0) pe_int (fun _ _ => rfl)))
      (pss_cons (ps_if (pt_cmpR op_in_seq (pv 2) (pe_glob (v := .ref a_PART_WORDS) (by rfl) g_PART_WORDS rfl) (by rfl))
      (pss_one (ps_ret (pe_tup (pa_cons (pv 2) (pa_cons (pe_callTy call_tuple_of (by rfl) m_tuple (by decide +kernel) (pa_cons (pe_lc (own := [("part", 3), ("other", 4)]) (g := gTup K 2 (gCons (gName 3) (gCons (gName 4) gNil))) (tt := tYes) rfl sc_with_inner.nd (ZN.pi_zipN (by rfl) m_zip (pa_cons (pe_ix ix_tup (pv 0) pe_int (fun _ _ => rfl)) (pa_cons (pv 1) pa_nil))) (blkOk_by (N := nm_with_inner) (sc := defScope s_with_inner) (by decide +kernel)) (fun _ _ _ _ _ => pg_tup (by rfl) (pgs_cons (pg_name (i := 3) sc_with_inner.nd rfl (Or.inl rfl)) (pgs_cons (pg_name (i := 4) sc_with_inner.nd rfl (Or.inl rfl)) pgs_nil))) (fun _ _ _ _ _ => pts_nil) (fun _ _ _ _ _ => (pe_tup (pa_cons (pe_ix (show IxR _ (rIxT K) from ix_tup) (pv 3) pe_int (fun _ _ => rfl)) (pa_cons (pv 4) pa_nil))))) pa_nil)) pa_nil))))) pss_nil)
      (pss_cons (ps_if (pt_cmpR op_eq (pv 2) pe_str (nomark _))
      (pss_one (ps_ret (pe_tup (pa_cons (pv 2) (pa_cons (pe_ix ix_tup (pv 0) pe_int (fun _ _ => rfl)) (pa_cons (pe_ix ix_list (pv 1) pe_int (fun _ _ => rfl)) pa_nil)))))) pss_nil)
      (pss_cons (ps_if (PW.pt (pw_or (pt_cmpR op_eq (pv 2) pe_str (nomark _)) (pw_or1 (pt_cmpR op_eq (pv 2) pe_str (nomark _)))))
      (pss_one (ps_ret (pe_tup (pa_cons (pv 2) (pa_cons (pe_ix ix_list (pv 1) pe_int (fun _ _ => rfl)) pa_nil))))) pss_nil)
      (pss_cons (ps_if (pt_cmpR op_eq (pv 2) pe_str (nomark _))
      (pss_one (ps_ret (pe_tup (pa_cons (pv 2) (pa_cons (pe_ix ix_tup (pv 0) pe_int (fun _ _ => rfl)) (pa_cons (pe_callTy call_tuple_of (by rfl) m_tuple (by decide +kernel) (pa_cons (pv 1) pa_nil)) pa_nil)))))) pss_nil)
      (pss_one (ps_ret (pv 0))))))), ?_⟩
    obtain ⟨a, ws, rfl, hs, hw⟩ := K2.dk hv
    refine ⟨.ref a, rfl, a, _, 0, .str (K2.S (K2.wd k)), rfl, rfl, hs, atI_nat (j := 0) rfl, ?_⟩
    refine ⟨.str (K2.S (K2.wd k)), rfl, a_PART_WORDS, _, rfl, .inr (h_PART_WORDS H), rfl, rfl, _, rfl, ?_⟩
    have xl := dpAll_len hx
    rw [List.length_map] at xl
    have idk : withK k cs = k → Q (.ref a) H := fun e => q _ _ (Same.refl _) (by rw [e]; exact hv)
    have one : ∀ c0 : Kd, innerK k = [c0] → ∃ x0 c, xs = [x0] ∧ cs = [c] ∧ Dp K H x0 (toD c) ∧ good c := fun c0 e => by
      rw [e] at hlen
      match cs, hlen, hx, gc with
      | [c], _, hx, gc =>
        obtain ⟨x0, rfl, h0⟩ := K2.all1 hx
        exact ⟨x0, c, rfl, rfl, h0, gc c List.mem_cons_self⟩
    cases k with
    | parts vv ps =>
      obtain ⟨x0, rfl, hx0⟩ := K2.all1 hw
      obtain ⟨pa, ys, rfl, hys, hy⟩ := K2.dTup hx0
      have hylen := dpAll_len hy
      have hlf := len_fmP ps
      simp only [fm] at hfm
      have hlen' : cs.length = (psD ps).length := by rw [hlen]; exact (K2.kidsP_ok ps).1
      have gw : K2.goodP (withP ps cs) := withP_good g gc
      have plw := (K2.pl_P _ gw).1
      refine ifIn (by cases vv; exact .inl rfl; exact .inr rfl) ?_
      refine ⟨_, rfl, .ref a, rfl, a, _, 1, .ref pa, rfl, rfl, hs, atI_nat (j := 1) rfl, .ref l, rfl, pa, l, ys, xs, rfl, hys, hl, fun D hD => ZN.lc_zipN (xs := ys) (ys := xs) (fun i H' => ∃ us, H' D = some (.lst us) ∧ us.length = i ∧ i ≤ ys.length ∧ DpAll K H' us ((psD (withP ps cs)).take i) ∧ Same H H')
        ⟨[], upd_same, rfl, Nat.zero_le _, by rw [List.take_zero]; exact .nil, same_upd hD⟩ (fun i H' hp => ?_) (fun i x y T H' hxi hyi hp hT => ?_) (fun H' hp => ?_)⟩
      · obtain ⟨_, _, _, _, _, s'⟩ := hp
        exact ⟨ts_same s' _ _ hys, sql_same s' hl⟩
      · obtain ⟨us, eD, el, hi0, hu, s'⟩ := hp
        obtain ⟨t, u, n, c0, rfl, ht, hc, hg⟩ := psD_at hy hxi
        have hi : i < ys.length := (List.getElem?_eq_some_iff.mp hxi).1
        obtain ⟨d, ed, hd⟩ := dpAll_get hx hyi
        obtain ⟨c, ec, rfl⟩ := map_get ed
        have sT : Same H' (upd H' T (.tup [.ref t, y])) := same_upd hT
        have eT : (upd H' T (.tup [.ref t, y])) T = some (.tup [.ref t, y]) := upd_same
        generalize upd H' T (HO.tup [.ref t, y]) = H2 at sT eT ⊢
        have s2 := s'.trans sT
        refine ⟨T, _, rfl, .inl (.inl eT), rfl, _, _, rfl, _, _, rfl, rfl, rfl, ?_⟩
        dsimp only [tYes]
        refine iteT ?_
        refine ⟨.ref t, rfl, t, _, 0, .str n, rfl, rfl, ts_same s2 _ _ ht, atI_nat (j := 0) rfl, y, rfl, (by show 2 ≤ sizeLine; decide), fun t2 nt2 => ?_⟩
        have s3 : Same H2 (upd H2 t2 (.tup [.str n, y])) := same_upd nt2
        have e3 : (upd H2 t2 (.tup [.str n, y])) t2 = some (.tup [.str n, y]) := upd_same
        generalize upd H2 t2 (HO.tup [.str n, y]) = H3 at s3 e3 ⊢
        have eD3 : H3 D = some (.lst us) := s3 _ _ (sT _ _ eD)
        have gcc : good c := gc c (List.mem_of_getElem? ec)
        have tl := ts_lst (K := K) (ys := us ++ [.ref t2]) eD3
        refine ⟨us, eD3, ?_, us ++ [.ref t2], upd_same, by rw [List.length_append, el]; rfl, by omega, ?_, fun b o e => by rw [upd_ne (ne_of_none e hD)]; exact s3 _ _ (s2 b o e)⟩
        · exact Nat.lt_of_le_of_lt (show us.length ≤ 100000 by omega) (by decide)
        · rw [List.take_add_one, withP_get hg ec]
          refine dpAll_append (((ts_same (sT.trans s3)).trans tl).dps _ _ (plA_of fun d hd => plA_mem plw (List.mem_of_mem_take hd)) hu) (.cons (.tup (tl _ _ (.inl (.inl e3))) (.cons (.str _) (.cons ?_ .nil))) .nil)
          exact tl.dp _ _ (K2.pl_D c gcc).1 ((ts_same (s2.trans s3)).dp _ _ (K2.pl_D c gcc).1 hd)
      · obtain ⟨us, eD, el, hi0, hu, s'⟩ := hp
        refine ⟨D, _, rfl, .inl ⟨.inl (.inl eD), fun tu ntu => ?_⟩⟩
        have s2 : Same H' (upd H' tu (.tup us)) := same_upd ntu
        have e2 : (upd H' tu (.tup us)) tu = some (.tup us) := upd_same
        generalize upd H' tu (HO.tup us) = H2 at s2 e2 ⊢
        refine ⟨(by show 2 ≤ sizeLine; decide), fun t3 nt3 => ?_⟩
        rw [show min ys.length xs.length = (psD (withP ps cs)).length by rw [withP_len hlen']; omega, List.take_length] at hu
        have s3 : Same H2 (upd H2 t3 (.tup [.str (K2.S (K2.wP vv)), .ref tu])) := same_upd nt3
        refine q _ _ (s'.trans (s2.trans s3)) ?_
        exact .tup (.inl (.inl upd_same)) (.cons (.str _) (.cons (.tup (.inl (.inl (s3 _ _ e2))) ((ts_same (s2.trans s3)).dps _ _ plw hu)) .nil))
    | row m c =>
      obtain ⟨y0, y1, rfl, hy0, hy1⟩ := K2.all2 hw
      obtain ⟨x0, c', rfl, rfl, h0, gc'⟩ := one c rfl
      have ey := K2.dInt hy0
      subst ey
      rw [show K2.S (K2.wd (.row m c)) = ("row" : Str) from rfl] at hs ⊢
      refine ifNi (by decide) (by decide) ⟨_, rfl, rfl, _, rfl, ifSY rfl ?_⟩
      refine ⟨_, rfl, .ref a, rfl, a, _, 1, .int m, rfl, rfl, hs, atI_nat (j := 1) rfl, .ref l, rfl, l, _, 0, x0, rfl, rfl, hl, atI_nat (j := 0) rfl, (by show 3 ≤ sizeLine; decide), fun t nt => ?_⟩
      exact q _ _ (same_upd nt) (.tup (.inl (.inl upd_same)) (.cons (.str _) (.cons (.int _) (.cons ((ts_new nt).dp _ _ (K2.pl_D c' gc').1 h0) .nil))))
    | one bb c =>
      obtain ⟨x0, c', rfl, rfl, h0, gc'⟩ := one c rfl
      have hl1 : 2 ≤ sizeLine := by decide
      cases bb with
      | true =>
        rw [show K2.S (K2.wd (.one true c)) = ("box" : Str) from rfl] at hs ⊢
        exact ifNi (by decide) (by decide) ⟨_, rfl, rfl, _, rfl, ifSN (by decide) ⟨_, rfl, rfl, _, rfl, ifSN (by decide) ⟨_, rfl, rfl, _, rfl, ifSY rfl ⟨_, rfl, .ref l, rfl, l, _, 0, x0, rfl, rfl, hl, atI_nat (j := 0) rfl, hl1, fun t nt => q _ _ (same_upd nt) (.tup (.inl (.inl upd_same)) (.cons (.str _) (.cons ((ts_new nt).dp _ _ (K2.pl_D c' gc').1 h0) .nil)))⟩⟩⟩⟩
      | false =>
        rw [show K2.S (K2.wd (.one false c)) = ("maybe" : Str) from rfl] at hs ⊢
        exact ifNi (by decide) (by decide) ⟨_, rfl, rfl, _, rfl, ifSN (by decide) ⟨_, rfl, rfl, _, rfl, ifSY rfl ⟨_, rfl, .ref l, rfl, l, _, 0, x0, rfl, rfl, hl, atI_nat (j := 0) rfl, hl1, fun t nt => q _ _ (same_upd nt) (.tup (.inl (.inl upd_same)) (.cons (.str _) (.cons ((ts_new nt).dp _ _ (K2.pl_D c' gc').1 h0) .nil)))⟩⟩⟩
    | use n fs =>
      obtain ⟨y0, y1, rfl, hy0, hy1⟩ := K2.all2 hw
      have ey := K2.dStr hy0
      subst ey
      rw [show K2.S (K2.wd (.use n fs)) = ("use" : Str) from rfl] at hs ⊢
      refine ifNi (by decide) (by decide) ⟨_, rfl, rfl, _, rfl, ifSN (by decide) ⟨_, rfl, rfl, _, rfl, ifSN (by decide) ⟨_, rfl, rfl, _, rfl, ifSN (by decide) ⟨_, rfl, rfl, _, rfl, ifSY rfl ?_⟩⟩⟩⟩
      refine ⟨_, rfl, .ref a, rfl, a, _, 1, .str n, rfl, rfl, hs, atI_nat (j := 1) rfl, .ref l, rfl, l, _, rfl, .inl ⟨hl, fun tu ntu => ?_⟩⟩
      have s2 : Same H (upd H tu (.tup xs)) := same_upd ntu
      have e2 : (upd H tu (.tup xs)) tu = some (.tup xs) := upd_same
      generalize upd H tu (HO.tup xs) = H2 at s2 e2 ⊢
      refine ⟨(by show 3 ≤ sizeLine; decide), fun t3 nt3 => ?_⟩
      have s3 : Same H2 (upd H2 t3 (.tup [.str "use", .str n, .ref tu])) := same_upd nt3
      refine q _ _ (s2.trans s3) (.tup (.inl (.inl upd_same)) (.cons (.str _) (.cons (.str _) (.cons (.tup (.inl (.inl (s3 _ _ e2))) ?_) .nil))))
      rw [ksL_map]
      exact dps_same (s2.trans s3) hx gc
    | num i b =>
      cases i with
      | true =>
        rw [show K2.S (K2.wd (.num true b)) = ("int" : Str) from rfl] at hs ⊢
        exact ifNi (by decide) (by decide) ⟨_, rfl, rfl, _, rfl, ifSN (by decide) ⟨_, rfl, rfl, _, rfl, ifSN (by decide) ⟨_, rfl, rfl, _, rfl, ifSN (by decide) ⟨_, rfl, rfl, _, rfl, ifSN (by decide) ⟨_, rfl, idk rfl⟩⟩⟩⟩⟩
      | false =>
        rw [show K2.S (K2.wd (.num false b)) = ("nat" : Str) from rfl] at hs ⊢
        exact ifNi (by decide) (by decide) ⟨_, rfl, rfl, _, rfl, ifSN (by decide) ⟨_, rfl, rfl, _, rfl, ifSN (by decide) ⟨_, rfl, rfl, _, rfl, ifSN (by decide) ⟨_, rfl, rfl, _, rfl, ifSN (by decide) ⟨_, rfl, idk rfl⟩⟩⟩⟩⟩
    | truth =>
      rw [show K2.S (K2.wd .truth) = ("truth" : Str) from rfl] at hs ⊢
      exact ifNi (by decide) (by decide) ⟨_, rfl, rfl, _, rfl, ifSN (by decide) ⟨_, rfl, rfl, _, rfl, ifSN (by decide) ⟨_, rfl, rfl, _, rfl, ifSN (by decide) ⟨_, rfl, rfl, _, rfl, ifSN (by decide) ⟨_, rfl, idk rfl⟩⟩⟩⟩⟩
    | hole n =>
      rw [show K2.S (K2.wd (.hole n)) = ("hole" : Str) from rfl] at hs ⊢
      exact ifNi (by decide) (by decide) ⟨_, rfl, rfl, _, rfl, ifSN (by decide) ⟨_, rfl, rfl, _, rfl, ifSN (by decide) ⟨_, rfl, rfl, _, rfl, ifSN (by decide) ⟨_, rfl, rfl, _, rfl, ifSN (by decide) ⟨_, rfl, idk rfl⟩⟩⟩⟩⟩
end
end K3
namespace K3
open PySem PySem.Spec PyProof.Rows L2 K1
open K2 (Kd Ps Ks toD psD ksD good fm fmP fmK dpt dptP dptK innerK withK kidsP kidsK withP ksL getP getK sub)
section
variable {P : Program} {w : World} {K : PySem.W.Frag} {mg : Str → Option Value} {base : Heap}
/-- a dict of fills -/
def FillAt (K : PySem.W.Frag) (H : Hp) (kvs : List (Key × V)) (σ : Str → Option Kd) : Prop := ∀ m e, σ m = some e → ∃ v, valV kvs (Sum.inr m) = some v ∧ Dp K H v (toD e) ∧ good e
theorem FillAt.same {H H' : Hp} {kvs : List (Key × V)} {σ : Str → Option Kd} (f : FillAt K H kvs σ) (s : Same H H') : FillAt K H' kvs σ := fun m e h => by
  obtain ⟨v, h1, h2, h3⟩ := f m e h
  exact ⟨v, h1, (ts_same s).dp _ _ (K2.pl_D e h3).1 h2, h3⟩
def sp_filled (K : PySem.W.Frag) (n : Nat) : Sp := fun vs H Q _ => ∃ (v : V) (fd : Addr) (k : Kd) (kvs : List (Key × V)) (σ : Str → Option Kd) (hs : List (Str × Nat)) (ho : List Str), vs = [v, .ref fd] ∧ Dp K H v (toD k) ∧ K2.wf hs ho k ∧ (∀ m ∈ ho, ∃ e, σ m = some e) ∧ dpt k ≤ n ∧ fm k ≤ 100000 ∧ H fd = some (.dK kvs) ∧ FillAt K H kvs σ ∧
  ∀ r H', Same H H' → Dp K H' r (toD (sub σ k)) → good (sub σ k) → Q r H'
theorem nv_filled {vs : List V} {H : Hp} {Q : VK} {E : XK} (h : sp_filled K 0 vs H Q E) : False := by
  obtain ⟨v, fd, k, kvs, σ, hs, ho, _, _, _, _, h1, _⟩ := h
  have := K2.dpt_pos k
  omega
theorem ok_filled {f : Addr} {fd : FuncData} (F : Fun K "filled" "filled" s_filled f fd) (g_self : mg "filled" = some (.ref f)) (b_self : Binds K fd pm_filled []) (C_with_inner : Cal P w K mg base "with_inner" pm_with_inner 1 (sp_with_inner K)) (C_inner_kinds : Cal P w K mg base "inner_kinds" pm_inner_kinds 1 (sp_inner_kinds K)) : ∀ n : Nat, FnOk P w K mg base CX0 (n + 1 + 1) f fd pm_filled (sp_filled K n) := by
  obtain ⟨f_with_inner, fd_with_inner, G_with_inner, g_with_inner, k_with_inner, b_with_inner⟩ := C_with_inner.ex
  obtain ⟨f_inner_kinds, fd_inner_kinds, G_inner_kinds, g_inner_kinds, k_inner_kinds, b_inner_kinds⟩ := C_inner_kinds.ex
  intro n
  induction n with
  | zero => exact F.ok sc_filled (fun vs H Q E h => (nv_filled h).elim) (fun cdv A outer s H vs Q E hr h => (nv_filled h).elim)
  | succ n ih =>
  refine F.ok sc_filled (fun vs H Q E h => ?_) (fun cdv A outer s H vs Q E hr h => ?_)
  · obtain ⟨v, fd, k, kvs, σ, hs, ho, rfl, _⟩ := h
    rfl
  · obtain ⟨v, fd, k, kvs, σ, hs, ho, rfl, hv, hwf, hσ, hd, hfm, hfd, hfl, q⟩ := h
    refine ⟨_, pss_cons (ps_if (pt_cmpR op_eq (pe_ix ix_tup (pv 0) pe_int (fun _ _ => rfl)) pe_str (nomark _))
      (pss_one (ps_ret (pe_dget (hu_of hr) (pv 1) (pe_ix ix_tup (pv 0) pe_int (fun _ _ => rfl)) (fun _ _ => rfl)))) pss_nil)
      (pss_one (ps_ret (pe_call G_with_inner (hr.mono (by omega)) (by rfl) g_with_inner k_with_inner b_with_inner .nil pass0 (pa_cons (pv 0) (pa_cons (pe_lc (own := [("each", 2)]) (g := gName 2) (tt := tYes) rfl sc_filled.nd (pi_tup (pe_call G_inner_kinds (hr.mono (by omega)) (by rfl) g_inner_kinds k_inner_kinds b_inner_kinds .nil pass0 (pa_cons (pv 0) pa_nil))) (blkOk_by (N := nm_filled) (sc := defScope s_filled) (by decide +kernel)) (fun _ _ _ _ _ => pg_name (i := 2) sc_filled.nd rfl (Or.inl rfl)) (fun _ _ _ _ _ => pts_nil) (fun _ _ _ _ _ => (pe_call ih (hr.mono (by omega)) (by rfl) g_self F.kp b_self .nil pass0 (pa_cons (pv 2) (pa_cons (pv 1) pa_nil))))) pa_nil))))), ?_⟩
    have g := K2.wf_good k hwf
    obtain ⟨a, ws, rfl, hs0, hw⟩ := K2.dk hv
    refine ⟨.ref a, rfl, a, _, 0, .str (K2.S (K2.wd k)), rfl, rfl, hs0, atI_nat (j := 0) rfl, rfl, _, rfl, ?_⟩
    by_cases hh : ∃ m, k = .hole m
    · obtain ⟨m, rfl⟩ := hh
      obtain ⟨y0, rfl, hy0⟩ := K2.all1 hw
      have ey := K2.dStr hy0
      subst ey
      obtain ⟨e, he⟩ := hσ m hwf.2
      obtain ⟨fv, f1, f2, f3⟩ := hfl m e he
      rw [show K2.S (K2.wd (.hole m)) = ("hole" : Str) from rfl] at hs0 ⊢
      refine ifSY rfl ?_
      have es : sub σ (.hole m) = e := by simp only [sub, he, Option.getD_some]
      refine ⟨.ref fd, rfl, .ref a, rfl, a, _, 1, .str m, rfl, rfl, hs0, atI_nat (j := 1) rfl, fd, fv, rfl, by rw [← f1]; exact DGet.k (k := Sum.inr m) hfd, ?_⟩
      exact q fv H (Same.refl _) (by rw [es]; exact f2) (by rw [es]; exact f3)
    · have nh : ∀ m, k ≠ .hole m := fun m e => hh ⟨m, e⟩
      have nw : K2.S (K2.wd k) ≠ ("hole" : Str) := by
        cases k with
        | num i b => cases i <;> exact (by decide : (K2.S "nat" ≠ ("hole" : Str)) ∧ (K2.S "int" ≠ ("hole" : Str))) |>.elim (fun a b => by first | exact a | exact b)
        | truth => exact (by decide : K2.S "truth" ≠ ("hole" : Str))
        | parts v ps => cases v <;> exact (by decide : (K2.S "record" ≠ ("hole" : Str)) ∧ (K2.S "variant" ≠ ("hole" : Str))) |>.elim (fun a b => by first | exact a | exact b)
        | row m c => exact (by decide : K2.S "row" ≠ ("hole" : Str))
        | one b c => cases b <;> exact (by decide : (K2.S "maybe" ≠ ("hole" : Str)) ∧ (K2.S "box" ≠ ("hole" : Str))) |>.elim (fun a b => by first | exact a | exact b)
        | use n fs => exact (by decide : K2.S "use" ≠ ("hole" : Str))
        | hole m => exact absurd rfl (nh m)
      refine ifSN nw ?_
      refine ⟨.ref a, rfl, .ref a, rfl, .ref a, k, rfl, hv, g, hfm, fun r1 H1 s1 d1 => ?_⟩
      obtain ⟨ia, xs, rfl, hxs, hx⟩ := dp_tup d1
      have hxl := dpAll_len hx
      rw [List.length_map] at hxl
      have hk1 := (ts_same s1).dp _ _ (K2.pl_D k g).1 hv
      have hil : (innerK k).length ≤ 100000 := by
        have : (innerK k).length ≤ fm k := by
          cases k with
          | parts v ps =>
            have := len_fmP ps
            have h2 : (innerK (.parts v ps)).length = (psD ps).length := (K2.kidsP_ok ps).1
            rw [h2]; simp only [fm]; omega
          | use n fs =>
            have := len_fmK fs
            have h2 : (innerK (.use n fs)).length = (ksD fs).length := (K2.kidsK_ok fs).1
            rw [h2]; simp only [fm]; omega
          | _ => simp [innerK, fm]
        omega
      refine ⟨ia, rfl, ⟨_, hxs⟩, fun D hD => lc_tup (xs := xs) (fun i H' => ∃ us, H' D = some (.lst us) ∧ us.length = i ∧ DpAll K H' us ((((innerK k).take i).map (sub σ)).map toD) ∧ (∀ c ∈ (innerK k).take i, good (sub σ c)) ∧ Same H1 H')
        ⟨[], upd_same, rfl, by rw [List.take_zero]; exact .nil, by simp, same_upd hD⟩ (fun i H' _ hp => ?_) (fun i x H' hxi hp => ?_) (fun H' hp => ?_)⟩
      · obtain ⟨_, _, _, _, _, s'⟩ := hp
        exact ts_same s' _ _ hxs
      · obtain ⟨us, eD, el, hu, hgu, s'⟩ := hp
        have hi : i < xs.length := (List.getElem?_eq_some_iff.mp hxi).1
        obtain ⟨d, ed, hdx⟩ := dpAll_get hx hxi
        obtain ⟨c, ec, rfl⟩ := map_get ed
        have hc := K2.innerK_ok k c (List.mem_of_getElem? ec)
        have gc : good c := hc.2.2 g
        refine ⟨rfl, ?_⟩
        dsimp only [tYes]
        refine iteT ?_
        refine ⟨x, rfl, .ref fd, rfl, x, fd, c, kvs, σ, hs, ho, rfl, (ts_same s').dp _ _ (K2.pl_D c gc).1 hdx, K2.innerK_wf k hwf c (List.mem_of_getElem? ec), hσ, by omega, by omega, s' _ _ (s1 _ _ hfd), hfl.same (s1.trans s'), fun r2 H2 s2 d2 g2 => ?_⟩
        have eD2 := s2 _ _ eD
        have tl := ts_lst (K := K) (ys := us ++ [r2]) eD2
        refine ⟨us, eD2, ?_, us ++ [r2], upd_same, by rw [List.length_append, el]; rfl, ?_, ?_, fun b o e => by rw [upd_ne (ne_of_none e hD)]; exact s2 _ _ (s' b o e)⟩
        · exact Nat.lt_of_le_of_lt (show us.length ≤ 100000 by omega) (by decide)
        · rw [List.take_add_one, ec, List.map_append, List.map_append]
          have gg : ∀ c ∈ ((innerK k).take i).map (sub σ), good c := fun c hc => by
            obtain ⟨c', hc', rfl⟩ := List.mem_map.mp hc
            exact hgu c' hc'
          exact dpAll_append (((ts_same s2).trans tl).dps _ _ (goodA gg) hu) (.cons (tl.dp _ _ (K2.pl_D _ g2).1 d2) .nil)
        · rw [List.take_add_one, ec]
          intro c' hc'
          rcases List.mem_append.mp hc' with h | h
          · exact hgu c' h
          · rw [Option.toList_some, List.mem_singleton] at h
            rw [h]
            exact g2
      · obtain ⟨us, eD, el, hu, hgu, s'⟩ := hp
        have et : (innerK k).take xs.length = innerK k := List.take_of_length_le (by omega)
        rw [et] at hu hgu
        have gg : ∀ c ∈ (innerK k).map (sub σ), good c := fun c hc => by
          obtain ⟨c', hc', rfl⟩ := List.mem_map.mp hc
          exact hgu c' hc'
        refine ⟨.ref a, D, k, (innerK k).map (sub σ), us, rfl, (ts_same s').dp _ _ (K2.pl_D k g).1 hk1, g, hfm, .inl (.inl eD), hu, gg, by rw [List.length_map], fun r H2 s2 d2 => ?_⟩
        rw [K2.withK_sub k nh] at d2
        exact q r H2 (s1.trans (s'.trans s2)) d2 (K2.good_sub (fun m e h => (hfl m e h).choose_spec.2.2) k g)
end
end K3
namespace K3
open PySem PySem.Spec PyProof.Rows L2 K1
open K2 (Kd Ps Ks toD psD ksD good fm fmP fmK dpt dptP dptK innerK withK kidsP kidsK withP ksL getP getK sub Dc bookD okB rowD hdsB bodyK partsK fillOf)
abbrev s_body_of : Stmt := topS 42
abbrev nm_body_of : List Str := ["book", "use", "holes", "kind", "row"]
abbrev pm_body_of : List Str := ["book", "use"]
theorem sc_body_of : FnScope nm_body_of pm_body_of (defScope s_body_of) := ⟨rfl, rfl, rfl, by decide +kernel, rfl, by decide +kernel, by decide +kernel⟩
abbrev s_parts_of : Stmt := topS 43
abbrev nm_parts_of : List Str := ["book", "kind"]
abbrev pm_parts_of : List Str := ["book", "kind"]
theorem sc_parts_of : FnScope nm_parts_of pm_parts_of (defScope s_parts_of) := ⟨rfl, rfl, rfl, by decide +kernel, rfl, by decide +kernel, by decide +kernel⟩
theorem rowOk_of {hs : List (Str × Nat)} {r : Dc} (h : K2.okDc hs r) : K2.RowOk (rowD r) := ⟨r.name, r.holes, toD r.kd, rfl, K2.nm_nameS h.nm, h.len⟩
theorem nameO_row (r : Dc) : K2.nameO (rowD r) = r.name := rfl
theorem kdO_row (r : Dc) : K2.kdO (rowD r) = toD r.kd := rfl
theorem map_getB {B : List Dc} {i : Nat} {d : PyData} (h : (B.map rowD)[i]? = some d) : ∃ r, B[i]? = some r ∧ d = rowD r := by
  rw [List.getElem?_map] at h
  cases e : B[i]? with
  | none => rw [e] at h; cases h
  | some c => rw [e] at h; exact ⟨c, rfl, (Option.some.inj h).symm⟩
theorem eqv_str (x y : Str) : PyData.eqv (.str x) (.str y) = decide (x = y) := by
  by_cases h : x = y
  · subst h; simp [PyData.eqv]
  · simp [PyData.eqv, h]
/-- the dict of holes and fills -/
theorem valV_zip : ∀ {ho : List Str} {us : List V} {i : Nat} {m : Str} {v : V}, ho.Nodup → ho[i]? = some m → us[i]? = some v → valV ((ho.map Sum.inr : List Key).zip us) (Sum.inr m) = some v
  | h :: ho, u :: us, 0, m, v, _, e1, e2 => by
    simp at e1 e2
    rw [List.map_cons, List.zip_cons_cons, valV_pos (by rw [e1]), e2]
  | h :: ho, u :: us, i + 1, m, v, nd, e1, e2 => by
    have nd' := List.nodup_cons.mp nd
    have hm : m ∈ ho := List.mem_of_getElem? (by simpa using e1)
    rw [List.map_cons, List.zip_cons_cons, valV_neg (fun z => nd'.1 (by rw [Sum.inr.inj z]; exact hm))]
    exact valV_zip nd'.2 (by simpa using e1) (by simpa using e2)
  | [], _, _, _, _, _, e1, _ => by simp at e1
  | _ :: _, [], _, _, _, _, _, e2 => by simp at e2
theorem merge_zip : ∀ {ks : List Key} {us : List V} {acc : List (Key × V)}, ks.Nodup → (∀ p ∈ acc, p.1 ∉ ks) → mergeK acc (ks.zip us) = acc ++ ks.zip us
  | [], _, acc, _, _ => by simp [mergeK]
  | k :: ks, [], acc, _, _ => by simp [mergeK]
  | k :: ks, u :: us, acc, nd, h => by
    have nd' := List.nodup_cons.mp nd
    have e : mergeK acc ((k, u) :: ks.zip us) = mergeK (putK acc k u) (ks.zip us) := rfl
    rw [List.zip_cons_cons, e, K2.putK_new (fun p hp z => h p hp (by rw [z]; exact List.mem_cons_self)), merge_zip nd'.2 (fun p hp => ?_), List.append_assoc]
    · rfl
    · rcases List.mem_append.mp hp with hp | hp
      · exact fun z => h p hp (List.mem_cons_of_mem _ z)
      · rw [List.mem_singleton.mp hp]
        exact nd'.1
theorem inr_nodup {ho : List Str} (h : ho.Nodup) : (ho.map Sum.inr : List Key).Nodup := by
  induction ho with
  | nil => exact List.nodup_nil
  | cons x xs ih =>
    have h' := List.nodup_cons.mp h
    rw [List.map_cons]
    refine List.nodup_cons.mpr ⟨fun z => ?_, ih h'.2⟩
    obtain ⟨y, hy, e⟩ := List.mem_map.mp z
    exact h'.1 (by rw [← Sum.inr.inj e]; exact hy)
theorem filter_find {p : Dc → Bool} : ∀ {B : List Dc} {r : Dc}, B.find? p = some r → ∃ t, B.filter p = r :: t
  | b :: B, r, h => by
    by_cases c : p b = true
    · rw [List.find?_cons_of_pos c] at h
      exact ⟨B.filter p, by rw [List.filter_cons_of_pos c, Option.some.inj h]⟩
    · rw [List.find?_cons_of_neg c] at h
      obtain ⟨t, e⟩ := filter_find h
      exact ⟨t, by rw [List.filter_cons_of_neg c, e]⟩
section
variable {P : Program} {w : World} {K : PySem.W.Frag} {mg : Str → Option Value} {base : Heap}
/-- (holes, kind) of a declaration -/
def Pr2 (K : PySem.W.Frag) (H : Hp) (v : V) (r : Dc) : Prop := ∃ (t ho : Addr) (kv : V), v = .ref t ∧ SqT K H t [.ref ho, kv] ∧ SqT K H ho (r.holes.map V.str) ∧ Dp K H kv (toD r.kd) ∧ good r.kd
theorem Pr2.ts {H H' : Hp} {v : V} {r : Dc} (s : TS K H H') (h : Pr2 K H v r) : Pr2 K H' v r := by
  obtain ⟨t, ho, kv, e, h1, h2, h3, h4⟩ := h
  exact ⟨t, ho, kv, e, s _ _ h1, s _ _ h2, s.dp _ _ (K2.pl_D _ h4).1 h3, h4⟩
def sp_body_of (K : PySem.W.Frag) : Sp := fun vs H Q _ => ∃ (b : Addr) (v : V) (B : List Dc) (n : Str) (fs : Ks), vs = [.ref b, v] ∧ Dp K H (.ref b) (bookD B) ∧ okB B ∧ Dp K H v (toD (.use n fs)) ∧ K2.wf (hdsB B) [] (.use n fs) ∧
  ∀ r H', Same H H' → Dp K H' r (toD (bodyK B n (kidsK fs))) → good (bodyK B n (kidsK fs)) → Q r H'
theorem ok_body_of {f : Addr} {fd : FuncData} (F : Fun K "body_of" "body_of" s_body_of f fd) (C_filled : Cal P w K mg base "filled" pm_filled 10 (sp_filled K 8)) (m_dict : mg "dict" = none) (m_zip : mg "zip" = none) : FnOk P w K mg base CX0 11 f fd pm_body_of (sp_body_of K) := by
  obtain ⟨f_filled, fd_filled, G_filled, g_filled, k_filled, b_filled⟩ := C_filled.ex
  refine F.ok sc_body_of (fun vs H Q E h => ?_) (fun cdv A outer s H vs Q E hr h => ?_)
  · obtain ⟨b, v, B, n, fs, rfl, _⟩ := h
    rfl
  · obtain ⟨b, v, B, n, fs, rfl, hb, hB, hv, hwf, q⟩ := h
    have rm : ∀ {j : Nat}, j ≤ 10 → Room j (A.deeper (envOfC "body_of" (defScope s_body_of) s.heap.objs.size f cdv)) := fun hj => hr.mono hj
    refine ⟨_, pss_cons (ps_asg (pe_ix ix_list (pe_lc (own := [("row", 4)]) (g := gName 4) rfl sc_body_of.nd (pi_tup (pv 0)) (blkOk_by (N := nm_body_of) (sc := defScope s_body_of) (by decide +kernel)) (fun _ _ _ _ _ => pg_name (i := 4) sc_body_of.nd rfl (Or.inl rfl)) (fun _ _ _ _ _ => (pts_one (pt_cmpR op_eq (pe_ix (show IxR _ (rIxT K) from ix_tup) (pv 4) pe_int (fun _ _ => rfl)) (pe_ix (show IxR _ (rIxT K) from ix_tup) (pv 1) pe_int (fun _ _ => rfl)) (nomark _)))) (fun _ _ _ _ _ => (pe_tup (pa_cons (pe_ix (show IxR _ (rIxT K) from ix_tup) (pv 4) pe_int (fun _ _ => rfl)) (pa_cons (pe_ix (show IxR _ (rIxT K) from ix_tup) (pv 4) pe_int (fun _ _ => rfl)) pa_nil))))) pe_int (fun _ _ => rfl)) (pg_tup (by rfl) (pgs_cons (pg_name (i := 2) sc_body_of.nd rfl (.inl rfl)) (pgs_cons (pg_name (i := 3) sc_body_of.nd rfl (.inl rfl)) pgs_nil))))
      (pss_one (ps_ret (pe_call G_filled (rm (by decide)) (by rfl) g_filled k_filled b_filled .nil pass0 (pa_cons (pv 3) (pa_cons (DZ.pe_dictZip rfl (by rfl) m_dict (by rfl) m_zip (pa_cons (pv 2) (pa_cons (pe_ix ix_tup (pv 1) pe_int (fun _ _ => rfl)) pa_nil))) pa_nil))))), ?_⟩
    obtain ⟨b', xs, eb, hs, hx⟩ := dp_tup hb
    cases eb
    obtain ⟨a, ws, rfl, hs0, hw⟩ := K2.dk hv
    obtain ⟨y0, y1, rfl, hy0, hy1⟩ := K2.all2 hw
    have ey := K2.dStr hy0
    subst ey
    have gf : K2.goodK fs := (K2.wf_good _ hwf).2
    obtain ⟨ua, us, rfl, hus, hu⟩ := K2.dTup hy1
    obtain ⟨r0, hr0, hfind, hrn, ro, hrl, hbk, hw2, _, _⟩ := K2.body_ok hB hwf (F := fm (.use n fs) + 1) (D := dpt (.use n fs)) (fun c hc => by have := ((K2.kidsK_ok fs).2 c hc).2.1; simp only [fm]; omega) (by omega) (fun c hc => by have := ((K2.kidsK_ok fs).2 c hc).1; simp only [dpt]; omega)
    have hxl := dpAll_len hx
    rw [List.length_map] at hxl
    have plB : plA (B.map rowD) = true := K2.pl_rows hB.row
    refine ⟨.ref b, rfl, b, rfl, ⟨_, hs⟩, fun D hD => lc_tup (xs := xs) (fun i H' => ∃ vs', H' D = some (.lst vs') ∧ vs'.length ≤ i ∧ Paired (Pr2 K H') vs' ((B.take i).filter fun r => decide (r.name = n)) ∧ Same H H')
      ⟨[], upd_same, Nat.le_refl _, by rw [List.take_zero]; exact .nil, same_upd hD⟩ (fun i H' _ hp => ?_) (fun i x H' hxi hp => ?_) (fun H' hp => ?_)⟩
    · obtain ⟨_, _, _, _, s'⟩ := hp
      exact ts_same s' _ _ hs
    · obtain ⟨vs', eD, el, hpr, s'⟩ := hp
      have hi : i < xs.length := (List.getElem?_eq_some_iff.mp hxi).1
      obtain ⟨d, ed, hd⟩ := dpAll_get hx hxi
      obtain ⟨r, er, rfl⟩ := map_getB ed
      have hro := hB.row r (List.mem_of_getElem? er)
      have pr : pl (rowD r) = true := plA_mem plB (List.mem_of_getElem? ed)
      obtain ⟨t, ho, kv, rfl, h1, h2, h3, h4⟩ := K2.row_at ((ts_same s').dp _ _ pr hd) (rowOk_of hro)
      rw [nameO_row] at h1
      rw [K2.holesO_row] at h2
      rw [kdO_row] at h3
      have et : (B.take (i + 1)).filter (fun r => decide (r.name = n)) = (B.take i).filter (fun r => decide (r.name = n)) ++ (if r.name = n then [r] else []) := by
        rw [List.take_add_one, er, List.filter_append]
        congr 1
        by_cases c : r.name = n
        · simp [c]
        · simp [c]
      refine ⟨rfl, ?_⟩
      refine ⟨.ref t, rfl, t, _, 0, .str r.name, rfl, rfl, h1, atI_nat (j := 0) rfl, .ref a, rfl, a, _, 1, .str n, rfl, rfl, ts_same s' _ _ hs0, atI_nat (j := 1) rfl, rfl, _, rfl, ?_⟩
      by_cases c : r.name = n
      · refine ifSY c ?_
        refine iteT (B := ∃ vs'', H' D = some (.lst vs'') ∧ vs''.length ≤ i + 1 ∧ Paired (Pr2 K H') vs'' ((B.take (i + 1)).filter fun r => decide (r.name = n)) ∧ Same H H') ?_
        refine ⟨.ref t, rfl, t, _, 1, .ref ho, rfl, rfl, h1, atI_nat (j := 1) rfl, .ref t, rfl, t, _, 2, kv, rfl, rfl, h1, atI_nat (j := 2) rfl, (by show 2 ≤ sizeLine; decide), fun t2 nt2 => ?_⟩
        have s3 : Same H' (upd H' t2 (.tup [.ref ho, kv])) := same_upd nt2
        have e3 : (upd H' t2 (.tup [.ref ho, kv])) t2 = some (.tup [.ref ho, kv]) := upd_same
        generalize upd H' t2 (HO.tup [.ref ho, kv]) = H3 at s3 e3 ⊢
        have eD3 := s3 _ _ eD
        have tl := ts_lst (K := K) (ys := vs' ++ [.ref t2]) eD3
        refine ⟨vs', eD3, ?_, vs' ++ [.ref t2], upd_same, by rw [List.length_append]; show vs'.length + 1 ≤ i + 1; omega, ?_, fun b o e => by rw [upd_ne (ne_of_none e hD)]; exact s3 _ _ (s' b o e)⟩
        · exact Nat.lt_of_le_of_lt (show vs'.length ≤ 12 by have := hB.len; omega) (by decide)
        · rw [et, if_pos c]
          refine paired_append (Paired.mapP hpr fun _ _ z => z.ts ((ts_same s3).trans tl)) (.cons ⟨t2, ho, kv, rfl, tl _ _ (.inl (.inl e3)), tl _ _ (ts_same s3 _ _ h2), ((ts_same s3).trans tl).dp _ _ (K2.pl_D _ (K2.wf_good _ hro.w)).1 h3, K2.wf_good _ hro.w⟩ .nil)
      · refine ifSN c ?_
        rw [et, if_neg c, List.append_nil]
        exact ⟨vs', eD, by omega, hpr, s'⟩
    · obtain ⟨vs', eD, el, hpr, s'⟩ := hp
      rw [hxl, List.take_length] at hpr
      obtain ⟨tl0, ef⟩ := filter_find hfind
      rw [ef] at hpr
      obtain ⟨v0, vr, rfl, hp0⟩ : ∃ v0 vr, vs' = v0 :: vr ∧ Pr2 K H' v0 r0 := by
        cases hpr with
        | cons h _ => exact ⟨_, _, rfl, h⟩
      obtain ⟨t, ho, kv, rfl, h1, h2, h3, h4⟩ := hp0
      refine ⟨D, _, 0, .ref t, rfl, rfl, .inl (.inl eD), atI_nat (j := 0) rfl, ?_⟩
      refine ⟨t, [.ref ho, kv], rfl, h1, rfl, .ref ho, [kv], rfl, kv, [], rfl, rfl, ?_⟩
      have hus' := ts_same s' _ _ hus
      rw [ksD_map] at hu
      have hul := dpAll_len hu
      rw [List.length_map] at hul
      have gk : ∀ c ∈ kidsK fs, good c := fun c hc => ((K2.kidsK_ok fs).2 c hc).2.2 gf
      refine ⟨kv, rfl, .ref ho, rfl, .ref a, rfl, a, _, 2, .ref ua, rfl, rfl, ts_same s' _ _ hs0, atI_nat (j := 2) rfl, ho, ua, r0.holes.map Sum.inr, us, rfl, by rw [List.map_map]; exact h2, hus', by rw [List.length_map]; omega, fun p np => ?_⟩
      have em : mergeK [] ((r0.holes.map Sum.inr : List Key).zip us) = (r0.holes.map Sum.inr : List Key).zip us := by
        rw [merge_zip (acc := []) (inr_nodup ro.nd) (fun p h => absurd h List.not_mem_nil), List.nil_append]
      rw [em]
      have s3 : Same H' (upd H' p (.dK ((r0.holes.map Sum.inr : List Key).zip us))) := same_upd np
      have e3 : (upd H' p (.dK ((r0.holes.map Sum.inr : List Key).zip us))) p = some (.dK ((r0.holes.map Sum.inr : List Key).zip us)) := upd_same
      generalize upd H' p (HO.dK ((r0.holes.map Sum.inr : List Key).zip us)) = H3 at s3 e3 ⊢
      have hu3 := dps_same (s'.trans s3) hu gk
      refine ⟨kv, p, r0.kd, _, fillOf r0.holes (kidsK fs), hdsB B, r0.holes, rfl, (ts_same s3).dp _ _ (K2.pl_D _ h4).1 h3, ro.w, fun m hm => K2.fillOf_some hrl hm, ro.d, by have := ro.f; omega, e3, fun m e he => ?_, fun r H4 s4 d4 g4 => ?_⟩
      · have hm : m ∈ r0.holes := by
          by_cases c : m ∈ r0.holes
          · exact c
          · rw [K2.fillOf_none c] at he; cases he
        obtain ⟨i, hi⟩ := List.mem_iff_getElem?.mp hm
        have hil : i < r0.holes.length := (List.getElem?_eq_some_iff.mp hi).1
        have hf : (kidsK fs)[i]? = some (kidsK fs)[i] := List.getElem?_eq_getElem (by omega)
        have e2 := K2.fillOf_get ro.nd hi hf
        rw [e2] at he
        obtain rfl := Option.some.inj he
        have hv : us[i]? = some us[i] := List.getElem?_eq_getElem (by omega)
        obtain ⟨d, ed, hd⟩ := dpAll_get hu3 hv
        rw [List.getElem?_map, hf] at ed
        obtain rfl := Option.some.inj ed
        exact ⟨us[i], valV_zip ro.nd hi hv, hd, gk _ (List.getElem_mem _)⟩
      · rw [← hbk] at d4 g4
        exact q r H4 (s'.trans (s3.trans s4)) d4 g4
end
end K3
namespace K3
open PySem PySem.Spec PyProof.Rows L2 K1
open K2 (Kd Ps Ks toD psD ksD good fm fmP fmK dpt dptP dptK innerK withK kidsP kidsK withP ksL getP getK sub Dc bookD okB rowD hdsB bodyK partsK fillOf)
theorem okN {n : Str} (h : K2.Nm n) : okD (.str n) = true := decide_eq_true (by have := K2.nm_len h; omega)
mutual
theorem okD_D : ∀ k, good k → okD (toD k) = true
  | .num i b, _ => by
    show (okD (.str (K2.S (K2.wN i))) && (true && true)) = true
    cases i <;> decide
  | .truth, _ => by decide
  | .parts v ps, g => by
    have h := okD_P ps g
    show (okD (.str (K2.S (K2.wP v))) && (okA (psD ps) && true)) = true
    rw [h]
    cases v <;> decide
  | .row m k, g => by
    have h := okD_D k g.2
    show (okD (.str (K2.S "row")) && (true && (okD (toD k) && true))) = true
    rw [h]
    decide
  | .one b k, g => by
    have h := okD_D k g
    show (okD (.str (K2.S (K2.wO b))) && (okD (toD k) && true)) = true
    rw [h]
    cases b <;> decide
  | .use n fs, g => by
    have h := okD_K fs g.2
    show (okD (.str (K2.S "use")) && (okD (.str n) && (okA (ksD fs) && true))) = true
    rw [h, okN g.1]
    decide
  | .hole n, g => by
    show (okD (.str (K2.S "hole")) && (okD (.str n) && true)) = true
    rw [okN g]
    decide
  termination_by structural k => k
theorem okD_P : ∀ ps, K2.goodP ps → okA (psD ps) = true
  | .nil, _ => rfl
  | .cons n k ps, g => by
    have h1 := okD_D k g.2.1
    have h2 := okD_P ps g.2.2
    show ((okD (.str n) && (okD (toD k) && true)) && okA (psD ps)) = true
    rw [h1, h2, okN g.1]
    rfl
  termination_by structural ps => ps
theorem okD_K : ∀ ks, K2.goodK ks → okA (ksD ks) = true
  | .nil, _ => rfl
  | .cons k ks, g => by
    have h1 := okD_D k g.1
    have h2 := okD_K ks g.2
    show (okD (toD k) && okA (ksD ks)) = true
    rw [h1, h2]
    rfl
  termination_by structural ks => ks
end
theorem okA_strs : ∀ {hs : List Str}, (∀ h ∈ hs, K2.Nm h) → okA (hs.map PyData.str) = true
  | [], _ => rfl
  | h :: hs, g => by
    show (okD (.str h) && okA (hs.map PyData.str)) = true
    rw [okN (g h List.mem_cons_self), okA_strs fun x hx => g x (List.mem_cons_of_mem _ hx)]
    rfl
theorem okA_rows {hs : List (Str × Nat)} : ∀ {B : List Dc}, (∀ r ∈ B, K2.okDc hs r) → okA (B.map rowD) = true
  | [], _ => rfl
  | r :: B, h => by
    have ro := h r List.mem_cons_self
    show ((okD (.str r.name) && (okA (r.holes.map PyData.str) && (okD (toD r.kd) && true))) && okA (B.map rowD)) = true
    rw [okA_rows fun x hx => h x (List.mem_cons_of_mem _ hx), okD_D r.kd (K2.wf_good _ ro.w), okN ro.nm, okA_strs ro.hn]
    rfl
theorem kf_ok {hs : List (Str × Nat)} {k : Kd} (h : K2.wf hs [] k) (h1 : fm k ≤ 40) (h2 : dpt k ≤ 8) : (kfM hs [] 10 (toD k) [] 1 0).2 = none := by
  rw [K2.kfM_wf k h 10 [] 1 0 (by omega) (by omega) (by omega)]
theorem ifQN {x : V} {p q : Prop} (h : q) : if (!decide (x = x)) = true then p else q := by
  rw [decide_eq_true rfl]
  exact iteF h
theorem ifQY {x y : V} {p q : Prop} (ne : x ≠ y) (h : p) : if (!decide (x = y)) = true then p else q := by
  rw [decide_eq_false ne]
  exact iteT h
section
variable {P : Program} {w : World} {K : PySem.W.Frag} {mg : Str → Option Value} {base : Heap}
def sp_parts_of (K : PySem.W.Frag) : Sp := fun vs H Q _ => ∃ (b : Addr) (v : V) (B : List Dc) (k : Kd), vs = [.ref b, v] ∧ Dp K H (.ref b) (bookD B) ∧ okB B ∧ Dp K H v (toD k) ∧ K2.wf (hdsB B) [] k ∧ fm k ≤ 100000 ∧
  ∀ r H', Same H H' → Dp K H' r (.tuple ((partsK B k).map toD)) → (∀ c ∈ partsK B k, good c) → Q r H'
theorem wd_use {k : Kd} (h : ∀ n fs, k ≠ .use n fs) : K2.S (K2.wd k) ≠ ("use" : Str) := by
  cases k with
  | num i b => show K2.S (K2.wN i) ≠ ("use" : Str); cases i <;> decide
  | truth => exact (by decide : K2.S "truth" ≠ ("use" : Str))
  | parts v ps => show K2.S (K2.wP v) ≠ ("use" : Str); cases v <;> decide
  | row m c => exact (by decide : K2.S "row" ≠ ("use" : Str))
  | one b c => show K2.S (K2.wO b) ≠ ("use" : Str); cases b <;> decide
  | use n fs => exact absurd rfl (h n fs)
  | hole m => exact (by decide : K2.S "hole" ≠ ("use" : Str))
theorem partsK_not {B : List Dc} {k : Kd} (h : ∀ n fs, k ≠ .use n fs) : partsK B k = innerK k := by
  cases k with
  | use n fs => exact absurd rfl (h n fs)
  | _ => rfl
theorem ok_parts_of {f : Addr} {fd : FuncData} (F : Fun K "parts_of" "parts_of" s_parts_of f fd) (C_inner_kinds : Cal P w K mg base "inner_kinds" pm_inner_kinds 1 (sp_inner_kinds K)) (C_body_of : Cal P w K mg base "body_of" pm_body_of 11 (sp_body_of K)) : FnOk P w K mg base CX0 12 f fd pm_parts_of (sp_parts_of K) := by
  obtain ⟨f_inner_kinds, fd_inner_kinds, G_inner_kinds, g_inner_kinds, k_inner_kinds, b_inner_kinds⟩ := C_inner_kinds.ex
  obtain ⟨f_body_of, fd_body_of, G_body_of, g_body_of, k_body_of, b_body_of⟩ := C_body_of.ex
  refine F.ok sc_parts_of (fun vs H Q E h => ?_) (fun cdv A outer s H vs Q E hr h => ?_)
  · obtain ⟨b, v, B, k, rfl, _⟩ := h
    rfl
  · obtain ⟨b, v, B, k, rfl, hb, hB, hv, hwf, hfm, q⟩ := h
    have rm : ∀ {j : Nat}, j ≤ 11 → Room j (A.deeper (envOfC "parts_of" (defScope s_parts_of) s.heap.objs.size f cdv)) := fun hj => hr.mono hj
    refine ⟨_, pss_cons (ps_if (pt_cmpR op_eq (pe_ix ix_tup (pv 1) pe_int (fun _ _ => rfl)) pe_str (nomark _))
      (pss_one (ps_ret (pe_tup (pa_cons (pe_call G_body_of (rm (by decide)) (by rfl) g_body_of k_body_of b_body_of .nil pass0 (pa_cons (pv 0) (pa_cons (pv 1) pa_nil))) pa_nil)))) pss_nil)
      (pss_one (ps_ret (pe_call G_inner_kinds (rm (by decide)) (by rfl) g_inner_kinds k_inner_kinds b_inner_kinds .nil pass0 (pa_cons (pv 1) pa_nil)))), ?_⟩
    have g := K2.wf_good k hwf
    obtain ⟨a, ws, rfl, hs0, hw⟩ := K2.dk hv
    refine ⟨.ref a, rfl, a, _, 0, .str (K2.S (K2.wd k)), rfl, rfl, hs0, atI_nat (j := 0) rfl, rfl, _, rfl, ?_⟩
    by_cases hh : ∃ n fs, k = .use n fs
    · obtain ⟨n, fs, rfl⟩ := hh
      rw [show K2.S (K2.wd (.use n fs)) = ("use" : Str) from rfl] at hs0 ⊢
      refine ifSY rfl ⟨.ref b, rfl, .ref a, rfl, b, .ref a, B, n, fs, rfl, hb, hB, hv, hwf, fun r H1 s1 d1 g1 => ⟨(by show 1 ≤ sizeLine; decide), fun t nt => ?_⟩⟩
      exact q _ _ (s1.trans (same_upd nt)) (.tup (.inl (.inl upd_same)) (.cons ((ts_new nt).dp _ _ (K2.pl_D _ g1).1 d1) .nil)) (fun c hc => by rw [List.mem_singleton.mp hc]; exact g1)
    · have nu : ∀ n fs, k ≠ .use n fs := fun n fs e => hh ⟨n, fs, e⟩
      refine ifSN (wd_use nu) ⟨.ref a, rfl, .ref a, k, rfl, hv, g, hfm, fun r H1 s1 d1 => ?_⟩
      rw [partsK_not nu] at q
      exact q r H1 s1 d1 fun c hc => (K2.innerK_ok k c hc).2.2 g
end
end K3
namespace K2
open PySem PySem.Spec PyProof.Rows L2 K1 K3
abbrev s__law_deck : Stmt := topS 50
abbrev nm__law_deck : List Str := ["_law_script", "_law_cells", "_law_cell"]
abbrev pm__law_deck : List Str := ["_law_script"]
theorem sc__law_deck : FnScope nm__law_deck pm__law_deck (defScope s__law_deck) := ⟨rfl, rfl, rfl, by decide +kernel, rfl, by decide +kernel, by decide +kernel⟩
abbrev s__law_pick : Stmt := topS 51
abbrev nm__law_pick : List Str := ["_law_deck_here", "_law_many", "_law_cells", "_law_drawn", "_law_left", "_law_at", "_law_digit", "_law_low", "_law_high"]
abbrev pm__law_pick : List Str := ["_law_deck_here", "_law_many"]
theorem sc__law_pick : FnScope nm__law_pick pm__law_pick (defScope s__law_pick) := ⟨rfl, rfl, rfl, by decide +kernel, rfl, by decide +kernel, by decide +kernel⟩
section
variable {P : Program} {w : World} {K : PySem.W.Frag} {mg : Str → Option Value} {base : Heap}
def sp__law_pick : Sp := fun vs H Q _ => ∃ (dk cl lf : Addr) (m : Int), vs = [.ref dk, .int m] ∧ Dk H dk cl lf ∧ 0 < m ∧ m.natAbs.log2 < 9000 ∧
  ∀ (d : Int) (H' : Hp), 0 ≤ d → d < m → Dk H' dk cl lf → KD dk lf H H' → Q (.int d) H'
def sp__law_deck (K : PySem.W.Frag) : Sp := fun vs H Q _ => ∃ (a : Addr) (ns : List Int), vs = [.ref a] ∧ SqL K H a (ns.map V.int) ∧ ns.length ≤ 63 ∧
  ∀ (dk cl lf : Addr) (H' : Hp), Dk H' dk cl lf → Same H H' → H dk = none → H lf = none → Q (.ref dk) H'
theorem ok__law_pick {f : Addr} {fd : FuncData} (F : Fun K "_law_pick" "_law_pick" s__law_pick f fd) (m_len : mg "len" = none) : FnOk P w K mg base CX0 1 f fd pm__law_pick sp__law_pick := by
  refine F.ok sc__law_pick (fun vs H Q E h => ?_) (fun cdv A outer s H vs Q E hr h => ?_)
  · obtain ⟨dk, cl, lf, m, rfl, _⟩ := h
    rfl
  · obtain ⟨dk, cl, lf, m, rfl, ⟨⟨cells, lefts, n, e1, e2, e3, hlen, hpos, hmx, hn⟩, hne⟩, hm, hm2, q⟩ := h
    refine ⟨_, pss_cons (ps_asg (pv 0) (pg_unl rfl (pgs_cons (pg_name (i := 2) sc__law_pick.nd rfl (.inl rfl)) (pgs_cons (pg_name (i := 3) sc__law_pick.nd rfl (.inl rfl)) (pgs_cons (pg_name (i := 4) sc__law_pick.nd rfl (.inl rfl)) pgs_nil)))))
      (pss_cons (ps_set (i := 5) sc__law_pick.nd rfl (.inl rfl) (pe_op op_mod (pv 3) (pe_callB call_len_seq (by rfl) m_len PySem.boot_len (pa_cons (pv 2) pa_nil))))
      (pss_cons (ps_asg (pe_op op_add (pv 3) pe_int) (pg_sub (pv 0) pe_int set_list))
      (pss_cons (ps_if (pt_cmpR op_gt (pe_ix ix_list (pv 4) (pv 5) (fun _ _ => rfl)) pe_int (nomark _))
      (pss_cons (ps_set (i := 6) sc__law_pick.nd rfl (.inl rfl) (pe_op op_mod (pe_ix ix_list (pv 4) (pv 5) (fun _ _ => rfl)) (pv 1)))
      (pss_cons (ps_asg (pe_op op_fdivW (pe_ix ix_list (pv 4) (pv 5) (fun _ _ => rfl)) (pv 1)) (pg_sub (pv 4) (pv 5) set_list))
      (pss_one (ps_ret (pv 6))))) pss_nil)
      (pss_cons (ps_set (i := 7) sc__law_pick.nd rfl (.inl rfl) (pe_op op_mod (pe_op op_mul (pe_op op_add (pe_op op_mod (pe_ix ix_list (pv 2) (pv 5) (fun _ _ => rfl)) pe_int) pe_int) (pe_op op_add (pe_op op_add (pe_op op_mul pe_int (pv 3)) pe_int) (pv 5))) pe_int))
      (pss_cons (ps_set (i := 8) sc__law_pick.nd rfl (.inl rfl) (pe_op op_add (pe_op op_mod (pe_op op_fdivW (pe_ix ix_list (pv 2) (pv 5) (fun _ _ => rfl)) pe_int) pe_int) pe_int))
      (pss_cons (ps_set (i := 8) sc__law_pick.nd rfl (.inl rfl) (pe_op op_mod (pe_op op_mul (pv 8) (pe_op op_add pe_int (pe_op op_mul pe_int (pv 3)))) pe_int))
      (pss_cons (ps_set (i := 7) sc__law_pick.nd rfl (.inl rfl) (pe_op op_mod (pe_op op_add (pe_op op_add (pe_op op_mul (pv 7) (pv 7)) (pe_op op_mul pe_int (pv 8))) (pv 3)) pe_int))
      (pss_cons (ps_set (i := 8) sc__law_pick.nd rfl (.inl rfl) (pe_op op_mod (pe_op op_add (pe_op op_add (pe_op op_mul (pv 8) (pv 8)) (pe_op op_mul pe_int (pv 7))) (pv 5)) pe_int))
      (pss_one (ps_ret (pe_op op_mod (pe_op op_mod (pe_op op_add (pe_op op_mul (pv 7) pe_int) (pv 8)) pe_int) (pv 1)))))))))))), ?_⟩
    have hS1 : SqL K H dk [.ref cl, .int n, .ref lf] := .inl (.inl e1)
    have hS2 : SqL K H cl (cells.map V.int) := .inl (.inl e2)
    refine ⟨.ref dk, rfl, dk, _, rfl, hS1, rfl, _, _, rfl, _, _, rfl, _, _, rfl, rfl, ?_⟩
    refine ⟨.int n, rfl, .ref cl, rfl, cl, _, rfl, .inl hS2, n, (cells.map V.int).length, rfl, rfl, ?_, ?_⟩
    · show (0 : Int) < ((cells.map V.int).length : Nat)
      rw [List.length_map]
      omega
    · have hlm : (cells.map V.int).length = cells.length := List.length_map ..
      obtain ⟨j, hj, ej⟩ : ∃ j : Nat, j < cells.length ∧ n % (((cells.map V.int).length : Nat) : Int) = (j : Int) := by
        have hb := emod_bounds n (m := ((cells.map V.int).length : Nat)) (by rw [hlm]; omega)
        rw [hlm] at hb ⊢
        exact ⟨(n % (cells.length : Int)).toNat, by omega, by omega⟩
      have eat : ((fun i j => V.int (i % j)) n (((cells.map V.int).length : Nat) : Int)) = V.int (j : Int) := congrArg V.int ej
      rw [eat]
      have hj2 : j < lefts.length := by omega
      have gc : (cells.map V.int)[j]? = some (.int cells[j]) := by rw [List.getElem?_map, List.getElem?_eq_getElem hj]; rfl
      have gl : (lefts.map V.int)[j]? = some (.int lefts[j]) := by rw [List.getElem?_map, List.getElem?_eq_getElem hj2]; rfl
      have nd1 : cl ≠ dk := ne_of e2 e1 (fun z => by
        injection z with z
        cases cells with
        | nil => simp at hpos
        | cons c r => simp at z)
      have nd2 : lf ≠ dk := ne_of e3 e1 (fun z => by
        injection z with z
        cases lefts with
        | nil => simp at hj2
        | cons c r => simp at z)
      refine ⟨.int n, rfl, n, 1, rfl, rfl, .ref dk, rfl, dk, _, 1, 1, rfl, rfl, e1, rfl, ?_⟩
      generalize hH1 : upd H dk (HO.lst ([V.ref cl, V.int n, V.ref lf].set 1 (V.int (n + 1)))) = H1
      have f1 : H1 dk = some (.lst [.ref cl, .int (n + 1), .ref lf]) := by rw [← hH1, upd_same]; rfl
      have f2 : H1 cl = some (.lst (cells.map V.int)) := by rw [← hH1, upd_ne nd1]; exact e2
      have f3 : H1 lf = some (.lst (lefts.map V.int)) := by rw [← hH1, upd_ne nd2]; exact e3
      have k1 : KD dk lf H H1 := fun b o n1 n2 e => by rw [← hH1, upd_ne n1]; exact e
      have D1 : Dk H1 dk cl lf := ⟨⟨cells, lefts, n + 1, f1, f2, f3, hlen, hpos, hmx, by omega⟩, hne⟩
      have sl : SqL K H1 lf (lefts.map V.int) := .inl (.inl f3)
      have sc : SqL K H1 cl (cells.map V.int) := .inl (.inl f2)
      refine ⟨.ref lf, rfl, .int j, rfl, lf, _, _, _, rfl, rfl, sl, atI_nat gl, _, _, rfl, rfl, _, rfl, ite2 (fun _ => ?_) (fun _ => ?_)⟩
      · refine ⟨.ref lf, rfl, .int j, rfl, lf, _, _, _, rfl, rfl, sl, atI_nat gl, .int m, rfl, _, _, rfl, rfl, hm, ?_⟩
        refine ⟨.ref lf, rfl, .int j, rfl, lf, _, _, _, rfl, rfl, sl, atI_nat gl, .int m, rfl, _, _, rfl, rfl, ⟨hm, hm2⟩, .ref lf, rfl, .int j, rfl, lf, _, j, j, rfl, rfl, f3, ?_, ?_⟩
        · rw [List.length_map]
          unfold ixN
          rw [if_pos (by omega), if_pos (by omega)]
          simp
        · refine ⟨_, rfl, q _ _ (Int.emod_nonneg _ (by omega)) (Int.emod_lt_of_pos _ hm) ⟨⟨cells, lefts.set j (lefts[j] / m), n + 1, ?_, ?_, ?_, ?_, hpos, hmx, by omega⟩, hne⟩ ?_⟩
          · rw [upd_ne nd2.symm]; exact f1
          · rw [upd_ne hne]; exact f2
          · rw [upd_same, List.map_set]
          · rw [List.length_set]; exact hlen
          · intro b o n1 n2 e
            rw [upd_ne n2]
            exact k1 b o n1 n2 e
      · have c1 := emod_bounds cells[j] (m := 2147483647) (by decide)
        refine ⟨.ref cl, rfl, .int j, rfl, cl, _, _, _, rfl, rfl, sc, atI_nat gc, _, _, rfl, rfl, (by show (0 : Int) < 2147483647; decide), _, _, rfl, rfl, .int n, rfl, _, _, rfl, rfl, .inl ⟨by decide, by decide⟩, _, _, rfl, rfl, .int j, rfl, _, _, rfl, rfl, _, _, rfl, rfl, .inl ⟨by omega, by omega⟩, _, _, rfl, rfl, (by show (0 : Int) < 2147483629; decide), ?_⟩
        dsimp only
        generalize h1 : (cells[j] % 2147483647 + 1) * (1299709 * n + 15485863 + (j : Int)) % 2147483629 = low1
        have b1 : 0 ≤ low1 ∧ low1 < 2147483629 := by rw [← h1]; exact emod_bounds _ (by decide)
        refine ⟨.ref cl, rfl, .int j, rfl, cl, _, _, _, rfl, rfl, sc, atI_nat gc, _, _, rfl, rfl, ⟨by decide, by decide⟩, _, _, rfl, rfl, (by show (0 : Int) < 2147483647; decide), _, _, rfl, rfl, ?_⟩
        dsimp only
        generalize h2 : cells[j] / 2147483647 % 2147483647 + 3 = high1
        have b2 : 0 ≤ high1 ∧ high1 < 2147483660 := by
          have := emod_bounds (cells[j] / 2147483647) (m := 2147483647) (by decide)
          omega
        refine ⟨.int high1, rfl, .int n, rfl, _, _, rfl, rfl, .inl ⟨by decide, by decide⟩, _, _, rfl, rfl, _, _, rfl, rfl, .inl ⟨by omega, by omega⟩, _, _, rfl, rfl, (by show (0 : Int) < 2147483587; decide), ?_⟩
        dsimp only
        generalize h3 : high1 * (49979687 + 86028121 * n) % 2147483587 = high2
        have b3 : 0 ≤ high2 ∧ high2 < 2147483587 := by rw [← h3]; exact emod_bounds _ (by decide)
        refine ⟨.int low1, rfl, .int low1, rfl, _, _, rfl, rfl, .inl ⟨by omega, by omega⟩, .int high2, rfl, _, _, rfl, rfl, .inl ⟨by decide, by decide⟩, _, _, rfl, rfl, .int n, rfl, _, _, rfl, rfl, _, _, rfl, rfl, (by show (0 : Int) < 2147483579; decide), ?_⟩
        dsimp only
        generalize h4 : (low1 * low1 + 32452843 * high2 + n) % 2147483579 = low2
        have b4 : 0 ≤ low2 ∧ low2 < 2147483579 := by rw [← h4]; exact emod_bounds _ (by decide)
        refine ⟨.int high2, rfl, .int high2, rfl, _, _, rfl, rfl, .inl ⟨by omega, by omega⟩, .int low2, rfl, _, _, rfl, rfl, .inl ⟨by decide, by decide⟩, _, _, rfl, rfl, .int j, rfl, _, _, rfl, rfl, _, _, rfl, rfl, (by show (0 : Int) < 2147483563; decide), ?_⟩
        dsimp only
        generalize h5 : (high2 * high2 + 67867967 * low2 + (j : Int)) % 2147483563 = high3
        refine ⟨.int low2, rfl, _, _, rfl, rfl, .inl ⟨by omega, by omega⟩, .int high3, rfl, _, _, rfl, rfl, _, _, rfl, rfl, (by show (0 : Int) < 4611686018427387847; decide), .int m, rfl, _, _, rfl, rfl, hm, ?_⟩
        exact q _ _ (Int.emod_nonneg _ (by omega)) (Int.emod_lt_of_pos _ hm) D1 k1
theorem ok__law_deck {f : Addr} {fd : FuncData} (F : Fun K "_law_deck" "_law_deck" s__law_deck f fd) (m_list : mg "list" = none) (m_int : mg "int" = none) (m_len : mg "len" = none) : FnOk P w K mg base CX0 1 f fd pm__law_deck (sp__law_deck K) := by
  refine F.ok sc__law_deck (fun vs H Q E h => ?_) (fun cdv A outer s H vs Q E hr h => ?_)
  · obtain ⟨a, ns, rfl, _⟩ := h
    rfl
  · obtain ⟨a, ns, rfl, hS, hlen, q⟩ := h
    refine ⟨_, pss_cons (ps_set (i := 1) sc__law_deck.nd rfl (.inl rfl) (pe_op op_cat (pe_callTy call_list_of (by rfl) m_list (by decide +kernel) (pa_cons (pe_slice sl_list (pv 0) po_none (po_some pe_int)) pa_nil)) (pe_op op_rep (pe_lst (pa_cons pe_int pa_nil)) (pe_callTy call_int1 (by rfl) m_int (by decide +kernel) (pa_cons (pe_cmpR op_eq (pe_callB call_len_seq (by rfl) m_len PySem.boot_len (pa_cons (pv 0) pa_nil)) pe_int (nomark _)) pa_nil)))))
      (pss_one (ps_ret (pe_lst (pa_cons (pv 1) (pa_cons pe_int (pa_cons (pe_lc (own := [("_law_cell", 2)]) (g := gName 2) (tt := tYes) rfl sc__law_deck.nd (pi_list (pv 1)) (blkOk_by (N := nm__law_deck) (sc := defScope s__law_deck) (by decide +kernel)) (fun _ _ _ _ _ => pg_name (i := 2) sc__law_deck.nd rfl (Or.inl rfl)) (fun _ _ _ _ _ => pts_nil) (fun _ _ _ _ _ => (pe_op op_mul (pv 2) (pe_callTy call_int1 (by rfl) m_int (by decide +kernel) (pa_cons (pe_cmpR op_ge (pv 2) (pe_op op_pow pe_int pe_int) (nomark _)) pa_nil))))) pa_nil)))))), ?_⟩
    refine ⟨.ref a, rfl, 63, rfl, a, _, rfl, hS, fun c nc => ?_⟩
    rw [cut63 _ (by rw [List.length_map]; exact hlen)]
    generalize hH1 : upd H c (HO.lst (ns.map V.int)) = H1
    have s1 : Same H H1 := by rw [← hH1]; exact same_upd nc
    have c1 : H1 c = some (.lst (ns.map V.int)) := by rw [← hH1, upd_same]
    refine ⟨c, _, rfl, .inl (.inl (.inl c1)), fun l nl => ?_⟩
    generalize hH2 : upd H1 l (HO.lst (ns.map V.int)) = H2
    have s2 : Same H1 H2 := by rw [← hH2]; exact same_upd nl
    have c2 : H2 l = some (.lst (ns.map V.int)) := by rw [← hH2, upd_same]
    refine ⟨(by show 1 ≤ sizeLine; decide), fun z nz => ?_⟩
    generalize hH3 : upd H2 z (HO.lst [V.int 0]) = H3
    have s3 : Same H2 H3 := by rw [← hH3]; exact same_upd nz
    have c3 : H3 z = some (.lst [V.int 0]) := by rw [← hH3, upd_same]
    have s03 : Same H H3 := s1.trans (s2.trans s3)
    obtain ⟨kk, hkk, hkv⟩ : ∃ kk : Nat, kk ≤ 1 ∧ (if decide (V.int ((ns.map V.int).length : Nat) = V.int 0) = true then (1 : Int) else 0) = kk ∧ (ns = [] → kk = 1) := by
      by_cases e : ns = []
      · subst e; exact ⟨1, by omega, by simp, fun _ => rfl⟩
      · refine ⟨0, by omega, ?_, fun z => absurd z e⟩
        have : ¬ V.int ((ns.map V.int).length : Nat) = V.int 0 := fun z => e (by
          have z1 := V.int.inj z
          rw [List.length_map] at z1
          exact List.length_eq_zero_iff.mp (by omega))
        rw [decide_eq_false this]
        rfl
    refine ⟨.ref a, rfl, a, _, rfl, .inl (s03.seq hS), rfl, .inr ⟨_, rfl, ?_⟩⟩
    refine ⟨z, _, [V.int 0], rfl, rfl, c3, ?_, ?_, ?_, fun p np => ?_⟩
    · rw [hkv.1]; omega
    · rw [hkv.1]; omega
    · rw [hkv.1]
      show 1 * ((kk : Int)).toNat ≤ sizeLine
      exact Nat.le_trans (show 1 * ((kk : Int)).toNat ≤ 1 by omega) (by decide)
    rw [hkv.1]
    have hrep : (List.replicate ((kk : Int)).toNat [V.int 0]).flatten = (List.replicate kk (0 : Int)).map V.int := by
      rw [Int.toNat_natCast]
      rcases (show kk = 0 ∨ kk = 1 by omega) with e | e <;> (subst e; rfl)
    rw [hrep]
    generalize hH4 : upd H3 p (HO.lst ((List.replicate kk (0 : Int)).map V.int)) = H4
    have s4 : Same H3 H4 := by rw [← hH4]; exact same_upd np
    have c4 : H4 p = some (.lst ((List.replicate kk (0 : Int)).map V.int)) := by rw [← hH4, upd_same]
    refine ⟨l, p, _, _, rfl, rfl, s4 _ _ (s3 _ _ c2), c4, ?_, fun r nr => ?_⟩
    · rw [List.length_map, List.length_map, List.length_replicate]
      exact Nat.le_trans (show ns.length + kk ≤ 64 by omega) (by decide)
    rw [← List.map_append]
    generalize hcells : ns ++ List.replicate kk 0 = cells
    have hcl : 0 < cells.length ∧ cells.length ≤ 100 := by
      rw [← hcells, List.length_append, List.length_replicate]
      refine ⟨?_, by omega⟩
      cases ns with
      | nil => have := hkv.2 rfl; omega
      | cons x r => simp; omega
    generalize hH5 : upd H4 r (HO.lst (cells.map V.int)) = H5
    have s5 : Same H4 H5 := by rw [← hH5]; exact same_upd nr
    have c5 : H5 r = some (.lst (cells.map V.int)) := by rw [← hH5, upd_same]
    have s05 : Same H H5 := s03.trans (s4.trans s5)
    refine ⟨.ref r, rfl, .ref r, rfl, r, rfl, ⟨_, .inl (.inl c5)⟩, fun D hD => lc_list (xs := cells.map V.int) (fun i H' => ∃ lefts : List Int, lefts.length = i ∧ H' D = some (.lst (lefts.map V.int)) ∧ Same H5 H') ⟨[], rfl, upd_same, same_upd hD⟩
      (fun i H' _ hp => ?_) (fun i x H' hx hp => ?_) (fun H' hp => ?_)⟩
    · obtain ⟨_, _, _, sm⟩ := hp
      exact .inl (.inl (sm _ _ c5))
    · obtain ⟨lefts, el, eD, sm⟩ := hp
      obtain ⟨n, rfl⟩ : ∃ n, x = V.int n := by
        rw [List.getElem?_map] at hx
        cases h : cells[i]? with
        | none => rw [h] at hx; cases hx
        | some n => rw [h] at hx; exact ⟨n, (Option.some.inj hx).symm⟩
      have hi : i < cells.length := by
        have := (List.getElem?_eq_some_iff.mp hx).1
        rwa [List.length_map] at this
      refine ⟨rfl, ?_⟩
      refine iteT (B := ∃ lefts : List Int, lefts.length = i + 1 ∧ H' D = some (.lst (lefts.map V.int)) ∧ Same H5 H') ?_
      refine ⟨.int n, rfl, .int n, rfl, _, _, rfl, rfl, ⟨by decide, by decide, by decide⟩, _, _, rfl, rfl, .inr ⟨_, rfl, _, _, rfl, rfl, .inr ?_, ?_⟩⟩
      · constructor
        · split <;> decide
        · split <;> decide
      · refine ⟨_, eD, ?_, lefts ++ [n * (if decide (10 ^ Int.toNat 18 ≤ n) = true then 1 else 0)], ?_, ?_, ?_⟩
        · rw [List.length_map]
          exact Nat.lt_of_le_of_lt (show lefts.length ≤ 100 by omega) (by decide)
        · rw [List.length_append, el]; rfl
        · rw [upd_same, List.map_append]; rfl
        · intro b o e
          rw [upd_ne (ne_of_none e hD)]
          exact sm b o e
    · obtain ⟨lefts, el, eD, sm⟩ := hp
      refine ⟨(by show 3 ≤ sizeLine; decide), fun dk ndk => ?_⟩
      have eDr : r ≠ D := ne_of_none c5 hD
      refine q dk r D _ ⟨⟨cells, lefts, 0, upd_same, ?_, ?_, ?_, hcl.1, hcl.2, by omega⟩, eDr⟩ ?_ ?_ ?_
      · rw [upd_ne (ne_of_none (sm _ _ c5) ndk)]; exact sm _ _ c5
      · rw [upd_ne (ne_of_none eD ndk)]; exact eD
      · rw [el, List.length_map]
      · exact (s05.trans sm).trans (same_upd ndk)
      · exact (s05.trans sm).free ndk
      · exact s05.free hD
end
end K2
namespace K2
open PySem PySem.Spec PyProof.Rows L2 K1 K3
open TL (tl joinL)
/-! ### letters -/
abbrev sLet : Stmt := topS 53
theorem scLe : FnScope ["_law_deck_here", "_law_many", "_law_k"] ["_law_deck_here", "_law_many"] (defScope sLet) := ⟨rfl, rfl, rfl, by decide +kernel, rfl, by decide +kernel, by decide +kernel⟩
section
variable {P : Program} {w : World} {K : PySem.W.Frag} {mg : Str → Option Value} {base : Heap}
def spLet : Sp := fun vs H Q _ => ∃ (dk cl lf : Addr) (m : Int), vs = [.ref dk, .int m] ∧ Dk H dk cl lf ∧ 0 ≤ m ∧ m ≤ 100 ∧
  ∀ (y : Str) (H' : Hp), (∀ c ∈ tl y, letter c = true) → ((tl y).length : Int) = m → Dk H' dk cl lf → KD dk lf H H' → Q (.str y) H'
theorem ok_letters {f : Addr} {fd : FuncData} (F : Fun K "_law_letters" "_law_letters" sLet f fd) (CP : Cal P w K mg base "_law_pick" ["_law_deck_here", "_law_many"] 1 sp__law_pick) (mr : mg "range" = none) : FnOk P w K mg base CX0 2 f fd ["_law_deck_here", "_law_many"] spLet := by
  obtain ⟨fP, fdP, GP, gP, kP, bP⟩ := CP.ex
  refine F.ok scLe (fun vs H Q E h => ?_) (fun cdv A outer s H vs Q E hr h => ?_)
  · obtain ⟨dk, cl, lf, m, rfl, _⟩ := h
    rfl
  · obtain ⟨dk, cl, lf, m, rfl, D0, m0, m1, q⟩ := h
    refine ⟨_, pss_one (ps_ret (pe_join pe_str
        (pe_lc (own := [("_law_k", 2)]) (g := gName 2) (tt := tYes) rfl scLe.nd (pi_range1 (by rfl) mr (pa_cons (pv 1) pa_nil))
          (blkOk_by (N := ["_law_deck_here", "_law_many", "_law_k"]) (sc := defScope sLet) (by decide +kernel)) (fun _ _ _ _ _ => pg_name (i := 2) scLe.nd rfl (Or.inl rfl)) (fun _ _ _ _ _ => pts_nil)
          (fun _ _ _ _ _ => pe_ix ix_str pe_str (pe_call GP hr (by rfl) gP kP bP .nil pass0 (pa_cons (pv 0) (pa_cons pe_int pa_nil))) (fun _ _ => rfl))))), ?_⟩
    refine ⟨⟨_, rfl⟩, .int m, rfl, m, rfl, by omega, by omega, fun D hD => lc_range (lo := 0) (n := m.toNat) (fun i H' => ∃ ys : List Str, ys.length = i ∧ (∀ y ∈ ys, (∀ c ∈ tl y, letter c = true) ∧ (tl y).length = 1) ∧ H' D = some (.lst (ys.map V.str)) ∧ Dk H' dk cl lf ∧ KD dk lf H H')
      ⟨[], rfl, (fun _ h => nomatch h), upd_same, D0.same (same_upd hD), KD.of_same (same_upd hD)⟩ (fun i H' hi hp => ?_) (fun H' hp => ?_)⟩
    · obtain ⟨ys, el, hy, eD, DH, kH⟩ := hp
      refine ⟨rfl, ?_⟩
      refine iteT (B := ∃ ys : List Str, ys.length = i + 1 ∧ (∀ y ∈ ys, (∀ c ∈ tl y, letter c = true) ∧ (tl y).length = 1) ∧ H' D = some (.lst (ys.map V.str)) ∧ Dk H' dk cl lf ∧ KD dk lf H H') ?_
      refine ⟨.ref dk, rfl, dk, cl, lf, 26, rfl, DH, by decide, by decide +kernel, fun g H4 g0 g1 D4 k4 => ?_⟩
      have nD := D0.not hD
      have hg : g.toNat < (tl (S abc)).length := by rw [abc_len]; omega
      refine ⟨_, g, (tl (S abc))[g.toNat], rfl, rfl, (by decide +kernel : (S abc).length ≤ sizeLine), atI_of2 (by omega) (List.getElem?_eq_getElem hg), ?_⟩
      have eD4 : H4 D = some (.lst (ys.map V.str)) := k4 _ _ nD.1 nD.2.2 eD
      refine ⟨_, eD4, ?_, ys ++ [⟨#[(tl (S abc))[g.toNat]]⟩], ?_, ?_, ?_, D4.upd nD, ?_⟩
      · rw [List.length_map]
        exact Nat.lt_of_le_of_lt (show ys.length ≤ 100 by omega) (by decide)
      · rw [List.length_append, el]; rfl
      · intro y hy'
        rcases List.mem_append.mp hy' with z | z
        · exact hy y z
        · rw [List.mem_singleton.mp z]
          exact ⟨fun c hc => by rw [show c = (tl (S abc))[g.toNat] by simpa [tl] using hc]; exact abc_let _ (List.getElem_mem hg), rfl⟩
      · rw [upd_same, List.map_append]; rfl
      · intro b o n1 n2 e
        rw [upd_ne (ne_of_none e hD)]
        exact k4 b o n1 n2 (kH b o n1 n2 e)
    · obtain ⟨ys, el, hy, eD, DH, kH⟩ := hp
      have hsum : (ys.map (·.length)).sum = ys.length := by
        clear eD el
        induction ys with
        | nil => rfl
        | cons y r ih =>
          rw [List.map_cons, List.sum_cons, ih fun z hz => hy z (List.mem_cons_of_mem _ hz), TL.len_tl, (hy y List.mem_cons_self).2, List.length_cons]
          omega
      have hj := joinNil_let (ys.map tl) fun p hp => by
        obtain ⟨y, z, rfl⟩ := List.mem_map.mp hp
        exact hy y z
      have ej : tl (Txt.join (Str.ofString "") ys) = joinL [] (ys.map tl) := by
        rw [TL.join_eq, TL.tl_join]
        rfl
      rw [← ej] at hj
      refine ⟨_, D, ys, rfl, rfl, .inl (.inl (.inl eD)), ?_, q _ H' hj.1 ?_ DH kH⟩
      · rw [hsum]
        show ys.length + ys.length * 0 ≤ 16777216
        omega
      · rw [hj.2, List.length_map]
        omega
end
/-! ### names -/
abbrev sNames : Stmt := topS 54
abbrev nmNa : List Str := ["_law_deck_here", "_law_many", "_law_pool", "_law_stem", "_law_mark", "_law_near", "_law_found", "_law_k", "_law_letter", "_law_one"]
theorem scNa : FnScope nmNa ["_law_deck_here", "_law_many"] (defScope sNames) := ⟨rfl, rfl, rfl, by decide +kernel, rfl, by decide +kernel, by decide +kernel⟩
section
variable {P : Program} {w : World} {K : PySem.W.Frag} {mg : Str → Option Value} {base : Heap}
def spNames : Sp := fun vs H Q _ => ∃ (dk cl lf : Addr) (m : Int), vs = [.ref dk, .int m] ∧ Dk H dk cl lf ∧ 0 ≤ m ∧ m ≤ 20 ∧
  ∀ (p : Addr) (ns : List Str) (H' : Hp), (∀ n ∈ ns, Nm n) → ns.Nodup → (ns.length : Int) = m → H p = none → H' p = some (.lst (ns.map V.str)) → Dk H' dk cl lf → KD dk lf H H' → Q (.ref p) H'
/-- [pick(a), pick(b)][pick(4) // 3] -/
def tTwo (K : PySem.W.Frag) (i : Nat) (a b : Int) : TE := tOp (rIxL K) (tLst (tCons (tCall sp__law_pick [] E0 (tCons (tVar i) (tCons (tC (.int a)) tNil))) (tCons (tCall sp__law_pick [] E0 (tCons (tVar i) (tCons (tC (.int b)) tNil))) tNil)))
  (tOp (rI CDiv fun i j => .int (i / j)) (tCall sp__law_pick [] E0 (tCons (tVar i) (tCons (tC (.int 4)) tNil))) (tC (.int 3)))
theorem two_picks {σ : L2.St} {i : Nat} {H : Hp} {Q : VK} {dk cl lf : Addr} {a b : Int} (hσ : σ[i]? = some (some (.ref dk))) (D : Dk H dk cl lf) (ha : 0 < a ∧ a ≤ 100) (hb : 0 < b ∧ b ≤ 100) (q : ∀ (v : Int) (H' : Hp), 0 ≤ v → v < max a b → Dk H' dk cl lf → KD dk lf H H' → Q (.int v) H') : tTwo K i a b σ H Q := by
  have lg : ∀ z : Int, 0 < z ∧ z ≤ 100 → z.natAbs.log2 < 9000 := fun z hz => Nat.lt_trans (PySem.Flt.log2_lt_of (k := 7) (by decide) (by omega)) (by decide)
  refine ⟨.ref dk, hσ, dk, cl, lf, a, rfl, D, ha.1, lg a ha, fun x H1 x0 x1 D1 k1 => ?_⟩
  refine ⟨.ref dk, hσ, dk, cl, lf, b, rfl, D1, hb.1, lg b hb, fun y H2 y0 y1 D2 k2 => ?_⟩
  refine ⟨(by show 2 ≤ sizeLine; decide), fun ll nll => ?_⟩
  have s3 : Same H2 (upd H2 ll (.lst [.int x, .int y])) := same_upd nll
  have c3 : (upd H2 ll (.lst [.int x, .int y])) ll = some (.lst [.int x, .int y]) := upd_same
  generalize hH3 : upd H2 ll (HO.lst [.int x, .int y]) = H3 at s3 c3 ⊢
  have nD := D2.not nll
  refine ⟨.ref dk, hσ, dk, cl, lf, 4, rfl, D2.same s3, by decide, by decide +kernel, fun z H4 z0 z1 D4 k4 => ?_⟩
  refine ⟨_, _, rfl, rfl, ⟨by decide, by decide⟩, ?_⟩
  have c4 : H4 ll = some (.lst [.int x, .int y]) := k4 _ _ nD.1 nD.2.2 c3
  have kk : KD dk lf H H4 := (k1.trans k2).trans ((KD.of_same s3).trans k4)
  rcases (show z / 3 = 0 ∨ z / 3 = 1 by omega) with e | e
  · exact ⟨ll, _, z / 3, .int x, rfl, rfl, .inl (.inl c4), by rw [e]; rfl, q x H4 x0 (by omega) D4 kk⟩
  · exact ⟨ll, _, z / 3, .int y, rfl, rfl, .inl (.inl c4), by rw [e]; rfl, q y H4 y0 (by omega) D4 kk⟩
/-- how a name came, of which no letter is left -/
def From (stem : Str) (mark : Nat) (near : Bool) (cs : List Nat) (n : Str) : Prop := if near = true then ∃ c, c ∉ cs ∧ tl n = (tl stem).take mark ++ [c] ++ (tl stem).drop mark else 2 ≤ (tl n).length ∨ ∃ c, c ∉ cs ∧ tl n = [c]
theorem From.less {stem : Str} {mark : Nat} {near : Bool} {cs cs' : List Nat} {n : Str} (h : From stem mark near cs n) (hs : ∀ c ∈ cs', c ∈ cs) : From stem mark near cs' n := by
  unfold From at h ⊢
  cases near with
  | true =>
    obtain ⟨c, h1, h2⟩ := h
    exact ⟨c, fun z => h1 (hs c z), h2⟩
  | false =>
    rcases h with h | ⟨c, h1, h2⟩
    · exact .inl h
    · exact .inr ⟨c, fun z => h1 (hs c z), h2⟩
theorem abc_nodup : (tl (S abc)).Nodup := by decide +kernel
theorem erase_not {cs : List Nat} (h : cs.Nodup) {i : Nat} (hi : i < cs.length) : cs[i] ∉ cs.eraseIdx i := by
  intro z
  obtain ⟨j, hj, e⟩ := List.mem_eraseIdx_iff_getElem.mp z
  obtain ⟨e1, e2⟩ := e
  exact e1 ((List.getElem_inj h).mp e2)
/-- between two names -/
def WN (H : Hp) (dk cl lf po fo : Addr) (m : Int) (stem : Str) (mark : Nat) (near : Bool) (i : Nat) (σ : L2.St) (H' : Hp) : Prop :=
  ∃ (y7 y8 y9 : Option V) (cs : List Nat) (ns : List Str), σ = [some (.ref dk), some (.int m), some (.ref po), some (.str stem), some (.int mark), some (.bl near), some (.ref fo), y7, y8, y9] ∧
    H' po = some (.lst (cs.map sgn)) ∧ H' fo = some (.lst (ns.map V.str)) ∧ cs.length + i = 26 ∧ (∀ c ∈ cs, letter c = true) ∧ ns.length = i ∧ ((∀ n ∈ ns, Nm n) ∧ ns.Nodup ∧ cs.Nodup ∧ ∀ n ∈ ns, From stem mark near cs n) ∧ Dk H' dk cl lf ∧ KD dk lf H H'
theorem ok_names {f : Addr} {fd : FuncData} (F : Fun K "_law_names" "_law_names" sNames f fd) (CP : Cal P w K mg base "_law_pick" ["_law_deck_here", "_law_many"] 1 sp__law_pick) (CE : Cal P w K mg base "_law_letters" ["_law_deck_here", "_law_many"] 2 spLet)
    (mr : mg "range" = none) (ml : mg "len" = none) (mli : mg "list" = none) : FnOk P w K mg base CX0 3 f fd ["_law_deck_here", "_law_many"] spNames := by
  obtain ⟨fP, fdP, GP, gP, kP, bP⟩ := CP.ex
  obtain ⟨fE, fdE, GE, gE, kE, bE⟩ := CE.ex
  refine F.ok scNa (fun vs H Q E h => ?_) (fun cdv A outer s H vs Q E hr h => ?_)
  · obtain ⟨dk, cl, lf, m, rfl, _⟩ := h
    rfl
  · obtain ⟨dk, cl, lf, m, rfl, D0, m0, m1, q⟩ := h
    have hr1 : Room 1 (A.deeper (envOfC "_law_names" (defScope sNames) s.heap.objs.size f cdv)) := hr.mono (by omega)
    refine ⟨_, pss_cons (ps_set (i := 2) scNa.nd rfl (.inl rfl) (pe_callTy (call_list_txt rfl) (by rfl) mli (by decide +kernel) (pa_cons pe_str pa_nil)))
      (pss_cons (ps_set (i := 3) scNa.nd rfl (.inl rfl) (pe_call GE hr (by rfl) gE kE bE .nil pass0 (pa_cons (pv 0) (pa_cons (pe_ix ix_list (pe_lst (pa_cons (pe_call GP hr1 (by rfl) gP kP bP .nil pass0 (pa_cons (pv 0) (pa_cons pe_int pa_nil))) (pa_cons (pe_call GP hr1 (by rfl) gP kP bP .nil pass0 (pa_cons (pv 0) (pa_cons pe_int pa_nil))) pa_nil)))
          (pe_op op_fdiv (pe_call GP hr1 (by rfl) gP kP bP .nil pass0 (pa_cons (pv 0) (pa_cons pe_int pa_nil))) pe_int) (fun _ _ => rfl)) pa_nil))))
      (pss_cons (ps_set (i := 4) scNa.nd rfl (.inl rfl) (pe_call GP hr1 (by rfl) gP kP bP .nil pass0 (pa_cons (pv 0) (pa_cons (pe_op op_add (pe_callB call_len_str (by rfl) ml PySem.boot_len (pa_cons (pv 3) pa_nil)) pe_int) pa_nil))))
      (pss_cons (ps_set (i := 5) scNa.nd rfl (.inl rfl) (pe_cmpR op_eq (pe_call GP hr1 (by rfl) gP kP bP .nil pass0 (pa_cons (pv 0) (pa_cons pe_int pa_nil))) pe_int (nomark _)))
      (pss_cons (ps_set (i := 6) scNa.nd rfl (.inl rfl) (pe_lst pa_nil))
      (pss_cons (ps_for PassesOwn.never rfl (pi_range1 (by rfl) mr (pa_cons (pv 1) pa_nil)) (pg_name (i := 7) scNa.nd rfl (.inl rfl))
        (pss_cons (ps_set (i := 8) scNa.nd rfl (.inl rfl) (pe_bm PySem.F.plainAttrs_list PySem.F.slot_list_pop PySem.F.type_list_pop mt_popAt (pv 2) (pa_cons (pe_call GP hr1 (by rfl) gP kP bP .nil pass0 (pa_cons (pv 0) (pa_cons (pe_callB call_len_seq (by rfl) ml PySem.boot_len (pa_cons (pv 2) pa_nil)) pa_nil))) pa_nil)))
        (pss_cons (ps_set (i := 9) scNa.nd rfl (.inl rfl) (pe_op op_add_str (pe_op op_add_str (pe_slice sl_str (pv 3) po_none (po_some (pv 4))) (pv 8)) (pe_slice sl_str (pv 3) (po_some (pv 4)) po_none)))
        (pss_cons (ps_if (pt_not (pt_val (pv 5)))
          (pss_cons (ps_set (i := 9) scNa.nd rfl (.inl rfl) (pe_call GE hr (by rfl) gE kE bE .nil pass0 (pa_cons (pv 0) (pa_cons (pe_op op_add pe_int (pe_ix ix_list (pe_lst (pa_cons (pe_call GP hr1 (by rfl) gP kP bP .nil pass0 (pa_cons (pv 0) (pa_cons pe_int pa_nil))) (pa_cons (pe_call GP hr1 (by rfl) gP kP bP .nil pass0 (pa_cons (pv 0) (pa_cons pe_int pa_nil))) pa_nil)))
            (pe_op op_fdiv (pe_call GP hr1 (by rfl) gP kP bP .nil pass0 (pa_cons (pv 0) (pa_cons pe_int pa_nil))) pe_int) (fun _ _ => rfl))) pa_nil))))
          (pss_one (ps_if (pt_cmpR op_in_seq (pv 9) (pv 6) (by rfl)) (pss_one (ps_set (i := 9) scNa.nd rfl (.inl rfl) (pv 8))) pss_nil))) pss_nil)
        (pss_one (ps_expr (pe_bm PySem.F.plainAttrs_list PySem.F.slot_list_append PySem.F.type_list_append mt_append (pv 6) (pa_cons (pv 9) pa_nil))))))))
      (pss_one (ps_ret (pv 6)))))))), ?_⟩
    refine ⟨S abc, rfl, (by decide +kernel), fun po npo => ?_⟩
    have s1 : Same H (upd H po (.lst ((tl (S abc)).map sgn))) := same_upd npo
    have c1 : (upd H po (.lst ((tl (S abc)).map sgn))) po = some (.lst ((tl (S abc)).map sgn)) := upd_same
    generalize hH1 : upd H po (HO.lst ((tl (S abc)).map sgn)) = H1 at s1 c1 ⊢
    have D1 : Dk H1 dk cl lf := D0.same s1
    have npd := D0.not npo
    refine ⟨.ref dk, rfl, two_picks (dk := dk) (cl := cl) (lf := lf) rfl D1 ⟨by decide, by decide⟩ ⟨by decide, by decide⟩ fun v H2 v0 v1 D2 k2 => ?_⟩
    refine ⟨dk, cl, lf, v, rfl, D2, v0, by omega, fun stem H3 hst hsl D3 k3 => ?_⟩
    have hstl : (tl stem).length ≤ 11 := by omega
    refine ⟨.ref dk, rfl, .str stem, rfl, stem, rfl, fit (by omega), _, _, rfl, rfl, dk, cl, lf, _, rfl, D3, by omega, ?_, fun mk H4 mk0 mk1 D4 k4 => ?_⟩
    · have hz := TL.len_tl stem
      exact Nat.lt_trans (PySem.Flt.log2_lt_of (k := 7) (by decide) (by omega)) (by decide)
    obtain ⟨mark, rfl⟩ : ∃ mark : Nat, mk = (mark : Int) := ⟨mk.toNat, by omega⟩
    have hmark : mark ≤ (tl stem).length := by
      have hz := TL.len_tl stem
      omega
    refine ⟨.ref dk, rfl, dk, cl, lf, 2, rfl, D4, by decide, by decide +kernel, fun nr H5 _ _ D5 k5 => ?_⟩
    refine ⟨rfl, Nat.zero_le _, fun fo nfo => ?_⟩
    generalize decide (V.int nr = V.int 1) = near
    have k15 : KD dk lf H1 H5 := (k2.trans k3).trans (k4.trans k5)
    have c5 : H5 po = some (.lst ((tl (S abc)).map sgn)) := k15 _ _ npd.1 npd.2.2 c1
    have nfd := D5.not nfo
    have npf : po ≠ fo := ne_of_none c5 nfo
    have kall : KD dk lf H (upd H5 fo (.lst [])) := (KD.of_same s1).trans (k15.trans (KD.of_same (same_upd nfo)))
    have nfo0 : H fo = none := by
      cases e : H fo with
      | none => rfl
      | some o => rw [(KD.trans (KD.of_same s1) k15) fo o nfd.1 nfd.2.2 e] at nfo; cases nfo
    refine ⟨.int m, rfl, m, rfl, by omega, by omega, for_range (lo := 0) (n := m.toNat) (WN H dk cl lf po fo m stem mark near) ⟨none, none, none, tl (S abc), [], rfl, ?_, upd_same, by rw [abc_len], abc_let, rfl, ⟨(fun _ h => nomatch h), List.nodup_nil, abc_nodup, (fun _ h => nomatch h)⟩, D5.same (same_upd nfo), kall⟩ (fun i σ H' hi hP => ?_) (fun σ H' hP => ?_)⟩
    · rw [upd_ne npf]; exact c5
    · obtain ⟨y7, y8, y9, cs, ns, rfl, hpo, hfo, hcs, hlet, hns, ⟨hnm, hnd, hcd, hfr⟩, DH, kH⟩ := hP
      have hlc : (cs.map sgn).length = cs.length := List.length_map ..
      -- letter = pool.pop(pick)
      refine ⟨.ref po, rfl, .inl ⟨rfl, _, .inl (.inl hpo)⟩, .ref dk, rfl, .ref po, rfl, po, _, rfl, .inl (.inl (.inl hpo)), dk, cl, lf, _, rfl, DH, by rw [hlc]; omega, ?_, fun g H6 g0 g1 D6 k6 => ?_⟩
      · exact Nat.lt_trans (PySem.Flt.log2_lt_of (k := 7) (by decide) (by omega)) (by decide)
      rw [hlc] at g1
      have hpo6 : H6 po = some (.lst (cs.map sgn)) := k6 _ _ npd.1 npd.2.2 hpo
      have hfo6 : H6 fo = some (.lst (ns.map V.str)) := k6 _ _ nfd.1 nfd.2.2 hfo
      have hgl : g.toNat < cs.length := by omega
      refine ⟨po, _, g, g.toNat, sgn cs[g.toNat], rfl, rfl, hpo6, by omega, by omega, ?_, ?_, ?_⟩
      · unfold seqIndex?
        rw [hlc]
        simp
        omega
      · rw [List.getElem?_map, List.getElem?_eq_getElem hgl]; rfl
      have hl1 : letter cs[g.toNat] = true := hlet _ (List.getElem_mem hgl)
      have k7 : KD dk lf H6 (upd H6 po (.lst ((cs.map sgn).eraseIdx g.toNat))) → True := fun _ => True.intro
      generalize hH7 : upd H6 po (HO.lst ((cs.map sgn).eraseIdx g.toNat)) = H7
      have hpo7 : H7 po = some (.lst ((cs.eraseIdx g.toNat).map sgn)) := by rw [← hH7, upd_same, erase_map]
      have hfo7 : H7 fo = some (.lst (ns.map V.str)) := by rw [← hH7, upd_ne npf.symm]; exact hfo6
      have D7 : Dk H7 dk cl lf := by rw [← hH7]; exact D6.upd npd
      have kH7 : KD dk lf H H7 := fun b o n1 n2 e => by
        rw [← hH7, upd_ne (ne_of_none e npo)]
        exact k6 b o n1 n2 (kH b o n1 n2 e)
      have hcs7 : (cs.eraseIdx g.toNat).length + (i + 1) = 26 := by rw [List.length_eraseIdx_of_lt hgl]; omega
      have hlet7 : ∀ c ∈ cs.eraseIdx g.toNat, letter c = true := fun c hc => hlet c (List.mem_of_mem_eraseIdx hc)
      generalize hLet : (⟨#[cs[g.toNat]]⟩ : Str) = lt
      have tlt : tl lt = [cs[g.toNat]] := by rw [← hLet]
      have nlt : Nm lt := ⟨fun c hc => by rw [tlt] at hc; rw [List.mem_singleton.mp hc]; exact hl1, by rw [tlt]; simp, by rw [tlt]; simp⟩
      have hsg : sgn cs[g.toNat] = .str lt := by rw [← hLet]; rfl
      rw [hsg]
      obtain ⟨ct1, ct2⟩ := cut_both stem mark hmark
      -- one = stem[:mark] + letter + stem[mark:]
      have hfit := Nat.le_trans (show (tl stem).length ≤ 1000000 by omega) (Nat.le_refl _)
      refine ⟨.str stem, rfl, .int mark, rfl, (mark : Int), rfl, stem, rfl, fit hfit, .str lt, rfl, _, _, rfl, rfl, fit2 ?_, .str stem, rfl, .int mark, rfl, (mark : Int), rfl, ?_⟩
      · rw [ct1, tlt, List.length_take]; simp; omega
      dsimp only [tNoPart]
      refine ⟨stem, rfl, fit hfit, _, _, rfl, rfl, fit2 ?_, ?_⟩
      · rw [tl_app, ct1, tlt, ct2, List.length_append, List.length_take, List.length_drop, List.length_singleton]; omega
      have nOne : Nm (cutS stem none (some (mark : Int)) ++ lt ++ cutS stem (some (mark : Int)) none) := by
        have et : tl (cutS stem none (some (mark : Int)) ++ lt ++ cutS stem (some (mark : Int)) none) = (tl stem).take mark ++ [cs[g.toNat]] ++ (tl stem).drop mark := by
          rw [tl_app, tl_app, ct1, tlt, ct2]
        refine ⟨fun c hc => ?_, by rw [et]; simp, ?_⟩
        · rw [et] at hc
          rcases List.mem_append.mp hc with z | z
          · rcases List.mem_append.mp z with z | z
            · exact hst c (List.mem_of_mem_take z)
            · rw [List.mem_singleton.mp z]; exact hl1
          · exact hst c (List.mem_of_mem_drop z)
        · rw [et, List.length_append, List.length_append, List.length_take, List.length_drop, List.length_singleton]
          omega
      have eOne : tl (cutS stem none (some (mark : Int)) ++ lt ++ cutS stem (some (mark : Int)) none) = (tl stem).take mark ++ [cs[g.toNat]] ++ (tl stem).drop mark := by
        rw [tl_app, tl_app, ct1, tlt, ct2]
      generalize (cutS stem none (some (mark : Int)) ++ lt ++ cutS stem (some (mark : Int)) none) = one1 at nOne eOne ⊢
      have hnot := erase_not hcd hgl
      have hsub : ∀ c ∈ cs.eraseIdx g.toNat, c ∈ cs := fun c hc => List.mem_of_mem_eraseIdx hc
      have hfr7 : ∀ n ∈ ns, From stem mark near (cs.eraseIdx g.toNat) n := fun n hn => (hfr n hn).less hsub
      have hcd7 : (cs.eraseIdx g.toNat).Nodup := hcd.eraseIdx _
      -- what is appended
      have app : ∀ (one : Str) (H8 : Hp), Nm one → one ∉ ns → From stem mark near (cs.eraseIdx g.toNat) one → H8 po = some (.lst ((cs.eraseIdx g.toNat).map sgn)) → H8 fo = some (.lst (ns.map V.str)) → Dk H8 dk cl lf → KD dk lf H H8 → ∀ (D : Ends) (x7 : Option V), D.nx = WN H dk cl lf po fo m stem mark near (i + 1) →
          tDrop (tBM K "list" rAppend (tVar 6) (tCons (tVar 9) tNil)) D [some (.ref dk), some (.int m), some (.ref po), some (.str stem), some (.int mark), some (.bl near), some (.ref fo), x7, some (.str lt), some (.str one)] H8 := fun one H8 n1 hon hof h1 h2 h3 h4 D x7 hD => by
        refine ⟨.ref fo, rfl, .inl ⟨rfl, _, .inl (.inl h2)⟩, .str one, rfl, fo, _, _, rfl, rfl, h2, ?_, ?_⟩
        · rw [List.length_map]
          exact Nat.lt_of_le_of_lt (show ns.length ≤ 100 by omega) (by decide)
        · rw [hD]
          refine ⟨_, _, _, cs.eraseIdx g.toNat, ns ++ [one], rfl, ?_, ?_, hcs7, hlet7, by rw [List.length_append, hns]; rfl, ⟨?_, List.nodup_append.mpr ⟨hnd, by simp, fun a ha b hb z => hon (by rw [List.mem_singleton.mp hb] at z; rw [← z]; exact ha)⟩, hcd7, fun n hn => by
            rcases List.mem_append.mp hn with z | z
            · exact hfr7 n z
            · rw [List.mem_singleton.mp z]; exact hof⟩, h3.upd ⟨nfd.1, nfd.2.1, nfd.2.2⟩, ?_⟩
          · rw [upd_ne npf]; exact h1
          · rw [upd_same, List.map_append]; rfl
          · intro n hn
            rcases List.mem_append.mp hn with z | z
            · exact hnm n z
            · rw [List.mem_singleton.mp z]; exact n1
          · intro b o n1 n2 e
            rw [upd_ne (ne_of_none e nfo0)]
            exact h4 b o n1 n2 e
      refine ⟨.bl near, rfl, near, rfl, ite2 (fun e => ?_) (fun e => ?_)⟩
      rotate_left
      · have en : near = true := by
          cases near with
          | true => rfl
          | false => exact absurd rfl e
        refine app one1 H7 nOne (fun hm => ?_) ?_ hpo7 hfo7 D7 kH7 _ _ rfl
        · have hf := hfr one1 hm
          unfold From at hf
          rw [if_pos en] at hf
          obtain ⟨c, c1, c2⟩ := hf
          rw [eOne] at c2
          have c4 : cs[g.toNat] = c := by simpa using c2
          exact c1 (by rw [← c4]; exact List.getElem_mem hgl)
        · unfold From
          rw [if_pos en]
          exact ⟨_, hnot, eOne⟩
      have en : near = false := by
        cases near with
        | true => exact absurd e (by decide)
        | false => rfl
      have fr2 : ∀ (cs' : List Nat) (n : Str), (2 ≤ (tl n).length ∨ ∃ c, c ∉ cs' ∧ tl n = [c]) → From stem mark near cs' n := fun cs' n h => by
        unfold From
        rw [if_neg (by rw [en]; decide)]
        exact h
      refine ⟨.ref dk, rfl, two_picks (dk := dk) (cl := cl) (lf := lf) rfl D7 ⟨by decide, by decide⟩ ⟨by decide, by decide⟩ fun v H8 v0 v1 D8 k8 => ?_⟩
      refine ⟨_, _, rfl, rfl, dk, cl, lf, _, rfl, D8, by omega, by omega, fun y H9 hy1 hy2 D9 k9 => ?_⟩
      have hpo9 : H9 po = some (.lst ((cs.eraseIdx g.toNat).map sgn)) := (k8.trans k9) _ _ npd.1 npd.2.2 hpo7
      have hfo9 : H9 fo = some (.lst (ns.map V.str)) := (k8.trans k9) _ _ nfd.1 nfd.2.2 hfo7
      have ny : Nm y := ⟨hy1, fun z => by rw [z] at hy2; simp at hy2; omega, by omega⟩
      have k09 := kH7.trans (k8.trans k9)
      refine ⟨.str y, rfl, .ref fo, rfl, fo, _, rfl, .inl (.inl (.inl hfo9)), rfl, flat_strs ns, _, rfl, ite2 (fun _ => ?_) (fun hy => app y H9 ny (fun z => hy ((in_strs ns y).mpr z)) (fr2 _ _ (.inl (by omega))) hpo9 hfo9 D9 k09 _ _ rfl)⟩
      refine ⟨.str lt, rfl, app lt H9 nlt (fun hm => ?_) (fr2 _ _ (.inr ⟨_, hnot, tlt⟩)) hpo9 hfo9 D9 k09 _ _ rfl⟩
      have hf := hfr lt hm
      unfold From at hf
      rw [if_neg (by rw [en]; decide)] at hf
      rcases hf with hf | ⟨c, c1, c2⟩
      · rw [tlt] at hf
        exact absurd hf (by simp)
      · rw [tlt] at c2
        have c4 : cs[g.toNat] = c := by injection c2
        exact c1 (by rw [← c4]; exact List.getElem_mem hgl)
    · obtain ⟨y7, y8, y9, cs, ns, rfl, hpo, hfo, hcs, hlet, hns, ⟨hnm, hnd, hcd, hfr⟩, DH, kH⟩ := hP
      exact ⟨.ref fo, rfl, q fo ns H' hnm hnd (by omega) nfo0 hfo DH kH⟩
end
end K2
namespace K2
open PySem PySem.Spec PyProof.Rows L2 K1 K3
open TL (tl joinL)
abbrev sLeaf : Stmt := topS 55
abbrev nmLf : List Str := ["_law_deck_here", "_law_holes", "_law_way", "_law_bits"]
theorem scLf : FnScope nmLf ["_law_deck_here", "_law_holes"] (defScope sLeaf) := ⟨rfl, rfl, rfl, by decide +kernel, rfl, by decide +kernel, by decide +kernel⟩
theorem lg100 {z : Int} (h0 : 0 < z) (h : z ≤ 100000) : z.natAbs.log2 < 9000 := Nat.lt_trans (PySem.Flt.log2_lt_of (k := 17) (by decide) (by omega)) (by decide)
section
variable {P : Program} {w : World} {K : PySem.W.Frag} {mg : Str → Option Value} {base : Heap}
def LeafQ (K : PySem.W.Frag) (dk cl lf : Addr) (hds : List (Str × Nat)) (hs : List Str) (H : Hp) (R : VK) : Prop := ∀ (v : V) (k : Kd) (H' : Hp), Dk H' dk cl lf → KD dk lf H H' → Dp K H' v (toD k) → wf hds hs k → fm k = 1 → dpt k = 1 → R v H'
def spLeaf (K : PySem.W.Frag) : Sp := fun vs H Q _ => ∃ (dk cl lf ho : Addr) (hds : List (Str × Nat)) (hs : List Str), vs = [.ref dk, .ref ho] ∧ Dk H dk cl lf ∧ SqT K H ho (hs.map V.str) ∧ (∀ h ∈ hs, Nm h) ∧ hs.length ≤ 100 ∧ LeafQ K dk cl lf hds hs H Q
def tLR (K : PySem.W.Frag) (dk cl lf : Addr) (hds : List (Str × Nat)) (hs : List Str) : L2.TS := fun D σ H => ∃ (a1 y3 : Option V) (way : Int), σ = [some (.ref dk), a1, some (.int way), y3] ∧ 0 ≤ way ∧ Dk H dk cl lf ∧ LeafQ K dk cl lf hds hs H D.rt
def tLF (K : PySem.W.Frag) (dk cl lf : Addr) (hds : List (Str × Nat)) (hs : List Str) : L2.TS := fun D σ H => ∃ (a1 : Option V) (way b : Int), σ = [some (.ref dk), a1, some (.int way), some (.int b)] ∧ 0 ≤ way ∧ (1 ≤ b ∧ b ≤ 64) ∧ Dk H dk cl lf ∧ LeafQ K dk cl lf hds hs H D.rt
theorem LeafQ.to {dk cl lf : Addr} {hds : List (Str × Nat)} {hs : List Str} {H H1 : Hp} {R : VK} (h : LeafQ K dk cl lf hds hs H R) (k : KD dk lf H H1) : LeafQ K dk cl lf hds hs H1 R := fun v kd H' a b => h v kd H' a (k.trans b)
theorem ok_leaf {f : Addr} {fd : FuncData} (F : Fun K "_law_leaf" "_law_leaf" sLeaf f fd) (CP : Cal P w K mg base "_law_pick" ["_law_deck_here", "_law_many"] 1 sp__law_pick) (ml : mg "len" = none) : FnOk P w K mg base CX0 2 f fd ["_law_deck_here", "_law_holes"] (spLeaf K) := by
  obtain ⟨fP, fdP, GP, gP, kP, bP⟩ := CP.ex
  refine F.ok scLf (fun vs H Q E h => ?_) (fun cdv A outer s H vs Q E hr h => ?_)
  · obtain ⟨dk, cl, lf, ho, hds, hs, rfl, _⟩ := h
    rfl
  · obtain ⟨dk, cl, lf, ho, hds, hs, rfl, D0, hho, hnm, hlen, q⟩ := h
    refine ⟨_, pss_cons (ps_set (i := 2) scLf.nd rfl (.inl rfl) (pe_call GP hr (by rfl) gP kP bP .nil pass0 (pa_cons (pv 0) (pa_cons pe_int pa_nil))))
      (pss_cons (ps_if (pt_cmpR op_eq (pv 2) pe_int (nomark _)) (pss_one (ps_ret (pe_tup (pa_cons pe_str pa_nil)))) pss_nil)
      (pss_cons (ps_if (pt_cmpR op_eq (pv 2) pe_int (nomark _)) (pss_one (ps_ret (pe_tup (pa_cons pe_str (pa_cons (pe_tup pa_nil) pa_nil))))) pss_nil)
      (pss_cons (ps_if (PW.pt (pw_and (pt_cmpR op_lt (pv 2) pe_int (nomark _)) (pw_and1 (pt_cmpR op_gt (pe_callB call_len_seq (by rfl) ml PySem.boot_len (pa_cons (pv 1) pa_nil)) pe_int (nomark _)))))
        (pss_one (ps_ret (pe_tup (pa_cons pe_str (pa_cons (pe_ix ix_tup (pv 1) (pe_call GP hr (by rfl) gP kP bP .nil pass0 (pa_cons (pv 0) (pa_cons (pe_callB call_len_seq (by rfl) ml PySem.boot_len (pa_cons (pv 1) pa_nil)) pa_nil))) (fun _ _ => rfl)) pa_nil))))) pss_nil)
      (pss_weak (t' := tLR K dk cl lf hds hs) (pss_cons (ps_set (i := 3) scLf.nd rfl (.inl rfl) (pe_op op_add pe_int (pe_call GP hr (by rfl) gP kP bP .nil pass0 (pa_cons (pv 0) (pa_cons pe_int pa_nil)))))
        (pss_cons (ps_if (pt_cmpR op_eq (pe_call GP hr (by rfl) gP kP bP .nil pass0 (pa_cons (pv 0) (pa_cons pe_int pa_nil))) pe_int (nomark _)) (pss_one (ps_set (i := 3) scLf.nd rfl (.inl rfl) (pe_op op_mul pe_int (pe_op op_add pe_int (pe_op op_mod (pv 3) pe_int))))) pss_nil)
        (pss_weak (t' := tLF K dk cl lf hds hs) (pss_one (ps_ret (pe_tup (pa_cons (pe_ix ix_list (pe_lst (pa_cons pe_str (pa_cons pe_str pa_nil))) (pe_op op_mod (pv 2) pe_int) (fun _ _ => rfl)) (pa_cons (pv 3) pa_nil))))) ?fin))) ?rest)))), ?_⟩
    case fin =>
      intro D σ H1 hh
      obtain ⟨a1, way, b, rfl, w0, hb, D1, q⟩ := hh
      refine ⟨(by show 2 ≤ sizeLine; decide), fun ll nll => ?_⟩
      have s2 : Same H1 (upd H1 ll (.lst [.str (S "nat"), .str (S "int")])) := same_upd nll
      have c2 : (upd H1 ll (.lst [.str (S "nat"), .str (S "int")])) ll = some (.lst [.str (S "nat"), .str (S "int")]) := upd_same
      refine ⟨.int way, rfl, _, _, rfl, rfl, (by show (0 : Int) < 2; decide), ?_⟩
      obtain ⟨i, hi⟩ : ∃ i : Bool, atI [V.str (S "nat"), V.str (S "int")] (way % 2) = some (.str (S (wN i))) := by
        rcases (show way % 2 = 0 ∨ way % 2 = 1 by omega) with e | e
        · exact ⟨false, by rw [e]; rfl⟩
        · exact ⟨true, by rw [e]; rfl⟩
      refine ⟨ll, _, _, _, rfl, rfl, .inl (.inl c2), hi, .int b, rfl, (by show 2 ≤ sizeLine; decide), fun t nt => ?_⟩
      exact q (.ref t) (.num i b) _ ((D1.same s2).same (same_upd nt)) (KD.of_same (s2.trans (same_upd nt))) (.tup (.inl (.inl upd_same)) (.cons (.str _) (.cons (.int _) .nil))) hb rfl rfl
    case rest =>
      intro D σ H1 hh
      obtain ⟨a1, y3, way, rfl, w0, D1, q⟩ := hh
      refine ⟨.ref dk, rfl, dk, cl, lf, 64, rfl, D1, by decide, by decide +kernel, fun b H2 b0 b1 D2 k2 => ?_⟩
      refine ⟨_, _, rfl, rfl, .ref dk, rfl, dk, cl, lf, 2, rfl, D2, by decide, by decide +kernel, fun c H3 c0 c1 D3 k3 => ?_⟩
      have q3 := (q.to k2).to k3
      refine ⟨rfl, _, rfl, ite2 (fun _ => ?_) (fun _ => ?_)⟩
      · refine ⟨.int (1 + b), rfl, _, _, rfl, rfl, (by show (0 : Int) < 8; decide), _, _, rfl, rfl, _, _, rfl, rfl, .inl ⟨by decide, by decide⟩, ?_⟩
        exact ⟨_, way, _, rfl, w0, ⟨by omega, by omega⟩, D3, q3⟩
      · exact ⟨_, way, _, rfl, w0, ⟨by omega, by omega⟩, D3, q3⟩
    refine ⟨.ref dk, rfl, dk, cl, lf, 8, rfl, D0, by decide, by decide +kernel, fun way H1 w0 w1 D1 k1 => ?_⟩
    have q1 := q.to k1
    refine ⟨.int way, rfl, rfl, _, rfl, ite2 (fun _ => ?_) (fun _ => ?_)⟩
    · exact ⟨(by show 1 ≤ sizeLine; decide), fun t nt => q1 (.ref t) .truth _ (D1.same (same_upd nt)) (KD.of_same (same_upd nt)) (.tup (.inl (.inl upd_same)) (.cons (.str _) .nil)) True.intro rfl rfl⟩
    refine ⟨.int way, rfl, rfl, _, rfl, ite2 (fun _ => ?_) (fun _ => ?_)⟩
    · refine ⟨Nat.zero_le _, fun z nz => ⟨(by show 2 ≤ sizeLine; decide), fun t nt => ?_⟩⟩
      have s2 : Same H1 (upd H1 z (.tup [])) := same_upd nz
      exact q1 (.ref t) (.parts false .nil) _ (D1.same (s2.trans (same_upd nt))) (KD.of_same (s2.trans (same_upd nt))) (.tup (.inl (.inl upd_same)) (.cons (.str _) (.cons (.tup (.inl (.inl (same_upd nt _ _ upd_same))) .nil) .nil))) ⟨(fun z => nomatch z), Nat.zero_le _, List.nodup_nil, True.intro⟩ rfl rfl
    have t1 : TS K H H1 := D0.ts k1
    have rest : ∀ D : Ends, D.rt = Q → tLR K dk cl lf hds hs D [some (.ref dk), some (.ref ho), some (.int way), none] H1 := fun D hD => ⟨_, _, way, rfl, w0, D1, by rw [hD]; exact q1⟩
    refine ⟨.int way, rfl, _, _, rfl, rfl, _, rfl, ite2 (fun _ => ?_) (fun _ => rest _ rfl)⟩
    refine ⟨.ref ho, rfl, ho, _, rfl, .inr (t1 _ _ hho), _, _, rfl, rfl, _, rfl, ite2 (fun e => ?_) (fun _ => rest _ rfl)⟩
    have hpos : 0 < ((hs.map V.str).length : Int) := of_decide_eq_true e
    have hlm : (hs.map V.str).length = hs.length := List.length_map ..
    refine ⟨.ref ho, rfl, .ref dk, rfl, .ref ho, rfl, ho, _, rfl, .inr (t1 _ _ hho), dk, cl, lf, _, rfl, D1, hpos, lg100 hpos (by omega), fun g H2 g0 g1 D2 k2 => ?_⟩
    have hg : g.toNat < hs.length := by omega
    have gx : (hs.map V.str)[g.toNat]? = some (.str hs[g.toNat]) := by rw [List.getElem?_map, List.getElem?_eq_getElem hg]; rfl
    refine ⟨ho, _, g, _, rfl, rfl, (D1.ts k2) _ _ (t1 _ _ hho), atI_of2 (by omega) gx, (by show 2 ≤ sizeLine; decide), fun t nt => ?_⟩
    exact (q1.to k2) (.ref t) (.hole hs[g.toNat]) _ (D2.same (same_upd nt)) (KD.of_same (same_upd nt)) (.tup (.inl (.inl upd_same)) (.cons (.str _) (.cons (.str _) .nil))) ⟨hnm _ (List.getElem_mem hg), List.getElem_mem hg⟩ rfl rfl
end
abbrev sKind : Stmt := topS 56
abbrev nmKd : List Str := ["_law_deck_here", "_law_heads_here", "_law_holes", "_law_deep", "_law_room", "_law_way", "_law_least", "_law_many", "_law_names_here", "_law_name", "_law_pieces", "_law_fills", "_law_k"]
abbrev psKd : List Str := ["_law_deck_here", "_law_heads_here", "_law_holes", "_law_deep", "_law_room"]
theorem scKd : FnScope nmKd psKd (defScope sKind) := ⟨rfl, rfl, rfl, by decide +kernel, rfl, by decide +kernel, by decide +kernel⟩

theorem psL_wf {hds : List (Str × Nat)} {hs : List Str} {d r : Nat} : ∀ (l : List (Str × Kd)), (∀ p ∈ l, Nm p.1 ∧ wf hds hs p.2 ∧ dpt p.2 ≤ d ∧ fm p.2 ≤ r) → wfP hds hs (psL l) ∧ dptP (psL l) ≤ d ∧ fmP (psL l) ≤ l.length * r ∧ (psD (psL l)).length = l.length ∧ namesP (psL l) = l.map (·.1)
  | [], _ => ⟨True.intro, Nat.zero_le _, Nat.zero_le _, rfl, rfl⟩
  | p :: l, h => by
    obtain ⟨h1, h2, h3, h4⟩ := h p List.mem_cons_self
    obtain ⟨g1, g2, g3, g4, g5⟩ := psL_wf l fun q hq => h q (List.mem_cons_of_mem _ hq)
    refine ⟨⟨h1, h2, g1⟩, ?_, ?_, ?_, ?_⟩
    · simp only [psL, dptP]; omega
    · simp only [psL, fmP, List.length_cons, Nat.add_mul]; omega
    · simp only [psL, psD, List.length_cons, g4]
    · simp only [psL, namesP, List.map_cons, g5]
theorem ksL_wf {hds : List (Str × Nat)} {hs : List Str} {d r : Nat} : ∀ (l : List Kd), (∀ p ∈ l, wf hds hs p ∧ dpt p ≤ d ∧ fm p ≤ r) → wfK hds hs (ksL l) ∧ dptK (ksL l) ≤ d ∧ fmK (ksL l) ≤ l.length * r ∧ (ksD (ksL l)).length = l.length
  | [], _ => ⟨True.intro, Nat.zero_le _, Nat.zero_le _, rfl⟩
  | p :: l, h => by
    obtain ⟨h2, h3, h4⟩ := h p List.mem_cons_self
    obtain ⟨g1, g2, g3, g4⟩ := ksL_wf l fun q hq => h q (List.mem_cons_of_mem _ hq)
    refine ⟨⟨h2, g1⟩, ?_, ?_, ?_⟩
    · simp only [ksL, dptK]; omega
    · simp only [ksL, fmK, List.length_cons, Nat.add_mul]; omega
    · simp only [ksL, ksD, List.length_cons, g4]
/-! ### heads -/
def Hd1 (K : PySem.W.Frag) (H : Hp) (v : V) (p : Str × Nat) : Prop := ∃ t : Addr, v = .ref t ∧ SqT K H t [.str p.1, .int (p.2 : Int)] ∧ Nm p.1 ∧ p.2 ≤ 3
structure Hds (K : PySem.W.Frag) (H : Hp) (hd dk lf : Addr) (hds : List (Str × Nat)) : Prop where
  ex : ∃ vs : List V, H hd = some (.lst vs) ∧ vs.length ≤ 20 ∧ Paired (Hd1 K H) vs hds
  n1 : hd ≠ dk
  n2 : hd ≠ lf
  lk : ∀ p ∈ hds, hdLk hds p.1 = some p.2
theorem Hds.to {K : PySem.W.Frag} {H H' : Hp} {hd dk cl lf : Addr} {hds : List (Str × Nat)} (h : Hds K H hd dk lf hds) (D : Dk H dk cl lf) (k : KD dk lf H H') : Hds K H' hd dk lf hds := by
  obtain ⟨⟨vs, e, l, a⟩, n1, n2, lk⟩ := h
  refine ⟨⟨vs, k _ _ n1 n2 e, l, Paired.mapP a fun v p hv => ?_⟩, n1, n2, lk⟩
  obtain ⟨t, r1, r2, r3⟩ := hv
  exact ⟨t, r1, (D.ts k) _ _ r2, r3⟩
theorem hds_data {K : PySem.W.Frag} {H : Hp} : ∀ {vs : List V} {hds : List (Str × Nat)}, Paired (Hd1 K H) vs hds → ∃ ds, DpAll K H vs ds ∧ PyData.canLayAll0 ds = true
  | _, _, .nil => ⟨[], .nil, rfl⟩
  | _, _, .cons h r => by
    obtain ⟨t, e, ht, hn, _⟩ := h
    obtain ⟨ds, g1, g2⟩ := hds_data r
    subst e
    refine ⟨_ :: ds, .cons (.tup ht (.cons (.str _) (.cons (.int _) .nil))) g1, ?_⟩
    simp only [PyData.canLayAll0, PyData.canLay0, g2, nm_ok hn, Bool.and_self]
section
variable {P : Program} {w : World} {K : PySem.W.Frag} {mg : Str → Option Value} {base : Heap}
def rLen (K : PySem.W.Frag) : List V → Hp → VK → Prop := fun xs H Q => ∃ p ys, xs = [.ref p] ∧ (SqL K H p ys ∨ SqT K H p ys) ∧ Q (.int (ys.length : Nat)) H
def KdQ (K : PySem.W.Frag) (dk cl lf : Addr) (hds : List (Str × Nat)) (hs : List Str) (deep : Int) (room : Int) (H : Hp) (R : VK) : Prop := ∀ (v : V) (k : Kd) (H' : Hp), Dk H' dk cl lf → KD dk lf H H' → Dp K H' v (toD k) → wf hds hs k → (dpt k : Int) ≤ max 1 deep → (fm k : Int) ≤ max 1 room → R v H'
theorem KdQ.to {dk cl lf : Addr} {hds : List (Str × Nat)} {hs : List Str} {deep : Int} {room : Int} {H H1 : Hp} {R : VK} (h : KdQ K dk cl lf hds hs deep room H R) (k : KD dk lf H H1) : KdQ K dk cl lf hds hs deep room H1 R := fun v kd H' a b => h v kd H' a (k.trans b)
def spK (K : PySem.W.Frag) : Nat → Sp
  | 0 => fun _ _ _ _ => False
  | n + 1 => fun vs H Q _ => ∃ (dk cl lf hd ho : Addr) (deep room : Int) (hds : List (Str × Nat)) (hs : List Str), vs = [.ref dk, .ref hd, .ref ho, .int deep, .int room] ∧ Dk H dk cl lf ∧ Hds K H hd dk lf hds ∧ SqT K H ho (hs.map V.str) ∧ (∀ h ∈ hs, Nm h) ∧ hs.length ≤ 100 ∧ deep ≤ (n + 1 : Nat) ∧ room ≤ 1000 ∧ KdQ K dk cl lf hds hs deep room H Q
theorem ok_kind {f : Addr} {fd : FuncData} (F : Fun K "_law_kind" "_law_kind" sKind f fd) (gK : mg "_law_kind" = some (.ref f)) (bK : Binds K fd psKd []) (CP : Cal P w K mg base "_law_pick" ["_law_deck_here", "_law_many"] 1 sp__law_pick)
    (CF : Cal P w K mg base "_law_leaf" ["_law_deck_here", "_law_holes"] 2 (spLeaf K)) (CN : Cal P w K mg base "_law_names" ["_law_deck_here", "_law_many"] 3 spNames)
    (ml : mg "len" = none) (mint : mg "int" = none) (mn : mg "min" = none) (mt : mg "tuple" = none) (mr : mg "range" = none) : ∀ n : Nat, FnOk P w K mg base CX0 (n + 3) f fd psKd (spK K n) := by
  obtain ⟨fP, fdP, GP, gP, kP, bP⟩ := CP.ex
  obtain ⟨fF, fdF, GF, gF, kF, bF⟩ := CF.ex
  obtain ⟨fN, fdN, GN, gN, kN, bN⟩ := CN.ex
  intro n
  induction n with
  | zero => exact F.ok scKd (fun vs H Q E h => h.elim) (fun cdv A outer s H vs Q E hr h => h.elim)
  | succ n ih =>
    refine F.ok scKd (fun vs H Q E h => ?_) (fun cdv A outer s H vs Q E hr h => ?_)
    · obtain ⟨dk, cl, lf, hd, ho, deep, room, hds, hs, rfl, _⟩ := h
      rfl
    · obtain ⟨dk, cl, lf, hd, ho, deep, room, hds, hs, rfl, D0, hhd, hho, hnm, hlen, hdeep, hroom, q⟩ := h
      have hr1 : Room 1 (A.deeper (envOfC "_law_kind" (defScope sKind) s.heap.objs.size f cdv)) := hr.mono (by omega)
      have hr2 : Room 2 (A.deeper (envOfC "_law_kind" (defScope sKind) s.heap.objs.size f cdv)) := hr.mono (by omega)
      have hr3 : Room 3 (A.deeper (envOfC "_law_kind" (defScope sKind) s.heap.objs.size f cdv)) := hr.mono (by omega)
      refine ⟨_, pss_cons (ps_set (i := 5) scKd.nd rfl (.inl rfl) (pe_call GP hr1 (by rfl) gP kP bP .nil pass0 (pa_cons (pv 0) (pa_cons pe_int pa_nil))))
        (pss_cons (ps_if (PW.pt (pw_or (pt_cmpR op_lt (pv 3) pe_int (nomark _)) (pw_or (pt_cmpR op_lt (pv 4) pe_int (nomark _)) (pw_or1 (pt_cmpR op_eq (pv 5) pe_int (nomark _)))))) (pss_one (ps_ret (pe_call GF hr2 (by rfl) gF kF bF .nil pass0 (pa_cons (pv 0) (pa_cons (pv 2) pa_nil))))) pss_nil)
        (pss_cons (ps_if (pt_cmpR op_lt (pv 5) pe_int (nomark _))
          (pss_cons (ps_set (i := 6) scKd.nd rfl (.inl rfl) (pe_callTy call_int1 (by rfl) mint (by decide +kernel) (pa_cons (pe_cmpR op_gt (pv 5) pe_int (nomark _)) pa_nil)))
          (pss_cons (ps_set (i := 7) scKd.nd rfl (.inr rfl) (pe_op op_add (pv 6) (pe_call GP hr1 (by rfl) gP kP bP .nil pass0 (pa_cons (pv 0) (pa_cons (pe_ix ix_list (pe_lst (pa_cons pe_int (pa_cons pe_int (pa_cons pe_int (pa_cons (pe_op op_sub pe_int (pv 6)) pa_nil))))) (pe_call GP hr1 (by rfl) gP kP bP .nil pass0 (pa_cons (pv 0) (pa_cons pe_int pa_nil))) (fun _ _ => rfl)) pa_nil)))))
          (pss_cons (ps_set (i := 8) scKd.nd rfl (.inr rfl) (pe_call GN hr3 (by rfl) gN kN bN .nil pass0 (pa_cons (pv 0) (pa_cons (pe_callB (call_min2 rfl) (by rfl) mn (by decide +kernel) (pa_cons (pv 7) (pa_cons (pe_op op_sub (pv 4) pe_int) pa_nil))) pa_nil))))
          (pss_cons (ps_setLc (i := 10) (own := [("_law_name", 9)]) (g := gName 9) (tt := tYes) rfl scKd.nd rfl rfl (sw_true rfl rfl rfl (by decide +kernel)) (pi_list (pv 8)) (blkOk_by (N := nmKd) (sc := defScope sKind) (by decide +kernel)) (fun _ _ _ _ _ => pg_name (i := 9) scKd.nd rfl (Or.inl rfl)) (fun _ _ _ _ _ => pts_nil)
            (fun _ _ _ _ _ => pe_tup (pa_cons (pv 9) (pa_cons (pe_call ih hr (by rfl) gK F.kp bK .nil pass0 (pa_cons (pv 0) (pa_cons (pv 1) (pa_cons (pv 2) (pa_cons (pe_op op_sub (pv 3) pe_int) (pa_cons (pe_op op_fdiv (pe_op op_sub (pv 4) pe_int) (pe_callB (show CallR _ (.builtin "len") (rLen K) from call_len_seq) (by rfl) ml PySem.boot_len (pa_cons (pv 8) pa_nil))) pa_nil)))))) pa_nil))))
          (pss_one (ps_ret (pe_tup (pa_cons (pe_ix ix_list (pe_lst (pa_cons pe_str (pa_cons pe_str pa_nil))) (pv 6) (fun _ _ => rfl)) (pa_cons (pe_callTy call_tuple_of (by rfl) mt (by decide +kernel) (pa_cons (pv 10) pa_nil)) pa_nil))))))))) pss_nil)
        (pss_cons (ps_if (pt_cmpR op_eq (pv 5) pe_int (nomark _))
          (pss_cons (ps_set (i := 7) scKd.nd rfl (.inr rfl) (pe_op op_add pe_int (pe_call GP hr1 (by rfl) gP kP bP .nil pass0 (pa_cons (pv 0) (pa_cons (pe_ix ix_list (pe_lst (pa_cons pe_int (pa_cons pe_int pa_nil))) (pe_call GP hr1 (by rfl) gP kP bP .nil pass0 (pa_cons (pv 0) (pa_cons pe_int pa_nil))) (fun _ _ => rfl)) pa_nil)))))
          (pss_one (ps_ret (pe_tup (pa_cons pe_str (pa_cons (pv 7) (pa_cons (pe_call ih hr (by rfl) gK F.kp bK .nil pass0 (pa_cons (pv 0) (pa_cons (pv 1) (pa_cons (pv 2) (pa_cons (pe_op op_sub (pv 3) pe_int) (pa_cons (pe_op op_sub (pv 4) pe_int) pa_nil)))))) pa_nil))))))) pss_nil)
        (pss_cons (ps_if (PW.pt (pw_or (pt_cmpR op_lt (pv 5) pe_int (nomark _)) (pw_or1 (pt_cmpR (op_eqM hr.units) (pv 1) (pe_lst pa_nil) (nomark _)))))
          (pss_one (ps_ret (pe_tup (pa_cons (pe_ix ix_list (pe_lst (pa_cons pe_str (pa_cons pe_str pa_nil))) (pe_op op_mod (pv 5) pe_int) (fun _ _ => rfl)) (pa_cons (pe_call ih hr (by rfl) gK F.kp bK .nil pass0 (pa_cons (pv 0) (pa_cons (pv 1) (pa_cons (pv 2) (pa_cons (pe_op op_sub (pv 3) pe_int) (pa_cons (pe_op op_sub (pv 4) pe_int) pa_nil)))))) pa_nil))))) pss_nil)
        (pss_cons (ps_asg (pe_ix ix_list (pv 1) (pe_call GP hr1 (by rfl) gP kP bP .nil pass0 (pa_cons (pv 0) (pa_cons (pe_callB call_len_seq (by rfl) ml PySem.boot_len (pa_cons (pv 1) pa_nil)) pa_nil))) (fun _ _ => rfl)) (pg_tup (by rfl) (pgs_cons (pg_name (i := 9) scKd.nd rfl (.inl rfl)) (pgs_cons (pg_name (i := 7) scKd.nd rfl (.inr rfl)) pgs_nil))))
        (pss_cons (ps_if (pt_cmpR op_gt (pv 7) (pe_op op_sub (pv 4) pe_int) (nomark _)) (pss_one (ps_ret (pe_call GF hr2 (by rfl) gF kF bF .nil pass0 (pa_cons (pv 0) (pa_cons (pv 2) pa_nil))))) pss_nil)
        (pss_cons (ps_setLc (i := 11) (own := [("_law_k", 12)]) (g := gName 12) (tt := tYes) rfl scKd.nd rfl rfl (sw_true rfl rfl rfl (by decide +kernel)) (pi_range1 (by rfl) mr (pa_cons (pv 7) pa_nil)) (blkOk_by (N := nmKd) (sc := defScope sKind) (by decide +kernel)) (fun _ _ _ _ _ => pg_name (i := 12) scKd.nd rfl (Or.inl rfl)) (fun _ _ _ _ _ => pts_nil)
            (fun _ _ _ _ _ => pe_call ih hr (by rfl) gK F.kp bK .nil pass0 (pa_cons (pv 0) (pa_cons (pv 1) (pa_cons (pv 2) (pa_cons (pe_op op_sub (pv 3) pe_int) (pa_cons (pe_op op_fdiv (pe_op op_sub (pv 4) pe_int) (pv 7)) pa_nil)))))))
        (pss_one (ps_ret (pe_tup (pa_cons pe_str (pa_cons (pv 9) (pa_cons (pe_callTy call_tuple_of (by rfl) mt (by decide +kernel) (pa_cons (pv 11) pa_nil)) pa_nil))))))))))))), ?_⟩
      refine ⟨.ref dk, rfl, dk, cl, lf, 11, rfl, D0, by decide, by decide +kernel, fun way H1 w0 w1 D1 k1 => ?_⟩
      have q1 := q.to k1
      have t1 : TS K H H1 := D0.ts k1
      have hhd1 := hhd.to D0 k1
      have hho1 := t1 _ _ hho
      have leafW : ∀ (D : Ends) (σ : L2.St) (H2 : Hp), D.rt = Q → σ[0]? = some (some (.ref dk)) → σ[2]? = some (some (.ref ho)) → Dk H2 dk cl lf → KD dk lf H1 H2 → tRet (tCall (spLeaf K) [] E0 (tCons (tVar 0) (tCons (tVar 2) tNil))) D σ H2 := fun D σ H2 hD h0 h2 D2 k2 => by
        refine ⟨.ref dk, h0, .ref ho, h2, dk, cl, lf, ho, hds, hs, rfl, D2, (D1.ts k2) _ _ hho1, hnm, hlen, fun v k H' a b c d e f => ?_⟩
        rw [hD]
        exact q1 v k H' a (k2.trans b) c d (by omega) (by omega)
      refine ⟨.int deep, rfl, _, _, rfl, rfl, _, rfl, ite2 (fun _ => leafW _ _ _ rfl rfl rfl D1 KD.refl) (fun e1 => ?_)⟩
      replace e1 : 2 ≤ deep := Int.not_lt.mp fun z => e1 (decide_eq_true (p := deep < 2) z)
      refine ⟨.int room, rfl, _, _, rfl, rfl, _, rfl, ite2 (fun _ => leafW _ _ _ rfl rfl rfl D1 KD.refl) (fun e2 => ?_)⟩
      replace e2 : 2 ≤ room := Int.not_lt.mp fun z => e2 (decide_eq_true (p := room < 2) z)
      refine ⟨.int way, rfl, rfl, _, rfl, ite2 (fun _ => leafW _ _ _ rfl rfl rfl D1 KD.refl) (fun e3 => ?_)⟩
      cases n with
      | zero => omega
      | succ n =>
        refine ⟨.int way, rfl, _, _, rfl, rfl, _, rfl, ite2 (fun e4 => ?_) (fun e4 => ?_)⟩
        · -- a record or a variant
          obtain ⟨le, hle, hle2⟩ : ∃ le : Int, (if decide (2 < way) = true then (1 : Int) else 0) = le ∧ (le = 0 ∨ le = 1) := by
            by_cases z : decide (2 < way) = true
            · exact ⟨1, if_pos z, .inr rfl⟩
            · exact ⟨0, if_neg z, .inl rfl⟩
          refine ⟨.int way, rfl, _, _, rfl, rfl, .inr ⟨_, rfl, ?_⟩⟩
          rw [hle]
          refine ⟨.int le, rfl, .ref dk, rfl, .int le, rfl, _, _, rfl, rfl, (by show 4 ≤ sizeLine; decide), fun ll nll => ?_⟩
          have s2 : Same H1 (upd H1 ll (.lst [.int 4, .int 4, .int 4, .int (9 - le)])) := same_upd nll
          have c2 : (upd H1 ll (.lst [.int 4, .int 4, .int 4, .int (9 - le)])) ll = some (.lst [.int 4, .int 4, .int 4, .int (9 - le)]) := upd_same
          generalize hH2 : upd H1 ll (HO.lst [.int 4, .int 4, .int 4, .int (9 - le)]) = H2 at s2 c2 ⊢
          have nll' := D1.not nll
          refine ⟨.ref dk, rfl, dk, cl, lf, 4, rfl, D1.same s2, by decide, by decide +kernel, fun c H3 c0 c1 D3 k3 => ?_⟩
          obtain ⟨z, hz, hz1, hz2⟩ : ∃ z : Int, atI [V.int 4, V.int 4, V.int 4, V.int (9 - le)] c = some (.int z) ∧ 4 ≤ z ∧ z + le ≤ 9 := by
            rcases (show c = 0 ∨ c = 1 ∨ c = 2 ∨ c = 3 by omega) with e | e | e | e
            · subst e; exact ⟨4, rfl, by omega, by omega⟩
            · subst e; exact ⟨4, rfl, by omega, by omega⟩
            · subst e; exact ⟨4, rfl, by omega, by omega⟩
            · subst e; exact ⟨9 - le, rfl, by omega, by omega⟩
          refine ⟨ll, _, c, .int z, rfl, rfl, .inl (.inl (k3 _ _ nll'.1 nll'.2.2 c2)), hz, dk, cl, lf, z, rfl, D3, by omega, lg100 (by omega) (by omega), fun mm H4 mm0 mm1 D4 k4 => ?_⟩
          have k14 : KD dk lf H1 H4 := (KD.of_same s2).trans (k3.trans k4)
          refine ⟨_, _, rfl, rfl, ?_⟩
          obtain ⟨cc, hcc, hc1, hc2, hc3, hc4⟩ : ∃ cc : Int, (if room - 1 < le + mm then room - 1 else le + mm) = cc ∧ 0 ≤ cc ∧ cc ≤ 8 ∧ cc ≤ room - 1 ∧ le ≤ cc := by
            by_cases z : room - 1 < le + mm
            · exact ⟨_, if_pos z, by omega, by omega, by omega, by omega⟩
            · exact ⟨_, if_neg z, by omega, by omega, by omega, by omega⟩
          refine ⟨.ref dk, rfl, .int (le + mm), rfl, .int room, rfl, _, _, rfl, rfl, _, _, rfl, ?_⟩
          rw [hcc]
          refine ⟨dk, cl, lf, cc, rfl, D4, hc1, by omega, fun p ns H5 hns hnd hnl np hp D5 k5 => ?_⟩
          have npd := D4.not np
          have k15 := k14.trans k5
          have hlm : (ns.map V.str).length = ns.length := List.length_map ..
          -- the parts
          refine ⟨.ref p, rfl, p, rfl, ⟨_, .inl (.inl hp)⟩, fun Dd hDd => ?_⟩
          have nDd := D5.not hDd
          have npD : p ≠ Dd := ne_of_none hp hDd
          refine lc_list (xs := ns.map V.str) (fun i H' => ∃ (vs : List V) (l : List (Str × Kd)), vs.length = i ∧ (l.length = i ∧ l.map (·.1) = ns.take i) ∧ DpAll K H' vs (psD (psL l)) ∧ (∀ x ∈ l, Nm x.1 ∧ wf hds hs x.2 ∧ dpt x.2 ≤ (deep - 1).toNat ∧ fm x.2 ≤ ((room - 1) / (ns.length : Int)).toNat) ∧ H' Dd = some (.lst vs) ∧ Dk H' dk cl lf ∧ KD dk lf H5 H')
            ⟨[], [], rfl, ⟨rfl, by rw [List.take_zero]; rfl⟩, .nil, (fun _ h => nomatch h), upd_same, D5.same (same_upd hDd), KD.of_same (same_upd hDd)⟩ (fun i H' _ hP => ?_) (fun i x H' hx hP => ?_) (fun H' hP => ?_)
          · obtain ⟨_, _, _, _, _, _, _, _, kH⟩ := hP
            exact .inl (.inl (kH _ _ npd.1 npd.2.2 hp))
          · obtain ⟨vs, l, ev, ⟨el, em⟩, hv, hl, eD, DH, kH⟩ := hP
            have hi : i < ns.length := by
              have := (List.getElem?_eq_some_iff.mp hx).1
              omega
            obtain rfl : V.str ns[i] = x := by
              rw [List.getElem?_map, List.getElem?_eq_getElem hi] at hx
              exact Option.some.inj hx
            have hnn : Nm ns[i] := hns _ (List.getElem_mem hi)
            have hpl : plA (psD (psL l)) = true := (pl_P _ (wfP_good _ (psL_wf l hl).1)).1
            have kk := k15.trans kH
            refine ⟨rfl, ?_⟩
            refine iteT (B := ∃ (vs : List V) (l : List (Str × Kd)), vs.length = i + 1 ∧ (l.length = i + 1 ∧ l.map (·.1) = ns.take (i + 1)) ∧ DpAll K H' vs (psD (psL l)) ∧ (∀ x ∈ l, Nm x.1 ∧ wf hds hs x.2 ∧ dpt x.2 ≤ (deep - 1).toNat ∧ fm x.2 ≤ ((room - 1) / (ns.length : Int)).toNat) ∧ H' Dd = some (.lst vs) ∧ Dk H' dk cl lf ∧ KD dk lf H5 H') ?_
            have hq1 : 1 ≤ (room - 1) / (ns.length : Int) := Int.le_ediv_of_mul_le (by omega) (by omega)
            have hq2 : (room - 1) / (ns.length : Int) ≤ room - 1 := Int.ediv_le_self _ (by omega)
            refine ⟨.str ns[i], rfl, .ref dk, rfl, .ref hd, rfl, .ref ho, rfl, .int deep, rfl, _, _, rfl, rfl, .int room, rfl, _, _, rfl, rfl, .ref p, rfl, p, _, rfl, .inl (.inl (.inl (kH _ _ npd.1 npd.2.2 hp))), _, _, rfl, rfl, ⟨by rw [hlm]; omega, by rw [hlm]; omega⟩, ?_⟩
            rw [hlm]
            refine ⟨dk, cl, lf, hd, ho, _, _, hds, hs, rfl, DH, hhd1.to D1 kk, (D1.ts kk) _ _ hho1, hnm, hlen, by omega, by omega, fun v k H6 D6 k6 hv6 gk hdk hfk => ?_⟩
            refine ⟨(by show 2 ≤ sizeLine; decide), fun t nt => ?_⟩
            have eD6 : H6 Dd = some (.lst vs) := k6 _ _ nDd.1 nDd.2.2 eD
            have ts6 : TS K H' H6 := DH.ts k6
            have s7 : Same H6 (upd H6 t (.tup [.str ns[i], v])) := same_upd nt
            have c7 : (upd H6 t (.tup [.str ns[i], v])) t = some (.tup [.str ns[i], v]) := upd_same
            generalize hH7 : upd H6 t (HO.tup [.str ns[i], v]) = H7 at s7 c7 ⊢
            have ts7 : TS K H6 H7 := ts_same s7
            have eD7 := s7 _ _ eD6
            have ts8 : TS K H7 (upd H7 Dd (.lst (vs ++ [.ref t]))) := ts_lst eD7
            refine ⟨_, eD7, ?_, vs ++ [.ref t], l ++ [(ns[i], k)], ?_, ?_, ?_, ?_, upd_same, (D6.same s7).upd nDd, ?_⟩
            · exact Nat.lt_of_le_of_lt (show vs.length ≤ 100 by omega) (by decide)
            · rw [List.length_append, ev]; rfl
            · refine ⟨by rw [List.length_append, el]; rfl, ?_⟩
              rw [List.map_append, em, List.take_add_one, List.getElem?_eq_getElem hi]
              rfl
            · rw [psD_snoc]
              refine dpAll_append (TS.dps (ts6.trans (ts7.trans ts8)) _ _ hpl hv) (.cons (.tup (ts8 _ _ (.inl (.inl c7))) (.cons (.str _) (.cons ?_ .nil))) .nil)
              exact (ts7.trans ts8).dp _ _ (pl_D k (wf_good k gk)).1 hv6
            · intro x hx'
              rcases List.mem_append.mp hx' with z | z
              · exact hl x z
              · rw [List.mem_singleton.mp z]
                exact ⟨hnn, gk, by show dpt k ≤ _; omega, by show fm k ≤ _; omega⟩
            · intro b o n1 n2 e
              rw [upd_ne (ne_of_none e hDd)]
              exact s7 _ _ (k6 b o n1 n2 (kH b o n1 n2 e))
          · obtain ⟨vs, l, ev, ⟨el, em⟩, hv, hl, eD, DH, kH⟩ := hP
            obtain ⟨o1, o2, o3, o4, o5⟩ := psL_wf l hl
            rw [hlm] at ev el em
            rw [List.take_length] at em
            refine ⟨(by show 2 ≤ sizeLine; decide), fun l2 nl2 => ?_⟩
            have s8 : Same H' (upd H' l2 (.lst [.str (Str.ofString "record"), .str (Str.ofString "variant")])) := same_upd nl2
            have c8 : (upd H' l2 (.lst [.str (Str.ofString "record"), .str (Str.ofString "variant")])) l2 = some (.lst [.str (Str.ofString "record"), .str (Str.ofString "variant")]) := upd_same
            generalize hH8 : upd H' l2 (HO.lst [.str (Str.ofString "record"), .str (Str.ofString "variant")]) = H8 at s8 c8
            obtain ⟨vv, hvv, hvl⟩ : ∃ vv : Bool, atI [V.str (S "record"), V.str (S "variant")] le = some (.str (S (wP vv))) ∧ (vv = true → le = 1) := by
              rcases hle2 with e | e
              · exact ⟨false, by rw [e]; rfl, fun z => nomatch z⟩
              · exact ⟨true, by rw [e]; rfl, fun _ => e⟩
            refine ⟨.int le, rfl, l2, _, _, _, rfl, rfl, .inl (.inl c8), hvv, .ref Dd, rfl, Dd, _, rfl, .inl ⟨.inl (.inl (s8 _ _ eD)), fun tu ntu => ?_⟩⟩
            have s9 : Same H8 (upd H8 tu (.tup vs)) := same_upd ntu
            have c9 : (upd H8 tu (.tup vs)) tu = some (.tup vs) := upd_same
            generalize hH9 : upd H8 tu (HO.tup vs) = H9 at s9 c9 ⊢
            refine ⟨(by show 2 ≤ sizeLine; decide), fun t nt => ?_⟩
            have s10 : Same H9 (upd H9 t (.tup [.str (S (wP vv)), .ref tu])) := same_upd nt
            have sall := s8.trans (s9.trans s10)
            have hdp : DpAll K (upd H9 t (.tup [.str (S (wP vv)), .ref tu])) vs (psD (psL l)) := TS.dps (ts_same sall) _ _ (pl_P _ (wfP_good _ o1)).1 hv
            refine q1 (.ref t) (.parts vv (psL l)) _ (DH.same sall) ((k15.trans kH).trans (KD.of_same sall)) (.tup (.inl (.inl upd_same)) (.cons (.str _) (.cons (.tup (.inl (.inl (s10 _ _ c9))) hdp) .nil))) ⟨fun hvv2 => ?_, ?_, ?_, o1⟩ ?_ ?_
            · rw [o4, el]
              have : le = 1 := hvl hvv2
              omega
            · rw [o4, el]
              omega
            · rw [o5, em]
              exact hnd
            · show ((dptP (psL l) + 1 : Nat) : Int) ≤ _
              omega
            · show ((fmP (psL l) + 1 : Nat) : Int) ≤ _
              by_cases hz : ns.length = 0
              · rw [el, hz] at o3
                omega
              · have h3 : (ns.length : Int) * ((room - 1) / (ns.length : Int)) ≤ room - 1 := Int.mul_ediv_self_le (by omega)
                have h4 : 0 ≤ (room - 1) / (ns.length : Int) := Int.ediv_nonneg (by omega) (by omega)
                rw [el] at o3
                have h5 : ((ns.length * ((room - 1) / (ns.length : Int)).toNat : Nat) : Int) = (ns.length : Int) * ((room - 1) / (ns.length : Int)) := by
                  rw [Int.natCast_mul, Int.toNat_of_nonneg h4]
                omega
        · have e4' : 5 ≤ way := Int.not_lt.mp fun z => e4 (decide_eq_true (p := way < 5) z)
          refine ⟨.int way, rfl, rfl, _, rfl, ite2 (fun e5 => ?_) (fun e5 => ?_)⟩
          · -- a row
            refine ⟨.ref dk, rfl, (by show 2 ≤ sizeLine; decide), fun ll nll => ?_⟩
            have s2 : Same H1 (upd H1 ll (.lst [.int 4, .int 16])) := same_upd nll
            have c2 : (upd H1 ll (.lst [.int 4, .int 16])) ll = some (.lst [.int 4, .int 16]) := upd_same
            generalize hH2 : upd H1 ll (HO.lst [.int 4, .int 16]) = H2 at s2 c2 ⊢
            have nll' := D1.not nll
            refine ⟨.ref dk, rfl, dk, cl, lf, 2, rfl, D1.same s2, by decide, by decide +kernel, fun c H3 c0 c1 D3 k3 => ?_⟩
            obtain ⟨z, hz, hz1, hz2⟩ : ∃ z : Int, atI [V.int 4, V.int 16] c = some (.int z) ∧ 4 ≤ z ∧ z ≤ 16 := by
              rcases (show c = 0 ∨ c = 1 by omega) with e | e
              · subst e; exact ⟨4, rfl, by omega, by omega⟩
              · subst e; exact ⟨16, rfl, by omega, by omega⟩
            refine ⟨ll, _, c, .int z, rfl, rfl, .inl (.inl (k3 _ _ nll'.1 nll'.2.2 c2)), hz, dk, cl, lf, z, rfl, D3, by omega, lg100 (by omega) (by omega), fun mm H4 mm0 mm1 D4 k4 => ?_⟩
            have k14 : KD dk lf H1 H4 := (KD.of_same s2).trans (k3.trans k4)
            refine ⟨_, _, rfl, rfl, ?_⟩
            refine ⟨.int (1 + mm), rfl, .ref dk, rfl, .ref hd, rfl, .ref ho, rfl, .int deep, rfl, _, _, rfl, rfl, .int room, rfl, _, _, rfl, rfl, dk, cl, lf, hd, ho, _, _, hds, hs, rfl, D4, hhd1.to D1 k14, (D1.ts k14) _ _ hho1, hnm, hlen, by omega, by omega, fun v k H6 D6 k6 hv6 gk hdk hfk => ?_⟩
            refine ⟨(by show 3 ≤ sizeLine; decide), fun t nt => ?_⟩
            refine q1 (.ref t) (.row (1 + mm) k) _ (D6.same (same_upd nt)) ((k14.trans k6).trans (KD.of_same (same_upd nt))) (.tup (.inl (.inl upd_same)) (.cons (.str _) (.cons (.int _) (.cons ((ts_new nt).dp _ _ (pl_D k (wf_good k gk)).1 hv6) .nil)))) ⟨⟨by omega, by omega⟩, gk⟩ ?_ ?_
            · show ((dpt k + 1 : Nat) : Int) ≤ _
              omega
            · show ((fm k + 1 : Nat) : Int) ≤ _
              omega
          · have one : ∀ (D : Ends) (σ : L2.St) (H2 : Hp), D.rt = Q → σ[0]? = some (some (.ref dk)) → σ[1]? = some (some (.ref hd)) → σ[2]? = some (some (.ref ho)) → σ[3]? = some (some (.int deep)) → σ[4]? = some (some (.int room)) → σ[5]? = some (some (.int way)) → Dk H2 dk cl lf → KD dk lf H1 H2 →
                tRet (tTup (tCons (tOp (rIxL K) (tLst (tCons (tC (.str (Str.ofString "maybe"))) (tCons (tC (.str (Str.ofString "box"))) tNil))) (tOp (rI (fun _ j => 0 < j) fun i j => .int (i % j)) (tVar 5) (tC (.int 2))))
                  (tCons (tCall (spK K (n + 1)) [] E0 (tCons (tVar 0) (tCons (tVar 1) (tCons (tVar 2) (tCons (tOp (rI0 fun i j => .int (i - j)) (tVar 3) (tC (.int 1))) (tCons (tOp (rI0 fun i j => .int (i - j)) (tVar 4) (tC (.int 1))) tNil)))))) tNil))) D σ H2 := fun D σ H2 hD h0 h1 h2 h3 h4 h5 D2 k2 => by
              refine ⟨(by show 2 ≤ sizeLine; decide), fun ll nll => ?_⟩
              have s3 : Same H2 (upd H2 ll (.lst [.str (Str.ofString "maybe"), .str (Str.ofString "box")])) := same_upd nll
              have c3 : (upd H2 ll (.lst [.str (Str.ofString "maybe"), .str (Str.ofString "box")])) ll = some (.lst [.str (Str.ofString "maybe"), .str (Str.ofString "box")]) := upd_same
              generalize hH3 : upd H2 ll (HO.lst [.str (Str.ofString "maybe"), .str (Str.ofString "box")]) = H3 at s3 c3
              obtain ⟨bb, hbb⟩ : ∃ bb : Bool, atI [V.str (S "maybe"), V.str (S "box")] (way % 2) = some (.str (S (wO bb))) := by
                rcases (show way % 2 = 0 ∨ way % 2 = 1 by omega) with e | e
                · exact ⟨false, by rw [e]; rfl⟩
                · exact ⟨true, by rw [e]; rfl⟩
              have k13 : KD dk lf H1 H3 := k2.trans (KD.of_same s3)
              refine ⟨.int way, h5, _, _, rfl, rfl, (by show (0 : Int) < 2; decide), ll, _, _, _, rfl, rfl, .inl (.inl c3), hbb, ?_⟩
              refine ⟨.ref dk, h0, .ref hd, h1, .ref ho, h2, .int deep, h3, _, _, rfl, rfl, .int room, h4, _, _, rfl, rfl, dk, cl, lf, hd, ho, _, _, hds, hs, rfl, D2.same s3, hhd1.to D1 k13, (D1.ts k13) _ _ hho1, hnm, hlen, by omega, by omega, fun v k H6 D6 k6 hv6 gk hdk hfk => ?_⟩
              refine ⟨(by show 2 ≤ sizeLine; decide), fun t nt => ?_⟩
              rw [hD]
              refine q1 (.ref t) (.one bb k) _ (D6.same (same_upd nt)) ((k13.trans k6).trans (KD.of_same (same_upd nt))) (.tup (.inl (.inl upd_same)) (.cons (.str _) (.cons ((ts_new nt).dp _ _ (pl_D k (wf_good k gk)).1 hv6) .nil))) gk ?_ ?_
              · show ((dpt k + 1 : Nat) : Int) ≤ _
                omega
              · show ((fm k + 1 : Nat) : Int) ≤ _
                omega
            refine ⟨.int way, rfl, _, _, rfl, rfl, _, rfl, ite2 (fun _ => one _ _ _ rfl rfl rfl rfl rfl rfl rfl D1 KD.refl) (fun _ => ?_)⟩
            obtain ⟨⟨hvs, ehd, hhl, hh1⟩, nh1, nh2, hlk⟩ := id hhd1
            refine ⟨.ref hd, rfl, Nat.zero_le _, fun z nz => ?_⟩
            have sz1 : Same H1 (upd H1 z (.lst [])) := same_upd nz
            have cz : (upd H1 z (.lst [])) z = some (.lst []) := upd_same
            generalize hHz : upd H1 z (HO.lst []) = Hz at sz1 cz ⊢
            have kz : KD dk lf H1 Hz := KD.of_same sz1
            have Dz : Dk Hz dk cl lf := D1.same sz1
            have hhdz := hhd1.to D1 kz
            have hh1z : Paired (Hd1 K Hz) hvs hds := Paired.mapP hh1 fun v p hv => by
              obtain ⟨t, r1, r2, r3⟩ := hv
              exact ⟨t, r1, (D1.ts kz) _ _ r2, r3⟩
            obtain ⟨dds, hdat, hcan⟩ := hds_data hh1z
            refine ⟨.list dds, .list [], .lst (.inl (.inl (sz1 _ _ ehd))) hdat, .lst (.inl (.inl cz)) .nil, hcan, rfl, ?_, _, rfl, ite2 (fun _ => one _ _ _ rfl rfl rfl rfl rfl rfl rfl Dz kz) (fun e6 => ?_)⟩
            · refine Nat.le_trans (Nat.min_le_right _ _) ?_
              decide
            rw [eqv_nil, ← dpAll_emp hdat] at e6
            have hne : 0 < hvs.length := by
              cases hvs with
              | nil => exact absurd rfl e6
              | cons _ _ => simp
            refine ⟨.ref hd, rfl, .ref dk, rfl, .ref hd, rfl, hd, _, rfl, .inl (.inl (.inl (sz1 _ _ ehd))), dk, cl, lf, _, rfl, Dz, by omega, lg100 (by omega) (by omega), fun g H2 g0 g1 D2 k2 => ?_⟩
            have hg : g.toNat < hvs.length := by omega
            have k12 := kz.trans k2
            obtain ⟨⟨nn, m'⟩, epr, t, et, ht, hnn, m1⟩ := paired_get hh1 (List.getElem?_eq_getElem hg)
            dsimp only at ht hnn m1
            have hlk2 : hdLk hds nn = some m' := hlk _ (List.mem_of_getElem? epr)
            obtain ⟨m, em, m0⟩ : ∃ m : Int, (m' : Int) = m ∧ 0 ≤ m := ⟨_, rfl, by omega⟩
            rw [em] at ht
            refine ⟨hd, _, g, hvs[g.toNat], rfl, rfl, .inl (.inl (k12 _ _ nh1 nh2 ehd)), atI_of2 (by omega) (List.getElem?_eq_getElem hg), ?_⟩
            refine ⟨t, [.str nn, .int m], et, (D1.ts k12) _ _ ht, rfl, .str nn, [.int m], rfl, .int m, [], rfl, rfl, ?_⟩
            refine ⟨.int m, rfl, .int room, rfl, _, _, rfl, rfl, _, _, rfl, rfl, _, rfl, ite2 (fun _ => leafW _ _ _ rfl rfl rfl D2 k12) (fun e7 => ?_)⟩
            replace e7 : m ≤ room - 1 := Int.not_lt.mp fun z => e7 (decide_eq_true (p := room - 1 < m) z)
            -- the fills
            refine ⟨.int m, rfl, m, rfl, by omega, by omega, fun Dd hDd => ?_⟩
            have nDd := D2.not hDd
            refine lc_range (lo := 0) (n := m.toNat) (fun i H' => ∃ (vs : List V) (l : List Kd), vs.length = i ∧ l.length = i ∧ DpAll K H' vs (ksD (ksL l)) ∧ (∀ x ∈ l, wf hds hs x ∧ dpt x ≤ (deep - 1).toNat ∧ fm x ≤ ((room - 1) / m).toNat) ∧ H' Dd = some (.lst vs) ∧ Dk H' dk cl lf ∧ KD dk lf H2 H')
              ⟨[], [], rfl, rfl, .nil, (fun _ h => nomatch h), upd_same, D2.same (same_upd hDd), KD.of_same (same_upd hDd)⟩ (fun i H' hi hP => ?_) (fun H' hP => ?_)
            · obtain ⟨vs, l, ev, el, hv, hl, eD, DH, kH⟩ := hP
              have hpl : plA (ksD (ksL l)) = true := (pl_K _ (wfK_good _ (ksL_wf l hl).1)).1
              have kk := k12.trans kH
              refine ⟨rfl, ?_⟩
              refine iteT (B := ∃ (vs : List V) (l : List Kd), vs.length = i + 1 ∧ l.length = i + 1 ∧ DpAll K H' vs (ksD (ksL l)) ∧ (∀ x ∈ l, wf hds hs x ∧ dpt x ≤ (deep - 1).toNat ∧ fm x ≤ ((room - 1) / m).toNat) ∧ H' Dd = some (.lst vs) ∧ Dk H' dk cl lf ∧ KD dk lf H2 H') ?_
              have hq1 : 1 ≤ (room - 1) / m := Int.le_ediv_of_mul_le (by omega) (by omega)
              have hq2 : (room - 1) / m ≤ room - 1 := Int.ediv_le_self _ (by omega)
              refine ⟨.ref dk, rfl, .ref hd, rfl, .ref ho, rfl, .int deep, rfl, _, _, rfl, rfl, .int room, rfl, _, _, rfl, rfl, .int m, rfl, _, _, rfl, rfl, ⟨by omega, by omega⟩, dk, cl, lf, hd, ho, _, _, hds, hs, rfl, DH, hhd1.to D1 kk, (D1.ts kk) _ _ hho1, hnm, hlen, by omega, by omega, fun v k H6 D6 k6 hv6 gk hdk hfk => ?_⟩
              have eD6 : H6 Dd = some (.lst vs) := k6 _ _ nDd.1 nDd.2.2 eD
              have ts6 : TS K H' H6 := DH.ts k6
              have ts8 : TS K H6 (upd H6 Dd (.lst (vs ++ [v]))) := ts_lst eD6
              refine ⟨_, eD6, ?_, vs ++ [v], l ++ [k], ?_, ?_, ?_, ?_, upd_same, D6.upd nDd, ?_⟩
              · exact Nat.lt_of_le_of_lt (show vs.length ≤ 100 by omega) (by decide)
              · rw [List.length_append, ev]; rfl
              · rw [List.length_append, el]; rfl
              · rw [ksD_snoc]
                exact dpAll_append (TS.dps (ts6.trans ts8) _ _ hpl hv) (.cons (ts8.dp _ _ (pl_D k (wf_good k gk)).1 hv6) .nil)
              · intro x hx'
                rcases List.mem_append.mp hx' with z | z
                · exact hl x z
                · rw [List.mem_singleton.mp z]
                  exact ⟨gk, by omega, by omega⟩
              · intro b o n1 n2 e
                rw [upd_ne (ne_of_none e hDd)]
                exact k6 b o n1 n2 (kH b o n1 n2 e)
            · obtain ⟨vs, l, ev, el, hv, hl, eD, DH, kH⟩ := hP
              obtain ⟨o1, o2, o3, o4⟩ := ksL_wf l hl
              refine ⟨.str nn, rfl, .ref Dd, rfl, Dd, _, rfl, .inl ⟨.inl (.inl eD), fun tu ntu => ?_⟩⟩
              have s9 : Same H' (upd H' tu (.tup vs)) := same_upd ntu
              have c9 : (upd H' tu (.tup vs)) tu = some (.tup vs) := upd_same
              generalize hH9 : upd H' tu (HO.tup vs) = H9 at s9 c9 ⊢
              refine ⟨(by show 3 ≤ sizeLine; decide), fun t' nt => ?_⟩
              have s10 : Same H9 (upd H9 t' (.tup [.str (S "use"), .str nn, .ref tu])) := same_upd nt
              have sall := s9.trans s10
              have hdp : DpAll K (upd H9 t' (.tup [.str (S "use"), .str nn, .ref tu])) vs (ksD (ksL l)) := TS.dps (ts_same sall) _ _ (pl_K _ (wfK_good _ o1)).1 hv
              refine q1 (.ref t') (.use nn (ksL l)) _ (DH.same sall) ((k12.trans kH).trans (KD.of_same sall)) (.tup (.inl (.inl upd_same)) (.cons (.str _) (.cons (.str _) (.cons (.tup (.inl (.inl (s10 _ _ c9))) hdp) .nil)))) ⟨⟨hnn, by rw [hlk2, o4, el]; exact congrArg some (by omega)⟩, o1⟩ ?_ ?_
              · show ((dptK (ksL l) + 1 : Nat) : Int) ≤ _
                omega
              · show ((fmK (ksL l) + 1 : Nat) : Int) ≤ _
                by_cases hz : m = 0
                · rw [el, hz] at o3
                  simp at o3
                  omega
                · have h3 : m * ((room - 1) / m) ≤ room - 1 := Int.mul_ediv_self_le (by omega)
                  have h4 : 0 ≤ (room - 1) / m := Int.ediv_nonneg (by omega) (by omega)
                  rw [el] at o3
                  have h5 : ((m.toNat * ((room - 1) / m).toNat : Nat) : Int) = m * ((room - 1) / m) := by
                    rw [Int.natCast_mul, Int.toNat_of_nonneg h4, Int.toNat_of_nonneg m0]
                  omega
end
abbrev pm__law_kind : List Str := psKd
abbrev pm__law_leaf : List Str := ["_law_deck_here", "_law_holes"]
abbrev pm__law_names : List Str := ["_law_deck_here", "_law_many"]
abbrev pm__law_letters : List Str := ["_law_deck_here", "_law_many"]
end K2
namespace K2
open PySem PySem.Spec PyProof.Rows L2 K1 K3
open TL (tl joinL)
abbrev s__law_book : Stmt := topS 57
abbrev nm__law_book : List Str := ["_law_deck_here", "_law_limit", "_law_deep", "_law_room", "_law_names_here", "_law_heads_here", "_law_found", "_law_name", "_law_many", "_law_holes"]
abbrev pm__law_book : List Str := ["_law_deck_here", "_law_limit", "_law_deep", "_law_room"]
theorem sc__law_book : FnScope nm__law_book pm__law_book (defScope s__law_book) := ⟨rfl, rfl, rfl, by decide +kernel, rfl, by decide +kernel, by decide +kernel⟩
abbrev s__law_heads : Stmt := topS 58
abbrev nm__law_heads : List Str := ["_law_book_here", "_law_name", "_law_holes", "_law_kind_here"]
abbrev pm__law_heads : List Str := ["_law_book_here"]
theorem sc__law_heads : FnScope nm__law_heads pm__law_heads (defScope s__law_heads) := ⟨rfl, rfl, rfl, by decide +kernel, rfl, by decide +kernel, by decide +kernel⟩
theorem hdLk_mem : ∀ {hds : List (Str × Nat)} {p : Str × Nat}, (hds.map (·.1)).Nodup → p ∈ hds → hdLk hds p.1 = some p.2
  | q :: hds, p, nd, h => by
    have nd' := List.nodup_cons.mp nd
    unfold hdLk
    rcases List.mem_cons.mp h with rfl | h
    · have e : (fun q : Str × Nat => decide (q.1 = p.1)) p = true := decide_eq_true rfl
      rw [List.find?_cons_of_pos (p := fun q : Str × Nat => decide (q.1 = p.1)) e]
      rfl
    · have hm := List.mem_map_of_mem (f := fun x : Str × Nat => x.1) h
      have ne : ¬ (fun q : Str × Nat => decide (q.1 = p.1)) q = true := fun z => nd'.1 (by
        show q.1 ∈ _
        rw [of_decide_eq_true z]
        exact hm)
      rw [List.find?_cons_of_neg (p := fun q : Str × Nat => decide (q.1 = p.1)) ne]
      exact hdLk_mem nd'.2 h
theorem hdsB_names (B : List Dc) : (hdsB B).map (·.1) = B.map (·.name) := by
  unfold hdsB
  rw [List.map_map]
  rfl
theorem hdsB_lk {B : List Dc} (h : okB B) : ∀ p ∈ hdsB B, hdLk (hdsB B) p.1 = some p.2 := fun p hp => hdLk_mem (by rw [hdsB_names]; exact h.nd) hp
section
variable {P : Program} {w : World} {K : PySem.W.Frag} {mg : Str → Option Value} {base : Heap}
def sp__law_heads (K : PySem.W.Frag) : Sp := fun vs H Q _ => ∃ (b : Addr) (B : List Dc), vs = [.ref b] ∧ Dp K H (.ref b) (bookD B) ∧ okB B ∧
  ∀ (p : Addr) (H' : Hp) (us : List V), Same H H' → H p = none → H' p = some (.lst us) → us.length ≤ 20 → Paired (Hd1 K H') us (hdsB B) → Q (.ref p) H'
theorem hd1_ts {H H' : Hp} {us : List V} {hds : List (Str × Nat)} (s : TS K H H') (h : Paired (Hd1 K H) us hds) : Paired (Hd1 K H') us hds := Paired.mapP h fun v p ⟨t, r1, r2, r3⟩ => ⟨t, r1, s _ _ r2, r3⟩
theorem ok__law_heads {f : Addr} {fd : FuncData} (F : Fun K "_law_heads" "_law_heads" s__law_heads f fd) (m_len : mg "len" = none) : FnOk P w K mg base CX0 1 f fd pm__law_heads (sp__law_heads K) := by
  refine F.ok sc__law_heads (fun vs H Q E h => ?_) (fun cdv A outer s H vs Q E hr h => ?_)
  · obtain ⟨b, B, rfl, _⟩ := h
    rfl
  · obtain ⟨b, B, rfl, hb, hB, q⟩ := h
    refine ⟨_, pss_one (ps_ret (pe_lc (own := [("_law_name", 1), ("_law_holes", 2), ("_law_kind_here", 3)]) (g := gTup K 3 (gCons (gName 1) (gCons (gName 2) (gCons (gName 3) gNil)))) (tt := tYes) rfl sc__law_heads.nd (pi_tup (pv 0)) (blkOk_by (N := nm__law_heads) (sc := defScope s__law_heads) (by decide +kernel)) (fun _ _ _ _ _ => pg_tup (by rfl) (pgs_cons (pg_name (i := 1) sc__law_heads.nd rfl (Or.inl rfl)) (pgs_cons (pg_name (i := 2) sc__law_heads.nd rfl (Or.inl rfl)) (pgs_cons (pg_name (i := 3) sc__law_heads.nd rfl (Or.inl rfl)) pgs_nil)))) (fun _ _ _ _ _ => pts_nil) (fun _ _ _ _ _ => (pe_tup (pa_cons (pv 1) (pa_cons (pe_callB (show CallR _ (.builtin "len") (rLenQ K) from call_len_seq) (by rfl) m_len PySem.boot_len (pa_cons (pv 2) pa_nil)) pa_nil)))))), ?_⟩
    obtain ⟨b', xs, eb, hs, hx⟩ := dp_tup hb
    cases eb
    have hxl := dpAll_len hx
    rw [List.length_map] at hxl
    have hbl := hB.len
    have plB : plA (B.map rowD) = true := pl_rows hB.row
    refine ⟨.ref b, rfl, b, rfl, ⟨_, hs⟩, fun D hD => lc_tup (xs := xs) (fun i H' => ∃ us, H' D = some (.lst us) ∧ us.length = i ∧ Paired (Hd1 K H') us ((hdsB B).take i) ∧ Same H H')
      ⟨[], upd_same, rfl, by rw [List.take_zero]; exact .nil, same_upd hD⟩ (fun i H' _ hp => ?_) (fun i x H' hxi hp => ?_) (fun H' hp => ?_)⟩
    · obtain ⟨_, _, _, _, s'⟩ := hp
      exact ts_same s' _ _ hs
    · obtain ⟨us, eD, el, hpr, s'⟩ := hp
      have hi : i < xs.length := (List.getElem?_eq_some_iff.mp hxi).1
      obtain ⟨d, ed, hd⟩ := dpAll_get hx hxi
      obtain ⟨r, er, rfl⟩ := map_getB ed
      have hro := hB.row r (List.mem_of_getElem? er)
      have pr : pl (rowD r) = true := plA_mem plB (List.mem_of_getElem? ed)
      obtain ⟨t, ho, kv, rfl, h1, h2, h3, h4⟩ := row_at ((ts_same s').dp _ _ pr hd) (rowOk_of hro)
      rw [nameO_row] at h1
      rw [holesO_row] at h2
      refine ⟨t, _, rfl, h1, rfl, _, _, rfl, _, _, rfl, _, _, rfl, rfl, rfl, ?_⟩
      dsimp only [tYes]
      refine iteT ?_
      refine ⟨.str r.name, rfl, .ref ho, rfl, ho, _, rfl, .inr h2, (by show 2 ≤ sizeLine; decide), fun t2 nt2 => ?_⟩
      rw [List.length_map]
      have s3 : Same H' (upd H' t2 (.tup [.str r.name, .int (r.holes.length : Nat)])) := same_upd nt2
      have e3 : (upd H' t2 (.tup [.str r.name, .int (r.holes.length : Nat)])) t2 = some (.tup [.str r.name, .int (r.holes.length : Nat)]) := upd_same
      generalize upd H' t2 (HO.tup [.str r.name, .int (r.holes.length : Nat)]) = H3 at s3 e3 ⊢
      have eD3 := s3 _ _ eD
      have tl := ts_lst (K := K) (ys := us ++ [.ref t2]) eD3
      refine ⟨us, eD3, ?_, us ++ [.ref t2], upd_same, by rw [List.length_append, el]; rfl, ?_, fun b o e => by rw [upd_ne (ne_of_none e hD)]; exact s3 _ _ (s' b o e)⟩
      · exact Nat.lt_of_le_of_lt (show us.length ≤ 12 by omega) (by decide)
      · have eh : (hdsB B)[i]? = some (r.name, r.holes.length) := by
          unfold hdsB
          rw [List.getElem?_map, er]
          rfl
        rw [List.take_add_one, eh]
        exact paired_append (hd1_ts ((ts_same s3).trans tl) hpr) (.cons ⟨t2, rfl, tl _ _ (.inl (.inl e3)), hro.nm, hro.len⟩ .nil)
    · obtain ⟨us, eD, el, hpr, s'⟩ := hp
      have hl : (hdsB B).length = B.length := List.length_map ..
      rw [List.take_of_length_le (by omega)] at hpr
      exact q D H' us s' hD eD (by omega) hpr
theorem strs_dp {H : Hp} : ∀ hs : List Str, DpAll K H (hs.map V.str) (hs.map PyData.str)
  | [] => .nil
  | z :: r => .cons (.str z) (strs_dp r)
def sp__law_book (K : PySem.W.Frag) : Sp := fun vs H Q _ => ∃ (dk cl lf : Addr) (limit deep room : Int), vs = [.ref dk, .int limit, .int deep, .int room] ∧ Dk H dk cl lf ∧ (0 < limit ∧ limit ≤ 12) ∧ (0 < deep ∧ deep ≤ 8) ∧ (0 < room ∧ room ≤ 40) ∧
  ∀ (b : Addr) (B : List Dc) (H' : Hp), okB B → B ≠ [] → (B.length : Int) ≤ limit → (∀ r ∈ B, (fm r.kd : Int) ≤ room ∧ (dpt r.kd : Int) ≤ deep) → Dk H' dk cl lf → KD dk lf H H' → Dp K H' (.ref b) (bookD B) → Q (.ref b) H'
theorem lg1000 {z : Int} (h0 : 0 < z) (h : z ≤ 100000) : z.natAbs.log2 < 9000 := lg100 h0 h
theorem ok__law_book {f : Addr} {fd : FuncData} (F : Fun K "_law_book" "_law_book" s__law_book f fd) (C__law_names : Cal P w K mg base "_law_names" pm__law_names 3 spNames) (C__law_pick : Cal P w K mg base "_law_pick" pm__law_pick 1 sp__law_pick) (C__law_kind : Cal P w K mg base "_law_kind" pm__law_kind 11 (spK K 8)) (m_tuple : mg "tuple" = none) : FnOk P w K mg base CX0 12 f fd pm__law_book (sp__law_book K) := by
  obtain ⟨f__law_names, fd__law_names, G__law_names, g__law_names, k__law_names, b__law_names⟩ := C__law_names.ex
  obtain ⟨f__law_pick, fd__law_pick, G__law_pick, g__law_pick, k__law_pick, b__law_pick⟩ := C__law_pick.ex
  obtain ⟨f__law_kind, fd__law_kind, G__law_kind, g__law_kind, k__law_kind, b__law_kind⟩ := C__law_kind.ex
  refine F.ok sc__law_book (fun vs H Q E h => ?_) (fun cdv A outer s H vs Q E hr h => ?_)
  · obtain ⟨dk, cl, lf, limit, deep, room, rfl, _⟩ := h
    rfl
  · obtain ⟨dk, cl, lf, limit, deep, room, rfl, D0, hlim, hdeep, hroom, q⟩ := h
    have rm : ∀ {j : Nat}, j ≤ 11 → Room j (A.deeper (envOfC "_law_book" (defScope s__law_book) s.heap.objs.size f cdv)) := fun hj => hr.mono hj
    refine ⟨_, pss_cons (ps_set (i := 4) sc__law_book.nd rfl (.inl rfl) (pe_call G__law_names (rm (by decide)) (by rfl) g__law_names k__law_names b__law_names .nil pass0 (pa_cons (pv 0) (pa_cons (pe_op op_add pe_int (pe_call G__law_pick (rm (by decide)) (by rfl) g__law_pick k__law_pick b__law_pick .nil pass0 (pa_cons (pv 0) (pa_cons (pv 1) pa_nil)))) pa_nil))))
      (pss_cons (ps_setLc (i := 5) (own := [("_law_name", 7)]) (g := gName 7) (tt := tYes) rfl sc__law_book.nd rfl rfl (sw_true rfl rfl rfl (by decide +kernel)) (pi_list (pv 4)) (blkOk_by (N := nm__law_book) (sc := defScope s__law_book) (by decide +kernel)) (fun _ _ _ _ _ => pg_name (i := 7) sc__law_book.nd rfl (Or.inl rfl)) (fun _ _ _ _ _ => pts_nil) (fun _ _ _ _ _ => (pe_tup (pa_cons (pv 7) (pa_cons (pe_call G__law_pick (rm (by decide)) (by rfl) g__law_pick k__law_pick b__law_pick .nil pass0 (pa_cons (pv 0) (pa_cons (pe_ix (show IxR _ (rIxL K) from ix_list) (pe_lst (pa_cons pe_int (pa_cons pe_int (pa_cons pe_int pa_nil)))) (pe_call G__law_pick (rm (by decide)) (by rfl) g__law_pick k__law_pick b__law_pick .nil pass0 (pa_cons (pv 0) (pa_cons pe_int pa_nil))) (fun _ _ => rfl)) pa_nil))) pa_nil)))))
      (pss_cons (ps_set (i := 6) sc__law_book.nd rfl (.inl rfl) (pe_lst pa_nil))
      (pss_cons (ps_for PassesOwn.never rfl (pi_list (pv 5)) (pg_tup (by rfl) (pgs_cons (pg_name (i := 7) sc__law_book.nd rfl (.inl rfl)) (pgs_cons (pg_name (i := 8) sc__law_book.nd rfl (.inl rfl)) pgs_nil)))
      (pss_cons (ps_set (i := 9) sc__law_book.nd rfl (.inl rfl) (pe_callTy call_tuple_of (by rfl) m_tuple (by decide +kernel) (pa_cons (pe_call G__law_names (rm (by decide)) (by rfl) g__law_names k__law_names b__law_names .nil pass0 (pa_cons (pv 0) (pa_cons (pv 8) pa_nil))) pa_nil)))
      (pss_one (ps_expr (pe_bm PySem.F.plainAttrs_list PySem.F.slot_list_append PySem.F.type_list_append mt_append (pv 6) (pa_cons (pe_tup (pa_cons (pv 7) (pa_cons (pv 9) (pa_cons (pe_call G__law_kind (rm (by decide)) (by rfl) g__law_kind k__law_kind b__law_kind .nil pass0 (pa_cons (pv 0) (pa_cons (pv 5) (pa_cons (pv 9) (pa_cons (pe_op op_add pe_int (pe_call G__law_pick (rm (by decide)) (by rfl) g__law_pick k__law_pick b__law_pick .nil pass0 (pa_cons (pv 0) (pa_cons (pv 2) pa_nil)))) (pa_cons (pe_op op_add pe_int (pe_call G__law_pick (rm (by decide)) (by rfl) g__law_pick k__law_pick b__law_pick .nil pass0 (pa_cons (pv 0) (pa_cons (pv 3) pa_nil)))) pa_nil)))))) pa_nil)))) pa_nil))))))
      (pss_one (ps_ret (pe_callTy call_tuple_of (by rfl) m_tuple (by decide +kernel) (pa_cons (pv 6) pa_nil))))))), ?_⟩
    refine ⟨.ref dk, rfl, .ref dk, rfl, .int limit, rfl, dk, cl, lf, limit, rfl, D0, hlim.1, lg100 hlim.1 (by omega), fun c H1 c0 c1 D1 k1 => ?_⟩
    refine ⟨_, _, rfl, rfl, dk, cl, lf, 1 + c, rfl, D1, by omega, by omega, fun p ns H2 hns hnd hnl np hp D2 k2 => ?_⟩
    have npd := D1.not np
    have hlm : (ns.map V.str).length = ns.length := List.length_map ..
    refine ⟨.ref p, rfl, p, rfl, ⟨_, .inl (.inl hp)⟩, fun Dd hDd => lc_list (xs := ns.map V.str) (fun i H' => ∃ (us : List V) (hds : List (Str × Nat)), H' Dd = some (.lst us) ∧ us.length = i ∧ Paired (Hd1 K H') us hds ∧ hds.map (·.1) = ns.take i ∧ Dk H' dk cl lf ∧ KD dk lf H2 H')
      ⟨[], [], upd_same, rfl, .nil, by rw [List.take_zero]; rfl, D2.same (same_upd hDd), KD.of_same (same_upd hDd)⟩ (fun i H' _ hP => ?_) (fun i x H' hx hP => ?_) (fun H' hP => ?_)⟩
    · obtain ⟨_, _, _, _, _, _, _, kH⟩ := hP
      exact .inl (.inl (kH _ _ npd.1 npd.2.2 hp))
    · obtain ⟨us, hds, eD, el, hpr, hnm, DH, kH⟩ := hP
      have nDd := D2.not hDd
      have hi : i < ns.length := by
        have := (List.getElem?_eq_some_iff.mp hx).1
        omega
      obtain rfl : V.str ns[i] = x := by
        rw [List.getElem?_map, List.getElem?_eq_getElem hi] at hx
        exact Option.some.inj hx
      refine ⟨rfl, ?_⟩
      dsimp only [tYes]
      refine iteT ?_
      refine ⟨.str ns[i], rfl, .ref dk, rfl, (by show 3 ≤ sizeLine; decide), fun ll nll => ?_⟩
      have s3 : Same H' (upd H' ll (.lst [.int 2, .int 2, .int 4])) := same_upd nll
      have e3 : (upd H' ll (.lst [.int 2, .int 2, .int 4])) ll = some (.lst [.int 2, .int 2, .int 4]) := upd_same
      generalize upd H' ll (HO.lst [.int 2, .int 2, .int 4]) = H3 at s3 e3 ⊢
      have nll' := DH.not nll
      refine ⟨.ref dk, rfl, dk, cl, lf, 3, rfl, DH.same s3, by decide, by decide +kernel, fun g H4 g0 g1 D4 k4 => ?_⟩
      obtain ⟨z, hz, hz1, hz2⟩ : ∃ z : Int, atI [V.int 2, V.int 2, V.int 4] g = some (.int z) ∧ 2 ≤ z ∧ z ≤ 4 := by
        rcases (show g = 0 ∨ g = 1 ∨ g = 2 by omega) with e | e | e
        · subst e; exact ⟨2, rfl, by omega, by omega⟩
        · subst e; exact ⟨2, rfl, by omega, by omega⟩
        · subst e; exact ⟨4, rfl, by omega, by omega⟩
      refine ⟨ll, _, g, .int z, rfl, rfl, .inl (.inl (k4 _ _ nll'.1 nll'.2.2 e3)), hz, dk, cl, lf, z, rfl, D4, by omega, lg100 (by omega) (by omega), fun m H5 m0 m1 D5 k5 => ?_⟩
      refine ⟨(by show 2 ≤ sizeLine; decide), fun t nt => ?_⟩
      obtain ⟨mm, rfl⟩ : ∃ mm : Nat, m = (mm : Int) := ⟨m.toNat, by omega⟩
      have s6 : Same H5 (upd H5 t (.tup [.str ns[i], .int (mm : Int)])) := same_upd nt
      have e6 : (upd H5 t (.tup [.str ns[i], .int (mm : Int)])) t = some (.tup [.str ns[i], .int (mm : Int)]) := upd_same
      generalize upd H5 t (HO.tup [V.str ns[i], .int (mm : Int)]) = H6 at s6 e6 ⊢
      have k06 : KD dk lf H' H6 := (KD.of_same s3).trans (k4.trans (k5.trans (KD.of_same s6)))
      have eD6 : H6 Dd = some (.lst us) := k06 _ _ nDd.1 nDd.2.2 eD
      have tl := ts_lst (K := K) (ys := us ++ [.ref t]) eD6
      refine ⟨us, eD6, ?_, us ++ [.ref t], hds ++ [(ns[i], mm)], upd_same, by rw [List.length_append, el]; rfl, ?_, ?_, (D5.same s6).upd nDd, ?_⟩
      · exact Nat.lt_of_le_of_lt (show us.length ≤ 100 by omega) (by decide)
      · exact paired_append (hd1_ts ((DH.ts k06).trans tl) hpr) (.cons ⟨t, rfl, tl _ _ (.inl (.inl e6)), hns _ (List.getElem_mem hi), by show mm ≤ 3; omega⟩ .nil)
      · rw [List.map_append, hnm, List.take_add_one, List.getElem?_eq_getElem hi]
        rfl
      · intro b o n1 n2 e
        rw [upd_ne (ne_of_none e hDd)]
        exact k06 b o n1 n2 (kH b o n1 n2 e)
    · obtain ⟨us, hds, eD, el, hpr, hnm, DH, kH⟩ := hP
      have nDd := D2.not hDd
      rw [hlm, List.take_length] at hnm
      have hul := paired_len hpr
      have hdl : hds.length = ns.length := by rw [← hnm, List.length_map]
      have hlk : ∀ p ∈ hds, hdLk hds p.1 = some p.2 := fun p hp => hdLk_mem (by rw [hnm]; exact hnd) hp
      refine ⟨Nat.zero_le _, fun fo nfo => ?_⟩
      have s3 : Same H' (upd H' fo (.lst [])) := same_upd nfo
      have e3 : (upd H' fo (.lst [])) fo = some (.lst []) := upd_same
      have nfd := DH.not nfo
      have nDf : Dd ≠ fo := ne_of_none eD nfo
      generalize upd H' fo (HO.lst []) = H3 at s3 e3 ⊢
      have D3 := DH.same s3
      refine ⟨.ref Dd, rfl, Dd, rfl, ⟨_, .inl (.inl (s3 _ _ eD))⟩, for_list (xs := us) (fun i σ H4 => ∃ (x7 x8 x9 : Option V) (vs : List V) (rows : List Dc), σ = [some (.ref dk), some (.int limit), some (.int deep), some (.int room), some (.ref p), some (.ref Dd), some (.ref fo), x7, x8, x9] ∧ H4 fo = some (.lst vs) ∧ vs.length = i ∧ DpAll K H4 vs (rows.map rowD) ∧ rows.map (fun r => (r.name, r.holes.length)) = hds.take i ∧ (∀ r ∈ rows, okDc hds r ∧ (fm r.kd : Int) ≤ room ∧ (dpt r.kd : Int) ≤ deep) ∧ H4 Dd = some (.lst us) ∧ Paired (Hd1 K H4) us hds ∧ Dk H4 dk cl lf ∧ KD dk lf H' H4)
        ⟨_, _, _, [], [], rfl, e3, rfl, .nil, by rw [List.take_zero]; rfl, (fun _ h => nomatch h), s3 _ _ eD, hd1_ts (ts_same s3) hpr, D3, KD.of_same s3⟩ (fun i σ H4 _ hP => ?_) (fun i x σ H4 hx hP => ?_) (fun σ H4 hP => ?_)⟩
      · obtain ⟨_, _, _, _, _, _, _, _, _, _, _, e, _⟩ := hP
        exact .inl (.inl e)
      · obtain ⟨x7, x8, x9, vs, rows, rfl, eF, evl, hvs, hrows, hok, eD4, hpr4, D4, k4⟩ := hP
        have hi : i < us.length := (List.getElem?_eq_some_iff.mp hx).1
        obtain ⟨⟨nn, mm⟩, epr, t, rfl, ht, hnn, hm3⟩ := paired_get hpr4 hx
        dsimp only at ht hnn hm3
        have plr : plA (rows.map rowD) = true := pl_rows fun r hr => (hok r hr).1
        refine ⟨t, _, rfl, ht, rfl, _, _, rfl, _, _, rfl, rfl, ?_⟩
        refine ⟨.ref dk, rfl, .int (mm : Int), rfl, dk, cl, lf, (mm : Int), rfl, D4, by omega, by omega, fun p2 hs2 H5 hns2 hnd2 hnl2 np2 hp2 D5 k5 => ?_⟩
        refine ⟨p2, _, rfl, .inl ⟨.inl (.inl hp2), fun tu ntu => ?_⟩⟩
        have s6 : Same H5 (upd H5 tu (.tup (hs2.map V.str))) := same_upd ntu
        have e6 : (upd H5 tu (.tup (hs2.map V.str))) tu = some (.tup (hs2.map V.str)) := upd_same
        generalize upd H5 tu (HO.tup (hs2.map V.str)) = H6 at s6 e6 ⊢
        have k46 : KD dk lf H4 H6 := k5.trans (KD.of_same s6)
        have D6 := D5.same s6
        have ts46 : TS K H4 H6 := D4.ts k46
        have eF6 : H6 fo = some (.lst vs) := k46 _ _ nfd.1 nfd.2.2 eF
        refine ⟨.ref fo, rfl, .inl ⟨rfl, _, .inl (.inl eF6)⟩, .str nn, rfl, .ref tu, rfl, .ref dk, rfl, .ref Dd, rfl, .ref tu, rfl, .ref dk, rfl, .int deep, rfl, dk, cl, lf, deep, rfl, D6, hdeep.1, lg100 hdeep.1 (by omega), fun c1 H7 a0 a1 D7 k7 => ?_⟩
        refine ⟨_, _, rfl, rfl, .ref dk, rfl, .int room, rfl, dk, cl, lf, room, rfl, D7, hroom.1, lg100 hroom.1 (by omega), fun c2 H8 b0 b1 D8 k8 => ?_⟩
        have k68 : KD dk lf H6 H8 := k7.trans k8
        have k48 : KD dk lf H4 H8 := k46.trans k68
        have ts68 : TS K H6 H8 := D6.ts k68
        refine ⟨_, _, rfl, rfl, dk, cl, lf, Dd, tu, 1 + c1, 1 + c2, hds, hs2, rfl, D8, ⟨⟨us, k48 _ _ nDd.1 nDd.2.2 eD4, by omega, hd1_ts (D4.ts k48) hpr4⟩, nDd.1, nDd.2.2, hlk⟩, ts68 _ _ (.inl (.inl e6)), hns2, by omega, (by show 1 + c1 ≤ ((7 + 1 : Nat) : Int); omega), by omega, fun v k H9 D9 k9 hv9 hwk hdk hfk => ?_⟩
        refine ⟨(by show 3 ≤ sizeLine; decide), fun t3 nt3 => ?_⟩
        have k49 := k48.trans k9
        have ts49 : TS K H4 H9 := D4.ts k49
        have s10 : Same H9 (upd H9 t3 (.tup [.str nn, .ref tu, v])) := same_upd nt3
        have e10 : (upd H9 t3 (.tup [.str nn, .ref tu, v])) t3 = some (.tup [.str nn, .ref tu, v]) := upd_same
        generalize upd H9 t3 (HO.tup [.str nn, .ref tu, v]) = H10 at s10 e10 ⊢
        have eF10 : H10 fo = some (.lst vs) := s10 _ _ (k49 _ _ nfd.1 nfd.2.2 eF)
        have tl := ts_lst (K := K) (ys := vs ++ [.ref t3]) eF10
        have gk := wf_good k hwk
        have dtu : Dp K H6 (.ref tu) (.tuple (hs2.map PyData.str)) := .tup (.inl (.inl e6)) (strs_dp hs2)
        have ptu : pl (.tuple (hs2.map PyData.str)) = true := plA_of fun d hd => by
          obtain ⟨z, hz, rfl⟩ := List.mem_map.mp hd
          exact nm_ok (hns2 z hz)
        refine ⟨fo, _, .ref t3, rfl, rfl, eF10, ?_, ?_⟩
        · exact Nat.lt_of_le_of_lt (show vs.length ≤ 100 by omega) (by decide)
        · refine ⟨_, _, _, vs ++ [.ref t3], rows ++ [⟨nn, hs2, k⟩], rfl, upd_same, by rw [List.length_append, evl]; rfl, ?_, ?_, ?_, ?_, hd1_ts (ts49.trans ((ts_same s10).trans tl)) hpr4, (D9.same s10).upd nfd, ?_⟩
          · rw [List.map_append]
            refine dpAll_append ((ts49.trans ((ts_same s10).trans tl)).dps _ _ plr hvs) (.cons (.tup (tl _ _ (.inl (.inl e10))) (.cons (.str _) (.cons ?_ (.cons ?_ .nil)))) .nil)
            · exact (ts68.trans ((D8.ts k9).trans ((ts_same s10).trans tl))).dp _ _ ptu dtu
            · exact ((ts_same s10).trans tl).dp _ _ (pl_D k gk).1 hv9
          · rw [List.map_append, hrows, List.take_add_one, epr]
            show _ ++ [(nn, hs2.length)] = _
            rw [show hs2.length = mm by omega]
            rfl
          · intro r hr
            rcases List.mem_append.mp hr with z | z
            · exact hok r z
            · rw [List.mem_singleton.mp z]
              exact ⟨⟨hnn, by show hs2.length ≤ 3; omega, hnd2, hns2, hwk, by show fm k ≤ 40; omega, by show dpt k ≤ 8; omega⟩, by show (fm k : Int) ≤ room; omega, by show (dpt k : Int) ≤ deep; omega⟩
          · rw [upd_ne nDf]
            exact s10 _ _ (k49 _ _ nDd.1 nDd.2.2 eD4)
          · intro b o n1 n2 e
            rw [upd_ne (ne_of_none e nfo)]
            exact s10 _ _ (k49 b o n1 n2 (k4 b o n1 n2 e))
      · obtain ⟨x7, x8, x9, vs, rows, rfl, eF, evl, hvs, hrows, hok, eD4, hpr4, D4, k4⟩ := hP
        rw [List.take_of_length_le (by omega)] at hrows
        have ehd : hdsB rows = hds := hrows
        have erl : rows.length = ns.length := by rw [← hdl, ← hrows, List.length_map]
        have hB : okB rows := ⟨by omega, by rw [← hdsB_names, ehd, hnm]; exact hnd, by rw [ehd]; exact fun r hr => (hok r hr).1⟩
        refine ⟨.ref fo, rfl, fo, _, rfl, .inl ⟨.inl (.inl eF), fun tu ntu => ?_⟩⟩
        have s5 : Same H4 (upd H4 tu (.tup vs)) := same_upd ntu
        refine q tu rows _ hB (fun z => ?_) (by omega) (fun r hr => (hok r hr).2) (D4.same s5) (k1.trans (k2.trans (kH.trans (k4.trans (KD.of_same s5))))) (.tup (.inl (.inl upd_same)) ((ts_same s5).dps _ _ (pl_rows fun r hr => (hok r hr).1) hvs))
        rw [z] at erl
        simp at erl
        omega
end
end K2
namespace K2
open PySem PySem.Spec PyProof.Rows L2 K1 K3
open TL (tl joinL)
abbrev s__law_same : Stmt := topS 52
abbrev nm__law_same : List Str := ["_law_one", "_law_other", "_law_heap", "_law_left", "_law_right_here", "_law_k"]
abbrev pm__law_same : List Str := ["_law_one", "_law_other"]
theorem sc__law_same : FnScope nm__law_same pm__law_same (defScope s__law_same) := ⟨rfl, rfl, rfl, by decide +kernel, rfl, by decide +kernel, by decide +kernel⟩
section
variable {K : PySem.W.Frag} {H H1 : Hp}
def Pr (K : PySem.W.Frag) (H : Hp) (v : V) (p : PyData × PyData) : Prop := ∃ t x y, v = .ref t ∧ SqT K H t [x, y] ∧ Dp K H x p.1 ∧ Dp K H y p.2 ∧ pl p.1 = true ∧ pl p.2 = true
theorem Pr.ts {v : V} {p : PyData × PyData} (s : TS K H H1) (h : Pr K H v p) : Pr K H1 v p := by
  obtain ⟨t, x, y, e, ht, hx, hy, p1, p2⟩ := h
  exact ⟨t, x, y, e, s _ _ ht, s.dp _ _ p1 hx, s.dp _ _ p2 hy, p1, p2⟩
abbrev PrA (K : PySem.W.Frag) (H : Hp) : List V → List (PyData × PyData) → Prop := Paired (Pr K H)
theorem PrA.ts {vs : List V} {ps : List (PyData × PyData)} (s : TS K H H1) (h : PrA K H vs ps) : PrA K H1 vs ps := Paired.mapP h fun _ _ z => z.ts s
end
def szP : List (PyData × PyData) → Nat
  | [] => 0
  | p :: ps => sz p.1 + szP ps
theorem szP_append : ∀ xs ys, szP (xs ++ ys) = szP xs + szP ys
  | [], ys => by simp [szP]
  | x :: xs, ys => by simp only [List.cons_append, szP, szP_append xs ys]; omega
theorem len_szP : ∀ ps : List (PyData × PyData), ps.length ≤ szP ps
  | [] => Nat.le_refl _
  | p :: ps => by
    have h1 := sz_pos p.1
    have h2 := len_szP ps
    simp only [List.length_cons, szP]
    omega
theorem szP_zip : ∀ ds es : List PyData, ds.length = es.length → szP (ds.zip es) = szA ds
  | [], [], _ => rfl
  | [], _ :: _, h => by cases h
  | _ :: _, [], h => by cases h
  | d :: ds, e :: es, h => by
    show sz d + szP (ds.zip es) = sz d + szA ds
    rw [szP_zip ds es (Nat.succ.inj h)]
def allEq (ps : List (PyData × PyData)) : Prop := ∀ p ∈ ps, p.1 = p.2
theorem allEq_append {xs ys : List (PyData × PyData)} : allEq (xs ++ ys) ↔ allEq xs ∧ allEq ys := by
  constructor
  · intro h
    exact ⟨fun p m => h p (List.mem_append.mpr (.inl m)), fun p m => h p (List.mem_append.mpr (.inr m))⟩
  · intro h p m
    rcases List.mem_append.mp m with m | m
    · exact h.1 p m
    · exact h.2 p m
theorem allEq_one {p : PyData × PyData} : allEq [p] ↔ p.1 = p.2 := by
  constructor
  · intro h
    exact h p List.mem_cons_self
  · intro h q m
    rw [List.mem_singleton.mp m]
    exact h
theorem allEq_zip : ∀ ds es : List PyData, ds.length = es.length → (allEq (ds.zip es) ↔ ds = es)
  | [], [], _ => by simp [allEq]
  | [], _ :: _, h => by cases h
  | _ :: _, [], h => by cases h
  | d :: ds, e :: es, h => by
    have ih := allEq_zip ds es (Nat.succ.inj h)
    have e1 : ((d :: ds).zip (e :: es)) = [(d, e)] ++ ds.zip es := rfl
    rw [e1, allEq_append, allEq_one, ih]
    simp
/-- what two things that are not both tuples lead to -/
def tFlat (K : PySem.W.Frag) : L2.TS := fun D σ H => ∃ (x y : V) (d e : PyData), σ[3]? = some (some x) ∧ σ[4]? = some (some y) ∧ Dp K H x d ∧ Dp K H y e ∧ pl d = true ∧ pl e = true ∧ (isT d && isT e) = false ∧ (d ≠ e → D.rt (.bl false) H) ∧ (d = e → D.nx σ H)
def WS (K : PySem.W.Frag) (H : Hp) (v u : V) (d0 e0 : PyData) (m : Nat) (σ : L2.St) (H' : Hp) : Prop :=
  ∃ l y3 y4 y5 vs ps, σ = [some v, some u, some (.ref l), y3, y4, y5] ∧ H' l = some (.lst vs) ∧ H l = none ∧ PrA K H' vs ps ∧ szP ps = m ∧ m ≤ 4000000 ∧ (allEq ps ↔ d0 = e0) ∧ Same H H'
theorem pr_data {K : PySem.W.Frag} {H : Hp} : ∀ {vs : List V} {ps : List (PyData × PyData)}, PrA K H vs ps → DpAll K H vs (ps.map fun p => .tuple [p.1, p.2]) ∧ PyData.canLayAll0 (ps.map fun p => .tuple [p.1, p.2]) = true
  | _, _, .nil => ⟨.nil, rfl⟩
  | _, _, .cons ⟨t, x, y, e, ht, hx, hy, p1, p2⟩ r => by
    obtain ⟨a, b⟩ := pr_data r
    subst e
    refine ⟨.cons (.tup ht (.cons hx (.cons hy .nil))) a, ?_⟩
    simp only [List.map_cons, PyData.canLayAll0, PyData.canLay0, canLay _ p1, canLay _ p2, b, Bool.and_self]
section
variable {P : Program} {w : World} {K : PySem.W.Frag} {mg : Str → Option Value} {base : Heap}
def sp__law_same (K : PySem.W.Frag) : Sp := fun vs H Q _ => ∃ (v u : V) (d e : PyData), vs = [v, u] ∧ Dp K H v d ∧ Dp K H u e ∧ pl d = true ∧ pl e = true ∧ sz d ≤ 4000000 ∧ sz e ≤ 4000000 ∧ ∀ H' : Hp, Same H H' → Q (.bl (eqB d e)) H'
theorem ok__law_same {f : Addr} {fd : FuncData} (F : Fun K "_law_same" "_law_same" s__law_same f fd) (m_isinstance : mg "isinstance" = none) (m_tuple : mg "tuple" = none) (m_len : mg "len" = none) (m_range : mg "range" = none) (m_bool : mg "bool" = none) (m_str : mg "str" = none) : FnOk P w K mg base CX0 1 f fd pm__law_same (sp__law_same K) := by
  refine F.ok sc__law_same (fun vs H Q E h => ?_) (fun cdv A outer s H vs Q E hr h => ?_)
  · obtain ⟨v, u, d, e, rfl, _⟩ := h
    rfl
  · obtain ⟨v, u, d0, e0, rfl, hd0, he0, pd0, pe0, sd0, se0, q⟩ := h
    refine ⟨_, pss_cons (ps_set (i := 2) sc__law_same.nd rfl (.inl rfl) (pe_lst (pa_cons (pe_tup (pa_cons (pv 0) (pa_cons (pv 1) pa_nil))) pa_nil)))
      (pss_cons (ps_while PassesOwn.never (pt_cmpR (op_neM hr.units) (pv 2) (pe_lst pa_nil) (nomark _))
        (pss_cons (ps_asg (pe_bm0 PySem.F.plainAttrs_list PySem.F.slot_list_pop PySem.F.type_list_pop mt_pop (pv 2)) (pg_tup (by rfl) (pgs_cons (pg_name (i := 3) sc__law_same.nd rfl (.inr rfl)) (pgs_cons (pg_name (i := 4) sc__law_same.nd rfl (.inr rfl)) pgs_nil))))
        (pss_one (ps_if (PW.pt (pw_and (pt_val (pe_callB call_isi (by rfl) m_isinstance (by decide +kernel) (pa_cons (pv 3) (pa_cons (pe_bltn (v := .ty "tuple") (by rfl) m_tuple (show bootBuiltins "tuple" = some (.type "tuple") by decide +kernel) rfl) pa_nil))))
              (pw_and1 (pt_val (pe_callB call_isi (by rfl) m_isinstance (by decide +kernel) (pa_cons (pv 4) (pa_cons (pe_bltn (v := .ty "tuple") (by rfl) m_tuple (show bootBuiltins "tuple" = some (.type "tuple") by decide +kernel) rfl) pa_nil)))))))
          (pss_cons (ps_if (pt_cmpR op_ne (pe_callB call_len_seq (by rfl) m_len PySem.boot_len (pa_cons (pv 3) pa_nil)) (pe_callB call_len_seq (by rfl) m_len PySem.boot_len (pa_cons (pv 4) pa_nil)) (nomark _)) (pss_one (ps_ret pe_bl)) pss_nil)
          (pss_one (ps_set (i := 2) sc__law_same.nd rfl (.inl rfl) (pe_op op_cat (pv 2)
            (pe_lc (own := [("_law_k", 5)]) (g := gName 5) (tt := tYes) rfl sc__law_same.nd (pi_range1 (by rfl) m_range (pa_cons (pe_callB call_len_seq (by rfl) m_len PySem.boot_len (pa_cons (pv 3) pa_nil)) pa_nil))
              (blkOk_by (N := nm__law_same) (sc := defScope s__law_same) (by decide +kernel)) (fun _ _ _ _ _ => pg_name (i := 5) sc__law_same.nd rfl (Or.inl rfl)) (fun _ _ _ _ _ => pts_nil)
              (fun _ _ _ _ _ => pe_tup (pa_cons (pe_ix (show IxR _ (rIxT K) from ix_tup) (pv 3) (pv 5) (fun _ _ => rfl)) (pa_cons (pe_ix (show IxR _ (rIxT K) from ix_tup) (pv 4) (pv 5) (fun _ _ => rfl)) pa_nil))))))))
          (pss_weak (t' := tFlat K) (pss_one (ps_if (PW.pt (pw_or (pt_cmpR op_isN (pv 3) pe_non (nomark _)) (pw_or1 (pt_cmpR op_isN (pv 4) pe_non (nomark _)))))
              (pss_one (ps_if (PW.pt (pw_or (pt_cmpR op_notN (pv 3) pe_non (nomark _)) (pw_or1 (pt_cmpR op_notN (pv 4) pe_non (nomark _))))) (pss_one (ps_ret pe_bl)) pss_nil))
              (pss_one (ps_if (PW.pt (pw_or (pt_cmpR op_ne (pe_callB call_isi (by rfl) m_isinstance (by decide +kernel) (pa_cons (pv 3) (pa_cons (pe_bltn (v := .ty "bool") (by rfl) m_bool (show bootBuiltins "bool" = some (.type "bool") by decide +kernel) rfl) pa_nil)))
                    (pe_callB call_isi (by rfl) m_isinstance (by decide +kernel) (pa_cons (pv 4) (pa_cons (pe_bltn (v := .ty "bool") (by rfl) m_bool (show bootBuiltins "bool" = some (.type "bool") by decide +kernel) rfl) pa_nil))) (nomark _))
                  (pw_or1 (pt_cmpR op_ne (pe_callB call_isi (by rfl) m_isinstance (by decide +kernel) (pa_cons (pv 3) (pa_cons (pe_bltn (v := .ty "str") (by rfl) m_str (show bootBuiltins "str" = some (.type "str") by decide +kernel) rfl) pa_nil)))
                    (pe_callB call_isi (by rfl) m_isinstance (by decide +kernel) (pa_cons (pv 4) (pa_cons (pe_bltn (v := .ty "str") (by rfl) m_str (show bootBuiltins "str" = some (.type "str") by decide +kernel) rfl) pa_nil))) (nomark _))))) (pss_one (ps_ret pe_bl))
                (pss_one (ps_if (PW.pt (pw_or (pt_val (pe_callB call_isi (by rfl) m_isinstance (by decide +kernel) (pa_cons (pv 3) (pa_cons (pe_bltn (v := .ty "tuple") (by rfl) m_tuple (show bootBuiltins "tuple" = some (.type "tuple") by decide +kernel) rfl) pa_nil))))
                  (pw_or (pt_val (pe_callB call_isi (by rfl) m_isinstance (by decide +kernel) (pa_cons (pv 4) (pa_cons (pe_bltn (v := .ty "tuple") (by rfl) m_tuple (show bootBuiltins "tuple" = some (.type "tuple") by decide +kernel) rfl) pa_nil))))
                    (pw_or1 (pt_cmpR (op_neM hr.units) (pv 3) (pv 4) (nomark _)))))) (pss_one (ps_ret pe_bl)) pss_nil)))))) ?flat)))))
      (pss_one (ps_ret pe_bl))), ?_⟩
    case flat =>
      intro D σ H9 hh
      obtain ⟨x, y, d, e, h3, h4, hx, hy, pd, pe, nt, rf, nx⟩ := hh
      have nx1 := non_iff hx
      have nx2 := non_iff hy
      refine ⟨x, h3, rfl, _, rfl, ite2 (fun n1 => ?_) (fun n1 => ?_)⟩
      · have d1 : d = .none := nx1.mp (of_decide_eq_true n1)
        refine ⟨x, h3, rfl, _, rfl, ite2 (fun m1 => ?_) (fun m1 => ⟨y, h4, rfl, _, rfl, ite2 (fun m2 => ?_) (fun m2 => ?_)⟩)⟩
        · rw [n1] at m1; cases m1
        · exact rf fun z => by
            rw [decide_eq_true (nx2.mpr (z.symm.trans d1))] at m2
            cases m2
        · refine nx ?_
          have : y = .non := by simpa using m2
          rw [d1, nx2.mp this]
      · refine ⟨y, h4, rfl, _, rfl, ite2 (fun n2 => ?_) (fun n2 => ?_)⟩
        · have e1 : e = .none := nx2.mp (of_decide_eq_true n2)
          have hne : d ≠ e := fun z => n1 (decide_eq_true (nx1.mpr (z.trans e1)))
          refine ⟨x, h3, rfl, _, rfl, ite2 (fun m1 => rf hne) (fun m1 => ?_)⟩
          exact absurd (by simpa using m1 : x = .non) (fun z => n1 (decide_eq_true z))
        · have dn : d ≠ .none := fun z => n1 (decide_eq_true (nx1.mpr z))
          have en : e ≠ .none := fun z => n2 (decide_eq_true (nx2.mpr z))
          refine ⟨x, h3, x, _, _, _, isB d, rfl, .ty "bool", dp_ty hx pd, kit_ty (kB d), y, h4, y, _, _, _, isB e, rfl, .ty "bool", dp_ty hy pe, kit_ty (kB e), rfl, _, rfl, ite2 (fun b1 => rf ?_) (fun b1 => ?_)⟩
          · intro z; rw [z] at b1; simp at b1
          refine ⟨x, h3, x, _, _, _, isS d, rfl, .ty "str", dp_ty hx pd, kit_ty (kS d), y, h4, y, _, _, _, isS e, rfl, .ty "str", dp_ty hy pe, kit_ty (kS e), rfl, _, rfl, ite2 (fun b2 => rf ?_) (fun b2 => ?_)⟩
          · intro z; rw [z] at b2; simp at b2
          have hB : isB d = isB e := by simpa using b1
          refine ⟨x, h3, x, _, _, _, isT d, rfl, .ty "tuple", dp_ty hx pd, kit_ty (kT d), isT d, rfl, ite2 (fun c1 => rf ?_) (fun c1 => ?_)⟩
          · intro z; rw [z] at nt c1; rw [c1] at nt; cases nt
          refine ⟨y, h4, y, _, _, _, isT e, rfl, .ty "tuple", dp_ty hy pe, kit_ty (kT e), isT e, rfl, ite2 (fun c2 => rf ?_) (fun c2 => ?_)⟩
          · intro z; rw [z] at c1; exact c1 c2
          have fl := flat_same d e pd pe dn en hB (Bool.eq_false_iff.mpr c1) (Bool.eq_false_iff.mpr c2)
          refine ⟨x, h3, y, h4, d, e, hx, hy, canLay d pd, canLay e pe, flat_min pd pe nt, _, rfl, ite2 (fun b3 => rf ?_) (fun b3 => nx ?_)⟩
          · intro z; rw [fl.mpr z] at b3; cases b3
          · exact fl.mp (by simpa using b3)
    refine ⟨v, rfl, u, rfl, (by show 2 ≤ sizeLine; decide), fun t nt => ⟨(by show 1 ≤ sizeLine; decide), fun l nl => ?_⟩⟩
    generalize hH1 : upd H t (HO.tup [v, u]) = H1 at nl
    have s1 : Same H H1 := by rw [← hH1]; exact same_upd nt
    have c1 : H1 t = some (.tup [v, u]) := by rw [← hH1, upd_same]
    refine ⟨WS K H v u d0 e0, ⟨sz d0, l, none, none, none, [.ref t], [(d0, e0)], rfl, upd_same, s1.free nl, .cons ⟨t, v, u, rfl, ?_, ?_, ?_, pd0, pe0⟩ .nil, ?_, sd0, allEq_one, s1.trans (same_upd nl)⟩, fun m σ H' hW => ?_⟩
    · exact .inl (.inl (by rw [upd_ne (ne_of_none c1 nl)]; exact c1))
    · exact TS.dp (ts_new nl) _ _ pd0 (TS.dp (ts_same s1) _ _ pd0 hd0)
    · exact TS.dp (ts_new nl) _ _ pe0 (TS.dp (ts_same s1) _ _ pe0 he0)
    · show sz d0 + 0 = sz d0
      omega
    · clear nl c1 s1 hH1 nt
      obtain ⟨l, y3, y4, y5, vs, ps, rfl, hl, nl0, hpr, hm, hmm, hall, s0⟩ := hW
      obtain ⟨hdat, hcan⟩ := pr_data hpr
      refine ⟨.ref l, rfl, Nat.zero_le _, fun z nz => ?_⟩
      have sz1 : Same H' (upd H' z (.lst [])) := same_upd nz
      have cz : (upd H' z (.lst [])) z = some (.lst []) := upd_same
      have tz : TS K H' (upd H' z (.lst [])) := ts_new nz
      generalize hHz : upd H' z (HO.lst []) = Hz at sz1 cz tz
      refine ⟨.list (ps.map fun p : PyData × PyData => PyData.tuple [p.1, p.2]), .list [], .lst (.inl (.inl (sz1 _ _ hl))) (pr_data (PrA.ts tz hpr)).1, .lst (.inl (.inl cz)) .nil, hcan, rfl, ?_, _, rfl, ite2 (fun c => ?_) (fun c => ?_)⟩
      · refine Nat.le_trans (Nat.min_le_right _ _) ?_
        decide
      · rw [eqv_nil] at c
        have hne : vs ≠ [] := fun z => by
          subst z
          cases hpr
          cases c
        have hl' := sz1 _ _ hl
        obtain ⟨vs', vl, ps', pp, rfl, rfl, hpr', t2, x, y, rfl, ht2, hx, hy, pd, pe⟩ := paired_last (PrA.ts tz hpr) hne
        obtain ⟨d, e⟩ := pp
        refine ⟨fun σ' H2 => ∃ m', m' < m ∧ WS K H v u d0 e0 m' σ' H2, fun _ _ h => h, ?_⟩
        refine ⟨.ref l, rfl, .inl ⟨rfl, _, .inl (.inl hl')⟩, l, _, .ref t2, rfl, rfl, hl', (by simp), ?_⟩
        rw [List.dropLast_concat]
        have ts2 : TS K Hz (upd Hz l (.lst vs')) := ts_lst hl'
        generalize hH2 : upd Hz l (HO.lst vs') = H2 at ts2 ⊢
        have cl2 : H2 l = some (.lst vs') := by rw [← hH2, upd_same]
        have s02 : Same H H2 := fun b o eb => by rw [← hH2, upd_ne (ne_of_none eb nl0)]; exact sz1 _ _ (s0 b o eb)
        have hx2 : Dp K H2 x d := ts2.dp _ _ pd hx
        have hy2 : Dp K H2 y e := ts2.dp _ _ pe hy
        have pr2 : PrA K H2 vs' ps' := PrA.ts ts2 hpr'
        have flat : (isT d && isT e) = false → ∀ (D : Ends), D.rt = Q → (D.nx = fun σ' H2 => ∃ m', m' < m ∧ WS K H v u d0 e0 m' σ' H2) → tFlat K D [some v, some u, some (.ref l), some x, some y, y5] H2 := fun nt D r1 r2 => by
          refine ⟨x, y, d, e, rfl, rfl, hx2, hy2, pd, pe, nt, fun ne => ?_, fun eq => ?_⟩
          · have hn : d0 ≠ e0 := fun z => ne (allEq_one.mp (allEq_append.mp (hall.mpr z)).2)
            have := q H2 s02
            rw [eqB_false hn] at this
            rw [r1]
            exact this
          · rw [r2]
            refine ⟨szP ps', ?_, l, _, _, _, vs', ps', rfl, cl2, nl0, pr2, rfl, ?_, ?_, s02⟩
            · rw [← hm, szP_append]
              have := sz_pos d
              simp only [szP]
              omega
            · rw [szP_append] at hm
              omega
            · rw [← hall, allEq_append, allEq_one]
              exact ⟨fun z => ⟨z, eq⟩, fun z => z.1⟩
        refine ⟨t2, [x, y], rfl, ts2 _ _ ht2, rfl, x, [y], rfl, y, [], rfl, rfl, ?_⟩
        refine ⟨x, rfl, x, _, _, _, isT d, rfl, .ty "tuple", dp_ty hx2 pd, kit_ty (kT d), isT d, rfl, ite2 (fun a1 => ?_) (fun a1 => flat (by rw [Bool.eq_false_iff.mpr a1, Bool.false_and]) _ rfl rfl)⟩
        refine ⟨y, rfl, y, _, _, _, isT e, rfl, .ty "tuple", dp_ty hy2 pe, kit_ty (kT e), isT e, rfl, ite2 (fun a2 => ?_) (fun a2 => flat (by rw [Bool.eq_false_iff.mpr a2, Bool.and_false]) _ rfl rfl)⟩
        cases d with
        | tuple ds =>
          cases e with
          | tuple es =>
            cases hx2 with
            | @tup a xs _ hsx hax =>
              cases hy2 with
              | @tup b ys _ hsy hay =>
                have lx := dpAll_len hax
                have ly := dpAll_len hay
                refine ⟨.ref a, rfl, a, xs, rfl, .inr hsx, .ref b, rfl, b, ys, rfl, .inr hsy, rfl, _, rfl, ite2 (fun b1 => ?_) (fun b1 => ?_)⟩
                · have ne : d0 ≠ e0 := fun z => by
                    have h1 := allEq_one.mp (allEq_append.mp (hall.mpr z)).2
                    have h2 : ds = es := PyData.tuple.inj h1
                    rw [lx, ly, h2] at b1
                    simp at b1
                  have := q H2 s02
                  rw [eqB_false ne] at this
                  exact this
                · have hl2 : xs.length = ys.length := by
                    have z : V.int (xs.length : Nat) = V.int (ys.length : Nat) := by simpa using b1
                    have := V.int.inj z
                    omega
                  have hmm2 : szP ps' + (szA ds + 1) = m := by
                    rw [← hm, szP_append]
                    rfl
                  have hlp := len_szP ps'
                  have hlv := paired_len pr2
                  have hls := len_szA ds
                  have hzl : (ds.zip es).length = xs.length := by rw [List.length_zip]; omega
                  refine ⟨.ref l, rfl, .ref a, rfl, a, xs, rfl, .inr hsx, (xs.length : Nat), rfl, by omega, by omega, fun D hD => lc_range (lo := 0) (n := ((xs.length : Nat) : Int).toNat) (fun i H3 => ∃ ws : List V, ws.length = i ∧ PrA K H3 ws ((ds.zip es).take i) ∧ H3 D = some (.lst ws) ∧ Same H2 H3) ⟨[], rfl, .nil, upd_same, same_upd hD⟩ (fun i H3 hi hP => ?_) (fun H3 hP => ?_)⟩
                  · obtain ⟨ws, el, hw, eD, s3⟩ := hP
                    rw [Int.toNat_natCast] at hi
                    have gx : xs[i]? = some xs[i] := List.getElem?_eq_getElem hi
                    have gy : ys[i]? = some ys[i] := List.getElem?_eq_getElem (by omega)
                    obtain ⟨di, k1, k2⟩ := dpAll_get hax gx
                    obtain ⟨ei', k3, k4⟩ := dpAll_get hay gy
                    have q1 : pl di = true := plA_mem pd (List.mem_of_getElem? k1)
                    have q2 : pl ei' = true := plA_mem pe (List.mem_of_getElem? k3)
                    have hz : (ds.zip es)[i]? = some (di, ei') := by
                      rw [List.getElem?_zip_eq_some]
                      exact ⟨k1, k3⟩
                    have ts3 : TS K H2 H3 := ts_same s3
                    refine ⟨rfl, ?_⟩
                    refine iteT (B := ∃ ws : List V, ws.length = i + 1 ∧ PrA K H3 ws ((ds.zip es).take (i + 1)) ∧ H3 D = some (.lst ws) ∧ Same H2 H3) ?_
                    refine ⟨.ref a, rfl, _, rfl, a, xs, _, _, rfl, rfl, ts3 _ _ hsx, atI_of2 (by omega) gx, .ref b, rfl, _, rfl, b, ys, _, _, rfl, rfl, ts3 _ _ hsy, atI_of2 (by omega) gy, (by show 2 ≤ sizeLine; decide), fun tp ntp => ?_⟩
                    have eD2 := same_upd (o := HO.tup [xs[i], ys[i]]) ntp _ _ eD
                    have ts4 : TS K H3 (upd H3 tp (.tup [xs[i], ys[i]])) := ts_new ntp
                    have ts5 : TS K (upd H3 tp (.tup [xs[i], ys[i]])) (upd (upd H3 tp (.tup [xs[i], ys[i]])) D (.lst (ws ++ [.ref tp]))) := ts_lst eD2
                    refine ⟨_, eD2, ?_, ws ++ [.ref tp], ?_, ?_, upd_same, ?_⟩
                    · exact Nat.lt_of_le_of_lt (show ws.length ≤ 4000000 by omega) (by decide)
                    · rw [List.length_append, el]; rfl
                    · rw [List.take_add_one, hz]
                      refine paired_append (PrA.ts (ts4.trans ts5) hw) (.cons ⟨tp, _, _, rfl, ts5 _ _ (.inl (.inl upd_same)), ?_, ?_, q1, q2⟩ .nil)
                      · exact (ts3.trans (ts4.trans ts5)).dp _ _ q1 k2
                      · exact (ts3.trans (ts4.trans ts5)).dp _ _ q2 k4
                    · intro b' o eb
                      rw [upd_ne (ne_of_none eb hD), upd_ne (ne_of_none (s3 _ _ eb) ntp)]
                      exact s3 b' o eb
                  · obtain ⟨ws, el, hw, eD, s3⟩ := hP
                    rw [Int.toNat_natCast, ← hzl] at el hw
                    rw [List.take_length] at hw
                    refine ⟨l, D, vs', ws, rfl, rfl, s3 _ _ cl2, eD, ?_, fun p np => ?_⟩
                    · exact Nat.le_trans (show vs'.length + ws.length ≤ 4000000 by omega) (by decide)
                    · have ts3 : TS K H2 H3 := ts_same s3
                      refine ⟨szP ps' + szA ds, by omega, p, _, _, _, vs' ++ ws, ps' ++ ds.zip es, rfl, upd_same, (s02.trans s3).free np, paired_append (PrA.ts (ts3.trans (ts_new np)) pr2) (PrA.ts (ts_new np) hw), ?_, by omega, ?_, ?_⟩
                      · rw [szP_append, szP_zip ds es (by omega)]
                      · rw [← hall, allEq_append, allEq_append, allEq_zip ds es (by omega), allEq_one]
                        exact ⟨fun z => ⟨z.1, by rw [z.2]⟩, fun z => ⟨z.1, PyData.tuple.inj z.2⟩⟩
                      · exact (s02.trans s3).trans (same_upd np)
          | _ => cases a2
        | _ => cases a1
      · rw [eqv_nil] at c
        have hemp : ps = [] := by
          cases ps with
          | nil => rfl
          | cons _ _ => exact absurd rfl c
        subst hemp
        have := q Hz (s0.trans sz1)
        rw [eqB_true (hall.mp fun _ h => nomatch h)] at this
        exact this
end
end K2
namespace K2
open PySem PySem.Spec PyProof.Rows L2 K1 K3
open TL (tl joinL)
abbrev s_shown : Stmt := topS 16
abbrev nm_shown : List Str := ["kind", "word", "rows", "name", "each"]
abbrev pm_shown : List Str := ["kind"]
theorem sc_shown : FnScope nm_shown pm_shown (defScope s_shown) := ⟨rfl, rfl, rfl, by decide +kernel, rfl, by decide +kernel, by decide +kernel⟩
section
variable {P : Program} {w : World} {K : PySem.W.Frag} {mg : Str → Option Value} {base : Heap}
def spSh (K : PySem.W.Frag) : Nat → Sp
  | 0 => fun _ _ _ _ => False
  | n + 1 => fun vs H Q _ => ∃ (v : V) (k : Kd), vs = [v] ∧ Dp K H v (toD k) ∧ good k ∧ dpt k ≤ n ∧ fm k ≤ 10000 ∧ ∀ (y : Str) (H' : Hp), Same H H' → tl y = cd k → Q (.str y) H'
def tePart (K : PySem.W.Frag) (n : Nat) : TE := fun σ H Q => tJs [tFmt (tVar 3), tC (.str (Str.ofString " ")), tFmt (tCall (spSh K n) [] E0 (tCons (tVar 4) tNil))] Str.empty σ H fun out H1 => Q (.str out) H1
theorem ok_shown {f pw : Addr} {fd : FuncData} (F : Fun K "shown" "shown" s_shown f fd) (gS : mg "shown" = some (.ref f)) (bS : Binds K fd ["kind"] []) (gW : mg "PART_WORDS" = some (.ref pw)) (hW : ∀ H : Hp, SqT K H pw [.str (S "record"), .str (S "variant")]) :
    ∀ n : Nat, FnOk P w K mg base CX0 (n + 1) f fd ["kind"] (spSh K n) := by
  intro n
  induction n with
  | zero => exact F.ok sc_shown (fun vs H Q E h => h.elim) (fun cdv A outer s H vs Q E hr h => h.elim)
  | succ n ih =>
    refine F.ok sc_shown (fun vs H Q E h => ?_) (fun cdv A outer s H vs Q E hr h => ?_)
    · obtain ⟨v, k, rfl, _⟩ := h
      rfl
    · obtain ⟨v, k, rfl, hv, g, hdp, hfm, q⟩ := h
      refine ⟨_, pss_cons (ps_set (i := 1) sc_shown.nd rfl (.inl rfl) (pe_ix ix_tup (pv 0) pe_int (fun _ _ => rfl)))
        (pss_cons (ps_if (PW.pt (pw_or (pt_cmpR op_eq (pv 1) pe_str (nomark _)) (pw_or1 (pt_cmpR op_eq (pv 1) pe_str (nomark _)))))
          (pss_one (ps_ret (pe_joined (.cons (pe_fmt (pv 1)) (.cons (pe_fmt (pe_ix ix_tup (pv 0) pe_int (fun _ _ => rfl))) .nil))))) pss_nil)
        (pss_cons (ps_if (pt_cmpR op_in_seq (pv 1) (pe_glob (v := .ref pw) (by rfl) gW rfl) (by rfl))
          (pss_cons (ps_set (i := 2) sc_shown.nd rfl (.inl rfl) (pe_join pe_str
            (pe_lc (own := [("name", 3), ("each", 4)]) (g := gTup K 2 (gCons (gName 3) (gCons (gName 4) gNil))) (tt := tYes) rfl sc_shown.nd (pi_tup (pe_ix ix_tup (pv 0) pe_int (fun _ _ => rfl))) (blkOk_by (N := nm_shown) (sc := defScope s_shown) (by decide +kernel))
              (fun _ _ _ _ _ => pg_tup (by rfl) (pgs_cons (pg_name (i := 3) sc_shown.nd rfl (Or.inl rfl)) (pgs_cons (pg_name (i := 4) sc_shown.nd rfl (Or.inl rfl)) pgs_nil))) (fun _ _ _ _ _ => pts_nil)
              (fun _ _ _ _ _ => pe_joined (.cons (pe_fmt (pv 3)) (.cons pe_str (.cons (pe_fmt (pe_call ih hr (by rfl) gS F.kp bS .nil pass0 (pa_cons (pv 4) pa_nil))) .nil)))))))
          (pss_one (ps_ret (pe_joined (.cons (pe_fmt (pv 1)) (.cons pe_str (.cons (pe_fmt (pv 2)) (.cons pe_str .nil)))))))) pss_nil)
        (pss_cons (ps_if (pt_cmpR op_eq (pv 1) pe_str (nomark _))
          (pss_one (ps_ret (pe_joined (.cons pe_str (.cons (pe_fmt (pe_ix ix_tup (pv 0) pe_int (fun _ _ => rfl))) (.cons pe_str (.cons (pe_fmt (pe_call ih hr (by rfl) gS F.kp bS .nil pass0 (pa_cons (pe_ix ix_tup (pv 0) pe_int (fun _ _ => rfl)) pa_nil))) .nil))))))) pss_nil)
        (pss_cons (ps_if (PW.pt (pw_or (pt_cmpR op_eq (pv 1) pe_str (nomark _)) (pw_or1 (pt_cmpR op_eq (pv 1) pe_str (nomark _)))))
          (pss_one (ps_ret (pe_joined (.cons (pe_fmt (pv 1)) (.cons pe_str (.cons (pe_fmt (pe_call ih hr (by rfl) gS F.kp bS .nil pass0 (pa_cons (pe_ix ix_tup (pv 0) pe_int (fun _ _ => rfl)) pa_nil))) .nil)))))) pss_nil)
        (pss_cons (ps_if (pt_cmpR op_eq (pv 1) pe_str (nomark _))
          (pss_cons (ps_set (i := 2) sc_shown.nd rfl (.inl rfl) (pe_join pe_str
            (pe_lc (own := [("each", 4)]) (g := gName 4) (tt := tYes) rfl sc_shown.nd (pi_tup (pe_ix ix_tup (pv 0) pe_int (fun _ _ => rfl))) (blkOk_by (N := nm_shown) (sc := defScope s_shown) (by decide +kernel))
              (fun _ _ _ _ _ => pg_name (i := 4) sc_shown.nd rfl (Or.inl rfl)) (fun _ _ _ _ _ => pts_nil)
              (fun _ _ _ _ _ => pe_call ih hr (by rfl) gS F.kp bS .nil pass0 (pa_cons (pv 4) pa_nil)))))
          (pss_one (ps_ret (pe_joined (.cons (pe_fmt (pe_ix ix_tup (pv 0) pe_int (fun _ _ => rfl))) (.cons pe_str (.cons (pe_fmt (pv 2)) (.cons pe_str .nil)))))))) pss_nil)
        (pss_cons (ps_if (pt_cmpR op_eq (pv 1) pe_str (nomark _)) (pss_one (ps_ret (pe_joined (.cons pe_str (.cons (pe_fmt (pe_ix ix_tup (pv 0) pe_int (fun _ _ => rfl))) .nil))))) pss_nil)
        (pss_one (ps_ret (pv 1))))))))), ?_⟩
      obtain ⟨a, ws, rfl, hs, ha⟩ := dk hv
      have hcl := cd_len k g
      refine ⟨.ref a, rfl, a, _, 0, .str (S (wd k)), rfl, rfl, hs, atI_nat (j := 0) rfl, ?_⟩
      cases k with
      | num i b =>
        obtain ⟨x, rfl, hx⟩ := all1 ha
        obtain rfl := dInt hx
        have fin : ∀ D : Ends, D.rt = Q → tRet (fun σ H Q => tJs [tFmt (tVar 1), tFmt (tOp (rIxT K) (tVar 0) (tC (.int 1)))] Str.empty σ H fun out H1 => Q (.str out) H1) D [some (.ref a), some (.str (S (wN i))), none, none, none] H := fun D hD => by
          have l1 := lN i
          have l2 := (dg_ok g).2.2
          refine ⟨.str (S (wN i)), rfl, .inl ⟨_, rfl, fit (show (cW (wN i)).length ≤ 1000000 by omega), _, rfl, fit ?_, .ref a, rfl, a, _, 1, .int b, rfl, rfl, hs, atI_nat (j := 1) rfl, .inr ⟨b, rfl, small_num g, _, rfl, fit ?_, ?_⟩⟩⟩
          · rw [tl_app, tl_emp]
            show (cW (wN i)).length ≤ _
            omega
          · rw [tl_app, tl_app, tl_emp, List.nil_append, tl_num, List.length_append]
            show (cW (wN i)).length + _ ≤ _
            omega
          · rw [hD]
            refine q _ H (Same.refl _) ?_
            rw [tl_app, tl_app, tl_emp, List.nil_append, tl_num]
            rfl
        cases i with
        | false => exact ⟨_, rfl, rfl, _, rfl, tT rfl (fin _ rfl)⟩
        | true => exact ⟨_, rfl, rfl, _, rfl, tF (show S "int" ≠ S "nat" by decide +kernel) ⟨_, rfl, rfl, _, rfl, tT rfl (fin _ rfl)⟩⟩
      | truth =>
        refine ⟨_, rfl, rfl, _, rfl, tF (show S "truth" ≠ S "nat" by decide +kernel) ⟨_, rfl, rfl, _, rfl, tF (show S "truth" ≠ S "int" by decide +kernel) ⟨_, rfl, pw, _, rfl, .inr (hW _), rfl, rfl, _, rfl, cF (show ¬ (if false = true then !inV (.str (S "truth")) [.str (S "record"), .str (S "variant")] else inV (.str (S "truth")) [.str (S "record"), .str (S "variant")]) = true by decide +kernel) ⟨_, rfl, rfl, _, rfl, tF (show S "truth" ≠ S "row" by decide +kernel) ⟨_, rfl, rfl, _, rfl, tF (show S "truth" ≠ S "maybe" by decide +kernel) ⟨_, rfl, rfl, _, rfl, tF (show S "truth" ≠ S "box" by decide +kernel) ⟨_, rfl, rfl, _, rfl, tF (show S "truth" ≠ S "use" by decide +kernel) ⟨_, rfl, rfl, _, rfl, tF (show S "truth" ≠ S "hole" by decide +kernel) ?_⟩⟩⟩⟩⟩⟩⟩⟩
        exact ⟨_, rfl, q _ H (Same.refl _) rfl⟩
      | parts v ps =>
        obtain ⟨x, rfl, hx⟩ := all1 ha
        obtain ⟨b, vs, rfl, hsb, hvs⟩ := dTup hx
        have hgp : goodP ps := g
        have hfp : fmP ps + 1 ≤ 10000 := hfm
        have hdpp : dptP ps + 1 ≤ n := hdp
        have hsum := cd_lenP ps hgp
        have hjl := joinL_len (lsP ps)
        have hlen : vs.length = (lsP ps).length := by rw [dpAll_len hvs, psD_len]
        have l1 := lP v
        have fin : ∀ D : Ends, D.rt = Q → tSeq (tAsg (tM1 (fun x xs H Q => ∃ a p, ∃ ys : List Str, x = .str a ∧ xs = [.ref p] ∧ (SqL K H p (ys.map V.str) ∨ SqT K H p (ys.map V.str)) ∧
            (ys.map (·.length)).sum + ys.length * a.length ≤ 16777216 ∧ Q (.str (Txt.join a ys)) H) (tC (.str (Str.ofString ", "))) (tLc (iTup K (tOp (rIxT K) (tVar 0) (tC (.int 1)))) (gTup K 2 (gCons (gName 3) (gCons (gName 4) gNil))) tYes
              (tePart K n) [3, 4])) (gName 2))
            (tRet (fun σ H Q => tJs [tFmt (tVar 1), tC (.str (Str.ofString "(")), tFmt (tVar 2), tC (.str (Str.ofString ")"))] Str.empty σ H fun out H1 => Q (.str out) H1)) D [some (.ref a), some (.str (S (wP v))), none, none, none] H := fun D hD => by
          refine ⟨⟨_, rfl⟩, .ref a, rfl, a, _, 1, .ref b, rfl, rfl, hs, atI_nat (j := 1) rfl, b, rfl, ⟨_, hsb⟩, fun Dd hDd => lc_tup (xs := vs) (fun i H' => ∃ ys : List Str, ys.length = i ∧ TxA ys ((lsP ps).take i) ∧ H' Dd = some (.lst (ys.map V.str)) ∧ Same H H') ⟨[], rfl, rfl, upd_same, same_upd hDd⟩ (fun i H' _ hP => ?_) (fun i x H' hx hP => ?_) (fun H' hP => ?_)⟩
          · obtain ⟨_, _, _, _, sm⟩ := hP
            exact ts_same sm _ _ hsb
          · obtain ⟨ys, el, htx, eD, sm⟩ := hP
            obtain ⟨t, u, nm, k1, rfl, ht, hu, hnm, gk, hdk, hfk, hls⟩ := lsP_get (TS.dps (ts_same sm) _ _ (pl_P ps hgp).1 hvs) hgp hx
            have hcl1 := cd_len k1 gk
            have hnl := hnm.most
            refine ⟨t, [.str nm, u], rfl, ht, rfl, .str nm, [u], rfl, u, [], rfl, rfl, rfl, ?_⟩
            refine iteT (B := ∃ ys : List Str, ys.length = i + 1 ∧ TxA ys ((lsP ps).take (i + 1)) ∧ H' Dd = some (.lst (ys.map V.str)) ∧ Same H H') ?_
            cases n with
            | zero => omega
            | succ n =>
              refine ⟨.str nm, rfl, .inl ⟨_, rfl, fit (by omega), _, rfl, fit ?_, _, rfl, fit ?_, u, rfl, u, k1, rfl, hu, gk, by omega, by omega, fun y H2 s2 hy => .inl ⟨y, rfl, fit (by rw [hy]; omega), y, rfl, fit ?_, ?_⟩⟩⟩
              · rw [tl_app, tl_emp, List.nil_append]; omega
              · rw [tl_app, tl_app, tl_emp, List.nil_append, List.length_append]
                show _ + (cW " ").length ≤ _
                rw [show (cW " ").length = 1 by decide +kernel]; omega
              · rw [tl_app, tl_app, tl_app, tl_emp, List.nil_append, List.length_append, List.length_append, hy]
                show _ + (cW " ").length + _ ≤ _
                rw [show (cW " ").length = 1 by decide +kernel]; omega
              · refine ⟨_, s2 _ _ eD, ?_, ys ++ [Str.empty ++ nm ++ Str.ofString " " ++ y], ?_, ?_, ?_, ?_⟩
                · rw [List.length_map]
                  have := sumL_len (lsP ps)
                  have hi : i < vs.length := (List.getElem?_eq_some_iff.mp hx).1
                  exact Nat.lt_of_le_of_lt (show ys.length ≤ 1000000 by omega) (by decide)
                · rw [List.length_append, el]; rfl
                · unfold TxA at htx ⊢
                  rw [List.take_add_one, hls, List.map_append, htx]
                  refine congrArg _ ?_
                  show [tl _] = [_]
                  rw [tl_app, tl_app, tl_app, tl_emp, List.nil_append, hy, List.append_assoc]
                  rfl
                · rw [upd_same, List.map_append]; rfl
                · intro b' o eb
                  rw [upd_ne (ne_of_none eb hDd)]
                  exact s2 _ _ (sm b' o eb)
          · obtain ⟨ys, el, htx, eD, sm⟩ := hP
            rw [hlen, List.take_length] at htx
            have hj := txA_join htx
            have hsu := txA_sum htx
            refine ⟨_, Dd, ys, rfl, rfl, .inl (.inl (.inl eD)), ?_, ?_⟩
            · show _ + ys.length * 2 ≤ _
              omega
            · refine ⟨.str (S (wP v)), rfl, .inl ⟨_, rfl, fit (show (cW (wP v)).length ≤ 1000000 by omega), _, rfl, fit ?_, _, rfl, fit ?_, .str _, rfl, .inl ⟨_, rfl, fit ?_, _, rfl, fit ?_, _, rfl, fit ?_, ?_⟩⟩⟩
              · rw [tl_app, tl_emp, List.nil_append]
                show (cW (wP v)).length ≤ _
                omega
              · rw [tl_app, tl_app, tl_emp, List.nil_append, List.length_append]
                show (cW (wP v)).length + (cW "(").length ≤ _
                rw [show (cW "(").length = 1 by decide +kernel]; omega
              · rw [hj]; omega
              · rw [tl_app, tl_app, tl_app, tl_emp, List.nil_append, List.length_append, List.length_append, hj]
                show (cW (wP v)).length + (cW "(").length + _ ≤ _
                rw [show (cW "(").length = 1 by decide +kernel]; omega
              · rw [tl_app, tl_app, tl_app, tl_app, tl_emp, List.nil_append, List.length_append, List.length_append, List.length_append, hj]
                show (cW (wP v)).length + (cW "(").length + _ + (cW ")").length ≤ _
                rw [show (cW "(").length = 1 by decide +kernel, show (cW ")").length = 1 by decide +kernel]; omega
              · rw [hD]
                refine q _ H' sm ?_
                rw [tl_app, tl_app, tl_app, tl_app, tl_emp, List.nil_append, hj]
                show cW (wP v) ++ cW "(" ++ _ ++ cW ")" = cW (wP v) ++ (40 :: (_ ++ [41]))
                rw [show cW "(" = [40] by decide +kernel, show cW ")" = [41] by decide +kernel]
                simp
        cases v with
        | false => exact ⟨_, rfl, rfl, _, rfl, tF (show S "record" ≠ S "nat" by decide +kernel) ⟨_, rfl, rfl, _, rfl, tF (show S "record" ≠ S "int" by decide +kernel) ⟨_, rfl, pw, _, rfl, .inr (hW _), rfl, rfl, _, rfl, cT (show (if false = true then !inV (.str (S "record")) [.str (S "record"), .str (S "variant")] else inV (.str (S "record")) [.str (S "record"), .str (S "variant")]) = true by decide +kernel) (fin _ rfl)⟩⟩⟩
        | true => exact ⟨_, rfl, rfl, _, rfl, tF (show S "variant" ≠ S "nat" by decide +kernel) ⟨_, rfl, rfl, _, rfl, tF (show S "variant" ≠ S "int" by decide +kernel) ⟨_, rfl, pw, _, rfl, .inr (hW _), rfl, rfl, _, rfl, cT (show (if false = true then !inV (.str (S "variant")) [.str (S "record"), .str (S "variant")] else inV (.str (S "variant")) [.str (S "record"), .str (S "variant")]) = true by decide +kernel) (fin _ rfl)⟩⟩⟩
      | row m k1 =>
        obtain ⟨x, y, rfl, hx, hy⟩ := all2 ha
        obtain rfl := dInt hx
        have gk : good k1 := g.2
        have hc1 := cd_len k1 gk
        have hdpp : dpt k1 + 1 ≤ n := hdp
        have hfp : fm k1 + 1 ≤ 10000 := hfm
        have l2 := (dg_ok (b16 g.1)).2.2
        refine ⟨_, rfl, rfl, _, rfl, tF (show S "row" ≠ S "nat" by decide +kernel) ⟨_, rfl, rfl, _, rfl, tF (show S "row" ≠ S "int" by decide +kernel) ⟨_, rfl, pw, _, rfl, .inr (hW _), rfl, rfl, _, rfl, cF (show ¬ (if false = true then !inV (.str (S "row")) [.str (S "record"), .str (S "variant")] else inV (.str (S "row")) [.str (S "record"), .str (S "variant")]) = true by decide +kernel) ⟨_, rfl, rfl, _, rfl, tT rfl ?_⟩⟩⟩⟩
        cases n with
        | zero => omega
        | succ n =>
          have e4 : (cW "row ").length = 4 := by decide +kernel
          have e1 : (cW " ").length = 1 := by decide +kernel
          refine ⟨_, rfl, fit ?_, .ref a, rfl, a, _, 1, .int m, rfl, rfl, hs, atI_nat (j := 1) rfl, .inr ⟨m, rfl, small_num (b16 g.1), _, rfl, fit ?_, _, rfl, fit ?_, .ref a, rfl, a, _, 2, y, rfl, rfl, hs, atI_nat (j := 2) rfl, y, k1, rfl, hy, gk, by omega, by omega, fun z H2 s2 hz => .inl ⟨z, rfl, fit (by rw [hz]; omega), z, rfl, fit ?_, q _ H2 s2 ?_⟩⟩⟩
          · rw [tl_app, tl_emp, List.nil_append]
            show (cW "row ").length ≤ _
            omega
          · rw [tl_app, tl_app, tl_emp, List.nil_append, List.length_append, tl_num]
            show (cW "row ").length + _ ≤ _
            omega
          · rw [tl_app, tl_app, tl_app, tl_emp, List.nil_append, List.length_append, List.length_append, tl_num]
            show (cW "row ").length + _ + (cW " ").length ≤ _
            omega
          · rw [tl_app, tl_app, tl_app, tl_app, tl_emp, List.nil_append, List.length_append, List.length_append, List.length_append, tl_num, hz]
            show (cW "row ").length + _ + (cW " ").length + _ ≤ _
            omega
          · rw [tl_app, tl_app, tl_app, tl_app, tl_emp, List.nil_append, tl_num, hz]
            show cW "row " ++ _ ++ cW " " ++ _ = cW "row" ++ (32 :: (_ ++ (32 :: _)))
            rw [show cW "row " = cW "row" ++ [32] by decide +kernel, show cW " " = [32] by decide +kernel]
            simp
      | one b k1 =>
        obtain ⟨y, rfl, hy⟩ := all1 ha
        have gk : good k1 := g
        have hc1 := cd_len k1 gk
        have hdpp : dpt k1 + 1 ≤ n := hdp
        have hfp : fm k1 + 1 ≤ 10000 := hfm
        have l1 := lO b
        have e1 : (cW " ").length = 1 := by decide +kernel
        have fin : ∀ D : Ends, D.rt = Q → tRet (fun σ H Q => tJs [tFmt (tVar 1), tC (.str (Str.ofString " ")), tFmt (tCall (spSh K n) [] E0 (tCons (tOp (rIxT K) (tVar 0) (tC (.int 1))) tNil))] Str.empty σ H fun out H1 => Q (.str out) H1) D [some (.ref a), some (.str (S (wO b))), none, none, none] H := fun D hD => by
          cases n with
          | zero => omega
          | succ n =>
            refine ⟨.str (S (wO b)), rfl, .inl ⟨_, rfl, fit (show (cW (wO b)).length ≤ 1000000 by omega), _, rfl, fit ?_, _, rfl, fit ?_, .ref a, rfl, a, _, 1, y, rfl, rfl, hs, atI_nat (j := 1) rfl, y, k1, rfl, hy, gk, by omega, by omega, fun z H2 s2 hz => .inl ⟨z, rfl, fit (by rw [hz]; omega), z, rfl, fit ?_, ?_⟩⟩⟩
            · rw [tl_app, tl_emp, List.nil_append]
              show (cW (wO b)).length ≤ _
              omega
            · rw [tl_app, tl_app, tl_emp, List.nil_append, List.length_append]
              show (cW (wO b)).length + (cW " ").length ≤ _
              omega
            · rw [tl_app, tl_app, tl_app, tl_emp, List.nil_append, List.length_append, List.length_append, hz]
              show (cW (wO b)).length + (cW " ").length + _ ≤ _
              omega
            · rw [hD]
              refine q _ H2 s2 ?_
              rw [tl_app, tl_app, tl_app, tl_emp, List.nil_append, hz]
              show cW (wO b) ++ cW " " ++ _ = cW (wO b) ++ (32 :: _)
              rw [show cW " " = [32] by decide +kernel]
              simp
        cases b with
        | false => exact ⟨_, rfl, rfl, _, rfl, tF (show S "maybe" ≠ S "nat" by decide +kernel) ⟨_, rfl, rfl, _, rfl, tF (show S "maybe" ≠ S "int" by decide +kernel) ⟨_, rfl, pw, _, rfl, .inr (hW _), rfl, rfl, _, rfl, cF (show ¬ (if false = true then !inV (.str (S "maybe")) [.str (S "record"), .str (S "variant")] else inV (.str (S "maybe")) [.str (S "record"), .str (S "variant")]) = true by decide +kernel) ⟨_, rfl, rfl, _, rfl, tF (show S "maybe" ≠ S "row" by decide +kernel) ⟨_, rfl, rfl, _, rfl, tT rfl (fin _ rfl)⟩⟩⟩⟩⟩
        | true => exact ⟨_, rfl, rfl, _, rfl, tF (show S "box" ≠ S "nat" by decide +kernel) ⟨_, rfl, rfl, _, rfl, tF (show S "box" ≠ S "int" by decide +kernel) ⟨_, rfl, pw, _, rfl, .inr (hW _), rfl, rfl, _, rfl, cF (show ¬ (if false = true then !inV (.str (S "box")) [.str (S "record"), .str (S "variant")] else inV (.str (S "box")) [.str (S "record"), .str (S "variant")]) = true by decide +kernel) ⟨_, rfl, rfl, _, rfl, tF (show S "box" ≠ S "row" by decide +kernel) ⟨_, rfl, rfl, _, rfl, tF (show S "box" ≠ S "maybe" by decide +kernel) ⟨_, rfl, rfl, _, rfl, tT rfl (fin _ rfl)⟩⟩⟩⟩⟩⟩
      | use nm fs =>
        obtain ⟨x, y, rfl, hx, hy⟩ := all2 ha
        obtain rfl := dStr hx
        obtain ⟨b, vs, rfl, hsb, hvs⟩ := dTup hy
        have hgp : goodK fs := g.2
        have hfp : fmK fs + 1 ≤ 10000 := hfm
        have hdpp : dptK fs + 1 ≤ n := hdp
        have hsum := cd_lenK fs hgp
        have hjl := joinL_len (lsK fs)
        have hlen : vs.length = (lsK fs).length := by rw [dpAll_len hvs, ksD_len]
        have l1 := g.1.most
        have e1 : (cW "[").length = 1 := by decide +kernel
        have e2 : (cW "]").length = 1 := by decide +kernel
        refine ⟨_, rfl, rfl, _, rfl, tF (show S "use" ≠ S "nat" by decide +kernel) ⟨_, rfl, rfl, _, rfl, tF (show S "use" ≠ S "int" by decide +kernel) ⟨_, rfl, pw, _, rfl, .inr (hW _), rfl, rfl, _, rfl, cF (show ¬ (if false = true then !inV (.str (S "use")) [.str (S "record"), .str (S "variant")] else inV (.str (S "use")) [.str (S "record"), .str (S "variant")]) = true by decide +kernel) ⟨_, rfl, rfl, _, rfl, tF (show S "use" ≠ S "row" by decide +kernel) ⟨_, rfl, rfl, _, rfl, tF (show S "use" ≠ S "maybe" by decide +kernel) ⟨_, rfl, rfl, _, rfl, tF (show S "use" ≠ S "box" by decide +kernel) ⟨_, rfl, rfl, _, rfl, tT rfl ?_⟩⟩⟩⟩⟩⟩⟩
        refine ⟨⟨_, rfl⟩, .ref a, rfl, a, _, 2, .ref b, rfl, rfl, hs, atI_nat (j := 2) rfl, b, rfl, ⟨_, hsb⟩, fun Dd hDd => lc_tup (xs := vs) (fun i H' => ∃ ys : List Str, ys.length = i ∧ TxA ys ((lsK fs).take i) ∧ H' Dd = some (.lst (ys.map V.str)) ∧ Same H H') ⟨[], rfl, rfl, upd_same, same_upd hDd⟩ (fun i H' _ hP => ?_) (fun i x H' hx hP => ?_) (fun H' hP => ?_)⟩
        · obtain ⟨_, _, _, _, sm⟩ := hP
          exact ts_same sm _ _ hsb
        · obtain ⟨ys, el, htx, eD, sm⟩ := hP
          obtain ⟨k1, hu, gk, hdk, hfk, hls⟩ := lsK_get (TS.dps (ts_same sm) _ _ (pl_K fs hgp).1 hvs) hgp hx
          have hcl1 := cd_len k1 gk
          refine ⟨rfl, ?_⟩
          refine iteT (B := ∃ ys : List Str, ys.length = i + 1 ∧ TxA ys ((lsK fs).take (i + 1)) ∧ H' Dd = some (.lst (ys.map V.str)) ∧ Same H H') ?_
          cases n with
          | zero => omega
          | succ n =>
            refine ⟨x, rfl, x, k1, rfl, hu, gk, by omega, by omega, fun y H2 s2 hy => ?_⟩
            refine ⟨_, s2 _ _ eD, ?_, ys ++ [y], ?_, ?_, ?_, ?_⟩
            · rw [List.length_map]
              have := sumL_len (lsK fs)
              have hi : i < vs.length := (List.getElem?_eq_some_iff.mp hx).1
              exact Nat.lt_of_le_of_lt (show ys.length ≤ 1000000 by omega) (by decide)
            · rw [List.length_append, el]; rfl
            · unfold TxA at htx ⊢
              rw [List.take_add_one, hls, List.map_append, htx]
              refine congrArg _ ?_
              show [tl _] = [_]
              rw [hy]
            · rw [upd_same, List.map_append]; rfl
            · intro b' o eb
              rw [upd_ne (ne_of_none eb hDd)]
              exact s2 _ _ (sm b' o eb)
        · obtain ⟨ys, el, htx, eD, sm⟩ := hP
          rw [hlen, List.take_length] at htx
          have hj := txA_join htx
          have hsu := txA_sum htx
          refine ⟨_, Dd, ys, rfl, rfl, .inl (.inl (.inl eD)), ?_, ?_⟩
          · show _ + ys.length * 2 ≤ _
            omega
          · refine ⟨.ref a, rfl, a, _, 1, .str nm, rfl, rfl, ts_same sm _ _ hs, atI_nat (j := 1) rfl, .inl ⟨_, rfl, fit (by omega), _, rfl, fit ?_, _, rfl, fit ?_, .str _, rfl, .inl ⟨_, rfl, fit ?_, _, rfl, fit ?_, _, rfl, fit ?_, q _ H' sm ?_⟩⟩⟩
            · rw [tl_app, tl_emp, List.nil_append]
              omega
            · rw [tl_app, tl_app, tl_emp, List.nil_append, List.length_append]
              show _ + (cW "[").length ≤ _
              omega
            · rw [hj]; omega
            · rw [tl_app, tl_app, tl_app, tl_emp, List.nil_append, List.length_append, List.length_append, hj]
              show _ + (cW "[").length + _ ≤ _
              omega
            · rw [tl_app, tl_app, tl_app, tl_app, tl_emp, List.nil_append, List.length_append, List.length_append, List.length_append, hj]
              show _ + (cW "[").length + _ + (cW "]").length ≤ _
              omega
            · rw [tl_app, tl_app, tl_app, tl_app, tl_emp, List.nil_append, hj]
              show _ ++ cW "[" ++ _ ++ cW "]" = _ ++ (91 :: (_ ++ [93]))
              rw [show cW "[" = [91] by decide +kernel, show cW "]" = [93] by decide +kernel]
              simp
      | hole nm =>
        obtain ⟨x, rfl, hx⟩ := all1 ha
        obtain rfl := dStr hx
        have l1 := (show Nm nm from g).most
        have e1 : (cW "?").length = 1 := by decide +kernel
        refine ⟨_, rfl, rfl, _, rfl, tF (show S "hole" ≠ S "nat" by decide +kernel) ⟨_, rfl, rfl, _, rfl, tF (show S "hole" ≠ S "int" by decide +kernel) ⟨_, rfl, pw, _, rfl, .inr (hW _), rfl, rfl, _, rfl, cF (show ¬ (if false = true then !inV (.str (S "hole")) [.str (S "record"), .str (S "variant")] else inV (.str (S "hole")) [.str (S "record"), .str (S "variant")]) = true by decide +kernel) ⟨_, rfl, rfl, _, rfl, tF (show S "hole" ≠ S "row" by decide +kernel) ⟨_, rfl, rfl, _, rfl, tF (show S "hole" ≠ S "maybe" by decide +kernel) ⟨_, rfl, rfl, _, rfl, tF (show S "hole" ≠ S "box" by decide +kernel) ⟨_, rfl, rfl, _, rfl, tF (show S "hole" ≠ S "use" by decide +kernel) ⟨_, rfl, rfl, _, rfl, tT rfl ?_⟩⟩⟩⟩⟩⟩⟩⟩
        refine ⟨_, rfl, fit ?_, .ref a, rfl, a, _, 1, .str nm, rfl, rfl, hs, atI_nat (j := 1) rfl, .inl ⟨_, rfl, fit (by omega), _, rfl, fit ?_, q _ H (Same.refl _) ?_⟩⟩
        · rw [tl_app, tl_emp, List.nil_append]
          show (cW "?").length ≤ _
          omega
        · rw [tl_app, tl_app, tl_emp, List.nil_append, List.length_append]
          show (cW "?").length + _ ≤ _
          omega
        · rw [tl_app, tl_app, tl_emp, List.nil_append]
          show cW "?" ++ _ = 63 :: _
          rw [show cW "?" = [63] by decide +kernel]
          rfl
end
end K2
namespace K3
open PySem PySem.Spec PyProof.Rows L2 K1
open K2 (Kd Ps Ks toD psD ksD good fm fmP fmK dpt dptP dptK innerK withK kidsP kidsK withP ksL getP getK sub Dc bookD okB rowD hdsB bodyK partsK fillOf)
abbrev s_forms_in : Stmt := topS 14
abbrev nm_forms_in : List Str := ["kind", "each"]
abbrev pm_forms_in : List Str := ["kind"]
theorem sc_forms_in : FnScope nm_forms_in pm_forms_in (defScope s_forms_in) := ⟨rfl, rfl, rfl, by decide +kernel, rfl, by decide +kernel, by decide +kernel⟩
abbrev s_depth_of : Stmt := topS 15
abbrev nm_depth_of : List Str := ["kind", "each"]
abbrev pm_depth_of : List Str := ["kind"]
theorem sc_depth_of : FnScope nm_depth_of pm_depth_of (defScope s_depth_of) := ⟨rfl, rfl, rfl, by decide +kernel, rfl, by decide +kernel, by decide +kernel⟩
theorem kidsP_fm : ∀ ps, ((kidsP ps).map fm).sum = fmP ps
  | .nil => rfl
  | .cons n k ps => by simp only [kidsP, List.map_cons, List.sum_cons, fmP, kidsP_fm ps]
theorem kidsK_fm : ∀ ks, ((kidsK ks).map fm).sum = fmK ks
  | .nil => rfl
  | .cons k ks => by simp only [kidsK, List.map_cons, List.sum_cons, fmK, kidsK_fm ks]
theorem innerK_fm : ∀ k, ((innerK k).map fm).sum + 1 = fm k
  | .num _ _ => rfl
  | .truth => rfl
  | .parts _ ps => by simp only [innerK, fm, kidsP_fm]
  | .row _ k => by simp [innerK, fm]
  | .one _ k => by simp [innerK, fm]
  | .use _ fs => by simp only [innerK, fm, kidsK_fm]
  | .hole _ => rfl
theorem kidsP_dp : ∀ ps, (kidsP ps = [] → dptP ps = 0) ∧ (kidsP ps ≠ [] → ∃ c ∈ kidsP ps, dpt c = dptP ps)
  | .nil => ⟨fun _ => rfl, fun h => absurd rfl h⟩
  | .cons n k ps => by
    have ih := kidsP_dp ps
    refine ⟨fun h => (nomatch h), fun _ => ?_⟩
    simp only [dptP, kidsP]
    by_cases hc : dpt k ≥ dptP ps
    · exact ⟨k, List.mem_cons_self, by omega⟩
    · by_cases he : kidsP ps = []
      · have := ih.1 he
        omega
      · obtain ⟨c, h1, h2⟩ := ih.2 he
        exact ⟨c, List.mem_cons_of_mem _ h1, by omega⟩
theorem kidsK_dp : ∀ ks, (kidsK ks = [] → dptK ks = 0) ∧ (kidsK ks ≠ [] → ∃ c ∈ kidsK ks, dpt c = dptK ks)
  | .nil => ⟨fun _ => rfl, fun h => absurd rfl h⟩
  | .cons k ks => by
    have ih := kidsK_dp ks
    refine ⟨fun h => (nomatch h), fun _ => ?_⟩
    simp only [dptK, kidsK]
    by_cases hc : dpt k ≥ dptK ks
    · exact ⟨k, List.mem_cons_self, by omega⟩
    · by_cases he : kidsK ks = []
      · have := ih.1 he
        omega
      · obtain ⟨c, h1, h2⟩ := ih.2 he
        exact ⟨c, List.mem_cons_of_mem _ h1, by omega⟩
theorem innerK_dp : ∀ k, (∀ c ∈ innerK k, dpt c + 1 ≤ dpt k) ∧ (innerK k = [] → dpt k = 1) ∧ (innerK k ≠ [] → ∃ c ∈ innerK k, dpt c + 1 = dpt k) := by
  intro k
  refine ⟨fun c hc => (K2.innerK_ok k c hc).1, ?_, ?_⟩
  · intro h
    cases k with
    | parts v ps => simp only [dpt, (kidsP_dp ps).1 h]
    | use n fs => simp only [dpt, (kidsK_dp fs).1 h]
    | row m k => cases h
    | one b k => cases h
    | _ => rfl
  · intro h
    cases k with
    | parts v ps =>
      obtain ⟨c, h1, h2⟩ := (kidsP_dp ps).2 h
      exact ⟨c, h1, by simp only [dpt, h2]⟩
    | use n fs =>
      obtain ⟨c, h1, h2⟩ := (kidsK_dp fs).2 h
      exact ⟨c, h1, by simp only [dpt, h2]⟩
    | row m k => exact ⟨k, List.mem_singleton.mpr rfl, rfl⟩
    | one b k => exact ⟨k, List.mem_singleton.mpr rfl, rfl⟩
    | _ => exact absurd rfl h
theorem innerK_len (k : Kd) : (innerK k).length + 1 ≤ fm k := by
  have h := innerK_fm k
  have e : ∀ l : List Kd, l.length ≤ (l.map fm).sum := fun l => by
    induction l with
    | nil => exact Nat.le_refl _
    | cons c l ih =>
      have := K2.fm_pos c
      rw [List.length_cons, List.map_cons, List.sum_cons]
      omega
  have := e (innerK k)
  omega
theorem foldl_max : ∀ (l : List Int) (a : Int), a ≤ l.foldl max a ∧ (∀ x ∈ l, x ≤ l.foldl max a) ∧ (l.foldl max a = a ∨ l.foldl max a ∈ l)
  | [], a => ⟨Int.le_refl _, (fun _ h => nomatch h), .inl rfl⟩
  | x :: l, a => by
    obtain ⟨h1, h2, h3⟩ := foldl_max l (max a x)
    rw [List.foldl_cons]
    refine ⟨by omega, fun y hy => ?_, ?_⟩
    · rcases List.mem_cons.mp hy with rfl | hy
      · omega
      · exact h2 y hy
    · rcases h3 with h3 | h3
      · rw [h3]
        by_cases hc : a ≥ x
        · exact .inl (by omega)
        · exact .inr (by rw [show max a x = x by omega]; exact List.mem_cons_self)
      · exact .inr (List.mem_cons_of_mem _ h3)
theorem maxL_dp (k : Kd) : 1 + MX.maxL 0 ((innerK k).map fun c => (dpt c : Int)) = (dpt k : Int) := by
  obtain ⟨h1, h2, h3⟩ := innerK_dp k
  cases e : innerK k with
  | nil =>
    have := h2 e
    show 1 + (0 : Int) = _
    omega
  | cons c cs =>
    rw [e] at h1 h3
    obtain ⟨c', hc', hd'⟩ := h3 (by simp)
    show 1 + (cs.map fun c => (dpt c : Int)).foldl max (dpt c : Int) = _
    obtain ⟨f1, f2, f3⟩ := foldl_max (cs.map fun c => (dpt c : Int)) (dpt c : Int)
    have hle : (dpt c' : Int) ≤ (cs.map fun c => (dpt c : Int)).foldl max (dpt c : Int) := by
      rcases List.mem_cons.mp hc' with rfl | hm
      · exact f1
      · exact f2 _ (List.mem_map_of_mem hm)
    have hge : (cs.map fun c => (dpt c : Int)).foldl max (dpt c : Int) + 1 ≤ (dpt k : Int) := by
      rcases f3 with f3 | f3
      · rw [f3]
        have := h1 c List.mem_cons_self
        omega
      · obtain ⟨c2, hc2, e2⟩ := List.mem_map.mp f3
        have := h1 c2 (List.mem_cons_of_mem _ hc2)
        omega
    omega
theorem sum_fm (k : Kd) : 1 + ((innerK k).map fun c => (fm c : Int)).sum = (fm k : Int) := by
  have h := innerK_fm k
  have e : ∀ l : List Kd, (l.map fun c => (fm c : Int)).sum = (((l.map fm).sum : Nat) : Int) := fun l => by
    induction l with
    | nil => rfl
    | cons c l ih =>
      rw [List.map_cons, List.map_cons, List.sum_cons, List.sum_cons, ih]
      omega
  rw [e]
  omega
section
variable {P : Program} {w : World} {K : PySem.W.Frag} {mg : Str → Option Value} {base : Heap}
def sp_forms_in (K : PySem.W.Frag) (n : Nat) : Sp := fun vs H Q _ => ∃ (v : V) (k : Kd), vs = [v] ∧ Dp K H v (toD k) ∧ good k ∧ dpt k ≤ n ∧ fm k ≤ 100000 ∧ ∀ H', Same H H' → Q (.int (fm k : Int)) H'
theorem nv_forms_in {vs : List V} {H : Hp} {Q : VK} {E : XK} (h : sp_forms_in K 0 vs H Q E) : False := by
  obtain ⟨v, k, _, _, _, h1, _⟩ := h
  have := K2.dpt_pos k
  omega
theorem ok_forms_in {f : Addr} {fd : FuncData} (F : Fun K "forms_in" "forms_in" s_forms_in f fd) (g_self : mg "forms_in" = some (.ref f)) (b_self : Binds K fd pm_forms_in []) (C_inner_kinds : Cal P w K mg base "inner_kinds" pm_inner_kinds 1 (sp_inner_kinds K)) (m_sum : mg "sum" = none) : ∀ n : Nat, FnOk P w K mg base CX0 (n + 1 + 1) f fd pm_forms_in (sp_forms_in K n) := by
  obtain ⟨f_inner_kinds, fd_inner_kinds, G_inner_kinds, g_inner_kinds, k_inner_kinds, b_inner_kinds⟩ := C_inner_kinds.ex
  intro n
  induction n with
  | zero => exact F.ok sc_forms_in (fun vs H Q E h => (nv_forms_in h).elim) (fun cdv A outer s H vs Q E hr h => (nv_forms_in h).elim)
  | succ n ih =>
  refine F.ok sc_forms_in (fun vs H Q E h => ?_) (fun cdv A outer s H vs Q E hr h => ?_)
  · obtain ⟨v, k, rfl, _⟩ := h
    rfl
  · obtain ⟨v, k, rfl, hv, g, hd, hf, q⟩ := h
    refine ⟨_, pss_one (ps_ret (pe_op op_add pe_int (pe_callB (cr_sum rfl) (by rfl) m_sum (by decide +kernel) (pa_cons (pe_lc (own := [("each", 1)]) (g := gName 1) (tt := tYes) rfl sc_forms_in.nd (pi_tup (pe_call G_inner_kinds (hr.mono (by omega)) (by rfl) g_inner_kinds k_inner_kinds b_inner_kinds .nil pass0 (pa_cons (pv 0) pa_nil))) (blkOk_by (N := nm_forms_in) (sc := defScope s_forms_in) (by decide +kernel)) (fun _ _ _ _ _ => pg_name (i := 1) sc_forms_in.nd rfl (Or.inl rfl)) (fun _ _ _ _ _ => pts_nil) (fun _ _ _ _ _ => (pe_call ih (hr.mono (by omega)) (by rfl) g_self F.kp b_self .nil pass0 (pa_cons (pv 1) pa_nil)))) pa_nil)))), ?_⟩
    refine ⟨v, rfl, v, k, rfl, hv, g, hf, fun r H1 s1 d1 => ?_⟩
    obtain ⟨ra, xs, rfl, hs, hx⟩ := K2.dTup d1
    have hxl := dpAll_len hx
    rw [List.length_map] at hxl
    have hkl : (innerK k).length ≤ fm k := by have := innerK_len k; omega
    have pA : plA ((innerK k).map toD) = true := plA_of fun d hd => by
      obtain ⟨c, hc, rfl⟩ := List.mem_map.mp hd
      exact (K2.pl_D c ((K2.innerK_ok k c hc).2.2 g)).1
    refine ⟨ra, rfl, ⟨_, hs⟩, fun D hD => lc_tup (xs := xs) (fun i H' => H' D = some (.lst (((innerK k).take i).map fun c => V.int (fm c : Int))) ∧ Same H1 H')
      ⟨by rw [List.take_zero]; exact upd_same, same_upd hD⟩ (fun i H' _ hP => ?_) (fun i x H' hxi hP => ?_) (fun H' hP => ?_)⟩
    · exact ts_same hP.2 _ _ hs
    · obtain ⟨eD, s'⟩ := hP
      have hi : i < xs.length := (List.getElem?_eq_some_iff.mp hxi).1
      obtain ⟨d, ed, hdx⟩ := dpAll_get hx hxi
      rw [List.getElem?_map] at ed
      have ec : (innerK k)[i]? = some (innerK k)[i] := List.getElem?_eq_getElem (by omega)
      rw [ec] at ed
      obtain rfl := Option.some.inj ed
      have hm := List.getElem_mem (show i < (innerK k).length by omega)
      obtain ⟨k1, k2, k3⟩ := K2.innerK_ok k _ hm
      refine ⟨rfl, ?_⟩
      dsimp only [tYes]
      refine iteT ?_
      refine ⟨x, rfl, x, _, rfl, (ts_same s').dp _ _ (K2.pl_D _ (k3 g)).1 hdx, k3 g, by omega, by omega, fun H2 s2 => ?_⟩
      refine ⟨_, s2 _ _ eD, ?_, ?_, fun b o e => by rw [upd_ne (ne_of_none e hD)]; exact s2 _ _ (s' b o e)⟩
      · rw [List.length_map, List.length_take]
        exact Nat.lt_of_le_of_lt (show min i (innerK k).length ≤ 100000 by omega) (by decide)
      · rw [upd_same, List.take_add_one, ec, List.map_append]
        rfl
    · obtain ⟨eD, s'⟩ := hP
      rw [List.take_of_length_le (by omega)] at eD
      refine ⟨D, (innerK k).map fun c => (fm c : Int), rfl, .inl (.inl (by rw [List.map_map]; exact eD)), _, _, rfl, rfl, ?_⟩
      show Q (.int (1 + ((innerK k).map fun c => (fm c : Int)).sum)) H'
      rw [sum_fm]
      exact q H' (s1.trans s')
def sp_depth_of (K : PySem.W.Frag) (n : Nat) : Sp := fun vs H Q _ => ∃ (v : V) (k : Kd), vs = [v] ∧ Dp K H v (toD k) ∧ good k ∧ dpt k ≤ n ∧ fm k ≤ 100000 ∧ ∀ H', Same H H' → Q (.int (dpt k : Int)) H'
theorem nv_depth_of {vs : List V} {H : Hp} {Q : VK} {E : XK} (h : sp_depth_of K 0 vs H Q E) : False := by
  obtain ⟨v, k, _, _, _, h1, _⟩ := h
  have := K2.dpt_pos k
  omega
theorem ok_depth_of {f : Addr} {fd : FuncData} (F : Fun K "depth_of" "depth_of" s_depth_of f fd) (g_self : mg "depth_of" = some (.ref f)) (b_self : Binds K fd pm_depth_of []) (C_inner_kinds : Cal P w K mg base "inner_kinds" pm_inner_kinds 1 (sp_inner_kinds K)) (m_max : mg "max" = none) : ∀ n : Nat, FnOk P w K mg base CX0 (n + 1 + 1) f fd pm_depth_of (sp_depth_of K n) := by
  obtain ⟨f_inner_kinds, fd_inner_kinds, G_inner_kinds, g_inner_kinds, k_inner_kinds, b_inner_kinds⟩ := C_inner_kinds.ex
  intro n
  induction n with
  | zero => exact F.ok sc_depth_of (fun vs H Q E h => (nv_depth_of h).elim) (fun cdv A outer s H vs Q E hr h => (nv_depth_of h).elim)
  | succ n ih =>
  refine F.ok sc_depth_of (fun vs H Q E h => ?_) (fun cdv A outer s H vs Q E hr h => ?_)
  · obtain ⟨v, k, rfl, _⟩ := h
    rfl
  · obtain ⟨v, k, rfl, hv, g, hd, hf, q⟩ := h
    refine ⟨_, pss_one (ps_ret (pe_op op_add pe_int (pe_callBK (MX.call_maxDf rfl hr.units) (by rfl) m_max (by decide +kernel) (pa_cons (pe_lc (own := [("each", 1)]) (g := gName 1) (tt := tYes) rfl sc_depth_of.nd (pi_tup (pe_call G_inner_kinds (hr.mono (by omega)) (by rfl) g_inner_kinds k_inner_kinds b_inner_kinds .nil pass0 (pa_cons (pv 0) pa_nil))) (blkOk_by (N := nm_depth_of) (sc := defScope s_depth_of) (by decide +kernel)) (fun _ _ _ _ _ => pg_name (i := 1) sc_depth_of.nd rfl (Or.inl rfl)) (fun _ _ _ _ _ => pts_nil) (fun _ _ _ _ _ => (pe_call ih (hr.mono (by omega)) (by rfl) g_self F.kp b_self .nil pass0 (pa_cons (pv 1) pa_nil)))) pa_nil) (pk_cons pe_int pk_nil)))), ?_⟩
    refine ⟨v, rfl, v, k, rfl, hv, g, hf, fun r H1 s1 d1 => ?_⟩
    obtain ⟨ra, xs, rfl, hs, hx⟩ := K2.dTup d1
    have hxl := dpAll_len hx
    rw [List.length_map] at hxl
    have hkl : (innerK k).length ≤ fm k := by have := innerK_len k; omega
    refine ⟨ra, rfl, ⟨_, hs⟩, fun D hD => lc_tup (xs := xs) (fun i H' => H' D = some (.lst (((innerK k).take i).map fun c => V.int (dpt c : Int))) ∧ Same H1 H')
      ⟨by rw [List.take_zero]; exact upd_same, same_upd hD⟩ (fun i H' _ hP => ?_) (fun i x H' hxi hP => ?_) (fun H' hP => ?_)⟩
    · exact ts_same hP.2 _ _ hs
    · obtain ⟨eD, s'⟩ := hP
      have hi : i < xs.length := (List.getElem?_eq_some_iff.mp hxi).1
      obtain ⟨d, ed, hdx⟩ := dpAll_get hx hxi
      rw [List.getElem?_map] at ed
      have ec : (innerK k)[i]? = some (innerK k)[i] := List.getElem?_eq_getElem (by omega)
      rw [ec] at ed
      obtain rfl := Option.some.inj ed
      have hm := List.getElem_mem (show i < (innerK k).length by omega)
      obtain ⟨k1, k2, k3⟩ := K2.innerK_ok k _ hm
      refine ⟨rfl, ?_⟩
      dsimp only [tYes]
      refine iteT ?_
      refine ⟨x, rfl, x, _, rfl, (ts_same s').dp _ _ (K2.pl_D _ (k3 g)).1 hdx, k3 g, by omega, by omega, fun H2 s2 => ?_⟩
      refine ⟨_, s2 _ _ eD, ?_, ?_, fun b o e => by rw [upd_ne (ne_of_none e hD)]; exact s2 _ _ (s' b o e)⟩
      · rw [List.length_map, List.length_take]
        exact Nat.lt_of_le_of_lt (show min i (innerK k).length ≤ 100000 by omega) (by decide)
      · rw [upd_same, List.take_add_one, ec, List.map_append]
        rfl
    · obtain ⟨eD, s'⟩ := hP
      rw [List.take_of_length_le (by omega)] at eD
      refine ⟨D, (innerK k).map fun c => (dpt c : Int), 0, rfl, rfl, .inl (.inl (by rw [List.map_map]; exact eD)), _, _, rfl, rfl, ?_⟩
      show Q (.int (1 + MX.maxL 0 ((innerK k).map fun c => (dpt c : Int)))) H'
      rw [maxL_dp]
      exact q H' (s1.trans s')
end
end K3
namespace K3
open PySem PySem.Spec PyProof.Rows L2 K1
open TL (tl)
open K2 (Kd Ps Ks toD psD ksD good fm fmP fmK dpt dptP dptK innerK withK kidsP kidsK withP ksL getP getK sub Dc bookD okB rowD hdsB bodyK partsK fillOf)
abbrev s_TooManyI : Stmt := inClass (topS 4) 0
abbrev pm_TooManyI : List Str := ["self", "kind"]
theorem sc_TooManyI : FnScope pm_TooManyI pm_TooManyI (defScope s_TooManyI) := ⟨rfl, rfl, rfl, by decide +kernel, rfl, by decide +kernel, by decide +kernel⟩
theorem ok_TooManyI {P : Program} {w : World} {K : PySem.W.Frag} {mg : Str → Option Value} {base : Heap} {f C : Addr} {fd : FuncData} (F : Fun K "__init__" "TooMany.__init__" s_TooManyI f fd) (T : OexC K C) (n0 : PySem.W.findIn K (.ref C) "kind" = some none) : FnOk P w K mg base CX0 1 f fd pm_TooManyI (sp_one C "kind") := by
  refine F.ok sc_TooManyI (fun vs H Q E h => ?_) (fun cdv A outer s H vs Q E hr h => ?_)
  · obtain ⟨a, v1, rfl, _⟩ := h
    rfl
  · obtain ⟨a, v1, rfl, ha, q⟩ := h
    refine ⟨_, (pss_one (ps_ost (pv 0) (pv 1))), ?_⟩
    refine ⟨v1, rfl, .ref a, rfl, a, C, rfl, T, n0, .inl ⟨ha, fun dx nd nda => ?_⟩⟩
    refine q dx _ nd nda upd_same (by rw [upd_ne nda, upd_same]) fun b o nb nb2 e => ?_
    rw [upd_ne nb, upd_ne nb2]
    exact e

abbrev s_met_kinds : Stmt := topS 45
abbrev nm_met_kinds : List Str := ["book", "kind", "most", "seen", "kinds", "left", "here", "text"]
abbrev pm_met_kinds : List Str := ["book", "kind", "most"]
theorem sc_met_kinds : FnScope nm_met_kinds pm_met_kinds (defScope s_met_kinds) := ⟨rfl, rfl, rfl, by decide +kernel, rfl, by decide +kernel, by decide +kernel⟩
/-- the walk over a kind's reach: what is left (the next one first), what is met; the end -/
inductive Run (B : List Dc) (lim : Nat) : List Kd → List Kd → List Kd × Option Kd → Prop
  | done {found : List Kd} : Run B lim [] found (found, none)
  | skip {k : Kd} {st found : List Kd} {r : List Kd × Option Kd} : k ∈ found → Run B lim st found r → Run B lim (k :: st) found r
  | stop {k : Kd} {st found : List Kd} : k ∉ found → (lim ≤ found.length ∨ 40 < fm k ∨ 8 < dpt k) → Run B lim (k :: st) found (found, some k)
  | go {k : Kd} {st found : List Kd} {r : List Kd × Option Kd} : k ∉ found → found.length < lim → fm k ≤ 40 → dpt k ≤ 8 → Run B lim (partsK B k ++ st) (found ++ [k]) r → Run B lim (k :: st) found r
theorem Run.det {B : List Dc} {lim : Nat} {st found : List Kd} {r r' : List Kd × Option Kd} (h : Run B lim st found r) : Run B lim st found r' → r = r' := by
  induction h with
  | done => intro h; cases h; rfl
  | skip m _ ih =>
    intro h
    cases h with
    | skip _ h => exact ih h
    | stop n _ => exact absurd m n
    | go n _ _ _ _ => exact absurd m n
  | stop n c =>
    intro h
    cases h with
    | skip m _ => exact absurd m n
    | stop _ _ => rfl
    | go _ h1 h2 h3 _ => rcases c with c | c | c <;> omega
  | go n h1 h2 h3 _ ih =>
    intro h
    cases h with
    | skip m _ => exact absurd m n
    | stop _ c => rcases c with c | c | c <;> omega
    | go _ _ _ _ h => exact ih h
/-- a kind that may be met -/
structure OkK (B : List Dc) (k : Kd) : Prop where
  w : K2.wf (hdsB B) [] k
  f : fm k ≤ 1640
  d : dpt k ≤ 16
theorem innerK_wf {hs : List (Str × Nat)} {ho : List Str} : ∀ k, K2.wf hs ho k → ∀ c ∈ innerK k, K2.wf hs ho c
  | .num _ _, _, _, h => nomatch h
  | .truth, _, _, h => nomatch h
  | .parts _ ps, w, c, h => K2.kidsP_wf ps w.2.2.2 c h
  | .row _ k, w, c, h => by rw [List.mem_singleton.mp h]; exact w.2
  | .one _ k, w, c, h => by rw [List.mem_singleton.mp h]; exact w
  | .use _ fs, w, c, h => K2.kidsK_wf fs w.2 c h
  | .hole _, _, _, h => nomatch h
theorem parts_okK {B : List Dc} (hB : okB B) {k : Kd} (w : K2.wf (hdsB B) [] k) (hf : fm k ≤ 40) (hd : dpt k ≤ 8) : (∀ c ∈ partsK B k, OkK B c) ∧ (partsK B k).length ≤ 40 := by
  by_cases hh : ∃ n fs, k = .use n fs
  · obtain ⟨n, fs, rfl⟩ := hh
    refine ⟨fun c hc => ?_, by show 1 ≤ 40; decide⟩
    rw [List.mem_singleton.mp hc]
    obtain ⟨_, _, _, _, _, _, _, hw2, hf2, hd2⟩ := K2.body_ok hB w (F := 40) (D := 7) (fun c hc => by have := ((K2.kidsK_ok fs).2 c hc).2.1; simp only [fm] at hf; omega) (by omega) (fun c hc => by have := ((K2.kidsK_ok fs).2 c hc).1; simp only [dpt] at hd; omega)
    exact ⟨hw2, by omega, by omega⟩
  · have nu : ∀ n fs, k ≠ .use n fs := fun n fs e => hh ⟨n, fs, e⟩
    rw [partsK_not nu]
    have hl := innerK_len k
    refine ⟨fun c hc => ?_, by omega⟩
    obtain ⟨h1, h2, _⟩ := K2.innerK_ok k c hc
    exact ⟨innerK_wf k w c hc, by omega, by omega⟩
def tx (c : Kd) : Str := ⟨(K2.cd c).toArray⟩
theorem tx_of {y : Str} {c : Kd} (h : tl y = K2.cd c) : y = tx c := by
  unfold tx
  rw [← h]
theorem tx_inj {c c' : Kd} (g : good c) (g' : good c') (h : tx c = tx c') : c = c' := by
  refine K2.cd_inj g g' ?_
  have := congrArg tl h
  simpa [tx, tl] using this
def seenL (found : List Kd) : List (Key × V) := found.map fun c => ((Sum.inr (tx c) : Key), V.bl true)
theorem seen_mem {c : Kd} (g : good c) : ∀ {found : List Kd}, (∀ d ∈ found, good d) → c ∈ found → valV (seenL found) (Sum.inr (tx c)) = some (.bl true)
  | d :: found, h, hm => by
    by_cases e : d = c
    · subst e
      exact valV_pos rfl
    · have hm' : c ∈ found := by
        rcases List.mem_cons.mp hm with z | z
        · exact absurd z.symm e
        · exact z
      show valV ((Sum.inr (tx d), V.bl true) :: seenL found) _ = _
      rw [valV_neg (fun z => e (tx_inj (h d List.mem_cons_self) g (Sum.inr.inj z)))]
      exact seen_mem g (fun x hx => h x (List.mem_cons_of_mem _ hx)) hm'
theorem seen_not {c : Kd} (g : good c) : ∀ {found : List Kd}, (∀ d ∈ found, good d) → c ∉ found → valV (seenL found) (Sum.inr (tx c)) = none
  | [], _, _ => rfl
  | d :: found, h, hm => by
    have e : d ≠ c := fun z => hm (by rw [z]; exact List.mem_cons_self)
    show valV ((Sum.inr (tx d), V.bl true) :: seenL found) _ = _
    rw [valV_neg (fun z => e (tx_inj (h d List.mem_cons_self) g (Sum.inr.inj z)))]
    exact seen_not g (fun x hx => h x (List.mem_cons_of_mem _ hx)) (fun z => hm (List.mem_cons_of_mem _ z))
theorem ts_dk {K : PySem.W.Frag} {H : Hp} {l : Addr} {xs ys : List (Key × V)} (h : H l = some (.dK xs)) : TS K H (upd H l (.dK ys)) := fun a us hh => by
  rcases hh with (hh | ⟨o, hh⟩) | hh
  · refine .inl (.inl ?_)
    rw [upd_ne (fun z => by rw [z, h] at hh; cases hh)]
    exact hh
  · refine .inl (.inr ⟨o, ?_⟩)
    rw [upd_ne (fun z => by rw [z, h] at hh; cases hh)]
    exact hh
  · exact .inr hh
theorem dpAll_rev {K : PySem.W.Frag} {H : Hp} : ∀ {vs : List V} {ds : List PyData}, DpAll K H vs ds → DpAll K H vs.reverse ds.reverse
  | _, _, .nil => .nil
  | _, _, .cons h t => by
    rw [List.reverse_cons, List.reverse_cons]
    exact dpAll_append (dpAll_rev t) (.cons h .nil)
theorem pl_kds {l : List Kd} (h : ∀ c ∈ l, good c) : plA (l.map toD) = true := plA_of fun d hd => by
  obtain ⟨c, hc, rfl⟩ := List.mem_map.mp hd
  exact (K2.pl_D c (h c hc)).1
section
variable {P : Program} {w : World} {K : PySem.W.Frag} {mg : Str → Option Value} {base : Heap}
def sp_met_kinds (K : PySem.W.Frag) (CT : Addr) : Sp := fun vs H Q E => ∃ (b : Addr) (v : V) (B : List Dc) (k : Kd) (most : Nat), vs = [.ref b, v, .int (most : Int)] ∧ Dp K H (.ref b) (bookD B) ∧ okB B ∧ Dp K H v (toD k) ∧ OkK B k ∧ 0 < most ∧ most ≤ 1000 ∧
  (∀ found r H', Run B most [k] [] (found, none) → Same H H' → Dp K H' (.ref r) (.tuple (found.map toD)) → (∀ c ∈ found, OkK B c) → Q (.ref r) H') ∧
  (∀ found k' dd kv H', Run B most [k] [] (found, some k') → Same H H' → H' dd = some (.xd [("kind", kv)]) → Dp K H' kv (toD k') → OkK B k' → E (.ref CT) (some dd) H')
def WK (K : PySem.W.Frag) (H : Hp) (b : Addr) (v : V) (B : List Dc) (k0 : Kd) (most : Nat) (m : Nat) (σ : L2.St) (H' : Hp) : Prop :=
  ∃ (st found : List Kd) (us ws : List V) (se ki le : Addr) (x6 x7 : Option V), σ = [some (.ref b), some v, some (.int (most : Int)), some (.ref se), some (.ref ki), some (.ref le), x6, x7] ∧
    H' se = some (.dK (seenL found)) ∧ H' ki = some (.lst ws) ∧ H' le = some (.lst us) ∧ H se = none ∧ H ki = none ∧ H le = none ∧ se ≠ ki ∧ se ≠ le ∧ ki ≠ le ∧ DpAll K H' us (st.reverse.map toD) ∧ DpAll K H' ws (found.map toD) ∧
    (∀ c ∈ st, OkK B c) ∧ (∀ c ∈ found, OkK B c) ∧ found.length ≤ most ∧ (most - found.length) * 41 + st.length = m ∧ m ≤ 50000 ∧ (∀ r, Run B most st found r → Run B most [k0] [] r) ∧ Same H H'
theorem ok_met_kinds {f : Addr} {fd : FuncData} {C_TooMany : Addr} (F : Fun K "met_kinds" "met_kinds" s_met_kinds f fd) (C_shown : Cal P w K mg base "shown" pm_shown 18 (K2.spSh K 17)) (C_forms_in : Cal P w K mg base "forms_in" pm_forms_in 19 (sp_forms_in K 17)) (C_depth_of : Cal P w K mg base "depth_of" pm_depth_of 19 (sp_depth_of K 17)) (C_parts_of : Cal P w K mg base "parts_of" pm_parts_of 12 (sp_parts_of K)) (m_tuple : mg "tuple" = none) (m_len : mg "len" = none) {t_MOST_FORMS : Nat} (g_MOST_FORMS : mg "MOST_FORMS" = some (.int 40 t_MOST_FORMS)) {t_MOST_DEPTH : Nat} (g_MOST_DEPTH : mg "MOST_DEPTH" = some (.int 8 t_MOST_DEPTH)) {fI_TooMany : Addr} {fdI_TooMany : FuncData} (T_TooMany : ErC K mg "TooMany" C_TooMany fI_TooMany) (G_TooMany : FnOk P w K mg base CX0 1 fI_TooMany fdI_TooMany pm_TooManyI (sp_one C_TooMany "kind")) (b_TooMany : Binds K fdI_TooMany pm_TooManyI []) : FnOk P w K mg base (L2.CX P w) 20 f fd pm_met_kinds (sp_met_kinds K C_TooMany) := by
  obtain ⟨f_shown, fd_shown, G_shown, g_shown, k_shown, b_shown⟩ := C_shown.ex
  obtain ⟨f_forms_in, fd_forms_in, G_forms_in, g_forms_in, k_forms_in, b_forms_in⟩ := C_forms_in.ex
  obtain ⟨f_depth_of, fd_depth_of, G_depth_of, g_depth_of, k_depth_of, b_depth_of⟩ := C_depth_of.ex
  obtain ⟨f_parts_of, fd_parts_of, G_parts_of, g_parts_of, k_parts_of, b_parts_of⟩ := C_parts_of.ex
  refine F.okX sc_met_kinds (fun vs H Q E h => ?_) (fun cdv A outer s H vs Q E hr h => ?_)
  · obtain ⟨b, v, B, k, most, rfl, _⟩ := h
    rfl
  · obtain ⟨b, v, B, k0, most, rfl, hb, hB, hv, ok0, hm0, hm1, q, qe⟩ := h
    have rm : ∀ {j : Nat}, j ≤ 19 → Room j (A.deeper (envOfC "met_kinds" (defScope s_met_kinds) s.heap.objs.size f cdv)) := fun hj => hr.mono hj
    refine ⟨_, pss_cons (ps_set (i := 3) sc_met_kinds.nd rfl (.inl rfl) pe_dnewK)
      (pss_cons (ps_set (i := 4) sc_met_kinds.nd rfl (.inl rfl) (pe_lst pa_nil))
      (pss_cons (ps_set (i := 5) sc_met_kinds.nd rfl (.inl rfl) (pe_lst (pa_cons (pv 1) pa_nil)))
      (pss_cons (ps_while (passes_of rfl) (pt_truth (pv 5) (by intro _; rfl))
      (pss_cons (ps_set (i := 6) sc_met_kinds.nd rfl (.inl rfl) (pe_bm0 PySem.F.plainAttrs_list PySem.F.slot_list_pop PySem.F.type_list_pop mt_pop (pv 5)))
      (pss_cons (ps_set (i := 7) sc_met_kinds.nd rfl (.inl rfl) (pe_call G_shown (rm (by decide)) (by rfl) g_shown k_shown b_shown .nil pass0 (pa_cons (pv 6) pa_nil)))
      (pss_cons (ps_if (pt_cmp (pc_din (hu_of hr) (pv 7) (pv 3)))
      (pss_one ps_continue) pss_nil)
      (pss_cons (ps_if (PW.pt (pw_or (pt_cmpR op_eq (pe_callB call_len_seq (by rfl) m_len PySem.boot_len (pa_cons (pv 4) pa_nil)) (pv 2) (nomark _)) (pw_or (pt_cmpR op_gt (pe_call G_forms_in (rm (by decide)) (by rfl) g_forms_in k_forms_in b_forms_in .nil pass0 (pa_cons (pv 6) pa_nil)) (pe_glob (v := .int 40) (by rfl) g_MOST_FORMS ⟨_, rfl⟩) (nomark _)) (pw_or1 (pt_cmpR op_gt (pe_call G_depth_of (rm (by decide)) (by rfl) g_depth_of k_depth_of b_depth_of .nil pass0 (pa_cons (pv 6) pa_nil)) (pe_glob (v := .int 8) (by rfl) g_MOST_DEPTH ⟨_, rfl⟩) (nomark _))))))
      (pss_one (ps_raise rfl (takes_of rfl rfl rfl rfl) (pmk_oex T_TooMany.o T_TooMany.i T_TooMany.t G_TooMany (rm (by decide)) b_TooMany .nil pass0 (by rfl) T_TooMany.g (pa_cons (pv 6) pa_nil)))) pss_nil)
      (pss_cons (ps_dput (hu_of hr) (pv 3) (pv 7) pe_bl rfl)
      (pss_cons (ps_expr (pe_bm PySem.F.plainAttrs_list PySem.F.slot_list_append PySem.F.type_list_append mt_append (pv 4) (pa_cons (pv 6) pa_nil)))
      (pss_one (ps_expr (pe_bm PySem.F.plainAttrs_list PySem.F.slot_list_extend PySem.F.type_list_extend RV.mt_extendT (pv 5) (pa_cons (RV.pe_revT (pe_call G_parts_of (rm (by decide)) (by rfl) g_parts_of k_parts_of b_parts_of .nil pass0 (pa_cons (pv 0) (pa_cons (pv 6) pa_nil)))) pa_nil)))))))))))
      (pss_one (ps_ret (pe_callTy call_tuple_of (by rfl) m_tuple (by decide +kernel) (pa_cons (pv 4) pa_nil))))))), ?_⟩
    have pB : pl (bookD B) = true := K2.pl_rows hB.row
    have g0 := K2.wf_good k0 ok0.w
    intro se nse
    refine ⟨Nat.zero_le _, fun ki nki => ?_⟩
    have s1 : Same H (upd H se (.dK [])) := same_upd nse
    have e1 : (upd H se (.dK [])) se = some (.dK []) := upd_same
    have nki0 : H ki = none := s1.free nki
    have n1 : se ≠ ki := ne_of_none e1 nki
    generalize upd H se (HO.dK []) = H1 at s1 e1 nki ⊢
    have s2 : Same H1 (upd H1 ki (.lst [])) := same_upd nki
    have e2 : (upd H1 ki (.lst [])) ki = some (.lst []) := upd_same
    have e12 := s2 _ _ e1
    generalize upd H1 ki (HO.lst []) = H2 at s2 e2 e12 ⊢
    refine ⟨v, rfl, (by show 1 ≤ sizeLine; decide), fun le nle => ?_⟩
    have s3 : Same H2 (upd H2 le (.lst [v])) := same_upd nle
    have nle0 : H le = none := (s1.trans s2).free nle
    have n2 : se ≠ le := ne_of_none e12 nle
    have n3 : ki ≠ le := ne_of_none e2 nle
    have s03 := s1.trans (s2.trans s3)
    refine ⟨WK K H b v B k0 most, ⟨(most - 0) * 41 + 1, [k0], [], [v], [], se, ki, le, none, none, rfl, s3 _ _ e12, s3 _ _ e2, upd_same, nse, nki0, nle0, n1, n2, n3, .cons ((ts_same s03).dp _ _ (K2.pl_D k0 g0).1 hv) .nil, .nil,
      (fun c hc => by rw [List.mem_singleton.mp hc]; exact ok0), (fun _ h => nomatch h), Nat.zero_le _, rfl, by show (most - 0) * 41 + 1 ≤ 50000; omega, fun r h => h, s03⟩, fun m σ H' hW => ?_⟩
    clear s03 n3 n2 nle0 s3 nle e12 e2 s2 nki0 n1 e1 s1 nki nse
    clear H1 H2
    obtain ⟨st, found, us, ws, se, ki, le, x6, x7, rfl, ese, eki, ele, nse, nki, nle, n1, n2, n3, hus, hws, okS, okF, hfl, hm, hmm, hrun, s0⟩ := hW
    have gS : ∀ c ∈ st, good c := fun c hc => K2.wf_good c (okS c hc).w
    have gF : ∀ c ∈ found, good c := fun c hc => K2.wf_good c (okF c hc).w
    have hul := dpAll_len hus
    have hwl := dpAll_len hws
    rw [List.length_map] at hwl
    rw [List.length_map, List.length_reverse] at hul
    refine ⟨.ref le, rfl, !us.isEmpty, .inl ⟨us, .inl (.inl ele), rfl⟩, ?_⟩
    cases st with
    | nil =>
      have hu0 : us = [] := List.eq_nil_of_length_eq_zero (by simpa using hul)
      subst hu0
      refine iteF ?_
      refine ⟨.ref ki, rfl, ki, _, rfl, .inl ⟨.inl (.inl eki), fun r nr => ?_⟩⟩
      exact q found r _ (hrun _ .done) (s0.trans (same_upd nr)) (.tup (.inl (.inl upd_same)) ((ts_new nr).dps _ _ (pl_kds gF) hws)) okF
    | cons c st =>
      have hne : us ≠ [] := fun z => by rw [z] at hul; simp at hul
      have hbe : (!us.isEmpty) = true := by cases us with | nil => exact absurd rfl hne | cons _ _ => rfl
      rw [hbe]
      refine iteT ?_
      obtain ⟨us', vl, hsplit, hus', hvl⟩ : ∃ us' vl, us = us' ++ [vl] ∧ DpAll K H' us' (st.reverse.map toD) ∧ Dp K H' vl (toD c) := by
        rw [List.reverse_cons, List.map_append] at hus
        have hl' : us.length = (st.reverse.map toD).length + 1 := by rw [List.length_map, List.length_reverse]; simpa using hul
        refine ⟨us.dropLast, us.getLast hne, (List.dropLast_concat_getLast hne).symm, ?_, ?_⟩
        · have := dpAll_take (st.reverse.map toD).length hus
          rw [List.take_left' rfl] at this
          rw [List.dropLast_eq_take, show us.length - 1 = (st.reverse.map toD).length by omega]
          exact this
        · obtain ⟨d, hd1, hd2⟩ := dpAll_get hus (List.getElem?_eq_getElem (show us.length - 1 < us.length by omega))
          rw [List.getElem?_append_right (by omega), show us.length - 1 - (st.reverse.map toD).length = 0 by omega] at hd1
          have : toD c = d := Option.some.inj hd1
          rw [this, List.getLast_eq_getElem]
          exact hd2
      subst hsplit
      have okc := okS c List.mem_cons_self
      have gc := gS c List.mem_cons_self
      have okS' : ∀ d ∈ st, OkK B d := fun d hd => okS d (List.mem_cons_of_mem _ hd)
      have hfc := okc.f
      have hdc := okc.d
      refine ⟨fun σ' H2 => ∃ m', m' < m ∧ WK K H b v B k0 most m' σ' H2, fun _ _ h => h, ?_⟩
      refine ⟨.ref le, rfl, .inl ⟨rfl, _, .inl (.inl ele)⟩, le, _, vl, rfl, rfl, ele, (by simp), ?_⟩
      rw [List.dropLast_concat]
      have ts2 : TS K H' (upd H' le (.lst us')) := ts_lst ele
      have e2e : (upd H' le (.lst us')) le = some (.lst us') := upd_same
      have e2s : (upd H' le (.lst us')) se = some (.dK (seenL found)) := by rw [upd_ne n2]; exact ese
      have e2k : (upd H' le (.lst us')) ki = some (.lst ws) := by rw [upd_ne n3]; exact eki
      have s02 : Same H (upd H' le (.lst us')) := fun a o e => by rw [upd_ne (ne_of_none e nle)]; exact s0 a o e
      generalize upd H' le (HO.lst us') = H2 at ts2 e2e e2s e2k s02 ⊢
      have hv2 := ts2.dp _ _ (K2.pl_D c gc).1 hvl
      have hus2 := ts2.dps _ _ (pl_kds fun d hd => K2.wf_good d (okS' d (List.mem_reverse.mp hd)).w) hus'
      have hws2 := ts2.dps _ _ (pl_kds gF) hws
      refine ⟨vl, rfl, vl, c, rfl, hv2, gc, by omega, by omega, fun y H3 s3 hy => ?_⟩
      obtain rfl := tx_of hy
      have e3s := s3 _ _ e2s
      have e3k := s3 _ _ e2k
      have e3e := s3 _ _ e2e
      have s03 := s02.trans s3
      have hus3 := (ts_same s3).dps _ _ (pl_kds fun d hd => K2.wf_good d (okS' d (List.mem_reverse.mp hd)).w) hus2
      have hws3 := (ts_same s3).dps _ _ (pl_kds gF) hws2
      have hv3 := (ts_same s3).dp _ _ (K2.pl_D c gc).1 hv2
      have hml : (most - found.length) * 41 + (st.length + 1) = m := by rw [← hm, List.length_cons]
      refine ⟨_, rfl, .ref se, rfl, se, _, rfl, DGet.k (k := Sum.inr (tx c)) e3s, ?_⟩
      by_cases hin : c ∈ found
      · rw [seen_mem gc gF hin]
        refine ⟨true, rfl, iteT ?_⟩
        exact ⟨(most - found.length) * 41 + st.length, by omega, st, found, us', ws, se, ki, le, _, _, rfl, e3s, e3k, e3e, nse, nki, nle, n1, n2, n3, hus3, hws3, okS', okF, hfl, rfl, by omega, fun r h => hrun r (.skip hin h), s03⟩
      rw [seen_not gc gF hin]
      refine ⟨false, rfl, iteF ?_⟩
      have fail : ∀ (Hx : Hp), Same H3 Hx → (most ≤ found.length ∨ 40 < fm c ∨ 8 < dpt c) → ∀ (D : Ends), E = E → [vl].length ≤ 1000 ∧ ∀ a, Hx a = none → sp_one C_TooMany "kind" (.ref a :: ([vl] ++ [])) (upd Hx a (exo a C_TooMany none))
          (fun v H2 => v = .non ∧ ∃ (d : Addr) (fs : List (Str × V)), H2 a = some (exo a C_TooMany (some d)) ∧ H2 d = some (exd d fs) ∧ Hx d = none ∧ E (.ref C_TooMany) (some d) (upd (del H2 a) d (.xd fs))) (fun _ _ _ => False) := fun Hx sx hc D _ =>
        mk1 fun dd H4 s4 e4 => qe found c dd vl H4 (hrun _ (.stop hin hc)) (s03.trans (sx.trans s4)) e4 ((ts_same (sx.trans s4)).dp _ _ (K2.pl_D c gc).1 hv3) okc
      refine ⟨.ref ki, rfl, ki, _, rfl, .inl (.inl (.inl e3k)), .int (most : Int), rfl, rfl, _, rfl, ?_⟩
      by_cases hlim : found.length = most
      · rw [decide_eq_true (show V.int (ws.length : Nat) = V.int (most : Int) by rw [hwl, hlim])]
        refine iteT ?_
        exact ⟨vl, rfl, fail H3 (Same.refl _) (.inl (by omega)) ⟨fun _ _ => True, fun _ _ => True, fun _ _ => True, fun _ _ => True⟩ rfl⟩
      rw [decide_eq_false (show ¬ V.int (ws.length : Nat) = V.int (most : Int) from fun z => hlim (by have := V.int.inj z; omega))]
      refine iteF ?_
      refine ⟨vl, rfl, vl, c, rfl, hv3, gc, by omega, by omega, fun H4 s4 => ?_⟩
      refine ⟨_, _, rfl, rfl, _, rfl, ite2 (fun z => ?_) (fun z => ?_)⟩
      · have hz : (40 : Int) < (fm c : Int) := of_decide_eq_true z
        exact ⟨vl, rfl, fail H4 s4 (.inr (.inl (by omega))) ⟨fun _ _ => True, fun _ _ => True, fun _ _ => True, fun _ _ => True⟩ rfl⟩
      have hz40 : ¬ (40 : Int) < (fm c : Int) := fun h => z (decide_eq_true h)
      have hv4 := (ts_same s4).dp _ _ (K2.pl_D c gc).1 hv3
      refine ⟨vl, rfl, vl, c, rfl, hv4, gc, by omega, by omega, fun H5 s5 => ?_⟩
      refine ⟨_, _, rfl, rfl, _, rfl, ite2 (fun z => ?_) (fun z => ?_)⟩
      · have hz : (8 : Int) < (dpt c : Int) := of_decide_eq_true z
        exact ⟨vl, rfl, fail H5 (s4.trans s5) (.inr (.inr (by omega))) ⟨fun _ _ => True, fun _ _ => True, fun _ _ => True, fun _ _ => True⟩ rfl⟩
      have hz8 : ¬ (8 : Int) < (dpt c : Int) := fun h => z (decide_eq_true h)
      have s35 := s4.trans s5
      have e5s := s35 _ _ e3s
      have e5k := s35 _ _ e3k
      have e5e := s35 _ _ e3e
      have hv5 := (ts_same s35).dp _ _ (K2.pl_D c gc).1 hv3
      have hus5 := (ts_same s35).dps _ _ (pl_kds fun d hd => K2.wf_good d (okS' d (List.mem_reverse.mp hd)).w) hus3
      have hws5 := (ts_same s35).dps _ _ (pl_kds gF) hws3
      have s05 := s03.trans s35
      have hb5 := (ts_same s05).dp _ _ pB hb
      -- seen[text] = True
      have hkn : ∀ p ∈ seenL found, p.1 ≠ (Sum.inr (tx c) : Key) := fun p hp z => by
        obtain ⟨d, hd, rfl⟩ := List.mem_map.mp hp
        exact hin (by rw [← tx_inj (gF d hd) gc (Sum.inr.inj z)]; exact hd)
      have esn : seenL (found ++ [c]) = seenL found ++ [((Sum.inr (tx c) : Key), V.bl true)] := by
        unfold seenL
        rw [List.map_append]
        rfl
      refine ⟨.ref se, rfl, _, rfl, se, _, rfl, DPut.k (k := Sum.inr (tx c)) e5s (by
        unfold seenL
        rw [List.length_map]
        exact Nat.lt_of_le_of_lt (show found.length ≤ 1000 by omega) (by decide)), ?_⟩
      rw [K2.putK_new hkn, ← esn]
      have t6 : TS K H5 (upd H5 se (.dK (seenL (found ++ [c])))) := ts_dk e5s
      have e6s : (upd H5 se (.dK (seenL (found ++ [c])))) se = some (.dK (seenL (found ++ [c]))) := upd_same
      have e6k : (upd H5 se (.dK (seenL (found ++ [c])))) ki = some (.lst ws) := by rw [upd_ne n1.symm]; exact e5k
      have e6e : (upd H5 se (.dK (seenL (found ++ [c])))) le = some (.lst us') := by rw [upd_ne n2.symm]; exact e5e
      have s06 : Same H (upd H5 se (.dK (seenL (found ++ [c])))) := fun a o e => by rw [upd_ne (ne_of_none e nse)]; exact s05 a o e
      generalize upd H5 se (HO.dK (seenL (found ++ [c]))) = H6 at t6 e6s e6k e6e s06 ⊢
      -- kinds.append(here)
      refine ⟨.ref ki, rfl, .inl ⟨rfl, _, .inl (.inl e6k)⟩, vl, rfl, ki, ws, vl, rfl, rfl, e6k, ?_, ?_⟩
      · exact Nat.lt_of_le_of_lt (show ws.length ≤ 1000 by omega) (by decide)
      have t7 : TS K H6 (upd H6 ki (.lst (ws ++ [vl]))) := ts_lst e6k
      have e7k : (upd H6 ki (.lst (ws ++ [vl]))) ki = some (.lst (ws ++ [vl])) := upd_same
      have e7s : (upd H6 ki (.lst (ws ++ [vl]))) se = some (.dK (seenL (found ++ [c]))) := by rw [upd_ne n1]; exact e6s
      have e7e : (upd H6 ki (.lst (ws ++ [vl]))) le = some (.lst us') := by rw [upd_ne n3.symm]; exact e6e
      have s07 : Same H (upd H6 ki (.lst (ws ++ [vl]))) := fun a o e => by rw [upd_ne (ne_of_none e nki)]; exact s06 a o e
      generalize upd H6 ki (HO.lst (ws ++ [vl])) = H7 at t7 e7k e7s e7e s07 ⊢
      have t57 := t6.trans t7
      have hv7 := t57.dp _ _ (K2.pl_D c gc).1 hv5
      have hus7 := t57.dps _ _ (pl_kds fun d hd => K2.wf_good d (okS' d (List.mem_reverse.mp hd)).w) hus5
      have hws7 := t57.dps _ _ (pl_kds gF) hws5
      have hb7 := t57.dp _ _ pB hb5
      obtain ⟨okP, hpl⟩ := parts_okK hB okc.w (show fm c ≤ 40 by omega) (show dpt c ≤ 8 by omega)
      -- left.extend
      refine ⟨.ref le, rfl, .inl ⟨rfl, _, .inl (.inl e7e)⟩, .ref b, rfl, vl, rfl, b, vl, B, c, rfl, hb7, hB, hv7, okc.w, by omega, fun r H8 s8 d8 _ => ?_⟩
      obtain ⟨ra, ps, rfl, hsr, hps⟩ := K2.dTup d8
      have hpsl := dpAll_len hps
      rw [List.length_map] at hpsl
      refine ⟨ra, ps, rfl, hsr, fun pa o np po => ?_⟩
      have s9 : Same H8 (upd H8 pa (.frz o (.tup ps.reverse))) := same_upd np
      have e9 : (upd H8 pa (.frz o (.tup ps.reverse))) pa = some (.frz o (.tup ps.reverse)) := upd_same
      generalize upd H8 pa (HO.frz o (.tup ps.reverse)) = H9 at s9 e9 ⊢
      have s79 := s8.trans s9
      have e9e := s79 _ _ e7e
      refine ⟨le, pa, us', ps.reverse, o, rfl, rfl, e9e, e9, po, ?_, ?_⟩
      · rw [List.length_reverse]
        have : us'.length = st.length := by
          rw [List.length_append] at hul
          simpa using hul
        exact Nat.le_trans (show us'.length + ps.length ≤ 100000 by omega) (by decide)
      have t10 : TS K H9 (upd H9 le (.lst (us' ++ ps.reverse))) := ts_lst e9e
      have t710 := (ts_same s79).trans t10
      have hps10 := ((ts_same s9).trans t10).dps _ _ (pl_kds fun d hd => K2.wf_good d (okP d hd).w) hps
      refine ⟨(most - (found ++ [c]).length) * 41 + (partsK B c ++ st).length, ?_, partsK B c ++ st, found ++ [c], us' ++ ps.reverse, ws ++ [vl], se, ki, le, _, _, rfl, ?_, ?_, upd_same, nse, nki, nle, n1, n2, n3, ?_, ?_, ?_, ?_, ?_, rfl, ?_, fun r h => hrun r (.go hin (by omega) (by omega) (by omega) h), ?_⟩
      · rw [List.length_append, List.length_append, List.length_singleton]
        omega
      · rw [upd_ne n2]; exact s79 _ _ e7s
      · rw [upd_ne n3]; exact s79 _ _ e7k
      · rw [List.reverse_append, List.map_append]
        refine dpAll_append (t710.dps _ _ (pl_kds fun d hd => K2.wf_good d (okS' d (List.mem_reverse.mp hd)).w) hus7) ?_
        rw [List.map_reverse]
        exact dpAll_rev hps10
      · rw [List.map_append]
        exact dpAll_append (t710.dps _ _ (pl_kds gF) hws7) (.cons (t710.dp _ _ (K2.pl_D c gc).1 hv7) .nil)
      · intro d hd
        rcases List.mem_append.mp hd with z | z
        · exact okP d z
        · exact okS' d z
      · intro d hd
        rcases List.mem_append.mp hd with z | z
        · exact okF d z
        · rw [List.mem_singleton.mp z]
          exact okc
      · rw [List.length_append, List.length_singleton]
        omega
      · rw [List.length_append, List.length_append, List.length_singleton]
        omega
      · intro a o' e
        rw [upd_ne (ne_of_none e nle)]
        exact s79 _ _ (s07 a o' e)
end
end K3
namespace K3
open PySem PySem.Spec PyProof.Rows L2 K1
open TL (tl)
open K2 (Kd Ps Ks toD psD ksD good fm fmP fmK dpt dptP dptK innerK withK kidsP kidsK withP ksL getP getK sub Dc bookD okB rowD hdsB bodyK partsK fillOf)
abbrev s_reach : Stmt := topS 48
abbrev nm_reach : List Str := ["book", "kind", "most"]
abbrev pm_reach : List Str := ["book", "kind", "most"]
theorem sc_reach : FnScope nm_reach pm_reach (defScope s_reach) := ⟨rfl, rfl, rfl, by decide +kernel, rfl, by decide +kernel, by decide +kernel⟩
section
variable {P : Program} {w : World} {K : PySem.W.Frag} {mg : Str → Option Value} {base : Heap}
def sp_reach (K : PySem.W.Frag) (CB CK CT : Addr) : Sp := fun vs H Q E => ∃ (b : Addr) (v : V) (B : List Dc) (k : Kd) (most : Nat), vs = [.ref b, v, .int (most : Int)] ∧ Dp K H (.ref b) (bookD B) ∧ okB B ∧ Dp K H v (toD k) ∧ K2.wf (hdsB B) [] k ∧ fm k ≤ 40 ∧ dpt k ≤ 8 ∧ 0 < most ∧ most ≤ 1000 ∧
  (∀ found r H', Run B most [k] [] (found, none) → Same H H' → Dp K H' (.ref r) (.tuple (found.map toD)) → (∀ c ∈ found, OkK B c) → Q (.ref r) H') ∧
  (∀ found k' dd kv H', Run B most [k] [] (found, some k') → Same H H' → H' dd = some (.xd [("kind", kv)]) → Dp K H' kv (toD k') → OkK B k' → E (.ref CT) (some dd) H')
theorem ok_reach {f : Addr} {fd : FuncData} {C_BadBook C_BadKind C_TooMany : Addr} (F : Fun K "reach" "reach" s_reach f fd) (C_refuse_unformed : CalX P w K mg base "refuse_unformed" pm_refuse_unformed 46 (sp_refuse_unformed K C_BadBook C_BadKind)) (C_met_kinds : CalX P w K mg base "met_kinds" pm_met_kinds 20 (sp_met_kinds K C_TooMany)) {t_MOST_KINDS : Nat} (g_MOST_KINDS : mg "MOST_KINDS" = some (.int 60 t_MOST_KINDS)) : FnOk P w K mg base (L2.CX P w) 47 f fd pm_reach (sp_reach K C_BadBook C_BadKind C_TooMany) := by
  obtain ⟨f_refuse_unformed, fd_refuse_unformed, G_refuse_unformed, g_refuse_unformed, k_refuse_unformed, b_refuse_unformed⟩ := C_refuse_unformed.ex
  obtain ⟨f_met_kinds, fd_met_kinds, G_met_kinds, g_met_kinds, k_met_kinds, b_met_kinds⟩ := C_met_kinds.ex
  refine F.okX sc_reach (fun vs H Q E h => ?_) (fun cdv A outer s H vs Q E hr h => ?_)
  · obtain ⟨b, v, B, k, most, rfl, _⟩ := h
    rfl
  · obtain ⟨b, v, B, k, most, rfl, hb, hB, hv, hw, hf, hd, hm0, hm1, q, qe⟩ := h
    have rm : ∀ {j : Nat}, j ≤ 46 → Room j (A.deeper (envOfC "reach" (defScope s_reach) s.heap.objs.size f cdv)) := fun hj => hr.mono hj
    refine ⟨_, pss_cons (ps_expr (pe_callS G_refuse_unformed (rm (by decide)) (by rfl) g_refuse_unformed k_refuse_unformed b_refuse_unformed (fun σ => passAt (takes_of rfl rfl rfl rfl) σ) (pa_cons (pv 0) (pa_cons (pv 1) pa_nil))))
      (pss_one (ps_ret (pe_callS G_met_kinds (rm (by decide)) (by rfl) g_met_kinds k_met_kinds b_met_kinds (fun σ => passAt (takes_of rfl rfl rfl rfl) σ) (pa_cons (pv 0) (pa_cons (pv 1) (pa_cons (pv 2) pa_nil)))))), ?_⟩
    have pB : pl (bookD B) = true := K2.pl_rows hB.row
    have oB : okD (bookD B) = true := okA_rows hB.row
    have g := K2.wf_good k hw
    have pk := (K2.pl_D k g).1
    have ok := okD_D k g
    refine ⟨.ref b, rfl, v, rfl, .ref b, v, bookD B, toD k, rfl, hb, pB, oB, hv, pk, ok, fun p z e => absurd e (by rw [K2.bkM_ok hB]; exact fun z' => nomatch z'), fun rows er _ => ?_⟩
    obtain rfl : rows = B.map rowD := by injection er with e; exact e.symm
    rw [K2.hsM_rows]
    refine ⟨fun _ H1 s1 => ?_, fun p z e => absurd e (by rw [kf_ok hw hf hd]; exact fun z' => nomatch z')⟩
    refine ⟨.ref b, rfl, v, rfl, .int (most : Int), rfl, b, v, B, k, most, rfl, (ts_same s1).dp _ _ pB hb, hB, (ts_same s1).dp _ _ pk hv, ⟨hw, by omega, by omega⟩, hm0, hm1, fun found r H' hr s' d' o' => q found r H' hr (s1.trans s') d' o', fun found k' dd kv H' hr s' e' d' o' => qe found k' dd kv H' hr (s1.trans s') e' d' o'⟩
end
end K3
namespace K2
open PySem PySem.Spec PyProof.Rows L2 K1 K3
open TL (tl joinL)
abbrev s__law_filled : Stmt := topS 60
abbrev nm__law_filled : List Str := ["_law_kind_here", "_law_fills", "_law_word", "_law_name", "_law_piece", "_law_fill"]
abbrev pm__law_filled : List Str := ["_law_kind_here", "_law_fills"]
theorem sc__law_filled : FnScope nm__law_filled pm__law_filled (defScope s__law_filled) := ⟨rfl, rfl, rfl, by decide +kernel, rfl, by decide +kernel, by decide +kernel⟩
theorem psD_subP {σ : Str → Option Kd} : ∀ (ps : Ps) (i : Nat) (n : Str) (c : Kd), getP ps i = some (n, c) → (psD (subP σ ps))[i]? = some (.tuple [.str n, toD (sub σ c)])
  | .nil, _, _, _, h => by cases h
  | .cons n' k ps, 0, n, c, h => by
    cases h
    rfl
  | .cons n' k ps, i + 1, n, c, h => by
    simp only [subP, psD, List.getElem?_cons_succ]
    exact psD_subP ps i n c h
theorem psD_subL {σ : Str → Option Kd} : ∀ ps : Ps, (psD (subP σ ps)).length = (psD ps).length
  | .nil => rfl
  | .cons _ _ ps => by simp only [subP, psD, List.length_cons, psD_subL ps]
theorem ksD_subK {σ : Str → Option Kd} : ∀ (ks : Ks) (i : Nat) (c : Kd), getK ks i = some c → (ksD (subK σ ks))[i]? = some (toD (sub σ c))
  | .nil, _, _, h => by cases h
  | .cons k ks, 0, c, h => by
    cases h
    rfl
  | .cons k ks, i + 1, c, h => by
    simp only [subK, ksD, List.getElem?_cons_succ]
    exact ksD_subK ks i c h
theorem ksD_subL {σ : Str → Option Kd} : ∀ ks : Ks, (ksD (subK σ ks)).length = (ksD ks).length
  | .nil => rfl
  | .cons _ ks => by simp only [subK, ksD, List.length_cons, ksD_subL ks]
theorem getP_wf {hs : List (Str × Nat)} {ho : List Str} : ∀ (ps : Ps) (i : Nat) (n : Str) (c : Kd), getP ps i = some (n, c) → wfP hs ho ps → Nm n ∧ wf hs ho c
  | .nil, _, _, _, h, _ => by cases h
  | .cons n' k ps, 0, n, c, h, w => by
    cases h
    exact ⟨w.1, w.2.1⟩
  | .cons n' k ps, i + 1, n, c, h, w => getP_wf ps i n c h w.2.2
theorem getK_wf {hs : List (Str × Nat)} {ho : List Str} : ∀ (ks : Ks) (i : Nat) (c : Kd), getK ks i = some c → wfK hs ho ks → wf hs ho c
  | .nil, _, _, h, _ => by cases h
  | .cons k ks, 0, c, h, w => by
    cases h
    exact w.1
  | .cons k ks, i + 1, c, h, w => getK_wf ks i c h w.2
section
variable {P : Program} {w : World} {K : PySem.W.Frag} {mg : Str → Option Value} {base : Heap}
def sp__law_filled (K : PySem.W.Frag) (n : Nat) : Sp := fun vs H Q _ => ∃ (v : V) (fd : Addr) (k : Kd) (kvs : List (Key × V)) (σ : Str → Option Kd) (hs : List (Str × Nat)) (ho : List Str), vs = [v, .ref fd] ∧ Dp K H v (toD k) ∧ wf hs ho k ∧ (∀ m ∈ ho, ∃ e, σ m = some e) ∧ dpt k ≤ n ∧ fm k ≤ 100000 ∧ H fd = some (.dK kvs) ∧ FillAt K H kvs σ ∧
  ∀ r H', Same H H' → Dp K H' r (toD (sub σ k)) → good (sub σ k) → Q r H'
theorem nv__law_filled {vs : List V} {H : Hp} {Q : VK} {E : XK} (h : sp__law_filled K 0 vs H Q E) : False := by
  obtain ⟨v, fd, k, kvs, σ, hs, ho, _, _, _, _, h1, _⟩ := h
  have := dpt_pos k
  omega
theorem ok__law_filled {f : Addr} {fd : FuncData} (F : Fun K "_law_filled" "_law_filled" s__law_filled f fd) (g_self : mg "_law_filled" = some (.ref f)) (b_self : Binds K fd pm__law_filled []) (m_tuple : mg "tuple" = none) : ∀ n : Nat, FnOk P w K mg base CX0 (n + 0 + 1) f fd pm__law_filled (sp__law_filled K n) := by
  intro n
  induction n with
  | zero => exact F.ok sc__law_filled (fun vs H Q E h => (nv__law_filled h).elim) (fun cdv A outer s H vs Q E hr h => (nv__law_filled h).elim)
  | succ n ih =>
  refine F.ok sc__law_filled (fun vs H Q E h => ?_) (fun cdv A outer s H vs Q E hr h => ?_)
  · obtain ⟨v, fd, k, kvs, σ, hs, ho, rfl, _⟩ := h
    rfl
  · obtain ⟨v, fd, k, kvs, σ, hs, ho, rfl, hv, hwf, hσ, hd, hfm, hfd, hfl, q⟩ := h
    refine ⟨_, pss_cons (ps_set (i := 2) sc__law_filled.nd rfl (.inl rfl) (pe_ix ix_tup (pv 0) pe_int (fun _ _ => rfl)))
      (pss_cons (ps_if (pt_cmpR op_eq (pv 2) pe_str (nomark _))
      (pss_one (ps_ret (pe_dget (hu_of hr) (pv 1) (pe_ix ix_tup (pv 0) pe_int (fun _ _ => rfl)) (fun _ _ => rfl)))) pss_nil)
      (pss_cons (ps_if (PW.pt (pw_or (pt_cmpR op_eq (pv 2) pe_str (nomark _)) (pw_or1 (pt_cmpR op_eq (pv 2) pe_str (nomark _)))))
      (pss_one (ps_ret (pe_tup (pa_cons (pv 2) (pa_cons (pe_callTy call_tuple_of (by rfl) m_tuple (by decide +kernel) (pa_cons (pe_lc (own := [("_law_name", 3), ("_law_piece", 4)]) (g := gTup K 2 (gCons (gName 3) (gCons (gName 4) gNil))) (tt := tYes) rfl sc__law_filled.nd (pi_tup (pe_ix ix_tup (pv 0) pe_int (fun _ _ => rfl))) (blkOk_by (N := nm__law_filled) (sc := defScope s__law_filled) (by decide +kernel)) (fun _ _ _ _ _ => pg_tup (by rfl) (pgs_cons (pg_name (i := 3) sc__law_filled.nd rfl (Or.inl rfl)) (pgs_cons (pg_name (i := 4) sc__law_filled.nd rfl (Or.inl rfl)) pgs_nil))) (fun _ _ _ _ _ => pts_nil) (fun _ _ _ _ _ => (pe_tup (pa_cons (pv 3) (pa_cons (pe_call ih (hr.mono (by omega)) (by rfl) g_self F.kp b_self .nil pass0 (pa_cons (pv 4) (pa_cons (pv 1) pa_nil))) pa_nil))))) pa_nil)) pa_nil))))) pss_nil)
      (pss_cons (ps_if (pt_cmpR op_eq (pv 2) pe_str (nomark _))
      (pss_one (ps_ret (pe_tup (pa_cons pe_str (pa_cons (pe_ix ix_tup (pv 0) pe_int (fun _ _ => rfl)) (pa_cons (pe_callTy call_tuple_of (by rfl) m_tuple (by decide +kernel) (pa_cons (pe_lc (own := [("_law_fill", 5)]) (g := gName 5) (tt := tYes) rfl sc__law_filled.nd (pi_tup (pe_ix ix_tup (pv 0) pe_int (fun _ _ => rfl))) (blkOk_by (N := nm__law_filled) (sc := defScope s__law_filled) (by decide +kernel)) (fun _ _ _ _ _ => pg_name (i := 5) sc__law_filled.nd rfl (Or.inl rfl)) (fun _ _ _ _ _ => pts_nil) (fun _ _ _ _ _ => (pe_call ih (hr.mono (by omega)) (by rfl) g_self F.kp b_self .nil pass0 (pa_cons (pv 5) (pa_cons (pv 1) pa_nil))))) pa_nil)) pa_nil)))))) pss_nil)
      (pss_cons (ps_if (PW.pt (pw_or (pt_cmpR op_eq (pv 2) pe_str (nomark _)) (pw_or (pt_cmpR op_eq (pv 2) pe_str (nomark _)) (pw_or1 (pt_cmpR op_eq (pv 2) pe_str (nomark _))))))
      (pss_one (ps_ret (pe_op op_catA (pe_slice sl_tupA (pv 0) po_none (po_some (pe_un un_neg pe_int))) (pe_tup (pa_cons (pe_call ih (hr.mono (by omega)) (by rfl) g_self F.kp b_self .nil pass0 (pa_cons (pe_ix ix_tup (pv 0) (pe_un un_neg pe_int) (fun _ _ => rfl)) (pa_cons (pv 1) pa_nil))) pa_nil))))) pss_nil)
      (pss_one (ps_ret (pv 0))))))), ?_⟩
    have g := wf_good k hwf
    have gs := good_sub (σ := σ) (fun m e h => (hfl m e h).choose_spec.2.2) k g
    obtain ⟨a, ws, rfl, hs0, hw⟩ := K2.dk hv
    refine ⟨.ref a, rfl, a, _, 0, .str (S (wd k)), rfl, rfl, hs0, atI_nat (j := 0) rfl, ?_⟩
    cases k with
    | num i b =>
      have qq := q (.ref a) H (Same.refl _) hv gs
      cases i with
      | false => exact ⟨_, rfl, rfl, _, rfl, tF (show S "nat" ≠ S "hole" by decide +kernel) ⟨_, rfl, rfl, _, rfl, tF (show S "nat" ≠ S "record" by decide +kernel) ⟨_, rfl, rfl, _, rfl, tF (show S "nat" ≠ S "variant" by decide +kernel) ⟨_, rfl, rfl, _, rfl, tF (show S "nat" ≠ S "use" by decide +kernel) ⟨_, rfl, rfl, _, rfl, tF (show S "nat" ≠ S "row" by decide +kernel) ⟨_, rfl, rfl, _, rfl, tF (show S "nat" ≠ S "maybe" by decide +kernel) ⟨_, rfl, rfl, _, rfl, tF (show S "nat" ≠ S "box" by decide +kernel) ⟨_, rfl, qq⟩⟩⟩⟩⟩⟩⟩⟩
      | true => exact ⟨_, rfl, rfl, _, rfl, tF (show S "int" ≠ S "hole" by decide +kernel) ⟨_, rfl, rfl, _, rfl, tF (show S "int" ≠ S "record" by decide +kernel) ⟨_, rfl, rfl, _, rfl, tF (show S "int" ≠ S "variant" by decide +kernel) ⟨_, rfl, rfl, _, rfl, tF (show S "int" ≠ S "use" by decide +kernel) ⟨_, rfl, rfl, _, rfl, tF (show S "int" ≠ S "row" by decide +kernel) ⟨_, rfl, rfl, _, rfl, tF (show S "int" ≠ S "maybe" by decide +kernel) ⟨_, rfl, rfl, _, rfl, tF (show S "int" ≠ S "box" by decide +kernel) ⟨_, rfl, qq⟩⟩⟩⟩⟩⟩⟩⟩
    | truth =>
      have qq := q (.ref a) H (Same.refl _) hv gs
      exact ⟨_, rfl, rfl, _, rfl, tF (show S "truth" ≠ S "hole" by decide +kernel) ⟨_, rfl, rfl, _, rfl, tF (show S "truth" ≠ S "record" by decide +kernel) ⟨_, rfl, rfl, _, rfl, tF (show S "truth" ≠ S "variant" by decide +kernel) ⟨_, rfl, rfl, _, rfl, tF (show S "truth" ≠ S "use" by decide +kernel) ⟨_, rfl, rfl, _, rfl, tF (show S "truth" ≠ S "row" by decide +kernel) ⟨_, rfl, rfl, _, rfl, tF (show S "truth" ≠ S "maybe" by decide +kernel) ⟨_, rfl, rfl, _, rfl, tF (show S "truth" ≠ S "box" by decide +kernel) ⟨_, rfl, qq⟩⟩⟩⟩⟩⟩⟩⟩
    | hole m =>
      obtain ⟨y0, rfl, hy0⟩ := all1 hw
      have ey := dStr hy0
      subst ey
      obtain ⟨e, he⟩ := hσ m hwf.2
      obtain ⟨fv, f1, f2, f3⟩ := hfl m e he
      have es : sub σ (.hole m) = e := by simp only [sub, he, Option.getD_some]
      refine ⟨_, rfl, rfl, _, rfl, tT rfl ?_⟩
      refine ⟨.ref fd, rfl, .ref a, rfl, a, _, 1, .str m, rfl, rfl, hs0, atI_nat (j := 1) rfl, fd, fv, rfl, by rw [← f1]; exact DGet.k (k := Sum.inr m) hfd, ?_⟩
      exact q fv H (Same.refl _) (by rw [es]; exact f2) (by rw [es]; exact f3)
    | parts vv ps =>
      obtain ⟨x, rfl, hx⟩ := all1 hw
      obtain ⟨pb, vs, rfl, hsb, hvs⟩ := dTup hx
      have hgp : goodP ps := g
      have hvl := dpAll_len hvs
      have hle : (psD ps).length ≤ fm (.parts vv ps) := by
        have h1 := (kidsP_ok ps).1
        have h2 := innerK_len (.parts vv ps)
        have h3 : (innerK (.parts vv ps)).length = (kidsP ps).length := rfl
        omega
      have plS : plA (psD (subP σ ps)) = true := (pl_P _ gs).1
      have go : ∀ (D : Addr) (hD : H D = none) (i : Nat) (H' : Hp) (x : V) (hxi : vs[i]? = some x) (us : List V), H' D = some (.lst us) → us.length = i → DpAll K H' us ((psD (subP σ ps)).take i) → Same H H' →
          ∃ (t : Addr) (nm : Str) (u : V) (c : Kd), x = .ref t ∧ SqT K H' t [.str nm, u] ∧ Dp K H' u (toD c) ∧ Nm nm ∧ wf hs ho c ∧ dpt c < dpt (.parts vv ps) ∧ fm c < fm (.parts vv ps) ∧ (psD (subP σ ps))[i]? = some (.tuple [.str nm, toD (sub σ c)]) := fun D hD i H' x hxi us _ _ _ s' => by
        have hi : i < vs.length := (List.getElem?_eq_some_iff.mp hxi).1
        obtain ⟨nm, c, hget⟩ := getP_lt ps i (by rw [← hvl]; exact hi)
        obtain ⟨a1, a2, a3, a4, -⟩ := ps_ctx ps i nm c hget
        obtain ⟨di, k1, k2⟩ := dpAll_get hvs hxi
        obtain rfl := Option.some.inj (a1.symm.trans k1)
        obtain ⟨t0, us2, e0, ht0, hus⟩ := dTup k2
        obtain ⟨x1, x2, rfl, hx1, hx2⟩ := all2 hus
        have := dStr hx1
        subst this
        have wc := getP_wf ps i nm c hget hwf.2.2.2
        exact ⟨t0, nm, x2, c, e0, ts_same s' _ _ ht0, (ts_same s').dp _ _ (pl_D c (wf_good c wc.2)).1 hx2, wc.1, wc.2, by simp only [dpt]; omega, by simp only [fm]; omega, psD_subP ps i nm c hget⟩
      have fin : ∀ (D : Addr) (H' : Hp) (us : List V), H' D = some (.lst us) → DpAll K H' us (psD (subP σ ps)) → Same H H' → ∀ (tu : Addr) (ntu : H' tu = none) (t : Addr) (nt : (upd H' tu (.tup us)) t = none), Q (.ref t) (upd (upd H' tu (.tup us)) t (.tup [.str (S (wP vv)), .ref tu])) := fun D H' us eD hu s' tu ntu t nt => by
        have e1 : (upd H' tu (.tup us)) tu = some (.tup us) := upd_same
        have sa : Same H' (upd (upd H' tu (.tup us)) t (.tup [.str (S (wP vv)), .ref tu])) := (same_upd ntu).trans (same_upd nt)
        exact q _ _ (s'.trans sa) (.tup (.inl (.inl upd_same)) (.cons (.str _) (.cons (.tup (.inl (.inl (same_upd nt _ _ e1))) ((ts_same sa).dps _ _ plS hu)) .nil))) gs
      cases vv with
      | false =>
        refine ⟨_, rfl, rfl, _, rfl, tF (show S "record" ≠ S "hole" by decide +kernel) ⟨_, rfl, rfl, _, rfl, tT rfl ?_⟩⟩
        refine ⟨_, rfl, .ref a, rfl, a, _, 1, .ref pb, rfl, rfl, hs0, atI_nat (j := 1) rfl, pb, rfl, ⟨_, hsb⟩, fun D hD => lc_tup (xs := vs) (fun i H' => ∃ us, H' D = some (.lst us) ∧ us.length = i ∧ DpAll K H' us ((psD (subP σ ps)).take i) ∧ Same H H')
          ⟨[], upd_same, rfl, by rw [List.take_zero]; exact .nil, same_upd hD⟩ (fun i H' _ hP => ?_) (fun i x H' hxi hP => ?_) (fun H' hP => ?_)⟩
        · obtain ⟨_, _, _, _, s'⟩ := hP
          exact ts_same s' _ _ hsb
        · obtain ⟨us, eD, el, hu, s'⟩ := hP
          have hi : i < vs.length := (List.getElem?_eq_some_iff.mp hxi).1
          obtain ⟨t, nm, u, c, rfl, ht, hu1, hnm, wc, dc, fc, hget⟩ := go D hD i H' x hxi us eD el hu s'
          refine ⟨t, [.str nm, u], rfl, ht, rfl, .str nm, [u], rfl, u, [], rfl, rfl, rfl, ?_⟩
          dsimp only [tYes]
          refine iteT ?_
          refine ⟨.str nm, rfl, u, rfl, .ref fd, rfl, u, fd, c, kvs, σ, hs, ho, rfl, hu1, wc, hσ, by omega, by omega, s' _ _ hfd, hfl.same s', fun r H2 s2 d2 g2 => ?_⟩
          refine ⟨(by show 2 ≤ sizeLine; decide), fun t3 nt3 => ?_⟩
          have s3 : Same H2 (upd H2 t3 (.tup [.str nm, r])) := same_upd nt3
          have e3 : (upd H2 t3 (.tup [.str nm, r])) t3 = some (.tup [.str nm, r]) := upd_same
          generalize upd H2 t3 (HO.tup [V.str nm, r]) = H3 at s3 e3 ⊢
          have eD3 := s3 _ _ (s2 _ _ eD)
          have tl := ts_lst (K := K) (ys := us ++ [.ref t3]) eD3
          have ts3 := (ts_same (s2.trans s3)).trans tl
          refine ⟨us, eD3, ?_, us ++ [.ref t3], upd_same, by rw [List.length_append, el]; rfl, ?_, fun b o e => by rw [upd_ne (ne_of_none e hD)]; exact s3 _ _ (s2 _ _ (s' b o e))⟩
          · exact Nat.lt_of_le_of_lt (show us.length ≤ 100000 by omega) (by decide)
          · rw [List.take_add_one, hget]
            refine dpAll_append (ts3.dps _ _ (plA_of fun d hd => plA_mem plS (List.mem_of_mem_take hd)) hu) (.cons (.tup (tl _ _ (.inl (.inl e3))) (.cons (.str _) (.cons (((ts_same s3).trans tl).dp _ _ (pl_D _ g2).1 d2) .nil))) .nil)
        · obtain ⟨us, eD, el, hu, s'⟩ := hP
          rw [List.take_of_length_le (by rw [psD_subL]; omega)] at hu
          refine ⟨D, _, rfl, .inl ⟨.inl (.inl eD), fun tu ntu => ⟨(by show 2 ≤ sizeLine; decide), fun t nt => ?_⟩⟩⟩
          exact fin D H' us eD hu s' tu ntu t nt
      | true =>
        refine ⟨_, rfl, rfl, _, rfl, tF (show S "variant" ≠ S "hole" by decide +kernel) ⟨_, rfl, rfl, _, rfl, tF (show S "variant" ≠ S "record" by decide +kernel) ⟨_, rfl, rfl, _, rfl, tT rfl ?_⟩⟩⟩
        refine ⟨_, rfl, .ref a, rfl, a, _, 1, .ref pb, rfl, rfl, hs0, atI_nat (j := 1) rfl, pb, rfl, ⟨_, hsb⟩, fun D hD => lc_tup (xs := vs) (fun i H' => ∃ us, H' D = some (.lst us) ∧ us.length = i ∧ DpAll K H' us ((psD (subP σ ps)).take i) ∧ Same H H')
          ⟨[], upd_same, rfl, by rw [List.take_zero]; exact .nil, same_upd hD⟩ (fun i H' _ hP => ?_) (fun i x H' hxi hP => ?_) (fun H' hP => ?_)⟩
        · obtain ⟨_, _, _, _, s'⟩ := hP
          exact ts_same s' _ _ hsb
        · obtain ⟨us, eD, el, hu, s'⟩ := hP
          have hi : i < vs.length := (List.getElem?_eq_some_iff.mp hxi).1
          obtain ⟨t, nm, u, c, rfl, ht, hu1, hnm, wc, dc, fc, hget⟩ := go D hD i H' x hxi us eD el hu s'
          refine ⟨t, [.str nm, u], rfl, ht, rfl, .str nm, [u], rfl, u, [], rfl, rfl, rfl, ?_⟩
          dsimp only [tYes]
          refine iteT ?_
          refine ⟨.str nm, rfl, u, rfl, .ref fd, rfl, u, fd, c, kvs, σ, hs, ho, rfl, hu1, wc, hσ, by omega, by omega, s' _ _ hfd, hfl.same s', fun r H2 s2 d2 g2 => ?_⟩
          refine ⟨(by show 2 ≤ sizeLine; decide), fun t3 nt3 => ?_⟩
          have s3 : Same H2 (upd H2 t3 (.tup [.str nm, r])) := same_upd nt3
          have e3 : (upd H2 t3 (.tup [.str nm, r])) t3 = some (.tup [.str nm, r]) := upd_same
          generalize upd H2 t3 (HO.tup [V.str nm, r]) = H3 at s3 e3 ⊢
          have eD3 := s3 _ _ (s2 _ _ eD)
          have tl := ts_lst (K := K) (ys := us ++ [.ref t3]) eD3
          have ts3 := (ts_same (s2.trans s3)).trans tl
          refine ⟨us, eD3, ?_, us ++ [.ref t3], upd_same, by rw [List.length_append, el]; rfl, ?_, fun b o e => by rw [upd_ne (ne_of_none e hD)]; exact s3 _ _ (s2 _ _ (s' b o e))⟩
          · exact Nat.lt_of_le_of_lt (show us.length ≤ 100000 by omega) (by decide)
          · rw [List.take_add_one, hget]
            refine dpAll_append (ts3.dps _ _ (plA_of fun d hd => plA_mem plS (List.mem_of_mem_take hd)) hu) (.cons (.tup (tl _ _ (.inl (.inl e3))) (.cons (.str _) (.cons (((ts_same s3).trans tl).dp _ _ (pl_D _ g2).1 d2) .nil))) .nil)
        · obtain ⟨us, eD, el, hu, s'⟩ := hP
          rw [List.take_of_length_le (by rw [psD_subL]; omega)] at hu
          refine ⟨D, _, rfl, .inl ⟨.inl (.inl eD), fun tu ntu => ⟨(by show 2 ≤ sizeLine; decide), fun t nt => ?_⟩⟩⟩
          exact fin D H' us eD hu s' tu ntu t nt
    | use nm fs =>
      obtain ⟨y0, y1, rfl, hy0, hy1⟩ := all2 hw
      have ey := dStr hy0
      subst ey
      obtain ⟨ua, vs, rfl, hsb, hvs⟩ := dTup hy1
      have hvl := dpAll_len hvs
      have hle : (ksD fs).length ≤ fm (.use nm fs) := by
        have h1 := (kidsK_ok fs).1
        have h2 := innerK_len (.use nm fs)
        have h3 : (innerK (.use nm fs)).length = (kidsK fs).length := rfl
        omega
      have plS : plA (ksD (subK σ fs)) = true := (pl_K _ gs.2).1
      refine ⟨_, rfl, rfl, _, rfl, tF (show S "use" ≠ S "hole" by decide +kernel) ⟨_, rfl, rfl, _, rfl, tF (show S "use" ≠ S "record" by decide +kernel) ⟨_, rfl, rfl, _, rfl, tF (show S "use" ≠ S "variant" by decide +kernel) ⟨_, rfl, rfl, _, rfl, tT rfl ?_⟩⟩⟩⟩
      refine ⟨.ref a, rfl, a, _, 1, .str nm, rfl, rfl, hs0, atI_nat (j := 1) rfl, .ref a, rfl, a, _, 2, .ref ua, rfl, rfl, hs0, atI_nat (j := 2) rfl, ua, rfl, ⟨_, hsb⟩, fun D hD => lc_tup (xs := vs) (fun i H' => ∃ us, H' D = some (.lst us) ∧ us.length = i ∧ DpAll K H' us ((ksD (subK σ fs)).take i) ∧ Same H H')
          ⟨[], upd_same, rfl, by rw [List.take_zero]; exact .nil, same_upd hD⟩ (fun i H' _ hP => ?_) (fun i x H' hxi hP => ?_) (fun H' hP => ?_)⟩
      · obtain ⟨_, _, _, _, s'⟩ := hP
        exact ts_same s' _ _ hsb
      · obtain ⟨us, eD, el, hu, s'⟩ := hP
        have hi : i < vs.length := (List.getElem?_eq_some_iff.mp hxi).1
        obtain ⟨c, hget⟩ := getK_lt fs i (by rw [← hvl]; exact hi)
        obtain ⟨a1, a2, a3, a4, -⟩ := ks_ctx fs i c hget
        obtain ⟨di, k1, k2⟩ := dpAll_get hvs hxi
        obtain rfl := Option.some.inj (a1.symm.trans k1)
        have wc := getK_wf fs i c hget hwf.2
        refine ⟨rfl, ?_⟩
        dsimp only [tYes]
        refine iteT ?_
        refine ⟨x, rfl, .ref fd, rfl, x, fd, c, kvs, σ, hs, ho, rfl, (ts_same s').dp _ _ (pl_D c (wf_good c wc)).1 k2, wc, hσ, by simp only [dpt] at hd; omega, by simp only [fm] at hfm; omega, s' _ _ hfd, hfl.same s', fun r H2 s2 d2 g2 => ?_⟩
        have eD2 := s2 _ _ eD
        have tl := ts_lst (K := K) (ys := us ++ [r]) eD2
        refine ⟨us, eD2, ?_, us ++ [r], upd_same, by rw [List.length_append, el]; rfl, ?_, fun b o e => by rw [upd_ne (ne_of_none e hD)]; exact s2 _ _ (s' b o e)⟩
        · exact Nat.lt_of_le_of_lt (show us.length ≤ 100000 by omega) (by decide)
        · rw [List.take_add_one, ksD_subK fs i c hget]
          exact dpAll_append (((ts_same s2).trans tl).dps _ _ (plA_of fun d hd => plA_mem plS (List.mem_of_mem_take hd)) hu) (.cons (tl.dp _ _ (pl_D _ g2).1 d2) .nil)
      · obtain ⟨us, eD, el, hu, s'⟩ := hP
        rw [List.take_of_length_le (by rw [ksD_subL]; omega)] at hu
        refine ⟨D, _, rfl, .inl ⟨.inl (.inl eD), fun tu ntu => ⟨(by show 3 ≤ sizeLine; decide), fun t nt => ?_⟩⟩⟩
        have e1 : (upd H' tu (.tup us)) tu = some (.tup us) := upd_same
        have sa : Same H' (upd (upd H' tu (.tup us)) t (.tup [.str "use", .str nm, .ref tu])) := (same_upd ntu).trans (same_upd nt)
        exact q _ _ (s'.trans sa) (.tup (.inl (.inl upd_same)) (.cons (.str _) (.cons (.str _) (.cons (.tup (.inl (.inl (same_upd nt _ _ e1))) ((ts_same sa).dps _ _ plS hu)) .nil)))) gs
    | row m c =>
      obtain ⟨y0, y1, rfl, hy0, hy1⟩ := all2 hw
      have ey := dInt hy0
      subst ey
      have wc : wf hs ho c := hwf.2
      have gc := wf_good c wc
      refine ⟨_, rfl, rfl, _, rfl, tF (show S "row" ≠ S "hole" by decide +kernel) ⟨_, rfl, rfl, _, rfl, tF (show S "row" ≠ S "record" by decide +kernel) ⟨_, rfl, rfl, _, rfl, tF (show S "row" ≠ S "variant" by decide +kernel) ⟨_, rfl, rfl, _, rfl, tF (show S "row" ≠ S "use" by decide +kernel) ⟨_, rfl, rfl, _, rfl, tT rfl ?_⟩⟩⟩⟩⟩
      refine ⟨.ref a, rfl, 1, rfl, -1, rfl, slA_any hs0 fun r1 H1 s1 h1 => ?_⟩
      rw [show cutV [V.str (S (wd (.row m c))), .int m, y1] none (some (-1)) = [V.str (S "row"), .int m] from rfl] at h1
      refine ⟨.ref a, rfl, 1, rfl, a, _, -1, y1, rfl, rfl, ts_same s1 _ _ hs0, rfl, .ref fd, rfl, y1, fd, c, kvs, σ, hs, ho, rfl, (ts_same s1).dp _ _ (pl_D c gc).1 hy1, wc, hσ, by simp only [dpt] at hd; omega, by simp only [fm] at hfm; omega, s1 _ _ hfd, hfl.same s1, fun r H2 s2 d2 g2 => ?_⟩
      refine ⟨(by show 1 ≤ sizeLine; decide), fun t nt => ?_⟩
      have s3 : Same H2 (upd H2 t (.tup [r])) := same_upd nt
      refine catA_any (ts_same (s2.trans s3) _ _ h1) (.inl (.inl upd_same)) (by show 3 ≤ sizeLine; decide) fun r4 H4 s4 h4 => ?_
      exact q _ H4 (s1.trans (s2.trans (s3.trans s4))) (.tup h4 (.cons (.str _) (.cons (.int _) (.cons ((ts_same (s3.trans s4)).dp _ _ (pl_D _ g2).1 d2) .nil)))) gs
    | one b c =>
      obtain ⟨y1, rfl, hy1⟩ := all1 hw
      have wc : wf hs ho c := hwf
      have gc := wf_good c wc
      have fin : ∀ (r1 : Addr) (H1 : Hp), Same H H1 → SqT K H1 r1 [V.str (S (wO b))] → ∀ r H2, Same H1 H2 → Dp K H2 r (toD (sub σ c)) → good (sub σ c) → ∀ (t : Addr) (nt : H2 t = none), rCatA K (.ref r1) (.ref t) (upd H2 t (.tup [r])) Q := fun r1 H1 s1 h1 r H2 s2 d2 g2 t nt => by
        have s3 : Same H2 (upd H2 t (.tup [r])) := same_upd nt
        refine catA_any (ts_same (s2.trans s3) _ _ h1) (.inl (.inl upd_same)) (by show 2 ≤ sizeLine; decide) fun r4 H4 s4 h4 => ?_
        exact q _ H4 (s1.trans (s2.trans (s3.trans s4))) (.tup h4 (.cons (.str _) (.cons ((ts_same (s3.trans s4)).dp _ _ (pl_D _ g2).1 d2) .nil))) gs
      cases b with
      | false =>
        refine ⟨_, rfl, rfl, _, rfl, tF (show S "maybe" ≠ S "hole" by decide +kernel) ⟨_, rfl, rfl, _, rfl, tF (show S "maybe" ≠ S "record" by decide +kernel) ⟨_, rfl, rfl, _, rfl, tF (show S "maybe" ≠ S "variant" by decide +kernel) ⟨_, rfl, rfl, _, rfl, tF (show S "maybe" ≠ S "use" by decide +kernel) ⟨_, rfl, rfl, _, rfl, tF (show S "maybe" ≠ S "row" by decide +kernel) ⟨_, rfl, rfl, _, rfl, tT rfl ?_⟩⟩⟩⟩⟩⟩
        refine ⟨.ref a, rfl, 1, rfl, -1, rfl, slA_any hs0 fun r1 H1 s1 h1 => ?_⟩
        refine ⟨.ref a, rfl, 1, rfl, a, _, -1, y1, rfl, rfl, ts_same s1 _ _ hs0, rfl, .ref fd, rfl, y1, fd, c, kvs, σ, hs, ho, rfl, (ts_same s1).dp _ _ (pl_D c gc).1 hy1, wc, hσ, by simp only [dpt] at hd; omega, by simp only [fm] at hfm; omega, s1 _ _ hfd, hfl.same s1, fun r H2 s2 d2 g2 => ?_⟩
        exact ⟨(by show 1 ≤ sizeLine; decide), fun t nt => fin r1 H1 s1 h1 r H2 s2 d2 g2 t nt⟩
      | true =>
        refine ⟨_, rfl, rfl, _, rfl, tF (show S "box" ≠ S "hole" by decide +kernel) ⟨_, rfl, rfl, _, rfl, tF (show S "box" ≠ S "record" by decide +kernel) ⟨_, rfl, rfl, _, rfl, tF (show S "box" ≠ S "variant" by decide +kernel) ⟨_, rfl, rfl, _, rfl, tF (show S "box" ≠ S "use" by decide +kernel) ⟨_, rfl, rfl, _, rfl, tF (show S "box" ≠ S "row" by decide +kernel) ⟨_, rfl, rfl, _, rfl, tF (show S "box" ≠ S "maybe" by decide +kernel) ⟨_, rfl, rfl, _, rfl, tT rfl ?_⟩⟩⟩⟩⟩⟩⟩
        refine ⟨.ref a, rfl, 1, rfl, -1, rfl, slA_any hs0 fun r1 H1 s1 h1 => ?_⟩
        refine ⟨.ref a, rfl, 1, rfl, a, _, -1, y1, rfl, rfl, ts_same s1 _ _ hs0, rfl, .ref fd, rfl, y1, fd, c, kvs, σ, hs, ho, rfl, (ts_same s1).dp _ _ (pl_D c gc).1 hy1, wc, hσ, by simp only [dpt] at hd; omega, by simp only [fm] at hfm; omega, s1 _ _ hfd, hfl.same s1, fun r H2 s2 d2 g2 => ?_⟩
        exact ⟨(by show 1 ≤ sizeLine; decide), fun t nt => fin r1 H1 s1 h1 r H2 s2 d2 g2 t nt⟩
end
end K2
namespace K2
open PySem PySem.Spec PyProof.Rows L2 K1 K3
open TL (tl joinL)
abbrev s__law_parts : Stmt := topS 61
abbrev nm__law_parts : List Str := ["_law_book_here", "_law_kind_here", "_law_name", "_law_holes", "_law_made", "_law_piece"]
abbrev pm__law_parts : List Str := ["_law_book_here", "_law_kind_here"]
theorem sc__law_parts : FnScope nm__law_parts pm__law_parts (defScope s__law_parts) := ⟨rfl, rfl, rfl, by decide +kernel, rfl, by decide +kernel, by decide +kernel⟩
abbrev s__law_written : Stmt := topS 62
abbrev nm__law_written : List Str := ["_law_kind_here"]
abbrev pm__law_written : List Str := ["_law_kind_here"]
theorem sc__law_written : FnScope nm__law_written pm__law_written (defScope s__law_written) := ⟨rfl, rfl, rfl, by decide +kernel, rfl, by decide +kernel, by decide +kernel⟩
abbrev s__law_size : Stmt := topS 63
abbrev nm__law_size : List Str := ["_law_kind_here", "_law_some", "_law_one", "_law_many", "_law_deep"]
abbrev pm__law_size : List Str := ["_law_kind_here"]
theorem sc__law_size : FnScope nm__law_size pm__law_size (defScope s__law_size) := ⟨rfl, rfl, rfl, by decide +kernel, rfl, by decide +kernel, by decide +kernel⟩
theorem same_name {B : List Dc} (nd : (B.map (·.name)).Nodup) {r r' : Dc} (h : r ∈ B) (h' : r' ∈ B) (e : r.name = r'.name) : r = r' := by
  induction B with
  | nil => cases h
  | cons b B ih =>
    have nd' := List.nodup_cons.mp nd
    have q0 : b.name ∉ B.map (·.name) := nd'.1
    rcases List.mem_cons.mp h with h | h
    · rcases List.mem_cons.mp h' with h' | h'
      · rw [h, h']
      · exact absurd (List.mem_map_of_mem (f := fun x : Dc => x.name) h') (by rw [← e, h]; exact q0)
    · rcases List.mem_cons.mp h' with h' | h'
      · exact absurd (List.mem_map_of_mem (f := fun x : Dc => x.name) h) (by rw [e, h']; exact q0)
      · exact ih nd'.2 h h'
theorem tbPN : ∀ i, S (wN i) ≠ ("record" : Str) ∧ S (wN i) ≠ ("variant" : Str) := by decide +kernel
theorem tbPO : ∀ i, S (wO i) ≠ ("record" : Str) ∧ S (wO i) ≠ ("variant" : Str) := by decide +kernel
theorem tbON : ∀ i, S (wN i) ≠ ("row" : Str) ∧ S (wN i) ≠ ("maybe" : Str) ∧ S (wN i) ≠ ("box" : Str) := by decide +kernel
theorem tbOP : ∀ i, S (wP i) ≠ ("row" : Str) ∧ S (wP i) ≠ ("maybe" : Str) ∧ S (wP i) ≠ ("box" : Str) := by decide +kernel
theorem kget : ∀ (ps : Ps) (i : Nat) (nm : Str) (c : Kd), getP ps i = some (nm, c) → (kidsP ps)[i]? = some c
  | .nil, _, _, _, h => by cases h
  | .cons n' k' ps', 0, nm, c, h => by cases h; rfl
  | .cons n' k' ps', i + 1, nm, c, h => kget ps' i nm c h
section
variable {P : Program} {w : World} {K : PySem.W.Frag} {mg : Str → Option Value} {base : Heap}
def sp__law_parts (K : PySem.W.Frag) : Sp := fun vs H Q _ => ∃ (b : Addr) (v : V) (B : List Dc) (k : Kd), vs = [.ref b, v] ∧ Dp K H (.ref b) (bookD B) ∧ okB B ∧ Dp K H v (toD k) ∧ good k ∧ fm k ≤ 2000 ∧ dpt k ≤ 17 ∧ (∀ n fs, k = .use n fs → wf (hdsB B) [] k ∧ fm k ≤ 40 ∧ dpt k ≤ 8) ∧
  ∀ r us H', Same H H' → H r = none → H' r = some (.lst us) → DpAll K H' us ((partsK B k).map toD) → Q (.ref r) H'
theorem wdP {k : Kd} (h : ∀ v ps, k ≠ .parts v ps) : S (wd k) ≠ ("record" : Str) ∧ S (wd k) ≠ ("variant" : Str) := by
  cases k with
  | num i b => exact tbPN i
  | truth => exact (by decide +kernel : S "truth" ≠ ("record" : Str) ∧ S "truth" ≠ ("variant" : Str))
  | parts v ps => exact absurd rfl (h v ps)
  | row m c => exact (by decide +kernel : S "row" ≠ ("record" : Str) ∧ S "row" ≠ ("variant" : Str))
  | one b c => exact tbPO b
  | use n fs => exact (by decide +kernel : S "use" ≠ ("record" : Str) ∧ S "use" ≠ ("variant" : Str))
  | hole m => exact (by decide +kernel : S "hole" ≠ ("record" : Str) ∧ S "hole" ≠ ("variant" : Str))
theorem wdO {k : Kd} (h1 : ∀ m c, k ≠ .row m c) (h2 : ∀ b c, k ≠ .one b c) : S (wd k) ≠ ("row" : Str) ∧ S (wd k) ≠ ("maybe" : Str) ∧ S (wd k) ≠ ("box" : Str) := by
  cases k with
  | num i b => exact tbON i
  | truth => exact (by decide +kernel : S "truth" ≠ ("row" : Str) ∧ S "truth" ≠ ("maybe" : Str) ∧ S "truth" ≠ ("box" : Str))
  | parts v ps => exact tbOP v
  | row m c => exact absurd rfl (h1 m c)
  | one b c => exact absurd rfl (h2 b c)
  | use n fs => exact (by decide +kernel : S "use" ≠ ("row" : Str) ∧ S "use" ≠ ("maybe" : Str) ∧ S "use" ≠ ("box" : Str))
  | hole m => exact (by decide +kernel : S "hole" ≠ ("row" : Str) ∧ S "hole" ≠ ("maybe" : Str) ∧ S "hole" ≠ ("box" : Str))
theorem ok__law_parts {f : Addr} {fd : FuncData} (F : Fun K "_law_parts" "_law_parts" s__law_parts f fd) (C__law_filled : Cal P w K mg base "_law_filled" pm__law_filled 18 (sp__law_filled K 17)) (m_dict : mg "dict" = none) (m_zip : mg "zip" = none) : FnOk P w K mg base CX0 19 f fd pm__law_parts (sp__law_parts K) := by
  obtain ⟨f__law_filled, fd__law_filled, G__law_filled, g__law_filled, k__law_filled, b__law_filled⟩ := C__law_filled.ex
  refine F.ok sc__law_parts (fun vs H Q E h => ?_) (fun cdv A outer s H vs Q E hr h => ?_)
  · obtain ⟨b, v, B, k, rfl, _⟩ := h
    rfl
  · obtain ⟨b, v, B, k, rfl, hb, hB, hv, g, hfm, hdm, huse, q⟩ := h
    have rm : ∀ {j : Nat}, j ≤ 18 → Room j (A.deeper (envOfC "_law_parts" (defScope s__law_parts) s.heap.objs.size f cdv)) := fun hj => hr.mono hj
    refine ⟨_, pss_cons (ps_if (PW.pt (pw_or (pt_cmpR op_eq (pe_ix ix_tup (pv 1) pe_int (fun _ _ => rfl)) pe_str (nomark _)) (pw_or1 (pt_cmpR op_eq (pe_ix ix_tup (pv 1) pe_int (fun _ _ => rfl)) pe_str (nomark _)))))
      (pss_one (ps_ret (pe_lc (own := [("_law_name", 2), ("_law_piece", 5)]) (g := gTup K 2 (gCons (gName 2) (gCons (gName 5) gNil))) (tt := tYes) rfl sc__law_parts.nd (pi_tup (pe_ix ix_tup (pv 1) pe_int (fun _ _ => rfl))) (blkOk_by (N := nm__law_parts) (sc := defScope s__law_parts) (by decide +kernel)) (fun _ _ _ _ _ => pg_tup (by rfl) (pgs_cons (pg_name (i := 2) sc__law_parts.nd rfl (Or.inl rfl)) (pgs_cons (pg_name (i := 5) sc__law_parts.nd rfl (Or.inl rfl)) pgs_nil))) (fun _ _ _ _ _ => pts_nil) (fun _ _ _ _ _ => (pv 5))))) pss_nil)
      (pss_cons (ps_if (PW.pt (pw_or (pt_cmpR op_eq (pe_ix ix_tup (pv 1) pe_int (fun _ _ => rfl)) pe_str (nomark _)) (pw_or (pt_cmpR op_eq (pe_ix ix_tup (pv 1) pe_int (fun _ _ => rfl)) pe_str (nomark _)) (pw_or1 (pt_cmpR op_eq (pe_ix ix_tup (pv 1) pe_int (fun _ _ => rfl)) pe_str (nomark _))))))
      (pss_one (ps_ret (pe_lst (pa_cons (pe_ix ix_tup (pv 1) (pe_un un_neg pe_int) (fun _ _ => rfl)) pa_nil)))) pss_nil)
      (pss_cons (ps_for PassesOwn.never rfl (pi_tup (pv 0)) (pg_tup (by rfl) (pgs_cons (pg_name (i := 2) sc__law_parts.nd rfl (.inl rfl)) (pgs_cons (pg_name (i := 3) sc__law_parts.nd rfl (.inl rfl)) (pgs_cons (pg_name (i := 4) sc__law_parts.nd rfl (.inl rfl)) pgs_nil))))
      (pss_one (ps_if (PW.pt (pw_and (pt_cmpR op_eq (pe_ix ix_tup (pv 1) pe_int (fun _ _ => rfl)) pe_str (nomark _)) (pw_and1 (pt_cmpR op_eq (pv 2) (pe_ix ix_tup (pv 1) pe_int (fun _ _ => rfl)) (nomark _)))))
      (pss_one (ps_ret (pe_lst (pa_cons (pe_call G__law_filled (rm (by decide)) (by rfl) g__law_filled k__law_filled b__law_filled .nil pass0 (pa_cons (pv 4) (pa_cons (DZ.pe_dictZip rfl (by rfl) m_dict (by rfl) m_zip (pa_cons (pv 3) (pa_cons (pe_ix ix_tup (pv 1) pe_int (fun _ _ => rfl)) pa_nil))) pa_nil))) pa_nil)))) pss_nil)))
      (pss_one (ps_ret (pe_lst pa_nil))))), ?_⟩
    obtain ⟨a, ws, rfl, hs0, hw⟩ := K2.dk hv
    have ix0 : ∀ (t : Str) (A C : Prop), (if decide (V.str (S (wd k)) = V.str t) = true then A else C) → (if decide (V.str (S (wd k)) = V.str t) = true then A else C) := fun _ _ _ h => h
    by_cases hp : ∃ vv ps, k = .parts vv ps
    · obtain ⟨vv, ps, rfl⟩ := hp
      obtain ⟨x, rfl, hx⟩ := all1 hw
      obtain ⟨pb, vs, rfl, hsb, hvs⟩ := dTup hx
      have hvl := dpAll_len hvs
      have hgp : goodP ps := g
      have hle := innerK_len (.parts vv ps)
      have hkl : (kidsP ps).length = (psD ps).length := (kidsP_ok ps).1
      have hle2 : (kidsP ps).length + 1 ≤ fm (.parts vv ps) := hle
      have plK : plA ((kidsP ps).map toD) = true := pl_kds fun c hc => (innerK_ok (.parts vv ps) c hc).2.2 g
      have fin : ∀ σ0 : L2.St, σ0[1]? = some (some (.ref a)) → True := fun _ _ => trivial
      clear fin
      have key : ∀ (D : Addr) (hD : H D = none) (i : Nat) (H' : Hp) (x : V) (us : List V), vs[i]? = some x → H' D = some (.lst us) → us.length = i → DpAll K H' us (((kidsP ps).take i).map toD) → Same H H' →
          ∃ (t : Addr) (nm : Str) (u : V) (c : Kd), x = .ref t ∧ SqT K H' t [.str nm, u] ∧ Dp K H' u (toD c) ∧ good c ∧ (kidsP ps)[i]? = some c := fun D hD i H' x us hxi _ _ _ s' => by
        have hi : i < vs.length := (List.getElem?_eq_some_iff.mp hxi).1
        obtain ⟨nm, c, hget⟩ := getP_lt ps i (by rw [← hvl]; exact hi)
        obtain ⟨a1, a2, -⟩ := ps_ctx ps i nm c hget
        obtain ⟨di, k1, k2⟩ := dpAll_get hvs hxi
        obtain rfl := Option.some.inj (a1.symm.trans k1)
        obtain ⟨t0, us2, e0, ht0, hus⟩ := dTup k2
        obtain ⟨x1, x2, rfl, hx1, hx2⟩ := all2 hus
        have := dStr hx1
        subst this
        have gc := (a2 hgp).2
        exact ⟨t0, nm, x2, c, e0, ts_same s' _ _ ht0, (ts_same s').dp _ _ (pl_D c gc).1 hx2, gc, kget ps i nm c hget⟩
      have stp : ∀ (D : Addr) (hD : H D = none) (i : Nat) (H' : Hp) (x2 : V) (us : List V) (c : Kd), i < vs.length → H' D = some (.lst us) → us.length = i → DpAll K H' us (((kidsP ps).take i).map toD) → Same H H' → Dp K H' x2 (toD c) → good c → (kidsP ps)[i]? = some c →
          us.length < sizeLine ∧ (∃ us', (upd H' D (.lst (us ++ [x2]))) D = some (.lst us') ∧ us'.length = i + 1 ∧ DpAll K (upd H' D (.lst (us ++ [x2]))) us' (((kidsP ps).take (i + 1)).map toD) ∧ Same H (upd H' D (.lst (us ++ [x2])))) := fun D hD i H' x2 us c hi eD el hu s' hx2 gc hc => by
        have tl := ts_lst (K := K) (ys := us ++ [x2]) eD
        refine ⟨Nat.lt_of_le_of_lt (show us.length ≤ 100000 by omega) (by decide), us ++ [x2], upd_same, by rw [List.length_append, el]; rfl, ?_, fun b o e => by rw [upd_ne (ne_of_none e hD)]; exact s' b o e⟩
        rw [List.take_add_one, hc, List.map_append]
        exact dpAll_append (tl.dps _ _ (plA_of fun d hd => plA_mem plK (by rw [List.map_take] at hd; exact List.mem_of_mem_take hd)) hu) (.cons (tl.dp _ _ (pl_D c gc).1 hx2) .nil)
      have rest : ∀ (A : Prop), A → A := fun _ h => h
      cases vv with
      | false =>
        refine ⟨.ref a, rfl, a, _, 0, .str (S "record"), rfl, rfl, hs0, atI_nat (j := 0) rfl, rfl, _, rfl, tT rfl ?_⟩
        refine ⟨.ref a, rfl, a, _, 1, .ref pb, rfl, rfl, hs0, atI_nat (j := 1) rfl, pb, rfl, ⟨_, hsb⟩, fun D hD => lc_tup (xs := vs) (fun i H' => ∃ us, H' D = some (.lst us) ∧ us.length = i ∧ DpAll K H' us (((kidsP ps).take i).map toD) ∧ Same H H')
          ⟨[], upd_same, rfl, by rw [List.take_zero]; exact .nil, same_upd hD⟩ (fun i H' _ hP => ?_) (fun i x H' hxi hP => ?_) (fun H' hP => ?_)⟩
        · obtain ⟨_, _, _, _, s'⟩ := hP
          exact ts_same s' _ _ hsb
        · obtain ⟨us, eD, el, hu, s'⟩ := hP
          have hi : i < vs.length := (List.getElem?_eq_some_iff.mp hxi).1
          obtain ⟨t, nm, u, c, rfl, ht, hu1, gc, hc⟩ := key D hD i H' x us hxi eD el hu s'
          refine ⟨t, [.str nm, u], rfl, ht, rfl, .str nm, [u], rfl, u, [], rfl, rfl, rfl, ?_⟩
          dsimp only [tYes]
          refine iteT ?_
          obtain ⟨z1, z2⟩ := stp D hD i H' u us c hi eD el hu s' hu1 gc hc
          exact ⟨u, rfl, us, eD, z1, z2⟩
        · obtain ⟨us, eD, el, hu, s'⟩ := hP
          rw [List.take_of_length_le (by omega)] at hu
          exact q D us H' s' hD eD hu
      | true =>
        refine ⟨.ref a, rfl, a, _, 0, .str (S "variant"), rfl, rfl, hs0, atI_nat (j := 0) rfl, rfl, _, rfl, tF (show S "variant" ≠ S "record" by decide +kernel) ?_⟩
        refine ⟨.ref a, rfl, a, _, 0, .str (S "variant"), rfl, rfl, hs0, atI_nat (j := 0) rfl, rfl, _, rfl, tT rfl ?_⟩
        refine ⟨.ref a, rfl, a, _, 1, .ref pb, rfl, rfl, hs0, atI_nat (j := 1) rfl, pb, rfl, ⟨_, hsb⟩, fun D hD => lc_tup (xs := vs) (fun i H' => ∃ us, H' D = some (.lst us) ∧ us.length = i ∧ DpAll K H' us (((kidsP ps).take i).map toD) ∧ Same H H')
          ⟨[], upd_same, rfl, by rw [List.take_zero]; exact .nil, same_upd hD⟩ (fun i H' _ hP => ?_) (fun i x H' hxi hP => ?_) (fun H' hP => ?_)⟩
        · obtain ⟨_, _, _, _, s'⟩ := hP
          exact ts_same s' _ _ hsb
        · obtain ⟨us, eD, el, hu, s'⟩ := hP
          have hi : i < vs.length := (List.getElem?_eq_some_iff.mp hxi).1
          obtain ⟨t, nm, u, c, rfl, ht, hu1, gc, hc⟩ := key D hD i H' x us hxi eD el hu s'
          refine ⟨t, [.str nm, u], rfl, ht, rfl, .str nm, [u], rfl, u, [], rfl, rfl, rfl, ?_⟩
          dsimp only [tYes]
          refine iteT ?_
          obtain ⟨z1, z2⟩ := stp D hD i H' u us c hi eD el hu s' hu1 gc hc
          exact ⟨u, rfl, us, eD, z1, z2⟩
        · obtain ⟨us, eD, el, hu, s'⟩ := hP
          rw [List.take_of_length_le (by omega)] at hu
          exact q D us H' s' hD eD hu
    have hp' : ∀ v ps, k ≠ .parts v ps := fun v ps e => hp ⟨v, ps, e⟩
    obtain ⟨w1, w2⟩ := wdP hp'
    refine ⟨.ref a, rfl, a, _, 0, .str (S (wd k)), rfl, rfl, hs0, atI_nat (j := 0) rfl, rfl, _, rfl, tF w1 ?_⟩
    refine ⟨.ref a, rfl, a, _, 0, .str (S (wd k)), rfl, rfl, hs0, atI_nat (j := 0) rfl, rfl, _, rfl, tF w2 ?_⟩
    have one : ∀ (c : Kd) (y : V), Dp K H y (toD c) → good c → innerK k = [c] → (∀ n fs, k ≠ .use n fs) → ∀ r, H r = none → Q (.ref r) (upd H r (.lst [y])) := fun c y hy gc hi nu r nr => by
      refine q r [y] _ (same_upd nr) nr upd_same ?_
      rw [partsK_not nu, hi]
      exact .cons ((ts_new nr).dp _ _ (pl_D c gc).1 hy) .nil
    by_cases hr : ∃ m c, k = .row m c
    · obtain ⟨m, c, rfl⟩ := hr
      obtain ⟨y0, y1, rfl, hy0, hy1⟩ := all2 hw
      refine ⟨.ref a, rfl, a, _, 0, .str (S "row"), rfl, rfl, hs0, atI_nat (j := 0) rfl, rfl, _, rfl, tT rfl ?_⟩
      exact ⟨.ref a, rfl, 1, rfl, a, _, -1, y1, rfl, rfl, hs0, rfl, (by show 1 ≤ sizeLine; decide), fun r nr => one c y1 hy1 g.2 rfl (fun _ _ z => nomatch z) r nr⟩
    have hr' : ∀ m c, k ≠ .row m c := fun m c e => hr ⟨m, c, e⟩
    by_cases ho : ∃ bb c, k = .one bb c
    · obtain ⟨bb, c, rfl⟩ := ho
      obtain ⟨y1, rfl, hy1⟩ := all1 hw
      cases bb with
      | false =>
        refine ⟨.ref a, rfl, a, _, 0, .str (S "maybe"), rfl, rfl, hs0, atI_nat (j := 0) rfl, rfl, _, rfl, tF (show S "maybe" ≠ S "row" by decide +kernel) ?_⟩
        refine ⟨.ref a, rfl, a, _, 0, .str (S "maybe"), rfl, rfl, hs0, atI_nat (j := 0) rfl, rfl, _, rfl, tT rfl ?_⟩
        exact ⟨.ref a, rfl, 1, rfl, a, _, -1, y1, rfl, rfl, hs0, rfl, (by show 1 ≤ sizeLine; decide), fun r nr => one c y1 hy1 g rfl (fun _ _ z => nomatch z) r nr⟩
      | true =>
        refine ⟨.ref a, rfl, a, _, 0, .str (S "box"), rfl, rfl, hs0, atI_nat (j := 0) rfl, rfl, _, rfl, tF (show S "box" ≠ S "row" by decide +kernel) ?_⟩
        refine ⟨.ref a, rfl, a, _, 0, .str (S "box"), rfl, rfl, hs0, atI_nat (j := 0) rfl, rfl, _, rfl, tF (show S "box" ≠ S "maybe" by decide +kernel) ?_⟩
        refine ⟨.ref a, rfl, a, _, 0, .str (S "box"), rfl, rfl, hs0, atI_nat (j := 0) rfl, rfl, _, rfl, tT rfl ?_⟩
        exact ⟨.ref a, rfl, 1, rfl, a, _, -1, y1, rfl, rfl, hs0, rfl, (by show 1 ≤ sizeLine; decide), fun r nr => one c y1 hy1 g rfl (fun _ _ z => nomatch z) r nr⟩
    have ho' : ∀ b c, k ≠ .one b c := fun b c e => ho ⟨b, c, e⟩
    obtain ⟨o1, o2, o3⟩ := wdO hr' ho'
    refine ⟨.ref a, rfl, a, _, 0, .str (S (wd k)), rfl, rfl, hs0, atI_nat (j := 0) rfl, rfl, _, rfl, tF o1 ?_⟩
    refine ⟨.ref a, rfl, a, _, 0, .str (S (wd k)), rfl, rfl, hs0, atI_nat (j := 0) rfl, rfl, _, rfl, tF o2 ?_⟩
    refine ⟨.ref a, rfl, a, _, 0, .str (S (wd k)), rfl, rfl, hs0, atI_nat (j := 0) rfl, rfl, _, rfl, tF o3 ?_⟩
    obtain ⟨b', xs, eb, hs, hx⟩ := dp_tup hb
    cases eb
    have hxl := dpAll_len hx
    rw [List.length_map] at hxl
    have plB : plA (B.map rowD) = true := pl_rows hB.row
    refine ⟨.ref b, rfl, b, rfl, ⟨_, hs⟩, for_tup (xs := xs) (fun i σ H' => ∃ (x2 x3 x4 x5 : Option V), σ = [some (.ref b), some (.ref a), x2, x3, x4, x5] ∧ H' = H ∧ ∀ n fs, k = .use n fs → ∀ j r, j < i → B[j]? = some r → r.name ≠ n)
      ⟨_, _, _, _, rfl, rfl, fun _ _ _ j r hj => absurd hj (Nat.not_lt_zero _)⟩ (fun i σ H' _ hP => ?_) (fun i x σ H' hxi hP => ?_) (fun σ H' hP => ?_)⟩
    · obtain ⟨_, _, _, _, _, rfl, _⟩ := hP
      exact hs
    · obtain ⟨x2, x3, x4, x5, rfl, rfl, hno⟩ := hP
      have hi : i < xs.length := (List.getElem?_eq_some_iff.mp hxi).1
      obtain ⟨d, ed, hd⟩ := dpAll_get hx hxi
      obtain ⟨r, er, rfl⟩ := map_getB ed
      have hro := hB.row r (List.mem_of_getElem? er)
      obtain ⟨t, hoA, kv, rfl, h1, h2, h3, h4⟩ := row_at hd (rowOk_of hro)
      rw [nameO_row] at h1
      rw [holesO_row] at h2
      rw [kdO_row] at h3
      refine ⟨t, _, rfl, h1, rfl, .str r.name, _, rfl, .ref hoA, [kv], rfl, kv, [], rfl, rfl, ?_⟩
      refine ⟨.ref a, rfl, a, _, 0, .str (S (wd k)), rfl, rfl, hs0, atI_nat (j := 0) rfl, rfl, _, rfl, ?_⟩
      by_cases hu : ∃ n fs, k = .use n fs
      · obtain ⟨n, fs, rfl⟩ := hu
        obtain ⟨y0, y1, rfl, hy0, hy1⟩ := all2 hw
        have ey := dStr hy0
        subst ey
        obtain ⟨hwf, hf40, hd8⟩ := huse n fs rfl
        refine tT rfl ?_
        refine ⟨.str r.name, rfl, .ref a, rfl, a, _, 1, .str n, rfl, rfl, hs0, atI_nat (j := 1) rfl, rfl, _, rfl, ?_⟩
        by_cases hn : r.name = n
        · refine ifSY hn ?_
          obtain ⟨ua, us, rfl, hus, hu⟩ := dTup hy1
          obtain ⟨r0, hr0, hfind, hrn, ro, hrl, hbk, hw2, hf2, hd2⟩ := body_ok hB hwf (F := 40) (D := 7) (fun c hc => by have := ((kidsK_ok fs).2 c hc).2.1; simp only [fm] at hf40; omega) (by omega) (fun c hc => by have := ((kidsK_ok fs).2 c hc).1; simp only [dpt] at hd8; omega)
          obtain rfl : r = r0 := same_name hB.nd (List.mem_of_getElem? er) hr0 (hn.trans hrn.symm)
          have gf : goodK fs := (wf_good _ hwf).2
          have gk : ∀ c ∈ kidsK fs, good c := fun c hc => ((kidsK_ok fs).2 c hc).2.2 gf
          rw [ksD_map] at hu
          have hul := dpAll_len hu
          rw [List.length_map] at hul
          refine ⟨kv, rfl, .ref hoA, rfl, .ref a, rfl, a, _, 2, .ref ua, rfl, rfl, hs0, atI_nat (j := 2) rfl, hoA, ua, r.holes.map Sum.inr, us, rfl, by rw [List.map_map]; exact h2, hus, by rw [List.length_map]; omega, fun p np => ?_⟩
          have em : mergeK [] ((r.holes.map Sum.inr : List Key).zip us) = (r.holes.map Sum.inr : List Key).zip us := by
            rw [merge_zip (acc := []) (inr_nodup ro.nd) (fun p h => absurd h List.not_mem_nil), List.nil_append]
          rw [em]
          have s3 : Same H' (upd H' p (.dK ((r.holes.map Sum.inr : List Key).zip us))) := same_upd np
          have e3 : (upd H' p (.dK ((r.holes.map Sum.inr : List Key).zip us))) p = some (.dK ((r.holes.map Sum.inr : List Key).zip us)) := upd_same
          generalize upd H' p (HO.dK ((r.holes.map Sum.inr : List Key).zip us)) = H3 at s3 e3 ⊢
          have hu3 := dps_same s3 hu gk
          refine ⟨kv, p, r.kd, _, fillOf r.holes (kidsK fs), hdsB B, r.holes, rfl, (ts_same s3).dp _ _ (pl_D _ (wf_good _ ro.w)).1 h3, ro.w, fun m hm => fillOf_some hrl hm, (by have := ro.d; omega), by have := ro.f; omega, e3, fun m e he => ?_, fun r5 H4 s4 d4 g4 => ?_⟩
          · have hm : m ∈ r.holes := by
              by_cases c : m ∈ r.holes
              · exact c
              · rw [fillOf_none c] at he; cases he
            obtain ⟨j, hj⟩ := List.mem_iff_getElem?.mp hm
            have hjl : j < r.holes.length := (List.getElem?_eq_some_iff.mp hj).1
            have hf : (kidsK fs)[j]? = some (kidsK fs)[j] := List.getElem?_eq_getElem (by omega)
            have e2 := fillOf_get ro.nd hj hf
            rw [e2] at he
            obtain rfl := Option.some.inj he
            have hv : us[j]? = some us[j] := List.getElem?_eq_getElem (by omega)
            obtain ⟨d, ed, hd⟩ := dpAll_get hu3 hv
            rw [List.getElem?_map, hf] at ed
            obtain rfl := Option.some.inj ed
            exact ⟨us[j], valV_zip ro.nd hj hv, hd, gk _ (List.getElem_mem _)⟩
          · rw [← hbk] at d4 g4
            refine ⟨(by show 1 ≤ sizeLine; decide), fun rr nr => ?_⟩
            exact q rr [r5] _ (s3.trans (s4.trans (same_upd nr))) ((s3.trans s4).free nr) upd_same (.cons ((ts_new nr).dp _ _ (pl_D _ g4).1 d4) .nil)
        · refine ifSN hn ⟨_, _, _, _, rfl, rfl, fun n' fs' e j r' hj hjr => ?_⟩
          cases e
          by_cases ej : j = i
          · subst ej
            rw [er] at hjr
            rw [← Option.some.inj hjr]
            exact hn
          · exact hno n fs rfl j r' (by omega) hjr
      · have nu : ∀ n fs, k ≠ .use n fs := fun n fs e => hu ⟨n, fs, e⟩
        exact tF (wd_use nu) ⟨_, _, _, _, rfl, rfl, fun n fs e => absurd e (nu n fs)⟩
    · obtain ⟨x2, x3, x4, x5, rfl, rfl, hno⟩ := hP
      refine ⟨Nat.zero_le _, fun r nr => ?_⟩
      have hnil : (partsK B k).map toD = [] := by
        cases k with
        | parts v ps => exact absurd rfl (hp' v ps)
        | row m c => exact absurd rfl (hr' m c)
        | one b c => exact absurd rfl (ho' b c)
        | use n fs =>
          obtain ⟨hwf, _, _⟩ := huse n fs rfl
          obtain ⟨r0, hr0, _, hrn, _⟩ := hdLk_B hwf.1.2
          obtain ⟨j, hj⟩ := List.mem_iff_getElem?.mp hr0
          have hjl := (List.getElem?_eq_some_iff.mp hj).1
          exact absurd hrn (hno n fs rfl j r0 (by omega) hj)
        | _ => rfl
      exact q r [] _ (same_upd nr) nr upd_same (by rw [hnil]; exact .nil)
end
end K2
namespace K2
open PySem PySem.Spec PyProof.Rows L2 K1 K3
open TL (tl joinL)
def PrS (K : PySem.W.Frag) (H : Hp) (v : V) (c : Kd) : Prop := ∃ a, v = .ref a ∧ SqT K H a [.int (fm c : Int), .int (dpt c : Int)]
theorem PrS.ts {K : PySem.W.Frag} {H H' : Hp} {v : V} {c : Kd} (s : TS K H H') (h : PrS K H v c) : PrS K H' v c := by
  obtain ⟨a, e, h⟩ := h
  exact ⟨a, e, s _ _ h⟩
theorem okB_nil : okB [] := ⟨Nat.zero_le _, List.nodup_nil, fun _ h => nomatch h⟩
section
variable {P : Program} {w : World} {K : PySem.W.Frag} {mg : Str → Option Value} {base : Heap}
def sp__law_written (K : PySem.W.Frag) : Sp := fun vs H Q _ => ∃ (v : V) (k : Kd), vs = [v] ∧ Dp K H v (toD k) ∧ good k ∧ fm k ≤ 2000 ∧ dpt k ≤ 17 ∧
  ∀ r us H', Same H H' → H r = none → H' r = some (.lst us) → DpAll K H' us ((innerK k).map toD) → Q (.ref r) H'
theorem ok__law_written {f : Addr} {fd : FuncData} (F : Fun K "_law_written" "_law_written" s__law_written f fd) (C__law_parts : Cal P w K mg base "_law_parts" pm__law_parts 19 (sp__law_parts K)) (m_list : mg "list" = none) : FnOk P w K mg base CX0 20 f fd pm__law_written (sp__law_written K) := by
  obtain ⟨f__law_parts, fd__law_parts, G__law_parts, g__law_parts, k__law_parts, b__law_parts⟩ := C__law_parts.ex
  refine F.ok sc__law_written (fun vs H Q E h => ?_) (fun cdv A outer s H vs Q E hr h => ?_)
  · obtain ⟨v, k, rfl, _⟩ := h
    rfl
  · obtain ⟨v, k, rfl, hv, g, hfm, hdm, q⟩ := h
    have rm : ∀ {j : Nat}, j ≤ 19 → Room j (A.deeper (envOfC "_law_written" (defScope s__law_written) s.heap.objs.size f cdv)) := fun hj => hr.mono hj
    refine ⟨_, pss_cons (ps_if (pt_cmpR op_eq (pe_ix ix_tup (pv 0) pe_int (fun _ _ => rfl)) pe_str (nomark _))
      (pss_one (ps_ret (pe_callTy call_list_of (by rfl) m_list (by decide +kernel) (pa_cons (pe_ix ix_tup (pv 0) pe_int (fun _ _ => rfl)) pa_nil)))) pss_nil)
      (pss_one (ps_ret (pe_call G__law_parts (rm (by decide)) (by rfl) g__law_parts k__law_parts b__law_parts .nil pass0 (pa_cons (pe_tup pa_nil) (pa_cons (pv 0) pa_nil))))), ?_⟩
    obtain ⟨a, ws, rfl, hs0, hw⟩ := K2.dk hv
    refine ⟨.ref a, rfl, a, _, 0, .str (S (wd k)), rfl, rfl, hs0, atI_nat (j := 0) rfl, rfl, _, rfl, ?_⟩
    by_cases hu : ∃ n fs, k = .use n fs
    · obtain ⟨n, fs, rfl⟩ := hu
      obtain ⟨y0, y1, rfl, hy0, hy1⟩ := all2 hw
      obtain ⟨ua, us, rfl, hus, hu⟩ := dTup hy1
      refine tT rfl ?_
      refine ⟨.ref a, rfl, a, _, 2, .ref ua, rfl, rfl, hs0, atI_nat (j := 2) rfl, ua, us, rfl, .inr hus, fun l nl => ?_⟩
      rw [ksD_map] at hu
      exact q l us _ (same_upd nl) nl upd_same ((ts_new nl).dps _ _ (pl_kds fun c hc => ((kidsK_ok fs).2 c hc).2.2 g.2) hu)
    · have nu : ∀ n fs, k ≠ .use n fs := fun n fs e => hu ⟨n, fs, e⟩
      refine tF (wd_use nu) ?_
      refine ⟨Nat.zero_le _, fun te nte => ?_⟩
      have s1 := same_upd (o := HO.tup []) nte
      refine ⟨.ref a, rfl, te, .ref a, [], k, rfl, .tup (.inl (.inl upd_same)) .nil, okB_nil, (ts_same s1).dp _ _ (pl_D k g).1 hv, g, hfm, hdm, fun n fs e => absurd e (nu n fs), fun r us H' s' nr e' d' => ?_⟩
      rw [partsK_not nu] at d'
      exact q r us H' (s1.trans s') (s1.free nr) e' d'
def sp__law_size (K : PySem.W.Frag) (n : Nat) : Sp := fun vs H Q _ => ∃ (v : V) (k : Kd), vs = [v] ∧ Dp K H v (toD k) ∧ good k ∧ fm k ≤ 2000 ∧ dpt k ≤ 17 ∧ dpt k ≤ n ∧
  ∀ r H', Same H H' → SqT K H' r [.int (fm k : Int), .int (dpt k : Int)] → Q (.ref r) H'
theorem nv__law_size {vs : List V} {H : Hp} {Q : VK} {E : XK} (h : sp__law_size K 0 vs H Q E) : False := by
  obtain ⟨v, k, _, _, _, _, _, h1, _⟩ := h
  have := dpt_pos k
  omega
theorem ok__law_size {f : Addr} {fd : FuncData} (F : Fun K "_law_size" "_law_size" s__law_size f fd) (g_self : mg "_law_size" = some (.ref f)) (b_self : Binds K fd pm__law_size []) (C__law_written : Cal P w K mg base "_law_written" pm__law_written 20 (sp__law_written K)) (m_sum : mg "sum" = none) (m_max : mg "max" = none) : ∀ n : Nat, FnOk P w K mg base CX0 (n + 20 + 1) f fd pm__law_size (sp__law_size K n) := by
  obtain ⟨f__law_written, fd__law_written, G__law_written, g__law_written, k__law_written, b__law_written⟩ := C__law_written.ex
  intro n
  induction n with
  | zero => exact F.ok sc__law_size (fun vs H Q E h => (nv__law_size h).elim) (fun cdv A outer s H vs Q E hr h => (nv__law_size h).elim)
  | succ n ih =>
  refine F.ok sc__law_size (fun vs H Q E h => ?_) (fun cdv A outer s H vs Q E hr h => ?_)
  · obtain ⟨v, k, rfl, _⟩ := h
    rfl
  · obtain ⟨v, k, rfl, hv, g, hfm, hdm, hdn, q⟩ := h
    refine ⟨_, pss_cons (ps_setLc (i := 1) (own := [("_law_one", 2)]) (g := gName 2) (tt := tYes) rfl sc__law_size.nd rfl rfl (sw_true rfl rfl rfl (by decide +kernel)) (pi_list (pe_call G__law_written (hr.mono (by omega)) (by rfl) g__law_written k__law_written b__law_written .nil pass0 (pa_cons (pv 0) pa_nil))) (blkOk_by (N := nm__law_size) (sc := defScope s__law_size) (by decide +kernel)) (fun _ _ _ _ _ => pg_name (i := 2) sc__law_size.nd rfl (Or.inl rfl)) (fun _ _ _ _ _ => pts_nil) (fun _ _ _ _ _ => (pe_call ih (hr.mono (by omega)) (by rfl) g_self F.kp b_self .nil pass0 (pa_cons (pv 2) pa_nil))))
      (pss_one (ps_ret (pe_tup (pa_cons (pe_op op_add pe_int (pe_callB (cr_sum rfl) (by rfl) m_sum (by decide +kernel) (pa_cons (pe_lc (own := [("_law_many", 3), ("_law_deep", 4)]) (g := gTup K 2 (gCons (gName 3) (gCons (gName 4) gNil))) (tt := tYes) rfl sc__law_size.nd (pi_list (pv 1)) (blkOk_by (N := nm__law_size) (sc := defScope s__law_size) (by decide +kernel)) (fun _ _ _ _ _ => pg_tup (by rfl) (pgs_cons (pg_name (i := 3) sc__law_size.nd rfl (Or.inl rfl)) (pgs_cons (pg_name (i := 4) sc__law_size.nd rfl (Or.inl rfl)) pgs_nil))) (fun _ _ _ _ _ => pts_nil) (fun _ _ _ _ _ => (pv 3))) pa_nil))) (pa_cons (pe_op op_add pe_int (pe_callBK (MX.call_maxDf rfl hr.units) (by rfl) m_max (by decide +kernel) (pa_cons (pe_lc (own := [("_law_many", 3), ("_law_deep", 4)]) (g := gTup K 2 (gCons (gName 3) (gCons (gName 4) gNil))) (tt := tYes) rfl sc__law_size.nd (pi_list (pv 1)) (blkOk_by (N := nm__law_size) (sc := defScope s__law_size) (by decide +kernel)) (fun _ _ _ _ _ => pg_tup (by rfl) (pgs_cons (pg_name (i := 3) sc__law_size.nd rfl (Or.inl rfl)) (pgs_cons (pg_name (i := 4) sc__law_size.nd rfl (Or.inl rfl)) pgs_nil))) (fun _ _ _ _ _ => pts_nil) (fun _ _ _ _ _ => (pv 4))) pa_nil) (pk_cons pe_int pk_nil))) pa_nil))))), ?_⟩
    have hkl := innerK_len k
    refine ⟨v, rfl, v, k, rfl, hv, g, hfm, hdm, fun p us H1 s1 np hp hu => ?_⟩
    have hul := dpAll_len hu
    rw [List.length_map] at hul
    refine ⟨p, rfl, ⟨_, .inl (.inl hp)⟩, fun D hD => lc_list (xs := us) (fun i H' => ∃ ts, H' D = some (.lst ts) ∧ ts.length = i ∧ Paired (PrS K H') ts ((innerK k).take i) ∧ Same H1 H')
      ⟨[], upd_same, rfl, by rw [List.take_zero]; exact .nil, same_upd hD⟩ (fun i H' _ hP => ?_) (fun i x H' hxi hP => ?_) (fun H' hP => ?_)⟩
    · obtain ⟨_, _, _, _, s'⟩ := hP
      exact .inl (.inl (s' _ _ hp))
    · obtain ⟨ts, eD, el, hpr, s'⟩ := hP
      have hi : i < us.length := (List.getElem?_eq_some_iff.mp hxi).1
      obtain ⟨d, ed, hdx⟩ := dpAll_get hu hxi
      rw [List.getElem?_map] at ed
      have ec : (innerK k)[i]? = some (innerK k)[i] := List.getElem?_eq_getElem (by omega)
      rw [ec] at ed
      obtain rfl := Option.some.inj ed
      have hm := List.getElem_mem (show i < (innerK k).length by omega)
      obtain ⟨k1, k2, k3⟩ := innerK_ok k _ hm
      refine ⟨rfl, ?_⟩
      dsimp only [tYes]
      refine iteT ?_
      refine ⟨x, rfl, x, _, rfl, (ts_same s').dp _ _ (pl_D _ (k3 g)).1 hdx, k3 g, by omega, by omega, by omega, fun r H2 s2 h2 => ?_⟩
      have eD2 := s2 _ _ eD
      have tl := ts_lst (K := K) (ys := ts ++ [.ref r]) eD2
      refine ⟨ts, eD2, ?_, ts ++ [.ref r], upd_same, by rw [List.length_append, el]; rfl, ?_, fun b o e => by rw [upd_ne (ne_of_none e hD)]; exact s2 _ _ (s' b o e)⟩
      · exact Nat.lt_of_le_of_lt (show ts.length ≤ 100000 by omega) (by decide)
      · rw [List.take_add_one, ec]
        exact paired_append (Paired.mapP hpr fun _ _ z => z.ts ((ts_same s2).trans tl)) (.cons ⟨r, rfl, tl _ _ h2⟩ .nil)
    · obtain ⟨ts, eD, el, hpr, s'⟩ := hP
      rw [List.take_of_length_le (by omega)] at hpr
      have htl := paired_len hpr
      refine ⟨.ref D, rfl, D, rfl, ⟨_, .inl (.inl eD)⟩, fun D2 hD2 => lc_list (xs := ts) (fun i H3 => H3 D2 = some (.lst (((innerK k).take i).map fun c => V.int (fm c : Int))) ∧ Same H' H3)
        ⟨by rw [List.take_zero]; exact upd_same, same_upd hD2⟩ (fun i H3 _ hP => .inl (.inl (hP.2 _ _ eD))) (fun i x H3 hxi hP => ?_) (fun H3 hP => ?_)⟩
      · obtain ⟨e3, s3⟩ := hP
        obtain ⟨c, hc, a, rfl, ha⟩ := paired_get hpr hxi
        refine ⟨a, _, rfl, ts_same s3 _ _ ha, rfl, .int (fm c : Int), [.int (dpt c : Int)], rfl, .int (dpt c : Int), [], rfl, rfl, rfl, ?_⟩
        dsimp only [tYes]
        refine iteT ?_
        refine ⟨.int (fm c : Int), rfl, _, e3, ?_, ?_, fun b o e => by rw [upd_ne (ne_of_none e hD2)]; exact s3 _ _ e⟩
        · rw [List.length_map, List.length_take]
          exact Nat.lt_of_le_of_lt (show min i (innerK k).length ≤ 100000 by omega) (by decide)
        · rw [upd_same, List.take_add_one, hc, List.map_append]
          rfl
      · obtain ⟨e3, s3⟩ := hP
        rw [List.take_of_length_le (by omega)] at e3
        refine ⟨D2, (innerK k).map fun c => (fm c : Int), rfl, .inl (.inl (by rw [List.map_map]; exact e3)), _, _, rfl, rfl, ?_⟩
        have eD3 := s3 _ _ eD
        refine ⟨.ref D, rfl, D, rfl, ⟨_, .inl (.inl eD3)⟩, fun D4 hD4 => lc_list (xs := ts) (fun i H5 => H5 D4 = some (.lst (((innerK k).take i).map fun c => V.int (dpt c : Int))) ∧ Same H3 H5)
          ⟨by rw [List.take_zero]; exact upd_same, same_upd hD4⟩ (fun i H5 _ hP => .inl (.inl (hP.2 _ _ eD3))) (fun i x H5 hxi hP => ?_) (fun H5 hP => ?_)⟩
        · obtain ⟨e5, s5⟩ := hP
          obtain ⟨c, hc, a, rfl, ha⟩ := paired_get hpr hxi
          refine ⟨a, _, rfl, ts_same (s3.trans s5) _ _ ha, rfl, .int (fm c : Int), [.int (dpt c : Int)], rfl, .int (dpt c : Int), [], rfl, rfl, rfl, ?_⟩
          dsimp only [tYes]
          refine iteT ?_
          refine ⟨.int (dpt c : Int), rfl, _, e5, ?_, ?_, fun b o e => by rw [upd_ne (ne_of_none e hD4)]; exact s5 _ _ e⟩
          · rw [List.length_map, List.length_take]
            exact Nat.lt_of_le_of_lt (show min i (innerK k).length ≤ 100000 by omega) (by decide)
          · rw [upd_same, List.take_add_one, hc, List.map_append]
            rfl
        · obtain ⟨e5, s5⟩ := hP
          rw [List.take_of_length_le (by omega)] at e5
          refine ⟨D4, (innerK k).map fun c => (dpt c : Int), 0, rfl, rfl, .inl (.inl (by rw [List.map_map]; exact e5)), _, _, rfl, rfl, ?_⟩
          refine ⟨(by show 2 ≤ sizeLine; decide), fun t nt => ?_⟩
          refine q t _ (s1.trans (s'.trans (s3.trans (s5.trans (same_upd nt))))) (.inl (.inl ?_))
          rw [upd_same]
          show some (HO.tup [V.int (1 + ((innerK k).map fun c => (fm c : Int)).sum), V.int (1 + MX.maxL 0 ((innerK k).map fun c => (dpt c : Int)))]) = _
          rw [sum_fm, maxL_dp]
end
end K2
namespace K2
open PySem PySem.Spec PyProof.Rows L2 K1 K3
open TL (tl joinL)
abbrev s__law_reach : Stmt := topS 64
abbrev nm__law_reach : List Str := ["_law_book_here", "_law_kind_here", "_law_limit", "_law_heap", "_law_found", "_law_one", "_law_many", "_law_deep"]
abbrev pm__law_reach : List Str := ["_law_book_here", "_law_kind_here", "_law_limit"]
theorem sc__law_reach : FnScope nm__law_reach pm__law_reach (defScope s__law_reach) := ⟨rfl, rfl, rfl, by decide +kernel, rfl, by decide +kernel, by decide +kernel⟩
mutual
def nb : PyData → Bool
  | .none => true
  | .int _ => true
  | .str _ => true
  | .tuple ds => nbA ds
  | _ => false
def nbA : List PyData → Bool
  | [] => true
  | d :: r => nb d && nbA r
end
mutual
theorem eqv_nb : ∀ d e : PyData, nb d = true → nb e = true → PyData.eqv d e = true → d = e
  | .none, e, _, h2, h => by cases e <;> simp_all [PyData.eqv, nb]
  | .int i, e, _, h2, h => by cases e <;> simp_all [PyData.eqv, nb]
  | .str x, e, _, h2, h => by cases e <;> simp_all [PyData.eqv, nb]
  | .tuple ds, e, h1, h2, h => by
    cases e with
    | tuple es =>
      have h' : PyData.eqvAll ds es = true := by simpa [PyData.eqv] using h
      rw [eqvA_nb ds es h1 h2 h']
    | _ => simp_all [PyData.eqv, nb]
  | .bool b, e, h1, _, _ => by cases h1
  | .list ds, e, h1, _, _ => by cases h1
  | .dict kvs, e, h1, _, _ => by cases h1
theorem eqvA_nb : ∀ ds es : List PyData, nbA ds = true → nbA es = true → PyData.eqvAll ds es = true → ds = es
  | [], [], _, _, _ => rfl
  | [], _ :: _, _, _, h => by simp [PyData.eqvAll] at h
  | _ :: _, [], _, _, h => by simp [PyData.eqvAll] at h
  | d :: ds, e :: es, h1, h2, h => by
    have h1' : nb d = true ∧ nbA ds = true := by simpa [nbA] using h1
    have h2' : nb e = true ∧ nbA es = true := by simpa [nbA] using h2
    have h' : PyData.eqv d e = true ∧ PyData.eqvAll ds es = true := by simpa [PyData.eqvAll] using h
    rw [eqv_nb d e h1'.1 h2'.1 h'.1, eqvA_nb ds es h1'.2 h2'.2 h'.2]
end
mutual
theorem nb_D : ∀ k : Kd, nb (toD k) = true
  | .num _ _ => rfl
  | .truth => rfl
  | .parts _ ps => by show (true && (nbA (psD ps) && true)) = true; rw [nb_P ps]; rfl
  | .row _ k => by show (true && (true && (nb (toD k) && true))) = true; rw [nb_D k]; rfl
  | .one _ k => by show (true && (nb (toD k) && true)) = true; rw [nb_D k]; rfl
  | .use _ fs => by show (true && (true && (nbA (ksD fs) && true))) = true; rw [nb_K fs]; rfl
  | .hole _ => rfl
  termination_by structural k => k
theorem nb_P : ∀ ps : Ps, nbA (psD ps) = true
  | .nil => rfl
  | .cons _ k ps => by show ((true && (nb (toD k) && true)) && nbA (psD ps)) = true; rw [nb_D k, nb_P ps]; rfl
  termination_by structural ps => ps
theorem nb_K : ∀ ks : Ks, nbA (ksD ks) = true
  | .nil => rfl
  | .cons k ks => by show (nb (toD k) && nbA (ksD ks)) = true; rw [nb_D k, nb_K ks]; rfl
  termination_by structural ks => ks
end
theorem any_in (c : Kd) (gc : good c) : ∀ (found : List Kd), (c ∈ found → (found.map toD).any (fun z => PyData.eqv z (toD c)) = true) ∧ (c ∉ found → (found.map toD).any (fun z => PyData.eqv z (toD c)) = false)
  | [] => ⟨(fun h => nomatch h), fun _ => rfl⟩
  | d :: found => by
    obtain ⟨h1, h2⟩ := any_in c gc found
    rw [List.map_cons, List.any_cons]
    refine ⟨fun h => ?_, fun h => ?_⟩
    · rcases List.mem_cons.mp h with rfl | h
      · rw [PySem.SeqAt.eqv_refl _ (canLay _ (pl_D c gc).1)]
        rfl
      · rw [h1 h, Bool.or_true]
    · rw [h2 (fun z => h (List.mem_cons_of_mem _ z)), Bool.or_false]
      refine Bool.eq_false_iff.mpr fun z => h ?_
      rw [toD_inj _ _ (eqv_nb _ _ (nb_D d) (nb_D c) z)]
      exact List.mem_cons_self
theorem hu65 {A : Around} {k : Nat} (hr : Room k A) : A.units + 65 < cLine := by have := hr.un; omega
def LastV (K : PySem.W.Frag) (H : Hp) (lv : V) : Option Kd → Prop
  | none => lv = .non
  | some c => Dp K H lv (toD c)
theorem depth_kds {l : List Kd} {B : List Dc} (h : ∀ c ∈ l, OkK B c) : PyData.depthAll (l.map toD) ≤ 48 := depthA_le fun d hd => by
  obtain ⟨c, hc, rfl⟩ := List.mem_map.mp hd
  have h1 := (pl_D c (wf_good c (h c hc).w)).2.2
  have h2 := (h c hc).d
  omega
section
variable {P : Program} {w : World} {K : PySem.W.Frag} {mg : Str → Option Value} {base : Heap}
def sp__law_reach (K : PySem.W.Frag) : Sp := fun vs H Q _ => ∃ (b : Addr) (v : V) (B : List Dc) (k : Kd) (lim : Nat), vs = [.ref b, v, .int (lim : Int)] ∧ Dp K H (.ref b) (bookD B) ∧ okB B ∧ Dp K H v (toD k) ∧ OkK B k ∧ 0 < lim ∧ lim ≤ 1000 ∧
  ∀ found last fo lv ws r H', Run B lim [k] [] (found, last) → Same H H' → H' r = some (.lst [.ref fo, lv]) → H' fo = some (.lst ws) → DpAll K H' ws (found.map toD) → LastV K H' lv last → (∀ c ∈ found, OkK B c) → (∀ c, last = some c → OkK B c) → Q (.ref r) H'
def WR (K : PySem.W.Frag) (H : Hp) (b : Addr) (v : V) (B : List Dc) (k0 : Kd) (lim : Nat) (m : Nat) (σ : L2.St) (H' : Hp) : Prop :=
  ∃ (st found : List Kd) (us ws : List V) (hp fo : Addr) (x5 x6 x7 : Option V), σ = [some (.ref b), some v, some (.int (lim : Int)), some (.ref hp), some (.ref fo), x5, x6, x7] ∧
    H' hp = some (.lst us) ∧ H' fo = some (.lst ws) ∧ H hp = none ∧ H fo = none ∧ hp ≠ fo ∧ DpAll K H' us (st.reverse.map toD) ∧ DpAll K H' ws (found.map toD) ∧
    (∀ c ∈ st, OkK B c) ∧ (∀ c ∈ found, OkK B c) ∧ found.length ≤ lim ∧ (lim - found.length) * 41 + st.length = m ∧ m ≤ 50000 ∧ (∀ r, Run B lim st found r → Run B lim [k0] [] r) ∧ Same H H'
theorem ok__law_reach {f : Addr} {fd : FuncData} (F : Fun K "_law_reach" "_law_reach" s__law_reach f fd) (C__law_size : Cal P w K mg base "_law_size" pm__law_size 38 (sp__law_size K 17)) (C__law_parts : Cal P w K mg base "_law_parts" pm__law_parts 19 (sp__law_parts K)) (m_len : mg "len" = none) : FnOk P w K mg base CX0 39 f fd pm__law_reach (sp__law_reach K) := by
  obtain ⟨f__law_size, fd__law_size, G__law_size, g__law_size, k__law_size, b__law_size⟩ := C__law_size.ex
  obtain ⟨f__law_parts, fd__law_parts, G__law_parts, g__law_parts, k__law_parts, b__law_parts⟩ := C__law_parts.ex
  refine F.ok sc__law_reach (fun vs H Q E h => ?_) (fun cdv A outer s H vs Q E hr h => ?_)
  · obtain ⟨b, v, B, k, lim, rfl, _⟩ := h
    rfl
  · obtain ⟨b, v, B, k0, lim, rfl, hb, hB, hv, ok0, hm0, hm1, q⟩ := h
    have rm : ∀ {j : Nat}, j ≤ 38 → Room j (A.deeper (envOfC "_law_reach" (defScope s__law_reach) s.heap.objs.size f cdv)) := fun hj => hr.mono hj
    refine ⟨_, pss_cons (ps_set (i := 3) sc__law_reach.nd rfl (.inl rfl) (pe_lst (pa_cons (pv 1) pa_nil)))
      (pss_cons (ps_set (i := 4) sc__law_reach.nd rfl (.inl rfl) (pe_lst pa_nil))
      (pss_cons (ps_while PassesOwn.never (pt_cmpR (op_neM hr.units) (pv 3) (pe_lst pa_nil) (nomark _))
      (pss_cons (ps_set (i := 5) sc__law_reach.nd rfl (.inl rfl) (pe_bm0 PySem.F.plainAttrs_list PySem.F.slot_list_pop PySem.F.type_list_pop mt_pop (pv 3)))
      (pss_one (ps_if (pt_cmpR (op_notInD (hu65 hr)) (pv 5) (pv 4) (by rfl))
      (pss_cons (ps_asg (pe_call G__law_size (rm (by decide)) (by rfl) g__law_size k__law_size b__law_size .nil pass0 (pa_cons (pv 5) pa_nil)) (pg_tup (by rfl) (pgs_cons (pg_name (i := 6) sc__law_reach.nd rfl (.inl rfl)) (pgs_cons (pg_name (i := 7) sc__law_reach.nd rfl (.inl rfl)) pgs_nil))))
      (pss_cons (ps_if (PW.pt (pw_or (pt_cmpR op_gt (pv 6) pe_int (nomark _)) (pw_or (pt_cmpR op_gt (pv 7) pe_int (nomark _)) (pw_or1 (pt_cmpR op_ge (pe_callB call_len_seq (by rfl) m_len PySem.boot_len (pa_cons (pv 4) pa_nil)) (pv 2) (nomark _))))))
      (pss_one (ps_ret (pe_lst (pa_cons (pv 4) (pa_cons (pv 5) pa_nil))))) pss_nil)
      (pss_cons (ps_expr (pe_bm PySem.F.plainAttrs_list PySem.F.slot_list_append PySem.F.type_list_append mt_append (pv 4) (pa_cons (pv 5) pa_nil)))
      (pss_one (ps_set (i := 3) sc__law_reach.nd rfl (.inl rfl) (pe_op op_cat (pv 3) (pe_revL (pe_call G__law_parts (rm (by decide)) (by rfl) g__law_parts k__law_parts b__law_parts .nil pass0 (pa_cons (pv 0) (pa_cons (pv 5) pa_nil)))))))))) pss_nil))))
      (pss_one (ps_ret (pe_lst (pa_cons (pv 4) (pa_cons pe_non pa_nil))))))), ?_⟩
    have pB : pl (bookD B) = true := pl_rows hB.row
    have g0 := wf_good k0 ok0.w
    refine ⟨v, rfl, (by show 1 ≤ sizeLine; decide), fun hp nhp => ?_⟩
    have s1 : Same H (upd H hp (.lst [v])) := same_upd nhp
    have e1 : (upd H hp (.lst [v])) hp = some (.lst [v]) := upd_same
    generalize upd H hp (HO.lst [v]) = H1 at s1 e1 ⊢
    refine ⟨Nat.zero_le _, fun fo nfo => ?_⟩
    have s2 : Same H1 (upd H1 fo (.lst [])) := same_upd nfo
    have n1 : hp ≠ fo := ne_of_none e1 nfo
    have nfo0 : H fo = none := s1.free nfo
    have s02 := s1.trans s2
    refine ⟨WR K H b v B k0 lim, ⟨(lim - 0) * 41 + 1, [k0], [], [v], [], hp, fo, none, none, none, rfl, s2 _ _ e1, upd_same, nhp, nfo0, n1, .cons ((ts_same s02).dp _ _ (pl_D k0 g0).1 hv) .nil, .nil,
      (fun c hc => by rw [List.mem_singleton.mp hc]; exact ok0), (fun _ h => nomatch h), Nat.zero_le _, rfl, by show (lim - 0) * 41 + 1 ≤ 50000; omega, fun r h => h, s02⟩, fun m σ H' hW => ?_⟩
    clear s02 nfo0 n1 s2 nfo e1 s1 nhp
    clear H1
    obtain ⟨st, found, us, ws, hp, fo, x5, x6, x7, rfl, ehp, efo, nhp, nfo, n1, hus, hws, okS, okF, hfl, hm, hmm, hrun, s0⟩ := hW
    have gS : ∀ c ∈ st, good c := fun c hc => wf_good c (okS c hc).w
    have gR : ∀ c ∈ st.reverse, good c := fun c hc => gS c (List.mem_reverse.mp hc)
    have gF : ∀ c ∈ found, good c := fun c hc => wf_good c (okF c hc).w
    have hul := dpAll_len hus
    have hwl := dpAll_len hws
    rw [List.length_map] at hwl
    rw [List.length_map, List.length_reverse] at hul
    refine ⟨.ref hp, rfl, Nat.zero_le _, fun z nz => ?_⟩
    have sz1 : Same H' (upd H' z (.lst [])) := same_upd nz
    have cz : (upd H' z (.lst [])) z = some (.lst []) := upd_same
    generalize upd H' z (HO.lst []) = Hz at sz1 cz ⊢
    have husz := (ts_same sz1).dps _ _ (pl_kds gR) hus
    have hwsz := (ts_same sz1).dps _ _ (pl_kds gF) hws
    have s0z := s0.trans sz1
    have ehpz := sz1 _ _ ehp
    have efoz := sz1 _ _ efo
    refine ⟨.list (st.reverse.map toD), .list [], .lst (.inl (.inl ehpz)) husz, .lst (.inl (.inl cz)) .nil, canLayA _ (pl_kds gR), rfl, Nat.le_trans (Nat.min_le_right _ _) (by decide), _, rfl, ite2 (fun c0 => ?_) (fun c0 => ?_)⟩
    · rw [eqv_nil] at c0
      cases st with
      | nil => cases c0
      | cons c st =>
      have hne : us ≠ [] := fun z => by rw [z] at hul; simp at hul
      obtain ⟨us', vl, hsplit, hus', hvl⟩ : ∃ us' vl, us = us' ++ [vl] ∧ DpAll K Hz us' (st.reverse.map toD) ∧ Dp K Hz vl (toD c) := by
        rw [List.reverse_cons, List.map_append] at husz
        have hl' : us.length = (st.reverse.map toD).length + 1 := by rw [List.length_map, List.length_reverse]; simpa using hul
        refine ⟨us.dropLast, us.getLast hne, (List.dropLast_concat_getLast hne).symm, ?_, ?_⟩
        · have := dpAll_take (st.reverse.map toD).length husz
          rw [List.take_left' rfl] at this
          rw [List.dropLast_eq_take, show us.length - 1 = (st.reverse.map toD).length by omega]
          exact this
        · obtain ⟨d, hd1, hd2⟩ := dpAll_get husz (List.getElem?_eq_getElem (show us.length - 1 < us.length by omega))
          rw [List.getElem?_append_right (by omega), show us.length - 1 - (st.reverse.map toD).length = 0 by omega] at hd1
          have : toD c = d := Option.some.inj hd1
          rw [this, List.getLast_eq_getElem]
          exact hd2
      subst hsplit
      have okc := okS c List.mem_cons_self
      have gc := gS c List.mem_cons_self
      have okS' : ∀ d ∈ st, OkK B d := fun d hd => okS d (List.mem_cons_of_mem _ hd)
      have gR' : ∀ d ∈ st.reverse, good d := fun d hd => wf_good d (okS' d (List.mem_reverse.mp hd)).w
      have hfc := okc.f
      have hdc := okc.d
      have hml : (lim - found.length) * 41 + (st.length + 1) = m := by rw [← hm, List.length_cons]
      refine ⟨fun σ' H2 => ∃ m', m' < m ∧ WR K H b v B k0 lim m' σ' H2, fun _ _ h => h, ?_⟩
      refine ⟨.ref hp, rfl, .inl ⟨rfl, _, .inl (.inl ehpz)⟩, hp, _, vl, rfl, rfl, ehpz, (by simp), ?_⟩
      rw [List.dropLast_concat]
      have t2 : TS K Hz (upd Hz hp (.lst us')) := ts_lst ehpz
      have e2h : (upd Hz hp (.lst us')) hp = some (.lst us') := upd_same
      have e2f : (upd Hz hp (.lst us')) fo = some (.lst ws) := by rw [upd_ne n1.symm]; exact efoz
      have s02 : Same H (upd Hz hp (.lst us')) := fun a o e => by rw [upd_ne (ne_of_none e nhp)]; exact s0z a o e
      generalize upd Hz hp (HO.lst us') = H2 at t2 e2h e2f s02 ⊢
      have hv2 := t2.dp _ _ (pl_D c gc).1 hvl
      have hus2 := t2.dps _ _ (pl_kds gR') hus'
      have hws2 := t2.dps _ _ (pl_kds gF) hwsz
      have shc : PySem.SeqAt.shaped (toD c) = true := by
        unfold PySem.SeqAt.shaped
        have h1 := (pl_D c gc).2.2
        rw [canLay _ (pl_D c gc).1, decide_eq_true (by omega)]
        rfl
      have shf : PySem.SeqAt.shaped (.list (found.map toD)) = true := by
        unfold PySem.SeqAt.shaped
        have h1 := depth_kds okF
        have h2 : (PyData.list (found.map toD)).canLay0 = true := canLayA _ (pl_kds gF)
        have h3 : (PyData.list (found.map toD)).depth ≤ 64 := by
          simp only [PyData.depth]
          omega
        rw [h2, decide_eq_true h3]
        rfl
      refine ⟨vl, rfl, .ref fo, rfl, toD c, found.map toD, hv2, .lst (.inl (.inl e2f)) hws2, shc, shf, _, rfl, ?_⟩
      by_cases hin : c ∈ found
      · rw [(any_in c gc found).1 hin]
        refine iteF ?_
        exact ⟨(lim - found.length) * 41 + st.length, by omega, st, found, us', ws, hp, fo, _, _, _, rfl, e2h, e2f, nhp, nfo, n1, hus2, hws2, okS', okF, hfl, rfl, by omega, fun r h => hrun r (.skip hin h), s02⟩
      rw [(any_in c gc found).2 hin]
      refine iteT ?_
      refine ⟨vl, rfl, vl, c, rfl, hv2, gc, by omega, by omega, by show dpt c ≤ 17; omega, fun r H3 s3 h3 => ?_⟩
      refine ⟨r, _, rfl, h3, rfl, .int (fm c : Int), [.int (dpt c : Int)], rfl, .int (dpt c : Int), [], rfl, rfl, ?_⟩
      have e3h := s3 _ _ e2h
      have e3f := s3 _ _ e2f
      have s03 := s02.trans s3
      have hv3 := (ts_same s3).dp _ _ (pl_D c gc).1 hv2
      have hus3 := (ts_same s3).dps _ _ (pl_kds gR') hus2
      have hws3 := (ts_same s3).dps _ _ (pl_kds gF) hws2
      have stop : (lim ≤ found.length ∨ 40 < fm c ∨ 8 < dpt c) → [V.ref fo, vl].length ≤ sizeLine ∧ ∀ p, H3 p = none → Q (.ref p) (upd H3 p (.lst [.ref fo, vl])) := fun hc => ⟨by show 2 ≤ sizeLine; decide, fun p np => by
        have sp := same_upd (o := HO.lst [V.ref fo, vl]) np
        exact q found (some c) fo vl ws p _ (hrun _ (.stop hin hc)) (s03.trans sp) upd_same (sp _ _ e3f) ((ts_same sp).dps _ _ (pl_kds gF) hws3) ((ts_same sp).dp _ _ (pl_D c gc).1 hv3) okF (fun d hd => by cases hd; exact okc)⟩
      refine ⟨_, rfl, _, _, rfl, rfl, _, rfl, ite2 (fun z => ?_) (fun z => ?_)⟩
      · have hz : (40 : Int) < (fm c : Int) := of_decide_eq_true z
        exact ⟨_, rfl, _, rfl, stop (.inr (.inl (by omega)))⟩
      have hz40 : ¬ (40 : Int) < (fm c : Int) := fun h => z (decide_eq_true h)
      refine ⟨_, rfl, _, _, rfl, rfl, _, rfl, ite2 (fun z => ?_) (fun z => ?_)⟩
      · have hz : (8 : Int) < (dpt c : Int) := of_decide_eq_true z
        exact ⟨_, rfl, _, rfl, stop (.inr (.inr (by omega)))⟩
      have hz8 : ¬ (8 : Int) < (dpt c : Int) := fun h => z (decide_eq_true h)
      refine ⟨.ref fo, rfl, fo, _, rfl, .inl (.inl (.inl e3f)), .int (lim : Int), rfl, _, _, rfl, rfl, _, rfl, ite2 (fun z => ?_) (fun z => ?_)⟩
      · have hz : (lim : Int) ≤ (ws.length : Nat) := of_decide_eq_true z
        exact ⟨_, rfl, _, rfl, stop (.inl (by omega))⟩
      have hzl : ¬ (lim : Int) ≤ (ws.length : Nat) := fun h => z (decide_eq_true h)
      -- found.append(one)
      refine ⟨.ref fo, rfl, .inl ⟨rfl, _, .inl (.inl e3f)⟩, vl, rfl, fo, ws, vl, rfl, rfl, e3f, ?_, ?_⟩
      · exact Nat.lt_of_le_of_lt (show ws.length ≤ 1000 by omega) (by decide)
      have t4 : TS K H3 (upd H3 fo (.lst (ws ++ [vl]))) := ts_lst e3f
      have e4f : (upd H3 fo (.lst (ws ++ [vl]))) fo = some (.lst (ws ++ [vl])) := upd_same
      have e4h : (upd H3 fo (.lst (ws ++ [vl]))) hp = some (.lst us') := by rw [upd_ne n1]; exact e3h
      have s04 : Same H (upd H3 fo (.lst (ws ++ [vl]))) := fun a o e => by rw [upd_ne (ne_of_none e nfo)]; exact s03 a o e
      generalize upd H3 fo (HO.lst (ws ++ [vl])) = H4 at t4 e4f e4h s04 ⊢
      have hv4 := t4.dp _ _ (pl_D c gc).1 hv3
      have hus4 := t4.dps _ _ (pl_kds gR') hus3
      have hws4 := t4.dps _ _ (pl_kds gF) hws3
      have hb4 := (ts_same s04).dp _ _ pB hb
      obtain ⟨okP, hpl⟩ := parts_okK hB okc.w (show fm c ≤ 40 by omega) (show dpt c ≤ 8 by omega)
      refine ⟨.ref hp, rfl, .ref b, rfl, vl, rfl, b, vl, B, c, rfl, hb4, hB, hv4, gc, by omega, by omega, (fun n fs e => ⟨okc.w, by omega, by omega⟩), fun r8 ps H8 s8 nr8 e8 d8 => ?_⟩
      have hpsl := dpAll_len d8
      rw [List.length_map] at hpsl
      refine ⟨r8, ps, rfl, .inl (.inl e8), fun p9 np9 => ?_⟩
      have s9 : Same H8 (upd H8 p9 (.lst ps.reverse)) := same_upd np9
      have e9 : (upd H8 p9 (.lst ps.reverse)) p9 = some (.lst ps.reverse) := upd_same
      generalize upd H8 p9 (HO.lst ps.reverse) = H9 at s9 e9 ⊢
      have s49 := s8.trans s9
      have hulen : us'.length = st.length := by
        rw [List.length_append] at hul
        simpa using hul
      refine ⟨hp, p9, us', ps.reverse, rfl, rfl, s49 _ _ e4h, e9, ?_, fun pn npn => ?_⟩
      · rw [List.length_reverse]
        exact Nat.le_trans (show us'.length + ps.length ≤ 100000 by omega) (by decide)
      have s10 : Same H9 (upd H9 pn (.lst (us' ++ ps.reverse))) := same_upd npn
      have s410 := s49.trans s10
      have e49f := s49 _ _ e4f
      refine ⟨(lim - (found ++ [c]).length) * 41 + (partsK B c ++ st).length, ?_, partsK B c ++ st, found ++ [c], us' ++ ps.reverse, ws ++ [vl], pn, fo, _, _, _, rfl, upd_same, s10 _ _ e49f, (s04.trans s49).free npn, nfo, (ne_of_none e49f npn).symm, ?_, ?_, ?_, ?_, ?_, rfl, ?_, fun r h => hrun r (.go hin (by omega) (by omega) (by omega) h), s04.trans s410⟩
      · rw [List.length_append, List.length_append, List.length_singleton]
        omega
      · rw [List.reverse_append, List.map_append]
        refine dpAll_append ((ts_same s410).dps _ _ (pl_kds gR') hus4) ?_
        rw [List.map_reverse]
        exact dpAll_rev ((ts_same (s9.trans s10)).dps _ _ (pl_kds fun d hd => wf_good d (okP d hd).w) d8)
      · rw [List.map_append]
        exact dpAll_append ((ts_same s410).dps _ _ (pl_kds gF) hws4) (.cons ((ts_same s410).dp _ _ (pl_D c gc).1 hv4) .nil)
      · intro d hd
        rcases List.mem_append.mp hd with z | z
        · exact okP d z
        · exact okS' d z
      · intro d hd
        rcases List.mem_append.mp hd with z | z
        · exact okF d z
        · rw [List.mem_singleton.mp z]
          exact okc
      · rw [List.length_append, List.length_singleton]
        omega
      · rw [List.length_append, List.length_append, List.length_singleton]
        omega
    · rw [eqv_nil] at c0
      cases st with
      | cons c st =>
        refine absurd ?_ c0
        rw [List.reverse_cons, List.map_append]
        cases (List.map toD st.reverse) <;> rfl
      | nil =>
        refine ⟨.ref fo, rfl, (by show 2 ≤ sizeLine; decide), fun r nr => ?_⟩
        have sr := same_upd (o := HO.lst [V.ref fo, .non]) nr
        exact q found none fo .non ws r _ (hrun _ .done) (s0z.trans sr) upd_same (sr _ _ efoz) ((ts_same sr).dps _ _ (pl_kds gF) hwsz) rfl okF (fun d hd => nomatch hd)
end
end K2
namespace K2
open PySem PySem.Spec PyProof.Rows L2 K1 K3
open TL (tl joinL)
abbrev s__law_refused : Stmt := topS 65
abbrev nm__law_refused : List Str := ["_law_book_here", "_law_kind_here", "_law_limit", "_law_told", "_law_found", "e", "_law_classes"]
abbrev pm__law_refused : List Str := ["_law_book_here", "_law_kind_here", "_law_limit"]
theorem sc__law_refused : FnScope nm__law_refused pm__law_refused (defScope s__law_refused) := ⟨rfl, rfl, rfl, by decide +kernel, rfl, by decide +kernel, by decide +kernel⟩
abbrev s__law_right : Stmt := topS 66
abbrev nm__law_right : List Str := ["_law_book_here", "_law_kind_here", "_law_limit", "_law_met", "_law_last", "_law_told", "_law_found"]
abbrev pm__law_right : List Str := ["_law_book_here", "_law_kind_here", "_law_limit"]
theorem sc__law_right : FnScope nm__law_right pm__law_right (defScope s__law_right) := ⟨rfl, rfl, rfl, by decide +kernel, rfl, by decide +kernel, by decide +kernel⟩
structure ErT (K : PySem.W.Frag) (mg : Str → Option Value) (CP CE CG CK CT : Addr) : Prop where
  gP : mg "PackError" = some (.ref CP)
  gE : mg "Endless" = some (.ref CE)
  gG : mg "TooGreat" = some (.ref CG)
  gK : mg "BadKind" = some (.ref CK)
  gT : mg "TooMany" = some (.ref CT)
  tt : PySem.W.exmOne K (.ref CT) (.ref CT) = some true
  iT : EX.IsC K CT
  xT : XfC K CT
  fT : PySem.W.findIn K (.ref CT) "kind" = some none
  pT : PySem.W.kitOne K (.ref CT) (.ref CP) = some true
  aT : PySem.W.kitAny K (.ref CT) [.ref CE, .ref CG, .ref CK] = some false
theorem run_small {B : List Dc} {lim : Nat} {st found : List Kd} {r : List Kd × Option Kd} (h : Run B lim st found r) : found.length ≤ lim → (∀ c ∈ found, fm c ≤ 40 ∧ dpt c ≤ 8) → r.1.length ≤ lim ∧ (∀ c ∈ r.1, fm c ≤ 40 ∧ dpt c ≤ 8) := by
  induction h with
  | done => exact fun a b => ⟨a, b⟩
  | skip _ _ ih => exact ih
  | stop _ _ => exact fun a b => ⟨a, b⟩
  | go _ h1 h2 h3 _ ih =>
    intro a b
    refine ih (by rw [List.length_append, List.length_singleton]; omega) fun c hc => ?_
    rcases List.mem_append.mp hc with z | z
    · exact b c z
    · rw [List.mem_singleton.mp z]
      exact ⟨h2, h3⟩
theorem run_sz {B : List Dc} {lim : Nat} {k : Kd} {found : List Kd} {l : Option Kd} (h : Run B lim [k] [] (found, l)) (hl : lim ≤ 1000) (g : ∀ c ∈ found, good c) : pl (.tuple (found.map toD)) = true ∧ sz (.tuple (found.map toD)) ≤ 4000000 := by
  obtain ⟨h1, h2⟩ := run_small h (Nat.zero_le _) (fun _ h => nomatch h)
  refine ⟨pl_kds g, ?_⟩
  have h3 := szA_le (b := 3200) (ds := found.map toD) fun d hd => by
    obtain ⟨c, hc, rfl⟩ := List.mem_map.mp hd
    have h4 := (pl_D c (g c hc)).2.1
    have h5 := (h2 c hc).1
    omega
  rw [List.length_map] at h3
  show szA (found.map toD) + 1 ≤ 4000000
  have h6 : found.length ≤ lim := h1
  omega
theorem eqSame {K : PySem.W.Frag} {x y : V} {H : Hp} {d : PyData} {Q : VK} (h1 : Dp K H x d) (h2 : Dp K H y d) (c : d.canLay0 = true) (m : d.depth ≤ 64) (q : Q (.bl true) H) : rEqM K x y H Q := ⟨d, d, h1, h2, c, c, Nat.le_trans (Nat.min_le_left _ _) m, by rw [PySem.SeqAt.eqv_refl d c]; exact q⟩
section
variable {P : Program} {w : World} {K : PySem.W.Frag} {mg : Str → Option Value} {base : Heap}
def sp__law_refused (K : PySem.W.Frag) : Sp := fun vs H Q _ => ∃ (b : Addr) (v : V) (B : List Dc) (k : Kd) (lim : Nat), vs = [.ref b, v, .int (lim : Int)] ∧ Dp K H (.ref b) (bookD B) ∧ okB B ∧ Dp K H v (toD k) ∧ wf (hdsB B) [] k ∧ fm k ≤ 40 ∧ dpt k ≤ 8 ∧ 0 < lim ∧ lim ≤ 1000 ∧
  (∀ found ta fl r H', Run B lim [k] [] (found, none) → Same H H' → H' r = some (.lst [.ref ta, .ref fl]) → H' fl = some (.lst []) → Dp K H' (.ref ta) (.tuple (found.map toD)) → (∀ c ∈ found, OkK B c) → Q (.ref r) H') ∧
  (∀ found k' fl kv r H', Run B lim [k] [] (found, some k') → Same H H' → H' r = some (.lst [.non, .ref fl]) → H' fl = some (.lst [.bl true, kv]) → Dp K H' kv (toD k') → OkK B k' → Q (.ref r) H')
theorem ok__law_refused {f : Addr} {fd : FuncData} {C_BadBook C_BadKind C_TooMany C_PackError C_Endless C_TooGreat fR : Addr} {fdR : FuncData} {dsR : List Value} (F : Fun K "_law_refused" "_law_refused" s__law_refused f fd) (T : ErT K mg C_PackError C_Endless C_TooGreat C_BadKind C_TooMany)
    (G_reach : FnOk P w K mg base (L2.CX P w) 47 fR fdR pm_reach (sp_reach K C_BadBook C_BadKind C_TooMany)) (g_reach : mg "reach" = some (.ref fR)) (k_reach : PySem.W.keepIn K (.ref fR) = true) (b_reach : Binds K fdR pm_reach dsR) (d_reach : Vals [V.int 60] dsR) (kb_reach : KWC.KB K fdR pm_reach 2 ["most"])
    (m_isinstance : mg "isinstance" = none) : FnOk P w K mg base CX0 48 f fd pm__law_refused (sp__law_refused K) := by
  refine F.ok sc__law_refused (fun vs H Q E h => ?_) (fun cdv A outer s H vs Q E hr h => ?_)
  · obtain ⟨b, v, B, k, lim, rfl, _⟩ := h
    rfl
  · obtain ⟨b, v, B, k, lim, rfl, hb, hB, hv, hw, hf, hd, hm0, hm1, q1, q2⟩ := h
    refine ⟨_, pss_cons (ps_set (i := 3) sc__law_refused.nd rfl (.inl rfl) pe_non)
      (pss_cons (ps_set (i := 4) sc__law_refused.nd rfl (.inl rfl) (pe_lst pa_nil))
      (pss_cons (EX.ps_try_manyAs (i := 5) (n := "e") rfl rfl sc__law_refused.nd rfl rfl takes_none5
        (fun W pn xe tk _ => pss_one (ps_if (pt_cmpR op_eq (pv 2) pe_int (nomark _))
          (pss_one (ps_set (i := 3) sc__law_refused.nd rfl (.inl rfl) (pe_callSD G_reach hr (by rfl) g_reach k_reach b_reach d_reach (fun σ => passAt tk σ) (pa_cons (pv 0) (pa_cons (pv 1) pa_nil)))))
          (pss_one (ps_set (i := 3) sc__law_refused.nd rfl (.inl rfl) (KWC.pe_callKS G_reach hr (by rfl) g_reach k_reach kb_reach (fun σ => passAt tk σ) (pa_cons (pv 0) (pa_cons (pv 1) pa_nil)) (pk_cons (pv 2) pk_nil))))))
        (EX.HdsAs.cons ⟨by rfl, by decide, .inl T.gT⟩ (fun x ox cls dd pn hz hf => pss_cons (ps_set (i := 6) sc__law_refused.nd rfl (.inl rfl) (pe_and (pe_callB (EX.call_isOne hz hf) (by rfl) m_isinstance (by decide +kernel) (pa_cons (pv 5) (pa_cons (pe_glob (v := .ref C_PackError) (by rfl) T.gP rfl) pa_nil)))
            (pe_one (pe_not (pe_callB (EX.call_isAny hz hf) (by rfl) m_isinstance (by decide +kernel) (pa_cons (pv 5) (pa_cons (pe_tup (pa_cons (pe_glob (v := .ref C_Endless) (by rfl) T.gE rfl) (pa_cons (pe_glob (v := .ref C_TooGreat) (by rfl) T.gG rfl) (pa_cons (pe_glob (v := .ref C_BadKind) (by rfl) T.gK rfl) pa_nil)))) pa_nil)))))))
          (pss_one (ps_set (i := 4) sc__law_refused.nd rfl (.inl rfl) (pe_lst (pa_cons (pv 6) (pa_cons (pe_xf T.xT T.fT hz hf (pv 5)) pa_nil)))))) EX.HdsAs.nil))
      (pss_one (ps_ret (pe_lst (pa_cons (pv 3) (pa_cons (pv 4) pa_nil))))))), ?_⟩
    refine ⟨Nat.zero_le _, fun fl nfl => ?_⟩
    have s1 : Same H (upd H fl (.lst [])) := same_upd nfl
    have e1 : (upd H fl (.lst [])) fl = some (.lst []) := upd_same
    generalize upd H fl (HO.lst []) = H1 at s1 e1 ⊢
    have pB : pl (bookD B) = true := pl_rows hB.row
    have pk := (pl_D k (wf_good k hw)).1
    have hb1 := (ts_same s1).dp _ _ pB hb
    have hv1 := (ts_same s1).dp _ _ pk hv
    have good1 : ∀ (found : List Kd) (r : Addr) (H' : Hp), Run B lim [k] [] (found, none) → Same H1 H' → Dp K H' (.ref r) (.tuple (found.map toD)) → (∀ c ∈ found, OkK B c) → [V.ref r, .ref fl].length ≤ sizeLine ∧ ∀ p, H' p = none → Q (.ref p) (upd H' p (.lst [.ref r, .ref fl])) := fun found r H' hrun s' d' o' => ⟨by show 2 ≤ sizeLine; decide, fun p np => by
      have sp := same_upd (o := HO.lst [V.ref r, .ref fl]) np
      exact q1 found r fl p _ hrun (s1.trans (s'.trans sp)) upd_same (sp _ _ (s' _ _ e1)) ((ts_same sp).dp _ _ (pl_kds fun c hc => wf_good c (o' c hc).w) d') o'⟩
    have bad1 : ∀ (found : List Kd) (k' : Kd) (dd : Addr) (kv : V) (H' : Hp), Run B lim [k] [] (found, some k') → Same H1 H' → H' dd = some (.xd [("kind", kv)]) → Dp K H' kv (toD k') → OkK B k' → ∀ (x : Addr) (nx : H' x = none), True := fun _ _ _ _ _ _ _ _ _ _ _ _ => trivial
    clear bad1
    refine ⟨_, rfl, rfl, _, rfl, ?_⟩
    by_cases h60 : lim = 60
    · subst h60
      refine cT (decide_eq_true rfl) ?_
      refine ⟨.ref b, rfl, v, rfl, b, v, B, k, 60, rfl, hb1, hB, hv1, hw, hf, hd, hm0, hm1, fun found r H' hrun s' d' o' => ⟨.ref r, rfl, .ref fl, rfl, good1 found r H' hrun s' d' o'⟩, fun found k' dd kv H' hrun s' e' d' o' => ?_⟩
      refine ⟨true, T.tt, fun _ x nx => ?_, (fun z' => nomatch z')⟩
      refine ⟨.ref x, rfl, .ref C_PackError, _, true, C_TooMany, dd, _, rfl, .own _, ⟨rfl, rfl, T.iT, e'⟩, T.pT, true, rfl, iteT ?_⟩
      refine ⟨.ref x, rfl, (by show 3 ≤ sizeLine; decide), fun tp ntp => ?_⟩
      have s2 : Same H' (upd H' tp (.tup [.ref C_Endless, .ref C_TooGreat, .ref C_BadKind])) := same_upd ntp
      have eT : (upd H' tp (.tup [.ref C_Endless, .ref C_TooGreat, .ref C_BadKind])) tp = some (.tup [.ref C_Endless, .ref C_TooGreat, .ref C_BadKind]) := upd_same
      generalize upd H' tp (HO.tup [V.ref C_Endless, V.ref C_TooGreat, V.ref C_BadKind]) = H2 at s2 eT ⊢
      have e2 := s2 _ _ e'
      refine ⟨tp, _, _, false, C_TooMany, dd, _, rfl, eT, .cons (.own _) (.cons (.own _) (.cons (.own _) .nil)), ⟨rfl, rfl, T.iT, e2⟩, T.aT, false, rfl, ?_⟩
      refine ⟨.bl true, rfl, .ref x, rfl, rfl, rfl, dd, _, kv, rfl, e2, rfl, ?_⟩
      refine ⟨(by show 2 ≤ sizeLine; decide), fun f2 nf2 => ?_⟩
      have s3 : Same H2 (upd H2 f2 (.lst [.bl true, kv])) := same_upd nf2
      have e3 : (upd H2 f2 (.lst [.bl true, kv])) f2 = some (.lst [.bl true, kv]) := upd_same
      generalize upd H2 f2 (HO.lst [V.bl true, kv]) = H3 at s3 e3 ⊢
      refine ⟨.non, rfl, .ref f2, rfl, (by show 2 ≤ sizeLine; decide), fun p np => ?_⟩
      have sp := same_upd (o := HO.lst [V.non, .ref f2]) np
      exact q2 found k' f2 kv p _ hrun (s1.trans (s'.trans (s2.trans (s3.trans sp)))) upd_same (sp _ _ e3) ((ts_same (s2.trans (s3.trans sp))).dp _ _ (pl_D k' (wf_good k' o'.w)).1 d') o'
    · refine cF (fun z => h60 (by have := V.int.inj (of_decide_eq_true z); omega)) ?_
      refine ⟨.ref b, rfl, v, rfl, .int (lim : Int), rfl, rfl, rfl, b, v, B, k, lim, rfl, hb1, hB, hv1, hw, hf, hd, hm0, hm1, fun found r H' hrun s' d' o' => ⟨.ref r, rfl, .ref fl, rfl, good1 found r H' hrun s' d' o'⟩, fun found k' dd kv H' hrun s' e' d' o' => ?_⟩
      refine ⟨true, T.tt, fun _ x nx => ?_, (fun z' => nomatch z')⟩
      refine ⟨.ref x, rfl, .ref C_PackError, _, true, C_TooMany, dd, _, rfl, .own _, ⟨rfl, rfl, T.iT, e'⟩, T.pT, true, rfl, iteT ?_⟩
      refine ⟨.ref x, rfl, (by show 3 ≤ sizeLine; decide), fun tp ntp => ?_⟩
      have s2 : Same H' (upd H' tp (.tup [.ref C_Endless, .ref C_TooGreat, .ref C_BadKind])) := same_upd ntp
      have eT : (upd H' tp (.tup [.ref C_Endless, .ref C_TooGreat, .ref C_BadKind])) tp = some (.tup [.ref C_Endless, .ref C_TooGreat, .ref C_BadKind]) := upd_same
      generalize upd H' tp (HO.tup [V.ref C_Endless, V.ref C_TooGreat, V.ref C_BadKind]) = H2 at s2 eT ⊢
      have e2 := s2 _ _ e'
      refine ⟨tp, _, _, false, C_TooMany, dd, _, rfl, eT, .cons (.own _) (.cons (.own _) (.cons (.own _) .nil)), ⟨rfl, rfl, T.iT, e2⟩, T.aT, false, rfl, ?_⟩
      refine ⟨.bl true, rfl, .ref x, rfl, rfl, rfl, dd, _, kv, rfl, e2, rfl, ?_⟩
      refine ⟨(by show 2 ≤ sizeLine; decide), fun f2 nf2 => ?_⟩
      have s3 : Same H2 (upd H2 f2 (.lst [.bl true, kv])) := same_upd nf2
      have e3 : (upd H2 f2 (.lst [.bl true, kv])) f2 = some (.lst [.bl true, kv]) := upd_same
      generalize upd H2 f2 (HO.lst [V.bl true, kv]) = H3 at s3 e3 ⊢
      refine ⟨.non, rfl, .ref f2, rfl, (by show 2 ≤ sizeLine; decide), fun p np => ?_⟩
      have sp := same_upd (o := HO.lst [V.non, .ref f2]) np
      exact q2 found k' f2 kv p _ hrun (s1.trans (s'.trans (s2.trans (s3.trans sp)))) upd_same (sp _ _ e3) ((ts_same (s2.trans (s3.trans sp))).dp _ _ (pl_D k' (wf_good k' o'.w)).1 d') o'
def sp__law_right (K : PySem.W.Frag) : Sp := fun vs H Q _ => ∃ (b : Addr) (v : V) (B : List Dc) (k : Kd) (lim : Nat), vs = [.ref b, v, .int (lim : Int)] ∧ Dp K H (.ref b) (bookD B) ∧ okB B ∧ Dp K H v (toD k) ∧ wf (hdsB B) [] k ∧ fm k ≤ 40 ∧ dpt k ≤ 8 ∧ 0 < lim ∧ lim ≤ 1000 ∧
  ∀ H', Same H H' → Q (.bl true) H'
theorem ok__law_right {f : Addr} {fd : FuncData} (F : Fun K "_law_right" "_law_right" s__law_right f fd) (C__law_reach : Cal P w K mg base "_law_reach" pm__law_reach 39 (sp__law_reach K)) (C__law_refused : Cal P w K mg base "_law_refused" pm__law_refused 48 (sp__law_refused K)) (C__law_same : Cal P w K mg base "_law_same" pm__law_same 1 (sp__law_same K)) (m_isinstance : mg "isinstance" = none) (m_tuple : mg "tuple" = none) (m_len : mg "len" = none) : FnOk P w K mg base CX0 49 f fd pm__law_right (sp__law_right K) := by
  obtain ⟨f__law_reach, fd__law_reach, G__law_reach, g__law_reach, k__law_reach, b__law_reach⟩ := C__law_reach.ex
  obtain ⟨f__law_refused, fd__law_refused, G__law_refused, g__law_refused, k__law_refused, b__law_refused⟩ := C__law_refused.ex
  obtain ⟨f__law_same, fd__law_same, G__law_same, g__law_same, k__law_same, b__law_same⟩ := C__law_same.ex
  refine F.ok sc__law_right (fun vs H Q E h => ?_) (fun cdv A outer s H vs Q E hr h => ?_)
  · obtain ⟨b, v, B, k, lim, rfl, _⟩ := h
    rfl
  · obtain ⟨b, v, B, k, lim, rfl, hb, hB, hv, hw, hf, hd, hm0, hm1, q⟩ := h
    have rm : ∀ {j : Nat}, j ≤ 48 → Room j (A.deeper (envOfC "_law_right" (defScope s__law_right) s.heap.objs.size f cdv)) := fun hj => hr.mono hj
    refine ⟨_, pss_cons (ps_asg (pe_call G__law_reach (rm (by decide)) (by rfl) g__law_reach k__law_reach b__law_reach .nil pass0 (pa_cons (pv 0) (pa_cons (pv 1) (pa_cons (pv 2) pa_nil)))) (pg_unl rfl (pgs_cons (pg_name (i := 3) sc__law_right.nd rfl (.inl rfl)) (pgs_cons (pg_name (i := 4) sc__law_right.nd rfl (.inl rfl)) pgs_nil))))
      (pss_cons (ps_asg (pe_call G__law_refused (rm (by decide)) (by rfl) g__law_refused k__law_refused b__law_refused .nil pass0 (pa_cons (pv 0) (pa_cons (pv 1) (pa_cons (pv 2) pa_nil)))) (pg_unl rfl (pgs_cons (pg_name (i := 5) sc__law_right.nd rfl (.inl rfl)) (pgs_cons (pg_name (i := 6) sc__law_right.nd rfl (.inl rfl)) pgs_nil))))
      (pss_cons (ps_if (pt_cmpR op_notN (pv 4) pe_non (nomark _))
      (pss_one (ps_ret (pe_and (pe_cmpR op_eq (pe_callB call_len_seq (by rfl) m_len PySem.boot_len (pa_cons (pv 6) pa_nil)) pe_int (nomark _)) (pe_and (pe_ix ix_list (pv 6) pe_int (fun _ _ => rfl)) (pe_one (pe_call G__law_same (rm (by decide)) (by rfl) g__law_same k__law_same b__law_same .nil pass0 (pa_cons (pe_ix ix_list (pv 6) pe_int (fun _ _ => rfl)) (pa_cons (pv 4) pa_nil)))))))) pss_nil)
      (pss_one (ps_ret (pe_and (pe_cmpR (op_eqM hr.units) (pv 6) (pe_lst pa_nil) (nomark _)) (pe_and (pe_callB call_isi (by rfl) m_isinstance (by decide +kernel) (pa_cons (pv 5) (pa_cons (pe_bltn (v := .ty "tuple") (by rfl) m_tuple (show bootBuiltins "tuple" = some (.type "tuple") by decide +kernel) rfl) pa_nil))) (pe_one (pe_call G__law_same (rm (by decide)) (by rfl) g__law_same k__law_same b__law_same .nil pass0 (pa_cons (pv 5) (pa_cons (pe_callTy call_tuple_of (by rfl) m_tuple (by decide +kernel) (pa_cons (pv 3) pa_nil)) pa_nil)))))))))), ?_⟩
    have pB : pl (bookD B) = true := pl_rows hB.row
    have pk := (pl_D k (wf_good k hw)).1
    refine ⟨.ref b, rfl, v, rfl, .int (lim : Int), rfl, b, v, B, k, lim, rfl, hb, hB, hv, ⟨hw, by omega, by omega⟩, hm0, hm1, fun found last fo lv ws r H1 hrun s1 er ef dws dl okF okL => ?_⟩
    refine ⟨r, [.ref fo, lv], rfl, .inl (.inl er), rfl, .ref fo, [lv], rfl, lv, [], rfl, rfl, ?_⟩
    have gF : ∀ c ∈ found, good c := fun c hc => wf_good c (okF c hc).w
    refine ⟨.ref b, rfl, v, rfl, .int (lim : Int), rfl, b, v, B, k, lim, rfl, (ts_same s1).dp _ _ pB hb, hB, (ts_same s1).dp _ _ pk hv, hw, hf, hd, hm0, hm1, fun found2 ta fl r2 H2 hrun2 s2 er2 efl dta ok2 => ?_, fun found2 k' fl kv r2 H2 hrun2 s2 er2 efl dkv ok' => ?_⟩
    · have he := hrun.det hrun2
      cases he
      have hl0 : lv = .non := dl
      subst hl0
      refine ⟨r2, [.ref ta, .ref fl], rfl, .inl (.inl er2), rfl, .ref ta, [.ref fl], rfl, .ref fl, [], rfl, rfl, ?_⟩
      refine ⟨.non, rfl, rfl, _, rfl, iteF ?_⟩
      refine ⟨.ref fl, rfl, Nat.zero_le _, fun z nz => ?_⟩
      have s3 : Same H2 (upd H2 z (.lst [])) := same_upd nz
      have e3 : (upd H2 z (.lst [])) z = some (.lst []) := upd_same
      generalize upd H2 z (HO.lst []) = H3 at s3 e3 ⊢
      obtain ⟨pt, st⟩ := run_sz hrun hm1 gF
      have dta3 := (ts_same s3).dp _ _ pt dta
      refine eqSame (d := .list []) (.lst (.inl (.inl (s3 _ _ efl))) .nil) (.lst (.inl (.inl e3)) .nil) rfl (by decide) ⟨true, rfl, iteT ?_⟩
      refine ⟨.ref ta, rfl, .ref ta, _, _, _, true, rfl, .ty "tuple", dp_ty dta3 pt, kit_ty (kT _), true, rfl, iteT ?_⟩
      have s13 := s2.trans s3
      refine ⟨.ref ta, rfl, .ref fo, rfl, fo, ws, rfl, .inl ⟨.inl (.inl (s13 _ _ ef)), fun tu ntu => ?_⟩⟩
      have s4 := same_upd (o := HO.tup ws) ntu
      refine ⟨.ref ta, .ref tu, _, .tuple (found.map toD), rfl, (ts_same s4).dp _ _ pt dta3, .tup (.inl (.inl upd_same)) ((ts_same (s13.trans s4)).dps _ _ (pl_kds gF) dws), pt, pt, st, st, fun H5 s5 => ?_⟩
      rw [eqB_true rfl]
      exact q H5 (s1.trans (s13.trans (s4.trans s5)))
    · have he := hrun.det hrun2
      cases he
      have dl' : Dp K H1 lv (toD k') := dl
      have gk := wf_good k' ok'.w
      have pk' := (pl_D k' gk).1
      have sk' : sz (toD k') ≤ 4000000 := by
        have h1 := (pl_D k' gk).2.1
        have h2 := ok'.f
        omega
      have nl : lv ≠ .non := fun z => by
        have := (non_iff dl').mp z
        obtain ⟨ds, e⟩ := toD_tuple k'
        rw [e] at this
        cases this
      refine ⟨r2, [.non, .ref fl], rfl, .inl (.inl er2), rfl, .non, [.ref fl], rfl, .ref fl, [], rfl, rfl, ?_⟩
      refine ⟨lv, rfl, rfl, _, rfl, ifNN nl ?_⟩
      refine ⟨.ref fl, rfl, fl, _, rfl, .inl (.inl (.inl efl)), rfl, _, rfl, cT (decide_eq_true rfl) ?_⟩
      refine ⟨.ref fl, rfl, fl, _, 0, .bl true, rfl, rfl, .inl (.inl efl), atI_nat (j := 0) rfl, true, rfl, iteT ?_⟩
      refine ⟨.ref fl, rfl, fl, _, 1, kv, rfl, rfl, .inl (.inl efl), atI_nat (j := 1) rfl, lv, rfl, kv, lv, _, _, rfl, dkv, (ts_same s2).dp _ _ pk' dl', pk', pk', sk', sk', fun H5 s5 => ?_⟩
      rw [eqB_true rfl]
      exact q H5 (s1.trans (s2.trans s5))
end
end K2
namespace K2
open PySem PySem.Spec PyProof.Rows L2 K1 K3
open TL (tl joinL)
abbrev s__law_grown : Stmt := topS 59
abbrev nm__law_grown : List Str := ["_law_deck_here", "_law_book_here", "_law_way", "_law_at", "_law_name", "_law_holes", "_law_kind_here", "_law_one", "_law_other", "_law_fills", "_law_more", "_law_own", "_law_some", "_law_hole"]
abbrev pm__law_grown : List Str := ["_law_deck_here", "_law_book_here", "_law_way"]
theorem sc__law_grown : FnScope nm__law_grown pm__law_grown (defScope s__law_grown) := ⟨rfl, rfl, rfl, by decide +kernel, rfl, by decide +kernel, by decide +kernel⟩
theorem setB {B : List Dc} {i : Nat} {r : Dc} (h : B[i]? = some r) (k : Kd) : hdsB (B.take i ++ [⟨r.name, r.holes, k⟩] ++ B.drop (i + 1)) = hdsB B := by
  have hi := (List.getElem?_eq_some_iff.mp h).1
  have e : B = B.take i ++ [r] ++ B.drop (i + 1) := by
    have h1 : B[i] = r := (List.getElem?_eq_some_iff.mp h).2
    rw [List.append_assoc, ← h1]
    simp
  conv => rhs; rw [e]
  unfold hdsB
  rw [List.map_append, List.map_append, List.map_append, List.map_append]
  rfl
theorem okB_set {B : List Dc} (hB : okB B) {i : Nat} {r : Dc} (h : B[i]? = some r) {k : Kd} (w : wf (hdsB B) r.holes k) (hf : fm k ≤ 40) (hd : dpt k ≤ 8) : okB (B.take i ++ [⟨r.name, r.holes, k⟩] ++ B.drop (i + 1)) := by
  have hi := (List.getElem?_eq_some_iff.mp h).1
  have hr := hB.row r (List.mem_of_getElem? h)
  have hh := setB h k
  refine ⟨?_, ?_, fun x hx => ?_⟩
  · have := hB.len
    rw [List.length_append, List.length_append, List.length_take, List.length_drop, List.length_singleton]
    omega
  · have := hB.nd
    rw [← hdsB_names, hh, hdsB_names]
    exact this
  · rw [hh]
    rcases List.mem_append.mp hx with z | z
    · rcases List.mem_append.mp z with z | z
      · exact hB.row x (List.mem_of_mem_take z)
      · rw [List.mem_singleton.mp z]
        exact ⟨hr.nm, hr.len, hr.nd, hr.hn, w, hf, hd⟩
    · exact hB.row x (List.mem_of_mem_drop z)
def holesK (hs : List Str) : Ks := ksL (hs.map Kd.hole)
def maybesK (hs : List Str) : Ks := ksL (hs.map fun h => Kd.one false (.hole h))
theorem holes_ok {hd : List (Str × Nat)} {ho : List Str} : ∀ hs : List Str, (∀ h ∈ hs, Nm h ∧ h ∈ ho) → wfK hd ho (holesK hs) ∧ (ksD (holesK hs)).length = hs.length ∧ fmK (holesK hs) = hs.length ∧ dptK (holesK hs) ≤ 1
  | [], _ => ⟨True.intro, rfl, rfl, Nat.zero_le _⟩
  | h :: hs, g => by
    obtain ⟨a, b, c, d⟩ := holes_ok hs fun x hx => g x (List.mem_cons_of_mem _ hx)
    refine ⟨⟨g h List.mem_cons_self, a⟩, ?_, ?_, ?_⟩
    · show (ksD (holesK hs)).length + 1 = _
      rw [b]
      rfl
    · show 1 + fmK (holesK hs) = _
      rw [c, List.length_cons]
      omega
    · show max 1 (dptK (holesK hs)) ≤ 1
      omega
theorem maybes_ok {hd : List (Str × Nat)} {ho : List Str} : ∀ hs : List Str, (∀ h ∈ hs, Nm h ∧ h ∈ ho) → wfK hd ho (maybesK hs) ∧ (ksD (maybesK hs)).length = hs.length ∧ fmK (maybesK hs) = 2 * hs.length ∧ dptK (maybesK hs) ≤ 2
  | [], _ => ⟨True.intro, rfl, rfl, Nat.zero_le _⟩
  | h :: hs, g => by
    obtain ⟨a, b, c, d⟩ := maybes_ok hs fun x hx => g x (List.mem_cons_of_mem _ hx)
    refine ⟨⟨g h List.mem_cons_self, a⟩, ?_, ?_, ?_⟩
    · show (ksD (maybesK hs)).length + 1 = _
      rw [b]
      rfl
    · show (1 + 1) + fmK (maybesK hs) = _
      rw [c, List.length_cons]
      omega
    · show max (1 + 1) (dptK (maybesK hs)) ≤ 2
      omega
theorem fmK_L : ∀ (l : List Kd), fmK (ksL l) = (l.map fm).sum
  | [] => rfl
  | k :: l => by simp only [ksL, fmK, List.map_cons, List.sum_cons, fmK_L l]
theorem sum_le {F : Nat} : ∀ (l : List Nat), (∀ x ∈ l, x ≤ F) → l.sum ≤ l.length * F
  | [], _ => by simp
  | x :: l, h => by
    have h1 := h x List.mem_cons_self
    have h2 := sum_le l fun y hy => h y (List.mem_cons_of_mem _ hy)
    rw [List.sum_cons, List.length_cons, Nat.add_mul]
    omega
theorem two_wf {hd : List (Str × Nat)} {ho : List Str} {n1 n2 : Str} {a b : Kd} (v : Bool) (h1 : Nm n1) (h2 : Nm n2) (ne : n1 ≠ n2) (wa : wf hd ho a) (wb : wf hd ho b) : wf hd ho (.parts v (.cons n1 a (.cons n2 b .nil))) := by
  refine ⟨fun _ => by show 1 ≤ 2; decide, by show 2 ≤ 8; decide, ?_, h1, wa, h2, wb, True.intro⟩
  show [n1, n2].Nodup
  simp [ne]
section
variable {P : Program} {w : World} {K : PySem.W.Frag} {mg : Str → Option Value} {base : Heap}
def sp__law_grown (K : PySem.W.Frag) : Sp := fun vs H Q _ => ∃ (dk cl lf b : Addr) (B : List Dc) (way : Int), vs = [.ref dk, .ref b, .int way] ∧ Dk H dk cl lf ∧ Dp K H (.ref b) (bookD B) ∧ okB B ∧ B ≠ [] ∧ (∀ r ∈ B, fm r.kd ≤ 30 ∧ dpt r.kd ≤ 5) ∧ 0 ≤ way ∧ way < 3 ∧
  ∀ (r b2 : Addr) (v2 : V) (B2 : List Dc) (k2 : Kd) (H' : Hp), Dk H' dk cl lf → KD dk lf H H' → H' r = some (.lst [.ref b2, v2]) → Dp K H' (.ref b2) (bookD B2) → okB B2 → hdsB B2 = hdsB B → Dp K H' v2 (toD k2) → wf (hdsB B2) [] k2 → fm k2 ≤ 40 → dpt k2 ≤ 8 → Q (.ref r) H'
def tGr (K : PySem.W.Frag) (dk cl lf b : Addr) (B : List Dc) (H0 : Hp) (Q : VK) : L2.TS := fun D σ H => ∃ (at_ : Nat) (r : Dc) (ho : Addr) (kv : V) (k : Kd) (x2 x7 x8 x9 x10 x11 x12 x13 : Option V), σ = [some (.ref dk), some (.ref b), x2, some (.int (at_ : Int)), some (.str r.name), some (.ref ho), some kv, x7, x8, x9, x10, x11, x12, x13] ∧
  Dk H dk cl lf ∧ KD dk lf H0 H ∧ Dp K H (.ref b) (bookD B) ∧ B[at_]? = some r ∧ SqT K H ho (r.holes.map V.str) ∧ Dp K H kv (toD k) ∧ wf (hdsB B) r.holes k ∧ fm k ≤ 40 ∧ dpt k ≤ 8 ∧ D.rt = Q
def tG1 (K : PySem.W.Frag) (dk cl lf b : Addr) (B : List Dc) (H0 : Hp) (Q : VK) : L2.TS := fun D σ H => ∃ (at_ : Nat) (way : Int) (r : Dc) (ho : Addr) (kv : V) (n1 n2 : Str), σ = [some (.ref dk), some (.ref b), some (.int way), some (.int (at_ : Int)), some (.str r.name), some (.ref ho), some kv, some (.str n1), some (.str n2), none, none, none, none, none] ∧
  Dk H dk cl lf ∧ KD dk lf H0 H ∧ Dp K H (.ref b) (bookD B) ∧ B[at_]? = some r ∧ SqT K H ho (r.holes.map V.str) ∧ Dp K H kv (toD r.kd) ∧ Nm n1 ∧ Nm n2 ∧ n1 ≠ n2 ∧ (way = 0 ∨ way = 1 ∨ way = 2) ∧ D.rt = Q
theorem ksD_holes : ∀ hs : List Str, ksD (holesK hs) = hs.map fun h => toD (.hole h)
  | [] => rfl
  | h :: hs => by
    show toD (.hole h) :: ksD (holesK hs) = _
    rw [ksD_holes hs]
    rfl
theorem ksD_maybes : ∀ hs : List Str, ksD (maybesK hs) = hs.map fun h => toD (.one false (.hole h))
  | [] => rfl
  | h :: hs => by
    show toD (.one false (.hole h)) :: ksD (maybesK hs) = _
    rw [ksD_maybes hs]
    rfl
theorem pl_mapD {α : Type} {f : α → Kd} {l : List α} (h : ∀ x ∈ l, good (f x)) : plA (l.map fun x => toD (f x)) = true := plA_of fun d hd => by
  obtain ⟨x, hx, rfl⟩ := List.mem_map.mp hd
  exact (pl_D _ (h x hx)).1
theorem ok__law_grown {f : Addr} {fd : FuncData} (F : Fun K "_law_grown" "_law_grown" s__law_grown f fd) (C__law_pick : Cal P w K mg base "_law_pick" pm__law_pick 1 sp__law_pick) (C__law_names : Cal P w K mg base "_law_names" pm__law_names 3 spNames) (C__law_leaf : Cal P w K mg base "_law_leaf" pm__law_leaf 2 (spLeaf K)) (m_tuple : mg "tuple" = none) (m_len : mg "len" = none) : FnOk P w K mg base CX0 4 f fd pm__law_grown (sp__law_grown K) := by
  obtain ⟨f__law_pick, fd__law_pick, G__law_pick, g__law_pick, k__law_pick, b__law_pick⟩ := C__law_pick.ex
  obtain ⟨f__law_names, fd__law_names, G__law_names, g__law_names, k__law_names, b__law_names⟩ := C__law_names.ex
  obtain ⟨f__law_leaf, fd__law_leaf, G__law_leaf, g__law_leaf, k__law_leaf, b__law_leaf⟩ := C__law_leaf.ex
  refine F.ok sc__law_grown (fun vs H Q E h => ?_) (fun cdv A outer s H vs Q E hr h => ?_)
  · obtain ⟨dk, cl, lf, b, B, way, rfl, _⟩ := h
    rfl
  · obtain ⟨dk, cl, lf, b, B, way, rfl, D0, hb, hB, hne, hsm, w0, w1, q⟩ := h
    have rm : ∀ {j : Nat}, j ≤ 3 → Room j (A.deeper (envOfC "_law_grown" (defScope s__law_grown) s.heap.objs.size f cdv)) := fun hj => hr.mono hj
    refine ⟨_, pss_cons (ps_set (i := 3) sc__law_grown.nd rfl (.inl rfl) (pe_call G__law_pick (rm (by decide)) (by rfl) g__law_pick k__law_pick b__law_pick .nil pass0 (pa_cons (pv 0) (pa_cons (pe_callB call_len_seq (by rfl) m_len PySem.boot_len (pa_cons (pv 1) pa_nil)) pa_nil))))
      (pss_cons (ps_asg (pe_ix ix_tup (pv 1) (pv 3) (fun _ _ => rfl)) (pg_tup (by rfl) (pgs_cons (pg_name (i := 4) sc__law_grown.nd rfl (.inl rfl)) (pgs_cons (pg_name (i := 5) sc__law_grown.nd rfl (.inl rfl)) (pgs_cons (pg_name (i := 6) sc__law_grown.nd rfl (.inl rfl)) pgs_nil)))))
      (pss_cons (ps_asg (pe_call G__law_names (rm (by decide)) (by rfl) g__law_names k__law_names b__law_names .nil pass0 (pa_cons (pv 0) (pa_cons pe_int pa_nil))) (pg_unl rfl (pgs_cons (pg_name (i := 7) sc__law_grown.nd rfl (.inl rfl)) (pgs_cons (pg_name (i := 8) sc__law_grown.nd rfl (.inl rfl)) pgs_nil))))
      (pss_cons (ps_if (PW.pt (pw_and (pt_cmpR op_eq (pv 2) pe_int (nomark _)) (pw_and1 (pt_cmpR op_eq (pe_callB call_len_seq (by rfl) m_len PySem.boot_len (pa_cons (pv 5) pa_nil)) pe_int (nomark _)))))
      (pss_one (ps_set (i := 2) sc__law_grown.nd rfl (.inl rfl) pe_int)) pss_nil)
      (pss_weak (t' := tG1 K dk cl lf b B H Q) (pss_cons (ps_set (i := 9) sc__law_grown.nd rfl (.inl rfl) (pe_callTy call_tuple_of (by rfl) m_tuple (by decide +kernel) (pa_cons (pe_lc (own := [("_law_hole", 13)]) (g := gName 13) (tt := tYes) rfl sc__law_grown.nd (pi_tup (pv 5)) (blkOk_by (N := nm__law_grown) (sc := defScope s__law_grown) (by decide +kernel)) (fun _ _ _ _ _ => pg_name (i := 13) sc__law_grown.nd rfl (Or.inl rfl)) (fun _ _ _ _ _ => pts_nil) (fun _ _ _ _ _ => (pe_tup (pa_cons pe_str (pa_cons (pv 13) pa_nil))))) pa_nil)))
      (pss_cons (ps_if (pt_cmpR op_eq (pv 2) pe_int (nomark _))
      (pss_cons (ps_set (i := 10) sc__law_grown.nd rfl (.inl rfl) (pe_callTy call_tuple_of (by rfl) m_tuple (by decide +kernel) (pa_cons (pe_lc (own := [("_law_hole", 13)]) (g := gName 13) (tt := tYes) rfl sc__law_grown.nd (pi_tup (pv 5)) (blkOk_by (N := nm__law_grown) (sc := defScope s__law_grown) (by decide +kernel)) (fun _ _ _ _ _ => pg_name (i := 13) sc__law_grown.nd rfl (Or.inl rfl)) (fun _ _ _ _ _ => pts_nil) (fun _ _ _ _ _ => (pe_tup (pa_cons pe_str (pa_cons (pe_tup (pa_cons pe_str (pa_cons (pv 13) pa_nil))) pa_nil))))) pa_nil)))
      (pss_cons (ps_set (i := 11) sc__law_grown.nd rfl (.inl rfl) (pe_tup (pa_cons pe_str (pa_cons (pv 4) (pa_cons (pv 10) pa_nil)))))
      (pss_one (ps_set (i := 6) sc__law_grown.nd rfl (.inl rfl) (pe_tup (pa_cons pe_str (pa_cons (pe_tup (pa_cons (pe_tup (pa_cons (pv 7) (pa_cons (pv 6) pa_nil))) (pa_cons (pe_tup (pa_cons (pv 8) (pa_cons (pe_ix ix_list (pe_lst (pa_cons (pv 11) (pa_cons (pe_tup (pa_cons pe_str (pa_cons (pv 11) pa_nil))) pa_nil))) (pe_call G__law_pick (rm (by decide)) (by rfl) g__law_pick k__law_pick b__law_pick .nil pass0 (pa_cons (pv 0) (pa_cons pe_int pa_nil))) (fun _ _ => rfl)) pa_nil))) pa_nil))) pa_nil))))))) pss_nil)
      (pss_cons (ps_if (pt_cmpR op_eq (pv 2) pe_int (nomark _))
      (pss_cons (ps_set (i := 11) sc__law_grown.nd rfl (.inl rfl) (pe_tup (pa_cons pe_str (pa_cons (pv 4) (pa_cons (pv 9) pa_nil)))))
      (pss_cons (ps_set (i := 12) sc__law_grown.nd rfl (.inl rfl) (pe_lst (pa_cons (pe_tup (pa_cons pe_str (pa_cons (pe_tup (pa_cons (pe_tup (pa_cons (pv 7) (pa_cons (pv 6) pa_nil))) (pa_cons (pe_tup (pa_cons (pv 8) (pa_cons (pv 11) pa_nil))) pa_nil))) pa_nil))) (pa_cons (pe_tup (pa_cons pe_str (pa_cons (pv 11) pa_nil))) (pa_cons (pe_tup (pa_cons pe_str (pa_cons (pe_tup (pa_cons (pe_tup (pa_cons (pv 7) (pa_cons (pv 11) pa_nil))) (pa_cons (pe_tup (pa_cons (pv 8) (pa_cons (pv 6) pa_nil))) pa_nil))) pa_nil))) pa_nil)))))
      (pss_one (ps_set (i := 6) sc__law_grown.nd rfl (.inl rfl) (pe_ix ix_list (pv 12) (pe_call G__law_pick (rm (by decide)) (by rfl) g__law_pick k__law_pick b__law_pick .nil pass0 (pa_cons (pv 0) (pa_cons pe_int pa_nil))) (fun _ _ => rfl)))))) pss_nil)
      (pss_cons (ps_if (pt_cmpR op_eq (pv 2) pe_int (nomark _))
      (pss_cons (ps_set (i := 11) sc__law_grown.nd rfl (.inl rfl) (pe_tup (pa_cons pe_str (pa_cons (pv 4) (pa_cons (pv 9) pa_nil)))))
      (pss_one (ps_set (i := 6) sc__law_grown.nd rfl (.inl rfl) (pe_ix ix_list (pe_lst (pa_cons (pe_tup (pa_cons pe_str (pa_cons (pv 11) pa_nil))) (pa_cons (pe_tup (pa_cons pe_str (pa_cons (pe_tup (pa_cons pe_str (pa_cons (pv 11) pa_nil))) pa_nil))) (pa_cons (pv 11) pa_nil)))) (pe_call G__law_pick (rm (by decide)) (by rfl) g__law_pick k__law_pick b__law_pick .nil pass0 (pa_cons (pv 0) (pa_cons pe_int pa_nil))) (fun _ _ => rfl))))) pss_nil)
      (pss_weak (t' := tGr K dk cl lf b B H Q) (pss_cons (ps_set (i := 1) sc__law_grown.nd rfl (.inl rfl) (pe_op op_catA (pe_op op_catA (pe_slice sl_tupA (pv 1) po_none (po_some (pv 3))) (pe_tup (pa_cons (pe_tup (pa_cons (pv 4) (pa_cons (pv 5) (pa_cons (pv 6) pa_nil)))) pa_nil))) (pe_slice sl_tupA (pv 1) (po_some (pe_op op_add (pv 3) pe_int)) po_none)))
      (pss_one (ps_ret (pe_lst (pa_cons (pv 1) (pa_cons (pe_tup (pa_cons pe_str (pa_cons (pv 4) (pa_cons (pe_callTy call_tuple_of (by rfl) m_tuple (by decide +kernel) (pa_cons (pe_lc (own := [("_law_hole", 13)]) (g := gName 13) (tt := tYes) rfl sc__law_grown.nd (pi_tup (pv 5)) (blkOk_by (N := nm__law_grown) (sc := defScope s__law_grown) (by decide +kernel)) (fun _ _ _ _ _ => pg_name (i := 13) sc__law_grown.nd rfl (Or.inl rfl)) (fun _ _ _ _ _ => pts_nil) (fun _ _ _ _ _ => (pe_call G__law_leaf (rm (by decide)) (by rfl) g__law_leaf k__law_leaf b__law_leaf .nil pass0 (pa_cons (pv 0) (pa_cons (pe_tup pa_nil) pa_nil))))) pa_nil)) pa_nil)))) pa_nil)))))) ?fin))))) ?gf)))), ?_⟩
    case fin =>
      rintro D σ H1 ⟨at_, r, ho, kv, k, x2, x7, x8, x9, x10, x11, x12, x13, rfl, D1, k1, hb1, hat, hho, hkv, wk, hf, hd, hrt⟩
      have hro := hB.row r (List.mem_of_getElem? hat)
      have gk := wf_good k wk
      obtain ⟨b', xs, eb, hs, hx⟩ := dp_tup hb1
      cases eb
      have hxl := dpAll_len hx
      rw [List.length_map] at hxl
      have hai := (List.getElem?_eq_some_iff.mp hat).1
      have plB : plA (B.map rowD) = true := pl_rows hB.row
      refine ⟨.ref b, rfl, .int (at_ : Int), rfl, (at_ : Int), rfl, slA_any hs fun r1 H2 s2 h2 => ?_⟩
      rw [cut_take] at h2
      refine ⟨.str r.name, rfl, .ref ho, rfl, kv, rfl, (by show 3 ≤ sizeLine; decide), fun t3 n3 => ⟨(by show 1 ≤ sizeLine; decide), fun t4 n4 => ?_⟩⟩
      have s3 : Same H2 (upd H2 t3 (.tup [.str r.name, .ref ho, kv])) := same_upd n3
      have e3 : (upd H2 t3 (.tup [.str r.name, .ref ho, kv])) t3 = some (.tup [.str r.name, .ref ho, kv]) := upd_same
      generalize upd H2 t3 (HO.tup [V.str r.name, V.ref ho, kv]) = H3 at s3 e3 n4 ⊢
      have s4 : Same H3 (upd H3 t4 (.tup [.ref t3])) := same_upd n4
      have e4 : (upd H3 t4 (.tup [.ref t3])) t4 = some (.tup [.ref t3]) := upd_same
      generalize upd H3 t4 (HO.tup [V.ref t3]) = H4 at s4 e4 ⊢
      refine catA_any (ts_same (s3.trans s4) _ _ h2) (.inl (.inl e4)) ?_ fun r5 H5 s5 h5 => ?_
      · rw [List.length_take]
        have := hB.len
        exact Nat.le_trans (show min at_ xs.length + [V.ref t3].length ≤ 100 by show min at_ xs.length + 1 ≤ 100; omega) (by decide)
      have s25 := s3.trans (s4.trans s5)
      have s15 := s2.trans s25
      refine ⟨.ref b, rfl, .int (at_ : Int), rfl, _, _, rfl, rfl, ((at_ : Int) + 1), rfl, ?_⟩
      dsimp only [tNoPart]
      refine slA_any (ts_same s15 _ _ hs) fun r6 H6 s6 h6 => ?_
      rw [show (at_ : Int) + 1 = ((at_ + 1 : Nat) : Int) by omega, cut_drop] at h6
      refine catA_any (ts_same s6 _ _ h5) h6 ?_ fun r7 H7 s7 h7 => ?_
      · rw [List.length_append, List.length_take, List.length_drop]
        have := hB.len
        exact Nat.le_trans (show min at_ xs.length + [V.ref t3].length + (xs.length - (at_ + 1)) ≤ 100 by show min at_ xs.length + 1 + (xs.length - (at_ + 1)) ≤ 100; omega) (by decide)
      have s17 := s15.trans (s6.trans s7)
      have s37 := s4.trans (s5.trans (s6.trans s7))
      have hx7 := (ts_same s17).dps _ _ plB hx
      have B2 := okB_set hB hat wk hf hd
      have hho7 : SqT K H7 ho (r.holes.map V.str) := ts_same s17 _ _ hho
      have plh : plA (r.holes.map PyData.str) = true := plA_of fun d hd => by
        obtain ⟨z, hz, rfl⟩ := List.mem_map.mp hd
        exact nm_ok (hro.hn z hz)
      have hkv7 := (ts_same s17).dp _ _ (pl_D k gk).1 hkv
      have hb7 : Dp K H7 (.ref r7) (bookD (B.take at_ ++ [⟨r.name, r.holes, k⟩] ++ B.drop (at_ + 1))) := by
        refine .tup h7 ?_
        rw [List.map_append, List.map_append, List.map_take, List.map_drop]
        exact dpAll_append (dpAll_append (dpAll_take at_ hx7) (.cons (.tup (ts_same s37 _ _ (.inl (.inl e3))) (.cons (.str _) (.cons (.tup hho7 (strs_dp _)) (.cons hkv7 .nil)))) .nil)) (dpAll_drop (at_ + 1) hx7)
      have D7 := D1.same s17
      have k07 := k1.trans (KD.of_same s17)
      -- the use with leaves
      refine ⟨.ref r7, rfl, .str r.name, rfl, .ref ho, rfl, ho, rfl, ⟨_, hho7⟩, fun Dd hDd => lc_tup (xs := r.holes.map V.str) (fun i H' => ∃ (vs : List V) (l : List Kd), vs.length = i ∧ l.length = i ∧ DpAll K H' vs (ksD (ksL l)) ∧ (∀ x ∈ l, wf (hdsB B) [] x ∧ dpt x ≤ 1 ∧ fm x ≤ 1) ∧ H' Dd = some (.lst vs) ∧ Dk H' dk cl lf ∧ KD dk lf H7 H')
        ⟨[], [], rfl, rfl, .nil, (fun _ h => nomatch h), upd_same, D7.same (same_upd hDd), KD.of_same (same_upd hDd)⟩ (fun i H' _ hP => ?_) (fun i x H' hxi hP => ?_) (fun H' hP => ?_)⟩
      · obtain ⟨vs, l, ev, el, hv, hl, eD, DH, kH⟩ := hP
        exact (D7.ts kH) _ _ hho7
      · obtain ⟨vs, l, ev, el, hv, hl, eD, DH, kH⟩ := hP
        have hi : i < r.holes.length := by
          have := (List.getElem?_eq_some_iff.mp hxi).1
          rwa [List.length_map] at this
        have hrl := hro.len
        have nDd := D7.not hDd
        have hpl : plA (ksD (ksL l)) = true := (pl_K _ (wfK_good _ (ksL_wf (d := 1) (r := 1) l hl).1)).1
        refine ⟨rfl, ?_⟩
        dsimp only [tYes]
        refine iteT ?_
        refine ⟨.ref dk, rfl, Nat.zero_le _, fun te nte => ?_⟩
        have s8 : Same H' (upd H' te (.tup [])) := same_upd nte
        have e8 : (upd H' te (.tup [])) te = some (.tup []) := upd_same
        generalize upd H' te (HO.tup []) = H8 at s8 e8 ⊢
        refine ⟨dk, cl, lf, te, hdsB B, [], rfl, DH.same s8, .inl (.inl e8), (fun _ h => nomatch h), Nat.zero_le _, fun v kk H9 D9 k9 hv9 gk9 hfk hdk => ?_⟩
        have eD9 : H9 Dd = some (.lst vs) := k9 _ _ nDd.1 nDd.2.2 (s8 _ _ eD)
        have ts9 : TS K H' H9 := (ts_same s8).trans ((DH.same s8).ts k9)
        have tl := ts_lst (K := K) (ys := vs ++ [v]) eD9
        refine ⟨_, eD9, ?_, vs ++ [v], l ++ [kk], ?_, ?_, ?_, ?_, upd_same, D9.upd nDd, ?_⟩
        · exact Nat.lt_of_le_of_lt (show vs.length ≤ 100 by omega) (by decide)
        · rw [List.length_append, ev]; rfl
        · rw [List.length_append, el]; rfl
        · rw [ksD_snoc]
          exact dpAll_append (TS.dps (ts9.trans tl) _ _ hpl hv) (.cons (tl.dp _ _ (pl_D kk (wf_good kk gk9)).1 hv9) .nil)
        · intro x hx'
          rcases List.mem_append.mp hx' with z | z
          · exact hl x z
          · rw [List.mem_singleton.mp z]
            exact ⟨gk9, by omega, by omega⟩
        · intro bb o nn1 nn2 e
          rw [upd_ne (ne_of_none e hDd)]
          exact k9 bb o nn1 nn2 (s8 _ _ (kH bb o nn1 nn2 e))
      · obtain ⟨vs, l, ev, el, hv, hl, eD, DH, kH⟩ := hP
        rw [List.length_map] at ev el
        have hrl := hro.len
        obtain ⟨o1, o2, o3, o4⟩ := ksL_wf (d := 1) (r := 1) l hl
        have hpl : plA (ksD (ksL l)) = true := (pl_K _ (wfK_good _ o1)).1
        refine ⟨Dd, _, rfl, .inl ⟨.inl (.inl eD), fun tu ntu => ⟨(by show 3 ≤ sizeLine; decide), fun t nt => ⟨(by show 2 ≤ sizeLine; decide), fun rr nrr => ?_⟩⟩⟩⟩
        have e10 : (upd H' tu (.tup vs)) tu = some (.tup vs) := upd_same
        have s10 : Same H' (upd H' tu (.tup vs)) := same_upd ntu
        generalize upd H' tu (HO.tup vs) = H10 at e10 s10 nt nrr ⊢
        have e11 : (upd H10 t (.tup [.str "use", .str r.name, .ref tu])) t = some (.tup [.str "use", .str r.name, .ref tu]) := upd_same
        have s11 : Same H10 (upd H10 t (.tup [.str "use", .str r.name, .ref tu])) := same_upd nt
        generalize upd H10 t (HO.tup [V.str "use", V.str r.name, V.ref tu]) = H11 at e11 s11 nrr ⊢
        have s12 := same_upd (o := HO.lst [V.ref r7, V.ref t]) nrr
        have sA := s10.trans (s11.trans s12)
        rw [hrt]
        have hlk : hdLk (hdsB B) r.name = some r.holes.length := hdsB_lk hB (r.name, r.holes.length) (List.mem_map_of_mem (f := fun r : Dc => (r.name, r.holes.length)) (List.mem_of_getElem? hat))
        refine q rr r7 (.ref t) _ (.use r.name (ksL l)) _ (DH.same sA) (k07.trans (kH.trans (KD.of_same sA))) upd_same ?_ B2 (setB hat k) ?_ ?_ ?_ ?_
        · exact ((D7.ts kH).trans (ts_same sA)).dp _ _ (pl_rows B2.row) hb7
        · exact .tup (.inl (.inl (s12 _ _ e11))) (.cons (.str _) (.cons (.str _) (.cons (.tup (.inl (.inl ((s11.trans s12) _ _ e10))) ((ts_same sA).dps _ _ hpl hv)) .nil)))
        · rw [setB hat k]
          exact ⟨⟨hro.nm, by rw [o4, el]; exact hlk⟩, o1⟩
        · show fmK (ksL l) + 1 ≤ 40
          rw [fmK_L]
          have := sum_le (F := 1) (l.map fm) (fun x hx => by
            obtain ⟨k', hk', rfl⟩ := List.mem_map.mp hx
            exact (hl k' hk').2.2)
          rw [List.length_map] at this
          omega
        · show dptK (ksL l) + 1 ≤ 8
          omega
    case gf =>
      rintro D σ H1 ⟨at_, way, r, ho, kv, n1, n2, rfl, D1, k1, hb1, hat, hho, hkv, hn1, hn2, hne12, hway, hrt⟩
      have pB : pl (bookD B) = true := pl_rows hB.row
      have hro := hB.row r (List.mem_of_getElem? hat)
      have hrl := hro.len
      have gkd := wf_good _ hro.w
      have hsm2 := hsm r (List.mem_of_getElem? hat)
      have hlk : hdLk (hdsB B) r.name = some r.holes.length := hdsB_lk hB (r.name, r.holes.length) (List.mem_map_of_mem (f := fun r : Dc => (r.name, r.holes.length)) (List.mem_of_getElem? hat))
      have hnh : ∀ h ∈ r.holes, Nm h ∧ h ∈ r.holes := fun h hh => ⟨hro.hn h hh, hh⟩
      obtain ⟨wH, lH, fH, dH⟩ := holes_ok (hd := hdsB B) (ho := r.holes) r.holes hnh
      obtain ⟨wM, lM, fM, dM⟩ := maybes_ok (hd := hdsB B) (ho := r.holes) r.holes hnh
      have gH : ∀ x ∈ r.holes, good (.hole x) := fun x hx => hro.hn x hx
      have gM : ∀ x ∈ r.holes, good (.one false (.hole x)) := fun x hx => hro.hn x hx
      have hml : (r.holes.map V.str).length = r.holes.length := List.length_map ..
      refine ⟨.ref ho, rfl, ho, rfl, ⟨_, hho⟩, fun Dd hDd => lc_tup (xs := r.holes.map V.str) (fun i H' => ∃ us, H' Dd = some (.lst us) ∧ us.length = i ∧ DpAll K H' us ((r.holes.take i).map fun h => toD (.hole h)) ∧ Same H1 H')
        ⟨[], upd_same, rfl, by rw [List.take_zero]; exact .nil, same_upd hDd⟩ (fun i H' _ hP => ?_) (fun i x H' hxi hP => ?_) (fun H' hP => ?_)⟩
      · obtain ⟨_, _, _, _, s'⟩ := hP
        exact ts_same s' _ _ hho
      · obtain ⟨us, eD, el, hu, s'⟩ := hP
        have hi : i < r.holes.length := by
          have := (List.getElem?_eq_some_iff.mp hxi).1
          rwa [hml] at this
        have eh : r.holes[i]? = some r.holes[i] := List.getElem?_eq_getElem hi
        obtain rfl : V.str r.holes[i] = x := by
          rw [List.getElem?_map, eh] at hxi
          exact Option.some.inj hxi
        refine ⟨rfl, ?_⟩
        dsimp only [tYes]
        refine iteT ?_
        refine ⟨.str r.holes[i], rfl, (by show 2 ≤ sizeLine; decide), fun ta na => ?_⟩
        have sa : Same H' (upd H' ta (.tup [.str "hole", .str r.holes[i]])) := same_upd na
        have ea : (upd H' ta (.tup [.str "hole", .str r.holes[i]])) ta = some (.tup [.str "hole", .str r.holes[i]]) := upd_same
        generalize upd H' ta (HO.tup [V.str "hole", V.str r.holes[i]]) = H2 at sa ea ⊢
        have eD2 := sa _ _ eD
        have tl := ts_lst (K := K) (ys := us ++ [.ref ta]) eD2
        refine ⟨us, eD2, ?_, us ++ [.ref ta], upd_same, by rw [List.length_append, el]; rfl, ?_, fun b o e => by rw [upd_ne (ne_of_none e hDd)]; exact sa _ _ (s' b o e)⟩
        · exact Nat.lt_of_le_of_lt (show us.length ≤ 100 by omega) (by decide)
        · rw [List.take_add_one, eh, List.map_append]
          exact dpAll_append (((ts_same sa).trans tl).dps _ _ (pl_mapD fun x hx => gH x (List.mem_of_mem_take hx)) hu) (.cons (.tup (tl _ _ (.inl (.inl ea))) (.cons (.str _) (.cons (.str _) .nil))) .nil)
      obtain ⟨us, eD, el, hu, s'⟩ := hP
      rw [hml, List.take_length] at hu
      refine ⟨Dd, _, rfl, .inl ⟨.inl (.inl eD), fun fl nfl => ?_⟩⟩
      have sf : Same H' (upd H' fl (.tup us)) := same_upd nfl
      have hfl : Dp K (upd H' fl (.tup us)) (.ref fl) (.tuple (ksD (holesK r.holes))) := by
        rw [ksD_holes]
        exact .tup (.inl (.inl upd_same)) ((ts_same sf).dps _ _ (pl_mapD gH) hu)
      generalize upd H' fl (HO.tup us) = H3 at sf hfl ⊢
      have s13 := s'.trans sf
      have D3 := D1.same s13
      have hb3 := (ts_same s13).dp _ _ pB hb1
      have hho3 : SqT K H3 ho (r.holes.map V.str) := ts_same s13 _ _ hho
      have hkv3 := (ts_same s13).dp _ _ (pl_D _ gkd).1 hkv
      have k03 := k1.trans (KD.of_same s13)
      have wUH : wf (hdsB B) r.holes (.use r.name (holesK r.holes)) := ⟨⟨hro.nm, by rw [lH]; exact hlk⟩, wH⟩
      have wUM : wf (hdsB B) r.holes (.use r.name (maybesK r.holes)) := ⟨⟨hro.nm, by rw [lM]; exact hlk⟩, wM⟩
      have fUH : fm (.use r.name (holesK r.holes)) ≤ 4 := by show fmK _ + 1 ≤ 4; omega
      have fUM : fm (.use r.name (maybesK r.holes)) ≤ 7 := by show fmK _ + 1 ≤ 7; omega
      have dUH : dpt (.use r.name (holesK r.holes)) ≤ 2 := by show dptK _ + 1 ≤ 2; omega
      have dUM : dpt (.use r.name (maybesK r.holes)) ≤ 3 := by show dptK _ + 1 ≤ 3; omega
      have pUH := (pl_D _ (wf_good _ wUH)).1
      have pUM := (pl_D _ (wf_good _ wUM)).1
      have pkd := (pl_D _ gkd).1
      -- what all ways lead to
      have fin : ∀ (H4 : Hp) (kN : Kd) (kvN : V) (x2 x9 x10 x11 x12 : Option V), Dk H4 dk cl lf → KD dk lf H3 H4 → Dp K H4 kvN (toD kN) → wf (hdsB B) r.holes kN → fm kN ≤ 40 → dpt kN ≤ 8 → tGr K dk cl lf b B H Q D [some (.ref dk), some (.ref b), x2, some (.int (at_ : Int)), some (.str r.name), some (.ref ho), some kvN, some (.str n1), some (.str n2), x9, x10, x11, x12, none] H4 := fun H4 kN kvN x2 x9 x10 x11 x12 D4 k34 hN wN fN dN =>
        ⟨at_, r, ho, kvN, kN, _, _, _, _, _, _, _, _, rfl, D4, k03.trans k34, (D3.ts k34).dp _ _ pB hb3, hat, (D3.ts k34) _ _ hho3, hN, wN, fN, dN, hrt⟩
      rcases hway with rfl | rfl | rfl
      · -- grows with each use of itself
        refine ⟨.int 0, rfl, rfl, _, rfl, cT (decide_eq_true rfl) ?_⟩
        refine ⟨.ref ho, rfl, ho, rfl, ⟨_, hho3⟩, fun De hDe => lc_tup (xs := r.holes.map V.str) (fun i H' => ∃ us, H' De = some (.lst us) ∧ us.length = i ∧ DpAll K H' us ((r.holes.take i).map fun h => toD (.one false (.hole h))) ∧ Same H3 H')
          ⟨[], upd_same, rfl, by rw [List.take_zero]; exact .nil, same_upd hDe⟩ (fun i H' _ hP => ?_) (fun i x H' hxi hP => ?_) (fun H' hP => ?_)⟩
        · obtain ⟨_, _, _, _, s'⟩ := hP
          exact ts_same s' _ _ hho3
        · obtain ⟨us, eD, el, hu, s'⟩ := hP
          have hi : i < r.holes.length := by
            have := (List.getElem?_eq_some_iff.mp hxi).1
            rwa [hml] at this
          have eh : r.holes[i]? = some r.holes[i] := List.getElem?_eq_getElem hi
          obtain rfl : V.str r.holes[i] = x := by
            rw [List.getElem?_map, eh] at hxi
            exact Option.some.inj hxi
          refine ⟨rfl, ?_⟩
          dsimp only [tYes]
          refine iteT ?_
          refine ⟨.str r.holes[i], rfl, (by show 2 ≤ sizeLine; decide), fun ta na => ⟨(by show 2 ≤ sizeLine; decide), fun tb nb => ?_⟩⟩
          have sa : Same H' (upd H' ta (.tup [.str "hole", .str r.holes[i]])) := same_upd na
          have ea : (upd H' ta (.tup [.str "hole", .str r.holes[i]])) ta = some (.tup [.str "hole", .str r.holes[i]]) := upd_same
          generalize upd H' ta (HO.tup [V.str "hole", V.str r.holes[i]]) = H4 at sa ea nb ⊢
          have sb : Same H4 (upd H4 tb (.tup [.str "maybe", .ref ta])) := same_upd nb
          have eb : (upd H4 tb (.tup [.str "maybe", .ref ta])) tb = some (.tup [.str "maybe", .ref ta]) := upd_same
          generalize upd H4 tb (HO.tup [V.str "maybe", V.ref ta]) = H5 at sb eb ⊢
          have eD2 := sb _ _ (sa _ _ eD)
          have tl := ts_lst (K := K) (ys := us ++ [.ref tb]) eD2
          refine ⟨us, eD2, ?_, us ++ [.ref tb], upd_same, by rw [List.length_append, el]; rfl, ?_, fun b o e => by rw [upd_ne (ne_of_none e hDe)]; exact sb _ _ (sa _ _ (s' b o e))⟩
          · exact Nat.lt_of_le_of_lt (show us.length ≤ 100 by omega) (by decide)
          · rw [List.take_add_one, eh, List.map_append]
            exact dpAll_append (((ts_same (sa.trans sb)).trans tl).dps _ _ (pl_mapD fun x hx => gM x (List.mem_of_mem_take hx)) hu) (.cons (.tup (tl _ _ (.inl (.inl eb))) (.cons (.str _) (.cons (.tup (tl _ _ (.inl (.inl (sb _ _ ea)))) (.cons (.str _) (.cons (.str _) .nil))) .nil))) .nil)
        obtain ⟨us, eD, el, hu, s'⟩ := hP
        rw [hml, List.take_length] at hu
        refine ⟨De, _, rfl, .inl ⟨.inl (.inl eD), fun mo nmo => ?_⟩⟩
        have sm : Same H' (upd H' mo (.tup us)) := same_upd nmo
        have hmo : Dp K (upd H' mo (.tup us)) (.ref mo) (.tuple (ksD (maybesK r.holes))) := by
          rw [ksD_maybes]
          exact .tup (.inl (.inl upd_same)) ((ts_same sm).dps _ _ (pl_mapD gM) hu)
        generalize upd H' mo (HO.tup us) = H4 at sm hmo ⊢
        refine ⟨.str r.name, rfl, .ref mo, rfl, (by show 3 ≤ sizeLine; decide), fun ow now => ?_⟩
        have so : Same H4 (upd H4 ow (.tup [.str "use", .str r.name, .ref mo])) := same_upd now
        have how : Dp K (upd H4 ow (.tup [.str "use", .str r.name, .ref mo])) (.ref ow) (toD (.use r.name (maybesK r.holes))) := .tup (.inl (.inl upd_same)) (.cons (.str _) (.cons (.str _) (.cons ((ts_same so).dp _ _ (pl_K _ (wfK_good _ wM)).1 hmo) .nil)))
        generalize upd H4 ow (HO.tup [V.str "use", V.str r.name, V.ref mo]) = H5 at so how ⊢
        have s35 := s'.trans (sm.trans so)
        have D5 := D3.same s35
        have hkv5 := (ts_same s35).dp _ _ pkd hkv3
        refine ⟨.str n1, rfl, kv, rfl, (by show 2 ≤ sizeLine; decide), fun ta na => ?_⟩
        have sa : Same H5 (upd H5 ta (.tup [.str n1, kv])) := same_upd na
        have ea : (upd H5 ta (.tup [.str n1, kv])) ta = some (.tup [.str n1, kv]) := upd_same
        generalize upd H5 ta (HO.tup [V.str n1, kv]) = H6 at sa ea ⊢
        refine ⟨.str n2, rfl, .ref ow, rfl, .ref ow, rfl, (by show 2 ≤ sizeLine; decide), fun tb nb => ?_⟩
        have sb : Same H6 (upd H6 tb (.tup [.str "box", .ref ow])) := same_upd nb
        have eb : (upd H6 tb (.tup [.str "box", .ref ow])) tb = some (.tup [.str "box", .ref ow]) := upd_same
        generalize upd H6 tb (HO.tup [V.str "box", V.ref ow]) = H7 at sb eb ⊢
        refine ⟨(by show 2 ≤ sizeLine; decide), fun ll nll => ?_⟩
        have sl : Same H7 (upd H7 ll (.lst [.ref ow, .ref tb])) := same_upd nll
        have el2 : (upd H7 ll (.lst [.ref ow, .ref tb])) ll = some (.lst [.ref ow, .ref tb]) := upd_same
        have D7 := D5.same (sa.trans sb)
        have nl := D7.not nll
        generalize upd H7 ll (HO.lst [V.ref ow, V.ref tb]) = H8 at sl el2 ⊢
        have s58 := sa.trans (sb.trans sl)
        have D8 := D5.same s58
        refine ⟨.ref dk, rfl, dk, cl, lf, 2, rfl, D8, by decide, by decide +kernel, fun j H9 j0 j1 D9 k9 => ?_⟩
        have t89 : TS K H8 H9 := D8.ts k9
        have how9 := ((ts_same s58).trans t89).dp _ _ pUM how
        have hbx9 : Dp K H9 (.ref tb) (toD (.one true (.use r.name (maybesK r.holes)))) := .tup (t89 _ _ (.inl (.inl (sl _ _ eb)))) (.cons (.str _) (.cons how9 .nil))
        have hkv9 := ((ts_same s58).trans t89).dp _ _ pkd hkv5
        have ea9 : SqT K H9 ta [.str n1, kv] := t89 _ _ (.inl (.inl ((sb.trans sl) _ _ ea)))
        obtain ⟨y, kO, hy, hyd, wO, fO, dO⟩ : ∃ (y : V) (kO : Kd), atI [V.ref ow, V.ref tb] j = some y ∧ Dp K H9 y (toD kO) ∧ wf (hdsB B) r.holes kO ∧ fm kO ≤ 8 ∧ dpt kO ≤ 4 := by
          rcases (show j = 0 ∨ j = 1 by omega) with e | e
          · subst e; exact ⟨_, _, rfl, how9, wUM, by omega, by omega⟩
          · subst e; exact ⟨_, _, rfl, hbx9, wUM, by show fm _ + 1 ≤ 8; omega, by show dpt _ + 1 ≤ 4; omega⟩
        refine ⟨ll, _, j, y, rfl, rfl, .inl (.inl (k9 _ _ nl.1 nl.2.2 el2)), hy, (by show 2 ≤ sizeLine; decide), fun tc nc => ?_⟩
        have sc : Same H9 (upd H9 tc (.tup [.str n2, y])) := same_upd nc
        have ec : (upd H9 tc (.tup [.str n2, y])) tc = some (.tup [.str n2, y]) := upd_same
        generalize upd H9 tc (HO.tup [V.str n2, y]) = H10 at sc ec ⊢
        refine ⟨(by show 2 ≤ sizeLine; decide), fun td nd => ?_⟩
        have sd : Same H10 (upd H10 td (.tup [.ref ta, .ref tc])) := same_upd nd
        have ed : (upd H10 td (.tup [.ref ta, .ref tc])) td = some (.tup [.ref ta, .ref tc]) := upd_same
        generalize upd H10 td (HO.tup [V.ref ta, V.ref tc]) = H11 at sd ed ⊢
        refine ⟨(by show 2 ≤ sizeLine; decide), fun te ne => ?_⟩
        have se : Same H11 (upd H11 te (.tup [.str "record", .ref td])) := same_upd ne
        have ee : (upd H11 te (.tup [.str "record", .ref td])) te = some (.tup [.str "record", .ref td]) := upd_same
        generalize upd H11 te (HO.tup [V.str "record", V.ref td]) = H12 at se ee ⊢
        have s912 := sc.trans (sd.trans se)
        have pO := (pl_D _ (wf_good _ wO)).1
        refine ⟨.int 0, rfl, rfl, _, rfl, cF (by decide) ⟨.int 0, rfl, rfl, _, rfl, cF (by decide) ?_⟩⟩
        refine fin H12 (.parts false (.cons n1 r.kd (.cons n2 kO .nil))) (.ref te) _ _ _ _ _ (D9.same s912) ((KD.of_same (s35.trans s58)).trans (k9.trans (KD.of_same s912))) ?_ (two_wf false hn1 hn2 hne12 hro.w wO) (by show (fm r.kd + (fm kO + 0)) + 1 ≤ 40; omega) (by show max (dpt r.kd) (max (dpt kO) 0) + 1 ≤ 8; omega)
        exact .tup (.inl (.inl ee)) (.cons (.str _) (.cons (.tup (.inl (.inl (se _ _ ed))) (.cons (.tup (ts_same s912 _ _ ea9) (.cons (.str _) (.cons ((ts_same s912).dp _ _ pkd hkv9) .nil))) (.cons (.tup (.inl (.inl ((sd.trans se) _ _ ec))) (.cons (.str _) (.cons ((ts_same s912).dp _ _ pO hyd) .nil))) .nil))) .nil))
      · -- a part of itself
        refine ⟨.int 1, rfl, rfl, _, rfl, cF (by decide) ⟨.int 1, rfl, rfl, _, rfl, cT (decide_eq_true rfl) ?_⟩⟩
        refine ⟨.str r.name, rfl, .ref fl, rfl, (by show 3 ≤ sizeLine; decide), fun ow now => ?_⟩
        have so : Same H3 (upd H3 ow (.tup [.str "use", .str r.name, .ref fl])) := same_upd now
        have how : Dp K (upd H3 ow (.tup [.str "use", .str r.name, .ref fl])) (.ref ow) (toD (.use r.name (holesK r.holes))) := .tup (.inl (.inl upd_same)) (.cons (.str _) (.cons (.str _) (.cons ((ts_same so).dp _ _ (pl_K _ (wfK_good _ wH)).1 hfl) .nil)))
        generalize upd H3 ow (HO.tup [V.str "use", V.str r.name, V.ref fl]) = H5 at so how ⊢
        have D5 := D3.same so
        have hkv5 := (ts_same so).dp _ _ pkd hkv3
        refine ⟨.str n1, rfl, kv, rfl, (by show 2 ≤ sizeLine; decide), fun a1 m1 => ?_⟩
        have q1 : Same H5 (upd H5 a1 (.tup [.str n1, kv])) := same_upd m1
        have e1 : (upd H5 a1 (.tup [.str n1, kv])) a1 = some (.tup [.str n1, kv]) := upd_same
        generalize upd H5 a1 (HO.tup [V.str n1, kv]) = G1 at q1 e1 ⊢
        refine ⟨.str n2, rfl, .ref ow, rfl, (by show 2 ≤ sizeLine; decide), fun a2 m2 => ?_⟩
        have q2 : Same G1 (upd G1 a2 (.tup [.str n2, .ref ow])) := same_upd m2
        have e2 : (upd G1 a2 (.tup [.str n2, .ref ow])) a2 = some (.tup [.str n2, .ref ow]) := upd_same
        generalize upd G1 a2 (HO.tup [V.str n2, V.ref ow]) = G2 at q2 e2 ⊢
        refine ⟨(by show 2 ≤ sizeLine; decide), fun a3 m3 => ?_⟩
        have q3 : Same G2 (upd G2 a3 (.tup [.ref a1, .ref a2])) := same_upd m3
        have e3 : (upd G2 a3 (.tup [.ref a1, .ref a2])) a3 = some (.tup [.ref a1, .ref a2]) := upd_same
        generalize upd G2 a3 (HO.tup [V.ref a1, V.ref a2]) = G3 at q3 e3 ⊢
        refine ⟨(by show 2 ≤ sizeLine; decide), fun a4 m4 => ?_⟩
        have q4 : Same G3 (upd G3 a4 (.tup [.str "record", .ref a3])) := same_upd m4
        have e4 : (upd G3 a4 (.tup [.str "record", .ref a3])) a4 = some (.tup [.str "record", .ref a3]) := upd_same
        generalize upd G3 a4 (HO.tup [V.str "record", V.ref a3]) = G4 at q4 e4 ⊢
        refine ⟨.ref ow, rfl, (by show 2 ≤ sizeLine; decide), fun a5 m5 => ?_⟩
        have q5 : Same G4 (upd G4 a5 (.tup [.str "maybe", .ref ow])) := same_upd m5
        have e5 : (upd G4 a5 (.tup [.str "maybe", .ref ow])) a5 = some (.tup [.str "maybe", .ref ow]) := upd_same
        generalize upd G4 a5 (HO.tup [V.str "maybe", V.ref ow]) = G5 at q5 e5 ⊢
        refine ⟨.str n1, rfl, .ref ow, rfl, (by show 2 ≤ sizeLine; decide), fun a6 m6 => ?_⟩
        have q6 : Same G5 (upd G5 a6 (.tup [.str n1, .ref ow])) := same_upd m6
        have e6 : (upd G5 a6 (.tup [.str n1, .ref ow])) a6 = some (.tup [.str n1, .ref ow]) := upd_same
        generalize upd G5 a6 (HO.tup [V.str n1, V.ref ow]) = G6 at q6 e6 ⊢
        refine ⟨.str n2, rfl, kv, rfl, (by show 2 ≤ sizeLine; decide), fun a7 m7 => ?_⟩
        have q7 : Same G6 (upd G6 a7 (.tup [.str n2, kv])) := same_upd m7
        have e7 : (upd G6 a7 (.tup [.str n2, kv])) a7 = some (.tup [.str n2, kv]) := upd_same
        generalize upd G6 a7 (HO.tup [V.str n2, kv]) = G7 at q7 e7 ⊢
        refine ⟨(by show 2 ≤ sizeLine; decide), fun a8 m8 => ?_⟩
        have q8 : Same G7 (upd G7 a8 (.tup [.ref a6, .ref a7])) := same_upd m8
        have e8 : (upd G7 a8 (.tup [.ref a6, .ref a7])) a8 = some (.tup [.ref a6, .ref a7]) := upd_same
        generalize upd G7 a8 (HO.tup [V.ref a6, V.ref a7]) = G8 at q8 e8 ⊢
        refine ⟨(by show 2 ≤ sizeLine; decide), fun a9 m9 => ?_⟩
        have q9 : Same G8 (upd G8 a9 (.tup [.str "variant", .ref a8])) := same_upd m9
        have e9 : (upd G8 a9 (.tup [.str "variant", .ref a8])) a9 = some (.tup [.str "variant", .ref a8]) := upd_same
        generalize upd G8 a9 (HO.tup [V.str "variant", V.ref a8]) = G9 at q9 e9 ⊢
        refine ⟨(by show 3 ≤ sizeLine; decide), fun ll nll => ?_⟩
        have sG := q1.trans (q2.trans (q3.trans (q4.trans (q5.trans (q6.trans (q7.trans (q8.trans q9)))))))
        have nl := (D5.same sG).not nll
        have sl : Same G9 (upd G9 ll (.lst [.ref a4, .ref a5, .ref a9])) := same_upd nll
        have el2 : (upd G9 ll (.lst [.ref a4, .ref a5, .ref a9])) ll = some (.lst [.ref a4, .ref a5, .ref a9]) := upd_same
        generalize upd G9 ll (HO.lst [V.ref a4, V.ref a5, V.ref a9]) = GL at sl el2 ⊢
        have D8 := D5.same (sG.trans sl)
        refine ⟨.ref ll, rfl, .ref dk, rfl, dk, cl, lf, 3, rfl, D8, by decide, by decide +kernel, fun j H9 j0 j1 D9 k9 => ?_⟩
        have t89 : TS K GL H9 := D8.ts k9
        have T5 : TS K H5 H9 := (ts_same (sG.trans sl)).trans t89
        have how9 := T5.dp _ _ pUH how
        have hkv9 := T5.dp _ _ pkd hkv5
        have u1 : SqT K H9 a1 [.str n1, kv] := t89 _ _ (.inl (.inl ((q2.trans (q3.trans (q4.trans (q5.trans (q6.trans (q7.trans (q8.trans (q9.trans sl)))))))) _ _ e1)))
        have u2 : SqT K H9 a2 [.str n2, .ref ow] := t89 _ _ (.inl (.inl ((q3.trans (q4.trans (q5.trans (q6.trans (q7.trans (q8.trans (q9.trans sl))))))) _ _ e2)))
        have u3 : SqT K H9 a3 [.ref a1, .ref a2] := t89 _ _ (.inl (.inl ((q4.trans (q5.trans (q6.trans (q7.trans (q8.trans (q9.trans sl)))))) _ _ e3)))
        have u4 : SqT K H9 a4 [.str "record", .ref a3] := t89 _ _ (.inl (.inl ((q5.trans (q6.trans (q7.trans (q8.trans (q9.trans sl))))) _ _ e4)))
        have u5 : SqT K H9 a5 [.str "maybe", .ref ow] := t89 _ _ (.inl (.inl ((q6.trans (q7.trans (q8.trans (q9.trans sl)))) _ _ e5)))
        have u6 : SqT K H9 a6 [.str n1, .ref ow] := t89 _ _ (.inl (.inl ((q7.trans (q8.trans (q9.trans sl))) _ _ e6)))
        have u7 : SqT K H9 a7 [.str n2, kv] := t89 _ _ (.inl (.inl ((q8.trans (q9.trans sl)) _ _ e7)))
        have u8 : SqT K H9 a8 [.ref a6, .ref a7] := t89 _ _ (.inl (.inl ((q9.trans sl) _ _ e8)))
        have u9 : SqT K H9 a9 [.str "variant", .ref a8] := t89 _ _ (.inl (.inl (sl _ _ e9)))
        obtain ⟨y, kO, hy, hyd, wO, fO, dO⟩ : ∃ (y : V) (kO : Kd), atI [V.ref a4, V.ref a5, V.ref a9] j = some y ∧ Dp K H9 y (toD kO) ∧ wf (hdsB B) r.holes kO ∧ fm kO ≤ 40 ∧ dpt kO ≤ 8 := by
          rcases (show j = 0 ∨ j = 1 ∨ j = 2 by omega) with e | e | e
          · subst e
            exact ⟨_, .parts false (.cons n1 r.kd (.cons n2 (.use r.name (holesK r.holes)) .nil)), rfl, .tup u4 (.cons (.str _) (.cons (.tup u3 (.cons (.tup u1 (.cons (.str _) (.cons hkv9 .nil))) (.cons (.tup u2 (.cons (.str _) (.cons how9 .nil))) .nil))) .nil)), two_wf false hn1 hn2 hne12 hro.w wUH, by show (fm r.kd + (fm (.use r.name (holesK r.holes)) + 0)) + 1 ≤ 40; omega, by show max (dpt r.kd) (max (dpt (.use r.name (holesK r.holes))) 0) + 1 ≤ 8; omega⟩
          · subst e
            exact ⟨_, .one false (.use r.name (holesK r.holes)), rfl, .tup u5 (.cons (.str _) (.cons how9 .nil)), wUH, by show fm _ + 1 ≤ 40; omega, by show dpt _ + 1 ≤ 8; omega⟩
          · subst e
            exact ⟨_, .parts true (.cons n1 (.use r.name (holesK r.holes)) (.cons n2 r.kd .nil)), rfl, .tup u9 (.cons (.str _) (.cons (.tup u8 (.cons (.tup u6 (.cons (.str _) (.cons how9 .nil))) (.cons (.tup u7 (.cons (.str _) (.cons hkv9 .nil))) .nil))) .nil)), two_wf true hn1 hn2 hne12 wUH hro.w, by show (fm (.use r.name (holesK r.holes)) + (fm r.kd + 0)) + 1 ≤ 40; omega, by show max (dpt (.use r.name (holesK r.holes))) (max (dpt r.kd) 0) + 1 ≤ 8; omega⟩
        refine ⟨ll, _, j, y, rfl, rfl, .inl (.inl (k9 _ _ nl.1 nl.2.2 el2)), hy, ?_⟩
        refine ⟨.int 1, rfl, rfl, _, rfl, cF (by decide) ?_⟩
        exact fin H9 kO y _ _ _ _ _ D9 ((KD.of_same (so.trans (sG.trans sl))).trans k9) hyd wO fO dO
      · -- a box of itself alone
        refine ⟨.int 2, rfl, rfl, _, rfl, cF (by decide) ⟨.int 2, rfl, rfl, _, rfl, cF (by decide) ⟨.int 2, rfl, rfl, _, rfl, cT (decide_eq_true rfl) ?_⟩⟩⟩
        refine ⟨.str r.name, rfl, .ref fl, rfl, (by show 3 ≤ sizeLine; decide), fun ow now => ?_⟩
        have so : Same H3 (upd H3 ow (.tup [.str "use", .str r.name, .ref fl])) := same_upd now
        have how : Dp K (upd H3 ow (.tup [.str "use", .str r.name, .ref fl])) (.ref ow) (toD (.use r.name (holesK r.holes))) := .tup (.inl (.inl upd_same)) (.cons (.str _) (.cons (.str _) (.cons ((ts_same so).dp _ _ (pl_K _ (wfK_good _ wH)).1 hfl) .nil)))
        generalize upd H3 ow (HO.tup [V.str "use", V.str r.name, V.ref fl]) = H5 at so how ⊢
        have D5 := D3.same so
        refine ⟨.ref ow, rfl, (by show 2 ≤ sizeLine; decide), fun a1 m1 => ?_⟩
        have q1 : Same H5 (upd H5 a1 (.tup [.str "box", .ref ow])) := same_upd m1
        have e1 : (upd H5 a1 (.tup [.str "box", .ref ow])) a1 = some (.tup [.str "box", .ref ow]) := upd_same
        generalize upd H5 a1 (HO.tup [V.str "box", V.ref ow]) = G1 at q1 e1 ⊢
        refine ⟨.ref ow, rfl, (by show 2 ≤ sizeLine; decide), fun a2 m2 => ?_⟩
        have q2 : Same G1 (upd G1 a2 (.tup [.str "box", .ref ow])) := same_upd m2
        have e2 : (upd G1 a2 (.tup [.str "box", .ref ow])) a2 = some (.tup [.str "box", .ref ow]) := upd_same
        generalize upd G1 a2 (HO.tup [V.str "box", V.ref ow]) = G2 at q2 e2 ⊢
        refine ⟨(by show 2 ≤ sizeLine; decide), fun a3 m3 => ?_⟩
        have q3 : Same G2 (upd G2 a3 (.tup [.str "box", .ref a2])) := same_upd m3
        have e3 : (upd G2 a3 (.tup [.str "box", .ref a2])) a3 = some (.tup [.str "box", .ref a2]) := upd_same
        generalize upd G2 a3 (HO.tup [V.str "box", V.ref a2]) = G3 at q3 e3 ⊢
        refine ⟨.ref ow, rfl, (by show 3 ≤ sizeLine; decide), fun ll nll => ?_⟩
        have sG := q1.trans (q2.trans q3)
        have nl := (D5.same sG).not nll
        have sl : Same G3 (upd G3 ll (.lst [.ref a1, .ref a3, .ref ow])) := same_upd nll
        have el2 : (upd G3 ll (.lst [.ref a1, .ref a3, .ref ow])) ll = some (.lst [.ref a1, .ref a3, .ref ow]) := upd_same
        generalize upd G3 ll (HO.lst [V.ref a1, V.ref a3, V.ref ow]) = GL at sl el2 ⊢
        have D8 := D5.same (sG.trans sl)
        refine ⟨.ref dk, rfl, dk, cl, lf, 3, rfl, D8, by decide, by decide +kernel, fun j H9 j0 j1 D9 k9 => ?_⟩
        have t89 : TS K GL H9 := D8.ts k9
        have how9 := ((ts_same (sG.trans sl)).trans t89).dp _ _ pUH how
        have u1 : SqT K H9 a1 [.str "box", .ref ow] := t89 _ _ (.inl (.inl ((q2.trans (q3.trans sl)) _ _ e1)))
        have u2 : SqT K H9 a2 [.str "box", .ref ow] := t89 _ _ (.inl (.inl ((q3.trans sl) _ _ e2)))
        have u3 : SqT K H9 a3 [.str "box", .ref a2] := t89 _ _ (.inl (.inl (sl _ _ e3)))
        obtain ⟨y, kO, hy, hyd, wO, fO, dO⟩ : ∃ (y : V) (kO : Kd), atI [V.ref a1, V.ref a3, V.ref ow] j = some y ∧ Dp K H9 y (toD kO) ∧ wf (hdsB B) r.holes kO ∧ fm kO ≤ 40 ∧ dpt kO ≤ 8 := by
          rcases (show j = 0 ∨ j = 1 ∨ j = 2 by omega) with e | e | e
          · subst e
            exact ⟨_, .one true (.use r.name (holesK r.holes)), rfl, .tup u1 (.cons (.str _) (.cons how9 .nil)), wUH, by show fm _ + 1 ≤ 40; omega, by show dpt _ + 1 ≤ 8; omega⟩
          · subst e
            exact ⟨_, .one true (.one true (.use r.name (holesK r.holes))), rfl, .tup u3 (.cons (.str _) (.cons (.tup u2 (.cons (.str _) (.cons how9 .nil))) .nil)), wUH, by show fm _ + 1 + 1 ≤ 40; omega, by show dpt _ + 1 + 1 ≤ 8; omega⟩
          · subst e
            exact ⟨_, .use r.name (holesK r.holes), rfl, how9, wUH, by omega, by omega⟩
        refine ⟨ll, _, j, y, rfl, rfl, .inl (.inl (k9 _ _ nl.1 nl.2.2 el2)), hy, ?_⟩
        exact fin H9 kO y _ _ _ _ _ D9 ((KD.of_same (so.trans (sG.trans sl))).trans k9) hyd wO fO dO
    have pB : pl (bookD B) = true := pl_rows hB.row
    obtain ⟨b', xs, eb, hs, hx⟩ := dp_tup hb
    cases eb
    have hxl := dpAll_len hx
    rw [List.length_map] at hxl
    have hBpos : 0 < B.length := List.length_pos_iff.mpr hne
    have hBl := hB.len
    refine ⟨.ref dk, rfl, .ref b, rfl, b, _, rfl, .inr hs, dk, cl, lf, _, rfl, D0, by omega, lg100 (by omega) (by omega), fun g H1 g0 g1 D1 k1 => ?_⟩
    obtain ⟨at_, rfl⟩ : ∃ n : Nat, g = (n : Int) := ⟨g.toNat, by omega⟩
    have hat0 : at_ < xs.length := by omega
    have hat : B[at_]? = some B[at_] := List.getElem?_eq_getElem (by omega)
    generalize B[at_] = r at hat
    have hb1 := (D0.ts k1).dp _ _ pB hb
    have hs1 : SqT K H1 b xs := (D0.ts k1) _ _ hs
    obtain ⟨d, ed, hdd⟩ := dpAll_get hx (List.getElem?_eq_getElem hat0)
    rw [List.getElem?_map, hat] at ed
    obtain rfl := Option.some.inj ed
    have hro := hB.row r (List.mem_of_getElem? hat)
    have pr : pl (rowD r) = true := plA_mem (pl_rows hB.row) (List.mem_map_of_mem (f := rowD) (List.mem_of_getElem? hat))
    obtain ⟨t, ho, kv, et, h1, h2, h3, h4⟩ := row_at ((D0.ts k1).dp _ _ pr hdd) (rowOk_of hro)
    rw [nameO_row] at h1
    rw [holesO_row] at h2
    rw [kdO_row] at h3
    refine ⟨.ref b, rfl, .int (at_ : Int), rfl, b, xs, (at_ : Int), xs[at_], rfl, rfl, hs1, atI_of2 rfl (List.getElem?_eq_getElem hat0), t, _, et, h1, rfl, .str r.name, _, rfl, .ref ho, [kv], rfl, kv, [], rfl, rfl, ?_⟩
    refine ⟨.ref dk, rfl, dk, cl, lf, 2, rfl, D1, by decide, by decide, fun p ns H2 hns hnd hnl np hp D2 k2 => ?_⟩
    obtain ⟨n1, n2, rfl⟩ : ∃ n1 n2, ns = [n1, n2] := by
      match ns, hnl with
      | [a, b], _ => exact ⟨a, b, rfl⟩
      | [], h => exact absurd h (by simp)
      | [_], h => exact absurd h (by simp)
      | _ :: _ :: _ :: _, h => simp at h; omega
    have hn1 := hns n1 List.mem_cons_self
    have hn2 := hns n2 (List.mem_cons_of_mem _ List.mem_cons_self)
    have hne12 : n1 ≠ n2 := by
      intro z
      rw [z] at hnd
      simp at hnd
    refine ⟨p, [.str n1, .str n2], rfl, .inl (.inl hp), rfl, .str n1, [.str n2], rfl, .str n2, [], rfl, rfl, ?_⟩
    have ts2 : TS K H1 H2 := D1.ts k2
    have hkv2 := ts2.dp _ _ (pl_D _ (wf_good _ hro.w)).1 h3
    have stay : ∀ w' : Int, (w' = 0 ∨ w' = 1 ∨ w' = 2) → tG1 K dk cl lf b B H Q { nx := fun x H' => Q V.non H', rt := Q } [some (.ref dk), some (.ref b), some (.int w'), some (.int (at_ : Int)), some (.str r.name), some (.ref ho), some kv, some (.str n1), some (.str n2), none, none, none, none, none] H2 := fun w' hw' =>
      ⟨at_, w', r, ho, kv, n1, n2, rfl, D2, k1.trans k2, ts2.dp _ _ pB hb1, hat, ts2 _ _ h2, hkv2, hn1, hn2, hne12, hw', rfl⟩
    refine ⟨.int way, rfl, rfl, _, rfl, ite2 (fun _ => ?_) (fun _ => stay way (by omega))⟩
    refine ⟨.ref ho, rfl, ho, _, rfl, .inr (ts2 _ _ h2), rfl, _, rfl, ite2 (fun _ => stay 1 (.inr (.inl rfl))) (fun _ => stay way (by omega))⟩
end
end K2
namespace K2
open PySem PySem.Spec PyProof.Rows L2 K1 K3
open TL (tl joinL)
abbrev s_law : Stmt := topS 67
abbrev nm_law : List Str := ["_law_script", "_law_deck_here", "_law_way", "_law_wide", "_law_own", "_law_book_here", "_law_kind_here", "_law_use", "_law_met", "_law_last", "_law_many", "_law_some"]
abbrev pm_law : List Str := ["_law_script"]
theorem sc_law : FnScope nm_law pm_law (defScope s_law) := ⟨rfl, rfl, rfl, by decide +kernel, rfl, by decide +kernel, by decide +kernel⟩
theorem run_ext {B : List Dc} {lim : Nat} {st found : List Kd} {r : List Kd × Option Kd} (h : Run B lim st found r) : ∃ t, r.1 = found ++ t := by
  induction h with
  | done => exact ⟨[], (List.append_nil _).symm⟩
  | skip _ _ ih => exact ih
  | stop _ _ => exact ⟨[], (List.append_nil _).symm⟩
  | @go k st found r _ _ _ _ _ ih =>
    obtain ⟨t, e⟩ := ih
    exact ⟨[k] ++ t, by rw [e, List.append_assoc]⟩
theorem run_ne {B : List Dc} {lim : Nat} {k : Kd} {met : List Kd} {l : Option Kd} (h : Run B lim [k] [] (met, l)) (h0 : 0 < lim) (hf : fm k ≤ 40) (hd : dpt k ≤ 8) : met ≠ [] := by
  cases h with
  | skip m _ => cases m
  | stop _ c => rcases c with c | c | c <;> (try simp at c) <;> omega
  | go _ _ _ _ h =>
    obtain ⟨t, e⟩ := run_ext h
    intro z
    have e' : met = ([] ++ [k]) ++ t := e
    rw [z] at e'
    cases e'
theorem atI_last {α : Type} {xs : List α} {y : α} (h : xs[xs.length - 1]? = some y) : atI xs (-1) = some y := by
  have hl : 0 < xs.length := by
    cases xs with
    | nil => cases h
    | cons _ _ => simp
  have e : ixN xs.length (-1) = some (xs.length - 1) := by
    unfold ixN
    rw [if_neg (by decide), if_pos (by omega)]
    congr 1
    omega
  unfold atI
  rw [e]
  exact h
theorem pick6 {a z : Int} {w : Int} (h0 : 0 ≤ w) (h1 : w < 6) : atI [V.int a, V.int a, V.int a, V.int a, V.int a, V.int z] w = some (.int (if w = 5 then z else a)) := by
  rcases (show w = 0 ∨ w = 1 ∨ w = 2 ∨ w = 3 ∨ w = 4 ∨ w = 5 by omega) with e | e | e | e | e | e <;> subst e <;> rfl
section
variable {P : Program} {w : World} {K : PySem.W.Frag} {mg : Str → Option Value} {base : Heap}
def sp_law (K : PySem.W.Frag) : Sp := fun vs H Q _ => ∃ (a : Addr) (ns : List Int), vs = [.ref a] ∧ SqL K H a (ns.map V.int) ∧ ns.length ≤ 63 ∧ ∀ H', Q (.bl true) H'
def t1 (K : PySem.W.Frag) (Q : VK) : L2.TS := fun D σ H => ∃ (dk cl lf b : Addr) (v : V) (B : List Dc) (k : Kd) (x0 x2 x3 x4 x7 : Option V), σ = [x0, some (.ref dk), x2, x3, x4, some (.ref b), some v, x7, none, none, none, none] ∧ Dk H dk cl lf ∧ Dp K H (.ref b) (bookD B) ∧ okB B ∧ Dp K H v (toD k) ∧ wf (hdsB B) [] k ∧ fm k ≤ 40 ∧ dpt k ≤ 8 ∧ D.rt = Q
theorem ok_law {f : Addr} {fd : FuncData} {C_BadBook C_BadKind C_TooMany f_reach : Addr} {fd_reach : FuncData} {ds_reach : List Value} (F : Fun K "law" "law" s_law f fd) (C__law_deck : Cal P w K mg base "_law_deck" pm__law_deck 1 (sp__law_deck K)) (C__law_pick : Cal P w K mg base "_law_pick" pm__law_pick 1 sp__law_pick) (C__law_book : Cal P w K mg base "_law_book" pm__law_book 12 (sp__law_book K)) (C__law_kind : Cal P w K mg base "_law_kind" psKd 11 (spK K 8)) (C__law_reach : Cal P w K mg base "_law_reach" pm__law_reach 39 (sp__law_reach K)) (C__law_heads : Cal P w K mg base "_law_heads" pm__law_heads 1 (sp__law_heads K)) (C__law_grown : Cal P w K mg base "_law_grown" pm__law_grown 4 (sp__law_grown K)) (C__law_same : Cal P w K mg base "_law_same" pm__law_same 1 (sp__law_same K)) (C__law_right : Cal P w K mg base "_law_right" pm__law_right 49 (sp__law_right K))
    (G_reach : FnOk P w K mg base (L2.CX P w) 47 f_reach fd_reach pm_reach (sp_reach K C_BadBook C_BadKind C_TooMany)) (g_reach : mg "reach" = some (.ref f_reach)) (k_reach : PySem.W.keepIn K (.ref f_reach) = true) (b_reach : Binds K fd_reach pm_reach ds_reach) (d_reach : Vals [V.int 60] ds_reach)
    (m_len : mg "len" = none) (m_tuple : mg "tuple" = none) {t_MOST_KINDS : Nat} (g_MOST_KINDS : mg "MOST_KINDS" = some (.int 60 t_MOST_KINDS)) : FnOk P w K mg base CX0 50 f fd pm_law (sp_law K) := by
  obtain ⟨f__law_deck, fd__law_deck, G__law_deck, g__law_deck, k__law_deck, b__law_deck⟩ := C__law_deck.ex
  obtain ⟨f__law_pick, fd__law_pick, G__law_pick, g__law_pick, k__law_pick, b__law_pick⟩ := C__law_pick.ex
  obtain ⟨f__law_book, fd__law_book, G__law_book, g__law_book, k__law_book, b__law_book⟩ := C__law_book.ex
  obtain ⟨f__law_kind, fd__law_kind, G__law_kind, g__law_kind, k__law_kind, b__law_kind⟩ := C__law_kind.ex
  obtain ⟨f__law_reach, fd__law_reach, G__law_reach, g__law_reach, k__law_reach, b__law_reach⟩ := C__law_reach.ex
  obtain ⟨f__law_heads, fd__law_heads, G__law_heads, g__law_heads, k__law_heads, b__law_heads⟩ := C__law_heads.ex
  obtain ⟨f__law_grown, fd__law_grown, G__law_grown, g__law_grown, k__law_grown, b__law_grown⟩ := C__law_grown.ex
  obtain ⟨f__law_same, fd__law_same, G__law_same, g__law_same, k__law_same, b__law_same⟩ := C__law_same.ex
  obtain ⟨f__law_right, fd__law_right, G__law_right, g__law_right, k__law_right, b__law_right⟩ := C__law_right.ex
  refine F.ok sc_law (fun vs H Q E h => ?_) (fun cdv A outer s H vs Q E hr h => ?_)
  · obtain ⟨a, ns, rfl, _⟩ := h
    rfl
  · obtain ⟨a, ns, rfl, hS, hlen, q⟩ := h
    have rm : ∀ {j : Nat}, j ≤ 49 → Room j (A.deeper (envOfC "law" (defScope s_law) s.heap.objs.size f cdv)) := fun hj => hr.mono hj
    refine ⟨_, pss_cons (ps_set (i := 1) sc_law.nd rfl (.inl rfl) (pe_call G__law_deck (rm (by decide)) (by rfl) g__law_deck k__law_deck b__law_deck .nil pass0 (pa_cons (pv 0) pa_nil)))
      (pss_cons (ps_set (i := 2) sc_law.nd rfl (.inl rfl) (pe_call G__law_pick (rm (by decide)) (by rfl) g__law_pick k__law_pick b__law_pick .nil pass0 (pa_cons (pv 1) (pa_cons pe_int pa_nil))))
      (pss_cons (ps_set (i := 3) sc_law.nd rfl (.inl rfl) (pe_call G__law_pick (rm (by decide)) (by rfl) g__law_pick k__law_pick b__law_pick .nil pass0 (pa_cons (pv 1) (pa_cons pe_int pa_nil))))
      (pss_cons (ps_set (i := 4) sc_law.nd rfl (.inl rfl) (pe_call G__law_pick (rm (by decide)) (by rfl) g__law_pick k__law_pick b__law_pick .nil pass0 (pa_cons (pv 1) (pa_cons pe_int pa_nil))))
      (pss_cons (ps_set (i := 5) sc_law.nd rfl (.inl rfl) (pe_call G__law_book (rm (by decide)) (by rfl) g__law_book k__law_book b__law_book .nil pass0 (pa_cons (pv 1) (pa_cons (pe_ix ix_list (pe_lst (pa_cons pe_int (pa_cons pe_int (pa_cons pe_int (pa_cons pe_int (pa_cons pe_int (pa_cons pe_int pa_nil))))))) (pv 3) (fun _ _ => rfl)) (pa_cons pe_int (pa_cons (pe_ix ix_list (pe_lst (pa_cons pe_int (pa_cons pe_int (pa_cons pe_int (pa_cons pe_int (pa_cons pe_int (pa_cons pe_int pa_nil))))))) (pv 3) (fun _ _ => rfl)) pa_nil))))))
      (pss_cons (ps_set (i := 6) sc_law.nd rfl (.inl rfl) (pe_call G__law_kind (rm (by decide)) (by rfl) g__law_kind k__law_kind b__law_kind .nil pass0 (pa_cons (pv 1) (pa_cons (pe_call G__law_heads (rm (by decide)) (by rfl) g__law_heads k__law_heads b__law_heads .nil pass0 (pa_cons (pv 5) pa_nil)) (pa_cons (pe_tup pa_nil) (pa_cons (pe_op op_add pe_int (pe_call G__law_pick (rm (by decide)) (by rfl) g__law_pick k__law_pick b__law_pick .nil pass0 (pa_cons (pv 1) (pa_cons pe_int pa_nil)))) (pa_cons (pe_ix ix_list (pe_lst (pa_cons pe_int (pa_cons pe_int (pa_cons pe_int (pa_cons pe_int (pa_cons pe_int (pa_cons pe_int pa_nil))))))) (pv 3) (fun _ _ => rfl)) pa_nil)))))))
      (pss_cons (ps_if (pt_cmpR op_lt (pv 2) pe_int (nomark _))
      (pss_cons (ps_asg (pe_call G__law_grown (rm (by decide)) (by rfl) g__law_grown k__law_grown b__law_grown .nil pass0 (pa_cons (pv 1) (pa_cons (pv 5) (pa_cons (pv 2) pa_nil)))) (pg_unl rfl (pgs_cons (pg_name (i := 5) sc_law.nd rfl (.inl rfl)) (pgs_cons (pg_name (i := 7) sc_law.nd rfl (.inl rfl)) pgs_nil))))
      (pss_one (ps_set (i := 6) sc_law.nd rfl (.inl rfl) (pe_ix ix_list (pe_lst (pa_cons (pv 6) (pa_cons (pv 7) pa_nil))) (pv 4) (fun _ _ => rfl))))) pss_nil)
      (pss_weak (t' := t1 K Q) (pss_cons (ps_if (PW.pt (pw_or (pt_cmpR op_ne (pe_glob (v := .int 60) (by rfl) g_MOST_KINDS ⟨_, rfl⟩) pe_int (nomark _)) (pw_or1 (pt_not (pt_val (pe_call G__law_right (rm (by decide)) (by rfl) g__law_right k__law_right b__law_right .nil pass0 (pa_cons (pv 5) (pa_cons (pv 6) (pa_cons pe_int pa_nil)))))))))
      (pss_one (ps_ret pe_bl)) pss_nil)
      (pss_cons (ps_asg (pe_call G__law_reach (rm (by decide)) (by rfl) g__law_reach k__law_reach b__law_reach .nil pass0 (pa_cons (pv 5) (pa_cons (pv 6) (pa_cons pe_int pa_nil)))) (pg_unl rfl (pgs_cons (pg_name (i := 8) sc_law.nd rfl (.inl rfl)) (pgs_cons (pg_name (i := 9) sc_law.nd rfl (.inl rfl)) pgs_nil))))
      (pss_cons (ps_for PassesOwn.never rfl (pi_list (pe_lst (pa_cons (pe_callB call_len_seq (by rfl) m_len PySem.boot_len (pa_cons (pv 8) pa_nil)) (pa_cons (pe_op op_sub (pe_callB call_len_seq (by rfl) m_len PySem.boot_len (pa_cons (pv 8) pa_nil)) pe_int) (pa_cons (pe_op op_add pe_int (pe_call G__law_pick (rm (by decide)) (by rfl) g__law_pick k__law_pick b__law_pick .nil pass0 (pa_cons (pv 1) (pa_cons pe_int pa_nil)))) pa_nil))))) (pg_name (i := 10) sc_law.nd rfl (.inl rfl))
      (pss_one (ps_if (PW.pt (pw_and (pt_cmpR op_gt (pv 10) pe_int (nomark _)) (pw_and1 (pt_not (pt_val (pe_call G__law_right (rm (by decide)) (by rfl) g__law_right k__law_right b__law_right .nil pass0 (pa_cons (pv 5) (pa_cons (pv 6) (pa_cons (pv 10) pa_nil)))))))))
      (pss_one (ps_ret pe_bl)) pss_nil)))
      (pss_cons (ps_asg (pe_call G__law_reach (rm (by decide)) (by rfl) g__law_reach k__law_reach b__law_reach .nil pass0 (pa_cons (pv 5) (pa_cons (pe_ix ix_list (pv 8) (pe_un un_neg pe_int) (fun _ _ => rfl)) (pa_cons pe_int pa_nil)))) (pg_unl rfl (pgs_cons (pg_name (i := 11) sc_law.nd rfl (.inl rfl)) (pgs_cons (pg_name (i := 9) sc_law.nd rfl (.inl rfl)) pgs_nil))))
      (pss_cons (ps_if (pt_cmpR op_isN (pv 9) pe_non (nomark _))
      (pss_one (ps_ret (pe_call G__law_same (rm (by decide)) (by rfl) g__law_same k__law_same b__law_same .nil pass0 (pa_cons (pe_call G_reach (rm (by decide)) (by rfl) g_reach k_reach b_reach d_reach passN (pa_cons (pv 5) (pa_cons (pe_ix ix_list (pv 8) (pe_un un_neg pe_int) (fun _ _ => rfl)) pa_nil))) (pa_cons (pe_callTy call_tuple_of (by rfl) m_tuple (by decide +kernel) (pa_cons (pv 11) pa_nil)) pa_nil))))) pss_nil)
      (pss_one (ps_ret pe_bl))))))) ?w1))))))), ?_⟩
    case w1 =>
      rintro D σ H0 ⟨dk, cl, lf, b, v, B, k, x0, x2, x3, x4, x7, rfl, D0, hb, hB, hv, hw, hf, hd, hrt⟩
      have pB : pl (bookD B) = true := pl_rows hB.row
      have pk := (pl_D k (wf_good k hw)).1
      refine ⟨rfl, _, rfl, ifQN ?_⟩
      refine ⟨.ref b, rfl, v, rfl, b, v, B, k, 60, rfl, hb, hB, hv, hw, hf, hd, by decide, by decide, fun H1 s1 => ⟨true, rfl, iteF ?_⟩⟩
      have hb1 := (ts_same s1).dp _ _ pB hb
      have hv1 := (ts_same s1).dp _ _ pk hv
      refine ⟨.ref b, rfl, v, rfl, b, v, B, k, 60, rfl, hb1, hB, hv1, ⟨hw, by omega, by omega⟩, by decide, by decide, fun met last fo lv ws r H2 hrun s2 er ef dws dl okF okL => ?_⟩
      refine ⟨r, [.ref fo, lv], rfl, .inl (.inl er), rfl, .ref fo, [lv], rfl, lv, [], rfl, rfl, ?_⟩
      have hwl := dpAll_len dws
      rw [List.length_map] at hwl
      obtain ⟨hml, hsmall⟩ := run_small hrun (Nat.zero_le _) (fun _ h => nomatch h)
      have hml' : met.length ≤ 60 := hml
      have hne := run_ne hrun (by decide) hf hd
      have s12 := s1.trans s2
      have D2 := D0.same s12
      refine ⟨.ref fo, rfl, fo, _, rfl, .inl (.inl (.inl ef)), .ref fo, rfl, fo, _, rfl, .inl (.inl (.inl ef)), _, _, rfl, rfl, .ref dk, rfl, dk, cl, lf, 60, rfl, D2, by decide, by decide +kernel, fun c H3 c0 c1 D3 k3 => ⟨_, _, rfl, rfl, (by show 3 ≤ sizeLine; decide), fun l5 n5 => ?_⟩⟩
      have s5 : Same H3 (upd H3 l5 (.lst [.int (ws.length : Nat), .int ((ws.length : Nat) - 1), .int (1 + c)])) := same_upd n5
      have e5 : (upd H3 l5 (.lst [.int (ws.length : Nat), .int ((ws.length : Nat) - 1), .int (1 + c)])) l5 = some (.lst [.int (ws.length : Nat), .int ((ws.length : Nat) - 1), .int (1 + c)]) := upd_same
      generalize upd H3 l5 (HO.lst [V.int (ws.length : Nat), V.int ((ws.length : Nat) - 1), V.int (1 + c)]) = H5 at s5 e5 ⊢
      have t25 : TS K H2 H5 := (D2.ts k3).trans (ts_same s5)
      have pW := run_sz hrun (by decide) (fun c hc => wf_good c (okF c hc).w)
      have hb5 := t25.dp _ _ pB ((ts_same s2).dp _ _ pB hb1)
      have hv5 := t25.dp _ _ pk ((ts_same s2).dp _ _ pk hv1)
      have gF : ∀ c ∈ met, good c := fun c hc => wf_good c (okF c hc).w
      -- the list of what is met stays: it may be none of the deck's
      have hfo : fo ≠ dk ∧ fo ≠ lf := by
        refine ⟨fun z => ?_, fun z => ?_⟩
        · obtain ⟨⟨cells, lefts, n, e1, e2, e3, hl1, hl2, hl3, hl4⟩, hcl⟩ := D2
          rw [z, e1] at ef
          injection ef with ef
          injection ef with ef
          rw [← ef] at dws
          cases met with
          | nil => exact hne rfl
          | cons m1 mt =>
          cases mt with
          | nil => simp at hwl; rw [← ef] at hwl; simp at hwl
          | cons m2 mt =>
            rw [List.map_cons, List.map_cons] at dws
            cases dws with
            | cons _ dws =>
              cases dws with
              | cons h _ =>
                obtain ⟨ds, e⟩ := toD_tuple m2
                rw [e] at h
                cases h
        · obtain ⟨⟨cells, lefts, n, e1, e2, e3, hl1, hl2, hl3, hl4⟩, hcl⟩ := D2
          rw [z, e3] at ef
          injection ef with ef
          injection ef with ef
          rw [← ef] at dws
          cases met with
          | nil => exact hne rfl
          | cons m1 mt =>
            rw [List.map_cons] at dws
            cases hL : lefts with
            | nil =>
              rw [hL] at hl1
              have h0 : cells.length = 0 := hl1
              omega
            | cons l1 lt =>
              rw [hL] at dws
              cases dws with
              | cons h _ =>
                obtain ⟨ds, e⟩ := toD_tuple m1
                rw [e] at h
                cases h
      have ef3 : H3 fo = some (.lst ws) := k3 _ _ hfo.1 hfo.2 ef
      have ef5 := s5 _ _ ef3
      have dws5 := t25.dps _ _ (pl_kds gF) dws
      refine ⟨l5, rfl, ⟨_, .inl (.inl e5)⟩, for_list (xs := [V.int (ws.length : Nat), V.int ((ws.length : Nat) - 1), V.int (1 + c)]) (fun i σ H' => ∃ x10 : Option V, σ = [x0, some (.ref dk), x2, x3, x4, some (.ref b), some v, x7, some (.ref fo), some lv, x10, none] ∧ Same H5 H')
        ⟨none, rfl, Same.refl _⟩ (fun i σ H' _ hP => ?_) (fun i x σ H' hx hP => ?_) (fun σ H' hP => ?_)⟩
      · obtain ⟨_, _, s'⟩ := hP
        exact .inl (.inl (s' _ _ e5))
      · obtain ⟨x10, rfl, s'⟩ := hP
        obtain ⟨z, rfl, hz⟩ : ∃ z : Int, V.int z = x ∧ z ≤ 1000 := by
          have hi := (List.getElem?_eq_some_iff.mp hx).1
          have hi' : i < 3 := hi
          rcases (show i = 0 ∨ i = 1 ∨ i = 2 by omega) with e | e | e
          · subst e; exact ⟨_, Option.some.inj hx, by omega⟩
          · subst e; exact ⟨_, Option.some.inj hx, by omega⟩
          · subst e; exact ⟨_, Option.some.inj hx, by omega⟩
        refine ⟨.int z, rfl, _, _, rfl, rfl, _, rfl, ite2 (fun hz0 => ?_) (fun _ => ⟨_, rfl, s'⟩)⟩
        have hz1 : (0 : Int) < z := of_decide_eq_true hz0
        obtain ⟨n, rfl⟩ : ∃ n : Nat, z = (n : Int) := ⟨z.toNat, by omega⟩
        refine ⟨.ref b, rfl, v, rfl, .int (n : Int), rfl, b, v, B, k, n, rfl, (ts_same s').dp _ _ pB hb5, hB, (ts_same s').dp _ _ pk hv5, hw, hf, hd, by omega, by omega, fun H6 s6 => ⟨true, rfl, iteF ⟨_, rfl, s'.trans s6⟩⟩⟩
      · obtain ⟨x10, rfl, s'⟩ := hP
        have efL := s' _ _ ef5
        have dwsL := (ts_same s').dps _ _ (pl_kds gF) dws5
        have hbL := (ts_same s').dp _ _ pB hb5
        have hwpos : 0 < ws.length := by
          rw [hwl]
          exact List.length_pos_iff.mpr hne
        have hy : ws[ws.length - 1]? = some ws[ws.length - 1] := List.getElem?_eq_getElem (by omega)
        obtain ⟨dd, edd, hdy⟩ := dpAll_get dwsL hy
        rw [List.getElem?_map] at edd
        have hkl : met[ws.length - 1]? = some (met[ws.length - 1]'(by omega)) := List.getElem?_eq_getElem (by omega)
        rw [hkl] at edd
        obtain rfl := Option.some.inj edd
        have hkm : met[ws.length - 1]'(by omega) ∈ met := List.getElem_mem _
        generalize met[ws.length - 1]'(by omega) = kl at hkm hdy
        generalize ws[ws.length - 1] = y at hy hdy
        have okl := okF kl hkm
        obtain ⟨fl40, dl8⟩ := hsmall kl hkm
        have pl' := (pl_D kl (wf_good kl okl.w)).1
        refine ⟨.ref b, rfl, .ref fo, rfl, 1, rfl, fo, ws, -1, y, rfl, rfl, .inl (.inl efL), atI_last hy, b, y, B, kl, 60, rfl, hbL, hB, hdy, okl, by decide, by decide, fun some2 last2 fo2 lv2 ws2 r2 H6 hrun2 s6 er2 ef2 dws2 dl2 okF2 okL2 => ?_⟩
        refine ⟨r2, [.ref fo2, lv2], rfl, .inl (.inl er2), rfl, .ref fo2, [lv2], rfl, lv2, [], rfl, rfl, ?_⟩
        have gF2 : ∀ c ∈ some2, good c := fun c hc => wf_good c (okF2 c hc).w
        obtain ⟨p2, z2⟩ := run_sz hrun2 (by decide) gF2
        cases last2 with
        | some c2 =>
          have dl2' : Dp K H6 lv2 (toD c2) := dl2
          have nl : lv2 ≠ .non := fun z => by
            have := (non_iff dl2').mp z
            obtain ⟨ds, e⟩ := toD_tuple c2
            rw [e] at this
            cases this
          refine ⟨lv2, rfl, rfl, _, rfl, cF (fun z => nl (of_decide_eq_true z)) ?_⟩
          show D.rt (.bl true) _
          rw [hrt]
          exact q _
        | none =>
          have dl2' : lv2 = .non := dl2
          subst dl2'
          refine ⟨.non, rfl, rfl, _, rfl, cT (decide_eq_true rfl) ?_⟩
          refine ⟨.ref b, rfl, .ref fo, rfl, 1, rfl, fo, ws, -1, y, rfl, rfl, .inl (.inl (s6 _ _ efL)), atI_last hy, b, y, B, kl, 60, rfl, (ts_same s6).dp _ _ pB hbL, hB, (ts_same s6).dp _ _ pl' hdy, okl.w, fl40, dl8, by decide, by decide, fun found3 r3 H7 hrun3 s7 d7 ok7 => ?_, fun found3 k' dd kv H7 hrun3 s7 e7 d7 ok7 => ?_⟩
          · have he := hrun2.det hrun3
            cases he
            refine ⟨.ref fo2, rfl, fo2, ws2, rfl, .inl ⟨.inl (.inl (s7 _ _ ef2)), fun tu ntu => ?_⟩⟩
            have s8 := same_upd (o := HO.tup ws2) ntu
            refine ⟨.ref r3, .ref tu, _, .tuple (some2.map toD), rfl, (ts_same s8).dp _ _ p2 d7, .tup (.inl (.inl upd_same)) ((ts_same (s7.trans s8)).dps _ _ (pl_kds gF2) dws2), p2, p2, z2, z2, fun H9 s9 => ?_⟩
            rw [eqB_true rfl, hrt]
            exact q _
          · have he := hrun2.det hrun3
            cases he
    refine ⟨.ref a, rfl, a, ns, rfl, hS, hlen, fun dk cl lf H1 D1 s1 _ _ => ?_⟩
    refine ⟨.ref dk, rfl, dk, cl, lf, 9, rfl, D1, by decide, by decide +kernel, fun way H2 w0 w1 D2 k2 => ?_⟩
    refine ⟨.ref dk, rfl, dk, cl, lf, 6, rfl, D2, by decide, by decide +kernel, fun wide H3 v0 v1 D3 k3 => ?_⟩
    refine ⟨.ref dk, rfl, dk, cl, lf, 2, rfl, D3, by decide, by decide +kernel, fun own H4 o0 o1 D4 k4 => ?_⟩
    refine ⟨.ref dk, rfl, (by show 6 ≤ sizeLine; decide), fun l1 n1 => ?_⟩
    have s5 : Same H4 (upd H4 l1 (.lst [.int 5, .int 5, .int 5, .int 5, .int 5, .int 12])) := same_upd n1
    have e5 : (upd H4 l1 (.lst [.int 5, .int 5, .int 5, .int 5, .int 5, .int 12])) l1 = some (.lst [.int 5, .int 5, .int 5, .int 5, .int 5, .int 12]) := upd_same
    generalize upd H4 l1 (HO.lst [V.int 5, V.int 5, V.int 5, V.int 5, V.int 5, V.int 12]) = H5 at s5 e5 ⊢
    refine ⟨.int wide, rfl, l1, _, wide, _, rfl, rfl, .inl (.inl e5), pick6 v0 v1, (by show 6 ≤ sizeLine; decide), fun l2 n2 => ?_⟩
    have s6 : Same H5 (upd H5 l2 (.lst [.int 8, .int 8, .int 8, .int 8, .int 8, .int 30])) := same_upd n2
    have e6 : (upd H5 l2 (.lst [.int 8, .int 8, .int 8, .int 8, .int 8, .int 30])) l2 = some (.lst [.int 8, .int 8, .int 8, .int 8, .int 8, .int 30]) := upd_same
    generalize upd H5 l2 (HO.lst [V.int 8, V.int 8, V.int 8, V.int 8, V.int 8, V.int 30]) = H6 at s6 e6 ⊢
    have D6 := D4.same (s5.trans s6)
    have b1 : (0 : Int) < (if wide = 5 then 12 else 5) ∧ (if wide = 5 then (12 : Int) else 5) ≤ 12 := by split <;> decide
    have b2 : (0 : Int) < (if wide = 5 then 30 else 8) ∧ (if wide = 5 then (30 : Int) else 8) ≤ 30 := by split <;> decide
    have b3 : (0 : Int) < (if wide = 5 then 36 else 12) ∧ (if wide = 5 then (36 : Int) else 12) ≤ 36 := by split <;> decide
    refine ⟨.int wide, rfl, l2, _, wide, _, rfl, rfl, .inl (.inl e6), pick6 v0 v1, dk, cl, lf, _, 5, _, rfl, D6, b1, by decide, ⟨b2.1, by omega⟩, fun b B H7 hB hne hlen7 hsm D7 k7 hb => ?_⟩
    have pB : pl (bookD B) = true := pl_rows hB.row
    refine ⟨.ref dk, rfl, .ref b, rfl, b, B, rfl, hb, hB, fun p H8 us s8 np hp hul hpr => ?_⟩
    have npd := D7.not np
    refine ⟨Nat.zero_le _, fun te nte => ?_⟩
    have s9 : Same H8 (upd H8 te (.tup [])) := same_upd nte
    have e9 : (upd H8 te (.tup [])) te = some (.tup []) := upd_same
    generalize upd H8 te (HO.tup []) = H9 at s9 e9 ⊢
    have D9 := D7.same (s8.trans s9)
    refine ⟨.ref dk, rfl, dk, cl, lf, 6, rfl, D9, by decide, by decide +kernel, fun c Ha c0 c1 Da ka => ⟨_, _, rfl, rfl, (by show 6 ≤ sizeLine; decide), fun l3 n3 => ?_⟩⟩
    have sb : Same Ha (upd Ha l3 (.lst [.int 12, .int 12, .int 12, .int 12, .int 12, .int 36])) := same_upd n3
    have eb : (upd Ha l3 (.lst [.int 12, .int 12, .int 12, .int 12, .int 12, .int 36])) l3 = some (.lst [.int 12, .int 12, .int 12, .int 12, .int 12, .int 36]) := upd_same
    generalize upd Ha l3 (HO.lst [V.int 12, V.int 12, V.int 12, V.int 12, V.int 12, V.int 36]) = Hb at sb eb ⊢
    have Db := Da.same sb
    have k9b : KD dk lf H9 Hb := ka.trans (KD.of_same sb)
    have t9b : TS K H9 Hb := D9.ts k9b
    refine ⟨.int wide, rfl, l3, _, wide, _, rfl, rfl, .inl (.inl eb), pick6 v0 v1, dk, cl, lf, p, te, 1 + c, _, hdsB B, [], rfl, Db, ⟨⟨us, k9b _ _ npd.1 npd.2.2 (s9 _ _ hp), hul, hd1_ts ((ts_same s9).trans t9b) hpr⟩, npd.1, npd.2.2, hdsB_lk hB⟩, t9b _ _ (.inl (.inl e9)), (fun _ h => nomatch h), Nat.zero_le _, (by show 1 + c ≤ ((7 + 1 : Nat) : Int); omega), by omega, fun v k Hc Dc kc hv hw hd hf => ?_⟩
    have hbc := (t9b.trans (Db.ts kc)).dp _ _ pB ((ts_same (s8.trans s9)).dp _ _ pB hb)
    refine ⟨.int way, rfl, _, _, rfl, rfl, _, rfl, ite2 (fun hz => ?_) (fun _ => ⟨dk, cl, lf, b, v, B, k, _, _, _, _, _, rfl, Dc, hbc, hB, hv, hw, by omega, by omega, rfl⟩)⟩
    have hway : way < 3 := of_decide_eq_true hz
    refine ⟨.ref dk, rfl, .ref b, rfl, .int way, rfl, dk, cl, lf, b, B, way, rfl, Dc, hbc, hB, hne, (fun r hr => by have := hsm r hr; omega), w0, hway, fun r b2' v2 B2 k2' Hd Dd kd er hb2 hB2 hh hv2 hw2 hf2 hd2 => ?_⟩
    refine ⟨r, [.ref b2', v2], rfl, .inl (.inl er), rfl, .ref b2', [v2], rfl, v2, [], rfl, rfl, ?_⟩
    have hvd := (Dc.ts kd).dp _ _ (pl_D k (wf_good k hw)).1 hv
    refine ⟨v, rfl, v2, rfl, (by show 2 ≤ sizeLine; decide), fun l4 n4 => ?_⟩
    have se : Same Hd (upd Hd l4 (.lst [v, v2])) := same_upd n4
    have ee : (upd Hd l4 (.lst [v, v2])) l4 = some (.lst [v, v2]) := upd_same
    generalize upd Hd l4 (HO.lst [v, v2]) = He at se ee ⊢
    have De := Dd.same se
    have pB2 : pl (bookD B2) = true := pl_rows hB2.row
    obtain ⟨y, ky, hy, hyd, hyw, hyf, hyp⟩ : ∃ (y : V) (ky : Kd), atI [v, v2] own = some y ∧ Dp K He y (toD ky) ∧ wf (hdsB B2) [] ky ∧ fm ky ≤ 40 ∧ dpt ky ≤ 8 := by
      rcases (show own = 0 ∨ own = 1 by omega) with e | e
      · subst e
        exact ⟨_, k, rfl, (ts_same se).dp _ _ (pl_D k (wf_good k hw)).1 hvd, by rw [hh]; exact hw, by omega, by omega⟩
      · subst e
        exact ⟨_, k2', rfl, (ts_same se).dp _ _ (pl_D k2' (wf_good k2' hw2)).1 hv2, hw2, hf2, hd2⟩
    refine ⟨.int own, rfl, l4, _, own, y, rfl, rfl, .inl (.inl ee), hy, ?_⟩
    exact ⟨dk, cl, lf, b2', y, B2, ky, _, _, _, _, _, rfl, De, (ts_same se).dp _ _ pB2 hb2, hB2, hyd, hyw, hyf, hyp, rfl⟩
end
end K2
namespace K3
open PySem PySem.Spec PyProof.Rows L2 K1
/-! ### what the top has written -/
theorem cls_of {K : PySem.W.Frag} {D S : Addr} {b : Bool} (h2 : PySem.W.isClsIn K S = true) (h3 : PySem.W.typeIn K (.ref S) = some (.type "type")) (h4 : PySem.W.subIn K (.ref D) (.ref S) = some b) : PySem.W.kitCls K (.ref D) (.ref S) = some b := by
  have e2 : ((PySem.W.clsIn K S).isSome && PySem.W.typeIn K (.ref S) == some (.type "type")) = true := by
    have h2' : (PySem.W.clsIn K S).isSome = true := h2
    rw [h2', h3] <;> rfl
  show (if ((PySem.W.clsIn K S).isSome && PySem.W.typeIn K (.ref S) == some (.type "type")) = true then PySem.W.subIn K (.ref D) (.ref S) else none) = some b
  rw [if_pos e2]
  exact h4
theorem exm_of {K : PySem.W.Frag} {D S : Addr} {b : Bool} (h1 : PySem.W.subIn K (.ref S) (.type "BaseException") = some true) (h2 : PySem.W.isClsIn K S = true) (h3 : PySem.W.typeIn K (.ref S) = some (.type "type")) (h4 : PySem.W.subIn K (.ref D) (.ref S) = some b) :
    PySem.W.exmOne K (.ref D) (.ref S) = some b := by
  have e1 : (PySem.W.subIn K (.ref S) (.type "BaseException") == some true) = true := by rw [h1] <;> rfl
  show (if (PySem.W.subIn K (.ref S) (.type "BaseException") == some true) = true then PySem.W.kitCls K (.ref D) (.ref S) else none) = some b
  rw [if_pos e1]
  exact cls_of h2 h3 h4
theorem kone_of {K : PySem.W.Frag} {D S : Addr} {b : Bool} (h2 : PySem.W.isClsIn K S = true) (h3 : PySem.W.typeIn K (.ref S) = some (.type "type")) (h4 : PySem.W.subIn K (.ref D) (.ref S) = some b) (hn : (D == S) = false) : PySem.W.kitOne K (.ref D) (.ref S) = some b := by
  have e : ((Value.ref D == Value.ref S) = true) ↔ (D == S) = true := by simp
  show (if (Value.ref D == Value.ref S) = true then some true else PySem.W.kitCls K (.ref D) (.ref S)) = some b
  rw [if_neg (fun z => by rw [e.mp z] at hn; cases hn)]
  exact cls_of h2 h3 h4
theorem kany_none {K : PySem.W.Frag} {t : Value} : ∀ cs : List Value, (∀ c ∈ cs, PySem.W.kitOne K t c = some false) → PySem.W.kitAny K t cs = some false
  | [], _ => rfl
  | c :: r, h => by
    show (match PySem.W.kitOne K t c with | some true => some true | some false => PySem.W.kitAny K t r | none => none) = some false
    rw [h c List.mem_cons_self]
    exact kany_none r fun d hd => h d (List.mem_cons_of_mem _ hd)
theorem all_mk {l : PySem.W.OpenLaw} {w : World} {K : PySem.W.Frag} {h : Heap} {mg : Str → Option Value} {fa a_PART_WORDS a_LENGTHS C_PackError C_Endless C_TooGreat C_BadBook N_BadBook f1 C_BadKind N_BadKind f2 C_TooMany N_TooMany f3 C_Look f4 f5 f6 f7 f8 f9 f10 f11 f12 f13 f14 f15 f16 f17 f18 f19 f20 f21 f22 f23 f24 f25 f26 f27 f28 f29 DK f30 f31 f32 f33 f34 f35 f36 f37 f38 f39 f40 f41 f42 f43 f44 f45 f46 f47 : Addr} (X : K.In h) (G : h.Ns mainGlobals mg) (hfa : mg "law" = some (.ref fa))
    {nm_BadBook q_BadBook : Str} {bs_BadBook sub_BadBook : List Value} {sn_BadBook : List Str} {ab_BadBook : Bool} {col_BadBook : Option Bool} {dd_BadBook : Option Addr} {m0_BadBook m1_BadBook m2_BadBook m3_BadBook m5_BadBook : Option Value} {nm_BadKind q_BadKind : Str} {bs_BadKind sub_BadKind : List Value} {sn_BadKind : List Str} {ab_BadKind : Bool} {col_BadKind : Option Bool} {dd_BadKind : Option Addr} {m0_BadKind m1_BadKind m2_BadKind m3_BadKind m5_BadKind : Option Value} {nm_TooMany q_TooMany : Str} {bs_TooMany sub_TooMany : List Value} {sn_TooMany : List Str} {ab_TooMany : Bool} {col_TooMany : Option Bool} {dd_TooMany : Option Addr} {m0_TooMany m1_TooMany m2_TooMany m3_TooMany m5_TooMany : Option Value} {odg_PART_WORDS od1 an1 od2 an2 od3 an3 od4 an4 od5 an5 od6 an6 od7 an7 od8 an8 od9 an9 od10 an10 od11 an11 od12 an12 od13 an13 od14 an14 od15 an15 od16 an16 od17 an17 od18 an18 od19 an19 od20 an20 od21 an21 od22 an22 od23 an23 od24 an24 od25 an25 od26 an26 od27 an27 od28 an28 od29 an29 od30 an30 od31 an31 od32 an32 od33 an33 od34 an34 od35 an35 od36 an36 od37 an37 od38 an38 od39 an39 od40 an40 od41 an41 od42 an42 od43 an43 od44 an44 od45 an45 od46 an46 od47 an47 : Option Addr} {slg_PART_WORDS sl1 sl2 sl3 sl4 sl5 sl6 sl7 sl8 sl9 sl10 sl11 sl12 sl13 sl14 sl15 sl16 sl17 sl18 sl19 sl20 sl21 sl22 sl23 sl24 sl25 sl26 sl27 sl28 sl29 sl30 sl31 sl32 sl33 sl34 sl35 sl36 sl37 sl38 sl39 sl40 sl41 sl42 sl43 sl44 sl45 sl46 sl47 : Array (Option Value)} {oc1 kV1 dc1 pm1 cd1 ct1 oc2 kV2 dc2 pm2 cd2 ct2 oc3 kV3 dc3 pm3 cd3 ct3 oc4 kV4 dc4 pm4 cd4 ct4 oc5 kV5 dc5 pm5 cd5 ct5 oc6 kV6 dc6 pm6 cd6 ct6 oc7 kV7 dc7 pm7 cd7 ct7 oc8 kV8 dc8 pm8 cd8 ct8 oc9 kV9 dc9 pm9 cd9 ct9 oc10 kV10 dc10 pm10 cd10 ct10 oc11 kV11 dc11 pm11 cd11 ct11 oc12 kV12 dc12 pm12 cd12 ct12 oc13 kV13 dc13 pm13 cd13 ct13 oc14 kV14 dc14 pm14 cd14 ct14 oc15 kV15 dc15 pm15 cd15 ct15 oc16 kV16 dc16 pm16 cd16 ct16 oc17 kV17 dc17 pm17 cd17 ct17 oc18 kV18 dc18 pm18 cd18 ct18 oc19 kV19 dc19 pm19 cd19 ct19 oc20 kV20 dc20 pm20 cd20 ct20 oc21 kV21 dc21 pm21 cd21 ct21 oc22 kV22 dc22 pm22 cd22 ct22 oc23 kV23 dc23 pm23 cd23 ct23 oc24 kV24 dc24 pm24 cd24 ct24 oc25 kV25 dc25 pm25 cd25 ct25 oc26 kV26 dc26 pm26 cd26 ct26 oc27 kV27 dc27 pm27 cd27 ct27 oc28 kV28 dc28 pm28 cd28 ct28 oc29 dc29 pm29 cd29 ct29 oc30 kV30 dc30 pm30 cd30 ct30 oc31 kV31 dc31 pm31 cd31 ct31 oc32 kV32 dc32 pm32 cd32 ct32 oc33 kV33 dc33 pm33 cd33 ct33 oc34 kV34 dc34 pm34 cd34 ct34 oc35 kV35 dc35 pm35 cd35 ct35 oc36 kV36 dc36 pm36 cd36 ct36 oc37 kV37 dc37 pm37 cd37 ct37 oc38 kV38 dc38 pm38 cd38 ct38 oc39 kV39 dc39 pm39 cd39 ct39 oc40 kV40 dc40 pm40 cd40 ct40 oc41 kV41 dc41 pm41 cd41 ct41 oc42 kV42 dc42 pm42 cd42 ct42 oc43 kV43 dc43 pm43 cd43 ct43 oc44 kV44 dc44 pm44 cd44 ct44 oc45 kV45 dc45 pm45 cd45 ct45 oc46 kV46 dc46 pm46 cd46 ct46 oc47 kV47 dc47 pm47 cd47 ct47 : Value} {tw0_PART_WORDS tw1_PART_WORDS nn_PART_WORDS t_MOST_LETTERS t_LETTERS t_MOST_DEPTH t_MOST_FORMS tk0_LENGTHS tv0_LENGTHS tk1_LENGTHS tv1_LENGTHS tk2_LENGTHS tv2_LENGTHS tk3_LENGTHS tv3_LENGTHS tk4_LENGTHS tv4_LENGTHS tk5_LENGTHS tv5_LENGTHS tk6_LENGTHS tv6_LENGTHS tk7_LENGTHS tv7_LENGTHS tk8_LENGTHS tv8_LENGTHS tk9_LENGTHS tv9_LENGTHS nn_LENGTHS t_MOST_BITS t_MOST_MANY t_MOST_PARTS t_MOST_HOLES t_MOST_DECLARATIONS t_MOST_KINDS tDK : Nat}
    (ag_PART_WORDS : PySem.W.nsIn K mainGlobals "PART_WORDS" = some (some (.ref a_PART_WORDS)))
    (lg_PART_WORDS : K.lookup a_PART_WORDS = some ⟨.type "tuple", odg_PART_WORDS, .seq #[.str (Str.ofString "record") tw0_PART_WORDS, .str (Str.ofString "variant") tw1_PART_WORDS] nn_PART_WORDS, slg_PART_WORDS⟩)
    (ag_MOST_LETTERS : PySem.W.nsIn K mainGlobals "MOST_LETTERS" = some (some (.int 12 t_MOST_LETTERS)))
    (ag_LETTERS : PySem.W.nsIn K mainGlobals "LETTERS" = some (some (.str (Str.ofString "abcdefghijklmnopqrstuvwxyz") t_LETTERS)))
    (ag_MOST_DEPTH : PySem.W.nsIn K mainGlobals "MOST_DEPTH" = some (some (.int 8 t_MOST_DEPTH)))
    (ag_MOST_FORMS : PySem.W.nsIn K mainGlobals "MOST_FORMS" = some (some (.int 40 t_MOST_FORMS)))
    (ag_LENGTHS : PySem.W.nsIn K mainGlobals "LENGTHS" = some (some (.ref a_LENGTHS)))
    (lg_LENGTHS : K.lookup a_LENGTHS = some ⟨.type "dict", none, .dict #[⟨PyData.keyHash w.params (Str.ofString "nat"), .str (Str.ofString "nat") tk0_LENGTHS, .int 2 tv0_LENGTHS⟩, ⟨PyData.keyHash w.params (Str.ofString "int"), .str (Str.ofString "int") tk1_LENGTHS, .int 2 tv1_LENGTHS⟩, ⟨PyData.keyHash w.params (Str.ofString "truth"), .str (Str.ofString "truth") tk2_LENGTHS, .int 1 tv2_LENGTHS⟩, ⟨PyData.keyHash w.params (Str.ofString "record"), .str (Str.ofString "record") tk3_LENGTHS, .int 2 tv3_LENGTHS⟩, ⟨PyData.keyHash w.params (Str.ofString "variant"), .str (Str.ofString "variant") tk4_LENGTHS, .int 2 tv4_LENGTHS⟩, ⟨PyData.keyHash w.params (Str.ofString "row"), .str (Str.ofString "row") tk5_LENGTHS, .int 3 tv5_LENGTHS⟩, ⟨PyData.keyHash w.params (Str.ofString "maybe"), .str (Str.ofString "maybe") tk6_LENGTHS, .int 2 tv6_LENGTHS⟩, ⟨PyData.keyHash w.params (Str.ofString "box"), .str (Str.ofString "box") tk7_LENGTHS, .int 2 tv7_LENGTHS⟩, ⟨PyData.keyHash w.params (Str.ofString "use"), .str (Str.ofString "use") tk8_LENGTHS, .int 3 tv8_LENGTHS⟩, ⟨PyData.keyHash w.params (Str.ofString "hole"), .str (Str.ofString "hole") tk9_LENGTHS, .int 2 tv9_LENGTHS⟩] nn_LENGTHS, #[]⟩)
    (wg_LENGTHS : (a_LENGTHS == sysModules) = false)
    (ag_MOST_BITS : PySem.W.nsIn K mainGlobals "MOST_BITS" = some (some (.int 64 t_MOST_BITS)))
    (ag_MOST_MANY : PySem.W.nsIn K mainGlobals "MOST_MANY" = some (some (.int 16 t_MOST_MANY)))
    (ag_MOST_PARTS : PySem.W.nsIn K mainGlobals "MOST_PARTS" = some (some (.int 8 t_MOST_PARTS)))
    (ag_MOST_HOLES : PySem.W.nsIn K mainGlobals "MOST_HOLES" = some (some (.int 3 t_MOST_HOLES)))
    (ag_MOST_DECLARATIONS : PySem.W.nsIn K mainGlobals "MOST_DECLARATIONS" = some (some (.int 12 t_MOST_DECLARATIONS)))
    (ag_MOST_KINDS : PySem.W.nsIn K mainGlobals "MOST_KINDS" = some (some (.int 60 t_MOST_KINDS)))
    (aC_PackError : PySem.W.nsIn K mainGlobals "PackError" = some (some (.ref C_PackError)))
    (iC_PackError : PySem.W.isClsIn K C_PackError = true)
    (tC_PackError : PySem.W.typeIn K (.ref C_PackError) = some (.type "type"))
    (eC_PackError : PySem.W.subIn K (.ref C_PackError) (.type "BaseException") = some true)
    (aC_Endless : PySem.W.nsIn K mainGlobals "Endless" = some (some (.ref C_Endless)))
    (iC_Endless : PySem.W.isClsIn K C_Endless = true)
    (tC_Endless : PySem.W.typeIn K (.ref C_Endless) = some (.type "type"))
    (eC_Endless : PySem.W.subIn K (.ref C_Endless) (.type "BaseException") = some true)
    (aC_TooGreat : PySem.W.nsIn K mainGlobals "TooGreat" = some (some (.ref C_TooGreat)))
    (iC_TooGreat : PySem.W.isClsIn K C_TooGreat = true)
    (tC_TooGreat : PySem.W.typeIn K (.ref C_TooGreat) = some (.type "type"))
    (eC_TooGreat : PySem.W.subIn K (.ref C_TooGreat) (.type "BaseException") = some true)
    (aC_BadBook : PySem.W.nsIn K mainGlobals "BadBook" = some (some (.ref C_BadBook)))
    (x_BadBook : K.lookup C_BadBook = some (excClassObj nm_BadBook q_BadBook C_BadBook N_BadBook bs_BadBook [.ref C_PackError, .type "ValueError", .type "Exception", .type "BaseException", .type "object"] true sn_BadBook sub_BadBook ab_BadBook col_BadBook dd_BadBook m0_BadBook m1_BadBook m2_BadBook m3_BadBook m5_BadBook "ValueError.__new__"))
    (sa_BadBook : PySem.W.findIn K (.ref C_BadBook) "__setattr__" = some (some (.builtin "object.__setattr__")))
    (ga_BadBook : PySem.W.findIn K (.ref C_BadBook) "__getattribute__" = some (some (.builtin "BaseException.__getattribute__")))
    (gg_BadBook : PySem.W.findIn K (.ref C_BadBook) "__getattr__" = some none)
    (kC_BadBook : PySem.W.keepIn K (.ref C_BadBook) = true)
    (eC_BadBook : PySem.W.subIn K (.ref C_BadBook) (.type "BaseException") = some true)
    (tC_BadBook : PySem.W.typeIn K (.ref C_BadBook) = some (.type "type"))
    (hC_BadBook : PySem.W.hasDictIn K C_BadBook = true)
    (iC_BadBook : PySem.W.isClsIn K C_BadBook = true)
    (ca_BadBook : PySem.W.findIn K (.ref C_BadBook) "__class__" = some (some (.builtin "object.__class__")))
    (mr_BadBook : PySem.W.mroIn K C_BadBook (.type "object") = some true)
    (n_BadBook_place : PySem.W.findIn K (.ref C_BadBook) "place" = some none)
    (n_BadBook_why : PySem.W.findIn K (.ref C_BadBook) "why" = some none)
    (a1 : PySem.W.findIn K (.ref C_BadBook) "__init__" = some (some (.ref f1)))
    (l1 : K.lookup f1 = some ⟨oc1, od1, .func (PySem.W.fnOf "__init__" "BadBook.__init__" (defArgs s_BadBookI) (defBody s_BadBookI) (defScope s_BadBookI) .none kV1 dc1 pm1 an1 cd1 ct1), sl1⟩)
    (c1 : PySem.W.codeIn K cd1 "BadBook.__init__" = true)
    (k1 : PySem.W.keepIn K (.ref f1) = true)
    (y1 : PySem.W.typeIn K (.ref f1) = some (.type "function"))
    (aC_BadKind : PySem.W.nsIn K mainGlobals "BadKind" = some (some (.ref C_BadKind)))
    (x_BadKind : K.lookup C_BadKind = some (excClassObj nm_BadKind q_BadKind C_BadKind N_BadKind bs_BadKind [.ref C_PackError, .type "ValueError", .type "Exception", .type "BaseException", .type "object"] true sn_BadKind sub_BadKind ab_BadKind col_BadKind dd_BadKind m0_BadKind m1_BadKind m2_BadKind m3_BadKind m5_BadKind "ValueError.__new__"))
    (sa_BadKind : PySem.W.findIn K (.ref C_BadKind) "__setattr__" = some (some (.builtin "object.__setattr__")))
    (ga_BadKind : PySem.W.findIn K (.ref C_BadKind) "__getattribute__" = some (some (.builtin "BaseException.__getattribute__")))
    (gg_BadKind : PySem.W.findIn K (.ref C_BadKind) "__getattr__" = some none)
    (kC_BadKind : PySem.W.keepIn K (.ref C_BadKind) = true)
    (eC_BadKind : PySem.W.subIn K (.ref C_BadKind) (.type "BaseException") = some true)
    (tC_BadKind : PySem.W.typeIn K (.ref C_BadKind) = some (.type "type"))
    (hC_BadKind : PySem.W.hasDictIn K C_BadKind = true)
    (iC_BadKind : PySem.W.isClsIn K C_BadKind = true)
    (ca_BadKind : PySem.W.findIn K (.ref C_BadKind) "__class__" = some (some (.builtin "object.__class__")))
    (mr_BadKind : PySem.W.mroIn K C_BadKind (.type "object") = some true)
    (n_BadKind_place : PySem.W.findIn K (.ref C_BadKind) "place" = some none)
    (n_BadKind_why : PySem.W.findIn K (.ref C_BadKind) "why" = some none)
    (a2 : PySem.W.findIn K (.ref C_BadKind) "__init__" = some (some (.ref f2)))
    (l2 : K.lookup f2 = some ⟨oc2, od2, .func (PySem.W.fnOf "__init__" "BadKind.__init__" (defArgs s_BadKindI) (defBody s_BadKindI) (defScope s_BadKindI) .none kV2 dc2 pm2 an2 cd2 ct2), sl2⟩)
    (c2 : PySem.W.codeIn K cd2 "BadKind.__init__" = true)
    (k2 : PySem.W.keepIn K (.ref f2) = true)
    (y2 : PySem.W.typeIn K (.ref f2) = some (.type "function"))
    (aC_TooMany : PySem.W.nsIn K mainGlobals "TooMany" = some (some (.ref C_TooMany)))
    (x_TooMany : K.lookup C_TooMany = some (excClassObj nm_TooMany q_TooMany C_TooMany N_TooMany bs_TooMany [.ref C_PackError, .type "ValueError", .type "Exception", .type "BaseException", .type "object"] true sn_TooMany sub_TooMany ab_TooMany col_TooMany dd_TooMany m0_TooMany m1_TooMany m2_TooMany m3_TooMany m5_TooMany "ValueError.__new__"))
    (sa_TooMany : PySem.W.findIn K (.ref C_TooMany) "__setattr__" = some (some (.builtin "object.__setattr__")))
    (ga_TooMany : PySem.W.findIn K (.ref C_TooMany) "__getattribute__" = some (some (.builtin "BaseException.__getattribute__")))
    (gg_TooMany : PySem.W.findIn K (.ref C_TooMany) "__getattr__" = some none)
    (kC_TooMany : PySem.W.keepIn K (.ref C_TooMany) = true)
    (eC_TooMany : PySem.W.subIn K (.ref C_TooMany) (.type "BaseException") = some true)
    (tC_TooMany : PySem.W.typeIn K (.ref C_TooMany) = some (.type "type"))
    (hC_TooMany : PySem.W.hasDictIn K C_TooMany = true)
    (iC_TooMany : PySem.W.isClsIn K C_TooMany = true)
    (ca_TooMany : PySem.W.findIn K (.ref C_TooMany) "__class__" = some (some (.builtin "object.__class__")))
    (mr_TooMany : PySem.W.mroIn K C_TooMany (.type "object") = some true)
    (n_TooMany_kind : PySem.W.findIn K (.ref C_TooMany) "kind" = some none)
    (a3 : PySem.W.findIn K (.ref C_TooMany) "__init__" = some (some (.ref f3)))
    (l3 : K.lookup f3 = some ⟨oc3, od3, .func (PySem.W.fnOf "__init__" "TooMany.__init__" (defArgs s_TooManyI) (defBody s_TooManyI) (defScope s_TooManyI) .none kV3 dc3 pm3 an3 cd3 ct3), sl3⟩)
    (c3 : PySem.W.codeIn K cd3 "TooMany.__init__" = true)
    (k3 : PySem.W.keepIn K (.ref f3) = true)
    (y3 : PySem.W.typeIn K (.ref f3) = some (.type "function"))
    (su_TooMany_TooMany : PySem.W.subIn K (.ref C_TooMany) (.ref C_TooMany) = some true)
    (su_TooMany_PackError : PySem.W.subIn K (.ref C_TooMany) (.ref C_PackError) = some true)
    (ne_TooMany_PackError : (C_TooMany == C_PackError) = false)
    (su_TooMany_Endless : PySem.W.subIn K (.ref C_TooMany) (.ref C_Endless) = some false)
    (ne_TooMany_Endless : (C_TooMany == C_Endless) = false)
    (su_TooMany_TooGreat : PySem.W.subIn K (.ref C_TooMany) (.ref C_TooGreat) = some false)
    (ne_TooMany_TooGreat : (C_TooMany == C_TooGreat) = false)
    (su_TooMany_BadKind : PySem.W.subIn K (.ref C_TooMany) (.ref C_BadKind) = some false)
    (ne_TooMany_BadKind : (C_TooMany == C_BadKind) = false)
    (sgC : PySem.W.specialIn K (.builtin "object.__class__") "__get__" = some (some (.builtin "getset_descriptor.__get__")))
    (tkC : PySem.W.takesIn K (.builtin "object.__class__") = some true)
    (aC_Look : PySem.W.nsIn K mainGlobals "Look" = some (some (.ref C_Look)))
    (pg_Look : PySem.W.plainGet K C_Look Str.empty = true)
    (hd_Look : PySem.W.hasDictIn K C_Look = true)
    (po_Look : PySem.W.plainOver K C_Look = true)
    (sa_Look : PySem.W.findIn K (.ref C_Look) "__setattr__" = some (some (.builtin "object.__setattr__")))
    (mk_Look : PySem.W.makesIn K C_Look = true)
    (kc_Look : PySem.W.keepIn K (.ref C_Look) = true)
    (n_Look_heads : PySem.W.findIn K (.ref C_Look) "heads" = some none)
    (n_Look_holes : PySem.W.findIn K (.ref C_Look) "holes" = some none)
    (n_Look_forms : PySem.W.findIn K (.ref C_Look) "forms" = some none)
    (a4 : PySem.W.findIn K (.ref C_Look) "__init__" = some (some (.ref f4)))
    (l4 : K.lookup f4 = some ⟨oc4, od4, .func (PySem.W.fnOf "__init__" "Look.__init__" (defArgs s_LookI) (defBody s_LookI) (defScope s_LookI) .none kV4 dc4 pm4 an4 cd4 ct4), sl4⟩)
    (c4 : PySem.W.codeIn K cd4 "Look.__init__" = true)
    (k4 : PySem.W.keepIn K (.ref f4) = true)
    (i4 : PySem.W.isFn K (.ref f4) = true)
    (a5 : PySem.W.nsIn K mainGlobals "is_whole" = some (some (.ref f5)))
    (l5 : K.lookup f5 = some ⟨oc5, od5, .func (PySem.W.fnOf "is_whole" "is_whole" (defArgs s_is_whole) (defBody s_is_whole) (defScope s_is_whole) .none kV5 dc5 pm5 an5 cd5 ct5), sl5⟩)
    (c5 : PySem.W.codeIn K cd5 "is_whole" = true)
    (k5 : PySem.W.keepIn K (.ref f5) = true)
    (a6 : PySem.W.nsIn K mainGlobals "is_between" = some (some (.ref f6)))
    (l6 : K.lookup f6 = some ⟨oc6, od6, .func (PySem.W.fnOf "is_between" "is_between" (defArgs s_is_between) (defBody s_is_between) (defScope s_is_between) .none kV6 dc6 pm6 an6 cd6 ct6), sl6⟩)
    (c6 : PySem.W.codeIn K cd6 "is_between" = true)
    (k6 : PySem.W.keepIn K (.ref f6) = true)
    (a7 : PySem.W.nsIn K mainGlobals "is_tuple_of" = some (some (.ref f7)))
    (l7 : K.lookup f7 = some ⟨oc7, od7, .func (PySem.W.fnOf "is_tuple_of" "is_tuple_of" (defArgs s_is_tuple_of) (defBody s_is_tuple_of) (defScope s_is_tuple_of) .none kV7 dc7 pm7 an7 cd7 ct7), sl7⟩)
    (c7 : PySem.W.codeIn K cd7 "is_tuple_of" = true)
    (k7 : PySem.W.keepIn K (.ref f7) = true)
    (a8 : PySem.W.nsIn K mainGlobals "inner_kinds" = some (some (.ref f8)))
    (l8 : K.lookup f8 = some ⟨oc8, od8, .func (PySem.W.fnOf "inner_kinds" "inner_kinds" (defArgs s_inner_kinds) (defBody s_inner_kinds) (defScope s_inner_kinds) .none kV8 dc8 pm8 an8 cd8 ct8), sl8⟩)
    (c8 : PySem.W.codeIn K cd8 "inner_kinds" = true)
    (k8 : PySem.W.keepIn K (.ref f8) = true)
    (a9 : PySem.W.nsIn K mainGlobals "with_inner" = some (some (.ref f9)))
    (l9 : K.lookup f9 = some ⟨oc9, od9, .func (PySem.W.fnOf "with_inner" "with_inner" (defArgs s_with_inner) (defBody s_with_inner) (defScope s_with_inner) .none kV9 dc9 pm9 an9 cd9 ct9), sl9⟩)
    (c9 : PySem.W.codeIn K cd9 "with_inner" = true)
    (k9 : PySem.W.keepIn K (.ref f9) = true)
    (a10 : PySem.W.nsIn K mainGlobals "forms_in" = some (some (.ref f10)))
    (l10 : K.lookup f10 = some ⟨oc10, od10, .func (PySem.W.fnOf "forms_in" "forms_in" (defArgs s_forms_in) (defBody s_forms_in) (defScope s_forms_in) .none kV10 dc10 pm10 an10 cd10 ct10), sl10⟩)
    (c10 : PySem.W.codeIn K cd10 "forms_in" = true)
    (k10 : PySem.W.keepIn K (.ref f10) = true)
    (a11 : PySem.W.nsIn K mainGlobals "depth_of" = some (some (.ref f11)))
    (l11 : K.lookup f11 = some ⟨oc11, od11, .func (PySem.W.fnOf "depth_of" "depth_of" (defArgs s_depth_of) (defBody s_depth_of) (defScope s_depth_of) .none kV11 dc11 pm11 an11 cd11 ct11), sl11⟩)
    (c11 : PySem.W.codeIn K cd11 "depth_of" = true)
    (k11 : PySem.W.keepIn K (.ref f11) = true)
    (a12 : PySem.W.nsIn K mainGlobals "shown" = some (some (.ref f12)))
    (l12 : K.lookup f12 = some ⟨oc12, od12, .func (PySem.W.fnOf "shown" "shown" (defArgs K2.s_shown) (defBody K2.s_shown) (defScope K2.s_shown) .none kV12 dc12 pm12 an12 cd12 ct12), sl12⟩)
    (c12 : PySem.W.codeIn K cd12 "shown" = true)
    (k12 : PySem.W.keepIn K (.ref f12) = true)
    (a13 : PySem.W.nsIn K mainGlobals "is_name" = some (some (.ref f13)))
    (l13 : K.lookup f13 = some ⟨oc13, od13, .func (PySem.W.fnOf "is_name" "is_name" (defArgs s_is_name) (defBody s_is_name) (defScope s_is_name) .none kV13 dc13 pm13 an13 cd13 ct13), sl13⟩)
    (c13 : PySem.W.codeIn K cd13 "is_name" = true)
    (k13 : PySem.W.keepIn K (.ref f13) = true)
    (a14 : PySem.W.nsIn K mainGlobals "name_fault" = some (some (.ref f14)))
    (l14 : K.lookup f14 = some ⟨oc14, od14, .func (PySem.W.fnOf "name_fault" "name_fault" (defArgs s_name_fault) (defBody s_name_fault) (defScope s_name_fault) .none kV14 dc14 pm14 an14 cd14 ct14), sl14⟩)
    (c14 : PySem.W.codeIn K cd14 "name_fault" = true)
    (k14 : PySem.W.keepIn K (.ref f14) = true)
    (a15 : PySem.W.nsIn K mainGlobals "own_fault" = some (some (.ref f15)))
    (l15 : K.lookup f15 = some ⟨oc15, od15, .func (PySem.W.fnOf "own_fault" "own_fault" (defArgs s_own_fault) (defBody s_own_fault) (defScope s_own_fault) .none kV15 dc15 pm15 an15 cd15 ct15), sl15⟩)
    (c15 : PySem.W.codeIn K cd15 "own_fault" = true)
    (k15 : PySem.W.keepIn K (.ref f15) = true)
    (a16 : PySem.W.nsIn K mainGlobals "kind_fault" = some (some (.ref f16)))
    (l16 : K.lookup f16 = some ⟨oc16, od16, .func (PySem.W.fnOf "kind_fault" "kind_fault" (defArgs s_kind_fault) (defBody s_kind_fault) (defScope s_kind_fault) .none kV16 dc16 pm16 an16 cd16 ct16), sl16⟩)
    (c16 : PySem.W.codeIn K cd16 "kind_fault" = true)
    (k16 : PySem.W.keepIn K (.ref f16) = true)
    (a17 : PySem.W.nsIn K mainGlobals "parts_fault" = some (some (.ref f17)))
    (l17 : K.lookup f17 = some ⟨oc17, od17, .func (PySem.W.fnOf "parts_fault" "parts_fault" (defArgs s_parts_fault) (defBody s_parts_fault) (defScope s_parts_fault) .none kV17 dc17 pm17 an17 cd17 ct17), sl17⟩)
    (c17 : PySem.W.codeIn K cd17 "parts_fault" = true)
    (k17 : PySem.W.keepIn K (.ref f17) = true)
    (a18 : PySem.W.nsIn K mainGlobals "use_fault" = some (some (.ref f18)))
    (l18 : K.lookup f18 = some ⟨oc18, od18, .func (PySem.W.fnOf "use_fault" "use_fault" (defArgs s_use_fault) (defBody s_use_fault) (defScope s_use_fault) .none kV18 dc18 pm18 an18 cd18 ct18), sl18⟩)
    (c18 : PySem.W.codeIn K cd18 "use_fault" = true)
    (k18 : PySem.W.keepIn K (.ref f18) = true)
    (a19 : PySem.W.nsIn K mainGlobals "head_fault" = some (some (.ref f19)))
    (l19 : K.lookup f19 = some ⟨oc19, od19, .func (PySem.W.fnOf "head_fault" "head_fault" (defArgs s_head_fault) (defBody s_head_fault) (defScope s_head_fault) .none kV19 dc19 pm19 an19 cd19 ct19), sl19⟩)
    (c19 : PySem.W.codeIn K cd19 "head_fault" = true)
    (k19 : PySem.W.keepIn K (.ref f19) = true)
    (a20 : PySem.W.nsIn K mainGlobals "heads_of" = some (some (.ref f20)))
    (l20 : K.lookup f20 = some ⟨oc20, od20, .func (PySem.W.fnOf "heads_of" "heads_of" (defArgs s_heads_of) (defBody s_heads_of) (defScope s_heads_of) .none kV20 dc20 pm20 an20 cd20 ct20), sl20⟩)
    (c20 : PySem.W.codeIn K cd20 "heads_of" = true)
    (k20 : PySem.W.keepIn K (.ref f20) = true)
    (a21 : PySem.W.nsIn K mainGlobals "bookfault" = some (some (.ref f21)))
    (l21 : K.lookup f21 = some ⟨oc21, od21, .func (PySem.W.fnOf "bookfault" "bookfault" (defArgs s_bookfault) (defBody s_bookfault) (defScope s_bookfault) .none kV21 dc21 pm21 an21 cd21 ct21), sl21⟩)
    (c21 : PySem.W.codeIn K cd21 "bookfault" = true)
    (k21 : PySem.W.keepIn K (.ref f21) = true)
    (a22 : PySem.W.nsIn K mainGlobals "closed_fault" = some (some (.ref f22)))
    (l22 : K.lookup f22 = some ⟨oc22, od22, .func (PySem.W.fnOf "closed_fault" "closed_fault" (defArgs s_closed_fault) (defBody s_closed_fault) (defScope s_closed_fault) .none kV22 dc22 pm22 an22 cd22 ct22), sl22⟩)
    (c22 : PySem.W.codeIn K cd22 "closed_fault" = true)
    (k22 : PySem.W.keepIn K (.ref f22) = true)
    (a23 : PySem.W.nsIn K mainGlobals "refuse_book" = some (some (.ref f23)))
    (l23 : K.lookup f23 = some ⟨oc23, od23, .func (PySem.W.fnOf "refuse_book" "refuse_book" (defArgs s_refuse_book) (defBody s_refuse_book) (defScope s_refuse_book) .none kV23 dc23 pm23 an23 cd23 ct23), sl23⟩)
    (c23 : PySem.W.codeIn K cd23 "refuse_book" = true)
    (k23 : PySem.W.keepIn K (.ref f23) = true)
    (a24 : PySem.W.nsIn K mainGlobals "refuse_unformed" = some (some (.ref f24)))
    (l24 : K.lookup f24 = some ⟨oc24, od24, .func (PySem.W.fnOf "refuse_unformed" "refuse_unformed" (defArgs s_refuse_unformed) (defBody s_refuse_unformed) (defScope s_refuse_unformed) .none kV24 dc24 pm24 an24 cd24 ct24), sl24⟩)
    (c24 : PySem.W.codeIn K cd24 "refuse_unformed" = true)
    (k24 : PySem.W.keepIn K (.ref f24) = true)
    (a25 : PySem.W.nsIn K mainGlobals "filled" = some (some (.ref f25)))
    (l25 : K.lookup f25 = some ⟨oc25, od25, .func (PySem.W.fnOf "filled" "filled" (defArgs s_filled) (defBody s_filled) (defScope s_filled) .none kV25 dc25 pm25 an25 cd25 ct25), sl25⟩)
    (c25 : PySem.W.codeIn K cd25 "filled" = true)
    (k25 : PySem.W.keepIn K (.ref f25) = true)
    (a26 : PySem.W.nsIn K mainGlobals "body_of" = some (some (.ref f26)))
    (l26 : K.lookup f26 = some ⟨oc26, od26, .func (PySem.W.fnOf "body_of" "body_of" (defArgs s_body_of) (defBody s_body_of) (defScope s_body_of) .none kV26 dc26 pm26 an26 cd26 ct26), sl26⟩)
    (c26 : PySem.W.codeIn K cd26 "body_of" = true)
    (k26 : PySem.W.keepIn K (.ref f26) = true)
    (a27 : PySem.W.nsIn K mainGlobals "parts_of" = some (some (.ref f27)))
    (l27 : K.lookup f27 = some ⟨oc27, od27, .func (PySem.W.fnOf "parts_of" "parts_of" (defArgs s_parts_of) (defBody s_parts_of) (defScope s_parts_of) .none kV27 dc27 pm27 an27 cd27 ct27), sl27⟩)
    (c27 : PySem.W.codeIn K cd27 "parts_of" = true)
    (k27 : PySem.W.keepIn K (.ref f27) = true)
    (a28 : PySem.W.nsIn K mainGlobals "met_kinds" = some (some (.ref f28)))
    (l28 : K.lookup f28 = some ⟨oc28, od28, .func (PySem.W.fnOf "met_kinds" "met_kinds" (defArgs s_met_kinds) (defBody s_met_kinds) (defScope s_met_kinds) .none kV28 dc28 pm28 an28 cd28 ct28), sl28⟩)
    (c28 : PySem.W.codeIn K cd28 "met_kinds" = true)
    (k28 : PySem.W.keepIn K (.ref f28) = true)
    (a29 : PySem.W.nsIn K mainGlobals "reach" = some (some (.ref f29)))
    (l29 : K.lookup f29 = some ⟨oc29, od29, .func (PySem.W.fnOf "reach" "reach" (defArgs s_reach) (defBody s_reach) (defScope s_reach) .none (.ref DK) dc29 pm29 an29 cd29 ct29), sl29⟩)
    (c29 : PySem.W.codeIn K cd29 "reach" = true)
    (k29 : PySem.W.keepIn K (.ref f29) = true)
    (kwd : PySem.W.nsIn K DK "most" = some (some (.int 60 tDK)))
    (a30 : PySem.W.nsIn K mainGlobals "_law_deck" = some (some (.ref f30)))
    (l30 : K.lookup f30 = some ⟨oc30, od30, .func (PySem.W.fnOf "_law_deck" "_law_deck" (defArgs K2.s__law_deck) (defBody K2.s__law_deck) (defScope K2.s__law_deck) .none kV30 dc30 pm30 an30 cd30 ct30), sl30⟩)
    (c30 : PySem.W.codeIn K cd30 "_law_deck" = true)
    (k30 : PySem.W.keepIn K (.ref f30) = true)
    (a31 : PySem.W.nsIn K mainGlobals "_law_pick" = some (some (.ref f31)))
    (l31 : K.lookup f31 = some ⟨oc31, od31, .func (PySem.W.fnOf "_law_pick" "_law_pick" (defArgs K2.s__law_pick) (defBody K2.s__law_pick) (defScope K2.s__law_pick) .none kV31 dc31 pm31 an31 cd31 ct31), sl31⟩)
    (c31 : PySem.W.codeIn K cd31 "_law_pick" = true)
    (k31 : PySem.W.keepIn K (.ref f31) = true)
    (a32 : PySem.W.nsIn K mainGlobals "_law_same" = some (some (.ref f32)))
    (l32 : K.lookup f32 = some ⟨oc32, od32, .func (PySem.W.fnOf "_law_same" "_law_same" (defArgs K2.s__law_same) (defBody K2.s__law_same) (defScope K2.s__law_same) .none kV32 dc32 pm32 an32 cd32 ct32), sl32⟩)
    (c32 : PySem.W.codeIn K cd32 "_law_same" = true)
    (k32 : PySem.W.keepIn K (.ref f32) = true)
    (a33 : PySem.W.nsIn K mainGlobals "_law_letters" = some (some (.ref f33)))
    (l33 : K.lookup f33 = some ⟨oc33, od33, .func (PySem.W.fnOf "_law_letters" "_law_letters" (defArgs K2.sLet) (defBody K2.sLet) (defScope K2.sLet) .none kV33 dc33 pm33 an33 cd33 ct33), sl33⟩)
    (c33 : PySem.W.codeIn K cd33 "_law_letters" = true)
    (k33 : PySem.W.keepIn K (.ref f33) = true)
    (a34 : PySem.W.nsIn K mainGlobals "_law_names" = some (some (.ref f34)))
    (l34 : K.lookup f34 = some ⟨oc34, od34, .func (PySem.W.fnOf "_law_names" "_law_names" (defArgs K2.sNames) (defBody K2.sNames) (defScope K2.sNames) .none kV34 dc34 pm34 an34 cd34 ct34), sl34⟩)
    (c34 : PySem.W.codeIn K cd34 "_law_names" = true)
    (k34 : PySem.W.keepIn K (.ref f34) = true)
    (a35 : PySem.W.nsIn K mainGlobals "_law_leaf" = some (some (.ref f35)))
    (l35 : K.lookup f35 = some ⟨oc35, od35, .func (PySem.W.fnOf "_law_leaf" "_law_leaf" (defArgs K2.sLeaf) (defBody K2.sLeaf) (defScope K2.sLeaf) .none kV35 dc35 pm35 an35 cd35 ct35), sl35⟩)
    (c35 : PySem.W.codeIn K cd35 "_law_leaf" = true)
    (k35 : PySem.W.keepIn K (.ref f35) = true)
    (a36 : PySem.W.nsIn K mainGlobals "_law_kind" = some (some (.ref f36)))
    (l36 : K.lookup f36 = some ⟨oc36, od36, .func (PySem.W.fnOf "_law_kind" "_law_kind" (defArgs K2.sKind) (defBody K2.sKind) (defScope K2.sKind) .none kV36 dc36 pm36 an36 cd36 ct36), sl36⟩)
    (c36 : PySem.W.codeIn K cd36 "_law_kind" = true)
    (k36 : PySem.W.keepIn K (.ref f36) = true)
    (a37 : PySem.W.nsIn K mainGlobals "_law_book" = some (some (.ref f37)))
    (l37 : K.lookup f37 = some ⟨oc37, od37, .func (PySem.W.fnOf "_law_book" "_law_book" (defArgs K2.s__law_book) (defBody K2.s__law_book) (defScope K2.s__law_book) .none kV37 dc37 pm37 an37 cd37 ct37), sl37⟩)
    (c37 : PySem.W.codeIn K cd37 "_law_book" = true)
    (k37 : PySem.W.keepIn K (.ref f37) = true)
    (a38 : PySem.W.nsIn K mainGlobals "_law_heads" = some (some (.ref f38)))
    (l38 : K.lookup f38 = some ⟨oc38, od38, .func (PySem.W.fnOf "_law_heads" "_law_heads" (defArgs K2.s__law_heads) (defBody K2.s__law_heads) (defScope K2.s__law_heads) .none kV38 dc38 pm38 an38 cd38 ct38), sl38⟩)
    (c38 : PySem.W.codeIn K cd38 "_law_heads" = true)
    (k38 : PySem.W.keepIn K (.ref f38) = true)
    (a39 : PySem.W.nsIn K mainGlobals "_law_grown" = some (some (.ref f39)))
    (l39 : K.lookup f39 = some ⟨oc39, od39, .func (PySem.W.fnOf "_law_grown" "_law_grown" (defArgs K2.s__law_grown) (defBody K2.s__law_grown) (defScope K2.s__law_grown) .none kV39 dc39 pm39 an39 cd39 ct39), sl39⟩)
    (c39 : PySem.W.codeIn K cd39 "_law_grown" = true)
    (k39 : PySem.W.keepIn K (.ref f39) = true)
    (a40 : PySem.W.nsIn K mainGlobals "_law_filled" = some (some (.ref f40)))
    (l40 : K.lookup f40 = some ⟨oc40, od40, .func (PySem.W.fnOf "_law_filled" "_law_filled" (defArgs K2.s__law_filled) (defBody K2.s__law_filled) (defScope K2.s__law_filled) .none kV40 dc40 pm40 an40 cd40 ct40), sl40⟩)
    (c40 : PySem.W.codeIn K cd40 "_law_filled" = true)
    (k40 : PySem.W.keepIn K (.ref f40) = true)
    (a41 : PySem.W.nsIn K mainGlobals "_law_parts" = some (some (.ref f41)))
    (l41 : K.lookup f41 = some ⟨oc41, od41, .func (PySem.W.fnOf "_law_parts" "_law_parts" (defArgs K2.s__law_parts) (defBody K2.s__law_parts) (defScope K2.s__law_parts) .none kV41 dc41 pm41 an41 cd41 ct41), sl41⟩)
    (c41 : PySem.W.codeIn K cd41 "_law_parts" = true)
    (k41 : PySem.W.keepIn K (.ref f41) = true)
    (a42 : PySem.W.nsIn K mainGlobals "_law_written" = some (some (.ref f42)))
    (l42 : K.lookup f42 = some ⟨oc42, od42, .func (PySem.W.fnOf "_law_written" "_law_written" (defArgs K2.s__law_written) (defBody K2.s__law_written) (defScope K2.s__law_written) .none kV42 dc42 pm42 an42 cd42 ct42), sl42⟩)
    (c42 : PySem.W.codeIn K cd42 "_law_written" = true)
    (k42 : PySem.W.keepIn K (.ref f42) = true)
    (a43 : PySem.W.nsIn K mainGlobals "_law_size" = some (some (.ref f43)))
    (l43 : K.lookup f43 = some ⟨oc43, od43, .func (PySem.W.fnOf "_law_size" "_law_size" (defArgs K2.s__law_size) (defBody K2.s__law_size) (defScope K2.s__law_size) .none kV43 dc43 pm43 an43 cd43 ct43), sl43⟩)
    (c43 : PySem.W.codeIn K cd43 "_law_size" = true)
    (k43 : PySem.W.keepIn K (.ref f43) = true)
    (a44 : PySem.W.nsIn K mainGlobals "_law_reach" = some (some (.ref f44)))
    (l44 : K.lookup f44 = some ⟨oc44, od44, .func (PySem.W.fnOf "_law_reach" "_law_reach" (defArgs K2.s__law_reach) (defBody K2.s__law_reach) (defScope K2.s__law_reach) .none kV44 dc44 pm44 an44 cd44 ct44), sl44⟩)
    (c44 : PySem.W.codeIn K cd44 "_law_reach" = true)
    (k44 : PySem.W.keepIn K (.ref f44) = true)
    (a45 : PySem.W.nsIn K mainGlobals "_law_refused" = some (some (.ref f45)))
    (l45 : K.lookup f45 = some ⟨oc45, od45, .func (PySem.W.fnOf "_law_refused" "_law_refused" (defArgs K2.s__law_refused) (defBody K2.s__law_refused) (defScope K2.s__law_refused) .none kV45 dc45 pm45 an45 cd45 ct45), sl45⟩)
    (c45 : PySem.W.codeIn K cd45 "_law_refused" = true)
    (k45 : PySem.W.keepIn K (.ref f45) = true)
    (a46 : PySem.W.nsIn K mainGlobals "_law_right" = some (some (.ref f46)))
    (l46 : K.lookup f46 = some ⟨oc46, od46, .func (PySem.W.fnOf "_law_right" "_law_right" (defArgs K2.s__law_right) (defBody K2.s__law_right) (defScope K2.s__law_right) .none kV46 dc46 pm46 an46 cd46 ct46), sl46⟩)
    (c46 : PySem.W.codeIn K cd46 "_law_right" = true)
    (k46 : PySem.W.keepIn K (.ref f46) = true)
    (a47 : PySem.W.nsIn K mainGlobals "law" = some (some (.ref f47)))
    (l47 : K.lookup f47 = some ⟨oc47, od47, .func (PySem.W.fnOf "law" "law" (defArgs K2.s_law) (defBody K2.s_law) (defScope K2.s_law) .none kV47 dc47 pm47 an47 cd47 ct47), sl47⟩)
    (c47 : PySem.W.codeIn K cd47 "law" = true)
    (k47 : PySem.W.keepIn K (.ref f47) = true)
    (z_isinstance : PySem.W.nsIn K mainGlobals "isinstance" = some none)
    (z_int : PySem.W.nsIn K mainGlobals "int" = some none)
    (z_bool : PySem.W.nsIn K mainGlobals "bool" = some none)
    (z_tuple : PySem.W.nsIn K mainGlobals "tuple" = some none)
    (z_len : PySem.W.nsIn K mainGlobals "len" = some none)
    (z_zip : PySem.W.nsIn K mainGlobals "zip" = some none)
    (z_sum : PySem.W.nsIn K mainGlobals "sum" = some none)
    (z_max : PySem.W.nsIn K mainGlobals "max" = some none)
    (z_all : PySem.W.nsIn K mainGlobals "all" = some none)
    (z_str : PySem.W.nsIn K mainGlobals "str" = some none)
    (z_enumerate : PySem.W.nsIn K mainGlobals "enumerate" = some none)
    (z_dict : PySem.W.nsIn K mainGlobals "dict" = some none)
    (z_list : PySem.W.nsIn K mainGlobals "list" = some none)
    (z_range : PySem.W.nsIn K mainGlobals "range" = some none)
    (z_min : PySem.W.nsIn K mainGlobals "min" = some none) :
    ∃ fd : FuncData, (∀ (s : Shared) (v : Value), BindsTo s fd ⟨[v], []⟩ [("_law_script", v)]) ∧ ∀ base : Heap, K.In base → base.Ns mainGlobals mg → FnOk l.prog w K mg base CX0 50 fa fd ["_law_script"] (K2.sp_law K) := by
  have e := hfa.symm.trans (PySem.W.mg_of X G a47)
  cases e
  have g_PART_WORDS := PySem.W.mg_of X G ag_PART_WORDS
  have h_PART_WORDS : ∀ H : Hp, SqT K H a_PART_WORDS [.str "record", .str "variant"] := fun H => .inr ⟨_, _, _, lg_PART_WORDS, rfl, rfl, (by show 2 ≤ sizeLine; decide), (.cons ⟨_, rfl⟩ (.cons ⟨_, rfl⟩ .nil))⟩
  have g_MOST_LETTERS := PySem.W.mg_of X G ag_MOST_LETTERS
  have g_LETTERS := PySem.W.mg_of X G ag_LETTERS
  have g_MOST_DEPTH := PySem.W.mg_of X G ag_MOST_DEPTH
  have g_MOST_FORMS := PySem.W.mg_of X G ag_MOST_FORMS
  have g_LENGTHS := PySem.W.mg_of X G ag_LENGTHS
  have g_MOST_BITS := PySem.W.mg_of X G ag_MOST_BITS
  have g_MOST_MANY := PySem.W.mg_of X G ag_MOST_MANY
  have g_MOST_PARTS := PySem.W.mg_of X G ag_MOST_PARTS
  have g_MOST_HOLES := PySem.W.mg_of X G ag_MOST_HOLES
  have g_MOST_DECLARATIONS := PySem.W.mg_of X G ag_MOST_DECLARATIONS
  have g_MOST_KINDS := PySem.W.mg_of X G ag_MOST_KINDS
  have g_PackError := PySem.W.mg_of X G aC_PackError
  have g_Endless := PySem.W.mg_of X G aC_Endless
  have g_TooGreat := PySem.W.mg_of X G aC_TooGreat
  have F1 := fun_mk (st := s_BadBookI) l1 c1 k1
  have b1 := F1.binds (ps := ["self", "place", "why"]) fun _ _ _ _ _ _ us hl => match us, hl with | [_, _, _], _ => rfl
  have g_BadBook := PySem.W.mg_of X G aC_BadBook
  have O_BadBook : OexC K C_BadBook := ⟨⟨nm_BadBook, q_BadBook, N_BadBook, bs_BadBook, _, sn_BadBook, sub_BadBook, ab_BadBook, col_BadBook, dd_BadBook, m0_BadBook, m1_BadBook, m2_BadBook, m3_BadBook, m5_BadBook, x_BadBook, rfl⟩, sa_BadBook, eC_BadBook, tC_BadBook, kC_BadBook⟩
  have T_BadBook : ErC K mg "BadBook" C_BadBook f1 := ⟨O_BadBook, a1, y1, g_BadBook⟩
  have F2 := fun_mk (st := s_BadKindI) l2 c2 k2
  have b2 := F2.binds (ps := ["self", "place", "why"]) fun _ _ _ _ _ _ us hl => match us, hl with | [_, _, _], _ => rfl
  have g_BadKind := PySem.W.mg_of X G aC_BadKind
  have O_BadKind : OexC K C_BadKind := ⟨⟨nm_BadKind, q_BadKind, N_BadKind, bs_BadKind, _, sn_BadKind, sub_BadKind, ab_BadKind, col_BadKind, dd_BadKind, m0_BadKind, m1_BadKind, m2_BadKind, m3_BadKind, m5_BadKind, x_BadKind, rfl⟩, sa_BadKind, eC_BadKind, tC_BadKind, kC_BadKind⟩
  have T_BadKind : ErC K mg "BadKind" C_BadKind f2 := ⟨O_BadKind, a2, y2, g_BadKind⟩
  have F3 := fun_mk (st := s_TooManyI) l3 c3 k3
  have b3 := F3.binds (ps := ["self", "kind"]) fun _ _ _ _ _ _ us hl => match us, hl with | [_, _], _ => rfl
  have g_TooMany := PySem.W.mg_of X G aC_TooMany
  have O_TooMany : OexC K C_TooMany := ⟨⟨nm_TooMany, q_TooMany, N_TooMany, bs_TooMany, _, sn_TooMany, sub_TooMany, ab_TooMany, col_TooMany, dd_TooMany, m0_TooMany, m1_TooMany, m2_TooMany, m3_TooMany, m5_TooMany, x_TooMany, rfl⟩, sa_TooMany, eC_TooMany, tC_TooMany, kC_TooMany⟩
  have T_TooMany : ErC K mg "TooMany" C_TooMany f3 := ⟨O_TooMany, a3, y3, g_TooMany⟩
  have F4 := fun_mk (st := s_LookI) l4 c4 k4
  have b4 := F4.binds (ps := ["self", "heads", "holes"]) fun _ _ _ _ _ _ us hl => match us, hl with | [_, _, _], _ => rfl
  have g_Look := PySem.W.mg_of X G aC_Look
  have cl_Look : Cls K C_Look := ⟨pg_Look, hd_Look, po_Look, sa_Look⟩
  have M_Look : Mk K C_Look f4 := ⟨mk_Look, a4, i4, kc_Look⟩
  have F5 := fun_mk (st := s_is_whole) l5 c5 k5
  have b5 := F5.binds (ps := ["thing"]) fun _ _ _ _ _ _ us hl => match us, hl with | [_], _ => rfl
  have g5 := PySem.W.mg_of X G a5
  have F6 := fun_mk (st := s_is_between) l6 c6 k6
  have b6 := F6.binds (ps := ["thing", "least", "most"]) fun _ _ _ _ _ _ us hl => match us, hl with | [_, _, _], _ => rfl
  have g6 := PySem.W.mg_of X G a6
  have F7 := fun_mk (st := s_is_tuple_of) l7 c7 k7
  have b7 := F7.binds (ps := ["thing", "many"]) fun _ _ _ _ _ _ us hl => match us, hl with | [_, _], _ => rfl
  have g7 := PySem.W.mg_of X G a7
  have F8 := fun_mk (st := s_inner_kinds) l8 c8 k8
  have b8 := F8.binds (ps := ["kind"]) fun _ _ _ _ _ _ us hl => match us, hl with | [_], _ => rfl
  have g8 := PySem.W.mg_of X G a8
  have F9 := fun_mk (st := s_with_inner) l9 c9 k9
  have b9 := F9.binds (ps := ["kind", "inner"]) fun _ _ _ _ _ _ us hl => match us, hl with | [_, _], _ => rfl
  have g9 := PySem.W.mg_of X G a9
  have F10 := fun_mk (st := s_forms_in) l10 c10 k10
  have b10 := F10.binds (ps := ["kind"]) fun _ _ _ _ _ _ us hl => match us, hl with | [_], _ => rfl
  have g10 := PySem.W.mg_of X G a10
  have F11 := fun_mk (st := s_depth_of) l11 c11 k11
  have b11 := F11.binds (ps := ["kind"]) fun _ _ _ _ _ _ us hl => match us, hl with | [_], _ => rfl
  have g11 := PySem.W.mg_of X G a11
  have F12 := fun_mk (st := K2.s_shown) l12 c12 k12
  have b12 := F12.binds (ps := ["kind"]) fun _ _ _ _ _ _ us hl => match us, hl with | [_], _ => rfl
  have g12 := PySem.W.mg_of X G a12
  have F13 := fun_mk (st := s_is_name) l13 c13 k13
  have b13 := F13.binds (ps := ["thing"]) fun _ _ _ _ _ _ us hl => match us, hl with | [_], _ => rfl
  have g13 := PySem.W.mg_of X G a13
  have F14 := fun_mk (st := s_name_fault) l14 c14 k14
  have b14 := F14.binds (ps := ["earlier", "thing", "place"]) fun _ _ _ _ _ _ us hl => match us, hl with | [_, _, _], _ => rfl
  have g14 := PySem.W.mg_of X G a14
  have F15 := fun_mk (st := s_own_fault) l15 c15 k15
  have b15 := F15.binds (ps := ["look", "thing", "depth"]) fun _ _ _ _ _ _ us hl => match us, hl with | [_, _, _], _ => rfl
  have g15 := PySem.W.mg_of X G a15
  have F16 := fun_mk (st := s_kind_fault) l16 c16 k16
  have b16 := F16.binds (ps := ["look", "thing", "place", "depth"]) fun _ _ _ _ _ _ us hl => match us, hl with | [_, _, _, _], _ => rfl
  have g16 := PySem.W.mg_of X G a16
  have F17 := fun_mk (st := s_parts_fault) l17 c17 k17
  have b17 := F17.binds (ps := ["look", "thing", "place", "depth"]) fun _ _ _ _ _ _ us hl => match us, hl with | [_, _, _, _], _ => rfl
  have g17 := PySem.W.mg_of X G a17
  have F18 := fun_mk (st := s_use_fault) l18 c18 k18
  have b18 := F18.binds (ps := ["look", "thing", "place", "depth"]) fun _ _ _ _ _ _ us hl => match us, hl with | [_, _, _, _], _ => rfl
  have g18 := PySem.W.mg_of X G a18
  have F19 := fun_mk (st := s_head_fault) l19 c19 k19
  have b19 := F19.binds (ps := ["earlier", "thing", "number"]) fun _ _ _ _ _ _ us hl => match us, hl with | [_, _, _], _ => rfl
  have g19 := PySem.W.mg_of X G a19
  have F20 := fun_mk (st := s_heads_of) l20 c20 k20
  have b20 := F20.binds (ps := ["book"]) fun _ _ _ _ _ _ us hl => match us, hl with | [_], _ => rfl
  have g20 := PySem.W.mg_of X G a20
  have F21 := fun_mk (st := s_bookfault) l21 c21 k21
  have b21 := F21.binds (ps := ["thing"]) fun _ _ _ _ _ _ us hl => match us, hl with | [_], _ => rfl
  have g21 := PySem.W.mg_of X G a21
  have F22 := fun_mk (st := s_closed_fault) l22 c22 k22
  have b22 := F22.binds (ps := ["book", "thing"]) fun _ _ _ _ _ _ us hl => match us, hl with | [_, _], _ => rfl
  have g22 := PySem.W.mg_of X G a22
  have F23 := fun_mk (st := s_refuse_book) l23 c23 k23
  have b23 := F23.binds (ps := ["book"]) fun _ _ _ _ _ _ us hl => match us, hl with | [_], _ => rfl
  have g23 := PySem.W.mg_of X G a23
  have F24 := fun_mk (st := s_refuse_unformed) l24 c24 k24
  have b24 := F24.binds (ps := ["book", "kind"]) fun _ _ _ _ _ _ us hl => match us, hl with | [_, _], _ => rfl
  have g24 := PySem.W.mg_of X G a24
  have F25 := fun_mk (st := s_filled) l25 c25 k25
  have b25 := F25.binds (ps := ["kind", "fills"]) fun _ _ _ _ _ _ us hl => match us, hl with | [_, _], _ => rfl
  have g25 := PySem.W.mg_of X G a25
  have F26 := fun_mk (st := s_body_of) l26 c26 k26
  have b26 := F26.binds (ps := ["book", "use"]) fun _ _ _ _ _ _ us hl => match us, hl with | [_, _], _ => rfl
  have g26 := PySem.W.mg_of X G a26
  have F27 := fun_mk (st := s_parts_of) l27 c27 k27
  have b27 := F27.binds (ps := ["book", "kind"]) fun _ _ _ _ _ _ us hl => match us, hl with | [_, _], _ => rfl
  have g27 := PySem.W.mg_of X G a27
  have F28 := fun_mk (st := s_met_kinds) l28 c28 k28
  have b28 := F28.binds (ps := ["book", "kind", "most"]) fun _ _ _ _ _ _ us hl => match us, hl with | [_, _, _], _ => rfl
  have g28 := PySem.W.mg_of X G a28
  have F29 := fun_mk (st := s_reach) l29 c29 k29
  have FD : FunD K "reach" "reach" (defArgs s_reach) (defBody s_reach) (defScope s_reach) [] [("most", V.int 60)] f29 _ := ⟨⟨oc29, od29, .none, .ref DK, dc29, pm29, an29, cd29, ct29, sl29, rfl, l29, c29, .inl ⟨rfl, rfl⟩, .inr ⟨DK, rfl, fun q hq => by rw [List.mem_singleton.mp hq]; exact ⟨_, kwd, _, rfl⟩⟩⟩, k29⟩
  obtain ⟨ds, d_reach, b_reach⟩ := FD.binds0 (ps := pm_reach) 2 (by simp) rfl fun D doc pm an cdv ct us ks h1 h2 => match us, ks, h1, h2 with | [_, _], [_], _, _ => ⟨_, _, _, _, _, _, rfl, rfl, rfl⟩
  have kb_reach : KWC.KB K _ pm_reach 2 ["most"] := ⟨fun s us ws _ h1 h2 => match us, ws, h1, h2 with | [_, _], [_], _, _ => BindsTo.of_eq (fd := PySem.W.fnOf "reach" "reach" (defArgs s_reach) (defBody s_reach) (defScope s_reach) .none (.ref DK) dc29 pm29 an29 cd29 ct29) rfl⟩
  have g29 := PySem.W.mg_of X G a29
  have F30 := fun_mk (st := K2.s__law_deck) l30 c30 k30
  have b30 := F30.binds (ps := ["_law_script"]) fun _ _ _ _ _ _ us hl => match us, hl with | [_], _ => rfl
  have g30 := PySem.W.mg_of X G a30
  have F31 := fun_mk (st := K2.s__law_pick) l31 c31 k31
  have b31 := F31.binds (ps := ["_law_deck_here", "_law_many"]) fun _ _ _ _ _ _ us hl => match us, hl with | [_, _], _ => rfl
  have g31 := PySem.W.mg_of X G a31
  have F32 := fun_mk (st := K2.s__law_same) l32 c32 k32
  have b32 := F32.binds (ps := ["_law_one", "_law_other"]) fun _ _ _ _ _ _ us hl => match us, hl with | [_, _], _ => rfl
  have g32 := PySem.W.mg_of X G a32
  have F33 := fun_mk (st := K2.sLet) l33 c33 k33
  have b33 := F33.binds (ps := ["_law_deck_here", "_law_many"]) fun _ _ _ _ _ _ us hl => match us, hl with | [_, _], _ => rfl
  have g33 := PySem.W.mg_of X G a33
  have F34 := fun_mk (st := K2.sNames) l34 c34 k34
  have b34 := F34.binds (ps := ["_law_deck_here", "_law_many"]) fun _ _ _ _ _ _ us hl => match us, hl with | [_, _], _ => rfl
  have g34 := PySem.W.mg_of X G a34
  have F35 := fun_mk (st := K2.sLeaf) l35 c35 k35
  have b35 := F35.binds (ps := ["_law_deck_here", "_law_holes"]) fun _ _ _ _ _ _ us hl => match us, hl with | [_, _], _ => rfl
  have g35 := PySem.W.mg_of X G a35
  have F36 := fun_mk (st := K2.sKind) l36 c36 k36
  have b36 := F36.binds (ps := ["_law_deck_here", "_law_heads_here", "_law_holes", "_law_deep", "_law_room"]) fun _ _ _ _ _ _ us hl => match us, hl with | [_, _, _, _, _], _ => rfl
  have g36 := PySem.W.mg_of X G a36
  have F37 := fun_mk (st := K2.s__law_book) l37 c37 k37
  have b37 := F37.binds (ps := ["_law_deck_here", "_law_limit", "_law_deep", "_law_room"]) fun _ _ _ _ _ _ us hl => match us, hl with | [_, _, _, _], _ => rfl
  have g37 := PySem.W.mg_of X G a37
  have F38 := fun_mk (st := K2.s__law_heads) l38 c38 k38
  have b38 := F38.binds (ps := ["_law_book_here"]) fun _ _ _ _ _ _ us hl => match us, hl with | [_], _ => rfl
  have g38 := PySem.W.mg_of X G a38
  have F39 := fun_mk (st := K2.s__law_grown) l39 c39 k39
  have b39 := F39.binds (ps := ["_law_deck_here", "_law_book_here", "_law_way"]) fun _ _ _ _ _ _ us hl => match us, hl with | [_, _, _], _ => rfl
  have g39 := PySem.W.mg_of X G a39
  have F40 := fun_mk (st := K2.s__law_filled) l40 c40 k40
  have b40 := F40.binds (ps := ["_law_kind_here", "_law_fills"]) fun _ _ _ _ _ _ us hl => match us, hl with | [_, _], _ => rfl
  have g40 := PySem.W.mg_of X G a40
  have F41 := fun_mk (st := K2.s__law_parts) l41 c41 k41
  have b41 := F41.binds (ps := ["_law_book_here", "_law_kind_here"]) fun _ _ _ _ _ _ us hl => match us, hl with | [_, _], _ => rfl
  have g41 := PySem.W.mg_of X G a41
  have F42 := fun_mk (st := K2.s__law_written) l42 c42 k42
  have b42 := F42.binds (ps := ["_law_kind_here"]) fun _ _ _ _ _ _ us hl => match us, hl with | [_], _ => rfl
  have g42 := PySem.W.mg_of X G a42
  have F43 := fun_mk (st := K2.s__law_size) l43 c43 k43
  have b43 := F43.binds (ps := ["_law_kind_here"]) fun _ _ _ _ _ _ us hl => match us, hl with | [_], _ => rfl
  have g43 := PySem.W.mg_of X G a43
  have F44 := fun_mk (st := K2.s__law_reach) l44 c44 k44
  have b44 := F44.binds (ps := ["_law_book_here", "_law_kind_here", "_law_limit"]) fun _ _ _ _ _ _ us hl => match us, hl with | [_, _, _], _ => rfl
  have g44 := PySem.W.mg_of X G a44
  have F45 := fun_mk (st := K2.s__law_refused) l45 c45 k45
  have b45 := F45.binds (ps := ["_law_book_here", "_law_kind_here", "_law_limit"]) fun _ _ _ _ _ _ us hl => match us, hl with | [_, _, _], _ => rfl
  have g45 := PySem.W.mg_of X G a45
  have F46 := fun_mk (st := K2.s__law_right) l46 c46 k46
  have b46 := F46.binds (ps := ["_law_book_here", "_law_kind_here", "_law_limit"]) fun _ _ _ _ _ _ us hl => match us, hl with | [_, _, _], _ => rfl
  have g46 := PySem.W.mg_of X G a46
  have F47 := fun_mk (st := K2.s_law) l47 c47 k47
  have b47 := F47.binds (ps := ["_law_script"]) fun _ _ _ _ _ _ us hl => match us, hl with | [_], _ => rfl
  have g47 := PySem.W.mg_of X G a47
  have m_isinstance := PySem.W.mg_none_of X G z_isinstance
  have m_int := PySem.W.mg_none_of X G z_int
  have m_bool := PySem.W.mg_none_of X G z_bool
  have m_tuple := PySem.W.mg_none_of X G z_tuple
  have m_len := PySem.W.mg_none_of X G z_len
  have m_zip := PySem.W.mg_none_of X G z_zip
  have m_sum := PySem.W.mg_none_of X G z_sum
  have m_max := PySem.W.mg_none_of X G z_max
  have m_all := PySem.W.mg_none_of X G z_all
  have m_str := PySem.W.mg_none_of X G z_str
  have m_enumerate := PySem.W.mg_none_of X G z_enumerate
  have m_dict := PySem.W.mg_none_of X G z_dict
  have m_list := PySem.W.mg_none_of X G z_list
  have m_range := PySem.W.mg_none_of X G z_range
  have m_min := PySem.W.mg_none_of X G z_min
  refine ⟨PySem.W.fnOf "law" "law" (defArgs K2.s_law) (defBody K2.s_law) (defScope K2.s_law) .none kV47 dc47 pm47 an47 cd47 ct47, fun s v => .of_eq rfl, fun base _ _ => ?_⟩
  have D_LENGTHS : KLen K w a_LENGTHS := by
    refine ⟨_, _, ⟨lg_LENGTHS, ⟨⟨_, _, rfl, rfl⟩, ⟨_, _, rfl, rfl⟩, ⟨_, _, rfl, rfl⟩, ⟨_, _, rfl, rfl⟩, ⟨_, _, rfl, rfl⟩, ⟨_, _, rfl, rfl⟩, ⟨_, _, rfl, rfl⟩, ⟨_, _, rfl, rfl⟩, ⟨_, _, rfl, rfl⟩, ⟨_, _, rfl, rfl⟩, trivial⟩, wg_LENGTHS⟩, fun z => ?_⟩
    unfold PySem.W.nsIn
    rw [lg_LENGTHS]
    by_cases h1 : z = "nat"
    · subst h1; exact ⟨_, rfl, _, rfl⟩
    by_cases h2 : z = "int"
    · subst h2; exact ⟨_, rfl, _, rfl⟩
    by_cases h3 : z = "truth"
    · subst h3; exact ⟨_, rfl, _, rfl⟩
    by_cases h4 : z = "record"
    · subst h4; exact ⟨_, rfl, _, rfl⟩
    by_cases h5 : z = "variant"
    · subst h5; exact ⟨_, rfl, _, rfl⟩
    by_cases h6 : z = "row"
    · subst h6; exact ⟨_, rfl, _, rfl⟩
    by_cases h7 : z = "maybe"
    · subst h7; exact ⟨_, rfl, _, rfl⟩
    by_cases h8 : z = "box"
    · subst h8; exact ⟨_, rfl, _, rfl⟩
    by_cases h9 : z = "use"
    · subst h9; exact ⟨_, rfl, _, rfl⟩
    by_cases h10 : z = "hole"
    · subst h10; exact ⟨_, rfl, _, rfl⟩
    have ew : wlen z = none := by
      unfold wlen
      rw [if_neg h1, if_neg h2, if_neg h3, if_neg h4, if_neg h5, if_neg h6, if_neg h7, if_neg h8, if_neg h9, if_neg h10]
    have nb : ∀ s : Str, ¬ z = s → (s == z) = false := fun s h => by
      cases e : (s == z) with
      | false => rfl
      | true => exact absurd (eq_of_beq e).symm h
    refine ⟨none, ?_, by rw [ew]⟩
    simp only [List.find?, Value.isStr, nb _ h1, nb _ h2, nb _ h3, nb _ h4, nb _ h5, nb _ h6, nb _ h7, nb _ h8, nb _ h9, nb _ h10]
    rfl
  have T_Look : LkT K C_Look := ⟨cl_Look, n_Look_heads, n_Look_holes, n_Look_forms⟩
  have G_Look := ok_LookI (P := l.prog) (w := w) (mg := mg) (base := base) F4 T_Look
  have G_BadBook := ok_BadBookI (P := l.prog) (w := w) (mg := mg) (base := base) F1 O_BadBook n_BadBook_place n_BadBook_why
  have G_BadKind := ok_BadKindI (P := l.prog) (w := w) (mg := mg) (base := base) F2 O_BadKind n_BadKind_place n_BadKind_why
  have G_TooMany := ok_TooManyI (P := l.prog) (w := w) (mg := mg) (base := base) F3 O_TooMany n_TooMany_kind
  have C_is_whole : Cal l.prog w K mg base "is_whole" pm_is_whole 1 (sp_is_whole K) := ⟨_, _, ok_is_whole F5 m_isinstance m_int m_bool, g5, k5, b5⟩
  have C_is_between : Cal l.prog w K mg base "is_between" pm_is_between 2 (sp_is_between K) := ⟨_, _, ok_is_between F6 C_is_whole, g6, k6, b6⟩
  have C_is_tuple_of : Cal l.prog w K mg base "is_tuple_of" pm_is_tuple_of 1 (sp_is_tuple_of K) := ⟨_, _, ok_is_tuple_of F7 m_isinstance m_tuple m_len, g7, k7, b7⟩
  have C_is_name : Cal l.prog w K mg base "is_name" pm_is_name 1 (sp_is_name K) := ⟨_, _, ok_is_name F13 m_all m_isinstance m_str m_len g_MOST_LETTERS g_LETTERS, g13, k13, b13⟩
  have C_name_fault : Cal l.prog w K mg base "name_fault" pm_name_fault 2 (sp_name_fault K) := ⟨_, _, ok_name_fault F14 C_is_name, g14, k14, b14⟩
  have C_own_fault : Cal l.prog w K mg base "own_fault" pm_own_fault 1 (sp_own_fault K) := ⟨_, _, ok_own_fault F15 m_len m_isinstance m_tuple m_str g_MOST_DEPTH g_MOST_FORMS g_LENGTHS D_LENGTHS, g15, k15, b15⟩
  have C_kind_fault : Cal l.prog w K mg base "kind_fault" pm_kind_fault 43 (sp_kind_fault K 10) := ⟨_, _, ok_kind_fault F16 g16 b16 C_own_fault C_is_between C_is_tuple_of C_name_fault F17 g17 k17 b17 F18 g18 k18 b18 m_isinstance m_tuple m_len m_enumerate m_str g_MOST_PARTS g_MOST_MANY g_MOST_BITS g_PART_WORDS h_PART_WORDS 10, g16, k16, b16⟩
  have C_heads_of : Cal l.prog w K mg base "heads_of" pm_heads_of 1 (sp_heads_of K) := ⟨_, _, ok_heads_of F20 m_len, g20, k20, b20⟩
  have C_head_fault : Cal l.prog w K mg base "head_fault" pm_head_fault 3 (sp_head_fault K) := ⟨_, _, ok_head_fault F19 C_name_fault C_is_tuple_of m_enumerate m_isinstance m_tuple m_len g_MOST_HOLES, g19, k19, b19⟩
  have C_closed_fault : Cal l.prog w K mg base "closed_fault" pm_closed_fault 44 (sp_closed_fault K) := ⟨_, _, ok_closed_fault F22 C_kind_fault C_heads_of M_Look G_Look g_Look b4, g22, k22, b22⟩
  have C_bookfault : Cal l.prog w K mg base "bookfault" pm_bookfault 44 (sp_bookfault K) := ⟨_, _, ok_bookfault F21 C_heads_of C_head_fault C_kind_fault m_enumerate m_isinstance m_tuple m_len g_MOST_DECLARATIONS M_Look G_Look g_Look b4, g21, k21, b21⟩
  have C_refuse_book : CalX l.prog w K mg base "refuse_book" pm_refuse_book 45 (sp_refuse_book K C_BadBook) := ⟨_, _, ok_refuse_book F23 C_bookfault T_BadBook G_BadBook b1, g23, k23, b23⟩
  have C_refuse_unformed : CalX l.prog w K mg base "refuse_unformed" pm_refuse_unformed 46 (sp_refuse_unformed K C_BadBook C_BadKind) := ⟨_, _, ok_refuse_unformed F24 C_refuse_book C_closed_fault T_BadKind G_BadKind b2, g24, k24, b24⟩
  have C_inner_kinds : Cal l.prog w K mg base "inner_kinds" pm_inner_kinds 1 (sp_inner_kinds K) := ⟨_, _, ok_inner_kinds F8 m_tuple g_PART_WORDS h_PART_WORDS, g8, k8, b8⟩
  have C_with_inner : Cal l.prog w K mg base "with_inner" pm_with_inner 1 (sp_with_inner K) := ⟨_, _, ok_with_inner F9 m_tuple m_zip g_PART_WORDS h_PART_WORDS, g9, k9, b9⟩
  have C_filled : Cal l.prog w K mg base "filled" pm_filled 10 (sp_filled K 8) := ⟨_, _, ok_filled F25 g25 b25 C_with_inner C_inner_kinds 8, g25, k25, b25⟩
  have C_body_of : Cal l.prog w K mg base "body_of" pm_body_of 11 (sp_body_of K) := ⟨_, _, ok_body_of F26 C_filled m_dict m_zip, g26, k26, b26⟩
  have C_parts_of : Cal l.prog w K mg base "parts_of" pm_parts_of 12 (sp_parts_of K) := ⟨_, _, ok_parts_of F27 C_inner_kinds C_body_of, g27, k27, b27⟩
  have C_shown : Cal l.prog w K mg base "shown" K2.pm_shown 18 (K2.spSh K 17) := ⟨_, _, K2.ok_shown F12 g12 b12 g_PART_WORDS h_PART_WORDS 17, g12, k12, b12⟩
  have C_forms_in : Cal l.prog w K mg base "forms_in" pm_forms_in 19 (sp_forms_in K 17) := ⟨_, _, ok_forms_in F10 g10 b10 C_inner_kinds m_sum 17, g10, k10, b10⟩
  have C_depth_of : Cal l.prog w K mg base "depth_of" pm_depth_of 19 (sp_depth_of K 17) := ⟨_, _, ok_depth_of F11 g11 b11 C_inner_kinds m_max 17, g11, k11, b11⟩
  have C_met_kinds : CalX l.prog w K mg base "met_kinds" pm_met_kinds 20 (sp_met_kinds K C_TooMany) := ⟨_, _, ok_met_kinds F28 C_shown C_forms_in C_depth_of C_parts_of m_tuple m_len g_MOST_FORMS g_MOST_DEPTH T_TooMany G_TooMany b3, g28, k28, b28⟩
  have G_reach := ok_reach (P := l.prog) (w := w) (base := base) F29 C_refuse_unformed C_met_kinds g_MOST_KINDS
  have TT : K2.ErT K mg C_PackError C_Endless C_TooGreat C_BadKind C_TooMany := { gP := g_PackError, gE := g_Endless, gG := g_TooGreat, gK := g_BadKind, gT := g_TooMany, tt := exm_of eC_TooMany iC_TooMany tC_TooMany su_TooMany_TooMany, iT := ⟨iC_TooMany, ga_TooMany, gg_TooMany, eC_TooMany, ca_TooMany, sgC, tkC, mr_TooMany⟩, xT := ⟨ga_TooMany, gg_TooMany, eC_TooMany, hC_TooMany⟩, fT := n_TooMany_kind, pT := kone_of iC_PackError tC_PackError su_TooMany_PackError ne_TooMany_PackError, aT := kany_none _ (fun c hc => by rcases List.mem_cons.mp hc with e | hc; (rw [e]; exact kone_of iC_Endless tC_Endless su_TooMany_Endless ne_TooMany_Endless); rcases List.mem_cons.mp hc with e | hc; (rw [e]; exact kone_of iC_TooGreat tC_TooGreat su_TooMany_TooGreat ne_TooMany_TooGreat); (rw [List.mem_singleton.mp hc]; exact kone_of iC_BadKind tC_BadKind su_TooMany_BadKind ne_TooMany_BadKind)) }
  have C__law_pick : Cal l.prog w K mg base "_law_pick" K2.pm__law_pick 1 K2.sp__law_pick := ⟨_, _, K2.ok__law_pick F31 m_len, g31, k31, b31⟩
  have C__law_deck : Cal l.prog w K mg base "_law_deck" K2.pm__law_deck 1 (K2.sp__law_deck K) := ⟨_, _, K2.ok__law_deck F30 m_list m_int m_len, g30, k30, b30⟩
  have C__law_letters : Cal l.prog w K mg base "_law_letters" ["_law_deck_here", "_law_many"] 2 K2.spLet := ⟨_, _, K2.ok_letters F33 C__law_pick m_range, g33, k33, b33⟩
  have C__law_names : Cal l.prog w K mg base "_law_names" ["_law_deck_here", "_law_many"] 3 K2.spNames := ⟨_, _, K2.ok_names F34 C__law_pick C__law_letters m_range m_len m_list, g34, k34, b34⟩
  have C__law_leaf : Cal l.prog w K mg base "_law_leaf" ["_law_deck_here", "_law_holes"] 2 (K2.spLeaf K) := ⟨_, _, K2.ok_leaf F35 C__law_pick m_len, g35, k35, b35⟩
  have C__law_kind : Cal l.prog w K mg base "_law_kind" K2.psKd 11 (K2.spK K 8) := ⟨_, _, K2.ok_kind F36 g36 b36 C__law_pick C__law_leaf C__law_names m_len m_int m_min m_tuple m_range 8, g36, k36, b36⟩
  have C__law_heads : Cal l.prog w K mg base "_law_heads" K2.pm__law_heads 1 (K2.sp__law_heads K) := ⟨_, _, K2.ok__law_heads F38 m_len, g38, k38, b38⟩
  have C__law_book : Cal l.prog w K mg base "_law_book" K2.pm__law_book 12 (K2.sp__law_book K) := ⟨_, _, K2.ok__law_book F37 C__law_names C__law_pick C__law_kind m_tuple, g37, k37, b37⟩
  have C__law_same : Cal l.prog w K mg base "_law_same" K2.pm__law_same 1 (K2.sp__law_same K) := ⟨_, _, K2.ok__law_same F32 m_isinstance m_tuple m_len m_range m_bool m_str, g32, k32, b32⟩
  have C__law_filled : Cal l.prog w K mg base "_law_filled" K2.pm__law_filled 18 (K2.sp__law_filled K 17) := ⟨_, _, K2.ok__law_filled F40 g40 b40 m_tuple 17, g40, k40, b40⟩
  have C__law_parts : Cal l.prog w K mg base "_law_parts" K2.pm__law_parts 19 (K2.sp__law_parts K) := ⟨_, _, K2.ok__law_parts F41 C__law_filled m_dict m_zip, g41, k41, b41⟩
  have C__law_written : Cal l.prog w K mg base "_law_written" K2.pm__law_written 20 (K2.sp__law_written K) := ⟨_, _, K2.ok__law_written F42 C__law_parts m_list, g42, k42, b42⟩
  have C__law_size : Cal l.prog w K mg base "_law_size" K2.pm__law_size 38 (K2.sp__law_size K 17) := ⟨_, _, K2.ok__law_size F43 g43 b43 C__law_written m_sum m_max 17, g43, k43, b43⟩
  have C__law_reach : Cal l.prog w K mg base "_law_reach" K2.pm__law_reach 39 (K2.sp__law_reach K) := ⟨_, _, K2.ok__law_reach F44 C__law_size C__law_parts m_len, g44, k44, b44⟩
  have C__law_refused : Cal l.prog w K mg base "_law_refused" K2.pm__law_refused 48 (K2.sp__law_refused K) := ⟨_, _, K2.ok__law_refused F45 TT G_reach g29 k29 b_reach d_reach kb_reach m_isinstance, g45, k45, b45⟩
  have C__law_right : Cal l.prog w K mg base "_law_right" K2.pm__law_right 49 (K2.sp__law_right K) := ⟨_, _, K2.ok__law_right F46 C__law_reach C__law_refused C__law_same m_isinstance m_tuple m_len, g46, k46, b46⟩
  have C__law_grown : Cal l.prog w K mg base "_law_grown" K2.pm__law_grown 4 (K2.sp__law_grown K) := ⟨_, _, K2.ok__law_grown F39 C__law_pick C__law_names C__law_leaf m_tuple m_len, g39, k39, b39⟩
  exact K2.ok_law F47 C__law_deck C__law_pick C__law_book C__law_kind C__law_reach C__law_heads C__law_grown C__law_same C__law_right G_reach g29 k29 b_reach d_reach m_len m_tuple g_MOST_KINDS
end K3
open PySem PySem.W PyProof.Rows
set_option maxHeartbeats 0 in
theorem PySem.Challenge.cw_packedforms_k06_reaches_holds : PySem.Challenge.rw_packedforms_k06_reaches.Holds := by
  w_on; o_law; k_head; (case hw => w_witness2)
  k_fill
  refine L2.walk_of (l := PySem.Challenge.rw_packedforms_k06_reaches) (n := 63) (k := 50) (x := "_law_script") (CX := fun _ => L2.CX0) (sp := fun w => K2.sp_law _) rfl (by decide) rfl ⟨rfl, by decide, by decide⟩ (fun w h Y => PySem.W.kIn_of Y) ?F (fun _ _ a ns hl _ hS => ⟨a, ns, rfl, hS, hl, fun _ => rfl⟩) (fun _ _ _ _ _ h => h)
  case F =>
    intro w mg fa h KX G hmg
    refine' K3.all_mk KX G hmg ?ag_PART_WORDS ?lg_PART_WORDS ?ag_MOST_LETTERS ?ag_LETTERS ?ag_MOST_DEPTH ?ag_MOST_FORMS ?ag_LENGTHS ?lg_LENGTHS ?wg_LENGTHS ?ag_MOST_BITS ?ag_MOST_MANY ?ag_MOST_PARTS ?ag_MOST_HOLES ?ag_MOST_DECLARATIONS ?ag_MOST_KINDS ?aC_PackError ?iC_PackError ?tC_PackError ?eC_PackError ?aC_Endless ?iC_Endless ?tC_Endless ?eC_Endless ?aC_TooGreat ?iC_TooGreat ?tC_TooGreat ?eC_TooGreat ?aC_BadBook ?x_BadBook ?sa_BadBook ?ga_BadBook ?gg_BadBook ?kC_BadBook ?eC_BadBook ?tC_BadBook ?hC_BadBook ?iC_BadBook ?ca_BadBook ?mr_BadBook ?n_BadBook_place ?n_BadBook_why ?a1 ?l1 ?c1 ?k1 ?y1 ?aC_BadKind ?x_BadKind ?sa_BadKind ?ga_BadKind ?gg_BadKind ?kC_BadKind ?eC_BadKind ?tC_BadKind ?hC_BadKind ?iC_BadKind ?ca_BadKind ?mr_BadKind ?n_BadKind_place ?n_BadKind_why ?a2 ?l2 ?c2 ?k2 ?y2 ?aC_TooMany ?x_TooMany ?sa_TooMany ?ga_TooMany ?gg_TooMany ?kC_TooMany ?eC_TooMany ?tC_TooMany ?hC_TooMany ?iC_TooMany ?ca_TooMany ?mr_TooMany ?n_TooMany_kind ?a3 ?l3 ?c3 ?k3 ?y3 ?su_TooMany_TooMany ?su_TooMany_PackError ?ne_TooMany_PackError ?su_TooMany_Endless ?ne_TooMany_Endless ?su_TooMany_TooGreat ?ne_TooMany_TooGreat ?su_TooMany_BadKind ?ne_TooMany_BadKind ?sgC ?tkC ?aC_Look ?pg_Look ?hd_Look ?po_Look ?sa_Look ?mk_Look ?kc_Look ?n_Look_heads ?n_Look_holes ?n_Look_forms ?a4 ?l4 ?c4 ?k4 ?i4 ?a5 ?l5 ?c5 ?k5 ?a6 ?l6 ?c6 ?k6 ?a7 ?l7 ?c7 ?k7 ?a8 ?l8 ?c8 ?k8 ?a9 ?l9 ?c9 ?k9 ?a10 ?l10 ?c10 ?k10 ?a11 ?l11 ?c11 ?k11 ?a12 ?l12 ?c12 ?k12 ?a13 ?l13 ?c13 ?k13 ?a14 ?l14 ?c14 ?k14 ?a15 ?l15 ?c15 ?k15 ?a16 ?l16 ?c16 ?k16 ?a17 ?l17 ?c17 ?k17 ?a18 ?l18 ?c18 ?k18 ?a19 ?l19 ?c19 ?k19 ?a20 ?l20 ?c20 ?k20 ?a21 ?l21 ?c21 ?k21 ?a22 ?l22 ?c22 ?k22 ?a23 ?l23 ?c23 ?k23 ?a24 ?l24 ?c24 ?k24 ?a25 ?l25 ?c25 ?k25 ?a26 ?l26 ?c26 ?k26 ?a27 ?l27 ?c27 ?k27 ?a28 ?l28 ?c28 ?k28 ?a29 ?l29 ?c29 ?k29 ?kwd ?a30 ?l30 ?c30 ?k30 ?a31 ?l31 ?c31 ?k31 ?a32 ?l32 ?c32 ?k32 ?a33 ?l33 ?c33 ?k33 ?a34 ?l34 ?c34 ?k34 ?a35 ?l35 ?c35 ?k35 ?a36 ?l36 ?c36 ?k36 ?a37 ?l37 ?c37 ?k37 ?a38 ?l38 ?c38 ?k38 ?a39 ?l39 ?c39 ?k39 ?a40 ?l40 ?c40 ?k40 ?a41 ?l41 ?c41 ?k41 ?a42 ?l42 ?c42 ?k42 ?a43 ?l43 ?c43 ?k43 ?a44 ?l44 ?c44 ?k44 ?a45 ?l45 ?c45 ?k45 ?a46 ?l46 ?c46 ?k46 ?a47 ?l47 ?c47 ?k47 ?z_isinstance ?z_int ?z_bool ?z_tuple ?z_len ?z_zip ?z_sum ?z_max ?z_all ?z_str ?z_enumerate ?z_dict ?z_list ?z_range ?z_min
    (case ag_PART_WORDS => k_is); (case lg_PART_WORDS => k_is); (case ag_MOST_LETTERS => k_is); (case ag_LETTERS => k_is); (case ag_MOST_DEPTH => k_is); (case ag_MOST_FORMS => k_is); (case ag_LENGTHS => k_is); (case lg_LENGTHS => k_is); (case wg_LENGTHS => rfl); (case ag_MOST_BITS => k_is); (case ag_MOST_MANY => k_is); (case ag_MOST_PARTS => k_is); (case ag_MOST_HOLES => k_is); (case ag_MOST_DECLARATIONS => k_is); (case ag_MOST_KINDS => k_is); (case aC_PackError => k_is); (case iC_PackError => k_is); (case tC_PackError => k_is); (case eC_PackError => k_is); (case aC_Endless => k_is); (case iC_Endless => k_is); (case tC_Endless => k_is); (case eC_Endless => k_is); (case aC_TooGreat => k_is); (case iC_TooGreat => k_is); (case tC_TooGreat => k_is); (case eC_TooGreat => k_is); (case aC_BadBook => k_is); (case x_BadBook => k_is); (case sa_BadBook => k_is); (case ga_BadBook => k_is); (case gg_BadBook => k_is); (case kC_BadBook => k_is); (case eC_BadBook => k_is); (case tC_BadBook => k_is); (case hC_BadBook => k_is); (case iC_BadBook => k_is); (case ca_BadBook => k_is); (case mr_BadBook => k_is); (case n_BadBook_place => k_is); (case n_BadBook_why => k_is); (case a1 => k_is); (case l1 => k_is); (case c1 => k_is); (case k1 => k_is); (case y1 => k_is); (case aC_BadKind => k_is); (case x_BadKind => k_is); (case sa_BadKind => k_is); (case ga_BadKind => k_is); (case gg_BadKind => k_is); (case kC_BadKind => k_is); (case eC_BadKind => k_is); (case tC_BadKind => k_is); (case hC_BadKind => k_is); (case iC_BadKind => k_is); (case ca_BadKind => k_is); (case mr_BadKind => k_is); (case n_BadKind_place => k_is); (case n_BadKind_why => k_is); (case a2 => k_is); (case l2 => k_is); (case c2 => k_is); (case k2 => k_is); (case y2 => k_is); (case aC_TooMany => k_is); (case x_TooMany => k_is); (case sa_TooMany => k_is); (case ga_TooMany => k_is); (case gg_TooMany => k_is); (case kC_TooMany => k_is); (case eC_TooMany => k_is); (case tC_TooMany => k_is); (case hC_TooMany => k_is); (case iC_TooMany => k_is); (case ca_TooMany => k_is); (case mr_TooMany => k_is); (case n_TooMany_kind => k_is); (case a3 => k_is); (case l3 => k_is); (case c3 => k_is); (case k3 => k_is); (case y3 => k_is); (case su_TooMany_TooMany => k_is); (case su_TooMany_PackError => k_is); (case ne_TooMany_PackError => rfl); (case su_TooMany_Endless => k_is); (case ne_TooMany_Endless => rfl); (case su_TooMany_TooGreat => k_is); (case ne_TooMany_TooGreat => rfl); (case su_TooMany_BadKind => k_is); (case ne_TooMany_BadKind => rfl); (case sgC => k_is); (case tkC => k_is); (case aC_Look => k_is); (case pg_Look => k_is); (case hd_Look => k_is); (case po_Look => k_is); (case sa_Look => k_is); (case mk_Look => k_is); (case kc_Look => k_is); (case n_Look_heads => k_is); (case n_Look_holes => k_is); (case n_Look_forms => k_is); (case a4 => k_is); (case l4 => k_is); (case c4 => k_is); (case k4 => k_is); (case i4 => k_is); (case a5 => k_is); (case l5 => k_is); (case c5 => k_is); (case k5 => k_is); (case a6 => k_is); (case l6 => k_is); (case c6 => k_is); (case k6 => k_is); (case a7 => k_is); (case l7 => k_is); (case c7 => k_is); (case k7 => k_is); (case a8 => k_is); (case l8 => k_is); (case c8 => k_is); (case k8 => k_is); (case a9 => k_is); (case l9 => k_is); (case c9 => k_is); (case k9 => k_is); (case a10 => k_is); (case l10 => k_is); (case c10 => k_is); (case k10 => k_is); (case a11 => k_is); (case l11 => k_is); (case c11 => k_is); (case k11 => k_is); (case a12 => k_is); (case l12 => k_is); (case c12 => k_is); (case k12 => k_is); (case a13 => k_is); (case l13 => k_is); (case c13 => k_is); (case k13 => k_is); (case a14 => k_is); (case l14 => k_is); (case c14 => k_is); (case k14 => k_is); (case a15 => k_is); (case l15 => k_is); (case c15 => k_is); (case k15 => k_is); (case a16 => k_is); (case l16 => k_is); (case c16 => k_is); (case k16 => k_is); (case a17 => k_is); (case l17 => k_is); (case c17 => k_is); (case k17 => k_is); (case a18 => k_is); (case l18 => k_is); (case c18 => k_is); (case k18 => k_is); (case a19 => k_is); (case l19 => k_is); (case c19 => k_is); (case k19 => k_is); (case a20 => k_is); (case l20 => k_is); (case c20 => k_is); (case k20 => k_is); (case a21 => k_is); (case l21 => k_is); (case c21 => k_is); (case k21 => k_is); (case a22 => k_is); (case l22 => k_is); (case c22 => k_is); (case k22 => k_is); (case a23 => k_is); (case l23 => k_is); (case c23 => k_is); (case k23 => k_is); (case a24 => k_is); (case l24 => k_is); (case c24 => k_is); (case k24 => k_is); (case a25 => k_is); (case l25 => k_is); (case c25 => k_is); (case k25 => k_is); (case a26 => k_is); (case l26 => k_is); (case c26 => k_is); (case k26 => k_is); (case a27 => k_is); (case l27 => k_is); (case c27 => k_is); (case k27 => k_is); (case a28 => k_is); (case l28 => k_is); (case c28 => k_is); (case k28 => k_is); (case a29 => k_is); (case l29 => k_is); (case c29 => k_is); (case k29 => k_is); (case kwd => k_is); (case a30 => k_is); (case l30 => k_is); (case c30 => k_is); (case k30 => k_is); (case a31 => k_is); (case l31 => k_is); (case c31 => k_is); (case k31 => k_is); (case a32 => k_is); (case l32 => k_is); (case c32 => k_is); (case k32 => k_is); (case a33 => k_is); (case l33 => k_is); (case c33 => k_is); (case k33 => k_is); (case a34 => k_is); (case l34 => k_is); (case c34 => k_is); (case k34 => k_is); (case a35 => k_is); (case l35 => k_is); (case c35 => k_is); (case k35 => k_is); (case a36 => k_is); (case l36 => k_is); (case c36 => k_is); (case k36 => k_is); (case a37 => k_is); (case l37 => k_is); (case c37 => k_is); (case k37 => k_is); (case a38 => k_is); (case l38 => k_is); (case c38 => k_is); (case k38 => k_is); (case a39 => k_is); (case l39 => k_is); (case c39 => k_is); (case k39 => k_is); (case a40 => k_is); (case l40 => k_is); (case c40 => k_is); (case k40 => k_is); (case a41 => k_is); (case l41 => k_is); (case c41 => k_is); (case k41 => k_is); (case a42 => k_is); (case l42 => k_is); (case c42 => k_is); (case k42 => k_is); (case a43 => k_is); (case l43 => k_is); (case c43 => k_is); (case k43 => k_is); (case a44 => k_is); (case l44 => k_is); (case c44 => k_is); (case k44 => k_is); (case a45 => k_is); (case l45 => k_is); (case c45 => k_is); (case k45 => k_is); (case a46 => k_is); (case l46 => k_is); (case c46 => k_is); (case k46 => k_is); (case a47 => k_is); (case l47 => k_is); (case c47 => k_is); (case k47 => k_is); (case z_isinstance => k_is); (case z_int => k_is); (case z_bool => k_is); (case z_tuple => k_is); (case z_len => k_is); (case z_zip => k_is); (case z_sum => k_is); (case z_max => k_is); (case z_all => k_is); (case z_str => k_is); (case z_enumerate => k_is); (case z_dict => k_is); (case z_list => k_is); (case z_range => k_is); (case z_min => k_is)
