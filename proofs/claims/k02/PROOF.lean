import PyProof.Rows.All
import Wide.All
import OpenK.AllK
import Wide.FinOn
import HandS.ForMost
import HandS.IsInst
import HandS.TupAny
import HandS.Wide
import HandS.NoneIn
import HandS.Flow
import HandS.FStr
import HandS.Conv
import HandS.Deep
import HandS.Style
import PySem.Challenge.RW_packedforms_k02_kinds_shown
set_option Elab.async false
set_option linter.all false
set_option maxRecDepth 100000
set_option maxHeartbeats 2000000
namespace K1
open PySem PySem.Spec PyProof.Rows L2
/-! ### written things as data -/
mutual
/-- None, truths, numbers, texts of right signs, tuples of such -/
def pl : PyData → Bool
  | .none => true
  | .bool _ => true
  | .int _ => true
  | .str x => PyData.strOk x
  | .tuple ds => plA ds
  | .list _ => false
  | .dict _ => false
def plA : List PyData → Bool
  | [] => true
  | d :: ds => pl d && plA ds
end
mutual
/-- how great a thing is: tuples and leaves, signs of texts -/
def sz : PyData → Nat
  | .none => 1
  | .bool _ => 1
  | .int _ => 1
  | .str x => x.length + 1
  | .tuple ds => szA ds + 1
  | .list _ => 1
  | .dict _ => 1
def szA : List PyData → Nat
  | [] => 0
  | d :: ds => sz d + szA ds
end
theorem sz_pos : ∀ d, 1 ≤ sz d
  | .none => Nat.le_refl _
  | .bool _ => Nat.le_refl _
  | .int _ => Nat.le_refl _
  | .str x => Nat.succ_le_succ (Nat.zero_le _)
  | .tuple ds => Nat.succ_le_succ (Nat.zero_le _)
  | .list _ => Nat.le_refl _
  | .dict _ => Nat.le_refl _
theorem len_szA : ∀ ds : List PyData, ds.length ≤ szA ds
  | [] => Nat.le_refl _
  | d :: ds => by
    have h1 := sz_pos d
    have h2 := len_szA ds
    simp only [List.length_cons, szA]
    omega
mutual
theorem canLay : ∀ d, pl d = true → PyData.canLay0 d = true
  | .none, _ => rfl
  | .bool _, _ => rfl
  | .int _, _ => rfl
  | .str _, h => h
  | .tuple ds, h => canLayA ds h
  | .list _, h => by cases h
  | .dict _, h => by cases h
theorem canLayA : ∀ ds, plA ds = true → PyData.canLayAll0 ds = true
  | [], _ => rfl
  | d :: ds, h => by
    have h' : pl d = true ∧ plA ds = true := by simpa [plA] using h
    show (PyData.canLay0 d && PyData.canLayAll0 ds) = true
    rw [canLay d h'.1, canLayA ds h'.2]
    rfl
end
theorem plA_mem : ∀ {ds : List PyData} {d : PyData}, plA ds = true → d ∈ ds → pl d = true
  | d :: ds, e, h, m => by
    have h' : pl d = true ∧ plA ds = true := by simpa [plA] using h
    rcases List.mem_cons.mp m with rfl | m
    · exact h'.1
    · exact plA_mem h'.2 m
theorem plA_of : ∀ {ds : List PyData}, (∀ d ∈ ds, pl d = true) → plA ds = true
  | [], _ => rfl
  | d :: ds, h => by
    show (pl d && plA ds) = true
    rw [h d List.mem_cons_self, plA_of fun e m => h e (List.mem_cons_of_mem _ m)]
    rfl
theorem szA_append : ∀ xs ys : List PyData, szA (xs ++ ys) = szA xs + szA ys
  | [], ys => by simp [szA]
  | x :: xs, ys => by
    simp only [List.cons_append, szA, szA_append xs ys]
    omega
theorem sz_mem : ∀ {ds : List PyData} {d : PyData}, d ∈ ds → sz d ≤ szA ds
  | d :: ds, e, m => by
    simp only [szA]
    rcases List.mem_cons.mp m with rfl | m
    · omega
    · have := sz_mem m
      omega
theorem szA_le {b : Nat} : ∀ {ds : List PyData}, (∀ d ∈ ds, sz d ≤ b) → szA ds ≤ ds.length * b
  | [], _ => by simp [szA]
  | d :: ds, h => by
    have h1 := h d List.mem_cons_self
    have h2 := szA_le fun e m => h e (List.mem_cons_of_mem _ m)
    simp only [szA, List.length_cons, Nat.add_mul]
    omega
theorem depthA_le {b : Nat} : ∀ {ds : List PyData}, (∀ d ∈ ds, d.depth ≤ b) → PyData.depthAll ds ≤ b
  | [], _ => by simp [PyData.depthAll]
  | d :: ds, h => by
    have h1 := h d List.mem_cons_self
    have h2 := depthA_le fun e m => h e (List.mem_cons_of_mem _ m)
    simp only [PyData.depthAll]
    omega
theorem depth_mem : ∀ {ds : List PyData} {d : PyData}, d ∈ ds → d.depth ≤ PyData.depthAll ds
  | d :: ds, e, m => by
    simp only [PyData.depthAll]
    rcases List.mem_cons.mp m with rfl | m
    · omega
    · have := depth_mem m
      omega
theorem depth_tuple (ds : List PyData) : (PyData.tuple ds).depth = PyData.depthAll ds + 1 := by simp [PyData.depth]
/-! ### heaps: what tuples stand -/
section
variable {K : PySem.W.Frag} {H H1 H2 : Hp}
def TS (K : PySem.W.Frag) (H H' : Hp) : Prop := ∀ a xs, SqT K H a xs → SqT K H' a xs
theorem TS.refl : TS K H H := fun _ _ h => h
theorem TS.trans (a : TS K H H1) (b : TS K H1 H2) : TS K H H2 := fun x xs h => b x xs (a x xs h)
theorem ts_same (s : Same H H1) : TS K H H1 := fun a xs h => by
  rcases h with (h | ⟨o, h⟩) | h
  · exact .inl (.inl (s _ _ h))
  · exact .inl (.inr ⟨o, s _ _ h⟩)
  · exact .inr h
theorem ts_new {p : Addr} {o : HO} (h : H p = none) : TS K H (upd H p o) := ts_same fun b u e => by rw [upd_ne (ne_of_none e h)]; exact e
theorem ts_but {S : Addr → Prop} (hS : ∀ b, S b → ∃ xs, H b = some (.lst xs)) (k : ∀ b o, ¬ S b → H b = some o → H1 b = some o) : TS K H H1 := fun a xs h => by
  rcases h with (h | ⟨o, h⟩) | h
  · refine .inl (.inl (k _ _ (fun z => ?_) h))
    obtain ⟨ys, e⟩ := hS a z
    rw [e] at h
    cases h
  · refine .inl (.inr ⟨o, k _ _ (fun z => ?_) h⟩)
    obtain ⟨ys, e⟩ := hS a z
    rw [e] at h
    cases h
  · exact .inr h
theorem ts_lst {l : Addr} {xs ys : List V} (h : H l = some (.lst xs)) : TS K H (upd H l (.lst ys)) :=
  ts_but (S := fun b => b = l) (fun b e => ⟨xs, by rw [e]; exact h⟩) fun b o n e => by rw [upd_ne n]; exact e
theorem same_upd {p : Addr} {o : HO} (h : H p = none) : Same H (upd H p o) := fun b x e => by rw [upd_ne (ne_of_none e h)]; exact e
mutual
theorem TS.dp (t : TS K H H1) : ∀ (d : PyData) (v : V), pl d = true → Dp K H v d → Dp K H1 v d
  | .none, _, _, h => by cases h; exact .non
  | .bool b, _, _, h => by cases h; exact .bl b
  | .int i, _, _, h => by cases h; exact .int i
  | .str x, _, _, h => by cases h; exact .str x
  | .tuple ds, _, p, h => by
    cases h with
    | tup hs ha => exact .tup (t _ _ hs) (TS.dps t ds _ p ha)
  | .list _, _, p, _ => by cases p
  | .dict _, _, p, _ => by cases p
theorem TS.dps (t : TS K H H1) : ∀ (ds : List PyData) (vs : List V), plA ds = true → DpAll K H vs ds → DpAll K H1 vs ds
  | [], _, _, h => by cases h; exact .nil
  | d :: ds, _, p, h => by
    have p' : pl d = true ∧ plA ds = true := by simpa [plA] using p
    cases h with
    | cons h1 h2 => exact .cons (TS.dp t d _ p'.1 h1) (TS.dps t ds _ p'.2 h2)
end
theorem dpAll_len : ∀ {vs : List V} {ds : List PyData}, DpAll K H vs ds → vs.length = ds.length
  | _, _, .nil => rfl
  | _, _, .cons _ t => by simp [dpAll_len t]
theorem dpAll_get : ∀ {vs : List V} {ds : List PyData} {i : Nat} {v : V}, DpAll K H vs ds → vs[i]? = some v → ∃ d, ds[i]? = some d ∧ Dp K H v d
  | _, _, i, v, .nil, e => by simp at e
  | _, _, 0, v, .cons h t, e => by
    simp at e
    subst e
    exact ⟨_, rfl, h⟩
  | _, _, i + 1, v, .cons h t, e => by
    obtain ⟨d, e1, e2⟩ := dpAll_get (i := i) t (by simpa using e)
    exact ⟨d, by simpa using e1, e2⟩
theorem dpAll_append : ∀ {vs ws : List V} {ds es : List PyData}, DpAll K H vs ds → DpAll K H ws es → DpAll K H (vs ++ ws) (ds ++ es)
  | _, _, _, _, .nil, s => s
  | _, _, _, _, .cons h t, s => .cons h (dpAll_append t s)
theorem dpAll_take : ∀ {vs : List V} {ds : List PyData} (n : Nat), DpAll K H vs ds → DpAll K H (vs.take n) (ds.take n)
  | _, _, 0, _ => by simp; exact .nil
  | _, _, _ + 1, .nil => by simp; exact .nil
  | _, _, n + 1, .cons h t => .cons h (dpAll_take n t)
theorem dpAll_drop : ∀ {vs : List V} {ds : List PyData} (n : Nat), DpAll K H vs ds → DpAll K H (vs.drop n) (ds.drop n)
  | _, _, 0, r => r
  | _, _, _ + 1, .nil => by simp; exact .nil
  | _, _, n + 1, .cons _ t => dpAll_drop n t
end
/-! ### a few operators -/
section
variable {X : Cx}
/-- a != b of data, where one of them is not deep -/
def rNeM (K : PySem.W.Frag) : R2 := fun x y H Q => ∃ d e, Dp K H x d ∧ Dp K H y e ∧ d.canLay0 = true ∧ e.canLay0 = true ∧ min d.depth e.depth ≤ 64 ∧ Q (.bl (!PyData.eqv d e)) H
def rEqM (K : PySem.W.Frag) : R2 := fun x y H Q => ∃ d e, Dp K H x d ∧ Dp K H y e ∧ d.canLay0 = true ∧ e.canLay0 = true ∧ min d.depth e.depth ≤ 64 ∧ Q (.bl (PyData.eqv d e)) H
theorem op_neM (hu : X.A.units + 64 < cLine) : OpR X (compareOp .NotEq) (rNeM X.K) := by
  intro pins s σ H x y v u Q I rx ry h
  obtain ⟨d, e, hd, he, sd, se, hm, q⟩ := h
  obtain ⟨as, r1⟩ := Dp.reads I d x v hd rx
  obtain ⟨bs, r2⟩ := Dp.reads I e y u he ry
  exact SeqAt.compareNe_reads r1 r2 sd se (Nat.lt_of_le_of_lt (Nat.add_le_add_left hm _) hu) ⟨.bl _, H, I, rfl, q⟩
theorem op_eqM (hu : X.A.units + 64 < cLine) : OpR X (compareOp .Eq) (rEqM X.K) := by
  intro pins s σ H x y v u Q I rx ry h
  obtain ⟨d, e, hd, he, sd, se, hm, q⟩ := h
  obtain ⟨as, r1⟩ := Dp.reads I d x v hd rx
  obtain ⟨bs, r2⟩ := Dp.reads I e y u he ry
  exact SeqAt.compareEq_reads r1 r2 sd se (Nat.lt_of_le_of_lt (Nat.add_le_add_left hm _) hu) ⟨.bl _, H, I, rfl, q⟩
def CPowW (i j : Int) : Prop := 0 ≤ j ∧ (Builtin.Int.intBits i : Int) * j ≤ 2 ^ 27
theorem op_powW : OpR X (binaryOp .Pow) (rI CPowW fun i j => .int (i ^ j.toNat)) := opI fun _ _ _ _ _ _ _ hc q => pow_int hc.1 hc.2 q
end
end K1
namespace K1
open PySem PySem.Spec PyProof.Rows L2
def topS (i : Nat) : Stmt := PySem.Challenge.pw_packedforms_k02_kinds_shown.main.body.getD i (.Pass ⟨0, 0, 0, 0⟩)
abbrev sPick : Stmt := topS 5
theorem scP : FnScope ["_law_deck_here", "_law_many", "_law_cells", "_law_drawn", "_law_left", "_law_at", "_law_digit", "_law_low", "_law_high"] ["_law_deck_here", "_law_many"] (defScope sPick) :=
  ⟨rfl, rfl, rfl, by decide +kernel, rfl, by decide +kernel, by decide +kernel⟩
/-! ### the deck -/
structure Dk (H : Hp) (dk cl lf : Addr) : Prop where
  ex : ∃ (cells lefts : List Int) (n : Int), H dk = some (.lst [.ref cl, .int n, .ref lf]) ∧ H cl = some (.lst (cells.map V.int)) ∧ H lf = some (.lst (lefts.map V.int)) ∧ cells.length = lefts.length ∧ 0 < cells.length ∧ cells.length ≤ 100 ∧ 0 ≤ n
  ne : cl ≠ lf
/-- all but the deck's own lists stays -/
def KD (dk lf : Addr) (H H' : Hp) : Prop := ∀ b o, b ≠ dk → b ≠ lf → H b = some o → H' b = some o
theorem KD.refl {dk lf : Addr} {H : Hp} : KD dk lf H H := fun _ _ _ _ h => h
theorem KD.trans {dk lf : Addr} {H H1 H2 : Hp} (a : KD dk lf H H1) (b : KD dk lf H1 H2) : KD dk lf H H2 := fun c o n1 n2 h => b c o n1 n2 (a c o n1 n2 h)
theorem Dk.ts {K : PySem.W.Frag} {H H' : Hp} {dk cl lf : Addr} (d : Dk H dk cl lf) (k : KD dk lf H H') : TS K H H' := by
  obtain ⟨⟨cells, lefts, n, e1, e2, e3, _⟩, _⟩ := d
  refine ts_but (S := fun b => b = dk ∨ b = lf) (fun b z => ?_) fun b o n e => k b o (fun z => n (.inl z)) (fun z => n (.inr z)) e
  rcases z with rfl | rfl
  · exact ⟨_, e1⟩
  · exact ⟨_, e3⟩
theorem Dk.same {H H' : Hp} {dk cl lf : Addr} (d : Dk H dk cl lf) (s : Same H H') : Dk H' dk cl lf := by
  obtain ⟨⟨cells, lefts, n, e1, e2, e3, r⟩, ne⟩ := d
  exact ⟨⟨cells, lefts, n, s _ _ e1, s _ _ e2, s _ _ e3, r⟩, ne⟩
theorem KD.of_same {dk lf : Addr} {H H' : Hp} (s : Same H H') : KD dk lf H H' := fun b o _ _ e => s b o e
theorem emod_bounds (a : Int) {m : Int} (h : 0 < m) : 0 ≤ a % m ∧ a % m < m := ⟨Int.emod_nonneg a (by omega), Int.emod_lt_of_pos a h⟩
theorem small64 {i : Int} {m : Int} (hm : m ≤ 2 ^ 40) (h0 : 0 ≤ i) (h1 : i ≤ m) : -(2 ^ 64) < i ∧ i < 2 ^ 64 := by omega
theorem atI_of {xs : List V} {j : Nat} {v : V} {i : Int} (e : i = (j : Int)) (h : xs[j]? = some v) : atI xs i = some v := by subst e; exact atI_nat h
section
variable {P : Program} {w : World} {K : PySem.W.Frag} {mg : Str → Option Value} {base : Heap}
def spPick : Sp := fun vs H Q _ => ∃ (dk cl lf : Addr) (m : Int), vs = [.ref dk, .int m] ∧ Dk H dk cl lf ∧ 0 < m ∧ m.natAbs.log2 < 9000 ∧
  ∀ (d : Int) (H' : Hp), 0 ≤ d → d < m → Dk H' dk cl lf → KD dk lf H H' → Q (.int d) H'
theorem ok_pick {f : Addr} {fd : FuncData} {k : Nat} (F : Fun K "_law_pick" "_law_pick" sPick f fd) (ml : mg "len" = none) : FnOk P w K mg base CX0 (k + 1) f fd ["_law_deck_here", "_law_many"] spPick := by
  refine F.ok scP (fun vs H Q E h => ?_) (fun cdv A outer s H vs Q E hr h => ?_)
  · obtain ⟨dk, cl, lf, m, rfl, _⟩ := h
    rfl
  · obtain ⟨dk, cl, lf, m, rfl, ⟨⟨cells, lefts, n, e1, e2, e3, hlen, hpos, hmx, hn⟩, hne⟩, hm, hm2, q⟩ := h
    refine ⟨_, pss_cons (ps_asg (pv 0) (pg_unl rfl (pgs_cons (pg_name (i := 2) scP.nd rfl (.inl rfl)) (pgs_cons (pg_name (i := 3) scP.nd rfl (.inl rfl)) (pgs_cons (pg_name (i := 4) scP.nd rfl (.inl rfl)) pgs_nil)))))
      (pss_cons (ps_set (i := 5) scP.nd rfl (.inl rfl) (pe_op op_mod (pv 3) (pe_callB call_len_seq (by rfl) ml PySem.boot_len (pa_cons (pv 2) pa_nil))))
      (pss_cons (ps_asg (pe_op op_add (pv 3) pe_int) (pg_sub (pv 0) pe_int set_list))
      (pss_cons (ps_if (pt_cmpR op_gt (pe_ix ix_list (pv 4) (pv 5) (fun _ _ => rfl)) pe_int (nomark _))
        (pss_cons (ps_set (i := 6) scP.nd rfl (.inl rfl) (pe_op op_mod (pe_ix ix_list (pv 4) (pv 5) (fun _ _ => rfl)) (pv 1)))
        (pss_cons (ps_asg (pe_op op_fdivW (pe_ix ix_list (pv 4) (pv 5) (fun _ _ => rfl)) (pv 1)) (pg_sub (pv 4) (pv 5) set_list))
        (pss_one (ps_ret (pv 6))))) pss_nil)
      (pss_cons (ps_set (i := 7) scP.nd rfl (.inl rfl) (pe_op op_mod (pe_op op_mul (pe_op op_add (pe_op op_mod (pe_ix ix_list (pv 2) (pv 5) (fun _ _ => rfl)) pe_int) pe_int) (pe_op op_add (pe_op op_add (pe_op op_mul pe_int (pv 3)) pe_int) (pv 5))) pe_int))
      (pss_cons (ps_set (i := 8) scP.nd rfl (.inl rfl) (pe_op op_add (pe_op op_mod (pe_op op_fdivW (pe_ix ix_list (pv 2) (pv 5) (fun _ _ => rfl)) pe_int) pe_int) pe_int))
      (pss_cons (ps_set (i := 8) scP.nd rfl (.inl rfl) (pe_op op_mod (pe_op op_mul (pv 8) (pe_op op_add pe_int (pe_op op_mul pe_int (pv 3)))) pe_int))
      (pss_cons (ps_set (i := 7) scP.nd rfl (.inl rfl) (pe_op op_mod (pe_op op_add (pe_op op_add (pe_op op_mul (pv 7) (pv 7)) (pe_op op_mul pe_int (pv 8))) (pv 3)) pe_int))
      (pss_cons (ps_set (i := 8) scP.nd rfl (.inl rfl) (pe_op op_mod (pe_op op_add (pe_op op_add (pe_op op_mul (pv 8) (pv 8)) (pe_op op_mul pe_int (pv 7))) (pv 5)) pe_int))
      (pss_one (ps_ret (pe_op op_mod (pe_op op_mod (pe_op op_add (pe_op op_mul (pv 7) pe_int) (pv 8)) pe_int) (pv 1)))))))))))), ?_⟩
    have hS1 : SqL K H dk [.ref cl, .int n, .ref lf] := .inl (.inl e1)
    have hS2 : SqL K H cl (cells.map V.int) := .inl (.inl e2)
    have hS3 : SqL K H lf (lefts.map V.int) := .inl (.inl e3)
    refine ⟨.ref dk, rfl, dk, _, rfl, hS1, rfl, _, _, rfl, _, _, rfl, _, _, rfl, rfl, ?_⟩
    -- at = drawn % len(cells)
    refine ⟨.int n, rfl, .ref cl, rfl, cl, _, rfl, .inl hS2, n, (cells.map V.int).length, rfl, rfl, ?_, ?_⟩
    · show (0 : Int) < ((cells.map V.int).length : Nat)
      rw [List.length_map]
      omega
    · have hlm : (cells.map V.int).length = cells.length := List.length_map ..
      obtain ⟨j, hj, ej⟩ : ∃ j : Nat, j < cells.length ∧ n % (((cells.map V.int).length : Nat) : Int) = (j : Int) := by
        have hb := emod_bounds n (m := ((cells.map V.int).length : Nat)) (by rw [hlm]; omega)
        rw [hlm] at hb ⊢
        exact ⟨(n % (cells.length : Int)).toNat, by omega, by omega⟩
      have eat : ((fun i j => V.int (i % j)) n (((cells.map V.int).length : Nat) : Int)) = V.int (j : Int) := congrArg V.int ej
      rw [eat]
      have hj2 : j < lefts.length := by omega
      have gc : (cells.map V.int)[j]? = some (.int cells[j]) := by rw [List.getElem?_map, List.getElem?_eq_getElem hj]; rfl
      have gl : (lefts.map V.int)[j]? = some (.int lefts[j]) := by rw [List.getElem?_map, List.getElem?_eq_getElem hj2]; rfl
      have nd1 : cl ≠ dk := ne_of e2 e1 (fun z => by
        injection z with z
        cases cells with
        | nil => simp at hpos
        | cons c r => simp at z)
      have nd2 : lf ≠ dk := ne_of e3 e1 (fun z => by
        injection z with z
        cases lefts with
        | nil => simp at hj2
        | cons c r => simp at z)
      -- deck[1] = drawn + 1
      refine ⟨.int n, rfl, n, 1, rfl, rfl, .ref dk, rfl, dk, _, 1, 1, rfl, rfl, e1, rfl, ?_⟩
      generalize hH1 : upd H dk (HO.lst ([V.ref cl, V.int n, V.ref lf].set 1 (V.int (n + 1)))) = H1
      have f1 : H1 dk = some (.lst [.ref cl, .int (n + 1), .ref lf]) := by rw [← hH1, upd_same]; rfl
      have f2 : H1 cl = some (.lst (cells.map V.int)) := by rw [← hH1, upd_ne nd1]; exact e2
      have f3 : H1 lf = some (.lst (lefts.map V.int)) := by rw [← hH1, upd_ne nd2]; exact e3
      have k1 : KD dk lf H H1 := fun b o n1 n2 e => by rw [← hH1, upd_ne n1]; exact e
      have D1 : Dk H1 dk cl lf := ⟨⟨cells, lefts, n + 1, f1, f2, f3, hlen, hpos, hmx, by omega⟩, hne⟩
      have sl : SqL K H1 lf (lefts.map V.int) := .inl (.inl f3)
      have sc : SqL K H1 cl (cells.map V.int) := .inl (.inl f2)
      -- if left[at] > 0
      refine ⟨.ref lf, rfl, .int j, rfl, lf, _, _, _, rfl, rfl, sl, atI_nat gl, _, _, rfl, rfl, _, rfl, ite2 (fun _ => ?_) (fun _ => ?_)⟩
      · refine ⟨.ref lf, rfl, .int j, rfl, lf, _, _, _, rfl, rfl, sl, atI_nat gl, .int m, rfl, _, _, rfl, rfl, hm, ?_⟩
        refine ⟨.ref lf, rfl, .int j, rfl, lf, _, _, _, rfl, rfl, sl, atI_nat gl, .int m, rfl, _, _, rfl, rfl, ⟨hm, hm2⟩, .ref lf, rfl, .int j, rfl, lf, _, j, j, rfl, rfl, f3, ?_, ?_⟩
        · rw [List.length_map]
          unfold ixN
          rw [if_pos (by omega), if_pos (by omega)]
          simp
        · refine ⟨_, rfl, q _ _ (Int.emod_nonneg _ (by omega)) (Int.emod_lt_of_pos _ hm) ⟨⟨cells, lefts.set j (lefts[j] / m), n + 1, ?_, ?_, ?_, ?_, hpos, hmx, by omega⟩, hne⟩ ?_⟩
          · rw [upd_ne nd2.symm]; exact f1
          · rw [upd_ne hne]; exact f2
          · rw [upd_same, List.map_set]
          · rw [List.length_set]; exact hlen
          · intro b o n1 n2 e
            rw [upd_ne n2]
            exact k1 b o n1 n2 e
      · have c1 := emod_bounds cells[j] (m := 2147483647) (by decide)
        have c2 := emod_bounds (cells[j] / 2147483647) (m := 2147483647) (by decide)
        refine ⟨.ref cl, rfl, .int j, rfl, cl, _, _, _, rfl, rfl, sc, atI_nat gc, _, _, rfl, rfl, (by show (0 : Int) < 2147483647; decide), _, _, rfl, rfl, .int n, rfl, _, _, rfl, rfl, .inl ⟨by decide, by decide⟩, _, _, rfl, rfl, .int j, rfl, _, _, rfl, rfl, _, _, rfl, rfl, .inl ⟨by omega, by omega⟩, _, _, rfl, rfl, (by show (0 : Int) < 2147483629; decide), ?_⟩
        refine ⟨.ref cl, rfl, .int j, rfl, cl, _, _, _, rfl, rfl, sc, atI_nat gc, _, _, rfl, rfl, ⟨by decide, by decide +kernel⟩, _, _, rfl, rfl, (by show (0 : Int) < 2147483647; decide), _, _, rfl, rfl, ?_⟩
        dsimp only
        generalize hlow : ((cells[j] % 2147483647 + 1) * (1299709 * n + 15485863 + (j : Int))) % 2147483629 = low
        generalize hhigh : cells[j] / 2147483647 % 2147483647 + 3 = high
        have b1 : 0 ≤ low ∧ low < 2147483629 := by rw [← hlow]; exact emod_bounds _ (by decide)
        have b2 : 0 ≤ high ∧ high < 2147483650 := by omega
        refine ⟨.int high, rfl, .int n, rfl, _, _, rfl, rfl, .inl ⟨by decide, by decide⟩, _, _, rfl, rfl, _, _, rfl, rfl, .inl ⟨by omega, by omega⟩, _, _, rfl, rfl, (by show (0 : Int) < 2147483587; decide), ?_⟩
        dsimp only
        generalize hh2 : high * (49979687 + 86028121 * n) % 2147483587 = high2
        have b3 : 0 ≤ high2 ∧ high2 < 2147483587 := by rw [← hh2]; exact emod_bounds _ (by decide)
        refine ⟨.int low, rfl, .int low, rfl, _, _, rfl, rfl, .inl ⟨by omega, by omega⟩, .int high2, rfl, _, _, rfl, rfl, .inl ⟨by decide, by decide⟩, _, _, rfl, rfl, .int n, rfl, _, _, rfl, rfl, _, _, rfl, rfl, (by show (0 : Int) < 2147483579; decide), ?_⟩
        dsimp only
        generalize hl2 : (low * low + 32452843 * high2 + n) % 2147483579 = low2
        have b4 : 0 ≤ low2 ∧ low2 < 2147483579 := by rw [← hl2]; exact emod_bounds _ (by decide)
        refine ⟨.int high2, rfl, .int high2, rfl, _, _, rfl, rfl, .inl ⟨by omega, by omega⟩, .int low2, rfl, _, _, rfl, rfl, .inl ⟨by decide, by decide⟩, _, _, rfl, rfl, .int j, rfl, _, _, rfl, rfl, _, _, rfl, rfl, (by show (0 : Int) < 2147483563; decide), ?_⟩
        dsimp only
        generalize hh3 : (high2 * high2 + 67867967 * low2 + (j : Int)) % 2147483563 = high3
        refine ⟨.int low2, rfl, _, _, rfl, rfl, .inl ⟨by omega, by omega⟩, .int high3, rfl, _, _, rfl, rfl, _, _, rfl, rfl, (by show (0 : Int) < 4611686018427387847; decide), .int m, rfl, _, _, rfl, rfl, hm, ?_⟩
        exact q _ _ (Int.emod_nonneg _ (by omega)) (Int.emod_lt_of_pos _ hm) D1 k1
end
end K1
namespace K1
open PySem PySem.Spec PyProof.Rows L2
abbrev sDeck : Stmt := topS 4
theorem scD : FnScope ["_law_script", "_law_cells", "_law_cell"] ["_law_script"] (defScope sDeck) := ⟨rfl, rfl, rfl, by decide +kernel, rfl, by decide +kernel, by decide +kernel⟩
theorem cut63 (xs : List V) (h : xs.length ≤ 63) : cutV xs none (some 63) = xs := by
  unfold cutV
  rw [HT.sIx_none, show HT.sIx xs.length xs.length (some 63) = min 63 xs.length from HT.sIx_nat xs.length xs.length 63, show min 63 xs.length = xs.length by omega]
  simp
section
variable {P : Program} {w : World} {K : PySem.W.Frag} {mg : Str → Option Value} {base : Heap}
def spDeck (K : PySem.W.Frag) : Sp := fun vs H Q _ => ∃ (a : Addr) (ns : List Int), vs = [.ref a] ∧ SqL K H a (ns.map V.int) ∧ ns.length ≤ 63 ∧
  ∀ (dk cl lf : Addr) (H' : Hp), Dk H' dk cl lf → Same H H' → H dk = none → H lf = none → Q (.ref dk) H'
theorem ok_deck {f : Addr} {fd : FuncData} {k : Nat} (F : Fun K "_law_deck" "_law_deck" sDeck f fd) (ml : mg "len" = none) (mi : mg "int" = none) (mli : mg "list" = none) : FnOk P w K mg base CX0 (k + 1) f fd ["_law_script"] (spDeck K) := by
  refine F.ok scD (fun vs H Q E h => ?_) (fun cdv A outer s H vs Q E hr h => ?_)
  · obtain ⟨a, ns, rfl, _⟩ := h
    rfl
  · obtain ⟨a, ns, rfl, hS, hlen, q⟩ := h
    refine ⟨_, pss_cons (ps_set (i := 1) scD.nd rfl (.inl rfl) (pe_op op_cat (pe_callTy call_list_of (by rfl) mli (by decide +kernel) (pa_cons (pe_slice sl_list (pv 0) po_none (po_some pe_int)) pa_nil))
        (pe_op op_rep (pe_lst (pa_cons pe_int pa_nil)) (pe_callTy call_int1 (by rfl) mi (by decide +kernel) (pa_cons (pe_cmpR op_eq (pe_callB call_len_seq (by rfl) ml PySem.boot_len (pa_cons (pv 0) pa_nil)) pe_int (nomark _)) pa_nil)))))
      (pss_one (ps_ret (pe_lst (pa_cons (pv 1) (pa_cons pe_int (pa_cons
        (pe_lc (own := [("_law_cell", 2)]) (g := gName 2) (tt := tYes) rfl scD.nd (pi_list (pv 1)) (blkOk_by (N := ["_law_script", "_law_cells", "_law_cell"]) (sc := defScope sDeck) (by decide +kernel)) (fun _ _ _ _ _ => pg_name (i := 2) scD.nd rfl (Or.inl rfl)) (fun _ _ _ _ _ => pts_nil)
          (fun _ _ _ _ _ => pe_op op_mul (pv 2) (pe_callTy call_int1 (by rfl) mi (by decide +kernel) (pa_cons (pe_cmpR op_ge (pv 2) (pe_op op_pow pe_int pe_int) (nomark _)) pa_nil)))) pa_nil)))))), ?_⟩
    refine ⟨.ref a, rfl, 63, rfl, a, _, rfl, hS, fun c nc => ?_⟩
    rw [cut63 _ (by rw [List.length_map]; exact hlen)]
    generalize hH1 : upd H c (HO.lst (ns.map V.int)) = H1
    have s1 : Same H H1 := by rw [← hH1]; exact same_upd nc
    have c1 : H1 c = some (.lst (ns.map V.int)) := by rw [← hH1, upd_same]
    refine ⟨c, _, rfl, .inl (.inl (.inl c1)), fun l nl => ?_⟩
    generalize hH2 : upd H1 l (HO.lst (ns.map V.int)) = H2
    have s2 : Same H1 H2 := by rw [← hH2]; exact same_upd nl
    have c2 : H2 l = some (.lst (ns.map V.int)) := by rw [← hH2, upd_same]
    refine ⟨(by show 1 ≤ sizeLine; decide), fun z nz => ?_⟩
    generalize hH3 : upd H2 z (HO.lst [V.int 0]) = H3
    have s3 : Same H2 H3 := by rw [← hH3]; exact same_upd nz
    have c3 : H3 z = some (.lst [V.int 0]) := by rw [← hH3, upd_same]
    have s03 : Same H H3 := s1.trans (s2.trans s3)
    obtain ⟨kk, hkk, hkv⟩ : ∃ kk : Nat, kk ≤ 1 ∧ (if decide (V.int ((ns.map V.int).length : Nat) = V.int 0) = true then (1 : Int) else 0) = kk ∧ (ns = [] → kk = 1) := by
      by_cases e : ns = []
      · subst e; exact ⟨1, by omega, by simp, fun _ => rfl⟩
      · refine ⟨0, by omega, ?_, fun z => absurd z e⟩
        have : ¬ V.int ((ns.map V.int).length : Nat) = V.int 0 := fun z => e (by
          have z1 := V.int.inj z
          rw [List.length_map] at z1
          exact List.length_eq_zero_iff.mp (by omega))
        rw [decide_eq_false this]
        rfl
    refine ⟨.ref a, rfl, a, _, rfl, .inl (s03.seq hS), rfl, .inr ⟨_, rfl, ?_⟩⟩
    refine ⟨z, _, [V.int 0], rfl, rfl, c3, ?_, ?_, ?_, fun p np => ?_⟩
    · rw [hkv.1]; omega
    · rw [hkv.1]; omega
    · rw [hkv.1]
      show 1 * ((kk : Int)).toNat ≤ sizeLine
      exact Nat.le_trans (show 1 * ((kk : Int)).toNat ≤ 1 by omega) (by decide)
    rw [hkv.1]
    have hrep : (List.replicate ((kk : Int)).toNat [V.int 0]).flatten = (List.replicate kk (0 : Int)).map V.int := by
      rw [Int.toNat_natCast]
      rcases (show kk = 0 ∨ kk = 1 by omega) with e | e <;> (subst e; rfl)
    rw [hrep]
    generalize hH4 : upd H3 p (HO.lst ((List.replicate kk (0 : Int)).map V.int)) = H4
    have s4 : Same H3 H4 := by rw [← hH4]; exact same_upd np
    have c4 : H4 p = some (.lst ((List.replicate kk (0 : Int)).map V.int)) := by rw [← hH4, upd_same]
    refine ⟨l, p, _, _, rfl, rfl, s4 _ _ (s3 _ _ c2), c4, ?_, fun r nr => ?_⟩
    · rw [List.length_map, List.length_map, List.length_replicate]
      exact Nat.le_trans (show ns.length + kk ≤ 64 by omega) (by decide)
    rw [← List.map_append]
    generalize hcells : ns ++ List.replicate kk 0 = cells
    have hcl : 0 < cells.length ∧ cells.length ≤ 100 := by
      rw [← hcells, List.length_append, List.length_replicate]
      refine ⟨?_, by omega⟩
      cases ns with
      | nil => have := hkv.2 rfl; omega
      | cons x r => simp; omega
    generalize hH5 : upd H4 r (HO.lst (cells.map V.int)) = H5
    have s5 : Same H4 H5 := by rw [← hH5]; exact same_upd nr
    have c5 : H5 r = some (.lst (cells.map V.int)) := by rw [← hH5, upd_same]
    have s05 : Same H H5 := s03.trans (s4.trans s5)
    refine ⟨.ref r, rfl, .ref r, rfl, r, rfl, ⟨_, .inl (.inl c5)⟩, fun D hD => lc_list (xs := cells.map V.int) (fun i H' => ∃ lefts : List Int, lefts.length = i ∧ H' D = some (.lst (lefts.map V.int)) ∧ Same H5 H') ⟨[], rfl, upd_same, same_upd hD⟩
      (fun i H' _ hp => ?_) (fun i x H' hx hp => ?_) (fun H' hp => ?_)⟩
    · obtain ⟨_, _, _, sm⟩ := hp
      exact .inl (.inl (sm _ _ c5))
    · obtain ⟨lefts, el, eD, sm⟩ := hp
      obtain ⟨n, rfl⟩ : ∃ n, x = V.int n := by
        rw [List.getElem?_map] at hx
        cases h : cells[i]? with
        | none => rw [h] at hx; cases hx
        | some n => rw [h] at hx; exact ⟨n, (Option.some.inj hx).symm⟩
      have hi : i < cells.length := by
        have := (List.getElem?_eq_some_iff.mp hx).1
        rwa [List.length_map] at this
      refine ⟨rfl, ?_⟩
      refine iteT (B := ∃ lefts : List Int, lefts.length = i + 1 ∧ H' D = some (.lst (lefts.map V.int)) ∧ Same H5 H') ?_
      refine ⟨.int n, rfl, .int n, rfl, _, _, rfl, rfl, ⟨by decide, by decide, by decide⟩, _, _, rfl, rfl, .inr ⟨_, rfl, _, _, rfl, rfl, .inr ?_, ?_⟩⟩
      · constructor
        · split <;> decide
        · split <;> decide
      · refine ⟨_, eD, ?_, lefts ++ [n * (if decide (10 ^ Int.toNat 18 ≤ n) = true then 1 else 0)], ?_, ?_, ?_⟩
        · rw [List.length_map]
          exact Nat.lt_of_le_of_lt (show lefts.length ≤ 100 by omega) (by decide)
        · rw [List.length_append, el]; rfl
        · rw [upd_same, List.map_append]; rfl
        · intro b o e
          rw [upd_ne (ne_of_none e hD)]
          exact sm b o e
    · obtain ⟨lefts, el, eD, sm⟩ := hp
      refine ⟨(by show 3 ≤ sizeLine; decide), fun dk ndk => ?_⟩
      have eDr : r ≠ D := ne_of_none c5 hD
      refine q dk r D _ ⟨⟨cells, lefts, 0, upd_same, ?_, ?_, ?_, hcl.1, hcl.2, by omega⟩, eDr⟩ ?_ ?_ ?_
      · rw [upd_ne (ne_of_none (sm _ _ c5) ndk)]; exact sm _ _ c5
      · rw [upd_ne (ne_of_none eD ndk)]; exact eD
      · rw [el, List.length_map]
      · exact (s05.trans sm).trans (same_upd ndk)
      · exact (s05.trans sm).free ndk
      · exact s05.free hD
end
end K1
namespace K1
open PySem PySem.Spec PyProof.Rows L2
open TL (tl joinL tl_join join_eq len_tl)
/-! ### texts -/
def CodesOk (l : List Nat) : Prop := ∀ c ∈ l, c < 0x110000
theorem strOk_iff {x : Str} : PyData.strOk x = true ↔ CodesOk (tl x) := by
  unfold PyData.strOk CodesOk tl
  rw [← Array.all_toList, List.all_eq_true]
  constructor
  · intro h c hc
    exact of_decide_eq_true (h c hc)
  · intro h c hc
    exact decide_eq_true (h c hc)
theorem joinNil_ok : ∀ ps : List (List Nat), (∀ p ∈ ps, CodesOk p ∧ p.length = 1) → CodesOk (joinL [] ps) ∧ (joinL [] ps).length = ps.length
  | [], _ => ⟨fun c h => by simp [joinL] at h, rfl⟩
  | [p], h => ⟨(h p List.mem_cons_self).1, by simpa [joinL] using (h p List.mem_cons_self).2⟩
  | p :: q :: r, h => by
    obtain ⟨h1, h2⟩ := h p List.mem_cons_self
    obtain ⟨i1, i2⟩ := joinNil_ok (q :: r) fun z hz => h z (List.mem_cons_of_mem _ hz)
    refine ⟨fun c hc => ?_, ?_⟩
    · have hc' : c ∈ p ++ ([] ++ joinL [] (q :: r)) := hc
      rw [List.nil_append] at hc'
      rcases List.mem_append.mp hc' with m | m
      · exact h1 c m
      · exact i1 c m
    · show (p ++ ([] ++ joinL [] (q :: r))).length = _
      rw [List.nil_append, List.length_append, h2, i2]
      simp
      omega
theorem Dk.not {H : Hp} {dk cl lf D : Addr} (d : Dk H dk cl lf) (h : H D = none) : D ≠ dk ∧ D ≠ cl ∧ D ≠ lf := by
  obtain ⟨⟨_, _, _, e1, e2, e3, _⟩, _⟩ := d
  exact ⟨(ne_of_none e1 h).symm, (ne_of_none e2 h).symm, (ne_of_none e3 h).symm⟩
theorem Dk.upd {H : Hp} {dk cl lf D : Addr} {o : HO} (d : Dk H dk cl lf) (h : D ≠ dk ∧ D ≠ cl ∧ D ≠ lf) : Dk (L2.upd H D o) dk cl lf := by
  obtain ⟨⟨cells, lefts, n, e1, e2, e3, r⟩, ne⟩ := d
  exact ⟨⟨cells, lefts, n, by rw [upd_ne h.1.symm]; exact e1, by rw [upd_ne h.2.1.symm]; exact e2, by rw [upd_ne h.2.2.symm]; exact e3, r⟩, ne⟩
theorem KD.upd {dk lf D : Addr} {H H1 H2 : Hp} {o : HO} (a : KD dk lf H H1) (b : KD dk lf H1 H2) (h : H1 D = none) : KD dk lf H (L2.upd H2 D o) := fun c u n1 n2 e => by
  rw [upd_ne (ne_of_none (a c u n1 n2 e) h)]
  exact b c u n1 n2 (a c u n1 n2 e)
/-! ### a callee -/
structure Cal (P : Program) (w : World) (K : PySem.W.Frag) (mg : Str → Option Value) (base : Heap) (x : Str) (ps : List Str) (k : Nat) (sp : Sp) : Prop where
  ex : ∃ (f : Addr) (fd : FuncData), FnOk P w K mg base CX0 k f fd ps sp ∧ mg x = some (.ref f) ∧ PySem.W.keepIn K (.ref f) = true ∧ Binds K fd ps []
section
variable {P : Program} {w : World} {K : PySem.W.Frag} {mg : Str → Option Value} {base : Heap}
theorem atI_of2 {α : Type} {xs : List α} {j : Nat} {v : α} {i : Int} (e : i = (j : Int)) (h : xs[j]? = some v) : atI xs i = some v := by subst e; exact atI_nat h
end
end K1
namespace K1
open PySem PySem.Spec PyProof.Rows L2
/-! ### types of written things -/
def tyN : PyData → String
  | .none => "NoneType"
  | .bool _ => "bool"
  | .int _ => "int"
  | .str _ => "str"
  | .tuple _ => "tuple"
  | .list _ => "list"
  | .dict _ => "dict"
def isT : PyData → Bool
  | .tuple _ => true
  | _ => false
def isB : PyData → Bool
  | .bool _ => true
  | _ => false
def isI : PyData → Bool
  | .int _ => true
  | .bool _ => true
  | _ => false
def isS : PyData → Bool
  | .str _ => true
  | _ => false
theorem kT : ∀ d : PyData, kitB (tyN d) "tuple" = some (isT d)
  | .none => (by decide +kernel : kitB "NoneType" "tuple" = some false)
  | .bool _ => (by decide +kernel : kitB "bool" "tuple" = some false)
  | .int _ => (by decide +kernel : kitB "int" "tuple" = some false)
  | .str _ => (by decide +kernel : kitB "str" "tuple" = some false)
  | .tuple _ => (by decide +kernel : kitB "tuple" "tuple" = some true)
  | .list _ => (by decide +kernel : kitB "list" "tuple" = some false)
  | .dict _ => (by decide +kernel : kitB "dict" "tuple" = some false)
theorem kB : ∀ d : PyData, kitB (tyN d) "bool" = some (isB d)
  | .none => (by decide +kernel : kitB "NoneType" "bool" = some false)
  | .bool _ => (by decide +kernel : kitB "bool" "bool" = some true)
  | .int _ => (by decide +kernel : kitB "int" "bool" = some false)
  | .str _ => (by decide +kernel : kitB "str" "bool" = some false)
  | .tuple _ => (by decide +kernel : kitB "tuple" "bool" = some false)
  | .list _ => (by decide +kernel : kitB "list" "bool" = some false)
  | .dict _ => (by decide +kernel : kitB "dict" "bool" = some false)
theorem kI : ∀ d : PyData, kitB (tyN d) "int" = some (isI d)
  | .none => (by decide +kernel : kitB "NoneType" "int" = some false)
  | .bool _ => (by decide +kernel : kitB "bool" "int" = some true)
  | .int _ => (by decide +kernel : kitB "int" "int" = some true)
  | .str _ => (by decide +kernel : kitB "str" "int" = some false)
  | .tuple _ => (by decide +kernel : kitB "tuple" "int" = some false)
  | .list _ => (by decide +kernel : kitB "list" "int" = some false)
  | .dict _ => (by decide +kernel : kitB "dict" "int" = some false)
theorem kS : ∀ d : PyData, kitB (tyN d) "str" = some (isS d)
  | .none => (by decide +kernel : kitB "NoneType" "str" = some false)
  | .bool _ => (by decide +kernel : kitB "bool" "str" = some false)
  | .int _ => (by decide +kernel : kitB "int" "str" = some false)
  | .str _ => (by decide +kernel : kitB "str" "str" = some true)
  | .tuple _ => (by decide +kernel : kitB "tuple" "str" = some false)
  | .list _ => (by decide +kernel : kitB "list" "str" = some false)
  | .dict _ => (by decide +kernel : kitB "dict" "str" = some false)
theorem dp_ty {K : PySem.W.Frag} {H : Hp} {v : V} {d : PyData} (h : Dp K H v d) (p : pl d = true) : TyX K H v (.type (tyN d)) := by
  cases h with
  | non => exact .base .non
  | bl b => exact .base (.bl b)
  | int i => exact .base (.int i)
  | str x => exact .base (.str x)
  | lst hs ha => cases p
  | tup hs ha =>
    rcases hs with (hs | ⟨o, hs⟩) | ⟨o, its, n, h1, h2, _⟩
    · exact .base (.tup hs)
    · exact .fTuple hs
    · exact .kTuple h1 h2
end K1
namespace K1
open PySem PySem.Spec PyProof.Rows L2
/-! ### pairs that are still to be looked at -/
section
variable {K : PySem.W.Frag} {H H1 : Hp}
def Pr (K : PySem.W.Frag) (H : Hp) (v : V) (p : PyData × PyData) : Prop := ∃ t x y, v = .ref t ∧ SqT K H t [x, y] ∧ Dp K H x p.1 ∧ Dp K H y p.2 ∧ pl p.1 = true ∧ pl p.2 = true
theorem Pr.ts {v : V} {p : PyData × PyData} (s : TS K H H1) (h : Pr K H v p) : Pr K H1 v p := by
  obtain ⟨t, x, y, e, ht, hx, hy, p1, p2⟩ := h
  exact ⟨t, x, y, e, s _ _ ht, s.dp _ _ p1 hx, s.dp _ _ p2 hy, p1, p2⟩
abbrev PrA (K : PySem.W.Frag) (H : Hp) : List V → List (PyData × PyData) → Prop := Paired (Pr K H)
theorem PrA.ts {vs : List V} {ps : List (PyData × PyData)} (s : TS K H H1) (h : PrA K H vs ps) : PrA K H1 vs ps := Paired.mapP h fun _ _ z => z.ts s
end
def szP : List (PyData × PyData) → Nat
  | [] => 0
  | p :: ps => sz p.1 + szP ps
theorem szP_append : ∀ xs ys, szP (xs ++ ys) = szP xs + szP ys
  | [], ys => by simp [szP]
  | x :: xs, ys => by simp only [List.cons_append, szP, szP_append xs ys]; omega
theorem len_szP : ∀ ps : List (PyData × PyData), ps.length ≤ szP ps
  | [] => Nat.le_refl _
  | p :: ps => by
    have h1 := sz_pos p.1
    have h2 := len_szP ps
    simp only [List.length_cons, szP]
    omega
theorem szP_zip : ∀ ds es : List PyData, ds.length = es.length → szP (ds.zip es) = szA ds
  | [], [], _ => rfl
  | [], _ :: _, h => by cases h
  | _ :: _, [], h => by cases h
  | d :: ds, e :: es, h => by
    show sz d + szP (ds.zip es) = sz d + szA ds
    rw [szP_zip ds es (Nat.succ.inj h)]
def allEq (ps : List (PyData × PyData)) : Prop := ∀ p ∈ ps, p.1 = p.2
theorem allEq_append {xs ys : List (PyData × PyData)} : allEq (xs ++ ys) ↔ allEq xs ∧ allEq ys := by
  constructor
  · intro h
    exact ⟨fun p m => h p (List.mem_append.mpr (.inl m)), fun p m => h p (List.mem_append.mpr (.inr m))⟩
  · intro h p m
    rcases List.mem_append.mp m with m | m
    · exact h.1 p m
    · exact h.2 p m
theorem allEq_one {p : PyData × PyData} : allEq [p] ↔ p.1 = p.2 := by
  constructor
  · intro h
    exact h p List.mem_cons_self
  · intro h q m
    rw [List.mem_singleton.mp m]
    exact h
theorem allEq_zip : ∀ ds es : List PyData, ds.length = es.length → (allEq (ds.zip es) ↔ ds = es)
  | [], [], _ => by simp [allEq]
  | [], _ :: _, h => by cases h
  | _ :: _, [], h => by cases h
  | d :: ds, e :: es, h => by
    have ih := allEq_zip ds es (Nat.succ.inj h)
    have e1 : ((d :: ds).zip (e :: es)) = [(d, e)] ++ ds.zip es := rfl
    rw [e1, allEq_append, allEq_one, ih]
    simp
theorem paired_len {α β : Type} {F : α → β → Prop} : ∀ {xs : List α} {ys : List β}, Paired F xs ys → xs.length = ys.length
  | _, _, .nil => rfl
  | _, _, .cons _ t => by simp [paired_len t]
theorem paired_last {α β : Type} {F : α → β → Prop} : ∀ {xs : List α} {ys : List β}, Paired F xs ys → xs ≠ [] → ∃ xs' x ys' y, xs = xs' ++ [x] ∧ ys = ys' ++ [y] ∧ Paired F xs' ys' ∧ F x y
  | _, _, .nil, h => absurd rfl h
  | _, _, .cons (l₁ := []) h .nil, _ => ⟨[], _, [], _, rfl, rfl, .nil, h⟩
  | _, _, .cons (l₁ := _ :: _) h (.cons h2 t), _ => by
    obtain ⟨xs', x, ys', y, e1, e2, r, f⟩ := paired_last (.cons h2 t) (by simp)
    exact ⟨_ :: xs', x, _ :: ys', y, by rw [e1]; rfl, by rw [e2]; rfl, .cons h r, f⟩
theorem paired_append {α β : Type} {F : α → β → Prop} : ∀ {xs xs' : List α} {ys ys' : List β}, Paired F xs ys → Paired F xs' ys' → Paired F (xs ++ xs') (ys ++ ys')
  | _, _, _, _, .nil, s => s
  | _, _, _, _, .cons h t, s => .cons h (paired_append t s)
theorem paired_of {α β : Type} {F : α → β → Prop} : ∀ {xs : List α} {ys : List β}, xs.length = ys.length → (∀ (i : Nat) (x : α) (y : β), xs[i]? = some x → ys[i]? = some y → F x y) → Paired F xs ys
  | [], [], _, _ => .nil
  | [], _ :: _, h, _ => by cases h
  | _ :: _, [], h, _ => by cases h
  | x :: xs, y :: ys, h, f => .cons (f 0 x y rfl rfl) (paired_of (Nat.succ.inj h) fun i a b ea eb => f (i + 1) a b (by simpa using ea) (by simpa using eb))
/-- what the last test of alike says -/
theorem flat_alike : ∀ (d e : PyData), pl d = true → pl e = true → (isT d && isT e) = false → (isB d = isB e ∧ PyData.eqv d e = true ↔ d = e) := by
  intro d e p1 p2 nt
  cases d <;> cases e <;> simp_all [isT, isB, PyData.eqv, pl]
open Classical in
/-- the answer -/
noncomputable def eqB (d e : PyData) : Bool := decide (d = e)
open Classical in
theorem eqB_true {d e : PyData} (h : d = e) : eqB d e = true := decide_eq_true h
open Classical in
theorem eqB_false {d e : PyData} (h : d ≠ e) : eqB d e = false := decide_eq_false h
theorem flat_min {d e : PyData} (p1 : pl d = true) (p2 : pl e = true) (nt : (isT d && isT e) = false) : min d.depth e.depth ≤ 64 := by
  cases d <;> cases e <;> simp_all [isT, PyData.depth, pl]
def spEq (K : PySem.W.Frag) : Sp := fun vs H Q _ => ∃ (v u : V) (d e : PyData), vs = [v, u] ∧ Dp K H v d ∧ Dp K H u e ∧ pl d = true ∧ pl e = true ∧ sz d ≤ 4000000 ∧ sz e ≤ 4000000 ∧ ∀ H' : Hp, Same H H' → Q (.bl (eqB d e)) H'
end K1
namespace K1
open PySem PySem.Spec PyProof.Rows L2
abbrev sSame : Stmt := topS 6
abbrev nmM : List Str := ["_law_one", "_law_other", "_law_heap", "_law_left", "_law_right", "_law_k"]
theorem scM : FnScope nmM ["_law_one", "_law_other"] (defScope sSame) := ⟨rfl, rfl, rfl, by decide +kernel, rfl, by decide +kernel, by decide +kernel⟩
theorem pss_weak {X : Cx} {st : List Stmt} {t t' : L2.TS} (h : PSs X st t) (g : ∀ D σ H, t' D σ H → t D σ H) : PSs X st t' := ⟨fun pins s σ H D I hh => h.run pins s σ H D I (g D σ H hh)⟩
/-- what two things that are not both tuples lead to -/
def tFlat (K : PySem.W.Frag) : L2.TS := fun D σ H => ∃ (x y : V) (d e : PyData), σ[3]? = some (some x) ∧ σ[4]? = some (some y) ∧ Dp K H x d ∧ Dp K H y e ∧ pl d = true ∧ pl e = true ∧ (isT d && isT e) = false ∧ (d ≠ e → D.rt (.bl false) H) ∧ (d = e → D.nx σ H)
theorem non_iff {K : PySem.W.Frag} {H : Hp} {x : V} {d : PyData} (h : Dp K H x d) : x = .non ↔ d = .none := by
  cases h <;> simp
theorem flat_same : ∀ (d e : PyData), pl d = true → pl e = true → d ≠ .none → e ≠ .none → isB d = isB e → isT d = false → isT e = false → (PyData.eqv d e = true ↔ d = e) := by
  intro d e p1 p2 n1 n2 b t1 t2
  cases d <;> cases e <;> simp_all [isT, isB, PyData.eqv, pl]
def WS (K : PySem.W.Frag) (H : Hp) (v u : V) (d0 e0 : PyData) (m : Nat) (σ : L2.St) (H' : Hp) : Prop :=
  ∃ l y3 y4 y5 vs ps, σ = [some v, some u, some (.ref l), y3, y4, y5] ∧ H' l = some (.lst vs) ∧ H l = none ∧ PrA K H' vs ps ∧ szP ps = m ∧ m ≤ 4000000 ∧ (allEq ps ↔ d0 = e0) ∧ Same H H'
theorem pr_data {K : PySem.W.Frag} {H : Hp} : ∀ {vs : List V} {ps : List (PyData × PyData)}, PrA K H vs ps → DpAll K H vs (ps.map fun p => .tuple [p.1, p.2]) ∧ PyData.canLayAll0 (ps.map fun p => .tuple [p.1, p.2]) = true
  | _, _, .nil => ⟨.nil, rfl⟩
  | _, _, .cons ⟨t, x, y, e, ht, hx, hy, p1, p2⟩ r => by
    obtain ⟨a, b⟩ := pr_data r
    subst e
    refine ⟨.cons (.tup ht (.cons hx (.cons hy .nil))) a, ?_⟩
    simp only [List.map_cons, PyData.canLayAll0, PyData.canLay0, canLay _ p1, canLay _ p2, b, Bool.and_self]
theorem eqv_nil (xs : List PyData) : PyData.eqv (.list xs) (.list []) = xs.isEmpty := by
  cases xs <;> simp [PyData.eqv, PyData.eqvAll]
section
variable {P : Program} {w : World} {K : PySem.W.Frag} {mg : Str → Option Value} {base : Heap}
theorem ok_same {f : Addr} {fd : FuncData} {k : Nat} (F : Fun K "_law_same" "_law_same" sSame f fd) (mi : mg "isinstance" = none) (mt : mg "tuple" = none) (ml : mg "len" = none) (mr : mg "range" = none) (mb : mg "bool" = none) (mst : mg "str" = none) : FnOk P w K mg base CX0 (k + 1) f fd ["_law_one", "_law_other"] (spEq K) := by
  refine F.ok scM (fun vs H Q E h => ?_) (fun cdv A outer s H vs Q E hr h => ?_)
  · obtain ⟨v, u, d, e, rfl, _⟩ := h
    rfl
  · obtain ⟨v, u, d0, e0, rfl, hd0, he0, pd0, pe0, sd0, se0, q⟩ := h
    refine ⟨_, pss_cons (ps_set (i := 2) scM.nd rfl (.inl rfl) (pe_lst (pa_cons (pe_tup (pa_cons (pv 0) (pa_cons (pv 1) pa_nil))) pa_nil)))
      (pss_cons (ps_while PassesOwn.never (pt_cmpR (op_neM hr.units) (pv 2) (pe_lst pa_nil) (nomark _))
        (pss_cons (ps_asg (pe_bm0 PySem.F.plainAttrs_list PySem.F.slot_list_pop PySem.F.type_list_pop mt_pop (pv 2)) (pg_tup (by rfl) (pgs_cons (pg_name (i := 3) scM.nd rfl (.inr rfl)) (pgs_cons (pg_name (i := 4) scM.nd rfl (.inr rfl)) pgs_nil))))
        (pss_one (ps_if (PW.pt (pw_and (pt_val (pe_callB call_isi (by rfl) mi (by decide +kernel) (pa_cons (pv 3) (pa_cons (pe_bltn (v := .ty "tuple") (by rfl) mt (show bootBuiltins "tuple" = some (.type "tuple") by decide +kernel) rfl) pa_nil))))
              (pw_and1 (pt_val (pe_callB call_isi (by rfl) mi (by decide +kernel) (pa_cons (pv 4) (pa_cons (pe_bltn (v := .ty "tuple") (by rfl) mt (show bootBuiltins "tuple" = some (.type "tuple") by decide +kernel) rfl) pa_nil)))))))
          (pss_cons (ps_if (pt_cmpR op_ne (pe_callB call_len_seq (by rfl) ml PySem.boot_len (pa_cons (pv 3) pa_nil)) (pe_callB call_len_seq (by rfl) ml PySem.boot_len (pa_cons (pv 4) pa_nil)) (nomark _)) (pss_one (ps_ret pe_bl)) pss_nil)
          (pss_one (ps_set (i := 2) scM.nd rfl (.inl rfl) (pe_op op_cat (pv 2)
            (pe_lc (own := [("_law_k", 5)]) (g := gName 5) (tt := tYes) rfl scM.nd (pi_range1 (by rfl) mr (pa_cons (pe_callB call_len_seq (by rfl) ml PySem.boot_len (pa_cons (pv 3) pa_nil)) pa_nil))
              (blkOk_by (N := nmM) (sc := defScope sSame) (by decide +kernel)) (fun _ _ _ _ _ => pg_name (i := 5) scM.nd rfl (Or.inl rfl)) (fun _ _ _ _ _ => pts_nil)
              (fun _ _ _ _ _ => pe_tup (pa_cons (pe_ix (show IxR _ (rIxT K) from ix_tup) (pv 3) (pv 5) (fun _ _ => rfl)) (pa_cons (pe_ix (show IxR _ (rIxT K) from ix_tup) (pv 4) (pv 5) (fun _ _ => rfl)) pa_nil))))))))
          (pss_weak (t' := tFlat K) (pss_one (ps_if (PW.pt (pw_or (pt_cmpR op_isN (pv 3) pe_non (nomark _)) (pw_or1 (pt_cmpR op_isN (pv 4) pe_non (nomark _)))))
              (pss_one (ps_if (PW.pt (pw_or (pt_cmpR op_notN (pv 3) pe_non (nomark _)) (pw_or1 (pt_cmpR op_notN (pv 4) pe_non (nomark _))))) (pss_one (ps_ret pe_bl)) pss_nil))
              (pss_one (ps_if (PW.pt (pw_or (pt_cmpR op_ne (pe_callB call_isi (by rfl) mi (by decide +kernel) (pa_cons (pv 3) (pa_cons (pe_bltn (v := .ty "bool") (by rfl) mb (show bootBuiltins "bool" = some (.type "bool") by decide +kernel) rfl) pa_nil)))
                    (pe_callB call_isi (by rfl) mi (by decide +kernel) (pa_cons (pv 4) (pa_cons (pe_bltn (v := .ty "bool") (by rfl) mb (show bootBuiltins "bool" = some (.type "bool") by decide +kernel) rfl) pa_nil))) (nomark _))
                  (pw_or1 (pt_cmpR op_ne (pe_callB call_isi (by rfl) mi (by decide +kernel) (pa_cons (pv 3) (pa_cons (pe_bltn (v := .ty "str") (by rfl) mst (show bootBuiltins "str" = some (.type "str") by decide +kernel) rfl) pa_nil)))
                    (pe_callB call_isi (by rfl) mi (by decide +kernel) (pa_cons (pv 4) (pa_cons (pe_bltn (v := .ty "str") (by rfl) mst (show bootBuiltins "str" = some (.type "str") by decide +kernel) rfl) pa_nil))) (nomark _))))) (pss_one (ps_ret pe_bl))
                (pss_one (ps_if (PW.pt (pw_or (pt_val (pe_callB call_isi (by rfl) mi (by decide +kernel) (pa_cons (pv 3) (pa_cons (pe_bltn (v := .ty "tuple") (by rfl) mt (show bootBuiltins "tuple" = some (.type "tuple") by decide +kernel) rfl) pa_nil))))
                  (pw_or (pt_val (pe_callB call_isi (by rfl) mi (by decide +kernel) (pa_cons (pv 4) (pa_cons (pe_bltn (v := .ty "tuple") (by rfl) mt (show bootBuiltins "tuple" = some (.type "tuple") by decide +kernel) rfl) pa_nil))))
                    (pw_or1 (pt_cmpR (op_neM hr.units) (pv 3) (pv 4) (nomark _)))))) (pss_one (ps_ret pe_bl)) pss_nil)))))) ?flat)))))
      (pss_one (ps_ret pe_bl))), ?_⟩
    case flat =>
      intro D σ H9 hh
      obtain ⟨x, y, d, e, h3, h4, hx, hy, pd, pe, nt, rf, nx⟩ := hh
      have nx1 := non_iff hx
      have nx2 := non_iff hy
      refine ⟨x, h3, rfl, _, rfl, ite2 (fun n1 => ?_) (fun n1 => ?_)⟩
      · have d1 : d = .none := nx1.mp (of_decide_eq_true n1)
        refine ⟨x, h3, rfl, _, rfl, ite2 (fun m1 => ?_) (fun m1 => ⟨y, h4, rfl, _, rfl, ite2 (fun m2 => ?_) (fun m2 => ?_)⟩)⟩
        · rw [n1] at m1; cases m1
        · exact rf fun z => by
            rw [decide_eq_true (nx2.mpr (z.symm.trans d1))] at m2
            cases m2
        · refine nx ?_
          have : y = .non := by simpa using m2
          rw [d1, nx2.mp this]
      · refine ⟨y, h4, rfl, _, rfl, ite2 (fun n2 => ?_) (fun n2 => ?_)⟩
        · have e1 : e = .none := nx2.mp (of_decide_eq_true n2)
          have hne : d ≠ e := fun z => n1 (decide_eq_true (nx1.mpr (z.trans e1)))
          refine ⟨x, h3, rfl, _, rfl, ite2 (fun m1 => rf hne) (fun m1 => ?_)⟩
          exact absurd (by simpa using m1 : x = .non) (fun z => n1 (decide_eq_true z))
        · have dn : d ≠ .none := fun z => n1 (decide_eq_true (nx1.mpr z))
          have en : e ≠ .none := fun z => n2 (decide_eq_true (nx2.mpr z))
          refine ⟨x, h3, x, _, _, _, isB d, rfl, .ty "bool", dp_ty hx pd, kit_ty (kB d), y, h4, y, _, _, _, isB e, rfl, .ty "bool", dp_ty hy pe, kit_ty (kB e), rfl, _, rfl, ite2 (fun b1 => rf ?_) (fun b1 => ?_)⟩
          · intro z; rw [z] at b1; simp at b1
          refine ⟨x, h3, x, _, _, _, isS d, rfl, .ty "str", dp_ty hx pd, kit_ty (kS d), y, h4, y, _, _, _, isS e, rfl, .ty "str", dp_ty hy pe, kit_ty (kS e), rfl, _, rfl, ite2 (fun b2 => rf ?_) (fun b2 => ?_)⟩
          · intro z; rw [z] at b2; simp at b2
          have hB : isB d = isB e := by simpa using b1
          refine ⟨x, h3, x, _, _, _, isT d, rfl, .ty "tuple", dp_ty hx pd, kit_ty (kT d), isT d, rfl, ite2 (fun c1 => rf ?_) (fun c1 => ?_)⟩
          · intro z; rw [z] at nt c1; rw [c1] at nt; cases nt
          refine ⟨y, h4, y, _, _, _, isT e, rfl, .ty "tuple", dp_ty hy pe, kit_ty (kT e), isT e, rfl, ite2 (fun c2 => rf ?_) (fun c2 => ?_)⟩
          · intro z; rw [z] at c1; exact c1 c2
          have fl := flat_same d e pd pe dn en hB (Bool.eq_false_iff.mpr c1) (Bool.eq_false_iff.mpr c2)
          refine ⟨x, h3, y, h4, d, e, hx, hy, canLay d pd, canLay e pe, flat_min pd pe nt, _, rfl, ite2 (fun b3 => rf ?_) (fun b3 => nx ?_)⟩
          · intro z; rw [fl.mpr z] at b3; cases b3
          · exact fl.mp (by simpa using b3)
    refine ⟨v, rfl, u, rfl, (by show 2 ≤ sizeLine; decide), fun t nt => ⟨(by show 1 ≤ sizeLine; decide), fun l nl => ?_⟩⟩
    generalize hH1 : upd H t (HO.tup [v, u]) = H1 at nl
    have s1 : Same H H1 := by rw [← hH1]; exact same_upd nt
    have c1 : H1 t = some (.tup [v, u]) := by rw [← hH1, upd_same]
    refine ⟨WS K H v u d0 e0, ⟨sz d0, l, none, none, none, [.ref t], [(d0, e0)], rfl, upd_same, s1.free nl, .cons ⟨t, v, u, rfl, ?_, ?_, ?_, pd0, pe0⟩ .nil, ?_, sd0, allEq_one, s1.trans (same_upd nl)⟩, fun m σ H' hW => ?_⟩
    · exact .inl (.inl (by rw [upd_ne (ne_of_none c1 nl)]; exact c1))
    · exact TS.dp (ts_new nl) _ _ pd0 (TS.dp (ts_same s1) _ _ pd0 hd0)
    · exact TS.dp (ts_new nl) _ _ pe0 (TS.dp (ts_same s1) _ _ pe0 he0)
    · show sz d0 + 0 = sz d0
      omega
    · clear nl c1 s1 hH1 nt
      obtain ⟨l, y3, y4, y5, vs, ps, rfl, hl, nl0, hpr, hm, hmm, hall, s0⟩ := hW
      obtain ⟨hdat, hcan⟩ := pr_data hpr
      refine ⟨.ref l, rfl, Nat.zero_le _, fun z nz => ?_⟩
      have sz1 : Same H' (upd H' z (.lst [])) := same_upd nz
      have cz : (upd H' z (.lst [])) z = some (.lst []) := upd_same
      have tz : TS K H' (upd H' z (.lst [])) := ts_new nz
      generalize hHz : upd H' z (HO.lst []) = Hz at sz1 cz tz
      refine ⟨.list (ps.map fun p : PyData × PyData => PyData.tuple [p.1, p.2]), .list [], .lst (.inl (.inl (sz1 _ _ hl))) (pr_data (PrA.ts tz hpr)).1, .lst (.inl (.inl cz)) .nil, hcan, rfl, ?_, _, rfl, ite2 (fun c => ?_) (fun c => ?_)⟩
      · refine Nat.le_trans (Nat.min_le_right _ _) ?_
        decide
      · rw [eqv_nil] at c
        have hne : vs ≠ [] := fun z => by
          subst z
          cases hpr
          cases c
        have hl' := sz1 _ _ hl
        obtain ⟨vs', vl, ps', pp, rfl, rfl, hpr', t2, x, y, rfl, ht2, hx, hy, pd, pe⟩ := paired_last (PrA.ts tz hpr) hne
        obtain ⟨d, e⟩ := pp
        refine ⟨fun σ' H2 => ∃ m', m' < m ∧ WS K H v u d0 e0 m' σ' H2, fun _ _ h => h, ?_⟩
        refine ⟨.ref l, rfl, .inl ⟨rfl, _, .inl (.inl hl')⟩, l, _, .ref t2, rfl, rfl, hl', (by simp), ?_⟩
        rw [List.dropLast_concat]
        have ts2 : TS K Hz (upd Hz l (.lst vs')) := ts_lst hl'
        generalize hH2 : upd Hz l (HO.lst vs') = H2 at ts2 ⊢
        have cl2 : H2 l = some (.lst vs') := by rw [← hH2, upd_same]
        have s02 : Same H H2 := fun b o eb => by rw [← hH2, upd_ne (ne_of_none eb nl0)]; exact sz1 _ _ (s0 b o eb)
        have hx2 : Dp K H2 x d := ts2.dp _ _ pd hx
        have hy2 : Dp K H2 y e := ts2.dp _ _ pe hy
        have pr2 : PrA K H2 vs' ps' := PrA.ts ts2 hpr'
        have flat : (isT d && isT e) = false → ∀ (D : Ends), D.rt = Q → (D.nx = fun σ' H2 => ∃ m', m' < m ∧ WS K H v u d0 e0 m' σ' H2) → tFlat K D [some v, some u, some (.ref l), some x, some y, y5] H2 := fun nt D r1 r2 => by
          refine ⟨x, y, d, e, rfl, rfl, hx2, hy2, pd, pe, nt, fun ne => ?_, fun eq => ?_⟩
          · have hn : d0 ≠ e0 := fun z => ne (allEq_one.mp (allEq_append.mp (hall.mpr z)).2)
            have := q H2 s02
            rw [eqB_false hn] at this
            rw [r1]
            exact this
          · rw [r2]
            refine ⟨szP ps', ?_, l, _, _, _, vs', ps', rfl, cl2, nl0, pr2, rfl, ?_, ?_, s02⟩
            · rw [← hm, szP_append]
              have := sz_pos d
              simp only [szP]
              omega
            · rw [szP_append] at hm
              omega
            · rw [← hall, allEq_append, allEq_one]
              exact ⟨fun z => ⟨z, eq⟩, fun z => z.1⟩
        refine ⟨t2, [x, y], rfl, ts2 _ _ ht2, rfl, x, [y], rfl, y, [], rfl, rfl, ?_⟩
        refine ⟨x, rfl, x, _, _, _, isT d, rfl, .ty "tuple", dp_ty hx2 pd, kit_ty (kT d), isT d, rfl, ite2 (fun a1 => ?_) (fun a1 => flat (by rw [Bool.eq_false_iff.mpr a1, Bool.false_and]) _ rfl rfl)⟩
        refine ⟨y, rfl, y, _, _, _, isT e, rfl, .ty "tuple", dp_ty hy2 pe, kit_ty (kT e), isT e, rfl, ite2 (fun a2 => ?_) (fun a2 => flat (by rw [Bool.eq_false_iff.mpr a2, Bool.and_false]) _ rfl rfl)⟩
        cases d with
        | tuple ds =>
          cases e with
          | tuple es =>
            cases hx2 with
            | @tup a xs _ hsx hax =>
              cases hy2 with
              | @tup b ys _ hsy hay =>
                have lx := dpAll_len hax
                have ly := dpAll_len hay
                refine ⟨.ref a, rfl, a, xs, rfl, .inr hsx, .ref b, rfl, b, ys, rfl, .inr hsy, rfl, _, rfl, ite2 (fun b1 => ?_) (fun b1 => ?_)⟩
                · have ne : d0 ≠ e0 := fun z => by
                    have h1 := allEq_one.mp (allEq_append.mp (hall.mpr z)).2
                    have h2 : ds = es := PyData.tuple.inj h1
                    rw [lx, ly, h2] at b1
                    simp at b1
                  have := q H2 s02
                  rw [eqB_false ne] at this
                  exact this
                · have hl2 : xs.length = ys.length := by
                    have z : V.int (xs.length : Nat) = V.int (ys.length : Nat) := by simpa using b1
                    have := V.int.inj z
                    omega
                  have hmm2 : szP ps' + (szA ds + 1) = m := by
                    rw [← hm, szP_append]
                    rfl
                  have hlp := len_szP ps'
                  have hlv := paired_len pr2
                  have hls := len_szA ds
                  have hzl : (ds.zip es).length = xs.length := by rw [List.length_zip]; omega
                  refine ⟨.ref l, rfl, .ref a, rfl, a, xs, rfl, .inr hsx, (xs.length : Nat), rfl, by omega, by omega, fun D hD => lc_range (lo := 0) (n := ((xs.length : Nat) : Int).toNat) (fun i H3 => ∃ ws : List V, ws.length = i ∧ PrA K H3 ws ((ds.zip es).take i) ∧ H3 D = some (.lst ws) ∧ Same H2 H3) ⟨[], rfl, .nil, upd_same, same_upd hD⟩ (fun i H3 hi hP => ?_) (fun H3 hP => ?_)⟩
                  · obtain ⟨ws, el, hw, eD, s3⟩ := hP
                    rw [Int.toNat_natCast] at hi
                    have gx : xs[i]? = some xs[i] := List.getElem?_eq_getElem hi
                    have gy : ys[i]? = some ys[i] := List.getElem?_eq_getElem (by omega)
                    obtain ⟨di, k1, k2⟩ := dpAll_get hax gx
                    obtain ⟨ei', k3, k4⟩ := dpAll_get hay gy
                    have q1 : pl di = true := plA_mem pd (List.mem_of_getElem? k1)
                    have q2 : pl ei' = true := plA_mem pe (List.mem_of_getElem? k3)
                    have hz : (ds.zip es)[i]? = some (di, ei') := by
                      rw [List.getElem?_zip_eq_some]
                      exact ⟨k1, k3⟩
                    have ts3 : TS K H2 H3 := ts_same s3
                    refine ⟨rfl, ?_⟩
                    refine iteT (B := ∃ ws : List V, ws.length = i + 1 ∧ PrA K H3 ws ((ds.zip es).take (i + 1)) ∧ H3 D = some (.lst ws) ∧ Same H2 H3) ?_
                    refine ⟨.ref a, rfl, _, rfl, a, xs, _, _, rfl, rfl, ts3 _ _ hsx, atI_of2 (by omega) gx, .ref b, rfl, _, rfl, b, ys, _, _, rfl, rfl, ts3 _ _ hsy, atI_of2 (by omega) gy, (by show 2 ≤ sizeLine; decide), fun tp ntp => ?_⟩
                    have eD2 := same_upd (o := HO.tup [xs[i], ys[i]]) ntp _ _ eD
                    have ts4 : TS K H3 (upd H3 tp (.tup [xs[i], ys[i]])) := ts_new ntp
                    have ts5 : TS K (upd H3 tp (.tup [xs[i], ys[i]])) (upd (upd H3 tp (.tup [xs[i], ys[i]])) D (.lst (ws ++ [.ref tp]))) := ts_lst eD2
                    refine ⟨_, eD2, ?_, ws ++ [.ref tp], ?_, ?_, upd_same, ?_⟩
                    · exact Nat.lt_of_le_of_lt (show ws.length ≤ 4000000 by omega) (by decide)
                    · rw [List.length_append, el]; rfl
                    · rw [List.take_add_one, hz]
                      refine paired_append (PrA.ts (ts4.trans ts5) hw) (.cons ⟨tp, _, _, rfl, ts5 _ _ (.inl (.inl upd_same)), ?_, ?_, q1, q2⟩ .nil)
                      · exact (ts3.trans (ts4.trans ts5)).dp _ _ q1 k2
                      · exact (ts3.trans (ts4.trans ts5)).dp _ _ q2 k4
                    · intro b' o eb
                      rw [upd_ne (ne_of_none eb hD), upd_ne (ne_of_none (s3 _ _ eb) ntp)]
                      exact s3 b' o eb
                  · obtain ⟨ws, el, hw, eD, s3⟩ := hP
                    rw [Int.toNat_natCast, ← hzl] at el hw
                    rw [List.take_length] at hw
                    refine ⟨l, D, vs', ws, rfl, rfl, s3 _ _ cl2, eD, ?_, fun p np => ?_⟩
                    · exact Nat.le_trans (show vs'.length + ws.length ≤ 4000000 by omega) (by decide)
                    · have ts3 : TS K H2 H3 := ts_same s3
                      refine ⟨szP ps' + szA ds, by omega, p, _, _, _, vs' ++ ws, ps' ++ ds.zip es, rfl, upd_same, (s02.trans s3).free np, paired_append (PrA.ts (ts3.trans (ts_new np)) pr2) (PrA.ts (ts_new np) hw), ?_, by omega, ?_, ?_⟩
                      · rw [szP_append, szP_zip ds es (by omega)]
                      · rw [← hall, allEq_append, allEq_append, allEq_zip ds es (by omega), allEq_one]
                        exact ⟨fun z => ⟨z.1, by rw [z.2]⟩, fun z => ⟨z.1, PyData.tuple.inj z.2⟩⟩
                      · exact (s02.trans s3).trans (same_upd np)
          | _ => cases a2
        | _ => cases a1
      · rw [eqv_nil] at c
        have hemp : ps = [] := by
          cases ps with
          | nil => rfl
          | cons _ _ => exact absurd rfl c
        subst hemp
        have := q Hz (s0.trans sz1)
        rw [eqB_true (hall.mp fun _ h => nomatch h)] at this
        exact this
end
end K1
namespace K1
open PySem PySem.Spec PyProof.Rows L2
theorem emp_iff {α β : Type} {F : α → β → Prop} {xs : List α} {ys : List β} (h : Paired F xs ys) : xs.isEmpty = ys.isEmpty := by cases h <;> rfl
theorem dpAll_emp {K : PySem.W.Frag} {H : Hp} {xs : List V} {ys : List PyData} (h : DpAll K H xs ys) : xs.isEmpty = ys.isEmpty := by cases h <;> rfl
/-- a sum of two tuples, wherever it lies -/
theorem catA_any {K : PySem.W.Frag} {H : Hp} {a b : Addr} {xs ys : List V} {Q : VK} (ha : SqT K H a xs) (hb : SqT K H b ys) (hl : xs.length + ys.length ≤ sizeLine)
    (q : ∀ r H', Same H H' → SqT K H' r (xs ++ ys) → Q (.ref r) H') : rCatA K (.ref a) (.ref b) H Q := by
  refine ⟨a, b, xs, ys, rfl, rfl, ha, hb, hl, fun e => ?_, fun e1 e2 => ?_, fun e1 e2 p np => q p _ (same_upd np) (.inl (.inl upd_same))⟩
  · subst e; exact q b H (Same.refl _) hb
  · subst e2; exact q a H (Same.refl _) (by rw [List.append_nil]; exact ha)
end K1
namespace K1
open PySem PySem.Spec PyProof.Rows L2
theorem slA_any {K : PySem.W.Frag} {H : Hp} {a : Addr} {xs : List V} {lo hi : Option Int} {Q : VK} (ha : SqT K H a xs) (q : ∀ r H', Same H H' → SqT K H' r (cutV xs lo hi) → Q (.ref r) H') : rSlA K (.ref a) lo hi H Q := by
  refine ⟨a, xs, rfl, ha, fun hw => ?_, fun _ p np => q p _ (same_upd np) (.inl (.inl upd_same))⟩
  have e : cutV xs lo hi = xs := by
    unfold cutV
    rw [hw.1, hw.2]
    simp
  exact q a H (Same.refl _) (by rw [e]; exact ha)
theorem cut_take (xs : List V) (i : Nat) : cutV xs none (some (i : Int)) = xs.take i := by
  unfold cutV
  rw [HT.sIx_none, HT.sIx_nat]
  simp only [List.drop_zero, Nat.sub_zero]
  by_cases h : i ≤ xs.length
  · rw [show min i xs.length = i by omega]
  · rw [show min i xs.length = xs.length by omega, List.take_length, List.take_of_length_le (by omega)]
theorem cut_drop (xs : List V) (i : Nat) : cutV xs (some (i : Int)) none = xs.drop i := by
  unfold cutV
  rw [HT.sIx_none, HT.sIx_nat]
  by_cases h : i ≤ xs.length
  · rw [show min i xs.length = i by omega]
    rw [List.take_of_length_le (by rw [List.length_drop]; omega)]
  · rw [show min i xs.length = xs.length by omega, List.drop_of_length_le (by omega), List.drop_of_length_le (by omega)]
    simp
theorem eqv_nilT (xs : List PyData) : PyData.eqv (.tuple xs) (.tuple []) = xs.isEmpty := by
  cases xs <;> simp [PyData.eqv, PyData.eqvAll]
end K1
namespace K2
open PySem L2
open TL (tl joinL)
mutual
/-- a kind, as the document's A2 has it -/
inductive Kd where
  | num (i : Bool) (b : Int)
  | truth
  | parts (v : Bool) (ps : Ps)
  | row (m : Int) (k : Kd)
  | one (b : Bool) (k : Kd)
  | use (n : Str) (fs : Ks)
  | hole (n : Str)
inductive Ps where
  | nil
  | cons (n : Str) (k : Kd) (ps : Ps)
inductive Ks where
  | nil
  | cons (k : Kd) (ks : Ks)
end
def wN (i : Bool) : String := if i then "int" else "nat"
def wP (v : Bool) : String := if v then "variant" else "record"
def wO (b : Bool) : String := if b then "box" else "maybe"
def S (s : String) : Str := Str.ofString s
def cW (s : String) : List Nat := tl (S s)
def dg (n : Int) : List Nat := tl (S (toString n))
mutual
def toD : Kd → PyData
  | .num i b => .tuple [.str (S (wN i)), .int b]
  | .truth => .tuple [.str (S "truth")]
  | .parts v ps => .tuple [.str (S (wP v)), .tuple (psD ps)]
  | .row m k => .tuple [.str (S "row"), .int m, toD k]
  | .one b k => .tuple [.str (S (wO b)), toD k]
  | .use n fs => .tuple [.str (S "use"), .str n, .tuple (ksD fs)]
  | .hole n => .tuple [.str (S "hole"), .str n]
def psD : Ps → List PyData
  | .nil => []
  | .cons n k ps => .tuple [.str n, toD k] :: psD ps
def ksD : Ks → List PyData
  | .nil => []
  | .cons k ks => toD k :: ksD ks
end
/-! ### texts -/
mutual
def cd : Kd → List Nat
  | .num i b => cW (wN i) ++ dg b
  | .truth => cW "truth"
  | .parts v ps => cW (wP v) ++ (40 :: (joinL (cW ", ") (lsP ps) ++ [41]))
  | .row m k => cW "row" ++ (32 :: (dg m ++ (32 :: cd k)))
  | .one b k => cW (wO b) ++ (32 :: cd k)
  | .use n fs => tl n ++ (91 :: (joinL (cW ", ") (lsK fs) ++ [93]))
  | .hole n => 63 :: tl n
def lsP : Ps → List (List Nat)
  | .nil => []
  | .cons n k ps => (tl n ++ (32 :: cd k)) :: lsP ps
def lsK : Ks → List (List Nat)
  | .nil => []
  | .cons k ks => cd k :: lsK ks
end
/-! ### names, bounds -/
def letter (c : Nat) : Bool := decide (97 ≤ c) && decide (c ≤ 122)
def digit (c : Nat) : Bool := decide (48 ≤ c) && decide (c ≤ 57)
structure Nm (n : Str) : Prop where
  let_ : ∀ c ∈ tl n, letter c = true
  pos : tl n ≠ []
  most : (tl n).length ≤ 12
mutual
def good : Kd → Prop
  | .num _ b => 1 ≤ b ∧ b ≤ 64
  | .truth => True
  | .parts _ ps => goodP ps
  | .row m k => (1 ≤ m ∧ m ≤ 64) ∧ good k
  | .one _ k => good k
  | .use n fs => Nm n ∧ goodK fs
  | .hole n => Nm n
def goodP : Ps → Prop
  | .nil => True
  | .cons n k ps => Nm n ∧ good k ∧ goodP ps
def goodK : Ks → Prop
  | .nil => True
  | .cons k ks => good k ∧ goodK ks
end
theorem dg_tab : ∀ i : Nat, i < 65 → (dg (i : Int)).all digit = true ∧ dg (i : Int) ≠ [] ∧ (dg (i : Int)).length ≤ 2 := by decide +kernel
theorem dg_inj_tab : ∀ i : Nat, i < 65 → ∀ j : Nat, j < 65 → dg (i : Int) = dg (j : Int) → i = j := by decide +kernel
theorem dg_ok {b : Int} (h : 1 ≤ b ∧ b ≤ 64) : (∀ c ∈ dg b, digit c = true) ∧ dg b ≠ [] ∧ (dg b).length ≤ 2 := by
  obtain ⟨n, rfl⟩ : ∃ n : Nat, b = (n : Int) := ⟨b.toNat, by omega⟩
  obtain ⟨h1, h2⟩ := dg_tab n (by omega)
  exact ⟨fun c hc => List.all_eq_true.mp h1 c hc, h2⟩
theorem dg_inj {a b : Int} (h : 1 ≤ a ∧ a ≤ 64) (g : 1 ≤ b ∧ b ≤ 64) (e : dg a = dg b) : a = b := by
  obtain ⟨n, rfl⟩ : ∃ n : Nat, a = (n : Int) := ⟨a.toNat, by omega⟩
  obtain ⟨m, rfl⟩ : ∃ n : Nat, b = (n : Int) := ⟨b.toNat, by omega⟩
  rw [dg_inj_tab n (by omega) m (by omega) e]
/-! ### a text is of one kind alone -/
/-- a list that doesn't begin with a p -/
def Hd (p : Nat → Bool) (x : List Nat) : Prop := ∀ c t, x = c :: t → p c = false
theorem span_eq {p : Nat → Bool} : ∀ {a b x y : List Nat}, (∀ c ∈ a, p c = true) → (∀ c ∈ b, p c = true) → Hd p x → Hd p y → a ++ x = b ++ y → a = b ∧ x = y
  | [], [], _, _, _, _, _, _, e => ⟨rfl, e⟩
  | [], b :: bs, x, y, _, hb, hx, _, e => by
    have := hx b (bs ++ y) e
    rw [hb b List.mem_cons_self] at this
    cases this
  | a :: as, [], x, y, ha, _, _, hy, e => by
    have := hy a (as ++ x) e.symm
    rw [ha a List.mem_cons_self] at this
    cases this
  | a :: as, b :: bs, x, y, ha, hb, hx, hy, e => by
    have e1 : a = b ∧ as ++ x = bs ++ y := by simpa using e
    obtain ⟨h1, h2⟩ := span_eq (fun c hc => ha c (List.mem_cons_of_mem _ hc)) (fun c hc => hb c (List.mem_cons_of_mem _ hc)) hx hy e1.2
    exact ⟨by rw [e1.1, h1], h2⟩
/-- what may stand behind a kind's text -/
def Stop (r : List Nat) : Prop := r = [] ∨ ∃ t, r = 44 :: t ∨ r = 41 :: t ∨ r = 93 :: t
theorem Stop.hd {r : List Nat} (h : Stop r) : Hd letter r ∧ Hd digit r := by
  constructor
  · intro c t e
    rcases h with h | ⟨u, h | h | h⟩ <;> (rw [h] at e; cases e <;> rfl)
  · intro c t e
    rcases h with h | ⟨u, h | h | h⟩ <;> (rw [h] at e; cases e <;> rfl)
theorem hd_cons {p : Nat → Bool} {c : Nat} {t : List Nat} (h : p c = false) : Hd p (c :: t) := fun d u e => by cases e; exact h
/-- the word at a text's head, and the rest -/
def hw : Kd → List Nat
  | .num i _ => cW (wN i)
  | .truth => cW "truth"
  | .parts v _ => cW (wP v)
  | .row _ _ => cW "row"
  | .one b _ => cW (wO b)
  | .use n _ => tl n
  | .hole _ => []
def tw : Kd → List Nat
  | .num _ b => dg b
  | .truth => []
  | .parts _ ps => 40 :: (joinL (cW ", ") (lsP ps) ++ [41])
  | .row m k => 32 :: (dg m ++ (32 :: cd k))
  | .one _ k => 32 :: cd k
  | .use _ fs => 91 :: (joinL (cW ", ") (lsK fs) ++ [93])
  | .hole n => 63 :: tl n
theorem cd_hw : ∀ k, cd k = hw k ++ tw k
  | .num i b => by simp [cd, hw, tw]
  | .truth => by simp [cd, hw, tw]
  | .parts v ps => by simp [cd, hw, tw]
  | .row m k => by simp [cd, hw, tw]
  | .one b k => by simp [cd, hw, tw]
  | .use n fs => by simp [cd, hw, tw]
  | .hole n => by simp [cd, hw, tw]
theorem word_letters (s : String) (h : (cW s).all letter = true) : ∀ c ∈ cW s, letter c = true := fun c hc => List.all_eq_true.mp h c hc
theorem hw_letters : ∀ k, good k → ∀ c ∈ hw k, letter c = true
  | .num i _, _ => by cases i <;> exact word_letters _ (by decide +kernel)
  | .truth, _ => word_letters _ (by decide +kernel)
  | .parts v _, _ => by cases v <;> exact word_letters _ (by decide +kernel)
  | .row _ _, _ => word_letters _ (by decide +kernel)
  | .one b _, _ => by cases b <;> exact word_letters _ (by decide +kernel)
  | .use n _, h => h.1.let_
  | .hole _, _ => fun c hc => by cases hc
theorem tw_hd : ∀ k, good k → ∀ r, Stop r → Hd letter (tw k ++ r)
  | .num i b, h, r, _ => fun c t e => by
    obtain ⟨h1, h2, _⟩ := dg_ok h
    have e' : dg b ++ r = c :: t := e
    cases hd : dg b with
    | nil => exact absurd hd h2
    | cons x xs =>
      rw [hd] at e'
      cases e'
      have := h1 c (by rw [hd]; exact List.mem_cons_self)
      unfold digit at this
      unfold letter
      simp at this ⊢
      omega
  | .truth, _, r, hr => hr.hd.1
  | .parts v _, _, _, _ => hd_cons rfl
  | .row _ _, _, _, _ => hd_cons rfl
  | .one b _, _, _, _ => hd_cons rfl
  | .use n _, h, _, _ => hd_cons rfl
  | .hole _, _, _, _ => hd_cons rfl
theorem sep_eq : cW ", " = [44, 32] := by decide +kernel
theorem stop_sep (t : List Nat) : Stop (cW ", " ++ t) := by rw [sep_eq]; exact .inr ⟨32 :: t, .inl rfl⟩
theorem stop41 (t : List Nat) : Stop (41 :: t) := .inr ⟨t, .inr (.inl rfl)⟩
theorem stop93 (t : List Nat) : Stop (93 :: t) := .inr ⟨t, .inr (.inr rfl)⟩
theorem wN_ne : ∀ i, cW (wN i) ≠ [] := by decide +kernel
theorem wP_ne : ∀ i, cW (wP i) ≠ [] := by decide +kernel
theorem wO_ne : ∀ i, cW (wO i) ≠ [] := by decide +kernel
/-- a kind's text begins with a letter or a question mark -/
theorem cd_head (k : Kd) (h : good k) : ∃ c t, cd k = c :: t ∧ (letter c = true ∨ c = 63) := by
  rw [cd_hw]
  cases hh : hw k with
  | cons c t => exact ⟨c, t ++ tw k, rfl, .inl (hw_letters k h c (by rw [hh]; exact List.mem_cons_self))⟩
  | nil =>
    cases k with
    | num i b => exact absurd hh (wN_ne i)
    | truth => exact absurd hh (show cW "truth" ≠ [] by decide +kernel)
    | parts v _ => exact absurd hh (wP_ne v)
    | row _ _ => exact absurd hh (show cW "row" ≠ [] by decide +kernel)
    | one b _ => exact absurd hh (wO_ne b)
    | use n _ => exact absurd hh h.1.pos
    | hole n => exact ⟨63, tl n, rfl, .inr rfl⟩
theorem wN_inj {i j : Bool} (h : cW (wN i) = cW (wN j)) : i = j := by revert i j; decide +kernel
theorem wP_inj {i j : Bool} (h : cW (wP i) = cW (wP j)) : i = j := by revert i j; decide +kernel
theorem wO_inj {i j : Bool} (h : cW (wO i) = cW (wO j)) : i = j := by revert i j; decide +kernel
theorem row_one (b : Bool) : cW "row" ≠ cW (wO b) := by revert b; decide +kernel
theorem dg_hd {b : Int} (h : 1 ≤ b ∧ b ≤ 64) (r : List Nat) : ∃ c t, dg b ++ r = c :: t ∧ digit c = true := by
  obtain ⟨h1, h2, _⟩ := dg_ok h
  cases hd : dg b with
  | nil => exact absurd hd h2
  | cons x xs => exact ⟨x, xs ++ r, rfl, h1 x (by rw [hd]; exact List.mem_cons_self)⟩
theorem stop_not {r t : List Nat} {c : Nat} (h : Stop r) (e : r = c :: t) : c = 44 ∨ c = 41 ∨ c = 93 := by
  rcases h with h | ⟨u, h | h | h⟩ <;> (rw [h] at e; cases e <;> simp)
theorem joinL_cons (s p : List Nat) (ps : List (List Nat)) : joinL s (p :: ps) = p ++ (match ps with | [] => [] | _ :: _ => s ++ joinL s ps) := by
  cases ps <;> simp [joinL]
def tag : Kd → Nat
  | .num _ _ => 0
  | .truth => 1
  | .parts _ _ => 2
  | .row _ _ => 3
  | .one _ _ => 3
  | .use _ _ => 4
  | .hole _ => 5
def tagL : List Nat → Nat
  | [] => 1
  | c :: _ => if digit c = true then 0 else if c = 40 then 2 else if c = 32 then 3 else if c = 91 then 4 else if c = 63 then 5 else 1
theorem tag_eq : ∀ k, good k → ∀ r, Stop r → tagL (tw k ++ r) = tag k
  | .num i b, g, r, _ => by
    obtain ⟨c, t, e, h⟩ := dg_hd g r
    show tagL (dg b ++ r) = 0
    rw [e]
    show (if digit c = true then 0 else _) = 0
    rw [if_pos h]
  | .truth, _, r, s => by
    show tagL r = 1
    rcases s with h | ⟨u, h | h | h⟩ <;> (rw [h]; rfl)
  | .parts _ _, _, _, _ => rfl
  | .row _ _, _, _, _ => rfl
  | .one _ _, _, _, _ => rfl
  | .use _ _, _, _, _ => rfl
  | .hole _, _, _, _ => rfl
theorem nm_head {n : Str} (h : Nm n) (x : List Nat) : ∃ c t, tl n ++ x = c :: t ∧ letter c = true := by
  cases hn : tl n with
  | nil => exact absurd hn h.pos
  | cons c t => exact ⟨c, t ++ x, rfl, h.let_ c (by rw [hn]; exact List.mem_cons_self)⟩
/-- what stands behind the first of some joined pieces -/
def more (ps : List (List Nat)) (z : List Nat) : List Nat := match ps with
  | [] => z
  | _ :: _ => cW ", " ++ (joinL (cW ", ") ps ++ z)
theorem join_more (p : List Nat) (ps : List (List Nat)) (z : List Nat) : joinL (cW ", ") (p :: ps) ++ z = p ++ more ps z := by
  cases ps <;> simp [joinL, more]
theorem more_stop (ps : List (List Nat)) {z : List Nat} (h : Stop z) : Stop (more ps z) := by
  cases ps with
  | nil => exact h
  | cons p ps => exact stop_sep _
mutual
theorem inj : ∀ (k k' : Kd) (r r' : List Nat), good k → good k' → Stop r → Stop r' → cd k ++ r = cd k' ++ r' → k = k' ∧ r = r'
  | k, k', r, r', g, g', s, s', e => by
    rw [cd_hw k, cd_hw k', List.append_assoc, List.append_assoc] at e
    obtain ⟨e1, e2⟩ := span_eq (hw_letters k g) (hw_letters k' g') (tw_hd k g r s) (tw_hd k' g' r' s') e
    have ht : tag k = tag k' := by rw [← tag_eq k g r s, ← tag_eq k' g' r' s', e2]
    match k, k' with
    | .num i b, .num j c =>
      have e3 := span_eq (dg_ok g).1 (dg_ok g').1 s.hd.2 s'.hd.2 e2
      exact ⟨by rw [wN_inj e1, dg_inj g g' e3.1], e3.2⟩
    | .truth, .truth => exact ⟨rfl, e2⟩
    | .parts v ps, .parts v' ps' =>
      have e3 : joinL (cW ", ") (lsP ps) ++ (41 :: r) = joinL (cW ", ") (lsP ps') ++ (41 :: r') := by
        have : joinL (cW ", ") (lsP ps) ++ [41] ++ r = joinL (cW ", ") (lsP ps') ++ [41] ++ r' := by simpa [tw] using e2
        simpa using this
      obtain ⟨f1, f2⟩ := injP ps ps' r r' g g' e3
      exact ⟨by rw [wP_inj e1, f1], f2⟩
    | .row m k1, .row m' k2 =>
      have e3 : dg m ++ (32 :: (cd k1 ++ r)) = dg m' ++ (32 :: (cd k2 ++ r')) := by simpa [tw] using e2
      obtain ⟨f1, f2⟩ := span_eq (dg_ok g.1).1 (dg_ok g'.1).1 (hd_cons rfl) (hd_cons rfl) e3
      obtain ⟨f3, f4⟩ := inj k1 k2 r r' g.2 g'.2 s s' (by simpa using f2)
      exact ⟨by rw [dg_inj g.1 g'.1 f1, f3], f4⟩
    | .one b k1, .one b' k2 =>
      obtain ⟨f3, f4⟩ := inj k1 k2 r r' g g' s s' (by simpa [tw] using e2)
      exact ⟨by rw [wO_inj e1, f3], f4⟩
    | .use n fs, .use n' fs' =>
      have e3 : joinL (cW ", ") (lsK fs) ++ (93 :: r) = joinL (cW ", ") (lsK fs') ++ (93 :: r') := by
        have : joinL (cW ", ") (lsK fs) ++ [93] ++ r = joinL (cW ", ") (lsK fs') ++ [93] ++ r' := by simpa [tw] using e2
        simpa using this
      obtain ⟨f1, f2⟩ := injK fs fs' r r' g.2 g'.2 e3
      exact ⟨by rw [TL.ext_tl e1, f1], f2⟩
    | .hole n, .hole n' =>
      have e3 : tl n ++ r = tl n' ++ r' := by simpa [tw] using e2
      obtain ⟨f1, f2⟩ := span_eq g.let_ g'.let_ s.hd.1 s'.hd.1 e3
      exact ⟨by rw [TL.ext_tl f1], f2⟩
    | .row m k1, .one b k2 => exact absurd e1 (row_one b)
    | .one b k1, .row m k2 => exact absurd e1.symm (row_one b)
    | .num _ _, .truth => exact absurd ht (by simp [tag])
    | .num _ _, .parts _ _ => exact absurd ht (by simp [tag])
    | .num _ _, .row _ _ => exact absurd ht (by simp [tag])
    | .num _ _, .one _ _ => exact absurd ht (by simp [tag])
    | .num _ _, .use _ _ => exact absurd ht (by simp [tag])
    | .num _ _, .hole _ => exact absurd ht (by simp [tag])
    | .truth, .num _ _ => exact absurd ht (by simp [tag])
    | .truth, .parts _ _ => exact absurd ht (by simp [tag])
    | .truth, .row _ _ => exact absurd ht (by simp [tag])
    | .truth, .one _ _ => exact absurd ht (by simp [tag])
    | .truth, .use _ _ => exact absurd ht (by simp [tag])
    | .truth, .hole _ => exact absurd ht (by simp [tag])
    | .parts _ _, .num _ _ => exact absurd ht (by simp [tag])
    | .parts _ _, .truth => exact absurd ht (by simp [tag])
    | .parts _ _, .row _ _ => exact absurd ht (by simp [tag])
    | .parts _ _, .one _ _ => exact absurd ht (by simp [tag])
    | .parts _ _, .use _ _ => exact absurd ht (by simp [tag])
    | .parts _ _, .hole _ => exact absurd ht (by simp [tag])
    | .row _ _, .num _ _ => exact absurd ht (by simp [tag])
    | .row _ _, .truth => exact absurd ht (by simp [tag])
    | .row _ _, .parts _ _ => exact absurd ht (by simp [tag])
    | .row _ _, .use _ _ => exact absurd ht (by simp [tag])
    | .row _ _, .hole _ => exact absurd ht (by simp [tag])
    | .one _ _, .num _ _ => exact absurd ht (by simp [tag])
    | .one _ _, .truth => exact absurd ht (by simp [tag])
    | .one _ _, .parts _ _ => exact absurd ht (by simp [tag])
    | .one _ _, .use _ _ => exact absurd ht (by simp [tag])
    | .one _ _, .hole _ => exact absurd ht (by simp [tag])
    | .use _ _, .num _ _ => exact absurd ht (by simp [tag])
    | .use _ _, .truth => exact absurd ht (by simp [tag])
    | .use _ _, .parts _ _ => exact absurd ht (by simp [tag])
    | .use _ _, .row _ _ => exact absurd ht (by simp [tag])
    | .use _ _, .one _ _ => exact absurd ht (by simp [tag])
    | .use _ _, .hole _ => exact absurd ht (by simp [tag])
    | .hole _, .num _ _ => exact absurd ht (by simp [tag])
    | .hole _, .truth => exact absurd ht (by simp [tag])
    | .hole _, .parts _ _ => exact absurd ht (by simp [tag])
    | .hole _, .row _ _ => exact absurd ht (by simp [tag])
    | .hole _, .one _ _ => exact absurd ht (by simp [tag])
    | .hole _, .use _ _ => exact absurd ht (by simp [tag])
  termination_by structural k => k
theorem injP : ∀ (ps ps' : Ps) (r r' : List Nat), goodP ps → goodP ps' → joinL (cW ", ") (lsP ps) ++ (41 :: r) = joinL (cW ", ") (lsP ps') ++ (41 :: r') → ps = ps' ∧ r = r'
  | .nil, .nil, r, r', _, _, e => ⟨rfl, by simpa [lsP, joinL] using e⟩
  | .nil, .cons n k ps, r, r', _, g, e => by
    exfalso
    simp only [lsP] at e
    rw [join_more, List.append_assoc] at e
    obtain ⟨c, t, h1, h2⟩ := nm_head g.1 ((32 :: cd k) ++ more (lsP ps) (41 :: r'))
    rw [h1] at e
    cases e
    cases h2
  | .cons n k ps, .nil, r, r', g, _, e => by
    exfalso
    simp only [lsP] at e
    rw [join_more, List.append_assoc] at e
    obtain ⟨c, t, h1, h2⟩ := nm_head g.1 ((32 :: cd k) ++ more (lsP ps) (41 :: r))
    rw [h1] at e
    cases e
    cases h2
  | .cons n k ps, .cons n' k' ps', r, r', g, g', e => by
    simp only [lsP] at e
    rw [join_more, join_more, List.append_assoc, List.append_assoc] at e
    obtain ⟨f1, f2⟩ := span_eq g.1.let_ g'.1.let_ (hd_cons rfl) (hd_cons rfl) e
    have f3 : cd k ++ more (lsP ps) (41 :: r) = cd k' ++ more (lsP ps') (41 :: r') := by simpa using f2
    obtain ⟨f4, f5⟩ := inj k k' _ _ g.2.1 g'.2.1 (more_stop _ (stop41 r)) (more_stop _ (stop41 r')) f3
    have f6 : ps = ps' ∧ r = r' := by
      match ps, ps' with
      | .nil, .nil => exact ⟨rfl, by simpa [more, lsP] using f5⟩
      | .nil, .cons _ _ _ => simp [more, lsP, sep_eq] at f5
      | .cons _ _ _, .nil => simp [more, lsP, sep_eq] at f5
      | .cons a b c, .cons a' b' c' => exact injP (.cons a b c) (.cons a' b' c') r r' g.2.2 g'.2.2 (by simpa [more, lsP, sep_eq] using f5)
    exact ⟨by rw [TL.ext_tl f1, f4, f6.1], f6.2⟩
  termination_by structural ps => ps
theorem injK : ∀ (ps ps' : Ks) (r r' : List Nat), goodK ps → goodK ps' → joinL (cW ", ") (lsK ps) ++ (93 :: r) = joinL (cW ", ") (lsK ps') ++ (93 :: r') → ps = ps' ∧ r = r'
  | .nil, .nil, r, r', _, _, e => ⟨rfl, by simpa [lsK, joinL] using e⟩
  | .nil, .cons k ps, r, r', _, g, e => by
    exfalso
    simp only [lsK] at e
    rw [join_more] at e
    obtain ⟨c, t, h1, h2⟩ := cd_head k g.1
    rw [h1] at e
    cases e
    rcases h2 with h2 | h2 <;> cases h2
  | .cons k ps, .nil, r, r', g, _, e => by
    exfalso
    simp only [lsK] at e
    rw [join_more] at e
    obtain ⟨c, t, h1, h2⟩ := cd_head k g.1
    rw [h1] at e
    cases e
    rcases h2 with h2 | h2 <;> cases h2
  | .cons k ps, .cons k' ps', r, r', g, g', e => by
    simp only [lsK] at e
    rw [join_more, join_more] at e
    obtain ⟨f4, f5⟩ := inj k k' _ _ g.1 g'.1 (more_stop _ (stop93 r)) (more_stop _ (stop93 r')) e
    have f6 : ps = ps' ∧ r = r' := by
      match ps, ps' with
      | .nil, .nil => exact ⟨rfl, by simpa [more, lsK] using f5⟩
      | .nil, .cons _ _ => simp [more, lsK, sep_eq] at f5
      | .cons _ _, .nil => simp [more, lsK, sep_eq] at f5
      | .cons a b, .cons a' b' => exact injK (.cons a b) (.cons a' b') r r' g.2 g'.2 (by simpa [more, lsK, sep_eq] using f5)
    exact ⟨by rw [f4, f6.1], f6.2⟩
  termination_by structural ps => ps
end
theorem cd_inj {k k' : Kd} (g : good k) (g' : good k') (e : cd k = cd k') : k = k' := (inj k k' [] [] g g' (.inl rfl) (.inl rfl) (by rw [e])).1
end K2
namespace K2
open PySem L2 K1
open TL (tl joinL)
/-! ### forms, depth -/
mutual
def fm : Kd → Nat
  | .num _ _ => 1
  | .truth => 1
  | .parts _ ps => fmP ps + 1
  | .row _ k => fm k + 1
  | .one _ k => fm k + 1
  | .use _ fs => fmK fs + 1
  | .hole _ => 1
def fmP : Ps → Nat
  | .nil => 0
  | .cons _ k ps => fm k + fmP ps
def fmK : Ks → Nat
  | .nil => 0
  | .cons k ks => fm k + fmK ks
end
mutual
def dpt : Kd → Nat
  | .num _ _ => 1
  | .truth => 1
  | .parts _ ps => dptP ps + 1
  | .row _ k => dpt k + 1
  | .one _ k => dpt k + 1
  | .use _ fs => dptK fs + 1
  | .hole _ => 1
def dptP : Ps → Nat
  | .nil => 0
  | .cons _ k ps => max (dpt k) (dptP ps)
def dptK : Ks → Nat
  | .nil => 0
  | .cons k ks => max (dpt k) (dptK ks)
end
theorem fm_pos : ∀ k, 1 ≤ fm k
  | .num _ _ => by simp [fm]
  | .truth => by simp [fm]
  | .parts _ ps => by simp [fm]
  | .row _ k => by simp [fm]
  | .one _ k => by simp [fm]
  | .use _ fs => by simp [fm]
  | .hole _ => by simp [fm]
theorem dpt_pos : ∀ k, 1 ≤ dpt k
  | .num _ _ => by simp [dpt]
  | .truth => by simp [dpt]
  | .parts _ ps => by simp [dpt]
  | .row _ k => by simp [dpt]
  | .one _ k => by simp [dpt]
  | .use _ fs => by simp [dpt]
  | .hole _ => by simp [dpt]
/-! ### toD is one-to-one -/
theorem wPO : ∀ v b, S (wP v) ≠ S (wO b) := by decide +kernel
theorem sN_inj : ∀ {i j : Bool}, S (wN i) = S (wN j) → i = j := by decide +kernel
theorem sP_inj : ∀ {i j : Bool}, S (wP i) = S (wP j) → i = j := by decide +kernel
theorem sO_inj : ∀ {i j : Bool}, S (wO i) = S (wO j) → i = j := by decide +kernel
theorem toD_tuple : ∀ k, ∃ ds, toD k = .tuple ds
  | .num _ _ => ⟨_, rfl⟩
  | .truth => ⟨_, rfl⟩
  | .parts _ ps => ⟨_, rfl⟩
  | .row _ k => ⟨_, rfl⟩
  | .one _ k => ⟨_, rfl⟩
  | .use _ fs => ⟨_, rfl⟩
  | .hole _ => ⟨_, rfl⟩
mutual
theorem toD_inj : ∀ k k', toD k = toD k' → k = k'
  | .num i b, k', e => by
    cases k' with
    | num j c => simp only [toD, PyData.tuple.injEq, List.cons.injEq, PyData.str.injEq, PyData.int.injEq, and_true] at e; rw [sN_inj e.1, e.2]
    | one b k => obtain ⟨ds, h⟩ := toD_tuple k; simp [toD, h] at e
    | _ => simp [toD] at e
  | .truth, k', e => by
    cases k' with
    | truth => rfl
    | _ => simp [toD] at e
  | .parts v ps, k', e => by
    cases k' with
    | parts v' ps' =>
      simp only [toD, PyData.tuple.injEq, List.cons.injEq, PyData.str.injEq, and_true] at e
      rw [sP_inj e.1, psD_inj ps ps' e.2]
    | one b k => simp only [toD, PyData.tuple.injEq, List.cons.injEq, PyData.str.injEq, and_true] at e; exact absurd e.1 (wPO v b)
    | _ => simp [toD] at e
  | .row m k, k', e => by
    cases k' with
    | row m' k2 =>
      simp only [toD, PyData.tuple.injEq, List.cons.injEq, PyData.int.injEq, and_true, true_and] at e
      rw [e.1, toD_inj k k2 e.2]
    | _ => simp [toD] at e
  | .one b k, k', e => by
    cases k' with
    | one b' k2 =>
      simp only [toD, PyData.tuple.injEq, List.cons.injEq, PyData.str.injEq, and_true] at e
      rw [sO_inj e.1, toD_inj k k2 e.2]
    | parts v ps => simp only [toD, PyData.tuple.injEq, List.cons.injEq, PyData.str.injEq, and_true] at e; exact absurd e.1.symm (wPO v b)
    | num i c => obtain ⟨ds, h⟩ := toD_tuple k; simp [toD, h] at e
    | hole n => obtain ⟨ds, h⟩ := toD_tuple k; simp [toD, h] at e
    | _ => simp [toD] at e
  | .use n fs, k', e => by
    cases k' with
    | use n' fs' =>
      simp only [toD, PyData.tuple.injEq, List.cons.injEq, PyData.str.injEq, and_true, true_and] at e
      rw [e.1, ksD_inj fs fs' e.2]
    | _ => simp [toD] at e
  | .hole n, k', e => by
    cases k' with
    | hole n' => simp only [toD, PyData.tuple.injEq, List.cons.injEq, PyData.str.injEq, and_true, true_and] at e; rw [e]
    | one b k => obtain ⟨ds, h⟩ := toD_tuple k; simp [toD, h] at e
    | _ => simp [toD] at e
  termination_by structural k => k
theorem psD_inj : ∀ ps ps', psD ps = psD ps' → ps = ps'
  | .nil, ps', e => by
    cases ps' with
    | nil => rfl
    | cons n k ps => simp [psD] at e
  | .cons n k ps, ps', e => by
    cases ps' with
    | nil => simp [psD] at e
    | cons n' k' ps' =>
      simp only [psD, PyData.tuple.injEq, List.cons.injEq, PyData.str.injEq, and_true] at e
      rw [e.1.1, toD_inj k k' e.1.2, psD_inj ps ps' e.2]
  termination_by structural ps => ps
theorem ksD_inj : ∀ ks ks', ksD ks = ksD ks' → ks = ks'
  | .nil, ps', e => by
    cases ps' with
    | nil => rfl
    | cons k ps => simp [ksD] at e
  | .cons k ps, ps', e => by
    cases ps' with
    | nil => simp [ksD] at e
    | cons k' ps' =>
      simp only [ksD, List.cons.injEq] at e
      rw [toD_inj k k' e.1, ksD_inj ps ps' e.2]
  termination_by structural ks => ks
end
/-! ### good kinds as written things -/
theorem strOk_S (s : String) (h : PyData.strOk (S s) = true) : pl (.str (S s)) = true := h
theorem nm_ok {n : Str} (h : Nm n) : PyData.strOk n = true := strOk_iff.mpr fun c hc => by
  have := h.let_ c hc
  unfold letter at this
  simp at this
  omega
theorem nm_len {n : Str} (h : Nm n) : n.length ≤ 12 := by rw [TL.len_tl]; exact h.most
theorem okN : ∀ i, PyData.strOk (S (wN i)) = true ∧ (S (wN i)).length ≤ 8 := by decide +kernel
theorem okP : ∀ i, PyData.strOk (S (wP i)) = true ∧ (S (wP i)).length ≤ 8 := by decide +kernel
theorem okO : ∀ i, PyData.strOk (S (wO i)) = true ∧ (S (wO i)).length ≤ 8 := by decide +kernel
theorem okT : PyData.strOk (S "truth") = true ∧ (S "truth").length ≤ 8 := by decide +kernel
theorem okR : PyData.strOk (S "row") = true ∧ (S "row").length ≤ 8 := by decide +kernel
theorem okU : PyData.strOk (S "use") = true ∧ (S "use").length ≤ 8 := by decide +kernel
theorem okH : PyData.strOk (S "hole") = true ∧ (S "hole").length ≤ 8 := by decide +kernel
mutual
theorem pl_D : ∀ k, good k → pl (toD k) = true ∧ sz (toD k) + 30 ≤ 80 * fm k ∧ (toD k).depth ≤ 3 * dpt k
  | .num i b, _ => by
    have := okN i
    refine ⟨by simp [toD, pl, plA, this.1], ?_, by simp [toD, PyData.depth, PyData.depthAll, dpt]⟩
    simp only [toD, sz, szA, fm]; omega
  | .truth, _ => by
    have := okT
    refine ⟨by simp [toD, pl, plA, this.1], ?_, by simp [toD, PyData.depth, PyData.depthAll, dpt]⟩
    simp only [toD, sz, szA, fm]; omega
  | .parts v ps, g => by
    have := okP v
    obtain ⟨h1, h2, h3⟩ := pl_P ps g
    refine ⟨by simp [toD, pl, plA, this.1, h1], ?_, ?_⟩
    · simp only [toD, sz, szA, fm]; omega
    · simp only [toD, PyData.depth, PyData.depthAll, dpt]; omega
  | .row m k, g => by
    have := okR
    obtain ⟨h1, h2, h3⟩ := pl_D k g.2
    refine ⟨by simp [toD, pl, plA, this.1, h1], ?_, ?_⟩
    · simp only [toD, sz, szA, fm]; omega
    · simp only [toD, PyData.depth, PyData.depthAll, dpt]; omega
  | .one b k, g => by
    have := okO b
    obtain ⟨h1, h2, h3⟩ := pl_D k g
    refine ⟨by simp [toD, pl, plA, this.1, h1], ?_, ?_⟩
    · simp only [toD, sz, szA, fm]; omega
    · simp only [toD, PyData.depth, PyData.depthAll, dpt]; omega
  | .use n fs, g => by
    have := okU
    have hn := nm_len g.1
    obtain ⟨h1, h2, h3⟩ := pl_K fs g.2
    refine ⟨by simp [toD, pl, plA, this.1, h1, nm_ok g.1], ?_, ?_⟩
    · simp only [toD, sz, szA, fm]; omega
    · simp only [toD, PyData.depth, PyData.depthAll, dpt]; omega
  | .hole n, g => by
    have := okH
    have hn := nm_len g
    refine ⟨by simp [toD, pl, plA, this.1, nm_ok g], ?_, by simp [toD, PyData.depth, PyData.depthAll, dpt]⟩
    simp only [toD, sz, szA, fm]; omega
  termination_by structural k => k
theorem pl_P : ∀ ps, goodP ps → plA (psD ps) = true ∧ szA (psD ps) ≤ 80 * fmP ps ∧ PyData.depthAll (psD ps) ≤ 3 * dptP ps + 1
  | .nil, _ => by simp [psD, plA, szA, PyData.depthAll]
  | .cons n k ps, g => by
    have hn := nm_len g.1
    obtain ⟨h1, h2, h3⟩ := pl_D k g.2.1
    obtain ⟨h4, h5, h6⟩ := pl_P ps g.2.2
    refine ⟨by simp [psD, pl, plA, h1, h4, nm_ok g.1], ?_, ?_⟩
    · simp only [psD, sz, szA, fmP]; omega
    · simp only [psD, PyData.depth, PyData.depthAll, dptP]; omega
  termination_by structural ps => ps
theorem pl_K : ∀ ks, goodK ks → plA (ksD ks) = true ∧ szA (ksD ks) ≤ 80 * fmK ks ∧ PyData.depthAll (ksD ks) ≤ 3 * dptK ks
  | .nil, _ => by simp [ksD, plA, szA, PyData.depthAll]
  | .cons k ks, g => by
    obtain ⟨h1, h2, h3⟩ := pl_D k g.1
    obtain ⟨h4, h5, h6⟩ := pl_K ks g.2
    refine ⟨by simp [ksD, plA, h1, h4], ?_, ?_⟩
    · simp only [ksD, szA, fmK]; omega
    · simp only [ksD, PyData.depthAll, dptK]; omega
  termination_by structural ks => ks
end
/-! ### lengths of texts -/
def sumL : List (List Nat) → Nat
  | [] => 0
  | p :: ps => p.length + 2 + sumL ps
theorem joinL_len : ∀ ps, (joinL (cW ", ") ps).length ≤ sumL ps
  | [] => by simp [joinL]
  | [p] => by simp [joinL, sumL]
  | p :: q :: r => by
    have ih := joinL_len (q :: r)
    simp only [joinL, List.length_append, sumL, sep_eq, List.length_cons, List.length_nil] at ih ⊢
    omega
theorem lN : ∀ i, (cW (wN i)).length ≤ 8 := by decide +kernel
theorem lP : ∀ i, (cW (wP i)).length ≤ 8 := by decide +kernel
theorem lO : ∀ i, (cW (wO i)).length ≤ 8 := by decide +kernel
theorem lT : (cW "truth").length ≤ 8 ∧ (cW "row").length ≤ 8 := by decide +kernel
mutual
theorem cd_len : ∀ k, good k → (cd k).length + 20 ≤ 40 * fm k
  | .num i b, g => by
    have h1 := lN i
    have h2 := (dg_ok g).2.2
    simp only [cd, List.length_append, fm]; omega
  | .truth, _ => by
    have := lT.1
    simp only [cd, fm]; omega
  | .parts v ps, g => by
    have h1 := lP v
    have h2 := joinL_len (lsP ps)
    have h3 := cd_lenP ps g
    simp only [cd, List.length_append, List.length_cons, List.length_nil, fm]; omega
  | .row m k, g => by
    have h1 := lT.2
    have h2 := (dg_ok g.1).2.2
    have h3 := cd_len k g.2
    simp only [cd, List.length_append, List.length_cons, fm]; omega
  | .one b k, g => by
    have h1 := lO b
    have h3 := cd_len k g
    simp only [cd, List.length_append, List.length_cons, fm]; omega
  | .use n fs, g => by
    have h1 := g.1.most
    have h2 := joinL_len (lsK fs)
    have h3 := cd_lenK fs g.2
    simp only [cd, List.length_append, List.length_cons, List.length_nil, fm]; omega
  | .hole n, g => by
    have h1 := g.most
    simp only [cd, List.length_cons, fm]; omega
  termination_by structural k => k
theorem cd_lenP : ∀ ps, goodP ps → sumL (lsP ps) ≤ 40 * fmP ps
  | .nil, _ => by simp [lsP, sumL]
  | .cons n k ps, g => by
    have h1 := g.1.most
    have h2 := cd_len k g.2.1
    have h3 := cd_lenP ps g.2.2
    simp only [lsP, sumL, List.length_append, List.length_cons, fmP]; omega
  termination_by structural ps => ps
theorem cd_lenK : ∀ ks, goodK ks → sumL (lsK ks) ≤ 40 * fmK ks
  | .nil, _ => by simp [lsK, sumL]
  | .cons k ks, g => by
    have h2 := cd_len k g.1
    have h3 := cd_lenK ks g.2
    simp only [lsK, sumL, fmK]; omega
  termination_by structural ks => ks
end
end K2
namespace K2
open PySem PySem.Spec PyProof.Rows L2 K1
open TL (tl joinL)
abbrev sShown : Stmt := topS 2
abbrev nmSh : List Str := ["kind", "word", "rows", "name", "each"]
theorem scSh : FnScope nmSh ["kind"] (defScope sShown) := ⟨rfl, rfl, rfl, by decide +kernel, rfl, by decide +kernel, by decide +kernel⟩
theorem tF {x y : Str} {A B : Prop} (h : x ≠ y) (b : B) : if decide (V.str x = V.str y) = true then A else B := by
  rw [if_neg (by simpa using h)]
  exact b
theorem tT {x y : Str} {A B : Prop} (h : x = y) (a : A) : if decide (V.str x = V.str y) = true then A else B := by
  rw [if_pos (by simpa using h)]
  exact a
theorem cT {c A B : Prop} [Decidable c] (h : c) (a : A) : if c then A else B := by rw [if_pos h]; exact a
theorem cF {c A B : Prop} [Decidable c] (h : ¬ c) (b : B) : if c then A else B := by rw [if_neg h]; exact b
theorem fit {x : Str} (h : (tl x).length ≤ 1000000) : x.length ≤ sizeLine := by
  rw [TL.len_tl]
  exact Nat.le_trans h (by decide)
theorem tl_app (x y : Str) : tl (x ++ y) = tl x ++ tl y := TL.tl_append x y
theorem tl_emp : tl Str.empty = [] := by decide +kernel
theorem small_num {b : Int} (h : 1 ≤ b ∧ b ≤ 64) : b.natAbs.log2 < 1920 := by
  have : b.natAbs < 2 ^ 7 := by omega
  exact Nat.lt_trans (PySem.Flt.log2_lt_of (by decide) this) (by decide)
theorem tl_num (b : Int) : tl (toString b : Str) = dg b := rfl
/-- a kind's tuple: its word, then the rest -/
def wd : Kd → String
  | .num i _ => wN i
  | .truth => "truth"
  | .parts v _ => wP v
  | .row _ _ => "row"
  | .one b _ => wO b
  | .use _ _ => "use"
  | .hole _ => "hole"
def tlD : Kd → List PyData
  | .num _ b => [.int b]
  | .truth => []
  | .parts _ ps => [.tuple (psD ps)]
  | .row m k => [.int m, toD k]
  | .one _ k => [toD k]
  | .use n fs => [.str n, .tuple (ksD fs)]
  | .hole n => [.str n]
theorem toD_eq : ∀ k, toD k = .tuple (.str (S (wd k)) :: tlD k)
  | .num _ _ => rfl
  | .truth => rfl
  | .parts _ _ => rfl
  | .row _ _ => rfl
  | .one _ _ => rfl
  | .use _ _ => rfl
  | .hole _ => rfl
theorem dk {K : PySem.W.Frag} {H : Hp} {v : V} {k : Kd} (h : Dp K H v (toD k)) : ∃ a ws, v = .ref a ∧ SqT K H a (.str (S (wd k)) :: ws) ∧ DpAll K H ws (tlD k) := by
  rw [toD_eq] at h
  cases h with
  | tup hs ha =>
    cases ha with
    | cons h1 h2 =>
      cases h1
      exact ⟨_, _, rfl, hs, h2⟩
theorem all1 {K : PySem.W.Frag} {H : Hp} {ws : List V} {d : PyData} (h : DpAll K H ws [d]) : ∃ x, ws = [x] ∧ Dp K H x d := by
  cases h with
  | cons h1 h2 =>
    cases h2
    exact ⟨_, rfl, h1⟩
theorem all2 {K : PySem.W.Frag} {H : Hp} {ws : List V} {d e : PyData} (h : DpAll K H ws [d, e]) : ∃ x y, ws = [x, y] ∧ Dp K H x d ∧ Dp K H y e := by
  cases h with
  | cons h1 h2 =>
    cases h2 with
    | cons h3 h4 =>
      cases h4
      exact ⟨_, _, rfl, h1, h3⟩
theorem dInt {K : PySem.W.Frag} {H : Hp} {x : V} {i : Int} (h : Dp K H x (.int i)) : x = .int i := by cases h; rfl
theorem dStr {K : PySem.W.Frag} {H : Hp} {x : V} {i : Str} (h : Dp K H x (.str i)) : x = .str i := by cases h; rfl
theorem dTup {K : PySem.W.Frag} {H : Hp} {x : V} {ds : List PyData} (h : Dp K H x (.tuple ds)) : ∃ a ws, x = .ref a ∧ SqT K H a ws ∧ DpAll K H ws ds := by
  cases h with
  | tup hs ha => exact ⟨_, _, rfl, hs, ha⟩
section
variable {P : Program} {w : World} {K : PySem.W.Frag} {mg : Str → Option Value} {base : Heap}
def spSh (K : PySem.W.Frag) : Nat → Sp
  | 0 => fun _ _ _ _ => False
  | n + 1 => fun vs H Q _ => ∃ (v : V) (k : Kd), vs = [v] ∧ Dp K H v (toD k) ∧ good k ∧ dpt k ≤ n ∧ fm k ≤ 1000 ∧ ∀ (y : Str) (H' : Hp), Same H H' → tl y = cd k → Q (.str y) H'
def tePart (K : PySem.W.Frag) (n : Nat) : TE := fun σ H Q => tJs [tFmt (tVar 3), tC (.str (Str.ofString " ")), tFmt (tCall (spSh K n) [] E0 (tCons (tVar 4) tNil))] Str.empty σ H fun out H1 => Q (.str out) H1
theorem lsP_get {K : PySem.W.Frag} {H : Hp} : ∀ {ps : Ps} {ws : List V} {i : Nat} {x : V}, DpAll K H ws (psD ps) → goodP ps → ws[i]? = some x → ∃ t u n k, x = .ref t ∧ SqT K H t [.str n, u] ∧ Dp K H u (toD k) ∧ Nm n ∧ good k ∧ dpt k ≤ dptP ps ∧ fm k ≤ fmP ps ∧ (lsP ps)[i]? = some (tl n ++ (32 :: cd k))
  | .nil, ws, i, x, h, _, e => by
    cases h
    simp at e
  | .cons n k ps, ws, i, x, h, g, e => by
    cases h with
    | cons h1 h2 =>
      cases i with
      | zero =>
        simp at e
        subst e
        obtain ⟨a, us, rfl, hs, ha⟩ := dTup h1
        obtain ⟨u1, u2, rfl, e1, e2⟩ := all2 ha
        have := dStr e1
        subst this
        exact ⟨a, u2, n, k, rfl, hs, e2, g.1, g.2.1, by simp only [dptP]; omega, by simp only [fmP]; omega, rfl⟩
      | succ i =>
        obtain ⟨t, u, n', k', r1, r2, r3, r4, r5, r6, r7, r8⟩ := lsP_get (i := i) h2 g.2.2 (by simpa using e)
        exact ⟨t, u, n', k', r1, r2, r3, r4, r5, by simp only [dptP]; omega, by simp only [fmP]; omega, by simpa [lsP] using r8⟩
theorem lsK_get {K : PySem.W.Frag} {H : Hp} : ∀ {ks : Ks} {ws : List V} {i : Nat} {x : V}, DpAll K H ws (ksD ks) → goodK ks → ws[i]? = some x → ∃ k, Dp K H x (toD k) ∧ good k ∧ dpt k ≤ dptK ks ∧ fm k ≤ fmK ks ∧ (lsK ks)[i]? = some (cd k)
  | .nil, ws, i, x, h, _, e => by
    cases h
    simp at e
  | .cons k ks, ws, i, x, h, g, e => by
    cases h with
    | cons h1 h2 =>
      cases i with
      | zero =>
        simp at e
        subst e
        exact ⟨k, h1, g.1, by simp only [dptK]; omega, by simp only [fmK]; omega, rfl⟩
      | succ i =>
        obtain ⟨k', r1, r2, r3, r4, r5⟩ := lsK_get (i := i) h2 g.2 (by simpa using e)
        exact ⟨k', r1, r2, by simp only [dptK]; omega, by simp only [fmK]; omega, by simpa [lsK] using r5⟩
theorem psD_len : ∀ ps, (psD ps).length = (lsP ps).length
  | .nil => rfl
  | .cons _ _ ps => by simp [psD, lsP, psD_len ps]
theorem ksD_len : ∀ ks, (ksD ks).length = (lsK ks).length
  | .nil => rfl
  | .cons _ ks => by simp [ksD, lsK, ksD_len ks]
theorem sumL_mem : ∀ {ps : List (List Nat)} {p : List Nat}, p ∈ ps → p.length ≤ sumL ps
  | q :: ps, p, h => by
    simp only [sumL]
    rcases List.mem_cons.mp h with rfl | h
    · omega
    · have := sumL_mem h
      omega
theorem sumL_len : ∀ ps : List (List Nat), ps.length ≤ sumL ps
  | [] => Nat.le_refl _
  | p :: ps => by
    have := sumL_len ps
    simp only [sumL, List.length_cons]
    omega
/-- texts that have given codes -/
def TxA (ys : List Str) (cs : List (List Nat)) : Prop := ys.map tl = cs
theorem txA_join {ys : List Str} {cs : List (List Nat)} (h : TxA ys cs) : tl (Txt.join (Str.ofString ", ") ys) = joinL (cW ", ") cs := by
  rw [TL.join_eq, TL.tl_join, h]
  rfl
theorem txA_sum : ∀ {ys : List Str} {cs : List (List Nat)}, TxA ys cs → (ys.map (·.length)).sum + ys.length * 2 ≤ sumL cs
  | [], cs, h => by
    unfold TxA at h
    subst h
    simp [sumL]
  | y :: ys, cs, h => by
    unfold TxA at h
    subst h
    have ih := txA_sum (ys := ys) (cs := ys.map tl) rfl
    simp only [List.map_cons, List.sum_cons, List.length_cons, sumL, TL.len_tl y] at ih ⊢
    omega
theorem ok_shown {f pw : Addr} {fd : FuncData} (F : Fun K "shown" "shown" sShown f fd) (gS : mg "shown" = some (.ref f)) (bS : Binds K fd ["kind"] []) (gW : mg "PART_WORDS" = some (.ref pw)) (hW : ∀ H : Hp, SqT K H pw [.str (S "record"), .str (S "variant")]) :
    ∀ n : Nat, FnOk P w K mg base CX0 (n + 1) f fd ["kind"] (spSh K n) := by
  intro n
  induction n with
  | zero => exact F.ok scSh (fun vs H Q E h => h.elim) (fun cdv A outer s H vs Q E hr h => h.elim)
  | succ n ih =>
    refine F.ok scSh (fun vs H Q E h => ?_) (fun cdv A outer s H vs Q E hr h => ?_)
    · obtain ⟨v, k, rfl, _⟩ := h
      rfl
    · obtain ⟨v, k, rfl, hv, g, hdp, hfm, q⟩ := h
      refine ⟨_, pss_cons (ps_set (i := 1) scSh.nd rfl (.inl rfl) (pe_ix ix_tup (pv 0) pe_int (fun _ _ => rfl)))
        (pss_cons (ps_if (PW.pt (pw_or (pt_cmpR op_eq (pv 1) pe_str (nomark _)) (pw_or1 (pt_cmpR op_eq (pv 1) pe_str (nomark _)))))
          (pss_one (ps_ret (pe_joined (.cons (pe_fmt (pv 1)) (.cons (pe_fmt (pe_ix ix_tup (pv 0) pe_int (fun _ _ => rfl))) .nil))))) pss_nil)
        (pss_cons (ps_if (pt_cmpR op_in_seq (pv 1) (pe_glob (v := .ref pw) (by rfl) gW rfl) (by rfl))
          (pss_cons (ps_set (i := 2) scSh.nd rfl (.inl rfl) (pe_join pe_str
            (pe_lc (own := [("name", 3), ("each", 4)]) (g := gTup K 2 (gCons (gName 3) (gCons (gName 4) gNil))) (tt := tYes) rfl scSh.nd (pi_tup (pe_ix ix_tup (pv 0) pe_int (fun _ _ => rfl))) (blkOk_by (N := nmSh) (sc := defScope sShown) (by decide +kernel))
              (fun _ _ _ _ _ => pg_tup (by rfl) (pgs_cons (pg_name (i := 3) scSh.nd rfl (Or.inl rfl)) (pgs_cons (pg_name (i := 4) scSh.nd rfl (Or.inl rfl)) pgs_nil))) (fun _ _ _ _ _ => pts_nil)
              (fun _ _ _ _ _ => pe_joined (.cons (pe_fmt (pv 3)) (.cons pe_str (.cons (pe_fmt (pe_call ih hr (by rfl) gS F.kp bS .nil pass0 (pa_cons (pv 4) pa_nil))) .nil)))))))
          (pss_one (ps_ret (pe_joined (.cons (pe_fmt (pv 1)) (.cons pe_str (.cons (pe_fmt (pv 2)) (.cons pe_str .nil)))))))) pss_nil)
        (pss_cons (ps_if (pt_cmpR op_eq (pv 1) pe_str (nomark _))
          (pss_one (ps_ret (pe_joined (.cons pe_str (.cons (pe_fmt (pe_ix ix_tup (pv 0) pe_int (fun _ _ => rfl))) (.cons pe_str (.cons (pe_fmt (pe_call ih hr (by rfl) gS F.kp bS .nil pass0 (pa_cons (pe_ix ix_tup (pv 0) pe_int (fun _ _ => rfl)) pa_nil))) .nil))))))) pss_nil)
        (pss_cons (ps_if (PW.pt (pw_or (pt_cmpR op_eq (pv 1) pe_str (nomark _)) (pw_or1 (pt_cmpR op_eq (pv 1) pe_str (nomark _)))))
          (pss_one (ps_ret (pe_joined (.cons (pe_fmt (pv 1)) (.cons pe_str (.cons (pe_fmt (pe_call ih hr (by rfl) gS F.kp bS .nil pass0 (pa_cons (pe_ix ix_tup (pv 0) pe_int (fun _ _ => rfl)) pa_nil))) .nil)))))) pss_nil)
        (pss_cons (ps_if (pt_cmpR op_eq (pv 1) pe_str (nomark _))
          (pss_cons (ps_set (i := 2) scSh.nd rfl (.inl rfl) (pe_join pe_str
            (pe_lc (own := [("each", 4)]) (g := gName 4) (tt := tYes) rfl scSh.nd (pi_tup (pe_ix ix_tup (pv 0) pe_int (fun _ _ => rfl))) (blkOk_by (N := nmSh) (sc := defScope sShown) (by decide +kernel))
              (fun _ _ _ _ _ => pg_name (i := 4) scSh.nd rfl (Or.inl rfl)) (fun _ _ _ _ _ => pts_nil)
              (fun _ _ _ _ _ => pe_call ih hr (by rfl) gS F.kp bS .nil pass0 (pa_cons (pv 4) pa_nil)))))
          (pss_one (ps_ret (pe_joined (.cons (pe_fmt (pe_ix ix_tup (pv 0) pe_int (fun _ _ => rfl))) (.cons pe_str (.cons (pe_fmt (pv 2)) (.cons pe_str .nil)))))))) pss_nil)
        (pss_cons (ps_if (pt_cmpR op_eq (pv 1) pe_str (nomark _)) (pss_one (ps_ret (pe_joined (.cons pe_str (.cons (pe_fmt (pe_ix ix_tup (pv 0) pe_int (fun _ _ => rfl))) .nil))))) pss_nil)
        (pss_one (ps_ret (pv 1))))))))), ?_⟩
      obtain ⟨a, ws, rfl, hs, ha⟩ := dk hv
      have hcl := cd_len k g
      refine ⟨.ref a, rfl, a, _, 0, .str (S (wd k)), rfl, rfl, hs, atI_nat (j := 0) rfl, ?_⟩
      cases k with
      | num i b =>
        obtain ⟨x, rfl, hx⟩ := all1 ha
        obtain rfl := dInt hx
        have fin : ∀ D : Ends, D.rt = Q → tRet (fun σ H Q => tJs [tFmt (tVar 1), tFmt (tOp (rIxT K) (tVar 0) (tC (.int 1)))] Str.empty σ H fun out H1 => Q (.str out) H1) D [some (.ref a), some (.str (S (wN i))), none, none, none] H := fun D hD => by
          have l1 := lN i
          have l2 := (dg_ok g).2.2
          refine ⟨.str (S (wN i)), rfl, .inl ⟨_, rfl, fit (show (cW (wN i)).length ≤ 1000000 by omega), _, rfl, fit ?_, .ref a, rfl, a, _, 1, .int b, rfl, rfl, hs, atI_nat (j := 1) rfl, .inr ⟨b, rfl, small_num g, _, rfl, fit ?_, ?_⟩⟩⟩
          · rw [tl_app, tl_emp]
            show (cW (wN i)).length ≤ _
            omega
          · rw [tl_app, tl_app, tl_emp, List.nil_append, tl_num, List.length_append]
            show (cW (wN i)).length + _ ≤ _
            omega
          · rw [hD]
            refine q _ H (Same.refl _) ?_
            rw [tl_app, tl_app, tl_emp, List.nil_append, tl_num]
            rfl
        cases i with
        | false => exact ⟨_, rfl, rfl, _, rfl, tT rfl (fin _ rfl)⟩
        | true => exact ⟨_, rfl, rfl, _, rfl, tF (show S "int" ≠ S "nat" by decide +kernel) ⟨_, rfl, rfl, _, rfl, tT rfl (fin _ rfl)⟩⟩
      | truth =>
        refine ⟨_, rfl, rfl, _, rfl, tF (show S "truth" ≠ S "nat" by decide +kernel) ⟨_, rfl, rfl, _, rfl, tF (show S "truth" ≠ S "int" by decide +kernel) ⟨_, rfl, pw, _, rfl, .inr (hW _), rfl, rfl, _, rfl, cF (show ¬ (if false = true then !inV (.str (S "truth")) [.str (S "record"), .str (S "variant")] else inV (.str (S "truth")) [.str (S "record"), .str (S "variant")]) = true by decide +kernel) ⟨_, rfl, rfl, _, rfl, tF (show S "truth" ≠ S "row" by decide +kernel) ⟨_, rfl, rfl, _, rfl, tF (show S "truth" ≠ S "maybe" by decide +kernel) ⟨_, rfl, rfl, _, rfl, tF (show S "truth" ≠ S "box" by decide +kernel) ⟨_, rfl, rfl, _, rfl, tF (show S "truth" ≠ S "use" by decide +kernel) ⟨_, rfl, rfl, _, rfl, tF (show S "truth" ≠ S "hole" by decide +kernel) ?_⟩⟩⟩⟩⟩⟩⟩⟩
        exact ⟨_, rfl, q _ H (Same.refl _) rfl⟩
      | parts v ps =>
        obtain ⟨x, rfl, hx⟩ := all1 ha
        obtain ⟨b, vs, rfl, hsb, hvs⟩ := dTup hx
        have hgp : goodP ps := g
        have hfp : fmP ps + 1 ≤ 1000 := hfm
        have hdpp : dptP ps + 1 ≤ n := hdp
        have hsum := cd_lenP ps hgp
        have hjl := joinL_len (lsP ps)
        have hlen : vs.length = (lsP ps).length := by rw [dpAll_len hvs, psD_len]
        have l1 := lP v
        have fin : ∀ D : Ends, D.rt = Q → tSeq (tAsg (tM1 (fun x xs H Q => ∃ a p, ∃ ys : List Str, x = .str a ∧ xs = [.ref p] ∧ (SqL K H p (ys.map V.str) ∨ SqT K H p (ys.map V.str)) ∧
            (ys.map (·.length)).sum + ys.length * a.length ≤ 16777216 ∧ Q (.str (Txt.join a ys)) H) (tC (.str (Str.ofString ", "))) (tLc (iTup K (tOp (rIxT K) (tVar 0) (tC (.int 1)))) (gTup K 2 (gCons (gName 3) (gCons (gName 4) gNil))) tYes
              (tePart K n) [3, 4])) (gName 2))
            (tRet (fun σ H Q => tJs [tFmt (tVar 1), tC (.str (Str.ofString "(")), tFmt (tVar 2), tC (.str (Str.ofString ")"))] Str.empty σ H fun out H1 => Q (.str out) H1)) D [some (.ref a), some (.str (S (wP v))), none, none, none] H := fun D hD => by
          refine ⟨⟨_, rfl⟩, .ref a, rfl, a, _, 1, .ref b, rfl, rfl, hs, atI_nat (j := 1) rfl, b, rfl, ⟨_, hsb⟩, fun Dd hDd => lc_tup (xs := vs) (fun i H' => ∃ ys : List Str, ys.length = i ∧ TxA ys ((lsP ps).take i) ∧ H' Dd = some (.lst (ys.map V.str)) ∧ Same H H') ⟨[], rfl, rfl, upd_same, same_upd hDd⟩ (fun i H' _ hP => ?_) (fun i x H' hx hP => ?_) (fun H' hP => ?_)⟩
          · obtain ⟨_, _, _, _, sm⟩ := hP
            exact ts_same sm _ _ hsb
          · obtain ⟨ys, el, htx, eD, sm⟩ := hP
            obtain ⟨t, u, nm, k1, rfl, ht, hu, hnm, gk, hdk, hfk, hls⟩ := lsP_get (TS.dps (ts_same sm) _ _ (pl_P ps hgp).1 hvs) hgp hx
            have hcl1 := cd_len k1 gk
            have hnl := hnm.most
            refine ⟨t, [.str nm, u], rfl, ht, rfl, .str nm, [u], rfl, u, [], rfl, rfl, rfl, ?_⟩
            refine iteT (B := ∃ ys : List Str, ys.length = i + 1 ∧ TxA ys ((lsP ps).take (i + 1)) ∧ H' Dd = some (.lst (ys.map V.str)) ∧ Same H H') ?_
            cases n with
            | zero => omega
            | succ n =>
              refine ⟨.str nm, rfl, .inl ⟨_, rfl, fit (by omega), _, rfl, fit ?_, _, rfl, fit ?_, u, rfl, u, k1, rfl, hu, gk, by omega, by omega, fun y H2 s2 hy => .inl ⟨y, rfl, fit (by rw [hy]; omega), y, rfl, fit ?_, ?_⟩⟩⟩
              · rw [tl_app, tl_emp, List.nil_append]; omega
              · rw [tl_app, tl_app, tl_emp, List.nil_append, List.length_append]
                show _ + (cW " ").length ≤ _
                rw [show (cW " ").length = 1 by decide +kernel]; omega
              · rw [tl_app, tl_app, tl_app, tl_emp, List.nil_append, List.length_append, List.length_append, hy]
                show _ + (cW " ").length + _ ≤ _
                rw [show (cW " ").length = 1 by decide +kernel]; omega
              · refine ⟨_, s2 _ _ eD, ?_, ys ++ [Str.empty ++ nm ++ Str.ofString " " ++ y], ?_, ?_, ?_, ?_⟩
                · rw [List.length_map]
                  have := sumL_len (lsP ps)
                  have hi : i < vs.length := (List.getElem?_eq_some_iff.mp hx).1
                  exact Nat.lt_of_le_of_lt (show ys.length ≤ 100000 by omega) (by decide)
                · rw [List.length_append, el]; rfl
                · unfold TxA at htx ⊢
                  rw [List.take_add_one, hls, List.map_append, htx]
                  refine congrArg _ ?_
                  show [tl _] = [_]
                  rw [tl_app, tl_app, tl_app, tl_emp, List.nil_append, hy, List.append_assoc]
                  rfl
                · rw [upd_same, List.map_append]; rfl
                · intro b' o eb
                  rw [upd_ne (ne_of_none eb hDd)]
                  exact s2 _ _ (sm b' o eb)
          · obtain ⟨ys, el, htx, eD, sm⟩ := hP
            rw [hlen, List.take_length] at htx
            have hj := txA_join htx
            have hsu := txA_sum htx
            refine ⟨_, Dd, ys, rfl, rfl, .inl (.inl (.inl eD)), ?_, ?_⟩
            · show _ + ys.length * 2 ≤ _
              omega
            · refine ⟨.str (S (wP v)), rfl, .inl ⟨_, rfl, fit (show (cW (wP v)).length ≤ 1000000 by omega), _, rfl, fit ?_, _, rfl, fit ?_, .str _, rfl, .inl ⟨_, rfl, fit ?_, _, rfl, fit ?_, _, rfl, fit ?_, ?_⟩⟩⟩
              · rw [tl_app, tl_emp, List.nil_append]
                show (cW (wP v)).length ≤ _
                omega
              · rw [tl_app, tl_app, tl_emp, List.nil_append, List.length_append]
                show (cW (wP v)).length + (cW "(").length ≤ _
                rw [show (cW "(").length = 1 by decide +kernel]; omega
              · rw [hj]; omega
              · rw [tl_app, tl_app, tl_app, tl_emp, List.nil_append, List.length_append, List.length_append, hj]
                show (cW (wP v)).length + (cW "(").length + _ ≤ _
                rw [show (cW "(").length = 1 by decide +kernel]; omega
              · rw [tl_app, tl_app, tl_app, tl_app, tl_emp, List.nil_append, List.length_append, List.length_append, List.length_append, hj]
                show (cW (wP v)).length + (cW "(").length + _ + (cW ")").length ≤ _
                rw [show (cW "(").length = 1 by decide +kernel, show (cW ")").length = 1 by decide +kernel]; omega
              · rw [hD]
                refine q _ H' sm ?_
                rw [tl_app, tl_app, tl_app, tl_app, tl_emp, List.nil_append, hj]
                show cW (wP v) ++ cW "(" ++ _ ++ cW ")" = cW (wP v) ++ (40 :: (_ ++ [41]))
                rw [show cW "(" = [40] by decide +kernel, show cW ")" = [41] by decide +kernel]
                simp
        cases v with
        | false => exact ⟨_, rfl, rfl, _, rfl, tF (show S "record" ≠ S "nat" by decide +kernel) ⟨_, rfl, rfl, _, rfl, tF (show S "record" ≠ S "int" by decide +kernel) ⟨_, rfl, pw, _, rfl, .inr (hW _), rfl, rfl, _, rfl, cT (show (if false = true then !inV (.str (S "record")) [.str (S "record"), .str (S "variant")] else inV (.str (S "record")) [.str (S "record"), .str (S "variant")]) = true by decide +kernel) (fin _ rfl)⟩⟩⟩
        | true => exact ⟨_, rfl, rfl, _, rfl, tF (show S "variant" ≠ S "nat" by decide +kernel) ⟨_, rfl, rfl, _, rfl, tF (show S "variant" ≠ S "int" by decide +kernel) ⟨_, rfl, pw, _, rfl, .inr (hW _), rfl, rfl, _, rfl, cT (show (if false = true then !inV (.str (S "variant")) [.str (S "record"), .str (S "variant")] else inV (.str (S "variant")) [.str (S "record"), .str (S "variant")]) = true by decide +kernel) (fin _ rfl)⟩⟩⟩
      | row m k1 =>
        obtain ⟨x, y, rfl, hx, hy⟩ := all2 ha
        obtain rfl := dInt hx
        have gk : good k1 := g.2
        have hc1 := cd_len k1 gk
        have hdpp : dpt k1 + 1 ≤ n := hdp
        have hfp : fm k1 + 1 ≤ 1000 := hfm
        have l2 := (dg_ok g.1).2.2
        refine ⟨_, rfl, rfl, _, rfl, tF (show S "row" ≠ S "nat" by decide +kernel) ⟨_, rfl, rfl, _, rfl, tF (show S "row" ≠ S "int" by decide +kernel) ⟨_, rfl, pw, _, rfl, .inr (hW _), rfl, rfl, _, rfl, cF (show ¬ (if false = true then !inV (.str (S "row")) [.str (S "record"), .str (S "variant")] else inV (.str (S "row")) [.str (S "record"), .str (S "variant")]) = true by decide +kernel) ⟨_, rfl, rfl, _, rfl, tT rfl ?_⟩⟩⟩⟩
        cases n with
        | zero => omega
        | succ n =>
          have e4 : (cW "row ").length = 4 := by decide +kernel
          have e1 : (cW " ").length = 1 := by decide +kernel
          refine ⟨_, rfl, fit ?_, .ref a, rfl, a, _, 1, .int m, rfl, rfl, hs, atI_nat (j := 1) rfl, .inr ⟨m, rfl, small_num g.1, _, rfl, fit ?_, _, rfl, fit ?_, .ref a, rfl, a, _, 2, y, rfl, rfl, hs, atI_nat (j := 2) rfl, y, k1, rfl, hy, gk, by omega, by omega, fun z H2 s2 hz => .inl ⟨z, rfl, fit (by rw [hz]; omega), z, rfl, fit ?_, q _ H2 s2 ?_⟩⟩⟩
          · rw [tl_app, tl_emp, List.nil_append]
            show (cW "row ").length ≤ _
            omega
          · rw [tl_app, tl_app, tl_emp, List.nil_append, List.length_append, tl_num]
            show (cW "row ").length + _ ≤ _
            omega
          · rw [tl_app, tl_app, tl_app, tl_emp, List.nil_append, List.length_append, List.length_append, tl_num]
            show (cW "row ").length + _ + (cW " ").length ≤ _
            omega
          · rw [tl_app, tl_app, tl_app, tl_app, tl_emp, List.nil_append, List.length_append, List.length_append, List.length_append, tl_num, hz]
            show (cW "row ").length + _ + (cW " ").length + _ ≤ _
            omega
          · rw [tl_app, tl_app, tl_app, tl_app, tl_emp, List.nil_append, tl_num, hz]
            show cW "row " ++ _ ++ cW " " ++ _ = cW "row" ++ (32 :: (_ ++ (32 :: _)))
            rw [show cW "row " = cW "row" ++ [32] by decide +kernel, show cW " " = [32] by decide +kernel]
            simp
      | one b k1 =>
        obtain ⟨y, rfl, hy⟩ := all1 ha
        have gk : good k1 := g
        have hc1 := cd_len k1 gk
        have hdpp : dpt k1 + 1 ≤ n := hdp
        have hfp : fm k1 + 1 ≤ 1000 := hfm
        have l1 := lO b
        have e1 : (cW " ").length = 1 := by decide +kernel
        have fin : ∀ D : Ends, D.rt = Q → tRet (fun σ H Q => tJs [tFmt (tVar 1), tC (.str (Str.ofString " ")), tFmt (tCall (spSh K n) [] E0 (tCons (tOp (rIxT K) (tVar 0) (tC (.int 1))) tNil))] Str.empty σ H fun out H1 => Q (.str out) H1) D [some (.ref a), some (.str (S (wO b))), none, none, none] H := fun D hD => by
          cases n with
          | zero => omega
          | succ n =>
            refine ⟨.str (S (wO b)), rfl, .inl ⟨_, rfl, fit (show (cW (wO b)).length ≤ 1000000 by omega), _, rfl, fit ?_, _, rfl, fit ?_, .ref a, rfl, a, _, 1, y, rfl, rfl, hs, atI_nat (j := 1) rfl, y, k1, rfl, hy, gk, by omega, by omega, fun z H2 s2 hz => .inl ⟨z, rfl, fit (by rw [hz]; omega), z, rfl, fit ?_, ?_⟩⟩⟩
            · rw [tl_app, tl_emp, List.nil_append]
              show (cW (wO b)).length ≤ _
              omega
            · rw [tl_app, tl_app, tl_emp, List.nil_append, List.length_append]
              show (cW (wO b)).length + (cW " ").length ≤ _
              omega
            · rw [tl_app, tl_app, tl_app, tl_emp, List.nil_append, List.length_append, List.length_append, hz]
              show (cW (wO b)).length + (cW " ").length + _ ≤ _
              omega
            · rw [hD]
              refine q _ H2 s2 ?_
              rw [tl_app, tl_app, tl_app, tl_emp, List.nil_append, hz]
              show cW (wO b) ++ cW " " ++ _ = cW (wO b) ++ (32 :: _)
              rw [show cW " " = [32] by decide +kernel]
              simp
        cases b with
        | false => exact ⟨_, rfl, rfl, _, rfl, tF (show S "maybe" ≠ S "nat" by decide +kernel) ⟨_, rfl, rfl, _, rfl, tF (show S "maybe" ≠ S "int" by decide +kernel) ⟨_, rfl, pw, _, rfl, .inr (hW _), rfl, rfl, _, rfl, cF (show ¬ (if false = true then !inV (.str (S "maybe")) [.str (S "record"), .str (S "variant")] else inV (.str (S "maybe")) [.str (S "record"), .str (S "variant")]) = true by decide +kernel) ⟨_, rfl, rfl, _, rfl, tF (show S "maybe" ≠ S "row" by decide +kernel) ⟨_, rfl, rfl, _, rfl, tT rfl (fin _ rfl)⟩⟩⟩⟩⟩
        | true => exact ⟨_, rfl, rfl, _, rfl, tF (show S "box" ≠ S "nat" by decide +kernel) ⟨_, rfl, rfl, _, rfl, tF (show S "box" ≠ S "int" by decide +kernel) ⟨_, rfl, pw, _, rfl, .inr (hW _), rfl, rfl, _, rfl, cF (show ¬ (if false = true then !inV (.str (S "box")) [.str (S "record"), .str (S "variant")] else inV (.str (S "box")) [.str (S "record"), .str (S "variant")]) = true by decide +kernel) ⟨_, rfl, rfl, _, rfl, tF (show S "box" ≠ S "row" by decide +kernel) ⟨_, rfl, rfl, _, rfl, tF (show S "box" ≠ S "maybe" by decide +kernel) ⟨_, rfl, rfl, _, rfl, tT rfl (fin _ rfl)⟩⟩⟩⟩⟩⟩
      | use nm fs =>
        obtain ⟨x, y, rfl, hx, hy⟩ := all2 ha
        obtain rfl := dStr hx
        obtain ⟨b, vs, rfl, hsb, hvs⟩ := dTup hy
        have hgp : goodK fs := g.2
        have hfp : fmK fs + 1 ≤ 1000 := hfm
        have hdpp : dptK fs + 1 ≤ n := hdp
        have hsum := cd_lenK fs hgp
        have hjl := joinL_len (lsK fs)
        have hlen : vs.length = (lsK fs).length := by rw [dpAll_len hvs, ksD_len]
        have l1 := g.1.most
        have e1 : (cW "[").length = 1 := by decide +kernel
        have e2 : (cW "]").length = 1 := by decide +kernel
        refine ⟨_, rfl, rfl, _, rfl, tF (show S "use" ≠ S "nat" by decide +kernel) ⟨_, rfl, rfl, _, rfl, tF (show S "use" ≠ S "int" by decide +kernel) ⟨_, rfl, pw, _, rfl, .inr (hW _), rfl, rfl, _, rfl, cF (show ¬ (if false = true then !inV (.str (S "use")) [.str (S "record"), .str (S "variant")] else inV (.str (S "use")) [.str (S "record"), .str (S "variant")]) = true by decide +kernel) ⟨_, rfl, rfl, _, rfl, tF (show S "use" ≠ S "row" by decide +kernel) ⟨_, rfl, rfl, _, rfl, tF (show S "use" ≠ S "maybe" by decide +kernel) ⟨_, rfl, rfl, _, rfl, tF (show S "use" ≠ S "box" by decide +kernel) ⟨_, rfl, rfl, _, rfl, tT rfl ?_⟩⟩⟩⟩⟩⟩⟩
        refine ⟨⟨_, rfl⟩, .ref a, rfl, a, _, 2, .ref b, rfl, rfl, hs, atI_nat (j := 2) rfl, b, rfl, ⟨_, hsb⟩, fun Dd hDd => lc_tup (xs := vs) (fun i H' => ∃ ys : List Str, ys.length = i ∧ TxA ys ((lsK fs).take i) ∧ H' Dd = some (.lst (ys.map V.str)) ∧ Same H H') ⟨[], rfl, rfl, upd_same, same_upd hDd⟩ (fun i H' _ hP => ?_) (fun i x H' hx hP => ?_) (fun H' hP => ?_)⟩
        · obtain ⟨_, _, _, _, sm⟩ := hP
          exact ts_same sm _ _ hsb
        · obtain ⟨ys, el, htx, eD, sm⟩ := hP
          obtain ⟨k1, hu, gk, hdk, hfk, hls⟩ := lsK_get (TS.dps (ts_same sm) _ _ (pl_K fs hgp).1 hvs) hgp hx
          have hcl1 := cd_len k1 gk
          refine ⟨rfl, ?_⟩
          refine iteT (B := ∃ ys : List Str, ys.length = i + 1 ∧ TxA ys ((lsK fs).take (i + 1)) ∧ H' Dd = some (.lst (ys.map V.str)) ∧ Same H H') ?_
          cases n with
          | zero => omega
          | succ n =>
            refine ⟨x, rfl, x, k1, rfl, hu, gk, by omega, by omega, fun y H2 s2 hy => ?_⟩
            refine ⟨_, s2 _ _ eD, ?_, ys ++ [y], ?_, ?_, ?_, ?_⟩
            · rw [List.length_map]
              have := sumL_len (lsK fs)
              have hi : i < vs.length := (List.getElem?_eq_some_iff.mp hx).1
              exact Nat.lt_of_le_of_lt (show ys.length ≤ 100000 by omega) (by decide)
            · rw [List.length_append, el]; rfl
            · unfold TxA at htx ⊢
              rw [List.take_add_one, hls, List.map_append, htx]
              refine congrArg _ ?_
              show [tl _] = [_]
              rw [hy]
            · rw [upd_same, List.map_append]; rfl
            · intro b' o eb
              rw [upd_ne (ne_of_none eb hDd)]
              exact s2 _ _ (sm b' o eb)
        · obtain ⟨ys, el, htx, eD, sm⟩ := hP
          rw [hlen, List.take_length] at htx
          have hj := txA_join htx
          have hsu := txA_sum htx
          refine ⟨_, Dd, ys, rfl, rfl, .inl (.inl (.inl eD)), ?_, ?_⟩
          · show _ + ys.length * 2 ≤ _
            omega
          · refine ⟨.ref a, rfl, a, _, 1, .str nm, rfl, rfl, ts_same sm _ _ hs, atI_nat (j := 1) rfl, .inl ⟨_, rfl, fit (by omega), _, rfl, fit ?_, _, rfl, fit ?_, .str _, rfl, .inl ⟨_, rfl, fit ?_, _, rfl, fit ?_, _, rfl, fit ?_, q _ H' sm ?_⟩⟩⟩
            · rw [tl_app, tl_emp, List.nil_append]
              omega
            · rw [tl_app, tl_app, tl_emp, List.nil_append, List.length_append]
              show _ + (cW "[").length ≤ _
              omega
            · rw [hj]; omega
            · rw [tl_app, tl_app, tl_app, tl_emp, List.nil_append, List.length_append, List.length_append, hj]
              show _ + (cW "[").length + _ ≤ _
              omega
            · rw [tl_app, tl_app, tl_app, tl_app, tl_emp, List.nil_append, List.length_append, List.length_append, List.length_append, hj]
              show _ + (cW "[").length + _ + (cW "]").length ≤ _
              omega
            · rw [tl_app, tl_app, tl_app, tl_app, tl_emp, List.nil_append, hj]
              show _ ++ cW "[" ++ _ ++ cW "]" = _ ++ (91 :: (_ ++ [93]))
              rw [show cW "[" = [91] by decide +kernel, show cW "]" = [93] by decide +kernel]
              simp
      | hole nm =>
        obtain ⟨x, rfl, hx⟩ := all1 ha
        obtain rfl := dStr hx
        have l1 := (show Nm nm from g).most
        have e1 : (cW "?").length = 1 := by decide +kernel
        refine ⟨_, rfl, rfl, _, rfl, tF (show S "hole" ≠ S "nat" by decide +kernel) ⟨_, rfl, rfl, _, rfl, tF (show S "hole" ≠ S "int" by decide +kernel) ⟨_, rfl, pw, _, rfl, .inr (hW _), rfl, rfl, _, rfl, cF (show ¬ (if false = true then !inV (.str (S "hole")) [.str (S "record"), .str (S "variant")] else inV (.str (S "hole")) [.str (S "record"), .str (S "variant")]) = true by decide +kernel) ⟨_, rfl, rfl, _, rfl, tF (show S "hole" ≠ S "row" by decide +kernel) ⟨_, rfl, rfl, _, rfl, tF (show S "hole" ≠ S "maybe" by decide +kernel) ⟨_, rfl, rfl, _, rfl, tF (show S "hole" ≠ S "box" by decide +kernel) ⟨_, rfl, rfl, _, rfl, tF (show S "hole" ≠ S "use" by decide +kernel) ⟨_, rfl, rfl, _, rfl, tT rfl ?_⟩⟩⟩⟩⟩⟩⟩⟩
        refine ⟨_, rfl, fit ?_, .ref a, rfl, a, _, 1, .str nm, rfl, rfl, hs, atI_nat (j := 1) rfl, .inl ⟨_, rfl, fit (by omega), _, rfl, fit ?_, q _ H (Same.refl _) ?_⟩⟩
        · rw [tl_app, tl_emp, List.nil_append]
          show (cW "?").length ≤ _
          omega
        · rw [tl_app, tl_app, tl_emp, List.nil_append, List.length_append]
          show (cW "?").length + _ ≤ _
          omega
        · rw [tl_app, tl_app, tl_emp, List.nil_append]
          show cW "?" ++ _ = 63 :: _
          rw [show cW "?" = [63] by decide +kernel]
          rfl
end
end K2
namespace K2
open PySem PySem.Spec PyProof.Rows L2 K1
open TL (tl joinL)
abbrev sText : Stmt := topS 14
abbrev nmTx : List Str := ["_law_kind_here", "_law_word", "_law_name", "_law_piece", "_law_fill"]
theorem scTx : FnScope nmTx ["_law_kind_here"] (defScope sText) := ⟨rfl, rfl, rfl, by decide +kernel, rfl, by decide +kernel, by decide +kernel⟩
theorem fit2 {x y : Str} (h : (tl x).length + (tl y).length ≤ 1000000) : x.length + y.length ≤ sizeLine := by
  rw [TL.len_tl, TL.len_tl]
  exact Nat.le_trans h (by decide)
section
variable {P : Program} {w : World} {K : PySem.W.Frag} {mg : Str → Option Value} {base : Heap}
def rAddS : R2 := fun x y H Q => ∃ i j, x = .str i ∧ y = .str j ∧ i.length + j.length ≤ sizeLine ∧ Q (.str (i ++ j)) H
def rJoin (K : PySem.W.Frag) : V → List V → Hp → VK → Prop := fun x xs H Q => ∃ a p, ∃ ys : List Str, x = .str a ∧ xs = [.ref p] ∧ (SqL K H p (ys.map V.str) ∨ SqT K H p (ys.map V.str)) ∧ (ys.map (·.length)).sum + ys.length * a.length ≤ 16777216 ∧ Q (.str (Txt.join a ys)) H
def rStrI : List V → Hp → VK → Prop := fun xs H Q => ∃ i : Int, xs = [.int i] ∧ i.natAbs.log2 < 1920 ∧ Q (.str (toString i)) H
theorem ok_text {f : Addr} {fd : FuncData} (F : Fun K "_law_text" "_law_text" sText f fd) (gS : mg "_law_text" = some (.ref f)) (bS : Binds K fd ["_law_kind_here"] []) (mst : mg "str" = none) :
    ∀ n : Nat, FnOk P w K mg base CX0 (n + 1) f fd ["_law_kind_here"] (spSh K n) := by
  intro n
  induction n with
  | zero => exact F.ok scTx (fun vs H Q E h => h.elim) (fun cdv A outer s H vs Q E hr h => h.elim)
  | succ n ih =>
    refine F.ok scTx (fun vs H Q E h => ?_) (fun cdv A outer s H vs Q E hr h => ?_)
    · obtain ⟨v, k, rfl, _⟩ := h
      rfl
    · obtain ⟨v, k, rfl, hv, g, hdp, hfm, q⟩ := h
      refine ⟨_, pss_cons (ps_set (i := 1) scTx.nd rfl (.inl rfl) (pe_ix ix_tup (pv 0) pe_int (fun _ _ => rfl)))
        (pss_cons (ps_if (PW.pt (pw_or (pt_cmpR op_eq (pv 1) pe_str (nomark _)) (pw_or1 (pt_cmpR op_eq (pv 1) pe_str (nomark _))))) (pss_one (ps_ret (pe_op op_add_str (pv 1) (pe_callTy call_str_int (by rfl) mst (by decide +kernel) (pa_cons (pe_ix ix_tup (pv 0) pe_int (fun _ _ => rfl)) pa_nil))))) pss_nil)
        (pss_cons (ps_if (PW.pt (pw_or (pt_cmpR op_eq (pv 1) pe_str (nomark _)) (pw_or1 (pt_cmpR op_eq (pv 1) pe_str (nomark _))))) (pss_one (ps_ret (pe_op op_add_str (pe_op op_add_str (pe_op op_add_str (pv 1) pe_str) (pe_join pe_str (pe_lc (own := [("_law_name", 2), ("_law_piece", 3)]) (g := gTup K 2 (gCons (gName 2) (gCons (gName 3) gNil))) (tt := tYes) rfl scTx.nd (pi_tup (pe_ix ix_tup (pv 0) pe_int (fun _ _ => rfl))) (blkOk_by (N := nmTx) (sc := defScope sText) (by decide +kernel))
              (fun _ _ _ _ _ => pg_tup (by rfl) (pgs_cons (pg_name (i := 2) scTx.nd rfl (Or.inl rfl)) (pgs_cons (pg_name (i := 3) scTx.nd rfl (Or.inl rfl)) pgs_nil))) (fun _ _ _ _ _ => pts_nil)
              (fun _ _ _ _ _ => (pe_op op_add_str (pe_op op_add_str (pv 2) pe_str) (pe_call ih hr (by rfl) gS F.kp bS .nil pass0 (pa_cons (pv 3) pa_nil))))))) pe_str))) pss_nil)
        (pss_cons (ps_if (pt_cmpR op_eq (pv 1) pe_str (nomark _)) (pss_one (ps_ret (pe_op op_add_str (pe_op op_add_str (pe_op op_add_str pe_str (pe_callTy call_str_int (by rfl) mst (by decide +kernel) (pa_cons (pe_ix ix_tup (pv 0) pe_int (fun _ _ => rfl)) pa_nil))) pe_str) (pe_call ih hr (by rfl) gS F.kp bS .nil pass0 (pa_cons (pe_ix ix_tup (pv 0) pe_int (fun _ _ => rfl)) pa_nil))))) pss_nil)
        (pss_cons (ps_if (PW.pt (pw_or (pt_cmpR op_eq (pv 1) pe_str (nomark _)) (pw_or1 (pt_cmpR op_eq (pv 1) pe_str (nomark _))))) (pss_one (ps_ret (pe_op op_add_str (pe_op op_add_str (pv 1) pe_str) (pe_call ih hr (by rfl) gS F.kp bS .nil pass0 (pa_cons (pe_ix ix_tup (pv 0) pe_int (fun _ _ => rfl)) pa_nil))))) pss_nil)
        (pss_cons (ps_if (pt_cmpR op_eq (pv 1) pe_str (nomark _)) (pss_one (ps_ret (pe_op op_add_str (pe_op op_add_str (pe_op op_add_str (pe_ix ix_tup (pv 0) pe_int (fun _ _ => rfl)) pe_str) (pe_join pe_str (pe_lc (own := [("_law_fill", 4)]) (g := gName 4) (tt := tYes) rfl scTx.nd (pi_tup (pe_ix ix_tup (pv 0) pe_int (fun _ _ => rfl))) (blkOk_by (N := nmTx) (sc := defScope sText) (by decide +kernel))
              (fun _ _ _ _ _ => pg_name (i := 4) scTx.nd rfl (Or.inl rfl)) (fun _ _ _ _ _ => pts_nil) (fun _ _ _ _ _ => (pe_call ih hr (by rfl) gS F.kp bS .nil pass0 (pa_cons (pv 4) pa_nil)))))) pe_str))) pss_nil)
        (pss_cons (ps_if (pt_cmpR op_eq (pv 1) pe_str (nomark _)) (pss_one (ps_ret (pe_op op_add_str pe_str (pe_ix ix_tup (pv 0) pe_int (fun _ _ => rfl))))) pss_nil)
        (pss_one (ps_ret (pv 1))))))))), ?_⟩
      obtain ⟨a, ws, rfl, hs, ha⟩ := dk hv
      have hcl := cd_len k g
      refine ⟨.ref a, rfl, a, _, 0, .str (S (wd k)), rfl, rfl, hs, atI_nat (j := 0) rfl, ?_⟩
      cases k with
      | num i b =>
        obtain ⟨x, rfl, hx⟩ := all1 ha
        obtain rfl := dInt hx
        have l1 := lN i
        have l2 := (dg_ok g).2.2
        have fin : ∀ D : Ends, D.rt = Q → tRet (tOp rAddS (tVar 1) (tCB rStrI (tCons (tOp (rIxT K) (tVar 0) (tC (.int 1))) tNil))) D [some (.ref a), some (.str (S (wN i))), none, none, none] H := fun D hD => by
          refine ⟨.str (S (wN i)), rfl, .ref a, rfl, a, _, 1, .int b, rfl, rfl, hs, atI_nat (j := 1) rfl, b, rfl, small_num g, _, _, rfl, rfl, fit2 ?_, ?_⟩
          · rw [tl_num]
            show (cW (wN i)).length + _ ≤ _
            omega
          · rw [hD]
            refine q _ H (Same.refl _) ?_
            rw [tl_app, tl_num]
            rfl
        cases i with
        | false => exact ⟨_, rfl, rfl, _, rfl, tT rfl (fin _ rfl)⟩
        | true => exact ⟨_, rfl, rfl, _, rfl, tF (show S "int" ≠ S "nat" by decide +kernel) ⟨_, rfl, rfl, _, rfl, tT rfl (fin _ rfl)⟩⟩
      | truth =>
        refine ⟨_, rfl, rfl, _, rfl, tF (show S "truth" ≠ S "nat" by decide +kernel) ⟨_, rfl, rfl, _, rfl, tF (show S "truth" ≠ S "int" by decide +kernel) ⟨_, rfl, rfl, _, rfl, tF (show S "truth" ≠ S "record" by decide +kernel) ⟨_, rfl, rfl, _, rfl, tF (show S "truth" ≠ S "variant" by decide +kernel) ⟨_, rfl, rfl, _, rfl, tF (show S "truth" ≠ S "row" by decide +kernel) ⟨_, rfl, rfl, _, rfl, tF (show S "truth" ≠ S "maybe" by decide +kernel) ⟨_, rfl, rfl, _, rfl, tF (show S "truth" ≠ S "box" by decide +kernel) ⟨_, rfl, rfl, _, rfl, tF (show S "truth" ≠ S "use" by decide +kernel) ⟨_, rfl, rfl, _, rfl, tF (show S "truth" ≠ S "hole" by decide +kernel) ?_⟩⟩⟩⟩⟩⟩⟩⟩⟩
        exact ⟨_, rfl, q _ H (Same.refl _) rfl⟩
      | parts v ps =>
        obtain ⟨x, rfl, hx⟩ := all1 ha
        obtain ⟨b, vs, rfl, hsb, hvs⟩ := dTup hx
        have hgp : goodP ps := g
        have hfp : fmP ps + 1 ≤ 1000 := hfm
        have hdpp : dptP ps + 1 ≤ n := hdp
        have hsum := cd_lenP ps hgp
        have hjl := joinL_len (lsP ps)
        have hlen : vs.length = (lsP ps).length := by rw [dpAll_len hvs, psD_len]
        have l1 := lP v
        have e1 : (cW "(").length = 1 := by decide +kernel
        have e2 : (cW ")").length = 1 := by decide +kernel
        have e3 : (cW " ").length = 1 := by decide +kernel
        have fin : ∀ D : Ends, D.rt = Q → tRet (tOp rAddS (tOp rAddS (tOp rAddS (tVar 1) (tC (.str (Str.ofString "(")))) (tM1 (rJoin K) (tC (.str (Str.ofString ", "))) (tLc (iTup K (tOp (rIxT K) (tVar 0) (tC (.int 1)))) (gTup K 2 (gCons (gName 2) (gCons (gName 3) gNil))) tYes
              (tOp rAddS (tOp rAddS (tVar 2) (tC (.str (Str.ofString " ")))) (tCall (spSh K n) [] E0 (tCons (tVar 3) tNil))) [2, 3]))) (tC (.str (Str.ofString ")")))) D [some (.ref a), some (.str (S (wP v))), none, none, none] H := fun D hD => by
          refine ⟨.str (S (wP v)), rfl, _, _, rfl, rfl, fit2 ?_, ⟨_, rfl⟩, .ref a, rfl, a, _, 1, .ref b, rfl, rfl, hs, atI_nat (j := 1) rfl, b, rfl, ⟨_, hsb⟩, fun Dd hDd => lc_tup (xs := vs) (fun i H' => ∃ ys : List Str, ys.length = i ∧ TxA ys ((lsP ps).take i) ∧ H' Dd = some (.lst (ys.map V.str)) ∧ Same H H') ⟨[], rfl, rfl, upd_same, same_upd hDd⟩ (fun i H' _ hP => ?_) (fun i x H' hx hP => ?_) (fun H' hP => ?_)⟩
          · show (cW (wP v)).length + (cW "(").length ≤ _
            omega
          · obtain ⟨_, _, _, _, sm⟩ := hP
            exact ts_same sm _ _ hsb
          · obtain ⟨ys, el, htx, eD, sm⟩ := hP
            obtain ⟨t, u, nm, k1, rfl, ht, hu, hnm, gk, hdk, hfk, hls⟩ := lsP_get (TS.dps (ts_same sm) _ _ (pl_P ps hgp).1 hvs) hgp hx
            have hcl1 := cd_len k1 gk
            have hnl := hnm.most
            refine ⟨t, [.str nm, u], rfl, ht, rfl, .str nm, [u], rfl, u, [], rfl, rfl, rfl, ?_⟩
            refine iteT (B := ∃ ys : List Str, ys.length = i + 1 ∧ TxA ys ((lsP ps).take (i + 1)) ∧ H' Dd = some (.lst (ys.map V.str)) ∧ Same H H') ?_
            cases n with
            | zero => omega
            | succ n =>
              refine ⟨.str nm, rfl, _, _, rfl, rfl, fit2 ?_, u, rfl, u, k1, rfl, hu, gk, by omega, by omega, fun y H2 s2 hy => ⟨_, y, rfl, rfl, fit2 ?_, ?_⟩⟩
              · show _ + (cW " ").length ≤ _
                omega
              · rw [tl_app, List.length_append, hy]
                show _ + (cW " ").length + _ ≤ _
                omega
              · refine ⟨_, s2 _ _ eD, ?_, ys ++ [nm ++ Str.ofString " " ++ y], ?_, ?_, ?_, ?_⟩
                · rw [List.length_map]
                  have := sumL_len (lsP ps)
                  have hi : i < vs.length := (List.getElem?_eq_some_iff.mp hx).1
                  exact Nat.lt_of_le_of_lt (show ys.length ≤ 100000 by omega) (by decide)
                · rw [List.length_append, el]; rfl
                · unfold TxA at htx ⊢
                  rw [List.take_add_one, hls, List.map_append, htx]
                  refine congrArg _ ?_
                  show [tl _] = [_]
                  rw [tl_app, tl_app, hy, List.append_assoc]
                  rfl
                · rw [upd_same, List.map_append]; rfl
                · intro b' o eb
                  rw [upd_ne (ne_of_none eb hDd)]
                  exact s2 _ _ (sm b' o eb)
          · obtain ⟨ys, el, htx, eD, sm⟩ := hP
            rw [hlen, List.take_length] at htx
            have hj := txA_join htx
            have hsu := txA_sum htx
            refine ⟨_, Dd, ys, rfl, rfl, .inl (.inl (.inl eD)), ?_, _, _, rfl, rfl, fit2 ?_, _, _, rfl, rfl, fit2 ?_, ?_⟩
            · show _ + ys.length * 2 ≤ _
              omega
            · rw [tl_app, List.length_append, hj]
              show (cW (wP v)).length + (cW "(").length + _ ≤ _
              omega
            · rw [tl_app, tl_app, List.length_append, List.length_append, hj]
              show (cW (wP v)).length + (cW "(").length + _ + (cW ")").length ≤ _
              omega
            · rw [hD]
              refine q _ H' sm ?_
              rw [tl_app, tl_app, tl_app, hj]
              show cW (wP v) ++ cW "(" ++ _ ++ cW ")" = cW (wP v) ++ (40 :: (_ ++ [41]))
              rw [show cW "(" = [40] by decide +kernel, show cW ")" = [41] by decide +kernel]
              simp
        cases v with
        | false => exact ⟨_, rfl, rfl, _, rfl, tF (show S "record" ≠ S "nat" by decide +kernel) ⟨_, rfl, rfl, _, rfl, tF (show S "record" ≠ S "int" by decide +kernel) ⟨_, rfl, rfl, _, rfl, tT rfl (fin _ rfl)⟩⟩⟩
        | true => exact ⟨_, rfl, rfl, _, rfl, tF (show S "variant" ≠ S "nat" by decide +kernel) ⟨_, rfl, rfl, _, rfl, tF (show S "variant" ≠ S "int" by decide +kernel) ⟨_, rfl, rfl, _, rfl, tF (show S "variant" ≠ S "record" by decide +kernel) ⟨_, rfl, rfl, _, rfl, tT rfl (fin _ rfl)⟩⟩⟩⟩
      | row m k1 =>
        obtain ⟨x, y, rfl, hx, hy⟩ := all2 ha
        obtain rfl := dInt hx
        have gk : good k1 := g.2
        have hc1 := cd_len k1 gk
        have hdpp : dpt k1 + 1 ≤ n := hdp
        have hfp : fm k1 + 1 ≤ 1000 := hfm
        have l2 := (dg_ok g.1).2.2
        refine ⟨_, rfl, rfl, _, rfl, tF (show S "row" ≠ S "nat" by decide +kernel) ⟨_, rfl, rfl, _, rfl, tF (show S "row" ≠ S "int" by decide +kernel) ⟨_, rfl, rfl, _, rfl, tF (show S "row" ≠ S "record" by decide +kernel) ⟨_, rfl, rfl, _, rfl, tF (show S "row" ≠ S "variant" by decide +kernel) ⟨_, rfl, rfl, _, rfl, tT rfl ?_⟩⟩⟩⟩⟩
        cases n with
        | zero => omega
        | succ n =>
          have e4 : (cW "row ").length = 4 := by decide +kernel
          have e1 : (cW " ").length = 1 := by decide +kernel
          refine ⟨.ref a, rfl, a, _, 1, .int m, rfl, rfl, hs, atI_nat (j := 1) rfl, m, rfl, small_num g.1, _, _, rfl, rfl, fit2 ?_, _, _, rfl, rfl, fit2 ?_, .ref a, rfl, a, _, 2, y, rfl, rfl, hs, atI_nat (j := 2) rfl, y, k1, rfl, hy, gk, by omega, by omega, fun z H2 s2 hz => ⟨_, z, rfl, rfl, fit2 ?_, q _ H2 s2 ?_⟩⟩
          · rw [tl_num]
            show (cW "row ").length + _ ≤ _
            omega
          · rw [tl_app, List.length_append, tl_num]
            show (cW "row ").length + _ + (cW " ").length ≤ _
            omega
          · rw [tl_app, tl_app, List.length_append, List.length_append, tl_num, hz]
            show (cW "row ").length + _ + (cW " ").length + _ ≤ _
            omega
          · rw [tl_app, tl_app, tl_app, tl_num, hz]
            show cW "row " ++ _ ++ cW " " ++ _ = cW "row" ++ (32 :: (_ ++ (32 :: _)))
            rw [show cW "row " = cW "row" ++ [32] by decide +kernel, show cW " " = [32] by decide +kernel]
            simp
      | one b k1 =>
        obtain ⟨y, rfl, hy⟩ := all1 ha
        have gk : good k1 := g
        have hc1 := cd_len k1 gk
        have hdpp : dpt k1 + 1 ≤ n := hdp
        have hfp : fm k1 + 1 ≤ 1000 := hfm
        have l1 := lO b
        have e1 : (cW " ").length = 1 := by decide +kernel
        have fin : ∀ D : Ends, D.rt = Q → tRet (tOp rAddS (tOp rAddS (tVar 1) (tC (.str (Str.ofString " ")))) (tCall (spSh K n) [] E0 (tCons (tOp (rIxT K) (tVar 0) (tC (.int 1))) tNil))) D [some (.ref a), some (.str (S (wO b))), none, none, none] H := fun D hD => by
          cases n with
          | zero => omega
          | succ n =>
            refine ⟨.str (S (wO b)), rfl, _, _, rfl, rfl, fit2 ?_, .ref a, rfl, a, _, 1, y, rfl, rfl, hs, atI_nat (j := 1) rfl, y, k1, rfl, hy, gk, by omega, by omega, fun z H2 s2 hz => ⟨_, z, rfl, rfl, fit2 ?_, ?_⟩⟩
            · show (cW (wO b)).length + (cW " ").length ≤ _
              omega
            · rw [tl_app, List.length_append, hz]
              show (cW (wO b)).length + (cW " ").length + _ ≤ _
              omega
            · rw [hD]
              refine q _ H2 s2 ?_
              rw [tl_app, tl_app, hz]
              show cW (wO b) ++ cW " " ++ _ = cW (wO b) ++ (32 :: _)
              rw [show cW " " = [32] by decide +kernel]
              simp
        cases b with
        | false => exact ⟨_, rfl, rfl, _, rfl, tF (show S "maybe" ≠ S "nat" by decide +kernel) ⟨_, rfl, rfl, _, rfl, tF (show S "maybe" ≠ S "int" by decide +kernel) ⟨_, rfl, rfl, _, rfl, tF (show S "maybe" ≠ S "record" by decide +kernel) ⟨_, rfl, rfl, _, rfl, tF (show S "maybe" ≠ S "variant" by decide +kernel) ⟨_, rfl, rfl, _, rfl, tF (show S "maybe" ≠ S "row" by decide +kernel) ⟨_, rfl, rfl, _, rfl, tT rfl (fin _ rfl)⟩⟩⟩⟩⟩⟩
        | true => exact ⟨_, rfl, rfl, _, rfl, tF (show S "box" ≠ S "nat" by decide +kernel) ⟨_, rfl, rfl, _, rfl, tF (show S "box" ≠ S "int" by decide +kernel) ⟨_, rfl, rfl, _, rfl, tF (show S "box" ≠ S "record" by decide +kernel) ⟨_, rfl, rfl, _, rfl, tF (show S "box" ≠ S "variant" by decide +kernel) ⟨_, rfl, rfl, _, rfl, tF (show S "box" ≠ S "row" by decide +kernel) ⟨_, rfl, rfl, _, rfl, tF (show S "box" ≠ S "maybe" by decide +kernel) ⟨_, rfl, rfl, _, rfl, tT rfl (fin _ rfl)⟩⟩⟩⟩⟩⟩⟩
      | use nm fs =>
        obtain ⟨x, y, rfl, hx, hy⟩ := all2 ha
        obtain rfl := dStr hx
        obtain ⟨b, vs, rfl, hsb, hvs⟩ := dTup hy
        have hgp : goodK fs := g.2
        have hfp : fmK fs + 1 ≤ 1000 := hfm
        have hdpp : dptK fs + 1 ≤ n := hdp
        have hsum := cd_lenK fs hgp
        have hjl := joinL_len (lsK fs)
        have hlen : vs.length = (lsK fs).length := by rw [dpAll_len hvs, ksD_len]
        have l1 := g.1.most
        have e1 : (cW "[").length = 1 := by decide +kernel
        have e2 : (cW "]").length = 1 := by decide +kernel
        refine ⟨_, rfl, rfl, _, rfl, tF (show S "use" ≠ S "nat" by decide +kernel) ⟨_, rfl, rfl, _, rfl, tF (show S "use" ≠ S "int" by decide +kernel) ⟨_, rfl, rfl, _, rfl, tF (show S "use" ≠ S "record" by decide +kernel) ⟨_, rfl, rfl, _, rfl, tF (show S "use" ≠ S "variant" by decide +kernel) ⟨_, rfl, rfl, _, rfl, tF (show S "use" ≠ S "row" by decide +kernel) ⟨_, rfl, rfl, _, rfl, tF (show S "use" ≠ S "maybe" by decide +kernel) ⟨_, rfl, rfl, _, rfl, tF (show S "use" ≠ S "box" by decide +kernel) ⟨_, rfl, rfl, _, rfl, tT rfl ?_⟩⟩⟩⟩⟩⟩⟩⟩
        refine ⟨.ref a, rfl, a, _, 1, .str nm, rfl, rfl, hs, atI_nat (j := 1) rfl, _, _, rfl, rfl, fit2 ?_, ⟨_, rfl⟩, .ref a, rfl, a, _, 2, .ref b, rfl, rfl, hs, atI_nat (j := 2) rfl, b, rfl, ⟨_, hsb⟩, fun Dd hDd => lc_tup (xs := vs) (fun i H' => ∃ ys : List Str, ys.length = i ∧ TxA ys ((lsK fs).take i) ∧ H' Dd = some (.lst (ys.map V.str)) ∧ Same H H') ⟨[], rfl, rfl, upd_same, same_upd hDd⟩ (fun i H' _ hP => ?_) (fun i x H' hx hP => ?_) (fun H' hP => ?_)⟩
        · show _ + (cW "[").length ≤ _
          omega
        · obtain ⟨_, _, _, _, sm⟩ := hP
          exact ts_same sm _ _ hsb
        · obtain ⟨ys, el, htx, eD, sm⟩ := hP
          obtain ⟨k1, hu, gk, hdk, hfk, hls⟩ := lsK_get (TS.dps (ts_same sm) _ _ (pl_K fs hgp).1 hvs) hgp hx
          have hcl1 := cd_len k1 gk
          refine ⟨rfl, ?_⟩
          refine iteT (B := ∃ ys : List Str, ys.length = i + 1 ∧ TxA ys ((lsK fs).take (i + 1)) ∧ H' Dd = some (.lst (ys.map V.str)) ∧ Same H H') ?_
          cases n with
          | zero => omega
          | succ n =>
            refine ⟨x, rfl, x, k1, rfl, hu, gk, by omega, by omega, fun y H2 s2 hy => ?_⟩
            refine ⟨_, s2 _ _ eD, ?_, ys ++ [y], ?_, ?_, ?_, ?_⟩
            · rw [List.length_map]
              have := sumL_len (lsK fs)
              have hi : i < vs.length := (List.getElem?_eq_some_iff.mp hx).1
              exact Nat.lt_of_le_of_lt (show ys.length ≤ 100000 by omega) (by decide)
            · rw [List.length_append, el]; rfl
            · unfold TxA at htx ⊢
              rw [List.take_add_one, hls, List.map_append, htx]
              refine congrArg _ ?_
              show [tl _] = [_]
              rw [hy]
            · rw [upd_same, List.map_append]; rfl
            · intro b' o eb
              rw [upd_ne (ne_of_none eb hDd)]
              exact s2 _ _ (sm b' o eb)
        · obtain ⟨ys, el, htx, eD, sm⟩ := hP
          rw [hlen, List.take_length] at htx
          have hj := txA_join htx
          have hsu := txA_sum htx
          refine ⟨_, Dd, ys, rfl, rfl, .inl (.inl (.inl eD)), ?_, _, _, rfl, rfl, fit2 ?_, _, _, rfl, rfl, fit2 ?_, q _ H' sm ?_⟩
          · show _ + ys.length * 2 ≤ _
            omega
          · rw [tl_app, List.length_append, hj]
            show _ + (cW "[").length + _ ≤ _
            omega
          · rw [tl_app, tl_app, List.length_append, List.length_append, hj]
            show _ + (cW "[").length + _ + (cW "]").length ≤ _
            omega
          · rw [tl_app, tl_app, tl_app, hj]
            show _ ++ cW "[" ++ _ ++ cW "]" = _ ++ (91 :: (_ ++ [93]))
            rw [show cW "[" = [91] by decide +kernel, show cW "]" = [93] by decide +kernel]
            simp
      | hole nm =>
        obtain ⟨x, rfl, hx⟩ := all1 ha
        obtain rfl := dStr hx
        have l1 := (show Nm nm from g).most
        have e1 : (cW "?").length = 1 := by decide +kernel
        refine ⟨_, rfl, rfl, _, rfl, tF (show S "hole" ≠ S "nat" by decide +kernel) ⟨_, rfl, rfl, _, rfl, tF (show S "hole" ≠ S "int" by decide +kernel) ⟨_, rfl, rfl, _, rfl, tF (show S "hole" ≠ S "record" by decide +kernel) ⟨_, rfl, rfl, _, rfl, tF (show S "hole" ≠ S "variant" by decide +kernel) ⟨_, rfl, rfl, _, rfl, tF (show S "hole" ≠ S "row" by decide +kernel) ⟨_, rfl, rfl, _, rfl, tF (show S "hole" ≠ S "maybe" by decide +kernel) ⟨_, rfl, rfl, _, rfl, tF (show S "hole" ≠ S "box" by decide +kernel) ⟨_, rfl, rfl, _, rfl, tF (show S "hole" ≠ S "use" by decide +kernel) ⟨_, rfl, rfl, _, rfl, tT rfl ?_⟩⟩⟩⟩⟩⟩⟩⟩⟩
        refine ⟨.ref a, rfl, a, _, 1, .str nm, rfl, rfl, hs, atI_nat (j := 1) rfl, _, _, rfl, rfl, fit2 ?_, q _ H (Same.refl _) ?_⟩
        · show (cW "?").length + _ ≤ _
          omega
        · rw [tl_app]
          show cW "?" ++ _ = 63 :: _
          rw [show cW "?" = [63] by decide +kernel]
          rfl
end
end K2
namespace K2
open PySem PySem.Spec PyProof.Rows L2 K1
open TL (tl joinL)
/-! ### list(text) -/
def sgn (c : Nat) : V := .str ⟨#[c]⟩
theorem signs_vals (z : Str) (acc : Array Value) (h : ItemsOf (SignAt z) acc z.cps.size) : Vals ((tl z).map sgn) acc.toList := by
  have hl : ((tl z).map sgn).length = acc.toList.length := by
    rw [List.length_map, Array.length_toList]
    exact (Array.length_toList ..).trans (h.1).symm
  refine paired_of hl fun i x y hx hy => ?_
  rw [List.getElem?_map] at hx
  have hy' : acc[i]? = some y := by simpa using hy
  have hs := h.2 i y hy'
  cases hc : (tl z)[i]? with
  | none => rw [hc] at hx; cases hx
  | some c =>
    rw [hc] at hx
    obtain rfl : sgn c = x := Option.some.inj hx
    have hc' : z.cps[i]? = some c := by simpa [tl] using hc
    obtain ⟨c', t, e1, e2⟩ := hs
    rw [hc'] at e1
    cases e1
    exact ⟨t, e2⟩
section
variable {X : Cx}
theorem call_list_txt (hc : X.calm = true) : CallR X (.type "list") (fun xs H Q => ∃ z : Str, xs = [.str z] ∧ z.length ≤ sizeLine ∧ ∀ l, H l = none → Q (.ref l) (upd H l (.lst ((tl z).map sgn)))) := by
  intro pins s σ H xs us Q I r h
  obtain ⟨z, rfl, hz, q⟩ := h
  obtain ⟨u, rfl, t, rfl⟩ := vals1 r
  refine call_list_str (I.ok.hd hc) z t (fun h' tk acc c kp e hacc => ?_) hz
  refine ⟨.ref s.heap.objs.size, _, I.laid (t' := tk) kp (Nat.le_refl _) (show ObjOk X.prog X.w _ h' _ (.lst ((tl z).map sgn)) from ⟨?_, acc.toList, c, signs_vals z acc hacc, ?_⟩), rfl, q _ (I.hok.fresh (Nat.le_refl _))⟩
  · rw [List.length_map, ← TL.len_tl]
    exact hz
  · rw [Array.toArray_toList]
    exact e
end
/-! ### letters -/
abbrev sLet : Stmt := topS 7
theorem scLe : FnScope ["_law_deck_here", "_law_many", "_law_k"] ["_law_deck_here", "_law_many"] (defScope sLet) := ⟨rfl, rfl, rfl, by decide +kernel, rfl, by decide +kernel, by decide +kernel⟩
def abc : String := "abcdefghijklmnopqrstuvwxyz"
theorem abc_len : (tl (S abc)).length = 26 := by decide +kernel
theorem abc_let : ∀ c ∈ tl (S abc), letter c = true := fun c hc => List.all_eq_true.mp (by decide +kernel) c hc
theorem joinNil_let : ∀ ps : List (List Nat), (∀ p ∈ ps, (∀ c ∈ p, letter c = true) ∧ p.length = 1) → (∀ c ∈ joinL [] ps, letter c = true) ∧ (joinL [] ps).length = ps.length
  | [], _ => ⟨fun c h => by simp [joinL] at h, rfl⟩
  | [p], h => ⟨(h p List.mem_cons_self).1, by simpa [joinL] using (h p List.mem_cons_self).2⟩
  | p :: q :: r, h => by
    obtain ⟨h1, h2⟩ := h p List.mem_cons_self
    obtain ⟨i1, i2⟩ := joinNil_let (q :: r) fun z hz => h z (List.mem_cons_of_mem _ hz)
    refine ⟨fun c hc => ?_, ?_⟩
    · have hc' : c ∈ p ++ ([] ++ joinL [] (q :: r)) := hc
      rw [List.nil_append] at hc'
      rcases List.mem_append.mp hc' with m | m
      · exact h1 c m
      · exact i1 c m
    · show (p ++ ([] ++ joinL [] (q :: r))).length = _
      rw [List.nil_append, List.length_append, h2, i2]
      simp
      omega
section
variable {P : Program} {w : World} {K : PySem.W.Frag} {mg : Str → Option Value} {base : Heap}
def spLet : Sp := fun vs H Q _ => ∃ (dk cl lf : Addr) (m : Int), vs = [.ref dk, .int m] ∧ Dk H dk cl lf ∧ 0 ≤ m ∧ m ≤ 100 ∧
  ∀ (y : Str) (H' : Hp), (∀ c ∈ tl y, letter c = true) → ((tl y).length : Int) = m → Dk H' dk cl lf → KD dk lf H H' → Q (.str y) H'
theorem ok_letters {f : Addr} {fd : FuncData} (F : Fun K "_law_letters" "_law_letters" sLet f fd) (CP : Cal P w K mg base "_law_pick" ["_law_deck_here", "_law_many"] 1 spPick) (mr : mg "range" = none) : FnOk P w K mg base CX0 2 f fd ["_law_deck_here", "_law_many"] spLet := by
  obtain ⟨fP, fdP, GP, gP, kP, bP⟩ := CP.ex
  refine F.ok scLe (fun vs H Q E h => ?_) (fun cdv A outer s H vs Q E hr h => ?_)
  · obtain ⟨dk, cl, lf, m, rfl, _⟩ := h
    rfl
  · obtain ⟨dk, cl, lf, m, rfl, D0, m0, m1, q⟩ := h
    refine ⟨_, pss_one (ps_ret (pe_join pe_str
        (pe_lc (own := [("_law_k", 2)]) (g := gName 2) (tt := tYes) rfl scLe.nd (pi_range1 (by rfl) mr (pa_cons (pv 1) pa_nil))
          (blkOk_by (N := ["_law_deck_here", "_law_many", "_law_k"]) (sc := defScope sLet) (by decide +kernel)) (fun _ _ _ _ _ => pg_name (i := 2) scLe.nd rfl (Or.inl rfl)) (fun _ _ _ _ _ => pts_nil)
          (fun _ _ _ _ _ => pe_ix ix_str pe_str (pe_call GP hr (by rfl) gP kP bP .nil pass0 (pa_cons (pv 0) (pa_cons pe_int pa_nil))) (fun _ _ => rfl))))), ?_⟩
    refine ⟨⟨_, rfl⟩, .int m, rfl, m, rfl, by omega, by omega, fun D hD => lc_range (lo := 0) (n := m.toNat) (fun i H' => ∃ ys : List Str, ys.length = i ∧ (∀ y ∈ ys, (∀ c ∈ tl y, letter c = true) ∧ (tl y).length = 1) ∧ H' D = some (.lst (ys.map V.str)) ∧ Dk H' dk cl lf ∧ KD dk lf H H')
      ⟨[], rfl, (fun _ h => nomatch h), upd_same, D0.same (same_upd hD), KD.of_same (same_upd hD)⟩ (fun i H' hi hp => ?_) (fun H' hp => ?_)⟩
    · obtain ⟨ys, el, hy, eD, DH, kH⟩ := hp
      refine ⟨rfl, ?_⟩
      refine iteT (B := ∃ ys : List Str, ys.length = i + 1 ∧ (∀ y ∈ ys, (∀ c ∈ tl y, letter c = true) ∧ (tl y).length = 1) ∧ H' D = some (.lst (ys.map V.str)) ∧ Dk H' dk cl lf ∧ KD dk lf H H') ?_
      refine ⟨.ref dk, rfl, dk, cl, lf, 26, rfl, DH, by decide, by decide +kernel, fun g H4 g0 g1 D4 k4 => ?_⟩
      have nD := D0.not hD
      have hg : g.toNat < (tl (S abc)).length := by rw [abc_len]; omega
      refine ⟨_, g, (tl (S abc))[g.toNat], rfl, rfl, (by decide +kernel : (S abc).length ≤ sizeLine), atI_of2 (by omega) (List.getElem?_eq_getElem hg), ?_⟩
      have eD4 : H4 D = some (.lst (ys.map V.str)) := k4 _ _ nD.1 nD.2.2 eD
      refine ⟨_, eD4, ?_, ys ++ [⟨#[(tl (S abc))[g.toNat]]⟩], ?_, ?_, ?_, D4.upd nD, ?_⟩
      · rw [List.length_map]
        exact Nat.lt_of_le_of_lt (show ys.length ≤ 100 by omega) (by decide)
      · rw [List.length_append, el]; rfl
      · intro y hy'
        rcases List.mem_append.mp hy' with z | z
        · exact hy y z
        · rw [List.mem_singleton.mp z]
          exact ⟨fun c hc => by rw [show c = (tl (S abc))[g.toNat] by simpa [tl] using hc]; exact abc_let _ (List.getElem_mem hg), rfl⟩
      · rw [upd_same, List.map_append]; rfl
      · intro b o n1 n2 e
        rw [upd_ne (ne_of_none e hD)]
        exact k4 b o n1 n2 (kH b o n1 n2 e)
    · obtain ⟨ys, el, hy, eD, DH, kH⟩ := hp
      have hsum : (ys.map (·.length)).sum = ys.length := by
        clear eD el
        induction ys with
        | nil => rfl
        | cons y r ih =>
          rw [List.map_cons, List.sum_cons, ih fun z hz => hy z (List.mem_cons_of_mem _ hz), TL.len_tl, (hy y List.mem_cons_self).2, List.length_cons]
          omega
      have hj := joinNil_let (ys.map tl) fun p hp => by
        obtain ⟨y, z, rfl⟩ := List.mem_map.mp hp
        exact hy y z
      have ej : tl (Txt.join (Str.ofString "") ys) = joinL [] (ys.map tl) := by
        rw [TL.join_eq, TL.tl_join]
        rfl
      rw [← ej] at hj
      refine ⟨_, D, ys, rfl, rfl, .inl (.inl (.inl eD)), ?_, q _ H' hj.1 ?_ DH kH⟩
      · rw [hsum]
        show ys.length + ys.length * 0 ≤ 16777216
        omega
      · rw [hj.2, List.length_map]
        omega
end
/-! ### names -/
abbrev sNames : Stmt := topS 8
abbrev nmNa : List Str := ["_law_deck_here", "_law_many", "_law_pool", "_law_stem", "_law_mark", "_law_near", "_law_found", "_law_k", "_law_letter", "_law_one"]
theorem scNa : FnScope nmNa ["_law_deck_here", "_law_many"] (defScope sNames) := ⟨rfl, rfl, rfl, by decide +kernel, rfl, by decide +kernel, by decide +kernel⟩
theorem cutS_tl (z : Str) (lo hi : Option Int) : tl (cutS z lo hi) = ((tl z).drop (HT.sIx z.length 0 lo)).take (HT.sIx z.length z.length hi - HT.sIx z.length 0 lo) := by
  unfold cutS
  simp [tl]
theorem cut_both (z : Str) (j : Nat) (h : j ≤ (tl z).length) : tl (cutS z none (some (j : Int))) = (tl z).take j ∧ tl (cutS z (some (j : Int)) none) = (tl z).drop j := by
  have hz := TL.len_tl z
  rw [cutS_tl, cutS_tl, HT.sIx_none, HT.sIx_none, HT.sIx_nat, HT.sIx_nat]
  rw [show min j z.length = j by omega]
  refine ⟨by simp, ?_⟩
  rw [List.take_of_length_le (by rw [List.length_drop]; omega)]
theorem flat_strs (ns : List Str) : (ns.map V.str).all flatV = true := by
  rw [List.all_eq_true]
  intro v hv
  obtain ⟨n, _, rfl⟩ := List.mem_map.mp hv
  rfl
section
variable {P : Program} {w : World} {K : PySem.W.Frag} {mg : Str → Option Value} {base : Heap}
def spNames : Sp := fun vs H Q _ => ∃ (dk cl lf : Addr) (m : Int), vs = [.ref dk, .int m] ∧ Dk H dk cl lf ∧ 0 ≤ m ∧ m ≤ 20 ∧
  ∀ (p : Addr) (ns : List Str) (H' : Hp), (∀ n ∈ ns, Nm n) → (ns.length : Int) = m → H p = none → H' p = some (.lst (ns.map V.str)) → Dk H' dk cl lf → KD dk lf H H' → Q (.ref p) H'
theorem erase_map {α β : Type} (f : α → β) : ∀ (xs : List α) (i : Nat), (xs.map f).eraseIdx i = (xs.eraseIdx i).map f
  | [], _ => rfl
  | _ :: _, 0 => rfl
  | x :: xs, i + 1 => by
    show f x :: (xs.map f).eraseIdx i = f x :: (xs.eraseIdx i).map f
    rw [erase_map f xs i]
/-- [pick(a), pick(b)][pick(4) // 3] -/
def tTwo (K : PySem.W.Frag) (i : Nat) (a b : Int) : TE := tOp (rIxL K) (tLst (tCons (tCall spPick [] E0 (tCons (tVar i) (tCons (tC (.int a)) tNil))) (tCons (tCall spPick [] E0 (tCons (tVar i) (tCons (tC (.int b)) tNil))) tNil)))
  (tOp (rI CDiv fun i j => .int (i / j)) (tCall spPick [] E0 (tCons (tVar i) (tCons (tC (.int 4)) tNil))) (tC (.int 3)))
theorem two_picks {σ : L2.St} {i : Nat} {H : Hp} {Q : VK} {dk cl lf : Addr} {a b : Int} (hσ : σ[i]? = some (some (.ref dk))) (D : Dk H dk cl lf) (ha : 0 < a ∧ a ≤ 100) (hb : 0 < b ∧ b ≤ 100) (q : ∀ (v : Int) (H' : Hp), 0 ≤ v → v < max a b → Dk H' dk cl lf → KD dk lf H H' → Q (.int v) H') : tTwo K i a b σ H Q := by
  have lg : ∀ z : Int, 0 < z ∧ z ≤ 100 → z.natAbs.log2 < 9000 := fun z hz => Nat.lt_trans (PySem.Flt.log2_lt_of (k := 7) (by decide) (by omega)) (by decide)
  refine ⟨.ref dk, hσ, dk, cl, lf, a, rfl, D, ha.1, lg a ha, fun x H1 x0 x1 D1 k1 => ?_⟩
  refine ⟨.ref dk, hσ, dk, cl, lf, b, rfl, D1, hb.1, lg b hb, fun y H2 y0 y1 D2 k2 => ?_⟩
  refine ⟨(by show 2 ≤ sizeLine; decide), fun ll nll => ?_⟩
  have s3 : Same H2 (upd H2 ll (.lst [.int x, .int y])) := same_upd nll
  have c3 : (upd H2 ll (.lst [.int x, .int y])) ll = some (.lst [.int x, .int y]) := upd_same
  generalize hH3 : upd H2 ll (HO.lst [.int x, .int y]) = H3 at s3 c3 ⊢
  have nD := D2.not nll
  refine ⟨.ref dk, hσ, dk, cl, lf, 4, rfl, D2.same s3, by decide, by decide +kernel, fun z H4 z0 z1 D4 k4 => ?_⟩
  refine ⟨_, _, rfl, rfl, ⟨by decide, by decide⟩, ?_⟩
  have c4 : H4 ll = some (.lst [.int x, .int y]) := k4 _ _ nD.1 nD.2.2 c3
  have kk : KD dk lf H H4 := (k1.trans k2).trans ((KD.of_same s3).trans k4)
  rcases (show z / 3 = 0 ∨ z / 3 = 1 by omega) with e | e
  · exact ⟨ll, _, z / 3, .int x, rfl, rfl, .inl (.inl c4), by rw [e]; rfl, q x H4 x0 (by omega) D4 kk⟩
  · exact ⟨ll, _, z / 3, .int y, rfl, rfl, .inl (.inl c4), by rw [e]; rfl, q y H4 y0 (by omega) D4 kk⟩
/-- between two names -/
def WN (H : Hp) (dk cl lf po fo : Addr) (m : Int) (stem : Str) (mark : Nat) (near : Bool) (i : Nat) (σ : L2.St) (H' : Hp) : Prop :=
  ∃ (y7 y8 y9 : Option V) (cs : List Nat) (ns : List Str), σ = [some (.ref dk), some (.int m), some (.ref po), some (.str stem), some (.int mark), some (.bl near), some (.ref fo), y7, y8, y9] ∧
    H' po = some (.lst (cs.map sgn)) ∧ H' fo = some (.lst (ns.map V.str)) ∧ cs.length + i = 26 ∧ (∀ c ∈ cs, letter c = true) ∧ ns.length = i ∧ (∀ n ∈ ns, Nm n) ∧ Dk H' dk cl lf ∧ KD dk lf H H'
theorem ok_names {f : Addr} {fd : FuncData} (F : Fun K "_law_names" "_law_names" sNames f fd) (CP : Cal P w K mg base "_law_pick" ["_law_deck_here", "_law_many"] 1 spPick) (CE : Cal P w K mg base "_law_letters" ["_law_deck_here", "_law_many"] 2 spLet)
    (mr : mg "range" = none) (ml : mg "len" = none) (mli : mg "list" = none) : FnOk P w K mg base CX0 3 f fd ["_law_deck_here", "_law_many"] spNames := by
  obtain ⟨fP, fdP, GP, gP, kP, bP⟩ := CP.ex
  obtain ⟨fE, fdE, GE, gE, kE, bE⟩ := CE.ex
  refine F.ok scNa (fun vs H Q E h => ?_) (fun cdv A outer s H vs Q E hr h => ?_)
  · obtain ⟨dk, cl, lf, m, rfl, _⟩ := h
    rfl
  · obtain ⟨dk, cl, lf, m, rfl, D0, m0, m1, q⟩ := h
    have hr1 : Room 1 (A.deeper (envOfC "_law_names" (defScope sNames) s.heap.objs.size f cdv)) := hr.mono (by omega)
    refine ⟨_, pss_cons (ps_set (i := 2) scNa.nd rfl (.inl rfl) (pe_callTy (call_list_txt rfl) (by rfl) mli (by decide +kernel) (pa_cons pe_str pa_nil)))
      (pss_cons (ps_set (i := 3) scNa.nd rfl (.inl rfl) (pe_call GE hr (by rfl) gE kE bE .nil pass0 (pa_cons (pv 0) (pa_cons (pe_ix ix_list (pe_lst (pa_cons (pe_call GP hr1 (by rfl) gP kP bP .nil pass0 (pa_cons (pv 0) (pa_cons pe_int pa_nil))) (pa_cons (pe_call GP hr1 (by rfl) gP kP bP .nil pass0 (pa_cons (pv 0) (pa_cons pe_int pa_nil))) pa_nil)))
          (pe_op op_fdiv (pe_call GP hr1 (by rfl) gP kP bP .nil pass0 (pa_cons (pv 0) (pa_cons pe_int pa_nil))) pe_int) (fun _ _ => rfl)) pa_nil))))
      (pss_cons (ps_set (i := 4) scNa.nd rfl (.inl rfl) (pe_call GP hr1 (by rfl) gP kP bP .nil pass0 (pa_cons (pv 0) (pa_cons (pe_op op_add (pe_callB call_len_str (by rfl) ml PySem.boot_len (pa_cons (pv 3) pa_nil)) pe_int) pa_nil))))
      (pss_cons (ps_set (i := 5) scNa.nd rfl (.inl rfl) (pe_cmpR op_eq (pe_call GP hr1 (by rfl) gP kP bP .nil pass0 (pa_cons (pv 0) (pa_cons pe_int pa_nil))) pe_int (nomark _)))
      (pss_cons (ps_set (i := 6) scNa.nd rfl (.inl rfl) (pe_lst pa_nil))
      (pss_cons (ps_for PassesOwn.never rfl (pi_range1 (by rfl) mr (pa_cons (pv 1) pa_nil)) (pg_name (i := 7) scNa.nd rfl (.inl rfl))
        (pss_cons (ps_set (i := 8) scNa.nd rfl (.inl rfl) (pe_bm PySem.F.plainAttrs_list PySem.F.slot_list_pop PySem.F.type_list_pop mt_popAt (pv 2) (pa_cons (pe_call GP hr1 (by rfl) gP kP bP .nil pass0 (pa_cons (pv 0) (pa_cons (pe_callB call_len_seq (by rfl) ml PySem.boot_len (pa_cons (pv 2) pa_nil)) pa_nil))) pa_nil)))
        (pss_cons (ps_set (i := 9) scNa.nd rfl (.inl rfl) (pe_op op_add_str (pe_op op_add_str (pe_slice sl_str (pv 3) po_none (po_some (pv 4))) (pv 8)) (pe_slice sl_str (pv 3) (po_some (pv 4)) po_none)))
        (pss_cons (ps_if (pt_not (pt_val (pv 5)))
          (pss_cons (ps_set (i := 9) scNa.nd rfl (.inl rfl) (pe_call GE hr (by rfl) gE kE bE .nil pass0 (pa_cons (pv 0) (pa_cons (pe_op op_add pe_int (pe_ix ix_list (pe_lst (pa_cons (pe_call GP hr1 (by rfl) gP kP bP .nil pass0 (pa_cons (pv 0) (pa_cons pe_int pa_nil))) (pa_cons (pe_call GP hr1 (by rfl) gP kP bP .nil pass0 (pa_cons (pv 0) (pa_cons pe_int pa_nil))) pa_nil)))
            (pe_op op_fdiv (pe_call GP hr1 (by rfl) gP kP bP .nil pass0 (pa_cons (pv 0) (pa_cons pe_int pa_nil))) pe_int) (fun _ _ => rfl))) pa_nil))))
          (pss_one (ps_if (pt_cmpR op_in_seq (pv 9) (pv 6) (by rfl)) (pss_one (ps_set (i := 9) scNa.nd rfl (.inl rfl) (pv 8))) pss_nil))) pss_nil)
        (pss_one (ps_expr (pe_bm PySem.F.plainAttrs_list PySem.F.slot_list_append PySem.F.type_list_append mt_append (pv 6) (pa_cons (pv 9) pa_nil))))))))
      (pss_one (ps_ret (pv 6)))))))), ?_⟩
    refine ⟨S abc, rfl, (by decide +kernel), fun po npo => ?_⟩
    have s1 : Same H (upd H po (.lst ((tl (S abc)).map sgn))) := same_upd npo
    have c1 : (upd H po (.lst ((tl (S abc)).map sgn))) po = some (.lst ((tl (S abc)).map sgn)) := upd_same
    generalize hH1 : upd H po (HO.lst ((tl (S abc)).map sgn)) = H1 at s1 c1 ⊢
    have D1 : Dk H1 dk cl lf := D0.same s1
    have npd := D0.not npo
    refine ⟨.ref dk, rfl, two_picks (dk := dk) (cl := cl) (lf := lf) rfl D1 ⟨by decide, by decide⟩ ⟨by decide, by decide⟩ fun v H2 v0 v1 D2 k2 => ?_⟩
    refine ⟨dk, cl, lf, v, rfl, D2, v0, by omega, fun stem H3 hst hsl D3 k3 => ?_⟩
    have hstl : (tl stem).length ≤ 11 := by omega
    refine ⟨.ref dk, rfl, .str stem, rfl, stem, rfl, fit (by omega), _, _, rfl, rfl, dk, cl, lf, _, rfl, D3, by omega, ?_, fun mk H4 mk0 mk1 D4 k4 => ?_⟩
    · have hz := TL.len_tl stem
      exact Nat.lt_trans (PySem.Flt.log2_lt_of (k := 7) (by decide) (by omega)) (by decide)
    obtain ⟨mark, rfl⟩ : ∃ mark : Nat, mk = (mark : Int) := ⟨mk.toNat, by omega⟩
    have hmark : mark ≤ (tl stem).length := by
      have hz := TL.len_tl stem
      omega
    refine ⟨.ref dk, rfl, dk, cl, lf, 2, rfl, D4, by decide, by decide +kernel, fun nr H5 _ _ D5 k5 => ?_⟩
    refine ⟨rfl, Nat.zero_le _, fun fo nfo => ?_⟩
    generalize decide (V.int nr = V.int 1) = near
    have k15 : KD dk lf H1 H5 := (k2.trans k3).trans (k4.trans k5)
    have c5 : H5 po = some (.lst ((tl (S abc)).map sgn)) := k15 _ _ npd.1 npd.2.2 c1
    have nfd := D5.not nfo
    have npf : po ≠ fo := ne_of_none c5 nfo
    have kall : KD dk lf H (upd H5 fo (.lst [])) := (KD.of_same s1).trans (k15.trans (KD.of_same (same_upd nfo)))
    have nfo0 : H fo = none := by
      cases e : H fo with
      | none => rfl
      | some o => rw [(KD.trans (KD.of_same s1) k15) fo o nfd.1 nfd.2.2 e] at nfo; cases nfo
    refine ⟨.int m, rfl, m, rfl, by omega, by omega, for_range (lo := 0) (n := m.toNat) (WN H dk cl lf po fo m stem mark near) ⟨none, none, none, tl (S abc), [], rfl, ?_, upd_same, by rw [abc_len], abc_let, rfl, (fun _ h => nomatch h), D5.same (same_upd nfo), kall⟩ (fun i σ H' hi hP => ?_) (fun σ H' hP => ?_)⟩
    · rw [upd_ne npf]; exact c5
    · obtain ⟨y7, y8, y9, cs, ns, rfl, hpo, hfo, hcs, hlet, hns, hnm, DH, kH⟩ := hP
      have hlc : (cs.map sgn).length = cs.length := List.length_map ..
      -- letter = pool.pop(pick)
      refine ⟨.ref po, rfl, .inl ⟨rfl, _, .inl (.inl hpo)⟩, .ref dk, rfl, .ref po, rfl, po, _, rfl, .inl (.inl (.inl hpo)), dk, cl, lf, _, rfl, DH, by rw [hlc]; omega, ?_, fun g H6 g0 g1 D6 k6 => ?_⟩
      · exact Nat.lt_trans (PySem.Flt.log2_lt_of (k := 7) (by decide) (by omega)) (by decide)
      rw [hlc] at g1
      have hpo6 : H6 po = some (.lst (cs.map sgn)) := k6 _ _ npd.1 npd.2.2 hpo
      have hfo6 : H6 fo = some (.lst (ns.map V.str)) := k6 _ _ nfd.1 nfd.2.2 hfo
      have hgl : g.toNat < cs.length := by omega
      refine ⟨po, _, g, g.toNat, sgn cs[g.toNat], rfl, rfl, hpo6, by omega, by omega, ?_, ?_, ?_⟩
      · unfold seqIndex?
        rw [hlc]
        simp
        omega
      · rw [List.getElem?_map, List.getElem?_eq_getElem hgl]; rfl
      have hl1 : letter cs[g.toNat] = true := hlet _ (List.getElem_mem hgl)
      have k7 : KD dk lf H6 (upd H6 po (.lst ((cs.map sgn).eraseIdx g.toNat))) → True := fun _ => True.intro
      generalize hH7 : upd H6 po (HO.lst ((cs.map sgn).eraseIdx g.toNat)) = H7
      have hpo7 : H7 po = some (.lst ((cs.eraseIdx g.toNat).map sgn)) := by rw [← hH7, upd_same, erase_map]
      have hfo7 : H7 fo = some (.lst (ns.map V.str)) := by rw [← hH7, upd_ne npf.symm]; exact hfo6
      have D7 : Dk H7 dk cl lf := by rw [← hH7]; exact D6.upd npd
      have kH7 : KD dk lf H H7 := fun b o n1 n2 e => by
        rw [← hH7, upd_ne (ne_of_none e npo)]
        exact k6 b o n1 n2 (kH b o n1 n2 e)
      have hcs7 : (cs.eraseIdx g.toNat).length + (i + 1) = 26 := by rw [List.length_eraseIdx_of_lt hgl]; omega
      have hlet7 : ∀ c ∈ cs.eraseIdx g.toNat, letter c = true := fun c hc => hlet c (List.mem_of_mem_eraseIdx hc)
      generalize hLet : (⟨#[cs[g.toNat]]⟩ : Str) = lt
      have tlt : tl lt = [cs[g.toNat]] := by rw [← hLet]
      have nlt : Nm lt := ⟨fun c hc => by rw [tlt] at hc; rw [List.mem_singleton.mp hc]; exact hl1, by rw [tlt]; simp, by rw [tlt]; simp⟩
      have hsg : sgn cs[g.toNat] = .str lt := by rw [← hLet]; rfl
      rw [hsg]
      obtain ⟨ct1, ct2⟩ := cut_both stem mark hmark
      -- one = stem[:mark] + letter + stem[mark:]
      have hfit := Nat.le_trans (show (tl stem).length ≤ 1000000 by omega) (Nat.le_refl _)
      refine ⟨.str stem, rfl, .int mark, rfl, (mark : Int), rfl, stem, rfl, fit hfit, .str lt, rfl, _, _, rfl, rfl, fit2 ?_, .str stem, rfl, .int mark, rfl, (mark : Int), rfl, ?_⟩
      · rw [ct1, tlt, List.length_take]; simp; omega
      dsimp only [tNoPart]
      refine ⟨stem, rfl, fit hfit, _, _, rfl, rfl, fit2 ?_, ?_⟩
      · rw [tl_app, ct1, tlt, ct2, List.length_append, List.length_take, List.length_drop, List.length_singleton]; omega
      have nOne : Nm (cutS stem none (some (mark : Int)) ++ lt ++ cutS stem (some (mark : Int)) none) := by
        have et : tl (cutS stem none (some (mark : Int)) ++ lt ++ cutS stem (some (mark : Int)) none) = (tl stem).take mark ++ [cs[g.toNat]] ++ (tl stem).drop mark := by
          rw [tl_app, tl_app, ct1, tlt, ct2]
        refine ⟨fun c hc => ?_, by rw [et]; simp, ?_⟩
        · rw [et] at hc
          rcases List.mem_append.mp hc with z | z
          · rcases List.mem_append.mp z with z | z
            · exact hst c (List.mem_of_mem_take z)
            · rw [List.mem_singleton.mp z]; exact hl1
          · exact hst c (List.mem_of_mem_drop z)
        · rw [et, List.length_append, List.length_append, List.length_take, List.length_drop, List.length_singleton]
          omega
      generalize (cutS stem none (some (mark : Int)) ++ lt ++ cutS stem (some (mark : Int)) none) = one1 at nOne ⊢
      -- what is appended
      have app : ∀ (one : Str) (H8 : Hp), Nm one → H8 po = some (.lst ((cs.eraseIdx g.toNat).map sgn)) → H8 fo = some (.lst (ns.map V.str)) → Dk H8 dk cl lf → KD dk lf H H8 → ∀ (D : Ends) (x7 : Option V), D.nx = WN H dk cl lf po fo m stem mark near (i + 1) →
          tDrop (tBM K "list" rAppend (tVar 6) (tCons (tVar 9) tNil)) D [some (.ref dk), some (.int m), some (.ref po), some (.str stem), some (.int mark), some (.bl near), some (.ref fo), x7, some (.str lt), some (.str one)] H8 := fun one H8 n1 h1 h2 h3 h4 D x7 hD => by
        refine ⟨.ref fo, rfl, .inl ⟨rfl, _, .inl (.inl h2)⟩, .str one, rfl, fo, _, _, rfl, rfl, h2, ?_, ?_⟩
        · rw [List.length_map]
          exact Nat.lt_of_le_of_lt (show ns.length ≤ 100 by omega) (by decide)
        · rw [hD]
          refine ⟨_, _, _, cs.eraseIdx g.toNat, ns ++ [one], rfl, ?_, ?_, hcs7, hlet7, by rw [List.length_append, hns]; rfl, ?_, h3.upd ⟨nfd.1, nfd.2.1, nfd.2.2⟩, ?_⟩
          · rw [upd_ne npf]; exact h1
          · rw [upd_same, List.map_append]; rfl
          · intro n hn
            rcases List.mem_append.mp hn with z | z
            · exact hnm n z
            · rw [List.mem_singleton.mp z]; exact n1
          · intro b o n1 n2 e
            rw [upd_ne (ne_of_none e nfo0)]
            exact h4 b o n1 n2 e
      refine ⟨.bl near, rfl, near, rfl, ite2 (fun e => ?_) (fun e => app one1 H7 nOne hpo7 hfo7 D7 kH7 _ _ rfl)⟩
      refine ⟨.ref dk, rfl, two_picks (dk := dk) (cl := cl) (lf := lf) rfl D7 ⟨by decide, by decide⟩ ⟨by decide, by decide⟩ fun v H8 v0 v1 D8 k8 => ?_⟩
      refine ⟨_, _, rfl, rfl, dk, cl, lf, _, rfl, D8, by omega, by omega, fun y H9 hy1 hy2 D9 k9 => ?_⟩
      have hpo9 : H9 po = some (.lst ((cs.eraseIdx g.toNat).map sgn)) := (k8.trans k9) _ _ npd.1 npd.2.2 hpo7
      have hfo9 : H9 fo = some (.lst (ns.map V.str)) := (k8.trans k9) _ _ nfd.1 nfd.2.2 hfo7
      have ny : Nm y := ⟨hy1, fun z => by rw [z] at hy2; simp at hy2; omega, by omega⟩
      have k09 := kH7.trans (k8.trans k9)
      refine ⟨.str y, rfl, .ref fo, rfl, fo, _, rfl, .inl (.inl (.inl hfo9)), rfl, flat_strs ns, _, rfl, ite2 (fun _ => ?_) (fun _ => app y H9 ny hpo9 hfo9 D9 k09 _ _ rfl)⟩
      exact ⟨.str lt, rfl, app lt H9 nlt hpo9 hfo9 D9 k09 _ _ rfl⟩
    · obtain ⟨y7, y8, y9, cs, ns, rfl, hpo, hfo, hcs, hlet, hns, hnm, DH, kH⟩ := hP
      exact ⟨.ref fo, rfl, q fo ns H' hnm (by omega) nfo0 hfo DH kH⟩
end
end K2
namespace K2
open PySem PySem.Spec PyProof.Rows L2 K1
open TL (tl joinL)
abbrev sLeaf : Stmt := topS 9
abbrev nmLf : List Str := ["_law_deck_here", "_law_holes", "_law_way", "_law_bits"]
theorem scLf : FnScope nmLf ["_law_deck_here", "_law_holes"] (defScope sLeaf) := ⟨rfl, rfl, rfl, by decide +kernel, rfl, by decide +kernel, by decide +kernel⟩
theorem lg100 {z : Int} (h0 : 0 < z) (h : z ≤ 100000) : z.natAbs.log2 < 9000 := Nat.lt_trans (PySem.Flt.log2_lt_of (k := 17) (by decide) (by omega)) (by decide)
section
variable {P : Program} {w : World} {K : PySem.W.Frag} {mg : Str → Option Value} {base : Heap}
def LeafQ (K : PySem.W.Frag) (dk cl lf : Addr) (H : Hp) (R : VK) : Prop := ∀ (v : V) (k : Kd) (H' : Hp), Dk H' dk cl lf → KD dk lf H H' → Dp K H' v (toD k) → good k → fm k = 1 → dpt k = 1 → R v H'
def spLeaf (K : PySem.W.Frag) : Sp := fun vs H Q _ => ∃ (dk cl lf ho : Addr) (hs : List Str), vs = [.ref dk, .ref ho] ∧ Dk H dk cl lf ∧ SqT K H ho (hs.map V.str) ∧ (∀ h ∈ hs, Nm h) ∧ hs.length ≤ 100 ∧ LeafQ K dk cl lf H Q
def tLR (K : PySem.W.Frag) (dk cl lf : Addr) : L2.TS := fun D σ H => ∃ (a1 y3 : Option V) (way : Int), σ = [some (.ref dk), a1, some (.int way), y3] ∧ 0 ≤ way ∧ Dk H dk cl lf ∧ LeafQ K dk cl lf H D.rt
def tLF (K : PySem.W.Frag) (dk cl lf : Addr) : L2.TS := fun D σ H => ∃ (a1 : Option V) (way b : Int), σ = [some (.ref dk), a1, some (.int way), some (.int b)] ∧ 0 ≤ way ∧ (1 ≤ b ∧ b ≤ 64) ∧ Dk H dk cl lf ∧ LeafQ K dk cl lf H D.rt
theorem LeafQ.to {dk cl lf : Addr} {H H1 : Hp} {R : VK} (h : LeafQ K dk cl lf H R) (k : KD dk lf H H1) : LeafQ K dk cl lf H1 R := fun v kd H' a b => h v kd H' a (k.trans b)
theorem ok_leaf {f : Addr} {fd : FuncData} (F : Fun K "_law_leaf" "_law_leaf" sLeaf f fd) (CP : Cal P w K mg base "_law_pick" ["_law_deck_here", "_law_many"] 1 spPick) (ml : mg "len" = none) : FnOk P w K mg base CX0 2 f fd ["_law_deck_here", "_law_holes"] (spLeaf K) := by
  obtain ⟨fP, fdP, GP, gP, kP, bP⟩ := CP.ex
  refine F.ok scLf (fun vs H Q E h => ?_) (fun cdv A outer s H vs Q E hr h => ?_)
  · obtain ⟨dk, cl, lf, ho, hs, rfl, _⟩ := h
    rfl
  · obtain ⟨dk, cl, lf, ho, hs, rfl, D0, hho, hnm, hlen, q⟩ := h
    refine ⟨_, pss_cons (ps_set (i := 2) scLf.nd rfl (.inl rfl) (pe_call GP hr (by rfl) gP kP bP .nil pass0 (pa_cons (pv 0) (pa_cons pe_int pa_nil))))
      (pss_cons (ps_if (pt_cmpR op_eq (pv 2) pe_int (nomark _)) (pss_one (ps_ret (pe_tup (pa_cons pe_str pa_nil)))) pss_nil)
      (pss_cons (ps_if (pt_cmpR op_eq (pv 2) pe_int (nomark _)) (pss_one (ps_ret (pe_tup (pa_cons pe_str (pa_cons (pe_tup pa_nil) pa_nil))))) pss_nil)
      (pss_cons (ps_if (PW.pt (pw_and (pt_cmpR op_lt (pv 2) pe_int (nomark _)) (pw_and1 (pt_cmpR op_gt (pe_callB call_len_seq (by rfl) ml PySem.boot_len (pa_cons (pv 1) pa_nil)) pe_int (nomark _)))))
        (pss_one (ps_ret (pe_tup (pa_cons pe_str (pa_cons (pe_ix ix_tup (pv 1) (pe_call GP hr (by rfl) gP kP bP .nil pass0 (pa_cons (pv 0) (pa_cons (pe_callB call_len_seq (by rfl) ml PySem.boot_len (pa_cons (pv 1) pa_nil)) pa_nil))) (fun _ _ => rfl)) pa_nil))))) pss_nil)
      (pss_weak (t' := tLR K dk cl lf) (pss_cons (ps_set (i := 3) scLf.nd rfl (.inl rfl) (pe_op op_add pe_int (pe_call GP hr (by rfl) gP kP bP .nil pass0 (pa_cons (pv 0) (pa_cons pe_int pa_nil)))))
        (pss_cons (ps_if (pt_cmpR op_eq (pe_call GP hr (by rfl) gP kP bP .nil pass0 (pa_cons (pv 0) (pa_cons pe_int pa_nil))) pe_int (nomark _)) (pss_one (ps_set (i := 3) scLf.nd rfl (.inl rfl) (pe_op op_mul pe_int (pe_op op_add pe_int (pe_op op_mod (pv 3) pe_int))))) pss_nil)
        (pss_weak (t' := tLF K dk cl lf) (pss_one (ps_ret (pe_tup (pa_cons (pe_ix ix_list (pe_lst (pa_cons pe_str (pa_cons pe_str pa_nil))) (pe_op op_mod (pv 2) pe_int) (fun _ _ => rfl)) (pa_cons (pv 3) pa_nil))))) ?fin))) ?rest)))), ?_⟩
    case fin =>
      intro D σ H1 hh
      obtain ⟨a1, way, b, rfl, w0, hb, D1, q⟩ := hh
      refine ⟨(by show 2 ≤ sizeLine; decide), fun ll nll => ?_⟩
      have s2 : Same H1 (upd H1 ll (.lst [.str (S "nat"), .str (S "int")])) := same_upd nll
      have c2 : (upd H1 ll (.lst [.str (S "nat"), .str (S "int")])) ll = some (.lst [.str (S "nat"), .str (S "int")]) := upd_same
      refine ⟨.int way, rfl, _, _, rfl, rfl, (by show (0 : Int) < 2; decide), ?_⟩
      obtain ⟨i, hi⟩ : ∃ i : Bool, atI [V.str (S "nat"), V.str (S "int")] (way % 2) = some (.str (S (wN i))) := by
        rcases (show way % 2 = 0 ∨ way % 2 = 1 by omega) with e | e
        · exact ⟨false, by rw [e]; rfl⟩
        · exact ⟨true, by rw [e]; rfl⟩
      refine ⟨ll, _, _, _, rfl, rfl, .inl (.inl c2), hi, .int b, rfl, (by show 2 ≤ sizeLine; decide), fun t nt => ?_⟩
      exact q (.ref t) (.num i b) _ ((D1.same s2).same (same_upd nt)) (KD.of_same (s2.trans (same_upd nt))) (.tup (.inl (.inl upd_same)) (.cons (.str _) (.cons (.int _) .nil))) hb rfl rfl
    case rest =>
      intro D σ H1 hh
      obtain ⟨a1, y3, way, rfl, w0, D1, q⟩ := hh
      refine ⟨.ref dk, rfl, dk, cl, lf, 64, rfl, D1, by decide, by decide +kernel, fun b H2 b0 b1 D2 k2 => ?_⟩
      refine ⟨_, _, rfl, rfl, .ref dk, rfl, dk, cl, lf, 2, rfl, D2, by decide, by decide +kernel, fun c H3 c0 c1 D3 k3 => ?_⟩
      have q3 := (q.to k2).to k3
      refine ⟨rfl, _, rfl, ite2 (fun _ => ?_) (fun _ => ?_)⟩
      · refine ⟨.int (1 + b), rfl, _, _, rfl, rfl, (by show (0 : Int) < 8; decide), _, _, rfl, rfl, _, _, rfl, rfl, .inl ⟨by decide, by decide⟩, ?_⟩
        exact ⟨_, way, _, rfl, w0, ⟨by omega, by omega⟩, D3, q3⟩
      · exact ⟨_, way, _, rfl, w0, ⟨by omega, by omega⟩, D3, q3⟩
    refine ⟨.ref dk, rfl, dk, cl, lf, 8, rfl, D0, by decide, by decide +kernel, fun way H1 w0 w1 D1 k1 => ?_⟩
    have q1 := q.to k1
    refine ⟨.int way, rfl, rfl, _, rfl, ite2 (fun _ => ?_) (fun _ => ?_)⟩
    · exact ⟨(by show 1 ≤ sizeLine; decide), fun t nt => q1 (.ref t) .truth _ (D1.same (same_upd nt)) (KD.of_same (same_upd nt)) (.tup (.inl (.inl upd_same)) (.cons (.str _) .nil)) True.intro rfl rfl⟩
    refine ⟨.int way, rfl, rfl, _, rfl, ite2 (fun _ => ?_) (fun _ => ?_)⟩
    · refine ⟨Nat.zero_le _, fun z nz => ⟨(by show 2 ≤ sizeLine; decide), fun t nt => ?_⟩⟩
      have s2 : Same H1 (upd H1 z (.tup [])) := same_upd nz
      exact q1 (.ref t) (.parts false .nil) _ (D1.same (s2.trans (same_upd nt))) (KD.of_same (s2.trans (same_upd nt))) (.tup (.inl (.inl upd_same)) (.cons (.str _) (.cons (.tup (.inl (.inl (same_upd nt _ _ upd_same))) .nil) .nil))) True.intro rfl rfl
    have t1 : TS K H H1 := D0.ts k1
    have rest : ∀ D : Ends, D.rt = Q → tLR K dk cl lf D [some (.ref dk), some (.ref ho), some (.int way), none] H1 := fun D hD => ⟨_, _, way, rfl, w0, D1, by rw [hD]; exact q1⟩
    refine ⟨.int way, rfl, _, _, rfl, rfl, _, rfl, ite2 (fun _ => ?_) (fun _ => rest _ rfl)⟩
    refine ⟨.ref ho, rfl, ho, _, rfl, .inr (t1 _ _ hho), _, _, rfl, rfl, _, rfl, ite2 (fun e => ?_) (fun _ => rest _ rfl)⟩
    have hpos : 0 < ((hs.map V.str).length : Int) := of_decide_eq_true e
    have hlm : (hs.map V.str).length = hs.length := List.length_map ..
    refine ⟨.ref ho, rfl, .ref dk, rfl, .ref ho, rfl, ho, _, rfl, .inr (t1 _ _ hho), dk, cl, lf, _, rfl, D1, hpos, lg100 hpos (by omega), fun g H2 g0 g1 D2 k2 => ?_⟩
    have hg : g.toNat < hs.length := by omega
    have gx : (hs.map V.str)[g.toNat]? = some (.str hs[g.toNat]) := by rw [List.getElem?_map, List.getElem?_eq_getElem hg]; rfl
    refine ⟨ho, _, g, _, rfl, rfl, (D1.ts k2) _ _ (t1 _ _ hho), atI_of2 (by omega) gx, (by show 2 ≤ sizeLine; decide), fun t nt => ?_⟩
    exact (q1.to k2) (.ref t) (.hole hs[g.toNat]) _ (D2.same (same_upd nt)) (KD.of_same (same_upd nt)) (.tup (.inl (.inl upd_same)) (.cons (.str _) (.cons (.str _) .nil))) (hnm _ (List.getElem_mem hg)) rfl rfl
end
end K2
namespace K2
open PySem PySem.Spec PyProof.Rows L2 K1
open TL (tl joinL)
abbrev sKind : Stmt := topS 10
abbrev nmKd : List Str := ["_law_deck_here", "_law_heads", "_law_holes", "_law_deep", "_law_room", "_law_way", "_law_least", "_law_many", "_law_names_here", "_law_name", "_law_pieces", "_law_fills", "_law_k"]
abbrev psKd : List Str := ["_law_deck_here", "_law_heads", "_law_holes", "_law_deep", "_law_room"]
theorem scKd : FnScope nmKd psKd (defScope sKind) := ⟨rfl, rfl, rfl, by decide +kernel, rfl, by decide +kernel, by decide +kernel⟩
/-! ### lists of parts, of fills -/
def psL : List (Str × Kd) → Ps
  | [] => .nil
  | p :: l => .cons p.1 p.2 (psL l)
def ksL : List Kd → Ks
  | [] => .nil
  | k :: l => .cons k (ksL l)
theorem psD_snoc : ∀ (l : List (Str × Kd)) (n : Str) (k : Kd), psD (psL (l ++ [(n, k)])) = psD (psL l) ++ [.tuple [.str n, toD k]]
  | [], _, _ => rfl
  | p :: l, n, k => by simp [psL, psD, psD_snoc l n k]
theorem ksD_snoc : ∀ (l : List Kd) (k : Kd), ksD (ksL (l ++ [k])) = ksD (ksL l) ++ [toD k]
  | [], _ => rfl
  | p :: l, k => by simp [ksL, ksD, ksD_snoc l k]
theorem psL_ok {d r : Nat} : ∀ (l : List (Str × Kd)), (∀ p ∈ l, Nm p.1 ∧ good p.2 ∧ dpt p.2 ≤ d ∧ fm p.2 ≤ r) → goodP (psL l) ∧ dptP (psL l) ≤ d ∧ fmP (psL l) ≤ l.length * r
  | [], _ => ⟨True.intro, Nat.zero_le _, Nat.zero_le _⟩
  | p :: l, h => by
    obtain ⟨h1, h2, h3, h4⟩ := h p List.mem_cons_self
    obtain ⟨g1, g2, g3⟩ := psL_ok l fun q hq => h q (List.mem_cons_of_mem _ hq)
    refine ⟨⟨h1, h2, g1⟩, ?_, ?_⟩
    · simp only [psL, dptP]; omega
    · simp only [psL, fmP, List.length_cons, Nat.add_mul]; omega
theorem ksL_ok {d r : Nat} : ∀ (l : List Kd), (∀ p ∈ l, good p ∧ dpt p ≤ d ∧ fm p ≤ r) → goodK (ksL l) ∧ dptK (ksL l) ≤ d ∧ fmK (ksL l) ≤ l.length * r
  | [], _ => ⟨True.intro, Nat.zero_le _, Nat.zero_le _⟩
  | p :: l, h => by
    obtain ⟨h2, h3, h4⟩ := h p List.mem_cons_self
    obtain ⟨g1, g2, g3⟩ := ksL_ok l fun q hq => h q (List.mem_cons_of_mem _ hq)
    refine ⟨⟨h2, g1⟩, ?_, ?_⟩
    · simp only [ksL, dptK]; omega
    · simp only [ksL, fmK, List.length_cons, Nat.add_mul]; omega
/-! ### heads -/
def Hd1 (K : PySem.W.Frag) (H : Hp) (v : V) : Prop := ∃ (t : Addr) (n : Str) (m : Int), v = .ref t ∧ SqT K H t [.str n, .int m] ∧ Nm n ∧ 0 ≤ m ∧ m ≤ 3
structure Hds (K : PySem.W.Frag) (H : Hp) (hd dk lf : Addr) : Prop where
  ex : ∃ vs : List V, H hd = some (.lst vs) ∧ vs.length ≤ 10 ∧ ∀ v ∈ vs, Hd1 K H v
  n1 : hd ≠ dk
  n2 : hd ≠ lf
theorem Hds.to {K : PySem.W.Frag} {H H' : Hp} {hd dk cl lf : Addr} (h : Hds K H hd dk lf) (D : Dk H dk cl lf) (k : KD dk lf H H') : Hds K H' hd dk lf := by
  obtain ⟨⟨vs, e, l, a⟩, n1, n2⟩ := h
  refine ⟨⟨vs, k _ _ n1 n2 e, l, fun v hv => ?_⟩, n1, n2⟩
  obtain ⟨t, n, m, r1, r2, r3⟩ := a v hv
  exact ⟨t, n, m, r1, (D.ts k) _ _ r2, r3⟩
theorem hds_data {K : PySem.W.Frag} {H : Hp} : ∀ {vs : List V}, (∀ v ∈ vs, Hd1 K H v) → ∃ ds, DpAll K H vs ds ∧ PyData.canLayAll0 ds = true
  | [], _ => ⟨[], .nil, rfl⟩
  | v :: vs, h => by
    obtain ⟨t, n, m, e, ht, hn, _⟩ := h v List.mem_cons_self
    obtain ⟨ds, g1, g2⟩ := hds_data fun u hu => h u (List.mem_cons_of_mem _ hu)
    subst e
    refine ⟨_ :: ds, .cons (.tup ht (.cons (.str n) (.cons (.int m) .nil))) g1, ?_⟩
    simp only [PyData.canLayAll0, PyData.canLay0, g2, nm_ok hn, Bool.and_self]
section
variable {P : Program} {w : World} {K : PySem.W.Frag} {mg : Str → Option Value} {base : Heap}
def rLen (K : PySem.W.Frag) : List V → Hp → VK → Prop := fun xs H Q => ∃ p ys, xs = [.ref p] ∧ (SqL K H p ys ∨ SqT K H p ys) ∧ Q (.int (ys.length : Nat)) H
def KdQ (K : PySem.W.Frag) (dk cl lf : Addr) (n : Nat) (room : Int) (H : Hp) (R : VK) : Prop := ∀ (v : V) (k : Kd) (H' : Hp), Dk H' dk cl lf → KD dk lf H H' → Dp K H' v (toD k) → good k → dpt k ≤ n → (fm k : Int) ≤ max 1 room → R v H'
theorem KdQ.to {dk cl lf : Addr} {n : Nat} {room : Int} {H H1 : Hp} {R : VK} (h : KdQ K dk cl lf n room H R) (k : KD dk lf H H1) : KdQ K dk cl lf n room H1 R := fun v kd H' a b => h v kd H' a (k.trans b)
def spK (K : PySem.W.Frag) : Nat → Sp
  | 0 => fun _ _ _ _ => False
  | n + 1 => fun vs H Q _ => ∃ (dk cl lf hd ho : Addr) (deep room : Int) (hs : List Str), vs = [.ref dk, .ref hd, .ref ho, .int deep, .int room] ∧ Dk H dk cl lf ∧ Hds K H hd dk lf ∧ SqT K H ho (hs.map V.str) ∧ (∀ h ∈ hs, Nm h) ∧ hs.length ≤ 100 ∧ deep ≤ (n + 1 : Nat) ∧ room ≤ 1000 ∧ KdQ K dk cl lf (n + 1) room H Q
theorem ok_kind {f : Addr} {fd : FuncData} (F : Fun K "_law_kind" "_law_kind" sKind f fd) (gK : mg "_law_kind" = some (.ref f)) (bK : Binds K fd psKd []) (CP : Cal P w K mg base "_law_pick" ["_law_deck_here", "_law_many"] 1 spPick)
    (CF : Cal P w K mg base "_law_leaf" ["_law_deck_here", "_law_holes"] 2 (spLeaf K)) (CN : Cal P w K mg base "_law_names" ["_law_deck_here", "_law_many"] 3 spNames)
    (ml : mg "len" = none) (mint : mg "int" = none) (mn : mg "min" = none) (mt : mg "tuple" = none) (mr : mg "range" = none) : ∀ n : Nat, FnOk P w K mg base CX0 (n + 3) f fd psKd (spK K n) := by
  obtain ⟨fP, fdP, GP, gP, kP, bP⟩ := CP.ex
  obtain ⟨fF, fdF, GF, gF, kF, bF⟩ := CF.ex
  obtain ⟨fN, fdN, GN, gN, kN, bN⟩ := CN.ex
  intro n
  induction n with
  | zero => exact F.ok scKd (fun vs H Q E h => h.elim) (fun cdv A outer s H vs Q E hr h => h.elim)
  | succ n ih =>
    refine F.ok scKd (fun vs H Q E h => ?_) (fun cdv A outer s H vs Q E hr h => ?_)
    · obtain ⟨dk, cl, lf, hd, ho, deep, room, hs, rfl, _⟩ := h
      rfl
    · obtain ⟨dk, cl, lf, hd, ho, deep, room, hs, rfl, D0, hhd, hho, hnm, hlen, hdeep, hroom, q⟩ := h
      have hr1 : Room 1 (A.deeper (envOfC "_law_kind" (defScope sKind) s.heap.objs.size f cdv)) := hr.mono (by omega)
      have hr2 : Room 2 (A.deeper (envOfC "_law_kind" (defScope sKind) s.heap.objs.size f cdv)) := hr.mono (by omega)
      have hr3 : Room 3 (A.deeper (envOfC "_law_kind" (defScope sKind) s.heap.objs.size f cdv)) := hr.mono (by omega)
      refine ⟨_, pss_cons (ps_set (i := 5) scKd.nd rfl (.inl rfl) (pe_call GP hr1 (by rfl) gP kP bP .nil pass0 (pa_cons (pv 0) (pa_cons pe_int pa_nil))))
        (pss_cons (ps_if (PW.pt (pw_or (pt_cmpR op_lt (pv 3) pe_int (nomark _)) (pw_or (pt_cmpR op_lt (pv 4) pe_int (nomark _)) (pw_or1 (pt_cmpR op_eq (pv 5) pe_int (nomark _)))))) (pss_one (ps_ret (pe_call GF hr2 (by rfl) gF kF bF .nil pass0 (pa_cons (pv 0) (pa_cons (pv 2) pa_nil))))) pss_nil)
        (pss_cons (ps_if (pt_cmpR op_lt (pv 5) pe_int (nomark _))
          (pss_cons (ps_set (i := 6) scKd.nd rfl (.inl rfl) (pe_callTy call_int1 (by rfl) mint (by decide +kernel) (pa_cons (pe_cmpR op_gt (pv 5) pe_int (nomark _)) pa_nil)))
          (pss_cons (ps_set (i := 7) scKd.nd rfl (.inr rfl) (pe_op op_add (pv 6) (pe_call GP hr1 (by rfl) gP kP bP .nil pass0 (pa_cons (pv 0) (pa_cons (pe_ix ix_list (pe_lst (pa_cons pe_int (pa_cons pe_int (pa_cons pe_int (pa_cons (pe_op op_sub pe_int (pv 6)) pa_nil))))) (pe_call GP hr1 (by rfl) gP kP bP .nil pass0 (pa_cons (pv 0) (pa_cons pe_int pa_nil))) (fun _ _ => rfl)) pa_nil)))))
          (pss_cons (ps_set (i := 8) scKd.nd rfl (.inr rfl) (pe_call GN hr3 (by rfl) gN kN bN .nil pass0 (pa_cons (pv 0) (pa_cons (pe_callB (call_min2 rfl) (by rfl) mn (by decide +kernel) (pa_cons (pv 7) (pa_cons (pe_op op_sub (pv 4) pe_int) pa_nil))) pa_nil))))
          (pss_cons (ps_setLc (i := 10) (own := [("_law_name", 9)]) (g := gName 9) (tt := tYes) rfl scKd.nd rfl rfl (sw_true rfl rfl rfl (by decide +kernel)) (pi_list (pv 8)) (blkOk_by (N := nmKd) (sc := defScope sKind) (by decide +kernel)) (fun _ _ _ _ _ => pg_name (i := 9) scKd.nd rfl (Or.inl rfl)) (fun _ _ _ _ _ => pts_nil)
            (fun _ _ _ _ _ => pe_tup (pa_cons (pv 9) (pa_cons (pe_call ih hr (by rfl) gK F.kp bK .nil pass0 (pa_cons (pv 0) (pa_cons (pv 1) (pa_cons (pv 2) (pa_cons (pe_op op_sub (pv 3) pe_int) (pa_cons (pe_op op_fdiv (pe_op op_sub (pv 4) pe_int) (pe_callB (show CallR _ (.builtin "len") (rLen K) from call_len_seq) (by rfl) ml PySem.boot_len (pa_cons (pv 8) pa_nil))) pa_nil)))))) pa_nil))))
          (pss_one (ps_ret (pe_tup (pa_cons (pe_ix ix_list (pe_lst (pa_cons pe_str (pa_cons pe_str pa_nil))) (pv 6) (fun _ _ => rfl)) (pa_cons (pe_callTy call_tuple_of (by rfl) mt (by decide +kernel) (pa_cons (pv 10) pa_nil)) pa_nil))))))))) pss_nil)
        (pss_cons (ps_if (pt_cmpR op_eq (pv 5) pe_int (nomark _))
          (pss_cons (ps_set (i := 7) scKd.nd rfl (.inr rfl) (pe_op op_add pe_int (pe_call GP hr1 (by rfl) gP kP bP .nil pass0 (pa_cons (pv 0) (pa_cons (pe_ix ix_list (pe_lst (pa_cons pe_int (pa_cons pe_int pa_nil))) (pe_call GP hr1 (by rfl) gP kP bP .nil pass0 (pa_cons (pv 0) (pa_cons pe_int pa_nil))) (fun _ _ => rfl)) pa_nil)))))
          (pss_one (ps_ret (pe_tup (pa_cons pe_str (pa_cons (pv 7) (pa_cons (pe_call ih hr (by rfl) gK F.kp bK .nil pass0 (pa_cons (pv 0) (pa_cons (pv 1) (pa_cons (pv 2) (pa_cons (pe_op op_sub (pv 3) pe_int) (pa_cons (pe_op op_sub (pv 4) pe_int) pa_nil)))))) pa_nil))))))) pss_nil)
        (pss_cons (ps_if (PW.pt (pw_or (pt_cmpR op_lt (pv 5) pe_int (nomark _)) (pw_or1 (pt_cmpR (op_eqM hr.units) (pv 1) (pe_lst pa_nil) (nomark _)))))
          (pss_one (ps_ret (pe_tup (pa_cons (pe_ix ix_list (pe_lst (pa_cons pe_str (pa_cons pe_str pa_nil))) (pe_op op_mod (pv 5) pe_int) (fun _ _ => rfl)) (pa_cons (pe_call ih hr (by rfl) gK F.kp bK .nil pass0 (pa_cons (pv 0) (pa_cons (pv 1) (pa_cons (pv 2) (pa_cons (pe_op op_sub (pv 3) pe_int) (pa_cons (pe_op op_sub (pv 4) pe_int) pa_nil)))))) pa_nil))))) pss_nil)
        (pss_cons (ps_asg (pe_ix ix_list (pv 1) (pe_call GP hr1 (by rfl) gP kP bP .nil pass0 (pa_cons (pv 0) (pa_cons (pe_callB call_len_seq (by rfl) ml PySem.boot_len (pa_cons (pv 1) pa_nil)) pa_nil))) (fun _ _ => rfl)) (pg_tup (by rfl) (pgs_cons (pg_name (i := 9) scKd.nd rfl (.inl rfl)) (pgs_cons (pg_name (i := 7) scKd.nd rfl (.inr rfl)) pgs_nil))))
        (pss_cons (ps_if (pt_cmpR op_gt (pv 7) (pe_op op_sub (pv 4) pe_int) (nomark _)) (pss_one (ps_ret (pe_call GF hr2 (by rfl) gF kF bF .nil pass0 (pa_cons (pv 0) (pa_cons (pv 2) pa_nil))))) pss_nil)
        (pss_cons (ps_setLc (i := 11) (own := [("_law_k", 12)]) (g := gName 12) (tt := tYes) rfl scKd.nd rfl rfl (sw_true rfl rfl rfl (by decide +kernel)) (pi_range1 (by rfl) mr (pa_cons (pv 7) pa_nil)) (blkOk_by (N := nmKd) (sc := defScope sKind) (by decide +kernel)) (fun _ _ _ _ _ => pg_name (i := 12) scKd.nd rfl (Or.inl rfl)) (fun _ _ _ _ _ => pts_nil)
            (fun _ _ _ _ _ => pe_call ih hr (by rfl) gK F.kp bK .nil pass0 (pa_cons (pv 0) (pa_cons (pv 1) (pa_cons (pv 2) (pa_cons (pe_op op_sub (pv 3) pe_int) (pa_cons (pe_op op_fdiv (pe_op op_sub (pv 4) pe_int) (pv 7)) pa_nil)))))))
        (pss_one (ps_ret (pe_tup (pa_cons pe_str (pa_cons (pv 9) (pa_cons (pe_callTy call_tuple_of (by rfl) mt (by decide +kernel) (pa_cons (pv 11) pa_nil)) pa_nil))))))))))))), ?_⟩
      refine ⟨.ref dk, rfl, dk, cl, lf, 11, rfl, D0, by decide, by decide +kernel, fun way H1 w0 w1 D1 k1 => ?_⟩
      have q1 := q.to k1
      have t1 : TS K H H1 := D0.ts k1
      have hhd1 := hhd.to D0 k1
      have hho1 := t1 _ _ hho
      have leafW : ∀ (D : Ends) (σ : L2.St) (H2 : Hp), D.rt = Q → σ[0]? = some (some (.ref dk)) → σ[2]? = some (some (.ref ho)) → Dk H2 dk cl lf → KD dk lf H1 H2 → tRet (tCall (spLeaf K) [] E0 (tCons (tVar 0) (tCons (tVar 2) tNil))) D σ H2 := fun D σ H2 hD h0 h2 D2 k2 => by
        refine ⟨.ref dk, h0, .ref ho, h2, dk, cl, lf, ho, hs, rfl, D2, (D1.ts k2) _ _ hho1, hnm, hlen, fun v k H' a b c d e f => ?_⟩
        rw [hD]
        exact q1 v k H' a (k2.trans b) c d (by omega) (by omega)
      refine ⟨.int deep, rfl, _, _, rfl, rfl, _, rfl, ite2 (fun _ => leafW _ _ _ rfl rfl rfl D1 KD.refl) (fun e1 => ?_)⟩
      replace e1 : 2 ≤ deep := Int.not_lt.mp fun z => e1 (decide_eq_true (p := deep < 2) z)
      refine ⟨.int room, rfl, _, _, rfl, rfl, _, rfl, ite2 (fun _ => leafW _ _ _ rfl rfl rfl D1 KD.refl) (fun e2 => ?_)⟩
      replace e2 : 2 ≤ room := Int.not_lt.mp fun z => e2 (decide_eq_true (p := room < 2) z)
      refine ⟨.int way, rfl, rfl, _, rfl, ite2 (fun _ => leafW _ _ _ rfl rfl rfl D1 KD.refl) (fun e3 => ?_)⟩
      cases n with
      | zero => omega
      | succ n =>
        refine ⟨.int way, rfl, _, _, rfl, rfl, _, rfl, ite2 (fun e4 => ?_) (fun e4 => ?_)⟩
        · -- a record or a variant
          obtain ⟨le, hle, hle2⟩ : ∃ le : Int, (if decide (2 < way) = true then (1 : Int) else 0) = le ∧ (le = 0 ∨ le = 1) := by
            by_cases z : decide (2 < way) = true
            · exact ⟨1, if_pos z, .inr rfl⟩
            · exact ⟨0, if_neg z, .inl rfl⟩
          refine ⟨.int way, rfl, _, _, rfl, rfl, .inr ⟨_, rfl, ?_⟩⟩
          rw [hle]
          refine ⟨.int le, rfl, .ref dk, rfl, .int le, rfl, _, _, rfl, rfl, (by show 4 ≤ sizeLine; decide), fun ll nll => ?_⟩
          have s2 : Same H1 (upd H1 ll (.lst [.int 4, .int 4, .int 4, .int (9 - le)])) := same_upd nll
          have c2 : (upd H1 ll (.lst [.int 4, .int 4, .int 4, .int (9 - le)])) ll = some (.lst [.int 4, .int 4, .int 4, .int (9 - le)]) := upd_same
          generalize hH2 : upd H1 ll (HO.lst [.int 4, .int 4, .int 4, .int (9 - le)]) = H2 at s2 c2 ⊢
          have nll' := D1.not nll
          refine ⟨.ref dk, rfl, dk, cl, lf, 4, rfl, D1.same s2, by decide, by decide +kernel, fun c H3 c0 c1 D3 k3 => ?_⟩
          obtain ⟨z, hz, hz1, hz2⟩ : ∃ z : Int, atI [V.int 4, V.int 4, V.int 4, V.int (9 - le)] c = some (.int z) ∧ 4 ≤ z ∧ z ≤ 9 := by
            rcases (show c = 0 ∨ c = 1 ∨ c = 2 ∨ c = 3 by omega) with e | e | e | e
            · subst e; exact ⟨4, rfl, by omega, by omega⟩
            · subst e; exact ⟨4, rfl, by omega, by omega⟩
            · subst e; exact ⟨4, rfl, by omega, by omega⟩
            · subst e; exact ⟨9 - le, rfl, by omega, by omega⟩
          refine ⟨ll, _, c, .int z, rfl, rfl, .inl (.inl (k3 _ _ nll'.1 nll'.2.2 c2)), hz, dk, cl, lf, z, rfl, D3, by omega, lg100 (by omega) (by omega), fun mm H4 mm0 mm1 D4 k4 => ?_⟩
          have k14 : KD dk lf H1 H4 := (KD.of_same s2).trans (k3.trans k4)
          refine ⟨_, _, rfl, rfl, ?_⟩
          obtain ⟨cc, hcc, hc1, hc2, hc3⟩ : ∃ cc : Int, (if room - 1 < le + mm then room - 1 else le + mm) = cc ∧ 0 ≤ cc ∧ cc ≤ 20 ∧ cc ≤ room - 1 := by
            by_cases z : room - 1 < le + mm
            · exact ⟨_, if_pos z, by omega, by omega, by omega⟩
            · exact ⟨_, if_neg z, by omega, by omega, by omega⟩
          refine ⟨.ref dk, rfl, .int (le + mm), rfl, .int room, rfl, _, _, rfl, rfl, _, _, rfl, ?_⟩
          rw [hcc]
          refine ⟨dk, cl, lf, cc, rfl, D4, hc1, hc2, fun p ns H5 hns hnl np hp D5 k5 => ?_⟩
          have npd := D4.not np
          have k15 := k14.trans k5
          have hlm : (ns.map V.str).length = ns.length := List.length_map ..
          -- the parts
          refine ⟨.ref p, rfl, p, rfl, ⟨_, .inl (.inl hp)⟩, fun Dd hDd => ?_⟩
          have nDd := D5.not hDd
          have npD : p ≠ Dd := ne_of_none hp hDd
          refine lc_list (xs := ns.map V.str) (fun i H' => ∃ (vs : List V) (l : List (Str × Kd)), vs.length = i ∧ l.length = i ∧ DpAll K H' vs (psD (psL l)) ∧ (∀ x ∈ l, Nm x.1 ∧ good x.2 ∧ dpt x.2 ≤ n + 1 ∧ fm x.2 ≤ ((room - 1) / (ns.length : Int)).toNat) ∧ H' Dd = some (.lst vs) ∧ Dk H' dk cl lf ∧ KD dk lf H5 H')
            ⟨[], [], rfl, rfl, .nil, (fun _ h => nomatch h), upd_same, D5.same (same_upd hDd), KD.of_same (same_upd hDd)⟩ (fun i H' _ hP => ?_) (fun i x H' hx hP => ?_) (fun H' hP => ?_)
          · obtain ⟨_, _, _, _, _, _, _, _, kH⟩ := hP
            exact .inl (.inl (kH _ _ npd.1 npd.2.2 hp))
          · obtain ⟨vs, l, ev, el, hv, hl, eD, DH, kH⟩ := hP
            have hi : i < ns.length := by
              have := (List.getElem?_eq_some_iff.mp hx).1
              omega
            obtain rfl : V.str ns[i] = x := by
              rw [List.getElem?_map, List.getElem?_eq_getElem hi] at hx
              exact Option.some.inj hx
            have hnn : Nm ns[i] := hns _ (List.getElem_mem hi)
            have hpl : plA (psD (psL l)) = true := (pl_P _ (psL_ok l hl).1).1
            have kk := k15.trans kH
            refine ⟨rfl, ?_⟩
            refine iteT (B := ∃ (vs : List V) (l : List (Str × Kd)), vs.length = i + 1 ∧ l.length = i + 1 ∧ DpAll K H' vs (psD (psL l)) ∧ (∀ x ∈ l, Nm x.1 ∧ good x.2 ∧ dpt x.2 ≤ n + 1 ∧ fm x.2 ≤ ((room - 1) / (ns.length : Int)).toNat) ∧ H' Dd = some (.lst vs) ∧ Dk H' dk cl lf ∧ KD dk lf H5 H') ?_
            have hq1 : 1 ≤ (room - 1) / (ns.length : Int) := Int.le_ediv_of_mul_le (by omega) (by omega)
            have hq2 : (room - 1) / (ns.length : Int) ≤ room - 1 := Int.ediv_le_self _ (by omega)
            refine ⟨.str ns[i], rfl, .ref dk, rfl, .ref hd, rfl, .ref ho, rfl, .int deep, rfl, _, _, rfl, rfl, .int room, rfl, _, _, rfl, rfl, .ref p, rfl, p, _, rfl, .inl (.inl (.inl (kH _ _ npd.1 npd.2.2 hp))), _, _, rfl, rfl, ⟨by rw [hlm]; omega, by rw [hlm]; omega⟩, ?_⟩
            rw [hlm]
            refine ⟨dk, cl, lf, hd, ho, _, _, hs, rfl, DH, hhd1.to D1 kk, (D1.ts kk) _ _ hho1, hnm, hlen, by omega, by omega, fun v k H6 D6 k6 hv6 gk hdk hfk => ?_⟩
            refine ⟨(by show 2 ≤ sizeLine; decide), fun t nt => ?_⟩
            have eD6 : H6 Dd = some (.lst vs) := k6 _ _ nDd.1 nDd.2.2 eD
            have ts6 : TS K H' H6 := DH.ts k6
            have s7 : Same H6 (upd H6 t (.tup [.str ns[i], v])) := same_upd nt
            have c7 : (upd H6 t (.tup [.str ns[i], v])) t = some (.tup [.str ns[i], v]) := upd_same
            generalize hH7 : upd H6 t (HO.tup [.str ns[i], v]) = H7 at s7 c7 ⊢
            have ts7 : TS K H6 H7 := ts_same s7
            have eD7 := s7 _ _ eD6
            have ts8 : TS K H7 (upd H7 Dd (.lst (vs ++ [.ref t]))) := ts_lst eD7
            refine ⟨_, eD7, ?_, vs ++ [.ref t], l ++ [(ns[i], k)], ?_, ?_, ?_, ?_, upd_same, (D6.same s7).upd nDd, ?_⟩
            · exact Nat.lt_of_le_of_lt (show vs.length ≤ 100 by omega) (by decide)
            · rw [List.length_append, ev]; rfl
            · rw [List.length_append, el]; rfl
            · rw [psD_snoc]
              refine dpAll_append (TS.dps (ts6.trans (ts7.trans ts8)) _ _ hpl hv) (.cons (.tup (ts8 _ _ (.inl (.inl c7))) (.cons (.str _) (.cons ?_ .nil))) .nil)
              exact (ts7.trans ts8).dp _ _ (pl_D k gk).1 hv6
            · intro x hx'
              rcases List.mem_append.mp hx' with z | z
              · exact hl x z
              · rw [List.mem_singleton.mp z]
                exact ⟨hnn, gk, hdk, by show fm k ≤ _; omega⟩
            · intro b o n1 n2 e
              rw [upd_ne (ne_of_none e hDd)]
              exact s7 _ _ (k6 b o n1 n2 (kH b o n1 n2 e))
          · obtain ⟨vs, l, ev, el, hv, hl, eD, DH, kH⟩ := hP
            obtain ⟨o1, o2, o3⟩ := psL_ok l hl
            rw [hlm] at ev el
            refine ⟨(by show 2 ≤ sizeLine; decide), fun l2 nl2 => ?_⟩
            have s8 : Same H' (upd H' l2 (.lst [.str (Str.ofString "record"), .str (Str.ofString "variant")])) := same_upd nl2
            have c8 : (upd H' l2 (.lst [.str (Str.ofString "record"), .str (Str.ofString "variant")])) l2 = some (.lst [.str (Str.ofString "record"), .str (Str.ofString "variant")]) := upd_same
            generalize hH8 : upd H' l2 (HO.lst [.str (Str.ofString "record"), .str (Str.ofString "variant")]) = H8 at s8 c8
            obtain ⟨vv, hvv⟩ : ∃ vv : Bool, atI [V.str (S "record"), V.str (S "variant")] le = some (.str (S (wP vv))) := by
              rcases hle2 with e | e
              · exact ⟨false, by rw [e]; rfl⟩
              · exact ⟨true, by rw [e]; rfl⟩
            refine ⟨.int le, rfl, l2, _, _, _, rfl, rfl, .inl (.inl c8), hvv, .ref Dd, rfl, Dd, _, rfl, .inl ⟨.inl (.inl (s8 _ _ eD)), fun tu ntu => ?_⟩⟩
            have s9 : Same H8 (upd H8 tu (.tup vs)) := same_upd ntu
            have c9 : (upd H8 tu (.tup vs)) tu = some (.tup vs) := upd_same
            generalize hH9 : upd H8 tu (HO.tup vs) = H9 at s9 c9 ⊢
            refine ⟨(by show 2 ≤ sizeLine; decide), fun t nt => ?_⟩
            have s10 : Same H9 (upd H9 t (.tup [.str (S (wP vv)), .ref tu])) := same_upd nt
            have sall := s8.trans (s9.trans s10)
            have hdp : DpAll K (upd H9 t (.tup [.str (S (wP vv)), .ref tu])) vs (psD (psL l)) := TS.dps (ts_same sall) _ _ (pl_P _ o1).1 hv
            refine q1 (.ref t) (.parts vv (psL l)) _ (DH.same sall) ((k15.trans kH).trans (KD.of_same sall)) (.tup (.inl (.inl upd_same)) (.cons (.str _) (.cons (.tup (.inl (.inl (s10 _ _ c9))) hdp) .nil))) o1 ?_ ?_
            · show dptP (psL l) + 1 ≤ _
              omega
            · show ((fmP (psL l) + 1 : Nat) : Int) ≤ _
              by_cases hz : ns.length = 0
              · rw [el, hz] at o3
                omega
              · have h3 : (ns.length : Int) * ((room - 1) / (ns.length : Int)) ≤ room - 1 := Int.mul_ediv_self_le (by omega)
                have h4 : 0 ≤ (room - 1) / (ns.length : Int) := Int.ediv_nonneg (by omega) (by omega)
                rw [el] at o3
                have h5 : ((ns.length * ((room - 1) / (ns.length : Int)).toNat : Nat) : Int) = (ns.length : Int) * ((room - 1) / (ns.length : Int)) := by
                  rw [Int.natCast_mul, Int.toNat_of_nonneg h4]
                omega
        · have e4' : 5 ≤ way := Int.not_lt.mp fun z => e4 (decide_eq_true (p := way < 5) z)
          refine ⟨.int way, rfl, rfl, _, rfl, ite2 (fun e5 => ?_) (fun e5 => ?_)⟩
          · -- a row
            refine ⟨.ref dk, rfl, (by show 2 ≤ sizeLine; decide), fun ll nll => ?_⟩
            have s2 : Same H1 (upd H1 ll (.lst [.int 4, .int 16])) := same_upd nll
            have c2 : (upd H1 ll (.lst [.int 4, .int 16])) ll = some (.lst [.int 4, .int 16]) := upd_same
            generalize hH2 : upd H1 ll (HO.lst [.int 4, .int 16]) = H2 at s2 c2 ⊢
            have nll' := D1.not nll
            refine ⟨.ref dk, rfl, dk, cl, lf, 2, rfl, D1.same s2, by decide, by decide +kernel, fun c H3 c0 c1 D3 k3 => ?_⟩
            obtain ⟨z, hz, hz1, hz2⟩ : ∃ z : Int, atI [V.int 4, V.int 16] c = some (.int z) ∧ 4 ≤ z ∧ z ≤ 16 := by
              rcases (show c = 0 ∨ c = 1 by omega) with e | e
              · subst e; exact ⟨4, rfl, by omega, by omega⟩
              · subst e; exact ⟨16, rfl, by omega, by omega⟩
            refine ⟨ll, _, c, .int z, rfl, rfl, .inl (.inl (k3 _ _ nll'.1 nll'.2.2 c2)), hz, dk, cl, lf, z, rfl, D3, by omega, lg100 (by omega) (by omega), fun mm H4 mm0 mm1 D4 k4 => ?_⟩
            have k14 : KD dk lf H1 H4 := (KD.of_same s2).trans (k3.trans k4)
            refine ⟨_, _, rfl, rfl, ?_⟩
            refine ⟨.int (1 + mm), rfl, .ref dk, rfl, .ref hd, rfl, .ref ho, rfl, .int deep, rfl, _, _, rfl, rfl, .int room, rfl, _, _, rfl, rfl, dk, cl, lf, hd, ho, _, _, hs, rfl, D4, hhd1.to D1 k14, (D1.ts k14) _ _ hho1, hnm, hlen, by omega, by omega, fun v k H6 D6 k6 hv6 gk hdk hfk => ?_⟩
            refine ⟨(by show 3 ≤ sizeLine; decide), fun t nt => ?_⟩
            refine q1 (.ref t) (.row (1 + mm) k) _ (D6.same (same_upd nt)) ((k14.trans k6).trans (KD.of_same (same_upd nt))) (.tup (.inl (.inl upd_same)) (.cons (.str _) (.cons (.int _) (.cons ((ts_new nt).dp _ _ (pl_D k gk).1 hv6) .nil)))) ⟨⟨by omega, by omega⟩, gk⟩ ?_ ?_
            · show dpt k + 1 ≤ _
              omega
            · show ((fm k + 1 : Nat) : Int) ≤ _
              omega
          · have one : ∀ (D : Ends) (σ : L2.St) (H2 : Hp), D.rt = Q → σ[0]? = some (some (.ref dk)) → σ[1]? = some (some (.ref hd)) → σ[2]? = some (some (.ref ho)) → σ[3]? = some (some (.int deep)) → σ[4]? = some (some (.int room)) → σ[5]? = some (some (.int way)) → Dk H2 dk cl lf → KD dk lf H1 H2 →
                tRet (tTup (tCons (tOp (rIxL K) (tLst (tCons (tC (.str (Str.ofString "maybe"))) (tCons (tC (.str (Str.ofString "box"))) tNil))) (tOp (rI (fun _ j => 0 < j) fun i j => .int (i % j)) (tVar 5) (tC (.int 2))))
                  (tCons (tCall (spK K (n + 1)) [] E0 (tCons (tVar 0) (tCons (tVar 1) (tCons (tVar 2) (tCons (tOp (rI0 fun i j => .int (i - j)) (tVar 3) (tC (.int 1))) (tCons (tOp (rI0 fun i j => .int (i - j)) (tVar 4) (tC (.int 1))) tNil)))))) tNil))) D σ H2 := fun D σ H2 hD h0 h1 h2 h3 h4 h5 D2 k2 => by
              refine ⟨(by show 2 ≤ sizeLine; decide), fun ll nll => ?_⟩
              have s3 : Same H2 (upd H2 ll (.lst [.str (Str.ofString "maybe"), .str (Str.ofString "box")])) := same_upd nll
              have c3 : (upd H2 ll (.lst [.str (Str.ofString "maybe"), .str (Str.ofString "box")])) ll = some (.lst [.str (Str.ofString "maybe"), .str (Str.ofString "box")]) := upd_same
              generalize hH3 : upd H2 ll (HO.lst [.str (Str.ofString "maybe"), .str (Str.ofString "box")]) = H3 at s3 c3
              obtain ⟨bb, hbb⟩ : ∃ bb : Bool, atI [V.str (S "maybe"), V.str (S "box")] (way % 2) = some (.str (S (wO bb))) := by
                rcases (show way % 2 = 0 ∨ way % 2 = 1 by omega) with e | e
                · exact ⟨false, by rw [e]; rfl⟩
                · exact ⟨true, by rw [e]; rfl⟩
              have k13 : KD dk lf H1 H3 := k2.trans (KD.of_same s3)
              refine ⟨.int way, h5, _, _, rfl, rfl, (by show (0 : Int) < 2; decide), ll, _, _, _, rfl, rfl, .inl (.inl c3), hbb, ?_⟩
              refine ⟨.ref dk, h0, .ref hd, h1, .ref ho, h2, .int deep, h3, _, _, rfl, rfl, .int room, h4, _, _, rfl, rfl, dk, cl, lf, hd, ho, _, _, hs, rfl, D2.same s3, hhd1.to D1 k13, (D1.ts k13) _ _ hho1, hnm, hlen, by omega, by omega, fun v k H6 D6 k6 hv6 gk hdk hfk => ?_⟩
              refine ⟨(by show 2 ≤ sizeLine; decide), fun t nt => ?_⟩
              rw [hD]
              refine q1 (.ref t) (.one bb k) _ (D6.same (same_upd nt)) ((k13.trans k6).trans (KD.of_same (same_upd nt))) (.tup (.inl (.inl upd_same)) (.cons (.str _) (.cons ((ts_new nt).dp _ _ (pl_D k gk).1 hv6) .nil))) gk ?_ ?_
              · show dpt k + 1 ≤ _
                omega
              · show ((fm k + 1 : Nat) : Int) ≤ _
                omega
            refine ⟨.int way, rfl, _, _, rfl, rfl, _, rfl, ite2 (fun _ => one _ _ _ rfl rfl rfl rfl rfl rfl rfl D1 KD.refl) (fun _ => ?_)⟩
            obtain ⟨⟨hvs, ehd, hhl, hh1⟩, nh1, nh2⟩ := id hhd1
            refine ⟨.ref hd, rfl, Nat.zero_le _, fun z nz => ?_⟩
            have sz1 : Same H1 (upd H1 z (.lst [])) := same_upd nz
            have cz : (upd H1 z (.lst [])) z = some (.lst []) := upd_same
            generalize hHz : upd H1 z (HO.lst []) = Hz at sz1 cz ⊢
            have kz : KD dk lf H1 Hz := KD.of_same sz1
            have Dz : Dk Hz dk cl lf := D1.same sz1
            have hhdz := hhd1.to D1 kz
            have hh1z : ∀ v ∈ hvs, Hd1 K Hz v := fun v hv => by
              obtain ⟨t, nn, m, r1, r2, r3⟩ := hh1 v hv
              exact ⟨t, nn, m, r1, (D1.ts kz) _ _ r2, r3⟩
            obtain ⟨dds, hdat, hcan⟩ := hds_data hh1z
            refine ⟨.list dds, .list [], .lst (.inl (.inl (sz1 _ _ ehd))) hdat, .lst (.inl (.inl cz)) .nil, hcan, rfl, ?_, _, rfl, ite2 (fun _ => one _ _ _ rfl rfl rfl rfl rfl rfl rfl Dz kz) (fun e6 => ?_)⟩
            · refine Nat.le_trans (Nat.min_le_right _ _) ?_
              decide
            rw [eqv_nil, ← dpAll_emp hdat] at e6
            have hne : 0 < hvs.length := by
              cases hvs with
              | nil => exact absurd rfl e6
              | cons _ _ => simp
            refine ⟨.ref hd, rfl, .ref dk, rfl, .ref hd, rfl, hd, _, rfl, .inl (.inl (.inl (sz1 _ _ ehd))), dk, cl, lf, _, rfl, Dz, by omega, lg100 (by omega) (by omega), fun g H2 g0 g1 D2 k2 => ?_⟩
            have hg : g.toNat < hvs.length := by omega
            have k12 := kz.trans k2
            obtain ⟨t, nn, m, et, ht, hnn, m0, m1⟩ := hh1 _ (List.getElem_mem hg)
            refine ⟨hd, _, g, hvs[g.toNat], rfl, rfl, .inl (.inl (k12 _ _ nh1 nh2 ehd)), atI_of2 (by omega) (List.getElem?_eq_getElem hg), ?_⟩
            refine ⟨t, [.str nn, .int m], et, (D1.ts k12) _ _ ht, rfl, .str nn, [.int m], rfl, .int m, [], rfl, rfl, ?_⟩
            refine ⟨.int m, rfl, .int room, rfl, _, _, rfl, rfl, _, _, rfl, rfl, _, rfl, ite2 (fun _ => leafW _ _ _ rfl rfl rfl D2 k12) (fun e7 => ?_)⟩
            replace e7 : m ≤ room - 1 := Int.not_lt.mp fun z => e7 (decide_eq_true (p := room - 1 < m) z)
            -- the fills
            refine ⟨.int m, rfl, m, rfl, by omega, by omega, fun Dd hDd => ?_⟩
            have nDd := D2.not hDd
            refine lc_range (lo := 0) (n := m.toNat) (fun i H' => ∃ (vs : List V) (l : List Kd), vs.length = i ∧ l.length = i ∧ DpAll K H' vs (ksD (ksL l)) ∧ (∀ x ∈ l, good x ∧ dpt x ≤ n + 1 ∧ fm x ≤ ((room - 1) / m).toNat) ∧ H' Dd = some (.lst vs) ∧ Dk H' dk cl lf ∧ KD dk lf H2 H')
              ⟨[], [], rfl, rfl, .nil, (fun _ h => nomatch h), upd_same, D2.same (same_upd hDd), KD.of_same (same_upd hDd)⟩ (fun i H' hi hP => ?_) (fun H' hP => ?_)
            · obtain ⟨vs, l, ev, el, hv, hl, eD, DH, kH⟩ := hP
              have hpl : plA (ksD (ksL l)) = true := (pl_K _ (ksL_ok l hl).1).1
              have kk := k12.trans kH
              refine ⟨rfl, ?_⟩
              refine iteT (B := ∃ (vs : List V) (l : List Kd), vs.length = i + 1 ∧ l.length = i + 1 ∧ DpAll K H' vs (ksD (ksL l)) ∧ (∀ x ∈ l, good x ∧ dpt x ≤ n + 1 ∧ fm x ≤ ((room - 1) / m).toNat) ∧ H' Dd = some (.lst vs) ∧ Dk H' dk cl lf ∧ KD dk lf H2 H') ?_
              have hq1 : 1 ≤ (room - 1) / m := Int.le_ediv_of_mul_le (by omega) (by omega)
              have hq2 : (room - 1) / m ≤ room - 1 := Int.ediv_le_self _ (by omega)
              refine ⟨.ref dk, rfl, .ref hd, rfl, .ref ho, rfl, .int deep, rfl, _, _, rfl, rfl, .int room, rfl, _, _, rfl, rfl, .int m, rfl, _, _, rfl, rfl, ⟨by omega, by omega⟩, dk, cl, lf, hd, ho, _, _, hs, rfl, DH, hhd1.to D1 kk, (D1.ts kk) _ _ hho1, hnm, hlen, by omega, by omega, fun v k H6 D6 k6 hv6 gk hdk hfk => ?_⟩
              have eD6 : H6 Dd = some (.lst vs) := k6 _ _ nDd.1 nDd.2.2 eD
              have ts6 : TS K H' H6 := DH.ts k6
              have ts8 : TS K H6 (upd H6 Dd (.lst (vs ++ [v]))) := ts_lst eD6
              refine ⟨_, eD6, ?_, vs ++ [v], l ++ [k], ?_, ?_, ?_, ?_, upd_same, D6.upd nDd, ?_⟩
              · exact Nat.lt_of_le_of_lt (show vs.length ≤ 100 by omega) (by decide)
              · rw [List.length_append, ev]; rfl
              · rw [List.length_append, el]; rfl
              · rw [ksD_snoc]
                exact dpAll_append (TS.dps (ts6.trans ts8) _ _ hpl hv) (.cons (ts8.dp _ _ (pl_D k gk).1 hv6) .nil)
              · intro x hx'
                rcases List.mem_append.mp hx' with z | z
                · exact hl x z
                · rw [List.mem_singleton.mp z]
                  exact ⟨gk, hdk, by omega⟩
              · intro b o n1 n2 e
                rw [upd_ne (ne_of_none e hDd)]
                exact k6 b o n1 n2 (kH b o n1 n2 e)
            · obtain ⟨vs, l, ev, el, hv, hl, eD, DH, kH⟩ := hP
              obtain ⟨o1, o2, o3⟩ := ksL_ok l hl
              refine ⟨.str nn, rfl, .ref Dd, rfl, Dd, _, rfl, .inl ⟨.inl (.inl eD), fun tu ntu => ?_⟩⟩
              have s9 : Same H' (upd H' tu (.tup vs)) := same_upd ntu
              have c9 : (upd H' tu (.tup vs)) tu = some (.tup vs) := upd_same
              generalize hH9 : upd H' tu (HO.tup vs) = H9 at s9 c9 ⊢
              refine ⟨(by show 3 ≤ sizeLine; decide), fun t' nt => ?_⟩
              have s10 : Same H9 (upd H9 t' (.tup [.str (S "use"), .str nn, .ref tu])) := same_upd nt
              have sall := s9.trans s10
              have hdp : DpAll K (upd H9 t' (.tup [.str (S "use"), .str nn, .ref tu])) vs (ksD (ksL l)) := TS.dps (ts_same sall) _ _ (pl_K _ o1).1 hv
              refine q1 (.ref t') (.use nn (ksL l)) _ (DH.same sall) ((k12.trans kH).trans (KD.of_same sall)) (.tup (.inl (.inl upd_same)) (.cons (.str _) (.cons (.str _) (.cons (.tup (.inl (.inl (s10 _ _ c9))) hdp) .nil)))) ⟨hnn, o1⟩ ?_ ?_
              · show dptK (ksL l) + 1 ≤ _
                omega
              · show ((fmK (ksL l) + 1 : Nat) : Int) ≤ _
                by_cases hz : m = 0
                · rw [el, hz] at o3
                  simp at o3
                  omega
                · have h3 : m * ((room - 1) / m) ≤ room - 1 := Int.mul_ediv_self_le (by omega)
                  have h4 : 0 ≤ (room - 1) / m := Int.ediv_nonneg (by omega) (by omega)
                  rw [el] at o3
                  have h5 : ((m.toNat * ((room - 1) / m).toNat : Nat) : Int) = m * ((room - 1) / m) := by
                    rw [Int.natCast_mul, Int.toNat_of_nonneg h4, Int.toNat_of_nonneg m0]
                  omega
end
end K2
namespace K2
open PySem PySem.Spec PyProof.Rows L2 K1
open TL (tl joinL)
/-! ### places in data -/
inductive At : PyData → List Nat → PyData → Prop
  | here (d : PyData) : At d [] d
  | step {ds : List PyData} {i : Nat} {c e : PyData} {p : List Nat} : ds[i]? = some c → At c p e → At (.tuple ds) (i :: p) e
inductive Put : PyData → List Nat → PyData → PyData → Prop
  | here (d e : PyData) : Put d [] e e
  | step {ds : List PyData} {i : Nat} {c e c' : PyData} {p : List Nat} : ds[i]? = some c → Put c p e c' → Put (.tuple ds) (i :: p) e (.tuple (ds.take i ++ [c'] ++ ds.drop (i + 1)))
theorem put_det : ∀ {d : PyData} {p : List Nat} {e d1 d2 : PyData}, Put d p e d1 → Put d p e d2 → d1 = d2
  | _, _, _, _, _, .here _ _, h => by cases h; rfl
  | _, _, _, _, _, .step g a, h => by
    cases h with
    | step g' a' =>
      obtain rfl := Option.some.inj (g.symm.trans g')
      rw [put_det a a']
theorem at_comp : ∀ {d : PyData} {p : List Nat} {c : PyData} {q : List Nat} {e : PyData}, At d p c → At c q e → At d (p ++ q) e
  | _, _, _, _, _, .here _, h => h
  | _, _, _, _, _, .step g a, h => .step g (at_comp a h)
theorem put_comp : ∀ {d : PyData} {p : List Nat} {c x d' : PyData} {q : List Nat} {e : PyData}, At d p c → Put c q e x → Put d p x d' → Put d (p ++ q) e d'
  | _, _, _, _, _, _, _, .here _, h, k => by cases k; exact h
  | _, _, _, _, _, _, _, .step g a, h, k => by
    cases k with
    | step g' a' =>
      obtain rfl := Option.some.inj (g.symm.trans g')
      exact .step g (put_comp a h a')
/-! ### kinds in kinds -/
structure Ctx (k : Kd) (p : List Nat) (c : Kd) (f : Kd → Kd) : Prop where
  at_ : At (toD k) p (toD c)
  put : ∀ e, Put (toD k) p (toD e) (toD (f e))
  gd : good k → ∀ e, good e → good (f e)
  gc : good k → good c
  fme : ∀ e, fm (f e) + fm c = fm k + fm e
  lv : ∃ l, l + dpt c ≤ dpt k ∧ p.length ≤ 3 * l ∧ ∀ e, dpt (f e) ≤ max (dpt k) (l + dpt e)
theorem Ctx.here (k : Kd) : Ctx k [] k id := ⟨.here _, fun e => .here _ _, fun _ e h => h, fun h => h, fun e => Nat.add_comm _ _, 0, by omega, by simp, fun e => by simp; omega⟩
theorem Ctx.comp {k c c' : Kd} {p q : List Nat} {f g : Kd → Kd} (a : Ctx k p c f) (b : Ctx c q c' g) : Ctx k (p ++ q) c' (f ∘ g) := by
  obtain ⟨l, l1, l2, l3⟩ := a.lv
  obtain ⟨m, m1, m2, m3⟩ := b.lv
  refine ⟨at_comp a.at_ b.at_, fun e => put_comp a.at_ (b.put e) (a.put (g e)), fun h e he => a.gd h _ (b.gd (a.gc h) e he), fun h => b.gc (a.gc h), fun e => ?_, l + m, by omega, by rw [List.length_append]; omega, fun e => ?_⟩
  · have h1 := a.fme (g e)
    have h2 := b.fme e
    show fm (f (g e)) + fm c' = _
    omega
  · have h1 := l3 (g e)
    have h2 := m3 e
    show dpt (f (g e)) ≤ _
    omega
def getP : Ps → Nat → Option (Str × Kd)
  | .nil, _ => none
  | .cons n k _, 0 => some (n, k)
  | .cons _ _ ps, i + 1 => getP ps i
def setP : Ps → Nat → Kd → Ps
  | .nil, _, _ => .nil
  | .cons n _ ps, 0, e => .cons n e ps
  | .cons n k ps, i + 1, e => .cons n k (setP ps i e)
def getK : Ks → Nat → Option Kd
  | .nil, _ => none
  | .cons k _, 0 => some k
  | .cons _ ps, i + 1 => getK ps i
def setK : Ks → Nat → Kd → Ks
  | .nil, _, _ => .nil
  | .cons _ ps, 0, e => .cons e ps
  | .cons k ps, i + 1, e => .cons k (setK ps i e)
theorem ps_ctx : ∀ (ps : Ps) (i : Nat) (n : Str) (c : Kd), getP ps i = some (n, c) → (psD ps)[i]? = some (.tuple [.str n, toD c]) ∧ (goodP ps → Nm n ∧ good c) ∧ dpt c ≤ dptP ps ∧ fm c ≤ fmP ps ∧
    ∀ e, psD (setP ps i e) = (psD ps).take i ++ [.tuple [.str n, toD e]] ++ (psD ps).drop (i + 1) ∧ (goodP ps → good e → goodP (setP ps i e)) ∧ fmP (setP ps i e) + fm c = fmP ps + fm e ∧ dptP (setP ps i e) ≤ max (dptP ps) (dpt e)
  | .nil, i, n, c, h => by simp [getP] at h
  | .cons n' k ps, 0, n, c, h => by
    simp only [getP, Option.some.injEq, Prod.mk.injEq] at h
    obtain ⟨rfl, rfl⟩ := h
    refine ⟨rfl, fun g => ⟨g.1, g.2.1⟩, by simp only [dptP]; omega, by simp only [fmP]; omega, fun e => ⟨by simp [setP, psD], fun g he => ⟨g.1, he, g.2.2⟩, ?_, ?_⟩⟩
    · simp only [setP, fmP]; omega
    · simp only [setP, dptP]; omega
  | .cons n' k ps, i + 1, n, c, h => by
    obtain ⟨a1, a2, a3, a4, a5⟩ := ps_ctx ps i n c (by simpa [getP] using h)
    refine ⟨by simpa [psD] using a1, fun g => a2 g.2.2, by simp only [dptP]; omega, by simp only [fmP]; omega, fun e => ?_⟩
    obtain ⟨b1, b2, b3, b4⟩ := a5 e
    refine ⟨by simp [setP, psD, b1], fun g he => ⟨g.1, g.2.1, b2 g.2.2 he⟩, ?_, ?_⟩
    · simp only [setP, fmP]; omega
    · simp only [setP, dptP]; omega
theorem ks_ctx : ∀ (ps : Ks) (i : Nat) (c : Kd), getK ps i = some c → (ksD ps)[i]? = some (toD c) ∧ (goodK ps → good c) ∧ dpt c ≤ dptK ps ∧ fm c ≤ fmK ps ∧
    ∀ e, ksD (setK ps i e) = (ksD ps).take i ++ [toD e] ++ (ksD ps).drop (i + 1) ∧ (goodK ps → good e → goodK (setK ps i e)) ∧ fmK (setK ps i e) + fm c = fmK ps + fm e ∧ dptK (setK ps i e) ≤ max (dptK ps) (dpt e)
  | .nil, i, c, h => by simp [getK] at h
  | .cons k ps, 0, c, h => by
    simp only [getK, Option.some.injEq] at h
    obtain rfl := h
    refine ⟨rfl, fun g => g.1, by simp only [dptK]; omega, by simp only [fmK]; omega, fun e => ⟨by simp [setK, ksD], fun g he => ⟨he, g.2⟩, ?_, ?_⟩⟩
    · simp only [setK, fmK]; omega
    · simp only [setK, dptK]; omega
  | .cons k ps, i + 1, c, h => by
    obtain ⟨a1, a2, a3, a4, a5⟩ := ks_ctx ps i c (by simpa [getK] using h)
    refine ⟨by simpa [ksD] using a1, fun g => a2 g.2, by simp only [dptK]; omega, by simp only [fmK]; omega, fun e => ?_⟩
    obtain ⟨b1, b2, b3, b4⟩ := a5 e
    refine ⟨by simp [setK, ksD, b1], fun g he => ⟨g.1, b2 g.2 he⟩, ?_, ?_⟩
    · simp only [setK, fmK]; omega
    · simp only [setK, dptK]; omega
theorem ctx_parts {v : Bool} {ps : Ps} {i : Nat} {n : Str} {c : Kd} (h : getP ps i = some (n, c)) : Ctx (.parts v ps) [1, i, 1] c (fun e => .parts v (setP ps i e)) := by
  obtain ⟨a1, a2, a3, a4, a5⟩ := ps_ctx ps i n c h
  refine ⟨.step rfl (.step a1 (.step rfl (.here _))), fun e => ?_, fun g e he => (a5 e).2.1 g he, fun g => (a2 g).2, fun e => ?_, 1, ?_, by simp, fun e => ?_⟩
  · have : toD (.parts v (setP ps i e)) = .tuple ([PyData.str (S (wP v)), .tuple (psD ps)].take 1 ++ [.tuple ((psD ps).take i ++ [.tuple ([PyData.str n, toD c].take 1 ++ [toD e] ++ [PyData.str n, toD c].drop 2)] ++ (psD ps).drop (i + 1))] ++ [PyData.str (S (wP v)), .tuple (psD ps)].drop 2) := by
      simp [toD, (a5 e).1]
    rw [this]
    exact .step rfl (.step a1 (.step rfl (.here _ _)))
  · have := (a5 e).2.2.1
    simp only [fm]; omega
  · simp only [dpt]; omega
  · have := (a5 e).2.2.2
    simp only [dpt]; omega
theorem ctx_use {n : Str} {fs : Ks} {i : Nat} {c : Kd} (h : getK fs i = some c) : Ctx (.use n fs) [2, i] c (fun e => .use n (setK fs i e)) := by
  obtain ⟨a1, a2, a3, a4, a5⟩ := ks_ctx fs i c h
  refine ⟨.step rfl (.step a1 (.here _)), fun e => ?_, fun g e he => ⟨g.1, (a5 e).2.1 g.2 he⟩, fun g => a2 g.2, fun e => ?_, 1, ?_, by simp, fun e => ?_⟩
  · have : toD (.use n (setK fs i e)) = .tuple ([PyData.str (S "use"), .str n, .tuple (ksD fs)].take 2 ++ [.tuple ((ksD fs).take i ++ [toD e] ++ (ksD fs).drop (i + 1))] ++ [PyData.str (S "use"), .str n, .tuple (ksD fs)].drop 3) := by
      simp [toD, (a5 e).1]
    rw [this]
    exact .step rfl (.step a1 (.here _ _))
  · have := (a5 e).2.2.1
    simp only [fm]; omega
  · simp only [dpt]; omega
  · have := (a5 e).2.2.2
    simp only [dpt]; omega
theorem ctx_row (m : Int) (c : Kd) : Ctx (.row m c) [2] c (fun e => .row m e) := by
  refine ⟨.step rfl (.here _), fun e => ?_, fun g e he => ⟨g.1, he⟩, fun g => g.2, fun e => by simp only [fm]; omega, 1, by simp only [dpt]; omega, by simp, fun e => by simp only [dpt]; omega⟩
  have : toD (.row m e) = .tuple ([PyData.str (S "row"), .int m, toD c].take 2 ++ [toD e] ++ [PyData.str (S "row"), .int m, toD c].drop 3) := by simp [toD]
  rw [this]
  exact .step rfl (.here _ _)
theorem ctx_one (b : Bool) (c : Kd) : Ctx (.one b c) [1] c (fun e => .one b e) := by
  refine ⟨.step rfl (.here _), fun e => ?_, fun g e he => he, fun g => g, fun e => by simp only [fm]; omega, 1, by simp only [dpt]; omega, by simp, fun e => by simp only [dpt]; omega⟩
  have : toD (.one b e) = .tuple ([PyData.str (S (wO b)), toD c].take 1 ++ [toD e] ++ [PyData.str (S (wO b)), toD c].drop 2) := by simp [toD]
  rw [this]
  exact .step rfl (.here _ _)
/-! ### entries: a place and the kind there -/
def nints (p : List Nat) : List V := p.map fun n : Nat => V.int (n : Int)
def En (K : PySem.W.Frag) (k0 : Kd) (H : Hp) (v : V) (q : List Nat × Kd) : Prop := ∃ t a x, v = .ref t ∧ SqT K H t [.ref a, x] ∧ SqT K H a (nints q.1) ∧ Dp K H x (toD q.2) ∧ good q.2 ∧ ∃ f, Ctx k0 q.1 q.2 f
abbrev EnA (K : PySem.W.Frag) (k0 : Kd) (H : Hp) : List V → List (List Nat × Kd) → Prop := Paired (En K k0 H)
theorem En.ts {K : PySem.W.Frag} {H H1 : Hp} {k0 : Kd} {v : V} {q : List Nat × Kd} (s : TS K H H1) (h : En K k0 H v q) : En K k0 H1 v q := by
  obtain ⟨t, a, x, e, ht, ha, hx, p1, p2⟩ := h
  exact ⟨t, a, x, e, s _ _ ht, s _ _ ha, s.dp _ _ (pl_D _ p1).1 hx, p1, p2⟩
theorem EnA.ts {K : PySem.W.Frag} {H H1 : Hp} {k0 : Kd} {vs : List V} {qs : List (List Nat × Kd)} (s : TS K H H1) (h : EnA K k0 H vs qs) : EnA K k0 H1 vs qs := Paired.mapP h fun _ _ z => z.ts s
def fmE : List (List Nat × Kd) → Nat
  | [] => 0
  | q :: qs => fm q.2 + fmE qs
theorem fmE_append : ∀ xs ys, fmE (xs ++ ys) = fmE xs + fmE ys
  | [], ys => by simp [fmE]
  | x :: xs, ys => by simp only [List.cons_append, fmE, fmE_append xs ys]; omega
theorem fmE_rev : ∀ xs, fmE xs.reverse = fmE xs
  | [] => rfl
  | x :: xs => by simp only [List.reverse_cons, fmE_append, fmE, fmE_rev xs]; omega
theorem len_fmE : ∀ qs : List (List Nat × Kd), qs.length ≤ fmE qs
  | [] => Nat.le_refl _
  | q :: qs => by
    have h1 := fm_pos q.2
    have h2 := len_fmE qs
    simp only [List.length_cons, fmE]
    omega
def entP : Nat → Ps → List (List Nat × Kd)
  | _, .nil => []
  | i, .cons _ k ps => ([1, i, 1], k) :: entP (i + 1) ps
def entK : Nat → Ks → List (List Nat × Kd)
  | _, .nil => []
  | i, .cons k ks => ([2, i], k) :: entK (i + 1) ks
theorem entP_fm : ∀ (ps : Ps) (i : Nat), fmE (entP i ps) = fmP ps
  | .nil, _ => rfl
  | .cons _ k ps, i => by simp only [entP, fmE, fmP, entP_fm ps (i + 1)]
theorem entK_fm : ∀ (ps : Ks) (i : Nat), fmE (entK i ps) = fmK ps
  | .nil, _ => rfl
  | .cons k ps, i => by simp only [entK, fmE, fmK, entK_fm ps (i + 1)]
theorem entP_get : ∀ (ps : Ps) (j i : Nat) (n : Str) (c : Kd), getP ps i = some (n, c) → (entP j ps)[i]? = some ([1, j + i, 1], c)
  | .nil, _, _, _, _, h => by simp [getP] at h
  | .cons n' k ps, j, 0, n, c, h => by
    simp only [getP, Option.some.injEq, Prod.mk.injEq] at h
    simp [entP, h.2]
  | .cons n' k ps, j, i + 1, n, c, h => by
    have := entP_get ps (j + 1) i n c (by simpa [getP] using h)
    simp only [entP, List.getElem?_cons_succ, this]
    rw [show j + 1 + i = j + (i + 1) by omega]
theorem entK_get : ∀ (ps : Ks) (j i : Nat) (c : Kd), getK ps i = some c → (entK j ps)[i]? = some ([2, j + i], c)
  | .nil, _, _, _, h => by simp [getK] at h
  | .cons k ps, j, 0, c, h => by
    simp only [getK, Option.some.injEq] at h
    simp [entK, h]
  | .cons k ps, j, i + 1, c, h => by
    have := entK_get ps (j + 1) i c (by simpa [getK] using h)
    simp only [entK, List.getElem?_cons_succ, this]
    rw [show j + 1 + i = j + (i + 1) by omega]
theorem getP_lt : ∀ (ps : Ps) (i : Nat), i < (psD ps).length → ∃ n c, getP ps i = some (n, c)
  | .nil, i, h => by simp [psD] at h
  | .cons n k ps, 0, _ => ⟨n, k, rfl⟩
  | .cons n k ps, i + 1, h => getP_lt ps i (by simpa [psD] using h)
theorem getK_lt : ∀ (ps : Ks) (i : Nat), i < (ksD ps).length → ∃ c, getK ps i = some c
  | .nil, i, h => by simp [ksD] at h
  | .cons k ps, 0, _ => ⟨k, rfl⟩
  | .cons k ps, i + 1, h => getK_lt ps i (by simpa [ksD] using h)
theorem entP_len : ∀ (ps : Ps) (i : Nat), (entP i ps).length = (psD ps).length
  | .nil, _ => rfl
  | .cons _ k ps, i => by simp [entP, psD, entP_len ps (i + 1)]
theorem entK_len : ∀ (ps : Ks) (i : Nat), (entK i ps).length = (ksD ps).length
  | .nil, _ => rfl
  | .cons k ps, i => by simp [entK, ksD, entK_len ps (i + 1)]
end K2
namespace K2
open PySem PySem.Spec PyProof.Rows L2 K1
open TL (tl joinL)
abbrev sInner : Stmt := topS 11
abbrev nmIn : List Str := ["_law_kind_here", "_law_word", "_law_k"]
theorem scIn : FnScope nmIn ["_law_kind_here"] (defScope sInner) := ⟨rfl, rfl, rfl, by decide +kernel, rfl, by decide +kernel, by decide +kernel⟩
section
variable {P : Program} {w : World} {K : PySem.W.Frag} {mg : Str → Option Value} {base : Heap}
def spInner (K : PySem.W.Frag) : Sp := fun vs H Q _ => ∃ (v : V) (k : Kd), vs = [v] ∧ Dp K H v (toD k) ∧ good k ∧ fm k ≤ 1000 ∧
  ∀ (p : Addr) (H' : Hp) (ws : List V) (es : List (List Nat × Kd)), Same H H' → H p = none → H' p = some (.lst ws) → EnA K k H' ws es → fmE es + 1 ≤ fm k → Q (.ref p) H'
theorem ok_inner {f : Addr} {fd : FuncData} {k : Nat} (F : Fun K "_law_inner" "_law_inner" sInner f fd) (ml : mg "len" = none) (mr : mg "range" = none) : FnOk P w K mg base CX0 (k + 1) f fd ["_law_kind_here"] (spInner K) := by
  refine F.ok scIn (fun vs H Q E h => ?_) (fun cdv A outer s H vs Q E hr h => ?_)
  · obtain ⟨v, k, rfl, _⟩ := h
    rfl
  · obtain ⟨v, k, rfl, hv, g, hfm, q⟩ := h
    refine ⟨_, pss_cons (ps_set (i := 1) scIn.nd rfl (.inl rfl) (pe_ix ix_tup (pv 0) pe_int (fun _ _ => rfl)))
      (pss_cons (ps_if (PW.pt (pw_or (pt_cmpR op_eq (pv 1) pe_str (nomark _)) (pw_or1 (pt_cmpR op_eq (pv 1) pe_str (nomark _))))) (pss_one (ps_ret
        (pe_lc (own := [("_law_k", 2)]) (g := gName 2) (tt := tYes) rfl scIn.nd (pi_range1 (by rfl) mr (pa_cons (pe_callB call_len_seq (by rfl) ml PySem.boot_len (pa_cons (pe_ix ix_tup (pv 0) pe_int (fun _ _ => rfl)) pa_nil)) pa_nil)) (blkOk_by (N := nmIn) (sc := defScope sInner) (by decide +kernel)) (fun _ _ _ _ _ => pg_name (i := 2) scIn.nd rfl (Or.inl rfl)) (fun _ _ _ _ _ => pts_nil)
          (fun _ _ _ _ _ => pe_tup (pa_cons (pe_tup (pa_cons pe_int (pa_cons (pv 2) (pa_cons pe_int pa_nil)))) (pa_cons (pe_ix (show IxR _ (rIxT K) from ix_tup) (pe_ix (show IxR _ (rIxT K) from ix_tup) (pe_ix (show IxR _ (rIxT K) from ix_tup) (pv 0) pe_int (fun _ _ => rfl)) (pv 2) (fun _ _ => rfl)) pe_int (fun _ _ => rfl)) pa_nil)))))) pss_nil)
      (pss_cons (ps_if (pt_cmpR op_eq (pv 1) pe_str (nomark _)) (pss_one (ps_ret (pe_lst (pa_cons (pe_tup (pa_cons (pe_tup (pa_cons pe_int pa_nil)) (pa_cons (pe_ix ix_tup (pv 0) pe_int (fun _ _ => rfl)) pa_nil))) pa_nil)))) pss_nil)
      (pss_cons (ps_if (PW.pt (pw_or (pt_cmpR op_eq (pv 1) pe_str (nomark _)) (pw_or1 (pt_cmpR op_eq (pv 1) pe_str (nomark _))))) (pss_one (ps_ret (pe_lst (pa_cons (pe_tup (pa_cons (pe_tup (pa_cons pe_int pa_nil)) (pa_cons (pe_ix ix_tup (pv 0) pe_int (fun _ _ => rfl)) pa_nil))) pa_nil)))) pss_nil)
      (pss_cons (ps_if (pt_cmpR op_eq (pv 1) pe_str (nomark _)) (pss_one (ps_ret
        (pe_lc (own := [("_law_k", 2)]) (g := gName 2) (tt := tYes) rfl scIn.nd (pi_range1 (by rfl) mr (pa_cons (pe_callB call_len_seq (by rfl) ml PySem.boot_len (pa_cons (pe_ix ix_tup (pv 0) pe_int (fun _ _ => rfl)) pa_nil)) pa_nil)) (blkOk_by (N := nmIn) (sc := defScope sInner) (by decide +kernel)) (fun _ _ _ _ _ => pg_name (i := 2) scIn.nd rfl (Or.inl rfl)) (fun _ _ _ _ _ => pts_nil)
          (fun _ _ _ _ _ => pe_tup (pa_cons (pe_tup (pa_cons pe_int (pa_cons (pv 2) pa_nil))) (pa_cons (pe_ix (show IxR _ (rIxT K) from ix_tup) (pe_ix (show IxR _ (rIxT K) from ix_tup) (pv 0) pe_int (fun _ _ => rfl)) (pv 2) (fun _ _ => rfl)) pa_nil)))))) pss_nil)
      (pss_one (ps_ret (pe_lst pa_nil))))))), ?_⟩
    obtain ⟨a, ws, rfl, hs, ha⟩ := dk hv
    refine ⟨.ref a, rfl, a, _, 0, .str (S (wd k)), rfl, rfl, hs, atI_nat (j := 0) rfl, ?_⟩
    have leaf : ∀ D : Ends, D.rt = Q → tRet (tLst tNil) D [some (.ref a), some (.str (S (wd k))), none] H := fun D hD => by
      refine ⟨Nat.zero_le _, fun p np => ?_⟩
      rw [hD]
      exact q p _ [] [] (same_upd np) np upd_same .nil (by have := fm_pos k; simp only [fmE]; omega)
    have single : ∀ (D : Ends) (c : Kd) (u : V) (j i : Nat) (ff : Kd → Kd), D.rt = Q → Dp K H u (toD c) → good c → (V.str (S (wd k)) :: ws)[j]? = some u → Ctx k [j] c ff → fm c + 1 ≤ fm k →
        tRet (tLst (tCons (tTup (tCons (tTup (tCons (tC (.int (j : Int))) tNil)) (tCons (tOp (rIxT K) (tVar 0) (tC (.int (j : Int)))) tNil))) tNil)) D [some (.ref a), some (.str (S (wd k))), none] H := fun D c u j i ff hD hu gc gj hc hf => by
      refine ⟨(by show 1 ≤ sizeLine; decide), fun o no => ?_⟩
      have s6 : Same H (upd H o (.tup [V.int (j : Int)])) := same_upd no
      have c6 : (upd H o (HO.tup [V.int (j : Int)])) o = some (.tup [V.int (j : Int)]) := upd_same
      generalize hH6 : upd H o (HO.tup [V.int (j : Int)]) = H6 at s6 c6
      refine ⟨.ref a, rfl, a, _, _, u, rfl, rfl, ts_same s6 _ _ hs, atI_nat gj, (by show 2 ≤ sizeLine; decide), fun t nt => ?_⟩
      have s7 : Same H6 (upd H6 t (.tup [.ref o, u])) := same_upd nt
      have c7 : (upd H6 t (HO.tup [.ref o, u])) t = some (.tup [.ref o, u]) := upd_same
      generalize hH7 : upd H6 t (HO.tup [.ref o, u]) = H7 at s7 c7
      refine ⟨(by show 1 ≤ sizeLine; decide), fun p np => ?_⟩
      rw [hD]
      have s8 : Same H7 (upd H7 p (.lst [.ref t])) := same_upd np
      refine q p _ [.ref t] [([j], c)] (s6.trans (s7.trans s8)) ((s6.trans s7).free np) upd_same (.cons ⟨t, o, u, rfl, .inl (.inl (s8 _ _ c7)), .inl (.inl (s8 _ _ (s7 _ _ c6))), (ts_same (s6.trans (s7.trans s8))).dp _ _ (pl_D c gc).1 hu, gc, ff, hc⟩ .nil) ?_
      simp only [fmE]; omega
    cases k with
    | num i b =>
      cases i with
      | false => exact ⟨_, rfl, rfl, _, rfl, tF (show S "nat" ≠ S "record" by decide +kernel) ⟨_, rfl, rfl, _, rfl, tF (show S "nat" ≠ S "variant" by decide +kernel) ⟨_, rfl, rfl, _, rfl, tF (show S "nat" ≠ S "row" by decide +kernel) ⟨_, rfl, rfl, _, rfl, tF (show S "nat" ≠ S "maybe" by decide +kernel) ⟨_, rfl, rfl, _, rfl, tF (show S "nat" ≠ S "box" by decide +kernel) ⟨_, rfl, rfl, _, rfl, tF (show S "nat" ≠ S "use" by decide +kernel) (leaf _ rfl)⟩⟩⟩⟩⟩⟩
      | true => exact ⟨_, rfl, rfl, _, rfl, tF (show S "int" ≠ S "record" by decide +kernel) ⟨_, rfl, rfl, _, rfl, tF (show S "int" ≠ S "variant" by decide +kernel) ⟨_, rfl, rfl, _, rfl, tF (show S "int" ≠ S "row" by decide +kernel) ⟨_, rfl, rfl, _, rfl, tF (show S "int" ≠ S "maybe" by decide +kernel) ⟨_, rfl, rfl, _, rfl, tF (show S "int" ≠ S "box" by decide +kernel) ⟨_, rfl, rfl, _, rfl, tF (show S "int" ≠ S "use" by decide +kernel) (leaf _ rfl)⟩⟩⟩⟩⟩⟩
    | truth => exact ⟨_, rfl, rfl, _, rfl, tF (show S "truth" ≠ S "record" by decide +kernel) ⟨_, rfl, rfl, _, rfl, tF (show S "truth" ≠ S "variant" by decide +kernel) ⟨_, rfl, rfl, _, rfl, tF (show S "truth" ≠ S "row" by decide +kernel) ⟨_, rfl, rfl, _, rfl, tF (show S "truth" ≠ S "maybe" by decide +kernel) ⟨_, rfl, rfl, _, rfl, tF (show S "truth" ≠ S "box" by decide +kernel) ⟨_, rfl, rfl, _, rfl, tF (show S "truth" ≠ S "use" by decide +kernel) (leaf _ rfl)⟩⟩⟩⟩⟩⟩
    | hole n => exact ⟨_, rfl, rfl, _, rfl, tF (show S "hole" ≠ S "record" by decide +kernel) ⟨_, rfl, rfl, _, rfl, tF (show S "hole" ≠ S "variant" by decide +kernel) ⟨_, rfl, rfl, _, rfl, tF (show S "hole" ≠ S "row" by decide +kernel) ⟨_, rfl, rfl, _, rfl, tF (show S "hole" ≠ S "maybe" by decide +kernel) ⟨_, rfl, rfl, _, rfl, tF (show S "hole" ≠ S "box" by decide +kernel) ⟨_, rfl, rfl, _, rfl, tF (show S "hole" ≠ S "use" by decide +kernel) (leaf _ rfl)⟩⟩⟩⟩⟩⟩
    | row m c =>
      obtain ⟨x, y, rfl, hx, hy⟩ := all2 ha
      exact ⟨_, rfl, rfl, _, rfl, tF (show S "row" ≠ S "record" by decide +kernel) ⟨_, rfl, rfl, _, rfl, tF (show S "row" ≠ S "variant" by decide +kernel) ⟨_, rfl, rfl, _, rfl, tT rfl (single _ c y 2 0 _ rfl hy g.2 rfl (ctx_row m c) (Nat.le_refl _))⟩⟩⟩
    | one b c =>
      obtain ⟨x, rfl, hx⟩ := all1 ha
      cases b with
      | false => exact ⟨_, rfl, rfl, _, rfl, tF (show S "maybe" ≠ S "record" by decide +kernel) ⟨_, rfl, rfl, _, rfl, tF (show S "maybe" ≠ S "variant" by decide +kernel) ⟨_, rfl, rfl, _, rfl, tF (show S "maybe" ≠ S "row" by decide +kernel) ⟨_, rfl, rfl, _, rfl, tT rfl (single _ c x 1 0 _ rfl hx g rfl (ctx_one false c) (Nat.le_refl _))⟩⟩⟩⟩
      | true => exact ⟨_, rfl, rfl, _, rfl, tF (show S "box" ≠ S "record" by decide +kernel) ⟨_, rfl, rfl, _, rfl, tF (show S "box" ≠ S "variant" by decide +kernel) ⟨_, rfl, rfl, _, rfl, tF (show S "box" ≠ S "row" by decide +kernel) ⟨_, rfl, rfl, _, rfl, tF (show S "box" ≠ S "maybe" by decide +kernel) ⟨_, rfl, rfl, _, rfl, tT rfl (single _ c x 1 0 _ rfl hx g rfl (ctx_one true c) (Nat.le_refl _))⟩⟩⟩⟩⟩
    | parts v ps =>
      obtain ⟨x, rfl, hx⟩ := all1 ha
      obtain ⟨b, vs, rfl, hsb, hvs⟩ := dTup hx
      have hgp : goodP ps := g
      have hfp : fmP ps + 1 ≤ 1000 := hfm
      have hlen : vs.length = (entP 0 ps).length := by rw [dpAll_len hvs, entP_len]
      have hle : (entP 0 ps).length ≤ fmP ps := by rw [← entP_fm ps 0]; exact len_fmE _
      have fin : ∀ D : Ends, D.rt = Q → tRet (tLc (iRng1 (tCons (tCB (rLen K) (tCons (tOp (rIxT K) (tVar 0) (tC (.int 1))) tNil)) tNil)) (gName 2) tYes (tTup (tCons (tTup (tCons (tC (.int 1)) (tCons (tVar 2) (tCons (tC (.int 1)) tNil)))) (tCons (tOp (rIxT K) (tOp (rIxT K) (tOp (rIxT K) (tVar 0) (tC (.int 1))) (tVar 2)) (tC (.int 1))) tNil))) [2]) D [some (.ref a), some (.str (S (wP v))), none] H := fun D hD => by
        refine ⟨.ref a, rfl, a, _, 1, .ref b, rfl, rfl, hs, atI_nat (j := 1) rfl, b, vs, rfl, .inr hsb, (vs.length : Nat), rfl, by omega, by omega, fun Dd hDd => lc_range (lo := 0) (n := ((vs.length : Nat) : Int).toNat) (fun i H5 => ∃ ws : List V, ws.length = i ∧ EnA K (.parts v ps) H5 ws ((entP 0 ps).take i) ∧ H5 Dd = some (.lst ws) ∧ Same H H5) ⟨[], rfl, .nil, upd_same, same_upd hDd⟩ (fun i H5 hi hP => ?_) (fun H5 hP => ?_)⟩
        · obtain ⟨ws, el, hw, eD, s5⟩ := hP
          rw [Int.toNat_natCast] at hi
          obtain ⟨n, c, hget⟩ := getP_lt ps i (by rw [← dpAll_len hvs]; exact hi)
          obtain ⟨a1, a2, -⟩ := ps_ctx ps i n c hget
          have gx : vs[i]? = some vs[i] := List.getElem?_eq_getElem hi
          obtain ⟨di, k1, k2⟩ := dpAll_get hvs gx
          obtain rfl := Option.some.inj (a1.symm.trans k1)
          obtain ⟨t0, us, e0, ht0, hus⟩ := dTup k2
          obtain ⟨x1, x2, rfl, hx1, hx2⟩ := all2 hus
          have gc := (a2 hgp).2
          have hz := entP_get ps 0 i n c hget
          rw [Nat.zero_add] at hz
          have ts5 : TS K H H5 := ts_same s5
          refine ⟨rfl, ?_⟩
          refine iteT (B := ∃ ws : List V, ws.length = i + 1 ∧ EnA K (.parts v ps) H5 ws ((entP 0 ps).take (i + 1)) ∧ H5 Dd = some (.lst ws) ∧ Same H H5) ?_
          refine ⟨_, rfl, (by show 3 ≤ sizeLine; decide), fun o no => ?_⟩
          have s6 : Same H5 (upd H5 o (.tup [V.int 1, V.int (0 + (i : Int)), V.int 1])) := same_upd no
          have c6 : (upd H5 o (HO.tup [V.int 1, V.int (0 + (i : Int)), V.int 1])) o = some (.tup [V.int 1, V.int (0 + (i : Int)), V.int 1]) := upd_same
          generalize hH6 : upd H5 o (HO.tup [V.int 1, V.int (0 + (i : Int)), V.int 1]) = H6 at s6 c6 ⊢
          have ts6 : TS K H H6 := ts5.trans (ts_same s6)
          refine ⟨.ref a, rfl, a, _, 1, .ref b, rfl, rfl, ts6 _ _ hs, atI_nat (j := 1) rfl, _, rfl, b, vs, _, .ref t0, rfl, rfl, ts6 _ _ hsb, atI_of2 (by omega) (gx.trans (congrArg _ e0)), t0, _, 1, x2, rfl, rfl, ts6 _ _ ht0, atI_nat (j := 1) rfl, (by show 2 ≤ sizeLine; decide), fun tp ntp => ?_⟩
          have eD2 := same_upd (o := HO.tup [.ref o, x2]) ntp _ _ (s6 _ _ eD)
          have ts8 : TS K H6 (upd H6 tp (.tup [.ref o, x2])) := ts_new ntp
          have ts9 : TS K (upd H6 tp (.tup [.ref o, x2])) (upd (upd H6 tp (.tup [.ref o, x2])) Dd (.lst (ws ++ [.ref tp]))) := ts_lst eD2
          refine ⟨_, eD2, ?_, ws ++ [.ref tp], ?_, ?_, upd_same, ?_⟩
          · exact Nat.lt_of_le_of_lt (show ws.length ≤ 4000000 by omega) (by decide)
          · rw [List.length_append, el]; rfl
          · rw [List.take_add_one, hz]
            refine paired_append (EnA.ts ((ts_same s6).trans (ts8.trans ts9)) hw) (.cons ⟨tp, o, x2, rfl, ts9 _ _ (.inl (.inl upd_same)), ?_, (ts6.trans (ts8.trans ts9)).dp _ _ (pl_D c gc).1 hx2, gc, _, ctx_parts hget⟩ .nil)
            have : nints [1, i, 1] = [V.int 1, V.int (0 + (i : Int)), V.int 1] := by
              unfold nints
              rw [Int.zero_add]
              rfl
            rw [this]
            exact ts9 _ _ (ts8 _ _ (.inl (.inl c6)))
          · intro b' o' eb
            rw [upd_ne (ne_of_none eb hDd), upd_ne (ne_of_none (s6 _ _ (s5 _ _ eb)) ntp)]
            exact s6 _ _ (s5 b' o' eb)
        · obtain ⟨ws, el, hw, eD, s5⟩ := hP
          rw [Int.toNat_natCast, hlen, List.take_length] at hw
          rw [hD]
          refine q Dd H5 ws _ s5 hDd eD hw ?_
          rw [entP_fm]
          exact Nat.le_refl _
      cases v with
      | false => exact ⟨_, rfl, rfl, _, rfl, tT rfl (fin _ rfl)⟩
      | true => exact ⟨_, rfl, rfl, _, rfl, tF (show S "variant" ≠ S "record" by decide +kernel) ⟨_, rfl, rfl, _, rfl, tT rfl (fin _ rfl)⟩⟩
    | use n fs =>
      obtain ⟨x, y, rfl, hx, hy⟩ := all2 ha
      obtain ⟨b, vs, rfl, hsb, hvs⟩ := dTup hy
      have hgp : goodK fs := g.2
      have hfp : fmK fs + 1 ≤ 1000 := hfm
      have hlen : vs.length = (entK 0 fs).length := by rw [dpAll_len hvs, entK_len]
      have hle : (entK 0 fs).length ≤ fmK fs := by rw [← entK_fm fs 0]; exact len_fmE _
      refine ⟨_, rfl, rfl, _, rfl, tF (show S "use" ≠ S "record" by decide +kernel) ⟨_, rfl, rfl, _, rfl, tF (show S "use" ≠ S "variant" by decide +kernel) ⟨_, rfl, rfl, _, rfl, tF (show S "use" ≠ S "row" by decide +kernel) ⟨_, rfl, rfl, _, rfl, tF (show S "use" ≠ S "maybe" by decide +kernel) ⟨_, rfl, rfl, _, rfl, tF (show S "use" ≠ S "box" by decide +kernel) ⟨_, rfl, rfl, _, rfl, tT rfl ?_⟩⟩⟩⟩⟩⟩
      refine ⟨.ref a, rfl, a, _, 2, .ref b, rfl, rfl, hs, atI_nat (j := 2) rfl, b, vs, rfl, .inr hsb, (vs.length : Nat), rfl, by omega, by omega, fun Dd hDd => lc_range (lo := 0) (n := ((vs.length : Nat) : Int).toNat) (fun i H5 => ∃ ws : List V, ws.length = i ∧ EnA K (.use n fs) H5 ws ((entK 0 fs).take i) ∧ H5 Dd = some (.lst ws) ∧ Same H H5) ⟨[], rfl, .nil, upd_same, same_upd hDd⟩ (fun i H5 hi hP => ?_) (fun H5 hP => ?_)⟩
      · obtain ⟨ws, el, hw, eD, s5⟩ := hP
        rw [Int.toNat_natCast] at hi
        obtain ⟨c, hget⟩ := getK_lt fs i (by rw [← dpAll_len hvs]; exact hi)
        obtain ⟨a1, a2, -⟩ := ks_ctx fs i c hget
        have gx : vs[i]? = some vs[i] := List.getElem?_eq_getElem hi
        obtain ⟨di, k1, k2⟩ := dpAll_get hvs gx
        obtain rfl := Option.some.inj (a1.symm.trans k1)
        have gc := a2 hgp
        have hz := entK_get fs 0 i c hget
        rw [Nat.zero_add] at hz
        have ts5 : TS K H H5 := ts_same s5
        refine ⟨rfl, ?_⟩
        refine iteT (B := ∃ ws : List V, ws.length = i + 1 ∧ EnA K (.use n fs) H5 ws ((entK 0 fs).take (i + 1)) ∧ H5 Dd = some (.lst ws) ∧ Same H H5) ?_
        refine ⟨_, rfl, (by show 2 ≤ sizeLine; decide), fun o no => ?_⟩
        have s6 : Same H5 (upd H5 o (.tup [V.int 2, V.int (0 + (i : Int))])) := same_upd no
        have c6 : (upd H5 o (HO.tup [V.int 2, V.int (0 + (i : Int))])) o = some (.tup [V.int 2, V.int (0 + (i : Int))]) := upd_same
        generalize hH6 : upd H5 o (HO.tup [V.int 2, V.int (0 + (i : Int))]) = H6 at s6 c6 ⊢
        have ts6 : TS K H H6 := ts5.trans (ts_same s6)
        refine ⟨.ref a, rfl, a, _, 2, .ref b, rfl, rfl, ts6 _ _ hs, atI_nat (j := 2) rfl, _, rfl, b, vs, _, vs[i], rfl, rfl, ts6 _ _ hsb, atI_of2 (by omega) gx, (by show 2 ≤ sizeLine; decide), fun tp ntp => ?_⟩
        have eD2 := same_upd (o := HO.tup [.ref o, vs[i]]) ntp _ _ (s6 _ _ eD)
        have ts8 : TS K H6 (upd H6 tp (.tup [.ref o, vs[i]])) := ts_new ntp
        have ts9 : TS K (upd H6 tp (.tup [.ref o, vs[i]])) (upd (upd H6 tp (.tup [.ref o, vs[i]])) Dd (.lst (ws ++ [.ref tp]))) := ts_lst eD2
        refine ⟨_, eD2, ?_, ws ++ [.ref tp], ?_, ?_, upd_same, ?_⟩
        · exact Nat.lt_of_le_of_lt (show ws.length ≤ 4000000 by omega) (by decide)
        · rw [List.length_append, el]; rfl
        · rw [List.take_add_one, hz]
          refine paired_append (EnA.ts ((ts_same s6).trans (ts8.trans ts9)) hw) (.cons ⟨tp, o, vs[i], rfl, ts9 _ _ (.inl (.inl upd_same)), ?_, (ts6.trans (ts8.trans ts9)).dp _ _ (pl_D c gc).1 k2, gc, _, ctx_use hget⟩ .nil)
          have : nints [2, i] = [V.int 2, V.int (0 + (i : Int))] := by
            unfold nints
            rw [Int.zero_add]
            rfl
          rw [this]
          exact ts9 _ _ (ts8 _ _ (.inl (.inl c6)))
        · intro b' o' eb
          rw [upd_ne (ne_of_none eb hDd), upd_ne (ne_of_none (s6 _ _ (s5 _ _ eb)) ntp)]
          exact s6 _ _ (s5 b' o' eb)
      · obtain ⟨ws, el, hw, eD, s5⟩ := hP
        rw [Int.toNat_natCast, hlen, List.take_length] at hw
        refine q Dd H5 ws _ s5 hDd eD hw ?_
        rw [entK_fm]
        exact Nat.le_refl _
end
end K2
namespace K2
open PySem PySem.Spec PyProof.Rows L2 K1
open TL (tl joinL)
abbrev sPut : Stmt := topS 13
abbrev psU : List Str := ["_law_thing", "_law_place", "_law_new"]
theorem scU : FnScope ["_law_thing", "_law_place", "_law_new", "_law_at"] psU (defScope sPut) := ⟨rfl, rfl, rfl, by decide +kernel, rfl, by decide +kernel, by decide +kernel⟩
section
variable {K : PySem.W.Frag} {H : Hp}
theorem dp_ints : ∀ p : List Nat, DpAll K H (nints p) (p.map fun n : Nat => PyData.int (n : Int)) ∧ PyData.canLayAll0 (p.map fun n : Nat => PyData.int (n : Int)) = true
  | [] => ⟨.nil, rfl⟩
  | n :: p => ⟨.cons (.int _) (dp_ints p).1, by simp only [List.map_cons, PyData.canLayAll0, PyData.canLay0, (dp_ints p).2, Bool.and_self]⟩
theorem en_data {k0 : Kd} : ∀ {vs : List V} {qs : List (List Nat × Kd)}, EnA K k0 H vs qs → ∃ ds, DpAll K H vs ds ∧ PyData.canLayAll0 ds = true
  | _, _, .nil => ⟨[], .nil, rfl⟩
  | _, _, .cons ⟨t, a, x, e, ht, ha, hx, p1, p2⟩ r => by
    obtain ⟨ds, g1, g2⟩ := en_data r
    subst e
    refine ⟨_ :: ds, .cons (.tup ht (.cons (.tup ha (dp_ints _).1) (.cons hx .nil))) g1, ?_⟩
    simp only [PyData.canLayAll0, PyData.canLay0, (dp_ints (K := K) (H := H) _).2, canLay _ (pl_D _ p1).1, g2, Bool.and_self]
end
section
variable {P : Program} {w : World} {K : PySem.W.Frag} {mg : Str → Option Value} {base : Heap}
def spU (K : PySem.W.Frag) : Nat → Sp
  | 0 => fun _ _ _ _ => False
  | n + 1 => fun vs H Q _ => ∃ (v : V) (d : PyData) (a : Addr) (pth : List Nat) (u : V) (e d' : PyData), vs = [v, .ref a, u] ∧ Dp K H v d ∧ pl d = true ∧ SqT K H a (nints pth) ∧ Put d pth e d' ∧ Dp K H u e ∧ pl e = true ∧ pth.length ≤ n ∧ sz d ≤ 4000000 ∧
    ∀ (v' : V) (H' : Hp), Same H H' → Dp K H' v' d' → pl d' = true → Q v' H'
theorem ok_put {f : Addr} {fd : FuncData} (F : Fun K "_law_put" "_law_put" sPut f fd) (gU : mg "_law_put" = some (.ref f)) (bU : Binds K fd psU []) : ∀ n : Nat, FnOk P w K mg base CX0 (n + 1) f fd psU (spU K n) := by
  intro n
  induction n with
  | zero => exact F.ok scU (fun vs H Q E h => h.elim) (fun cdv A outer s H vs Q E hr h => h.elim)
  | succ n ih =>
    refine F.ok scU (fun vs H Q E h => ?_) (fun cdv A outer s H vs Q E hr h => ?_)
    · obtain ⟨v, d, a, pth, u, e, d', rfl, _⟩ := h
      rfl
    · obtain ⟨v, d, a, pth, u, e, d', rfl, hd, pd, ha, hat, hu, pe, hn, sd, q⟩ := h
      refine ⟨_, pss_cons (ps_if (pt_cmpR (op_eqM hr.units) (pv 1) (pe_tup pa_nil) (nomark _)) (pss_one (ps_ret (pv 2))) pss_nil)
        (pss_cons (ps_set (i := 3) scU.nd rfl (.inl rfl) (pe_ix ix_tup (pv 1) pe_int (fun _ _ => rfl)))
        (pss_one (ps_ret (pe_op op_catA (pe_op op_catA (pe_slice sl_tupA (pv 0) po_none (po_some (pv 3)))
            (pe_tup (pa_cons (pe_call ih hr (by rfl) gU F.kp bU .nil pass0 (pa_cons (pe_ix ix_tup (pv 0) (pv 3) (fun _ _ => rfl)) (pa_cons (pe_slice sl_tupA (pv 1) (po_some pe_int) po_none) (pa_cons (pv 2) pa_nil)))) pa_nil)))
          (pe_slice sl_tupA (pv 0) (po_some (pe_op op_add (pv 3) pe_int)) po_none))))), ?_⟩
      refine ⟨.ref a, rfl, Nat.zero_le _, fun z nz => ?_⟩
      have sz1 : Same H (upd H z (.tup [])) := same_upd nz
      have cz : (upd H z (.tup [])) z = some (.tup []) := upd_same
      generalize hHz : upd H z (HO.tup []) = Hz at sz1 cz ⊢
      have tz : TS K H Hz := ts_same sz1
      have hda := dp_ints (K := K) (H := Hz) pth
      refine ⟨.tuple (pth.map fun n : Nat => PyData.int (n : Int)), .tuple [], .tup (tz _ _ ha) hda.1, .tup (.inl (.inl cz)) .nil, hda.2, rfl, ?_, _, rfl, ite2 (fun c => ?_) (fun c => ?_)⟩
      · refine Nat.le_trans (Nat.min_le_right _ _) ?_
        decide
      · have hp : pth = [] := by
          rw [eqv_nilT] at c
          cases pth with
          | nil => rfl
          | cons _ _ => cases c
        subst hp
        cases hat
        exact ⟨u, rfl, q u Hz sz1 (tz.dp _ _ pe hu) pe⟩
      · cases hat with
        | here => exact absurd (by rw [eqv_nilT]; rfl) c
        | @step ds i cc _ d1 pth' hi hat' =>
          cases hd with
          | @tup b xs _ hsx hax =>
            have lx := dpAll_len hax
            have hil : i < ds.length := (List.getElem?_eq_some_iff.mp hi).1
            have gx : xs[i]? = some xs[i] := List.getElem?_eq_getElem (by omega)
            obtain ⟨ci, k1, k2⟩ := dpAll_get hax gx
            obtain rfl : ci = cc := Option.some.inj (k1.symm.trans hi)
            have pcc : pl ci = true := plA_mem pd (List.mem_of_getElem? hi)
            have hls := len_szA ds
            have hsd : szA ds + 1 ≤ 4000000 := sd
            refine ⟨.ref a, rfl, a, _, _, .int (i : Int), rfl, rfl, tz _ _ ha, atI_nat (j := 0) rfl, ?_⟩
            cases n with
            | zero => exact absurd hn (by simp)
            | succ n =>
              -- thing[:at]
              refine ⟨.ref b, rfl, .int (i : Int), rfl, (i : Int), rfl, slA_any (tz _ _ hsx) fun r1 H1 s1 h1 => ?_⟩
              rw [cut_take] at h1
              have t1 : TS K H H1 := tz.trans (ts_same s1)
              refine ⟨.ref b, rfl, .int (i : Int), rfl, b, xs, _, xs[i], rfl, rfl, t1 _ _ hsx, atI_nat gx, .ref a, rfl, 1, rfl, ?_⟩
              dsimp only [tNoPart]
              refine slA_any (t1 _ _ ha) fun r2 H2 s2 h2 => ?_
              have e2 : cutV (nints (i :: pth')) (some 1) none = nints pth' := by
                rw [show (1 : Int) = ((1 : Nat) : Int) from rfl, cut_drop]
                rfl
              rw [e2] at h2
              have t2 : TS K H H2 := t1.trans (ts_same s2)
              refine ⟨u, rfl, xs[i], ci, r2, pth', u, e, d1, rfl, t2.dp _ _ pcc k2, pcc, h2, hat', t2.dp _ _ pe hu, pe, by simpa using hn, ?_, fun v' H3 s3 hv' pl' => ?_⟩
              · have := sz_mem (List.mem_of_getElem? hi)
                omega
              refine ⟨(by show 1 ≤ sizeLine; decide), fun t nt => ?_⟩
              have s4 : Same H3 (upd H3 t (.tup [v'])) := same_upd nt
              have c4 : (upd H3 t (.tup [v'])) t = some (.tup [v']) := upd_same
              generalize hH4 : upd H3 t (HO.tup [v']) = H4 at s4 c4 ⊢
              have s14 : Same H1 H4 := s2.trans (s3.trans s4)
              refine catA_any (ts_same s14 _ _ h1) (.inl (.inl c4)) ?_ fun r5 H5 s5 h5 => ?_
              · rw [List.length_take]
                exact Nat.le_trans (show min i xs.length + [v'].length ≤ 4000001 by simp; omega) (by decide)
              have t5 : TS K H H5 := t2.trans (ts_same (s3.trans (s4.trans s5)))
              refine ⟨.ref b, rfl, .int (i : Int), rfl, _, _, rfl, rfl, ((i : Int) + 1), rfl, ?_⟩
              dsimp only [tNoPart]
              refine slA_any (t5 _ _ hsx) fun r6 H6 s6 h6 => ?_
              rw [show (i : Int) + 1 = ((i + 1 : Nat) : Int) by omega, cut_drop] at h6
              refine catA_any (ts_same s6 _ _ h5) h6 ?_ fun r7 H7 s7 h7 => ?_
              · rw [List.length_append, List.length_take, List.length_drop]
                exact Nat.le_trans (show min i xs.length + [v'].length + (xs.length - (i + 1)) ≤ 4000001 by simp; omega) (by decide)
              have t7 : TS K H H7 := t5.trans (ts_same (s6.trans s7))
              have t37 : TS K H3 H7 := ts_same (s4.trans (s5.trans (s6.trans s7)))
              have hall7 : DpAll K H7 xs ds := t7.dps _ _ pd hax
              refine q (.ref r7) H7 (sz1.trans (s1.trans (s14.trans (s5.trans (s6.trans s7))))) (.tup h7 (dpAll_append (dpAll_append (dpAll_take i hall7) (.cons (t37.dp _ _ pl' hv') .nil)) (dpAll_drop (i + 1) hall7))) ?_
              exact plA_of fun g hg => by
                  rcases List.mem_append.mp hg with m | m
                  · rcases List.mem_append.mp m with m | m
                    · exact plA_mem pd (List.mem_of_mem_take m)
                    · rw [List.mem_singleton.mp m]; exact pl'
                  · exact plA_mem pd (List.mem_of_mem_drop m)
end
end K2
namespace K2
open PySem PySem.Spec PyProof.Rows L2 K1
open TL (tl joinL)
abbrev sForms : Stmt := topS 12
abbrev nmFm : List Str := ["_law_kind_here", "_law_heap", "_law_found", "_law_place", "_law_one", "_law_way", "_law_piece"]
theorem scFm : FnScope nmFm ["_law_kind_here"] (defScope sForms) := ⟨rfl, rfl, rfl, by decide +kernel, rfl, by decide +kernel, by decide +kernel⟩
theorem paired_get {α β : Type} {F : α → β → Prop} : ∀ {xs : List α} {ys : List β} {i : Nat} {x : α}, Paired F xs ys → xs[i]? = some x → ∃ y, ys[i]? = some y ∧ F x y
  | _, _, i, x, .nil, e => by simp at e
  | _, _, 0, x, .cons h t, e => by
    simp at e
    subst e
    exact ⟨_, rfl, h⟩
  | _, _, i + 1, x, .cons h t, e => by
    obtain ⟨d, e1, e2⟩ := paired_get (i := i) t (by simpa using e)
    exact ⟨d, by simpa using e1, e2⟩
theorem paired_rev {α β : Type} {F : α → β → Prop} : ∀ {xs : List α} {ys : List β}, Paired F xs ys → Paired F xs.reverse ys.reverse
  | _, _, .nil => .nil
  | _, _, .cons h t => by
    rw [List.reverse_cons, List.reverse_cons]
    exact paired_append (paired_rev t) (.cons h .nil)
def under (p : List Nat) (es : List (List Nat × Kd)) : List (List Nat × Kd) := es.map fun q => (p ++ q.1, q.2)
theorem fmE_under (p : List Nat) : ∀ es, fmE (under p es) = fmE es
  | [] => rfl
  | e :: es => by
    have := fmE_under p es
    simp only [under, List.map_cons, fmE] at this ⊢
    omega
theorem Ctx.len {k c : Kd} {p : List Nat} {f : Kd → Kd} (a : Ctx k p c f) : p.length ≤ 3 * dpt k ∧ dpt c ≤ dpt k := by
  obtain ⟨l, l1, l2, l3⟩ := a.lv
  omega
def WFm (K : PySem.W.Frag) (H : Hp) (v : V) (k0 : Kd) (m : Nat) (σ : L2.St) (H' : Hp) : Prop :=
  ∃ l fo y3 y4 y5 y6 vs qs fs gs, σ = [some v, some (.ref l), some (.ref fo), y3, y4, y5, y6] ∧ H' l = some (.lst vs) ∧ H' fo = some (.lst fs) ∧ l ≠ fo ∧ H l = none ∧ H fo = none ∧ EnA K k0 H' vs qs ∧ EnA K k0 H' fs gs ∧ fmE qs = m ∧ fs.length + m ≤ 1000 ∧ (fs ≠ [] ∨ vs ≠ []) ∧ Same H H'
section
variable {P : Program} {w : World} {K : PySem.W.Frag} {mg : Str → Option Value} {base : Heap}
def spForms (K : PySem.W.Frag) : Sp := fun vs H Q _ => ∃ (v : V) (k : Kd), vs = [v] ∧ Dp K H v (toD k) ∧ good k ∧ fm k ≤ 1000 ∧ dpt k ≤ 100 ∧
  ∀ (p : Addr) (H' : Hp) (fs : List V) (gs : List (List Nat × Kd)), Same H H' → H p = none → H' p = some (.lst fs) → EnA K k H' fs gs → fs ≠ [] → fs.length ≤ 1000 → Q (.ref p) H'
theorem ok_forms {f : Addr} {fd : FuncData} (F : Fun K "_law_forms" "_law_forms" sForms f fd) (CI : Cal P w K mg base "_law_inner" ["_law_kind_here"] 1 (spInner K)) : FnOk P w K mg base CX0 2 f fd ["_law_kind_here"] (spForms K) := by
  obtain ⟨fI, fdI, GI, gI, kI, bI⟩ := CI.ex
  refine F.ok scFm (fun vs H Q E h => ?_) (fun cdv A outer s H vs Q E hr h => ?_)
  · obtain ⟨v, d, rfl, _⟩ := h
    rfl
  · obtain ⟨v, k0, rfl, hd0, gd0, sd0, dd0, q⟩ := h
    refine ⟨_, pss_cons (ps_set (i := 1) scFm.nd rfl (.inl rfl) (pe_lst (pa_cons (pe_tup (pa_cons (pe_tup pa_nil) (pa_cons (pv 0) pa_nil))) pa_nil)))
      (pss_cons (ps_set (i := 2) scFm.nd rfl (.inl rfl) (pe_lst pa_nil))
      (pss_cons (ps_while PassesOwn.never (pt_cmpR (op_neM hr.units) (pv 1) (pe_lst pa_nil) (nomark _))
        (pss_cons (ps_asg (pe_bm0 PySem.F.plainAttrs_list PySem.F.slot_list_pop PySem.F.type_list_pop mt_pop (pv 1)) (pg_tup (by rfl) (pgs_cons (pg_name (i := 3) scFm.nd rfl (.inr rfl)) (pgs_cons (pg_name (i := 4) scFm.nd rfl (.inl rfl)) pgs_nil))))
        (pss_cons (ps_expr (pe_bm PySem.F.plainAttrs_list PySem.F.slot_list_append PySem.F.type_list_append mt_append (pv 2) (pa_cons (pe_tup (pa_cons (pv 3) (pa_cons (pv 4) pa_nil))) pa_nil)))
        (pss_one (ps_set (i := 1) scFm.nd rfl (.inl rfl) (pe_op op_cat (pv 1)
            (pe_revL (pe_lc (own := [("_law_way", 5), ("_law_piece", 6)]) (g := gTup K 2 (gCons (gName 5) (gCons (gName 6) gNil))) (tt := tYes) rfl scFm.nd (pi_list (pe_call GI hr (by rfl) gI kI bI .nil pass0 (pa_cons (pv 4) pa_nil)))
              (blkOk_by (N := nmFm) (sc := defScope sForms) (by decide +kernel)) (fun _ _ _ _ _ => pg_tup (by rfl) (pgs_cons (pg_name (i := 5) scFm.nd rfl (Or.inl rfl)) (pgs_cons (pg_name (i := 6) scFm.nd rfl (Or.inl rfl)) pgs_nil))) (fun _ _ _ _ _ => pts_nil)
              (fun _ _ _ _ _ => pe_tup (pa_cons (pe_op (show OpR _ (binaryOp .Add) (rCatA K) from op_catA) (pv 3) (pv 5)) (pa_cons (pv 6) pa_nil)))))))))))
      (pss_one (ps_ret (pv 2))))), ?_⟩
    refine ⟨Nat.zero_le _, fun a na => ⟨v, rfl, (by show 2 ≤ sizeLine; decide), fun t nt => ⟨(by show 1 ≤ sizeLine; decide), fun l nl => ?_⟩⟩⟩
    generalize hHa : upd H a (HO.tup []) = Ha at nt nl ⊢
    have sa : Same H Ha := by rw [← hHa]; exact same_upd na
    have ca : Ha a = some (.tup []) := by rw [← hHa, upd_same]
    generalize hHt : upd Ha t (HO.tup [V.ref a, v]) = Ht at nl ⊢
    have st : Same Ha Ht := by rw [← hHt]; exact same_upd nt
    have ct : Ht t = some (.tup [.ref a, v]) := by rw [← hHt, upd_same]
    generalize hHl : upd Ht l (HO.lst [V.ref t]) = Hl
    have sl : Same Ht Hl := by rw [← hHl]; exact same_upd nl
    have cl : Hl l = some (.lst [.ref t]) := by rw [← hHl, upd_same]
    have s3 : Same H Hl := sa.trans (st.trans sl)
    refine ⟨Nat.zero_le _, fun fo nfo => ?_⟩
    have hT : TS K H (upd Hl fo (.lst [])) := ts_same (s3.trans (same_upd nfo))
    refine ⟨WFm K H v k0, ⟨fm k0, l, fo, none, none, none, none, [.ref t], [([], k0)], [], [], rfl, ?_, upd_same, ne_of_none cl nfo, ?_, ?_, .cons ⟨t, a, v, rfl, ?_, ?_, hT.dp _ _ (pl_D k0 gd0).1 hd0, gd0, id, Ctx.here k0⟩ .nil, .nil, ?_, ?_, .inr (by simp), s3.trans (same_upd nfo)⟩, fun m σ H' hW => ?_⟩
    · rw [upd_ne (ne_of_none cl nfo)]; exact cl
    · exact (sa.trans st).free nl
    · exact s3.free nfo
    · exact .inl (.inl (same_upd nfo _ _ (sl _ _ ct)))
    · exact .inl (.inl (same_upd nfo _ _ (sl _ _ (st _ _ ca))))
    · show fm k0 + 0 = fm k0
      omega
    · simpa using sd0
    · clear hT nfo s3 cl sl hHl ct st hHt ca sa hHa nl nt na
      obtain ⟨l, fo, y3, y4, y5, y6, vs, qs, fs, gs, rfl, hl, hfo, hlf, nl0, nfo0, hen, hfn, hm, hmm, hsome, s0⟩ := hW
      refine ⟨.ref l, rfl, Nat.zero_le _, fun z nz => ?_⟩
      have sz1 : Same H' (upd H' z (.lst [])) := same_upd nz
      have cz : (upd H' z (.lst [])) z = some (.lst []) := upd_same
      have tz : TS K H' (upd H' z (.lst [])) := ts_new nz
      generalize hHz : upd H' z (HO.lst []) = Hz at sz1 cz tz
      obtain ⟨dds, hdat, hcan⟩ := en_data (EnA.ts tz hen)
      refine ⟨.list dds, .list [], .lst (.inl (.inl (sz1 _ _ hl))) hdat, .lst (.inl (.inl cz)) .nil, hcan, rfl, ?_, _, rfl, ite2 (fun c => ?_) (fun c => ?_)⟩
      · refine Nat.le_trans (Nat.min_le_right _ _) ?_
        decide
      · rw [eqv_nil, ← dpAll_emp hdat] at c
        have hne : vs ≠ [] := fun z => by
          subst z
          cases c
        have hl' := sz1 _ _ hl
        obtain ⟨vs', vl, qs', qq, rfl, rfl, hen', t2, a2, x, rfl, ht2, ha2, hx, pd, ff, hat⟩ := paired_last (EnA.ts tz hen) hne
        obtain ⟨pth, d⟩ := qq
        dsimp only at ha2 hx pd hat
        refine ⟨fun σ' H2 => ∃ m', m' < m ∧ WFm K H v k0 m' σ' H2, fun _ _ h => h, ?_⟩
        refine ⟨.ref l, rfl, .inl ⟨rfl, _, .inl (.inl hl')⟩, l, _, .ref t2, rfl, rfl, hl', (by simp), ?_⟩
        rw [List.dropLast_concat]
        have ts2 : TS K Hz (upd Hz l (.lst vs')) := ts_lst hl'
        generalize hH2 : upd Hz l (HO.lst vs') = H2 at ts2 ⊢
        have cl2 : H2 l = some (.lst vs') := by rw [← hH2, upd_same]
        have cf2 : H2 fo = some (.lst fs) := by rw [← hH2, upd_ne hlf.symm]; exact sz1 _ _ hfo
        have s02 : Same H H2 := fun b o eb => by rw [← hH2, upd_ne (ne_of_none eb nl0)]; exact sz1 _ _ (s0 b o eb)
        refine ⟨t2, [.ref a2, x], rfl, ts2 _ _ ht2, rfl, .ref a2, [x], rfl, x, [], rfl, rfl, ?_⟩
        have hmm2 : fmE qs' + fm d = m := by
          rw [← hm, fmE_append]
          simp [fmE]
        have spos := fm_pos d
        have ppd := (pl_D d pd).1
        -- found.append
        refine ⟨.ref fo, rfl, .inl ⟨rfl, _, .inl (.inl cf2)⟩, .ref a2, rfl, x, rfl, (by show 2 ≤ sizeLine; decide), fun t3 nt3 => ?_⟩
        have ts3 : TS K H2 (upd H2 t3 (.tup [.ref a2, x])) := ts_new nt3
        have c3 : (upd H2 t3 (HO.tup [.ref a2, x])) t3 = some (.tup [.ref a2, x]) := upd_same
        have s3 : Same H2 (upd H2 t3 (HO.tup [.ref a2, x])) := same_upd nt3
        generalize hH3 : upd H2 t3 (HO.tup [.ref a2, x]) = H3 at ts3 c3 s3 ⊢
        refine ⟨fo, fs, .ref t3, rfl, rfl, s3 _ _ cf2, ?_, ?_⟩
        · exact Nat.lt_of_le_of_lt (show fs.length ≤ 4000000 by omega) (by decide)
        have ts4 : TS K H3 (upd H3 fo (.lst (fs ++ [.ref t3]))) := ts_lst (s3 _ _ cf2)
        generalize hH4 : upd H3 fo (HO.lst (fs ++ [.ref t3])) = H4 at ts4 ⊢
        have cf4 : H4 fo = some (.lst (fs ++ [.ref t3])) := by rw [← hH4, upd_same]
        have cl4 : H4 l = some (.lst vs') := by rw [← hH4, upd_ne hlf]; exact s3 _ _ cl2
        have s04 : Same H H4 := fun b o eb => by rw [← hH4, upd_ne (ne_of_none eb nfo0)]; exact s3 _ _ (s02 b o eb)
        have tsA : TS K H2 H4 := ts3.trans ts4
        have hx4 : Dp K H4 x (toD d) := tsA.dp _ _ ppd (ts2.dp _ _ ppd hx)
        have ha4 : SqT K H4 a2 (nints pth) := tsA _ _ (ts2 _ _ ha2)
        have en4 : EnA K k0 H4 vs' qs' := EnA.ts (ts2.trans tsA) hen'
        have fn4 : EnA K k0 H4 (fs ++ [.ref t3]) (gs ++ [(pth, d)]) := paired_append (EnA.ts (tz.trans (ts2.trans tsA)) hfn) (.cons ⟨t3, a2, x, rfl, ts4 _ _ (.inl (.inl c3)), ha4, hx4, pd, ff, hat⟩ .nil)
        have hpl := hat.len
        have hlq := len_fmE qs'
        have hlv := paired_len en4
        refine ⟨.ref l, rfl, x, rfl, x, d, rfl, hx4, pd, by omega, fun p H5 ws es s5 np hp hen5 hf => ?_⟩
        have hws := paired_len hen5
        have hes := len_fmE es
        refine ⟨p, rfl, ⟨_, .inl (.inl hp)⟩, fun D hD => lc_list (xs := ws) (fun i H6 => ∃ us : List V, us.length = i ∧ EnA K k0 H6 us ((under pth es).take i) ∧ H6 D = some (.lst us) ∧ Same H5 H6) ⟨[], rfl, .nil, upd_same, same_upd hD⟩ (fun i H6 _ hP => ?_) (fun i y H6 hy hP => ?_) (fun H6 hP => ?_)⟩
        · obtain ⟨us, el, hw, eD, s6⟩ := hP
          exact .inl (.inl (s6 _ _ hp))
        · obtain ⟨us, el, hw, eD, s6⟩ := hP
          have hi : i < ws.length := (List.getElem?_eq_some_iff.mp hy).1
          obtain ⟨qe, hqe, t6, a6, x6, rfl, ht6, ha6, hx6, g6, f6, hc6⟩ := paired_get hen5 hy
          obtain ⟨way, c6⟩ := qe
          dsimp only at ha6 hx6 g6 hc6
          have hw6 := hc6.len
          have hz : (under pth es)[i]? = some (pth ++ way, c6) := by
            unfold under
            rw [List.getElem?_map, hqe]
            rfl
          have ts6 : TS K H5 H6 := ts_same s6
          have pp6 := (pl_D c6 g6).1
          refine ⟨t6, [.ref a6, x6], rfl, ts6 _ _ ht6, rfl, .ref a6, [x6], rfl, x6, [], rfl, rfl, rfl, ?_⟩
          refine iteT (B := ∃ us : List V, us.length = i + 1 ∧ EnA K k0 H6 us ((under pth es).take (i + 1)) ∧ H6 D = some (.lst us) ∧ Same H5 H6) ?_
          refine ⟨.ref a2, rfl, .ref a6, rfl, catA_any (ts6 _ _ (ts_same s5 _ _ ha4)) (ts6 _ _ ha6) ?_ fun r H7 s7 hr7 => ?_⟩
          · unfold nints
            rw [List.length_map, List.length_map]
            exact Nat.le_trans (show pth.length + way.length ≤ 1000 by omega) (show 1000 ≤ sizeLine by decide)
          refine ⟨x6, rfl, (by show 2 ≤ sizeLine; decide), fun tp ntp => ?_⟩
          have eD2 := same_upd (o := HO.tup [.ref r, x6]) ntp _ _ (s7 _ _ eD)
          have ts8 : TS K H7 (upd H7 tp (.tup [.ref r, x6])) := ts_new ntp
          have ts9 : TS K (upd H7 tp (.tup [.ref r, x6])) (upd (upd H7 tp (.tup [.ref r, x6])) D (.lst (us ++ [.ref tp]))) := ts_lst eD2
          refine ⟨_, eD2, ?_, us ++ [.ref tp], ?_, ?_, upd_same, ?_⟩
          · exact Nat.lt_of_le_of_lt (show us.length ≤ 4000000 by omega) (by decide)
          · rw [List.length_append, el]; rfl
          · rw [List.take_add_one, hz]
            refine paired_append (EnA.ts ((ts_same s7).trans (ts8.trans ts9)) hw) (.cons ⟨tp, r, _, rfl, ts9 _ _ (.inl (.inl upd_same)), ?_, ?_, g6, _, hat.comp hc6⟩ .nil)
            · have : nints (pth ++ way) = nints pth ++ nints way := by
                unfold nints
                rw [List.map_append]
              rw [this]
              exact ts9 _ _ (ts8 _ _ hr7)
            · exact (ts6.trans ((ts_same s7).trans (ts8.trans ts9))).dp _ _ pp6 hx6
          · intro b' o' eb
            rw [upd_ne (ne_of_none eb hD), upd_ne (ne_of_none (s7 _ _ (s6 _ _ eb)) ntp)]
            exact s7 _ _ (s6 b' o' eb)
        · obtain ⟨us, el, hw, eD, s6⟩ := hP
          rw [hws, show es.length = (under pth es).length by simp [under], List.take_length] at hw
          refine ⟨D, us, rfl, .inl (.inl eD), fun pr npr => ?_⟩
          have s7 : Same H6 (upd H6 pr (.lst us.reverse)) := same_upd npr
          have c7 : (upd H6 pr (.lst us.reverse)) pr = some (.lst us.reverse) := upd_same
          generalize hH7 : upd H6 pr (HO.lst us.reverse) = H7 at s7 c7
          have s47 : Same H4 H7 := s5.trans (s6.trans s7)
          refine ⟨l, pr, vs', us.reverse, rfl, rfl, s47 _ _ cl4, c7, ?_, fun p' np' => ?_⟩
          · rw [List.length_reverse]
            exact Nat.le_trans (show vs'.length + us.length ≤ 4000000 by omega) (by decide)
          · refine ⟨fmE qs' + fmE es, by omega, p', fo, _, _, _, _, vs' ++ us.reverse, qs' ++ (under pth es).reverse, fs ++ [.ref t3], gs ++ [(pth, d)], rfl, upd_same, same_upd np' _ _ (s47 _ _ cf4), (ne_of_none (s47 _ _ cf4) np').symm, (s04.trans s47).free np', nfo0, paired_append (EnA.ts ((ts_same s47).trans (ts_new np')) en4) (EnA.ts ((ts_same s7).trans (ts_new np')) (paired_rev hw)), EnA.ts ((ts_same s47).trans (ts_new np')) fn4, ?_, ?_, .inl (by simp), (s04.trans s47).trans (same_upd np')⟩
            · rw [fmE_append, fmE_rev, fmE_under]
            · rw [List.length_append, List.length_singleton]
              omega
      · rw [eqv_nil, ← dpAll_emp hdat] at c
        have hemp : vs = [] := by
          cases vs with
          | nil => rfl
          | cons _ _ => exact absurd rfl c
        refine ⟨.ref fo, rfl, q fo Hz fs gs (s0.trans sz1) nfo0 (sz1 _ _ hfo) (EnA.ts tz hfn) ?_ (by omega)⟩
        rcases hsome with h | h
        · exact h
        · exact absurd hemp h
end
end K2
namespace K2
open PySem PySem.Spec PyProof.Rows L2 K1
open TL (tl joinL)
abbrev sTurned : Stmt := topS 15
abbrev nmTu : List Str := ["_law_deck_here", "_law_kind_here", "_law_holes", "_law_word", "_law_name", "_law_at", "_law_called", "_law_piece"]
abbrev psTu : List Str := ["_law_deck_here", "_law_kind_here", "_law_holes"]
theorem scTu : FnScope nmTu psTu (defScope sTurned) := ⟨rfl, rfl, rfl, by decide +kernel, rfl, by decide +kernel, by decide +kernel⟩
theorem orI {X Z : Prop} {c : Prop} [Decidable c] (x : X) (f : ¬ c → X → Z) : if c then X else Z := by
  by_cases h : c
  · rw [if_pos h]; exact x
  · rw [if_neg h]; exact f h x
theorem iteT_inv {A B : Prop} (h : if true = true then A else B) : A := by simpa using h
theorem iteFa {A B : Prop} (h : B) : if false = true then A else B := by simpa using h
/-! ### a part with another name, a fill more -/
def setN : Ps → Nat → Str → Ps
  | .nil, _, _ => .nil
  | .cons _ k ps, 0, e => .cons e k ps
  | .cons n k ps, i + 1, e => .cons n k (setN ps i e)
theorem setN_ok : ∀ (ps : Ps) (i : Nat) (n : Str) (c : Kd) (e : Str), getP ps i = some (n, c) → psD (setN ps i e) = (psD ps).take i ++ [.tuple [.str e, toD c]] ++ (psD ps).drop (i + 1) ∧ (goodP ps → Nm e → goodP (setN ps i e)) ∧ fmP (setN ps i e) = fmP ps ∧ dptP (setN ps i e) = dptP ps
  | .nil, i, n, c, e, h => by simp [getP] at h
  | .cons n' k ps, 0, n, c, e, h => by
    simp only [getP, Option.some.injEq, Prod.mk.injEq] at h
    obtain ⟨rfl, rfl⟩ := h
    exact ⟨by simp [setN, psD], fun g he => ⟨he, g.2.1, g.2.2⟩, rfl, rfl⟩
  | .cons n' k ps, i + 1, n, c, e, h => by
    obtain ⟨b1, b2, b3, b4⟩ := setN_ok ps i n c e (by simpa [getP] using h)
    refine ⟨by simp [setN, psD, b1], fun g he => ⟨g.1, g.2.1, b2 g.2.2 he⟩, ?_, ?_⟩
    · simp only [setN, fmP, b3]
    · simp only [setN, dptP, b4]
def addK : Ks → Ks
  | .nil => .cons .truth .nil
  | .cons k ks => .cons k (addK ks)
theorem addK_ok : ∀ ks : Ks, ksD (addK ks) = ksD ks ++ [toD .truth] ∧ (goodK ks → goodK (addK ks)) ∧ fmK (addK ks) = fmK ks + 1 ∧ dptK (addK ks) ≤ dptK ks + 1
  | .nil => ⟨rfl, fun _ => ⟨True.intro, True.intro⟩, rfl, Nat.le_refl _⟩
  | .cons k ks => by
    obtain ⟨b1, b2, b3, b4⟩ := addK_ok ks
    refine ⟨by simp [addK, ksD, b1], fun g => ⟨g.1, b2 g.2⟩, ?_, ?_⟩
    · simp only [addK, fmK, b3]; omega
    · simp only [addK, dptK]; omega
section
variable {P : Program} {w : World} {K : PySem.W.Frag} {mg : Str → Option Value} {base : Heap}
def TuQ (K : PySem.W.Frag) (dk cl lf : Addr) (c : Kd) (H : Hp) (R : VK) : Prop := ∀ (v : V) (k : Kd) (H' : Hp), Dk H' dk cl lf → KD dk lf H H' → Dp K H' v (toD k) → good k → dpt k ≤ dpt c + 1 → fm k ≤ fm c + 1 → R v H'
theorem TuQ.to {dk cl lf : Addr} {c : Kd} {H H1 : Hp} {R : VK} (h : TuQ K dk cl lf c H R) (k : KD dk lf H H1) : TuQ K dk cl lf c H1 R := fun v kd H' a b => h v kd H' a (k.trans b)
def spTu (K : PySem.W.Frag) : Sp := fun vs H Q _ => ∃ (dk cl lf ho : Addr) (v : V) (c : Kd) (hs : List Str), vs = [.ref dk, v, .ref ho] ∧ Dk H dk cl lf ∧ Dp K H v (toD c) ∧ good c ∧ fm c ≤ 100 ∧ SqT K H ho (hs.map V.str) ∧ (∀ h ∈ hs, Nm h) ∧ hs.length ≤ 100 ∧ TuQ K dk cl lf c H Q
def tSw (K : PySem.W.Frag) (dk cl lf : Addr) (ps : Ps) : L2.TS := fun D σ H => ∃ (a b : Addr) (vs : List V) (v : Bool) (y2 y4 y5 y6 y7 : Option V), σ = [some (.ref dk), some (.ref a), y2, some (.str (S (wP v))), y4, y5, y6, y7] ∧ SqT K H a [.str (S (wP v)), .ref b] ∧ SqT K H b vs ∧ DpAll K H vs (psD ps) ∧ goodP ps ∧ Dk H dk cl lf ∧ TuQ K dk cl lf (.parts v ps) H D.rt
def tRe (K : PySem.W.Frag) (dk cl lf : Addr) (ps : Ps) : L2.TS := fun D σ H => ∃ (a b : Addr) (vs : List V) (v : Bool) (nm : Str) (i : Nat) (y2 y6 y7 : Option V), σ = [some (.ref dk), some (.ref a), y2, some (.str (S (wP v))), some (.str nm), some (.int (i : Int)), y6, y7] ∧ SqT K H a [.str (S (wP v)), .ref b] ∧ SqT K H b vs ∧ DpAll K H vs (psD ps) ∧ goodP ps ∧ Nm nm ∧ i < vs.length ∧ vs.length ≤ 100 ∧ Dk H dk cl lf ∧ TuQ K dk cl lf (.parts v ps) H D.rt
theorem ok_turned {f : Addr} {fd : FuncData} (F : Fun K "_law_turned" "_law_turned" sTurned f fd) (CP : Cal P w K mg base "_law_pick" ["_law_deck_here", "_law_many"] 1 spPick)
    (CF : Cal P w K mg base "_law_leaf" ["_law_deck_here", "_law_holes"] 2 (spLeaf K)) (CN : Cal P w K mg base "_law_names" ["_law_deck_here", "_law_many"] 3 spNames)
    (ml : mg "len" = none) (mint : mg "int" = none) : FnOk P w K mg base CX0 4 f fd psTu (spTu K) := by
  obtain ⟨fP, fdP, GP, gP, kP, bP⟩ := CP.ex
  obtain ⟨fF, fdF, GF, gF, kF, bF⟩ := CF.ex
  obtain ⟨fN, fdN, GN, gN, kN, bN⟩ := CN.ex
  refine F.ok scTu (fun vs H Q E h => ?_) (fun cdv A outer s H vs Q E hr h => ?_)
  · obtain ⟨dk, cl, lf, ho, v, c, hs, rfl, _⟩ := h
    rfl
  · obtain ⟨dk, cl, lf, ho, v, c, hos, rfl, D0, hv, g, hfm, hho, hnm, hlen, q⟩ := h
    have hr1 : Room 1 (A.deeper (envOfC "_law_turned" (defScope sTurned) s.heap.objs.size f cdv)) := hr.mono (by omega)
    have hr2 : Room 2 (A.deeper (envOfC "_law_turned" (defScope sTurned) s.heap.objs.size f cdv)) := hr.mono (by omega)
    let psc : Ps := match c with | .parts _ ps => ps | _ => .nil
    have hpsc : ∀ v ps, c = .parts v ps → psc = ps := fun v ps e => by subst e; rfl
    refine ⟨_, pss_cons (ps_set (i := 3) scTu.nd rfl (.inl rfl) (pe_ix ix_tup (pv 1) pe_int (fun _ _ => rfl)))
      (pss_cons (ps_set (i := 4) scTu.nd rfl (.inl rfl) (pe_ix ix_list (pe_call GN hr (by rfl) gN kN bN .nil pass0 (pa_cons (pv 0) (pa_cons pe_int pa_nil))) pe_int (fun _ _ => rfl)))
      (pss_cons (ps_if (PW.pt (pw_or (pt_cmpR op_eq (pv 3) pe_str (nomark _)) (pw_or1 (pt_cmpR op_eq (pv 3) pe_str (nomark _)))))
        (pss_one (ps_ret (pe_ix ix_list (pe_lst (pa_cons (pe_tup (pa_cons (pv 3) (pa_cons (pe_op op_add pe_int (pe_op op_mod (pe_ix ix_tup (pv 1) pe_int (fun _ _ => rfl)) pe_int)) pa_nil)))
            (pa_cons (pe_tup (pa_cons (pe_ix ix_list (pe_lst (pa_cons pe_str (pa_cons pe_str pa_nil))) (pe_callTy call_int1 (by rfl) mint (by decide +kernel) (pa_cons (pe_cmpR op_eq (pv 3) pe_str (nomark _)) pa_nil)) (fun _ _ => rfl)) (pa_cons (pe_ix ix_tup (pv 1) pe_int (fun _ _ => rfl)) pa_nil))) pa_nil)))
          (pe_call GP hr1 (by rfl) gP kP bP .nil pass0 (pa_cons (pv 0) (pa_cons pe_int pa_nil))) (fun _ _ => rfl)))) pss_nil)
      (pss_cons (ps_if (PW.pt (pw_and (PW.pt (pw_or (pt_cmpR op_eq (pv 3) pe_str (nomark _)) (pw_or1 (pt_cmpR op_eq (pv 3) pe_str (nomark _))))) (pw_and1 (pt_cmpR op_gt (pe_callB call_len_seq (by rfl) ml PySem.boot_len (pa_cons (pe_ix ix_tup (pv 1) pe_int (fun _ _ => rfl)) pa_nil)) pe_int (nomark _)))))
        (pss_cons (ps_set (i := 5) scTu.nd rfl (.inl rfl) (pe_call GP hr1 (by rfl) gP kP bP .nil pass0 (pa_cons (pv 0) (pa_cons (pe_callB call_len_seq (by rfl) ml PySem.boot_len (pa_cons (pe_ix ix_tup (pv 1) pe_int (fun _ _ => rfl)) pa_nil)) pa_nil))))
        (pss_cons (ps_if (PW.pt (pw_or (pt_cmpR op_eq (pe_call GP hr1 (by rfl) gP kP bP .nil pass0 (pa_cons (pv 0) (pa_cons pe_int pa_nil))) pe_int (nomark _)) (pw_or1 (pt_cmpR op_in_seq (pv 4)
              (pe_lc (own := [("_law_called", 6), ("_law_piece", 7)]) (g := gTup K 2 (gCons (gName 6) (gCons (gName 7) gNil))) (tt := tYes) rfl scTu.nd (pi_tup (pe_ix ix_tup (pv 1) pe_int (fun _ _ => rfl)))
              (blkOk_by (N := nmTu) (sc := defScope sTurned) (by decide +kernel)) (fun _ _ _ _ _ => pg_tup (by rfl) (pgs_cons (pg_name (i := 6) scTu.nd rfl (Or.inl rfl)) (pgs_cons (pg_name (i := 7) scTu.nd rfl (Or.inl rfl)) pgs_nil))) (fun _ _ _ _ _ => pts_nil)
              (fun _ _ _ _ _ => pv 6)) (by rfl)))))
          (pss_weak (t' := tSw K dk cl lf psc) (pss_one (ps_ret (pe_tup (pa_cons (pe_ix ix_list (pe_lst (pa_cons pe_str (pa_cons pe_str pa_nil))) (pe_callTy call_int1 (by rfl) mint (by decide +kernel) (pa_cons (pe_cmpR op_eq (pv 3) pe_str (nomark _)) pa_nil)) (fun _ _ => rfl)) (pa_cons (pe_ix ix_tup (pv 1) pe_int (fun _ _ => rfl)) pa_nil))))) ?sw) pss_nil)
        (pss_weak (t' := tRe K dk cl lf psc) (pss_one (ps_ret (pe_tup (pa_cons (pv 3) (pa_cons (pe_op op_catA (pe_op op_catA (pe_slice sl_tupA (pe_ix ix_tup (pv 1) pe_int (fun _ _ => rfl)) po_none (po_some (pv 5)))
            (pe_tup (pa_cons (pe_tup (pa_cons (pv 4) (pa_cons (pe_ix ix_tup (pe_ix ix_tup (pe_ix ix_tup (pv 1) pe_int (fun _ _ => rfl)) (pv 5) (fun _ _ => rfl)) pe_int (fun _ _ => rfl)) pa_nil))) pa_nil)))
            (pe_slice sl_tupA (pe_ix ix_tup (pv 1) pe_int (fun _ _ => rfl)) (po_some (pe_op op_add (pv 5) pe_int)) po_none)) pa_nil))))) ?re))) pss_nil)
      (pss_cons (ps_if (pt_cmpR op_eq (pv 3) pe_str (nomark _)) (pss_one (ps_ret (pe_tup (pa_cons pe_str (pa_cons (pe_op op_add pe_int (pe_op op_mod (pe_ix ix_tup (pv 1) pe_int (fun _ _ => rfl)) pe_int)) (pa_cons (pe_ix ix_tup (pv 1) pe_int (fun _ _ => rfl)) pa_nil)))))) pss_nil)
      (pss_cons (ps_if (PW.pt (pw_or (pt_cmpR op_eq (pv 3) pe_str (nomark _)) (pw_or1 (pt_cmpR op_eq (pv 3) pe_str (nomark _)))))
        (pss_one (ps_ret (pe_tup (pa_cons (pe_ix ix_list (pe_lst (pa_cons pe_str (pa_cons pe_str pa_nil))) (pe_callTy call_int1 (by rfl) mint (by decide +kernel) (pa_cons (pe_cmpR op_eq (pv 3) pe_str (nomark _)) pa_nil)) (fun _ _ => rfl)) (pa_cons (pe_ix ix_tup (pv 1) pe_int (fun _ _ => rfl)) pa_nil))))) pss_nil)
      (pss_cons (ps_if (pt_cmpR op_eq (pv 3) pe_str (nomark _))
        (pss_one (ps_ret (pe_ix ix_list (pe_lst (pa_cons (pe_tup (pa_cons pe_str (pa_cons (pv 4) (pa_cons (pe_ix ix_tup (pv 1) pe_int (fun _ _ => rfl)) pa_nil)))) (pa_cons (pe_tup (pa_cons pe_str (pa_cons (pe_ix ix_tup (pv 1) pe_int (fun _ _ => rfl)) (pa_cons (pe_op op_catA (pe_ix ix_tup (pv 1) pe_int (fun _ _ => rfl)) (pe_tup (pa_cons (pe_tup (pa_cons pe_str pa_nil)) pa_nil))) pa_nil)))) pa_nil)))
          (pe_call GP hr1 (by rfl) gP kP bP .nil pass0 (pa_cons (pv 0) (pa_cons pe_int pa_nil))) (fun _ _ => rfl)))) pss_nil)
      (pss_cons (ps_if (pt_cmpR op_eq (pv 3) pe_str (nomark _)) (pss_one (ps_ret (pe_tup (pa_cons pe_str (pa_cons (pv 4) pa_nil))))) pss_nil)
      (pss_one (ps_ret (pe_call GF hr2 (by rfl) gF kF bF .nil pass0 (pa_cons (pv 0) (pa_cons (pv 2) pa_nil)))))))))))), ?_⟩
    case sw =>
      intro D σ H1 hh
      obtain ⟨a, b, vs, v, y2, y4, y5, y6, y7, rfl, ha, hb, hall, gp, D1, q1⟩ := hh
      refine ⟨(by show 2 ≤ sizeLine; decide), fun l2 nl2 => ?_⟩
      have s8 : Same H1 (upd H1 l2 (.lst [.str (Str.ofString "record"), .str (Str.ofString "variant")])) := same_upd nl2
      have c8 : (upd H1 l2 (.lst [.str (Str.ofString "record"), .str (Str.ofString "variant")])) l2 = some (.lst [.str (Str.ofString "record"), .str (Str.ofString "variant")]) := upd_same
      generalize hH8 : upd H1 l2 (HO.lst [.str (Str.ofString "record"), .str (Str.ofString "variant")]) = H8 at s8 c8
      refine ⟨_, rfl, rfl, .inr ⟨_, rfl, ?_⟩⟩
      obtain ⟨vv, hvv⟩ : ∃ vv : Bool, atI [V.str (S "record"), V.str (S "variant")] (if decide (V.str (S (wP v)) = V.str (S "record")) = true then 1 else 0) = some (.str (S (wP vv))) := by
        by_cases z : decide (V.str (S (wP v)) = V.str (S "record")) = true
        · exact ⟨true, by rw [if_pos z]; rfl⟩
        · exact ⟨false, by rw [if_neg z]; rfl⟩
      refine ⟨l2, _, _, _, rfl, rfl, .inl (.inl c8), hvv, .ref a, rfl, a, _, 1, .ref b, rfl, rfl, ts_same s8 _ _ ha, atI_nat (j := 1) rfl, (by show 2 ≤ sizeLine; decide), fun t nt => ?_⟩
      have s9 : Same H8 (upd H8 t (.tup [.str (S (wP vv)), .ref b])) := same_upd nt
      have t9 : TS K H1 (upd H8 t (.tup [.str (S (wP vv)), .ref b])) := ts_same (s8.trans s9)
      exact q1 (.ref t) (.parts vv psc) _ (D1.same (s8.trans s9)) (KD.of_same (s8.trans s9)) (.tup (.inl (.inl upd_same)) (.cons (.str _) (.cons (.tup (t9 _ _ hb) (t9.dps _ _ (pl_P _ gp).1 hall)) .nil))) gp (by simp only [dpt]; omega) (by simp only [fm]; omega)
    case re =>
      intro D σ H1 hh
      obtain ⟨a, b, vs, v, nm, i, y2, y6, y7, rfl, ha, hb, hall, gp, hnm', hi, hv100, D1, q1⟩ := hh
      have lx := dpAll_len hall
      obtain ⟨n0, c0, hget⟩ := getP_lt psc i (by omega)
      obtain ⟨a1, a2, -⟩ := ps_ctx psc i n0 c0 hget
      obtain ⟨b1, b2, b3, b4⟩ := setN_ok psc i n0 c0 nm hget
      have gx : vs[i]? = some vs[i] := List.getElem?_eq_getElem hi
      obtain ⟨di, k1, k2⟩ := dpAll_get hall gx
      obtain rfl := Option.some.inj (a1.symm.trans k1)
      obtain ⟨t0, us, e0, ht0, hus⟩ := dTup k2
      obtain ⟨x1, x2, rfl, hx1, hx2⟩ := all2 hus
      have gc := (a2 gp).2
      refine ⟨_, rfl, .ref a, rfl, a, _, 1, .ref b, rfl, rfl, ha, atI_nat (j := 1) rfl, ?_⟩
      dsimp only [tNoPart]
      refine ⟨_, rfl, _, rfl, slA_any hb fun r1 H2 s1 h1 => ?_⟩
      rw [cut_take] at h1
      have t1 : TS K H1 H2 := ts_same s1
      refine ⟨_, rfl, .ref a, rfl, a, _, 1, .ref b, rfl, rfl, t1 _ _ ha, atI_nat (j := 1) rfl, _, rfl, b, vs, _, .ref t0, rfl, rfl, t1 _ _ hb, atI_nat (gx.trans (congrArg _ e0)), t0, _, 1, x2, rfl, rfl, t1 _ _ ht0, atI_nat (j := 1) rfl, (by show 2 ≤ sizeLine; decide), fun o no => ?_⟩
      have s3 : Same H2 (upd H2 o (.tup [.str nm, x2])) := same_upd no
      have c3 : (upd H2 o (.tup [.str nm, x2])) o = some (.tup [.str nm, x2]) := upd_same
      generalize hH3 : upd H2 o (HO.tup [.str nm, x2]) = H3 at s3 c3
      refine ⟨(by show 1 ≤ sizeLine; decide), fun t nt => ?_⟩
      have s4 : Same H3 (upd H3 t (.tup [.ref o])) := same_upd nt
      have c4 : (upd H3 t (.tup [.ref o])) t = some (.tup [.ref o]) := upd_same
      generalize hH4 : upd H3 t (HO.tup [.ref o]) = H4 at s4 c4
      refine catA_any (ts_same (s3.trans s4) _ _ h1) (.inl (.inl c4)) ?_ fun r5 H5 s5 h5 => ?_
      · rw [List.length_take]
        exact Nat.le_trans (show min i vs.length + [V.ref o].length ≤ 4000001 by simp; omega) (by decide)
      have t5 : TS K H1 H5 := t1.trans (ts_same (s3.trans (s4.trans s5)))
      refine ⟨.ref a, rfl, a, _, 1, .ref b, rfl, rfl, t5 _ _ ha, atI_nat (j := 1) rfl, _, rfl, _, _, rfl, rfl, ((i : Int) + 1), rfl, ?_⟩
      dsimp only [tNoPart]
      refine slA_any (t5 _ _ hb) fun r6 H6 s6 h6 => ?_
      rw [show (i : Int) + 1 = ((i + 1 : Nat) : Int) by omega, cut_drop] at h6
      refine catA_any (ts_same s6 _ _ h5) h6 ?_ fun r7 H7 s7 h7 => ?_
      · rw [List.length_append, List.length_take, List.length_drop]
        exact Nat.le_trans (show min i vs.length + [V.ref o].length + (vs.length - (i + 1)) ≤ 4000001 by simp; omega) (by decide)
      refine ⟨(by show 2 ≤ sizeLine; decide), fun tt ntt => ?_⟩
      have s8 : Same H7 (upd H7 tt (.tup [.str (S (wP v)), .ref r7])) := same_upd ntt
      have s18 := s1.trans (s3.trans (s4.trans (s5.trans (s6.trans (s7.trans s8)))))
      have t8 : TS K H1 (upd H7 tt (.tup [.str (S (wP v)), .ref r7])) := ts_same s18
      have hall8 := t8.dps _ _ (pl_P _ gp).1 hall
      refine q1 (.ref tt) (.parts v (setN psc i nm)) _ (D1.same s18) (KD.of_same s18) (.tup (.inl (.inl upd_same)) (.cons (.str _) (.cons ?_ .nil))) (b2 gp hnm') (by simp only [dpt]; omega) (by simp only [fm]; omega)
      rw [b1]
      refine .tup (ts_same s8 _ _ h7) (dpAll_append (dpAll_append (dpAll_take i hall8) (.cons (.tup ((ts_same (s4.trans (s5.trans (s6.trans (s7.trans s8))))) _ _ (.inl (.inl c3))) (.cons (.str _) (.cons (t8.dp _ _ (pl_D c0 gc).1 hx2) .nil))) .nil)) (dpAll_drop (i + 1) hall8))
    obtain ⟨a, ws0, rfl, hs0, -⟩ := K2.dk hv
    refine ⟨.ref a, rfl, a, _, 0, .str (S (wd c)), rfl, rfl, hs0, atI_nat (j := 0) rfl, ?_⟩
    refine ⟨.ref dk, rfl, dk, cl, lf, 1, rfl, D0, by decide, by decide, fun p ns H1 hns hnl np hp D1 k1 => ?_⟩
    obtain ⟨nm, rfl⟩ : ∃ nm, ns = [nm] := List.length_eq_one_iff.mp (by omega)
    have gnm : Nm nm := hns nm (by simp)
    refine ⟨p, _, 0, .str nm, rfl, rfl, .inl (.inl hp), atI_nat (j := 0) rfl, ?_⟩
    have t1 : TS K H H1 := D0.ts k1
    have q1 := q.to k1
    have hv1 := t1.dp _ _ (pl_D c g).1 hv
    obtain ⟨a', ws, ea, hs, ha⟩ := K2.dk hv1
    obtain rfl : a = a' := V.ref.inj ea
    have leaf : ∀ D : Ends, D.rt = Q → tRet (tCall (spLeaf K) [] E0 (tCons (tVar 0) (tCons (tVar 2) tNil))) D [some (.ref dk), some (.ref a), some (.ref ho), some (.str (S (wd c))), some (.str nm), none, none, none] H1 := fun D hD => by
      refine ⟨.ref dk, rfl, .ref ho, rfl, dk, cl, lf, ho, hos, rfl, D1, t1 _ _ hho, hnm, hlen, fun v k H' a b c' d e f => ?_⟩
      rw [hD]
      exact q1 v k H' a b c' d (by have := dpt_pos c; omega) (by have := fm_pos c; omega)
    cases c with
    | num i b =>
      obtain ⟨x, rfl, hx⟩ := all1 ha
      obtain rfl := dInt hx
      refine ⟨_, rfl, rfl, _, rfl, orI ?_ (fun hc X => ⟨_, rfl, rfl, _, rfl, tT (by cases i with | false => exact absurd (decide_eq_true rfl) hc | true => rfl) X⟩)⟩
      refine ⟨_, rfl, .ref a, rfl, a, _, 1, .int b, rfl, rfl, hs, atI_nat (j := 1) rfl, _, _, rfl, rfl, (by show (0 : Int) < 64; decide), _, _, rfl, rfl, (by show 2 ≤ sizeLine; decide), fun o1 no1 => ?_⟩
      have s2 : Same H1 (upd H1 o1 (.tup [.str (S (wd (Kd.num i b))), .int (1 + b % 64)])) := same_upd no1
      have c2 : (upd H1 o1 (.tup [.str (S (wd (Kd.num i b))), .int (1 + b % 64)])) o1 = some (.tup [.str (S (wd (Kd.num i b))), .int (1 + b % 64)]) := upd_same
      generalize hH2 : upd H1 o1 (HO.tup [.str (S (wd (Kd.num i b))), .int (1 + b % 64)]) = H2 at s2 c2 ⊢
      refine ⟨(by show 2 ≤ sizeLine; decide), fun l2 nl2 => ?_⟩
      have s3 : Same H2 (upd H2 l2 (.lst [.str (Str.ofString "nat"), .str (Str.ofString "int")])) := same_upd nl2
      have c3 : (upd H2 l2 (.lst [.str (Str.ofString "nat"), .str (Str.ofString "int")])) l2 = some (.lst [.str (Str.ofString "nat"), .str (Str.ofString "int")]) := upd_same
      generalize hH3 : upd H2 l2 (HO.lst [.str (Str.ofString "nat"), .str (Str.ofString "int")]) = H3 at s3 c3
      refine ⟨_, rfl, rfl, .inr ⟨_, rfl, ?_⟩⟩
      obtain ⟨vv, hvv⟩ : ∃ vv : Bool, atI [V.str (S "nat"), V.str (S "int")] (if decide (V.str (S (wN i)) = V.str (S "nat")) = true then 1 else 0) = some (.str (S (wN vv))) := by
        by_cases z : decide (V.str (S (wN i)) = V.str (S "nat")) = true
        · exact ⟨true, by rw [if_pos z]; rfl⟩
        · exact ⟨false, by rw [if_neg z]; rfl⟩
      refine ⟨l2, _, _, _, rfl, rfl, .inl (.inl c3), hvv, .ref a, rfl, a, _, 1, .int b, rfl, rfl, ts_same (s2.trans s3) _ _ hs, atI_nat (j := 1) rfl, (by show 2 ≤ sizeLine; decide), fun o2 no2 => ?_⟩
      have s4 : Same H3 (upd H3 o2 (.tup [.str (S (wN vv)), .int b])) := same_upd no2
      have c4 : (upd H3 o2 (.tup [.str (S (wN vv)), .int b])) o2 = some (.tup [.str (S (wN vv)), .int b]) := upd_same
      generalize hH4 : upd H3 o2 (HO.tup [.str (S (wN vv)), .int b]) = H4 at s4 c4
      refine ⟨(by show 2 ≤ sizeLine; decide), fun l5 nl5 => ?_⟩
      have s5 : Same H4 (upd H4 l5 (.lst [.ref o1, .ref o2])) := same_upd nl5
      have c5 : (upd H4 l5 (.lst [.ref o1, .ref o2])) l5 = some (.lst [.ref o1, .ref o2]) := upd_same
      generalize hH5 : upd H4 l5 (HO.lst [.ref o1, .ref o2]) = H5 at s5 c5
      have s15 : Same H1 H5 := s2.trans (s3.trans (s4.trans s5))
      have D5 := D1.same s15
      have n5 := (D1.same (s2.trans (s3.trans s4))).not nl5
      refine ⟨.ref dk, rfl, dk, cl, lf, 2, rfl, D5, by decide, by decide +kernel, fun z H6 z0 z1 D6 k6 => ?_⟩
      have t6 : TS K H5 H6 := D5.ts k6
      have kk := (KD.of_same (dk := dk) (lf := lf) s15).trans k6
      rcases (show z = 0 ∨ z = 1 by omega) with rfl | rfl
      · refine ⟨l5, _, 0, .ref o1, rfl, rfl, .inl (.inl (k6 _ _ n5.1 n5.2.2 c5)), rfl, ?_⟩
        exact q1 (.ref o1) (.num i (1 + b % 64)) H6 D6 kk (.tup (t6 _ _ (.inl (.inl (s5 _ _ (s4 _ _ (s3 _ _ c2)))))) (.cons (.str _) (.cons (.int _) .nil))) ⟨by omega, by omega⟩ (by simp only [dpt]; omega) (by simp only [fm]; omega)
      · refine ⟨l5, _, 1, .ref o2, rfl, rfl, .inl (.inl (k6 _ _ n5.1 n5.2.2 c5)), rfl, ?_⟩
        exact q1 (.ref o2) (.num vv b) H6 D6 kk (.tup (t6 _ _ (.inl (.inl (s5 _ _ c4)))) (.cons (.str _) (.cons (.int _) .nil))) g (by simp only [dpt]; omega) (by simp only [fm]; omega)
    | truth =>
      exact ⟨_, rfl, rfl, _, rfl, tF (show S "truth" ≠ S "nat" by decide +kernel) ⟨_, rfl, rfl, _, rfl, tF (show S "truth" ≠ S "int" by decide +kernel) ⟨_, rfl, rfl, _, rfl, tF (show S "truth" ≠ S "record" by decide +kernel) ⟨_, rfl, rfl, _, rfl, tF (show S "truth" ≠ S "variant" by decide +kernel) (iteFa ⟨_, rfl, rfl, _, rfl, tF (show S "truth" ≠ S "row" by decide +kernel) ⟨_, rfl, rfl, _, rfl, tF (show S "truth" ≠ S "maybe" by decide +kernel) ⟨_, rfl, rfl, _, rfl, tF (show S "truth" ≠ S "box" by decide +kernel) ⟨_, rfl, rfl, _, rfl, tF (show S "truth" ≠ S "use" by decide +kernel) ⟨_, rfl, rfl, _, rfl, tF (show S "truth" ≠ S "hole" by decide +kernel) (leaf _ rfl)⟩⟩⟩⟩⟩)⟩⟩⟩⟩
    | hole n =>
      refine ⟨_, rfl, rfl, _, rfl, tF (show S "hole" ≠ S "nat" by decide +kernel) ⟨_, rfl, rfl, _, rfl, tF (show S "hole" ≠ S "int" by decide +kernel) ⟨_, rfl, rfl, _, rfl, tF (show S "hole" ≠ S "record" by decide +kernel) ⟨_, rfl, rfl, _, rfl, tF (show S "hole" ≠ S "variant" by decide +kernel) (iteFa ⟨_, rfl, rfl, _, rfl, tF (show S "hole" ≠ S "row" by decide +kernel) ⟨_, rfl, rfl, _, rfl, tF (show S "hole" ≠ S "maybe" by decide +kernel) ⟨_, rfl, rfl, _, rfl, tF (show S "hole" ≠ S "box" by decide +kernel) ⟨_, rfl, rfl, _, rfl, tF (show S "hole" ≠ S "use" by decide +kernel) ⟨_, rfl, rfl, _, rfl, tT rfl ?_⟩⟩⟩⟩⟩)⟩⟩⟩⟩
      refine ⟨_, rfl, (by show 2 ≤ sizeLine; decide), fun t nt => ?_⟩
      exact q1 (.ref t) (.hole nm) _ (D1.same (same_upd nt)) (KD.of_same (same_upd nt)) (.tup (.inl (.inl upd_same)) (.cons (.str _) (.cons (.str _) .nil))) gnm (by simp only [dpt]; omega) (by simp only [fm]; omega)
    | row m k0 =>
      obtain ⟨x, y, rfl, hx, hy⟩ := all2 ha
      obtain rfl := dInt hx
      refine ⟨_, rfl, rfl, _, rfl, tF (show S "row" ≠ S "nat" by decide +kernel) ⟨_, rfl, rfl, _, rfl, tF (show S "row" ≠ S "int" by decide +kernel) ⟨_, rfl, rfl, _, rfl, tF (show S "row" ≠ S "record" by decide +kernel) ⟨_, rfl, rfl, _, rfl, tF (show S "row" ≠ S "variant" by decide +kernel) (iteFa ⟨_, rfl, rfl, _, rfl, tT rfl ?_⟩)⟩⟩⟩⟩
      refine ⟨.ref a, rfl, a, _, 1, .int m, rfl, rfl, hs, atI_nat (j := 1) rfl, _, _, rfl, rfl, (by show (0 : Int) < 16; decide), _, _, rfl, rfl, .ref a, rfl, a, _, 2, y, rfl, rfl, hs, atI_nat (j := 2) rfl, (by show 3 ≤ sizeLine; decide), fun t nt => ?_⟩
      exact q1 (.ref t) (.row (1 + m % 16) k0) _ (D1.same (same_upd nt)) (KD.of_same (same_upd nt)) (.tup (.inl (.inl upd_same)) (.cons (.str _) (.cons (.int _) (.cons ((ts_new nt).dp _ _ (pl_D k0 g.2).1 hy) .nil)))) ⟨⟨by omega, by omega⟩, g.2⟩ (by simp only [dpt]; omega) (by simp only [fm]; omega)
    | one bb k0 =>
      obtain ⟨x, rfl, hx⟩ := all1 ha
      have n1 : S (wO bb) ≠ S "nat" := by cases bb <;> decide +kernel
      have n2 : S (wO bb) ≠ S "int" := by cases bb <;> decide +kernel
      have n3 : S (wO bb) ≠ S "record" := by cases bb <;> decide +kernel
      have n4 : S (wO bb) ≠ S "variant" := by cases bb <;> decide +kernel
      have n5 : S (wO bb) ≠ S "row" := by cases bb <;> decide +kernel
      refine ⟨_, rfl, rfl, _, rfl, tF n1 ⟨_, rfl, rfl, _, rfl, tF n2 ⟨_, rfl, rfl, _, rfl, tF n3 ⟨_, rfl, rfl, _, rfl, tF n4 (iteFa ⟨_, rfl, rfl, _, rfl, tF n5 ⟨_, rfl, rfl, _, rfl, orI ?_ (fun hc X => ⟨_, rfl, rfl, _, rfl, tT (by cases bb with | false => exact absurd (decide_eq_true rfl) hc | true => rfl) X⟩)⟩⟩)⟩⟩⟩⟩
      refine ⟨(by show 2 ≤ sizeLine; decide), fun l2 nl2 => ?_⟩
      have s8 : Same H1 (upd H1 l2 (.lst [.str (Str.ofString "maybe"), .str (Str.ofString "box")])) := same_upd nl2
      have c8 : (upd H1 l2 (.lst [.str (Str.ofString "maybe"), .str (Str.ofString "box")])) l2 = some (.lst [.str (Str.ofString "maybe"), .str (Str.ofString "box")]) := upd_same
      generalize hH8 : upd H1 l2 (HO.lst [.str (Str.ofString "maybe"), .str (Str.ofString "box")]) = H8 at s8 c8
      refine ⟨_, rfl, rfl, .inr ⟨_, rfl, ?_⟩⟩
      obtain ⟨vv, hvv⟩ : ∃ vv : Bool, atI [V.str (S "maybe"), V.str (S "box")] (if decide (V.str (S (wO bb)) = V.str (S "maybe")) = true then 1 else 0) = some (.str (S (wO vv))) := by
        by_cases z : decide (V.str (S (wO bb)) = V.str (S "maybe")) = true
        · exact ⟨true, by rw [if_pos z]; rfl⟩
        · exact ⟨false, by rw [if_neg z]; rfl⟩
      refine ⟨l2, _, _, _, rfl, rfl, .inl (.inl c8), hvv, .ref a, rfl, a, _, 1, x, rfl, rfl, ts_same s8 _ _ hs, atI_nat (j := 1) rfl, (by show 2 ≤ sizeLine; decide), fun t nt => ?_⟩
      have s9 : Same H8 (upd H8 t (.tup [.str (S (wO vv)), x])) := same_upd nt
      exact q1 (.ref t) (.one vv k0) _ (D1.same (s8.trans s9)) (KD.of_same (s8.trans s9)) (.tup (.inl (.inl upd_same)) (.cons (.str _) (.cons ((ts_same (s8.trans s9)).dp _ _ (pl_D k0 g).1 hx) .nil))) g (by simp only [dpt]; omega) (by simp only [fm]; omega)
    | use n fs =>
      obtain ⟨x, y, rfl, hx, hy⟩ := all2 ha
      obtain rfl := dStr hx
      obtain ⟨b, vs, rfl, hsb, hvs⟩ := dTup hy
      have hgp : goodK fs := g.2
      have hfp : fmK fs + 1 ≤ 100 := hfm
      have hle : vs.length ≤ 100 := by
        have h1 := dpAll_len hvs
        have h2 := entK_len fs 0
        have h3 : (entK 0 fs).length ≤ fmK fs := by rw [← entK_fm fs 0]; exact len_fmE _
        omega
      obtain ⟨b1, b2, b3, b4⟩ := addK_ok fs
      refine ⟨_, rfl, rfl, _, rfl, tF (show S "use" ≠ S "nat" by decide +kernel) ⟨_, rfl, rfl, _, rfl, tF (show S "use" ≠ S "int" by decide +kernel) ⟨_, rfl, rfl, _, rfl, tF (show S "use" ≠ S "record" by decide +kernel) ⟨_, rfl, rfl, _, rfl, tF (show S "use" ≠ S "variant" by decide +kernel) (iteFa ⟨_, rfl, rfl, _, rfl, tF (show S "use" ≠ S "row" by decide +kernel) ⟨_, rfl, rfl, _, rfl, tF (show S "use" ≠ S "maybe" by decide +kernel) ⟨_, rfl, rfl, _, rfl, tF (show S "use" ≠ S "box" by decide +kernel) ⟨_, rfl, rfl, _, rfl, tT rfl ?_⟩⟩⟩⟩)⟩⟩⟩⟩
      refine ⟨_, rfl, .ref a, rfl, a, _, 2, .ref b, rfl, rfl, hs, atI_nat (j := 2) rfl, (by show 3 ≤ sizeLine; decide), fun o1 no1 => ?_⟩
      have s2 : Same H1 (upd H1 o1 (.tup [.str (Str.ofString "use"), .str nm, .ref b])) := same_upd no1
      have c2 : (upd H1 o1 (.tup [.str (Str.ofString "use"), .str nm, .ref b])) o1 = some (.tup [.str (Str.ofString "use"), .str nm, .ref b]) := upd_same
      generalize hH2 : upd H1 o1 (HO.tup [.str (Str.ofString "use"), .str nm, .ref b]) = H2 at s2 c2
      have t2 : TS K H1 H2 := ts_same s2
      refine ⟨.ref a, rfl, a, _, 1, .str n, rfl, rfl, t2 _ _ hs, atI_nat (j := 1) rfl, .ref a, rfl, a, _, 2, .ref b, rfl, rfl, t2 _ _ hs, atI_nat (j := 2) rfl, (by show 1 ≤ sizeLine; decide), fun u1 nu1 => ?_⟩
      have s3 : Same H2 (upd H2 u1 (.tup [.str (Str.ofString "truth")])) := same_upd nu1
      have c3 : (upd H2 u1 (.tup [.str (Str.ofString "truth")])) u1 = some (.tup [.str (Str.ofString "truth")]) := upd_same
      generalize hH3 : upd H2 u1 (HO.tup [.str (Str.ofString "truth")]) = H3 at s3 c3
      refine ⟨(by show 1 ≤ sizeLine; decide), fun u2 nu2 => ?_⟩
      have s4 : Same H3 (upd H3 u2 (.tup [.ref u1])) := same_upd nu2
      have c4 : (upd H3 u2 (.tup [.ref u1])) u2 = some (.tup [.ref u1]) := upd_same
      generalize hH4 : upd H3 u2 (HO.tup [.ref u1]) = H4 at s4 c4
      refine catA_any (ts_same (s2.trans (s3.trans s4)) _ _ hsb) (.inl (.inl c4)) ?_ fun r H5 s5 h5 => ?_
      · exact Nat.le_trans (show vs.length + 1 ≤ 101 by omega) (by decide)
      refine ⟨(by show 3 ≤ sizeLine; decide), fun o2 no2 => ?_⟩
      have s6 : Same H5 (upd H5 o2 (.tup [.str (Str.ofString "use"), .str n, .ref r])) := same_upd no2
      have c6 : (upd H5 o2 (.tup [.str (Str.ofString "use"), .str n, .ref r])) o2 = some (.tup [.str (Str.ofString "use"), .str n, .ref r]) := upd_same
      generalize hH6 : upd H5 o2 (HO.tup [.str (Str.ofString "use"), .str n, .ref r]) = H6 at s6 c6
      refine ⟨(by show 2 ≤ sizeLine; decide), fun l7 nl7 => ?_⟩
      have s7 : Same H6 (upd H6 l7 (.lst [.ref o1, .ref o2])) := same_upd nl7
      have c7 : (upd H6 l7 (.lst [.ref o1, .ref o2])) l7 = some (.lst [.ref o1, .ref o2]) := upd_same
      generalize hH7 : upd H6 l7 (HO.lst [.ref o1, .ref o2]) = H7 at s7 c7
      have s27 : Same H2 H7 := s3.trans (s4.trans (s5.trans (s6.trans s7)))
      have s17 : Same H1 H7 := s2.trans s27
      have D7 := D1.same s17
      have n7 := (D1.same (s2.trans (s3.trans (s4.trans (s5.trans s6))))).not nl7
      refine ⟨.ref dk, rfl, dk, cl, lf, 2, rfl, D7, by decide, by decide +kernel, fun z H8 z0 z1 D8 k8 => ?_⟩
      have t8 : TS K H7 H8 := D7.ts k8
      have t18 : TS K H1 H8 := (ts_same s17).trans t8
      have kk := (KD.of_same (dk := dk) (lf := lf) s17).trans k8
      have hall8 := t18.dps _ _ (pl_K _ hgp).1 hvs
      rcases (show z = 0 ∨ z = 1 by omega) with rfl | rfl
      · refine ⟨l7, _, 0, .ref o1, rfl, rfl, .inl (.inl (k8 _ _ n7.1 n7.2.2 c7)), rfl, ?_⟩
        exact q1 (.ref o1) (.use nm fs) H8 D8 kk (.tup (t8 _ _ (.inl (.inl (s27 _ _ c2)))) (.cons (.str _) (.cons (.str _) (.cons (.tup (t18 _ _ hsb) hall8) .nil)))) ⟨gnm, hgp⟩ (by simp only [dpt]; omega) (by simp only [fm]; omega)
      · refine ⟨l7, _, 1, .ref o2, rfl, rfl, .inl (.inl (k8 _ _ n7.1 n7.2.2 c7)), rfl, ?_⟩
        refine q1 (.ref o2) (.use n (addK fs)) H8 D8 kk (.tup (t8 _ _ (.inl (.inl (s7 _ _ c6)))) (.cons (.str _) (.cons (.str _) (.cons ?_ .nil)))) ⟨g.1, b2 hgp⟩ (by simp only [dpt]; omega) (by simp only [fm]; omega)
        rw [b1]
        exact .tup (t8 _ _ (ts_same (s6.trans s7) _ _ h5)) (dpAll_append hall8 (.cons (.tup (t8 _ _ (.inl (.inl (s7 _ _ (s6 _ _ (s5 _ _ (s4 _ _ c3))))))) (.cons (.str _) .nil)) .nil))
    | parts v ps =>
      obtain ⟨x, rfl, hx⟩ := all1 ha
      obtain ⟨b, vs, rfl, hsb, hvs⟩ := dTup hx
      have epsc : psc = ps := hpsc v ps rfl
      have hgp : goodP ps := g
      have hfp : fmP ps + 1 ≤ 100 := hfm
      have hle : vs.length ≤ 100 := by
        have h1 := dpAll_len hvs
        have h2 := entP_len ps 0
        have h3 : (entP 0 ps).length ≤ fmP ps := by rw [← entP_fm ps 0]; exact len_fmE _
        omega
      have n1 : S (wP v) ≠ S "nat" := by cases v <;> decide +kernel
      have n2 : S (wP v) ≠ S "int" := by cases v <;> decide +kernel
      have n5 : S (wP v) ≠ S "row" := by cases v <;> decide +kernel
      have n6 : S (wP v) ≠ S "maybe" := by cases v <;> decide +kernel
      have n7 : S (wP v) ≠ S "box" := by cases v <;> decide +kernel
      have n8 : S (wP v) ≠ S "use" := by cases v <;> decide +kernel
      have n9 : S (wP v) ≠ S "hole" := by cases v <;> decide +kernel
      refine ⟨_, rfl, rfl, _, rfl, tF n1 ⟨_, rfl, rfl, _, rfl, tF n2 ⟨_, rfl, rfl, _, rfl, orI (iteT ?_) (fun hc X => ⟨_, rfl, rfl, _, rfl, tT (by cases v with | false => exact absurd (decide_eq_true rfl) hc | true => rfl) (iteT_inv X)⟩)⟩⟩⟩
      refine ⟨.ref a, rfl, a, _, 1, .ref b, rfl, rfl, hs, atI_nat (j := 1) rfl, b, vs, rfl, .inr hsb, _, _, rfl, rfl, _, rfl, ite2 (fun e => ?_) (fun _ => ?_)⟩
      · have hpos : 0 < ((vs.length : Nat) : Int) := of_decide_eq_true e
        refine ⟨.ref dk, rfl, .ref a, rfl, a, _, 1, .ref b, rfl, rfl, hs, atI_nat (j := 1) rfl, b, vs, rfl, .inr hsb, dk, cl, lf, _, rfl, D1, hpos, lg100 hpos (by omega), fun at_ H2 a0 a1 D2 k2 => ?_⟩
        obtain ⟨i, rfl⟩ : ∃ i : Nat, at_ = (i : Int) := ⟨at_.toNat, by omega⟩
        refine ⟨.ref dk, rfl, dk, cl, lf, 3, rfl, D2, by decide, by decide +kernel, fun c3 H3 c0 c1 D3 k3 => ?_⟩
        have k13 := k2.trans k3
        have t13 : TS K H1 H3 := D1.ts k13
        refine ⟨rfl, _, rfl, ite2 (fun _ => ?_) (fun _ => ?_)⟩
        · exact ⟨a, b, vs, v, _, _, _, _, _, rfl, t13 _ _ hs, t13 _ _ hsb, by rw [epsc]; exact t13.dps _ _ (pl_P _ hgp).1 hvs, by rw [epsc]; exact hgp, D3, by rw [epsc]; exact q1.to k13⟩
        · refine ⟨_, rfl, .ref a, rfl, a, _, 1, .ref b, rfl, rfl, t13 _ _ hs, atI_nat (j := 1) rfl, b, rfl, ⟨_, t13 _ _ hsb⟩, fun Dd hDd => lc_tup (xs := vs) (fun j H' => ∃ ys : List Str, ys.length = j ∧ H' Dd = some (.lst (ys.map V.str)) ∧ Same H3 H') ⟨[], rfl, upd_same, same_upd hDd⟩ (fun j H' _ hP => ?_) (fun j x H' hx hP => ?_) (fun H' hP => ?_)⟩
          · obtain ⟨_, _, _, sm⟩ := hP
            exact ts_same sm _ _ (t13 _ _ hsb)
          · obtain ⟨ys, el, eD, sm⟩ := hP
            have t14 : TS K H1 H' := t13.trans (ts_same sm)
            have hj : j < vs.length := (List.getElem?_eq_some_iff.mp hx).1
            obtain ⟨n0, c0', hget⟩ := getP_lt ps j (by rw [← dpAll_len hvs]; exact hj)
            obtain ⟨a1', a2', -⟩ := ps_ctx ps j n0 c0' hget
            obtain ⟨di, e1, e2⟩ := dpAll_get (t14.dps _ _ (pl_P _ hgp).1 hvs) hx
            obtain rfl := Option.some.inj (a1'.symm.trans e1)
            obtain ⟨t0, us, rfl, ht0, hus⟩ := dTup e2
            obtain ⟨x1, x2, rfl, hx1, hx2⟩ := all2 hus
            obtain rfl := dStr hx1
            refine ⟨t0, [.str n0, x2], rfl, ht0, rfl, .str n0, [x2], rfl, x2, [], rfl, rfl, rfl, ?_⟩
            refine iteT (B := ∃ ys : List Str, ys.length = j + 1 ∧ H' Dd = some (.lst (ys.map V.str)) ∧ Same H3 H') ?_
            refine ⟨_, rfl, _, eD, ?_, ys ++ [n0], ?_, ?_, ?_⟩
            · rw [List.length_map]
              exact Nat.lt_of_le_of_lt (show ys.length ≤ 100000 by omega) (by decide)
            · rw [List.length_append, el]; rfl
            · rw [upd_same, List.map_append]; rfl
            · intro b' o eb
              rw [upd_ne (ne_of_none eb hDd)]
              exact sm b' o eb
          · obtain ⟨ys, el, eD, sm⟩ := hP
            have t14 : TS K H1 H' := t13.trans (ts_same sm)
            have k14 := k13.trans (KD.of_same (dk := dk) (lf := lf) sm)
            refine ⟨Dd, _, rfl, .inl (.inl (.inl eD)), rfl, (by rw [List.all_eq_true]; intro z hz; obtain ⟨s', _, rfl⟩ := List.mem_map.mp hz; rfl), _, rfl, ite2 (fun _ => ?_) (fun _ => ?_)⟩
            · exact ⟨a, b, vs, v, _, _, _, _, _, rfl, t14 _ _ hs, t14 _ _ hsb, by rw [epsc]; exact t14.dps _ _ (pl_P _ hgp).1 hvs, by rw [epsc]; exact hgp, D3.same sm, by rw [epsc]; exact q1.to k14⟩
            · exact ⟨a, b, vs, v, nm, i, _, _, _, rfl, t14 _ _ hs, t14 _ _ hsb, by rw [epsc]; exact t14.dps _ _ (pl_P _ hgp).1 hvs, by rw [epsc]; exact hgp, gnm, by omega, hle, D3.same sm, by rw [epsc]; exact q1.to k14⟩
      · exact ⟨_, rfl, rfl, _, rfl, tF n5 ⟨_, rfl, rfl, _, rfl, tF n6 ⟨_, rfl, rfl, _, rfl, tF n7 ⟨_, rfl, rfl, _, rfl, tF n8 ⟨_, rfl, rfl, _, rfl, tF n9 (leaf _ rfl)⟩⟩⟩⟩⟩
end
end K2
namespace K2
open PySem PySem.Spec PyProof.Rows L2 K1
open TL (tl joinL)
abbrev sLaw : Stmt := topS 16
abbrev nmW : List Str := ["_law_script", "_law_deck_here", "_law_change", "_law_where", "_law_room", "_law_names_here", "_law_heads", "_law_holes", "_law_one", "_law_other", "_law_places", "_law_place", "_law_held", "_law_left", "_law_right", "_law_name"]
theorem scW : FnScope nmW ["_law_script"] (defScope sLaw) := ⟨rfl, rfl, rfl, by decide +kernel, rfl, by decide +kernel, by decide +kernel⟩
theorem shown_same {k e : Kd} {l r : Str} (gk : good k) (ge : good e) (hl : tl l = cd k) (hr : tl r = cd e) : decide (V.str l = V.str r) = eqB (toD k) (toD e) := by
  by_cases h : k = e
  · subst h
    rw [eqB_true rfl, TL.ext_tl (hl.trans hr.symm)]
    exact decide_eq_true rfl
  · rw [eqB_false fun z => h (toD_inj _ _ z)]
    refine decide_eq_false fun z => h (cd_inj gk ge ?_)
    rw [← hl, ← hr, V.str.inj z]
/-- from the two kinds on -/
def tRest (K : PySem.W.Frag) : L2.TS := fun D σ H => ∃ (a0 a1 a2 a3 a4 a5 a6 a7 a10 a11 a12 a13 a14 a15 : Option V) (x y : V) (k e : Kd), σ = [a0, a1, a2, a3, a4, a5, a6, a7, some x, some y, a10, a11, a12, a13, a14, a15] ∧
  Dp K H x (toD k) ∧ Dp K H y (toD e) ∧ good k ∧ good e ∧ dpt k ≤ 9 ∧ dpt e ≤ 9 ∧ fm k ≤ 1000 ∧ fm e ≤ 1000 ∧ ∀ H', D.rt (.bl true) H'
section
variable {P : Program} {w : World} {K : PySem.W.Frag} {mg : Str → Option Value} {base : Heap}
def spLaw (K : PySem.W.Frag) : Sp := fun vs H Q _ => ∃ (a : Addr) (ns : List Int), vs = [.ref a] ∧ SqL K H a (ns.map V.int) ∧ ns.length ≤ 63 ∧ ∀ H', Q (.bl true) H'
theorem ok_law {f : Addr} {fd : FuncData} (F : Fun K "law" "law" sLaw f fd) (CD : Cal P w K mg base "_law_deck" ["_law_script"] 1 (spDeck K)) (CP : Cal P w K mg base "_law_pick" ["_law_deck_here", "_law_many"] 1 spPick)
    (CN : Cal P w K mg base "_law_names" ["_law_deck_here", "_law_many"] 3 spNames) (CK : Cal P w K mg base "_law_kind" psKd 11 (spK K 8)) (CF : Cal P w K mg base "_law_forms" ["_law_kind_here"] 2 (spForms K)) (CU : Cal P w K mg base "_law_put" psU 26 (spU K 25))
    (CT : Cal P w K mg base "_law_turned" psTu 4 (spTu K)) (CS : Cal P w K mg base "shown" ["kind"] 11 (spSh K 10)) (CX : Cal P w K mg base "_law_text" ["_law_kind_here"] 11 (spSh K 10)) (CM : Cal P w K mg base "_law_same" ["_law_one", "_law_other"] 1 (spEq K))
    (mi : mg "isinstance" = none) (ml : mg "len" = none) (mst : mg "str" = none) (mt : mg "tuple" = none) : FnOk P w K mg base CX0 31 f fd ["_law_script"] (spLaw K) := by
  obtain ⟨fD, fdD, GD, gD, kD, bD⟩ := CD.ex
  obtain ⟨fP, fdP, GP, gP, kP, bP⟩ := CP.ex
  obtain ⟨fN, fdN, GN, gN, kN, bN⟩ := CN.ex
  obtain ⟨fK, fdK, GK, gK, kK, bK⟩ := CK.ex
  obtain ⟨fF, fdF, GF, gF, kF, bF⟩ := CF.ex
  obtain ⟨fU, fdU, GU, gU, kU, bU⟩ := CU.ex
  obtain ⟨fT, fdT, GT, gT, kT', bT⟩ := CT.ex
  obtain ⟨fS, fdS, GS, gS, kS', bS⟩ := CS.ex
  obtain ⟨fX, fdX, GX, gX, kX, bX⟩ := CX.ex
  obtain ⟨fM, fdM, GM, gM, kM, bM⟩ := CM.ex
  refine F.ok scW (fun vs H Q E h => ?_) (fun cdv A outer s H vs Q E hr h => ?_)
  · obtain ⟨a, ns, rfl, _⟩ := h
    rfl
  · obtain ⟨a, ns, rfl, hS, hlen, q⟩ := h
    have rm : ∀ {j : Nat}, j ≤ 30 → Room j (A.deeper (envOfC "law" (defScope sLaw) s.heap.objs.size f cdv)) := fun hj => hr.mono hj
    refine ⟨_, pss_cons (ps_set (i := 1) scW.nd rfl (.inr rfl) (pe_call GD (rm (by decide)) (by rfl) gD kD bD .nil pass0 (pa_cons (pv 0) pa_nil)))
      (pss_cons (ps_set (i := 2) scW.nd rfl (.inl rfl) (pe_call GP (rm (by decide)) (by rfl) gP kP bP .nil pass0 (pa_cons (pv 1) (pa_cons pe_int pa_nil))))
      (pss_cons (ps_set (i := 3) scW.nd rfl (.inl rfl) (pe_call GP (rm (by decide)) (by rfl) gP kP bP .nil pass0 (pa_cons (pv 1) (pa_cons pe_int pa_nil))))
      (pss_cons (ps_set (i := 4) scW.nd rfl (.inl rfl) (pe_ix ix_list (pe_lst (pa_cons pe_int (pa_cons pe_int (pa_cons pe_int pa_nil)))) (pe_call GP (rm (by decide)) (by rfl) gP kP bP .nil pass0 (pa_cons (pv 1) (pa_cons pe_int pa_nil))) (fun _ _ => rfl)))
      (pss_cons (ps_set (i := 5) scW.nd rfl (.inl rfl) (pe_call GN (rm (by decide)) (by rfl) gN kN bN .nil pass0 (pa_cons (pv 1) (pa_cons pe_int pa_nil))))
      (pss_cons (ps_setLc (i := 6) (own := [("_law_name", 15)]) (g := gName 15) (tt := tYes) rfl scW.nd rfl rfl (sw_true rfl rfl rfl (by decide +kernel)) (pi_list (pv 5)) (blkOk_by (N := nmW) (sc := defScope sLaw) (by decide +kernel)) (fun _ _ _ _ _ => pg_name (i := 15) scW.nd rfl (Or.inl rfl)) (fun _ _ _ _ _ => pts_nil)
        (fun _ _ _ _ _ => pe_tup (pa_cons (pv 15) (pa_cons (pe_call GP (rm (by decide)) (by rfl) gP kP bP .nil pass0 (pa_cons (pv 1) (pa_cons pe_int pa_nil))) pa_nil))))
      (pss_cons (ps_set (i := 7) scW.nd rfl (.inl rfl) (pe_callTy call_tuple_of (by rfl) mt (by decide +kernel) (pa_cons (pe_call GN (rm (by decide)) (by rfl) gN kN bN .nil pass0 (pa_cons (pv 1) (pa_cons (pe_call GP (rm (by decide)) (by rfl) gP kP bP .nil pass0 (pa_cons (pv 1) (pa_cons pe_int pa_nil))) pa_nil))) pa_nil)))
      (pss_cons (ps_set (i := 8) scW.nd rfl (.inl rfl) (pe_call GK (rm (by decide)) (by rfl) gK kK bK .nil pass0 (pa_cons (pv 1) (pa_cons (pv 6) (pa_cons (pv 7) (pa_cons (pe_op op_add pe_int (pe_call GP (rm (by decide)) (by rfl) gP kP bP .nil pass0 (pa_cons (pv 1) (pa_cons pe_int pa_nil)))) (pa_cons (pv 4) pa_nil)))))))
      (pss_cons (ps_set (i := 9) scW.nd rfl (.inl rfl) (pe_call GK (rm (by decide)) (by rfl) gK kK bK .nil pass0 (pa_cons (pv 1) (pa_cons (pv 6) (pa_cons (pv 7) (pa_cons (pe_op op_add pe_int (pe_call GP (rm (by decide)) (by rfl) gP kP bP .nil pass0 (pa_cons (pv 1) (pa_cons pe_int pa_nil)))) (pa_cons (pv 4) pa_nil)))))))
      (pss_cons (ps_if (pt_cmpR op_gt (pv 2) pe_int (nomark _))
        (pss_cons (ps_set (i := 10) scW.nd rfl (.inl rfl) (pe_call GF (rm (by decide)) (by rfl) gF kF bF .nil pass0 (pa_cons (pv 8) pa_nil)))
        (pss_cons (ps_asg (pe_ix ix_list (pv 10) (pe_op op_mod (pv 3) (pe_callB call_len_seq (by rfl) ml PySem.boot_len (pa_cons (pv 10) pa_nil))) (fun _ _ => rfl)) (pg_tup (by rfl) (pgs_cons (pg_name (i := 11) scW.nd rfl (.inl rfl)) (pgs_cons (pg_name (i := 12) scW.nd rfl (.inl rfl)) pgs_nil))))
        (pss_one (ps_set (i := 9) scW.nd rfl (.inl rfl) (pe_call GU (rm (by decide)) (by rfl) gU kU bU .nil pass0 (pa_cons (pv 8) (pa_cons (pv 11) (pa_cons (pe_call GT (rm (by decide)) (by rfl) gT kT' bT .nil pass0 (pa_cons (pv 1) (pa_cons (pv 12) (pa_cons (pv 7) pa_nil)))) pa_nil)))))))) pss_nil)
      (pss_weak (t' := tRest K) (pss_cons (ps_set (i := 13) scW.nd rfl (.inl rfl) (pe_call GS (rm (by decide)) (by rfl) gS kS' bS .nil pass0 (pa_cons (pv 8) pa_nil)))
        (pss_cons (ps_set (i := 14) scW.nd rfl (.inl rfl) (pe_call GS (rm (by decide)) (by rfl) gS kS' bS .nil pass0 (pa_cons (pv 9) pa_nil)))
        (pss_cons (ps_if (PW.pt (pw_or (pt_not (pt_val (pe_callB call_isi (by rfl) mi (by decide +kernel) (pa_cons (pv 13) (pa_cons (pe_bltn (v := .ty "str") (by rfl) mst (show bootBuiltins "str" = some (.type "str") by decide +kernel) rfl) pa_nil))))) (pw_or1 (pt_cmpR op_ne (pv 13) (pe_call GX (rm (by decide)) (by rfl) gX kX bX .nil pass0 (pa_cons (pv 8) pa_nil)) (nomark _))))) (pss_one (ps_ret pe_bl)) pss_nil)
        (pss_cons (ps_if (PW.pt (pw_or (pt_not (pt_val (pe_callB call_isi (by rfl) mi (by decide +kernel) (pa_cons (pv 14) (pa_cons (pe_bltn (v := .ty "str") (by rfl) mst (show bootBuiltins "str" = some (.type "str") by decide +kernel) rfl) pa_nil))))) (pw_or1 (pt_cmpR op_ne (pv 14) (pe_call GX (rm (by decide)) (by rfl) gX kX bX .nil pass0 (pa_cons (pv 9) pa_nil)) (nomark _))))) (pss_one (ps_ret pe_bl)) pss_nil)
        (pss_one (ps_ret (pe_and (pe_cmpR op_eq (pe_cmpR op_eq (pv 13) (pv 14) (nomark _)) (pe_call GM (rm (by decide)) (by rfl) gM kM bM .nil pass0 (pa_cons (pv 8) (pa_cons (pv 9) pa_nil))) (nomark _))
          (pe_one (pe_cmpR op_eq (pe_call GS (rm (by decide)) (by rfl) gS kS' bS .nil pass0 (pa_cons (pv 8) pa_nil)) (pv 13) (nomark _)))))))))) ?rest)))))))))), ?_⟩
    case rest =>
      intro D σ H0 hh
      obtain ⟨a0, a1, a2, a3, a4, a5, a6, a7, a10, a11, a12, a13, a14, a15, x, y, k, e, rfl, hx, hy, gk, ge, dk9, de9, fk, fe, q⟩ := hh
      have pk := pl_D k gk
      have pe' := pl_D e ge
      refine ⟨x, rfl, x, k, rfl, hx, gk, dk9, fk, fun l H1 s1 hl => ?_⟩
      refine ⟨y, rfl, y, e, rfl, (ts_same s1).dp _ _ pe'.1 hy, ge, de9, fe, fun r H2 s2 hr2 => ?_⟩
      have hx2 : Dp K H2 x (toD k) := (ts_same (s1.trans s2)).dp _ _ pk.1 hx
      have hy2 : Dp K H2 y (toD e) := (ts_same (s1.trans s2)).dp _ _ pe'.1 hy
      refine ⟨_, rfl, _, _, _, _, true, rfl, .ty "str", .base (.str _), kit_ty (by decide +kernel), true, rfl, ?_⟩
      refine iteF ?_
      refine ⟨_, rfl, x, rfl, x, k, rfl, hx2, gk, dk9, fk, fun l' H3 s3 hl' => ⟨rfl, _, rfl, iteNS (congrArg V.str (TL.ext_tl (hl.trans hl'.symm))) ?_⟩⟩
      refine ⟨_, rfl, _, _, _, _, true, rfl, .ty "str", .base (.str _), kit_ty (by decide +kernel), true, rfl, ?_⟩
      refine iteF ?_
      refine ⟨_, rfl, y, rfl, y, e, rfl, (ts_same s3).dp _ _ pe'.1 hy2, ge, de9, fe, fun r' H4 s4 hr' => ⟨rfl, _, rfl, iteNS (congrArg V.str (TL.ext_tl (hr2.trans hr'.symm))) ?_⟩⟩
      have t24 : TS K H2 H4 := ts_same (s3.trans s4)
      have hx4 := t24.dp _ _ pk.1 hx2
      refine ⟨_, rfl, _, rfl, rfl, x, rfl, y, rfl, x, y, toD k, toD e, rfl, hx4, t24.dp _ _ pe'.1 hy2, pk.1, pe'.1, by omega, by omega, fun H5 s5 => ⟨rfl, _, rfl, ?_⟩⟩
      rw [shown_same gk ge hl hr2]
      refine cT (decide_eq_true rfl) ?_
      refine ⟨x, rfl, x, k, rfl, (ts_same s5).dp _ _ pk.1 hx4, gk, dk9, fk, fun l5 H6 s6 hl5 => ⟨_, rfl, rfl, ?_⟩⟩
      rw [TL.ext_tl (hl5.trans hl.symm), decide_eq_true (rfl : V.str l = V.str l)]
      exact q H6
    refine ⟨.ref a, rfl, a, ns, rfl, hS, hlen, fun dk cl lf H1 D1 s1 _ _ => ?_⟩
    refine ⟨.ref dk, rfl, dk, cl, lf, 3, rfl, D1, by decide, by decide +kernel, fun change H2 c0 c1 D2 k2 => ?_⟩
    refine ⟨.ref dk, rfl, dk, cl, lf, 1000, rfl, D2, by decide, by decide +kernel, fun wh H3 w0 w1 D3 k3 => ?_⟩
    refine ⟨(by show 3 ≤ sizeLine; decide), fun ll nll => ?_⟩
    have sl : Same H3 (upd H3 ll (.lst [.int 6, .int 12, .int 39])) := same_upd nll
    have cll : (upd H3 ll (.lst [.int 6, .int 12, .int 39])) ll = some (.lst [.int 6, .int 12, .int 39]) := upd_same
    generalize hHl : upd H3 ll (HO.lst [.int 6, .int 12, .int 39]) = Hl at sl cll ⊢
    have nll' := D3.not nll
    refine ⟨.ref dk, rfl, dk, cl, lf, 3, rfl, D3.same sl, by decide, by decide +kernel, fun ro H4 r0 r1 D4 k4 => ?_⟩
    obtain ⟨room, hroom, hroom1, hroom2⟩ : ∃ room : Int, atI [V.int 6, V.int 12, V.int 39] ro = some (.int room) ∧ 6 ≤ room ∧ room ≤ 39 := by
      rcases (show ro = 0 ∨ ro = 1 ∨ ro = 2 by omega) with e | e | e
      · subst e; exact ⟨6, rfl, by omega, by omega⟩
      · subst e; exact ⟨12, rfl, by omega, by omega⟩
      · subst e; exact ⟨39, rfl, by omega, by omega⟩
    refine ⟨ll, _, ro, .int room, rfl, rfl, .inl (.inl (k4 _ _ nll'.1 nll'.2.2 cll)), hroom, ?_⟩
    refine ⟨.ref dk, rfl, dk, cl, lf, 3, rfl, D4, by decide, by decide, fun p nn H5 hnn hnl np hp D5 k5 => ?_⟩
    have npd := D4.not np
    have hlm : (nn.map V.str).length = nn.length := List.length_map ..
    -- the heads
    refine ⟨.ref p, rfl, p, rfl, ⟨_, .inl (.inl hp)⟩, fun hd hDd => ?_⟩
    have nDd := D5.not hDd
    refine lc_list (xs := nn.map V.str) (fun i H' => ∃ vs : List V, vs.length = i ∧ (∀ v ∈ vs, Hd1 K H' v) ∧ H' hd = some (.lst vs) ∧ Dk H' dk cl lf ∧ KD dk lf H5 H')
      ⟨[], rfl, (fun _ h => nomatch h), upd_same, D5.same (same_upd hDd), KD.of_same (same_upd hDd)⟩ (fun i H' _ hP => ?_) (fun i x H' hx hP => ?_) (fun H6 hP => ?_)
    · obtain ⟨_, _, _, _, _, kH⟩ := hP
      exact .inl (.inl (kH _ _ npd.1 npd.2.2 hp))
    · obtain ⟨vs, ev, hv, eD, DH, kH⟩ := hP
      have hi : i < nn.length := by
        have := (List.getElem?_eq_some_iff.mp hx).1
        omega
      obtain rfl : V.str nn[i] = x := by
        rw [List.getElem?_map, List.getElem?_eq_getElem hi] at hx
        exact Option.some.inj hx
      have hn1 : Nm nn[i] := hnn _ (List.getElem_mem hi)
      refine ⟨rfl, ?_⟩
      refine iteT (B := ∃ vs : List V, vs.length = i + 1 ∧ (∀ v ∈ vs, Hd1 K H' v) ∧ H' hd = some (.lst vs) ∧ Dk H' dk cl lf ∧ KD dk lf H5 H') ?_
      refine ⟨.str nn[i], rfl, .ref dk, rfl, dk, cl, lf, 4, rfl, DH, by decide, by decide +kernel, fun m H7 m0 m1 D7 k7 => ?_⟩
      refine ⟨(by show 2 ≤ sizeLine; decide), fun t nt => ?_⟩
      have eD7 : H7 hd = some (.lst vs) := k7 _ _ nDd.1 nDd.2.2 eD
      have s8 : Same H7 (upd H7 t (.tup [.str nn[i], .int m])) := same_upd nt
      have c8 : (upd H7 t (.tup [.str nn[i], .int m])) t = some (.tup [.str nn[i], .int m]) := upd_same
      generalize hH8 : upd H7 t (HO.tup [.str nn[i], .int m]) = H8 at s8 c8 ⊢
      have eD8 := s8 _ _ eD7
      have ts9 : TS K H8 (upd H8 hd (.lst (vs ++ [.ref t]))) := ts_lst eD8
      have tsA : TS K H' (upd H8 hd (.lst (vs ++ [.ref t]))) := (DH.ts k7).trans ((ts_same s8).trans ts9)
      refine ⟨_, eD8, ?_, vs ++ [.ref t], ?_, ?_, upd_same, (D7.same s8).upd nDd, ?_⟩
      · exact Nat.lt_of_le_of_lt (show vs.length ≤ 100 by omega) (by decide)
      · rw [List.length_append, ev]; rfl
      · intro v hv'
        rcases List.mem_append.mp hv' with z | z
        · obtain ⟨t', n', m', z1, z2, z3⟩ := hv v z
          exact ⟨t', n', m', z1, tsA _ _ z2, z3⟩
        · rw [List.mem_singleton.mp z]
          exact ⟨t, nn[i], m, rfl, ts9 _ _ (.inl (.inl c8)), hn1, m0, by omega⟩
      · intro b o n1 n2 e
        rw [upd_ne (ne_of_none e hDd)]
        exact s8 _ _ (k7 b o n1 n2 (kH b o n1 n2 e))
    obtain ⟨hvs, ehv, hhv, eHd, D6, k6⟩ := hP
    have Hd6 : Hds K H6 hd dk lf := ⟨⟨hvs, eHd, by omega, hhv⟩, nDd.1, nDd.2.2⟩
    -- the holes
    refine ⟨.ref dk, rfl, .ref dk, rfl, dk, cl, lf, 4, rfl, D6, by decide, by decide +kernel, fun hm H7 hm0 hm1 D7 k7 => ⟨dk, cl, lf, hm, rfl, D7, hm0, by omega, fun hp' hos H8 hhos hhl nhp hhp D8 k8 => ⟨hp', _, rfl, .inl ⟨.inl (.inl hhp), fun ho nho => ?_⟩⟩⟩⟩
    have s9 : Same H8 (upd H8 ho (.tup (hos.map V.str))) := same_upd nho
    have c9 : (upd H8 ho (.tup (hos.map V.str))) ho = some (.tup (hos.map V.str)) := upd_same
    generalize hH9 : upd H8 ho (HO.tup (hos.map V.str)) = H9 at s9 c9 ⊢
    have D9 := D8.same s9
    have k69 : KD dk lf H6 H9 := (k7.trans k8).trans (KD.of_same s9)
    have Hd9 := Hd6.to D6 k69
    have hho : SqT K H9 ho (hos.map V.str) := .inl (.inl c9)
    -- the two kinds
    refine ⟨.ref dk, rfl, .ref hd, rfl, .ref ho, rfl, .ref dk, rfl, dk, cl, lf, 8, rfl, D9, by decide, by decide +kernel, fun d1 HA d10 d11 DA kA => ⟨_, _, rfl, rfl, .int room, rfl, dk, cl, lf, hd, ho, _, room, hos, rfl, DA, Hd9.to D9 kA, (D9.ts kA) _ _ hho, hhos, by omega, (show (1 + d1 : Int) ≤ ((8 : Nat) : Int) by omega), by omega, fun x k HB DB kB hx gk hdk hfk => ?_⟩⟩
    replace hdk : dpt k ≤ 8 := hdk
    have kB' := kA.trans kB
    refine ⟨.ref dk, rfl, .ref hd, rfl, .ref ho, rfl, .ref dk, rfl, dk, cl, lf, 8, rfl, DB, by decide, by decide +kernel, fun d2 HC d20 d21 DC kC => ⟨_, _, rfl, rfl, .int room, rfl, dk, cl, lf, hd, ho, _, room, hos, rfl, DC, Hd9.to D9 (kB'.trans kC), (D9.ts (kB'.trans kC)) _ _ hho, hhos, by omega, (show (1 + d2 : Int) ≤ ((8 : Nat) : Int) by omega), by omega, fun y e HE DE kE hy ge hde hfe => ?_⟩⟩
    replace hde : dpt e ≤ 8 := hde
    have kBE := kC.trans kE
    have hx2 : Dp K HE x (toD k) := (DB.ts kBE).dp _ _ (pl_D k gk).1 hx
    have hhoE : SqT K HE ho (hos.map V.str) := (D9.ts (kB'.trans kBE)) _ _ hho
    refine ⟨.int change, rfl, _, _, rfl, rfl, _, rfl, ite2 (fun c => ?_) (fun c => ?_)⟩
    · refine ⟨x, rfl, x, k, rfl, hx2, gk, by omega, by omega, fun pp H7 fs gs s7 np' hp7 hen hne hfl' => ?_⟩
      have t7 : TS K HE H7 := ts_same s7
      have hfl : 0 < fs.length := List.length_pos_iff.mpr hne
      obtain ⟨j, hj, ej⟩ : ∃ j : Nat, j < fs.length ∧ wh % ((fs.length : Nat) : Int) = (j : Int) := by
        have hb := emod_bounds wh (m := ((fs.length : Nat) : Int)) (by omega)
        exact ⟨(wh % (fs.length : Int)).toNat, by omega, by omega⟩
      have gj : fs[j]? = some fs[j] := List.getElem?_eq_getElem hj
      obtain ⟨gq, gg, t, pa, held, et, ht, hpa, hheld, gh, ff, hat⟩ := paired_get hen gj
      obtain ⟨pth, c0'⟩ := gq
      dsimp only at hpa hheld gh hat
      obtain ⟨lv, lv1, lv2, lv3⟩ := hat.lv
      have hdc := dpt_pos c0'
      have hfc : fm c0' ≤ fm k := by
        have h1 := hat.fme .truth
        have h2 := fm_pos (ff .truth)
        have h3 : fm Kd.truth = 1 := rfl
        omega
      refine ⟨.ref pp, rfl, .int wh, rfl, .ref pp, rfl, pp, _, rfl, .inl (.inl (.inl hp7)), _, _, rfl, rfl, (by show (0 : Int) < ((fs.length : Nat) : Int); omega), pp, fs, _, _, rfl, rfl, .inl (.inl hp7), atI_of2 ej gj, ?_⟩
      refine ⟨t, [.ref pa, held], et, ht, rfl, .ref pa, [held], rfl, held, [], rfl, rfl, ?_⟩
      have D7' : Dk H7 dk cl lf := DE.same s7
      refine ⟨x, rfl, .ref pa, rfl, .ref dk, rfl, held, rfl, .ref ho, rfl, dk, cl, lf, ho, held, c0', hos, rfl, D7', hheld, gh, by omega, t7 _ _ hhoE, hhos, by omega, fun u ke H8' D8' k8' hu gu hdu hfu => ?_⟩
      have t8 : TS K H7 H8' := D7'.ts k8'
      have hx8 := (t7.trans t8).dp _ _ (pl_D k gk).1 hx2
      have fmf := hat.fme ke
      have gf := hat.gd gk ke gu
      have df := lv3 ke
      refine ⟨x, toD k, pa, pth, u, toD ke, toD (ff ke), rfl, hx8, (pl_D k gk).1, t8 _ _ hpa, hat.put ke, hu, (pl_D ke gu).1, (show pth.length ≤ 24 by omega), ?_, fun v' HF sF hv' plv' => ?_⟩
      · have := (pl_D k gk).2.1
        omega
      exact ⟨_, _, _, _, _, _, _, _, _, _, _, _, _, _, x, v', k, ff ke, rfl, (ts_same sF).dp _ _ (pl_D k gk).1 hx8, hv', gk, gf, by omega, by omega, by omega, by omega, q⟩
    · exact ⟨_, _, _, _, _, _, _, _, _, _, _, _, _, _, x, y, k, e, rfl, hx2, hy, gk, ge, by omega, by omega, by omega, by omega, q⟩
end
end K2
namespace K2
open PySem PySem.Spec PyProof.Rows L2 K1
/-! ### what the top has written -/
theorem all_mk {l : PySem.W.OpenLaw} {w : World} {K : PySem.W.Frag} {h : Heap} {mg : Str → Option Value} {fa pw f1 f2 f3 f4 f5 f6 f7 f8 f9 f10 f11 f12 f13 f14 : Addr} (X : K.In h) (G : h.Ns mainGlobals mg) (hfa : mg "law" = some (.ref fa))
    {odW od1 an1 od2 an2 od3 an3 od4 an4 od5 an5 od6 an6 od7 an7 od8 an8 od9 an9 od10 an10 od11 an11 od12 an12 od13 an13 od14 an14 : Option Addr} {slW sl1 sl2 sl3 sl4 sl5 sl6 sl7 sl8 sl9 sl10 sl11 sl12 sl13 sl14 : Array (Option Value)} {oc1 kV1 dc1 pm1 cd1 ct1 oc2 kV2 dc2 pm2 cd2 ct2 oc3 kV3 dc3 pm3 cd3 ct3 oc4 kV4 dc4 pm4 cd4 ct4 oc5 kV5 dc5 pm5 cd5 ct5 oc6 kV6 dc6 pm6 cd6 ct6 oc7 kV7 dc7 pm7 cd7 ct7 oc8 kV8 dc8 pm8 cd8 ct8 oc9 kV9 dc9 pm9 cd9 ct9 oc10 kV10 dc10 pm10 cd10 ct10 oc11 kV11 dc11 pm11 cd11 ct11 oc12 kV12 dc12 pm12 cd12 ct12 oc13 kV13 dc13 pm13 cd13 ct13 oc14 kV14 dc14 pm14 cd14 ct14 : Value} {tw1 tw2 nW : Nat}
    (aW : PySem.W.nsIn K mainGlobals "PART_WORDS" = some (some (.ref pw))) (lW : K.lookup pw = some ⟨.type "tuple", odW, .seq #[.str (Str.ofString "record") tw1, .str (Str.ofString "variant") tw2] nW, slW⟩)
    (a1 : PySem.W.nsIn K mainGlobals "shown" = some (some (.ref f1))) (l1 : K.lookup f1 = some ⟨oc1, od1, .func (PySem.W.fnOf "shown" "shown" (defArgs sShown) (defBody sShown) (defScope sShown) .none kV1 dc1 pm1 an1 cd1 ct1), sl1⟩) (c1 : PySem.W.codeIn K cd1 "shown" = true) (k1 : PySem.W.keepIn K (.ref f1) = true)
    (a2 : PySem.W.nsIn K mainGlobals "_law_deck" = some (some (.ref f2))) (l2 : K.lookup f2 = some ⟨oc2, od2, .func (PySem.W.fnOf "_law_deck" "_law_deck" (defArgs sDeck) (defBody sDeck) (defScope sDeck) .none kV2 dc2 pm2 an2 cd2 ct2), sl2⟩) (c2 : PySem.W.codeIn K cd2 "_law_deck" = true) (k2 : PySem.W.keepIn K (.ref f2) = true)
    (a3 : PySem.W.nsIn K mainGlobals "_law_pick" = some (some (.ref f3))) (l3 : K.lookup f3 = some ⟨oc3, od3, .func (PySem.W.fnOf "_law_pick" "_law_pick" (defArgs sPick) (defBody sPick) (defScope sPick) .none kV3 dc3 pm3 an3 cd3 ct3), sl3⟩) (c3 : PySem.W.codeIn K cd3 "_law_pick" = true) (k3 : PySem.W.keepIn K (.ref f3) = true)
    (a4 : PySem.W.nsIn K mainGlobals "_law_same" = some (some (.ref f4))) (l4 : K.lookup f4 = some ⟨oc4, od4, .func (PySem.W.fnOf "_law_same" "_law_same" (defArgs sSame) (defBody sSame) (defScope sSame) .none kV4 dc4 pm4 an4 cd4 ct4), sl4⟩) (c4 : PySem.W.codeIn K cd4 "_law_same" = true) (k4 : PySem.W.keepIn K (.ref f4) = true)
    (a5 : PySem.W.nsIn K mainGlobals "_law_letters" = some (some (.ref f5))) (l5 : K.lookup f5 = some ⟨oc5, od5, .func (PySem.W.fnOf "_law_letters" "_law_letters" (defArgs sLet) (defBody sLet) (defScope sLet) .none kV5 dc5 pm5 an5 cd5 ct5), sl5⟩) (c5 : PySem.W.codeIn K cd5 "_law_letters" = true) (k5 : PySem.W.keepIn K (.ref f5) = true)
    (a6 : PySem.W.nsIn K mainGlobals "_law_names" = some (some (.ref f6))) (l6 : K.lookup f6 = some ⟨oc6, od6, .func (PySem.W.fnOf "_law_names" "_law_names" (defArgs sNames) (defBody sNames) (defScope sNames) .none kV6 dc6 pm6 an6 cd6 ct6), sl6⟩) (c6 : PySem.W.codeIn K cd6 "_law_names" = true) (k6 : PySem.W.keepIn K (.ref f6) = true)
    (a7 : PySem.W.nsIn K mainGlobals "_law_leaf" = some (some (.ref f7))) (l7 : K.lookup f7 = some ⟨oc7, od7, .func (PySem.W.fnOf "_law_leaf" "_law_leaf" (defArgs sLeaf) (defBody sLeaf) (defScope sLeaf) .none kV7 dc7 pm7 an7 cd7 ct7), sl7⟩) (c7 : PySem.W.codeIn K cd7 "_law_leaf" = true) (k7 : PySem.W.keepIn K (.ref f7) = true)
    (a8 : PySem.W.nsIn K mainGlobals "_law_kind" = some (some (.ref f8))) (l8 : K.lookup f8 = some ⟨oc8, od8, .func (PySem.W.fnOf "_law_kind" "_law_kind" (defArgs sKind) (defBody sKind) (defScope sKind) .none kV8 dc8 pm8 an8 cd8 ct8), sl8⟩) (c8 : PySem.W.codeIn K cd8 "_law_kind" = true) (k8 : PySem.W.keepIn K (.ref f8) = true)
    (a9 : PySem.W.nsIn K mainGlobals "_law_inner" = some (some (.ref f9))) (l9 : K.lookup f9 = some ⟨oc9, od9, .func (PySem.W.fnOf "_law_inner" "_law_inner" (defArgs sInner) (defBody sInner) (defScope sInner) .none kV9 dc9 pm9 an9 cd9 ct9), sl9⟩) (c9 : PySem.W.codeIn K cd9 "_law_inner" = true) (k9 : PySem.W.keepIn K (.ref f9) = true)
    (a10 : PySem.W.nsIn K mainGlobals "_law_forms" = some (some (.ref f10))) (l10 : K.lookup f10 = some ⟨oc10, od10, .func (PySem.W.fnOf "_law_forms" "_law_forms" (defArgs sForms) (defBody sForms) (defScope sForms) .none kV10 dc10 pm10 an10 cd10 ct10), sl10⟩) (c10 : PySem.W.codeIn K cd10 "_law_forms" = true) (k10 : PySem.W.keepIn K (.ref f10) = true)
    (a11 : PySem.W.nsIn K mainGlobals "_law_put" = some (some (.ref f11))) (l11 : K.lookup f11 = some ⟨oc11, od11, .func (PySem.W.fnOf "_law_put" "_law_put" (defArgs sPut) (defBody sPut) (defScope sPut) .none kV11 dc11 pm11 an11 cd11 ct11), sl11⟩) (c11 : PySem.W.codeIn K cd11 "_law_put" = true) (k11 : PySem.W.keepIn K (.ref f11) = true)
    (a12 : PySem.W.nsIn K mainGlobals "_law_text" = some (some (.ref f12))) (l12 : K.lookup f12 = some ⟨oc12, od12, .func (PySem.W.fnOf "_law_text" "_law_text" (defArgs sText) (defBody sText) (defScope sText) .none kV12 dc12 pm12 an12 cd12 ct12), sl12⟩) (c12 : PySem.W.codeIn K cd12 "_law_text" = true) (k12 : PySem.W.keepIn K (.ref f12) = true)
    (a13 : PySem.W.nsIn K mainGlobals "_law_turned" = some (some (.ref f13))) (l13 : K.lookup f13 = some ⟨oc13, od13, .func (PySem.W.fnOf "_law_turned" "_law_turned" (defArgs sTurned) (defBody sTurned) (defScope sTurned) .none kV13 dc13 pm13 an13 cd13 ct13), sl13⟩) (c13 : PySem.W.codeIn K cd13 "_law_turned" = true) (k13 : PySem.W.keepIn K (.ref f13) = true)
    (a14 : PySem.W.nsIn K mainGlobals "law" = some (some (.ref f14))) (l14 : K.lookup f14 = some ⟨oc14, od14, .func (PySem.W.fnOf "law" "law" (defArgs sLaw) (defBody sLaw) (defScope sLaw) .none kV14 dc14 pm14 an14 cd14 ct14), sl14⟩) (c14 : PySem.W.codeIn K cd14 "law" = true) (k14 : PySem.W.keepIn K (.ref f14) = true)
    (z1 : PySem.W.nsIn K mainGlobals "len" = some none) (z2 : PySem.W.nsIn K mainGlobals "isinstance" = some none) (z3 : PySem.W.nsIn K mainGlobals "tuple" = some none) (z4 : PySem.W.nsIn K mainGlobals "list" = some none) (z5 : PySem.W.nsIn K mainGlobals "bool" = some none) (z6 : PySem.W.nsIn K mainGlobals "range" = some none) (z7 : PySem.W.nsIn K mainGlobals "min" = some none) (z8 : PySem.W.nsIn K mainGlobals "int" = some none) (z9 : PySem.W.nsIn K mainGlobals "str" = some none) :
    ∃ fd : FuncData, (∀ (s : Shared) (v : Value), BindsTo s fd ⟨[v], []⟩ [("_law_script", v)]) ∧ ∀ base : Heap, K.In base → base.Ns mainGlobals mg → FnOk l.prog w K mg base CX0 31 fa fd ["_law_script"] (spLaw K) := by
  have e := hfa.symm.trans (PySem.W.mg_of X G a14)
  cases e
  have F1 := fun_mk (st := sShown) l1 c1 k1
  have F2 := fun_mk (st := sDeck) l2 c2 k2
  have F3 := fun_mk (st := sPick) l3 c3 k3
  have F4 := fun_mk (st := sSame) l4 c4 k4
  have F5 := fun_mk (st := sLet) l5 c5 k5
  have F6 := fun_mk (st := sNames) l6 c6 k6
  have F7 := fun_mk (st := sLeaf) l7 c7 k7
  have F8 := fun_mk (st := sKind) l8 c8 k8
  have F9 := fun_mk (st := sInner) l9 c9 k9
  have F10 := fun_mk (st := sForms) l10 c10 k10
  have F11 := fun_mk (st := sPut) l11 c11 k11
  have F12 := fun_mk (st := sText) l12 c12 k12
  have F13 := fun_mk (st := sTurned) l13 c13 k13
  have F14 := fun_mk (st := sLaw) l14 c14 k14
  have b1 := F1.binds (ps := ["kind"]) fun _ _ _ _ _ _ us hl => match us, hl with | [_], _ => rfl
  have g1 := PySem.W.mg_of X G a1
  have b2 := F2.binds (ps := ["_law_script"]) fun _ _ _ _ _ _ us hl => match us, hl with | [_], _ => rfl
  have g2 := PySem.W.mg_of X G a2
  have b3 := F3.binds (ps := ["_law_deck_here", "_law_many"]) fun _ _ _ _ _ _ us hl => match us, hl with | [_, _], _ => rfl
  have g3 := PySem.W.mg_of X G a3
  have b4 := F4.binds (ps := ["_law_one", "_law_other"]) fun _ _ _ _ _ _ us hl => match us, hl with | [_, _], _ => rfl
  have g4 := PySem.W.mg_of X G a4
  have b5 := F5.binds (ps := ["_law_deck_here", "_law_many"]) fun _ _ _ _ _ _ us hl => match us, hl with | [_, _], _ => rfl
  have g5 := PySem.W.mg_of X G a5
  have b6 := F6.binds (ps := ["_law_deck_here", "_law_many"]) fun _ _ _ _ _ _ us hl => match us, hl with | [_, _], _ => rfl
  have g6 := PySem.W.mg_of X G a6
  have b7 := F7.binds (ps := ["_law_deck_here", "_law_holes"]) fun _ _ _ _ _ _ us hl => match us, hl with | [_, _], _ => rfl
  have g7 := PySem.W.mg_of X G a7
  have b8 := F8.binds (ps := psKd) fun _ _ _ _ _ _ us hl => match us, hl with | [_, _, _, _, _], _ => rfl
  have g8 := PySem.W.mg_of X G a8
  have b9 := F9.binds (ps := ["_law_kind_here"]) fun _ _ _ _ _ _ us hl => match us, hl with | [_], _ => rfl
  have g9 := PySem.W.mg_of X G a9
  have b10 := F10.binds (ps := ["_law_kind_here"]) fun _ _ _ _ _ _ us hl => match us, hl with | [_], _ => rfl
  have g10 := PySem.W.mg_of X G a10
  have b11 := F11.binds (ps := psU) fun _ _ _ _ _ _ us hl => match us, hl with | [_, _, _], _ => rfl
  have g11 := PySem.W.mg_of X G a11
  have b12 := F12.binds (ps := ["_law_kind_here"]) fun _ _ _ _ _ _ us hl => match us, hl with | [_], _ => rfl
  have g12 := PySem.W.mg_of X G a12
  have b13 := F13.binds (ps := psTu) fun _ _ _ _ _ _ us hl => match us, hl with | [_, _, _], _ => rfl
  have g13 := PySem.W.mg_of X G a13
  have gW := PySem.W.mg_of X G aW
  have hW : ∀ H : Hp, SqT K H pw [.str (S "record"), .str (S "variant")] := fun H => .inr ⟨_, _, _, lW, rfl, rfl, (by show 2 ≤ sizeLine; decide), .cons ⟨_, rfl⟩ (.cons ⟨_, rfl⟩ .nil)⟩
  have m1 := PySem.W.mg_none_of X G z1
  have m2 := PySem.W.mg_none_of X G z2
  have m3 := PySem.W.mg_none_of X G z3
  have m4 := PySem.W.mg_none_of X G z4
  have m5 := PySem.W.mg_none_of X G z5
  have m6 := PySem.W.mg_none_of X G z6
  have m7 := PySem.W.mg_none_of X G z7
  have m8 := PySem.W.mg_none_of X G z8
  have m9 := PySem.W.mg_none_of X G z9
  refine ⟨PySem.W.fnOf "law" "law" (defArgs sLaw) (defBody sLaw) (defScope sLaw) .none kV14 dc14 pm14 an14 cd14 ct14, fun s v => .of_eq rfl, fun base _ _ => ?_⟩
  have CP : Cal l.prog w K mg base "_law_pick" ["_law_deck_here", "_law_many"] 1 spPick := ⟨_, _, ok_pick F3 m1, g3, k3, b3⟩
  have CD : Cal l.prog w K mg base "_law_deck" ["_law_script"] 1 (spDeck K) := ⟨_, _, ok_deck F2 m1 m8 m4, g2, k2, b2⟩
  have CE : Cal l.prog w K mg base "_law_letters" ["_law_deck_here", "_law_many"] 2 spLet := ⟨_, _, ok_letters F5 CP m6, g5, k5, b5⟩
  have CN : Cal l.prog w K mg base "_law_names" ["_law_deck_here", "_law_many"] 3 spNames := ⟨_, _, ok_names F6 CP CE m6 m1 m4, g6, k6, b6⟩
  have CF : Cal l.prog w K mg base "_law_leaf" ["_law_deck_here", "_law_holes"] 2 (spLeaf K) := ⟨_, _, ok_leaf F7 CP m1, g7, k7, b7⟩
  have CK : Cal l.prog w K mg base "_law_kind" psKd 11 (spK K 8) := ⟨_, _, ok_kind F8 g8 b8 CP CF CN m1 m8 m7 m3 m6 8, g8, k8, b8⟩
  have CI : Cal l.prog w K mg base "_law_inner" ["_law_kind_here"] 1 (spInner K) := ⟨_, _, ok_inner F9 m1 m6, g9, k9, b9⟩
  have CO : Cal l.prog w K mg base "_law_forms" ["_law_kind_here"] 2 (spForms K) := ⟨_, _, ok_forms F10 CI, g10, k10, b10⟩
  have CU : Cal l.prog w K mg base "_law_put" psU 26 (spU K 25) := ⟨_, _, ok_put F11 g11 b11 25, g11, k11, b11⟩
  have CX : Cal l.prog w K mg base "_law_text" ["_law_kind_here"] 11 (spSh K 10) := ⟨_, _, ok_text F12 g12 b12 m9 10, g12, k12, b12⟩
  have CT : Cal l.prog w K mg base "_law_turned" psTu 4 (spTu K) := ⟨_, _, ok_turned F13 CP CF CN m1 m8, g13, k13, b13⟩
  have CS : Cal l.prog w K mg base "shown" ["kind"] 11 (spSh K 10) := ⟨_, _, ok_shown F1 g1 b1 gW hW 10, g1, k1, b1⟩
  have CM : Cal l.prog w K mg base "_law_same" ["_law_one", "_law_other"] 1 (spEq K) := ⟨_, _, ok_same F4 m2 m3 m1 m6 m5 m9, g4, k4, b4⟩
  exact ok_law F14 CD CP CN CK CO CU CT CS CX CM m2 m1 m9 m3
end K2
open PySem PySem.W PyProof.Rows
set_option maxHeartbeats 0 in
theorem PySem.Challenge.cw_packedforms_k02_kinds_shown_holds : PySem.Challenge.rw_packedforms_k02_kinds_shown.Holds := by
  w_on; o_law; k_head; (case hw => w_witness2)
  k_fill
  refine L2.walk_of (l := PySem.Challenge.rw_packedforms_k02_kinds_shown) (n := 63) (k := 31) (x := "_law_script") (CX := fun _ => L2.CX0) (sp := fun w => K2.spLaw _) rfl (by decide) rfl ⟨rfl, by decide, by decide⟩ (fun w h Y => PySem.W.kIn_of Y) ?F (fun _ _ a ns hl _ hS => ⟨a, ns, rfl, hS, hl, fun _ => rfl⟩) (fun _ _ _ _ _ h => h)
  case F =>
    intro w mg fa h KX G hmg
    refine' K2.all_mk KX G hmg ?aW ?lW ?a1 ?l1 ?c1 ?k1 ?a2 ?l2 ?c2 ?k2 ?a3 ?l3 ?c3 ?k3 ?a4 ?l4 ?c4 ?k4 ?a5 ?l5 ?c5 ?k5 ?a6 ?l6 ?c6 ?k6 ?a7 ?l7 ?c7 ?k7 ?a8 ?l8 ?c8 ?k8 ?a9 ?l9 ?c9 ?k9 ?a10 ?l10 ?c10 ?k10 ?a11 ?l11 ?c11 ?k11 ?a12 ?l12 ?c12 ?k12 ?a13 ?l13 ?c13 ?k13 ?a14 ?l14 ?c14 ?k14 ?z1 ?z2 ?z3 ?z4 ?z5 ?z6 ?z7 ?z8 ?z9
    (case aW => k_is); (case lW => k_is); (case a1 => k_is); (case l1 => k_is); (case c1 => k_is); (case k1 => k_is); (case a2 => k_is); (case l2 => k_is); (case c2 => k_is); (case k2 => k_is); (case a3 => k_is); (case l3 => k_is); (case c3 => k_is); (case k3 => k_is); (case a4 => k_is); (case l4 => k_is); (case c4 => k_is); (case k4 => k_is); (case a5 => k_is); (case l5 => k_is); (case c5 => k_is); (case k5 => k_is); (case a6 => k_is); (case l6 => k_is); (case c6 => k_is); (case k6 => k_is); (case a7 => k_is); (case l7 => k_is); (case c7 => k_is); (case k7 => k_is); (case a8 => k_is); (case l8 => k_is); (case c8 => k_is); (case k8 => k_is); (case a9 => k_is); (case l9 => k_is); (case c9 => k_is); (case k9 => k_is); (case a10 => k_is); (case l10 => k_is); (case c10 => k_is); (case k10 => k_is); (case a11 => k_is); (case l11 => k_is); (case c11 => k_is); (case k11 => k_is); (case a12 => k_is); (case l12 => k_is); (case c12 => k_is); (case k12 => k_is); (case a13 => k_is); (case l13 => k_is); (case c13 => k_is); (case k13 => k_is); (case a14 => k_is); (case l14 => k_is); (case c14 => k_is); (case k14 => k_is); (case z1 => k_is); (case z2 => k_is); (case z3 => k_is); (case z4 => k_is); (case z5 => k_is); (case z6 => k_is); (case z7 => k_is); (case z8 => k_is); (case z9 => k_is)
