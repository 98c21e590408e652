import PyProof.Rows.All
import Wide.All
import OpenK.AllK
import Wide.FinOn
import HandS.ForMost
import HandS.Zip
import KE.KDictZip
import HandS.IsInst
import HandS.TupAny
import HandS.Wide
import HandS.NoneIn
import HandS.Flow
import PySem.Challenge.RW_packedforms_k01_alike_or_not
set_option Elab.async false
set_option linter.all false
set_option maxRecDepth 100000
set_option maxHeartbeats 2000000
/-! list(zip(t, u)) of two tuples, as a rule of the hand layer -/
namespace ZL
open PySem PySem.Spec PyProof.Rows L2 RZ
section
variable {prog : Program} {w : World} {A : Around} {E : Value → Shared → Prop} {s : Shared}
/-- a draw while an earlier pair is still out -/
theorem draw_out {z TI TO T i1 i2 l1 l2 : Addr} {f : Bool} {oT : Obj} {k1 k2 : Nat} {xs ys : Array Value} {x y : Value} {Q : Value → Shared → Prop}
    (D : ZipApart z TI TO i1 i2 l1 l2) (zz : IsZipHeld s.heap z TI TO T f) (ot : s.heap.get? T = some oT) (ti : IsPair s.heap TI (.ref i1) (.ref i2))
    (u1 : s.heap.IsTupleIter i1 l1 k1) (u2 : s.heap.IsTupleIter i2 l2 k2) (t1 : s.heap.IsTuple l1 xs) (t2 : s.heap.IsTuple l2 ys) (gx : xs[k1]? = some x) (gy : ys[k2]? = some y)
    (q : ∀ g, IsZipHeld g z TI TO T true → g.IsTupleIter i1 l1 (k1 + 1) → g.IsTupleIter i2 l2 (k2 + 1) → IsPair g s.heap.objs.size x y → g.objs.size = s.heap.objs.size + 1 →
      (∀ c o, c ≠ z → c ≠ i1 → c ≠ i2 → s.heap.get? c = some o → g.get? c = some o) → Q (.ref s.heap.objs.size) { s with heap := g }) :
    wpAny (model prog w) A (Builtin.«zip.__next__» ⟨[.ref z], []⟩) (fun fin s' => ∃ v, fin = .done (.ret v) ∧ Q v s') E s := by
  show wpAny _ _ (field (.ref z) 2 >>= _) _ _ _
  refine wpAny_bind (wpAny_field zz rfl (x := .bool false) rfl ?_)
  show wpAny _ _ (field (.ref z) 3 >>= _) _ _ _
  refine wpAny_bind (wpAny_field zz rfl (x := .ref TI) rfl ?_)
  refine wpAny_bind (wpAny_seqItems ti rfl ?_)
  show wpAny _ _ (Builtin.SmallTypes.ownedTupleIsFree (.ref z) >>= _) _ _ _
  refine wpAny_bind (wpAny_tupleHeld_zip zz ot fun g1 zz1 e1 => ?_)
  simp only [Bool.false_eq_true, if_false]
  refine wpAny_bind ?_
  rw [← Array.forIn_toList]
  simp only [List.forIn_cons, List.forIn_nil]
  refine wpAny_bind (wpAny_bind (wpAny_holding ?_))
  show wpAny _ _ (Builtin.SmallTypes.nextOf (.ref i1) >>= _) _ _ _
  refine wpAny_bind (nextOf_tuple_item (s := { s with heap := g1 }) (u1.extBut e1.extBut D.i1z) (t1.extBut e1.extBut D.l1z) gx fun g2 u12 e2 => wpAny_pure ?_)
  refine wpAny_pure ?_
  refine wpAny_bind (wpAny_bind (wpAny_holding ?_))
  show wpAny _ _ (Builtin.SmallTypes.nextOf (.ref i2) >>= _) _ _ _
  refine wpAny_bind (nextOf_tuple_item (s := { s with heap := g2 }) ((u2.extBut e1.extBut D.i2z).extBut e2.extBut D.i12.symm) ((t2.extBut e1.extBut D.l2z).extBut e2.extBut D.l2i1) gy fun g3 u23 e3 => wpAny_pure ?_)
  refine wpAny_pure (wpAny_pure ?_)
  show wpAny _ _ (newTuple [x, y] >>= _) _ _ _
  refine wpAny_bind (wpAny_newTuple ?_)
  have es : g3.objs.size = s.heap.objs.size := by rw [e3.1, e2.1, e1.1]
  have zz3 : IsZipHeld g3 z TI TO T true := e3.extBut _ _ D.i2z.symm (e2.extBut _ _ D.i1z.symm zz1)
  have kk : ∀ c o, c ≠ z → c ≠ i1 → c ≠ i2 → s.heap.get? c = some o → g3.get? c = some o := fun c o c1 c2 c3 e => e3.extBut _ _ c3 (e2.extBut _ _ c2 (e1.extBut _ _ c1 e))
  have u13 : g3.IsTupleIter i1 l1 (k1 + 1) := u12.extBut e3.extBut D.i12
  refine wpAny_pure ⟨_, rfl, ?_⟩
  show Q (.ref g3.objs.size) _
  have pp : IsPair (g3.push { cls := .type "tuple", data := .seq #[x, y] }) g3.objs.size x y := Heap.get?_push_size _ rfl
  have ps : (g3.push { cls := .type "tuple", data := .seq #[x, y] }).objs.size = g3.objs.size + 1 := Heap.size_push ..
  rw [es] at pp ps ⊢
  exact q _ (Heap.get?_push_of_some _ zz3) (u13.at fun o e => Heap.get?_push_of_some _ e) (u23.at fun o e => Heap.get?_push_of_some _ e) pp ps fun c o c1 c2 c3 e => Heap.get?_push_of_some _ (kk c o c1 c2 c3 e)

theorem stop_out {z TI TO T i1 i2 l1 l2 : Addr} {f : Bool} {oT : Obj} {k1 k2 : Nat} {xs ys : Array Value} {Q : Fin → Shared → Prop} (hh : A.handled = none)
    (D : ZipApart z TI TO i1 i2 l1 l2) (zz : IsZipHeld s.heap z TI TO T f) (ot : s.heap.get? T = some oT) (ti : IsPair s.heap TI (.ref i1) (.ref i2))
    (u1 : s.heap.IsTupleIter i1 l1 k1) (u2 : s.heap.IsTupleIter i2 l2 k2) (t1 : s.heap.IsTuple l1 xs) (t2 : s.heap.IsTuple l2 ys) (he : xs[k1]? = none ∨ ys[k2]? = none)
    (q : ∀ g e, (∀ c o, c ≠ z → c ≠ i1 → c ≠ i2 → s.heap.get? c = some o → g.get? c = some o) → (∃ o, g.get? e = some o ∧ o.cls = .type "StopIteration") → E (.ref e) { s with heap := g }) :
    wpAny (model prog w) A (Builtin.«zip.__next__» ⟨[.ref z], []⟩) Q E s := by
  show wpAny _ _ (field (.ref z) 2 >>= _) _ _ _
  refine wpAny_bind (wpAny_field zz rfl (x := .bool false) rfl ?_)
  show wpAny _ _ (field (.ref z) 3 >>= _) _ _ _
  refine wpAny_bind (wpAny_field zz rfl (x := .ref TI) rfl ?_)
  refine wpAny_bind (wpAny_seqItems ti rfl ?_)
  show wpAny _ _ (Builtin.SmallTypes.ownedTupleIsFree (.ref z) >>= _) _ _ _
  refine wpAny_bind (wpAny_tupleHeld_zip zz ot fun g1 zz1 e1 => ?_)
  simp only [Bool.false_eq_true, if_false]
  refine wpAny_bind ?_
  rw [← Array.forIn_toList]
  simp only [List.forIn_cons, List.forIn_nil]
  refine wpAny_bind (wpAny_bind (wpAny_holding ?_))
  show wpAny _ _ (Builtin.SmallTypes.nextOf (.ref i1) >>= _) _ _ _
  cases gx : xs[k1]? with
  | none =>
    refine wpAny_bind (nextOf_tuple_end (s := { s with heap := g1 }) hh (u1.extBut e1.extBut D.i1z) (t1.extBut e1.extBut D.l1z) gx fun g2 e e2 se => ?_)
    exact q g2 e (fun c o c1 c2 _ x => e2 _ _ c2 (e1.extBut _ _ c1 x)) se
  | some x =>
    have gy : ys[k2]? = none := by
      rcases he with h | h
      · rw [gx] at h; cases h
      · exact h
    refine wpAny_bind (nextOf_tuple_item (s := { s with heap := g1 }) (u1.extBut e1.extBut D.i1z) (t1.extBut e1.extBut D.l1z) gx fun g2 u12 e2 => wpAny_pure ?_)
    refine wpAny_pure ?_
    refine wpAny_bind (wpAny_bind (wpAny_holding ?_))
    show wpAny _ _ (Builtin.SmallTypes.nextOf (.ref i2) >>= _) _ _ _
    refine wpAny_bind (nextOf_tuple_end (s := { s with heap := g2 }) hh ((u2.extBut e1.extBut D.i2z).extBut e2.extBut D.i12.symm) ((t2.extBut e1.extBut D.l2z).extBut e2.extBut D.l2i1) gy fun g3 e e3 se => ?_)
    exact q g3 e (fun c o c1 c2 c3 x => e3 _ _ c3 (e2.extBut _ _ c2 (e1.extBut _ _ c1 x))) se

/-- how the zip stands behind i draws, what it gave out being kept by someone -/
def Zs (h : Heap) (z TI TO i1 i2 l1 l2 S : Addr) (i : Nat) : Prop :=
  IsPair h TI (.ref i1) (.ref i2) ∧ h.IsTupleIter i1 l1 i ∧ h.IsTupleIter i2 l2 i ∧
  ((i = 0 ∧ IsZip h z TI TO .none ∧ ∃ a b, IsPair h TO a b) ∨ ∃ T f oT, IsZipHeld h z TI TO T f ∧ h.get? T = some oT ∧ T ≠ S ∧ T ≠ z ∧ T ≠ i1 ∧ T ≠ i2)
/-- everything the zip may touch -/
def Own (z TO i1 i2 c : Addr) : Prop := c = z ∨ c = TO ∨ c = i1 ∨ c = i2
theorem Zs.keep {h h' : Heap} {z TI TO i1 i2 l1 l2 S : Addr} {i : Nat} (x : Zs h z TI TO i1 i2 l1 l2 S i) (k : ∀ b o, b ≠ S → h.get? b = some o → h'.get? b = some o) (n1 : TI ≠ S) (n2 : i1 ≠ S) (n3 : i2 ≠ S) (n4 : z ≠ S) (n5 : TO ≠ S) : Zs h' z TI TO i1 i2 l1 l2 S i := by
  obtain ⟨a, b, c, d⟩ := x
  refine ⟨k _ _ n1 a, b.at fun o e => k _ o n2 e, c.at fun o e => k _ o n3 e, ?_⟩
  rcases d with ⟨e, d, p, q, d2⟩ | ⟨T, f, oT, d1, d2, d3, d4⟩
  · exact .inl ⟨e, k _ _ n4 d, p, q, k _ _ n5 d2⟩
  · exact .inr ⟨T, f, oT, k _ _ n4 d1, k _ _ d3 d2, d3, d4⟩
theorem next_item {z TI TO i1 i2 l1 l2 S : Addr} {i : Nat} {xs ys : Array Value} {x y : Value} {Q : Option Value → Shared → Prop} (D : ZipApart z TI TO i1 i2 l1 l2) (st : Zs s.heap z TI TO i1 i2 l1 l2 S i)
    (hS : S < s.heap.objs.size) (t1 : s.heap.IsTuple l1 xs) (t2 : s.heap.IsTuple l2 ys) (gx : xs[i]? = some x) (gy : ys[i]? = some y)
    (q : ∀ g, Zs g z TI TO i1 i2 l1 l2 S (i + 1) → IsPair g s.heap.objs.size x y → g.objs.size = s.heap.objs.size + 1 →
      (∀ c o, ¬ Own z TO i1 i2 c → s.heap.get? c = some o → g.get? c = some o) → Q (some (.ref s.heap.objs.size)) { s with heap := g }) : wpAny (model prog w) A (pyNext (.ref z)) Q E s := by
  obtain ⟨ti, u1, u2, d⟩ := st
  have zl : z < s.heap.objs.size := by
    rcases d with ⟨_, d, _⟩ | ⟨_, _, _, d, _⟩
    · exact Heap.lt_size d
    · exact Heap.lt_size d
  have l1' : i1 < s.heap.objs.size := by obtain ⟨_, e, _⟩ := u1; exact Heap.lt_size e
  have l2' : i2 < s.heap.objs.size := by obtain ⟨_, e, _⟩ := u2; exact Heap.lt_size e
  rcases d with ⟨e0, d, p, r, d2⟩ | ⟨T, f, oT, d1, d2, d3, d4, d5, d6⟩
  · subst e0
    refine pyNext_zipT_item D d ti d2 u1 u2 t1 t2 gx gy fun g a1 a2 a3 a4 a5 a6 a7 => q g ⟨?_, a3, a4, .inr ⟨_, false, _, a1, a5, Nat.ne_of_gt hS, Nat.ne_of_gt zl, Nat.ne_of_gt l1', Nat.ne_of_gt l2'⟩⟩ a5 a6 fun c o n e => ?_
    · exact a7 _ _ D.TIz D.TITO D.TIi1 D.TIi2 ti
    · exact a7 c o (fun z => n (.inl z)) (fun z => n (.inr (.inl z))) (fun z => n (.inr (.inr (.inl z)))) (fun z => n (.inr (.inr (.inr z)))) e
  · have hT : s.TypeIs (.ref z) "zip" := ⟨_, d1, rfl⟩
    unfold pyNext
    refine wpAny_bind (wpAny_attempt (wpAny_callSpecial?_slot (name := Str.ofString "__next__") hT F.slot_zip_next (wpAny_call_entry F.slot_zip_next hT F.entry_zip_next
      (draw_out D d1 d2 ti u1 u2 t1 t2 gx gy fun g a1 a3 a4 a5 a6 a7 => wpAny_pure (q g ⟨?_, a3, a4, .inr ⟨T, true, oT, a1, a7 _ _ d4 d5 d6 d2, d3, d4, d5, d6⟩⟩ a5 a6 fun c o n e => ?_)) (F.args_zip_next_1 _))))
    · exact a7 _ _ D.TIz D.TIi1 D.TIi2 ti
    · exact a7 c o (fun z => n (.inl z)) (fun z => n (.inr (.inr (.inl z)))) (fun z => n (.inr (.inr (.inr z)))) e
theorem next_stop {z TI TO i1 i2 l1 l2 S : Addr} {i : Nat} {xs ys : Array Value} {Q : Option Value → Shared → Prop} (hh : A.handled = none) (D : ZipApart z TI TO i1 i2 l1 l2) (st : Zs s.heap z TI TO i1 i2 l1 l2 S i)
    (t1 : s.heap.IsTuple l1 xs) (t2 : s.heap.IsTuple l2 ys) (he : xs[i]? = none ∨ ys[i]? = none)
    (q : ∀ g, (∀ c o, ¬ Own z TO i1 i2 c → s.heap.get? c = some o → g.get? c = some o) → Q none { s with heap := g }) : wpAny (model prog w) A (pyNext (.ref z)) Q E s := by
  obtain ⟨ti, u1, u2, d⟩ := st
  rcases d with ⟨e0, d, p, r, d2⟩ | ⟨T, f, oT, d1, d2, d3, d4, d5, d6⟩
  · subst e0
    exact pyNext_zipT_end hh D d ti d2 u1 u2 t1 t2 he fun g k => q g fun c o n e => k c o (fun z => n (.inl z)) (fun z => n (.inr (.inl z))) (fun z => n (.inr (.inr (.inl z)))) (fun z => n (.inr (.inr (.inr z)))) e
  · have hT : s.TypeIs (.ref z) "zip" := ⟨_, d1, rfl⟩
    unfold pyNext
    refine wpAny_bind (wpAny_attempt (wpAny_callSpecial?_slot (name := Str.ofString "__next__") hT F.slot_zip_next (wpAny_call_entry F.slot_zip_next hT F.entry_zip_next
      (stop_out hh D d1 d2 ti u1 u2 t1 t2 he fun g e k se => ?_) (F.args_zip_next_1 _))))
    obtain ⟨o, ho, hc⟩ := se
    refine wpAny_bind (wpAny_isInstance (T := "StopIteration") (b := true) ⟨o, ho, hc⟩ isSubtype_stop ?_)
    exact wpAny_pure (q _ fun c o n e => k c o (fun z => n (.inl z)) (fun z => n (.inr (.inr (.inl z)))) (fun z => n (.inr (.inr (.inr z)))) e)
end
/-- the pairs that were given out -/
structure Out (xs ys : Array Value) (lo : Addr) (h : Heap) (as : List Addr) : Prop where
  rise : as.Pairwise (· < ·)
  above : ∀ a ∈ as, lo ≤ a
  pair : ∀ (j : Nat) (a : Addr), as[j]? = some a → ∃ x y, xs[j]? = some x ∧ ys[j]? = some y ∧ IsPair h a x y
theorem Out.there {xs ys : Array Value} {lo : Addr} {h : Heap} {as : List Addr} (g : Out xs ys lo h as) {a : Addr} (ha : a ∈ as) : a < h.objs.size := by
  obtain ⟨j, hj⟩ := List.mem_iff_getElem?.mp ha
  obtain ⟨_, _, _, _, e⟩ := g.pair j a hj
  exact Heap.lt_size e
section
variable {prog : Program} {w : World} {A : Around} {s : Shared} {R : Result → Shared → Prop} {xs ys : Array Value}
/-- list.extend's own loop over the zip -/
theorem loop {S z TI TO i1 i2 l1 l2 : Addr} (hh : A.handled = none) (D : ZipApart z TI TO i1 i2 l1 l2) (eL : xs.size = ys.size) (hn : xs.size ≤ sizeLine) (res : Value) {h1 : Heap} {lo : Addr}
    (nS : S ≠ TI ∧ S ≠ i1 ∧ S ≠ i2 ∧ S ≠ z ∧ S ≠ TO ∧ S ≠ l1 ∧ S ≠ l2) (hlo : z < lo ∧ TO < lo ∧ i1 < lo ∧ i2 < lo ∧ S < lo)
    (hR : ∀ h' tk acc c as, (∀ b o, b ≠ S → ¬ Own z TO i1 i2 b → h1.get? b = some o → h'.get? b = some o) → h'.get? S = some { cls := .type "list", dict := none, data := .seq acc c, slots := #[] } → as.length = xs.size → Out xs ys lo h' as →
      acc.toList = as.map Value.ref → R (.ok (.ret res)) { s with heap := h', toks := tk }) :
    ∀ (k i : Nat) (h : Heap) (tk c : Nat) (acc : Array Value) (as : List Addr), xs.size - i = k → i ≤ xs.size → Zs h z TI TO i1 i2 l1 l2 S i → h.IsTuple l1 xs → h.IsTuple l2 ys → (∀ b o, b ≠ S → ¬ Own z TO i1 i2 b → h1.get? b = some o → h.get? b = some o) →
      h.get? S = some { cls := .type "list", dict := none, data := .seq acc c, slots := #[] } → acc.toList = as.map Value.ref → as.length = i → Out xs ys lo h as → lo ≤ h.objs.size →
      codeAny (model prog w) A (.builtin "list.extend.loop" ⟨[.ref S, .ref z, res], []⟩) R { s with heap := h, toks := tk } := by
  obtain ⟨n1, n2, n3, n4, n5, n6, n7⟩ := nS
  obtain ⟨o1, o2, o3, o4, o5⟩ := hlo
  have nOwn : ∀ c, lo ≤ c → ¬ Own z TO i1 i2 c := fun c hc e => by
    rcases e with e | e | e | e
    · rw [e] at hc; exact Nat.lt_irrefl _ (Nat.lt_of_lt_of_le o1 hc)
    · rw [e] at hc; exact Nat.lt_irrefl _ (Nat.lt_of_lt_of_le o2 hc)
    · rw [e] at hc; exact Nat.lt_irrefl _ (Nat.lt_of_lt_of_le o3 hc)
    · rw [e] at hc; exact Nat.lt_irrefl _ (Nat.lt_of_lt_of_le o4 hc)
  have sOwn : ¬ Own z TO i1 i2 S := fun e => by
    rcases e with e | e | e | e
    · exact n4 e
    · exact n5 e
    · exact n2 e
    · exact n3 e
  have t1Own : ¬ Own z TO i1 i2 l1 := fun e => by
    rcases e with e | e | e | e
    · exact D.l1z e
    · exact D.l1TO e
    · exact D.l1i1 e
    · exact D.l1i2 e
  have t2Own : ¬ Own z TO i1 i2 l2 := fun e => by
    rcases e with e | e | e | e
    · exact D.l2z e
    · exact D.l2TO e
    · exact D.l2i1 e
    · exact D.l2i2 e
  intro k
  induction k with
  | zero =>
    intro i h tk c acc as hk hi st t1 t2 kp hS ha hl G hz
    have ei : i = xs.size := by omega
    refine codeAny_builtin PySem.F.entry_extend_loop ?_
    rw [Around.under_plainId PySem.F.plain_extend_loop _]
    show wpAny _ A.in1 (pyNext (.ref z) >>= _) _ _ _
    refine wpAny_bind (next_stop (s := { s with heap := h, toks := tk }) (A := A.in1) hh D st t1 t2 (.inl (by rw [Array.getElem?_eq_none]; omega)) fun g e => ?_)
    refine wpAny_pure (hR g tk acc c as (fun b o q1 q2 x => e b o q2 (kp b o q1 q2 x)) (e S _ sOwn hS) (by omega) ⟨G.rise, G.above, fun j a hj => ?_⟩ ha)
    obtain ⟨x, y, f1, f2, f3⟩ := G.pair j a hj
    exact ⟨x, y, f1, f2, e a _ (nOwn a (G.above a (List.mem_of_getElem? hj))) f3⟩
  | succ k ih =>
    intro i h tk c acc as hk hi st t1 t2 kp hS ha hl G hz
    have hx : i < xs.size := by omega
    have hy : i < ys.size := by omega
    have sz : acc.size = i := by rw [← Array.length_toList, ha, List.length_map, hl]
    refine codeAny_builtin PySem.F.entry_extend_loop ?_
    rw [Around.under_plainId PySem.F.plain_extend_loop _]
    show wpAny _ A.in1 (pyNext (.ref z) >>= _) _ _ _
    refine wpAny_bind (next_item (s := { s with heap := h, toks := tk }) (S := S) D st (Heap.lt_size hS) t1 t2 (Array.getElem?_eq_getElem hx) (Array.getElem?_eq_getElem hy) fun g st' pr es kk => ?_)
    dsimp only at pr es kk ⊢
    have hS' := kk S _ sOwn hS
    have up : ∀ b o, b ≠ S → g.get? b = some o → (g.update S (Obj.mapSeq (·.push (Value.ref h.objs.size)))).get? b = some o := fun b o hb e => (Heap.get?_update_other _ _ (Ne.symm hb)).trans e
    have sl : S < h.objs.size := Heap.lt_size hS
    show wpAny _ A.in1 (updateSeq S (·.push (Value.ref h.objs.size)) >>= _) _ _ _
    refine wpAny_bind ?_
    refine wpAny_updateSeq hS' rfl (wpAny_pure ⟨plainId_quiet PySem.F.plain_extend_loop _, ih (i + 1) _ tk _ (acc.push (Value.ref h.objs.size)) (as ++ [h.objs.size]) (by omega) hx (st'.keep up n1.symm n2.symm n3.symm n4.symm n5.symm)
      ?a ?b (fun b o q1 q2 e => up b o q1 (kk b o q2 (kp b o q1 q2 e))) (Heap.get?_update_self _ hS' rfl) (by rw [Array.toList_push, ha, List.map_append]; rfl) (by rw [List.length_append, hl]; rfl) ⟨?_, ?_, ?_⟩ ?_⟩) (by rw [sz]; omega) (by show (acc.push (Value.ref h.objs.size)).size ≤ sizeLine + 1; rw [Array.size_push, sz]; omega)
    case a => obtain ⟨o, e, r⟩ := t1; exact ⟨o, up _ _ n6.symm (kk _ _ t1Own e), r⟩
    case b => obtain ⟨o, e, r⟩ := t2; exact ⟨o, up _ _ n7.symm (kk _ _ t2Own e), r⟩
    · refine List.pairwise_append.mpr ⟨G.rise, List.pairwise_singleton _ _, fun a h1 b hb => ?_⟩
      rw [List.mem_singleton.mp hb]
      exact G.there h1
    · intro a h1
      rcases List.mem_append.mp h1 with h1 | h1
      · exact G.above a h1
      · rw [List.mem_singleton.mp h1]; exact hz
    · intro j b hj
      rcases Nat.lt_trichotomy j as.length with q1 | q1 | q1
      · rw [List.getElem?_append_left q1] at hj
        obtain ⟨x', y', f1, f2, f3⟩ := G.pair j b hj
        have hb := G.above b (List.mem_of_getElem? hj)
        exact ⟨x', y', f1, f2, up b _ (fun e => by rw [e] at hb; exact Nat.lt_irrefl _ (Nat.lt_of_lt_of_le o5 hb)) (kk b _ (nOwn b hb) f3)⟩
      · subst q1
        have hb : h.objs.size = b := by simpa using hj
        subst hb
        exact ⟨_, _, by rw [hl]; exact Array.getElem?_eq_getElem hx, by rw [hl]; exact Array.getElem?_eq_getElem hy, up _ _ (Nat.ne_of_gt sl) pr⟩
      · have no : (as ++ [h.objs.size])[j]? = none := List.getElem?_eq_none (by rw [List.length_append, List.length_singleton]; omega)
        rw [no] at hj; cases hj
    · have e : (g.update S (Obj.mapSeq (·.push (Value.ref h.objs.size)))).get? h.objs.size = _ := up _ _ (Nat.ne_of_gt sl) pr
      exact Nat.le_trans hz (Nat.le_of_lt (Heap.lt_size e))
end
theorem zip_len : typeLookup (.type "zip") "__len__" = pure none := by rw [typeLookup_type, builtinLookup_eq_fast]; kernel_rfl
theorem zip_hint : typeLookup (.type "zip") "__length_hint__" = pure none := by rw [typeLookup_type, builtinLookup_eq_fast]; kernel_rfl
section
variable {prog : Program} {w : World} {A : Around} {s : Shared} {xs ys : Array Value} {z TI TO i1 i2 l1 l2 : Addr}
theorem ext {R : Result → Shared → Prop} (hh : A.handled = none) (D : ZipApart z TI TO i1 i2 l1 l2) (eL : xs.size = ys.size) (hn : xs.size ≤ sizeLine) (S : Addr) (res : Value) (c0 : Nat)
    (nS : S ≠ TI ∧ S ≠ i1 ∧ S ≠ i2 ∧ S ≠ z ∧ S ≠ TO ∧ S ≠ l1 ∧ S ≠ l2) (st : Zs s.heap z TI TO i1 i2 l1 l2 S 0) (zz : IsZip s.heap z TI TO .none) (to : TO < s.heap.objs.size) (t1 : s.heap.IsTuple l1 xs) (t2 : s.heap.IsTuple l2 ys)
    (hS : s.heap.get? S = some { cls := .type "list", data := .seq #[] c0 })
    (hR : ∀ h' tk acc c as, (∀ b o, b ≠ S → ¬ Own z TO i1 i2 b → s.heap.get? b = some o → h'.get? b = some o) → h'.get? S = some { cls := .type "list", dict := none, data := .seq acc c, slots := #[] } → as.length = xs.size → Out xs ys s.heap.objs.size h' as →
      acc.toList = as.map Value.ref → R (.ok (.ret res)) { s with heap := h', toks := tk }) :
    wpAny (model prog w) A.in1 (Builtin.List.listExtendWith (.ref S) (.ref z) res)
      (fun fin s' => match fin with | .done f => R (.ok f) s' | .again c' => c'.quiet = true ∧ codeAny (model prog w) A c' R s') (fun e s' => R (.error e) s') s := by
  have hT : s.TypeIs (.ref z) "zip" := ⟨_, zz, rfl⟩
  obtain ⟨n1, n2, n3, n4, n5, n6, n7⟩ := id nS
  have j1 : i1 < s.heap.objs.size := by obtain ⟨_, ⟨_, e, _⟩, _⟩ := st; exact Heap.lt_size e
  have j2 : i2 < s.heap.objs.size := by obtain ⟨_, _, ⟨_, e, _⟩, _⟩ := st; exact Heap.lt_size e
  have key : ∀ (h : Heap) (c1 tk : Nat), (∀ b o, b ≠ S → s.heap.get? b = some o → h.get? b = some o) → h.objs.size = s.heap.objs.size →
      h.get? S = some { cls := .type "list", data := .seq #[] c1 } → codeAny (model prog w) A (.builtin "list.extend.loop" ⟨[.ref S, .ref z, res], []⟩) R { s with heap := h, toks := tk } := by
    intro h c1 tk kp es hS1
    refine loop (s := s) (h1 := s.heap) (lo := s.heap.objs.size) hh D eL hn res nS ⟨Heap.lt_size zz, to, j1, j2, Heap.lt_size hS⟩ hR xs.size 0 h tk c1 #[] [] (Nat.sub_zero _) (Nat.zero_le _) (st.keep kp n1.symm n2.symm n3.symm n4.symm n5.symm)
      ?a ?b (fun b o hb _ e => kp b o hb e) hS1 rfl rfl ⟨List.Pairwise.nil, (fun _ ha => nomatch ha), (fun j a hj => by simp at hj)⟩ (Nat.le_of_eq es.symm)
    case a => obtain ⟨o, e, r⟩ := t1; exact ⟨o, kp _ _ n6.symm e, r⟩
    case b => obtain ⟨o, e, r⟩ := t2; exact ⟨o, kp _ _ n7.symm e, r⟩
  unfold Builtin.List.listExtendWith
  refine wpAny_bind (wpAny_typeOf (T := "zip") hT ?_)
  have q1 : Builtin.List.listSameRef (.ref S) (.ref z) = false := by simp [Builtin.List.listSameRef, n4]
  have q2 : (Value.type "zip" == Value.type "list") = false := by decide
  have q3 : (Value.type "zip" == Value.type "tuple") = false := by decide
  simp only [q1, q2, q3, Bool.or_false, Bool.false_eq_true, if_false]
  refine wpAny_bind (wpAny_pyIter_zip zz ?_)
  refine wpAny_bind (wpAny_holding ?_)
  unfold Builtin.List.listLengthHint
  refine wpAny_bind (wpAny_specialOf hT zip_len ?_)
  show wpAny _ A.in1 (specialOf (Value.ref z) (Str.ofString "__length_hint__") >>= _) _ _ _
  refine wpAny_bind (wpAny_specialOf hT zip_hint ?_)
  refine wpAny_pure ?_
  refine wpAny_ite_split (fun _ => ?_) (fun _ => wpAny_pure ⟨plainId_quiet PySem.F.plain_extend_loop _, key _ c0 _ (fun b o _ e => e) rfl hS⟩)
  refine wpAny_bind (wpAny_rule ?_)
  refine wpAny_bind ?_
  show wpAny _ _ (updateSeq S (·.push .none) >>= fun _ => updateSeq S (·.pop)) _ _ _
  refine wpAny_bind (wpAny_updateSeq hS rfl ?_)
  have hS2 := Heap.get?_update_self (Obj.mapSeq (·.push Value.none)) hS rfl
  refine wpAny_updateSeq (hz := by seq_fits) hS2 rfl ?_
  have hS3 := Heap.get?_update_self (Obj.mapSeq (·.pop)) hS2 rfl
  refine wpAny_pure ⟨plainId_quiet PySem.F.plain_extend_loop _, key _ _ _ (fun b o hb e => ?_) ?_ hS3⟩
  · exact (Heap.get?_update_other _ _ (Ne.symm hb)).trans ((Heap.get?_update_other _ _ (Ne.symm hb)).trans e)
  · simp [Heap.update]
end
section
variable {prog : Program} {w : World} {A : Around} {s : Shared} {xs ys : Array Value} {z TI TO i1 i2 l1 l2 : Addr}
theorem Out.low {lo lo' : Addr} {h : Heap} {as : List Addr} (g : Out xs ys lo h as) (e : lo' ≤ lo) : Out xs ys lo' h as := ⟨g.rise, fun a ha => Nat.le_trans e (g.above a ha), g.pair⟩
theorem init {R : Result → Shared → Prop} (hh : A.handled = none) (D : ZipApart z TI TO i1 i2 l1 l2) (eL : xs.size = ys.size) (hn : xs.size ≤ sizeLine) (S : Addr)
    (nS : S ≠ TI ∧ S ≠ i1 ∧ S ≠ i2 ∧ S ≠ z ∧ S ≠ TO ∧ S ≠ l1 ∧ S ≠ l2) (st : Zs s.heap z TI TO i1 i2 l1 l2 S 0) (zz : IsZip s.heap z TI TO .none) (to : TO < s.heap.objs.size) (t1 : s.heap.IsTuple l1 xs) (t2 : s.heap.IsTuple l2 ys)
    (hS : s.heap.get? S = some { cls := .type "list", data := .seq #[] })
    (hR : ∀ h' tk acc c as, (∀ b o, b ≠ S → ¬ Own z TO i1 i2 b → s.heap.get? b = some o → h'.get? b = some o) → h'.get? S = some { cls := .type "list", dict := none, data := .seq acc c, slots := #[] } → as.length = xs.size → Out xs ys s.heap.objs.size h' as →
      acc.toList = as.map Value.ref → R (.ok (.ret .none)) { s with heap := h', toks := tk }) :
    wpAny (model prog w) A.in1 (Builtin.«list.__init__» ⟨[.ref S, .ref z], []⟩)
      (fun fin s' => match fin with | .done f => R (.ok f) s' | .again c' => c'.quiet = true ∧ codeAny (model prog w) A c' R s') (fun e s' => R (.error e) s') s := by
  obtain ⟨n1, n2, n3, n4, n5, n6, n7⟩ := id nS
  show wpAny _ _ (do let old ← Builtin.List.listItems (.ref S); Builtin.List.listUpdate (.ref S) (fun _ => #[]); letGo old.toList.reverse; Builtin.List.listExtendWith (.ref S) (.ref z) .none) _ _ s
  refine wpAny_bind ?_
  unfold Builtin.List.listItems
  refine wpAny_bind (wpAny_seqItems hS rfl (wpAny_pure ?_))
  show wpAny _ _ (updateSeq S (fun _ => #[]) >>= fun _ => letGo (#[] : Array Value).toList.reverse >>= fun _ => Builtin.List.listExtendWith (.ref S) (.ref z) .none) _ _ s
  refine wpAny_bind (wpAny_updateSeq hS rfl ?_)
  have hS2 := Heap.get?_update_self (Obj.mapSeq (fun _ => (#[] : Array Value))) hS rfl
  have oth : ∀ b o, b ≠ S → s.heap.get? b = some o → (s.heap.update S (Obj.mapSeq (fun _ => (#[] : Array Value)))).get? b = some o :=
    fun b o hb e => (Heap.get?_update_other _ _ (Ne.symm hb)).trans e
  have es : (s.heap.update S (Obj.mapSeq (fun _ => (#[] : Array Value)))).objs.size = s.heap.objs.size := by simp [Heap.update]
  refine wpAny_bind (wpAny_letGo ?_)
  refine ext (s := { s with heap := s.heap.update S (Obj.mapSeq (fun _ => (#[] : Array Value))) }) hh D eL hn S .none _ nS (st.keep oth n1.symm n2.symm n3.symm n4.symm n5.symm) (oth _ _ n4.symm zz) (by rw [es]; exact to) ?a ?b hS2 (fun h' tk acc c as kp e1 e2 G e3 => ?_)
  case a => obtain ⟨o, e, r⟩ := t1; exact ⟨o, oth _ _ n6.symm e, r⟩
  case b => obtain ⟨o, e, r⟩ := t2; exact ⟨o, oth _ _ n7.symm e, r⟩
  exact hR h' tk acc c as (fun b o hb nb e => kp b o hb nb (oth b o hb e)) e1 e2 (G.low (Nat.le_of_eq es.symm)) e3
end
section
variable {prog : Program} {w : World} {A : Around} {E : Value → Shared → Prop} {s : Shared} {xs ys : Array Value} {z TI TO i1 i2 l1 l2 : Addr}
theorem listOf {Q : Value → Shared → Prop} (hh : A.handled = none) (D : ZipApart z TI TO i1 i2 l1 l2) (eL : xs.size = ys.size) (hn : xs.size ≤ sizeLine)
    (zz : IsZip s.heap z TI TO .none) (ti : IsPair s.heap TI (.ref i1) (.ref i2)) (to : IsPair s.heap TO .none .none) (u1 : s.heap.IsTupleIter i1 l1 0) (u2 : s.heap.IsTupleIter i2 l2 0) (t1 : s.heap.IsTuple l1 xs) (t2 : s.heap.IsTuple l2 ys)
    (q : ∀ h' tk acc c as, (∀ b o, ¬ Own z TO i1 i2 b → s.heap.get? b = some o → h'.get? b = some o) → h'.get? s.heap.objs.size = some { cls := .type "list", dict := none, data := .seq acc c, slots := #[] } → as.length = xs.size → Out xs ys (s.heap.objs.size + 1) h' as →
      acc.toList = as.map Value.ref → Q (.ref s.heap.objs.size) { s with heap := h', toks := tk }) :
    wpAny (model prog w) A (call (.type "list") [.ref z]) Q E s := by
  refine callType_codes (Q₁ := fun obj s1 => obj = .ref s.heap.objs.size ∧ s1 = { s with heap := s.heap.push { cls := .type "list", data := .seq #[] } }) PySem.F.called_list (PySem.F.typeCall_list_1 _) PySem.F.entry_list_init
    (code_list_new _ ⟨rfl, rfl⟩) fun obj s1 h1 => ?_
  obtain ⟨rfl, rfl⟩ := h1
  have hS : (s.heap.push { cls := .type "list", data := .seq #[] }).get? s.heap.objs.size = some { cls := .type "list", data := .seq #[] } := Heap.get?_push_size _ rfl
  have up : ∀ b o, s.heap.get? b = some o → (s.heap.push { cls := .type "list", data := .seq #[] }).get? b = some o := fun b o e => Heap.get?_push_of_some _ e
  have es : (s.heap.push { cls := .type "list", data := .seq #[] }).objs.size = s.heap.objs.size + 1 := Heap.size_push ..
  have m1 : i1 < s.heap.objs.size := by obtain ⟨_, e, _⟩ := u1; exact Heap.lt_size e
  have m2 : i2 < s.heap.objs.size := by obtain ⟨_, e, _⟩ := u2; exact Heap.lt_size e
  have m3 : l1 < s.heap.objs.size := by obtain ⟨_, e, _⟩ := t1; exact Heap.lt_size e
  have m4 : l2 < s.heap.objs.size := by obtain ⟨_, e, _⟩ := t2; exact Heap.lt_size e
  refine ⟨⟨_, hS, rfl⟩, PySem.F.args_list_init_2 _ _, init (A := A.in1) hh D eL hn s.heap.objs.size ⟨Nat.ne_of_gt (Heap.lt_size ti), Nat.ne_of_gt m1, Nat.ne_of_gt m2, Nat.ne_of_gt (Heap.lt_size zz), Nat.ne_of_gt (Heap.lt_size to), Nat.ne_of_gt m3, Nat.ne_of_gt m4⟩
    ⟨up _ _ ti, u1.at fun o e => up _ o e, u2.at fun o e => up _ o e, .inl ⟨rfl, up _ _ zz, _, _, up _ _ to⟩⟩ (up _ _ zz) (Nat.lt_of_lt_of_eq (Nat.lt_succ_of_lt (Heap.lt_size to)) es.symm) ?a ?b hS (fun h' tk acc c as kp e1 e2 G e3 => ?_)⟩
  case a => obtain ⟨o, e, r⟩ := t1; exact ⟨o, up _ _ e, r⟩
  case b => obtain ⟨o, e, r⟩ := t2; exact ⟨o, up _ _ e, r⟩
  exact ⟨rfl, q h' tk acc c as (fun b o nb e => kp b o (Nat.ne_of_lt (Heap.lt_size e)) nb (up b o e)) e1 e2 (G.low (Nat.le_of_eq es.symm)) e3⟩
end
/-! the same over the abstract heap -/
def putZ : Hp → List Addr → List (V × V) → Hp
  | H, a :: as, p :: ps => putZ (upd H a (.tup [p.1, p.2])) as ps
  | H, _, _ => H
theorem putZ_off {b : Addr} : ∀ (as : List Addr) (ps : List (V × V)) (H : Hp), b ∉ as → putZ H as ps b = H b
  | [], _, _, _ => rfl
  | _ :: _, [], _, _ => rfl
  | a :: as, p :: ps, H, h => by
    show putZ (upd H a (.tup [p.1, p.2])) as ps b = H b
    rw [putZ_off as ps _ (fun z => h (List.mem_cons_of_mem _ z)), upd_ne (fun z => h (by rw [z]; exact List.mem_cons_self))]
theorem putZ_at : ∀ (as : List Addr) (ps : List (V × V)) (H : Hp), as.Nodup → ∀ (j : Nat) (t : Addr) (p : V × V), as[j]? = some t → ps[j]? = some p → putZ H as ps t = some (.tup [p.1, p.2])
  | [], _, _, _, j, t, p, e, _ => by simp at e
  | _ :: _, [], _, _, j, t, p, _, e => by simp at e
  | a :: as, q :: ps, H, nd, 0, t, p, e, e2 => by
    simp at e e2
    subst e e2
    show putZ (upd H a (.tup [q.1, q.2])) as ps a = some (.tup [q.1, q.2])
    rw [putZ_off as ps _ (List.nodup_cons.mp nd).1, upd_same]
  | a :: as, q :: ps, H, nd, j + 1, t, p, e, e2 => putZ_at as ps _ (List.nodup_cons.mp nd).2 j t p (by simpa using e) (by simpa using e2)
theorem refs_ok : ∀ as : List Addr, Vals (as.map V.ref) (as.map Value.ref)
  | [] => .nil
  | _ :: as => .cons rfl (refs_ok as)
/-- what list(zip(t, u)) asks and gives -/
def rLZ (K : PySem.W.Frag) : List V → Hp → VK → Prop := fun vs H Q => ∃ (a b : Addr) (xs ys : List V), vs = [.ref a, .ref b] ∧ SqT K H a xs ∧ SqT K H b ys ∧ xs.length = ys.length ∧
  ∀ (H' : Hp) (p : Addr) (ts : List Addr), Same H H' → H p = none → (∀ t ∈ ts, H t = none) → p ∉ ts → H' p = some (.lst (ts.map V.ref)) → ts.length = xs.length →
    (∀ (j : Nat) (t : Addr), ts[j]? = some t → ∃ x y, xs[j]? = some x ∧ ys[j]? = some y ∧ H' t = some (.tup [x, y])) → Q (.ref p) H'
def tLZ (K : PySem.W.Frag) (ta : TA) : TE := fun σ H Q => ta σ H fun vs H1 => rLZ K vs H1 Q
section
variable {X : Cx}
theorem laidZ {pins : List (Addr × Obj)} {σ : L2.St} {H : Hp} {s : Shared} {h' : Heap} {tk : Nat} {xs ys : List V} {us ws : List Value} {acc : Array Value} {c : Nat} {as : List Addr} {S : Addr} (I : Inv X pins σ H s) (rx : Vals xs us) (ry : Vals ys ws) (hz : xs.length ≤ sizeLine) (eL : xs.length = ys.length)
    (hk : ∀ b o, s.heap.get? b = some o → h'.get? b = some o) (hSn : s.heap.objs.size ≤ S) (hS : h'.get? S = some { cls := .type "list", dict := none, data := .seq acc c, slots := #[] }) (hl : as.length = xs.length) (G : Out us.toArray ws.toArray (S + 1) h' as) (ha : acc.toList = as.map Value.ref) :
    ∃ H' : Hp, Same H H' ∧ H S = none ∧ (∀ t ∈ as, H t = none) ∧ S ∉ as ∧ H' S = some (.lst (as.map V.ref)) ∧ (∀ (j : Nat) (t : Addr), as[j]? = some t → ∃ x y, xs[j]? = some x ∧ ys[j]? = some y ∧ H' t = some (.tup [x, y])) ∧ Inv X pins σ H' { s with heap := h', toks := tk } := by
  have nS : S ∉ as := fun e => Nat.lt_irrefl _ (G.above _ e)
  have nd : as.Nodup := List.Pairwise.imp (fun {a b} (h : a < b) => Nat.ne_of_lt h) G.rise
  have big : ∀ t ∈ as, s.heap.objs.size ≤ t := fun t ht => Nat.le_trans hSn (Nat.le_of_lt (G.above t ht))
  have new : ∀ t ∈ as, H t = none := fun t ht => I.hok.fresh (big t ht)
  have newS : H S = none := I.hok.fresh hSn
  have off : ∀ b, b ∉ as → b ≠ S → putZ (upd H S (.lst (as.map V.ref))) as (xs.zip ys) b = H b := fun b h1 h2 => by rw [putZ_off _ _ _ h1, upd_ne h2]
  have low : ∀ b o, s.heap.get? b = some o → b ∉ as ∧ b ≠ S := fun b o e => ⟨fun z => absurd (Heap.lt_size e) (Nat.not_lt.mpr (big b z)), Nat.ne_of_lt (Nat.lt_of_lt_of_le (Heap.lt_size e) hSn)⟩
  have kp : Same H (putZ (upd H S (.lst (as.map V.ref))) as (xs.zip ys)) := fun b u e => by
    rw [off b (fun z => by rw [new b z] at e; cases e) (fun z => by rw [z, newS] at e; cases e)]
    exact e
  have eS : putZ (upd H S (.lst (as.map V.ref))) as (xs.zip ys) S = some (.lst (as.map V.ref)) := by rw [putZ_off _ _ _ nS, upd_same]
  have atj : ∀ (j : Nat) (t : Addr), as[j]? = some t → ∃ x y, xs[j]? = some x ∧ ys[j]? = some y ∧ putZ (upd H S (.lst (as.map V.ref))) as (xs.zip ys) t = some (.tup [x, y]) := fun j t e => by
    have jl : j < as.length := (List.getElem?_eq_some_iff.mp e).1
    have jx : j < xs.length := by omega
    have jy : j < ys.length := by omega
    refine ⟨xs[j], ys[j], List.getElem?_eq_getElem jx, List.getElem?_eq_getElem jy, putZ_at as (xs.zip ys) _ nd j t (xs[j], ys[j]) e ?_⟩
    rw [List.getElem?_eq_getElem (by rw [List.length_zip]; omega), List.getElem_zip]
  refine ⟨putZ (upd H S (.lst (as.map V.ref))) as (xs.zip ys), kp, newS, new, nS, eS, atj, ?_⟩
  refine I.call' (ch := []) rfl ⟨fun b o q _ _ _ => hk b o q, fun b o q _ _ _ => ⟨o.slots, hk b o q⟩, fun b o q n _ => ?_, fun b o q _ => ⟨o, hk b o q⟩, fun b xs q => kp b _ q, fun b o u q => kp b _ q, fun b ps q => ⟨#[], by rw [kp b _ q]; simp⟩⟩ (fun b u q => ?_) I.bare fun b z => by simp at z
  · obtain ⟨z1, z2⟩ := low b o q
    rw [off b z1 z2]
    exact n
  · by_cases hb : b ∈ as
    · obtain ⟨j, hj⟩ := List.mem_iff_getElem?.mp hb
      obtain ⟨x, y, g1, g2, g3⟩ := atj j b hj
      rw [g3] at q
      cases q
      obtain ⟨x', y', f1, f2, f3⟩ := G.pair j b hj
      obtain ⟨p, e1, r1⟩ := rx.get g1
      obtain ⟨p2, e2, r2⟩ := ry.get g2
      have c1 : p = x' := Option.some.inj (e1.symm.trans (by simpa using f1))
      have c2 : p2 = y' := Option.some.inj (e2.symm.trans (by simpa using f2))
      subst c1 c2
      exact ⟨by show 2 ≤ sizeLine; decide, [p, p2], .cons r1 (.cons r2 .nil), ⟨_, f3, rfl, _, rfl⟩⟩
    · by_cases hb2 : b = S
      · rw [hb2] at q ⊢
        rw [eS] at q
        cases q
        refine ⟨by rw [List.length_map]; omega, acc.toList, c, by rw [ha]; exact refs_ok as, ?_⟩
        rw [Array.toArray_toList]
        exact hS
      · rw [off b hb hb2] at q
        exact (I.hok b u q).stay (fun d v _ y => hk d v y) (fun d y => kp d _ y) fun d xs y => kp d _ y
theorem pe_listZip {e e2 : Expr} {ta : TA} {p p2 pos q2 : Pos} (hc : X.calm = true) (hg : Gl X "list") (hm : X.mg "list" = none) (hg2 : Gl X "zip") (hm2 : X.mg "zip" = none) (ha : PA X [e, e2] ta)
    (hs : starEach [e, e2] X.env = (false, eval e X.env) :: starEach [e2] X.env := by rfl) (hpl : (backTo q2 (starEach [e2] X.env)).any (·.1) = false := by rfl)
    (hs2 : starEach [.Call (.Name "zip" p2) [e, e2] [] q2] X.env = (false, eval (.Call (.Name "zip" p2) [e, e2] [] q2) X.env) :: starEach [] X.env := by rfl) :
    PE X (.Call (.Name "list" p) [.Call (.Name "zip" p2) [e, e2] [] q2] [] pos) (tLZ X.K ta) := by
  refine ⟨fun pins s σ H Q I h => ?_⟩
  refine Call_ (ld_blt I hg hm (show bootBuiltins "list" = some (.type "list") by decide +kernel) ?_)
  refine PyProof.Rows.callWith_type1 (PyProof.Rows.args_cons ?_ hs2) hs2 rfl
  refine Call_ (ld_blt I hg2 hm2 PyProof.Rows.boot_zip (PyProof.Rows.callWith_type1 (thn (ha.run q2 pins s σ H _ I h) fun us s1 ⟨vs, H1, I1, r1, q1⟩ => ?_) hs hpl))
  obtain ⟨a, b, xs, ys, ex, qx, qy, eL, q⟩ := q1
  subst ex
  cases r1 with
  | cons r rr =>
    cases rr with
    | cons r' rr =>
      cases rr
      cases r
      cases r'
      obtain ⟨its, rv, p1, hz⟩ := I1.tuple qx
      obtain ⟨its2, rv2, p2, _⟩ := I1.tuple qy
      obtain ⟨o1, ho1, _⟩ := id p1
      obtain ⟨o2, ho2, _⟩ := id p2
      have le1 := rv.length
      have le2 := rv2.length
      refine call_zipT (show s1.heap.IsTuple a its.toArray from p1) (show s1.heap.IsTuple b its2.toArray from p2) fun g zz ti to u1 u2 es kk => PyProof.Rows.args_nil ?_
      have I2 : Inv X pins σ H1 { s1 with heap := g } := I1.kept (t' := s1.toks) kk
      refine listOf (s := { s1 with heap := g }) (xs := its.toArray) (ys := its2.toArray) (I1.ok.hd hc) (PySem.W.ktu_apart s1.heap.objs.size a b (Heap.lt_size ho1) (Heap.lt_size ho2)) (by simp; omega) (by simp; omega) zz ti to u1 u2 ?a ?b fun h' tk acc c as kp hS hl G hacc => ?_
      case a => obtain ⟨o, e, r⟩ := p1; exact ⟨o, kk _ _ e, r⟩
      case b => obtain ⟨o, e, r⟩ := p2; exact ⟨o, kk _ _ e, r⟩
      have nOwn : ∀ b o, s1.heap.get? b = some o → ¬ Own (s1.heap.objs.size + 4) (s1.heap.objs.size + 3) s1.heap.objs.size (s1.heap.objs.size + 1) b := fun b o e y => by
        have bl := Heap.lt_size e
        rcases y with y | y | y | y <;> (rw [y] at bl; revert bl; exact Nat.not_lt.mpr (by first | exact Nat.le_add_right _ _ | exact Nat.le_refl _))
      obtain ⟨H', k1, k2, k3, k4, k5, k6, J⟩ := laidZ (tk := tk) (h' := h') I1 rv rv2 (by omega) eL (fun b o e => kp b o (nOwn b o e) (kk b o e)) (show s1.heap.objs.size ≤ g.objs.size by rw [es]; exact Nat.le_add_right _ _) hS (by simp at hl; omega) G hacc
      exact ⟨.ref _, H', J, rfl, q H' _ as k1 k2 k3 k4 k5 (by simp at hl; omega) k6⟩
end
end ZL
namespace K1
open PySem PySem.Spec PyProof.Rows L2
/-! ### written things as data -/
mutual
/-- None, truths, numbers, texts of right signs, tuples of such -/
def pl : PyData → Bool
  | .none => true
  | .bool _ => true
  | .int _ => true
  | .str x => PyData.strOk x
  | .tuple ds => plA ds
  | .list _ => false
  | .dict _ => false
def plA : List PyData → Bool
  | [] => true
  | d :: ds => pl d && plA ds
end
mutual
/-- how great a thing is: tuples and leaves, signs of texts -/
def sz : PyData → Nat
  | .none => 1
  | .bool _ => 1
  | .int _ => 1
  | .str x => x.length + 1
  | .tuple ds => szA ds + 1
  | .list _ => 1
  | .dict _ => 1
def szA : List PyData → Nat
  | [] => 0
  | d :: ds => sz d + szA ds
end
theorem sz_pos : ∀ d, 1 ≤ sz d
  | .none => Nat.le_refl _
  | .bool _ => Nat.le_refl _
  | .int _ => Nat.le_refl _
  | .str x => Nat.succ_le_succ (Nat.zero_le _)
  | .tuple ds => Nat.succ_le_succ (Nat.zero_le _)
  | .list _ => Nat.le_refl _
  | .dict _ => Nat.le_refl _
theorem len_szA : ∀ ds : List PyData, ds.length ≤ szA ds
  | [] => Nat.le_refl _
  | d :: ds => by
    have h1 := sz_pos d
    have h2 := len_szA ds
    simp only [List.length_cons, szA]
    omega
mutual
theorem canLay : ∀ d, pl d = true → PyData.canLay0 d = true
  | .none, _ => rfl
  | .bool _, _ => rfl
  | .int _, _ => rfl
  | .str _, h => h
  | .tuple ds, h => canLayA ds h
  | .list _, h => by cases h
  | .dict _, h => by cases h
theorem canLayA : ∀ ds, plA ds = true → PyData.canLayAll0 ds = true
  | [], _ => rfl
  | d :: ds, h => by
    have h' : pl d = true ∧ plA ds = true := by simpa [plA] using h
    show (PyData.canLay0 d && PyData.canLayAll0 ds) = true
    rw [canLay d h'.1, canLayA ds h'.2]
    rfl
end
theorem plA_mem : ∀ {ds : List PyData} {d : PyData}, plA ds = true → d ∈ ds → pl d = true
  | d :: ds, e, h, m => by
    have h' : pl d = true ∧ plA ds = true := by simpa [plA] using h
    rcases List.mem_cons.mp m with rfl | m
    · exact h'.1
    · exact plA_mem h'.2 m
theorem plA_of : ∀ {ds : List PyData}, (∀ d ∈ ds, pl d = true) → plA ds = true
  | [], _ => rfl
  | d :: ds, h => by
    show (pl d && plA ds) = true
    rw [h d List.mem_cons_self, plA_of fun e m => h e (List.mem_cons_of_mem _ m)]
    rfl
theorem szA_append : ∀ xs ys : List PyData, szA (xs ++ ys) = szA xs + szA ys
  | [], ys => by simp [szA]
  | x :: xs, ys => by
    simp only [List.cons_append, szA, szA_append xs ys]
    omega
theorem sz_mem : ∀ {ds : List PyData} {d : PyData}, d ∈ ds → sz d ≤ szA ds
  | d :: ds, e, m => by
    simp only [szA]
    rcases List.mem_cons.mp m with rfl | m
    · omega
    · have := sz_mem m
      omega
theorem szA_le {b : Nat} : ∀ {ds : List PyData}, (∀ d ∈ ds, sz d ≤ b) → szA ds ≤ ds.length * b
  | [], _ => by simp [szA]
  | d :: ds, h => by
    have h1 := h d List.mem_cons_self
    have h2 := szA_le fun e m => h e (List.mem_cons_of_mem _ m)
    simp only [szA, List.length_cons, Nat.add_mul]
    omega
theorem depthA_le {b : Nat} : ∀ {ds : List PyData}, (∀ d ∈ ds, d.depth ≤ b) → PyData.depthAll ds ≤ b
  | [], _ => by simp [PyData.depthAll]
  | d :: ds, h => by
    have h1 := h d List.mem_cons_self
    have h2 := depthA_le fun e m => h e (List.mem_cons_of_mem _ m)
    simp only [PyData.depthAll]
    omega
theorem depth_mem : ∀ {ds : List PyData} {d : PyData}, d ∈ ds → d.depth ≤ PyData.depthAll ds
  | d :: ds, e, m => by
    simp only [PyData.depthAll]
    rcases List.mem_cons.mp m with rfl | m
    · omega
    · have := depth_mem m
      omega
theorem depth_tuple (ds : List PyData) : (PyData.tuple ds).depth = PyData.depthAll ds + 1 := by simp [PyData.depth]
/-! ### heaps: what tuples stand -/
section
variable {K : PySem.W.Frag} {H H1 H2 : Hp}
def TS (K : PySem.W.Frag) (H H' : Hp) : Prop := ∀ a xs, SqT K H a xs → SqT K H' a xs
theorem TS.refl : TS K H H := fun _ _ h => h
theorem TS.trans (a : TS K H H1) (b : TS K H1 H2) : TS K H H2 := fun x xs h => b x xs (a x xs h)
theorem ts_same (s : Same H H1) : TS K H H1 := fun a xs h => by
  rcases h with (h | ⟨o, h⟩) | h
  · exact .inl (.inl (s _ _ h))
  · exact .inl (.inr ⟨o, s _ _ h⟩)
  · exact .inr h
theorem ts_new {p : Addr} {o : HO} (h : H p = none) : TS K H (upd H p o) := ts_same fun b u e => by rw [upd_ne (ne_of_none e h)]; exact e
theorem ts_but {S : Addr → Prop} (hS : ∀ b, S b → ∃ xs, H b = some (.lst xs)) (k : ∀ b o, ¬ S b → H b = some o → H1 b = some o) : TS K H H1 := fun a xs h => by
  rcases h with (h | ⟨o, h⟩) | h
  · refine .inl (.inl (k _ _ (fun z => ?_) h))
    obtain ⟨ys, e⟩ := hS a z
    rw [e] at h
    cases h
  · refine .inl (.inr ⟨o, k _ _ (fun z => ?_) h⟩)
    obtain ⟨ys, e⟩ := hS a z
    rw [e] at h
    cases h
  · exact .inr h
theorem ts_lst {l : Addr} {xs ys : List V} (h : H l = some (.lst xs)) : TS K H (upd H l (.lst ys)) :=
  ts_but (S := fun b => b = l) (fun b e => ⟨xs, by rw [e]; exact h⟩) fun b o n e => by rw [upd_ne n]; exact e
theorem same_upd {p : Addr} {o : HO} (h : H p = none) : Same H (upd H p o) := fun b x e => by rw [upd_ne (ne_of_none e h)]; exact e
mutual
theorem TS.dp (t : TS K H H1) : ∀ (d : PyData) (v : V), pl d = true → Dp K H v d → Dp K H1 v d
  | .none, _, _, h => by cases h; exact .non
  | .bool b, _, _, h => by cases h; exact .bl b
  | .int i, _, _, h => by cases h; exact .int i
  | .str x, _, _, h => by cases h; exact .str x
  | .tuple ds, _, p, h => by
    cases h with
    | tup hs ha => exact .tup (t _ _ hs) (TS.dps t ds _ p ha)
  | .list _, _, p, _ => by cases p
  | .dict _, _, p, _ => by cases p
theorem TS.dps (t : TS K H H1) : ∀ (ds : List PyData) (vs : List V), plA ds = true → DpAll K H vs ds → DpAll K H1 vs ds
  | [], _, _, h => by cases h; exact .nil
  | d :: ds, _, p, h => by
    have p' : pl d = true ∧ plA ds = true := by simpa [plA] using p
    cases h with
    | cons h1 h2 => exact .cons (TS.dp t d _ p'.1 h1) (TS.dps t ds _ p'.2 h2)
end
theorem dpAll_len : ∀ {vs : List V} {ds : List PyData}, DpAll K H vs ds → vs.length = ds.length
  | _, _, .nil => rfl
  | _, _, .cons _ t => by simp [dpAll_len t]
theorem dpAll_get : ∀ {vs : List V} {ds : List PyData} {i : Nat} {v : V}, DpAll K H vs ds → vs[i]? = some v → ∃ d, ds[i]? = some d ∧ Dp K H v d
  | _, _, i, v, .nil, e => by simp at e
  | _, _, 0, v, .cons h t, e => by
    simp at e
    subst e
    exact ⟨_, rfl, h⟩
  | _, _, i + 1, v, .cons h t, e => by
    obtain ⟨d, e1, e2⟩ := dpAll_get (i := i) t (by simpa using e)
    exact ⟨d, by simpa using e1, e2⟩
theorem dpAll_append : ∀ {vs ws : List V} {ds es : List PyData}, DpAll K H vs ds → DpAll K H ws es → DpAll K H (vs ++ ws) (ds ++ es)
  | _, _, _, _, .nil, s => s
  | _, _, _, _, .cons h t, s => .cons h (dpAll_append t s)
theorem dpAll_take : ∀ {vs : List V} {ds : List PyData} (n : Nat), DpAll K H vs ds → DpAll K H (vs.take n) (ds.take n)
  | _, _, 0, _ => by simp; exact .nil
  | _, _, _ + 1, .nil => by simp; exact .nil
  | _, _, n + 1, .cons h t => .cons h (dpAll_take n t)
theorem dpAll_drop : ∀ {vs : List V} {ds : List PyData} (n : Nat), DpAll K H vs ds → DpAll K H (vs.drop n) (ds.drop n)
  | _, _, 0, r => r
  | _, _, _ + 1, .nil => by simp; exact .nil
  | _, _, n + 1, .cons _ t => dpAll_drop n t
end
/-! ### a few operators -/
section
variable {X : Cx}
/-- a != b of data, where one of them is not deep -/
def rNeM (K : PySem.W.Frag) : R2 := fun x y H Q => ∃ d e, Dp K H x d ∧ Dp K H y e ∧ d.canLay0 = true ∧ e.canLay0 = true ∧ min d.depth e.depth ≤ 64 ∧ Q (.bl (!PyData.eqv d e)) H
def rEqM (K : PySem.W.Frag) : R2 := fun x y H Q => ∃ d e, Dp K H x d ∧ Dp K H y e ∧ d.canLay0 = true ∧ e.canLay0 = true ∧ min d.depth e.depth ≤ 64 ∧ Q (.bl (PyData.eqv d e)) H
theorem op_neM (hu : X.A.units + 64 < cLine) : OpR X (compareOp .NotEq) (rNeM X.K) := by
  intro pins s σ H x y v u Q I rx ry h
  obtain ⟨d, e, hd, he, sd, se, hm, q⟩ := h
  obtain ⟨as, r1⟩ := Dp.reads I d x v hd rx
  obtain ⟨bs, r2⟩ := Dp.reads I e y u he ry
  exact SeqAt.compareNe_reads r1 r2 sd se (Nat.lt_of_le_of_lt (Nat.add_le_add_left hm _) hu) ⟨.bl _, H, I, rfl, q⟩
theorem op_eqM (hu : X.A.units + 64 < cLine) : OpR X (compareOp .Eq) (rEqM X.K) := by
  intro pins s σ H x y v u Q I rx ry h
  obtain ⟨d, e, hd, he, sd, se, hm, q⟩ := h
  obtain ⟨as, r1⟩ := Dp.reads I d x v hd rx
  obtain ⟨bs, r2⟩ := Dp.reads I e y u he ry
  exact SeqAt.compareEq_reads r1 r2 sd se (Nat.lt_of_le_of_lt (Nat.add_le_add_left hm _) hu) ⟨.bl _, H, I, rfl, q⟩
def CPowW (i j : Int) : Prop := 0 ≤ j ∧ (Builtin.Int.intBits i : Int) * j ≤ 2 ^ 27
theorem op_powW : OpR X (binaryOp .Pow) (rI CPowW fun i j => .int (i ^ j.toNat)) := opI fun _ _ _ _ _ _ _ hc q => pow_int hc.1 hc.2 q
end
end K1
namespace K1
open PySem PySem.Spec PyProof.Rows L2
def topS (i : Nat) : Stmt := PySem.Challenge.pw_packedforms_k01_alike_or_not.main.body.getD i (.Pass ⟨0, 0, 0, 0⟩)
abbrev sPick : Stmt := topS 4
theorem scP : FnScope ["_law_deck_here", "_law_many", "_law_cells", "_law_drawn", "_law_left", "_law_at", "_law_digit", "_law_low", "_law_high"] ["_law_deck_here", "_law_many"] (defScope sPick) :=
  ⟨rfl, rfl, rfl, by decide +kernel, rfl, by decide +kernel, by decide +kernel⟩
/-! ### the deck -/
structure Dk (H : Hp) (dk cl lf : Addr) : Prop where
  ex : ∃ (cells lefts : List Int) (n : Int), H dk = some (.lst [.ref cl, .int n, .ref lf]) ∧ H cl = some (.lst (cells.map V.int)) ∧ H lf = some (.lst (lefts.map V.int)) ∧ cells.length = lefts.length ∧ 0 < cells.length ∧ cells.length ≤ 100 ∧ 0 ≤ n
  ne : cl ≠ lf
/-- all but the deck's own lists stays -/
def KD (dk lf : Addr) (H H' : Hp) : Prop := ∀ b o, b ≠ dk → b ≠ lf → H b = some o → H' b = some o
theorem KD.refl {dk lf : Addr} {H : Hp} : KD dk lf H H := fun _ _ _ _ h => h
theorem KD.trans {dk lf : Addr} {H H1 H2 : Hp} (a : KD dk lf H H1) (b : KD dk lf H1 H2) : KD dk lf H H2 := fun c o n1 n2 h => b c o n1 n2 (a c o n1 n2 h)
theorem Dk.ts {K : PySem.W.Frag} {H H' : Hp} {dk cl lf : Addr} (d : Dk H dk cl lf) (k : KD dk lf H H') : TS K H H' := by
  obtain ⟨⟨cells, lefts, n, e1, e2, e3, _⟩, _⟩ := d
  refine ts_but (S := fun b => b = dk ∨ b = lf) (fun b z => ?_) fun b o n e => k b o (fun z => n (.inl z)) (fun z => n (.inr z)) e
  rcases z with rfl | rfl
  · exact ⟨_, e1⟩
  · exact ⟨_, e3⟩
theorem Dk.same {H H' : Hp} {dk cl lf : Addr} (d : Dk H dk cl lf) (s : Same H H') : Dk H' dk cl lf := by
  obtain ⟨⟨cells, lefts, n, e1, e2, e3, r⟩, ne⟩ := d
  exact ⟨⟨cells, lefts, n, s _ _ e1, s _ _ e2, s _ _ e3, r⟩, ne⟩
theorem KD.of_same {dk lf : Addr} {H H' : Hp} (s : Same H H') : KD dk lf H H' := fun b o _ _ e => s b o e
theorem emod_bounds (a : Int) {m : Int} (h : 0 < m) : 0 ≤ a % m ∧ a % m < m := ⟨Int.emod_nonneg a (by omega), Int.emod_lt_of_pos a h⟩
theorem small64 {i : Int} {m : Int} (hm : m ≤ 2 ^ 40) (h0 : 0 ≤ i) (h1 : i ≤ m) : -(2 ^ 64) < i ∧ i < 2 ^ 64 := by omega
theorem atI_of {xs : List V} {j : Nat} {v : V} {i : Int} (e : i = (j : Int)) (h : xs[j]? = some v) : atI xs i = some v := by subst e; exact atI_nat h
section
variable {P : Program} {w : World} {K : PySem.W.Frag} {mg : Str → Option Value} {base : Heap}
def spPick : Sp := fun vs H Q _ => ∃ (dk cl lf : Addr) (m : Int), vs = [.ref dk, .int m] ∧ Dk H dk cl lf ∧ 0 < m ∧ m.natAbs.log2 < 9000 ∧
  ∀ (d : Int) (H' : Hp), 0 ≤ d → d < m → Dk H' dk cl lf → KD dk lf H H' → Q (.int d) H'
theorem ok_pick {f : Addr} {fd : FuncData} {k : Nat} (F : Fun K "_law_pick" "_law_pick" sPick f fd) (ml : mg "len" = none) : FnOk P w K mg base CX0 (k + 1) f fd ["_law_deck_here", "_law_many"] spPick := by
  refine F.ok scP (fun vs H Q E h => ?_) (fun cdv A outer s H vs Q E hr h => ?_)
  · obtain ⟨dk, cl, lf, m, rfl, _⟩ := h
    rfl
  · obtain ⟨dk, cl, lf, m, rfl, ⟨⟨cells, lefts, n, e1, e2, e3, hlen, hpos, hmx, hn⟩, hne⟩, hm, hm2, q⟩ := h
    refine ⟨_, pss_cons (ps_asg (pv 0) (pg_unl rfl (pgs_cons (pg_name (i := 2) scP.nd rfl (.inl rfl)) (pgs_cons (pg_name (i := 3) scP.nd rfl (.inl rfl)) (pgs_cons (pg_name (i := 4) scP.nd rfl (.inl rfl)) pgs_nil)))))
      (pss_cons (ps_set (i := 5) scP.nd rfl (.inl rfl) (pe_op op_mod (pv 3) (pe_callB call_len_seq (by rfl) ml PySem.boot_len (pa_cons (pv 2) pa_nil))))
      (pss_cons (ps_asg (pe_op op_add (pv 3) pe_int) (pg_sub (pv 0) pe_int set_list))
      (pss_cons (ps_if (pt_cmpR op_gt (pe_ix ix_list (pv 4) (pv 5) (fun _ _ => rfl)) pe_int (nomark _))
        (pss_cons (ps_set (i := 6) scP.nd rfl (.inl rfl) (pe_op op_mod (pe_ix ix_list (pv 4) (pv 5) (fun _ _ => rfl)) (pv 1)))
        (pss_cons (ps_asg (pe_op op_fdivW (pe_ix ix_list (pv 4) (pv 5) (fun _ _ => rfl)) (pv 1)) (pg_sub (pv 4) (pv 5) set_list))
        (pss_one (ps_ret (pv 6))))) pss_nil)
      (pss_cons (ps_set (i := 7) scP.nd rfl (.inl rfl) (pe_op op_mod (pe_op op_mul (pe_op op_add (pe_op op_mod (pe_ix ix_list (pv 2) (pv 5) (fun _ _ => rfl)) pe_int) pe_int) (pe_op op_add (pe_op op_add (pe_op op_mul pe_int (pv 3)) pe_int) (pv 5))) pe_int))
      (pss_cons (ps_set (i := 8) scP.nd rfl (.inl rfl) (pe_op op_add (pe_op op_mod (pe_op op_fdivW (pe_ix ix_list (pv 2) (pv 5) (fun _ _ => rfl)) pe_int) pe_int) pe_int))
      (pss_cons (ps_set (i := 8) scP.nd rfl (.inl rfl) (pe_op op_mod (pe_op op_mul (pv 8) (pe_op op_add pe_int (pe_op op_mul pe_int (pv 3)))) pe_int))
      (pss_cons (ps_set (i := 7) scP.nd rfl (.inl rfl) (pe_op op_mod (pe_op op_add (pe_op op_add (pe_op op_mul (pv 7) (pv 7)) (pe_op op_mul pe_int (pv 8))) (pv 3)) pe_int))
      (pss_cons (ps_set (i := 8) scP.nd rfl (.inl rfl) (pe_op op_mod (pe_op op_add (pe_op op_add (pe_op op_mul (pv 8) (pv 8)) (pe_op op_mul pe_int (pv 7))) (pv 5)) pe_int))
      (pss_one (ps_ret (pe_op op_mod (pe_op op_mod (pe_op op_add (pe_op op_mul (pv 7) pe_int) (pv 8)) pe_int) (pv 1)))))))))))), ?_⟩
    have hS1 : SqL K H dk [.ref cl, .int n, .ref lf] := .inl (.inl e1)
    have hS2 : SqL K H cl (cells.map V.int) := .inl (.inl e2)
    have hS3 : SqL K H lf (lefts.map V.int) := .inl (.inl e3)
    refine ⟨.ref dk, rfl, dk, _, rfl, hS1, rfl, _, _, rfl, _, _, rfl, _, _, rfl, rfl, ?_⟩
    -- at = drawn % len(cells)
    refine ⟨.int n, rfl, .ref cl, rfl, cl, _, rfl, .inl hS2, n, (cells.map V.int).length, rfl, rfl, ?_, ?_⟩
    · show (0 : Int) < ((cells.map V.int).length : Nat)
      rw [List.length_map]
      omega
    · have hlm : (cells.map V.int).length = cells.length := List.length_map ..
      obtain ⟨j, hj, ej⟩ : ∃ j : Nat, j < cells.length ∧ n % (((cells.map V.int).length : Nat) : Int) = (j : Int) := by
        have hb := emod_bounds n (m := ((cells.map V.int).length : Nat)) (by rw [hlm]; omega)
        rw [hlm] at hb ⊢
        exact ⟨(n % (cells.length : Int)).toNat, by omega, by omega⟩
      have eat : ((fun i j => V.int (i % j)) n (((cells.map V.int).length : Nat) : Int)) = V.int (j : Int) := congrArg V.int ej
      rw [eat]
      have hj2 : j < lefts.length := by omega
      have gc : (cells.map V.int)[j]? = some (.int cells[j]) := by rw [List.getElem?_map, List.getElem?_eq_getElem hj]; rfl
      have gl : (lefts.map V.int)[j]? = some (.int lefts[j]) := by rw [List.getElem?_map, List.getElem?_eq_getElem hj2]; rfl
      have nd1 : cl ≠ dk := ne_of e2 e1 (fun z => by
        injection z with z
        cases cells with
        | nil => simp at hpos
        | cons c r => simp at z)
      have nd2 : lf ≠ dk := ne_of e3 e1 (fun z => by
        injection z with z
        cases lefts with
        | nil => simp at hj2
        | cons c r => simp at z)
      -- deck[1] = drawn + 1
      refine ⟨.int n, rfl, n, 1, rfl, rfl, .ref dk, rfl, dk, _, 1, 1, rfl, rfl, e1, rfl, ?_⟩
      generalize hH1 : upd H dk (HO.lst ([V.ref cl, V.int n, V.ref lf].set 1 (V.int (n + 1)))) = H1
      have f1 : H1 dk = some (.lst [.ref cl, .int (n + 1), .ref lf]) := by rw [← hH1, upd_same]; rfl
      have f2 : H1 cl = some (.lst (cells.map V.int)) := by rw [← hH1, upd_ne nd1]; exact e2
      have f3 : H1 lf = some (.lst (lefts.map V.int)) := by rw [← hH1, upd_ne nd2]; exact e3
      have k1 : KD dk lf H H1 := fun b o n1 n2 e => by rw [← hH1, upd_ne n1]; exact e
      have D1 : Dk H1 dk cl lf := ⟨⟨cells, lefts, n + 1, f1, f2, f3, hlen, hpos, hmx, by omega⟩, hne⟩
      have sl : SqL K H1 lf (lefts.map V.int) := .inl (.inl f3)
      have sc : SqL K H1 cl (cells.map V.int) := .inl (.inl f2)
      -- if left[at] > 0
      refine ⟨.ref lf, rfl, .int j, rfl, lf, _, _, _, rfl, rfl, sl, atI_nat gl, _, _, rfl, rfl, _, rfl, ite2 (fun _ => ?_) (fun _ => ?_)⟩
      · refine ⟨.ref lf, rfl, .int j, rfl, lf, _, _, _, rfl, rfl, sl, atI_nat gl, .int m, rfl, _, _, rfl, rfl, hm, ?_⟩
        refine ⟨.ref lf, rfl, .int j, rfl, lf, _, _, _, rfl, rfl, sl, atI_nat gl, .int m, rfl, _, _, rfl, rfl, ⟨hm, hm2⟩, .ref lf, rfl, .int j, rfl, lf, _, j, j, rfl, rfl, f3, ?_, ?_⟩
        · rw [List.length_map]
          unfold ixN
          rw [if_pos (by omega), if_pos (by omega)]
          simp
        · refine ⟨_, rfl, q _ _ (Int.emod_nonneg _ (by omega)) (Int.emod_lt_of_pos _ hm) ⟨⟨cells, lefts.set j (lefts[j] / m), n + 1, ?_, ?_, ?_, ?_, hpos, hmx, by omega⟩, hne⟩ ?_⟩
          · rw [upd_ne nd2.symm]; exact f1
          · rw [upd_ne hne]; exact f2
          · rw [upd_same, List.map_set]
          · rw [List.length_set]; exact hlen
          · intro b o n1 n2 e
            rw [upd_ne n2]
            exact k1 b o n1 n2 e
      · have c1 := emod_bounds cells[j] (m := 2147483647) (by decide)
        have c2 := emod_bounds (cells[j] / 2147483647) (m := 2147483647) (by decide)
        refine ⟨.ref cl, rfl, .int j, rfl, cl, _, _, _, rfl, rfl, sc, atI_nat gc, _, _, rfl, rfl, (by show (0 : Int) < 2147483647; decide), _, _, rfl, rfl, .int n, rfl, _, _, rfl, rfl, .inl ⟨by decide, by decide⟩, _, _, rfl, rfl, .int j, rfl, _, _, rfl, rfl, _, _, rfl, rfl, .inl ⟨by omega, by omega⟩, _, _, rfl, rfl, (by show (0 : Int) < 2147483629; decide), ?_⟩
        refine ⟨.ref cl, rfl, .int j, rfl, cl, _, _, _, rfl, rfl, sc, atI_nat gc, _, _, rfl, rfl, ⟨by decide, by decide +kernel⟩, _, _, rfl, rfl, (by show (0 : Int) < 2147483647; decide), _, _, rfl, rfl, ?_⟩
        dsimp only
        generalize hlow : ((cells[j] % 2147483647 + 1) * (1299709 * n + 15485863 + (j : Int))) % 2147483629 = low
        generalize hhigh : cells[j] / 2147483647 % 2147483647 + 3 = high
        have b1 : 0 ≤ low ∧ low < 2147483629 := by rw [← hlow]; exact emod_bounds _ (by decide)
        have b2 : 0 ≤ high ∧ high < 2147483650 := by omega
        refine ⟨.int high, rfl, .int n, rfl, _, _, rfl, rfl, .inl ⟨by decide, by decide⟩, _, _, rfl, rfl, _, _, rfl, rfl, .inl ⟨by omega, by omega⟩, _, _, rfl, rfl, (by show (0 : Int) < 2147483587; decide), ?_⟩
        dsimp only
        generalize hh2 : high * (49979687 + 86028121 * n) % 2147483587 = high2
        have b3 : 0 ≤ high2 ∧ high2 < 2147483587 := by rw [← hh2]; exact emod_bounds _ (by decide)
        refine ⟨.int low, rfl, .int low, rfl, _, _, rfl, rfl, .inl ⟨by omega, by omega⟩, .int high2, rfl, _, _, rfl, rfl, .inl ⟨by decide, by decide⟩, _, _, rfl, rfl, .int n, rfl, _, _, rfl, rfl, _, _, rfl, rfl, (by show (0 : Int) < 2147483579; decide), ?_⟩
        dsimp only
        generalize hl2 : (low * low + 32452843 * high2 + n) % 2147483579 = low2
        have b4 : 0 ≤ low2 ∧ low2 < 2147483579 := by rw [← hl2]; exact emod_bounds _ (by decide)
        refine ⟨.int high2, rfl, .int high2, rfl, _, _, rfl, rfl, .inl ⟨by omega, by omega⟩, .int low2, rfl, _, _, rfl, rfl, .inl ⟨by decide, by decide⟩, _, _, rfl, rfl, .int j, rfl, _, _, rfl, rfl, _, _, rfl, rfl, (by show (0 : Int) < 2147483563; decide), ?_⟩
        dsimp only
        generalize hh3 : (high2 * high2 + 67867967 * low2 + (j : Int)) % 2147483563 = high3
        refine ⟨.int low2, rfl, _, _, rfl, rfl, .inl ⟨by omega, by omega⟩, .int high3, rfl, _, _, rfl, rfl, _, _, rfl, rfl, (by show (0 : Int) < 4611686018427387847; decide), .int m, rfl, _, _, rfl, rfl, hm, ?_⟩
        exact q _ _ (Int.emod_nonneg _ (by omega)) (Int.emod_lt_of_pos _ hm) D1 k1
end
end K1
namespace K1
open PySem PySem.Spec PyProof.Rows L2
abbrev sDeck : Stmt := topS 3
theorem scD : FnScope ["_law_script", "_law_cells", "_law_cell"] ["_law_script"] (defScope sDeck) := ⟨rfl, rfl, rfl, by decide +kernel, rfl, by decide +kernel, by decide +kernel⟩
theorem cut63 (xs : List V) (h : xs.length ≤ 63) : cutV xs none (some 63) = xs := by
  unfold cutV
  rw [HT.sIx_none, show HT.sIx xs.length xs.length (some 63) = min 63 xs.length from HT.sIx_nat xs.length xs.length 63, show min 63 xs.length = xs.length by omega]
  simp
section
variable {P : Program} {w : World} {K : PySem.W.Frag} {mg : Str → Option Value} {base : Heap}
def spDeck (K : PySem.W.Frag) : Sp := fun vs H Q _ => ∃ (a : Addr) (ns : List Int), vs = [.ref a] ∧ SqL K H a (ns.map V.int) ∧ ns.length ≤ 63 ∧
  ∀ (dk cl lf : Addr) (H' : Hp), Dk H' dk cl lf → Same H H' → H dk = none → H lf = none → Q (.ref dk) H'
theorem ok_deck {f : Addr} {fd : FuncData} {k : Nat} (F : Fun K "_law_deck" "_law_deck" sDeck f fd) (ml : mg "len" = none) (mi : mg "int" = none) (mli : mg "list" = none) : FnOk P w K mg base CX0 (k + 1) f fd ["_law_script"] (spDeck K) := by
  refine F.ok scD (fun vs H Q E h => ?_) (fun cdv A outer s H vs Q E hr h => ?_)
  · obtain ⟨a, ns, rfl, _⟩ := h
    rfl
  · obtain ⟨a, ns, rfl, hS, hlen, q⟩ := h
    refine ⟨_, pss_cons (ps_set (i := 1) scD.nd rfl (.inl rfl) (pe_op op_cat (pe_callTy call_list_of (by rfl) mli (by decide +kernel) (pa_cons (pe_slice sl_list (pv 0) po_none (po_some pe_int)) pa_nil))
        (pe_op op_rep (pe_lst (pa_cons pe_int pa_nil)) (pe_callTy call_int1 (by rfl) mi (by decide +kernel) (pa_cons (pe_cmpR op_eq (pe_callB call_len_seq (by rfl) ml PySem.boot_len (pa_cons (pv 0) pa_nil)) pe_int (nomark _)) pa_nil)))))
      (pss_one (ps_ret (pe_lst (pa_cons (pv 1) (pa_cons pe_int (pa_cons
        (pe_lc (own := [("_law_cell", 2)]) (g := gName 2) (tt := tYes) rfl scD.nd (pi_list (pv 1)) (blkOk_by (N := ["_law_script", "_law_cells", "_law_cell"]) (sc := defScope sDeck) (by decide +kernel)) (fun _ _ _ _ _ => pg_name (i := 2) scD.nd rfl (Or.inl rfl)) (fun _ _ _ _ _ => pts_nil)
          (fun _ _ _ _ _ => pe_op op_mul (pv 2) (pe_callTy call_int1 (by rfl) mi (by decide +kernel) (pa_cons (pe_cmpR op_ge (pv 2) (pe_op op_pow pe_int pe_int) (nomark _)) pa_nil)))) pa_nil)))))), ?_⟩
    refine ⟨.ref a, rfl, 63, rfl, a, _, rfl, hS, fun c nc => ?_⟩
    rw [cut63 _ (by rw [List.length_map]; exact hlen)]
    generalize hH1 : upd H c (HO.lst (ns.map V.int)) = H1
    have s1 : Same H H1 := by rw [← hH1]; exact same_upd nc
    have c1 : H1 c = some (.lst (ns.map V.int)) := by rw [← hH1, upd_same]
    refine ⟨c, _, rfl, .inl (.inl (.inl c1)), fun l nl => ?_⟩
    generalize hH2 : upd H1 l (HO.lst (ns.map V.int)) = H2
    have s2 : Same H1 H2 := by rw [← hH2]; exact same_upd nl
    have c2 : H2 l = some (.lst (ns.map V.int)) := by rw [← hH2, upd_same]
    refine ⟨(by show 1 ≤ sizeLine; decide), fun z nz => ?_⟩
    generalize hH3 : upd H2 z (HO.lst [V.int 0]) = H3
    have s3 : Same H2 H3 := by rw [← hH3]; exact same_upd nz
    have c3 : H3 z = some (.lst [V.int 0]) := by rw [← hH3, upd_same]
    have s03 : Same H H3 := s1.trans (s2.trans s3)
    obtain ⟨kk, hkk, hkv⟩ : ∃ kk : Nat, kk ≤ 1 ∧ (if decide (V.int ((ns.map V.int).length : Nat) = V.int 0) = true then (1 : Int) else 0) = kk ∧ (ns = [] → kk = 1) := by
      by_cases e : ns = []
      · subst e; exact ⟨1, by omega, by simp, fun _ => rfl⟩
      · refine ⟨0, by omega, ?_, fun z => absurd z e⟩
        have : ¬ V.int ((ns.map V.int).length : Nat) = V.int 0 := fun z => e (by
          have z1 := V.int.inj z
          rw [List.length_map] at z1
          exact List.length_eq_zero_iff.mp (by omega))
        rw [decide_eq_false this]
        rfl
    refine ⟨.ref a, rfl, a, _, rfl, .inl (s03.seq hS), rfl, .inr ⟨_, rfl, ?_⟩⟩
    refine ⟨z, _, [V.int 0], rfl, rfl, c3, ?_, ?_, ?_, fun p np => ?_⟩
    · rw [hkv.1]; omega
    · rw [hkv.1]; omega
    · rw [hkv.1]
      show 1 * ((kk : Int)).toNat ≤ sizeLine
      exact Nat.le_trans (show 1 * ((kk : Int)).toNat ≤ 1 by omega) (by decide)
    rw [hkv.1]
    have hrep : (List.replicate ((kk : Int)).toNat [V.int 0]).flatten = (List.replicate kk (0 : Int)).map V.int := by
      rw [Int.toNat_natCast]
      rcases (show kk = 0 ∨ kk = 1 by omega) with e | e <;> (subst e; rfl)
    rw [hrep]
    generalize hH4 : upd H3 p (HO.lst ((List.replicate kk (0 : Int)).map V.int)) = H4
    have s4 : Same H3 H4 := by rw [← hH4]; exact same_upd np
    have c4 : H4 p = some (.lst ((List.replicate kk (0 : Int)).map V.int)) := by rw [← hH4, upd_same]
    refine ⟨l, p, _, _, rfl, rfl, s4 _ _ (s3 _ _ c2), c4, ?_, fun r nr => ?_⟩
    · rw [List.length_map, List.length_map, List.length_replicate]
      exact Nat.le_trans (show ns.length + kk ≤ 64 by omega) (by decide)
    rw [← List.map_append]
    generalize hcells : ns ++ List.replicate kk 0 = cells
    have hcl : 0 < cells.length ∧ cells.length ≤ 100 := by
      rw [← hcells, List.length_append, List.length_replicate]
      refine ⟨?_, by omega⟩
      cases ns with
      | nil => have := hkv.2 rfl; omega
      | cons x r => simp; omega
    generalize hH5 : upd H4 r (HO.lst (cells.map V.int)) = H5
    have s5 : Same H4 H5 := by rw [← hH5]; exact same_upd nr
    have c5 : H5 r = some (.lst (cells.map V.int)) := by rw [← hH5, upd_same]
    have s05 : Same H H5 := s03.trans (s4.trans s5)
    refine ⟨.ref r, rfl, .ref r, rfl, r, rfl, ⟨_, .inl (.inl c5)⟩, fun D hD => lc_list (xs := cells.map V.int) (fun i H' => ∃ lefts : List Int, lefts.length = i ∧ H' D = some (.lst (lefts.map V.int)) ∧ Same H5 H') ⟨[], rfl, upd_same, same_upd hD⟩
      (fun i H' _ hp => ?_) (fun i x H' hx hp => ?_) (fun H' hp => ?_)⟩
    · obtain ⟨_, _, _, sm⟩ := hp
      exact .inl (.inl (sm _ _ c5))
    · obtain ⟨lefts, el, eD, sm⟩ := hp
      obtain ⟨n, rfl⟩ : ∃ n, x = V.int n := by
        rw [List.getElem?_map] at hx
        cases h : cells[i]? with
        | none => rw [h] at hx; cases hx
        | some n => rw [h] at hx; exact ⟨n, (Option.some.inj hx).symm⟩
      have hi : i < cells.length := by
        have := (List.getElem?_eq_some_iff.mp hx).1
        rwa [List.length_map] at this
      refine ⟨rfl, ?_⟩
      refine iteT (B := ∃ lefts : List Int, lefts.length = i + 1 ∧ H' D = some (.lst (lefts.map V.int)) ∧ Same H5 H') ?_
      refine ⟨.int n, rfl, .int n, rfl, _, _, rfl, rfl, ⟨by decide, by decide, by decide⟩, _, _, rfl, rfl, .inr ⟨_, rfl, _, _, rfl, rfl, .inr ?_, ?_⟩⟩
      · constructor
        · split <;> decide
        · split <;> decide
      · refine ⟨_, eD, ?_, lefts ++ [n * (if decide (10 ^ Int.toNat 18 ≤ n) = true then 1 else 0)], ?_, ?_, ?_⟩
        · rw [List.length_map]
          exact Nat.lt_of_le_of_lt (show lefts.length ≤ 100 by omega) (by decide)
        · rw [List.length_append, el]; rfl
        · rw [upd_same, List.map_append]; rfl
        · intro b o e
          rw [upd_ne (ne_of_none e hD)]
          exact sm b o e
    · obtain ⟨lefts, el, eD, sm⟩ := hp
      refine ⟨(by show 3 ≤ sizeLine; decide), fun dk ndk => ?_⟩
      have eDr : r ≠ D := ne_of_none c5 hD
      refine q dk r D _ ⟨⟨cells, lefts, 0, upd_same, ?_, ?_, ?_, hcl.1, hcl.2, by omega⟩, eDr⟩ ?_ ?_ ?_
      · rw [upd_ne (ne_of_none (sm _ _ c5) ndk)]; exact sm _ _ c5
      · rw [upd_ne (ne_of_none eD ndk)]; exact eD
      · rw [el, List.length_map]
      · exact (s05.trans sm).trans (same_upd ndk)
      · exact (s05.trans sm).free ndk
      · exact s05.free hD
end
end K1
namespace K1
open PySem PySem.Spec PyProof.Rows L2
open TL (tl joinL tl_join join_eq len_tl)
abbrev sSimple : Stmt := topS 6
theorem scS : FnScope ["_law_deck_here", "_law_way", "_law_signs", "_law_k"] ["_law_deck_here"] (defScope sSimple) := ⟨rfl, rfl, rfl, by decide +kernel, rfl, by decide +kernel, by decide +kernel⟩
/-! ### texts -/
def CodesOk (l : List Nat) : Prop := ∀ c ∈ l, c < 0x110000
theorem strOk_iff {x : Str} : PyData.strOk x = true ↔ CodesOk (tl x) := by
  unfold PyData.strOk CodesOk tl
  rw [← Array.all_toList, List.all_eq_true]
  constructor
  · intro h c hc
    exact of_decide_eq_true (h c hc)
  · intro h c hc
    exact decide_eq_true (h c hc)
theorem joinNil_ok : ∀ ps : List (List Nat), (∀ p ∈ ps, CodesOk p ∧ p.length = 1) → CodesOk (joinL [] ps) ∧ (joinL [] ps).length = ps.length
  | [], _ => ⟨fun c h => by simp [joinL] at h, rfl⟩
  | [p], h => ⟨(h p List.mem_cons_self).1, by simpa [joinL] using (h p List.mem_cons_self).2⟩
  | p :: q :: r, h => by
    obtain ⟨h1, h2⟩ := h p List.mem_cons_self
    obtain ⟨i1, i2⟩ := joinNil_ok (q :: r) fun z hz => h z (List.mem_cons_of_mem _ hz)
    refine ⟨fun c hc => ?_, ?_⟩
    · have hc' : c ∈ p ++ ([] ++ joinL [] (q :: r)) := hc
      rw [List.nil_append] at hc'
      rcases List.mem_append.mp hc' with m | m
      · exact h1 c m
      · exact i1 c m
    · show (p ++ ([] ++ joinL [] (q :: r))).length = _
      rw [List.nil_append, List.length_append, h2, i2]
      simp
      omega
theorem Dk.not {H : Hp} {dk cl lf D : Addr} (d : Dk H dk cl lf) (h : H D = none) : D ≠ dk ∧ D ≠ cl ∧ D ≠ lf := by
  obtain ⟨⟨_, _, _, e1, e2, e3, _⟩, _⟩ := d
  exact ⟨(ne_of_none e1 h).symm, (ne_of_none e2 h).symm, (ne_of_none e3 h).symm⟩
theorem Dk.upd {H : Hp} {dk cl lf D : Addr} {o : HO} (d : Dk H dk cl lf) (h : D ≠ dk ∧ D ≠ cl ∧ D ≠ lf) : Dk (L2.upd H D o) dk cl lf := by
  obtain ⟨⟨cells, lefts, n, e1, e2, e3, r⟩, ne⟩ := d
  exact ⟨⟨cells, lefts, n, by rw [upd_ne h.1.symm]; exact e1, by rw [upd_ne h.2.1.symm]; exact e2, by rw [upd_ne h.2.2.symm]; exact e3, r⟩, ne⟩
theorem KD.upd {dk lf D : Addr} {H H1 H2 : Hp} {o : HO} (a : KD dk lf H H1) (b : KD dk lf H1 H2) (h : H1 D = none) : KD dk lf H (L2.upd H2 D o) := fun c u n1 n2 e => by
  rw [upd_ne (ne_of_none (a c u n1 n2 e) h)]
  exact b c u n1 n2 (a c u n1 n2 e)
/-! ### a callee -/
structure Cal (P : Program) (w : World) (K : PySem.W.Frag) (mg : Str → Option Value) (base : Heap) (x : Str) (ps : List Str) (k : Nat) (sp : Sp) : Prop where
  ex : ∃ (f : Addr) (fd : FuncData), FnOk P w K mg base CX0 k f fd ps sp ∧ mg x = some (.ref f) ∧ PySem.W.keepIn K (.ref f) = true ∧ Binds K fd ps []
section
variable {P : Program} {w : World} {K : PySem.W.Frag} {mg : Str → Option Value} {base : Heap}
def signs : String := " !\"#$&'()*+,-./0123456789:;<=>?@ABCDEFGHIJKLMNOPQRSTUVWXYZ[\\]^_`abcdefghijklmnopqrstuvwxyz{|}~"
theorem signs_ok : CodesOk (tl (Str.ofString signs)) := strOk_iff.mp (by decide +kernel)
theorem signs_len : (Str.ofString signs).length ≤ sizeLine := by decide +kernel
theorem atI_of2 {α : Type} {xs : List α} {j : Nat} {v : α} {i : Int} (e : i = (j : Int)) (h : xs[j]? = some v) : atI xs i = some v := by subst e; exact atI_nat h
def spSimple (K : PySem.W.Frag) : Sp := fun vs H Q _ => ∃ (dk cl lf : Addr), vs = [.ref dk] ∧ Dk H dk cl lf ∧
  ∀ (v : V) (d : PyData) (H' : Hp), Dk H' dk cl lf → KD dk lf H H' → Dp K H' v d → pl d = true → sz d ≤ 13 → d.depth = 0 → Q v H'
theorem ok_simple {f : Addr} {fd : FuncData} (F : Fun K "_law_simple" "_law_simple" sSimple f fd) (CP : Cal P w K mg base "_law_pick" ["_law_deck_here", "_law_many"] 1 spPick) (mr : mg "range" = none) : FnOk P w K mg base CX0 2 f fd ["_law_deck_here"] (spSimple K) := by
  obtain ⟨fP, fdP, GP, gP, kP, bP⟩ := CP.ex
  refine F.ok scS (fun vs H Q E h => ?_) (fun cdv A outer s H vs Q E hr h => ?_)
  · obtain ⟨dk, cl, lf, rfl, _⟩ := h
    rfl
  · obtain ⟨dk, cl, lf, rfl, D0, q⟩ := h
    refine ⟨_, pss_cons (ps_set (i := 1) scS.nd rfl (.inl rfl) (pe_call GP hr (by rfl) gP kP bP .nil pass0 (pa_cons (pv 0) (pa_cons pe_int pa_nil))))
      (pss_cons (ps_if (pt_cmpR op_eq (pv 1) pe_int (nomark _)) (pss_one (ps_ret pe_non)) pss_nil)
      (pss_cons (ps_if (pt_cmpR op_lt (pv 1) pe_int (nomark _)) (pss_one (ps_ret (pe_cmpR op_eq (pv 1) pe_int (nomark _)))) pss_nil)
      (pss_cons (ps_if (pt_cmpR op_eq (pv 1) pe_int (nomark _)) (pss_one (ps_ret (pe_call GP hr (by rfl) gP kP bP .nil pass0 (pa_cons (pv 0) (pa_cons pe_int pa_nil))))) pss_nil)
      (pss_cons (ps_if (pt_cmpR op_eq (pv 1) pe_int (nomark _)) (pss_one (ps_ret (pe_op op_sub (pe_call GP hr (by rfl) gP kP bP .nil pass0 (pa_cons (pv 0) (pa_cons (pe_op op_pow pe_int pe_int) pa_nil))) (pe_op op_mul pe_int (pe_op op_pow pe_int pe_int))))) pss_nil)
      (pss_cons (ps_if (pt_cmpR op_eq (pv 1) pe_int (nomark _)) (pss_one (ps_ret (pe_op op_add (pe_op op_powW (pe_op op_mulW (pe_op op_pow pe_int pe_int) (pe_op op_add pe_int (pe_call GP hr (by rfl) gP kP bP .nil pass0 (pa_cons (pv 0) (pa_cons (pe_op op_pow pe_int pe_int) pa_nil))))) pe_int)
          (pe_call GP hr (by rfl) gP kP bP .nil pass0 (pa_cons (pv 0) (pa_cons (pe_op op_pow pe_int pe_int) pa_nil)))))) pss_nil)
      (pss_cons (ps_set (i := 2) scS.nd rfl (.inr rfl) pe_str)
      (pss_one (ps_ret (pe_join pe_str
        (pe_lc (own := [("_law_k", 3)]) (g := gName 3) (tt := tYes) rfl scS.nd (pi_range1 (by rfl) mr (pa_cons (pe_call GP hr (by rfl) gP kP bP .nil pass0 (pa_cons (pv 0) (pa_cons (pe_ix ix_list (pe_lst (pa_cons pe_int (pa_cons pe_int pa_nil))) (pe_op op_sub (pv 1) pe_int) (fun _ _ => rfl)) pa_nil))) pa_nil))
          (blkOk_by (N := ["_law_deck_here", "_law_way", "_law_signs", "_law_k"]) (sc := defScope sSimple) (by decide +kernel)) (fun _ _ _ _ _ => pg_name (i := 3) scS.nd rfl (Or.inl rfl)) (fun _ _ _ _ _ => pts_nil)
          (fun _ _ _ _ _ => pe_ix ix_str (pv 2) (pe_call GP hr (by rfl) gP kP bP .nil pass0 (pa_cons (pv 0) (pa_cons pe_int pa_nil))) (fun _ _ => rfl)))))))))))), ?_⟩
    refine ⟨.ref dk, rfl, dk, cl, lf, 8, rfl, D0, by decide, by decide +kernel, fun way H1 w0 w1 D1 k1 => ?_⟩
    refine ⟨.int way, rfl, rfl, _, rfl, ite2 (fun e => ?_) (fun e => ?_)⟩
    · exact q .non .none H1 D1 k1 .non rfl (by simp [sz]) rfl
    replace e : way ≠ 0 := fun z => e (decide_eq_true (by rw [z]))
    refine ⟨.int way, rfl, _, _, rfl, rfl, _, rfl, ite2 (fun e2 => ?_) (fun e2 => ?_)⟩
    · exact ⟨.int way, rfl, rfl, q _ _ H1 D1 k1 (.bl _) rfl (by simp [sz]) rfl⟩
    replace e2 : 3 ≤ way := Int.not_lt.mp fun z => e2 (decide_eq_true (p := way < 3) z)
    refine ⟨.int way, rfl, rfl, _, rfl, ite2 (fun e3 => ?_) (fun e3 => ?_)⟩
    · exact ⟨.ref dk, rfl, dk, cl, lf, 2, rfl, D1, by decide, by decide +kernel, fun d H2 _ _ D2 k2 => q _ _ H2 D2 (k1.trans k2) (.int d) rfl (by simp [sz]) rfl⟩
    replace e3 : way ≠ 3 := fun z => e3 (decide_eq_true (by rw [z]))
    refine ⟨.int way, rfl, rfl, _, rfl, ite2 (fun e4 => ?_) (fun e4 => ?_)⟩
    · refine ⟨.ref dk, rfl, _, _, rfl, rfl, ⟨by decide, by decide, by decide⟩, dk, cl, lf, _, rfl, D1, by decide, by decide +kernel, fun d H2 _ _ D2 k2 => ?_⟩
      exact ⟨_, _, rfl, rfl, ⟨by decide, by decide, by decide⟩, _, _, rfl, rfl, .inl ⟨by decide, by decide⟩, _, _, rfl, rfl, q _ _ H2 D2 (k1.trans k2) (.int _) rfl (by simp [sz]) rfl⟩
    replace e4 : way ≠ 4 := fun z => e4 (decide_eq_true (by rw [z]))
    refine ⟨.int way, rfl, rfl, _, rfl, ite2 (fun e5 => ?_) (fun e5 => ?_)⟩
    · refine ⟨_, _, rfl, rfl, ⟨by decide, by decide, by decide⟩, .ref dk, rfl, _, _, rfl, rfl, ⟨by decide, by decide, by decide⟩, dk, cl, lf, _, rfl, D1, by decide, by decide +kernel, fun d H2 d0 d1 D2 k2 => ?_⟩
      have d1' : d < 1000000000 := d1
      have ha : ((10 : Int) ^ Int.toNat 64).natAbs < 2 ^ 213 := by decide +kernel
      have hb : (1 + d).natAbs < 2 ^ 31 := by omega
      have hc := wide_lt ha hb
      refine ⟨_, _, rfl, rfl, _, _, rfl, rfl, wide_mul ha hb (by decide) (by decide) (by decide), _, _, rfl, rfl, ⟨by decide, ?_⟩, .ref dk, rfl, _, _, rfl, rfl, ⟨by decide, by decide, by decide⟩, dk, cl, lf, _, rfl, D2, by decide, by decide +kernel, fun d2 H3 _ _ D3 k3 => ?_⟩
      · have hl := PySem.Flt.log2_lt_of (by decide) hc
        have hbit : Builtin.Int.intBits ((10 : Int) ^ Int.toNat 64 * (1 + d)) ≤ ((10 : Int) ^ Int.toNat 64 * (1 + d)).natAbs.log2 + 1 := by
          unfold Builtin.Int.intBits
          split <;> omega
        omega
      · exact ⟨_, _, rfl, rfl, q _ _ H3 D3 ((k1.trans k2).trans k3) (.int _) rfl (by simp [sz]) rfl⟩
    replace e5 : way ≠ 5 := fun z => e5 (decide_eq_true (by rw [z]))
    -- signs
    obtain ⟨mm, hmm, hm1, hm2⟩ : ∃ mm : Int, atI [V.int 2, V.int 13] (way - 6) = some (.int mm) ∧ 0 < mm ∧ mm ≤ 13 := by
      rcases (show way = 6 ∨ way = 7 by omega) with z | z
      · subst z; exact ⟨2, rfl, by decide, by decide⟩
      · subst z; exact ⟨13, rfl, by decide, by decide⟩
    refine ⟨⟨_, rfl⟩, .ref dk, rfl, (by show 2 ≤ sizeLine; decide), fun ll nll => ?_⟩
    generalize hHl : upd H1 ll (HO.lst [V.int 2, V.int 13]) = Hl
    have sl : Same H1 Hl := by rw [← hHl]; exact same_upd nll
    have cl2 : Hl ll = some (.lst [V.int 2, V.int 13]) := by rw [← hHl, upd_same]
    refine ⟨.int way, rfl, _, _, rfl, rfl, ll, _, _, _, rfl, rfl, .inl (.inl cl2), hmm, dk, cl, lf, mm, rfl, D1.same sl, hm1, ?_, fun n H2 n0 n1 D2 k2 => ?_⟩
    · have : mm.natAbs < 2 ^ 5 := by omega
      exact Nat.lt_trans (PySem.Flt.log2_lt_of (by decide) this) (by decide)
    have k02 : KD dk lf H H2 := (k1.trans (KD.of_same sl)).trans k2
    have n2 : n < 13 := by omega
    refine ⟨n, rfl, by omega, by omega, fun D hD => lc_range (lo := 0) (n := n.toNat) (fun i H' => ∃ ys : List Str, ys.length = i ∧ (∀ y ∈ ys, CodesOk (tl y) ∧ (tl y).length = 1) ∧ H' D = some (.lst (ys.map V.str)) ∧ Dk H' dk cl lf ∧ KD dk lf H2 H')
      ⟨[], rfl, (fun _ h => nomatch h), upd_same, D2.same (same_upd hD), KD.of_same (same_upd hD)⟩ (fun i H' hi hp => ?_) (fun H' hp => ?_)⟩
    · obtain ⟨ys, el, hy, eD, DH, kH⟩ := hp
      refine ⟨rfl, ?_⟩
      refine iteT (B := ∃ ys : List Str, ys.length = i + 1 ∧ (∀ y ∈ ys, CodesOk (tl y) ∧ (tl y).length = 1) ∧ H' D = some (.lst (ys.map V.str)) ∧ Dk H' dk cl lf ∧ KD dk lf H2 H') ?_
      refine ⟨_, rfl, .ref dk, rfl, dk, cl, lf, 94, rfl, DH, by decide, by decide +kernel, fun g H4 g0 g1 D4 k4 => ?_⟩
      have nD := D2.not hD
      obtain ⟨c, hc, hm⟩ : ∃ c, atI (tl (Str.ofString signs)) g = some c ∧ c < 0x110000 := by
        have hl : (tl (Str.ofString signs)).length = 94 := by decide +kernel
        have hg : g.toNat < (tl (Str.ofString signs)).length := by omega
        refine ⟨(tl (Str.ofString signs))[g.toNat], atI_of2 (by omega) (List.getElem?_eq_getElem hg), ?_⟩
        exact signs_ok _ (List.getElem_mem hg)
      refine ⟨_, g, c, rfl, rfl, signs_len, hc, ?_⟩
      have eD4 : H4 D = some (.lst (ys.map V.str)) := k4 _ _ nD.1 nD.2.2 eD
      refine ⟨_, eD4, ?_, ys ++ [⟨#[c]⟩], ?_, ?_, ?_, D4.upd nD, ?_⟩
      · rw [List.length_map]
        exact Nat.lt_of_le_of_lt (show ys.length ≤ 13 by omega) (by decide)
      · rw [List.length_append, el]; rfl
      · intro y hy'
        rcases List.mem_append.mp hy' with m | m
        · exact hy y m
        · rw [List.mem_singleton.mp m]
          exact ⟨fun z hz => by rw [show z = c by simpa [tl] using hz]; exact hm, rfl⟩
      · rw [upd_same, List.map_append]; rfl
      · intro b o n1 n2 e
        rw [upd_ne (ne_of_none e hD)]
        exact k4 b o n1 n2 (kH b o n1 n2 e)
    · obtain ⟨ys, el, hy, eD, DH, kH⟩ := hp
      have hsum : (ys.map (·.length)).sum = ys.length := by
        clear eD el
        induction ys with
        | nil => rfl
        | cons y r ih =>
          rw [List.map_cons, List.sum_cons, ih fun z hz => hy z (List.mem_cons_of_mem _ hz), len_tl, (hy y List.mem_cons_self).2, List.length_cons]
          omega
      have hj := joinNil_ok (ys.map tl) fun p hp => by
        obtain ⟨y, m, rfl⟩ := List.mem_map.mp hp
        exact hy y m
      have ej : tl (Txt.join (Str.ofString "") ys) = joinL [] (ys.map tl) := by
        rw [join_eq, tl_join]
        rfl
      rw [← ej] at hj
      refine ⟨_, D, ys, rfl, rfl, .inl (.inl (.inl eD)), ?_, q _ (.str (Txt.join (Str.ofString "") ys)) H' DH (k02.trans kH) (.str _) (strOk_iff.mpr hj.1) ?_ rfl⟩
      · rw [hsum]
        show ys.length + ys.length * 0 ≤ 16777216
        omega
      · show (Txt.join (Str.ofString "") ys).length + 1 ≤ 13
        rw [len_tl, hj.2, List.length_map]
        omega
end
end K1
namespace K1
open PySem PySem.Spec PyProof.Rows L2
abbrev sThing : Stmt := topS 7
abbrev nmT : List Str := ["_law_deck_here", "_law_deep", "_law_room", "_law_many", "_law_k"]
abbrev psT : List Str := ["_law_deck_here", "_law_deep", "_law_room"]
theorem scT : FnScope nmT psT (defScope sThing) := ⟨rfl, rfl, rfl, by decide +kernel, rfl, by decide +kernel, by decide +kernel⟩
def B : Nat → Nat
  | 0 => 13
  | n + 1 => 4 * B n + 1
theorem B13 : ∀ n, 13 ≤ B n
  | 0 => Nat.le_refl _
  | n + 1 => by have := B13 n; show 13 ≤ 4 * B n + 1; omega
section
variable {P : Program} {w : World} {K : PySem.W.Frag} {mg : Str → Option Value} {base : Heap}
def spT (K : PySem.W.Frag) : Nat → Sp
  | 0 => fun _ _ _ _ => False
  | n + 1 => fun vs H Q _ => ∃ (dk cl lf : Addr) (deep room : Int), vs = [.ref dk, .int deep, .int room] ∧ Dk H dk cl lf ∧ deep ≤ n ∧ 0 ≤ room ∧
    ∀ (v : V) (d : PyData) (H' : Hp), Dk H' dk cl lf → KD dk lf H H' → Dp K H' v d → pl d = true → sz d ≤ B n → d.depth ≤ n → Q v H'
theorem ok_thing {f : Addr} {fd : FuncData} (F : Fun K "_law_thing" "_law_thing" sThing f fd) (gT : mg "_law_thing" = some (.ref f)) (bT : Binds K fd psT []) (CP : Cal P w K mg base "_law_pick" ["_law_deck_here", "_law_many"] 1 spPick)
    (CS : Cal P w K mg base "_law_simple" ["_law_deck_here"] 2 (spSimple K)) (mr : mg "range" = none) (mn : mg "min" = none) (mt : mg "tuple" = none) : ∀ n : Nat, FnOk P w K mg base CX0 (n + 2) f fd psT (spT K n) := by
  obtain ⟨fP, fdP, GP, gP, kP, bP⟩ := CP.ex
  obtain ⟨fS, fdS, GS, gS, kS, bS⟩ := CS.ex
  intro n
  induction n with
  | zero => exact F.ok scT (fun vs H Q E h => h.elim) (fun cdv A outer s H vs Q E hr h => h.elim)
  | succ n ih =>
    refine F.ok scT (fun vs H Q E h => ?_) (fun cdv A outer s H vs Q E hr h => ?_)
    · obtain ⟨dk, cl, lf, deep, room, rfl, _⟩ := h
      rfl
    · obtain ⟨dk, cl, lf, deep, room, rfl, D0, hdeep, hroom, q⟩ := h
      have hr1 : Room 1 (A.deeper (envOfC "_law_thing" (defScope sThing) s.heap.objs.size f cdv)) := hr.mono (by omega)
      have hr2 : Room 2 (A.deeper (envOfC "_law_thing" (defScope sThing) s.heap.objs.size f cdv)) := hr.mono (by omega)
      refine ⟨_, pss_cons (ps_if (PW.pt (pw_or (pt_cmpR op_lt (pv 1) pe_int (nomark _)) (pw_or1 (PW.pt (pw_and (pt_cmpR op_lt (pv 2) pe_int (nomark _)) (pw_and1 (pt_cmpR op_eq (pe_call GP hr1 (by rfl) gP kP bP .nil pass0 (pa_cons (pv 0) (pa_cons pe_int pa_nil))) pe_int (nomark _))))))))
          (pss_one (ps_ret (pe_call GS hr2 (by rfl) gS kS bS .nil pass0 (pa_cons (pv 0) pa_nil)))) pss_nil)
        (pss_cons (ps_set (i := 3) scT.nd rfl (.inr rfl) (pe_call GP hr1 (by rfl) gP kP bP .nil pass0 (pa_cons (pv 0) (pa_cons pe_int pa_nil))))
        (pss_one (ps_ret (pe_callTy call_tuple_of (by rfl) mt (by decide +kernel) (pa_cons
          (pe_lc (own := [("_law_k", 4)]) (g := gName 4) (tt := tYes) rfl scT.nd (pi_range1 (by rfl) mr (pa_cons (pe_callB (call_min2 rfl) (by rfl) mn (by decide +kernel) (pa_cons (pv 3) (pa_cons (pv 2) pa_nil))) pa_nil))
            (blkOk_by (N := nmT) (sc := defScope sThing) (by decide +kernel)) (fun _ _ _ _ _ => pg_name (i := 4) scT.nd rfl (Or.inl rfl)) (fun _ _ _ _ _ => pts_nil)
            (fun _ _ _ _ _ => pe_call ih hr (by rfl) gT F.kp bT .nil pass0 (pa_cons (pv 0) (pa_cons (pe_op op_sub (pe_op op_sub (pv 1) pe_int) (pe_call GP hr1 (by rfl) gP kP bP .nil pass0 (pa_cons (pv 0) (pa_cons pe_int pa_nil)))) (pa_cons (pe_op op_fdiv (pv 2) (pv 3)) pa_nil))))) pa_nil))))), ?_⟩
      refine ⟨.int deep, rfl, _, _, rfl, rfl, _, rfl, ite2 (fun e => ?_) (fun e => ?_)⟩
      · refine ⟨.ref dk, rfl, dk, cl, lf, rfl, D0, fun v d H2 D2 k2 hd hp hs h0 => q v d H2 D2 (KD.trans KD.refl k2) hd hp (Nat.le_trans hs (B13 n)) (by omega)⟩
      replace e : 1 ≤ deep := Int.not_lt.mp fun z => e (decide_eq_true (p := deep < 1) z)
      refine ⟨.int room, rfl, _, _, rfl, rfl, _, rfl, ite2 (fun e1 => ?_) (fun e1 => ?_)⟩
      · refine ⟨.ref dk, rfl, dk, cl, lf, 2, rfl, D0, by decide, by decide +kernel, fun g H1 g0 g1 D1 k1 => ?_⟩
        refine ⟨rfl, _, rfl, ite2 (fun e2 => ?_) (fun e2 => ?_)⟩
        · refine ⟨.ref dk, rfl, dk, cl, lf, rfl, D1, fun v d H2 D2 k2 hd hp hs h0 => q v d H2 D2 (KD.trans k1 k2) hd hp (Nat.le_trans hs (B13 n)) (by omega)⟩
        · refine ⟨.ref dk, rfl, dk, cl, lf, 5, rfl, D1, by decide, by decide +kernel, fun many H2 m0 m1 D2 k2 => ?_⟩
          have k02 : KD dk lf H H2 := KD.trans k1 k2
          cases n with
          | zero => exact absurd hdeep (by omega)
          | succ n =>
            obtain ⟨c, hc, hcm⟩ : ∃ c : Nat, (if room < many then room else many) = (c : Int) ∧ c ≤ 4 ∧ (c : Int) ≤ many := by
              by_cases z : room < many
              · rw [if_pos z]; exact ⟨room.toNat, by omega, by omega, by omega⟩
              · rw [if_neg z]; exact ⟨many.toNat, by omega, by omega, by omega⟩
            refine ⟨.int many, rfl, .int room, rfl, _, _, rfl, (if room < many then room else many), rfl, by omega, by omega, fun D hD => ?_⟩
            rw [hc]
            have nD := D2.not hD
            refine lc_range (lo := 0) (n := ((c : Int)).toNat) (fun i H' => ∃ (vs : List V) (ds : List PyData), vs.length = i ∧ DpAll K H' vs ds ∧ plA ds = true ∧ (∀ d ∈ ds, sz d ≤ B n ∧ d.depth ≤ n) ∧ H' D = some (.lst vs) ∧ Dk H' dk cl lf ∧ KD dk lf H2 H')
              ⟨[], [], rfl, .nil, rfl, (fun _ h => nomatch h), upd_same, D2.same (same_upd hD), KD.of_same (same_upd hD)⟩ (fun i H' hi hp => ?_) (fun H' hp => ?_)
            · obtain ⟨vs, ds, el, hv, hpl, hb, eD, DH, kH⟩ := hp
              rw [Int.toNat_natCast] at hi
              refine ⟨rfl, ?_⟩
              refine iteT (B := ∃ (vs : List V) (ds : List PyData), vs.length = i + 1 ∧ DpAll K H' vs ds ∧ plA ds = true ∧ (∀ d ∈ ds, sz d ≤ B n ∧ d.depth ≤ n) ∧ H' D = some (.lst vs) ∧ Dk H' dk cl lf ∧ KD dk lf H2 H') ?_
              refine ⟨.ref dk, rfl, .int deep, rfl, _, _, rfl, rfl, .ref dk, rfl, dk, cl, lf, 3, rfl, DH, by decide, by decide +kernel, fun p H4 p0 p1 D4 k4 => ?_⟩
              refine ⟨_, _, rfl, rfl, .int room, rfl, .int many, rfl, _, _, rfl, rfl, ⟨by omega, by omega⟩, dk, cl, lf, _, _, rfl, D4, by omega, Int.ediv_nonneg hroom m0, fun v d H5 D5 k5 hd hpd hs h0 => ?_⟩
              have k45 : KD dk lf H' H5 := k4.trans k5
              have eD5 : H5 D = some (.lst vs) := k45 _ _ nD.1 nD.2.2 eD
              have ts : TS K H' H5 := DH.ts k45
              refine ⟨_, eD5, ?_, vs ++ [v], ds ++ [d], ?_, ?_, ?_, ?_, upd_same, D5.upd nD, ?_⟩
              · exact Nat.lt_of_le_of_lt (show vs.length ≤ 4 by omega) (by decide)
              · rw [List.length_append, el]; rfl
              · exact dpAll_append (TS.dps (ts_lst eD5) ds vs hpl (TS.dps ts ds vs hpl hv)) (.cons (TS.dp (ts_lst eD5) d v hpd hd) .nil)
              · exact plA_of fun e he => by
                  rcases List.mem_append.mp he with m | m
                  · exact plA_mem hpl m
                  · rw [List.mem_singleton.mp m]; exact hpd
              · intro e he
                rcases List.mem_append.mp he with m | m
                · exact hb e m
                · rw [List.mem_singleton.mp m]; exact ⟨hs, h0⟩
              · intro b o n1 n2 e
                rw [upd_ne (ne_of_none e hD)]
                exact k45 b o n1 n2 (kH b o n1 n2 e)
            · obtain ⟨vs, ds, el, hv, hpl, hb, eD, DH, kH⟩ := hp
              refine ⟨D, vs, rfl, .inl ⟨.inl (.inl eD), fun l nl => ?_⟩⟩
              have hlen : ds.length ≤ 4 := by
                rw [← dpAll_len hv, el, Int.toNat_natCast]; omega
              refine q (.ref l) (.tuple ds) _ (DH.same (same_upd nl)) ((k02.trans kH).trans (KD.of_same (same_upd nl))) (.tup (.inl (.inl upd_same)) (TS.dps (ts_new nl) ds vs hpl hv)) hpl ?_ ?_
              · have h1 := szA_le (b := B n) fun d hd => (hb d hd).1
                have h2 : ds.length * B n ≤ 4 * B n := Nat.mul_le_mul_right _ hlen
                show szA ds + 1 ≤ 4 * B n + 1
                omega
              · rw [depth_tuple]
                have := depthA_le (b := n) fun d hd => (hb d hd).2
                omega
      · refine ⟨.ref dk, rfl, dk, cl, lf, 5, rfl, D0, by decide, by decide +kernel, fun many H2 m0 m1 D2 k2 => ?_⟩
        have k02 : KD dk lf H H2 := KD.trans KD.refl k2
        cases n with
        | zero => exact absurd hdeep (by omega)
        | succ n =>
          obtain ⟨c, hc, hcm⟩ : ∃ c : Nat, (if room < many then room else many) = (c : Int) ∧ c ≤ 4 ∧ (c : Int) ≤ many := by
            by_cases z : room < many
            · rw [if_pos z]; exact ⟨room.toNat, by omega, by omega, by omega⟩
            · rw [if_neg z]; exact ⟨many.toNat, by omega, by omega, by omega⟩
          refine ⟨.int many, rfl, .int room, rfl, _, _, rfl, (if room < many then room else many), rfl, by omega, by omega, fun D hD => ?_⟩
          rw [hc]
          have nD := D2.not hD
          refine lc_range (lo := 0) (n := ((c : Int)).toNat) (fun i H' => ∃ (vs : List V) (ds : List PyData), vs.length = i ∧ DpAll K H' vs ds ∧ plA ds = true ∧ (∀ d ∈ ds, sz d ≤ B n ∧ d.depth ≤ n) ∧ H' D = some (.lst vs) ∧ Dk H' dk cl lf ∧ KD dk lf H2 H')
            ⟨[], [], rfl, .nil, rfl, (fun _ h => nomatch h), upd_same, D2.same (same_upd hD), KD.of_same (same_upd hD)⟩ (fun i H' hi hp => ?_) (fun H' hp => ?_)
          · obtain ⟨vs, ds, el, hv, hpl, hb, eD, DH, kH⟩ := hp
            rw [Int.toNat_natCast] at hi
            refine ⟨rfl, ?_⟩
            refine iteT (B := ∃ (vs : List V) (ds : List PyData), vs.length = i + 1 ∧ DpAll K H' vs ds ∧ plA ds = true ∧ (∀ d ∈ ds, sz d ≤ B n ∧ d.depth ≤ n) ∧ H' D = some (.lst vs) ∧ Dk H' dk cl lf ∧ KD dk lf H2 H') ?_
            refine ⟨.ref dk, rfl, .int deep, rfl, _, _, rfl, rfl, .ref dk, rfl, dk, cl, lf, 3, rfl, DH, by decide, by decide +kernel, fun p H4 p0 p1 D4 k4 => ?_⟩
            refine ⟨_, _, rfl, rfl, .int room, rfl, .int many, rfl, _, _, rfl, rfl, ⟨by omega, by omega⟩, dk, cl, lf, _, _, rfl, D4, by omega, Int.ediv_nonneg hroom m0, fun v d H5 D5 k5 hd hpd hs h0 => ?_⟩
            have k45 : KD dk lf H' H5 := k4.trans k5
            have eD5 : H5 D = some (.lst vs) := k45 _ _ nD.1 nD.2.2 eD
            have ts : TS K H' H5 := DH.ts k45
            refine ⟨_, eD5, ?_, vs ++ [v], ds ++ [d], ?_, ?_, ?_, ?_, upd_same, D5.upd nD, ?_⟩
            · exact Nat.lt_of_le_of_lt (show vs.length ≤ 4 by omega) (by decide)
            · rw [List.length_append, el]; rfl
            · exact dpAll_append (TS.dps (ts_lst eD5) ds vs hpl (TS.dps ts ds vs hpl hv)) (.cons (TS.dp (ts_lst eD5) d v hpd hd) .nil)
            · exact plA_of fun e he => by
                rcases List.mem_append.mp he with m | m
                · exact plA_mem hpl m
                · rw [List.mem_singleton.mp m]; exact hpd
            · intro e he
              rcases List.mem_append.mp he with m | m
              · exact hb e m
              · rw [List.mem_singleton.mp m]; exact ⟨hs, h0⟩
            · intro b o n1 n2 e
              rw [upd_ne (ne_of_none e hD)]
              exact k45 b o n1 n2 (kH b o n1 n2 e)
          · obtain ⟨vs, ds, el, hv, hpl, hb, eD, DH, kH⟩ := hp
            refine ⟨D, vs, rfl, .inl ⟨.inl (.inl eD), fun l nl => ?_⟩⟩
            have hlen : ds.length ≤ 4 := by
              rw [← dpAll_len hv, el, Int.toNat_natCast]; omega
            refine q (.ref l) (.tuple ds) _ (DH.same (same_upd nl)) ((k02.trans kH).trans (KD.of_same (same_upd nl))) (.tup (.inl (.inl upd_same)) (TS.dps (ts_new nl) ds vs hpl hv)) hpl ?_ ?_
            · have h1 := szA_le (b := B n) fun d hd => (hb d hd).1
              have h2 : ds.length * B n ≤ 4 * B n := Nat.mul_le_mul_right _ hlen
              show szA ds + 1 ≤ 4 * B n + 1
              omega
            · rw [depth_tuple]
              have := depthA_le (b := n) fun d hd => (hb d hd).2
              omega
end
end K1
namespace K1
open PySem PySem.Spec PyProof.Rows L2
abbrev sAround : Stmt := topS 11
theorem scA : FnScope ["_law_thing_here", "_law_many", "_law_k"] ["_law_thing_here", "_law_many"] (defScope sAround) := ⟨rfl, rfl, rfl, by decide +kernel, rfl, by decide +kernel, by decide +kernel⟩
abbrev sAnew : Stmt := topS 12
theorem scN : FnScope ["_law_thing_here", "_law_one"] ["_law_thing_here"] (defScope sAnew) := ⟨rfl, rfl, rfl, by decide +kernel, rfl, by decide +kernel, by decide +kernel⟩
/-! ### types of written things -/
def tyN : PyData → String
  | .none => "NoneType"
  | .bool _ => "bool"
  | .int _ => "int"
  | .str _ => "str"
  | .tuple _ => "tuple"
  | .list _ => "list"
  | .dict _ => "dict"
def isT : PyData → Bool
  | .tuple _ => true
  | _ => false
def isB : PyData → Bool
  | .bool _ => true
  | _ => false
def isI : PyData → Bool
  | .int _ => true
  | .bool _ => true
  | _ => false
def isS : PyData → Bool
  | .str _ => true
  | _ => false
theorem kT : ∀ d : PyData, kitB (tyN d) "tuple" = some (isT d)
  | .none => (by decide +kernel : kitB "NoneType" "tuple" = some false)
  | .bool _ => (by decide +kernel : kitB "bool" "tuple" = some false)
  | .int _ => (by decide +kernel : kitB "int" "tuple" = some false)
  | .str _ => (by decide +kernel : kitB "str" "tuple" = some false)
  | .tuple _ => (by decide +kernel : kitB "tuple" "tuple" = some true)
  | .list _ => (by decide +kernel : kitB "list" "tuple" = some false)
  | .dict _ => (by decide +kernel : kitB "dict" "tuple" = some false)
theorem kB : ∀ d : PyData, kitB (tyN d) "bool" = some (isB d)
  | .none => (by decide +kernel : kitB "NoneType" "bool" = some false)
  | .bool _ => (by decide +kernel : kitB "bool" "bool" = some true)
  | .int _ => (by decide +kernel : kitB "int" "bool" = some false)
  | .str _ => (by decide +kernel : kitB "str" "bool" = some false)
  | .tuple _ => (by decide +kernel : kitB "tuple" "bool" = some false)
  | .list _ => (by decide +kernel : kitB "list" "bool" = some false)
  | .dict _ => (by decide +kernel : kitB "dict" "bool" = some false)
theorem kI : ∀ d : PyData, kitB (tyN d) "int" = some (isI d)
  | .none => (by decide +kernel : kitB "NoneType" "int" = some false)
  | .bool _ => (by decide +kernel : kitB "bool" "int" = some true)
  | .int _ => (by decide +kernel : kitB "int" "int" = some true)
  | .str _ => (by decide +kernel : kitB "str" "int" = some false)
  | .tuple _ => (by decide +kernel : kitB "tuple" "int" = some false)
  | .list _ => (by decide +kernel : kitB "list" "int" = some false)
  | .dict _ => (by decide +kernel : kitB "dict" "int" = some false)
theorem kS : ∀ d : PyData, kitB (tyN d) "str" = some (isS d)
  | .none => (by decide +kernel : kitB "NoneType" "str" = some false)
  | .bool _ => (by decide +kernel : kitB "bool" "str" = some false)
  | .int _ => (by decide +kernel : kitB "int" "str" = some false)
  | .str _ => (by decide +kernel : kitB "str" "str" = some true)
  | .tuple _ => (by decide +kernel : kitB "tuple" "str" = some false)
  | .list _ => (by decide +kernel : kitB "list" "str" = some false)
  | .dict _ => (by decide +kernel : kitB "dict" "str" = some false)
theorem dp_ty {K : PySem.W.Frag} {H : Hp} {v : V} {d : PyData} (h : Dp K H v d) (p : pl d = true) : TyX K H v (.type (tyN d)) := by
  cases h with
  | non => exact .base .non
  | bl b => exact .base (.bl b)
  | int i => exact .base (.int i)
  | str x => exact .base (.str x)
  | lst hs ha => cases p
  | tup hs ha =>
    rcases hs with (hs | ⟨o, hs⟩) | ⟨o, its, n, h1, h2, _⟩
    · exact .base (.tup hs)
    · exact .fTuple hs
    · exact .kTuple h1 h2
/-! ### tuples around -/
def wrap : Nat → PyData → PyData
  | 0, d => d
  | n + 1, d => .tuple [wrap n d]
theorem wrap_pl (d : PyData) : ∀ n, pl (wrap n d) = pl d
  | 0 => rfl
  | n + 1 => by simp [wrap, pl, plA, wrap_pl d n]
theorem wrap_sz (d : PyData) : ∀ n, sz (wrap n d) = sz d + n
  | 0 => rfl
  | n + 1 => by simp [wrap, sz, szA, wrap_sz d n]; omega
theorem wrap_depth (d : PyData) : ∀ n, (wrap n d).depth = d.depth + n
  | 0 => rfl
  | n + 1 => by simp [wrap, PyData.depth, PyData.depthAll, wrap_depth d n]; omega
section
variable {P : Program} {w : World} {K : PySem.W.Frag} {mg : Str → Option Value} {base : Heap}
def spAround (K : PySem.W.Frag) : Sp := fun vs H Q _ => ∃ (v : V) (d : PyData) (m : Nat), vs = [v, .int m] ∧ Dp K H v d ∧ pl d = true ∧ m ≤ 250 ∧ ∀ (v' : V) (H' : Hp), Same H H' → Dp K H' v' (wrap m d) → Q v' H'
theorem ok_around {f : Addr} {fd : FuncData} {k : Nat} (F : Fun K "_law_around" "_law_around" sAround f fd) (mr : mg "range" = none) : FnOk P w K mg base CX0 (k + 1) f fd ["_law_thing_here", "_law_many"] (spAround K) := by
  refine F.ok scA (fun vs H Q E h => ?_) (fun cdv A outer s H vs Q E hr h => ?_)
  · obtain ⟨v, d, m, rfl, _⟩ := h
    rfl
  · obtain ⟨v, d, m, rfl, hd, hp, hm, q⟩ := h
    refine ⟨_, pss_cons (ps_for PassesOwn.never rfl (pi_range1 (by rfl) mr (pa_cons (pv 1) pa_nil)) (pg_name (i := 2) scA.nd rfl (.inl rfl))
        (pss_one (ps_set (i := 0) scA.nd rfl (.inl rfl) (pe_tup (pa_cons (pv 0) pa_nil)))))
      (pss_one (ps_ret (pv 0))), ?_⟩
    refine ⟨.int m, rfl, m, rfl, by omega, by omega, for_range (lo := 0) (n := ((m : Int)).toNat) (fun i σ H' => ∃ v' y, σ = [some v', some (.int m), y] ∧ Same H H' ∧ Dp K H' v' (wrap i d)) ⟨v, none, rfl, Same.refl _, hd⟩ (fun i σ H' hi hP => ?_) (fun σ H' hP => ?_)⟩
    · obtain ⟨v', y, rfl, sm, hv⟩ := hP
      refine ⟨v', rfl, (by show 1 ≤ sizeLine; decide), fun t nt => ⟨.ref t, _, rfl, sm.trans (same_upd nt), .tup (.inl (.inl upd_same)) (.cons (TS.dp (ts_new nt) _ _ (by rw [wrap_pl]; exact hp) hv) .nil)⟩⟩
    · obtain ⟨v', y, rfl, sm, hv⟩ := hP
      rw [Int.toNat_natCast] at hv
      exact ⟨v', rfl, q v' H' sm hv⟩
/-! ### a callee whose room is counted by itself (a recursion of hundreds of calls) -/
structure FnR (P : Program) (w : World) (K : PySem.W.Frag) (mg : Str → Option Value) (base : Heap) (R : Around → Prop) (f : Addr) (fd : FuncData) (ps : List Str) (sp : Sp) : Prop where
  sam : ∀ vs H Q E, sp vs H Q E → vs.length = ps.length
  go : ∀ (A : Around) (out : List Env) (s : Shared) (H : Hp) (ar : Args) (us : List Value) (vs : List V) (Q : VK) (E : XK), R A → Env0 P w K mg base A out s H → BindsTo s fd ar (ps.zip us) → Vals vs us → sp vs H Q E →
    codeAny (model P w) A (.call (.ref f) ar) (CR CX0 out P w H s Q E) s
theorem okR {x qual : Str} {st : Stmt} {f : Addr} {fd : FuncData} {N ps : List Str} {sp : Sp} {R R' : Around → Prop} (F : Fun K x qual st f fd) (S : FnScope N ps (defScope st)) (rd : ∀ A, R A → A.depth < recursionLimit ∧ A.handled = none) (rs : ∀ A env, R A → R' (A.deeper env))
    (sam : ∀ vs H Q E, sp vs H Q E → vs.length = ps.length)
    (bd : ∀ (cdv : Value) (A : Around) (out : List Env) (s : Shared) (H : Hp) (vs : List V) (Q : VK) (E : XK), R' (A.deeper (envOfC qual (defScope st) s.heap.objs.size f cdv)) → sp vs H Q E →
      ∃ t, PSs (cxOf CX0 P w K mg base N qual (defScope st) f cdv A out s H E).nox (defBody st) t ∧ t { nx := fun _ G => Q .non G, rt := Q } (start N vs) H) : FnR P w K mg base R f fd ps sp := by
  obtain ⟨oc, od, kV, doc, pm, an, cdv, ct, osl, rfl, lk, hcd⟩ := F.ex
  refine ⟨sam, fun A out s H ar us vs Q E r0 en bi rv hsp => ?_⟩
  have hl := sam _ _ _ _ hsp
  have kin : K.In s.heap := en.mod.kin.keeps fun b o z => (en.bs b o z).1
  have nl : s.heap.NoLimit := en.mod.nolimit.keeps fun b o z => (en.bs b o z).1
  have kinds : ∀ y ∈ ps.zip us, (defScope st).names.lookup y.1 = some .local ∨ ((defScope st).names.lookup y.1 = some .cell ∧ ((cellsFrom (s.heap.objs.size + 1) (defScope st).names []).lookup y.1).isSome = true) := fun ⟨nm, vv⟩ hy => by
    rcases S.par nm (List.of_mem_zip hy).1 with z | z
    · exact .inl z
    · exact .inr ⟨z, PySem.W.cellsFrom_some _ _ _ (.inl z)⟩
  refine codeAny_call_function (rd A r0).1 (kin _ _ lk) rfl S.co S.gen rfl (PySem.W.codeRec_of kin hcd) (bi _ _ _ _ ?_)
  refine wpAny_newFunctionEnv_cells S.kind kinds fun env he s1 inc => ?_
  subst he
  refine ⟨nl.keeps inc.toInCall.keep, codeAny_func ?_⟩
  obtain ⟨t, ht, hq⟩ := bd cdv A out s H vs Q E (rs A _ r0) hsp
  have I0 : Inv (cxOf CX0 P w K mg base N qual (defScope st) f cdv A out s H E) [] (start N vs) H s1 := inv_start S (rd A r0).2 en hl rv inc
  refine wpAny_mono (ht.nox.run [] s1 (start N vs) H _ I0 hq) (fun fl s' hs => ?_) fun _ _ z => z
  cases fl with
  | ret u =>
    obtain ⟨v, σ', G, J, rv', q⟩ := hs
    exact ⟨v, G, J.os, J.bare, J.base, J.hok, rv', q⟩
  | next =>
    obtain ⟨σ', G, J, q⟩ := hs
    exact ⟨.non, G, J.os, J.bare, J.base, J.hok, rfl, q⟩
  | brk =>
    obtain ⟨_, _, _, q⟩ := hs
    exact q.elim
  | cont =>
    obtain ⟨_, _, _, q⟩ := hs
    exact q.elim
theorem pe_callR {X : Cx} {R : Around → Prop} {f : Addr} {fd : FuncData} {ps : List Str} {sp : Sp} {x : Str} {p pos : Pos} {e : Expr} {es : List Expr} {t : TA} (F : FnR X.prog X.w X.K X.mg X.base R f fd ps sp) (r0 : R X.A) (hg : Gl X x) (hm : X.mg x = some (.ref f)) (hk : PySem.W.keepIn X.K (.ref f) = true) (hb : Binds X.K fd ps [])
    (ha : PA X (e :: es) t) (hdb : (x == ("__debug__" : Str)) = false := by decide) (he : starEach (e :: es) X.env = (false, eval e X.env) :: starEach es X.env := by rfl) (hpl : (backTo pos (starEach es X.env)).any (·.1) = false := by rfl) :
    PE X (.Call (.Name x p) (e :: es) [] pos) (tCall sp [] E0 t) := by
  refine ⟨fun pins s σ H Q I h => ?_⟩
  refine wpAny_Call_Name_kw (ld_glob I hg hm ?_ hdb)
  refine PySem.W.callWith_K (h₀ := X.base) I.ok.mod.kin hk (thn (ha.run pos pins s σ H _ I h) fun us s1 ⟨vs, H1, I1, rv, q⟩ => ⟨I1.kIn, ?_⟩) he hpl
  have rv2 : Vals (vs ++ []) (us ++ []) := rv.append .nil
  have hl : (us ++ []).length = ps.length := by rw [← rv2.length]; exact F.sam _ _ _ _ q
  refine wpAny_call (codeAny_mono (F.go X.A X.stack s1 H1 ⟨us, []⟩ (us ++ []) (vs ++ []) Q E0 r0 I1.env0 (hb s1 us I1.kIn hl) rv2 q) fun r s' hq => ?_)
  cases r with
  | error z => exact hq.elim
  | ok fl =>
    cases fl with
    | ret u => exact I1.after hq
    | next => exact hq.elim
    | brk => exact hq.elim
    | cont => exact hq.elim
/-- room for n calls, counted one by one -/
def RD (n : Nat) (A : Around) : Prop := A.handled = none ∧ A.depth + n + 5 < recursionLimit ∧ A.units + 3 * n + 200 < cLine
theorem RD.deeper {n : Nat} {A : Around} (env : Env) (h : RD (n + 1) A) : RD n (A.deeper env) :=
  ⟨h.1, by have := h.2.1; show A.depth + 1 + n + 5 < _; omega, by have := h.2.2; show A.units + 3 + 3 * n + 200 < _; omega⟩
theorem RD.of {k n : Nat} {A : Around} (hr : Room k A) (h : n ≤ 3 * k) : RD n A := ⟨hr.hd, by have := hr.dp; omega, by have := hr.un; omega⟩
/-! ### a thing made anew -/
def spN (K : PySem.W.Frag) : Nat → Sp
  | 0 => fun _ _ _ _ => False
  | n + 1 => fun vs H Q _ => ∃ (v : V) (d : PyData), vs = [v] ∧ Dp K H v d ∧ pl d = true ∧ d.depth ≤ n ∧ sz d ≤ 4000000 ∧ ∀ (v' : V) (H' : Hp), Same H H' → Dp K H' v' d → Q v' H'
theorem ok_anew {f : Addr} {fd : FuncData} (F : Fun K "_law_anew" "_law_anew" sAnew f fd) (gN : mg "_law_anew" = some (.ref f)) (bN : Binds K fd ["_law_thing_here"] []) (mi : mg "isinstance" = none) (mt : mg "tuple" = none) : ∀ n : Nat, FnR P w K mg base (RD (n + 1)) f fd ["_law_thing_here"] (spN K n) := by
  intro n
  induction n with
  | zero => exact okR F scN (R' := fun _ => True) (fun A h => ⟨by have := h.2.1; omega, h.1⟩) (fun _ _ _ => True.intro) (fun vs H Q E h => h.elim) (fun cdv A outer s H vs Q E hr h => h.elim)
  | succ n ih =>
    refine okR F scN (R' := RD (n + 1)) (fun A h => ⟨by have := h.2.1; omega, h.1⟩) (fun A env h => RD.deeper env h) (fun vs H Q E h => ?_) (fun cdv A outer s H vs Q E hr h => ?_)
    · obtain ⟨v, d, rfl, _⟩ := h
      rfl
    · obtain ⟨v, d, rfl, hd, hp, hdep, hsz, q⟩ := h
      refine ⟨_, pss_cons (ps_if (pt_not (pt_val (pe_callB call_isi (by rfl) mi (by decide +kernel) (pa_cons (pv 0) (pa_cons (pe_bltn (v := .ty "tuple") (by rfl) mt (show bootBuiltins "tuple" = some (.type "tuple") by decide +kernel) rfl) pa_nil))))) (pss_one (ps_ret (pv 0))) pss_nil)
        (pss_one (ps_ret (pe_callTy call_tuple_of (by rfl) mt (by decide +kernel) (pa_cons
          (pe_lc (own := [("_law_one", 1)]) (g := gName 1) (tt := tYes) rfl scN.nd (pi_tup (pv 0)) (blkOk_by (N := ["_law_thing_here", "_law_one"]) (sc := defScope sAnew) (by decide +kernel)) (fun _ _ _ _ _ => pg_name (i := 1) scN.nd rfl (Or.inl rfl)) (fun _ _ _ _ _ => pts_nil)
            (fun _ _ _ _ _ => pe_callR ih hr (by rfl) gN F.kp bN (pa_cons (pv 1) pa_nil))) pa_nil)))), ?_⟩
      refine ⟨v, rfl, v, _, _, _, isT d, rfl, .ty "tuple", dp_ty hd hp, kit_ty (kT d), isT d, rfl, ite2 (fun e => ?_) (fun e => ?_)⟩
      · exact ⟨v, rfl, q v H (Same.refl _) hd⟩
      · have e' : isT d = true := by
          cases h : isT d with
          | true => rfl
          | false => rw [h] at e; exact absurd rfl e
        cases d with
        | tuple ds =>
          cases hd with
          | @tup a xs _ hs ha =>
            have hds : PyData.depthAll ds + 1 ≤ n := by rw [← depth_tuple]; exact hdep
            have hszs : szA ds + 1 ≤ 4000000 := hsz
            refine ⟨.ref a, rfl, a, rfl, ⟨_, hs⟩, fun D hD => lc_tup (xs := xs) (fun i H' => ∃ vs : List V, vs.length = i ∧ DpAll K H' vs (ds.take i) ∧ H' D = some (.lst vs) ∧ Same H H') ⟨[], rfl, .nil, upd_same, same_upd hD⟩
              (fun i H' _ hP => ?_) (fun i x H' hx hP => ?_) (fun H' hP => ?_)⟩
            · obtain ⟨_, _, _, _, sm⟩ := hP
              exact ts_same sm _ _ hs
            · obtain ⟨vs, el, hv, eD, sm⟩ := hP
              obtain ⟨dx, hdx, hDx⟩ := dpAll_get ha hx
              have hmem : dx ∈ ds := List.mem_of_getElem? hdx
              have hpx : pl dx = true := plA_mem hp hmem
              refine ⟨rfl, ?_⟩
              refine iteT (B := ∃ vs : List V, vs.length = i + 1 ∧ DpAll K H' vs (ds.take (i + 1)) ∧ H' D = some (.lst vs) ∧ Same H H') ?_
              refine ⟨x, rfl, ?_⟩
              cases n with
              | zero => exact absurd hds (by omega)
              | succ n =>
                refine ⟨x, dx, rfl, TS.dp (ts_same sm) dx x hpx hDx, hpx, ?_, ?_, fun v' H2 s2 hv' => ?_⟩
                · have := depth_mem hmem; omega
                · have := sz_mem hmem; omega
                · have eD2 := s2 _ _ eD
                  have hpt : plA (ds.take i) = true := plA_of fun z hz => plA_mem hp (List.mem_of_mem_take hz)
                  refine ⟨_, eD2, ?_, vs ++ [v'], ?_, ?_, upd_same, ?_⟩
                  · have h1 : i < ds.length := (List.getElem?_eq_some_iff.mp hdx).1
                    have h2 := len_szA ds
                    exact Nat.lt_of_le_of_lt (show vs.length ≤ 4000000 by omega) (by decide)
                  · rw [List.length_append, el]; rfl
                  · rw [List.take_add_one, hdx]
                    exact dpAll_append (TS.dps (ts_lst eD2) _ _ hpt (TS.dps (ts_same s2) _ _ hpt hv)) (.cons (TS.dp (ts_lst eD2) dx v' hpx hv') .nil)
                  · intro b o e
                    rw [upd_ne (ne_of_none e hD)]
                    exact s2 b o (sm b o e)
            · obtain ⟨vs, el, hv, eD, sm⟩ := hP
              rw [dpAll_len ha, List.take_length] at hv
              exact ⟨D, vs, rfl, .inl ⟨.inl (.inl eD), fun l nl => q (.ref l) _ (sm.trans (same_upd nl)) (.tup (.inl (.inl upd_same)) (TS.dps (ts_new nl) ds vs hp hv))⟩⟩
        | _ => cases e'
end
end K1
namespace K1
open PySem PySem.Spec PyProof.Rows L2
abbrev sAlike : Stmt := topS 1
theorem scL : FnScope ["one", "other", "left", "first", "second"] ["one", "other"] (defScope sAlike) := ⟨rfl, rfl, rfl, by decide +kernel, rfl, by decide +kernel, by decide +kernel⟩
/-! ### pairs that are still to be looked at -/
section
variable {K : PySem.W.Frag} {H H1 : Hp}
def Pr (K : PySem.W.Frag) (H : Hp) (v : V) (p : PyData × PyData) : Prop := ∃ t x y, v = .ref t ∧ SqT K H t [x, y] ∧ Dp K H x p.1 ∧ Dp K H y p.2 ∧ pl p.1 = true ∧ pl p.2 = true
theorem Pr.ts {v : V} {p : PyData × PyData} (s : TS K H H1) (h : Pr K H v p) : Pr K H1 v p := by
  obtain ⟨t, x, y, e, ht, hx, hy, p1, p2⟩ := h
  exact ⟨t, x, y, e, s _ _ ht, s.dp _ _ p1 hx, s.dp _ _ p2 hy, p1, p2⟩
abbrev PrA (K : PySem.W.Frag) (H : Hp) : List V → List (PyData × PyData) → Prop := Paired (Pr K H)
theorem PrA.ts {vs : List V} {ps : List (PyData × PyData)} (s : TS K H H1) (h : PrA K H vs ps) : PrA K H1 vs ps := Paired.mapP h fun _ _ z => z.ts s
end
def szP : List (PyData × PyData) → Nat
  | [] => 0
  | p :: ps => sz p.1 + szP ps
theorem szP_append : ∀ xs ys, szP (xs ++ ys) = szP xs + szP ys
  | [], ys => by simp [szP]
  | x :: xs, ys => by simp only [List.cons_append, szP, szP_append xs ys]; omega
theorem len_szP : ∀ ps : List (PyData × PyData), ps.length ≤ szP ps
  | [] => Nat.le_refl _
  | p :: ps => by
    have h1 := sz_pos p.1
    have h2 := len_szP ps
    simp only [List.length_cons, szP]
    omega
theorem szP_zip : ∀ ds es : List PyData, ds.length = es.length → szP (ds.zip es) = szA ds
  | [], [], _ => rfl
  | [], _ :: _, h => by cases h
  | _ :: _, [], h => by cases h
  | d :: ds, e :: es, h => by
    show sz d + szP (ds.zip es) = sz d + szA ds
    rw [szP_zip ds es (Nat.succ.inj h)]
def allEq (ps : List (PyData × PyData)) : Prop := ∀ p ∈ ps, p.1 = p.2
theorem allEq_append {xs ys : List (PyData × PyData)} : allEq (xs ++ ys) ↔ allEq xs ∧ allEq ys := by
  constructor
  · intro h
    exact ⟨fun p m => h p (List.mem_append.mpr (.inl m)), fun p m => h p (List.mem_append.mpr (.inr m))⟩
  · intro h p m
    rcases List.mem_append.mp m with m | m
    · exact h.1 p m
    · exact h.2 p m
theorem allEq_one {p : PyData × PyData} : allEq [p] ↔ p.1 = p.2 := by
  constructor
  · intro h
    exact h p List.mem_cons_self
  · intro h q m
    rw [List.mem_singleton.mp m]
    exact h
theorem allEq_zip : ∀ ds es : List PyData, ds.length = es.length → (allEq (ds.zip es) ↔ ds = es)
  | [], [], _ => by simp [allEq]
  | [], _ :: _, h => by cases h
  | _ :: _, [], h => by cases h
  | d :: ds, e :: es, h => by
    have ih := allEq_zip ds es (Nat.succ.inj h)
    have e1 : ((d :: ds).zip (e :: es)) = [(d, e)] ++ ds.zip es := rfl
    rw [e1, allEq_append, allEq_one, ih]
    simp
theorem paired_len {α β : Type} {F : α → β → Prop} : ∀ {xs : List α} {ys : List β}, Paired F xs ys → xs.length = ys.length
  | _, _, .nil => rfl
  | _, _, .cons _ t => by simp [paired_len t]
theorem paired_last {α β : Type} {F : α → β → Prop} : ∀ {xs : List α} {ys : List β}, Paired F xs ys → xs ≠ [] → ∃ xs' x ys' y, xs = xs' ++ [x] ∧ ys = ys' ++ [y] ∧ Paired F xs' ys' ∧ F x y
  | _, _, .nil, h => absurd rfl h
  | _, _, .cons (l₁ := []) h .nil, _ => ⟨[], _, [], _, rfl, rfl, .nil, h⟩
  | _, _, .cons (l₁ := _ :: _) h (.cons h2 t), _ => by
    obtain ⟨xs', x, ys', y, e1, e2, r, f⟩ := paired_last (.cons h2 t) (by simp)
    exact ⟨_ :: xs', x, _ :: ys', y, by rw [e1]; rfl, by rw [e2]; rfl, .cons h r, f⟩
theorem paired_append {α β : Type} {F : α → β → Prop} : ∀ {xs xs' : List α} {ys ys' : List β}, Paired F xs ys → Paired F xs' ys' → Paired F (xs ++ xs') (ys ++ ys')
  | _, _, _, _, .nil, s => s
  | _, _, _, _, .cons h t, s => .cons h (paired_append t s)
theorem paired_of {α β : Type} {F : α → β → Prop} : ∀ {xs : List α} {ys : List β}, xs.length = ys.length → (∀ (i : Nat) (x : α) (y : β), xs[i]? = some x → ys[i]? = some y → F x y) → Paired F xs ys
  | [], [], _, _ => .nil
  | [], _ :: _, h, _ => by cases h
  | _ :: _, [], h, _ => by cases h
  | x :: xs, y :: ys, h, f => .cons (f 0 x y rfl rfl) (paired_of (Nat.succ.inj h) fun i a b ea eb => f (i + 1) a b (by simpa using ea) (by simpa using eb))
/-- what the last test of alike says -/
theorem flat_alike : ∀ (d e : PyData), pl d = true → pl e = true → (isT d && isT e) = false → (isB d = isB e ∧ PyData.eqv d e = true ↔ d = e) := by
  intro d e p1 p2 nt
  cases d <;> cases e <;> simp_all [isT, isB, PyData.eqv, pl]
open Classical in
/-- the answer -/
noncomputable def eqB (d e : PyData) : Bool := decide (d = e)
open Classical in
theorem eqB_true {d e : PyData} (h : d = e) : eqB d e = true := decide_eq_true h
open Classical in
theorem eqB_false {d e : PyData} (h : d ≠ e) : eqB d e = false := decide_eq_false h
theorem flat_min {d e : PyData} (p1 : pl d = true) (p2 : pl e = true) (nt : (isT d && isT e) = false) : min d.depth e.depth ≤ 64 := by
  cases d <;> cases e <;> simp_all [isT, PyData.depth, pl]
/-- between two turns -/
def WA (K : PySem.W.Frag) (H : Hp) (v u : V) (l : Addr) (d0 e0 : PyData) (m : Nat) (σ : L2.St) (H' : Hp) : Prop :=
  ∃ y3 y4 vs ps, σ = [some v, some u, some (.ref l), y3, y4] ∧ H' l = some (.lst vs) ∧ PrA K H' vs ps ∧ szP ps = m ∧ m ≤ 4000000 ∧ (allEq ps ↔ d0 = e0) ∧ Same H H'
section
variable {P : Program} {w : World} {K : PySem.W.Frag} {mg : Str → Option Value} {base : Heap}
def spEq (K : PySem.W.Frag) : Sp := fun vs H Q _ => ∃ (v u : V) (d e : PyData), vs = [v, u] ∧ Dp K H v d ∧ Dp K H u e ∧ pl d = true ∧ pl e = true ∧ sz d ≤ 4000000 ∧ sz e ≤ 4000000 ∧ ∀ H' : Hp, Same H H' → Q (.bl (eqB d e)) H'
theorem ok_alike {f : Addr} {fd : FuncData} {k : Nat} (F : Fun K "alike" "alike" sAlike f fd) (mi : mg "isinstance" = none) (mt : mg "tuple" = none) (ml : mg "len" = none) (mli : mg "list" = none) (mz : mg "zip" = none) (mb : mg "bool" = none) : FnOk P w K mg base CX0 (k + 1) f fd ["one", "other"] (spEq K) := by
  refine F.ok scL (fun vs H Q E h => ?_) (fun cdv A outer s H vs Q E hr h => ?_)
  · obtain ⟨v, u, d, e, rfl, _⟩ := h
    rfl
  · obtain ⟨v, u, d0, e0, rfl, hd0, he0, pd0, pe0, sd0, se0, q⟩ := h
    refine ⟨_, pss_cons (ps_set (i := 2) scL.nd rfl (.inl rfl) (pe_lst (pa_cons (pe_tup (pa_cons (pv 0) (pa_cons (pv 1) pa_nil))) pa_nil)))
      (pss_cons (ps_while PassesOwn.never (pt_truth (pv 2) (by intro _; rfl))
        (pss_cons (ps_asg (pe_bm0 PySem.F.plainAttrs_list PySem.F.slot_list_pop PySem.F.type_list_pop mt_pop (pv 2)) (pg_tup (by rfl) (pgs_cons (pg_name (i := 3) scL.nd rfl (.inl rfl)) (pgs_cons (pg_name (i := 4) scL.nd rfl (.inl rfl)) pgs_nil))))
        (pss_one (ps_if (PW.pt (pw_and (pt_val (pe_callB call_isi (by rfl) mi (by decide +kernel) (pa_cons (pv 3) (pa_cons (pe_bltn (v := .ty "tuple") (by rfl) mt (show bootBuiltins "tuple" = some (.type "tuple") by decide +kernel) rfl) pa_nil))))
              (pw_and1 (pt_val (pe_callB call_isi (by rfl) mi (by decide +kernel) (pa_cons (pv 4) (pa_cons (pe_bltn (v := .ty "tuple") (by rfl) mt (show bootBuiltins "tuple" = some (.type "tuple") by decide +kernel) rfl) pa_nil)))))))
          (pss_cons (ps_if (pt_cmpR op_ne (pe_callB call_len_seq (by rfl) ml PySem.boot_len (pa_cons (pv 3) pa_nil)) (pe_callB call_len_seq (by rfl) ml PySem.boot_len (pa_cons (pv 4) pa_nil)) (nomark _)) (pss_one (ps_ret pe_bl)) pss_nil)
          (pss_one (ps_expr (pe_bm PySem.F.plainAttrs_list PySem.F.slot_list_extend PySem.F.type_list_extend mt_extend (pv 2) (pa_cons (ZL.pe_listZip rfl (by rfl) mli (by rfl) mz (pa_cons (pv 3) (pa_cons (pv 4) pa_nil))) pa_nil)))))
          (pss_one (ps_if (PW.pt (pw_or (pt_cmpR op_ne (pe_callB call_isi (by rfl) mi (by decide +kernel) (pa_cons (pv 3) (pa_cons (pe_bltn (v := .ty "bool") (by rfl) mb (show bootBuiltins "bool" = some (.type "bool") by decide +kernel) rfl) pa_nil)))
                (pe_callB call_isi (by rfl) mi (by decide +kernel) (pa_cons (pv 4) (pa_cons (pe_bltn (v := .ty "bool") (by rfl) mb (show bootBuiltins "bool" = some (.type "bool") by decide +kernel) rfl) pa_nil))) (nomark _))
              (pw_or1 (pt_cmpR (op_neM hr.units) (pv 3) (pv 4) (nomark _))))) (pss_one (ps_ret pe_bl)) pss_nil))))))
      (pss_one (ps_ret pe_bl))), ?_⟩
    refine ⟨v, rfl, u, rfl, (by show 2 ≤ sizeLine; decide), fun t nt => ⟨(by show 1 ≤ sizeLine; decide), fun l nl => ?_⟩⟩
    generalize hH1 : upd H t (HO.tup [v, u]) = H1 at nl
    have s1 : Same H H1 := by rw [← hH1]; exact same_upd nt
    have c1 : H1 t = some (.tup [v, u]) := by rw [← hH1, upd_same]
    have nl0 : H l = none := s1.free nl
    refine ⟨WA K H v u l d0 e0, ⟨sz d0, none, none, [.ref t], [(d0, e0)], rfl, upd_same, .cons ⟨t, v, u, rfl, ?_, ?_, ?_, pd0, pe0⟩ .nil, ?_, sd0, allEq_one, s1.trans (same_upd nl)⟩, fun m σ H' hW => ?_⟩
    · exact .inl (.inl (by rw [upd_ne (ne_of_none c1 nl)]; exact c1))
    · exact TS.dp (ts_new nl) _ _ pd0 (TS.dp (ts_same s1) _ _ pd0 hd0)
    · exact TS.dp (ts_new nl) _ _ pe0 (TS.dp (ts_same s1) _ _ pe0 he0)
    · show sz d0 + 0 = sz d0
      omega
    · obtain ⟨y3, y4, vs, ps, rfl, hl, hpr, hm, hmm, hall, s0⟩ := hW
      refine ⟨.ref l, rfl, !vs.isEmpty, .inl ⟨vs, .inl (.inl hl), rfl⟩, ite2 (fun c => ?_) (fun c => ?_)⟩
      · have hne : vs ≠ [] := fun z => by rw [z] at c; cases c
        obtain ⟨vs', vl, ps', pp, rfl, rfl, hpr', t2, x, y, rfl, ht2, hx, hy, pd, pe⟩ := paired_last hpr hne
        obtain ⟨d, e⟩ := pp
        refine ⟨fun σ' H2 => ∃ m', m' < m ∧ WA K H v u l d0 e0 m' σ' H2, fun _ _ h => h, ?_⟩
        refine ⟨.ref l, rfl, .inl ⟨rfl, _, .inl (.inl hl)⟩, l, _, .ref t2, rfl, rfl, hl, (by simp), ?_⟩
        rw [List.dropLast_concat]
        have ts2 : TS K H' (upd H' l (.lst vs')) := ts_lst hl
        generalize hH2 : upd H' l (HO.lst vs') = H2 at ts2 ⊢
        have cl2 : H2 l = some (.lst vs') := by rw [← hH2, upd_same]
        have s02 : Same H H2 := fun b o eb => by rw [← hH2, upd_ne (ne_of_none eb nl0)]; exact s0 b o eb
        have hx2 : Dp K H2 x d := ts2.dp _ _ pd hx
        have hy2 : Dp K H2 y e := ts2.dp _ _ pe hy
        have pr2 : PrA K H2 vs' ps' := PrA.ts ts2 hpr'
        refine ⟨t2, [x, y], rfl, ts2 _ _ ht2, rfl, x, [y], rfl, y, [], rfl, rfl, ?_⟩
        refine ⟨x, rfl, x, _, _, _, isT d, rfl, .ty "tuple", dp_ty hx2 pd, kit_ty (kT d), isT d, rfl, ite2 (fun a1 => ?_) (fun a1 => ?_)⟩
        · refine ⟨y, rfl, y, _, _, _, isT e, rfl, .ty "tuple", dp_ty hy2 pe, kit_ty (kT e), isT e, rfl, ite2 (fun a2 => ?_) (fun a2 => ?_)⟩
          · cases d with
            | tuple ds =>
              cases e with
              | tuple es =>
                cases hx2 with
                | @tup a xs _ hsx hax =>
                  cases hy2 with
                  | @tup b ys _ hsy hay =>
                    have lx := dpAll_len hax
                    have ly := dpAll_len hay
                    refine ⟨.ref a, rfl, a, xs, rfl, .inr hsx, .ref b, rfl, b, ys, rfl, .inr hsy, rfl, _, rfl, ite2 (fun b1 => ?_) (fun b1 => ?_)⟩
                    · have ne : d0 ≠ e0 := fun z => by
                        have h1 := allEq_one.mp (allEq_append.mp (hall.mpr z)).2
                        have h2 : ds = es := PyData.tuple.inj h1
                        rw [lx, ly, h2] at b1
                        simp at b1
                      have := q H2 s02
                      rw [eqB_false ne] at this
                      exact this
                    · have hl2 : xs.length = ys.length := by
                        have z : V.int (xs.length : Nat) = V.int (ys.length : Nat) := by simpa using b1
                        have := V.int.inj z
                        omega
                      refine ⟨.ref l, rfl, .inl ⟨rfl, _, .inl (.inl cl2)⟩, .ref a, rfl, .ref b, rfl, a, b, xs, ys, rfl, hsx, hsy, hl2, fun H3 p ts s3 np nts npt ep elen hpairs => ?_⟩
                      have hmm2 : szP ps' + (szA ds + 1) = m := by
                        rw [← hm, szP_append]
                        rfl
                      have hlp := len_szP ps'
                      have hlv := paired_len pr2
                      have hls := len_szA ds
                      refine ⟨l, p, vs', ts.map V.ref, rfl, rfl, s3 _ _ cl2, ep, ?_, ?_⟩
                      · rw [List.length_map]
                        exact Nat.le_trans (show vs'.length + ts.length ≤ 4000000 by omega) (by decide)
                      · have hnl : l ≠ p := ne_of_none cl2 np
                        have ts3 : TS K H2 H3 := ts_same s3
                        have ts4 : TS K H3 (upd H3 l (.lst (vs' ++ ts.map V.ref))) := ts_lst (s3 _ _ cl2)
                        refine ⟨szP ps' + szA ds, by omega, _, _, vs' ++ ts.map V.ref, ps' ++ ds.zip es, rfl, upd_same, paired_append (PrA.ts (ts3.trans ts4) pr2) (paired_of ?_ ?_), ?_, by omega, ?_, ?_⟩
                        · rw [List.length_map, List.length_zip, elen]
                          omega
                        · intro i vi pi ei eq
                          rw [List.getElem?_map] at ei
                          cases hti : ts[i]? with
                          | none => rw [hti] at ei; cases ei
                          | some ti =>
                            rw [hti] at ei
                            obtain rfl : V.ref ti = vi := Option.some.inj ei
                            obtain ⟨xi, yi, g1, g2, g3⟩ := hpairs i ti hti
                            obtain ⟨di, k1, k2⟩ := dpAll_get hax g1
                            obtain ⟨ei', k3, k4⟩ := dpAll_get hay g2
                            have hz : (ds.zip es)[i]? = some (di, ei') := by
                              rw [List.getElem?_zip_eq_some]
                              exact ⟨k1, k3⟩
                            obtain rfl : (di, ei') = pi := Option.some.inj (hz.symm.trans eq)
                            have q1 : pl di = true := plA_mem pd (List.mem_of_getElem? k1)
                            have q2 : pl ei' = true := plA_mem pe (List.mem_of_getElem? k3)
                            exact ⟨ti, xi, yi, rfl, ts4 _ _ (.inl (.inl g3)), (ts3.trans ts4).dp _ _ q1 k2, (ts3.trans ts4).dp _ _ q2 k4, q1, q2⟩
                        · rw [szP_append, szP_zip ds es (by omega)]
                        · rw [← hall, allEq_append, allEq_append, allEq_zip ds es (by omega), allEq_one]
                          exact ⟨fun z => ⟨z.1, by rw [z.2]⟩, fun z => ⟨z.1, PyData.tuple.inj z.2⟩⟩
                        · intro b o eb
                          rw [upd_ne (ne_of_none eb nl0)]
                          exact s3 b o (s02 b o eb)
              | _ => cases a2
            | _ => cases a1
          · have nt : (isT d && isT e) = false := by rw [Bool.eq_false_iff.mpr a2, Bool.and_false]
            have fl := flat_alike d e pd pe nt
            refine ⟨x, rfl, x, _, _, _, isB d, rfl, .ty "bool", dp_ty hx2 pd, kit_ty (kB d), y, rfl, y, _, _, _, isB e, rfl, .ty "bool", dp_ty hy2 pe, kit_ty (kB e), rfl, _, rfl, ite2 (fun b1 => ?_) (fun b1 => ?_)⟩
            · have ne : d0 ≠ e0 := fun z => by
                have h1 := (allEq_append.mp (hall.mpr z)).2
                have h2 := (fl.mpr (allEq_one.mp h1)).1
                rw [h2] at b1
                simp at b1
              have := q H2 s02
              rw [eqB_false ne] at this
              exact this
            · refine ⟨x, rfl, y, rfl, d, e, hx2, hy2, canLay d pd, canLay e pe, flat_min pd pe nt, _, rfl, ite2 (fun b2 => ?_) (fun b2 => ?_)⟩
              · have ne : d0 ≠ e0 := fun z => by
                  have h1 := (allEq_append.mp (hall.mpr z)).2
                  have h2 := (fl.mpr (allEq_one.mp h1)).2
                  rw [h2] at b2
                  simp at b2
                have := q H2 s02
                rw [eqB_false ne] at this
                exact this
              · have hde : d = e := by
                  refine fl.mp ⟨?_, by simpa using b2⟩
                  simpa using b1
                refine ⟨szP ps', ?_, _, _, vs', ps', rfl, cl2, pr2, rfl, ?_, ?_, s02⟩
                · rw [← hm, szP_append]
                  have := sz_pos d
                  simp only [szP]
                  omega
                · rw [szP_append] at hm
                  omega
                · rw [← hall, allEq_append, allEq_one]
                  exact ⟨fun z => ⟨z, hde⟩, fun z => z.1⟩
        · have nt : (isT d && isT e) = false := by rw [Bool.eq_false_iff.mpr a1, Bool.false_and]
          have fl := flat_alike d e pd pe nt
          refine ⟨x, rfl, x, _, _, _, isB d, rfl, .ty "bool", dp_ty hx2 pd, kit_ty (kB d), y, rfl, y, _, _, _, isB e, rfl, .ty "bool", dp_ty hy2 pe, kit_ty (kB e), rfl, _, rfl, ite2 (fun b1 => ?_) (fun b1 => ?_)⟩
          · have ne : d0 ≠ e0 := fun z => by
              have h1 := (allEq_append.mp (hall.mpr z)).2
              have h2 := (fl.mpr (allEq_one.mp h1)).1
              rw [h2] at b1
              simp at b1
            have := q H2 s02
            rw [eqB_false ne] at this
            exact this
          · refine ⟨x, rfl, y, rfl, d, e, hx2, hy2, canLay d pd, canLay e pe, flat_min pd pe nt, _, rfl, ite2 (fun b2 => ?_) (fun b2 => ?_)⟩
            · have ne : d0 ≠ e0 := fun z => by
                have h1 := (allEq_append.mp (hall.mpr z)).2
                have h2 := (fl.mpr (allEq_one.mp h1)).2
                rw [h2] at b2
                simp at b2
              have := q H2 s02
              rw [eqB_false ne] at this
              exact this
            · have hde : d = e := by
                refine fl.mp ⟨?_, by simpa using b2⟩
                simpa using b1
              refine ⟨szP ps', ?_, _, _, vs', ps', rfl, cl2, pr2, rfl, ?_, ?_, s02⟩
              · rw [← hm, szP_append]
                have := sz_pos d
                simp only [szP]
                omega
              · rw [szP_append] at hm
                omega
              · rw [← hall, allEq_append, allEq_one]
                exact ⟨fun z => ⟨z, hde⟩, fun z => z.1⟩
      · have hemp : vs = [] := by
          cases vs with
          | nil => rfl
          | cons _ _ => exact absurd rfl c
        subst hemp
        cases hpr
        have := q H' s0
        rw [eqB_true (hall.mp fun _ h => nomatch h)] at this
        exact this
end
end K1
namespace K1
open PySem PySem.Spec PyProof.Rows L2
abbrev sSame : Stmt := topS 5
abbrev nmM : List Str := ["_law_one", "_law_other", "_law_heap", "_law_left", "_law_right", "_law_k"]
theorem scM : FnScope nmM ["_law_one", "_law_other"] (defScope sSame) := ⟨rfl, rfl, rfl, by decide +kernel, rfl, by decide +kernel, by decide +kernel⟩
theorem pss_weak {X : Cx} {st : List Stmt} {t t' : L2.TS} (h : PSs X st t) (g : ∀ D σ H, t' D σ H → t D σ H) : PSs X st t' := ⟨fun pins s σ H D I hh => h.run pins s σ H D I (g D σ H hh)⟩
/-- what two things that are not both tuples lead to -/
def tFlat (K : PySem.W.Frag) : L2.TS := fun D σ H => ∃ (x y : V) (d e : PyData), σ[3]? = some (some x) ∧ σ[4]? = some (some y) ∧ Dp K H x d ∧ Dp K H y e ∧ pl d = true ∧ pl e = true ∧ (isT d && isT e) = false ∧ (d ≠ e → D.rt (.bl false) H) ∧ (d = e → D.nx σ H)
theorem non_iff {K : PySem.W.Frag} {H : Hp} {x : V} {d : PyData} (h : Dp K H x d) : x = .non ↔ d = .none := by
  cases h <;> simp
theorem flat_same : ∀ (d e : PyData), pl d = true → pl e = true → d ≠ .none → e ≠ .none → isB d = isB e → isT d = false → isT e = false → (PyData.eqv d e = true ↔ d = e) := by
  intro d e p1 p2 n1 n2 b t1 t2
  cases d <;> cases e <;> simp_all [isT, isB, PyData.eqv, pl]
def WS (K : PySem.W.Frag) (H : Hp) (v u : V) (d0 e0 : PyData) (m : Nat) (σ : L2.St) (H' : Hp) : Prop :=
  ∃ l y3 y4 y5 vs ps, σ = [some v, some u, some (.ref l), y3, y4, y5] ∧ H' l = some (.lst vs) ∧ H l = none ∧ PrA K H' vs ps ∧ szP ps = m ∧ m ≤ 4000000 ∧ (allEq ps ↔ d0 = e0) ∧ Same H H'
theorem pr_data {K : PySem.W.Frag} {H : Hp} : ∀ {vs : List V} {ps : List (PyData × PyData)}, PrA K H vs ps → DpAll K H vs (ps.map fun p => .tuple [p.1, p.2]) ∧ PyData.canLayAll0 (ps.map fun p => .tuple [p.1, p.2]) = true
  | _, _, .nil => ⟨.nil, rfl⟩
  | _, _, .cons ⟨t, x, y, e, ht, hx, hy, p1, p2⟩ r => by
    obtain ⟨a, b⟩ := pr_data r
    subst e
    refine ⟨.cons (.tup ht (.cons hx (.cons hy .nil))) a, ?_⟩
    simp only [List.map_cons, PyData.canLayAll0, PyData.canLay0, canLay _ p1, canLay _ p2, b, Bool.and_self]
theorem eqv_nil (xs : List PyData) : PyData.eqv (.list xs) (.list []) = xs.isEmpty := by
  cases xs <;> simp [PyData.eqv, PyData.eqvAll]
section
variable {P : Program} {w : World} {K : PySem.W.Frag} {mg : Str → Option Value} {base : Heap}
theorem ok_same {f : Addr} {fd : FuncData} {k : Nat} (F : Fun K "_law_same" "_law_same" sSame f fd) (mi : mg "isinstance" = none) (mt : mg "tuple" = none) (ml : mg "len" = none) (mr : mg "range" = none) (mb : mg "bool" = none) (mst : mg "str" = none) : FnOk P w K mg base CX0 (k + 1) f fd ["_law_one", "_law_other"] (spEq K) := by
  refine F.ok scM (fun vs H Q E h => ?_) (fun cdv A outer s H vs Q E hr h => ?_)
  · obtain ⟨v, u, d, e, rfl, _⟩ := h
    rfl
  · obtain ⟨v, u, d0, e0, rfl, hd0, he0, pd0, pe0, sd0, se0, q⟩ := h
    refine ⟨_, pss_cons (ps_set (i := 2) scM.nd rfl (.inl rfl) (pe_lst (pa_cons (pe_tup (pa_cons (pv 0) (pa_cons (pv 1) pa_nil))) pa_nil)))
      (pss_cons (ps_while PassesOwn.never (pt_cmpR (op_neM hr.units) (pv 2) (pe_lst pa_nil) (nomark _))
        (pss_cons (ps_asg (pe_bm0 PySem.F.plainAttrs_list PySem.F.slot_list_pop PySem.F.type_list_pop mt_pop (pv 2)) (pg_tup (by rfl) (pgs_cons (pg_name (i := 3) scM.nd rfl (.inr rfl)) (pgs_cons (pg_name (i := 4) scM.nd rfl (.inr rfl)) pgs_nil))))
        (pss_one (ps_if (PW.pt (pw_and (pt_val (pe_callB call_isi (by rfl) mi (by decide +kernel) (pa_cons (pv 3) (pa_cons (pe_bltn (v := .ty "tuple") (by rfl) mt (show bootBuiltins "tuple" = some (.type "tuple") by decide +kernel) rfl) pa_nil))))
              (pw_and1 (pt_val (pe_callB call_isi (by rfl) mi (by decide +kernel) (pa_cons (pv 4) (pa_cons (pe_bltn (v := .ty "tuple") (by rfl) mt (show bootBuiltins "tuple" = some (.type "tuple") by decide +kernel) rfl) pa_nil)))))))
          (pss_cons (ps_if (pt_cmpR op_ne (pe_callB call_len_seq (by rfl) ml PySem.boot_len (pa_cons (pv 3) pa_nil)) (pe_callB call_len_seq (by rfl) ml PySem.boot_len (pa_cons (pv 4) pa_nil)) (nomark _)) (pss_one (ps_ret pe_bl)) pss_nil)
          (pss_one (ps_set (i := 2) scM.nd rfl (.inl rfl) (pe_op op_cat (pv 2)
            (pe_lc (own := [("_law_k", 5)]) (g := gName 5) (tt := tYes) rfl scM.nd (pi_range1 (by rfl) mr (pa_cons (pe_callB call_len_seq (by rfl) ml PySem.boot_len (pa_cons (pv 3) pa_nil)) pa_nil))
              (blkOk_by (N := nmM) (sc := defScope sSame) (by decide +kernel)) (fun _ _ _ _ _ => pg_name (i := 5) scM.nd rfl (Or.inl rfl)) (fun _ _ _ _ _ => pts_nil)
              (fun _ _ _ _ _ => pe_tup (pa_cons (pe_ix (show IxR _ (rIxT K) from ix_tup) (pv 3) (pv 5) (fun _ _ => rfl)) (pa_cons (pe_ix (show IxR _ (rIxT K) from ix_tup) (pv 4) (pv 5) (fun _ _ => rfl)) pa_nil))))))))
          (pss_weak (t' := tFlat K) (pss_one (ps_if (PW.pt (pw_or (pt_cmpR op_isN (pv 3) pe_non (nomark _)) (pw_or1 (pt_cmpR op_isN (pv 4) pe_non (nomark _)))))
              (pss_one (ps_if (PW.pt (pw_or (pt_cmpR op_notN (pv 3) pe_non (nomark _)) (pw_or1 (pt_cmpR op_notN (pv 4) pe_non (nomark _))))) (pss_one (ps_ret pe_bl)) pss_nil))
              (pss_one (ps_if (PW.pt (pw_or (pt_cmpR op_ne (pe_callB call_isi (by rfl) mi (by decide +kernel) (pa_cons (pv 3) (pa_cons (pe_bltn (v := .ty "bool") (by rfl) mb (show bootBuiltins "bool" = some (.type "bool") by decide +kernel) rfl) pa_nil)))
                    (pe_callB call_isi (by rfl) mi (by decide +kernel) (pa_cons (pv 4) (pa_cons (pe_bltn (v := .ty "bool") (by rfl) mb (show bootBuiltins "bool" = some (.type "bool") by decide +kernel) rfl) pa_nil))) (nomark _))
                  (pw_or1 (pt_cmpR op_ne (pe_callB call_isi (by rfl) mi (by decide +kernel) (pa_cons (pv 3) (pa_cons (pe_bltn (v := .ty "str") (by rfl) mst (show bootBuiltins "str" = some (.type "str") by decide +kernel) rfl) pa_nil)))
                    (pe_callB call_isi (by rfl) mi (by decide +kernel) (pa_cons (pv 4) (pa_cons (pe_bltn (v := .ty "str") (by rfl) mst (show bootBuiltins "str" = some (.type "str") by decide +kernel) rfl) pa_nil))) (nomark _))))) (pss_one (ps_ret pe_bl))
                (pss_one (ps_if (PW.pt (pw_or (pt_val (pe_callB call_isi (by rfl) mi (by decide +kernel) (pa_cons (pv 3) (pa_cons (pe_bltn (v := .ty "tuple") (by rfl) mt (show bootBuiltins "tuple" = some (.type "tuple") by decide +kernel) rfl) pa_nil))))
                  (pw_or (pt_val (pe_callB call_isi (by rfl) mi (by decide +kernel) (pa_cons (pv 4) (pa_cons (pe_bltn (v := .ty "tuple") (by rfl) mt (show bootBuiltins "tuple" = some (.type "tuple") by decide +kernel) rfl) pa_nil))))
                    (pw_or1 (pt_cmpR (op_neM hr.units) (pv 3) (pv 4) (nomark _)))))) (pss_one (ps_ret pe_bl)) pss_nil)))))) ?flat)))))
      (pss_one (ps_ret pe_bl))), ?_⟩
    case flat =>
      intro D σ H9 hh
      obtain ⟨x, y, d, e, h3, h4, hx, hy, pd, pe, nt, rf, nx⟩ := hh
      have nx1 := non_iff hx
      have nx2 := non_iff hy
      refine ⟨x, h3, rfl, _, rfl, ite2 (fun n1 => ?_) (fun n1 => ?_)⟩
      · have d1 : d = .none := nx1.mp (of_decide_eq_true n1)
        refine ⟨x, h3, rfl, _, rfl, ite2 (fun m1 => ?_) (fun m1 => ⟨y, h4, rfl, _, rfl, ite2 (fun m2 => ?_) (fun m2 => ?_)⟩)⟩
        · rw [n1] at m1; cases m1
        · exact rf fun z => by
            rw [decide_eq_true (nx2.mpr (z.symm.trans d1))] at m2
            cases m2
        · refine nx ?_
          have : y = .non := by simpa using m2
          rw [d1, nx2.mp this]
      · refine ⟨y, h4, rfl, _, rfl, ite2 (fun n2 => ?_) (fun n2 => ?_)⟩
        · have e1 : e = .none := nx2.mp (of_decide_eq_true n2)
          have hne : d ≠ e := fun z => n1 (decide_eq_true (nx1.mpr (z.trans e1)))
          refine ⟨x, h3, rfl, _, rfl, ite2 (fun m1 => rf hne) (fun m1 => ?_)⟩
          exact absurd (by simpa using m1 : x = .non) (fun z => n1 (decide_eq_true z))
        · have dn : d ≠ .none := fun z => n1 (decide_eq_true (nx1.mpr z))
          have en : e ≠ .none := fun z => n2 (decide_eq_true (nx2.mpr z))
          refine ⟨x, h3, x, _, _, _, isB d, rfl, .ty "bool", dp_ty hx pd, kit_ty (kB d), y, h4, y, _, _, _, isB e, rfl, .ty "bool", dp_ty hy pe, kit_ty (kB e), rfl, _, rfl, ite2 (fun b1 => rf ?_) (fun b1 => ?_)⟩
          · intro z; rw [z] at b1; simp at b1
          refine ⟨x, h3, x, _, _, _, isS d, rfl, .ty "str", dp_ty hx pd, kit_ty (kS d), y, h4, y, _, _, _, isS e, rfl, .ty "str", dp_ty hy pe, kit_ty (kS e), rfl, _, rfl, ite2 (fun b2 => rf ?_) (fun b2 => ?_)⟩
          · intro z; rw [z] at b2; simp at b2
          have hB : isB d = isB e := by simpa using b1
          refine ⟨x, h3, x, _, _, _, isT d, rfl, .ty "tuple", dp_ty hx pd, kit_ty (kT d), isT d, rfl, ite2 (fun c1 => rf ?_) (fun c1 => ?_)⟩
          · intro z; rw [z] at nt c1; rw [c1] at nt; cases nt
          refine ⟨y, h4, y, _, _, _, isT e, rfl, .ty "tuple", dp_ty hy pe, kit_ty (kT e), isT e, rfl, ite2 (fun c2 => rf ?_) (fun c2 => ?_)⟩
          · intro z; rw [z] at c1; exact c1 c2
          have fl := flat_same d e pd pe dn en hB (Bool.eq_false_iff.mpr c1) (Bool.eq_false_iff.mpr c2)
          refine ⟨x, h3, y, h4, d, e, hx, hy, canLay d pd, canLay e pe, flat_min pd pe nt, _, rfl, ite2 (fun b3 => rf ?_) (fun b3 => nx ?_)⟩
          · intro z; rw [fl.mpr z] at b3; cases b3
          · exact fl.mp (by simpa using b3)
    refine ⟨v, rfl, u, rfl, (by show 2 ≤ sizeLine; decide), fun t nt => ⟨(by show 1 ≤ sizeLine; decide), fun l nl => ?_⟩⟩
    generalize hH1 : upd H t (HO.tup [v, u]) = H1 at nl
    have s1 : Same H H1 := by rw [← hH1]; exact same_upd nt
    have c1 : H1 t = some (.tup [v, u]) := by rw [← hH1, upd_same]
    refine ⟨WS K H v u d0 e0, ⟨sz d0, l, none, none, none, [.ref t], [(d0, e0)], rfl, upd_same, s1.free nl, .cons ⟨t, v, u, rfl, ?_, ?_, ?_, pd0, pe0⟩ .nil, ?_, sd0, allEq_one, s1.trans (same_upd nl)⟩, fun m σ H' hW => ?_⟩
    · exact .inl (.inl (by rw [upd_ne (ne_of_none c1 nl)]; exact c1))
    · exact TS.dp (ts_new nl) _ _ pd0 (TS.dp (ts_same s1) _ _ pd0 hd0)
    · exact TS.dp (ts_new nl) _ _ pe0 (TS.dp (ts_same s1) _ _ pe0 he0)
    · show sz d0 + 0 = sz d0
      omega
    · clear nl c1 s1 hH1 nt
      obtain ⟨l, y3, y4, y5, vs, ps, rfl, hl, nl0, hpr, hm, hmm, hall, s0⟩ := hW
      obtain ⟨hdat, hcan⟩ := pr_data hpr
      refine ⟨.ref l, rfl, Nat.zero_le _, fun z nz => ?_⟩
      have sz1 : Same H' (upd H' z (.lst [])) := same_upd nz
      have cz : (upd H' z (.lst [])) z = some (.lst []) := upd_same
      have tz : TS K H' (upd H' z (.lst [])) := ts_new nz
      generalize hHz : upd H' z (HO.lst []) = Hz at sz1 cz tz
      refine ⟨.list (ps.map fun p : PyData × PyData => PyData.tuple [p.1, p.2]), .list [], .lst (.inl (.inl (sz1 _ _ hl))) (pr_data (PrA.ts tz hpr)).1, .lst (.inl (.inl cz)) .nil, hcan, rfl, ?_, _, rfl, ite2 (fun c => ?_) (fun c => ?_)⟩
      · refine Nat.le_trans (Nat.min_le_right _ _) ?_
        decide
      · rw [eqv_nil] at c
        have hne : vs ≠ [] := fun z => by
          subst z
          cases hpr
          cases c
        have hl' := sz1 _ _ hl
        obtain ⟨vs', vl, ps', pp, rfl, rfl, hpr', t2, x, y, rfl, ht2, hx, hy, pd, pe⟩ := paired_last (PrA.ts tz hpr) hne
        obtain ⟨d, e⟩ := pp
        refine ⟨fun σ' H2 => ∃ m', m' < m ∧ WS K H v u d0 e0 m' σ' H2, fun _ _ h => h, ?_⟩
        refine ⟨.ref l, rfl, .inl ⟨rfl, _, .inl (.inl hl')⟩, l, _, .ref t2, rfl, rfl, hl', (by simp), ?_⟩
        rw [List.dropLast_concat]
        have ts2 : TS K Hz (upd Hz l (.lst vs')) := ts_lst hl'
        generalize hH2 : upd Hz l (HO.lst vs') = H2 at ts2 ⊢
        have cl2 : H2 l = some (.lst vs') := by rw [← hH2, upd_same]
        have s02 : Same H H2 := fun b o eb => by rw [← hH2, upd_ne (ne_of_none eb nl0)]; exact sz1 _ _ (s0 b o eb)
        have hx2 : Dp K H2 x d := ts2.dp _ _ pd hx
        have hy2 : Dp K H2 y e := ts2.dp _ _ pe hy
        have pr2 : PrA K H2 vs' ps' := PrA.ts ts2 hpr'
        have flat : (isT d && isT e) = false → ∀ (D : Ends), D.rt = Q → (D.nx = fun σ' H2 => ∃ m', m' < m ∧ WS K H v u d0 e0 m' σ' H2) → tFlat K D [some v, some u, some (.ref l), some x, some y, y5] H2 := fun nt D r1 r2 => by
          refine ⟨x, y, d, e, rfl, rfl, hx2, hy2, pd, pe, nt, fun ne => ?_, fun eq => ?_⟩
          · have hn : d0 ≠ e0 := fun z => ne (allEq_one.mp (allEq_append.mp (hall.mpr z)).2)
            have := q H2 s02
            rw [eqB_false hn] at this
            rw [r1]
            exact this
          · rw [r2]
            refine ⟨szP ps', ?_, l, _, _, _, vs', ps', rfl, cl2, nl0, pr2, rfl, ?_, ?_, s02⟩
            · rw [← hm, szP_append]
              have := sz_pos d
              simp only [szP]
              omega
            · rw [szP_append] at hm
              omega
            · rw [← hall, allEq_append, allEq_one]
              exact ⟨fun z => ⟨z, eq⟩, fun z => z.1⟩
        refine ⟨t2, [x, y], rfl, ts2 _ _ ht2, rfl, x, [y], rfl, y, [], rfl, rfl, ?_⟩
        refine ⟨x, rfl, x, _, _, _, isT d, rfl, .ty "tuple", dp_ty hx2 pd, kit_ty (kT d), isT d, rfl, ite2 (fun a1 => ?_) (fun a1 => flat (by rw [Bool.eq_false_iff.mpr a1, Bool.false_and]) _ rfl rfl)⟩
        refine ⟨y, rfl, y, _, _, _, isT e, rfl, .ty "tuple", dp_ty hy2 pe, kit_ty (kT e), isT e, rfl, ite2 (fun a2 => ?_) (fun a2 => flat (by rw [Bool.eq_false_iff.mpr a2, Bool.and_false]) _ rfl rfl)⟩
        cases d with
        | tuple ds =>
          cases e with
          | tuple es =>
            cases hx2 with
            | @tup a xs _ hsx hax =>
              cases hy2 with
              | @tup b ys _ hsy hay =>
                have lx := dpAll_len hax
                have ly := dpAll_len hay
                refine ⟨.ref a, rfl, a, xs, rfl, .inr hsx, .ref b, rfl, b, ys, rfl, .inr hsy, rfl, _, rfl, ite2 (fun b1 => ?_) (fun b1 => ?_)⟩
                · have ne : d0 ≠ e0 := fun z => by
                    have h1 := allEq_one.mp (allEq_append.mp (hall.mpr z)).2
                    have h2 : ds = es := PyData.tuple.inj h1
                    rw [lx, ly, h2] at b1
                    simp at b1
                  have := q H2 s02
                  rw [eqB_false ne] at this
                  exact this
                · have hl2 : xs.length = ys.length := by
                    have z : V.int (xs.length : Nat) = V.int (ys.length : Nat) := by simpa using b1
                    have := V.int.inj z
                    omega
                  have hmm2 : szP ps' + (szA ds + 1) = m := by
                    rw [← hm, szP_append]
                    rfl
                  have hlp := len_szP ps'
                  have hlv := paired_len pr2
                  have hls := len_szA ds
                  have hzl : (ds.zip es).length = xs.length := by rw [List.length_zip]; omega
                  refine ⟨.ref l, rfl, .ref a, rfl, a, xs, rfl, .inr hsx, (xs.length : Nat), rfl, by omega, by omega, fun D hD => lc_range (lo := 0) (n := ((xs.length : Nat) : Int).toNat) (fun i H3 => ∃ ws : List V, ws.length = i ∧ PrA K H3 ws ((ds.zip es).take i) ∧ H3 D = some (.lst ws) ∧ Same H2 H3) ⟨[], rfl, .nil, upd_same, same_upd hD⟩ (fun i H3 hi hP => ?_) (fun H3 hP => ?_)⟩
                  · obtain ⟨ws, el, hw, eD, s3⟩ := hP
                    rw [Int.toNat_natCast] at hi
                    have gx : xs[i]? = some xs[i] := List.getElem?_eq_getElem hi
                    have gy : ys[i]? = some ys[i] := List.getElem?_eq_getElem (by omega)
                    obtain ⟨di, k1, k2⟩ := dpAll_get hax gx
                    obtain ⟨ei', k3, k4⟩ := dpAll_get hay gy
                    have q1 : pl di = true := plA_mem pd (List.mem_of_getElem? k1)
                    have q2 : pl ei' = true := plA_mem pe (List.mem_of_getElem? k3)
                    have hz : (ds.zip es)[i]? = some (di, ei') := by
                      rw [List.getElem?_zip_eq_some]
                      exact ⟨k1, k3⟩
                    have ts3 : TS K H2 H3 := ts_same s3
                    refine ⟨rfl, ?_⟩
                    refine iteT (B := ∃ ws : List V, ws.length = i + 1 ∧ PrA K H3 ws ((ds.zip es).take (i + 1)) ∧ H3 D = some (.lst ws) ∧ Same H2 H3) ?_
                    refine ⟨.ref a, rfl, _, rfl, a, xs, _, _, rfl, rfl, ts3 _ _ hsx, atI_of2 (by omega) gx, .ref b, rfl, _, rfl, b, ys, _, _, rfl, rfl, ts3 _ _ hsy, atI_of2 (by omega) gy, (by show 2 ≤ sizeLine; decide), fun tp ntp => ?_⟩
                    have eD2 := same_upd (o := HO.tup [xs[i], ys[i]]) ntp _ _ eD
                    have ts4 : TS K H3 (upd H3 tp (.tup [xs[i], ys[i]])) := ts_new ntp
                    have ts5 : TS K (upd H3 tp (.tup [xs[i], ys[i]])) (upd (upd H3 tp (.tup [xs[i], ys[i]])) D (.lst (ws ++ [.ref tp]))) := ts_lst eD2
                    refine ⟨_, eD2, ?_, ws ++ [.ref tp], ?_, ?_, upd_same, ?_⟩
                    · exact Nat.lt_of_le_of_lt (show ws.length ≤ 4000000 by omega) (by decide)
                    · rw [List.length_append, el]; rfl
                    · rw [List.take_add_one, hz]
                      refine paired_append (PrA.ts (ts4.trans ts5) hw) (.cons ⟨tp, _, _, rfl, ts5 _ _ (.inl (.inl upd_same)), ?_, ?_, q1, q2⟩ .nil)
                      · exact (ts3.trans (ts4.trans ts5)).dp _ _ q1 k2
                      · exact (ts3.trans (ts4.trans ts5)).dp _ _ q2 k4
                    · intro b' o eb
                      rw [upd_ne (ne_of_none eb hD), upd_ne (ne_of_none (s3 _ _ eb) ntp)]
                      exact s3 b' o eb
                  · obtain ⟨ws, el, hw, eD, s3⟩ := hP
                    rw [Int.toNat_natCast, ← hzl] at el hw
                    rw [List.take_length] at hw
                    refine ⟨l, D, vs', ws, rfl, rfl, s3 _ _ cl2, eD, ?_, fun p np => ?_⟩
                    · exact Nat.le_trans (show vs'.length + ws.length ≤ 4000000 by omega) (by decide)
                    · have ts3 : TS K H2 H3 := ts_same s3
                      refine ⟨szP ps' + szA ds, by omega, p, _, _, _, vs' ++ ws, ps' ++ ds.zip es, rfl, upd_same, (s02.trans s3).free np, paired_append (PrA.ts (ts3.trans (ts_new np)) pr2) (PrA.ts (ts_new np) hw), ?_, by omega, ?_, ?_⟩
                      · rw [szP_append, szP_zip ds es (by omega)]
                      · rw [← hall, allEq_append, allEq_append, allEq_zip ds es (by omega), allEq_one]
                        exact ⟨fun z => ⟨z.1, by rw [z.2]⟩, fun z => ⟨z.1, PyData.tuple.inj z.2⟩⟩
                      · exact (s02.trans s3).trans (same_upd np)
          | _ => cases a2
        | _ => cases a1
      · rw [eqv_nil] at c
        have hemp : ps = [] := by
          cases ps with
          | nil => rfl
          | cons _ _ => exact absurd rfl c
        subst hemp
        have := q Hz (s0.trans sz1)
        rw [eqB_true (hall.mp fun _ h => nomatch h)] at this
        exact this
end
end K1
namespace K1
open PySem PySem.Spec PyProof.Rows L2
abbrev sPlaces : Stmt := topS 8
abbrev nmN : List Str := ["_law_thing_here", "_law_heap", "_law_found", "_law_place", "_law_one", "_law_k"]
theorem scPl : FnScope nmN ["_law_thing_here"] (defScope sPlaces) := ⟨rfl, rfl, rfl, by decide +kernel, rfl, by decide +kernel, by decide +kernel⟩
/-! ### the thing at a place -/
inductive At : PyData → List Nat → PyData → Prop
  | here (d : PyData) : At d [] d
  | step {ds : List PyData} {i : Nat} {c e : PyData} {p : List Nat} : ds[i]? = some c → At c p e → At (.tuple ds) (i :: p) e
theorem at_snoc : ∀ {d : PyData} {p : List Nat} {ds : List PyData} {i : Nat} {c : PyData}, At d p (.tuple ds) → ds[i]? = some c → At d (p ++ [i]) c
  | _, _, _, _, _, .here _, h => .step h (.here _)
  | _, _, _, _, _, .step g a, h => .step g (at_snoc a h)
theorem at_depth : ∀ {d : PyData} {p : List Nat} {e : PyData}, At d p e → p.length + e.depth ≤ d.depth
  | _, _, _, .here _ => by simp
  | _, _, _, .step g a => by
    have h1 := at_depth a
    have h2 := depth_mem (List.mem_of_getElem? g)
    rw [depth_tuple, List.length_cons]
    omega
theorem at_sz : ∀ {d : PyData} {p : List Nat} {e : PyData}, At d p e → sz e ≤ sz d
  | _, _, _, .here _ => Nat.le_refl _
  | _, _, _, .step g a => by
    have h1 := at_sz a
    have h2 := sz_mem (List.mem_of_getElem? g)
    simp only [sz]
    omega
mutual
theorem depth_sz : ∀ d : PyData, pl d = true → d.depth ≤ sz d
  | .none, _ => by simp [PyData.depth]
  | .bool _, _ => by simp [PyData.depth]
  | .int _, _ => by simp [PyData.depth]
  | .str _, _ => by simp [PyData.depth]
  | .tuple ds, h => by
    have := depthA_sz ds h
    rw [depth_tuple]
    simp only [sz]
    omega
  | .list _, h => by cases h
  | .dict _, h => by cases h
theorem depthA_sz : ∀ ds : List PyData, plA ds = true → PyData.depthAll ds ≤ szA ds
  | [], _ => by simp [PyData.depthAll]
  | d :: ds, h => by
    have h' : pl d = true ∧ plA ds = true := by simpa [plA] using h
    have h1 := depth_sz d h'.1
    have h2 := depthA_sz ds h'.2
    simp only [PyData.depthAll, szA]
    omega
end
def nints (p : List Nat) : List V := p.map fun n : Nat => V.int (n : Int)
def En (K : PySem.W.Frag) (d0 : PyData) (H : Hp) (v : V) (q : List Nat × PyData) : Prop := ∃ t a x, v = .ref t ∧ SqT K H t [.ref a, x] ∧ SqT K H a (nints q.1) ∧ Dp K H x q.2 ∧ pl q.2 = true ∧ At d0 q.1 q.2
abbrev EnA (K : PySem.W.Frag) (d0 : PyData) (H : Hp) : List V → List (List Nat × PyData) → Prop := Paired (En K d0 H)
section
variable {K : PySem.W.Frag} {H H1 : Hp} {d0 : PyData}
theorem En.ts {v : V} {q : List Nat × PyData} (s : TS K H H1) (h : En K d0 H v q) : En K d0 H1 v q := by
  obtain ⟨t, a, x, e, ht, ha, hx, p1, p2⟩ := h
  exact ⟨t, a, x, e, s _ _ ht, s _ _ ha, s.dp _ _ p1 hx, p1, p2⟩
theorem EnA.ts {vs : List V} {qs : List (List Nat × PyData)} (s : TS K H H1) (h : EnA K d0 H vs qs) : EnA K d0 H1 vs qs := Paired.mapP h fun _ _ z => z.ts s
theorem dp_ints : ∀ p : List Nat, DpAll K H (nints p) (p.map fun n : Nat => PyData.int (n : Int)) ∧ PyData.canLayAll0 (p.map fun n : Nat => PyData.int (n : Int)) = true
  | [] => ⟨.nil, rfl⟩
  | n :: p => ⟨.cons (.int _) (dp_ints p).1, by simp only [List.map_cons, PyData.canLayAll0, PyData.canLay0, (dp_ints p).2, Bool.and_self]⟩
theorem en_data : ∀ {vs : List V} {qs : List (List Nat × PyData)}, EnA K d0 H vs qs → ∃ ds, DpAll K H vs ds ∧ PyData.canLayAll0 ds = true
  | _, _, .nil => ⟨[], .nil, rfl⟩
  | _, _, .cons ⟨t, a, x, e, ht, ha, hx, p1, p2⟩ r => by
    obtain ⟨ds, g1, g2⟩ := en_data r
    subst e
    refine ⟨_ :: ds, .cons (.tup ht (.cons (.tup ha (dp_ints _).1) (.cons hx .nil))) g1, ?_⟩
    simp only [PyData.canLayAll0, PyData.canLay0, (dp_ints (K := K) (H := H) _).2, canLay _ p1, g2, Bool.and_self]
end
def szE : List (List Nat × PyData) → Nat
  | [] => 0
  | q :: qs => sz q.2 + szE qs
theorem szE_append : ∀ xs ys, szE (xs ++ ys) = szE xs + szE ys
  | [], ys => by simp [szE]
  | x :: xs, ys => by simp only [List.cons_append, szE, szE_append xs ys]; omega
theorem len_szE : ∀ qs : List (List Nat × PyData), qs.length ≤ szE qs
  | [] => Nat.le_refl _
  | q :: qs => by
    have h1 := sz_pos q.2
    have h2 := len_szE qs
    simp only [List.length_cons, szE]
    omega
/-- the entries of a tuple's things -/
def kids (p : List Nat) (ds : List PyData) : List (List Nat × PyData) := ds.zipIdx.map fun x => (p ++ [x.2], x.1)
theorem kids_get {p : List Nat} {ds : List PyData} {i : Nat} {c : PyData} (h : ds[i]? = some c) : (kids p ds)[i]? = some (p ++ [i], c) := by
  unfold kids
  rw [List.getElem?_map, List.getElem?_zipIdx, h]
  simp
theorem kids_len (p : List Nat) (ds : List PyData) : (kids p ds).length = ds.length := by simp [kids]
theorem szE_map (p : List Nat) : ∀ (ds : List PyData) (k : Nat), szE ((ds.zipIdx k).map fun x => (p ++ [x.2], x.1)) = szA ds
  | [], _ => rfl
  | d :: ds, k => by
    show sz d + szE ((ds.zipIdx (k + 1)).map fun x => (p ++ [x.2], x.1)) = sz d + szA ds
    rw [szE_map p ds (k + 1)]
theorem kids_sz (p : List Nat) (ds : List PyData) : szE (kids p ds) = szA ds := szE_map p ds 0
theorem emp_iff {α β : Type} {F : α → β → Prop} {xs : List α} {ys : List β} (h : Paired F xs ys) : xs.isEmpty = ys.isEmpty := by cases h <;> rfl
theorem dpAll_emp {K : PySem.W.Frag} {H : Hp} {xs : List V} {ys : List PyData} (h : DpAll K H xs ys) : xs.isEmpty = ys.isEmpty := by cases h <;> rfl
/-- a sum of two tuples, wherever it lies -/
theorem catA_any {K : PySem.W.Frag} {H : Hp} {a b : Addr} {xs ys : List V} {Q : VK} (ha : SqT K H a xs) (hb : SqT K H b ys) (hl : xs.length + ys.length ≤ sizeLine)
    (q : ∀ r H', Same H H' → SqT K H' r (xs ++ ys) → Q (.ref r) H') : rCatA K (.ref a) (.ref b) H Q := by
  refine ⟨a, b, xs, ys, rfl, rfl, ha, hb, hl, fun e => ?_, fun e1 e2 => ?_, fun e1 e2 p np => q p _ (same_upd np) (.inl (.inl upd_same))⟩
  · subst e; exact q b H (Same.refl _) hb
  · subst e2; exact q a H (Same.refl _) (by rw [List.append_nil]; exact ha)
def WPl (K : PySem.W.Frag) (H : Hp) (v : V) (d0 : PyData) (m : Nat) (σ : L2.St) (H' : Hp) : Prop :=
  ∃ l fo y3 y4 y5 vs qs fs gs, σ = [some v, some (.ref l), some (.ref fo), y3, y4, y5] ∧ H' l = some (.lst vs) ∧ H' fo = some (.lst fs) ∧ l ≠ fo ∧ H l = none ∧ H fo = none ∧ EnA K d0 H' vs qs ∧ EnA K d0 H' fs gs ∧ szE qs = m ∧ fs.length + m ≤ 4000000 ∧ (fs ≠ [] ∨ vs ≠ []) ∧ Same H H'
section
variable {P : Program} {w : World} {K : PySem.W.Frag} {mg : Str → Option Value} {base : Heap}
def spPlaces (K : PySem.W.Frag) : Sp := fun vs H Q _ => ∃ (v : V) (d : PyData), vs = [v] ∧ Dp K H v d ∧ pl d = true ∧ sz d ≤ 4000000 ∧
  ∀ (p : Addr) (H' : Hp) (fs : List V) (gs : List (List Nat × PyData)), Same H H' → H p = none → H' p = some (.lst fs) → EnA K d H' fs gs → fs ≠ [] → Q (.ref p) H'
theorem ok_places {f : Addr} {fd : FuncData} {k : Nat} (F : Fun K "_law_places" "_law_places" sPlaces f fd) (mi : mg "isinstance" = none) (mt : mg "tuple" = none) (ml : mg "len" = none) (mr : mg "range" = none) : FnOk P w K mg base CX0 (k + 1) f fd ["_law_thing_here"] (spPlaces K) := by
  refine F.ok scPl (fun vs H Q E h => ?_) (fun cdv A outer s H vs Q E hr h => ?_)
  · obtain ⟨v, d, rfl, _⟩ := h
    rfl
  · obtain ⟨v, d0, rfl, hd0, pd0, sd0, q⟩ := h
    refine ⟨_, pss_cons (ps_set (i := 1) scPl.nd rfl (.inl rfl) (pe_lst (pa_cons (pe_tup (pa_cons (pe_tup pa_nil) (pa_cons (pv 0) pa_nil))) pa_nil)))
      (pss_cons (ps_set (i := 2) scPl.nd rfl (.inl rfl) (pe_lst pa_nil))
      (pss_cons (ps_while PassesOwn.never (pt_cmpR (op_neM hr.units) (pv 1) (pe_lst pa_nil) (nomark _))
        (pss_cons (ps_asg (pe_bm0 PySem.F.plainAttrs_list PySem.F.slot_list_pop PySem.F.type_list_pop mt_pop (pv 1)) (pg_tup (by rfl) (pgs_cons (pg_name (i := 3) scPl.nd rfl (.inr rfl)) (pgs_cons (pg_name (i := 4) scPl.nd rfl (.inr rfl)) pgs_nil))))
        (pss_cons (ps_expr (pe_bm PySem.F.plainAttrs_list PySem.F.slot_list_append PySem.F.type_list_append mt_append (pv 2) (pa_cons (pe_tup (pa_cons (pv 3) (pa_cons (pv 4) pa_nil))) pa_nil)))
        (pss_one (ps_if (pt_val (pe_callB call_isi (by rfl) mi (by decide +kernel) (pa_cons (pv 4) (pa_cons (pe_bltn (v := .ty "tuple") (by rfl) mt (show bootBuiltins "tuple" = some (.type "tuple") by decide +kernel) rfl) pa_nil))))
          (pss_one (ps_set (i := 1) scPl.nd rfl (.inl rfl) (pe_op op_cat (pv 1)
            (pe_lc (own := [("_law_k", 5)]) (g := gName 5) (tt := tYes) rfl scPl.nd (pi_range1 (by rfl) mr (pa_cons (pe_callB call_len_seq (by rfl) ml PySem.boot_len (pa_cons (pv 4) pa_nil)) pa_nil))
              (blkOk_by (N := nmN) (sc := defScope sPlaces) (by decide +kernel)) (fun _ _ _ _ _ => pg_name (i := 5) scPl.nd rfl (Or.inl rfl)) (fun _ _ _ _ _ => pts_nil)
              (fun _ _ _ _ _ => pe_tup (pa_cons (pe_op (show OpR _ (binaryOp .Add) (rCatA K) from op_catA) (pv 3) (pe_tup (pa_cons (pv 5) pa_nil))) (pa_cons (pe_ix (show IxR _ (rIxT K) from ix_tup) (pv 4) (pv 5) (fun _ _ => rfl)) pa_nil))))))) pss_nil)))))
      (pss_one (ps_ret (pv 2))))), ?_⟩
    refine ⟨Nat.zero_le _, fun a na => ⟨v, rfl, (by show 2 ≤ sizeLine; decide), fun t nt => ⟨(by show 1 ≤ sizeLine; decide), fun l nl => ?_⟩⟩⟩
    generalize hHa : upd H a (HO.tup []) = Ha at nt nl ⊢
    have sa : Same H Ha := by rw [← hHa]; exact same_upd na
    have ca : Ha a = some (.tup []) := by rw [← hHa, upd_same]
    generalize hHt : upd Ha t (HO.tup [V.ref a, v]) = Ht at nl ⊢
    have st : Same Ha Ht := by rw [← hHt]; exact same_upd nt
    have ct : Ht t = some (.tup [.ref a, v]) := by rw [← hHt, upd_same]
    generalize hHl : upd Ht l (HO.lst [V.ref t]) = Hl
    have sl : Same Ht Hl := by rw [← hHl]; exact same_upd nl
    have cl : Hl l = some (.lst [.ref t]) := by rw [← hHl, upd_same]
    have s3 : Same H Hl := sa.trans (st.trans sl)
    refine ⟨Nat.zero_le _, fun fo nfo => ?_⟩
    have hT : TS K H (upd Hl fo (.lst [])) := ts_same (s3.trans (same_upd nfo))
    refine ⟨WPl K H v d0, ⟨sz d0, l, fo, none, none, none, [.ref t], [([], d0)], [], [], rfl, ?_, upd_same, ne_of_none cl nfo, ?_, ?_, .cons ⟨t, a, v, rfl, ?_, ?_, hT.dp _ _ pd0 hd0, pd0, .here _⟩ .nil, .nil, ?_, ?_, .inr (by simp), s3.trans (same_upd nfo)⟩, fun m σ H' hW => ?_⟩
    · rw [upd_ne (ne_of_none cl nfo)]; exact cl
    · exact (sa.trans st).free nl
    · exact s3.free nfo
    · exact .inl (.inl (same_upd nfo _ _ (sl _ _ ct)))
    · exact .inl (.inl (same_upd nfo _ _ (sl _ _ (st _ _ ca))))
    · show sz d0 + 0 = sz d0
      omega
    · simpa using sd0
    · clear hT nfo s3 cl sl hHl ct st hHt ca sa hHa nl nt na
      obtain ⟨l, fo, y3, y4, y5, vs, qs, fs, gs, rfl, hl, hfo, hlf, nl0, nfo0, hen, hfn, hm, hmm, hsome, s0⟩ := hW
      refine ⟨.ref l, rfl, Nat.zero_le _, fun z nz => ?_⟩
      have sz1 : Same H' (upd H' z (.lst [])) := same_upd nz
      have cz : (upd H' z (.lst [])) z = some (.lst []) := upd_same
      have tz : TS K H' (upd H' z (.lst [])) := ts_new nz
      generalize hHz : upd H' z (HO.lst []) = Hz at sz1 cz tz
      obtain ⟨dds, hdat, hcan⟩ := en_data (EnA.ts tz hen)
      refine ⟨.list dds, .list [], .lst (.inl (.inl (sz1 _ _ hl))) hdat, .lst (.inl (.inl cz)) .nil, hcan, rfl, ?_, _, rfl, ite2 (fun c => ?_) (fun c => ?_)⟩
      · refine Nat.le_trans (Nat.min_le_right _ _) ?_
        decide
      · rw [eqv_nil, ← dpAll_emp hdat] at c
        have hne : vs ≠ [] := fun z => by
          subst z
          cases c
        have hl' := sz1 _ _ hl
        obtain ⟨vs', vl, qs', qq, rfl, rfl, hen', t2, a2, x, rfl, ht2, ha2, hx, pd, hat⟩ := paired_last (EnA.ts tz hen) hne
        obtain ⟨pth, d⟩ := qq
        dsimp only at ha2 hx pd hat
        refine ⟨fun σ' H2 => ∃ m', m' < m ∧ WPl K H v d0 m' σ' H2, fun _ _ h => h, ?_⟩
        refine ⟨.ref l, rfl, .inl ⟨rfl, _, .inl (.inl hl')⟩, l, _, .ref t2, rfl, rfl, hl', (by simp), ?_⟩
        rw [List.dropLast_concat]
        have ts2 : TS K Hz (upd Hz l (.lst vs')) := ts_lst hl'
        generalize hH2 : upd Hz l (HO.lst vs') = H2 at ts2 ⊢
        have cl2 : H2 l = some (.lst vs') := by rw [← hH2, upd_same]
        have cf2 : H2 fo = some (.lst fs) := by rw [← hH2, upd_ne hlf.symm]; exact sz1 _ _ hfo
        have s02 : Same H H2 := fun b o eb => by rw [← hH2, upd_ne (ne_of_none eb nl0)]; exact sz1 _ _ (s0 b o eb)
        refine ⟨t2, [.ref a2, x], rfl, ts2 _ _ ht2, rfl, .ref a2, [x], rfl, x, [], rfl, rfl, ?_⟩
        have hmm2 : szE qs' + sz d = m := by
          rw [← hm, szE_append]
          simp [szE]
        have spos := sz_pos d
        -- found.append
        refine ⟨.ref fo, rfl, .inl ⟨rfl, _, .inl (.inl cf2)⟩, .ref a2, rfl, x, rfl, (by show 2 ≤ sizeLine; decide), fun t3 nt3 => ?_⟩
        have ts3 : TS K H2 (upd H2 t3 (.tup [.ref a2, x])) := ts_new nt3
        have c3 : (upd H2 t3 (HO.tup [.ref a2, x])) t3 = some (.tup [.ref a2, x]) := upd_same
        have s3 : Same H2 (upd H2 t3 (HO.tup [.ref a2, x])) := same_upd nt3
        generalize hH3 : upd H2 t3 (HO.tup [.ref a2, x]) = H3 at ts3 c3 s3 ⊢
        refine ⟨fo, fs, .ref t3, rfl, rfl, s3 _ _ cf2, ?_, ?_⟩
        · exact Nat.lt_of_le_of_lt (show fs.length ≤ 4000000 by omega) (by decide)
        have ts4 : TS K H3 (upd H3 fo (.lst (fs ++ [.ref t3]))) := ts_lst (s3 _ _ cf2)
        generalize hH4 : upd H3 fo (HO.lst (fs ++ [.ref t3])) = H4 at ts4 ⊢
        have cf4 : H4 fo = some (.lst (fs ++ [.ref t3])) := by rw [← hH4, upd_same]
        have cl4 : H4 l = some (.lst vs') := by rw [← hH4, upd_ne hlf]; exact s3 _ _ cl2
        have s04 : Same H H4 := fun b o eb => by rw [← hH4, upd_ne (ne_of_none eb nfo0)]; exact s3 _ _ (s02 b o eb)
        have tsA : TS K H2 H4 := ts3.trans ts4
        have hx4 : Dp K H4 x d := tsA.dp _ _ pd (ts2.dp _ _ pd hx)
        have ha4 : SqT K H4 a2 (nints pth) := tsA _ _ (ts2 _ _ ha2)
        have en4 : EnA K d0 H4 vs' qs' := EnA.ts (ts2.trans tsA) hen'
        have fn4 : EnA K d0 H4 (fs ++ [.ref t3]) (gs ++ [(pth, d)]) := paired_append (EnA.ts (tz.trans (ts2.trans tsA)) hfn) (.cons ⟨t3, a2, x, rfl, ts4 _ _ (.inl (.inl c3)), ha4, hx4, pd, hat⟩ .nil)
        refine ⟨x, rfl, x, _, _, _, isT d, rfl, .ty "tuple", dp_ty hx4 pd, kit_ty (kT d), isT d, rfl, ite2 (fun a1 => ?_) (fun a1 => ?_)⟩
        · cases d with
          | tuple ds =>
            cases hx4 with
            | @tup b xs _ hsx hax =>
              have lx := dpAll_len hax
              have hls := len_szA ds
              have hse : szE qs' + (szA ds + 1) = m := hmm2
              have hlq := len_szE qs'
              have hlv := paired_len en4
              refine ⟨.ref l, rfl, .ref b, rfl, b, xs, rfl, .inr hsx, (xs.length : Nat), rfl, by omega, by omega, fun D hD => lc_range (lo := 0) (n := ((xs.length : Nat) : Int).toNat) (fun i H5 => ∃ ws : List V, ws.length = i ∧ EnA K d0 H5 ws ((kids pth ds).take i) ∧ H5 D = some (.lst ws) ∧ Same H4 H5) ⟨[], rfl, .nil, upd_same, same_upd hD⟩ (fun i H5 hi hP => ?_) (fun H5 hP => ?_)⟩
              · obtain ⟨ws, el, hw, eD, s5⟩ := hP
                rw [Int.toNat_natCast] at hi
                have gx : xs[i]? = some xs[i] := List.getElem?_eq_getElem hi
                obtain ⟨di, k1, k2⟩ := dpAll_get hax gx
                have q1 : pl di = true := plA_mem pd (List.mem_of_getElem? k1)
                have hz := kids_get (p := pth) k1
                have ts5 : TS K H4 H5 := ts_same s5
                refine ⟨rfl, ?_⟩
                refine iteT (B := ∃ ws : List V, ws.length = i + 1 ∧ EnA K d0 H5 ws ((kids pth ds).take (i + 1)) ∧ H5 D = some (.lst ws) ∧ Same H4 H5) ?_
                refine ⟨.ref a2, rfl, _, rfl, (by show 1 ≤ sizeLine; decide), fun o no => ?_⟩
                have s6 : Same H5 (upd H5 o (.tup [V.int (0 + (i : Int))])) := same_upd no
                have c6 : (upd H5 o (HO.tup [V.int (0 + (i : Int))])) o = some (.tup [V.int (0 + (i : Int))]) := upd_same
                generalize hH6 : upd H5 o (HO.tup [V.int (0 + (i : Int))]) = H6 at s6 c6 ⊢
                have hdp := at_depth hat
                refine catA_any (ts_same s6 _ _ (ts5 _ _ ha4)) (.inl (.inl c6)) ?_ fun r H7 s7 hr7 => ?_
                · have hpl : pth.length ≤ 4000000 := by
                    have := depth_sz d0 pd0
                    omega
                  unfold nints
                  rw [List.length_map]
                  exact Nat.le_trans (Nat.add_le_add_right hpl 1) (show 4000000 + 1 ≤ sizeLine by decide)
                have s57 : Same H5 H7 := s6.trans s7
                refine ⟨.ref b, rfl, _, rfl, b, xs, _, _, rfl, rfl, (ts5.trans (ts_same s57)) _ _ hsx, atI_of2 (by omega) gx, (by show 2 ≤ sizeLine; decide), fun tp ntp => ?_⟩
                have eD2 := same_upd (o := HO.tup [.ref r, xs[i]]) ntp _ _ (s57 _ _ eD)
                have ts8 : TS K H7 (upd H7 tp (.tup [.ref r, xs[i]])) := ts_new ntp
                have ts9 : TS K (upd H7 tp (.tup [.ref r, xs[i]])) (upd (upd H7 tp (.tup [.ref r, xs[i]])) D (.lst (ws ++ [.ref tp]))) := ts_lst eD2
                refine ⟨_, eD2, ?_, ws ++ [.ref tp], ?_, ?_, upd_same, ?_⟩
                · exact Nat.lt_of_le_of_lt (show ws.length ≤ 4000000 by omega) (by decide)
                · rw [List.length_append, el]; rfl
                · rw [List.take_add_one, hz]
                  refine paired_append (EnA.ts ((ts_same s57).trans (ts8.trans ts9)) hw) (.cons ⟨tp, r, _, rfl, ts9 _ _ (.inl (.inl upd_same)), ?_, ?_, q1, at_snoc hat k1⟩ .nil)
                  · have : nints (pth ++ [i]) = nints pth ++ [V.int (0 + (i : Int))] := by
                      unfold nints
                      rw [List.map_append, Int.zero_add]
                      rfl
                    rw [this]
                    exact ts9 _ _ (ts8 _ _ hr7)
                  · exact (ts5.trans ((ts_same s57).trans (ts8.trans ts9))).dp _ _ q1 k2
                · intro b' o' eb
                  rw [upd_ne (ne_of_none eb hD), upd_ne (ne_of_none (s57 _ _ (s5 _ _ eb)) ntp)]
                  exact s57 _ _ (s5 b' o' eb)
              · obtain ⟨ws, el, hw, eD, s5⟩ := hP
                rw [Int.toNat_natCast, lx, ← kids_len pth ds] at el hw
                rw [List.take_length] at hw
                rw [kids_len] at el
                refine ⟨l, D, vs', ws, rfl, rfl, s5 _ _ cl4, eD, ?_, fun p np => ?_⟩
                · exact Nat.le_trans (show vs'.length + ws.length ≤ 4000000 by omega) (by decide)
                · have ts5 : TS K H4 H5 := ts_same s5
                  refine ⟨szE qs' + szA ds, by omega, p, fo, _, _, _, vs' ++ ws, qs' ++ kids pth ds, fs ++ [.ref t3], gs ++ [(pth, .tuple ds)], rfl, upd_same, same_upd np _ _ (s5 _ _ cf4), (ne_of_none (s5 _ _ cf4) np).symm, (s04.trans s5).free np, nfo0, paired_append (EnA.ts (ts5.trans (ts_new np)) en4) (EnA.ts (ts_new np) hw), EnA.ts (ts5.trans (ts_new np)) fn4, ?_, ?_, .inl (by simp), (s04.trans s5).trans (same_upd np)⟩
                  · rw [szE_append, kids_sz]
                  · rw [List.length_append, List.length_singleton]
                    omega
          | _ => cases a1
        · refine ⟨szE qs', by omega, l, fo, _, _, _, vs', qs', fs ++ [.ref t3], gs ++ [(pth, d)], rfl, cl4, cf4, hlf, nl0, nfo0, en4, fn4, rfl, ?_, .inl (by simp), s04⟩
          rw [List.length_append, List.length_singleton]
          omega
      · rw [eqv_nil, ← dpAll_emp hdat] at c
        have hemp : vs = [] := by
          cases vs with
          | nil => rfl
          | cons _ _ => exact absurd rfl c
        refine ⟨.ref fo, rfl, q fo Hz fs gs (s0.trans sz1) nfo0 (sz1 _ _ hfo) (EnA.ts tz hfn) ?_⟩
        rcases hsome with h | h
        · exact h
        · exact absurd hemp h
end
end K1
namespace K1
open PySem PySem.Spec PyProof.Rows L2
abbrev sSet : Stmt := topS 9
abbrev psU : List Str := ["_law_thing_here", "_law_place", "_law_new"]
theorem scU : FnScope ["_law_thing_here", "_law_place", "_law_new", "_law_at"] psU (defScope sSet) := ⟨rfl, rfl, rfl, by decide +kernel, rfl, by decide +kernel, by decide +kernel⟩
theorem slA_any {K : PySem.W.Frag} {H : Hp} {a : Addr} {xs : List V} {lo hi : Option Int} {Q : VK} (ha : SqT K H a xs) (q : ∀ r H', Same H H' → SqT K H' r (cutV xs lo hi) → Q (.ref r) H') : rSlA K (.ref a) lo hi H Q := by
  refine ⟨a, xs, rfl, ha, fun hw => ?_, fun _ p np => q p _ (same_upd np) (.inl (.inl upd_same))⟩
  have e : cutV xs lo hi = xs := by
    unfold cutV
    rw [hw.1, hw.2]
    simp
  exact q a H (Same.refl _) (by rw [e]; exact ha)
theorem cut_take (xs : List V) (i : Nat) : cutV xs none (some (i : Int)) = xs.take i := by
  unfold cutV
  rw [HT.sIx_none, HT.sIx_nat]
  simp only [List.drop_zero, Nat.sub_zero]
  by_cases h : i ≤ xs.length
  · rw [show min i xs.length = i by omega]
  · rw [show min i xs.length = xs.length by omega, List.take_length, List.take_of_length_le (by omega)]
theorem cut_drop (xs : List V) (i : Nat) : cutV xs (some (i : Int)) none = xs.drop i := by
  unfold cutV
  rw [HT.sIx_none, HT.sIx_nat]
  by_cases h : i ≤ xs.length
  · rw [show min i xs.length = i by omega]
    rw [List.take_of_length_le (by rw [List.length_drop]; omega)]
  · rw [show min i xs.length = xs.length by omega, List.drop_of_length_le (by omega), List.drop_of_length_le (by omega)]
    simp
theorem eqv_nilT (xs : List PyData) : PyData.eqv (.tuple xs) (.tuple []) = xs.isEmpty := by
  cases xs <;> simp [PyData.eqv, PyData.eqvAll]
section
variable {P : Program} {w : World} {K : PySem.W.Frag} {mg : Str → Option Value} {base : Heap}
def spU (K : PySem.W.Frag) : Nat → Sp
  | 0 => fun _ _ _ _ => False
  | n + 1 => fun vs H Q _ => ∃ (v : V) (d : PyData) (a : Addr) (pth : List Nat) (x : PyData) (u : V) (e : PyData), vs = [v, .ref a, u] ∧ Dp K H v d ∧ pl d = true ∧ SqT K H a (nints pth) ∧ At d pth x ∧ Dp K H u e ∧ pl e = true ∧ pth.length ≤ n ∧ sz d ≤ 4000000 ∧ sz e ≤ 4000000 ∧
    ∀ (v' : V) (d' : PyData) (H' : Hp), Same H H' → Dp K H' v' d' → pl d' = true → sz d' ≤ sz d + sz e → d'.depth ≤ max d.depth (pth.length + e.depth) → Q v' H'
theorem ok_set {f : Addr} {fd : FuncData} (F : Fun K "_law_set" "_law_set" sSet f fd) (gU : mg "_law_set" = some (.ref f)) (bU : Binds K fd psU []) : ∀ n : Nat, FnOk P w K mg base CX0 (n + 1) f fd psU (spU K n) := by
  intro n
  induction n with
  | zero => exact F.ok scU (fun vs H Q E h => h.elim) (fun cdv A outer s H vs Q E hr h => h.elim)
  | succ n ih =>
    refine F.ok scU (fun vs H Q E h => ?_) (fun cdv A outer s H vs Q E hr h => ?_)
    · obtain ⟨v, d, a, pth, x, u, e, rfl, _⟩ := h
      rfl
    · obtain ⟨v, d, a, pth, x, u, e, rfl, hd, pd, ha, hat, hu, pe, hn, sd, se, q⟩ := h
      refine ⟨_, pss_cons (ps_if (pt_cmpR (op_eqM hr.units) (pv 1) (pe_tup pa_nil) (nomark _)) (pss_one (ps_ret (pv 2))) pss_nil)
        (pss_cons (ps_set (i := 3) scU.nd rfl (.inl rfl) (pe_ix ix_tup (pv 1) pe_int (fun _ _ => rfl)))
        (pss_one (ps_ret (pe_op op_catA (pe_op op_catA (pe_slice sl_tupA (pv 0) po_none (po_some (pv 3)))
            (pe_tup (pa_cons (pe_call ih hr (by rfl) gU F.kp bU .nil pass0 (pa_cons (pe_ix ix_tup (pv 0) (pv 3) (fun _ _ => rfl)) (pa_cons (pe_slice sl_tupA (pv 1) (po_some pe_int) po_none) (pa_cons (pv 2) pa_nil)))) pa_nil)))
          (pe_slice sl_tupA (pv 0) (po_some (pe_op op_add (pv 3) pe_int)) po_none))))), ?_⟩
      refine ⟨.ref a, rfl, Nat.zero_le _, fun z nz => ?_⟩
      have sz1 : Same H (upd H z (.tup [])) := same_upd nz
      have cz : (upd H z (.tup [])) z = some (.tup []) := upd_same
      generalize hHz : upd H z (HO.tup []) = Hz at sz1 cz ⊢
      have tz : TS K H Hz := ts_same sz1
      have hda := dp_ints (K := K) (H := Hz) pth
      refine ⟨.tuple (pth.map fun n : Nat => PyData.int (n : Int)), .tuple [], .tup (tz _ _ ha) hda.1, .tup (.inl (.inl cz)) .nil, hda.2, rfl, ?_, _, rfl, ite2 (fun c => ?_) (fun c => ?_)⟩
      · refine Nat.le_trans (Nat.min_le_right _ _) ?_
        decide
      · have hp : pth = [] := by
          rw [eqv_nilT] at c
          cases pth with
          | nil => rfl
          | cons _ _ => cases c
        subst hp
        exact ⟨u, rfl, q u e Hz sz1 (tz.dp _ _ pe hu) pe (by omega) (by simp; omega)⟩
      · cases hat with
        | here => exact absurd (by rw [eqv_nilT]; rfl) c
        | @step ds i cc _ pth' hi hat' =>
          cases hd with
          | @tup b xs _ hsx hax =>
            have lx := dpAll_len hax
            have hil : i < ds.length := (List.getElem?_eq_some_iff.mp hi).1
            have gx : xs[i]? = some xs[i] := List.getElem?_eq_getElem (by omega)
            obtain ⟨ci, k1, k2⟩ := dpAll_get hax gx
            obtain rfl : ci = cc := Option.some.inj (k1.symm.trans hi)
            have pcc : pl ci = true := plA_mem pd (List.mem_of_getElem? hi)
            have hls := len_szA ds
            have hsd : szA ds + 1 ≤ 4000000 := sd
            refine ⟨.ref a, rfl, a, _, _, .int (i : Int), rfl, rfl, tz _ _ ha, atI_nat (j := 0) rfl, ?_⟩
            cases n with
            | zero => exact absurd hn (by simp)
            | succ n =>
              -- thing[:at]
              refine ⟨.ref b, rfl, .int (i : Int), rfl, (i : Int), rfl, slA_any (tz _ _ hsx) fun r1 H1 s1 h1 => ?_⟩
              rw [cut_take] at h1
              have t1 : TS K H H1 := tz.trans (ts_same s1)
              refine ⟨.ref b, rfl, .int (i : Int), rfl, b, xs, _, xs[i], rfl, rfl, t1 _ _ hsx, atI_nat gx, .ref a, rfl, 1, rfl, ?_⟩
              dsimp only [tNoPart]
              refine slA_any (t1 _ _ ha) fun r2 H2 s2 h2 => ?_
              have e2 : cutV (nints (i :: pth')) (some 1) none = nints pth' := by
                rw [show (1 : Int) = ((1 : Nat) : Int) from rfl, cut_drop]
                rfl
              rw [e2] at h2
              have t2 : TS K H H2 := t1.trans (ts_same s2)
              refine ⟨u, rfl, xs[i], ci, r2, pth', x, u, e, rfl, t2.dp _ _ pcc k2, pcc, h2, hat', t2.dp _ _ pe hu, pe, by simpa using hn, ?_, se, fun v' d' H3 s3 hv' pl' sz' dep' => ?_⟩
              · have := sz_mem (List.mem_of_getElem? hi)
                omega
              refine ⟨(by show 1 ≤ sizeLine; decide), fun t nt => ?_⟩
              have s4 : Same H3 (upd H3 t (.tup [v'])) := same_upd nt
              have c4 : (upd H3 t (.tup [v'])) t = some (.tup [v']) := upd_same
              generalize hH4 : upd H3 t (HO.tup [v']) = H4 at s4 c4 ⊢
              have s14 : Same H1 H4 := s2.trans (s3.trans s4)
              refine catA_any (ts_same s14 _ _ h1) (.inl (.inl c4)) ?_ fun r5 H5 s5 h5 => ?_
              · rw [List.length_take]
                exact Nat.le_trans (show min i xs.length + [v'].length ≤ 4000001 by simp; omega) (by decide)
              have t5 : TS K H H5 := t2.trans (ts_same (s3.trans (s4.trans s5)))
              refine ⟨.ref b, rfl, .int (i : Int), rfl, _, _, rfl, rfl, ((i : Int) + 1), rfl, ?_⟩
              dsimp only [tNoPart]
              refine slA_any (t5 _ _ hsx) fun r6 H6 s6 h6 => ?_
              rw [show (i : Int) + 1 = ((i + 1 : Nat) : Int) by omega, cut_drop] at h6
              refine catA_any (ts_same s6 _ _ h5) h6 ?_ fun r7 H7 s7 h7 => ?_
              · rw [List.length_append, List.length_take, List.length_drop]
                exact Nat.le_trans (show min i xs.length + [v'].length + (xs.length - (i + 1)) ≤ 4000001 by simp; omega) (by decide)
              have t7 : TS K H H7 := t5.trans (ts_same (s6.trans s7))
              have t37 : TS K H3 H7 := ts_same (s4.trans (s5.trans (s6.trans s7)))
              have hall7 : DpAll K H7 xs ds := t7.dps _ _ pd hax
              have hsplit : szA (ds.take i) + sz ci + szA (ds.drop (i + 1)) = szA ds := by
                have h1 : ds = ds.take i ++ (ci :: ds.drop (i + 1)) := by
                  have := List.getElem?_eq_some_iff.mp hi
                  obtain ⟨hlt, he⟩ := this
                  rw [← he, List.getElem_cons_drop, List.take_append_drop]
                have h2 := congrArg szA h1
                rw [szA_append] at h2
                simp only [szA] at h2
                omega
              have hdA : PyData.depthAll ds + 1 = (PyData.tuple ds).depth := (depth_tuple ds).symm
              refine q (.ref r7) (.tuple (ds.take i ++ [d'] ++ ds.drop (i + 1))) H7 (sz1.trans (s1.trans (s14.trans (s5.trans (s6.trans s7))))) (.tup h7 (dpAll_append (dpAll_append (dpAll_take i hall7) (.cons (t37.dp _ _ pl' hv') .nil)) (dpAll_drop (i + 1) hall7))) ?_ ?_ ?_
              · exact plA_of fun g hg => by
                  rcases List.mem_append.mp hg with m | m
                  · rcases List.mem_append.mp m with m | m
                    · exact plA_mem pd (List.mem_of_mem_take m)
                    · rw [List.mem_singleton.mp m]; exact pl'
                  · exact plA_mem pd (List.mem_of_mem_drop m)
              · show szA (ds.take i ++ [d'] ++ ds.drop (i + 1)) + 1 ≤ szA ds + 1 + sz e
                rw [szA_append, szA_append]
                simp only [szA]
                omega
              · rw [depth_tuple]
                have hb : PyData.depthAll (ds.take i ++ [d'] ++ ds.drop (i + 1)) ≤ max (PyData.depthAll ds) (pth'.length + e.depth) := depthA_le fun g hg => by
                  rcases List.mem_append.mp hg with m | m
                  · rcases List.mem_append.mp m with m | m
                    · have := depth_mem (List.mem_of_mem_take m); omega
                    · rw [List.mem_singleton.mp m]
                      have := depth_mem (List.mem_of_getElem? hi)
                      omega
                  · have := depth_mem (List.mem_of_mem_drop m); omega
                rw [List.length_cons]
                omega
end
end K1
namespace K1
open PySem PySem.Spec PyProof.Rows L2
open TL (tl len_tl)
/-- text[::-1]: some text of the same signs -/
def tRevS (te : TE) : TE := fun σ H Q => te σ H fun x H1 => ∃ z, x = .str z ∧ z.length ≤ sizeLine ∧ ∀ y : Str, (∀ c ∈ tl y, c ∈ tl z) → y.length ≤ z.length → Q (.str y) H1
section
variable {X : Cx}
theorem pe_revS {e : Expr} {te : TE} {k : Nat} {p1 p2 p3 pos : Pos} (he : PE X e te) : PE X (.Subscript e (.Slice none none (some (.UnaryOp .USub (.Constant (.int 1) k p1) p2)) p3) pos) (tRevS te) := by
  refine ⟨fun pins s σ H Q I h => ?_⟩
  refine Subscript_ (thn (he.run pins s σ H _ I h) fun v s1 ⟨x, H1, I1, r1, q1⟩ => ?_)
  obtain ⟨z, ex, hz, q⟩ := q1
  subst ex
  obtain ⟨tk, rfl⟩ := r1
  have hst : PO X (some (.UnaryOp .USub (.Constant (.int 1) k p1) p2)) (tPart (tUn (rU fun i => .int (-i)) (tC (.int 1)))) := po_some (pe_un un_neg pe_int)
  refine wpAny_Slice (thn (po_none.run pins s1 σ H1 (fun o G => o = none ∧ G = H1) I1 ⟨rfl, rfl⟩) fun vl s2 ⟨lo, H2, I2, hlo, el, e2⟩ => ?_)
  subst el e2
  refine thn (po_none.run pins s2 σ H2 (fun o G => o = none ∧ G = H2) I2 ⟨rfl, rfl⟩) fun vu s3 ⟨hi, H3, I3, hhi, eu, e3⟩ => ?_
  subst eu e3
  refine thn (hst.run pins s3 σ H3 (fun o G => o = some (-1) ∧ G = H3) I3 ⟨1, rfl, -1, rfl, rfl, rfl⟩) fun vs s4 ⟨o, H4, I4, hst', eo, e4⟩ => ?_
  subst eo e4
  obtain ⟨a1, rfl, f1⟩ := IsPart.raw hlo
  obtain ⟨a2, rfl, f2⟩ := IsPart.raw hhi
  obtain ⟨a3, rfl, f3⟩ := IsPart.raw hst'
  have I5 : Inv X pins σ H4 { s4 with heap := s4.heap.push { cls := .type "slice", data := .fields #[partValue a1, partValue a2, partValue a3] } } := I4.kept (t' := s4.toks) fun b ob q => Heap.get?_push_of_some _ q
  refine tail_any (ops := [.ref s4.heap.objs.size, .str z tk]) (typeIs_str _ _ _) F.slot_str_getitem.lookup ?_ (by with_unfolding_all rfl) 
  refine wpAny_getItem_str_slice (l := a1) (u := a2) (st := a3) ⟨_, Heap.get?_push_size _ rfl, rfl, rfl⟩ (by rw [f3]; rfl) ?_
  unfold sliceMade
  rw [if_neg (by rw [f3]; simp)]
  have hlen : (slicePicked z a1 a2 a3).length ≤ z.length := by
    unfold slicePicked
    rw [f3]
    exact sliceIndicesBy_le _ _ _ (by decide) _
  have hle : (⟨((slicePicked z a1 a2 a3).filterMap (z.cps[·]?)).toArray⟩ : Str).length ≤ z.length := by
    show (((slicePicked z a1 a2 a3).filterMap (z.cps[·]?)).toArray).size ≤ _
    rw [List.size_toArray]
    exact Nat.le_trans (List.length_filterMap_le _ _) hlen
  refine ⟨Nat.le_trans hle hz, .str _, H4, I5.tok _, ⟨_, rfl⟩, q _ (fun c hc => ?_) hle⟩
  have hc' : c ∈ (slicePicked z a1 a2 a3).filterMap (z.cps[·]?) := by simpa [tl] using hc
  obtain ⟨i, _, hi⟩ := List.mem_filterMap.mp hc'
  have := Array.mem_of_getElem? hi
  simpa [tl] using this
end
abbrev sBeside : Stmt := topS 10
theorem scB : FnScope ["_law_deck_here", "_law_one", "_law_way"] ["_law_deck_here", "_law_one"] (defScope sBeside) := ⟨rfl, rfl, rfl, by decide +kernel, rfl, by decide +kernel, by decide +kernel⟩
theorem cutS_mem {z : Str} {lo hi : Option Int} {c : Nat} (h : c ∈ tl (cutS z lo hi)) : c ∈ tl z := by
  unfold cutS at h
  have h2 : c ∈ (z.cps.toList.drop (HT.sIx z.length 0 lo)).take (HT.sIx z.length z.length hi - HT.sIx z.length 0 lo) := by simpa [tl] using h
  exact List.mem_of_mem_drop (List.mem_of_mem_take h2)
theorem way4 {way : Int} (h0 : way ≠ 0) (h1 : 0 ≤ way) (h2 : way < 5) : way = 1 ∨ way = 2 ∨ way = 3 ∨ way = 4 := by omega
section
variable {P : Program} {w : World} {K : PySem.W.Frag} {mg : Str → Option Value} {base : Heap}
def spBeside (K : PySem.W.Frag) : Sp := fun vs H Q _ => ∃ (dk cl lf : Addr) (v : V) (d : PyData), vs = [.ref dk, v] ∧ Dk H dk cl lf ∧ Dp K H v d ∧ pl d = true ∧ sz d ≤ 4000000 ∧
  ∀ (v' : V) (d' : PyData) (H' : Hp), Dk H' dk cl lf → KD dk lf H H' → Dp K H' v' d' → pl d' = true → sz d' ≤ sz d + 20 → d'.depth ≤ d.depth + 1 → Q v' H'
theorem ok_beside {f : Addr} {fd : FuncData} (F : Fun K "_law_beside" "_law_beside" sBeside f fd) (CP : Cal P w K mg base "_law_pick" ["_law_deck_here", "_law_many"] 1 spPick) (CS : Cal P w K mg base "_law_simple" ["_law_deck_here"] 2 (spSimple K))
    (mi : mg "isinstance" = none) (mt : mg "tuple" = none) (ml : mg "len" = none) (mb : mg "bool" = none) (mint : mg "int" = none) (mst : mg "str" = none) : FnOk P w K mg base CX0 3 f fd ["_law_deck_here", "_law_one"] (spBeside K) := by
  obtain ⟨fP, fdP, GP, gP, kP, bP⟩ := CP.ex
  obtain ⟨fS, fdS, GS, gS, kS', bS⟩ := CS.ex
  refine F.ok scB (fun vs H Q E h => ?_) (fun cdv A outer s H vs Q E hr h => ?_)
  · obtain ⟨dk, cl, lf, v, d, rfl, _⟩ := h
    rfl
  · obtain ⟨dk, cl, lf, v, d, rfl, D0, hv, pd, sd, q⟩ := h
    have hr1 : Room 1 (A.deeper (envOfC "_law_beside" (defScope sBeside) s.heap.objs.size f cdv)) := hr.mono (by omega)
    refine ⟨_, pss_cons (ps_set (i := 2) scB.nd rfl (.inl rfl) (pe_call GP hr1 (by rfl) gP kP bP .nil pass0 (pa_cons (pv 0) (pa_cons pe_int pa_nil))))
      (pss_cons (ps_if (pt_cmpR op_eq (pv 2) pe_int (nomark _)) (pss_one (ps_ret (pe_tup (pa_cons (pv 1) pa_nil)))) pss_nil)
      (pss_cons (ps_if (pt_val (pe_callB call_isi (by rfl) mi (by decide +kernel) (pa_cons (pv 1) (pa_cons (pe_bltn (v := .ty "tuple") (by rfl) mt (show bootBuiltins "tuple" = some (.type "tuple") by decide +kernel) rfl) pa_nil))))
        (pss_cons (ps_if (PW.pt (pw_and (pt_cmpR op_eq (pv 2) pe_int (nomark _)) (pw_and1 (pt_cmpR op_eq (pe_callB call_len_seq (by rfl) ml PySem.boot_len (pa_cons (pv 1) pa_nil)) pe_int (nomark _))))) (pss_one (ps_ret (pe_ix ix_tup (pv 1) pe_int (fun _ _ => rfl)))) pss_nil)
        (pss_one (ps_ret (pe_op op_catA (pv 1) (pe_tup (pa_cons (pe_call GS hr (by rfl) gS kS' bS .nil pass0 (pa_cons (pv 0) pa_nil)) pa_nil)))))) pss_nil)
      (pss_cons (ps_if (pt_val (pe_callB call_isi (by rfl) mi (by decide +kernel) (pa_cons (pv 1) (pa_cons (pe_bltn (v := .ty "bool") (by rfl) mb (show bootBuiltins "bool" = some (.type "bool") by decide +kernel) rfl) pa_nil))))
        (pss_one (ps_ret (pe_ix ix_list (pe_lst (pa_cons (pe_callTy call_int1 (by rfl) mint (by decide +kernel) (pa_cons (pv 1) pa_nil)) (pa_cons (pe_not (pv 1)) pa_nil))) (pe_op op_mod (pv 2) pe_int) (fun _ _ => rfl)))) pss_nil)
      (pss_cons (ps_if (pt_val (pe_callB call_isi (by rfl) mi (by decide +kernel) (pa_cons (pv 1) (pa_cons (pe_bltn (v := .ty "int") (by rfl) mint (show bootBuiltins "int" = some (.type "int") by decide +kernel) rfl) pa_nil))))
        (pss_one (ps_ret (pe_ix ix_list (pe_lst (pa_cons (pe_op op_add (pv 1) pe_int) (pa_cons (pe_cmpR op_eq (pv 1) pe_int (nomark _)) (pa_cons (pe_un un_neg (pv 1)) (pa_cons pe_int pa_nil))))) (pe_op op_sub (pv 2) pe_int) (fun _ _ => rfl)))) pss_nil)
      (pss_cons (ps_if (pt_val (pe_callB call_isi (by rfl) mi (by decide +kernel) (pa_cons (pv 1) (pa_cons (pe_bltn (v := .ty "str") (by rfl) mst (show bootBuiltins "str" = some (.type "str") by decide +kernel) rfl) pa_nil))))
        (pss_one (ps_ret (pe_ix ix_list (pe_lst (pa_cons (pe_op op_add_str (pv 1) pe_str) (pa_cons (pe_slice sl_str (pv 1) po_none (po_some (pe_un un_neg pe_int))) (pa_cons (pe_revS (pv 1)) (pa_cons pe_non pa_nil))))) (pe_op op_sub (pv 2) pe_int) (fun _ _ => rfl)))) pss_nil)
      (pss_one (ps_ret (pe_ix ix_list (pe_lst (pa_cons (pe_tup pa_nil) (pa_cons pe_bl (pa_cons pe_int (pa_cons pe_str pa_nil))))) (pe_op op_sub (pv 2) pe_int) (fun _ _ => rfl))))))))), ?_⟩
    refine ⟨.ref dk, rfl, dk, cl, lf, 5, rfl, D0, by decide, by decide +kernel, fun way H1 w0 w1 D1 k1 => ?_⟩
    have t1 : TS K H H1 := D0.ts k1
    have hv1 : Dp K H1 v d := t1.dp _ _ pd hv
    have spos := sz_pos d
    refine ⟨.int way, rfl, rfl, _, rfl, ite2 (fun e => ?_) (fun e => ?_)⟩
    · refine ⟨v, rfl, (by show 1 ≤ sizeLine; decide), fun t nt => q (.ref t) (.tuple [d]) _ (D1.same (same_upd nt)) (k1.trans (KD.of_same (same_upd nt))) (.tup (.inl (.inl upd_same)) (.cons ((ts_new nt).dp _ _ pd hv1) .nil)) (by simp [pl, plA, pd]) (by simp only [sz, szA]; omega) (by simp [PyData.depth, PyData.depthAll])⟩
    replace e : way ≠ 0 := fun z => e (decide_eq_true (by rw [z]))
    have w4 := way4 e w0 w1
    refine ⟨v, rfl, v, _, _, _, isT d, rfl, .ty "tuple", dp_ty hv1 pd, kit_ty (kT d), isT d, rfl, ite2 (fun a1 => ?_) (fun a1 => ?_)⟩
    · cases d with
      | tuple ds =>
        cases hv1 with
        | @tup b xs _ hsx hax =>
          have lx := dpAll_len hax
          have hls := len_szA ds
          have hszd : szA ds + 1 ≤ 4000000 := sd
          have main : ∀ D : Ends, D.rt = Q → tRet (tOp (rCatA K) (tVar 1) (tTup (tCons (tCall (spSimple K) [] E0 (tCons (tVar 0) tNil)) tNil))) D [some (.ref dk), some (.ref b), some (.int way)] H1 := fun D hD => by
            refine ⟨.ref b, rfl, .ref dk, rfl, dk, cl, lf, rfl, D1, fun y dy H2 D2 k2 hy py sy dep => ?_⟩
            refine ⟨(by show 1 ≤ sizeLine; decide), fun t nt => ?_⟩
            have s3 : Same H2 (upd H2 t (.tup [y])) := same_upd nt
            have c3 : (upd H2 t (.tup [y])) t = some (.tup [y]) := upd_same
            generalize hH3 : upd H2 t (HO.tup [y]) = H3 at s3 c3 ⊢
            have t2 : TS K H1 H2 := D1.ts k2
            have t3 : TS K H2 H3 := ts_same s3
            refine catA_any ((t2.trans t3) _ _ hsx) (.inl (.inl c3)) ?_ fun r H4 s4 h4 => ?_
            · exact Nat.le_trans (show xs.length + [y].length ≤ 4000001 by simp; omega) (by decide)
            have t4 : TS K H3 H4 := ts_same s4
            rw [hD]
            refine q (.ref r) (.tuple (ds ++ [dy])) H4 (D2.same (s3.trans s4)) ((k1.trans k2).trans (KD.of_same (s3.trans s4))) (.tup h4 (dpAll_append ((t2.trans (t3.trans t4)).dps _ _ pd hax) (.cons ((t3.trans t4).dp _ _ py hy) .nil))) ?_ ?_ ?_
            · exact plA_of fun g hg => by
                rcases List.mem_append.mp hg with m | m
                · exact plA_mem pd m
                · rw [List.mem_singleton.mp m]; exact py
            · show szA (ds ++ [dy]) + 1 ≤ szA ds + 1 + 20
              rw [szA_append]
              simp only [szA]
              omega
            · rw [depth_tuple, depth_tuple]
              have hb : PyData.depthAll (ds ++ [dy]) ≤ PyData.depthAll ds := depthA_le fun g hg => by
                rcases List.mem_append.mp hg with m | m
                · exact depth_mem m
                · rw [List.mem_singleton.mp m, dep]; omega
              omega
          refine ⟨.int way, rfl, rfl, _, rfl, ite2 (fun b1 => ?_) (fun b1 => main _ rfl)⟩
          refine ⟨.ref b, rfl, b, xs, rfl, .inr hsx, rfl, _, rfl, ite2 (fun b2 => ?_) (fun b2 => main _ rfl)⟩
          have hx1 : xs.length = 1 := by
            have z := V.int.inj (of_decide_eq_true b2)
            omega
          have gx : xs[0]? = some xs[0] := List.getElem?_eq_getElem (by omega)
          obtain ⟨dx, k2, k3⟩ := dpAll_get hax gx
          have hmem := List.mem_of_getElem? k2
          refine ⟨.ref b, rfl, b, xs, _, _, rfl, rfl, hsx, atI_nat (j := 0) gx, q _ dx H1 D1 k1 k3 (plA_mem pd hmem) ?_ ?_⟩
          · have := sz_mem hmem
            simp only [sz]
            omega
          · rw [depth_tuple]
            have := depth_mem hmem
            omega
      | _ => cases a1
    refine ⟨v, rfl, v, _, _, _, isB d, rfl, .ty "bool", dp_ty hv1 pd, kit_ty (kB d), isB d, rfl, ite2 (fun a2 => ?_) (fun a2 => ?_)⟩
    · cases d with
      | bool b =>
        cases hv1
        rcases w4 with z | z | z | z
        · subst z; exact ⟨.bl b, rfl, .inr ⟨b, rfl, .bl b, rfl, b, rfl, (by show 2 ≤ sizeLine; decide), fun ll nll => ⟨.int _, rfl, _, _, rfl, rfl, (by show (0 : Int) < 2; decide), ll, _, _, _, rfl, rfl, .inl (.inl upd_same), rfl, q _ (.bool _) _ (D1.same (same_upd nll)) (k1.trans (KD.of_same (same_upd nll))) (.bl _) rfl (by simp [sz]) (by simp [PyData.depth])⟩⟩⟩
        · subst z; exact ⟨.bl b, rfl, .inr ⟨b, rfl, .bl b, rfl, b, rfl, (by show 2 ≤ sizeLine; decide), fun ll nll => ⟨.int _, rfl, _, _, rfl, rfl, (by show (0 : Int) < 2; decide), ll, _, _, _, rfl, rfl, .inl (.inl upd_same), rfl, q _ (.int _) _ (D1.same (same_upd nll)) (k1.trans (KD.of_same (same_upd nll))) (.int _) rfl (by simp [sz]) (by simp [PyData.depth])⟩⟩⟩
        · subst z; exact ⟨.bl b, rfl, .inr ⟨b, rfl, .bl b, rfl, b, rfl, (by show 2 ≤ sizeLine; decide), fun ll nll => ⟨.int _, rfl, _, _, rfl, rfl, (by show (0 : Int) < 2; decide), ll, _, _, _, rfl, rfl, .inl (.inl upd_same), rfl, q _ (.bool _) _ (D1.same (same_upd nll)) (k1.trans (KD.of_same (same_upd nll))) (.bl _) rfl (by simp [sz]) (by simp [PyData.depth])⟩⟩⟩
        · subst z; exact ⟨.bl b, rfl, .inr ⟨b, rfl, .bl b, rfl, b, rfl, (by show 2 ≤ sizeLine; decide), fun ll nll => ⟨.int _, rfl, _, _, rfl, rfl, (by show (0 : Int) < 2; decide), ll, _, _, _, rfl, rfl, .inl (.inl upd_same), rfl, q _ (.int _) _ (D1.same (same_upd nll)) (k1.trans (KD.of_same (same_upd nll))) (.int _) rfl (by simp [sz]) (by simp [PyData.depth])⟩⟩⟩
      | _ => cases a2
    refine ⟨v, rfl, v, _, _, _, isI d, rfl, .ty "int", dp_ty hv1 pd, kit_ty (kI d), isI d, rfl, ite2 (fun a3 => ?_) (fun a3 => ?_)⟩
    · cases d with
      | int n =>
        cases hv1
        rcases w4 with z | z | z | z
        · subst z; exact ⟨.int n, rfl, n, 1, rfl, rfl, .int n, rfl, rfl, .int n, rfl, n, rfl, (by show 4 ≤ sizeLine; decide), fun ll nll => ⟨.int _, rfl, _, _, rfl, rfl, ll, _, _, _, rfl, rfl, .inl (.inl upd_same), rfl, q _ (.int _) _ (D1.same (same_upd nll)) (k1.trans (KD.of_same (same_upd nll))) (.int _) rfl (by simp [sz]) (by simp [PyData.depth])⟩⟩
        · subst z; exact ⟨.int n, rfl, n, 1, rfl, rfl, .int n, rfl, rfl, .int n, rfl, n, rfl, (by show 4 ≤ sizeLine; decide), fun ll nll => ⟨.int _, rfl, _, _, rfl, rfl, ll, _, _, _, rfl, rfl, .inl (.inl upd_same), rfl, q _ (.bool _) _ (D1.same (same_upd nll)) (k1.trans (KD.of_same (same_upd nll))) (.bl _) rfl (by simp [sz]) (by simp [PyData.depth])⟩⟩
        · subst z; exact ⟨.int n, rfl, n, 1, rfl, rfl, .int n, rfl, rfl, .int n, rfl, n, rfl, (by show 4 ≤ sizeLine; decide), fun ll nll => ⟨.int _, rfl, _, _, rfl, rfl, ll, _, _, _, rfl, rfl, .inl (.inl upd_same), rfl, q _ (.int _) _ (D1.same (same_upd nll)) (k1.trans (KD.of_same (same_upd nll))) (.int _) rfl (by simp [sz]) (by simp [PyData.depth])⟩⟩
        · subst z; exact ⟨.int n, rfl, n, 1, rfl, rfl, .int n, rfl, rfl, .int n, rfl, n, rfl, (by show 4 ≤ sizeLine; decide), fun ll nll => ⟨.int _, rfl, _, _, rfl, rfl, ll, _, _, _, rfl, rfl, .inl (.inl upd_same), rfl, q _ (.int _) _ (D1.same (same_upd nll)) (k1.trans (KD.of_same (same_upd nll))) (.int _) rfl (by simp [sz]) (by simp [PyData.depth])⟩⟩
      | bool b => exact absurd rfl a2
      | _ => cases a3
    refine ⟨v, rfl, v, _, _, _, isS d, rfl, .ty "str", dp_ty hv1 pd, kit_ty (kS d), isS d, rfl, ite2 (fun a4 => ?_) (fun a4 => ?_)⟩
    · cases d with
      | str x =>
        cases hv1
        have sx : x.length + 1 ≤ 4000000 := sd
        have ox : ∀ c ∈ tl x, c < 0x110000 := strOk_iff.mp pd
        have sl0 : x.length ≤ sizeLine := Nat.le_trans (show x.length ≤ 4000000 by omega) (by decide)
        refine ⟨.str x, rfl, _, _, rfl, rfl, ?_, .str x, rfl, 1, rfl, _, rfl, _, rfl, sl0, .str x, rfl, x, rfl, sl0, fun y hy1 hy2 => ?_⟩
        · exact Nat.le_trans (show x.length + 1 ≤ 4000001 by omega) (by decide)
        refine ⟨(by show 4 ≤ sizeLine; decide), fun ll nll => ?_⟩
        have fin : ∀ y : Str, (∀ c ∈ tl y, c < 0x110000) → y.length ≤ x.length + 1 → ∀ H2, Same H1 H2 → Q (.str y) H2 := fun y o1 o2 H2 s2 =>
          q _ (.str y) _ (D1.same s2) (k1.trans (KD.of_same s2)) (.str y) (strOk_iff.mpr o1) (by simp only [sz]; omega) (by simp [PyData.depth])
        rcases w4 with z | z | z | z
        · subst z
          refine ⟨.int _, rfl, _, _, rfl, rfl, ll, _, _, _, rfl, rfl, .inl (.inl upd_same), rfl, fin _ (fun c hc => ?_) ?_ _ (same_upd nll)⟩
          · rw [TL.tl_append] at hc
            rcases List.mem_append.mp hc with m | m
            · exact ox c m
            · exact (strOk_iff.mp (show PyData.strOk (Str.ofString "a") = true by decide +kernel)) c m
          · rw [len_tl, TL.tl_append, List.length_append, ← len_tl, ← len_tl]
            exact Nat.le_refl _
        · subst z
          exact ⟨.int _, rfl, _, _, rfl, rfl, ll, _, _, _, rfl, rfl, .inl (.inl upd_same), rfl, fin _ (fun c hc => ox c (cutS_mem hc)) (Nat.le_trans (cutS_length _ _ _) (Nat.le_succ _)) _ (same_upd nll)⟩
        · subst z
          exact ⟨.int _, rfl, _, _, rfl, rfl, ll, _, _, _, rfl, rfl, .inl (.inl upd_same), rfl, fin _ (fun c hc => ox c (hy1 c hc)) (Nat.le_trans hy2 (Nat.le_succ _)) _ (same_upd nll)⟩
        · subst z
          exact ⟨.int _, rfl, _, _, rfl, rfl, ll, _, _, _, rfl, rfl, .inl (.inl upd_same), rfl, q _ (.none) _ (D1.same (same_upd nll)) (k1.trans (KD.of_same (same_upd nll))) (.non) rfl (by simp only [sz]; omega) (by simp [PyData.depth])⟩
      | _ => cases a4
    refine ⟨Nat.zero_le _, fun t nt => ⟨(by show 4 ≤ sizeLine; decide), fun ll nll => ?_⟩⟩
    have s3 : Same H1 (upd H1 t (.tup [])) := same_upd nt
    have c3 : (upd H1 t (.tup [])) t = some (.tup []) := upd_same
    generalize hH3 : upd H1 t (HO.tup []) = H3 at s3 c3 nll ⊢
    have s4 : Same H1 (upd H3 ll (.lst [.ref t, .bl false, .int 0, .str (Str.ofString "")])) := s3.trans (same_upd nll)
    have fin : ∀ (y : V) (dy : PyData), Dp K (upd H3 ll (.lst [.ref t, .bl false, .int 0, .str (Str.ofString "")])) y dy → pl dy = true → sz dy ≤ 2 → dy.depth ≤ 1 → Q y (upd H3 ll (.lst [.ref t, .bl false, .int 0, .str (Str.ofString "")])) := fun y dy h1 h2 h3 h4 =>
      q y dy _ (D1.same s4) (k1.trans (KD.of_same s4)) h1 h2 (by omega) (by omega)
    rcases w4 with z | z | z | z
    · subst z
      exact ⟨.int _, rfl, _, _, rfl, rfl, ll, _, _, _, rfl, rfl, .inl (.inl upd_same), rfl, fin _ (.tuple []) (.tup (.inl (.inl (same_upd nll _ _ c3))) .nil) rfl (by simp [sz, szA]) (by simp [PyData.depth, PyData.depthAll])⟩
    · subst z
      exact ⟨.int _, rfl, _, _, rfl, rfl, ll, _, _, _, rfl, rfl, .inl (.inl upd_same), rfl, fin _ (.bool _) (.bl _) rfl (by simp [sz]) (by simp [PyData.depth])⟩
    · subst z
      exact ⟨.int _, rfl, _, _, rfl, rfl, ll, _, _, _, rfl, rfl, .inl (.inl upd_same), rfl, fin _ (.int _) (.int _) rfl (by simp [sz]) (by simp [PyData.depth])⟩
    · subst z
      exact ⟨.int _, rfl, _, _, rfl, rfl, ll, _, _, _, rfl, rfl, .inl (.inl upd_same), rfl, fin _ (.str _) (.str _) (by decide +kernel) (by decide +kernel) (by simp [PyData.depth])⟩
end
end K1
namespace LiP
open PySem
theorem paired_get' {α β : Type} {F : α → β → Prop} : ∀ {xs : List α} {ys : List β}, Paired F xs ys → ∀ {i : Nat} {x : α}, xs[i]? = some x → ∃ y, ys[i]? = some y ∧ F x y
  | _, _, .nil, i, x, h => by simp at h
  | _, _, .cons r t, 0, x, h => by
    simp at h
    subst h
    exact ⟨_, rfl, r⟩
  | _, _, .cons r t, i + 1, x, h => by
    obtain ⟨y, e1, e2⟩ := paired_get' t (i := i) (by simpa using h)
    exact ⟨y, by simpa using e1, e2⟩
end LiP
namespace K1
open PySem PySem.Spec PyProof.Rows L2
abbrev sLaw : Stmt := topS 13
abbrev nmW : List Str := ["_law_script", "_law_deck_here", "_law_change", "_law_where", "_law_around_here", "_law_one", "_law_other", "_law_places_here", "_law_place", "_law_held", "_law_due", "_law_left", "_law_right", "_law_told", "_law_found"]
theorem scW : FnScope nmW ["_law_script"] (defScope sLaw) := ⟨rfl, rfl, rfl, by decide +kernel, rfl, by decide +kernel, by decide +kernel⟩
theorem eqB_comm (d e : PyData) : eqB d e = eqB e d := by
  by_cases h : d = e
  · rw [h]
  · rw [eqB_false h, eqB_false fun z => h z.symm]
/-- one row of the last loop -/
def Rw (K : PySem.W.Frag) (H : Hp) (v : V) : Prop := ∃ (t : Addr) (l r : V) (dl dr : PyData), v = .ref t ∧ SqT K H t [l, r, .bl (eqB dl dr)] ∧ Dp K H l dl ∧ Dp K H r dr ∧ pl dl = true ∧ pl dr = true ∧ sz dl ≤ 4000000 ∧ sz dr ≤ 4000000
theorem Rw.ts {K : PySem.W.Frag} {H H1 : Hp} {v : V} (s : TS K H H1) (h : Rw K H v) : Rw K H1 v := by
  obtain ⟨t, l, r, dl, dr, e, ht, hl, hr, p1, p2, s1, s2⟩ := h
  exact ⟨t, l, r, dl, dr, e, s _ _ ht, s.dp _ _ p1 hl, s.dp _ _ p2 hr, p1, p2, s1, s2⟩
/-- from the two things on -/
def tRest (K : PySem.W.Frag) : L2.TS := fun D σ H => ∃ (a0 a1 a2 a3 a7 a8 a9 a10 a11 a12 a13 a14 : Option V) (x y : V) (d e : PyData) (m : Nat), σ = [a0, a1, a2, a3, some (.int m), some x, some y, a7, a8, a9, a10, a11, a12, a13, a14] ∧
  Dp K H x d ∧ Dp K H y e ∧ pl d = true ∧ pl e = true ∧ sz d ≤ 3000000 ∧ sz e ≤ 3000000 ∧ d.depth ≤ 8 ∧ m ≤ 250 ∧ ∀ H', D.rt (.bl true) H'
section
variable {P : Program} {w : World} {K : PySem.W.Frag} {mg : Str → Option Value} {base : Heap}
def spLaw (K : PySem.W.Frag) : Sp := fun vs H Q _ => ∃ (a : Addr) (ns : List Int), vs = [.ref a] ∧ SqL K H a (ns.map V.int) ∧ ns.length ≤ 63 ∧ ∀ H', Q (.bl true) H'
theorem ok_law {f : Addr} {fd : FuncData} (F : Fun K "law" "law" sLaw f fd) (CD : Cal P w K mg base "_law_deck" ["_law_script"] 1 (spDeck K)) (CP : Cal P w K mg base "_law_pick" ["_law_deck_here", "_law_many"] 1 spPick)
    (CT : Cal P w K mg base "_law_thing" psT 11 (spT K 9)) (CL : Cal P w K mg base "_law_places" ["_law_thing_here"] 1 (spPlaces K)) (CU : Cal P w K mg base "_law_set" psU 10 (spU K 9)) (CB : Cal P w K mg base "_law_beside" ["_law_deck_here", "_law_one"] 3 (spBeside K))
    (CA : Cal P w K mg base "_law_around" ["_law_thing_here", "_law_many"] 1 (spAround K)) (CM : Cal P w K mg base "_law_same" ["_law_one", "_law_other"] 1 (spEq K)) (CN : ∃ (f : Addr) (fd : FuncData), FnR P w K mg base (RD 260) f fd ["_law_thing_here"] (spN K 259) ∧ mg "_law_anew" = some (.ref f) ∧ PySem.W.keepIn K (.ref f) = true ∧ Binds K fd ["_law_thing_here"] []) (CK : Cal P w K mg base "alike" ["one", "other"] 1 (spEq K))
    (mi : mg "isinstance" = none) (ml : mg "len" = none) (mb : mg "bool" = none) (mint : mg "int" = none) : FnOk P w K mg base CX0 91 f fd ["_law_script"] (spLaw K) := by
  obtain ⟨fD, fdD, GD, gD, kD, bD⟩ := CD.ex
  obtain ⟨fP, fdP, GP, gP, kP, bP⟩ := CP.ex
  obtain ⟨fT, fdT, GT, gT, kT', bT⟩ := CT.ex
  obtain ⟨fL, fdL, GL, gL, kL, bL⟩ := CL.ex
  obtain ⟨fU, fdU, GU, gU, kU, bU⟩ := CU.ex
  obtain ⟨fB, fdB, GB, gB, kB', bB⟩ := CB.ex
  obtain ⟨fA, fdA, GA, gA, kA, bA⟩ := CA.ex
  obtain ⟨fM, fdM, GM, gM, kM, bM⟩ := CM.ex
  obtain ⟨fN, fdN, GN, gN, kN, bN⟩ := CN
  obtain ⟨fK, fdK, GK, gK, kK, bK⟩ := CK.ex
  refine F.ok scW (fun vs H Q E h => ?_) (fun cdv A outer s H vs Q E hr h => ?_)
  · obtain ⟨a, ns, rfl, _⟩ := h
    rfl
  · obtain ⟨a, ns, rfl, hS, hlen, q⟩ := h
    have rn : RD 260 (A.deeper (envOfC "law" (defScope sLaw) s.heap.objs.size f cdv)) := RD.of hr (by decide)
    have rm : ∀ {j : Nat}, j ≤ 90 → Room j (A.deeper (envOfC "law" (defScope sLaw) s.heap.objs.size f cdv)) := fun hj => hr.mono hj
    refine ⟨_, pss_cons (ps_set (i := 1) scW.nd rfl (.inl rfl) (pe_call GD (rm (by decide)) (by rfl) gD kD bD .nil pass0 (pa_cons (pv 0) pa_nil)))
      (pss_cons (ps_set (i := 2) scW.nd rfl (.inl rfl) (pe_call GP (rm (by decide)) (by rfl) gP kP bP .nil pass0 (pa_cons (pv 1) (pa_cons pe_int pa_nil))))
      (pss_cons (ps_set (i := 3) scW.nd rfl (.inl rfl) (pe_call GP (rm (by decide)) (by rfl) gP kP bP .nil pass0 (pa_cons (pv 1) (pa_cons pe_int pa_nil))))
      (pss_cons (ps_set (i := 4) scW.nd rfl (.inl rfl) (pe_op op_mul pe_int (pe_callTy call_int1 (by rfl) mint (by decide +kernel) (pa_cons (pe_cmpR op_eq (pe_call GP (rm (by decide)) (by rfl) gP kP bP .nil pass0 (pa_cons (pv 1) (pa_cons pe_int pa_nil))) pe_int (nomark _)) pa_nil))))
      (pss_cons (ps_set (i := 5) scW.nd rfl (.inl rfl) (pe_call GT (rm (by decide)) (by rfl) gT kT' bT .nil pass0 (pa_cons (pv 1) (pa_cons pe_int (pa_cons pe_int pa_nil)))))
      (pss_cons (ps_set (i := 6) scW.nd rfl (.inl rfl) (pe_call GT (rm (by decide)) (by rfl) gT kT' bT .nil pass0 (pa_cons (pv 1) (pa_cons pe_int (pa_cons pe_int pa_nil)))))
      (pss_cons (ps_if (pt_cmpR op_gt (pv 2) pe_int (nomark _))
        (pss_cons (ps_set (i := 7) scW.nd rfl (.inl rfl) (pe_call GL (rm (by decide)) (by rfl) gL kL bL .nil pass0 (pa_cons (pv 5) pa_nil)))
        (pss_cons (ps_asg (pe_ix ix_list (pv 7) (pe_op op_mod (pv 3) (pe_callB call_len_seq (by rfl) ml PySem.boot_len (pa_cons (pv 7) pa_nil))) (fun _ _ => rfl)) (pg_tup (by rfl) (pgs_cons (pg_name (i := 8) scW.nd rfl (.inl rfl)) (pgs_cons (pg_name (i := 9) scW.nd rfl (.inl rfl)) pgs_nil))))
        (pss_one (ps_set (i := 6) scW.nd rfl (.inl rfl) (pe_call GU (rm (by decide)) (by rfl) gU kU bU .nil pass0 (pa_cons (pv 5) (pa_cons (pv 8) (pa_cons
          (pe_ix ix_list (pe_lst (pa_cons (pv 9) (pa_cons (pe_call GB (rm (by decide)) (by rfl) gB kB' bB .nil pass0 (pa_cons (pv 1) (pa_cons (pv 9) pa_nil))) pa_nil))) (pe_callTy call_int1 (by rfl) mint (by decide +kernel) (pa_cons (pe_cmpR op_gt (pv 2) pe_int (nomark _)) pa_nil)) (fun _ _ => rfl)) pa_nil)))))))) pss_nil)
      (pss_weak (t' := tRest K) (pss_cons (ps_set (i := 5) scW.nd rfl (.inl rfl) (pe_call GA (rm (by decide)) (by rfl) gA kA bA .nil pass0 (pa_cons (pv 5) (pa_cons (pv 4) pa_nil))))
        (pss_cons (ps_set (i := 6) scW.nd rfl (.inl rfl) (pe_call GA (rm (by decide)) (by rfl) gA kA bA .nil pass0 (pa_cons (pv 6) (pa_cons (pv 4) pa_nil))))
        (pss_cons (ps_set (i := 10) scW.nd rfl (.inl rfl) (pe_call GM (rm (by decide)) (by rfl) gM kM bM .nil pass0 (pa_cons (pv 5) (pa_cons (pv 6) pa_nil))))
        (pss_cons (ps_for PassesOwn.never rfl (pi_list (pe_lst (pa_cons (pe_tup (pa_cons (pv 5) (pa_cons (pv 6) (pa_cons (pv 10) pa_nil)))) (pa_cons (pe_tup (pa_cons (pv 6) (pa_cons (pv 5) (pa_cons (pv 10) pa_nil))))
              (pa_cons (pe_tup (pa_cons (pv 5) (pa_cons (pe_callR GN rn (by rfl) gN kN bN (pa_cons (pv 5) pa_nil)) (pa_cons pe_bl pa_nil)))) (pa_cons (pe_tup (pa_cons (pv 6) (pa_cons (pv 6) (pa_cons pe_bl pa_nil)))) pa_nil))))))
            (pg_tup (by rfl) (pgs_cons (pg_name (i := 11) scW.nd rfl (.inl rfl)) (pgs_cons (pg_name (i := 12) scW.nd rfl (.inl rfl)) (pgs_cons (pg_name (i := 13) scW.nd rfl (.inl rfl)) pgs_nil))))
          (pss_cons (ps_set (i := 14) scW.nd rfl (.inl rfl) (pe_call GK (rm (by decide)) (by rfl) gK kK bK .nil pass0 (pa_cons (pv 11) (pa_cons (pv 12) pa_nil))))
          (pss_one (ps_if (PW.pt (pw_or (pt_not (pt_val (pe_callB call_isi (by rfl) mi (by decide +kernel) (pa_cons (pv 14) (pa_cons (pe_bltn (v := .ty "bool") (by rfl) mb (show bootBuiltins "bool" = some (.type "bool") by decide +kernel) rfl) pa_nil))))) (pw_or1 (pt_cmpR op_ne (pv 14) (pv 13) (nomark _))))) (pss_one (ps_ret pe_bl)) pss_nil))))
        (pss_one (ps_ret pe_bl)))))) ?rest))))))), ?_⟩
    case rest =>
      intro D σ H0 hh
      obtain ⟨a0, a1, a2, a3, a7, a8, a9, a10, a11, a12, a13, a14, x, y, d, e, m, rfl, hx, hy, pd, pe, sd, se, dd, hm, q⟩ := hh
      have pwd : pl (wrap m d) = true := by rw [wrap_pl]; exact pd
      have pwe : pl (wrap m e) = true := by rw [wrap_pl]; exact pe
      have swd : sz (wrap m d) ≤ 4000000 := by rw [wrap_sz]; omega
      have swe : sz (wrap m e) ≤ 4000000 := by rw [wrap_sz]; omega
      refine ⟨x, rfl, .int m, rfl, x, d, m, rfl, hx, pd, hm, fun x1 H1 s1 hx1 => ?_⟩
      refine ⟨y, rfl, .int m, rfl, y, e, m, rfl, (ts_same s1).dp _ _ pe hy, pe, hm, fun y1 H2 s2 hy1 => ?_⟩
      have hx2 : Dp K H2 x1 (wrap m d) := (ts_same s2).dp _ _ pwd hx1
      refine ⟨x1, rfl, y1, rfl, x1, y1, wrap m d, wrap m e, rfl, hx2, hy1, pwd, pwe, swd, swe, fun H3 s3 => ?_⟩
      have hx3 : Dp K H3 x1 (wrap m d) := (ts_same s3).dp _ _ pwd hx2
      have hy3 : Dp K H3 y1 (wrap m e) := (ts_same s3).dp _ _ pwe hy1
      generalize hdue : eqB (wrap m d) (wrap m e) = due
      refine ⟨x1, rfl, y1, rfl, .bl due, rfl, (by show 3 ≤ sizeLine; decide), fun t1 n1 => ?_⟩
      have r1 : Rw K (upd H3 t1 (.tup [x1, y1, .bl due])) (.ref t1) := ⟨t1, x1, y1, wrap m d, wrap m e, rfl, by rw [hdue]; exact .inl (.inl upd_same), (ts_new n1).dp _ _ pwd hx3, (ts_new n1).dp _ _ pwe hy3, pwd, pwe, swd, swe⟩
      have g1 : Same H3 (upd H3 t1 (.tup [x1, y1, .bl due])) := same_upd n1
      generalize hH4 : upd H3 t1 (HO.tup [x1, y1, .bl due]) = H4 at r1 g1 ⊢
      have hx4 : Dp K H4 x1 (wrap m d) := (ts_same g1).dp _ _ pwd hx3
      have hy4 : Dp K H4 y1 (wrap m e) := (ts_same g1).dp _ _ pwe hy3
      refine ⟨y1, rfl, x1, rfl, .bl due, rfl, (by show 3 ≤ sizeLine; decide), fun t2 n2 => ?_⟩
      have r2 : Rw K (upd H4 t2 (.tup [y1, x1, .bl due])) (.ref t2) := ⟨t2, y1, x1, wrap m e, wrap m d, rfl, by rw [eqB_comm, hdue]; exact .inl (.inl upd_same), (ts_new n2).dp _ _ pwe hy4, (ts_new n2).dp _ _ pwd hx4, pwe, pwd, swe, swd⟩
      have g2 : Same H4 (upd H4 t2 (.tup [y1, x1, .bl due])) := same_upd n2
      generalize hH5 : upd H4 t2 (HO.tup [y1, x1, .bl due]) = H5 at r2 g2 ⊢
      have hx5 : Dp K H5 x1 (wrap m d) := (ts_same g2).dp _ _ pwd hx4
      have hy5 : Dp K H5 y1 (wrap m e) := (ts_same g2).dp _ _ pwe hy4
      refine ⟨x1, rfl, x1, rfl, x1, wrap m d, rfl, hx5, pwd, ?_, swd, fun x2 H6 g3 hx6 => ?_⟩
      · rw [wrap_depth]
        exact (by omega : d.depth + m ≤ 258)
      refine ⟨(by show 3 ≤ sizeLine; decide), fun t3 n3 => ?_⟩
      have hx6' : Dp K H6 x1 (wrap m d) := (ts_same g3).dp _ _ pwd hx5
      have r3 : Rw K (upd H6 t3 (.tup [x1, x2, .bl true])) (.ref t3) := ⟨t3, x1, x2, wrap m d, wrap m d, rfl, by rw [eqB_true rfl]; exact .inl (.inl upd_same), (ts_new n3).dp _ _ pwd hx6', (ts_new n3).dp _ _ pwd hx6, pwd, pwd, swd, swd⟩
      have g4 : Same H6 (upd H6 t3 (.tup [x1, x2, .bl true])) := same_upd n3
      generalize hH7 : upd H6 t3 (HO.tup [x1, x2, .bl true]) = H7 at r3 g4 ⊢
      have hy7 : Dp K H7 y1 (wrap m e) := (ts_same (g3.trans g4)).dp _ _ pwe hy5
      refine ⟨y1, rfl, y1, rfl, (by show 3 ≤ sizeLine; decide), fun t4 n4 => ?_⟩
      have r4 : Rw K (upd H7 t4 (.tup [y1, y1, .bl true])) (.ref t4) := ⟨t4, y1, y1, wrap m e, wrap m e, rfl, by rw [eqB_true rfl]; exact .inl (.inl upd_same), (ts_new n4).dp _ _ pwe hy7, (ts_new n4).dp _ _ pwe hy7, pwe, pwe, swe, swe⟩
      have g5 : Same H7 (upd H7 t4 (.tup [y1, y1, .bl true])) := same_upd n4
      generalize hH8 : upd H7 t4 (HO.tup [y1, y1, .bl true]) = H8 at r4 g5 ⊢
      refine ⟨(by show 4 ≤ sizeLine; decide), fun l nl => ?_⟩
      have g6 : Same H8 (upd H8 l (.lst [.ref t1, .ref t2, .ref t3, .ref t4])) := same_upd nl
      have c9 : (upd H8 l (.lst [.ref t1, .ref t2, .ref t3, .ref t4])) l = some (.lst [.ref t1, .ref t2, .ref t3, .ref t4]) := upd_same
      generalize hH9 : upd H8 l (HO.lst [.ref t1, .ref t2, .ref t3, .ref t4]) = H9 at g6 c9 ⊢
      have rows : ∀ v ∈ [V.ref t1, V.ref t2, V.ref t3, V.ref t4], Rw K H9 v := fun v hv => by
        have hv' : v = .ref t1 ∨ v = .ref t2 ∨ v = .ref t3 ∨ v = .ref t4 := by simpa using hv
        rcases hv' with z | z | z | z
        · rw [z]; exact r1.ts (ts_same (g2.trans (g3.trans (g4.trans (g5.trans g6)))))
        · rw [z]; exact r2.ts (ts_same (g3.trans (g4.trans (g5.trans g6))))
        · rw [z]; exact r3.ts (ts_same (g5.trans g6))
        · rw [z]; exact r4.ts (ts_same g6)
      refine ⟨l, rfl, ⟨_, .inl (.inl c9)⟩, for_list (xs := [.ref t1, .ref t2, .ref t3, .ref t4]) (fun i σ H' => ∃ b11 b12 b13 b14, σ = [a0, a1, a2, a3, some (.int m), some x1, some y1, a7, a8, a9, some (.bl due), b11, b12, b13, b14] ∧ Same H9 H') ⟨_, _, _, _, rfl, Same.refl _⟩ (fun i σ H' _ hp => ?_) (fun i v σ H' hv hp => ?_) (fun σ H' hp => ?_)⟩
      · obtain ⟨_, _, _, _, _, sm⟩ := hp
        exact .inl (.inl (sm _ _ c9))
      · obtain ⟨b11, b12, b13, b14, rfl, sm⟩ := hp
        obtain ⟨t, lv, rv, dl, dr, rfl, ht, hl, hr', p1, p2, z1, z2⟩ := (rows v (List.mem_of_getElem? hv)).ts (ts_same sm)
        refine ⟨t, _, rfl, ht, rfl, lv, _, rfl, rv, _, rfl, _, _, rfl, rfl, ?_⟩
        refine ⟨lv, rfl, rv, rfl, lv, rv, dl, dr, rfl, hl, hr', p1, p2, z1, z2, fun H10 s10 => ?_⟩
        refine ⟨_, rfl, _, _, _, _, true, rfl, .ty "bool", .base (.bl _), kit_ty (by decide +kernel), true, rfl, ?_⟩
        refine iteF ?_
        refine ⟨_, rfl, _, rfl, rfl, _, rfl, iteNS rfl ?_⟩
        exact ⟨_, _, _, _, rfl, sm.trans s10⟩
      · exact q H'
    refine ⟨.ref a, rfl, a, ns, rfl, hS, hlen, fun dk cl lf H1 D1 s1 _ _ => ?_⟩
    refine ⟨.ref dk, rfl, dk, cl, lf, 4, rfl, D1, by decide, by decide +kernel, fun change H2 c0 c1 D2 k2 => ?_⟩
    refine ⟨.ref dk, rfl, dk, cl, lf, 1000, rfl, D2, by decide, by decide +kernel, fun wh H3 w0 w1 D3 k3 => ?_⟩
    refine ⟨.ref dk, rfl, dk, cl, lf, 8, rfl, D3, by decide, by decide +kernel, fun ar H4 _ _ D4 k4 => ?_⟩
    obtain ⟨m, hm, hm2⟩ : ∃ m : Nat, (250 : Int) * (if decide (V.int ar = V.int 0) = true then 1 else 0) = (m : Int) ∧ m ≤ 250 := by
      by_cases z : decide (V.int ar = V.int 0) = true
      · rw [if_pos z]; exact ⟨250, by decide, by omega⟩
      · rw [if_neg z]; exact ⟨0, by decide, by omega⟩
    refine ⟨rfl, .inr ⟨_, rfl, _, _, rfl, rfl, .inl ⟨by decide, by decide⟩, ?_⟩⟩
    dsimp only
    rw [hm]
    have hB : B 8 = 873813 := by decide +kernel
    refine ⟨.ref dk, rfl, dk, cl, lf, 8, 40, rfl, D4, by decide, by decide, fun x d H5 D5 k5 hx pd sd dd => ?_⟩
    refine ⟨.ref dk, rfl, dk, cl, lf, 8, 40, rfl, D5, by decide, by decide, fun y e H6 D6 k6 hy pe se de => ?_⟩
    rw [hB] at sd se
    have hx6 : Dp K H6 x d := (D5.ts k6).dp _ _ pd hx
    refine ⟨.int change, rfl, _, _, rfl, rfl, _, rfl, ite2 (fun c => ?_) (fun c => ?_)⟩
    · refine ⟨x, rfl, x, d, rfl, hx6, pd, by omega, fun p H7 fs gs s7 np hp hen hne => ?_⟩
      have t7 : TS K H6 H7 := ts_same s7
      have hfl : 0 < fs.length := List.length_pos_iff.mpr hne
      obtain ⟨j, hj, ej⟩ : ∃ j : Nat, j < fs.length ∧ wh % ((fs.length : Nat) : Int) = (j : Int) := by
        have hb := emod_bounds wh (m := ((fs.length : Nat) : Int)) (by omega)
        exact ⟨(wh % (fs.length : Int)).toNat, by omega, by omega⟩
      have gj : fs[j]? = some fs[j] := List.getElem?_eq_getElem hj
      obtain ⟨gq, gg, t, pa, held, et, ht, hpa, hheld, ph, hat⟩ := LiP.paired_get' hen gj
      obtain ⟨pth, dh⟩ := gq
      dsimp only at hpa hheld ph hat
      have hdp := at_depth hat
      have hsz := at_sz hat
      refine ⟨.ref p, rfl, .int wh, rfl, .ref p, rfl, p, _, rfl, .inl (.inl (.inl hp)), _, _, rfl, rfl, (by show (0 : Int) < ((fs.length : Nat) : Int); omega), p, fs, _, _, rfl, rfl, .inl (.inl hp), atI_of2 ej gj, ?_⟩
      refine ⟨t, [.ref pa, held], et, ht, rfl, .ref pa, [held], rfl, held, [], rfl, rfl, ?_⟩
      have D7 : Dk H7 dk cl lf := D6.same s7
      refine ⟨x, rfl, .ref pa, rfl, held, rfl, .ref dk, rfl, held, rfl, dk, cl, lf, held, dh, rfl, D7, hheld, ph, by omega, fun bv bd H8 D8 k8 hb pb sb db => ?_⟩
      have t8 : TS K H7 H8 := D7.ts k8
      refine ⟨(by show 2 ≤ sizeLine; decide), fun ll nll => ?_⟩
      have s9 : Same H8 (upd H8 ll (.lst [held, bv])) := same_upd nll
      have c9 : (upd H8 ll (.lst [held, bv])) ll = some (.lst [held, bv]) := upd_same
      generalize hH9 : upd H8 ll (HO.lst [held, bv]) = H9 at s9 c9 ⊢
      have t9 : TS K H8 H9 := ts_same s9
      have hheld9 : Dp K H9 held dh := (t8.trans t9).dp _ _ ph hheld
      have hb9 : Dp K H9 bv bd := t9.dp _ _ pb hb
      obtain ⟨nv, nd, hnv, hnd, pnd, snd', dnd⟩ : ∃ nv nd, atI [held, bv] (if decide (1 < change) = true then 1 else 0) = some nv ∧ Dp K H9 nv nd ∧ pl nd = true ∧ sz nd ≤ sz dh + 20 ∧ nd.depth ≤ dh.depth + 1 := by
        by_cases z : decide (1 < change) = true
        · rw [if_pos z]; exact ⟨bv, bd, rfl, hb9, pb, sb, db⟩
        · rw [if_neg z]; exact ⟨held, dh, rfl, hheld9, ph, by omega, by omega⟩
      refine ⟨.int change, rfl, _, _, rfl, rfl, .inr ⟨_, rfl, ll, _, _, nv, rfl, rfl, .inl (.inl c9), hnv, ?_⟩⟩
      refine ⟨x, d, pa, pth, dh, nv, nd, rfl, (t7.trans (t8.trans t9)).dp _ _ pd hx6, pd, (t8.trans t9) _ _ hpa, hat, hnd, pnd, by omega, by omega, by omega, fun v' d' H10 s10 hv' pv' sv' dv' => ?_⟩
      refine ⟨_, _, _, _, _, _, _, _, _, _, _, _, x, v', d, d', m, rfl, (t7.trans (t8.trans (t9.trans (ts_same s10)))).dp _ _ pd hx6, hv', pd, pv', by omega, by omega, dd, hm2, q⟩
    · exact ⟨_, _, _, _, _, _, _, _, _, _, _, _, x, y, d, e, m, rfl, hx6, hy, pd, pe, by omega, by omega, dd, hm2, q⟩
end
end K1
namespace K1
open PySem PySem.Spec PyProof.Rows L2
/-! ### what the top has written -/
theorem all_mk {l : PySem.W.OpenLaw} {w : World} {K : PySem.W.Frag} {h : Heap} {mg : Str → Option Value} {fa f1 f2 f3 f4 f5 f6 f7 f8 f9 f10 f11 f12 : Addr} (X : K.In h) (G : h.Ns mainGlobals mg) (hfa : mg "law" = some (.ref fa))
    {od1 an1 od2 an2 od3 an3 od4 an4 od5 an5 od6 an6 od7 an7 od8 an8 od9 an9 od10 an10 od11 an11 od12 an12 : Option Addr} {sl1 sl2 sl3 sl4 sl5 sl6 sl7 sl8 sl9 sl10 sl11 sl12 : Array (Option Value)} {oc1 kV1 dc1 pm1 cd1 ct1 oc2 kV2 dc2 pm2 cd2 ct2 oc3 kV3 dc3 pm3 cd3 ct3 oc4 kV4 dc4 pm4 cd4 ct4 oc5 kV5 dc5 pm5 cd5 ct5 oc6 kV6 dc6 pm6 cd6 ct6 oc7 kV7 dc7 pm7 cd7 ct7 oc8 kV8 dc8 pm8 cd8 ct8 oc9 kV9 dc9 pm9 cd9 ct9 oc10 kV10 dc10 pm10 cd10 ct10 oc11 kV11 dc11 pm11 cd11 ct11 oc12 kV12 dc12 pm12 cd12 ct12 : Value}
    (a1 : PySem.W.nsIn K mainGlobals "alike" = some (some (.ref f1))) (l1 : K.lookup f1 = some ⟨oc1, od1, .func (PySem.W.fnOf "alike" "alike" (defArgs sAlike) (defBody sAlike) (defScope sAlike) .none kV1 dc1 pm1 an1 cd1 ct1), sl1⟩) (c1 : PySem.W.codeIn K cd1 "alike" = true) (k1 : PySem.W.keepIn K (.ref f1) = true)
    (a2 : PySem.W.nsIn K mainGlobals "_law_deck" = some (some (.ref f2))) (l2 : K.lookup f2 = some ⟨oc2, od2, .func (PySem.W.fnOf "_law_deck" "_law_deck" (defArgs sDeck) (defBody sDeck) (defScope sDeck) .none kV2 dc2 pm2 an2 cd2 ct2), sl2⟩) (c2 : PySem.W.codeIn K cd2 "_law_deck" = true) (k2 : PySem.W.keepIn K (.ref f2) = true)
    (a3 : PySem.W.nsIn K mainGlobals "_law_pick" = some (some (.ref f3))) (l3 : K.lookup f3 = some ⟨oc3, od3, .func (PySem.W.fnOf "_law_pick" "_law_pick" (defArgs sPick) (defBody sPick) (defScope sPick) .none kV3 dc3 pm3 an3 cd3 ct3), sl3⟩) (c3 : PySem.W.codeIn K cd3 "_law_pick" = true) (k3 : PySem.W.keepIn K (.ref f3) = true)
    (a4 : PySem.W.nsIn K mainGlobals "_law_same" = some (some (.ref f4))) (l4 : K.lookup f4 = some ⟨oc4, od4, .func (PySem.W.fnOf "_law_same" "_law_same" (defArgs sSame) (defBody sSame) (defScope sSame) .none kV4 dc4 pm4 an4 cd4 ct4), sl4⟩) (c4 : PySem.W.codeIn K cd4 "_law_same" = true) (k4 : PySem.W.keepIn K (.ref f4) = true)
    (a5 : PySem.W.nsIn K mainGlobals "_law_simple" = some (some (.ref f5))) (l5 : K.lookup f5 = some ⟨oc5, od5, .func (PySem.W.fnOf "_law_simple" "_law_simple" (defArgs sSimple) (defBody sSimple) (defScope sSimple) .none kV5 dc5 pm5 an5 cd5 ct5), sl5⟩) (c5 : PySem.W.codeIn K cd5 "_law_simple" = true) (k5 : PySem.W.keepIn K (.ref f5) = true)
    (a6 : PySem.W.nsIn K mainGlobals "_law_thing" = some (some (.ref f6))) (l6 : K.lookup f6 = some ⟨oc6, od6, .func (PySem.W.fnOf "_law_thing" "_law_thing" (defArgs sThing) (defBody sThing) (defScope sThing) .none kV6 dc6 pm6 an6 cd6 ct6), sl6⟩) (c6 : PySem.W.codeIn K cd6 "_law_thing" = true) (k6 : PySem.W.keepIn K (.ref f6) = true)
    (a7 : PySem.W.nsIn K mainGlobals "_law_places" = some (some (.ref f7))) (l7 : K.lookup f7 = some ⟨oc7, od7, .func (PySem.W.fnOf "_law_places" "_law_places" (defArgs sPlaces) (defBody sPlaces) (defScope sPlaces) .none kV7 dc7 pm7 an7 cd7 ct7), sl7⟩) (c7 : PySem.W.codeIn K cd7 "_law_places" = true) (k7 : PySem.W.keepIn K (.ref f7) = true)
    (a8 : PySem.W.nsIn K mainGlobals "_law_set" = some (some (.ref f8))) (l8 : K.lookup f8 = some ⟨oc8, od8, .func (PySem.W.fnOf "_law_set" "_law_set" (defArgs sSet) (defBody sSet) (defScope sSet) .none kV8 dc8 pm8 an8 cd8 ct8), sl8⟩) (c8 : PySem.W.codeIn K cd8 "_law_set" = true) (k8 : PySem.W.keepIn K (.ref f8) = true)
    (a9 : PySem.W.nsIn K mainGlobals "_law_beside" = some (some (.ref f9))) (l9 : K.lookup f9 = some ⟨oc9, od9, .func (PySem.W.fnOf "_law_beside" "_law_beside" (defArgs sBeside) (defBody sBeside) (defScope sBeside) .none kV9 dc9 pm9 an9 cd9 ct9), sl9⟩) (c9 : PySem.W.codeIn K cd9 "_law_beside" = true) (k9 : PySem.W.keepIn K (.ref f9) = true)
    (a10 : PySem.W.nsIn K mainGlobals "_law_around" = some (some (.ref f10))) (l10 : K.lookup f10 = some ⟨oc10, od10, .func (PySem.W.fnOf "_law_around" "_law_around" (defArgs sAround) (defBody sAround) (defScope sAround) .none kV10 dc10 pm10 an10 cd10 ct10), sl10⟩) (c10 : PySem.W.codeIn K cd10 "_law_around" = true) (k10 : PySem.W.keepIn K (.ref f10) = true)
    (a11 : PySem.W.nsIn K mainGlobals "_law_anew" = some (some (.ref f11))) (l11 : K.lookup f11 = some ⟨oc11, od11, .func (PySem.W.fnOf "_law_anew" "_law_anew" (defArgs sAnew) (defBody sAnew) (defScope sAnew) .none kV11 dc11 pm11 an11 cd11 ct11), sl11⟩) (c11 : PySem.W.codeIn K cd11 "_law_anew" = true) (k11 : PySem.W.keepIn K (.ref f11) = true)
    (a12 : PySem.W.nsIn K mainGlobals "law" = some (some (.ref f12))) (l12 : K.lookup f12 = some ⟨oc12, od12, .func (PySem.W.fnOf "law" "law" (defArgs sLaw) (defBody sLaw) (defScope sLaw) .none kV12 dc12 pm12 an12 cd12 ct12), sl12⟩) (c12 : PySem.W.codeIn K cd12 "law" = true) (k12 : PySem.W.keepIn K (.ref f12) = true)
    (z1 : PySem.W.nsIn K mainGlobals "len" = some none) (z2 : PySem.W.nsIn K mainGlobals "zip" = some none) (z3 : PySem.W.nsIn K mainGlobals "isinstance" = some none) (z4 : PySem.W.nsIn K mainGlobals "tuple" = some none) (z5 : PySem.W.nsIn K mainGlobals "list" = some none) (z6 : PySem.W.nsIn K mainGlobals "bool" = some none) (z7 : PySem.W.nsIn K mainGlobals "range" = some none) (z8 : PySem.W.nsIn K mainGlobals "min" = some none) (z9 : PySem.W.nsIn K mainGlobals "int" = some none) (z10 : PySem.W.nsIn K mainGlobals "str" = some none) :
    ∃ fd : FuncData, (∀ (s : Shared) (v : Value), BindsTo s fd ⟨[v], []⟩ [("_law_script", v)]) ∧ ∀ base : Heap, K.In base → base.Ns mainGlobals mg → FnOk l.prog w K mg base CX0 91 fa fd ["_law_script"] (spLaw K) := by
  have e := hfa.symm.trans (PySem.W.mg_of X G a12)
  cases e
  have F1 := fun_mk (st := sAlike) l1 c1 k1
  have F2 := fun_mk (st := sDeck) l2 c2 k2
  have F3 := fun_mk (st := sPick) l3 c3 k3
  have F4 := fun_mk (st := sSame) l4 c4 k4
  have F5 := fun_mk (st := sSimple) l5 c5 k5
  have F6 := fun_mk (st := sThing) l6 c6 k6
  have F7 := fun_mk (st := sPlaces) l7 c7 k7
  have F8 := fun_mk (st := sSet) l8 c8 k8
  have F9 := fun_mk (st := sBeside) l9 c9 k9
  have F10 := fun_mk (st := sAround) l10 c10 k10
  have F11 := fun_mk (st := sAnew) l11 c11 k11
  have F12 := fun_mk (st := sLaw) l12 c12 k12
  have b1 := F1.binds (ps := ["one", "other"]) fun _ _ _ _ _ _ us hl => match us, hl with | [_, _], _ => rfl
  have g1 := PySem.W.mg_of X G a1
  have b2 := F2.binds (ps := ["_law_script"]) fun _ _ _ _ _ _ us hl => match us, hl with | [_], _ => rfl
  have g2 := PySem.W.mg_of X G a2
  have b3 := F3.binds (ps := ["_law_deck_here", "_law_many"]) fun _ _ _ _ _ _ us hl => match us, hl with | [_, _], _ => rfl
  have g3 := PySem.W.mg_of X G a3
  have b4 := F4.binds (ps := ["_law_one", "_law_other"]) fun _ _ _ _ _ _ us hl => match us, hl with | [_, _], _ => rfl
  have g4 := PySem.W.mg_of X G a4
  have b5 := F5.binds (ps := ["_law_deck_here"]) fun _ _ _ _ _ _ us hl => match us, hl with | [_], _ => rfl
  have g5 := PySem.W.mg_of X G a5
  have b6 := F6.binds (ps := psT) fun _ _ _ _ _ _ us hl => match us, hl with | [_, _, _], _ => rfl
  have g6 := PySem.W.mg_of X G a6
  have b7 := F7.binds (ps := ["_law_thing_here"]) fun _ _ _ _ _ _ us hl => match us, hl with | [_], _ => rfl
  have g7 := PySem.W.mg_of X G a7
  have b8 := F8.binds (ps := psU) fun _ _ _ _ _ _ us hl => match us, hl with | [_, _, _], _ => rfl
  have g8 := PySem.W.mg_of X G a8
  have b9 := F9.binds (ps := ["_law_deck_here", "_law_one"]) fun _ _ _ _ _ _ us hl => match us, hl with | [_, _], _ => rfl
  have g9 := PySem.W.mg_of X G a9
  have b10 := F10.binds (ps := ["_law_thing_here", "_law_many"]) fun _ _ _ _ _ _ us hl => match us, hl with | [_, _], _ => rfl
  have g10 := PySem.W.mg_of X G a10
  have b11 := F11.binds (ps := ["_law_thing_here"]) fun _ _ _ _ _ _ us hl => match us, hl with | [_], _ => rfl
  have g11 := PySem.W.mg_of X G a11
  have m1 := PySem.W.mg_none_of X G z1
  have m2 := PySem.W.mg_none_of X G z2
  have m3 := PySem.W.mg_none_of X G z3
  have m4 := PySem.W.mg_none_of X G z4
  have m5 := PySem.W.mg_none_of X G z5
  have m6 := PySem.W.mg_none_of X G z6
  have m7 := PySem.W.mg_none_of X G z7
  have m8 := PySem.W.mg_none_of X G z8
  have m9 := PySem.W.mg_none_of X G z9
  have m10 := PySem.W.mg_none_of X G z10
  refine ⟨PySem.W.fnOf "law" "law" (defArgs sLaw) (defBody sLaw) (defScope sLaw) .none kV12 dc12 pm12 an12 cd12 ct12, fun s v => .of_eq rfl, fun base _ _ => ?_⟩
  have CP : Cal l.prog w K mg base "_law_pick" ["_law_deck_here", "_law_many"] 1 spPick := ⟨_, _, ok_pick F3 m1, g3, k3, b3⟩
  have CD : Cal l.prog w K mg base "_law_deck" ["_law_script"] 1 (spDeck K) := ⟨_, _, ok_deck F2 m1 m9 m5, g2, k2, b2⟩
  have CS : Cal l.prog w K mg base "_law_simple" ["_law_deck_here"] 2 (spSimple K) := ⟨_, _, ok_simple F5 CP m7, g5, k5, b5⟩
  have CT : Cal l.prog w K mg base "_law_thing" psT 11 (spT K 9) := ⟨_, _, ok_thing F6 g6 b6 CP CS m7 m8 m4 9, g6, k6, b6⟩
  have CL : Cal l.prog w K mg base "_law_places" ["_law_thing_here"] 1 (spPlaces K) := ⟨_, _, ok_places F7 m3 m4 m1 m7, g7, k7, b7⟩
  have CU : Cal l.prog w K mg base "_law_set" psU 10 (spU K 9) := ⟨_, _, ok_set F8 g8 b8 9, g8, k8, b8⟩
  have CB : Cal l.prog w K mg base "_law_beside" ["_law_deck_here", "_law_one"] 3 (spBeside K) := ⟨_, _, ok_beside F9 CP CS m3 m4 m1 m6 m9 m10, g9, k9, b9⟩
  have CA : Cal l.prog w K mg base "_law_around" ["_law_thing_here", "_law_many"] 1 (spAround K) := ⟨_, _, ok_around F10 m7, g10, k10, b10⟩
  have CM : Cal l.prog w K mg base "_law_same" ["_law_one", "_law_other"] 1 (spEq K) := ⟨_, _, ok_same F4 m3 m4 m1 m7 m6 m10, g4, k4, b4⟩
  have CN : ∃ (f : Addr) (fd : FuncData), FnR l.prog w K mg base (RD 260) f fd ["_law_thing_here"] (spN K 259) ∧ mg "_law_anew" = some (.ref f) ∧ PySem.W.keepIn K (.ref f) = true ∧ Binds K fd ["_law_thing_here"] [] := ⟨_, _, ok_anew F11 g11 b11 m3 m4 259, g11, k11, b11⟩
  have CK : Cal l.prog w K mg base "alike" ["one", "other"] 1 (spEq K) := ⟨_, _, ok_alike F1 m3 m4 m1 m5 m2 m6, g1, k1, b1⟩
  exact ok_law F12 CD CP CT CL CU CB CA CM CN CK m3 m1 m6 m9
end K1
open PySem PySem.W PyProof.Rows
set_option maxHeartbeats 0 in
theorem PySem.Challenge.cw_packedforms_k01_alike_or_not_holds : PySem.Challenge.rw_packedforms_k01_alike_or_not.Holds := by
  w_on; o_law; k_head; (case hw => w_witness2)
  k_fill
  refine L2.walk_of (l := PySem.Challenge.rw_packedforms_k01_alike_or_not) (n := 63) (k := 91) (x := "_law_script") (CX := fun _ => L2.CX0) (sp := fun w => K1.spLaw _) rfl (by decide) rfl ⟨rfl, by decide, by decide⟩ (fun w h Y => PySem.W.kIn_of Y) ?F (fun _ _ a ns hl _ hS => ⟨a, ns, rfl, hS, hl, fun _ => rfl⟩) (fun _ _ _ _ _ h => h)
  case F =>
    intro w mg fa h KX G hmg
    refine' K1.all_mk KX G hmg ?a1 ?l1 ?c1 ?k1 ?a2 ?l2 ?c2 ?k2 ?a3 ?l3 ?c3 ?k3 ?a4 ?l4 ?c4 ?k4 ?a5 ?l5 ?c5 ?k5 ?a6 ?l6 ?c6 ?k6 ?a7 ?l7 ?c7 ?k7 ?a8 ?l8 ?c8 ?k8 ?a9 ?l9 ?c9 ?k9 ?a10 ?l10 ?c10 ?k10 ?a11 ?l11 ?c11 ?k11 ?a12 ?l12 ?c12 ?k12 ?z1 ?z2 ?z3 ?z4 ?z5 ?z6 ?z7 ?z8 ?z9 ?z10
    (case a1 => k_is); (case l1 => k_is); (case c1 => k_is); (case k1 => k_is); (case a2 => k_is); (case l2 => k_is); (case c2 => k_is); (case k2 => k_is); (case a3 => k_is); (case l3 => k_is); (case c3 => k_is); (case k3 => k_is); (case a4 => k_is); (case l4 => k_is); (case c4 => k_is); (case k4 => k_is); (case a5 => k_is); (case l5 => k_is); (case c5 => k_is); (case k5 => k_is); (case a6 => k_is); (case l6 => k_is); (case c6 => k_is); (case k6 => k_is); (case a7 => k_is); (case l7 => k_is); (case c7 => k_is); (case k7 => k_is); (case a8 => k_is); (case l8 => k_is); (case c8 => k_is); (case k8 => k_is); (case a9 => k_is); (case l9 => k_is); (case c9 => k_is); (case k9 => k_is); (case a10 => k_is); (case l10 => k_is); (case c10 => k_is); (case k10 => k_is); (case a11 => k_is); (case l11 => k_is); (case c11 => k_is); (case k11 => k_is); (case a12 => k_is); (case l12 => k_is); (case c12 => k_is); (case k12 => k_is); (case z1 => k_is); (case z2 => k_is); (case z3 => k_is); (case z4 => k_is); (case z5 => k_is); (case z6 => k_is); (case z7 => k_is); (case z8 => k_is); (case z9 => k_is); (case z10 => k_is)
