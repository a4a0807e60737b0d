/-
  The state of a walk: a store into a block in the midst of the list; loads of configurations.
-/
import Derived.Test.YthiljpbodmajaaaGreatNotb
import Derived.Deep.RegionHeld
namespace Go.Proofs.YthiljpbodmajaaaGreat
open Go.RowKit Plain
set_option linter.unusedVariables false
theorem St.setAt {L1 L2 : List (Nat × Array Value × TypeId)} {w w1 : World} {K : Nat} {cs : Array Value} {t : TypeId} (h : St (L1 ++ (K, cs, t) :: L2) w w1) (hw : w.heap.size ≤ K) (hd : ∀ x ∈ L1 ++ L2, x.1 ≠ K) (i : Nat) (u : Value) : St (L1 ++ (K, cs.setIfInBounds i u, t) :: L2) w (w1.setCell ⟨K, i, none⟩ u) := by
  refine ⟨h.1.setCell hw u, fun x hx => ?_⟩
  have other : x ∈ L1 ++ L2 → (w1.setCell ⟨K, i, none⟩ u).heap[x.1]? = some (.cells x.2.1 x.2.2 (0, 0)) := fun hm =>
    (Below.heap_setCell w1 _ _ _ (hd x hm)).trans (h.2 x (by
      rcases List.mem_append.1 hm with e | e
      · exact List.mem_append_left _ e
      · exact List.mem_append_right _ (List.mem_cons_of_mem _ e)))
  rcases List.mem_append.1 hx with e | e
  · exact other (List.mem_append_left _ e)
  · rcases List.mem_cons.1 e with e | e
    · subst e
      exact heap_setCell_same u (h.2 (K, cs, t) (by simp))
    · exact other (List.mem_append_right _ e)
theorem yields_cf {ops : Array Oper} {S : World → Prop} {op : Oper} {a : Act} (hw : Region.wanted op (yielded ops a.tmps) = true) {x : Operand} (ho : op.op = .load 28 x) (b : Nat) (hx : a.eval x = .pointer (some ⟨b, 0, none⟩)) (vs : List Value) (hl : vs.length = 12) (hS : ∀ w, S w → ∃ t, w.heap[b]? = some (.cells vs.toArray t (0, 0))) : YieldsIf Tryz.prog ops S op (.agg vs.toArray) a := by
  obtain ⟨i, hi, hz, hs⟩ := info_two info_cf
  exact yieldsIf_load_mid hw _ x ho b 0 hx vs _ (fun w h => by obtain ⟨t, hB⟩ := hS w h; exact fun j v hv => by rw [Nat.zero_add, cell_of_row w b j _ _ _ hB]; simpa using hv) Tryz.underlying28 rfl (by simp [hi, hs, hl])
section
variable {P : Program} {Q : Exit → Act → World → Prop} {md : Region.Mode} {S : World → Prop} {ops : List Oper} {i : Nat} {o : Oper} {v : Value} {fuel : Nat} {listed : Array Bool} {a : Act} {w : World}
/-- take number i first; the operation is found in the LIST, so that it stands written out -/
theorem takeL (hi : ops[i]? = some o) (hs : Region.noSelect ops.toArray = true) (hf : Region.free md ops.toArray listed i = true) (hr : (Region.ready md ops.toArray listed).contains i = true)
    (hQ : ∀ c a w, Q (.panic c) (a.put o.dst v) w → Q (.panic c) a w) (hy : YieldsIf P ops.toArray S o v a) (hS : S w)
    (h : wpAnyH P md ops.toArray Q S fuel (listed.setIfInBounds i true) (a.put o.dst v) w) : wpAnyH P md ops.toArray Q S (fuel + 1) listed a w :=
  wpAnyH_take (by simpa using hi) hs hf hr hQ hy hS h
/-- a call alone may come up -/
theorem callL (hr : Region.ready md ops.toArray listed = [i]) (hi : ops[i]? = some o) (hw : Region.wanted o (yielded ops.toArray a.tmps) = true)
    (h : ∀ K' : Act → World → Prop, Shut (∀ a w, S w → (S w → wpAnyH P md ops.toArray Q S fuel (listed.setIfInBounds i true) a w) → K' a w) → Oper.wp P o a w K' Q) : wpAnyH P md ops.toArray Q S (fuel + 1) listed a w :=
  wpAnyH_ready hr (by simp) (AllReadyH.cons (by simpa using hi) (fun K' hK => by rw [if_pos hw]; exact h K' hK) AllReadyH.nil)
end
section
variable {ops : Array Oper} {S : World → Prop} {o : Oper} {a : Act} {x : Operand} {v : Value}
theorem yields_mv (hw : Region.wanted o (yielded ops a.tmps) = true) (ho : o.op = .move x ∨ o.op = .assign x) (hx : a.eval x = v) : YieldsIf Tryz.prog ops S o v a :=
  Or.inl ⟨hw, fun w _ => by rcases ho with e | e <;> (unfold execOp; rw [e]; simp only []; rw [hx]; rfl)⟩
theorem yields_in (hw : Region.wanted o (yielded ops a.tmps) = true) (ho : o.op = .load 3 x) {b i : Nat} {n : Int} (hx : a.eval x = .pointer (some ⟨b, i, none⟩)) (hS : ∀ w, S w → w.cell? ⟨b, i, none⟩ = some (.int .i64 n)) : YieldsIf Tryz.prog ops S o (.int .i64 n) a :=
  Or.inl ⟨hw, fun w h => by have hc := hS w h; unfold execOp; rw [ho]; simp only []; rw [hx]; go_simp⟩
end
end Go.Proofs.YthiljpbodmajaaaGreat
namespace Go.Proofs.YthiljpbodmajaaaGreat
open Go.RowKit Plain
set_option linter.unusedVariables false
section
variable {P : Program} {Q : Exit → Act → World → Prop} {md : Region.Mode} {S : World → Prop} {ops : List Oper} {i j : Nat} {o o' : Oper} {v : Value} {fuel : Nat} {listed : Array Bool} {a : Act} {w : World}
/-- one of two comes up -/
theorem twoL (hr : Region.ready md ops.toArray listed = [i, j]) (hi : ops[i]? = some o) (hj : ops[j]? = some o') (hw : Region.wanted o (yielded ops.toArray a.tmps) = true) (hw' : Region.wanted o' (yielded ops.toArray a.tmps) = true)
    (h : ∀ K' : Act → World → Prop, Shut (∀ a w, S w → (S w → wpAnyH P md ops.toArray Q S fuel (listed.setIfInBounds i true) a w) → K' a w) → Oper.wp P o a w K' Q)
    (h' : ∀ K' : Act → World → Prop, Shut (∀ a w, S w → (S w → wpAnyH P md ops.toArray Q S fuel (listed.setIfInBounds j true) a w) → K' a w) → Oper.wp P o' a w K' Q) : wpAnyH P md ops.toArray Q S (fuel + 1) listed a w :=
  wpAnyH_ready hr (by simp) (AllReadyH.cons (by simpa using hi) (fun K' hK => by rw [if_pos hw]; exact h K' hK) (AllReadyH.cons (by simpa using hj) (fun K' hK => by rw [if_pos hw']; exact h' K' hK) AllReadyH.nil))
end
theorem yields_pk {ops : Array Oper} {S : World → Prop} {op : Oper} {a : Act} (hw : Region.wanted op (yielded ops a.tmps) = true) {x : Operand} (ho : op.op = .load 30 x) (b : Nat) (hx : a.eval x = .pointer (some ⟨b, 0, none⟩)) (vs : List Value) (hl : vs.length = 12) (hS : ∀ w, S w → ∃ t, w.heap[b]? = some (.cells vs.toArray t (0, 0))) : YieldsIf Tryz.prog ops S op (.agg vs.toArray) a := by
  obtain ⟨i, hi, hz, hs⟩ := info_two info_pk
  exact yieldsIf_load_mid hw _ x ho b 0 hx vs _ (fun w h => by obtain ⟨t, hB⟩ := hS w h; exact fun j v hv => by rw [Nat.zero_add, cell_of_row w b j _ _ _ hB]; simpa using hv) Tryz.underlying30 rfl (by simp [hi, hs, hl])
theorem alloc_dg {o : Oper} {a : Act} {w : World} {K : Act → World → Prop} {Q : Exit → Act → World → Prop} (ho : o.op = .alloc 33) (h : K (a.put o.dst (.pointer (some ⟨w.heap.size, 0, none⟩))) (w.alloc (.cells (dgl dg0) 33))) : o.wp Tryz.prog a w K Q := by
  obtain ⟨i, hi, hz, hs⟩ := info_two info_dg
  have hr : (execOp a.eval o).run Tryz.prog w = .ok (.value (.pointer (some ⟨w.heap.size, 0, none⟩))) (w.alloc (.cells (dgl dg0) 33)) := by
    unfold execOp
    simp [ho, Instr.alloc, zeroValue, typeInfo, hi, hz, newVar, newRow, Value.cells]
  unfold Oper.wp
  rw [hr, Oper.upon_value]
  exact h
theorem store_dg {o : Oper} {a : Act} {w : World} {K : Act → World → Prop} {Q : Exit → Act → World → Prop} {x y : Operand} (ho : o.op = .store 33 x y) (b : Nat) (hx : a.eval x = .pointer (some ⟨b, 0, none⟩)) (vs : List Value) (hl : vs.length = 14) (hy : a.eval y = .agg vs.toArray)
    {z : Array Value} {t : TypeId} (hB : w.heap[b]? = some (.cells z t (0, 0))) (hz : z.size = 14) (hone : ∀ v ∈ vs, v.oneCell' = true) (h : K (a.put o.dst undef) (w.setCells b 0 vs)) : o.wp Tryz.prog a w K Q := by
  obtain ⟨i, hi, hz', hs⟩ := info_two info_dg
  refine wp_store_mid _ x y ho b 0 vs.toArray hx hy (fun j hj => ?_) (by simp [hi, hs, hl]) (all_oneCell_toArray hone) h
  have hj' : j < z.size := by simp at hj; omega
  constructor
  · rw [Nat.zero_add, cell_of_row _ _ j _ _ _ hB, Array.getElem?_eq_getElem hj']; rfl
  · rw [Nat.zero_add]; exact nofrz hB j
theorem heap_fill (K : Nat) (t : TypeId) : ∀ (vs : List Value) (i : Nat) (w : World) (z : Array Value), w.heap[K]? = some (.cells z t (0, 0)) → (w.setCells K i vs).heap[K]? = some (.cells (fillc z i vs) t (0, 0))
  | [], _, _, _, h => h
  | v :: r, i, w, z, h => heap_fill K t r (i + 1) _ _ (heap_setCell_same v h)
theorem below_fill {B : Nat} {wB : World} (K : Nat) (hK : B ≤ K) : ∀ (vs : List Value) (i : Nat) (w : World), Below B wB w → Below B wB (w.setCells K i vs)
  | [], _, _, h => h
  | v :: r, i, w, h => below_fill K hK r (i + 1) _ (h.setCell hK v)
theorem Tb.fill {base b o : Nat} {ty : TypeId} {cur : Array Value} {v : Value} {ms : List Mp} (K : Nat) (h1 : b ≠ K) (h2 : ∀ g, v.ownBlock = some g → g ≠ K) : ∀ (vs : List Value) (i : Nat) (w : World), Tb w base b o ty cur v ms → Tb (w.setCells K i vs) base b o ty cur v ms
  | [], _, _, T => T
  | u :: r, i, w, T => Tb.fill K h1 h2 r (i + 1) _ (Tb.other3 T (p := ⟨K, i, none⟩) h1 h2 u)
theorem St.fill {L : List (Nat × Array Value × TypeId)} {w w1 : World} {K : Nat} {z : Array Value} {t : TypeId} (h : St L w w1) (hz : w1.heap[K]? = some (.cells z t (0, 0))) (vs : List Value) (hs : z.size = vs.length) (hw : w.heap.size ≤ K) (hL : ∀ x ∈ L, x.1 ≠ K) : St (L ++ [(K, vs.toArray, t)]) w (w1.setCells K 0 vs) := by
  refine ⟨below_fill K hw vs 0 w1 h.1, fun x hx => ?_⟩
  rcases List.mem_append.1 hx with e | e
  · rw [heap_setCells_other K vs 0 w1 x.1 (hL x e)]
    exact h.2 x e
  · have : x = (K, vs.toArray, t) := by simpa using e
    subst this
    rw [heap_fill K t vs 0 w1 z hz, fillc_all vs z hs]
end Go.Proofs.YthiljpbodmajaaaGreat
namespace Go.Proofs.YthiljpbodmajaaaGreat
theorem St.fore {L M : List (Nat × Array Value × TypeId)} {w w1 : World} (h : St (L ++ M) w w1) : St L w w1 := ⟨h.1, fun x hx => h.2 x (List.mem_append_left _ hx)⟩
theorem St.ne {L : List (Nat × Array Value × TypeId)} {w w1 : World} {K : Nat} (h : St L w w1) (hK : w1.heap.size ≤ K) : ∀ x ∈ L, x.1 ≠ K := fun _ hx => Nat.ne_of_lt (Nat.lt_of_lt_of_le (St.lt h hx) hK)
theorem St.pick2 {L : List (Nat × Array Value × TypeId)} {w w1 : World} (h : St L w w1) (i j : Nat) {x y : Nat × Array Value × TypeId} (hi : L[i]? = some x) (hj : L[j]? = some y) : St [x, y] w w1 := ⟨h.1, fun z hz => by
  rcases List.mem_cons.1 hz with e | e
  · subst e; exact St.get h i hi
  · have : z = y := by simpa using e
    subst this; exact St.get h j hj⟩
end Go.Proofs.YthiljpbodmajaaaGreat
