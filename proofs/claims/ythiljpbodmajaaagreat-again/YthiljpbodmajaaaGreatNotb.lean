/-
  CONTRACTS: what natboxkeep.noted and about lean on.
-/
import Derived.Test.YthiljpbodmajaaaGreatLetf
import Derived.Deep.DeepCutAuto
import Derived.Test.YthiljpbodmajaaaGreatKepz
import Derived.Deep.RegionHeld
import Derived.Test.YthiljpbodmajaaaGreatBoxw
import Derived.Test.YthiljpbodmajaaaGreatKepx
namespace Go.Proofs.YthiljpbodmajaaaGreat
open Go.RowKit Plain
set_option linter.unusedVariables false

structure Nt where
  sr : Int
  ty : Int
  co : Int
  le : Int
  se : Int
  tl : Int
  op : Int
  bi : Int
  re : ByteArray
  ta : ByteArray
def ntl (n : Nt) : Array Value := #[.int .i64 n.sr, .int .i64 n.ty, .int .i64 n.co, .int .i64 n.le, .int .i64 n.se, .int .i64 n.tl, .int .i64 n.op, .int .i64 n.bi, .string n.re, .string n.ta]
theorem fill14_below {wB w : World} {B K : Nat} {v0 v1 v2 v3 v4 v5 v6 v7 v8 v9 v10 v11 v12 v13 : Value} (h : Below B wB w) (hK : B ≤ K) : Below B wB ((((((((((((((w.setCell ⟨K, 0, none⟩ v0).setCell ⟨K, 1, none⟩ v1).setCell ⟨K, 2, none⟩ v2).setCell ⟨K, 3, none⟩ v3).setCell ⟨K, 4, none⟩ v4).setCell ⟨K, 5, none⟩ v5).setCell ⟨K, 6, none⟩ v6).setCell ⟨K, 7, none⟩ v7).setCell ⟨K, 8, none⟩ v8).setCell ⟨K, 9, none⟩ v9).setCell ⟨K, 10, none⟩ v10).setCell ⟨K, 11, none⟩ v11).setCell ⟨K, 12, none⟩ v12).setCell ⟨K, 13, none⟩ v13) := ((((((((((((((h.setCell hK _).setCell hK _).setCell hK _).setCell hK _).setCell hK _).setCell hK _).setCell hK _).setCell hK _).setCell hK _).setCell hK _).setCell hK _).setCell hK _).setCell hK _).setCell hK _)
theorem fill14x {w : World} {K : Nat} {t : TypeId} {z0 z1 z2 z3 z4 z5 z6 z7 z8 z9 z10 z11 z12 z13 z14 z15 z16 z17 v0 v1 v2 v3 v4 v5 v6 v7 v8 v9 v10 v11 v12 v13 : Value} (h : w.heap[K]? = some (.cells #[z0, z1, z2, z3, z4, z5, z6, z7, z8, z9, z10, z11, z12, z13, z14, z15, z16, z17] t (0, 0))) : ((((((((((((((w.setCell ⟨K, 0, none⟩ v0).setCell ⟨K, 1, none⟩ v1).setCell ⟨K, 2, none⟩ v2).setCell ⟨K, 3, none⟩ v3).setCell ⟨K, 4, none⟩ v4).setCell ⟨K, 5, none⟩ v5).setCell ⟨K, 6, none⟩ v6).setCell ⟨K, 7, none⟩ v7).setCell ⟨K, 8, none⟩ v8).setCell ⟨K, 9, none⟩ v9).setCell ⟨K, 10, none⟩ v10).setCell ⟨K, 11, none⟩ v11).setCell ⟨K, 12, none⟩ v12).setCell ⟨K, 13, none⟩ v13).heap[K]? = some (.cells #[v0, v1, v2, v3, v4, v5, v6, v7, v8, v9, v10, v11, v12, v13, z14, z15, z16, z17] t (0, 0)) := by
  have e := (heap_setCell_same (o := 13) v13 (heap_setCell_same (o := 12) v12 (heap_setCell_same (o := 11) v11 (heap_setCell_same (o := 10) v10 (heap_setCell_same (o := 9) v9 (heap_setCell_same (o := 8) v8 (heap_setCell_same (o := 7) v7 (heap_setCell_same (o := 6) v6 (heap_setCell_same (o := 5) v5 (heap_setCell_same (o := 4) v4 (heap_setCell_same (o := 3) v3 (heap_setCell_same (o := 2) v2 (heap_setCell_same (o := 1) v1 (heap_setCell_same (o := 0) v0 h))))))))))))))
  simp only [List.setIfInBounds_toArray, List.set_cons_zero, List.set_cons_succ] at e
  exact e
theorem set18_10 {w : World} {K : Nat} {t : TypeId} {v0 v1 v2 v3 v4 v5 v6 v7 v8 v9 v10 v11 v12 v13 v14 v15 v16 v17 : Value} (u : Value) (h : w.heap[K]? = some (.cells #[v0, v1, v2, v3, v4, v5, v6, v7, v8, v9, v10, v11, v12, v13, v14, v15, v16, v17] t (0, 0))) : (w.setCell ⟨K, 10, none⟩ u).heap[K]? = some (.cells #[v0, v1, v2, v3, v4, v5, v6, v7, v8, v9, u, v11, v12, v13, v14, v15, v16, v17] t (0, 0)) := by
  have e := heap_setCell_same (o := 10) u h
  simp only [List.setIfInBounds_toArray, List.set_cons_zero, List.set_cons_succ] at e
  exact e
theorem set18_13 {w : World} {K : Nat} {t : TypeId} {v0 v1 v2 v3 v4 v5 v6 v7 v8 v9 v10 v11 v12 v13 v14 v15 v16 v17 : Value} (u : Value) (h : w.heap[K]? = some (.cells #[v0, v1, v2, v3, v4, v5, v6, v7, v8, v9, v10, v11, v12, v13, v14, v15, v16, v17] t (0, 0))) : (w.setCell ⟨K, 13, none⟩ u).heap[K]? = some (.cells #[v0, v1, v2, v3, v4, v5, v6, v7, v8, v9, v10, v11, v12, u, v14, v15, v16, v17] t (0, 0)) := by
  have e := heap_setCell_same (o := 13) u h
  simp only [List.setIfInBounds_toArray, List.set_cons_zero, List.set_cons_succ] at e
  exact e
theorem set18_14 {w : World} {K : Nat} {t : TypeId} {v0 v1 v2 v3 v4 v5 v6 v7 v8 v9 v10 v11 v12 v13 v14 v15 v16 v17 : Value} (u : Value) (h : w.heap[K]? = some (.cells #[v0, v1, v2, v3, v4, v5, v6, v7, v8, v9, v10, v11, v12, v13, v14, v15, v16, v17] t (0, 0))) : (w.setCell ⟨K, 14, none⟩ u).heap[K]? = some (.cells #[v0, v1, v2, v3, v4, v5, v6, v7, v8, v9, v10, v11, v12, v13, u, v15, v16, v17] t (0, 0)) := by
  have e := heap_setCell_same (o := 14) u h
  simp only [List.setIfInBounds_toArray, List.set_cons_zero, List.set_cons_succ] at e
  exact e
theorem set18_15 {w : World} {K : Nat} {t : TypeId} {v0 v1 v2 v3 v4 v5 v6 v7 v8 v9 v10 v11 v12 v13 v14 v15 v16 v17 : Value} (u : Value) (h : w.heap[K]? = some (.cells #[v0, v1, v2, v3, v4, v5, v6, v7, v8, v9, v10, v11, v12, v13, v14, v15, v16, v17] t (0, 0))) : (w.setCell ⟨K, 15, none⟩ u).heap[K]? = some (.cells #[v0, v1, v2, v3, v4, v5, v6, v7, v8, v9, v10, v11, v12, v13, v14, u, v16, v17] t (0, 0)) := by
  have e := heap_setCell_same (o := 15) u h
  simp only [List.setIfInBounds_toArray, List.set_cons_zero, List.set_cons_succ] at e
  exact e
theorem set18_16 {w : World} {K : Nat} {t : TypeId} {v0 v1 v2 v3 v4 v5 v6 v7 v8 v9 v10 v11 v12 v13 v14 v15 v16 v17 : Value} (u : Value) (h : w.heap[K]? = some (.cells #[v0, v1, v2, v3, v4, v5, v6, v7, v8, v9, v10, v11, v12, v13, v14, v15, v16, v17] t (0, 0))) : (w.setCell ⟨K, 16, none⟩ u).heap[K]? = some (.cells #[v0, v1, v2, v3, v4, v5, v6, v7, v8, v9, v10, v11, v12, v13, v14, v15, u, v17] t (0, 0)) := by
  have e := heap_setCell_same (o := 16) u h
  simp only [List.setIfInBounds_toArray, List.set_cons_zero, List.set_cons_succ] at e
  exact e
theorem set18_17 {w : World} {K : Nat} {t : TypeId} {v0 v1 v2 v3 v4 v5 v6 v7 v8 v9 v10 v11 v12 v13 v14 v15 v16 v17 : Value} (u : Value) (h : w.heap[K]? = some (.cells #[v0, v1, v2, v3, v4, v5, v6, v7, v8, v9, v10, v11, v12, v13, v14, v15, v16, v17] t (0, 0))) : (w.setCell ⟨K, 17, none⟩ u).heap[K]? = some (.cells #[v0, v1, v2, v3, v4, v5, v6, v7, v8, v9, v10, v11, v12, v13, v14, v15, v16, u] t (0, 0)) := by
  have e := heap_setCell_same (o := 17) u h
  simp only [List.setIfInBounds_toArray, List.set_cons_zero, List.set_cons_succ] at e
  exact e
theorem set18_7 {w : World} {K : Nat} {t : TypeId} {v0 v1 v2 v3 v4 v5 v6 v7 v8 v9 v10 v11 v12 v13 v14 v15 v16 v17 : Value} (u : Value) (h : w.heap[K]? = some (.cells #[v0, v1, v2, v3, v4, v5, v6, v7, v8, v9, v10, v11, v12, v13, v14, v15, v16, v17] t (0, 0))) : (w.setCell ⟨K, 7, none⟩ u).heap[K]? = some (.cells #[v0, v1, v2, v3, v4, v5, v6, u, v8, v9, v10, v11, v12, v13, v14, v15, v16, v17] t (0, 0)) := by
  have e := heap_setCell_same (o := 7) u h
  simp only [List.setIfInBounds_toArray, List.set_cons_zero, List.set_cons_succ] at e
  exact e
theorem cell18 {w : World} {K : Nat} {t : TypeId} {fr : Nat × Nat} {v0 v1 v2 v3 v4 v5 v6 v7 v8 v9 v10 v11 v12 v13 v14 v15 v16 v17 : Value} (h : w.heap[K]? = some (.cells #[v0, v1, v2, v3, v4, v5, v6, v7, v8, v9, v10, v11, v12, v13, v14, v15, v16, v17] t fr)) : w.cell? ⟨K, 0, none⟩ = some v0 ∧ w.cell? ⟨K, 1, none⟩ = some v1 ∧ w.cell? ⟨K, 2, none⟩ = some v2 ∧ w.cell? ⟨K, 3, none⟩ = some v3 ∧ w.cell? ⟨K, 4, none⟩ = some v4 ∧ w.cell? ⟨K, 5, none⟩ = some v5 ∧ w.cell? ⟨K, 6, none⟩ = some v6 ∧ w.cell? ⟨K, 7, none⟩ = some v7 ∧ w.cell? ⟨K, 8, none⟩ = some v8 ∧ w.cell? ⟨K, 9, none⟩ = some v9 ∧ w.cell? ⟨K, 10, none⟩ = some v10 ∧ w.cell? ⟨K, 11, none⟩ = some v11 ∧ w.cell? ⟨K, 12, none⟩ = some v12 ∧ w.cell? ⟨K, 13, none⟩ = some v13 ∧ w.cell? ⟨K, 14, none⟩ = some v14 ∧ w.cell? ⟨K, 15, none⟩ = some v15 ∧ w.cell? ⟨K, 16, none⟩ = some v16 ∧ w.cell? ⟨K, 17, none⟩ = some v17 :=
  ⟨cell_of_row w K 0 _ t fr h, cell_of_row w K 1 _ t fr h, cell_of_row w K 2 _ t fr h, cell_of_row w K 3 _ t fr h, cell_of_row w K 4 _ t fr h, cell_of_row w K 5 _ t fr h, cell_of_row w K 6 _ t fr h, cell_of_row w K 7 _ t fr h, cell_of_row w K 8 _ t fr h, cell_of_row w K 9 _ t fr h, cell_of_row w K 10 _ t fr h, cell_of_row w K 11 _ t fr h, cell_of_row w K 12 _ t fr h, cell_of_row w K 13 _ t fr h, cell_of_row w K 14 _ t fr h, cell_of_row w K 15 _ t fr h, cell_of_row w K 16 _ t fr h, cell_of_row w K 17 _ t fr h⟩
theorem drew_heap (w : World) (K : Nat) : w.drew.heap[K]? = w.heap[K]? := rfl
theorem setCells_below (K : Nat) : ∀ (vs : List Value) (o : Nat) (w : World), Below K w (w.setCells K o vs)
  | [], _, w => Below.refl K w
  | v :: r, o, w => ((Below.refl K w).setCell (Nat.le_refl _) v).trans (setCells_below K r (o + 1) _)
theorem heap_setCells_all {w : World} {K : Nat} {Z : Array Value} {t : TypeId} (vs : List Value) (h : w.heap[K]? = some (.cells Z t (0, 0))) (hn : Z.size = vs.length) : (w.setCells K 0 vs).heap[K]? = some (.cells vs.toArray t (0, 0)) := by
  obtain ⟨cur, h1, h2, h3⟩ := heap_setCells K t (0, 0) vs 0 w Z h
  have e : cur = vs.toArray := by
    apply Array.ext_getElem?
    intro k
    by_cases hk : k < Z.size
    · rw [h3 k hk, if_pos (by omega)]
      simp
    · rw [Array.getElem?_eq_none (by omega), Array.getElem?_eq_none (by simp; omega)]
  rw [h1, e]
/-- a region that copies a struct from one block into another -/
theorem wp_copy {P : Program} {id : Nat} {o1 o2 : Oper} {Q : Exit → Act → World → Prop} {a : Act} {w : World} (ty : TypeId) (x y z : Operand) (h1 : o1.op = .load ty x) (g1 : o1.guard = none) (h2 : o2.op = .store ty y z) (g2 : o2.guard = none) (b c : Nat) (vs : List Value) (d : TypeDesc) {Z : Array Value} {t t' : TypeId}
    (hx : a.eval x = .pointer (some ⟨b, 0, none⟩)) (hy : (a.put o1.dst (.agg vs.toArray)).eval y = .pointer (some ⟨c, 0, none⟩)) (hz : (a.put o1.dst (.agg vs.toArray)).eval z = .agg vs.toArray) (hB : w.heap[b]? = some (.cells vs.toArray t (0, 0))) (hC : w.heap[c]? = some (.cells Z t' (0, 0))) (hn : Z.size = vs.length)
    (hu : P.underlying ty = some d) (hd : d.isRow = true) (hi : (P.info? ty).map (·.size) = some vs.length) (hone : ∀ v ∈ vs, v.oneCell' = true)
    (hK : ∀ W : World, W.heap[c]? = some (.cells vs.toArray t' (0, 0)) → Below c w W → Q .normal ((a.put o1.dst (.agg vs.toArray)).put o2.dst undef) W) : (Code.region id #[o1, o2] false).wp P Q a w := by
  refine wp_region_lit (l := [o1, o2]) ?_
  refine wpList_load_mid g1 ty x h1 b 0 hx vs d (fun j v hv => ?_) hu hd hi ?_
  · rw [Nat.zero_add, cell_of_row w b j _ _ _ hB]
    simpa using hv
  · refine wpList_store_mid g2 ty y z h2 c 0 vs.toArray hy hz (fun j hj => ?_) (by simpa using hi) (all_oneCell_toArray hone) ?_
    · have hj' : j < Z.size := by simp at hj; omega
      constructor
      · rw [Nat.zero_add, cell_of_row w c j _ _ _ hC, Array.getElem?_eq_getElem hj']; rfl
      · rw [Nat.zero_add]; exact nofrz hC j
    · exact hK _ (heap_setCells_all vs hC hn) (setCells_below c _ 0 w)
/-- a result that is a struct in a block -/
theorem results_cell {P : Program} {fn : Func} {slot : Tmp} {ty : TypeId} (hf : fn.results = #[.cell slot ty]) (tmps : Array Value) (W : World) (K : Nat) (vs : List Value) (d : TypeDesc) {t : TypeId} (hs : tmps[slot]?.getD undef = .pointer (some ⟨K, 0, none⟩)) (hW : W.heap[K]? = some (.cells vs.toArray t (0, 0))) (hu : P.underlying ty = some d) (hd : d.isRow = true) (hi : (P.info? ty).map (·.size) = some vs.length) :
    (results fn tmps).run P W = .ok (.agg vs.toArray) W := by
  have hL := run_loadVar_mid (P := P) W K 0 ty vs d (fun j v hv => by rw [Nat.zero_add, cell_of_row W K j _ _ _ hW]; simpa using hv) hu hd hi
  simp [results, hf, hs, asAddr, hL]
/-- what noted leaves as it was: the note, the configuration, the datagram, the result -/
def Nok (n : Nt) (g : Cf) (d : Dg) (w w' : World) : Prop := Below (w.heap.size + 1 + 1 + 1 + 1) ((((w.alloc (.cells (ntl n) 56)).alloc (.cells (cfl g) 28)).alloc (.cells (dgl d) 33)).alloc (.cells #[.int .i64 0, .int .i64 0, .bool false, .int .i64 0, .int .i64 0, .int .i64 0, .int .i64 0, .int .i64 0, .int .i64 0, .int .i64 0, .string ⟨#[]⟩, .string ⟨#[]⟩, .string ⟨#[]⟩, .string ⟨#[]⟩, .int .i64 0, .int .i64 0, .string ⟨#[]⟩, .string ⟨#[]⟩] 62)) w'
section
variable {n : Nt} {g : Cf} {d : Dg} {w w1 w2 : World}
theorem Nok.drew (h : Nok n g d w w1) : Nok n g d w w1.drew := Below.drew h
theorem Nok.lt (h : Nok n g d w w1) : (w.heap.size + 1 + 1 + 1 + 1) ≤ w1.heap.size := Nat.le_trans (by simp) h.size
theorem Nok.next (h : Nok n g d w w1) (k : Below w1.heap.size w1 w2) : Nok n g d w w2 := Below.trans h (k.mono h.lt)
theorem Nok.below (h : Nok n g d w w1) : Below w.heap.size w w1 := (((((Below.refl w.heap.size w).alloc (Nat.le_refl _) _).alloc (by simp) _).alloc (by simp <;> omega) _).alloc (by simp <;> omega) _).trans (Below.mono h (by omega))
theorem Nok.set (h : Nok n g d w w1) (i : Nat) (u : Value) : Nok n g d w (w1.setCell ⟨(w.heap.size + 1 + 1 + 1 + 1), i, none⟩ u) := Below.setCell h (Nat.le_refl _) u
theorem Nok.fill14 {v0 v1 v2 v3 v4 v5 v6 v7 v8 v9 v10 v11 v12 v13 : Value} (h : Nok n g d w w1) : Nok n g d w ((((((((((((((w1.setCell ⟨(w.heap.size + 1 + 1 + 1 + 1), 0, none⟩ v0).setCell ⟨(w.heap.size + 1 + 1 + 1 + 1), 1, none⟩ v1).setCell ⟨(w.heap.size + 1 + 1 + 1 + 1), 2, none⟩ v2).setCell ⟨(w.heap.size + 1 + 1 + 1 + 1), 3, none⟩ v3).setCell ⟨(w.heap.size + 1 + 1 + 1 + 1), 4, none⟩ v4).setCell ⟨(w.heap.size + 1 + 1 + 1 + 1), 5, none⟩ v5).setCell ⟨(w.heap.size + 1 + 1 + 1 + 1), 6, none⟩ v6).setCell ⟨(w.heap.size + 1 + 1 + 1 + 1), 7, none⟩ v7).setCell ⟨(w.heap.size + 1 + 1 + 1 + 1), 8, none⟩ v8).setCell ⟨(w.heap.size + 1 + 1 + 1 + 1), 9, none⟩ v9).setCell ⟨(w.heap.size + 1 + 1 + 1 + 1), 10, none⟩ v10).setCell ⟨(w.heap.size + 1 + 1 + 1 + 1), 11, none⟩ v11).setCell ⟨(w.heap.size + 1 + 1 + 1 + 1), 12, none⟩ v12).setCell ⟨(w.heap.size + 1 + 1 + 1 + 1), 13, none⟩ v13) := fill14_below h (Nat.le_refl _)
theorem Nok.nt (i : Nat) {u : Value} (h : (ntl n)[i]? = some u) : ∀ w', Nok n g d w w' → w'.cell? ⟨w.heap.size, i, none⟩ = some u := fun w' hb =>
  (Below.cell hb (p := ⟨w.heap.size, i, none⟩) (by show w.heap.size < _; omega)).trans ((cell_of_row _ _ _ _ _ _ ((Below.heap_alloc _ _ _ (by simp <;> omega)).trans ((Below.heap_alloc _ _ _ (by simp <;> omega)).trans ((Below.heap_alloc _ _ _ (by simp)).trans (alloc1 w _))))).trans h)
theorem Nok.cf (i : Nat) {u : Value} (h : (cfl g)[i]? = some u) : ∀ w', Nok n g d w w' → w'.cell? ⟨w.heap.size + 1, i, none⟩ = some u := fun w' hb =>
  (Below.cell hb (p := ⟨w.heap.size + 1, i, none⟩) (by show w.heap.size + 1 < _; omega)).trans ((cell_of_row _ _ _ _ _ _ ((Below.heap_alloc _ _ _ (by simp <;> omega)).trans ((Below.heap_alloc _ _ _ (by simp)).trans (by simpa using alloc1 (w.alloc (.cells (ntl n) 56)) (.cells (cfl g) 28))))).trans h)
theorem Nok.dg (i : Nat) {u : Value} (h : (dgl d)[i]? = some u) : ∀ w', Nok n g d w w' → w'.cell? ⟨w.heap.size + 1 + 1, i, none⟩ = some u := fun w' hb =>
  (Below.cell hb (p := ⟨w.heap.size + 1 + 1, i, none⟩) (by show w.heap.size + 1 + 1 < _; omega)).trans ((cell_of_row _ _ _ _ _ _ ((Below.heap_alloc _ _ _ (by simp)).trans (by simpa using alloc1 ((w.alloc (.cells (ntl n) 56)).alloc (.cells (cfl g) 28)) (.cells (dgl d) 33)))).trans h)
theorem Nok.res (h : Nok n g d w w1) : w1.heap[w.heap.size + 1 + 1 + 1]? = some (.cells #[.int .i64 0, .int .i64 0, .bool false, .int .i64 0, .int .i64 0, .int .i64 0, .int .i64 0, .int .i64 0, .int .i64 0, .int .i64 0, .string ⟨#[]⟩, .string ⟨#[]⟩, .string ⟨#[]⟩, .string ⟨#[]⟩, .int .i64 0, .int .i64 0, .string ⟨#[]⟩, .string ⟨#[]⟩] 62 (0, 0)) :=
  (h.block _ (by omega)).trans (by simpa using alloc1 (((w.alloc (.cells (ntl n) 56)).alloc (.cells (cfl g) 28)).alloc (.cells (dgl d) 33)) (.cells #[.int .i64 0, .int .i64 0, .bool false, .int .i64 0, .int .i64 0, .int .i64 0, .int .i64 0, .int .i64 0, .int .i64 0, .int .i64 0, .string ⟨#[]⟩, .string ⟨#[]⟩, .string ⟨#[]⟩, .string ⟨#[]⟩, .int .i64 0, .int .i64 0, .string ⟨#[]⟩, .string ⟨#[]⟩] 62))
end
/-- .. and the message as it stands -/
structure Nst (n : Nt) (g : Cf) (d : Dg) (M : Array Value) (w w' : World) : Prop where
  ok : Nok n g d w w'
  m : w'.heap[(w.heap.size + 1 + 1 + 1 + 1)]? = some (.cells M 62 (0, 0))
section
variable {n : Nt} {g : Cf} {d : Dg} {w w1 w2 : World} {M : Array Value}
theorem Nst.drew (h : Nst n g d M w w1) : Nst n g d M w w1.drew := ⟨h.ok.drew, h.m⟩
theorem Nst.next (h : Nst n g d M w w1) (k : Below w1.heap.size w1 w2) : Nst n g d M w w2 := ⟨h.ok.next k, (k.block _ (Array.getElem?_eq_some_iff.1 h.m).1).trans h.m⟩
theorem Nst.at (i : Nat) {u : Value} (h : M[i]? = some u) : ∀ w', Nst n g d M w w' → w'.cell? ⟨(w.heap.size + 1 + 1 + 1 + 1), i, none⟩ = some u := fun w' hb => (cell_of_row _ _ _ _ _ _ hb.m).trans h
theorem Nst.nt (i : Nat) {u : Value} (h : (ntl n)[i]? = some u) : ∀ w', Nst n g d M w w' → w'.cell? ⟨w.heap.size, i, none⟩ = some u := fun w' hb => Nok.nt i h w' hb.ok
theorem Nst.dg (i : Nat) {u : Value} (h : (dgl d)[i]? = some u) : ∀ w', Nst n g d M w w' → w'.cell? ⟨w.heap.size + 1 + 1, i, none⟩ = some u := fun w' hb => Nok.dg i h w' hb.ok
end
end Go.Proofs.YthiljpbodmajaaaGreat
namespace Go.Proofs.YthiljpbodmajaaaGreat
open Go.RowKit Plain
set_option linter.unusedVariables false

def fillc (c : Array Value) (i : Nat) : List Value → Array Value
  | [] => c
  | v :: r => fillc (c.setIfInBounds i v) (i + 1) r
theorem setCells_alloc (w : World) (t : TypeId) : ∀ (vs : List Value) (i : Nat) (c : Array Value), (w.alloc (.cells c t)).setCells w.heap.size i vs = w.alloc (.cells (fillc c i vs) t)
  | [], _, _ => rfl
  | v :: r, i, c => by
    show ((w.alloc (.cells c t)).setCell ⟨w.heap.size, i, none⟩ v).setCells w.heap.size (i + 1) r = _
    rw [World.setCell_alloc_at c t _ i v rfl, setCells_alloc w t r (i + 1)]
    rfl
theorem fillc_at : ∀ (vs : List Value) (i : Nat) (c : Array Value) (j : Nat), i + vs.length ≤ c.size → (fillc c i vs)[j]? = if i ≤ j ∧ j < i + vs.length then vs[j - i]? else c[j]?
  | [], i, c, j, h => by rw [if_neg (by simp <;> omega)]; rfl
  | v :: r, i, c, j, h => by
    simp only [List.length_cons] at h
    show (fillc (c.setIfInBounds i v) (i + 1) r)[j]? = _
    rw [fillc_at r (i + 1) _ j (by simp; omega)]
    by_cases e : j = i
    · subst e
      rw [if_neg (by omega), if_pos (by simp), Array.getElem?_setIfInBounds_self_of_lt (by omega), Nat.sub_self]
      rfl
    · by_cases h2 : i + 1 ≤ j ∧ j < i + 1 + r.length
      · rw [if_pos h2, if_pos (by simp; omega), show j - i = (j - (i + 1)) + 1 by omega]
        simp
      · rw [if_neg h2, if_neg (by simp; omega)]
        rw [Array.getElem?_setIfInBounds_ne (Ne.symm e)]
theorem fillc_all (vs : List Value) (c : Array Value) (h : c.size = vs.length) : fillc c 0 vs = vs.toArray := by
  apply Array.ext_getElem?
  intro j
  rw [fillc_at vs 0 c j (by omega)]
  by_cases hj : j < vs.length
  · rw [if_pos (by omega)]; simp
  · rw [if_neg (by omega), Array.getElem?_eq_none (by omega), Array.getElem?_eq_none (by simp; omega)]
theorem wpList_keep {P : Program} {ops : Array Oper} {rest : List Oper} {o1 o2 : Oper} {a : Act} {w : World} {Q : Exit → Act → World → Prop} (g1 : o1.guard = none) (g2 : o2.guard = none) (ty : TypeId) (h1 : o1.op = .alloc ty) (x y : Operand) (h2 : o2.op = .store ty x y) (vs : List Value) (i : TypeInfo) (Z : Value)
    (hi : P.info? ty = some i) (hz : i.zero = some Z) (hzs : Z.cells.size = vs.length) (hs : i.size = vs.length) (hone : ∀ v ∈ vs, v.oneCell' = true)
    (hx : (a.put o1.dst (.pointer (some ⟨w.heap.size, 0, none⟩))).eval x = .pointer (some ⟨w.heap.size, 0, none⟩)) (hy : (a.put o1.dst (.pointer (some ⟨w.heap.size, 0, none⟩))).eval y = .agg vs.toArray)
    (h : wpList P ops Q rest ((a.put o1.dst (.pointer (some ⟨w.heap.size, 0, none⟩))).put o2.dst undef) (w.alloc (.cells vs.toArray ty))) : wpList P ops Q (o1 :: o2 :: rest) a w := by
  refine wpList_plain g1 fun K hK => ?_
  have hr : (execOp a.eval o1).run P w = .ok (.value (.pointer (some ⟨w.heap.size, 0, none⟩))) (w.alloc (.cells Z.cells ty)) := by
    unfold execOp
    simp [h1, Instr.alloc, zeroValue, typeInfo, hi, hz, newVar, newRow]
  unfold Oper.wp
  rw [hr, Oper.upon_value]
  refine hK _ _ ?_
  have hC : (w.alloc (.cells Z.cells ty)).heap[w.heap.size]? = some (.cells Z.cells ty (0, 0)) := alloc1 w _
  refine wpList_store_mid g2 ty x y h2 w.heap.size 0 vs.toArray hx hy (fun j hj => ?_) (by simp [hi, hs]) (all_oneCell_toArray hone) ?_
  · have hj' : j < Z.cells.size := by simp at hj; omega
    constructor
    · rw [Nat.zero_add, cell_of_row _ _ j _ _ _ hC, Array.getElem?_eq_getElem hj']; rfl
    · rw [Nat.zero_add]; exact nofrz hC j
  · show wpList P ops Q rest _ ((w.alloc (.cells Z.cells ty)).setCells w.heap.size 0 vs)
    rw [setCells_alloc, fillc_all vs _ hzs]
    exact h
end Go.Proofs.YthiljpbodmajaaaGreat
namespace Go.Proofs.YthiljpbodmajaaaGreat
open Go.RowKit Plain
set_option linter.unusedVariables false
theorem info_two {P : Program} {t : TypeId} {z : Option Value} {n : Nat} (h : (P.info? t).map (fun i => (i.zero, i.size)) = some (z, n)) : ∃ i, P.info? t = some i ∧ i.zero = z ∧ i.size = n := by
  obtain ⟨i, hi, he⟩ := Option.map_eq_some_iff.1 h
  simp only [Prod.mk.injEq] at he
  exact ⟨i, hi, he.1, he.2⟩
theorem info_lt : (Tryz.prog.info? 62).map (fun i => (i.zero, i.size)) = some (some (.agg (ltl ⟨dg0, 0, 0, ⟨#[]⟩, ⟨#[]⟩⟩)), 18) := by kernel_rfl
theorem info_dg : (Tryz.prog.info? 33).map (fun i => (i.zero, i.size)) = some (some (.agg (dgl dg0)), 14) := by kernel_rfl
theorem info_cf : (Tryz.prog.info? 28).map (fun i => (i.zero, i.size)) = some (some (.agg (cfl ⟨0, 0, 0, 0, 0, 0, 0, 0, 0, 0, 0, 0⟩)), 12) := by kernel_rfl
section
variable {ops : Array Oper} {rest : List Oper} {o1 o2 : Oper} {a : Act} {w : World} {Q : Exit → Act → World → Prop}
theorem keep_lt (vs : List Value) (hl : vs.length = 18) (g1 : o1.guard = none) (g2 : o2.guard = none) (h1 : o1.op = .alloc 62) {x y : Operand} (h2 : o2.op = .store 62 x y) (hone : ∀ v ∈ vs, v.oneCell' = true)
    (hx : (a.put o1.dst (.pointer (some ⟨w.heap.size, 0, none⟩))).eval x = .pointer (some ⟨w.heap.size, 0, none⟩)) (hy : (a.put o1.dst (.pointer (some ⟨w.heap.size, 0, none⟩))).eval y = .agg vs.toArray)
    (h : wpList Tryz.prog ops Q rest ((a.put o1.dst (.pointer (some ⟨w.heap.size, 0, none⟩))).put o2.dst undef) (w.alloc (.cells vs.toArray 62))) : wpList Tryz.prog ops Q (o1 :: o2 :: rest) a w := by
  obtain ⟨i, hi, hz, hs⟩ := info_two info_lt
  exact wpList_keep g1 g2 _ h1 x y h2 vs i _ hi hz (by rw [hl]; rfl) (by rw [hs, hl]) hone hx hy h
theorem keep_dg (vs : List Value) (hl : vs.length = 14) (g1 : o1.guard = none) (g2 : o2.guard = none) (h1 : o1.op = .alloc 33) {x y : Operand} (h2 : o2.op = .store 33 x y) (hone : ∀ v ∈ vs, v.oneCell' = true)
    (hx : (a.put o1.dst (.pointer (some ⟨w.heap.size, 0, none⟩))).eval x = .pointer (some ⟨w.heap.size, 0, none⟩)) (hy : (a.put o1.dst (.pointer (some ⟨w.heap.size, 0, none⟩))).eval y = .agg vs.toArray)
    (h : wpList Tryz.prog ops Q rest ((a.put o1.dst (.pointer (some ⟨w.heap.size, 0, none⟩))).put o2.dst undef) (w.alloc (.cells vs.toArray 33))) : wpList Tryz.prog ops Q (o1 :: o2 :: rest) a w := by
  obtain ⟨i, hi, hz, hs⟩ := info_two info_dg
  exact wpList_keep g1 g2 _ h1 x y h2 vs i _ hi hz (by rw [hl]; rfl) (by rw [hs, hl]) hone hx hy h
theorem keep_cf (vs : List Value) (hl : vs.length = 12) (g1 : o1.guard = none) (g2 : o2.guard = none) (h1 : o1.op = .alloc 28) {x y : Operand} (h2 : o2.op = .store 28 x y) (hone : ∀ v ∈ vs, v.oneCell' = true)
    (hx : (a.put o1.dst (.pointer (some ⟨w.heap.size, 0, none⟩))).eval x = .pointer (some ⟨w.heap.size, 0, none⟩)) (hy : (a.put o1.dst (.pointer (some ⟨w.heap.size, 0, none⟩))).eval y = .agg vs.toArray)
    (h : wpList Tryz.prog ops Q rest ((a.put o1.dst (.pointer (some ⟨w.heap.size, 0, none⟩))).put o2.dst undef) (w.alloc (.cells vs.toArray 28))) : wpList Tryz.prog ops Q (o1 :: o2 :: rest) a w := by
  obtain ⟨i, hi, hz, hs⟩ := info_two info_cf
  exact wpList_keep g1 g2 _ h1 x y h2 vs i _ hi hz (by rw [hl]; rfl) (by rw [hs, hl]) hone hx hy h
end
end Go.Proofs.YthiljpbodmajaaaGreat
namespace Go.Proofs.YthiljpbodmajaaaGreat
open Go.RowKit Plain
set_option linter.unusedVariables false
theorem wpList_pull {P : Program} {ops : Array Oper} {rest : List Oper} {op : Oper} {a : Act} {w : World} {Q : Exit → Act → World → Prop} (ty : TypeId) (i : TypeInfo) (d : TypeDesc) (hi : P.info? ty = some i) (hu : P.underlying ty = some d) (hd : d.isRow = true) (vs : List Value) (hs : i.size = vs.length) (b : Nat) {t : TypeId} (hB : w.heap[b]? = some (.cells vs.toArray t (0, 0)))
    (hgd : op.guard = none) {x : Operand} (ho : op.op = .load ty x) (hx : a.eval x = .pointer (some ⟨b, 0, none⟩)) (h : wpList P ops Q rest (a.put op.dst (.agg vs.toArray)) w) : wpList P ops Q (op :: rest) a w :=
  wpList_load_mid hgd ty x ho b 0 hx vs d (fun j v hv => by rw [Nat.zero_add, cell_of_row w b j _ _ _ hB]; simpa using hv) hu hd (by simp [hi, hs]) h
theorem info_nt : (Tryz.prog.info? 56).map (fun i => (i.zero, i.size)) = some (some (.agg (ntl ⟨0, 0, 0, 0, 0, 0, 0, 0, ⟨#[]⟩, ⟨#[]⟩⟩)), 10) := by kernel_rfl
theorem info_pk : (Tryz.prog.info? 30).map (fun i => (i.zero, i.size)) = some (some (.agg (pkl ⟨0, 0, 0, 0, 0, 0, 0, 0, 0, ⟨#[]⟩, ⟨#[]⟩, ⟨#[]⟩⟩)), 12) := by kernel_rfl
section
variable {ops : Array Oper} {rest : List Oper} {op : Oper} {a : Act} {w : World} {Q : Exit → Act → World → Prop}
theorem pull_lt (vs : List Value) (hl : vs.length = 18) (b : Nat) {t : TypeId} (hB : w.heap[b]? = some (.cells vs.toArray t (0, 0))) (hgd : op.guard = none) {x : Operand} (ho : op.op = .load 62 x) (hx : a.eval x = .pointer (some ⟨b, 0, none⟩)) (h : wpList Tryz.prog ops Q rest (a.put op.dst (.agg vs.toArray)) w) : wpList Tryz.prog ops Q (op :: rest) a w := by
  obtain ⟨i, hi, hz, hs⟩ := info_two info_lt
  exact wpList_pull _ i _ hi Tryz.underlying62 rfl vs (by rw [hs, hl]) b hB hgd ho hx h
theorem pull_dg (vs : List Value) (hl : vs.length = 14) (b : Nat) {t : TypeId} (hB : w.heap[b]? = some (.cells vs.toArray t (0, 0))) (hgd : op.guard = none) {x : Operand} (ho : op.op = .load 33 x) (hx : a.eval x = .pointer (some ⟨b, 0, none⟩)) (h : wpList Tryz.prog ops Q rest (a.put op.dst (.agg vs.toArray)) w) : wpList Tryz.prog ops Q (op :: rest) a w := by
  obtain ⟨i, hi, hz, hs⟩ := info_two info_dg
  exact wpList_pull _ i _ hi Tryz.underlying33 rfl vs (by rw [hs, hl]) b hB hgd ho hx h
theorem pull_cf (vs : List Value) (hl : vs.length = 12) (b : Nat) {t : TypeId} (hB : w.heap[b]? = some (.cells vs.toArray t (0, 0))) (hgd : op.guard = none) {x : Operand} (ho : op.op = .load 28 x) (hx : a.eval x = .pointer (some ⟨b, 0, none⟩)) (h : wpList Tryz.prog ops Q rest (a.put op.dst (.agg vs.toArray)) w) : wpList Tryz.prog ops Q (op :: rest) a w := by
  obtain ⟨i, hi, hz, hs⟩ := info_two info_cf
  exact wpList_pull _ i _ hi Tryz.underlying28 rfl vs (by rw [hs, hl]) b hB hgd ho hx h
theorem pull_nt (vs : List Value) (hl : vs.length = 10) (b : Nat) {t : TypeId} (hB : w.heap[b]? = some (.cells vs.toArray t (0, 0))) (hgd : op.guard = none) {x : Operand} (ho : op.op = .load 56 x) (hx : a.eval x = .pointer (some ⟨b, 0, none⟩)) (h : wpList Tryz.prog ops Q rest (a.put op.dst (.agg vs.toArray)) w) : wpList Tryz.prog ops Q (op :: rest) a w := by
  obtain ⟨i, hi, hz, hs⟩ := info_two info_nt
  exact wpList_pull _ i _ hi Tryz.underlying56 rfl vs (by rw [hs, hl]) b hB hgd ho hx h
theorem pull_pk (vs : List Value) (hl : vs.length = 12) (b : Nat) {t : TypeId} (hB : w.heap[b]? = some (.cells vs.toArray t (0, 0))) (hgd : op.guard = none) {x : Operand} (ho : op.op = .load 30 x) (hx : a.eval x = .pointer (some ⟨b, 0, none⟩)) (h : wpList Tryz.prog ops Q rest (a.put op.dst (.agg vs.toArray)) w) : wpList Tryz.prog ops Q (op :: rest) a w := by
  obtain ⟨i, hi, hz, hs⟩ := info_two info_pk
  exact wpList_pull _ i _ hi Tryz.underlying30 rfl vs (by rw [hs, hl]) b hB hgd ho hx h
end
end Go.Proofs.YthiljpbodmajaaaGreat
namespace Go.Proofs.YthiljpbodmajaaaGreat
open Go.RowKit Plain
set_option linter.unusedVariables false
theorem at_lt {w : World} (vs : List Value) (hl : vs.length = 18) (b : Nat) {t : TypeId} (hB : w.heap[b]? = some (.cells vs.toArray t (0, 0))) : (Instr.loadAt 62 (.pointer (some ⟨b, 0, none⟩))).run Tryz.prog w = .ok (.agg vs.toArray) w := by
  obtain ⟨i, hi, hz, hs⟩ := info_two info_lt
  exact run_loadAt_mid w b 0 _ vs _ (fun j v hv => by rw [Nat.zero_add, cell_of_row w b j _ _ _ hB]; simpa using hv) Tryz.underlying62 rfl (by simp [hi, hs, hl])
theorem at_dg {w : World} (vs : List Value) (hl : vs.length = 14) (b : Nat) {t : TypeId} (hB : w.heap[b]? = some (.cells vs.toArray t (0, 0))) : (Instr.loadAt 33 (.pointer (some ⟨b, 0, none⟩))).run Tryz.prog w = .ok (.agg vs.toArray) w := by
  obtain ⟨i, hi, hz, hs⟩ := info_two info_dg
  exact run_loadAt_mid w b 0 _ vs _ (fun j v hv => by rw [Nat.zero_add, cell_of_row w b j _ _ _ hB]; simpa using hv) Tryz.underlying33 rfl (by simp [hi, hs, hl])
theorem at_cf {w : World} (vs : List Value) (hl : vs.length = 12) (b : Nat) {t : TypeId} (hB : w.heap[b]? = some (.cells vs.toArray t (0, 0))) : (Instr.loadAt 28 (.pointer (some ⟨b, 0, none⟩))).run Tryz.prog w = .ok (.agg vs.toArray) w := by
  obtain ⟨i, hi, hz, hs⟩ := info_two info_cf
  exact run_loadAt_mid w b 0 _ vs _ (fun j v hv => by rw [Nat.zero_add, cell_of_row w b j _ _ _ hB]; simpa using hv) Tryz.underlying28 rfl (by simp [hi, hs, hl])
end Go.Proofs.YthiljpbodmajaaaGreat
namespace Go.Proofs.YthiljpbodmajaaaGreat
open Go.RowKit Plain
set_option linter.unusedVariables false
theorem yields_lt {ops : Array Oper} {S : World → Prop} {op : Oper} {a : Act} (hw : Region.wanted op (yielded ops a.tmps) = true) {x : Operand} (ho : op.op = .load 62 x) (b : Nat) (hx : a.eval x = .pointer (some ⟨b, 0, none⟩)) (vs : List Value) (hl : vs.length = 18) (hS : ∀ w, S w → ∃ t, w.heap[b]? = some (.cells vs.toArray t (0, 0))) : YieldsIf Tryz.prog ops S op (.agg vs.toArray) a := by
  obtain ⟨i, hi, hz, hs⟩ := info_two info_lt
  exact yieldsIf_load_mid hw _ x ho b 0 hx vs _ (fun w h => by obtain ⟨t, hB⟩ := hS w h; exact fun j v hv => by rw [Nat.zero_add, cell_of_row w b j _ _ _ hB]; simpa using hv) Tryz.underlying62 rfl (by simp [hi, hs, hl])
theorem yields_dg {ops : Array Oper} {S : World → Prop} {op : Oper} {a : Act} (hw : Region.wanted op (yielded ops a.tmps) = true) {x : Operand} (ho : op.op = .load 33 x) (b : Nat) (hx : a.eval x = .pointer (some ⟨b, 0, none⟩)) (vs : List Value) (hl : vs.length = 14) (hS : ∀ w, S w → ∃ t, w.heap[b]? = some (.cells vs.toArray t (0, 0))) : YieldsIf Tryz.prog ops S op (.agg vs.toArray) a := by
  obtain ⟨i, hi, hz, hs⟩ := info_two info_dg
  exact yieldsIf_load_mid hw _ x ho b 0 hx vs _ (fun w h => by obtain ⟨t, hB⟩ := hS w h; exact fun j v hv => by rw [Nat.zero_add, cell_of_row w b j _ _ _ hB]; simpa using hv) Tryz.underlying33 rfl (by simp [hi, hs, hl])
end Go.Proofs.YthiljpbodmajaaaGreat
namespace Go.Proofs.YthiljpbodmajaaaGreat
open Go.RowKit Plain
set_option linter.unusedVariables false

def St (L : List (Nat × Array Value × TypeId)) (w w' : World) : Prop := Below w.heap.size w w' ∧ ∀ x ∈ L, w'.heap[x.1]? = some (.cells x.2.1 x.2.2 (0, 0))
section
variable {L : List (Nat × Array Value × TypeId)} {w w1 w2 : World}
theorem St.start (w : World) : St [] w w := ⟨Below.refl _ _, by simp⟩
theorem St.below (h : St L w w1) : Below w.heap.size w w1 := h.1
theorem St.drew (h : St L w w1) : St L w w1.drew := ⟨h.1.drew, h.2⟩
theorem St.lt (h : St L w w1) {x : Nat × Array Value × TypeId} (hx : x ∈ L) : x.1 < w1.heap.size := (Array.getElem?_eq_some_iff.1 (h.2 x hx)).1
theorem St.next (h : St L w w1) (k : Below w1.heap.size w1 w2) : St L w w2 :=
  ⟨h.1.trans (k.mono h.1.size), fun x hx => (k.block _ (h.lt hx)).trans (h.2 x hx)⟩
theorem St.alloc (h : St L w w1) (cs : Array Value) (t : TypeId) (K : Nat) (hK : w1.heap.size = K) : St (L ++ [(K, cs, t)]) w (w1.alloc (.cells cs t)) := by
  subst hK
  refine ⟨h.1.alloc h.1.size _, fun x hx => ?_⟩
  rcases List.mem_append.1 hx with e | e
  · exact (Below.heap_alloc w1 _ _ (h.lt e)).trans (h.2 x e)
  · simp at e
    subst e
    exact alloc1 w1 _
theorem St.get (h : St L w w1) (k : Nat) {x : Nat × Array Value × TypeId} (hk : L[k]? = some x) : w1.heap[x.1]? = some (.cells x.2.1 x.2.2 (0, 0)) := h.2 x (List.mem_of_getElem? hk)
theorem St.at (k i : Nat) {K : Nat} {cs : Array Value} {t : TypeId} {u : Value} (hk : L[k]? = some (K, cs, t)) (hi : cs[i]? = some u) : ∀ w', St L w w' → w'.cell? ⟨K, i, none⟩ = some u := fun w' h => (cell_of_row _ _ _ _ _ _ (h.get k hk)).trans hi
theorem St.frz (k : Nat) {K : Nat} {cs : Array Value} {t : TypeId} (hk : L[k]? = some (K, cs, t)) (h : St L w w1) (o : Nat) : w1.frozen? ⟨K, o, none⟩ = false := nofrz (h.get k hk) o
/-- a store into the block at place k -/
theorem St.set (h : St L w w1) (k i : Nat) {K : Nat} {cs : Array Value} {t : TypeId} (u : Value) (hk : L[k]? = some (K, cs, t)) (hw : w.heap.size ≤ K) (hd : ∀ j x, L[j]? = some x → j ≠ k → x.1 ≠ K) : St (L.set k (K, cs.setIfInBounds i u, t)) w (w1.setCell ⟨K, i, none⟩ u) := by
  refine ⟨h.1.setCell hw u, fun x hx => ?_⟩
  obtain ⟨j, hj⟩ := List.getElem?_of_mem hx
  by_cases e : j = k
  · subst e
    rw [List.getElem?_set] at hj
    simp only [if_true] at hj
    split at hj
    · simp at hj
      subst hj
      exact heap_setCell_same u (h.get j hk)
    · cases hj
  · rw [List.getElem?_set_ne (Ne.symm e)] at hj
    exact (Below.heap_setCell w1 _ _ _ (hd j x hj e)).trans (h.2 x (List.mem_of_getElem? hj))
/-- a call on the box, where all blocks are older than the box or younger than what it owns -/
theorem St.bl {base b hi : Nat} {g : Cf} {tk ti tk0 ti0 : Int} {v v' : Value} {ms ms' : List Mp} (h : St L w w1) (T : Bat w1 base b g tk0 ti0 v ms) (hb : base ≤ b) (k : BL w1 w2 base b g v v' tk ti ms') (hw : w.heap.size ≤ base) (hb2 : b < hi) (ho : ∀ o, v.ownBlock = some o → o < hi) (hL : ∀ x ∈ L, x.1 < base ∨ hi ≤ x.1) : St L w w2 := by
  have hv : ∀ o, v.ownBlock = some o → base ≤ o := fun o e => (T.row.lt o e).1
  refine ⟨⟨k.chg.os.trans h.1.os, k.chg.tape.trans h.1.tape, k.chg.output.trans h.1.output, Nat.le_trans h.1.size k.chg.size, fun i hi' => ?_⟩, fun x hx => ?_⟩
  · rw [k.chg.block i (Nat.lt_of_lt_of_le hi' h.1.size) (by omega) (fun e => by have := hv i e.symm; omega)]
    exact h.1.block i hi'
  · have h1 := h.lt hx
    have h2 := hL x hx
    rw [k.chg.block x.1 h1 (by omega) (fun e => by have := hv x.1 e.symm; have := ho x.1 e.symm; omega)]
    exact h.2 x hx
end
end Go.Proofs.YthiljpbodmajaaaGreat
namespace Go.Proofs.YthiljpbodmajaaaGreat
open Go.RowKit Plain
set_option linter.unusedVariables false
/-- a store into the youngest block -/
theorem St.setLast {L : List (Nat × Array Value × TypeId)} {w w1 : World} {K : Nat} {cs : Array Value} {t : TypeId} (h : St (L ++ [(K, cs, t)]) w w1) (h0 : ∀ x ∈ L, x.1 < K) (hw : w.heap.size ≤ K) (i : Nat) (u : Value) : St (L ++ [(K, cs.setIfInBounds i u, t)]) w (w1.setCell ⟨K, i, none⟩ u) := by
  refine ⟨h.1.setCell hw u, fun x hx => ?_⟩
  rcases List.mem_append.1 hx with e | e
  · exact (Below.heap_setCell w1 _ _ _ (by have := h0 x e; show x.1 ≠ K; omega)).trans (h.2 x (List.mem_append_left _ e))
  · simp at e
    subst e
    exact heap_setCell_same u (h.2 (K, cs, t) (by simp))
theorem Tb.other3 {w : World} {base b o : Nat} {ty : TypeId} {cur : Array Value} {v : Value} {ms : List Mp} (T : Tb w base b o ty cur v ms) {p : Addr} (h1 : b ≠ p.block) (h2 : ∀ g, v.ownBlock = some g → g ≠ p.block) (u : Value) : Tb (w.setCell p u) base b o ty cur v ms :=
  ⟨(Below.heap_setCell w p u b h1).trans T.blk, T.at3, T.row.kept (fun g hg => Below.heap_setCell w p u g (h2 g hg)), T.ne, by simpa [World.setCell] using T.bs⟩
end Go.Proofs.YthiljpbodmajaaaGreat
namespace Go.Proofs.YthiljpbodmajaaaGreat
open Go.RowKit Plain
set_option linter.unusedVariables false
/-- the blocks and the box -/
structure StB (L : List (Nat × Array Value × TypeId)) (w : World) (base b : Nat) (c : Cf) (tk ti : Int) (v : Value) (ms : List Mp) (w' : World) : Prop where
  st : St L w w'
  bt : Bat w' base b c tk ti v ms
section
variable {L : List (Nat × Array Value × TypeId)} {w w1 w2 : World} {base b : Nat} {c : Cf} {tk ti : Int} {v : Value} {ms : List Mp}
theorem StB.next (h : StB L w base b c tk ti v ms w1) (k : Below w1.heap.size w1 w2) : StB L w base b c tk ti v ms w2 := ⟨h.st.next k, h.bt.below k⟩
theorem StB.drew (h : StB L w base b c tk ti v ms w1) : StB L w base b c tk ti v ms w1.drew := ⟨h.st.drew, Tb.drew h.bt⟩
theorem StB.at (k i : Nat) {K : Nat} {cs : Array Value} {t : TypeId} {u : Value} (hk : L[k]? = some (K, cs, t)) (hi : cs[i]? = some u) : ∀ w', StB L w base b c tk ti v ms w' → w'.cell? ⟨K, i, none⟩ = some u := fun w' h => St.at k i hk hi w' h.st
end
end Go.Proofs.YthiljpbodmajaaaGreat
namespace Go.Proofs.YthiljpbodmajaaaGreat
/-- a condition on worlds as a letter, under a name that simp does not open (go_simp passes by what has a letter at its head) -/
def Sof (S : World → Prop) (w : World) : Prop := S w
end Go.Proofs.YthiljpbodmajaaaGreat
