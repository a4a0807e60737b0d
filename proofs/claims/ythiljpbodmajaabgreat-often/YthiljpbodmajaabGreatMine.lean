/-
  CONTRACTS: natboxkeep.mine.
-/
import Derived.Test.YthiljpbodmajaabGreatLetp
import Derived.Deep.DeepCutAuto
namespace Go.Proofs.YthiljpbodmajaabGreat
open Go.RowKit Plain
set_option linter.unusedVariables false

theorem fill14_below {wB w : World} {B K : Nat} {v0 v1 v2 v3 v4 v5 v6 v7 v8 v9 v10 v11 v12 v13 : Value} (h : Below B wB w) (hK : B ≤ K) : Below B wB ((((((((((((((w.setCell ⟨K, 0, none⟩ v0).setCell ⟨K, 1, none⟩ v1).setCell ⟨K, 2, none⟩ v2).setCell ⟨K, 3, none⟩ v3).setCell ⟨K, 4, none⟩ v4).setCell ⟨K, 5, none⟩ v5).setCell ⟨K, 6, none⟩ v6).setCell ⟨K, 7, none⟩ v7).setCell ⟨K, 8, none⟩ v8).setCell ⟨K, 9, none⟩ v9).setCell ⟨K, 10, none⟩ v10).setCell ⟨K, 11, none⟩ v11).setCell ⟨K, 12, none⟩ v12).setCell ⟨K, 13, none⟩ v13) := ((((((((((((((h.setCell hK _).setCell hK _).setCell hK _).setCell hK _).setCell hK _).setCell hK _).setCell hK _).setCell hK _).setCell hK _).setCell hK _).setCell hK _).setCell hK _).setCell hK _).setCell hK _)
theorem fill14x {w : World} {K : Nat} {t : TypeId} {z0 z1 z2 z3 z4 z5 z6 z7 z8 z9 z10 z11 z12 z13 z14 z15 z16 z17 v0 v1 v2 v3 v4 v5 v6 v7 v8 v9 v10 v11 v12 v13 : Value} (h : w.heap[K]? = some (.cells #[z0, z1, z2, z3, z4, z5, z6, z7, z8, z9, z10, z11, z12, z13, z14, z15, z16, z17] t (0, 0))) : ((((((((((((((w.setCell ⟨K, 0, none⟩ v0).setCell ⟨K, 1, none⟩ v1).setCell ⟨K, 2, none⟩ v2).setCell ⟨K, 3, none⟩ v3).setCell ⟨K, 4, none⟩ v4).setCell ⟨K, 5, none⟩ v5).setCell ⟨K, 6, none⟩ v6).setCell ⟨K, 7, none⟩ v7).setCell ⟨K, 8, none⟩ v8).setCell ⟨K, 9, none⟩ v9).setCell ⟨K, 10, none⟩ v10).setCell ⟨K, 11, none⟩ v11).setCell ⟨K, 12, none⟩ v12).setCell ⟨K, 13, none⟩ v13).heap[K]? = some (.cells #[v0, v1, v2, v3, v4, v5, v6, v7, v8, v9, v10, v11, v12, v13, z14, z15, z16, z17] t (0, 0)) := by
  have e := (heap_setCell_same (o := 13) v13 (heap_setCell_same (o := 12) v12 (heap_setCell_same (o := 11) v11 (heap_setCell_same (o := 10) v10 (heap_setCell_same (o := 9) v9 (heap_setCell_same (o := 8) v8 (heap_setCell_same (o := 7) v7 (heap_setCell_same (o := 6) v6 (heap_setCell_same (o := 5) v5 (heap_setCell_same (o := 4) v4 (heap_setCell_same (o := 3) v3 (heap_setCell_same (o := 2) v2 (heap_setCell_same (o := 1) v1 (heap_setCell_same (o := 0) v0 h))))))))))))))
  simp only [List.setIfInBounds_toArray, List.set_cons_zero, List.set_cons_succ] at e
  exact e
theorem set18_14 {w : World} {K : Nat} {t : TypeId} {v0 v1 v2 v3 v4 v5 v6 v7 v8 v9 v10 v11 v12 v13 v14 v15 v16 v17 : Value} (u : Value) (h : w.heap[K]? = some (.cells #[v0, v1, v2, v3, v4, v5, v6, v7, v8, v9, v10, v11, v12, v13, v14, v15, v16, v17] t (0, 0))) : (w.setCell ⟨K, 14, none⟩ u).heap[K]? = some (.cells #[v0, v1, v2, v3, v4, v5, v6, v7, v8, v9, v10, v11, v12, v13, u, v15, v16, v17] t (0, 0)) := by
  have e := heap_setCell_same (o := 14) u h
  simp only [List.setIfInBounds_toArray, List.set_cons_zero, List.set_cons_succ] at e
  exact e
theorem set18_16 {w : World} {K : Nat} {t : TypeId} {v0 v1 v2 v3 v4 v5 v6 v7 v8 v9 v10 v11 v12 v13 v14 v15 v16 v17 : Value} (u : Value) (h : w.heap[K]? = some (.cells #[v0, v1, v2, v3, v4, v5, v6, v7, v8, v9, v10, v11, v12, v13, v14, v15, v16, v17] t (0, 0))) : (w.setCell ⟨K, 16, none⟩ u).heap[K]? = some (.cells #[v0, v1, v2, v3, v4, v5, v6, v7, v8, v9, v10, v11, v12, v13, v14, v15, u, v17] t (0, 0)) := by
  have e := heap_setCell_same (o := 16) u h
  simp only [List.setIfInBounds_toArray, List.set_cons_zero, List.set_cons_succ] at e
  exact e
theorem set18_17 {w : World} {K : Nat} {t : TypeId} {v0 v1 v2 v3 v4 v5 v6 v7 v8 v9 v10 v11 v12 v13 v14 v15 v16 v17 : Value} (u : Value) (h : w.heap[K]? = some (.cells #[v0, v1, v2, v3, v4, v5, v6, v7, v8, v9, v10, v11, v12, v13, v14, v15, v16, v17] t (0, 0))) : (w.setCell ⟨K, 17, none⟩ u).heap[K]? = some (.cells #[v0, v1, v2, v3, v4, v5, v6, v7, v8, v9, v10, v11, v12, v13, v14, v15, v16, u] t (0, 0)) := by
  have e := heap_setCell_same (o := 17) u h
  simp only [List.setIfInBounds_toArray, List.set_cons_zero, List.set_cons_succ] at e
  exact e
theorem cell18 {w : World} {K : Nat} {t : TypeId} {fr : Nat × Nat} {v0 v1 v2 v3 v4 v5 v6 v7 v8 v9 v10 v11 v12 v13 v14 v15 v16 v17 : Value} (h : w.heap[K]? = some (.cells #[v0, v1, v2, v3, v4, v5, v6, v7, v8, v9, v10, v11, v12, v13, v14, v15, v16, v17] t fr)) : w.cell? ⟨K, 0, none⟩ = some v0 ∧ w.cell? ⟨K, 1, none⟩ = some v1 ∧ w.cell? ⟨K, 2, none⟩ = some v2 ∧ w.cell? ⟨K, 3, none⟩ = some v3 ∧ w.cell? ⟨K, 4, none⟩ = some v4 ∧ w.cell? ⟨K, 5, none⟩ = some v5 ∧ w.cell? ⟨K, 6, none⟩ = some v6 ∧ w.cell? ⟨K, 7, none⟩ = some v7 ∧ w.cell? ⟨K, 8, none⟩ = some v8 ∧ w.cell? ⟨K, 9, none⟩ = some v9 ∧ w.cell? ⟨K, 10, none⟩ = some v10 ∧ w.cell? ⟨K, 11, none⟩ = some v11 ∧ w.cell? ⟨K, 12, none⟩ = some v12 ∧ w.cell? ⟨K, 13, none⟩ = some v13 ∧ w.cell? ⟨K, 14, none⟩ = some v14 ∧ w.cell? ⟨K, 15, none⟩ = some v15 ∧ w.cell? ⟨K, 16, none⟩ = some v16 ∧ w.cell? ⟨K, 17, none⟩ = some v17 :=
  ⟨cell_of_row w K 0 _ t fr h, cell_of_row w K 1 _ t fr h, cell_of_row w K 2 _ t fr h, cell_of_row w K 3 _ t fr h, cell_of_row w K 4 _ t fr h, cell_of_row w K 5 _ t fr h, cell_of_row w K 6 _ t fr h, cell_of_row w K 7 _ t fr h, cell_of_row w K 8 _ t fr h, cell_of_row w K 9 _ t fr h, cell_of_row w K 10 _ t fr h, cell_of_row w K 11 _ t fr h, cell_of_row w K 12 _ t fr h, cell_of_row w K 13 _ t fr h, cell_of_row w K 14 _ t fr h, cell_of_row w K 15 _ t fr h, cell_of_row w K 16 _ t fr h, cell_of_row w K 17 _ t fr h⟩
set_option maxHeartbeats 4000000 in
set_option maxRecDepth 4000 in
theorem mine_core (g : Cf) (d : Dg) (X Q R Z : ByteArray) (w : World) (ho : d.op.size ≤ 12) (cZ : RetB 45 #[.int .i64 0] (.string Z)) (cX : RetB 14 #[.agg (dgl d)] (.string X)) (cT : Ret 41 #[.string X, .int .i64 (28 + (d.op.size : Int))] (.string Q)) (cR : RetB 29 #[.agg #[.int .i64 1, .int .i64 0, .bool false, .int .i64 g.ia, .int .i64 0, .int .i64 d.sa, .int .i64 0, .int .i64 64, .int .i64 0, .int .i64 0, .string ⟨#[]⟩, .string ⟨#[]⟩, .string ⟨#[]⟩, .string ⟨#[]⟩, .int .i64 11, .int .i64 0, .string Z, .string Q]] (.string R)) :
    Calls Tryz.prog 15 #[.agg (cfl g), .agg (dgl d)] w fun e w' => e = .returned (.string R) ∧ Below w.heap.size w w' := by
  have hw28 : IntKind.i64.wrap (28 + (d.op.size : Int)) = 28 + (d.op.size : Int) := by rw [IntKind.wrap_i64]; omega
  unfold dgl at cX ⊢
  unfold cfl
  go_enter Tryz.func15, Tryz.ntmps15
  go_upto_region 2 with fail
  have W0 : Hid (Below w.heap.size w (((w.alloc (.cells #[.int .i64 g.ia, .int .i64 g.oa, .int .i64 g.lo, .int .i64 g.hi, .int .i64 g.cp, .int .i64 g.im, .int .i64 g.om, .int .i64 g.iu, .int .i64 g.it, .int .i64 g.iq, .int .i64 g.bu, .int .i64 g.ra] 23)).alloc (.cells #[.int .i64 d.pr, .int .i64 d.kd, .bool d.ba, .int .i64 d.sa, .int .i64 d.sp, .int .i64 d.da, .int .i64 d.dp, .int .i64 d.tl, .int .i64 d.bi, .int .i64 d.sr, .string d.op, .string d.md, .string d.tx, .string d.ta] 33)).alloc (.cells #[.int .i64 0, .int .i64 0, .bool false, .int .i64 0, .int .i64 0, .int .i64 0, .int .i64 0, .int .i64 0, .int .i64 0, .int .i64 0, .string ⟨#[]⟩, .string ⟨#[]⟩, .string ⟨#[]⟩, .string ⟨#[]⟩, .int .i64 0, .int .i64 0, .string ⟨#[]⟩, .string ⟨#[]⟩] 59))) := (((Below.refl w.heap.size w).alloc (Nat.le_refl _) _).alloc (by simp) _).alloc (by simp; omega) _
  have A0 : Hid _ := alloc3 w (.cells #[.int .i64 g.ia, .int .i64 g.oa, .int .i64 g.lo, .int .i64 g.hi, .int .i64 g.cp, .int .i64 g.im, .int .i64 g.om, .int .i64 g.iu, .int .i64 g.it, .int .i64 g.iq, .int .i64 g.bu, .int .i64 g.ra] 23) (.cells #[.int .i64 d.pr, .int .i64 d.kd, .bool d.ba, .int .i64 d.sa, .int .i64 d.sp, .int .i64 d.da, .int .i64 d.dp, .int .i64 d.tl, .int .i64 d.bi, .int .i64 d.sr, .string d.op, .string d.md, .string d.tx, .string d.ta] 33) (.cells #[.int .i64 0, .int .i64 0, .bool false, .int .i64 0, .int .i64 0, .int .i64 0, .int .i64 0, .int .i64 0, .int .i64 0, .int .i64 0, .string ⟨#[]⟩, .string ⟨#[]⟩, .string ⟨#[]⟩, .string ⟨#[]⟩, .int .i64 0, .int .i64 0, .string ⟨#[]⟩, .string ⟨#[]⟩] 59)
  have hs0 : w.heap.size + 1 + 1 < (((w.alloc (.cells #[.int .i64 g.ia, .int .i64 g.oa, .int .i64 g.lo, .int .i64 g.hi, .int .i64 g.cp, .int .i64 g.im, .int .i64 g.om, .int .i64 g.iu, .int .i64 g.it, .int .i64 g.iq, .int .i64 g.bu, .int .i64 g.ra] 23)).alloc (.cells #[.int .i64 d.pr, .int .i64 d.kd, .bool d.ba, .int .i64 d.sa, .int .i64 d.sp, .int .i64 d.da, .int .i64 d.dp, .int .i64 d.tl, .int .i64 d.bi, .int .i64 d.sr, .string d.op, .string d.md, .string d.tx, .string d.ta] 33)).alloc (.cells #[.int .i64 0, .int .i64 0, .bool false, .int .i64 0, .int .i64 0, .int .i64 0, .int .i64 0, .int .i64 0, .int .i64 0, .int .i64 0, .string ⟨#[]⟩, .string ⟨#[]⟩, .string ⟨#[]⟩, .string ⟨#[]⟩, .int .i64 0, .int .i64 0, .string ⟨#[]⟩, .string ⟨#[]⟩] 59)).heap.size := by simp
  generalize ((w.alloc (.cells #[.int .i64 g.ia, .int .i64 g.oa, .int .i64 g.lo, .int .i64 g.hi, .int .i64 g.cp, .int .i64 g.im, .int .i64 g.om, .int .i64 g.iu, .int .i64 g.it, .int .i64 g.iq, .int .i64 g.bu, .int .i64 g.ra] 23)).alloc (.cells #[.int .i64 d.pr, .int .i64 d.kd, .bool d.ba, .int .i64 d.sa, .int .i64 d.sp, .int .i64 d.da, .int .i64 d.dp, .int .i64 d.tl, .int .i64 d.bi, .int .i64 d.sr, .string d.op, .string d.md, .string d.tx, .string d.ta] 33)).alloc (.cells #[.int .i64 0, .int .i64 0, .bool false, .int .i64 0, .int .i64 0, .int .i64 0, .int .i64 0, .int .i64 0, .int .i64 0, .int .i64 0, .string ⟨#[]⟩, .string ⟨#[]⟩, .string ⟨#[]⟩, .string ⟨#[]⟩, .int .i64 0, .int .i64 0, .string ⟨#[]⟩, .string ⟨#[]⟩] 59) = w0 at W0 A0 hs0 ⊢
  have ga : w0.cell? ⟨w.heap.size, 0, none⟩ = some (.int .i64 g.ia) := cell_of_row _ _ 0 _ _ _ A0.out.1
  have da : w0.cell? ⟨w.heap.size + 1, 3, none⟩ = some (.int .i64 d.sa) := cell_of_row _ _ 3 _ _ _ A0.out.2.1
  obtain ⟨e0, e1, e2, e3, e4, e5, e6, e7, e8, e9, e10, e11, e12, e13, e14, e15, e16, e17⟩ := cell18 A0.out.2.2
  have f0 := nofrz A0.out.2.2
  go_cut [] (fun wx => Below w.heap.size w wx ∧ Below (w.heap.size + 1 + 1) w0 wx ∧ wx.heap[w.heap.size + 1 + 1]? = some (.cells #[.int .i64 1, .int .i64 0, .bool false, .int .i64 g.ia, .int .i64 0, .int .i64 d.sa, .int .i64 0, .int .i64 64, .int .i64 0, .int .i64 0, .string ⟨#[]⟩, .string ⟨#[]⟩, .string ⟨#[]⟩, .string ⟨#[]⟩, .int .i64 0, .int .i64 0, .string ⟨#[]⟩, .string ⟨#[]⟩] 59 (0, 0)))
  case first =>
    go_wp2_with fail
    go_meet
    exact ⟨fill14_below W0.out (by omega), fill14_below (Below.refl _ w0) (Nat.le_refl _), fill14x A0.out.2.2⟩
  case rest =>
    as_aux_lemma =>
     obtain ⟨W1x, B1x, M1x⟩ := hcut
     clear e0 e1 e2 e3 e4 e5 e6 e7 e8 e9 e10 e11 e12 e13 e14 e15 e16 e17 f0 ga da
     have W1' : Hid (Below w.heap.size w (wc.setCell ⟨w.heap.size + 1 + 1, 14, none⟩ (.int .i64 11))) := W1x.setCell (by show w.heap.size ≤ w.heap.size + 1 + 1; omega) _
     have B1' : Hid (Below (w.heap.size + 1 + 1) w0 (wc.setCell ⟨w.heap.size + 1 + 1, 14, none⟩ (.int .i64 11))) := B1x.setCell (Nat.le_refl _) _
     have M1' : Hid ((wc.setCell ⟨w.heap.size + 1 + 1, 14, none⟩ (.int .i64 11)).heap[w.heap.size + 1 + 1]? = some (.cells #[.int .i64 1, .int .i64 0, .bool false, .int .i64 g.ia, .int .i64 0, .int .i64 d.sa, .int .i64 0, .int .i64 64, .int .i64 0, .int .i64 0, .string ⟨#[]⟩, .string ⟨#[]⟩, .string ⟨#[]⟩, .string ⟨#[]⟩, .int .i64 11, .int .i64 0, .string ⟨#[]⟩, .string ⟨#[]⟩] 59 (0, 0))) := set18_14 (.int .i64 11) M1x
     have hsz : w.heap.size + 1 + 1 < (wc.setCell ⟨w.heap.size + 1 + 1, 14, none⟩ (.int .i64 11)).heap.size := (Array.getElem?_eq_some_iff.1 M1'.out).1
     have f14 := nofrz M1x
     have c14 : wc.cell? ⟨w.heap.size + 1 + 1, 14, none⟩ = some (.int .i64 0) := cell_of_row _ _ 14 _ _ _ M1x
     clear M1x W1x B1x
     go_wp2_with fail
     clear f14 c14
     generalize wc.setCell ⟨w.heap.size + 1 + 1, 14, none⟩ (.int .i64 11) = wd at W1' B1' M1' hsz ⊢
     refine Calls.mono (cZ.at _) ?_; rintro e w1 ⟨rfl, hb1⟩
     have D1 := (hb1.block (w.heap.size + 1) (by omega)).trans ((B1'.out.block (w.heap.size + 1) (by omega)).trans A0.out.2.1)
     have M1 := (hb1.block (w.heap.size + 1 + 1) hsz).trans M1'.out
     have W1 : Hid (Below w.heap.size w w1) := W1'.out.trans (hb1.mono W1'.out.size)
     have f1 := nofrz M1
     have c16 : w1.cell? ⟨w.heap.size + 1 + 1, 16, none⟩ = some (.string ⟨#[]⟩) := cell_of_row _ _ 16 _ _ _ M1
     have D2 : Hid ((w1.setCell ⟨w.heap.size + 1 + 1, 16, none⟩ (.string Z)).heap[w.heap.size + 1]? = some (.cells #[.int .i64 d.pr, .int .i64 d.kd, .bool d.ba, .int .i64 d.sa, .int .i64 d.sp, .int .i64 d.da, .int .i64 d.dp, .int .i64 d.tl, .int .i64 d.bi, .int .i64 d.sr, .string d.op, .string d.md, .string d.tx, .string d.ta] 33 (0, 0))) := (Below.heap_setCell w1 _ _ _ (by show w.heap.size + 1 ≠ w.heap.size + 1 + 1; omega)).trans D1
     have M2 : Hid ((w1.setCell ⟨w.heap.size + 1 + 1, 16, none⟩ (.string Z)).heap[w.heap.size + 1 + 1]? = some (.cells #[.int .i64 1, .int .i64 0, .bool false, .int .i64 g.ia, .int .i64 0, .int .i64 d.sa, .int .i64 0, .int .i64 64, .int .i64 0, .int .i64 0, .string ⟨#[]⟩, .string ⟨#[]⟩, .string ⟨#[]⟩, .string ⟨#[]⟩, .int .i64 11, .int .i64 0, .string Z, .string ⟨#[]⟩] 59 (0, 0))) := set18_16 (.string Z) M1
     have W2 : Hid (Below w.heap.size w (w1.setCell ⟨w.heap.size + 1 + 1, 16, none⟩ (.string Z))) := W1.out.setCell (by show w.heap.size ≤ w.heap.size + 1 + 1; omega) _
     clear hb1 A0 W0 hs0 D1 M1 W1 W1' B1' M1' hsz
     go_wp2
     generalize w1.setCell ⟨w.heap.size + 1 + 1, 16, none⟩ (.string Z) = w2 at D2 M2 W2 ⊢
     clear f1 c16
     obtain ⟨DB, hDB⟩ : ∃ DB, DB = w.heap.size + 1 := ⟨_, rfl⟩
     obtain ⟨MB, hMB⟩ : ∃ MB, MB = w.heap.size + 1 + 1 := ⟨_, rfl⟩
     rw [← hMB] at M2 ⊢
     rw [← hDB] at D2 ⊢
     have hlt : DB < MB := by omega
     have hwm : w.heap.size ≤ MB := by omega
     have hmz : MB < w2.heap.size := (Array.getElem?_eq_some_iff.1 M2.out).1
     clear hDB hMB
     have q0 : ∀ w', Below MB w2 w' → w'.cell? ⟨DB, 0, none⟩ = some (.int .i64 d.pr) := fun w' h => (h.cell (p := ⟨DB, 0, none⟩) hlt).trans (cell_of_row _ _ 0 _ _ _ D2.out)
     have q1 : ∀ w', Below MB w2 w' → w'.cell? ⟨DB, 1, none⟩ = some (.int .i64 d.kd) := fun w' h => (h.cell (p := ⟨DB, 1, none⟩) hlt).trans (cell_of_row _ _ 1 _ _ _ D2.out)
     have q2 : ∀ w', Below MB w2 w' → w'.cell? ⟨DB, 2, none⟩ = some (.bool d.ba) := fun w' h => (h.cell (p := ⟨DB, 2, none⟩) hlt).trans (cell_of_row _ _ 2 _ _ _ D2.out)
     have q3 : ∀ w', Below MB w2 w' → w'.cell? ⟨DB, 3, none⟩ = some (.int .i64 d.sa) := fun w' h => (h.cell (p := ⟨DB, 3, none⟩) hlt).trans (cell_of_row _ _ 3 _ _ _ D2.out)
     have q4 : ∀ w', Below MB w2 w' → w'.cell? ⟨DB, 4, none⟩ = some (.int .i64 d.sp) := fun w' h => (h.cell (p := ⟨DB, 4, none⟩) hlt).trans (cell_of_row _ _ 4 _ _ _ D2.out)
     have q5 : ∀ w', Below MB w2 w' → w'.cell? ⟨DB, 5, none⟩ = some (.int .i64 d.da) := fun w' h => (h.cell (p := ⟨DB, 5, none⟩) hlt).trans (cell_of_row _ _ 5 _ _ _ D2.out)
     have q6 : ∀ w', Below MB w2 w' → w'.cell? ⟨DB, 6, none⟩ = some (.int .i64 d.dp) := fun w' h => (h.cell (p := ⟨DB, 6, none⟩) hlt).trans (cell_of_row _ _ 6 _ _ _ D2.out)
     have q7 : ∀ w', Below MB w2 w' → w'.cell? ⟨DB, 7, none⟩ = some (.int .i64 d.tl) := fun w' h => (h.cell (p := ⟨DB, 7, none⟩) hlt).trans (cell_of_row _ _ 7 _ _ _ D2.out)
     have q8 : ∀ w', Below MB w2 w' → w'.cell? ⟨DB, 8, none⟩ = some (.int .i64 d.bi) := fun w' h => (h.cell (p := ⟨DB, 8, none⟩) hlt).trans (cell_of_row _ _ 8 _ _ _ D2.out)
     have q9 : ∀ w', Below MB w2 w' → w'.cell? ⟨DB, 9, none⟩ = some (.int .i64 d.sr) := fun w' h => (h.cell (p := ⟨DB, 9, none⟩) hlt).trans (cell_of_row _ _ 9 _ _ _ D2.out)
     have q10 : ∀ w', Below MB w2 w' → w'.cell? ⟨DB, 10, none⟩ = some (.string d.op) := fun w' h => (h.cell (p := ⟨DB, 10, none⟩) hlt).trans (cell_of_row _ _ 10 _ _ _ D2.out)
     have q11 : ∀ w', Below MB w2 w' → w'.cell? ⟨DB, 11, none⟩ = some (.string d.md) := fun w' h => (h.cell (p := ⟨DB, 11, none⟩) hlt).trans (cell_of_row _ _ 11 _ _ _ D2.out)
     have q12 : ∀ w', Below MB w2 w' → w'.cell? ⟨DB, 12, none⟩ = some (.string d.tx) := fun w' h => (h.cell (p := ⟨DB, 12, none⟩) hlt).trans (cell_of_row _ _ 12 _ _ _ D2.out)
     have q13 : ∀ w', Below MB w2 w' → w'.cell? ⟨DB, 13, none⟩ = some (.string d.ta) := fun w' h => (h.cell (p := ⟨DB, 13, none⟩) hlt).trans (cell_of_row _ _ 13 _ _ _ D2.out)
     have BD : Hid (Below MB w2 w2.drew) := (Below.refl MB w2).drew
     go_region_held (fun w' => Below MB w2 w') (first | (with_reducible assumption) | (with_reducible exact BD.out) | (with_reducible exact Below.setCell hkk (Nat.le_refl _) _)) (first
       | (go_at_call 14; refine Calls.mono (cX.at _) ?_; rintro e wk ⟨rfl, hbk⟩
          have hkk : Below MB w2 wk := BD.out.trans (hbk.mono (Nat.le_of_lt hmz))
          have MK : wk.heap[MB]? = some (.cells #[.int .i64 1, .int .i64 0, .bool false, .int .i64 g.ia, .int .i64 0, .int .i64 d.sa, .int .i64 0, .int .i64 64, .int .i64 0, .int .i64 0, .string ⟨#[]⟩, .string ⟨#[]⟩, .string ⟨#[]⟩, .string ⟨#[]⟩, .int .i64 11, .int .i64 0, .string Z, .string ⟨#[]⟩] 59 (0, 0)) := (hbk.block MB hmz).trans M2.out
          have WK : Hid (Below w.heap.size w wk) := W2.out.drew.trans (hbk.mono W2.out.size)
          have HMK : Hid _ := MK
          have zf := nofrz MK
          have zc : wk.cell? ⟨MB, 17, none⟩ = some (.string ⟨#[]⟩) := cell_of_row _ _ 17 _ _ _ MK
          clear MK)
       | (go_at_call 41; refine Calls.mono (cT.at _) ?_; rintro e w' ⟨rfl, hw⟩; replace hw := hw.symm; subst hw))
     all_goals
       have M9 : (wk.setCell ⟨MB, 17, none⟩ (.string Q)).heap[MB]? = some (.cells #[.int .i64 1, .int .i64 0, .bool false, .int .i64 g.ia, .int .i64 0, .int .i64 d.sa, .int .i64 0, .int .i64 64, .int .i64 0, .int .i64 0, .string ⟨#[]⟩, .string ⟨#[]⟩, .string ⟨#[]⟩, .string ⟨#[]⟩, .int .i64 11, .int .i64 0, .string Z, .string Q] 59 (0, 0)) := set18_17 (.string Q) HMK.out
       have W9 : Hid (Below w.heap.size w (wk.setCell ⟨MB, 17, none⟩ (.string Q))) := WK.out.setCell hwm _
       clear q0 q1 q2 q3 q4 q5 q6 q7 q8 q9 q10 q11 q12 q13 zf zc HMK WK cX cT
       generalize wk.setCell ⟨MB, 17, none⟩ (.string Q) = w9 at M9 W9 ⊢
       obtain ⟨e0, e1, e2, e3, e4, e5, e6, e7, e8, e9, e10, e11, e12, e13, e14, e15, e16, e17⟩ := cell18 M9
       clear M9
       go_wp2_with fail
       refine Calls.mono (cR.at _) ?_; rintro e w10 ⟨rfl, hb10⟩
       go_wp2
       go_ret
       exact ⟨rfl, W9.out.trans (hb10.mono W9.out.size)⟩
theorem mine_any (g : Cf) (d : Dg) (D : Dgok d) (f0 : 0 ≤ g.ia) (f1 : g.ia < 4294967296) : RetB 15 #[.agg (cfl g), .agg (dgl d)] (.string (lfr (mnl g.ia d.sa (prt (kfr d) 0 (28 + (d.op.size : Int)))))) := fun w => by
  have hz : (kfr d).size ≤ 200000 := by rw [kfr_size D]; have := (kbd_size D).1; have := D.ta; omega
  have hq : (prt (kfr d) 0 (28 + (d.op.size : Int))).size ≤ 100 := by rw [prt_size]; have := D.op; omega
  have cR := lframe_any (mnl g.ia d.sa (prt (kfr d) 0 (28 + (d.op.size : Int)))) (mnl_hd _ _ _ f0 f1 D.s0 D.s1) (by show 0 + (l4 0).size + (prt (kfr d) 0 (28 + (d.op.size : Int))).size ≤ 65511; rw [l4_size]; omega)
  have cX := kframe_any d D
  have cT := fun w => first_any (kfr d) (28 + (d.op.size : Int)) w (Nat.le_trans hz (by decide))
  generalize lfr (mnl g.ia d.sa (prt (kfr d) 0 (28 + (d.op.size : Int)))) = R at cR ⊢
  unfold ltl mnl at cR
  generalize prt (kfr d) 0 (28 + (d.op.size : Int)) = Q at cR cT
  generalize kfr d = X at cX cT
  exact mine_core g d X Q R (l4 0) w D.op (four_in 0 (by decide) (by decide)) cX cT cR
end Go.Proofs.YthiljpbodmajaabGreat
