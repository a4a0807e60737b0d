/-
  CONTRACTS: package natboxkeep: in, from.
-/
import Derived.Test.YthiljpbodmajaaaGreatKepz
namespace Go.Proofs.YthiljpbodmajaaaGreat
open Go.RowKit Plain
set_option linter.unusedVariables false

theorem in_any (d : Dg) (a x : Int) (t0 : 0 ≤ d.tl) (t1 : d.tl ≤ 255) : RetB 21 #[.agg (dgl d), .int .i64 a, .int .i64 x] (.agg (dgl { d with da := a, dp := x, tl := d.tl - 1 })) := fun w => by
  unfold dgl
  go_enter Tryz.func21, Tryz.ntmps21
  go_wp2
  refine bodyPost_ret (v := .agg (dgl { d with da := a, dp := x, tl := d.tl - 1 })) (by simp [results, Tryz.results21, go_sem, dgl]) rfl ⟨rfl, ?_⟩
  exact ((Below.refl _ _).alloc (Nat.le_refl _) _).alloc (by simp) _
/-- an answer's kind -/
def akd (k : Int) : Int := if k = 8 then 0 else if k = 13 then 14 else k
theorem cel12 {w : World} {g : Nat} {t : TypeId} {fr : Nat × Nat} {v0 v1 v2 v3 v4 v5 v6 v7 v8 v9 v10 v11 : Value} (h : w.heap[g]? = some (.cells #[v0, v1, v2, v3, v4, v5, v6, v7, v8, v9, v10, v11] t fr)) : w.cell? ⟨g, 0, none⟩ = some v0 ∧ w.cell? ⟨g, 1, none⟩ = some v1 ∧ w.cell? ⟨g, 2, none⟩ = some v2 ∧ w.cell? ⟨g, 3, none⟩ = some v3 ∧ w.cell? ⟨g, 4, none⟩ = some v4 ∧ w.cell? ⟨g, 5, none⟩ = some v5 ∧ w.cell? ⟨g, 6, none⟩ = some v6 ∧ w.cell? ⟨g, 7, none⟩ = some v7 ∧ w.cell? ⟨g, 8, none⟩ = some v8 ∧ w.cell? ⟨g, 9, none⟩ = some v9 ∧ w.cell? ⟨g, 10, none⟩ = some v10 ∧ w.cell? ⟨g, 11, none⟩ = some v11 :=
  ⟨cell_of_row w g 0 _ t fr h, cell_of_row w g 1 _ t fr h, cell_of_row w g 2 _ t fr h, cell_of_row w g 3 _ t fr h, cell_of_row w g 4 _ t fr h, cell_of_row w g 5 _ t fr h, cell_of_row w g 6 _ t fr h, cell_of_row w g 7 _ t fr h, cell_of_row w g 8 _ t fr h, cell_of_row w g 9 _ t fr h, cell_of_row w g 10 _ t fr h, cell_of_row w g 11 _ t fr h⟩
set_option maxHeartbeats 8000000 in
theorem from_core (c : Cf) (P : Dg → Prop) (ext k0 k1 k2 k3 k4 k5 k6 k7 k8 : Int) (m0 m1 m2 : ByteArray) (w : World)
    (cS : ∀ wx, Calls Tryz.prog 13 #[.agg #[.int .i64 k0, .int .i64 k1, .int .i64 k2, .int .i64 k3, .int .i64 k4, .int .i64 k5, .int .i64 k6, .int .i64 k7, .int .i64 k8, .string m0, .string m1, .string m2], .agg (cfl c), .int .i64 c.im] wx fun e w' => ∃ d, e = .returned (.agg (dgl d)) ∧ P d ∧ Below wx.heap.size wx w') :
    Calls Tryz.prog 20 #[.agg #[.int .i64 k0, .int .i64 k1, .int .i64 k2, .int .i64 k3, .int .i64 k4, .int .i64 k5, .int .i64 k6, .int .i64 k7, .int .i64 k8, .string m0, .string m1, .string m2], .agg (cfl c), .int .i64 ext] w
      fun e w' => ∃ d, e = .returned (.agg (dgl { d with da := c.oa, dp := ext, kd := akd d.kd })) ∧ P d ∧ Below w.heap.size w w' := by
  unfold cfl at cS ⊢
  unfold dgl at cS
  have CS : Hid _ := cS
  clear cS
  go_enter Tryz.func20, Tryz.ntmps20
  go_wp2_with fail
  refine Calls.mono (CS.out _) ?_; rintro e w1 ⟨d, rfl, hP, hb1⟩
  have HP : Hid _ := hP
  clear CS hP
  have R1 : w1.heap[w.heap.size + 1 + 1]? = some (.cells #[.int .i64 0, .int .i64 0, .bool false, .int .i64 0, .int .i64 0, .int .i64 0, .int .i64 0, .int .i64 0, .int .i64 0, .int .i64 0, .string ⟨#[]⟩, .string ⟨#[]⟩, .string ⟨#[]⟩, .string ⟨#[]⟩] 33 (0, 0)) := (hb1.block _ (by simp)).trans (alloc3 w _ _ _).2.2
  have G1 := (hb1.block (w.heap.size + 1) (by simp)).trans (alloc3 w _ _ _).2.1
  obtain ⟨g0, g1, g2, g3, g4, g5, g6, g7, g8, g9, g10, g11⟩ := cel12 G1
  obtain ⟨y0, y1, y2, y3, y4, y5, y6, y7, y8, y9, y10, y11, y12, y13⟩ := cell14 R1
  have fR := nofrz R1
  have hz1 : w.heap.size + 1 + 1 < w1.heap.size := by have := hb1.size; simp at this; omega
  have hz0 : w.heap.size + 1 < w1.heap.size := by omega
  have HW1 : Hid (Below w.heap.size w w1) := ((((Below.refl w.heap.size w).alloc (Nat.le_refl _) _).alloc (by simp) _).alloc (by simp; omega) _).trans (hb1.mono (by simp; omega))
  clear hb1 R1 G1
  by_cases c8 : d.kd = 8
  · have e8 : Hid (akd d.kd = 0) := by show _ = _; unfold akd; rw [if_pos c8]
    go_wp2
    refine bodyPost_ret (v := .agg #[.int .i64 d.pr, .int .i64 0, .bool d.ba, .int .i64 d.sa, .int .i64 d.sp, .int .i64 c.oa, .int .i64 ext, .int .i64 d.tl, .int .i64 d.bi, .int .i64 d.sr, .string d.op, .string d.md, .string d.tx, .string d.ta]) (by simp [results, Tryz.results20, go_sem, y0, y1, y2, y3, y4, y5, y6, y7, y8, y9, y10, y11, y12, y13, hz1]) rfl ⟨d, by simp only [dgl, e8.out], HP.out, ?_⟩
    refine Below.alloc ?_ (by simp [World.setCell]; omega) _
    repeat refine Below.setCell ?_ (by simp <;> omega) _
    exact HW1.out
  by_cases c13 : d.kd = 13
  · have e8 : Hid (akd d.kd = 14) := by show _ = _; unfold akd; rw [if_neg c8, if_pos c13]
    have c8' : (d.kd == 8) = false := by simpa using c8
    clear c8
    go_wp2
    refine bodyPost_ret (v := .agg #[.int .i64 d.pr, .int .i64 14, .bool d.ba, .int .i64 d.sa, .int .i64 d.sp, .int .i64 c.oa, .int .i64 ext, .int .i64 d.tl, .int .i64 d.bi, .int .i64 d.sr, .string d.op, .string d.md, .string d.tx, .string d.ta]) (by simp [results, Tryz.results20, go_sem, y0, y1, y2, y3, y4, y5, y6, y7, y8, y9, y10, y11, y12, y13, hz1]) rfl ⟨d, by simp only [dgl, e8.out], HP.out, ?_⟩
    refine Below.alloc ?_ (by simp [World.setCell]; omega) _
    repeat refine Below.setCell ?_ (by simp <;> omega) _
    exact HW1.out
  · have e8 : Hid (akd d.kd = d.kd) := by show _ = _; unfold akd; rw [if_neg c8, if_neg c13]
    have c8' : (d.kd == 8) = false := by simpa using c8
    have c13' : (d.kd == 13) = false := by simpa using c13
    clear c8 c13
    go_wp2
    refine bodyPost_ret (v := .agg #[.int .i64 d.pr, .int .i64 d.kd, .bool d.ba, .int .i64 d.sa, .int .i64 d.sp, .int .i64 c.oa, .int .i64 ext, .int .i64 d.tl, .int .i64 d.bi, .int .i64 d.sr, .string d.op, .string d.md, .string d.tx, .string d.ta]) (by simp [results, Tryz.results20, go_sem, y0, y1, y2, y3, y4, y5, y6, y7, y8, y9, y10, y11, y12, y13, hz1]) rfl ⟨d, by simp only [dgl, e8.out], HP.out, ?_⟩
    refine Below.alloc ?_ (by simp [World.setCell]; omega) _
    repeat refine Below.setCell ?_ (by simp <;> omega) _
    exact HW1.out
end Go.Proofs.YthiljpbodmajaaaGreat
