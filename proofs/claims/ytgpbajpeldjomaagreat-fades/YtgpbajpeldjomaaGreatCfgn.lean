/-
  CONTRACTS: natbox.New, natboxref.New, natboxlaw.config, natboxlaw.num, natboxlaw.made.
-/
import Derived.Test.YtgpbajpeldjomaaGreatCfga
import Derived.RegionTactic
import Derived.Deep.RegionWith
import Derived.Deep.RegionHeld
namespace Go.Proofs.YtgpbajpeldjomaaGreat
open Go.RowKit Plain

theorem confB_valid (a0 a1 a2 a3 a4 a5 a6 a7 a8 a9 a10 a11 : Int) : confB a0 a1 a2 a3 a4 a5 a6 a7 a8 a9 a10 a11 = validB a0 a1 a2 a3 a4 a5 a6 a7 a8 a9 a10 a11 := by
  simp [confB, validB, limB, mtusB, idlesB, tailB, Bool.and_assoc]

theorem num_any (n : Int) (w : World) :
    Calls Tryz.prog 61 #[.int .i64 n] w fun e w' => e = .returned (.int .i64 n) ∧ w' = w := by
  go_enter Tryz.func61, Tryz.ntmps61
  go_wp2
  go_ret
  exact ⟨rfl, rfl⟩

set_option maxHeartbeats 1000000 in
theorem config_any (a0 a1 a2 a3 a4 a5 a6 a7 a8 a9 a10 a11 : Int) (w : World) :
    Calls Tryz.prog 62 #[.agg #[.int .i64 a0, .int .i64 a1, .int .i64 a2, .int .i64 a3, .int .i64 a4, .int .i64 a5, .int .i64 a6, .int .i64 a7, .int .i64 a8, .int .i64 a9, .int .i64 a10, .int .i64 a11]] w fun e w' => e = .returned (.agg #[.int .i64 a0, .int .i64 a1, .int .i64 a2, .int .i64 a3, .int .i64 a4, .int .i64 a5, .int .i64 a6, .int .i64 a7, .int .i64 a8, .int .i64 a9, .int .i64 a10, .int .i64 a11]) ∧ Below w.heap.size w w' := by
  go_enter Tryz.func62, Tryz.ntmps62
  go_wp2
  exact bodyPost_ret (v := .agg #[.int .i64 a0, .int .i64 a1, .int .i64 a2, .int .i64 a3, .int .i64 a4, .int .i64 a5, .int .i64 a6, .int .i64 a7, .int .i64 a8, .int .i64 a9, .int .i64 a10, .int .i64 a11]) (by simp [results, Tryz.results62, go_sem]) rfl ⟨rfl, ((Below.refl _ _).alloc (Nat.le_refl _) _).alloc (by simp) _⟩

set_option maxHeartbeats 1000000 in
theorem new_no (a0 a1 a2 a3 a4 a5 a6 a7 a8 a9 a10 a11 : Int) (w : World) (h : confB a0 a1 a2 a3 a4 a5 a6 a7 a8 a9 a10 a11 = false) :
    Calls Tryz.prog 27 #[.agg #[.int .i64 a0, .int .i64 a1, .int .i64 a2, .int .i64 a3, .int .i64 a4, .int .i64 a5, .int .i64 a6, .int .i64 a7, .int .i64 a8, .int .i64 a9, .int .i64 a10, .int .i64 a11]] w fun e w' => e = .returned (.tuple #[.pointer none, .int .i64 1]) ∧ Below w.heap.size w w' := by
  go_enter Tryz.func27, Tryz.ntmps27
  go_wp2_with fail
  refine (conf_any a0 a1 a2 a3 a4 a5 a6 a7 a8 a9 a10 a11 _).mono ?_; rintro e w1 ⟨rfl, hb1⟩
  go_wp2
  go_ret2
  exact ⟨rfl, ((Below.refl _ _).alloc (Nat.le_refl _) _).trans (hb1.mono (by simp))⟩
theorem mapNew_any (lo hi cp : Int) (w : World) :
    Calls Tryz.prog 52 #[.int .i64 lo, .int .i64 hi, .int .i64 cp] w fun e w' => e = .returned (.agg #[.int .i64 lo, .int .i64 hi, .int .i64 cp, .slice none 0 0]) ∧ Below w.heap.size w w' := by
  go_enter Tryz.func52, Tryz.ntmps52
  go_wp2
  exact bodyPost_ret (v := .agg #[.int .i64 lo, .int .i64 hi, .int .i64 cp, .slice none 0 0]) (by simp [results, Tryz.results52, go_sem]) rfl ⟨rfl, (Below.refl _ _).alloc (Nat.le_refl _) _⟩
set_option maxHeartbeats 1000000 in
theorem new_yes (a0 a1 a2 a3 a4 a5 a6 a7 a8 a9 a10 a11 : Int) (w : World) (h : confB a0 a1 a2 a3 a4 a5 a6 a7 a8 a9 a10 a11 = true) :
    Calls Tryz.prog 27 #[.agg #[.int .i64 a0, .int .i64 a1, .int .i64 a2, .int .i64 a3, .int .i64 a4, .int .i64 a5, .int .i64 a6, .int .i64 a7, .int .i64 a8, .int .i64 a9, .int .i64 a10, .int .i64 a11]] w fun e w' => ∃ b : Nat, e = .returned (.tuple #[.pointer (some ⟨b, 0, none⟩), .int .i64 0]) ∧ Below w.heap.size w w' ∧ w.heap.size ≤ b ∧
      w'.heap[b]? = some (.cells #[.int .i64 a0, .int .i64 a1, .int .i64 a2, .int .i64 a3, .int .i64 a4, .int .i64 a5, .int .i64 a6, .int .i64 a7, .int .i64 a8, .int .i64 a9, .int .i64 a10, .int .i64 a11, .int .i64 a2, .int .i64 a3, .int .i64 a4, .slice none 0 0, .int .i64 a10, .int .i64 0] 90 (0, 0)) := by
  have cM : RetB 52 #[.int .i64 a2, .int .i64 a3, .int .i64 a4] (.agg #[.int .i64 a2, .int .i64 a3, .int .i64 a4, .slice none 0 0]) := fun w => mapNew_any _ _ _ w
  go_enter Tryz.func27, Tryz.ntmps27
  go_wp2_with fail
  refine (conf_any a0 a1 a2 a3 a4 a5 a6 a7 a8 a9 a10 a11 _).mono ?_; rintro e w1 ⟨rfl, hb1⟩
  have hz1 : w.heap.size < w1.heap.size := by have := hb1.size; simp at this; omega
  have HW : Hid (Below w.heap.size w w1) := ((Below.refl _ _).alloc (Nat.le_refl _) _).trans (hb1.mono (by simp))
  have B0 : w1.heap[w.heap.size]? = some (.cells #[.int .i64 a0, .int .i64 a1, .int .i64 a2, .int .i64 a3, .int .i64 a4, .int .i64 a5, .int .i64 a6, .int .i64 a7, .int .i64 a8, .int .i64 a9, .int .i64 a10, .int .i64 a11] 28 (0, 0)) := (hb1.block w.heap.size (by simp)).trans (by show (w.heap.push _)[w.heap.size]? = _; simp)
  have q0 : ∀ w', Below w1.heap.size w1 w' → w'.cell? ⟨w.heap.size, 0, none⟩ = some (.int .i64 a0) := fun w' h => (h.cell (p := ⟨w.heap.size, 0, none⟩) hz1).trans (cell_of_row _ _ _ _ _ _ B0)
  have q1 : ∀ w', Below w1.heap.size w1 w' → w'.cell? ⟨w.heap.size, 1, none⟩ = some (.int .i64 a1) := fun w' h => (h.cell (p := ⟨w.heap.size, 1, none⟩) hz1).trans (cell_of_row _ _ _ _ _ _ B0)
  have q2 : ∀ w', Below w1.heap.size w1 w' → w'.cell? ⟨w.heap.size, 2, none⟩ = some (.int .i64 a2) := fun w' h => (h.cell (p := ⟨w.heap.size, 2, none⟩) hz1).trans (cell_of_row _ _ _ _ _ _ B0)
  have q3 : ∀ w', Below w1.heap.size w1 w' → w'.cell? ⟨w.heap.size, 3, none⟩ = some (.int .i64 a3) := fun w' h => (h.cell (p := ⟨w.heap.size, 3, none⟩) hz1).trans (cell_of_row _ _ _ _ _ _ B0)
  have q4 : ∀ w', Below w1.heap.size w1 w' → w'.cell? ⟨w.heap.size, 4, none⟩ = some (.int .i64 a4) := fun w' h => (h.cell (p := ⟨w.heap.size, 4, none⟩) hz1).trans (cell_of_row _ _ _ _ _ _ B0)
  have q5 : ∀ w', Below w1.heap.size w1 w' → w'.cell? ⟨w.heap.size, 5, none⟩ = some (.int .i64 a5) := fun w' h => (h.cell (p := ⟨w.heap.size, 5, none⟩) hz1).trans (cell_of_row _ _ _ _ _ _ B0)
  have q6 : ∀ w', Below w1.heap.size w1 w' → w'.cell? ⟨w.heap.size, 6, none⟩ = some (.int .i64 a6) := fun w' h => (h.cell (p := ⟨w.heap.size, 6, none⟩) hz1).trans (cell_of_row _ _ _ _ _ _ B0)
  have q7 : ∀ w', Below w1.heap.size w1 w' → w'.cell? ⟨w.heap.size, 7, none⟩ = some (.int .i64 a7) := fun w' h => (h.cell (p := ⟨w.heap.size, 7, none⟩) hz1).trans (cell_of_row _ _ _ _ _ _ B0)
  have q8 : ∀ w', Below w1.heap.size w1 w' → w'.cell? ⟨w.heap.size, 8, none⟩ = some (.int .i64 a8) := fun w' h => (h.cell (p := ⟨w.heap.size, 8, none⟩) hz1).trans (cell_of_row _ _ _ _ _ _ B0)
  have q9 : ∀ w', Below w1.heap.size w1 w' → w'.cell? ⟨w.heap.size, 9, none⟩ = some (.int .i64 a9) := fun w' h => (h.cell (p := ⟨w.heap.size, 9, none⟩) hz1).trans (cell_of_row _ _ _ _ _ _ B0)
  have q10 : ∀ w', Below w1.heap.size w1 w' → w'.cell? ⟨w.heap.size, 10, none⟩ = some (.int .i64 a10) := fun w' h => (h.cell (p := ⟨w.heap.size, 10, none⟩) hz1).trans (cell_of_row _ _ _ _ _ _ B0)
  have q11 : ∀ w', Below w1.heap.size w1 w' → w'.cell? ⟨w.heap.size, 11, none⟩ = some (.int .i64 a11) := fun w' h => (h.cell (p := ⟨w.heap.size, 11, none⟩) hz1).trans (cell_of_row _ _ _ _ _ _ B0)
  clear hb1 B0
  go_wp2
  go_region_held (fun w' => Below w1.heap.size w1 w') (first | assumption | exact Below.drew (Below.refl _ _) | exact Below.alloc (by assumption) (by assumption) _) (first
    | (go_at_call 52; refine Calls.mono (cM.at _) ?_; rintro e w2 ⟨rfl, hb2⟩; have hz2 : w1.heap.size ≤ w2.heap.size := hb2.size; have hk2 : Below w1.heap.size w1 w2 := Below.trans (Below.drew (Below.refl w1.heap.size w1)) hb2))
  all_goals
    go_wp2
    go_ret2
    refine ⟨_, rfl, ?_, ?_, ?_⟩
    · exact (HW.out.trans (hk2.mono (by omega))).alloc (by omega) _
    · omega
    · show (w2.heap.push _)[w2.heap.size]? = _
      simp

set_option maxHeartbeats 1000000 in
theorem refNew_no (a0 a1 a2 a3 a4 a5 a6 a7 a8 a9 a10 a11 : Int) (w : World) (g0 : a0 < 9223372036854775808) (g1 : a1 < 9223372036854775808) (h : validB a0 a1 a2 a3 a4 a5 a6 a7 a8 a9 a10 a11 = false) :
    Calls Tryz.prog 63 #[.agg #[.int .i64 a0, .int .i64 a1, .int .i64 a2, .int .i64 a3, .int .i64 a4, .int .i64 a5, .int .i64 a6, .int .i64 a7, .int .i64 a8, .int .i64 a9, .int .i64 a10, .int .i64 a11]] w fun e w' => e = .returned (.pointer none) ∧ Below w.heap.size w w' := by
  go_enter Tryz.func63, Tryz.ntmps63
  go_wp2_with fail
  refine (valid_any a0 a1 a2 a3 a4 a5 a6 a7 a8 a9 a10 a11 _ g0 g1).mono ?_; rintro e w1 ⟨rfl, hb1⟩
  go_wp2
  go_ret
  exact ⟨rfl, ((Below.refl _ _).alloc (Nat.le_refl _) _).trans (hb1.mono (by simp))⟩
set_option maxHeartbeats 1000000 in
theorem refNew_yes (a0 a1 a2 a3 a4 a5 a6 a7 a8 a9 a10 a11 : Int) (w : World) (g0 : a0 < 9223372036854775808) (g1 : a1 < 9223372036854775808) (h : validB a0 a1 a2 a3 a4 a5 a6 a7 a8 a9 a10 a11 = true) :
    Calls Tryz.prog 63 #[.agg #[.int .i64 a0, .int .i64 a1, .int .i64 a2, .int .i64 a3, .int .i64 a4, .int .i64 a5, .int .i64 a6, .int .i64 a7, .int .i64 a8, .int .i64 a9, .int .i64 a10, .int .i64 a11]] w fun e w' => ∃ b : Nat, e = .returned (.pointer (some ⟨b, 0, none⟩)) ∧ Below w.heap.size w w' := by
  go_enter Tryz.func63, Tryz.ntmps63
  go_wp2_with fail
  refine (valid_any a0 a1 a2 a3 a4 a5 a6 a7 a8 a9 a10 a11 _ g0 g1).mono ?_; rintro e w1 ⟨rfl, hb1⟩
  obtain ⟨hc1, hf1⟩ := bcell hb1
  have hz1 : w.heap.size < w1.heap.size := by have := hb1.size; simp at this; omega
  go_wp2
  go_ret
  exact ⟨_, rfl, (((Below.refl _ _).alloc (Nat.le_refl _) _).trans (hb1.mono (by simp))).alloc (by omega) _⟩

set_option maxHeartbeats 1000000 in
theorem made_any (a0 a1 a2 a3 a4 a5 a6 a7 a8 a9 a10 a11 : Int) (w : World) (g0 : a0 < 9223372036854775808) (g1 : a1 < 9223372036854775808) :
    Calls Tryz.prog 35 #[.agg #[.int .i64 a0, .int .i64 a1, .int .i64 a2, .int .i64 a3, .int .i64 a4, .int .i64 a5, .int .i64 a6, .int .i64 a7, .int .i64 a8, .int .i64 a9, .int .i64 a10, .int .i64 a11]] w fun e w' => ∃ x r : Option Addr, e = .returned (.tuple #[.agg #[.pointer x, .pointer r], .bool true]) ∧ Below w.heap.size w w' := by
  cases hv : validB a0 a1 a2 a3 a4 a5 a6 a7 a8 a9 a10 a11
  · have hc : confB a0 a1 a2 a3 a4 a5 a6 a7 a8 a9 a10 a11 = false := by rw [confB_valid]; exact hv
    have HV : Hid _ := hv
    have HC : Hid _ := hc
    clear hv hc
    go_enter Tryz.func35, Tryz.ntmps35
    go_wp2_with fail
    refine (config_any a0 a1 a2 a3 a4 a5 a6 a7 a8 a9 a10 a11 _).mono ?_; rintro e w1 ⟨rfl, hb1⟩
    obtain ⟨hc1, hf1⟩ := bcell hb1
    have hz1 : w.heap.size + 1 < w1.heap.size := by have := hb1.size; simp at this; omega
    have hy1 : w.heap.size < w1.heap.size := by omega
    go_wp2_with fail
    refine (new_no a0 a1 a2 a3 a4 a5 a6 a7 a8 a9 a10 a11 _ HC.out).mono ?_; rintro e w2 ⟨rfl, hb2⟩
    obtain ⟨hc2, hf2⟩ := bcell hb2
    have hz2 : w.heap.size + 1 < w2.heap.size := by have := hb2.size; omega
    have hy2 : w.heap.size < w2.heap.size := by omega
    go_wp2_with fail
    refine (refNew_no a0 a1 a2 a3 a4 a5 a6 a7 a8 a9 a10 a11 _ g0 g1 HV.out).mono ?_; rintro e w3 ⟨rfl, hb3⟩
    obtain ⟨hc3, hf3⟩ := bcell hb3
    have hz3 : w.heap.size + 1 < w3.heap.size := by have := hb3.size; omega
    have hy3 : w.heap.size < w3.heap.size := by omega
    go_wp2_with (go_at_call 61; refine (num_any _ _).mono ?_; rintro e w' ⟨rfl, rfl⟩)
    exact bodyPost_ret (v := .tuple #[.agg #[.pointer none, .pointer none], .bool true]) (by simp [results, Tryz.results35, go_sem, hc1, hc2, hc3, hz1, hz2]) rfl
      ⟨none, none, rfl, (((((((Below.refl _ _).alloc (Nat.le_refl _) _).alloc (by simp) _).trans (hb1.mono (by simp; omega))).trans (hb2.mono (by omega))).trans (hb3.mono (by omega))).setCell (by simp) _).setCell (by simp) _⟩
  · have hc : confB a0 a1 a2 a3 a4 a5 a6 a7 a8 a9 a10 a11 = true := by rw [confB_valid]; exact hv
    have HV : Hid _ := hv
    have HC : Hid _ := hc
    clear hv hc
    go_enter Tryz.func35, Tryz.ntmps35
    go_wp2_with fail
    refine (config_any a0 a1 a2 a3 a4 a5 a6 a7 a8 a9 a10 a11 _).mono ?_; rintro e w1 ⟨rfl, hb1⟩
    obtain ⟨hc1, hf1⟩ := bcell hb1
    have hz1 : w.heap.size + 1 < w1.heap.size := by have := hb1.size; simp at this; omega
    have hy1 : w.heap.size < w1.heap.size := by omega
    go_wp2_with fail
    refine (new_yes a0 a1 a2 a3 a4 a5 a6 a7 a8 a9 a10 a11 _ HC.out).mono ?_; rintro e w2 ⟨x2, rfl, hb2, _, _⟩
    obtain ⟨hc2, hf2⟩ := bcell hb2
    have hz2 : w.heap.size + 1 < w2.heap.size := by have := hb2.size; omega
    have hy2 : w.heap.size < w2.heap.size := by omega
    go_wp2_with fail
    refine (refNew_yes a0 a1 a2 a3 a4 a5 a6 a7 a8 a9 a10 a11 _ g0 g1 HV.out).mono ?_; rintro e w3 ⟨x3, rfl, hb3⟩
    obtain ⟨hc3, hf3⟩ := bcell hb3
    have hz3 : w.heap.size + 1 < w3.heap.size := by have := hb3.size; omega
    have hy3 : w.heap.size < w3.heap.size := by omega
    go_wp2_with (go_at_call 61; refine (num_any _ _).mono ?_; rintro e w' ⟨rfl, rfl⟩)
    exact bodyPost_ret (v := .tuple #[.agg #[.pointer (some ⟨x2, 0, none⟩), .pointer (some ⟨x3, 0, none⟩)], .bool true]) (by simp [results, Tryz.results35, go_sem, hc1, hc2, hc3, hz1, hz2]) rfl
      ⟨_, _, rfl, (((((((Below.refl _ _).alloc (Nat.le_refl _) _).alloc (by simp) _).trans (hb1.mono (by simp; omega))).trans (hb2.mono (by omega))).trans (hb3.mono (by omega))).setCell (by simp) _).setCell (by simp) _⟩
end Go.Proofs.YtgpbajpeldjomaaGreat
