/-
  CONTRACTS: package natbox: error messages that are carried (natbox/message.go).
-/
import Derived.Test.YthiljpbodmajaabGreatBoxo
import Derived.Test.YthiljpbodmajaabGreatSndw
import Derived.Test.YthiljpbodmajaabGreatQuow
namespace Go.Proofs.YthiljpbodmajaabGreat
open Go.RowKit Plain
set_option linter.unusedVariables false

theorem bsender_out {w : World} (b : Nat) (q : ByteArray) (pa pp sa sp oa : Int) (hb : b < w.heap.size) (h1 : w.cell? ⟨b, 1, none⟩ = some (.int .i64 oa)) (cS : RetB 136 #[.string q] (.agg #[.int .i64 sa, .int .i64 sp])) (hne : (sa != oa) = true) :
    Calls Tryz.prog 117 #[.pointer (some ⟨b, 0, none⟩), .string q, .agg #[.int .i64 pa, .int .i64 pp]] w fun e w' => e = .returned (.tuple #[.agg #[.int .i64 0, .int .i64 0], .bool false]) ∧ Below w.heap.size w w' := by
  go_enter Tryz.func117, Tryz.ntmps117
  go_wp2_with fail
  refine Calls.mono (cS.at _) ?_; rintro e w1 ⟨rfl, hb1⟩
  have HW1 : Hid (Below w.heap.size w w1) := (((Below.refl w.heap.size w).alloc (Nat.le_refl _) _).alloc (by simp) _).trans (hb1.mono (by simp; omega))
  have A1 := (hb1.block w.heap.size (by simp; omega)).trans (alloc2 w _ _).1
  have A2 := (hb1.block (w.heap.size + 1) (by simp)).trans (alloc2 w _ _).2
  obtain ⟨p0, p1⟩ := cell2 A1
  obtain ⟨r0, r1⟩ := cell2 A2
  have fr := nofrz A2
  have HA2 : Hid _ := A2
  have hz1 : w.heap.size + 1 < w1.heap.size := by have := hb1.size; simp at this; omega
  have hz0 : w.heap.size < w1.heap.size := by omega
  have hb' : b < w1.heap.size := by omega
  have h1' : w1.cell? ⟨b, 1, none⟩ = some (.int .i64 oa) := (HW1.out.cell (p := ⟨b, 1, none⟩) hb).trans h1
  clear hb1 A1 A2
  go_wp2
  try go_region
  all_goals
    try go_wp2
    refine bodyPost_ret (v := .tuple #[.agg #[.int .i64 0, .int .i64 0], .bool false]) (by simp [results, Tryz.results117, go_sem, r0, r1, hz1]) rfl ⟨rfl, ?_⟩
    repeat (first | refine Below.setCell ?_ (by simp <;> omega) _ | refine Below.drew ?_ | refine Below.alloc ?_ (by simp <;> omega) _)
    exact HW1.out
set_option maxHeartbeats 4000000 in
theorem bsender_in {w : World} (b : Nat) (q : ByteArray) (pa pp sp oa p ea ep : Int) (found : Bool) (hb : b < w.heap.size) (h1 : w.cell? ⟨b, 1, none⟩ = some (.int .i64 oa)) (cS : RetB 136 #[.string q] (.agg #[.int .i64 oa, .int .i64 sp])) (cP : Ret 77 #[.string q] (.int .i64 p))
    (cT : ∀ wx, Below w.heap.size w wx → Calls Tryz.prog 172 #[.pointer (some ⟨b, 12, none⟩), .int .i64 p, .int .i64 sp, .agg #[.int .i64 pa, .int .i64 pp]] wx fun e w' => e = .returned (.tuple #[.agg #[.int .i64 ea, .int .i64 ep], .bool found]) ∧ Below wx.heap.size wx w') :
    Calls Tryz.prog 117 #[.pointer (some ⟨b, 0, none⟩), .string q, .agg #[.int .i64 pa, .int .i64 pp]] w fun e w' => e = .returned (.tuple #[.agg #[.int .i64 ea, .int .i64 ep], .bool found]) ∧ Below w.heap.size w w' := by
  have CT : Hid _ := cT
  clear cT
  go_enter Tryz.func117, Tryz.ntmps117
  go_wp2_with fail
  refine Calls.mono (cS.at _) ?_; rintro e w1 ⟨rfl, hb1⟩
  have HW1 : Hid (Below w.heap.size w w1) := (((Below.refl w.heap.size w).alloc (Nat.le_refl _) _).alloc (by simp) _).trans (hb1.mono (by simp; omega))
  have A1 := (hb1.block w.heap.size (by simp; omega)).trans (alloc2 w _ _).1
  have A2 := (hb1.block (w.heap.size + 1) (by simp)).trans (alloc2 w _ _).2
  obtain ⟨p0, p1⟩ := cell2 A1
  obtain ⟨r0, r1⟩ := cell2 A2
  have fr := nofrz A2
  have HA2 : Hid _ := A2
  have hz1 : w.heap.size + 1 < w1.heap.size := by have := hb1.size; simp at this; omega
  have hz0 : w.heap.size < w1.heap.size := by omega
  have hb' : b < w1.heap.size := by omega
  have h1' : w1.cell? ⟨b, 1, none⟩ = some (.int .i64 oa) := (HW1.out.cell (p := ⟨b, 1, none⟩) hb).trans h1
  clear hb1 A1 A2
  go_wp2
  go_region
  all_goals
   go_wp2
   go_region_with (first
    | (go_at_call 77; refine Calls.mono (cP.at _) ?_; rintro e w' ⟨rfl, hw⟩; replace hw := hw.symm; subst hw)
    | (go_at_call 172
       refine Calls.mono (CT.out _ (HW1.out.trans ((((Below.refl _ _).alloc (Nat.le_refl _) _).drew.drew).mono (by omega)))) ?_
       rintro e w4 ⟨rfl, hr4⟩
       have H4 : Hid (Below w.heap.size w w4) := (HW1.out.trans ((((Below.refl _ _).alloc (Nat.le_refl _) _).drew.drew).mono (by omega))).trans (hr4.mono (by simp; omega))
       have B4 := (hr4.block (w.heap.size + 1) (by simp; omega)).trans ((Below.heap_alloc w1 (.cells #[.int .i64 oa, .int .i64 sp] 113) _ hz1).trans HA2.out)
       obtain ⟨x0, x1⟩ := cell2 B4
       have fx := nofrz B4
       have hx : w.heap.size + 1 < w4.heap.size := by have := hr4.size; simp at this; omega
       clear hr4 B4))
   all_goals
    go_wp2
    refine bodyPost_ret (v := .tuple #[.agg #[.int .i64 ea, .int .i64 ep], .bool found]) (by simp [results, Tryz.results117, go_sem, x0, x1]) rfl ⟨rfl, ?_⟩
    repeat (first | refine Below.setCell ?_ (by simp <;> omega) _ | refine Below.drew ?_)
    exact H4.out
theorem receiver_core {w : World} (b : Nat) (q : ByteArray) (da dp oa p x : Int) (found : Bool) (hb : b < w.heap.size) (h1 : w.cell? ⟨b, 1, none⟩ = some (.int .i64 oa)) (cD : RetB 124 #[.string q] (.agg #[.int .i64 da, .int .i64 dp])) (cP : Ret 77 #[.string q] (.int .i64 p))
    (cT : ∀ wx, Below w.heap.size w wx → Calls Tryz.prog 176 #[.pointer (some ⟨b, 12, none⟩), .int .i64 p, .agg #[.int .i64 da, .int .i64 dp]] wx fun e w' => e = .returned (.tuple #[.int .i64 x, .bool found]) ∧ Below wx.heap.size wx w') :
    Calls Tryz.prog 122 #[.pointer (some ⟨b, 0, none⟩), .string q] w fun e w' => e = .returned (.tuple #[.agg #[.int .i64 oa, .int .i64 x], .bool found]) ∧ Below w.heap.size w w' := by
  have CT : Hid _ := cT
  clear cT
  go_enter Tryz.func122, Tryz.ntmps122
  have HA0 : Hid _ := alloc1 w (.cells #[.int .i64 0, .int .i64 0] 113)
  go_wp2
  go_region_with (first
    | (go_at_call 77; refine Calls.mono (cP.at _) ?_; rintro e w' ⟨rfl, hw⟩; replace hw := hw.symm; subst hw)
    | (go_at_call 124
       refine Calls.mono (cD.at _) ?_; rintro e w1 ⟨rfl, hb1⟩
       have HW1 : Hid (Below w.heap.size w w1) := (((Below.refl w.heap.size w).alloc (Nat.le_refl _) _).drew).trans (hb1.mono (by simp))
       have HA1 : Hid _ := (hb1.block w.heap.size (by simp)).trans HA0.out
       have hz1 : w.heap.size < w1.heap.size := by have := hb1.size; simp at this; omega
       clear hb1)
    | (go_at_call 176
       refine Calls.mono (CT.out _ HW1.out) ?_; rintro e w4 ⟨rfl, hr4⟩
       have H4 : Hid (Below w.heap.size w w4) := HW1.out.trans (hr4.mono (by omega))
       have B4 := (hr4.block w.heap.size hz1).trans HA1.out
       obtain ⟨x0, x1⟩ := cell2 B4
       have fx := nofrz B4
       have hx : w.heap.size < w4.heap.size := by have := hr4.size; omega
       have hb' : b < w4.heap.size := by omega
       have h1' : w4.cell? ⟨b, 1, none⟩ = some (.int .i64 oa) := (H4.out.cell (p := ⟨b, 1, none⟩) hb).trans h1
       clear hr4 B4))
  go_wp2
  refine bodyPost_ret (v := .tuple #[.agg #[.int .i64 oa, .int .i64 x], .bool found]) (by simp [results, Tryz.results122, go_sem, x0, x1]) rfl ⟨rfl, ?_⟩
  repeat (first | refine Below.setCell ?_ (by simp <;> omega) _ | refine Below.drew ?_)
  exact H4.out
end Go.Proofs.YthiljpbodmajaabGreat
