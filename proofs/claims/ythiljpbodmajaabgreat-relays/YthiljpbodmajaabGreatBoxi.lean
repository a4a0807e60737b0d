/-
  CONTRACTS: package natbox: asked, inward, back.
-/
import Derived.Test.YthiljpbodmajaabGreatBoxo
namespace Go.Proofs.YthiljpbodmajaabGreat
open Go.RowKit Plain
set_option linter.unusedVariables false

theorem asked_core {w : World} (b : Nat) (s : ByteArray) (p da dp ea ep : Int) (found : Bool) (hb : b < w.heap.size)
    (cD : RetB 124 #[.string s] (.agg #[.int .i64 da, .int .i64 dp])) (cP : Ret 77 #[.string s] (.int .i64 p))
    (cT : ∀ wx, Below w.heap.size w wx → Calls Tryz.prog 125 #[.pointer (some ⟨b, 12, none⟩), .int .i64 p, .int .i64 dp] wx fun e w' => e = .returned (.tuple #[.agg #[.int .i64 ea, .int .i64 ep], .bool found]) ∧ Below wx.heap.size wx w') :
    Calls Tryz.prog 83 #[.pointer (some ⟨b, 0, none⟩), .string s] w fun e w' => e = .returned (.tuple #[.agg #[.int .i64 ea, .int .i64 ep], .bool found]) ∧ Below w.heap.size w w' := by
  have CT : Hid _ := cT
  clear cT
  go_enter Tryz.func83, Tryz.ntmps83
  go_wp2_with fail
  refine Calls.mono (cD.at _) ?_; rintro e w1 ⟨rfl, hb1⟩
  have HW1 : Hid (Below w.heap.size w w1) := ((Below.refl w.heap.size w).alloc (Nat.le_refl _) _).trans (hb1.mono (by simp))
  have B1 : Hid _ := (hb1.block w.heap.size (by simp)).trans (alloc1 w _)
  have hz1 : w.heap.size < w1.heap.size := by have := hb1.size; simp at this; omega
  clear hb1
  go_wp2
  go_region_with (first
    | (go_at_call 77; refine Calls.mono (cP.at _) ?_; rintro e w' ⟨rfl, hw⟩; replace hw := hw.symm; subst hw)
    | (go_at_call 125
       refine Calls.mono (CT.out _ (HW1.out.trans ((((Below.refl _ _).alloc (Nat.le_refl _) _).drew).mono (by omega)))) ?_
       rintro e w4 ⟨rfl, hr4⟩
       have H4 : Hid (Below w.heap.size w w4) := (HW1.out.trans ((((Below.refl _ _).alloc (Nat.le_refl _) _).drew).mono (by omega))).trans (hr4.mono (by simp; omega))
       have B4 := (hr4.block w.heap.size (by simp; omega)).trans ((Below.heap_alloc w1 (.cells #[.int .i64 da, .int .i64 dp] 113) _ hz1).trans B1.out)
       obtain ⟨x0, x1⟩ := cell2 B4
       have fx := nofrz B4
       have hx : w.heap.size < w4.heap.size := by have := hr4.size; simp at this; omega
       clear hr4 B4))
  all_goals
    go_wp2
    refine bodyPost_ret (v := .tuple #[.agg #[.int .i64 ea, .int .i64 ep], .bool found]) (by simp [results, Tryz.results83, go_sem, x0, x1]) rfl ⟨rfl, ?_⟩
    repeat (first | refine Below.setCell ?_ (by simp <;> omega) _ | refine Below.drew ?_)
    exact H4.out
theorem inward_none {w : World} (b : Nat) (s : ByteArray) (ea ep : Int)
    (cA : ∀ wx, Below w.heap.size w wx → Calls Tryz.prog 83 #[.pointer (some ⟨b, 0, none⟩), .string s] wx fun e w' => e = .returned (.tuple #[.agg #[.int .i64 ea, .int .i64 ep], .bool false]) ∧ Below wx.heap.size wx w') :
    Calls Tryz.prog 50 #[.pointer (some ⟨b, 0, none⟩), .string s] w fun e w' => e = .returned (rpv 8 0 ⟨#[]⟩) ∧ Below w.heap.size w w' := by
  have CA : Hid _ := cA
  clear cA
  go_enter Tryz.func50, Tryz.ntmps50
  go_wp2_with fail
  refine Calls.mono (CA.out _ ((Below.refl _ _).alloc (Nat.le_refl _) _)) ?_; rintro e w1 ⟨rfl, hr1⟩
  have HW1 : Hid (Below w.heap.size w w1) := ((Below.refl w.heap.size w).alloc (Nat.le_refl _) _).trans (hr1.mono (by simp))
  have B1 := (hr1.block w.heap.size (by simp)).trans (alloc1 w _)
  have hz1 : w.heap.size < w1.heap.size := by have := hr1.size; simp at this; omega
  obtain ⟨d0, d1, d2⟩ := cell3 B1
  have f0 := nofrz B1
  clear hr1 B1
  go_wp2
  refine bodyPost_ret (v := rpv 8 0 ⟨#[]⟩) (by simp [results, Tryz.results50, go_sem, rpv, d0, d1, d2, hz1]) rfl ⟨rfl, ?_⟩
  repeat (first | refine Below.setCell ?_ (by simp <;> omega) _ | refine Below.alloc ?_ (by first | omega | (simp <;> omega)) _)
  exact HW1.out
theorem back_none {w : World} (b : Nat) (s : ByteArray) (ea ep : Int)
    (cA : ∀ wx, Below w.heap.size w wx → Calls Tryz.prog 83 #[.pointer (some ⟨b, 0, none⟩), .string s] wx fun e w' => e = .returned (.tuple #[.agg #[.int .i64 ea, .int .i64 ep], .bool false]) ∧ Below wx.heap.size wx w') :
    Calls Tryz.prog 52 #[.pointer (some ⟨b, 0, none⟩), .string s] w fun e w' => e = .returned (rpv 8 0 ⟨#[]⟩) ∧ Below w.heap.size w w' := by
  have CA : Hid _ := cA
  clear cA
  go_enter Tryz.func52, Tryz.ntmps52
  go_wp2_with fail
  refine Calls.mono (CA.out _ ((Below.refl _ _).alloc (Nat.le_refl _) _)) ?_; rintro e w1 ⟨rfl, hr1⟩
  have HW1 : Hid (Below w.heap.size w w1) := ((Below.refl w.heap.size w).alloc (Nat.le_refl _) _).trans (hr1.mono (by simp))
  have B1 := (hr1.block w.heap.size (by simp)).trans (alloc1 w _)
  have hz1 : w.heap.size < w1.heap.size := by have := hr1.size; simp at this; omega
  obtain ⟨d0, d1, d2⟩ := cell3 B1
  have f0 := nofrz B1
  clear hr1 B1
  go_wp2
  refine bodyPost_ret (v := rpv 8 0 ⟨#[]⟩) (by simp [results, Tryz.results52, go_sem, rpv, d0, d1, d2, hz1]) rfl ⟨rfl, ?_⟩
  repeat (first | refine Below.setCell ?_ (by simp <;> omega) _ | refine Below.alloc ?_ (by first | omega | (simp <;> omega)) _)
  exact HW1.out
set_option maxHeartbeats 4000000 in
theorem inward_yes {w : World} (b : Nat) (s s1 s2 : ByteArray) (om : Int) (hb : b < w.heap.size) (h6 : w.cell? ⟨b, 5, none⟩ = some (.int .i64 om)) (ea ep : Int)
    (cA : ∀ wx, Below w.heap.size w wx → Calls Tryz.prog 83 #[.pointer (some ⟨b, 0, none⟩), .string s] wx fun e w' => e = .returned (.tuple #[.agg #[.int .i64 ea, .int .i64 ep], .bool true]) ∧ Below wx.heap.size wx w')
    (cM : Ret 84 #[.string s, .int .i64 om] (.int .i64 0)) (cW : RetB 86 #[.string s, .agg #[.int .i64 ea, .int .i64 ep]] (.string s1)) (cS : RetB 87 #[.string s1] (.string s2)) :
    Calls Tryz.prog 50 #[.pointer (some ⟨b, 0, none⟩), .string s] w fun e w' => e = .returned (rpv 0 0 s2) ∧ Below w.heap.size w w' := by
  have CA : Hid _ := cA
  clear cA
  go_enter Tryz.func50, Tryz.ntmps50
  go_wp2_with fail
  refine Calls.mono (CA.out _ ((Below.refl _ _).alloc (Nat.le_refl _) _)) ?_; rintro e w1 ⟨rfl, hr1⟩
  have HW1 : Hid (Below w.heap.size w w1) := ((Below.refl w.heap.size w).alloc (Nat.le_refl _) _).trans (hr1.mono (by simp))
  have B1 : Hid _ := (hr1.block w.heap.size (by simp)).trans (alloc1 w _)
  have hz1 : w.heap.size < w1.heap.size := by have := hr1.size; simp at this; omega
  have hmt : w1.cell? ⟨b, 5, none⟩ = some (.int .i64 om) := (HW1.out.cell (p := ⟨b, 5, none⟩) hb).trans h6
  have hbX : b < w1.heap.size := by omega
  clear hr1
  go_wp2_with fail
  refine Calls.mono (cM.at _) ?_; rintro e w' ⟨rfl, hw⟩; replace hw := hw.symm; subst hw
  go_wp2_with fail
  refine Calls.mono (cW.at _) ?_; rintro e w5 ⟨rfl, hb5⟩
  go_wp2_with fail
  refine Calls.mono (cS.at _) ?_; rintro e w6 ⟨rfl, hb6⟩
  have hz5 : w.heap.size < w5.heap.size := by have := hb5.size; simp at this; omega
  have B6 := (hb6.block _ hz5).trans ((hb5.block w.heap.size (by simp; omega)).trans ((Below.heap_alloc w1 _ _ hz1).trans B1.out))
  obtain ⟨d0, d1, d2⟩ := cell3 B6
  have f0 := nofrz B6
  have H6 : Hid (Below w.heap.size w w6) := (HW1.out.alloc (by omega) _).trans ((hb5.trans (hb6.mono hb5.size)).mono (by simp; omega))
  have hz6 : w.heap.size < w6.heap.size := by have := hb6.size; omega
  clear hb5 hb6 B6
  go_wp2
  refine bodyPost_ret (v := rpv 0 0 s2) (by simp [results, Tryz.results50, go_sem, rpv, d0, d1, d2]) rfl ⟨rfl, ?_⟩
  repeat refine Below.setCell ?_ (by simp <;> omega) _
  exact H6.out
set_option maxHeartbeats 4000000 in
theorem inward_bad {w : World} (b : Nat) (s s2 : ByteArray) (om k d2 : Int) (hb : b < w.heap.size) (h6 : w.cell? ⟨b, 5, none⟩ = some (.int .i64 om)) (hk : (k != 0) = true) (ea ep : Int)
    (cA : ∀ wx, Below w.heap.size w wx → Calls Tryz.prog 83 #[.pointer (some ⟨b, 0, none⟩), .string s] wx fun e w' => e = .returned (.tuple #[.agg #[.int .i64 ea, .int .i64 ep], .bool true]) ∧ Below wx.heap.size wx w')
    (cM : Ret 84 #[.string s, .int .i64 om] (.int .i64 k))
    (R : World → World → Prop)
    (cR : ∀ wx, Below w.heap.size w wx → Calls Tryz.prog 85 #[.pointer (some ⟨b, 0, none⟩), .int .i64 k, .int .i64 1, .string s, .int .i64 om] wx fun e w' => e = .returned (rpv k d2 s2) ∧ R wx w')
    (hR : ∀ wx w', R wx w' → wx.heap.size ≤ w'.heap.size ∧ (∀ k, w.heap.size ≤ k → k < wx.heap.size → w'.heap[k]? = wx.heap[k]?)) (Q : World → Prop)
    (hQ : ∀ wx w1, Below w.heap.size w wx → w.heap.size < wx.heap.size → R wx w1 → ∀ u0 u1 u2, Q (((w1.setCell ⟨w.heap.size, 0, none⟩ u0).setCell ⟨w.heap.size, 1, none⟩ u1).setCell ⟨w.heap.size, 2, none⟩ u2)) :
    Calls Tryz.prog 50 #[.pointer (some ⟨b, 0, none⟩), .string s] w fun e w' => e = .returned (rpv k d2 s2) ∧ Q w' := by
  unfold rpv at cR
  have CR : Hid _ := cR
  have HR : Hid _ := hR
  have HQ : Hid _ := hQ
  have CA : Hid _ := cA
  clear cR hR hQ cA
  go_enter Tryz.func50, Tryz.ntmps50
  go_wp2_with fail
  refine Calls.mono (CA.out _ ((Below.refl _ _).alloc (Nat.le_refl _) _)) ?_; rintro e w1 ⟨rfl, hr1⟩
  have HW1 : Hid (Below w.heap.size w w1) := ((Below.refl w.heap.size w).alloc (Nat.le_refl _) _).trans (hr1.mono (by simp))
  have B1 : Hid _ := (hr1.block w.heap.size (by simp)).trans (alloc1 w _)
  have hz1 : w.heap.size < w1.heap.size := by have := hr1.size; simp at this; omega
  have hmt : w1.cell? ⟨b, 5, none⟩ = some (.int .i64 om) := (HW1.out.cell (p := ⟨b, 5, none⟩) hb).trans h6
  have hbX : b < w1.heap.size := by omega
  clear hr1
  go_wp2_with fail
  refine Calls.mono (cM.at _) ?_; rintro e w' ⟨rfl, hw⟩; replace hw := hw.symm; subst hw
  have HX : Hid _ := HW1.out.alloc (by omega) (.cells #[.int .i64 ea, .int .i64 ep] 113)
  have BX : Hid _ := (Below.heap_alloc w1 (.cells #[.int .i64 ea, .int .i64 ep] 113) _ hz1).trans B1.out
  have hzX : w.heap.size < (w1.alloc (.cells #[.int .i64 ea, .int .i64 ep] 113)).heap.size := by simp; omega
  go_wp2_with fail
  refine Calls.mono (CR.out _ HX.out) ?_; rintro e w5 ⟨rfl, hr5⟩
  obtain ⟨hz5, hk5⟩ := HR.out _ _ hr5
  have B5 := (hk5 w.heap.size (Nat.le_refl _) hzX).trans BX.out
  obtain ⟨d0, d1, d2'⟩ := cell3 B5
  have f0 := nofrz B5
  have H5 : Hid _ := hr5
  clear B5 hk5 hr5
  go_wp2
  exact bodyPost_ret (v := rpv k d2 s2) (by simp [results, Tryz.results50, go_sem, rpv, d0, d1, d2']) rfl ⟨rfl, HQ.out _ _ HX.out hzX H5.out _ _ _⟩
set_option maxHeartbeats 4000000 in
theorem back_bad {w : World} (b : Nat) (s s2 : ByteArray) (om k d2 : Int) (hb : b < w.heap.size) (h6 : w.cell? ⟨b, 5, none⟩ = some (.int .i64 om)) (hk : (k != 0) = true) (ea ep : Int)
    (cA : ∀ wx, Below w.heap.size w wx → Calls Tryz.prog 83 #[.pointer (some ⟨b, 0, none⟩), .string s] wx fun e w' => e = .returned (.tuple #[.agg #[.int .i64 ea, .int .i64 ep], .bool true]) ∧ Below wx.heap.size wx w')
    (cM : Ret 84 #[.string s, .int .i64 om] (.int .i64 k))
    (R : World → World → Prop)
    (cR : ∀ wx, Below w.heap.size w wx → Calls Tryz.prog 85 #[.pointer (some ⟨b, 0, none⟩), .int .i64 k, .int .i64 0, .string s, .int .i64 om] wx fun e w' => e = .returned (rpv k d2 s2) ∧ R wx w')
    (hR : ∀ wx w', R wx w' → wx.heap.size ≤ w'.heap.size ∧ (∀ k, w.heap.size ≤ k → k < wx.heap.size → w'.heap[k]? = wx.heap[k]?)) (Q : World → Prop)
    (hQ : ∀ wx w1, Below w.heap.size w wx → w.heap.size < wx.heap.size → R wx w1 → ∀ u0 u1 u2, Q (((w1.setCell ⟨w.heap.size, 0, none⟩ u0).setCell ⟨w.heap.size, 1, none⟩ u1).setCell ⟨w.heap.size, 2, none⟩ u2)) :
    Calls Tryz.prog 52 #[.pointer (some ⟨b, 0, none⟩), .string s] w fun e w' => e = .returned (rpv k d2 s2) ∧ Q w' := by
  unfold rpv at cR
  have CR : Hid _ := cR
  have HR : Hid _ := hR
  have HQ : Hid _ := hQ
  have CA : Hid _ := cA
  clear cR hR hQ cA
  go_enter Tryz.func52, Tryz.ntmps52
  go_wp2_with fail
  refine Calls.mono (CA.out _ ((Below.refl _ _).alloc (Nat.le_refl _) _)) ?_; rintro e w1 ⟨rfl, hr1⟩
  have HW1 : Hid (Below w.heap.size w w1) := ((Below.refl w.heap.size w).alloc (Nat.le_refl _) _).trans (hr1.mono (by simp))
  have B1 : Hid _ := (hr1.block w.heap.size (by simp)).trans (alloc1 w _)
  have hz1 : w.heap.size < w1.heap.size := by have := hr1.size; simp at this; omega
  have hmt : w1.cell? ⟨b, 5, none⟩ = some (.int .i64 om) := (HW1.out.cell (p := ⟨b, 5, none⟩) hb).trans h6
  have hbX : b < w1.heap.size := by omega
  clear hr1
  go_wp2_with fail
  refine Calls.mono (cM.at _) ?_; rintro e w' ⟨rfl, hw⟩; replace hw := hw.symm; subst hw
  have HX : Hid _ := HW1.out.alloc (by omega) (.cells #[.int .i64 ea, .int .i64 ep] 113)
  have BX : Hid _ := (Below.heap_alloc w1 (.cells #[.int .i64 ea, .int .i64 ep] 113) _ hz1).trans B1.out
  have hzX : w.heap.size < (w1.alloc (.cells #[.int .i64 ea, .int .i64 ep] 113)).heap.size := by simp; omega
  go_wp2_with fail
  refine Calls.mono (CR.out _ HX.out) ?_; rintro e w5 ⟨rfl, hr5⟩
  obtain ⟨hz5, hk5⟩ := HR.out _ _ hr5
  have B5 := (hk5 w.heap.size (Nat.le_refl _) hzX).trans BX.out
  obtain ⟨d0, d1, d2'⟩ := cell3 B5
  have f0 := nofrz B5
  have H5 : Hid _ := hr5
  clear B5 hk5 hr5
  go_wp2
  exact bodyPost_ret (v := rpv k d2 s2) (by simp [results, Tryz.results52, go_sem, rpv, d0, d1, d2']) rfl ⟨rfl, HQ.out _ _ HX.out hzX H5.out _ _ _⟩
set_option maxHeartbeats 4000000 in
theorem back_no {w : World} (b : Nat) (s s2 : ByteArray) (om k d2 : Int) (hb : b < w.heap.size) (h6 : w.cell? ⟨b, 5, none⟩ = some (.int .i64 om)) (hk : (k != 0) = true) (ea ep : Int)
    (cA : ∀ wx, Below w.heap.size w wx → Calls Tryz.prog 83 #[.pointer (some ⟨b, 0, none⟩), .string s] wx fun e w' => e = .returned (.tuple #[.agg #[.int .i64 ea, .int .i64 ep], .bool true]) ∧ Below wx.heap.size wx w')
    (cM : Ret 84 #[.string s, .int .i64 om] (.int .i64 0))
    (s1 : ByteArray) (cB : ∀ wx, Below w.heap.size w wx → Calls Tryz.prog 89 #[.pointer (some ⟨b, 0, none⟩), .string s] wx fun e w' => e = .returned (.tuple #[.string s1, .int .i64 k]) ∧ Below wx.heap.size wx w')
    (R : World → World → Prop)
    (cR : ∀ wx, Below w.heap.size w wx → Calls Tryz.prog 85 #[.pointer (some ⟨b, 0, none⟩), .int .i64 k, .int .i64 0, .string s, .int .i64 om] wx fun e w' => e = .returned (rpv k d2 s2) ∧ R wx w')
    (hR : ∀ wx w', R wx w' → wx.heap.size ≤ w'.heap.size ∧ (∀ k, w.heap.size ≤ k → k < wx.heap.size → w'.heap[k]? = wx.heap[k]?)) (Q : World → Prop)
    (hQ : ∀ wx w1, Below w.heap.size w wx → w.heap.size < wx.heap.size → R wx w1 → ∀ u0 u1 u2, Q (((w1.setCell ⟨w.heap.size, 0, none⟩ u0).setCell ⟨w.heap.size, 1, none⟩ u1).setCell ⟨w.heap.size, 2, none⟩ u2)) :
    Calls Tryz.prog 52 #[.pointer (some ⟨b, 0, none⟩), .string s] w fun e w' => e = .returned (rpv k d2 s2) ∧ Q w' := by
  unfold rpv at cR
  have CR : Hid _ := cR
  have HR : Hid _ := hR
  have HQ : Hid _ := hQ
  have CA : Hid _ := cA
  clear cR hR hQ cA
  have CB : Hid _ := cB
  clear cB
  go_enter Tryz.func52, Tryz.ntmps52
  go_wp2_with fail
  refine Calls.mono (CA.out _ ((Below.refl _ _).alloc (Nat.le_refl _) _)) ?_; rintro e w1 ⟨rfl, hr1⟩
  have HW1 : Hid (Below w.heap.size w w1) := ((Below.refl w.heap.size w).alloc (Nat.le_refl _) _).trans (hr1.mono (by simp))
  have B1 : Hid _ := (hr1.block w.heap.size (by simp)).trans (alloc1 w _)
  have hz1 : w.heap.size < w1.heap.size := by have := hr1.size; simp at this; omega
  have hmt : w1.cell? ⟨b, 5, none⟩ = some (.int .i64 om) := (HW1.out.cell (p := ⟨b, 5, none⟩) hb).trans h6
  have hbX : b < w1.heap.size := by omega
  clear hr1
  go_wp2_with fail
  refine Calls.mono (cM.at _) ?_; rintro e w' ⟨rfl, hw⟩; replace hw := hw.symm; subst hw
  have HX0 : Hid _ := HW1.out.alloc (by omega) (.cells #[.int .i64 ea, .int .i64 ep] 113)
  have BX0 : Hid _ := (Below.heap_alloc w1 (.cells #[.int .i64 ea, .int .i64 ep] 113) _ hz1).trans B1.out
  have hzX0 : w.heap.size < (w1.alloc (.cells #[.int .i64 ea, .int .i64 ep] 113)).heap.size := by simp; omega
  go_wp2_with fail
  refine Calls.mono (CB.out _ HX0.out) ?_; rintro e w2 ⟨rfl, hr⟩
  have HX : Hid (Below w.heap.size w w2) := HX0.out.trans (hr.mono (by omega))
  have BX : Hid _ := (hr.block w.heap.size hzX0).trans BX0.out
  have hzX : w.heap.size < w2.heap.size := by have := hr.size; omega
  have hmt2 : w2.cell? ⟨b, 5, none⟩ = some (.int .i64 om) := (HX.out.cell (p := ⟨b, 5, none⟩) hb).trans h6
  have hbX2 : b < w2.heap.size := by omega
  clear hr
  go_wp2_with fail
  refine Calls.mono (CR.out _ HX.out) ?_; rintro e w5 ⟨rfl, hr5⟩
  obtain ⟨hz5, hk5⟩ := HR.out _ _ hr5
  have B5 := (hk5 w.heap.size (Nat.le_refl _) hzX).trans BX.out
  obtain ⟨d0, d1, d2'⟩ := cell3 B5
  have f0 := nofrz B5
  have H5 : Hid _ := hr5
  clear B5 hk5 hr5
  go_wp2
  exact bodyPost_ret (v := rpv k d2 s2) (by simp [results, Tryz.results52, go_sem, rpv, d0, d1, d2']) rfl ⟨rfl, HQ.out _ _ HX.out hzX H5.out _ _ _⟩
set_option maxHeartbeats 4000000 in
theorem back_yes {w : World} (b : Nat) (s s1 s2 s3 : ByteArray) (om : Int) (hb : b < w.heap.size) (h6 : w.cell? ⟨b, 5, none⟩ = some (.int .i64 om)) (ea ep : Int)
    (cA : ∀ wx, Below w.heap.size w wx → Calls Tryz.prog 83 #[.pointer (some ⟨b, 0, none⟩), .string s] wx fun e w' => e = .returned (.tuple #[.agg #[.int .i64 ea, .int .i64 ep], .bool true]) ∧ Below wx.heap.size wx w')
    (cM : Ret 84 #[.string s, .int .i64 om] (.int .i64 0))
    (R : World → World → Prop)
    (cB : ∀ wx, Below w.heap.size w wx → Calls Tryz.prog 89 #[.pointer (some ⟨b, 0, none⟩), .string s] wx fun e w' => e = .returned (.tuple #[.string s1, .int .i64 0]) ∧ R wx w')
    (hR : ∀ wx w', R wx w' → wx.heap.size ≤ w'.heap.size ∧ (∀ k, w.heap.size ≤ k → k < wx.heap.size → w'.heap[k]? = wx.heap[k]?))
    (cW : RetB 86 #[.string s1, .agg #[.int .i64 ea, .int .i64 ep]] (.string s2)) (cT : RetB 87 #[.string s2] (.string s3)) (Q : World → Prop)
    (hQ : ∀ wx w1 w2, Below w.heap.size w wx → w.heap.size < wx.heap.size → R wx w1 → Below w1.heap.size w1 w2 → ∀ u0 u1 u2, Q (((w2.setCell ⟨w.heap.size, 0, none⟩ u0).setCell ⟨w.heap.size, 1, none⟩ u1).setCell ⟨w.heap.size, 2, none⟩ u2)) :
    Calls Tryz.prog 52 #[.pointer (some ⟨b, 0, none⟩), .string s] w fun e w' => e = .returned (rpv 0 0 s3) ∧ Q w' := by
  have CB : Hid _ := cB
  have HR : Hid _ := hR
  have HQ : Hid _ := hQ
  have CA : Hid _ := cA
  clear cB hR hQ cA
  go_enter Tryz.func52, Tryz.ntmps52
  go_wp2_with fail
  refine Calls.mono (CA.out _ ((Below.refl _ _).alloc (Nat.le_refl _) _)) ?_; rintro e w1 ⟨rfl, hr1⟩
  have HW1 : Hid (Below w.heap.size w w1) := ((Below.refl w.heap.size w).alloc (Nat.le_refl _) _).trans (hr1.mono (by simp))
  have B1 : Hid _ := (hr1.block w.heap.size (by simp)).trans (alloc1 w _)
  have hz1 : w.heap.size < w1.heap.size := by have := hr1.size; simp at this; omega
  have hmt : w1.cell? ⟨b, 5, none⟩ = some (.int .i64 om) := (HW1.out.cell (p := ⟨b, 5, none⟩) hb).trans h6
  have hbX : b < w1.heap.size := by omega
  clear hr1
  go_wp2_with fail
  refine Calls.mono (cM.at _) ?_; rintro e w' ⟨rfl, hw⟩; replace hw := hw.symm; subst hw
  have HX : Hid _ := HW1.out.alloc (by omega) (.cells #[.int .i64 ea, .int .i64 ep] 113)
  have BX : Hid _ := (Below.heap_alloc w1 (.cells #[.int .i64 ea, .int .i64 ep] 113) _ hz1).trans B1.out
  have hzX : w.heap.size < (w1.alloc (.cells #[.int .i64 ea, .int .i64 ep] 113)).heap.size := by simp; omega
  go_wp2_with fail
  refine Calls.mono (CB.out _ HX.out) ?_; rintro e w2 ⟨rfl, hr⟩
  obtain ⟨hz2, hk2⟩ := HR.out _ _ hr
  have B2 : Hid _ := (hk2 w.heap.size (Nat.le_refl _) hzX).trans BX.out
  have E2 := (hk2 w1.heap.size (by omega) (by simp)).trans (alloc1 w1 (.cells #[.int .i64 ea, .int .i64 ep] 113))
  obtain ⟨x0, x1⟩ := cell2 E2
  have hzz : w.heap.size < w2.heap.size := by omega
  have hz1' : w1.heap.size < w2.heap.size := by simp at hz2; omega
  have H2 : Hid _ := hr
  clear hk2 hr hz2 E2
  go_wp2_with fail
  refine Calls.mono (cW.at _) ?_; rintro e w5 ⟨rfl, hb5⟩
  go_wp2_with fail
  refine Calls.mono (cT.at _) ?_; rintro e w6 ⟨rfl, hb6⟩
  have hz5 : w.heap.size < w5.heap.size := by have := hb5.size; omega
  have B6 := (hb6.block _ hz5).trans ((hb5.block w.heap.size hzz).trans B2.out)
  obtain ⟨d0, d1, d2⟩ := cell3 B6
  have f0 := nofrz B6
  have H6 : Hid _ := hb5.trans (hb6.mono hb5.size)
  clear hb5 hb6 B6
  go_wp2
  exact bodyPost_ret (v := rpv 0 0 s3) (by simp [results, Tryz.results52, go_sem, rpv, d0, d1, d2]) rfl ⟨rfl, HQ.out _ _ _ HX.out hzX H2.out H6.out _ _ _⟩
end Go.Proofs.YthiljpbodmajaabGreat
