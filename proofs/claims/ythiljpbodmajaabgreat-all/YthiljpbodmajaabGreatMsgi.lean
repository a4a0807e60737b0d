/-
  CONTRACTS: package natbox: messageInward, messageOutward, messageBack, message.
-/
import Derived.Test.YthiljpbodmajaabGreatMsgs
namespace Go.Proofs.YthiljpbodmajaabGreat
open Go.RowKit Plain
set_option linter.unusedVariables false

set_option maxHeartbeats 8000000 in
theorem msgIn_none {w : World} (b : Nat) (s q : ByteArray) (hb : b < w.heap.size) (pa pp ea ep im : Int) (h5 : w.cell? ⟨b, 5, none⟩ = some (.int .i64 im)) (cQ : Ret 116 #[.string s] (.string q)) (cP : RetB 118 #[.string q] (.agg #[.int .i64 pa, .int .i64 pp]))
    (cS : ∀ wx, Below w.heap.size w wx → Calls Tryz.prog 117 #[.pointer (some ⟨b, 0, none⟩), .string q, .agg #[.int .i64 pa, .int .i64 pp]] wx fun e w' => e = .returned (.tuple #[.agg #[.int .i64 ea, .int .i64 ep], .bool false]) ∧ Below wx.heap.size wx w') :
    Calls Tryz.prog 80 #[.pointer (some ⟨b, 0, none⟩), .string s] w fun e w' => e = .returned (rpv 8 0 ⟨#[]⟩) ∧ Below w.heap.size w w' := by
  have HcS : Hid _ := cS
  clear cS
  go_enter Tryz.func80, Tryz.ntmps80
  go_wp2_with fail
  refine Calls.mono (cQ.at _) ?_; rintro e w' ⟨rfl, hw⟩; replace hw := hw.symm; subst hw
  go_wp2_with fail
  refine Calls.mono (cP.at _) ?_; rintro e w1 ⟨rfl, hbw1⟩
  have BR : Hid _ := (hbw1.block w.heap.size (by simp)).trans (alloc1 w (.cells #[.int .i64 0, .int .i64 0, .string ⟨#[]⟩] 42))
  have HB : Hid (Below w.heap.size w w1) := ((Below.refl w.heap.size w).alloc (Nat.le_refl _) _).trans (hbw1.mono (by simp))
  have hzw1 : w.heap.size < w1.heap.size := by have := hbw1.size; simp at this; omega
  clear hbw1
  go_wp2_with fail
  refine Calls.mono (HcS.out _ HB.out) ?_; rintro e w2 ⟨rfl, hbw2⟩
  replace BR : Hid _ := (hbw2.block w.heap.size (by omega)).trans BR.out
  replace HB : Hid (Below w.heap.size w w2) := HB.out.trans (hbw2.mono (by omega))
  have hzw2 : w1.heap.size ≤ w2.heap.size := hbw2.size
  clear hbw2
  have BR' := BR.out
  obtain ⟨d0, d1, d2⟩ := cell3 BR'
  have f0 := nofrz BR'
  have hzr : w.heap.size < w2.heap.size := by omega
  clear BR'
  go_wp2
  refine bodyPost_ret (v := rpv 8 0 ⟨#[]⟩) (by simp [results, Tryz.results80, go_sem, rpv, d0, d1, d2, hzr]) rfl ⟨rfl, ?_⟩
  repeat (first | refine Below.setCell ?_ (by simp <;> omega) _ | refine Below.drew ?_ | refine Below.alloc ?_ (by first | omega | (simp <;> omega)) _)
  exact HB.out
set_option maxHeartbeats 8000000 in
theorem msgIn_bad {w : World} (b : Nat) (s q : ByteArray) (hb : b < w.heap.size) (pa pp ea ep im : Int) (h5 : w.cell? ⟨b, 5, none⟩ = some (.int .i64 im)) (cQ : Ret 116 #[.string s] (.string q)) (cP : RetB 118 #[.string q] (.agg #[.int .i64 pa, .int .i64 pp]))
    (cS : ∀ wx, Below w.heap.size w wx → Calls Tryz.prog 117 #[.pointer (some ⟨b, 0, none⟩), .string q, .agg #[.int .i64 pa, .int .i64 pp]] wx fun e w' => e = .returned (.tuple #[.agg #[.int .i64 ea, .int .i64 ep], .bool true]) ∧ Below wx.heap.size wx w') (k : Int) (hk : (k != 0) = true) (cM : Ret 84 #[.string s, .int .i64 im] (.int .i64 k)) :
    Calls Tryz.prog 80 #[.pointer (some ⟨b, 0, none⟩), .string s] w fun e w' => e = .returned (rpv k 0 ⟨#[]⟩) ∧ Below w.heap.size w w' := by
  have HcS : Hid _ := cS
  clear cS
  go_enter Tryz.func80, Tryz.ntmps80
  go_wp2_with fail
  refine Calls.mono (cQ.at _) ?_; rintro e w' ⟨rfl, hw⟩; replace hw := hw.symm; subst hw
  go_wp2_with fail
  refine Calls.mono (cP.at _) ?_; rintro e w1 ⟨rfl, hbw1⟩
  have BR : Hid _ := (hbw1.block w.heap.size (by simp)).trans (alloc1 w (.cells #[.int .i64 0, .int .i64 0, .string ⟨#[]⟩] 42))
  have HB : Hid (Below w.heap.size w w1) := ((Below.refl w.heap.size w).alloc (Nat.le_refl _) _).trans (hbw1.mono (by simp))
  have hzw1 : w.heap.size < w1.heap.size := by have := hbw1.size; simp at this; omega
  clear hbw1
  go_wp2_with fail
  refine Calls.mono (HcS.out _ HB.out) ?_; rintro e w2 ⟨rfl, hbw2⟩
  replace BR : Hid _ := (hbw2.block w.heap.size (by omega)).trans BR.out
  replace HB : Hid (Below w.heap.size w w2) := HB.out.trans (hbw2.mono (by omega))
  have hzw2 : w1.heap.size ≤ w2.heap.size := hbw2.size
  clear hbw2
  have cw25 : w2.cell? ⟨b, 5, none⟩ = some (.int .i64 im) := (HB.out.cell (p := ⟨b, 5, none⟩) hb).trans h5
  have cbw25 : b < w2.heap.size := by have := HB.out.size; omega
  have BR' := BR.out
  obtain ⟨d0, d1, d2⟩ := cell3 BR'
  have f0 := nofrz BR'
  have hzr : w.heap.size < w2.heap.size := by omega
  clear BR'
  go_wp2_with fail
  refine Calls.mono (cM.at _) ?_; rintro e w' ⟨rfl, hw⟩; replace hw := hw.symm; subst hw
  go_wp2
  refine bodyPost_ret (v := rpv k 0 ⟨#[]⟩) (by simp [results, Tryz.results80, go_sem, rpv, d0, d1, d2, hzr]) rfl ⟨rfl, ?_⟩
  repeat (first | refine Below.setCell ?_ (by simp <;> omega) _ | refine Below.drew ?_ | refine Below.alloc ?_ (by first | omega | (simp <;> omega)) _)
  exact HB.out
set_option maxHeartbeats 8000000 in
theorem msgIn_yes {w : World} (b : Nat) (s q : ByteArray) (hb : b < w.heap.size) (pa pp ea ep im : Int) (h5 : w.cell? ⟨b, 5, none⟩ = some (.int .i64 im)) (cQ : Ret 116 #[.string s] (.string q)) (cP : RetB 118 #[.string q] (.agg #[.int .i64 pa, .int .i64 pp]))
    (cS : ∀ wx, Below w.heap.size w wx → Calls Tryz.prog 117 #[.pointer (some ⟨b, 0, none⟩), .string q, .agg #[.int .i64 pa, .int .i64 pp]] wx fun e w' => e = .returned (.tuple #[.agg #[.int .i64 ea, .int .i64 ep], .bool true]) ∧ Below wx.heap.size wx w') (cM : Ret 84 #[.string s, .int .i64 im] (.int .i64 0)) (s1 q1 s2 s3 : ByteArray) (c1 : RetB 119 #[.string s, .int .i64 ea] (.string s1)) (c2 : RetB 121 #[.string q, .agg #[.int .i64 ea, .int .i64 ep]] (.string q1)) (c3 : RetB 120 #[.string s1, .string q1] (.string s2)) (c4 : RetB 87 #[.string s2] (.string s3)) :
    Calls Tryz.prog 80 #[.pointer (some ⟨b, 0, none⟩), .string s] w fun e w' => e = .returned (rpv 0 0 s3) ∧ Below w.heap.size w w' := by
  have HcS : Hid _ := cS
  clear cS
  go_enter Tryz.func80, Tryz.ntmps80
  go_wp2_with fail
  refine Calls.mono (cQ.at _) ?_; rintro e w' ⟨rfl, hw⟩; replace hw := hw.symm; subst hw
  go_wp2_with fail
  refine Calls.mono (cP.at _) ?_; rintro e w1 ⟨rfl, hbw1⟩
  have BR : Hid _ := (hbw1.block w.heap.size (by simp)).trans (alloc1 w (.cells #[.int .i64 0, .int .i64 0, .string ⟨#[]⟩] 42))
  have HB : Hid (Below w.heap.size w w1) := ((Below.refl w.heap.size w).alloc (Nat.le_refl _) _).trans (hbw1.mono (by simp))
  have hzw1 : w.heap.size < w1.heap.size := by have := hbw1.size; simp at this; omega
  clear hbw1
  go_wp2_with fail
  refine Calls.mono (HcS.out _ HB.out) ?_; rintro e w2 ⟨rfl, hbw2⟩
  replace BR : Hid _ := (hbw2.block w.heap.size (by omega)).trans BR.out
  replace HB : Hid (Below w.heap.size w w2) := HB.out.trans (hbw2.mono (by omega))
  have hzw2 : w1.heap.size ≤ w2.heap.size := hbw2.size
  clear hbw2
  have cw25 : w2.cell? ⟨b, 5, none⟩ = some (.int .i64 im) := (HB.out.cell (p := ⟨b, 5, none⟩) hb).trans h5
  have cbw25 : b < w2.heap.size := by have := HB.out.size; omega
  go_wp2_with fail
  refine Calls.mono (cM.at _) ?_; rintro e w' ⟨rfl, hw⟩; replace hw := hw.symm; subst hw
  go_wp2_with fail
  refine Calls.mono (c1.at _) ?_; rintro e w3 ⟨rfl, hbw3⟩
  replace BR : Hid _ := (hbw3.block w.heap.size (by first | omega | (simp; omega) | simp)).trans ((Below.heap_alloc w2 (.cells #[.int .i64 ea, .int .i64 ep] 113) w.heap.size (by omega)).trans BR.out)
  have E1 : Hid _ := (hbw3.block w2.heap.size (by first | omega | (simp; omega) | simp)).trans (alloc1 w2 (.cells #[.int .i64 ea, .int .i64 ep] 113))
  replace HB : Hid (Below w.heap.size w w3) := (HB.out.alloc (by first | omega | (simp; omega) | simp) _).trans (hbw3.mono (by first | omega | (simp; omega) | simp))
  have hzw3 : w2.heap.size < w3.heap.size := by have := hbw3.size; simp at this; omega
  clear hbw3
  have E1' := E1.out
  obtain ⟨x0, x1⟩ := cell2 E1'
  clear E1'
  go_wp2_with fail
  refine Calls.mono (c2.at _) ?_; rintro e w4 ⟨rfl, hbw4⟩
  replace BR : Hid _ := (hbw4.block w.heap.size (by omega)).trans BR.out
  replace E1 : Hid _ := (hbw4.block w2.heap.size (by omega)).trans E1.out
  replace HB : Hid (Below w.heap.size w w4) := HB.out.trans (hbw4.mono (by omega))
  have hzw4 : w3.heap.size ≤ w4.heap.size := hbw4.size
  clear hbw4
  go_wp2_with fail
  refine Calls.mono (c3.at _) ?_; rintro e w5 ⟨rfl, hbw5⟩
  replace BR : Hid _ := (hbw5.block w.heap.size (by omega)).trans BR.out
  replace E1 : Hid _ := (hbw5.block w2.heap.size (by omega)).trans E1.out
  replace HB : Hid (Below w.heap.size w w5) := HB.out.trans (hbw5.mono (by omega))
  have hzw5 : w4.heap.size ≤ w5.heap.size := hbw5.size
  clear hbw5
  go_wp2_with fail
  refine Calls.mono (c4.at _) ?_; rintro e w6 ⟨rfl, hbw6⟩
  replace BR : Hid _ := (hbw6.block w.heap.size (by omega)).trans BR.out
  replace E1 : Hid _ := (hbw6.block w2.heap.size (by omega)).trans E1.out
  replace HB : Hid (Below w.heap.size w w6) := HB.out.trans (hbw6.mono (by omega))
  have hzw6 : w5.heap.size ≤ w6.heap.size := hbw6.size
  clear hbw6
  have BR' := BR.out
  obtain ⟨d0, d1, d2⟩ := cell3 BR'
  have f0 := nofrz BR'
  have hzr : w.heap.size < w6.heap.size := by omega
  clear BR'
  go_wp2
  refine bodyPost_ret (v := rpv 0 0 s3) (by simp [results, Tryz.results80, go_sem, rpv, d0, d1, d2]) rfl ⟨rfl, ?_⟩
  repeat (first | refine Below.setCell ?_ (by simp <;> omega) _ | refine Below.drew ?_ | refine Below.alloc ?_ (by first | omega | (simp <;> omega)) _)
  exact HB.out
set_option maxHeartbeats 8000000 in
theorem msgOut_none {w : World} (b : Nat) (s q : ByteArray) (hb : b < w.heap.size) (oa x om da sa : Int) (h6 : w.cell? ⟨b, 6, none⟩ = some (.int .i64 om)) (h1 : w.cell? ⟨b, 1, none⟩ = some (.int .i64 oa)) (cQ : Ret 116 #[.string s] (.string q)) (cD : Ret 88 #[.string s] (.int .i64 da)) (cA : Ret 111 #[.string q] (.int .i64 sa))
    (cR : ∀ wx, Below w.heap.size w wx → Calls Tryz.prog 122 #[.pointer (some ⟨b, 0, none⟩), .string q] wx fun e w' => e = .returned (.tuple #[.agg #[.int .i64 oa, .int .i64 x], .bool false]) ∧ Below wx.heap.size wx w') :
    Calls Tryz.prog 82 #[.pointer (some ⟨b, 0, none⟩), .string s] w fun e w' => e = .returned (rpv 8 0 ⟨#[]⟩) ∧ Below w.heap.size w w' := by
  have HcR : Hid _ := cR
  clear cR
  go_enter Tryz.func82, Tryz.ntmps82
  go_wp2_with fail
  refine Calls.mono (cQ.at _) ?_; rintro e w' ⟨rfl, hw⟩; replace hw := hw.symm; subst hw
  go_wp2_with fail
  refine Calls.mono (HcR.out _ ((Below.refl _ _).alloc (Nat.le_refl _) _)) ?_; rintro e w2 ⟨rfl, hbw2⟩
  have BR : Hid _ := (hbw2.block w.heap.size (by simp)).trans (alloc1 w (.cells #[.int .i64 0, .int .i64 0, .string ⟨#[]⟩] 42))
  have HB : Hid (Below w.heap.size w w2) := ((Below.refl w.heap.size w).alloc (Nat.le_refl _) _).trans (hbw2.mono (by simp))
  have hzw2 : w.heap.size < w2.heap.size := by have := hbw2.size; simp at this; omega
  clear hbw2
  have BR' := BR.out
  obtain ⟨d0, d1, d2⟩ := cell3 BR'
  have f0 := nofrz BR'
  have hzr : w.heap.size < w2.heap.size := by omega
  clear BR'
  go_wp2
  refine bodyPost_ret (v := rpv 8 0 ⟨#[]⟩) (by simp [results, Tryz.results82, go_sem, rpv, d0, d1, d2, hzr]) rfl ⟨rfl, ?_⟩
  repeat (first | refine Below.setCell ?_ (by simp <;> omega) _ | refine Below.drew ?_ | refine Below.alloc ?_ (by first | omega | (simp <;> omega)) _)
  exact HB.out
set_option maxHeartbeats 8000000 in
theorem msgOut_other {w : World} (b : Nat) (s q : ByteArray) (hb : b < w.heap.size) (oa x om da sa : Int) (h6 : w.cell? ⟨b, 6, none⟩ = some (.int .i64 om)) (h1 : w.cell? ⟨b, 1, none⟩ = some (.int .i64 oa)) (cQ : Ret 116 #[.string s] (.string q)) (cD : Ret 88 #[.string s] (.int .i64 da)) (cA : Ret 111 #[.string q] (.int .i64 sa))
    (cR : ∀ wx, Below w.heap.size w wx → Calls Tryz.prog 122 #[.pointer (some ⟨b, 0, none⟩), .string q] wx fun e w' => e = .returned (.tuple #[.agg #[.int .i64 oa, .int .i64 x], .bool true]) ∧ Below wx.heap.size wx w') (hne : (da != sa) = true) :
    Calls Tryz.prog 82 #[.pointer (some ⟨b, 0, none⟩), .string s] w fun e w' => e = .returned (rpv 8 0 ⟨#[]⟩) ∧ Below w.heap.size w w' := by
  have HcR : Hid _ := cR
  clear cR
  go_enter Tryz.func82, Tryz.ntmps82
  go_wp2_with fail
  refine Calls.mono (cQ.at _) ?_; rintro e w' ⟨rfl, hw⟩; replace hw := hw.symm; subst hw
  go_wp2_with fail
  refine Calls.mono (HcR.out _ ((Below.refl _ _).alloc (Nat.le_refl _) _)) ?_; rintro e w2 ⟨rfl, hbw2⟩
  have BR : Hid _ := (hbw2.block w.heap.size (by simp)).trans (alloc1 w (.cells #[.int .i64 0, .int .i64 0, .string ⟨#[]⟩] 42))
  have HB : Hid (Below w.heap.size w w2) := ((Below.refl w.heap.size w).alloc (Nat.le_refl _) _).trans (hbw2.mono (by simp))
  have hzw2 : w.heap.size < w2.heap.size := by have := hbw2.size; simp at this; omega
  clear hbw2
  have BR' := BR.out
  obtain ⟨d0, d1, d2⟩ := cell3 BR'
  have f0 := nofrz BR'
  have hzr : w.heap.size < w2.heap.size := by omega
  clear BR'
  go_wp2_with fail
  refine Calls.mono (cD.at _) ?_; rintro e w' ⟨rfl, hw⟩; replace hw := hw.symm; subst hw
  go_wp2_with fail
  refine Calls.mono (cA.at _) ?_; rintro e w' ⟨rfl, hw⟩; replace hw := hw.symm; subst hw
  go_wp2
  refine bodyPost_ret (v := rpv 8 0 ⟨#[]⟩) (by simp [results, Tryz.results82, go_sem, rpv, d0, d1, d2, hzr]) rfl ⟨rfl, ?_⟩
  repeat (first | refine Below.setCell ?_ (by simp <;> omega) _ | refine Below.drew ?_ | refine Below.alloc ?_ (by first | omega | (simp <;> omega)) _)
  exact HB.out
set_option maxHeartbeats 8000000 in
theorem msgOut_bad {w : World} (b : Nat) (s q : ByteArray) (hb : b < w.heap.size) (oa x om da sa : Int) (h6 : w.cell? ⟨b, 6, none⟩ = some (.int .i64 om)) (h1 : w.cell? ⟨b, 1, none⟩ = some (.int .i64 oa)) (cQ : Ret 116 #[.string s] (.string q)) (cD : Ret 88 #[.string s] (.int .i64 da)) (cA : Ret 111 #[.string q] (.int .i64 sa))
    (cR : ∀ wx, Below w.heap.size w wx → Calls Tryz.prog 122 #[.pointer (some ⟨b, 0, none⟩), .string q] wx fun e w' => e = .returned (.tuple #[.agg #[.int .i64 oa, .int .i64 x], .bool true]) ∧ Below wx.heap.size wx w') (hne : (da != sa) = false) (k : Int) (hk : (k != 0) = true) (cM : Ret 84 #[.string s, .int .i64 om] (.int .i64 k)) :
    Calls Tryz.prog 82 #[.pointer (some ⟨b, 0, none⟩), .string s] w fun e w' => e = .returned (rpv k 0 ⟨#[]⟩) ∧ Below w.heap.size w w' := by
  have HcR : Hid _ := cR
  clear cR
  go_enter Tryz.func82, Tryz.ntmps82
  go_wp2_with fail
  refine Calls.mono (cQ.at _) ?_; rintro e w' ⟨rfl, hw⟩; replace hw := hw.symm; subst hw
  go_wp2_with fail
  refine Calls.mono (HcR.out _ ((Below.refl _ _).alloc (Nat.le_refl _) _)) ?_; rintro e w2 ⟨rfl, hbw2⟩
  have BR : Hid _ := (hbw2.block w.heap.size (by simp)).trans (alloc1 w (.cells #[.int .i64 0, .int .i64 0, .string ⟨#[]⟩] 42))
  have HB : Hid (Below w.heap.size w w2) := ((Below.refl w.heap.size w).alloc (Nat.le_refl _) _).trans (hbw2.mono (by simp))
  have hzw2 : w.heap.size < w2.heap.size := by have := hbw2.size; simp at this; omega
  clear hbw2
  have cw26 : w2.cell? ⟨b, 6, none⟩ = some (.int .i64 om) := (HB.out.cell (p := ⟨b, 6, none⟩) hb).trans h6
  have cbw26 : b < w2.heap.size := by have := HB.out.size; omega
  have BR' := BR.out
  obtain ⟨d0, d1, d2⟩ := cell3 BR'
  have f0 := nofrz BR'
  have hzr : w.heap.size < w2.heap.size := by omega
  clear BR'
  go_wp2_with fail
  refine Calls.mono (cD.at _) ?_; rintro e w' ⟨rfl, hw⟩; replace hw := hw.symm; subst hw
  go_wp2_with fail
  refine Calls.mono (cA.at _) ?_; rintro e w' ⟨rfl, hw⟩; replace hw := hw.symm; subst hw
  go_wp2_with fail
  refine Calls.mono (cM.at _) ?_; rintro e w' ⟨rfl, hw⟩; replace hw := hw.symm; subst hw
  go_wp2
  refine bodyPost_ret (v := rpv k 0 ⟨#[]⟩) (by simp [results, Tryz.results82, go_sem, rpv, d0, d1, d2, hzr]) rfl ⟨rfl, ?_⟩
  repeat (first | refine Below.setCell ?_ (by simp <;> omega) _ | refine Below.drew ?_ | refine Below.alloc ?_ (by first | omega | (simp <;> omega)) _)
  exact HB.out
set_option maxHeartbeats 8000000 in
theorem msgOut_yes {w : World} (b : Nat) (s q : ByteArray) (hb : b < w.heap.size) (oa x om da sa : Int) (h6 : w.cell? ⟨b, 6, none⟩ = some (.int .i64 om)) (h1 : w.cell? ⟨b, 1, none⟩ = some (.int .i64 oa)) (cQ : Ret 116 #[.string s] (.string q)) (cD : Ret 88 #[.string s] (.int .i64 da)) (cA : Ret 111 #[.string q] (.int .i64 sa))
    (cR : ∀ wx, Below w.heap.size w wx → Calls Tryz.prog 122 #[.pointer (some ⟨b, 0, none⟩), .string q] wx fun e w' => e = .returned (.tuple #[.agg #[.int .i64 oa, .int .i64 x], .bool true]) ∧ Below wx.heap.size wx w') (hne : (da != sa) = false) (cM : Ret 84 #[.string s, .int .i64 om] (.int .i64 0)) (s1 q1 s2 s3 : ByteArray) (c1 : RetB 123 #[.string s, .int .i64 oa] (.string s1)) (c2 : RetB 86 #[.string q, .agg #[.int .i64 oa, .int .i64 x]] (.string q1)) (c3 : RetB 120 #[.string s1, .string q1] (.string s2)) (c4 : RetB 87 #[.string s2] (.string s3)) :
    Calls Tryz.prog 82 #[.pointer (some ⟨b, 0, none⟩), .string s] w fun e w' => e = .returned (rpv 0 1 s3) ∧ Below w.heap.size w w' := by
  have HcR : Hid _ := cR
  clear cR
  go_enter Tryz.func82, Tryz.ntmps82
  go_wp2_with fail
  refine Calls.mono (cQ.at _) ?_; rintro e w' ⟨rfl, hw⟩; replace hw := hw.symm; subst hw
  go_wp2_with fail
  refine Calls.mono (HcR.out _ ((Below.refl _ _).alloc (Nat.le_refl _) _)) ?_; rintro e w2 ⟨rfl, hbw2⟩
  have BR : Hid _ := (hbw2.block w.heap.size (by simp)).trans (alloc1 w (.cells #[.int .i64 0, .int .i64 0, .string ⟨#[]⟩] 42))
  have HB : Hid (Below w.heap.size w w2) := ((Below.refl w.heap.size w).alloc (Nat.le_refl _) _).trans (hbw2.mono (by simp))
  have hzw2 : w.heap.size < w2.heap.size := by have := hbw2.size; simp at this; omega
  clear hbw2
  have cw26 : w2.cell? ⟨b, 6, none⟩ = some (.int .i64 om) := (HB.out.cell (p := ⟨b, 6, none⟩) hb).trans h6
  have cbw26 : b < w2.heap.size := by have := HB.out.size; omega
  have cw21 : w2.cell? ⟨b, 1, none⟩ = some (.int .i64 oa) := (HB.out.cell (p := ⟨b, 1, none⟩) hb).trans h1
  have cbw21 : b < w2.heap.size := by have := HB.out.size; omega
  go_wp2_with fail
  refine Calls.mono (cD.at _) ?_; rintro e w' ⟨rfl, hw⟩; replace hw := hw.symm; subst hw
  go_wp2_with fail
  refine Calls.mono (cA.at _) ?_; rintro e w' ⟨rfl, hw⟩; replace hw := hw.symm; subst hw
  go_wp2_with fail
  refine Calls.mono (cM.at _) ?_; rintro e w' ⟨rfl, hw⟩; replace hw := hw.symm; subst hw
  go_wp2_with fail
  refine Calls.mono (c1.at _) ?_; rintro e w3 ⟨rfl, hbw3⟩
  replace BR : Hid _ := (hbw3.block w.heap.size (by first | omega | (simp; omega) | simp)).trans ((Below.heap_alloc w2 (.cells #[.int .i64 oa, .int .i64 x] 113) w.heap.size (by omega)).trans BR.out)
  have E1 : Hid _ := (hbw3.block w2.heap.size (by first | omega | (simp; omega) | simp)).trans (alloc1 w2 (.cells #[.int .i64 oa, .int .i64 x] 113))
  replace HB : Hid (Below w.heap.size w w3) := (HB.out.alloc (by first | omega | (simp; omega) | simp) _).trans (hbw3.mono (by first | omega | (simp; omega) | simp))
  have hzw3 : w2.heap.size < w3.heap.size := by have := hbw3.size; simp at this; omega
  clear hbw3
  have E1' := E1.out
  obtain ⟨x0, x1⟩ := cell2 E1'
  clear E1'
  go_wp2_with fail
  refine Calls.mono (c2.at _) ?_; rintro e w4 ⟨rfl, hbw4⟩
  replace BR : Hid _ := (hbw4.block w.heap.size (by omega)).trans BR.out
  replace E1 : Hid _ := (hbw4.block w2.heap.size (by omega)).trans E1.out
  replace HB : Hid (Below w.heap.size w w4) := HB.out.trans (hbw4.mono (by omega))
  have hzw4 : w3.heap.size ≤ w4.heap.size := hbw4.size
  clear hbw4
  go_wp2_with fail
  refine Calls.mono (c3.at _) ?_; rintro e w5 ⟨rfl, hbw5⟩
  replace BR : Hid _ := (hbw5.block w.heap.size (by omega)).trans BR.out
  replace E1 : Hid _ := (hbw5.block w2.heap.size (by omega)).trans E1.out
  replace HB : Hid (Below w.heap.size w w5) := HB.out.trans (hbw5.mono (by omega))
  have hzw5 : w4.heap.size ≤ w5.heap.size := hbw5.size
  clear hbw5
  go_wp2_with fail
  refine Calls.mono (c4.at _) ?_; rintro e w6 ⟨rfl, hbw6⟩
  replace BR : Hid _ := (hbw6.block w.heap.size (by omega)).trans BR.out
  replace E1 : Hid _ := (hbw6.block w2.heap.size (by omega)).trans E1.out
  replace HB : Hid (Below w.heap.size w w6) := HB.out.trans (hbw6.mono (by omega))
  have hzw6 : w5.heap.size ≤ w6.heap.size := hbw6.size
  clear hbw6
  have BR' := BR.out
  obtain ⟨d0, d1, d2⟩ := cell3 BR'
  have f0 := nofrz BR'
  have hzr : w.heap.size < w6.heap.size := by omega
  clear BR'
  go_wp2
  refine bodyPost_ret (v := rpv 0 1 s3) (by simp [results, Tryz.results82, go_sem, rpv, d0, d1, d2]) rfl ⟨rfl, ?_⟩
  repeat (first | refine Below.setCell ?_ (by simp <;> omega) _ | refine Below.drew ?_ | refine Below.alloc ?_ (by first | omega | (simp <;> omega)) _)
  exact HB.out
set_option maxHeartbeats 8000000 in
theorem msgBack_icmp {w : World} (b : Nat) (s q : ByteArray) (hb : b < w.heap.size) (f1 f2 : Bool) (oa x im ea ep : Int) (h5 : w.cell? ⟨b, 5, none⟩ = some (.int .i64 im)) (h1 : w.cell? ⟨b, 1, none⟩ = some (.int .i64 oa)) (cQ : Ret 116 #[.string s] (.string q)) (cP : Ret 77 #[.string q] (.int .i64 1))
    (cR : ∀ wx, Below w.heap.size w wx → Calls Tryz.prog 122 #[.pointer (some ⟨b, 0, none⟩), .string q] wx fun e w' => e = .returned (.tuple #[.agg #[.int .i64 oa, .int .i64 x], .bool f1]) ∧ Below wx.heap.size wx w')
    (cS : ∀ wx, Below w.heap.size w wx → Calls Tryz.prog 117 #[.pointer (some ⟨b, 0, none⟩), .string q, .agg #[.int .i64 oa, .int .i64 x]] wx fun e w' => e = .returned (.tuple #[.agg #[.int .i64 ea, .int .i64 ep], .bool f2]) ∧ Below wx.heap.size wx w') :
    Calls Tryz.prog 81 #[.pointer (some ⟨b, 0, none⟩), .string s] w fun e w' => e = .returned (rpv 8 0 ⟨#[]⟩) ∧ Below w.heap.size w w' := by
  have HcR : Hid _ := cR
  clear cR
  have HcS : Hid _ := cS
  clear cS
  go_enter Tryz.func81, Tryz.ntmps81
  go_wp2_with fail
  refine Calls.mono (cQ.at _) ?_; rintro e w' ⟨rfl, hw⟩; replace hw := hw.symm; subst hw
  go_wp2_with fail
  refine Calls.mono (HcR.out _ ((Below.refl _ _).alloc (Nat.le_refl _) _)) ?_; rintro e w2 ⟨rfl, hbw2⟩
  have BR : Hid _ := (hbw2.block w.heap.size (by simp)).trans (alloc1 w (.cells #[.int .i64 0, .int .i64 0, .string ⟨#[]⟩] 42))
  have HB : Hid (Below w.heap.size w w2) := ((Below.refl w.heap.size w).alloc (Nat.le_refl _) _).trans (hbw2.mono (by simp))
  have hzw2 : w.heap.size < w2.heap.size := by have := hbw2.size; simp at this; omega
  clear hbw2
  go_wp2_with fail
  refine Calls.mono (HcS.out _ (HB.out.alloc (by first | omega | (simp; omega) | simp) _)) ?_; rintro e w3 ⟨rfl, hbw3⟩
  replace BR : Hid _ := (hbw3.block w.heap.size (by first | omega | (simp; omega) | simp)).trans ((Below.heap_alloc w2 (.cells #[.int .i64 oa, .int .i64 x] 113) w.heap.size (by omega)).trans BR.out)
  have E1 : Hid _ := (hbw3.block w2.heap.size (by first | omega | (simp; omega) | simp)).trans (alloc1 w2 (.cells #[.int .i64 oa, .int .i64 x] 113))
  replace HB : Hid (Below w.heap.size w w3) := (HB.out.alloc (by first | omega | (simp; omega) | simp) _).trans (hbw3.mono (by first | omega | (simp; omega) | simp))
  have hzw3 : w2.heap.size < w3.heap.size := by have := hbw3.size; simp at this; omega
  clear hbw3
  have BR' := BR.out
  obtain ⟨d0, d1, d2⟩ := cell3 BR'
  have f0 := nofrz BR'
  have hzr : w.heap.size < w3.heap.size := by omega
  clear BR'
  go_wp2_with fail
  refine Calls.mono (cP.at _) ?_; rintro e w' ⟨rfl, hw⟩; replace hw := hw.symm; subst hw
  go_wp2
  refine bodyPost_ret (v := rpv 8 0 ⟨#[]⟩) (by simp [results, Tryz.results81, go_sem, rpv, d0, d1, d2, hzr]) rfl ⟨rfl, ?_⟩
  repeat (first | refine Below.setCell ?_ (by simp <;> omega) _ | refine Below.drew ?_ | refine Below.alloc ?_ (by first | omega | (simp <;> omega)) _)
  exact HB.out
set_option maxHeartbeats 8000000 in
theorem msgBack_norec {w : World} (b : Nat) (s q : ByteArray) (hb : b < w.heap.size) (f2 : Bool) (oa x im ea ep p : Int) (h5 : w.cell? ⟨b, 5, none⟩ = some (.int .i64 im)) (h1 : w.cell? ⟨b, 1, none⟩ = some (.int .i64 oa)) (cQ : Ret 116 #[.string s] (.string q)) (cP : Ret 77 #[.string q] (.int .i64 p))
    (cR : ∀ wx, Below w.heap.size w wx → Calls Tryz.prog 122 #[.pointer (some ⟨b, 0, none⟩), .string q] wx fun e w' => e = .returned (.tuple #[.agg #[.int .i64 oa, .int .i64 x], .bool false]) ∧ Below wx.heap.size wx w')
    (cS : ∀ wx, Below w.heap.size w wx → Calls Tryz.prog 117 #[.pointer (some ⟨b, 0, none⟩), .string q, .agg #[.int .i64 oa, .int .i64 x]] wx fun e w' => e = .returned (.tuple #[.agg #[.int .i64 ea, .int .i64 ep], .bool f2]) ∧ Below wx.heap.size wx w') (hp : (p == 1) = false) :
    Calls Tryz.prog 81 #[.pointer (some ⟨b, 0, none⟩), .string s] w fun e w' => e = .returned (rpv 8 0 ⟨#[]⟩) ∧ Below w.heap.size w w' := by
  have HcR : Hid _ := cR
  clear cR
  have HcS : Hid _ := cS
  clear cS
  go_enter Tryz.func81, Tryz.ntmps81
  go_wp2_with fail
  refine Calls.mono (cQ.at _) ?_; rintro e w' ⟨rfl, hw⟩; replace hw := hw.symm; subst hw
  go_wp2_with fail
  refine Calls.mono (HcR.out _ ((Below.refl _ _).alloc (Nat.le_refl _) _)) ?_; rintro e w2 ⟨rfl, hbw2⟩
  have BR : Hid _ := (hbw2.block w.heap.size (by simp)).trans (alloc1 w (.cells #[.int .i64 0, .int .i64 0, .string ⟨#[]⟩] 42))
  have HB : Hid (Below w.heap.size w w2) := ((Below.refl w.heap.size w).alloc (Nat.le_refl _) _).trans (hbw2.mono (by simp))
  have hzw2 : w.heap.size < w2.heap.size := by have := hbw2.size; simp at this; omega
  clear hbw2
  go_wp2_with fail
  refine Calls.mono (HcS.out _ (HB.out.alloc (by first | omega | (simp; omega) | simp) _)) ?_; rintro e w3 ⟨rfl, hbw3⟩
  replace BR : Hid _ := (hbw3.block w.heap.size (by first | omega | (simp; omega) | simp)).trans ((Below.heap_alloc w2 (.cells #[.int .i64 oa, .int .i64 x] 113) w.heap.size (by omega)).trans BR.out)
  have E1 : Hid _ := (hbw3.block w2.heap.size (by first | omega | (simp; omega) | simp)).trans (alloc1 w2 (.cells #[.int .i64 oa, .int .i64 x] 113))
  replace HB : Hid (Below w.heap.size w w3) := (HB.out.alloc (by first | omega | (simp; omega) | simp) _).trans (hbw3.mono (by first | omega | (simp; omega) | simp))
  have hzw3 : w2.heap.size < w3.heap.size := by have := hbw3.size; simp at this; omega
  clear hbw3
  have BR' := BR.out
  obtain ⟨d0, d1, d2⟩ := cell3 BR'
  have f0 := nofrz BR'
  have hzr : w.heap.size < w3.heap.size := by omega
  clear BR'
  go_wp2_with fail
  refine Calls.mono (cP.at _) ?_; rintro e w' ⟨rfl, hw⟩; replace hw := hw.symm; subst hw
  go_wp2
  refine bodyPost_ret (v := rpv 8 0 ⟨#[]⟩) (by simp [results, Tryz.results81, go_sem, rpv, d0, d1, d2, hzr]) rfl ⟨rfl, ?_⟩
  repeat (first | refine Below.setCell ?_ (by simp <;> omega) _ | refine Below.drew ?_ | refine Below.alloc ?_ (by first | omega | (simp <;> omega)) _)
  exact HB.out
set_option maxHeartbeats 8000000 in
theorem msgBack_nosend {w : World} (b : Nat) (s q : ByteArray) (hb : b < w.heap.size) (oa x im ea ep p : Int) (h5 : w.cell? ⟨b, 5, none⟩ = some (.int .i64 im)) (h1 : w.cell? ⟨b, 1, none⟩ = some (.int .i64 oa)) (cQ : Ret 116 #[.string s] (.string q)) (cP : Ret 77 #[.string q] (.int .i64 p))
    (cR : ∀ wx, Below w.heap.size w wx → Calls Tryz.prog 122 #[.pointer (some ⟨b, 0, none⟩), .string q] wx fun e w' => e = .returned (.tuple #[.agg #[.int .i64 oa, .int .i64 x], .bool true]) ∧ Below wx.heap.size wx w')
    (cS : ∀ wx, Below w.heap.size w wx → Calls Tryz.prog 117 #[.pointer (some ⟨b, 0, none⟩), .string q, .agg #[.int .i64 oa, .int .i64 x]] wx fun e w' => e = .returned (.tuple #[.agg #[.int .i64 ea, .int .i64 ep], .bool false]) ∧ Below wx.heap.size wx w') (hp : (p == 1) = false) :
    Calls Tryz.prog 81 #[.pointer (some ⟨b, 0, none⟩), .string s] w fun e w' => e = .returned (rpv 8 0 ⟨#[]⟩) ∧ Below w.heap.size w w' := by
  have HcR : Hid _ := cR
  clear cR
  have HcS : Hid _ := cS
  clear cS
  go_enter Tryz.func81, Tryz.ntmps81
  go_wp2_with fail
  refine Calls.mono (cQ.at _) ?_; rintro e w' ⟨rfl, hw⟩; replace hw := hw.symm; subst hw
  go_wp2_with fail
  refine Calls.mono (HcR.out _ ((Below.refl _ _).alloc (Nat.le_refl _) _)) ?_; rintro e w2 ⟨rfl, hbw2⟩
  have BR : Hid _ := (hbw2.block w.heap.size (by simp)).trans (alloc1 w (.cells #[.int .i64 0, .int .i64 0, .string ⟨#[]⟩] 42))
  have HB : Hid (Below w.heap.size w w2) := ((Below.refl w.heap.size w).alloc (Nat.le_refl _) _).trans (hbw2.mono (by simp))
  have hzw2 : w.heap.size < w2.heap.size := by have := hbw2.size; simp at this; omega
  clear hbw2
  go_wp2_with fail
  refine Calls.mono (HcS.out _ (HB.out.alloc (by first | omega | (simp; omega) | simp) _)) ?_; rintro e w3 ⟨rfl, hbw3⟩
  replace BR : Hid _ := (hbw3.block w.heap.size (by first | omega | (simp; omega) | simp)).trans ((Below.heap_alloc w2 (.cells #[.int .i64 oa, .int .i64 x] 113) w.heap.size (by omega)).trans BR.out)
  have E1 : Hid _ := (hbw3.block w2.heap.size (by first | omega | (simp; omega) | simp)).trans (alloc1 w2 (.cells #[.int .i64 oa, .int .i64 x] 113))
  replace HB : Hid (Below w.heap.size w w3) := (HB.out.alloc (by first | omega | (simp; omega) | simp) _).trans (hbw3.mono (by first | omega | (simp; omega) | simp))
  have hzw3 : w2.heap.size < w3.heap.size := by have := hbw3.size; simp at this; omega
  clear hbw3
  have BR' := BR.out
  obtain ⟨d0, d1, d2⟩ := cell3 BR'
  have f0 := nofrz BR'
  have hzr : w.heap.size < w3.heap.size := by omega
  clear BR'
  go_wp2_with fail
  refine Calls.mono (cP.at _) ?_; rintro e w' ⟨rfl, hw⟩; replace hw := hw.symm; subst hw
  go_wp2
  refine bodyPost_ret (v := rpv 8 0 ⟨#[]⟩) (by simp [results, Tryz.results81, go_sem, rpv, d0, d1, d2, hzr]) rfl ⟨rfl, ?_⟩
  repeat (first | refine Below.setCell ?_ (by simp <;> omega) _ | refine Below.drew ?_ | refine Below.alloc ?_ (by first | omega | (simp <;> omega)) _)
  exact HB.out
set_option maxHeartbeats 8000000 in
theorem msgBack_bad {w : World} (b : Nat) (s q : ByteArray) (hb : b < w.heap.size) (oa x im ea ep p : Int) (h5 : w.cell? ⟨b, 5, none⟩ = some (.int .i64 im)) (h1 : w.cell? ⟨b, 1, none⟩ = some (.int .i64 oa)) (cQ : Ret 116 #[.string s] (.string q)) (cP : Ret 77 #[.string q] (.int .i64 p))
    (cR : ∀ wx, Below w.heap.size w wx → Calls Tryz.prog 122 #[.pointer (some ⟨b, 0, none⟩), .string q] wx fun e w' => e = .returned (.tuple #[.agg #[.int .i64 oa, .int .i64 x], .bool true]) ∧ Below wx.heap.size wx w')
    (cS : ∀ wx, Below w.heap.size w wx → Calls Tryz.prog 117 #[.pointer (some ⟨b, 0, none⟩), .string q, .agg #[.int .i64 oa, .int .i64 x]] wx fun e w' => e = .returned (.tuple #[.agg #[.int .i64 ea, .int .i64 ep], .bool true]) ∧ Below wx.heap.size wx w') (hp : (p == 1) = false) (k : Int) (hk : (k != 0) = true) (cM : Ret 84 #[.string s, .int .i64 im] (.int .i64 k)) :
    Calls Tryz.prog 81 #[.pointer (some ⟨b, 0, none⟩), .string s] w fun e w' => e = .returned (rpv k 0 ⟨#[]⟩) ∧ Below w.heap.size w w' := by
  have HcR : Hid _ := cR
  clear cR
  have HcS : Hid _ := cS
  clear cS
  go_enter Tryz.func81, Tryz.ntmps81
  go_wp2_with fail
  refine Calls.mono (cQ.at _) ?_; rintro e w' ⟨rfl, hw⟩; replace hw := hw.symm; subst hw
  go_wp2_with fail
  refine Calls.mono (HcR.out _ ((Below.refl _ _).alloc (Nat.le_refl _) _)) ?_; rintro e w2 ⟨rfl, hbw2⟩
  have BR : Hid _ := (hbw2.block w.heap.size (by simp)).trans (alloc1 w (.cells #[.int .i64 0, .int .i64 0, .string ⟨#[]⟩] 42))
  have HB : Hid (Below w.heap.size w w2) := ((Below.refl w.heap.size w).alloc (Nat.le_refl _) _).trans (hbw2.mono (by simp))
  have hzw2 : w.heap.size < w2.heap.size := by have := hbw2.size; simp at this; omega
  clear hbw2
  go_wp2_with fail
  refine Calls.mono (HcS.out _ (HB.out.alloc (by first | omega | (simp; omega) | simp) _)) ?_; rintro e w3 ⟨rfl, hbw3⟩
  replace BR : Hid _ := (hbw3.block w.heap.size (by first | omega | (simp; omega) | simp)).trans ((Below.heap_alloc w2 (.cells #[.int .i64 oa, .int .i64 x] 113) w.heap.size (by omega)).trans BR.out)
  have E1 : Hid _ := (hbw3.block w2.heap.size (by first | omega | (simp; omega) | simp)).trans (alloc1 w2 (.cells #[.int .i64 oa, .int .i64 x] 113))
  replace HB : Hid (Below w.heap.size w w3) := (HB.out.alloc (by first | omega | (simp; omega) | simp) _).trans (hbw3.mono (by first | omega | (simp; omega) | simp))
  have hzw3 : w2.heap.size < w3.heap.size := by have := hbw3.size; simp at this; omega
  clear hbw3
  have cw35 : w3.cell? ⟨b, 5, none⟩ = some (.int .i64 im) := (HB.out.cell (p := ⟨b, 5, none⟩) hb).trans h5
  have cbw35 : b < w3.heap.size := by have := HB.out.size; omega
  have BR' := BR.out
  obtain ⟨d0, d1, d2⟩ := cell3 BR'
  have f0 := nofrz BR'
  have hzr : w.heap.size < w3.heap.size := by omega
  clear BR'
  go_wp2_with fail
  refine Calls.mono (cP.at _) ?_; rintro e w' ⟨rfl, hw⟩; replace hw := hw.symm; subst hw
  go_wp2_with fail
  refine Calls.mono (cM.at _) ?_; rintro e w' ⟨rfl, hw⟩; replace hw := hw.symm; subst hw
  go_wp2
  refine bodyPost_ret (v := rpv k 0 ⟨#[]⟩) (by simp [results, Tryz.results81, go_sem, rpv, d0, d1, d2, hzr]) rfl ⟨rfl, ?_⟩
  repeat (first | refine Below.setCell ?_ (by simp <;> omega) _ | refine Below.drew ?_ | refine Below.alloc ?_ (by first | omega | (simp <;> omega)) _)
  exact HB.out
set_option maxHeartbeats 8000000 in
theorem msgBack_yes {w : World} (b : Nat) (s q : ByteArray) (hb : b < w.heap.size) (oa x im ea ep p : Int) (h5 : w.cell? ⟨b, 5, none⟩ = some (.int .i64 im)) (h1 : w.cell? ⟨b, 1, none⟩ = some (.int .i64 oa)) (cQ : Ret 116 #[.string s] (.string q)) (cP : Ret 77 #[.string q] (.int .i64 p))
    (cR : ∀ wx, Below w.heap.size w wx → Calls Tryz.prog 122 #[.pointer (some ⟨b, 0, none⟩), .string q] wx fun e w' => e = .returned (.tuple #[.agg #[.int .i64 oa, .int .i64 x], .bool true]) ∧ Below wx.heap.size wx w')
    (cS : ∀ wx, Below w.heap.size w wx → Calls Tryz.prog 117 #[.pointer (some ⟨b, 0, none⟩), .string q, .agg #[.int .i64 oa, .int .i64 x]] wx fun e w' => e = .returned (.tuple #[.agg #[.int .i64 ea, .int .i64 ep], .bool true]) ∧ Below wx.heap.size wx w') (hp : (p == 1) = false) (cM : Ret 84 #[.string s, .int .i64 im] (.int .i64 0)) (s0 q0 : ByteArray) (s1 q1 s2 s3 : ByteArray) (c1 : RetB 123 #[.string s, .int .i64 oa] (.string s0)) (c1b : RetB 119 #[.string s0, .int .i64 ea] (.string s1)) (c2 : RetB 86 #[.string q, .agg #[.int .i64 oa, .int .i64 x]] (.string q0)) (c2b : RetB 121 #[.string q0, .agg #[.int .i64 ea, .int .i64 ep]] (.string q1)) (c3 : RetB 120 #[.string s1, .string q1] (.string s2)) (c4 : RetB 87 #[.string s2] (.string s3)) :
    Calls Tryz.prog 81 #[.pointer (some ⟨b, 0, none⟩), .string s] w fun e w' => e = .returned (rpv 0 0 s3) ∧ Below w.heap.size w w' := by
  have HcR : Hid _ := cR
  clear cR
  have HcS : Hid _ := cS
  clear cS
  go_enter Tryz.func81, Tryz.ntmps81
  go_wp2_with fail
  refine Calls.mono (cQ.at _) ?_; rintro e w' ⟨rfl, hw⟩; replace hw := hw.symm; subst hw
  go_wp2_with fail
  refine Calls.mono (HcR.out _ ((Below.refl _ _).alloc (Nat.le_refl _) _)) ?_; rintro e w2 ⟨rfl, hbw2⟩
  have BR : Hid _ := (hbw2.block w.heap.size (by simp)).trans (alloc1 w (.cells #[.int .i64 0, .int .i64 0, .string ⟨#[]⟩] 42))
  have HB : Hid (Below w.heap.size w w2) := ((Below.refl w.heap.size w).alloc (Nat.le_refl _) _).trans (hbw2.mono (by simp))
  have hzw2 : w.heap.size < w2.heap.size := by have := hbw2.size; simp at this; omega
  clear hbw2
  go_wp2_with fail
  refine Calls.mono (HcS.out _ (HB.out.alloc (by first | omega | (simp; omega) | simp) _)) ?_; rintro e w3 ⟨rfl, hbw3⟩
  replace BR : Hid _ := (hbw3.block w.heap.size (by first | omega | (simp; omega) | simp)).trans ((Below.heap_alloc w2 (.cells #[.int .i64 oa, .int .i64 x] 113) w.heap.size (by omega)).trans BR.out)
  have E1 : Hid _ := (hbw3.block w2.heap.size (by first | omega | (simp; omega) | simp)).trans (alloc1 w2 (.cells #[.int .i64 oa, .int .i64 x] 113))
  replace HB : Hid (Below w.heap.size w w3) := (HB.out.alloc (by first | omega | (simp; omega) | simp) _).trans (hbw3.mono (by first | omega | (simp; omega) | simp))
  have hzw3 : w2.heap.size < w3.heap.size := by have := hbw3.size; simp at this; omega
  clear hbw3
  have cw35 : w3.cell? ⟨b, 5, none⟩ = some (.int .i64 im) := (HB.out.cell (p := ⟨b, 5, none⟩) hb).trans h5
  have cbw35 : b < w3.heap.size := by have := HB.out.size; omega
  have cw31 : w3.cell? ⟨b, 1, none⟩ = some (.int .i64 oa) := (HB.out.cell (p := ⟨b, 1, none⟩) hb).trans h1
  have cbw31 : b < w3.heap.size := by have := HB.out.size; omega
  go_wp2_with fail
  refine Calls.mono (cP.at _) ?_; rintro e w' ⟨rfl, hw⟩; replace hw := hw.symm; subst hw
  go_wp2_with fail
  refine Calls.mono (cM.at _) ?_; rintro e w' ⟨rfl, hw⟩; replace hw := hw.symm; subst hw
  go_wp2_with fail
  refine Calls.mono (c1.at _) ?_; rintro e w4 ⟨rfl, hbw4⟩
  replace BR : Hid _ := (hbw4.block w.heap.size (by first | omega | (simp; omega) | simp)).trans ((Below.heap_alloc w3 (.cells #[.int .i64 ea, .int .i64 ep] 113) w.heap.size (by omega)).trans BR.out)
  replace E1 : Hid _ := (hbw4.block w2.heap.size (by first | omega | (simp; omega) | simp)).trans ((Below.heap_alloc w3 (.cells #[.int .i64 ea, .int .i64 ep] 113) w2.heap.size (by omega)).trans E1.out)
  have E2 : Hid _ := (hbw4.block w3.heap.size (by first | omega | (simp; omega) | simp)).trans (alloc1 w3 (.cells #[.int .i64 ea, .int .i64 ep] 113))
  replace HB : Hid (Below w.heap.size w w4) := (HB.out.alloc (by first | omega | (simp; omega) | simp) _).trans (hbw4.mono (by first | omega | (simp; omega) | simp))
  have hzw4 : w3.heap.size < w4.heap.size := by have := hbw4.size; simp at this; omega
  clear hbw4
  have E2' := E2.out
  obtain ⟨y0, y1⟩ := cell2 E2'
  clear E2'
  go_wp2_with fail
  refine Calls.mono (c1b.at _) ?_; rintro e w5 ⟨rfl, hbw5⟩
  replace BR : Hid _ := (hbw5.block w.heap.size (by omega)).trans BR.out
  replace E1 : Hid _ := (hbw5.block w2.heap.size (by omega)).trans E1.out
  replace E2 : Hid _ := (hbw5.block w3.heap.size (by omega)).trans E2.out
  replace HB : Hid (Below w.heap.size w w5) := HB.out.trans (hbw5.mono (by omega))
  have hzw5 : w4.heap.size ≤ w5.heap.size := hbw5.size
  clear hbw5
  have E1' := E1.out
  obtain ⟨x0, x1⟩ := cell2 E1'
  clear E1'
  go_wp2_with fail
  refine Calls.mono (c2.at _) ?_; rintro e w6 ⟨rfl, hbw6⟩
  replace BR : Hid _ := (hbw6.block w.heap.size (by omega)).trans BR.out
  replace E1 : Hid _ := (hbw6.block w2.heap.size (by omega)).trans E1.out
  replace E2 : Hid _ := (hbw6.block w3.heap.size (by omega)).trans E2.out
  replace HB : Hid (Below w.heap.size w w6) := HB.out.trans (hbw6.mono (by omega))
  have hzw6 : w5.heap.size ≤ w6.heap.size := hbw6.size
  clear hbw6
  clear y0 y1
  have E2' := E2.out
  obtain ⟨y0, y1⟩ := cell2 E2'
  clear E2'
  go_wp2_with fail
  refine Calls.mono (c2b.at _) ?_; rintro e w7 ⟨rfl, hbw7⟩
  replace BR : Hid _ := (hbw7.block w.heap.size (by omega)).trans BR.out
  replace E1 : Hid _ := (hbw7.block w2.heap.size (by omega)).trans E1.out
  replace E2 : Hid _ := (hbw7.block w3.heap.size (by omega)).trans E2.out
  replace HB : Hid (Below w.heap.size w w7) := HB.out.trans (hbw7.mono (by omega))
  have hzw7 : w6.heap.size ≤ w7.heap.size := hbw7.size
  clear hbw7
  go_wp2_with fail
  refine Calls.mono (c3.at _) ?_; rintro e w8 ⟨rfl, hbw8⟩
  replace BR : Hid _ := (hbw8.block w.heap.size (by omega)).trans BR.out
  replace E1 : Hid _ := (hbw8.block w2.heap.size (by omega)).trans E1.out
  replace E2 : Hid _ := (hbw8.block w3.heap.size (by omega)).trans E2.out
  replace HB : Hid (Below w.heap.size w w8) := HB.out.trans (hbw8.mono (by omega))
  have hzw8 : w7.heap.size ≤ w8.heap.size := hbw8.size
  clear hbw8
  go_wp2_with fail
  refine Calls.mono (c4.at _) ?_; rintro e w9 ⟨rfl, hbw9⟩
  replace BR : Hid _ := (hbw9.block w.heap.size (by omega)).trans BR.out
  replace E1 : Hid _ := (hbw9.block w2.heap.size (by omega)).trans E1.out
  replace E2 : Hid _ := (hbw9.block w3.heap.size (by omega)).trans E2.out
  replace HB : Hid (Below w.heap.size w w9) := HB.out.trans (hbw9.mono (by omega))
  have hzw9 : w8.heap.size ≤ w9.heap.size := hbw9.size
  clear hbw9
  have BR' := BR.out
  obtain ⟨d0, d1, d2⟩ := cell3 BR'
  have f0 := nofrz BR'
  have hzr : w.heap.size < w9.heap.size := by omega
  clear BR'
  go_wp2
  refine bodyPost_ret (v := rpv 0 0 s3) (by simp [results, Tryz.results81, go_sem, rpv, d0, d1, d2]) rfl ⟨rfl, ?_⟩
  repeat (first | refine Below.setCell ?_ (by simp <;> omega) _ | refine Below.drew ?_ | refine Below.alloc ?_ (by first | omega | (simp <;> omega)) _)
  exact HB.out
theorem message_in {w : World} (b : Nat) (s s2 : ByteArray) (e0 d0 : Int) 
    (cO : ∀ wx, Below w.heap.size w wx → Calls Tryz.prog 80 #[.pointer (some ⟨b, 0, none⟩), .string s] wx fun e w' => e = .returned (rpv e0 d0 s2) ∧ Below wx.heap.size wx w') :
    Calls Tryz.prog 49 #[.pointer (some ⟨b, 0, none⟩), .int .i64 1, .string s] w fun e w' => e = .returned (rpv e0 d0 s2) ∧ Below w.heap.size w w' := by
  unfold rpv at cO
  have CO : Hid _ := cO
  clear cO
  go_enter Tryz.func49, Tryz.ntmps49
  go_wp2_with fail
  refine Calls.mono (CO.out _ ((Below.refl _ _).alloc (Nat.le_refl _) _)) ?_; rintro e w1 ⟨rfl, hb1⟩
  have BR := (hb1.block w.heap.size (by simp)).trans (alloc1 w (.cells #[.int .i64 0, .int .i64 0, .string ⟨#[]⟩] 42))
  have HB : Hid (Below w.heap.size w w1) := ((Below.refl w.heap.size w).alloc (Nat.le_refl _) _).trans (hb1.mono (by simp))
  have hz : w.heap.size < w1.heap.size := by have := hb1.size; simp at this; omega
  clear hb1
  obtain ⟨g0, g1, g2⟩ := cell3 BR
  have f0 := nofrz BR
  clear BR
  go_wp2
  refine bodyPost_ret (v := rpv e0 d0 s2) (by simp [results, Tryz.results49, go_sem, rpv, g0, g1, g2]) rfl ⟨rfl, ?_⟩
  repeat refine Below.setCell ?_ (by simp <;> omega) _
  exact HB.out
theorem message_back {w : World} (b : Nat) (s s2 : ByteArray) (e0 d0 : Int) (cF : ∀ wx, Below w.heap.size w wx → Calls Tryz.prog 51 #[.pointer (some ⟨b, 0, none⟩), .string s] wx fun e w' => e = .returned (.bool true) ∧ Below wx.heap.size wx w')
    (cO : ∀ wx, Below w.heap.size w wx → Calls Tryz.prog 81 #[.pointer (some ⟨b, 0, none⟩), .string s] wx fun e w' => e = .returned (rpv e0 d0 s2) ∧ Below wx.heap.size wx w') :
    Calls Tryz.prog 49 #[.pointer (some ⟨b, 0, none⟩), .int .i64 0, .string s] w fun e w' => e = .returned (rpv e0 d0 s2) ∧ Below w.heap.size w w' := by
  unfold rpv at cO
  have CO : Hid _ := cO
  clear cO
  have CF : Hid _ := cF
  clear cF
  go_enter Tryz.func49, Tryz.ntmps49
  go_wp2_with fail
  refine Calls.mono (CF.out _ ((Below.refl _ _).alloc (Nat.le_refl _) _)) ?_; rintro e w1 ⟨rfl, hb1⟩
  have B1 := (hb1.block w.heap.size (by simp)).trans (alloc1 w (.cells #[.int .i64 0, .int .i64 0, .string ⟨#[]⟩] 42))
  have H1 : Hid (Below w.heap.size w w1) := ((Below.refl w.heap.size w).alloc (Nat.le_refl _) _).trans (hb1.mono (by simp))
  have hz1 : w.heap.size < w1.heap.size := by have := hb1.size; simp at this; omega
  have HB1 : Hid _ := B1
  clear hb1 B1
  go_wp2_with fail
  refine Calls.mono (CO.out _ H1.out) ?_; rintro e w2 ⟨rfl, hb2⟩
  have BR := (hb2.block w.heap.size hz1).trans HB1.out
  have HB : Hid (Below w.heap.size w w2) := H1.out.trans (hb2.mono (by omega))
  have hz : w.heap.size < w2.heap.size := by have := hb2.size; omega
  clear hb2
  obtain ⟨g0, g1, g2⟩ := cell3 BR
  have f0 := nofrz BR
  clear BR
  go_wp2
  refine bodyPost_ret (v := rpv e0 d0 s2) (by simp [results, Tryz.results49, go_sem, rpv, g0, g1, g2]) rfl ⟨rfl, ?_⟩
  repeat refine Below.setCell ?_ (by simp <;> omega) _
  exact HB.out
theorem message_out {w : World} (b : Nat) (s s2 : ByteArray) (e0 d0 : Int) (cF : ∀ wx, Below w.heap.size w wx → Calls Tryz.prog 51 #[.pointer (some ⟨b, 0, none⟩), .string s] wx fun e w' => e = .returned (.bool false) ∧ Below wx.heap.size wx w')
    (cO : ∀ wx, Below w.heap.size w wx → Calls Tryz.prog 82 #[.pointer (some ⟨b, 0, none⟩), .string s] wx fun e w' => e = .returned (rpv e0 d0 s2) ∧ Below wx.heap.size wx w') :
    Calls Tryz.prog 49 #[.pointer (some ⟨b, 0, none⟩), .int .i64 0, .string s] w fun e w' => e = .returned (rpv e0 d0 s2) ∧ Below w.heap.size w w' := by
  unfold rpv at cO
  have CO : Hid _ := cO
  clear cO
  have CF : Hid _ := cF
  clear cF
  go_enter Tryz.func49, Tryz.ntmps49
  go_wp2_with fail
  refine Calls.mono (CF.out _ ((Below.refl _ _).alloc (Nat.le_refl _) _)) ?_; rintro e w1 ⟨rfl, hb1⟩
  have B1 := (hb1.block w.heap.size (by simp)).trans (alloc1 w (.cells #[.int .i64 0, .int .i64 0, .string ⟨#[]⟩] 42))
  have H1 : Hid (Below w.heap.size w w1) := ((Below.refl w.heap.size w).alloc (Nat.le_refl _) _).trans (hb1.mono (by simp))
  have hz1 : w.heap.size < w1.heap.size := by have := hb1.size; simp at this; omega
  have HB1 : Hid _ := B1
  clear hb1 B1
  go_wp2_with fail
  refine Calls.mono (CO.out _ H1.out) ?_; rintro e w2 ⟨rfl, hb2⟩
  have BR := (hb2.block w.heap.size hz1).trans HB1.out
  have HB : Hid (Below w.heap.size w w2) := H1.out.trans (hb2.mono (by omega))
  have hz : w.heap.size < w2.heap.size := by have := hb2.size; omega
  clear hb2
  obtain ⟨g0, g1, g2⟩ := cell3 BR
  have f0 := nofrz BR
  clear BR
  go_wp2
  refine bodyPost_ret (v := rpv e0 d0 s2) (by simp [results, Tryz.results49, go_sem, rpv, g0, g1, g2]) rfl ⟨rfl, ?_⟩
  repeat refine Below.setCell ?_ (by simp <;> omega) _
  exact HB.out
end Go.Proofs.YthiljpbodmajaabGreat
