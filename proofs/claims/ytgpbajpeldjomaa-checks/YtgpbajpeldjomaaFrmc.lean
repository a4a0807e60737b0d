/-
  CONTRACTS: package frames, the small functions.
-/
import Derived.Test.YtgpbajpeldjomaaStrw
import Derived.Test.YtgpbajpeldjomaaFrmp
import Derived.Test.YtgpbajpeldjomaaCfgw
namespace Go.Proofs.Ytgpbajpeldjomaa
open Go.RowKit Plain

theorem long_any (s : ByteArray) (i : Int) (w : World) (hs : s.size ≤ maxLen) (h0 : 0 ≤ i) (h1 : i < 65536) :
    Calls Try.prog 73 #[.string s, .int .i64 i] w fun e w' => e = .returned (.int .i64 (lg s i)) ∧ w' = w := by
  obtain ⟨b11, b12⟩ := wd_bd s i
  obtain ⟨b21, b22⟩ := wd_bd s (i + 2)
  have ho := or16 (wd s i) (wd s (i + 2)) (by omega) (by omega) (by omega) (by omega)
  go_enter Try.func73, Try.ntmps73
  go_wp2_with fail
  refine (word_any s i _ hs (by omega) (by omega)).mono ?_; rintro e w' ⟨rfl, rfl⟩
  go_wp2_with fail
  refine (word_any s (i + 2) _ hs (by omega) (by omega)).mono ?_; rintro e w' ⟨rfl, rfl⟩
  go_wp2
  go_ret
  exact ⟨rfl, rfl⟩
theorem version_any (s : ByteArray) (w : World) (hs : s.size ≤ maxLen) :
    Calls Try.prog 69 #[.string s] w fun e w' => e = .returned (.int .i64 (ver s)) ∧ w' = w := by
  obtain ⟨b1, b2⟩ := bt_bd s 0
  go_enter Try.func69, Try.ntmps69
  go_wp2_with fail
  refine (byte_any s 0 _ hs).mono ?_; rintro e w' ⟨rfl, rfl⟩
  go_wp2
  go_ret
  exact ⟨rfl, rfl⟩
theorem headerLength_any (s : ByteArray) (w : World) (hs : s.size ≤ maxLen) :
    Calls Try.prog 70 #[.string s] w fun e w' => e = .returned (.int .i64 (hdv s)) ∧ w' = w := by
  obtain ⟨b1, b2⟩ := bt_bd s 0
  have ha := and15 (bt s 0) (by omega) (by omega)
  go_enter Try.func70, Try.ntmps70
  go_wp2_with fail
  refine (byte_any s 0 _ hs).mono ?_; rintro e w' ⟨rfl, rfl⟩
  go_wp2
  go_ret
  exact ⟨rfl, rfl⟩
theorem totalLength_any (s : ByteArray) (w : World) (hs : s.size ≤ maxLen) :
    Calls Try.prog 71 #[.string s] w fun e w' => e = .returned (.int .i64 (wd s 2)) ∧ w' = w := by
  go_enter Try.func71, Try.ntmps71
  go_wp2_with fail
  refine (word_any s 2 _ hs (by omega) (by omega)).mono ?_; rintro e w' ⟨rfl, rfl⟩
  go_wp2
  go_ret
  exact ⟨rfl, rfl⟩
theorem protocol_any (s : ByteArray) (w : World) (hs : s.size ≤ maxLen) :
    Calls Try.prog 35 #[.string s] w fun e w' => e = .returned (.int .i64 (bt s 9)) ∧ w' = w := by
  go_enter Try.func35, Try.ntmps35
  go_wp2_with fail
  refine (byte_any s 9 _ hs).mono ?_; rintro e w' ⟨rfl, rfl⟩
  go_wp2
  go_ret
  exact ⟨rfl, rfl⟩
theorem source_any (s : ByteArray) (w : World) (hs : s.size ≤ maxLen) :
    Calls Try.prog 53 #[.string s] w fun e w' => e = .returned (.int .i64 (lg s 12)) ∧ w' = w := by
  go_enter Try.func53, Try.ntmps53
  go_wp2_with fail
  refine (long_any s 12 _ hs (by omega) (by omega)).mono ?_; rintro e w' ⟨rfl, rfl⟩
  go_wp2
  go_ret
  exact ⟨rfl, rfl⟩
theorem destination_any (s : ByteArray) (w : World) (hs : s.size ≤ maxLen) :
    Calls Try.prog 54 #[.string s] w fun e w' => e = .returned (.int .i64 (lg s 16)) ∧ w' = w := by
  go_enter Try.func54, Try.ntmps54
  go_wp2_with fail
  refine (long_any s 16 _ hs (by omega) (by omega)).mono ?_; rintro e w' ⟨rfl, rfl⟩
  go_wp2
  go_ret
  exact ⟨rfl, rfl⟩
theorem icmpType_any (s : ByteArray) (w : World) (hs : s.size ≤ maxLen) :
    Calls Try.prog 59 #[.string s] w fun e w' => e = .returned (.int .i64 (bt s (hdv s))) ∧ w' = w := by
  go_enter Try.func59, Try.ntmps59
  go_wp2_with fail
  refine (headerLength_any s _ hs).mono ?_; rintro e w' ⟨rfl, rfl⟩
  go_wp2_with fail
  refine (byte_any s _ _ hs).mono ?_; rintro e w' ⟨rfl, rfl⟩
  go_wp2
  go_ret
  exact ⟨rfl, rfl⟩
theorem size_le {s : ByteArray} (h : s.size ≤ 65535) : s.size ≤ maxLen := by unfold maxLen; omega
theorem body_fits (s : ByteArray) (w : World) (h : Fits s) :
    Calls Try.prog 55 #[.string s] w fun e w' => e = .returned (.string (bdy s)) ∧ w' = w := by
  have hs := size_le h.n64
  have h1 := h.h20
  have h2 := h.ht
  have h3 := h.tn
  go_enter Try.func55, Try.ntmps55
  go_wp2_with fail
  refine (headerLength_any s _ hs).mono ?_; rintro e w' ⟨rfl, rfl⟩
  go_wp2_with fail
  refine (totalLength_any s _ hs).mono ?_; rintro e w' ⟨rfl, rfl⟩
  go_wp2_with fail
  refine (octPart_in s _ _ _ (by omega) (by omega) (by omega)).mono ?_; rintro e w' ⟨rfl, rfl⟩
  go_wp2
  go_ret
  exact ⟨rfl, rfl⟩

set_option maxHeartbeats 1000000 in
theorem headerFits_any (s : ByteArray) (w : World) (hs : s.size ≤ maxLen) :
    Calls Try.prog 50 #[.string s] w fun e w' => e = .returned (.bool (fitsB s)) ∧ w' = w := by
  have hs' := hs
  unfold maxLen at hs'
  have key : (s.size < 20 ∧ fitsB s = false) ∨ (20 ≤ s.size ∧ 65535 < s.size ∧ fitsB s = false) ∨ (20 ≤ s.size ∧ s.size ≤ 65535 ∧ (ver s != 4) = true ∧ fitsB s = false) ∨
      (20 ≤ s.size ∧ s.size ≤ 65535 ∧ (ver s != 4) = false ∧ hdv s < 20 ∧ fitsB s = false) ∨ (20 ≤ s.size ∧ s.size ≤ 65535 ∧ (ver s != 4) = false ∧ 20 ≤ hdv s ∧ wd s 2 < hdv s ∧ fitsB s = false) ∨
      (20 ≤ s.size ∧ s.size ≤ 65535 ∧ (ver s != 4) = false ∧ 20 ≤ hdv s ∧ hdv s ≤ wd s 2 ∧ fitsB s = decide (wd s 2 ≤ (s.size : Int))) := by
    by_cases c1 : s.size < 20
    · exact .inl ⟨c1, by simp [fitsB]; omega⟩
    · by_cases c2 : 65535 < s.size
      · exact .inr (.inl ⟨by omega, c2, by simp [fitsB]; omega⟩)
      · by_cases c3 : ver s = 4
        · by_cases c4 : hdv s < 20
          · exact .inr (.inr (.inr (.inl ⟨by omega, by omega, by simp [c3], c4, by simp [fitsB]; omega⟩)))
          · by_cases c5 : wd s 2 < hdv s
            · exact .inr (.inr (.inr (.inr (.inl ⟨by omega, by omega, by simp [c3], by omega, c5, by simp [fitsB]; omega⟩))))
            · refine .inr (.inr (.inr (.inr (.inr ⟨by omega, by omega, by simp [c3], by omega, by omega, ?_⟩))))
              unfold fitsB
              rw [decide_eq_decide]
              omega
        · exact .inr (.inr (.inl ⟨by omega, by omega, by simp [c3], by simp [fitsB]; omega⟩))
  rcases key with ⟨c1, hf⟩ | ⟨c1, c2, hf⟩ | ⟨c1, c2, c3, hf⟩ | ⟨c1, c2, c3, c4, hf⟩ | ⟨c1, c2, c3, c4, c5, hf⟩ | ⟨c1, c2, c3, c4, c5, hf⟩
  all_goals
    have HF : Hid _ := hf
    clear hf
    go_enter Try.func50, Try.ntmps50
    go_wp2_with (first
      | (go_at_call 69; refine (version_any s _ hs).mono ?_; rintro e w' ⟨rfl, rfl⟩)
      | (go_at_call 70; refine (headerLength_any s _ hs).mono ?_; rintro e w' ⟨rfl, rfl⟩)
      | (go_at_call 71; refine (totalLength_any s _ hs).mono ?_; rintro e w' ⟨rfl, rfl⟩))
    go_ret
    exact ⟨ret_bool HF.out.symm, rfl⟩
end Go.Proofs.Ytgpbajpeldjomaa
