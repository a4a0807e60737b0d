/-
  CONTRACTS: octets.Byte, octets.Word, sums.Sum, natboxref.number, natboxref.total, natboxref.Sum.
-/
import Derived.Test.YtgpbajpeldjomaaSumw
import Derived.Test.YtgpbajpeldjomaaBytes
namespace Go.Proofs.Ytgpbajpeldjomaa
open Go.RowKit Plain

theorem int_eq {k : IntKind} {a b : Int} (h : a = b) : Value.int k a = .int k b := by rw [h]

set_option maxHeartbeats 400000 in
set_option maxRecDepth 8000 in
theorem byte_any (s : ByteArray) (i : Int) (w : World) (_hs : s.size ≤ maxLen) :
    Calls Try.prog 49 #[.string s, .int .i64 i] w fun e w' => e = .returned (.int .i64 (bt s i)) ∧ w' = w := by
  by_cases h0 : i < 0
  · go_enter Try.func49, Try.ntmps49
    go_wp2
    go_ret
    exact ⟨ret_int (bt_neg s i h0).symm, rfl⟩
  · obtain ⟨k, rfl⟩ := Int.eq_ofNat_of_zero_le (show 0 ≤ i by omega)
    by_cases hk : k < s.size
    · have hb := bt_in s k hk
      have hlt : (s[k].toNat : Int) < 256 := by have := s[k].toNat_lt; omega
      have HB : Hid _ := hb
      clear hb
      go_enter Try.func49, Try.ntmps49
      go_wp2
      go_ret
      exact ⟨ret_int HB.out.symm, rfl⟩
    · have hb := bt_out s k (by omega)
      have HB : Hid _ := hb
      clear hb
      go_enter Try.func49, Try.ntmps49
      go_wp2
      go_ret
      exact ⟨ret_int HB.out.symm, rfl⟩

theorem word_any (s : ByteArray) (i : Int) (w : World) (hs : s.size ≤ maxLen) (h0 : 0 ≤ i) (h1 : i < 9223372036854775807) :
    Calls Try.prog 31 #[.string s, .int .i64 i] w fun e w' => e = .returned (.int .i64 (wd s i)) ∧ w' = w := by
  have b1 := bt_bd s i
  have b2 := bt_bd s (i + 1)
  have ho := or8 (bt s i) (bt s (i + 1)) (by omega) (by omega) (by omega) (by omega)
  obtain ⟨b11, b12⟩ := b1
  obtain ⟨b21, b22⟩ := b2
  go_enter Try.func31, Try.ntmps31
  go_wp2_with fail
  refine (byte_any s i _ hs).mono ?_; rintro e w' ⟨rfl, rfl⟩
  go_wp2_with fail
  refine (byte_any s (i + 1) _ hs).mono ?_; rintro e w' ⟨rfl, rfl⟩
  go_wp2
  go_ret
  exact ⟨rfl, rfl⟩

set_option maxHeartbeats 400000 in
set_option maxRecDepth 8000 in
theorem sumsSum_any (s : ByteArray) (w : World) (hs : s.size ≤ maxLen) :
    Calls Try.prog 15 #[.string s] w fun e w' => e = .returned (.int .i64 (sumv s)) ∧ w' = w := by
  have hs' := hs
  unfold maxLen at hs'
  by_cases hz : s.size ≤ 65535
  · go_enter Try.func15, Try.ntmps15
    go_wp2
    go_loop [3, 4] (fun t i => ∃ j k : Nat, 2 * k ≤ s.size + 1 ∧ j ≤ 2 * k ∧ 2 * k ≤ j ∧ i = .int .i64 (j : Int) ∧ t = .int .i64 (tot s k)) (fun _ i => s.size + 2 - (intOf i).toNat)
    case atStart => exact ⟨0, 0, by omega, by omega, by omega, rfl, rfl⟩
    case round =>
      obtain ⟨j, k, hk, hj1, hj2, rfl, rfl⟩ := hrel
      have ht := tot_bd s k
      obtain ⟨ht1, ht2⟩ := ht
      by_cases hlt : j < s.size
      · have hw := wd_bd s (j : Int)
        obtain ⟨hw1, hw2⟩ := hw
        go_wp2_with fail
        refine (word_any s _ _ hs (by omega) (by omega)).mono ?_; rintro e w' ⟨rfl, rfl⟩
        go_wp2
        go_round
        case rel => exact ⟨j + 2, k + 1, by omega, by omega, by omega, by go_num, int_eq (by simp only [tot]; rw [show (j : Int) = 2 * (k : Int) by omega])⟩
        case measure => simp [intOf]; omega
      · go_wp2_with fail
        refine (fold_any _ _ (by omega) (by omega)).mono ?_; rintro e w' ⟨rfl, rfl⟩
        have hb := fd_bd (tot s k)
        obtain ⟨hb1, hb2⟩ := hb
        go_wp2
        go_ret
        have hkk : k = (s.size + 1) / 2 := by omega
        exact ⟨ret_int (by unfold sumv ones total; rw [if_pos hz, ← hkk]), rfl⟩
  · go_enter Try.func15, Try.ntmps15
    go_wp2
    go_ret
    exact ⟨ret_int (by unfold sumv; rw [if_neg hz]), rfl⟩

set_option maxHeartbeats 400000 in
set_option maxRecDepth 8000 in
theorem number_any (s : ByteArray) (I n : Int) (w : World) (hs : s.size ≤ maxLen) (h0 : 0 ≤ I) (h1 : I < 4611686018427387904) (hn : 0 ≤ n) (h2 : n ≤ 4) :
    Calls Try.prog 21 #[.string s, .int .i64 I, .int .i64 n] w fun e w' => e = .returned (.int .i64 (nm s I n.toNat)) ∧ w' = w := by
  unfold maxLen at hs
  go_enter Try.func21, Try.ntmps21
  go_wp2
  go_loop [7, 8] (fun v i => ∃ j k : Nat, (k : Int) ≤ n ∧ (j : Int) ≤ I + k ∧ I + k ≤ (j : Int) ∧ i = .int .i64 (j : Int) ∧ v = .int .i64 (nm s I k)) (fun _ i => (I + n - intOf i).toNat)
  case atStart => exact ⟨I.toNat, 0, by omega, by omega, by omega, int_eq (by omega), rfl⟩
  case round =>
    obtain ⟨j, k, hk, hj1, hj2, rfl, rfl⟩ := hrel
    have ht := nm_bd s I k (by omega)
    obtain ⟨ht1, ht2⟩ := ht
    by_cases hlt : (j : Int) < I + n
    · by_cases hin : j < s.size
      · have hb := bt_in s j hin
        have HB : Hid _ := hb
        clear hb
        go_wp2
        go_round
        case rel => exact ⟨j + 1, k + 1, by omega, by omega, by omega, by go_num, int_eq (by have hl := s[j].toNat_lt; simp only [nm]; rw [show I + k = j by omega, HB.out]; unfold wrap64; omega)⟩
        case measure => simp [intOf]; omega
      · have hb := bt_out s (j : Int) (by omega)
        have HB : Hid _ := hb
        clear hb
        go_wp2
        go_round
        case rel => exact ⟨j + 1, k + 1, by omega, by omega, by omega, by go_num, int_eq (by simp only [nm]; rw [show I + k = j by omega, HB.out]; omega)⟩
        case measure => simp [intOf]; omega
    · go_wp2
      go_ret
      exact ⟨ret_int (by rw [show k = n.toNat by omega]), rfl⟩
theorem number1 (s : ByteArray) (i : Int) (w : World) (hs : s.size ≤ maxLen) (h0 : 0 ≤ i) (h1 : i < 4611686018427387904) :
    Calls Try.prog 21 #[.string s, .int .i64 i, .int .i64 1] w fun e w' => e = .returned (.int .i64 (bt s i)) ∧ w' = w :=
  (number_any s i 1 w hs h0 h1 (by omega) (by omega)).mono fun e w' h => ⟨by rw [h.1, ← nm1]; rfl, h.2⟩
theorem number2 (s : ByteArray) (i : Int) (w : World) (hs : s.size ≤ maxLen) (h0 : 0 ≤ i) (h1 : i < 4611686018427387904) :
    Calls Try.prog 21 #[.string s, .int .i64 i, .int .i64 2] w fun e w' => e = .returned (.int .i64 (wd s i)) ∧ w' = w :=
  (number_any s i 2 w hs h0 h1 (by omega) (by omega)).mono fun e w' h => ⟨by rw [h.1, ← nm2]; rfl, h.2⟩
theorem number4 (s : ByteArray) (i : Int) (w : World) (hs : s.size ≤ maxLen) (h0 : 0 ≤ i) (h1 : i < 4611686018427387904) :
    Calls Try.prog 21 #[.string s, .int .i64 i, .int .i64 4] w fun e w' => e = .returned (.int .i64 (wd s i * 65536 + wd s (i + 2))) ∧ w' = w :=
  (number_any s i 4 w hs h0 h1 (by omega) (by omega)).mono fun e w' h => ⟨by rw [h.1, ← nm4]; rfl, h.2⟩

set_option maxHeartbeats 400000 in
theorem total_any (s : ByteArray) (w : World) (hs : s.size ≤ maxLen) (hz : s.size ≤ 131072) :
    Calls Try.prog 16 #[.string s] w fun e w' => e = .returned (.int .i64 (total s)) ∧ w' = w := by
  go_enter Try.func16, Try.ntmps16
  go_wp2
  go_loop [3, 4] (fun t i => ∃ j k : Nat, 2 * k ≤ s.size + 1 ∧ j ≤ 2 * k ∧ 2 * k ≤ j ∧ i = .int .i64 (j : Int) ∧ t = .int .i64 (tot s k)) (fun _ i => s.size + 2 - (intOf i).toNat)
  case atStart => exact ⟨0, 0, by omega, by omega, by omega, rfl, rfl⟩
  case round =>
    obtain ⟨j, k, hk, hj1, hj2, rfl, rfl⟩ := hrel
    have ht := tot_bd s k
    obtain ⟨ht1, ht2⟩ := ht
    by_cases hlt : j < s.size
    · have hw := wd_bd s (j : Int)
      obtain ⟨hw1, hw2⟩ := hw
      go_wp2_with fail
      refine (number2 s _ _ hs (by omega) (by omega)).mono ?_; rintro e w' ⟨rfl, rfl⟩
      go_wp2
      go_round
      case rel => exact ⟨j + 2, k + 1, by omega, by omega, by omega, by go_num, int_eq (by simp only [tot]; rw [show (j : Int) = 2 * (k : Int) by omega])⟩
      case measure => simp [intOf]; omega
    · go_wp2
      go_ret
      have hkk : k = (s.size + 1) / 2 := by omega
      exact ⟨ret_int (by unfold total; rw [← hkk]), rfl⟩

set_option maxHeartbeats 400000 in
theorem refSum_any (s : ByteArray) (w : World) (hs : s.size ≤ maxLen) :
    Calls Try.prog 8 #[.string s] w fun e w' => e = .returned (.int .i64 (sumv s)) ∧ w' = w := by
  have hs' := hs
  unfold maxLen at hs'
  by_cases hz : s.size ≤ 65535
  · have hb := total_bd s
    obtain ⟨hb1, hb2⟩ := hb
    go_enter Try.func8, Try.ntmps8
    go_wp2_with fail
    refine (total_any s _ hs (by omega)).mono ?_; rintro e w' ⟨rfl, rfl⟩
    go_wp2_with fail
    refine (ones_any _ _ (by omega) (by omega)).mono ?_; rintro e w' ⟨rfl, rfl⟩
    go_wp2
    go_ret
    exact ⟨ret_int (by unfold sumv; rw [if_pos hz]), rfl⟩
  · go_enter Try.func8, Try.ntmps8
    go_wp2
    go_ret
    exact ⟨ret_int (by unfold sumv; rw [if_neg hz]), rfl⟩
theorem boxSum_any (s : ByteArray) (w : World) (hs : s.size ≤ maxLen) :
    Calls Try.prog 7 #[.string s] w fun e w' => e = .returned (.int .i64 (sumv s)) ∧ w' = w := by
  go_enter Try.func7, Try.ntmps7
  go_wp2_with fail
  refine (sumsSum_any s _ hs).mono ?_; rintro e w' ⟨rfl, rfl⟩
  go_wp2
  go_ret
  exact ⟨rfl, rfl⟩
end Go.Proofs.Ytgpbajpeldjomaa
