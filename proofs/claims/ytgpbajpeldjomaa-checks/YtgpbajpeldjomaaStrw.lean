/-
  CONTRACTS on texts: octets.Part, FromWord, PutWord, sums.Blanked; natboxref.part, text, with.
-/
import Derived.Test.YtgpbajpeldjomaaOctets
import Derived.Test.YtgpbajpeldjomaaTexts
import Derived.Below
import Derived.WalkSpells
import Derived.RegionTactic
import Derived.Deep.RegionWith
namespace Go.Proofs.Ytgpbajpeldjomaa
open Go.RowKit Plain

theorem ret_string {a b : ByteArray} (h : a = b) : Ending.returned (.string a) = .returned (.string b) := by rw [h]

theorem conv1 (w : World) (a : Int) : Sem.run Try.prog (convert 67 9 (.slice (some ⟨w.heap.size, 0, none⟩) 1 1)) (w.alloc (.cells #[.int .u8 a] 5)) = .ok (.string (strOfNums [a])) (w.alloc (.cells #[.int .u8 a] 5)) :=
  run_convert_bytes_arg (P := Try.prog) _ 67 5 Try.underlying67 Try.underlying5 w.heap.size 0 1 1 [a] rfl
    (fun i hi => by match i, hi with | 0, _ => simp [go_sem]) 9 Try.underlying9
theorem conv2 (w : World) (a b : Int) : Sem.run Try.prog (convert 67 9 (.slice (some ⟨w.heap.size, 0, none⟩) 2 2)) (w.alloc (.cells #[.int .u8 a, .int .u8 b] 5)) = .ok (.string (strOfNums [a, b])) (w.alloc (.cells #[.int .u8 a, .int .u8 b] 5)) :=
  run_convert_bytes_arg (P := Try.prog) _ 67 5 Try.underlying67 Try.underlying5 w.heap.size 0 2 2 [a, b] rfl
    (fun i hi => by match i, hi with | 0, _ => simp [go_sem] | 1, _ => simp [go_sem]) 9 Try.underlying9

theorem fromWord_any (n : Int) (w : World) (h0 : 0 ≤ n) (h1 : n < 65536) :
    Calls Try.prog 77 #[.int .i64 n] w fun e w' => e = .returned (.string (w2 n)) ∧ Below w.heap.size w w' := by
  have hcv := conv2 w (n / 256) (n % 256)
  go_enter Try.func77, Try.ntmps77
  go_wp2
  go_ret
  exact ⟨rfl, (Below.refl _ _).alloc (Nat.le_refl _) _⟩

/-- octets.Part: of a part that is there -/
theorem octPart_in (s : ByteArray) (a b : Int) (w : World) (h0 : 0 ≤ a) (h1 : a ≤ b) (h2 : b ≤ s.size) :
    Calls Try.prog 62 #[.string s, .int .i64 a, .int .i64 b] w fun e w' => e = .returned (.string (prt s a b)) ∧ w' = w := by
  obtain ⟨A, rfl⟩ := Int.eq_ofNat_of_zero_le h0
  obtain ⟨B, rfl⟩ := Int.eq_ofNat_of_zero_le (show 0 ≤ b by omega)
  go_enter Try.func62, Try.ntmps62
  go_wp2
  go_ret
  exact ⟨ret_string (by simp [prt]), rfl⟩

/-- natboxref.part -/
theorem part_any (s : ByteArray) (a b : Int) (w : World) (h0 : 0 ≤ a) (hb : 0 ≤ b) :
    Calls Try.prog 26 #[.string s, .int .i64 a, .int .i64 b] w fun e w' => e = .returned (.string (prt s a b)) ∧ w' = w := by
  obtain ⟨A, rfl⟩ := Int.eq_ofNat_of_zero_le h0
  obtain ⟨B, rfl⟩ := Int.eq_ofNat_of_zero_le hb
  by_cases hc : s.size < B
  · by_cases hd : A < s.size
    · have hp := prt_clip s A B (by omega)
      have HP : Hid _ := hp
      clear hp
      go_enter Try.func26, Try.ntmps26
      go_wp2
      go_ret
      exact ⟨ret_string (by rw [HP.out]; simp [prt]), rfl⟩
    · have hp := prt_clip s A B (by omega)
      have he := prt_empty s A s.size (by omega)
      have HP : Hid _ := hp
      have HE : Hid _ := he
      clear hp he
      go_enter Try.func26, Try.ntmps26
      go_wp2
      go_ret
      exact ⟨ret_string (by rw [HP.out, HE.out]; rfl), rfl⟩
  · by_cases hd : A < B
    · go_enter Try.func26, Try.ntmps26
      go_wp2
      go_ret
      exact ⟨ret_string (by simp [prt]), rfl⟩
    · have he := prt_empty s A B (by omega)
      have HE : Hid _ := he
      clear he
      go_enter Try.func26, Try.ntmps26
      go_wp2
      go_ret
      exact ⟨ret_string (by rw [HE.out]; rfl), rfl⟩

/-- octets.PutWord: where the two bytes are there -/
theorem putWord_in (s : ByteArray) (i n : Int) (w : World) (h0 : 0 ≤ i) (h1 : i + 2 ≤ s.size) (h2 : s.size ≤ 65535) (g0 : 0 ≤ n) (g1 : n < 65536) :
    Calls Try.prog 76 #[.string s, .int .i64 i, .int .i64 n] w fun e w' => e = .returned (.string (put s i (w2 n))) ∧ Below w.heap.size w w' := by
  obtain ⟨I, rfl⟩ := Int.eq_ofNat_of_zero_le h0
  have hz := w2_size n
  have hy : (0 : Int) ≤ (I : Int) + 2 := by omega
  have hx : (I : Int) ≤ (s.size : Int) := by omega
  have hv : (I : Int) ≤ (s.size : Int) - 2 := by omega
  have hwr : IntKind.i64.wrap ((I : Int) + 2) = (I : Int) + 2 := by rw [IntKind.wrap_i64]; omega
  go_enter Try.func76, Try.ntmps76
  go_wp2
  go_region_with (go_at_call 77; refine (fromWord_any _ _ g0 g1).mono ?_; rintro e w' ⟨rfl, hb⟩)
  all_goals
    go_wp2
    go_ret
    refine ⟨ret_string ?_, (Below.refl _ _).drew.trans hb⟩
    simp only [put, prt, hz]
    rw [show ((I : Int) + ((2 : Nat) : Int)).toNat = I + 2 by omega]
    simp

theorem text_zero (v : Int) (w : World) :
    Calls Try.prog 41 #[.int .i64 v, .int .i64 0] w fun e w' => e = .returned (.string (tx v 0)) ∧ Below w.heap.size w w' := by
  go_enter Try.func41, Try.ntmps41
  go_wp2
  go_ret
  exact ⟨rfl, Below.refl _ _⟩
theorem conv1_at (a : Int) (wx : World) (b : Nat) (h : wx.cell? ⟨b, 0, none⟩ = some (.int .u8 a)) : Sem.run Try.prog (convert 67 9 (.slice (some ⟨b, 0, none⟩) 1 1)) wx = .ok (.string (strOfNums [a])) wx :=
  run_convert_bytes_arg (P := Try.prog) wx 67 5 Try.underlying67 Try.underlying5 b 0 1 1 [a] rfl
    (fun i hi => by match i, hi with | 0, _ => simpa using h) 9 Try.underlying9
set_option maxHeartbeats 1000000 in
theorem text_step (v n m : Int) (k : Nat) (w : World) (hm : Hid (n - 1 = m)) (h0 : 0 ≤ v) (h1 : v < 65536) (n0 : 0 < n) (n1 : n ≤ 4)
    (ih : ∀ w : World, Calls Try.prog 41 #[.int .i64 (v / 256), .int .i64 m] w fun e w' => e = .returned (.string (tx (v / 256) k)) ∧ Below w.heap.size w w') (hk : k ≤ 4) :
    Calls Try.prog 41 #[.int .i64 v, .int .i64 n] w fun e w' => e = .returned (.string (tx v (k + 1))) ∧ Below w.heap.size w w' := by
  have hz := tx_size (v / 256) k
  have hz1 : (strOfNums [v % 256]).size = 1 := strOfNums_size _
  have e1 : IntKind.i64.wrap (v.tdiv 256) = v / 256 := by rw [IntKind.wrap_i64, Int.tdiv_eq_ediv_of_nonneg h0]; omega
  have e2 : IntKind.i64.wrap (n - 1) = m := by rw [IntKind.wrap_i64, ← hm.out]; omega
  have e3 : v.tmod 256 = v % 256 := Int.tmod_eq_emod_of_nonneg h0
  have e4 : IntKind.u8.wrap (v % 256) = v % 256 := by rw [IntKind.wrap_u8']; omega
  have hcv := conv1_at (v % 256)
  have IH : Hid _ := ih
  clear ih
  go_enter Try.func41, Try.ntmps41
  go_wp2
  go_region_with (go_at_call 41; refine Calls.mono (Hid.out IH _) ?_; rintro e w' ⟨rfl, hb⟩; obtain ⟨hc, hf⟩ := bcell hb)
  all_goals
    go_wp2
    go_ret
    refine ⟨ret_string rfl, ?_⟩
    first
    | exact ((Below.refl _ _).drew.trans hb).alloc hb.size _
    | exact (((Below.refl _ _).alloc (Nat.le_refl _) _).drew).trans (hb.mono (by simp))
theorem text1 (v : Int) (w : World) (h0 : 0 ≤ v) (h1 : v < 65536) :
    Calls Try.prog 41 #[.int .i64 v, .int .i64 1] w fun e w' => e = .returned (.string (tx v 1)) ∧ Below w.heap.size w w' :=
  text_step v 1 0 0 w rfl h0 h1 (by decide) (by decide) (fun w => text_zero _ w) (by decide)
theorem text2 (v : Int) (w : World) (h0 : 0 ≤ v) (h1 : v < 65536) :
    Calls Try.prog 41 #[.int .i64 v, .int .i64 2] w fun e w' => e = .returned (.string (w2 v)) ∧ Below w.heap.size w w' :=
  (text_step v 2 1 1 w rfl h0 h1 (by decide) (by decide) (fun w => text1 _ w (by omega) (by omega)) (by decide)).mono fun e w' h => ⟨by rw [h.1, tx2 v h0 h1], h.2⟩

/-- natboxref.with -/
theorem with_any (s t : ByteArray) (i : Int) (w : World) (h0 : 0 ≤ i) (h1 : i ≤ 65535) (hs : s.size ≤ 65535) (ht : t.size ≤ 65535) :
    Calls Try.prog 40 #[.string s, .int .i64 i, .string t] w fun e w' => e = .returned (.string (put s i t)) ∧ w' = w := by
  have hp := prt_le s 0 i
  have hq := prt_le s (i + (t.size : Int)) s.size
  obtain ⟨I, rfl⟩ := Int.eq_ofNat_of_zero_le h0
  go_enter Try.func40, Try.ntmps40
  go_wp2_with fail
  refine (part_any s 0 _ _ (by omega) h0).mono ?_; rintro e w' ⟨rfl, rfl⟩
  go_wp2_with fail
  refine (part_any s _ _ _ (by omega) (by omega)).mono ?_; rintro e w' ⟨rfl, rfl⟩
  go_wp2
  go_ret
  exact ⟨ret_string rfl, rfl⟩

/-- sums.Blanked -/
theorem blanked_in (s : ByteArray) (i : Int) (w : World) (h0 : 0 ≤ i) (h1 : i + 2 ≤ s.size) (h2 : s.size ≤ 65535) :
    Calls Try.prog 72 #[.string s, .int .i64 i] w fun e w' => e = .returned (.int .i64 (sumv (blk s i))) ∧ Below w.heap.size w w' := by
  have hz := blk_size s i h0 h1
  go_enter Try.func72, Try.ntmps72
  go_wp2_with fail
  refine (putWord_in s i 0 _ h0 h1 h2 (by decide) (by decide)).mono ?_; rintro e w' ⟨rfl, hb⟩
  go_wp2_with fail
  refine (sumsSum_any _ _ (by unfold maxLen; unfold blk at hz; rw [hz]; omega)).mono ?_; rintro e w' ⟨rfl, rfl⟩
  go_wp2
  go_ret
  exact ⟨rfl, hb⟩
end Go.Proofs.Ytgpbajpeldjomaa
