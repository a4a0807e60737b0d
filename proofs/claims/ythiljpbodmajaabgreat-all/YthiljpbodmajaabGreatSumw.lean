/-
  CONTRACTS: sums.fold, sums.isWord, sums.Fix, natbox.Fix, natboxref.Ones, natboxref.Fix.
-/
import Derived.Test.YthiljpbodmajaabGreatProg
import Derived.Test.YthiljpbodmajaabGreatPlain
import Derived.WalkKit
import Derived.WalkLawsBesides
import Derived.LoopTactic
import Derived.Outline
import Derived.Below
import Derived.WalkSpells
import Derived.RegionTactic
import Derived.Deep.RegionWith
namespace Go.Proofs.YthiljpbodmajaabGreat
open Go.RowKit Plain

theorem bcell {W w1 : World} (hb : Below W.heap.size W w1) : (∀ b o, b < W.heap.size → w1.cell? ⟨b, o, none⟩ = W.cell? ⟨b, o, none⟩) ∧ (∀ b o, b < W.heap.size → w1.frozen? ⟨b, o, none⟩ = W.frozen? ⟨b, o, none⟩) :=
  ⟨fun b o h => hb.cell (p := ⟨b, o, none⟩) h, fun b o h => hb.frozen (p := ⟨b, o, none⟩) h⟩
/-- a call that gives v and turns nothing -/
def Ret (f : FuncId) (args : Array Value) (v : Value) : Prop := ∀ w : World, Calls Tryz.prog f args w fun e w' => e = .returned v ∧ w' = w
/-- a call that gives v; it may make memory -/
def RetB (f : FuncId) (args : Array Value) (v : Value) : Prop := ∀ w : World, Calls Tryz.prog f args w fun e w' => e = .returned v ∧ Below w.heap.size w w'
theorem Ret.at {f : FuncId} {args : Array Value} {v : Value} (h : Ret f args v) (w : World) : Calls Tryz.prog f args w fun e w' => e = .returned v ∧ w' = w := h w
theorem RetB.at {f : FuncId} {args : Array Value} {v : Value} (h : RetB f args v) (w : World) : Calls Tryz.prog f args w fun e w' => e = .returned v ∧ Below w.heap.size w w' := h w
theorem ret_int {k : IntKind} {a b : Int} (h : a = b) : Ending.returned (.int k a) = .returned (.int k b) := by rw [h]

theorem isWord_t (n : Int) (w : World) (h : isW n = true) :
    Calls Tryz.prog 233 #[.int .i64 n] w fun e w' => e = .returned (.bool true) ∧ w' = w := by
  have ⟨h0, h1⟩ := isW_true h
  clear h
  go_enter Tryz.func233, Tryz.ntmps233
  go_wp2
  go_ret
  exact ⟨rfl, rfl⟩
set_option maxHeartbeats 400000 in
theorem fold_any (n : Int) (w : World) (h0 : 0 ≤ n) (h1 : n < 9223372036854775808) :
    Calls Tryz.prog 232 #[.int .i64 n] w fun e w' => e = .returned (.int .i64 (fd n)) ∧ w' = w := by
  go_enter Tryz.func232, Tryz.ntmps232
  go_wp2
  go_loop [0] (fun t => ∃ m : Int, 0 ≤ m ∧ m ≤ n ∧ Hid (fd m = fd n) ∧ t = .int .i64 m) (fun t => (intOf t).toNat)
  case atStart => exact ⟨n, h0, Int.le_refl _, (rfl : fd n = fd n), rfl⟩
  case round =>
    obtain ⟨m, hm0, hm1, hf, rfl⟩ := hrel
    by_cases hlt : 65535 < m
    · have ha := and65535 m (by omega) (by omega)
      go_wp2
      go_round
      case rel => exact ⟨m / 65536 + m % 65536, by omega, by omega, (show fd _ = fd n by rw [fd_step m hlt]; exact hf.out), by go_num⟩
      case measure => simp [intOf]; omega
    · go_wp2
      go_ret
      exact ⟨ret_int (by rw [← hf.out, fd_small m hm0 (by omega)]), rfl⟩

theorem ones_any (n : Int) (w : World) (h0 : 0 ≤ n) (h1 : n < 9223372036854775808) :
    Calls Tryz.prog 195 #[.int .i64 n] w fun e w' => e = .returned (.int .i64 (ones n)) ∧ w' = w := by
  by_cases h : n = 0
  · subst h
    go_enter Tryz.func195, Tryz.ntmps195
    go_wp2
    go_ret
    exact ⟨rfl, rfl⟩
  · have hz : (n == 0) = false := by simpa using h
    have hp : 0 ≤ n - 1 := by omega
    go_enter Tryz.func195, Tryz.ntmps195
    go_wp2
    go_ret
    exact ⟨ret_int (by rw [ones_pos n h]), rfl⟩

theorem codeFix_yes (c o n : Int) (w : World) (hc : isW c = true) (ho : isW o = true) (hn : isW n = true) :
    Calls Tryz.prog 230 #[.int .i64 c, .int .i64 o, .int .i64 n] w fun e w' => e = .returned (.int .i64 (ones (65535 - c + 65535 - o + n))) ∧ w' = w := by
  have ⟨h1, h2⟩ := isW_true hc
  have ⟨h3, h4⟩ := isW_true ho
  have ⟨h5, h6⟩ := isW_true hn
  go_enter Tryz.func230, Tryz.ntmps230
  go_wp2_with fail
  refine (isWord_t _ _ hc).mono ?_; rintro e w' ⟨rfl, rfl⟩
  go_wp2_with fail
  refine (isWord_t _ _ ho).mono ?_; rintro e w' ⟨rfl, rfl⟩
  go_wp2_with fail
  refine (isWord_t _ _ hn).mono ?_; rintro e w' ⟨rfl, rfl⟩
  go_wp2_with fail
  refine (fold_any _ _ (by omega) (by omega)).mono ?_; rintro e w' ⟨rfl, rfl⟩
  have hb := fd_bd (65535 - c + (65535 - o) + n)
  go_wp2
  go_ret
  exact ⟨ret_int (by unfold ones; rw [show 65535 - c + (65535 - o) + n = 65535 - c + 65535 - o + n by omega]), rfl⟩
end Go.Proofs.YthiljpbodmajaabGreat
namespace Go.Proofs.YthiljpbodmajaabGreat
open Go.RowKit Plain

theorem int_eq {k : IntKind} {a b : Int} (h : a = b) : Value.int k a = .int k b := by rw [h]

set_option maxHeartbeats 400000 in
set_option maxRecDepth 8000 in
theorem byte_any (s : ByteArray) (i : Int) (w : World) (_hs : s.size ≤ maxLen) :
    Calls Tryz.prog 114 #[.string s, .int .i64 i] w fun e w' => e = .returned (.int .i64 (bt s i)) ∧ w' = w := by
  by_cases h0 : i < 0
  · go_enter Tryz.func114, Tryz.ntmps114
    go_wp2
    go_ret
    exact ⟨ret_int (bt_neg s i h0).symm, rfl⟩
  · obtain ⟨k, rfl⟩ := Int.eq_ofNat_of_zero_le (show 0 ≤ i by omega)
    by_cases hk : k < s.size
    · have hb := bt_in s k hk
      have hlt : (s[k].toNat : Int) < 256 := by have := s[k].toNat_lt; omega
      have HB : Hid _ := hb
      clear hb
      go_enter Tryz.func114, Tryz.ntmps114
      go_wp2
      go_ret
      exact ⟨ret_int HB.out.symm, rfl⟩
    · have hb := bt_out s k (by omega)
      have HB : Hid _ := hb
      clear hb
      go_enter Tryz.func114, Tryz.ntmps114
      go_wp2
      go_ret
      exact ⟨ret_int HB.out.symm, rfl⟩

theorem word_any (s : ByteArray) (i : Int) (w : World) (hs : s.size ≤ maxLen) (h0 : 0 ≤ i) (h1 : i < 9223372036854775807) :
    Calls Tryz.prog 162 #[.string s, .int .i64 i] w fun e w' => e = .returned (.int .i64 (wd s i)) ∧ w' = w := by
  have b1 := bt_bd s i
  have b2 := bt_bd s (i + 1)
  have ho := or8 (bt s i) (bt s (i + 1)) (by omega) (by omega) (by omega) (by omega)
  obtain ⟨b11, b12⟩ := b1
  obtain ⟨b21, b22⟩ := b2
  go_enter Tryz.func162, Tryz.ntmps162
  go_wp2_with fail
  refine (byte_any s i _ hs).mono ?_; rintro e w' ⟨rfl, rfl⟩
  go_wp2_with fail
  refine (byte_any s (i + 1) _ hs).mono ?_; rintro e w' ⟨rfl, rfl⟩
  go_wp2
  go_ret
  exact ⟨rfl, rfl⟩

set_option maxHeartbeats 400000 in
set_option maxRecDepth 8000 in
theorem sumsSum_any (s : ByteArray) (w : World) (hs : s.size ≤ maxLen) :
    Calls Tryz.prog 229 #[.string s] w fun e w' => e = .returned (.int .i64 (sumv s)) ∧ w' = w := by
  have hs' := hs
  unfold maxLen at hs'
  by_cases hz : s.size ≤ 65535
  · go_enter Tryz.func229, Tryz.ntmps229
    go_wp2
    go_loop [3, 4] (fun t i => ∃ j k : Nat, 2 * k ≤ s.size + 1 ∧ j ≤ 2 * k ∧ 2 * k ≤ j ∧ i = .int .i64 (j : Int) ∧ t = .int .i64 (tot s k)) (fun _ i => s.size + 2 - (intOf i).toNat)
    case atStart => exact ⟨0, 0, by omega, by omega, by omega, rfl, rfl⟩
    case round =>
      obtain ⟨j, k, hk, hj1, hj2, rfl, rfl⟩ := hrel
      have ht := tot_bd s k
      obtain ⟨ht1, ht2⟩ := ht
      by_cases hlt : j < s.size
      · have hw := wd_bd s (j : Int)
        obtain ⟨hw1, hw2⟩ := hw
        go_wp2_with fail
        refine (word_any s _ _ hs (by omega) (by omega)).mono ?_; rintro e w' ⟨rfl, rfl⟩
        go_wp2
        go_round
        case rel => exact ⟨j + 2, k + 1, by omega, by omega, by omega, by go_num, int_eq (by simp only [tot]; rw [show (j : Int) = 2 * (k : Int) by omega])⟩
        case measure => simp [intOf]; omega
      · go_wp2_with fail
        refine (fold_any _ _ (by omega) (by omega)).mono ?_; rintro e w' ⟨rfl, rfl⟩
        have hb := fd_bd (tot s k)
        obtain ⟨hb1, hb2⟩ := hb
        go_wp2
        go_ret
        have hkk : k = (s.size + 1) / 2 := by omega
        exact ⟨ret_int (by unfold sumv ones total; rw [if_pos hz, ← hkk]), rfl⟩
  · go_enter Tryz.func229, Tryz.ntmps229
    go_wp2
    go_ret
    exact ⟨ret_int (by unfold sumv; rw [if_neg hz]), rfl⟩

set_option maxHeartbeats 400000 in
set_option maxRecDepth 8000 in
theorem number_any (s : ByteArray) (I n : Int) (w : World) (hs : s.size ≤ maxLen) (h0 : 0 ≤ I) (h1 : I < 4611686018427387904) (hn : 0 ≤ n) (h2 : n ≤ 4) :
    Calls Tryz.prog 141 #[.string s, .int .i64 I, .int .i64 n] w fun e w' => e = .returned (.int .i64 (nm s I n.toNat)) ∧ w' = w := by
  unfold maxLen at hs
  go_enter Tryz.func141, Tryz.ntmps141
  go_wp2
  go_loop [7, 8] (fun v i => ∃ j k : Nat, (k : Int) ≤ n ∧ (j : Int) ≤ I + k ∧ I + k ≤ (j : Int) ∧ i = .int .i64 (j : Int) ∧ v = .int .i64 (nm s I k)) (fun _ i => (I + n - intOf i).toNat)
  case atStart => exact ⟨I.toNat, 0, by omega, by omega, by omega, int_eq (by omega), rfl⟩
  case round =>
    obtain ⟨j, k, hk, hj1, hj2, rfl, rfl⟩ := hrel
    have ht := nm_bd s I k (by omega)
    obtain ⟨ht1, ht2⟩ := ht
    by_cases hlt : (j : Int) < I + n
    · by_cases hin : j < s.size
      · have hb := bt_in s j hin
        have HB : Hid _ := hb
        clear hb
        go_wp2
        go_round
        case rel => exact ⟨j + 1, k + 1, by omega, by omega, by omega, by go_num, int_eq (by have hl := s[j].toNat_lt; simp only [nm]; rw [show I + k = j by omega, HB.out]; unfold wrap64; omega)⟩
        case measure => simp [intOf]; omega
      · have hb := bt_out s (j : Int) (by omega)
        have HB : Hid _ := hb
        clear hb
        go_wp2
        go_round
        case rel => exact ⟨j + 1, k + 1, by omega, by omega, by omega, by go_num, int_eq (by simp only [nm]; rw [show I + k = j by omega, HB.out]; omega)⟩
        case measure => simp [intOf]; omega
    · go_wp2
      go_ret
      exact ⟨ret_int (by rw [show k = n.toNat by omega]), rfl⟩
theorem number1 (s : ByteArray) (i : Int) (w : World) (hs : s.size ≤ maxLen) (h0 : 0 ≤ i) (h1 : i < 4611686018427387904) :
    Calls Tryz.prog 141 #[.string s, .int .i64 i, .int .i64 1] w fun e w' => e = .returned (.int .i64 (bt s i)) ∧ w' = w :=
  (number_any s i 1 w hs h0 h1 (by omega) (by omega)).mono fun e w' h => ⟨by rw [h.1, ← nm1]; rfl, h.2⟩
theorem number2 (s : ByteArray) (i : Int) (w : World) (hs : s.size ≤ maxLen) (h0 : 0 ≤ i) (h1 : i < 4611686018427387904) :
    Calls Tryz.prog 141 #[.string s, .int .i64 i, .int .i64 2] w fun e w' => e = .returned (.int .i64 (wd s i)) ∧ w' = w :=
  (number_any s i 2 w hs h0 h1 (by omega) (by omega)).mono fun e w' h => ⟨by rw [h.1, ← nm2]; rfl, h.2⟩
theorem number4 (s : ByteArray) (i : Int) (w : World) (hs : s.size ≤ maxLen) (h0 : 0 ≤ i) (h1 : i < 4611686018427387904) :
    Calls Tryz.prog 141 #[.string s, .int .i64 i, .int .i64 4] w fun e w' => e = .returned (.int .i64 (wd s i * 65536 + wd s (i + 2))) ∧ w' = w :=
  (number_any s i 4 w hs h0 h1 (by omega) (by omega)).mono fun e w' h => ⟨by rw [h.1, ← nm4]; rfl, h.2⟩

set_option maxHeartbeats 400000 in
theorem total_any (s : ByteArray) (w : World) (hs : s.size ≤ maxLen) (hz : s.size ≤ 131072) :
    Calls Tryz.prog 194 #[.string s] w fun e w' => e = .returned (.int .i64 (total s)) ∧ w' = w := by
  go_enter Tryz.func194, Tryz.ntmps194
  go_wp2
  go_loop [3, 4] (fun t i => ∃ j k : Nat, 2 * k ≤ s.size + 1 ∧ j ≤ 2 * k ∧ 2 * k ≤ j ∧ i = .int .i64 (j : Int) ∧ t = .int .i64 (tot s k)) (fun _ i => s.size + 2 - (intOf i).toNat)
  case atStart => exact ⟨0, 0, by omega, by omega, by omega, rfl, rfl⟩
  case round =>
    obtain ⟨j, k, hk, hj1, hj2, rfl, rfl⟩ := hrel
    have ht := tot_bd s k
    obtain ⟨ht1, ht2⟩ := ht
    by_cases hlt : j < s.size
    · have hw := wd_bd s (j : Int)
      obtain ⟨hw1, hw2⟩ := hw
      go_wp2_with fail
      refine (number2 s _ _ hs (by omega) (by omega)).mono ?_; rintro e w' ⟨rfl, rfl⟩
      go_wp2
      go_round
      case rel => exact ⟨j + 2, k + 1, by omega, by omega, by omega, by go_num, int_eq (by simp only [tot]; rw [show (j : Int) = 2 * (k : Int) by omega])⟩
      case measure => simp [intOf]; omega
    · go_wp2
      go_ret
      have hkk : k = (s.size + 1) / 2 := by omega
      exact ⟨ret_int (by unfold total; rw [← hkk]), rfl⟩

set_option maxHeartbeats 400000 in
theorem refSum_any (s : ByteArray) (w : World) (hs : s.size ≤ maxLen) :
    Calls Tryz.prog 192 #[.string s] w fun e w' => e = .returned (.int .i64 (sumv s)) ∧ w' = w := by
  have hs' := hs
  unfold maxLen at hs'
  by_cases hz : s.size ≤ 65535
  · have hb := total_bd s
    obtain ⟨hb1, hb2⟩ := hb
    go_enter Tryz.func192, Tryz.ntmps192
    go_wp2_with fail
    refine (total_any s _ hs (by omega)).mono ?_; rintro e w' ⟨rfl, rfl⟩
    go_wp2_with fail
    refine (ones_any _ _ (by omega) (by omega)).mono ?_; rintro e w' ⟨rfl, rfl⟩
    go_wp2
    go_ret
    exact ⟨ret_int (by unfold sumv; rw [if_pos hz]), rfl⟩
  · go_enter Tryz.func192, Tryz.ntmps192
    go_wp2
    go_ret
    exact ⟨ret_int (by unfold sumv; rw [if_neg hz]), rfl⟩
end Go.Proofs.YthiljpbodmajaabGreat
namespace Go.Proofs.YthiljpbodmajaabGreat
open Go.RowKit Plain

theorem ret_string {a b : ByteArray} (h : a = b) : Ending.returned (.string a) = .returned (.string b) := by rw [h]

theorem conv2 (w : World) (a b : Int) : Sem.run Tryz.prog (convert 110 9 (.slice (some ⟨w.heap.size, 0, none⟩) 2 2)) (w.alloc (.cells #[.int .u8 a, .int .u8 b] 5)) = .ok (.string (strOfNums [a, b])) (w.alloc (.cells #[.int .u8 a, .int .u8 b] 5)) :=
  run_convert_bytes_arg (P := Tryz.prog) _ 110 5 Tryz.underlying110 Tryz.underlying5 w.heap.size 0 2 2 [a, b] rfl
    (fun i hi => by match i, hi with | 0, _ => simp [go_sem] | 1, _ => simp [go_sem]) 9 Tryz.underlying9

theorem fromWord_any (n : Int) (w : World) (h0 : 0 ≤ n) (h1 : n < 65536) :
    Calls Tryz.prog 180 #[.int .i64 n] w fun e w' => e = .returned (.string (w2 n)) ∧ Below w.heap.size w w' := by
  have hcv := conv2 w (n / 256) (n % 256)
  go_enter Tryz.func180, Tryz.ntmps180
  go_wp2
  go_ret
  exact ⟨rfl, (Below.refl _ _).alloc (Nat.le_refl _) _⟩

/-- octets.Part: of a part that is there -/
theorem octPart_in (s : ByteArray) (a b : Int) (w : World) (h0 : 0 ≤ a) (h1 : a ≤ b) (h2 : b ≤ s.size) :
    Calls Tryz.prog 169 #[.string s, .int .i64 a, .int .i64 b] w fun e w' => e = .returned (.string (prt s a b)) ∧ w' = w := by
  obtain ⟨A, rfl⟩ := Int.eq_ofNat_of_zero_le h0
  obtain ⟨B, rfl⟩ := Int.eq_ofNat_of_zero_le (show 0 ≤ b by omega)
  go_enter Tryz.func169, Tryz.ntmps169
  go_wp2
  go_ret
  exact ⟨ret_string (by simp [prt]), rfl⟩

/-- natboxref.part -/
theorem part_any (s : ByteArray) (a b : Int) (w : World) (h0 : 0 ≤ a) (hb : 0 ≤ b) :
    Calls Tryz.prog 146 #[.string s, .int .i64 a, .int .i64 b] w fun e w' => e = .returned (.string (prt s a b)) ∧ w' = w := by
  obtain ⟨A, rfl⟩ := Int.eq_ofNat_of_zero_le h0
  obtain ⟨B, rfl⟩ := Int.eq_ofNat_of_zero_le hb
  by_cases hc : s.size < B
  · by_cases hd : A < s.size
    · have hp := prt_clip s A B (by omega)
      have HP : Hid _ := hp
      clear hp
      go_enter Tryz.func146, Tryz.ntmps146
      go_wp2
      go_ret
      exact ⟨ret_string (by rw [HP.out]; simp [prt]), rfl⟩
    · have hp := prt_clip s A B (by omega)
      have he := prt_empty s A s.size (by omega)
      have HP : Hid _ := hp
      have HE : Hid _ := he
      clear hp he
      go_enter Tryz.func146, Tryz.ntmps146
      go_wp2
      go_ret
      exact ⟨ret_string (by rw [HP.out, HE.out]; rfl), rfl⟩
  · by_cases hd : A < B
    · go_enter Tryz.func146, Tryz.ntmps146
      go_wp2
      go_ret
      exact ⟨ret_string (by simp [prt]), rfl⟩
    · have he := prt_empty s A B (by omega)
      have HE : Hid _ := he
      clear he
      go_enter Tryz.func146, Tryz.ntmps146
      go_wp2
      go_ret
      exact ⟨ret_string (by rw [HE.out]; rfl), rfl⟩

/-- octets.PutWord: where the two bytes are there -/
theorem putWord_in (s : ByteArray) (i n : Int) (w : World) (h0 : 0 ≤ i) (h1 : i + 2 ≤ s.size) (h2 : s.size ≤ 65535) (g0 : 0 ≤ n) (g1 : n < 65536) :
    Calls Tryz.prog 131 #[.string s, .int .i64 i, .int .i64 n] w fun e w' => e = .returned (.string (put s i (w2 n))) ∧ Below w.heap.size w w' := by
  obtain ⟨I, rfl⟩ := Int.eq_ofNat_of_zero_le h0
  have hz := w2_size n
  have hy : (0 : Int) ≤ (I : Int) + 2 := by omega
  have hx : (I : Int) ≤ (s.size : Int) := by omega
  have hv : (I : Int) ≤ (s.size : Int) - 2 := by omega
  have hwr : IntKind.i64.wrap ((I : Int) + 2) = (I : Int) + 2 := by rw [IntKind.wrap_i64]; omega
  go_enter Tryz.func131, Tryz.ntmps131
  go_wp2
  go_region_with (go_at_call 180; refine (fromWord_any _ _ g0 g1).mono ?_; rintro e w' ⟨rfl, hb⟩)
  all_goals
    go_wp2
    go_ret
    refine ⟨ret_string ?_, (Below.refl _ _).drew.trans hb⟩
    simp only [put, prt, hz]
    rw [show ((I : Int) + ((2 : Nat) : Int)).toNat = I + 2 by omega]
    simp

theorem text_zero (v : Int) (w : World) :
    Calls Tryz.prog 191 #[.int .i64 v, .int .i64 0] w fun e w' => e = .returned (.string (tx v 0)) ∧ Below w.heap.size w w' := by
  go_enter Tryz.func191, Tryz.ntmps191
  go_wp2
  go_ret
  exact ⟨rfl, Below.refl _ _⟩
theorem conv1_at (a : Int) (wx : World) (b : Nat) (h : wx.cell? ⟨b, 0, none⟩ = some (.int .u8 a)) : Sem.run Tryz.prog (convert 110 9 (.slice (some ⟨b, 0, none⟩) 1 1)) wx = .ok (.string (strOfNums [a])) wx :=
  run_convert_bytes_arg (P := Tryz.prog) wx 110 5 Tryz.underlying110 Tryz.underlying5 b 0 1 1 [a] rfl
    (fun i hi => by match i, hi with | 0, _ => simpa using h) 9 Tryz.underlying9
set_option maxHeartbeats 1000000 in
theorem text_step (v n m : Int) (k : Nat) (w : World) (hm : Hid (n - 1 = m)) (h0 : 0 ≤ v) (h1 : v < 65536) (n0 : 0 < n) (n1 : n ≤ 4)
    (ih : ∀ w : World, Calls Tryz.prog 191 #[.int .i64 (v / 256), .int .i64 m] w fun e w' => e = .returned (.string (tx (v / 256) k)) ∧ Below w.heap.size w w') (hk : k ≤ 4) :
    Calls Tryz.prog 191 #[.int .i64 v, .int .i64 n] w fun e w' => e = .returned (.string (tx v (k + 1))) ∧ Below w.heap.size w w' := by
  have hz := tx_size (v / 256) k
  have hz1 : (strOfNums [v % 256]).size = 1 := strOfNums_size _
  have e1 : IntKind.i64.wrap (v.tdiv 256) = v / 256 := by rw [IntKind.wrap_i64, Int.tdiv_eq_ediv_of_nonneg h0]; omega
  have e2 : IntKind.i64.wrap (n - 1) = m := by rw [IntKind.wrap_i64, ← hm.out]; omega
  have e3 : v.tmod 256 = v % 256 := Int.tmod_eq_emod_of_nonneg h0
  have e4 : IntKind.u8.wrap (v % 256) = v % 256 := by rw [IntKind.wrap_u8']; omega
  have hcv := conv1_at (v % 256)
  have IH : Hid _ := ih
  clear ih
  go_enter Tryz.func191, Tryz.ntmps191
  go_wp2
  go_region_with (go_at_call 191; refine Calls.mono (Hid.out IH _) ?_; rintro e w' ⟨rfl, hb⟩; obtain ⟨hc, hf⟩ := bcell hb)
  all_goals
    go_wp2
    go_ret
    refine ⟨ret_string rfl, ?_⟩
    first
    | exact ((Below.refl _ _).drew.trans hb).alloc hb.size _
    | exact (((Below.refl _ _).alloc (Nat.le_refl _) _).drew).trans (hb.mono (by simp))
theorem text1 (v : Int) (w : World) (h0 : 0 ≤ v) (h1 : v < 65536) :
    Calls Tryz.prog 191 #[.int .i64 v, .int .i64 1] w fun e w' => e = .returned (.string (tx v 1)) ∧ Below w.heap.size w w' :=
  text_step v 1 0 0 w rfl h0 h1 (by decide) (by decide) (fun w => text_zero _ w) (by decide)
theorem text2 (v : Int) (w : World) (h0 : 0 ≤ v) (h1 : v < 65536) :
    Calls Tryz.prog 191 #[.int .i64 v, .int .i64 2] w fun e w' => e = .returned (.string (w2 v)) ∧ Below w.heap.size w w' :=
  (text_step v 2 1 1 w rfl h0 h1 (by decide) (by decide) (fun w => text1 _ w (by omega) (by omega)) (by decide)).mono fun e w' h => ⟨by rw [h.1, tx2 v h0 h1], h.2⟩

/-- natboxref.with -/
theorem with_any (s t : ByteArray) (i : Int) (w : World) (h0 : 0 ≤ i) (h1 : i ≤ 65535) (hs : s.size ≤ 65535) (ht : t.size ≤ 65535) :
    Calls Tryz.prog 190 #[.string s, .int .i64 i, .string t] w fun e w' => e = .returned (.string (put s i t)) ∧ w' = w := by
  have hp := prt_le s 0 i
  have hq := prt_le s (i + (t.size : Int)) s.size
  obtain ⟨I, rfl⟩ := Int.eq_ofNat_of_zero_le h0
  go_enter Tryz.func190, Tryz.ntmps190
  go_wp2_with fail
  refine (part_any s 0 _ _ (by omega) h0).mono ?_; rintro e w' ⟨rfl, rfl⟩
  go_wp2_with fail
  refine (part_any s _ _ _ (by omega) (by omega)).mono ?_; rintro e w' ⟨rfl, rfl⟩
  go_wp2
  go_ret
  exact ⟨ret_string rfl, rfl⟩

/-- sums.Blanked -/
theorem blanked_in (s : ByteArray) (i : Int) (w : World) (h0 : 0 ≤ i) (h1 : i + 2 ≤ s.size) (h2 : s.size ≤ 65535) :
    Calls Tryz.prog 214 #[.string s, .int .i64 i] w fun e w' => e = .returned (.int .i64 (sumv (blk s i))) ∧ Below w.heap.size w w' := by
  have hz := blk_size s i h0 h1
  go_enter Tryz.func214, Tryz.ntmps214
  go_wp2_with fail
  refine (putWord_in s i 0 _ h0 h1 h2 (by decide) (by decide)).mono ?_; rintro e w' ⟨rfl, hb⟩
  go_wp2_with fail
  refine (sumsSum_any _ _ (by unfold maxLen; unfold blk at hz; rw [hz]; omega)).mono ?_; rintro e w' ⟨rfl, rfl⟩
  go_wp2
  go_ret
  exact ⟨rfl, hb⟩
end Go.Proofs.YthiljpbodmajaabGreat
