/-
  CONTRACTS: sums.fold, sums.isWord, sums.Fix, natbox.Fix, natboxref.Ones, natboxref.Fix.
-/
import Derived.Test.YtgpbajpeldjomaaProg
import Derived.Test.YtgpbajpeldjomaaPlain
import Derived.WalkKit
import Derived.WalkLawsBesides
import Derived.LoopTactic
import Derived.Outline
import Derived.Below
namespace Go.Proofs.Ytgpbajpeldjomaa
open Go.RowKit Plain

theorem bcell {W w1 : World} (hb : Below W.heap.size W w1) : (∀ b o, b < W.heap.size → w1.cell? ⟨b, o, none⟩ = W.cell? ⟨b, o, none⟩) ∧ (∀ b o, b < W.heap.size → w1.frozen? ⟨b, o, none⟩ = W.frozen? ⟨b, o, none⟩) :=
  ⟨fun b o h => hb.cell (p := ⟨b, o, none⟩) h, fun b o h => hb.frozen (p := ⟨b, o, none⟩) h⟩
/-- a call that gives v and turns nothing -/
def Ret (f : FuncId) (args : Array Value) (v : Value) : Prop := ∀ w : World, Calls Try.prog f args w fun e w' => e = .returned v ∧ w' = w
/-- a call that gives v; it may make memory -/
def RetB (f : FuncId) (args : Array Value) (v : Value) : Prop := ∀ w : World, Calls Try.prog f args w fun e w' => e = .returned v ∧ Below w.heap.size w w'
theorem Ret.at {f : FuncId} {args : Array Value} {v : Value} (h : Ret f args v) (w : World) : Calls Try.prog f args w fun e w' => e = .returned v ∧ w' = w := h w
theorem RetB.at {f : FuncId} {args : Array Value} {v : Value} (h : RetB f args v) (w : World) : Calls Try.prog f args w fun e w' => e = .returned v ∧ Below w.heap.size w w' := h w
theorem ret_int {k : IntKind} {a b : Int} (h : a = b) : Ending.returned (.int k a) = .returned (.int k b) := by rw [h]

theorem isWord_t (n : Int) (w : World) (h : isW n = true) :
    Calls Try.prog 33 #[.int .i64 n] w fun e w' => e = .returned (.bool true) ∧ w' = w := by
  have ⟨h0, h1⟩ := isW_true h
  clear h
  go_enter Try.func33, Try.ntmps33
  go_wp2
  go_ret
  exact ⟨rfl, rfl⟩
theorem isWord_f (n : Int) (w : World) (h : isW n = false) :
    Calls Try.prog 33 #[.int .i64 n] w fun e w' => e = .returned (.bool false) ∧ w' = w := by
  rcases isW_false h with h0 | h0
  · clear h
    go_enter Try.func33, Try.ntmps33
    go_wp2
    go_ret
    exact ⟨rfl, rfl⟩
  · clear h
    have h1 : 0 ≤ n := by omega
    have h2 : decide (n ≤ 65535) = false := by simp; omega
    go_enter Try.func33, Try.ntmps33
    go_wp2
    go_ret
    exact ⟨rfl, rfl⟩

set_option maxHeartbeats 400000 in
theorem fold_any (n : Int) (w : World) (h0 : 0 ≤ n) (h1 : n < 9223372036854775808) :
    Calls Try.prog 32 #[.int .i64 n] w fun e w' => e = .returned (.int .i64 (fd n)) ∧ w' = w := by
  go_enter Try.func32, Try.ntmps32
  go_wp2
  go_loop [0] (fun t => ∃ m : Int, 0 ≤ m ∧ m ≤ n ∧ Hid (fd m = fd n) ∧ t = .int .i64 m) (fun t => (intOf t).toNat)
  case atStart => exact ⟨n, h0, Int.le_refl _, (rfl : fd n = fd n), rfl⟩
  case round =>
    obtain ⟨m, hm0, hm1, hf, rfl⟩ := hrel
    by_cases hlt : 65535 < m
    · have ha := and65535 m (by omega) (by omega)
      go_wp2
      go_round
      case rel => exact ⟨m / 65536 + m % 65536, by omega, by omega, (show fd _ = fd n by rw [fd_step m hlt]; exact hf.out), by go_num⟩
      case measure => simp [intOf]; omega
    · go_wp2
      go_ret
      exact ⟨ret_int (by rw [← hf.out, fd_small m hm0 (by omega)]), rfl⟩

theorem ones_any (n : Int) (w : World) (h0 : 0 ≤ n) (h1 : n < 9223372036854775808) :
    Calls Try.prog 17 #[.int .i64 n] w fun e w' => e = .returned (.int .i64 (ones n)) ∧ w' = w := by
  by_cases h : n = 0
  · subst h
    go_enter Try.func17, Try.ntmps17
    go_wp2
    go_ret
    exact ⟨rfl, rfl⟩
  · have hz : (n == 0) = false := by simpa using h
    have hp : 0 ≤ n - 1 := by omega
    go_enter Try.func17, Try.ntmps17
    go_wp2
    go_ret
    exact ⟨ret_int (by rw [ones_pos n h]), rfl⟩

/-- natboxref.Fix -/
theorem refFix_no (c o n : Int) (w : World) (h : (isW c && isW o && isW n) = false) :
    Calls Try.prog 10 #[.int .i64 c, .int .i64 o, .int .i64 n] w fun e w' => e = .returned (.int .i64 (-1)) ∧ w' = w := by
  have key : (c < 0) ∨ (0 ≤ c ∧ 65535 < c) ∨ (0 ≤ c ∧ c ≤ 65535 ∧ o < 0) ∨ (0 ≤ c ∧ c ≤ 65535 ∧ 0 ≤ o ∧ 65535 < o) ∨
      (0 ≤ c ∧ c ≤ 65535 ∧ 0 ≤ o ∧ o ≤ 65535 ∧ n < 0) ∨ (0 ≤ c ∧ c ≤ 65535 ∧ 0 ≤ o ∧ o ≤ 65535 ∧ 0 ≤ n ∧ 65535 < n) := by
    simp [isW] at h; omega
  clear h
  rcases key with h | ⟨h1, h2⟩ | ⟨h1, h2, h3⟩ | ⟨h1, h2, h3, h4⟩ | ⟨h1, h2, h3, h4, h5⟩ | ⟨h1, h2, h3, h4, h5, h6⟩
  all_goals
    go_enter Try.func10, Try.ntmps10
    go_wp2
    go_ret
    exact ⟨rfl, rfl⟩
theorem refFix_yes (c o n : Int) (w : World) (h1 : 0 ≤ c) (h2 : c ≤ 65535) (h3 : 0 ≤ o) (h4 : o ≤ 65535) (h5 : 0 ≤ n) (h6 : n ≤ 65535) :
    Calls Try.prog 10 #[.int .i64 c, .int .i64 o, .int .i64 n] w fun e w' => e = .returned (.int .i64 (ones (65535 - c + 65535 - o + n))) ∧ w' = w := by
  go_enter Try.func10, Try.ntmps10
  go_wp2_with (go_at_call 17; refine (ones_any _ _ (by omega) (by omega)).mono ?_; rintro e w' ⟨rfl, rfl⟩)
  go_ret
  exact ⟨rfl, rfl⟩
/-- sums.Fix -/
theorem codeFix_no (c o n : Int) (w : World) (h : (isW c && isW o && isW n) = false) :
    Calls Try.prog 18 #[.int .i64 c, .int .i64 o, .int .i64 n] w fun e w' => e = .returned (.int .i64 (-1)) ∧ w' = w := by
  cases hc : isW c
  · clear h
    go_enter Try.func18, Try.ntmps18
    go_wp2_with (go_at_call 33; refine (isWord_f _ _ hc).mono ?_; rintro e w' ⟨rfl, rfl⟩)
    go_ret
    exact ⟨rfl, rfl⟩
  · cases ho : isW o
    · clear h
      go_enter Try.func18, Try.ntmps18
      go_wp2_with fail
      refine (isWord_t _ _ hc).mono ?_; rintro e w' ⟨rfl, rfl⟩
      go_wp2_with fail
      refine (isWord_f _ _ ho).mono ?_; rintro e w' ⟨rfl, rfl⟩
      go_wp2
      go_ret
      exact ⟨rfl, rfl⟩
    · have hn : isW n = false := by simpa [hc, ho] using h
      clear h
      go_enter Try.func18, Try.ntmps18
      go_wp2_with fail
      refine (isWord_t _ _ hc).mono ?_; rintro e w' ⟨rfl, rfl⟩
      go_wp2_with fail
      refine (isWord_t _ _ ho).mono ?_; rintro e w' ⟨rfl, rfl⟩
      go_wp2_with fail
      refine (isWord_f _ _ hn).mono ?_; rintro e w' ⟨rfl, rfl⟩
      go_wp2
      go_ret
      exact ⟨rfl, rfl⟩
theorem codeFix_yes (c o n : Int) (w : World) (hc : isW c = true) (ho : isW o = true) (hn : isW n = true) :
    Calls Try.prog 18 #[.int .i64 c, .int .i64 o, .int .i64 n] w fun e w' => e = .returned (.int .i64 (ones (65535 - c + 65535 - o + n))) ∧ w' = w := by
  have ⟨h1, h2⟩ := isW_true hc
  have ⟨h3, h4⟩ := isW_true ho
  have ⟨h5, h6⟩ := isW_true hn
  go_enter Try.func18, Try.ntmps18
  go_wp2_with fail
  refine (isWord_t _ _ hc).mono ?_; rintro e w' ⟨rfl, rfl⟩
  go_wp2_with fail
  refine (isWord_t _ _ ho).mono ?_; rintro e w' ⟨rfl, rfl⟩
  go_wp2_with fail
  refine (isWord_t _ _ hn).mono ?_; rintro e w' ⟨rfl, rfl⟩
  go_wp2_with fail
  refine (fold_any _ _ (by omega) (by omega)).mono ?_; rintro e w' ⟨rfl, rfl⟩
  have hb := fd_bd (65535 - c + (65535 - o) + n)
  go_wp2
  go_ret
  exact ⟨ret_int (by unfold ones; rw [show 65535 - c + (65535 - o) + n = 65535 - c + 65535 - o + n by omega]), rfl⟩
theorem boxFix_of (c o n v : Int) (w : World)
    (h : Calls Try.prog 18 #[.int .i64 c, .int .i64 o, .int .i64 n] w fun e w' => e = .returned (.int .i64 v) ∧ w' = w) :
    Calls Try.prog 9 #[.int .i64 c, .int .i64 o, .int .i64 n] w fun e w' => e = .returned (.int .i64 v) ∧ w' = w := by
  have H : Hid _ := h
  clear h
  go_enter Try.func9, Try.ntmps9
  go_wp2_with fail
  refine Calls.mono (Hid.out H) ?_; rintro e w' ⟨rfl, rfl⟩
  go_wp2
  go_ret
  exact ⟨rfl, rfl⟩
end Go.Proofs.Ytgpbajpeldjomaa
