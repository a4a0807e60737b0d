/-
  CONTRACTS: natbox.within, natboxref.between, frames.Usable, natboxref.Usable.
-/
import Derived.Test.YthiljpbodmajaabGreatSumw
import Derived.Test.YthiljpbodmajaabGreatPlain
namespace Go.Proofs.YthiljpbodmajaabGreat
open Go.RowKit Plain

theorem ret_bool {a b : Bool} (h : a = b) : Ending.returned (.bool a) = .returned (.bool b) := by rw [h]

theorem within_any (n lo hi : Int) (w : World) :
    Calls Tryz.prog 110 #[.int .i64 n, .int .i64 lo, .int .i64 hi] w fun e w' => e = .returned (.bool (inB n lo hi)) ∧ w' = w := by
  cases h : inB n lo hi
  · rcases inB_f h with h0 | ⟨h0, h1⟩
    · clear h
      go_enter Tryz.func110, Tryz.ntmps110
      go_wp2
      go_ret
      exact ⟨rfl, rfl⟩
    · clear h
      have h2 : decide (n ≤ hi) = false := by simp; omega
      go_enter Tryz.func110, Tryz.ntmps110
      go_wp2
      go_ret
      exact ⟨rfl, rfl⟩
  · have ⟨h0, h1⟩ := inB_t h
    clear h
    go_enter Tryz.func110, Tryz.ntmps110
    go_wp2
    go_ret
    exact ⟨rfl, rfl⟩
theorem between_any (n lo hi : Int) (w : World) :
    Calls Tryz.prog 188 #[.int .i64 n, .int .i64 lo, .int .i64 hi] w fun e w' => e = .returned (.bool (inB n lo hi)) ∧ w' = w := by
  cases h : inB n lo hi
  · rcases inB_f h with h0 | ⟨h0, h1⟩
    · clear h
      go_enter Tryz.func188, Tryz.ntmps188
      go_wp2
      go_ret
      exact ⟨rfl, rfl⟩
    · clear h
      have h2 : decide (n ≤ hi) = false := by simp; omega
      go_enter Tryz.func188, Tryz.ntmps188
      go_wp2
      go_ret
      exact ⟨rfl, rfl⟩
  · have ⟨h0, h1⟩ := inB_t h
    clear h
    go_enter Tryz.func188, Tryz.ntmps188
    go_wp2
    go_ret
    exact ⟨rfl, rfl⟩

theorem usable_any (a : Int) (w : World) :
    Calls Tryz.prog 109 #[.int .i64 a] w fun e w' => e = .returned (.bool (usB a)) ∧ w' = w := by
  cases h : usB a
  · have key : a / 16777216 < 1 ∨ (1 ≤ a / 16777216 ∧ 126 < a / 16777216 ∧ a / 16777216 < 128) ∨ (1 ≤ a / 16777216 ∧ 126 < a / 16777216 ∧ 128 ≤ a / 16777216 ∧ decide (a / 16777216 ≤ 223) = false) := by
      have hh : decide (a / 16777216 ≤ 223) = false ↔ 223 < a / 16777216 := by simp
      rw [hh]
      rcases usB_f h with g | ⟨_, g⟩ | ⟨_, g⟩ | ⟨_, g⟩ <;> omega
    clear h
    rcases key with h0 | ⟨h0, h1, h2⟩ | ⟨h0, h1, h2, h3⟩
    all_goals
      go_enter Tryz.func109, Tryz.ntmps109
      go_wp2
      go_ret
      exact ⟨by simp; try omega, rfl⟩
  · obtain ⟨hn, h0⟩ := usB_t h
    clear h
    rcases h0 with ⟨h0, h1⟩ | ⟨h0, h1, h2⟩
    all_goals
      go_enter Tryz.func109, Tryz.ntmps109
      go_wp2
      go_ret
      exact ⟨rfl, rfl⟩
theorem refUsable_any (a : Int) (w : World) (ha : a < 9223372036854775808) :
    Calls Tryz.prog 187 #[.int .i64 a] w fun e w' => e = .returned (.bool (usB a)) ∧ w' = w := by
  cases h : usB a
  · rcases usB_f h with h0 | ⟨h0, h1⟩ | ⟨h0, h1⟩ | ⟨h0, h1⟩
    all_goals
      clear h
      go_enter Tryz.func187, Tryz.ntmps187
      go_wp2
      go_ret
      exact ⟨by first | rfl | (simp; omega), rfl⟩
  · obtain ⟨hn, h0⟩ := usB_t h
    have h1 : 1 ≤ a / 16777216 := by omega
    have h2 : a / 16777216 ≤ 223 := by omega
    have h3 : (a / 16777216 != 127) = true := by simp; omega
    clear h h0
    go_enter Tryz.func187, Tryz.ntmps187
    go_wp2
    go_ret
    exact ⟨rfl, rfl⟩
end Go.Proofs.YthiljpbodmajaabGreat
