/-
  PLAIN MATHEMATICS (no Go in sight): bits of int, folding of sums.
-/
import Derived.Laws.BitsAllLaws
import Derived.Laws.Bits128
namespace Go.Proofs.Ytgpbajpeldjomaa.Plain

theorem i64_and_nat (a b : Nat) (ha : a < 9223372036854775808) (hb : b < 9223372036854775808) : bits .and .i64 (a : Int) (b : Int) = ((a &&& b : Nat) : Int) := by
  have hx : a &&& b < 2 ^ 63 := Nat.and_lt_two_pow _ (by omega)
  show IntKind.i64.wrap ((BitVec.ofInt 64 (a : Int) &&& BitVec.ofInt 64 (b : Int)).toNat : Int) = _
  rw [BitVec.toNat_and, ofInt_u64 a (by omega), ofInt_u64 b (by omega), IntKind.wrap_i64]
  omega
theorem i64_or_nat (a b : Nat) (ha : a < 9223372036854775808) (hb : b < 9223372036854775808) : bits .or .i64 (a : Int) (b : Int) = ((a ||| b : Nat) : Int) := by
  have hx : a ||| b < 2 ^ 63 := Nat.or_lt_two_pow (by omega) (by omega)
  show IntKind.i64.wrap ((BitVec.ofInt 64 (a : Int) ||| BitVec.ofInt 64 (b : Int)).toNat : Int) = _
  rw [BitVec.toNat_or, ofInt_u64 a (by omega), ofInt_u64 b (by omega), IntKind.wrap_i64]
  omega
theorem and65535 (a : Int) (h0 : 0 ≤ a) (h1 : a < 9223372036854775808) : bits .and .i64 a 65535 = a % 65536 := by
  obtain ⟨A, rfl⟩ := Int.eq_ofNat_of_zero_le h0
  have := i64_and_nat A 65535 (by omega) (by omega)
  rw [nat_mask16] at this
  simpa using this
theorem and8191 (a : Int) (h0 : 0 ≤ a) (h1 : a < 9223372036854775808) : bits .and .i64 a 8191 = a % 8192 := by
  obtain ⟨A, rfl⟩ := Int.eq_ofNat_of_zero_le h0
  have := i64_and_nat A 8191 (by omega) (by omega)
  rw [nat_mask13] at this
  simpa using this
theorem and15 (a : Int) (h0 : 0 ≤ a) (h1 : a < 9223372036854775808) : bits .and .i64 a 15 = a % 16 := by
  obtain ⟨A, rfl⟩ := Int.eq_ofNat_of_zero_le h0
  have := i64_and_nat A 15 (by omega) (by omega)
  rw [nat_mask4] at this
  simpa using this
theorem and16383 (a : Int) (h0 : 0 ≤ a) (h1 : a < 9223372036854775808) : bits .and .i64 a 16383 = a % 16384 := by
  obtain ⟨A, rfl⟩ := Int.eq_ofNat_of_zero_le h0
  have := i64_and_nat A 16383 (by omega) (by omega)
  rw [nat_mask14] at this
  simpa using this
theorem or8 (a b : Int) (h0 : 0 ≤ a) (h1 : a < 65536) (h2 : 0 ≤ b) (h3 : b < 256) : bits .or .i64 (a * 256) b = a * 256 + b := by
  obtain ⟨A, rfl⟩ := Int.eq_ofNat_of_zero_le h0
  obtain ⟨B, rfl⟩ := Int.eq_ofNat_of_zero_le h2
  have := i64_or_nat (A * 256) B (by omega) (by omega)
  rw [nat_join 8 (A * 256) B (by omega) (by omega)] at this
  simpa using this
theorem or16 (a b : Int) (h0 : 0 ≤ a) (h1 : a < 65536) (h2 : 0 ≤ b) (h3 : b < 65536) : bits .or .i64 (a * 65536) b = a * 65536 + b := by
  obtain ⟨A, rfl⟩ := Int.eq_ofNat_of_zero_le h0
  obtain ⟨B, rfl⟩ := Int.eq_ofNat_of_zero_le h2
  have := i64_or_nat (A * 65536) B (by omega) (by omega)
  rw [nat_join 16 (A * 65536) B (by omega) (by omega)] at this
  simpa using this

/-- a sum brought below 65536, closed -/
def fd (n : Int) : Int := if n = 0 then 0 else (n - 1) % 65535 + 1
theorem fd_step (n : Int) (h : 65535 < n) : fd (n / 65536 + n % 65536) = fd n := by
  unfold fd; rw [if_neg (by omega), if_neg (by omega)]; omega
theorem fd_small (n : Int) (h0 : 0 ≤ n) (h1 : n ≤ 65535) : fd n = n := by
  unfold fd; split <;> omega
theorem fd_bd (n : Int) : 0 ≤ fd n ∧ fd n ≤ 65535 := by
  unfold fd; split <;> omega
/-- its complement -/
def ones (n : Int) : Int := 65535 - fd n
theorem ones_zero : ones 0 = 65535 := rfl
theorem ones_pos (n : Int) (h : ¬ n = 0) : ones n = 65534 - (n - 1) % 65535 := by
  unfold ones fd; rw [if_neg h]; omega
theorem ones_bd (n : Int) : 0 ≤ ones n ∧ ones n ≤ 65535 := by
  have := fd_bd n; unfold ones; omega

/-- is a number a word? -/
def isW (n : Int) : Bool := decide (0 ≤ n ∧ n ≤ 65535)
theorem isW_true {n : Int} (h : isW n = true) : 0 ≤ n ∧ n ≤ 65535 := by simpa [isW] using h
theorem isW_false {n : Int} (h : isW n = false) : n < 0 ∨ 65535 < n := by simp [isW] at h; omega
def fixv (c o n : Int) : Int := if isW c && isW o && isW n then ones (65535 - c + 65535 - o + n) else -1

end Go.Proofs.Ytgpbajpeldjomaa.Plain
