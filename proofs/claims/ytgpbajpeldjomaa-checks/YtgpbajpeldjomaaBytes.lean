/-
  PLAIN MATHEMATICS: the bytes, words and numbers of a text.
-/
import Derived.Test.YtgpbajpeldjomaaPlain
namespace Go.Proofs.Ytgpbajpeldjomaa.Plain

/-- the byte at a place; 0 where there is none -/
def bt (s : ByteArray) (i : Int) : Int := if i < 0 then 0 else ((s.data.toList.getD i.toNat 0).toNat : Int)
theorem bt_bd (s : ByteArray) (i : Int) : 0 ≤ bt s i ∧ bt s i < 256 := by
  unfold bt; split
  · omega
  · have := (s.data.toList.getD i.toNat 0).toNat_lt; omega
theorem bt_neg (s : ByteArray) (i : Int) (h : i < 0) : bt s i = 0 := by unfold bt; rw [if_pos h]
theorem bt_out (s : ByteArray) (i : Int) (h : (s.size : Int) ≤ i) : bt s i = 0 := by
  unfold bt; rw [if_neg (by omega), List.getD_eq_getElem?_getD, List.getElem?_eq_none]
  · rfl
  · have : s.data.toList.length = s.size := by simp
    omega
theorem bt_in (s : ByteArray) (k : Nat) (h : k < s.size) : bt s k = (s[k].toNat : Int) := by
  unfold bt; rw [if_neg (by omega)]
  have hl : k < s.data.toList.length := by simpa using h
  rw [show ((k : Int).toNat) = k by omega, List.getD_eq_getElem?_getD, List.getElem?_eq_getElem hl]
  rfl
/-- the word at a place -/
def wd (s : ByteArray) (i : Int) : Int := bt s i * 256 + bt s (i + 1)
theorem wd_bd (s : ByteArray) (i : Int) : 0 ≤ wd s i ∧ wd s i < 65536 := by
  have := bt_bd s i; have := bt_bd s (i + 1); unfold wd; omega
/-- the number of the n bytes at a place -/
def nm (s : ByteArray) (i : Int) : Nat → Int
  | 0 => 0
  | k + 1 => nm s i k * 256 + bt s (i + k)
theorem nm_bd (s : ByteArray) (i : Int) (k : Nat) (h : k ≤ 4) : 0 ≤ nm s i k ∧ nm s i k < 4294967296 := by
  have h1 := bt_bd s (i + (0 : Nat)); have h2 := bt_bd s (i + (1 : Nat)); have h3 := bt_bd s (i + (2 : Nat)); have h4 := bt_bd s (i + (3 : Nat))
  match k, h with
  | 0, _ => simp [nm]
  | 1, _ => simp only [nm]; omega
  | 2, _ => simp only [nm]; omega
  | 3, _ => simp only [nm]; omega
  | 4, _ => simp only [nm]; omega
theorem nm1 (s : ByteArray) (i : Int) : nm s i 1 = bt s i := by simp [nm]
theorem nm2 (s : ByteArray) (i : Int) : nm s i 2 = wd s i := by simp [nm, wd]
theorem nm4 (s : ByteArray) (i : Int) : nm s i 4 = wd s i * 65536 + wd s (i + 2) := by
  simp only [nm, wd]
  rw [show i + 2 + 1 = i + ((3 : Nat) : Int) by omega, show i + 2 = i + ((2 : Nat) : Int) by omega, show i + 1 = i + ((1 : Nat) : Int) by omega, show i + ((0 : Nat) : Int) = i by omega]
  omega
/-- the sum of the first k words -/
def tot (s : ByteArray) : Nat → Int
  | 0 => 0
  | k + 1 => tot s k + wd s (2 * (k : Int))
theorem tot_bd (s : ByteArray) (k : Nat) : 0 ≤ tot s k ∧ tot s k ≤ 65535 * (k : Int) := by
  induction k with
  | zero => simp [tot]
  | succ k ih => have := wd_bd s (2 * (k : Int)); simp only [tot]; omega
/-- the sum of all words -/
def total (s : ByteArray) : Int := tot s ((s.size + 1) / 2)
theorem total_bd (s : ByteArray) : 0 ≤ total s ∧ total s ≤ 65535 * (((s.size + 1) / 2 : Nat) : Int) := tot_bd _ _
/-- Sum -/
def sumv (s : ByteArray) : Int := if s.size ≤ 65535 then ones (total s) else -1
end Go.Proofs.Ytgpbajpeldjomaa.Plain
