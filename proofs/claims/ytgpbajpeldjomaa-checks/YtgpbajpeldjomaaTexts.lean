/-
  PLAIN MATHEMATICS: parts of texts, put together.
-/
import Derived.Test.YtgpbajpeldjomaaBytes
import Derived.Laws.BytesArg
namespace Go.Proofs.Ytgpbajpeldjomaa.Plain

/-- a text from place a up to place b, as far as it is there -/
def prt (s : ByteArray) (a b : Int) : ByteArray := s.extract a.toNat b.toNat
theorem prt_size (s : ByteArray) (a b : Int) : (prt s a b).size = min b.toNat s.size - a.toNat := by simp [prt]
theorem prt_le (s : ByteArray) (a b : Int) : (prt s a b).size ≤ s.size := by rw [prt_size]; omega
theorem prt_empty (s : ByteArray) (a b : Int) (h : b ≤ a) : prt s a b = ByteArray.empty := by
  unfold prt; rw [ByteArray.extract_eq_empty_iff]; omega
theorem prt_clip (s : ByteArray) (a b : Int) (h : (s.size : Int) ≤ b) : prt s a b = prt s a s.size := by
  apply ByteArray.ext_getElem
  · simp only [prt_size]; omega
  · intro i h1 h2; simp [prt, ByteArray.getElem_extract]
/-- a word as two bytes -/
def w2 (v : Int) : ByteArray := strOfNums [v / 256, v % 256]
theorem w2_size (v : Int) : (w2 v).size = 2 := strOfNums_size _
/-- a text with t at place i -/
def put (s : ByteArray) (i : Int) (t : ByteArray) : ByteArray := prt s 0 i ++ t ++ prt s (i + (t.size : Int)) s.size
theorem put_size (s : ByteArray) (i : Int) (t : ByteArray) (h0 : 0 ≤ i) (h1 : i + (t.size : Int) ≤ s.size) : (put s i t).size = s.size := by
  simp only [put, ByteArray.size_append, prt_size]; omega
def blk (s : ByteArray) (i : Int) : ByteArray := put s i (w2 0)
theorem blk_size (s : ByteArray) (i : Int) (h0 : 0 ≤ i) (h1 : i + 2 ≤ s.size) : (blk s i).size = s.size := put_size s i _ h0 (by rw [w2_size]; omega)
theorem put_append (a s : ByteArray) (i : Int) (t : ByteArray) (h0 : 0 ≤ i) : put (a ++ s) (a.size + i) t = a ++ put s i t := by
  unfold put prt
  rw [ByteArray.extract_append, ByteArray.extract_append]
  have e1 : a.extract (0 : Int).toNat ((a.size : Int) + i).toNat = a := by
    apply ByteArray.ext_getElem
    · simp; omega
    · intro j h1 h2; simp [ByteArray.getElem_extract]
  have e2 : a.extract ((a.size : Int) + i + (t.size : Int)).toNat (((a ++ s).size : Nat) : Int).toNat = ByteArray.empty := by
    rw [ByteArray.extract_eq_empty_iff]; omega
  rw [e1, e2]
  rw [show (0 : Int).toNat - a.size = (0 : Int).toNat by omega, show ((a.size : Int) + i).toNat - a.size = i.toNat by omega,
    show ((a.size : Int) + i + (t.size : Int)).toNat - a.size = (i + (t.size : Int)).toNat by omega,
    show (((a ++ s).size : Nat) : Int).toNat - a.size = ((s.size : Nat) : Int).toNat by rw [ByteArray.size_append]; omega]
  simp [ByteArray.append_assoc]
/-- a number as n bytes -/
def tx (v : Int) : Nat → ByteArray
  | 0 => ByteArray.empty
  | n + 1 => tx (v / 256) n ++ strOfNums [v % 256]
theorem tx_size (v : Int) (n : Nat) : (tx v n).size = n := by
  induction n generalizing v with
  | zero => rfl
  | succ n ih => simp [tx, ih, strOfNums_size]
theorem tx2 (v : Int) (h0 : 0 ≤ v) (h1 : v < 65536) : tx v 2 = w2 v := by
  apply ByteArray.ext
  simp [tx, w2, strOfNums, ByteArray.data_append]
  congr 2
  omega
end Go.Proofs.Ytgpbajpeldjomaa.Plain
