/-
  PLAIN MATHEMATICS (no Go in sight): bits of int, folding of sums.
-/
import Derived.Laws.BitsAllLaws
import Derived.Laws.Bits128
import Derived.Laws.BytesArg
namespace Go.Proofs.YthiljpbodmajaabGreat.Plain

theorem i64_and_nat (a b : Nat) (ha : a < 9223372036854775808) (hb : b < 9223372036854775808) : bits .and .i64 (a : Int) (b : Int) = ((a &&& b : Nat) : Int) := by
  have hx : a &&& b < 2 ^ 63 := Nat.and_lt_two_pow _ (by omega)
  show IntKind.i64.wrap ((BitVec.ofInt 64 (a : Int) &&& BitVec.ofInt 64 (b : Int)).toNat : Int) = _
  rw [BitVec.toNat_and, ofInt_u64 a (by omega), ofInt_u64 b (by omega), IntKind.wrap_i64]
  omega
theorem i64_or_nat (a b : Nat) (ha : a < 9223372036854775808) (hb : b < 9223372036854775808) : bits .or .i64 (a : Int) (b : Int) = ((a ||| b : Nat) : Int) := by
  have hx : a ||| b < 2 ^ 63 := Nat.or_lt_two_pow (by omega) (by omega)
  show IntKind.i64.wrap ((BitVec.ofInt 64 (a : Int) ||| BitVec.ofInt 64 (b : Int)).toNat : Int) = _
  rw [BitVec.toNat_or, ofInt_u64 a (by omega), ofInt_u64 b (by omega), IntKind.wrap_i64]
  omega
theorem and65535 (a : Int) (h0 : 0 ≤ a) (h1 : a < 9223372036854775808) : bits .and .i64 a 65535 = a % 65536 := by
  obtain ⟨A, rfl⟩ := Int.eq_ofNat_of_zero_le h0
  have := i64_and_nat A 65535 (by omega) (by omega)
  rw [nat_mask16] at this
  simpa using this
theorem and8191 (a : Int) (h0 : 0 ≤ a) (h1 : a < 9223372036854775808) : bits .and .i64 a 8191 = a % 8192 := by
  obtain ⟨A, rfl⟩ := Int.eq_ofNat_of_zero_le h0
  have := i64_and_nat A 8191 (by omega) (by omega)
  rw [nat_mask13] at this
  simpa using this
theorem and15 (a : Int) (h0 : 0 ≤ a) (h1 : a < 9223372036854775808) : bits .and .i64 a 15 = a % 16 := by
  obtain ⟨A, rfl⟩ := Int.eq_ofNat_of_zero_le h0
  have := i64_and_nat A 15 (by omega) (by omega)
  rw [nat_mask4] at this
  simpa using this
theorem and16383 (a : Int) (h0 : 0 ≤ a) (h1 : a < 9223372036854775808) : bits .and .i64 a 16383 = a % 16384 := by
  obtain ⟨A, rfl⟩ := Int.eq_ofNat_of_zero_le h0
  have := i64_and_nat A 16383 (by omega) (by omega)
  rw [nat_mask14] at this
  simpa using this
theorem or8 (a b : Int) (h0 : 0 ≤ a) (h1 : a < 65536) (h2 : 0 ≤ b) (h3 : b < 256) : bits .or .i64 (a * 256) b = a * 256 + b := by
  obtain ⟨A, rfl⟩ := Int.eq_ofNat_of_zero_le h0
  obtain ⟨B, rfl⟩ := Int.eq_ofNat_of_zero_le h2
  have := i64_or_nat (A * 256) B (by omega) (by omega)
  rw [nat_join 8 (A * 256) B (by omega) (by omega)] at this
  simpa using this
theorem or16 (a b : Int) (h0 : 0 ≤ a) (h1 : a < 65536) (h2 : 0 ≤ b) (h3 : b < 65536) : bits .or .i64 (a * 65536) b = a * 65536 + b := by
  obtain ⟨A, rfl⟩ := Int.eq_ofNat_of_zero_le h0
  obtain ⟨B, rfl⟩ := Int.eq_ofNat_of_zero_le h2
  have := i64_or_nat (A * 65536) B (by omega) (by omega)
  rw [nat_join 16 (A * 65536) B (by omega) (by omega)] at this
  simpa using this

/-- a sum brought below 65536, closed -/
def fd (n : Int) : Int := if n = 0 then 0 else (n - 1) % 65535 + 1
theorem fd_step (n : Int) (h : 65535 < n) : fd (n / 65536 + n % 65536) = fd n := by
  unfold fd; rw [if_neg (by omega), if_neg (by omega)]; omega
theorem fd_small (n : Int) (h0 : 0 ≤ n) (h1 : n ≤ 65535) : fd n = n := by
  unfold fd; split <;> omega
theorem fd_bd (n : Int) : 0 ≤ fd n ∧ fd n ≤ 65535 := by
  unfold fd; split <;> omega
/-- its complement -/
def ones (n : Int) : Int := 65535 - fd n
theorem ones_zero : ones 0 = 65535 := rfl
theorem ones_pos (n : Int) (h : ¬ n = 0) : ones n = 65534 - (n - 1) % 65535 := by
  unfold ones fd; rw [if_neg h]; omega
theorem ones_bd (n : Int) : 0 ≤ ones n ∧ ones n ≤ 65535 := by
  have := fd_bd n; unfold ones; omega

/-- is a number a word? -/
def isW (n : Int) : Bool := decide (0 ≤ n ∧ n ≤ 65535)
theorem isW_true {n : Int} (h : isW n = true) : 0 ≤ n ∧ n ≤ 65535 := by simpa [isW] using h
end Go.Proofs.YthiljpbodmajaabGreat.Plain
namespace Go.Proofs.YthiljpbodmajaabGreat.Plain

/-- the byte at a place; 0 where there is none -/
def bt (s : ByteArray) (i : Int) : Int := if i < 0 then 0 else ((s.data.toList.getD i.toNat 0).toNat : Int)
theorem bt_bd (s : ByteArray) (i : Int) : 0 ≤ bt s i ∧ bt s i < 256 := by
  unfold bt; split
  · omega
  · have := (s.data.toList.getD i.toNat 0).toNat_lt; omega
theorem bt_neg (s : ByteArray) (i : Int) (h : i < 0) : bt s i = 0 := by unfold bt; rw [if_pos h]
theorem bt_out (s : ByteArray) (i : Int) (h : (s.size : Int) ≤ i) : bt s i = 0 := by
  unfold bt; rw [if_neg (by omega), List.getD_eq_getElem?_getD, List.getElem?_eq_none]
  · rfl
  · have : s.data.toList.length = s.size := by simp
    omega
theorem bt_in (s : ByteArray) (k : Nat) (h : k < s.size) : bt s k = (s[k].toNat : Int) := by
  unfold bt; rw [if_neg (by omega)]
  have hl : k < s.data.toList.length := by simpa using h
  rw [show ((k : Int).toNat) = k by omega, List.getD_eq_getElem?_getD, List.getElem?_eq_getElem hl]
  rfl
/-- the word at a place -/
def wd (s : ByteArray) (i : Int) : Int := bt s i * 256 + bt s (i + 1)
theorem wd_bd (s : ByteArray) (i : Int) : 0 ≤ wd s i ∧ wd s i < 65536 := by
  have := bt_bd s i; have := bt_bd s (i + 1); unfold wd; omega
/-- the number of the n bytes at a place -/
def nm (s : ByteArray) (i : Int) : Nat → Int
  | 0 => 0
  | k + 1 => nm s i k * 256 + bt s (i + k)
theorem nm_bd (s : ByteArray) (i : Int) (k : Nat) (h : k ≤ 4) : 0 ≤ nm s i k ∧ nm s i k < 4294967296 := by
  have h1 := bt_bd s (i + (0 : Nat)); have h2 := bt_bd s (i + (1 : Nat)); have h3 := bt_bd s (i + (2 : Nat)); have h4 := bt_bd s (i + (3 : Nat))
  match k, h with
  | 0, _ => simp [nm]
  | 1, _ => simp only [nm]; omega
  | 2, _ => simp only [nm]; omega
  | 3, _ => simp only [nm]; omega
  | 4, _ => simp only [nm]; omega
theorem nm1 (s : ByteArray) (i : Int) : nm s i 1 = bt s i := by simp [nm]
theorem nm2 (s : ByteArray) (i : Int) : nm s i 2 = wd s i := by simp [nm, wd]
theorem nm4 (s : ByteArray) (i : Int) : nm s i 4 = wd s i * 65536 + wd s (i + 2) := by
  simp only [nm, wd]
  rw [show i + 2 + 1 = i + ((3 : Nat) : Int) by omega, show i + 2 = i + ((2 : Nat) : Int) by omega, show i + 1 = i + ((1 : Nat) : Int) by omega, show i + ((0 : Nat) : Int) = i by omega]
  omega
/-- the sum of the first k words -/
def tot (s : ByteArray) : Nat → Int
  | 0 => 0
  | k + 1 => tot s k + wd s (2 * (k : Int))
theorem tot_bd (s : ByteArray) (k : Nat) : 0 ≤ tot s k ∧ tot s k ≤ 65535 * (k : Int) := by
  induction k with
  | zero => simp [tot]
  | succ k ih => have := wd_bd s (2 * (k : Int)); simp only [tot]; omega
/-- the sum of all words -/
def total (s : ByteArray) : Int := tot s ((s.size + 1) / 2)
theorem total_bd (s : ByteArray) : 0 ≤ total s ∧ total s ≤ 65535 * (((s.size + 1) / 2 : Nat) : Int) := tot_bd _ _
/-- Sum -/
def sumv (s : ByteArray) : Int := if s.size ≤ 65535 then ones (total s) else -1
end Go.Proofs.YthiljpbodmajaabGreat.Plain
namespace Go.Proofs.YthiljpbodmajaabGreat.Plain

/-- a text from place a up to place b, as far as it is there -/
def prt (s : ByteArray) (a b : Int) : ByteArray := s.extract a.toNat b.toNat
theorem prt_size (s : ByteArray) (a b : Int) : (prt s a b).size = min b.toNat s.size - a.toNat := by simp [prt]
theorem prt_le (s : ByteArray) (a b : Int) : (prt s a b).size ≤ s.size := by rw [prt_size]; omega
theorem prt_empty (s : ByteArray) (a b : Int) (h : b ≤ a) : prt s a b = ByteArray.empty := by
  unfold prt; rw [ByteArray.extract_eq_empty_iff]; omega
theorem prt_clip (s : ByteArray) (a b : Int) (h : (s.size : Int) ≤ b) : prt s a b = prt s a s.size := by
  apply ByteArray.ext_getElem
  · simp only [prt_size]; omega
  · intro i h1 h2; simp [prt, ByteArray.getElem_extract]
/-- a word as two bytes -/
def w2 (v : Int) : ByteArray := strOfNums [v / 256, v % 256]
theorem w2_size (v : Int) : (w2 v).size = 2 := strOfNums_size _
/-- a text with t at place i -/
def put (s : ByteArray) (i : Int) (t : ByteArray) : ByteArray := prt s 0 i ++ t ++ prt s (i + (t.size : Int)) s.size
theorem put_size (s : ByteArray) (i : Int) (t : ByteArray) (h0 : 0 ≤ i) (h1 : i + (t.size : Int) ≤ s.size) : (put s i t).size = s.size := by
  simp only [put, ByteArray.size_append, prt_size]; omega
def blk (s : ByteArray) (i : Int) : ByteArray := put s i (w2 0)
theorem blk_size (s : ByteArray) (i : Int) (h0 : 0 ≤ i) (h1 : i + 2 ≤ s.size) : (blk s i).size = s.size := put_size s i _ h0 (by rw [w2_size]; omega)
theorem put_append (a s : ByteArray) (i : Int) (t : ByteArray) (h0 : 0 ≤ i) : put (a ++ s) (a.size + i) t = a ++ put s i t := by
  unfold put prt
  rw [ByteArray.extract_append, ByteArray.extract_append]
  have e1 : a.extract (0 : Int).toNat ((a.size : Int) + i).toNat = a := by
    apply ByteArray.ext_getElem
    · simp; omega
    · intro j h1 h2; simp [ByteArray.getElem_extract]
  have e2 : a.extract ((a.size : Int) + i + (t.size : Int)).toNat (((a ++ s).size : Nat) : Int).toNat = ByteArray.empty := by
    rw [ByteArray.extract_eq_empty_iff]; omega
  rw [e1, e2]
  rw [show (0 : Int).toNat - a.size = (0 : Int).toNat by omega, show ((a.size : Int) + i).toNat - a.size = i.toNat by omega,
    show ((a.size : Int) + i + (t.size : Int)).toNat - a.size = (i + (t.size : Int)).toNat by omega,
    show (((a ++ s).size : Nat) : Int).toNat - a.size = ((s.size : Nat) : Int).toNat by rw [ByteArray.size_append]; omega]
  simp [ByteArray.append_assoc]
/-- a number as n bytes -/
def tx (v : Int) : Nat → ByteArray
  | 0 => ByteArray.empty
  | n + 1 => tx (v / 256) n ++ strOfNums [v % 256]
theorem tx_size (v : Int) (n : Nat) : (tx v n).size = n := by
  induction n generalizing v with
  | zero => rfl
  | succ n ih => simp [tx, ih, strOfNums_size]
theorem tx2 (v : Int) (h0 : 0 ≤ v) (h1 : v < 65536) : tx v 2 = w2 v := by
  apply ByteArray.ext
  simp [tx, w2, strOfNums, ByteArray.data_append]
  congr 2
  omega
end Go.Proofs.YthiljpbodmajaabGreat.Plain
namespace Go.Proofs.YthiljpbodmajaabGreat.Plain

def inB (n lo hi : Int) : Bool := decide (lo ≤ n ∧ n ≤ hi)
theorem inB_t {n lo hi : Int} (h : inB n lo hi = true) : lo ≤ n ∧ n ≤ hi := by simpa [inB] using h
theorem inB_f {n lo hi : Int} (h : inB n lo hi = false) : n < lo ∨ (lo ≤ n ∧ hi < n) := by simp [inB] at h; omega
def usB (a : Int) : Bool := decide (0 ≤ a ∧ 1 ≤ a / 16777216 ∧ a / 16777216 ≤ 223 ∧ ¬ a / 16777216 = 127)
theorem usB_t {a : Int} (h : usB a = true) : 0 ≤ a ∧ ((1 ≤ a / 16777216 ∧ a / 16777216 ≤ 126) ∨ (127 < a / 16777216 ∧ 128 ≤ a / 16777216 ∧ a / 16777216 ≤ 223)) := by simp [usB] at h; omega
theorem usB_f {a : Int} (h : usB a = false) : a < 0 ∨ (0 ≤ a ∧ a / 16777216 < 1) ∨ (0 ≤ a ∧ a / 16777216 = 127) ∨ (0 ≤ a ∧ 223 < a / 16777216) := by simp [usB] at h; omega
def neB (a b : Int) : Bool := a != b
def leB (a b : Int) : Bool := decide (a ≤ b)
theorem leB_t {a b : Int} (h : leB a b = true) : a ≤ b := by simpa [leB] using h
theorem leB_f {a b : Int} (h : leB a b = false) : b < a := by simp [leB] at h; omega

def endsB (a0 a1 : Int) : Bool := usB a0 && (usB a1 && neB a0 a1)
def portsB (lo hi : Int) : Bool := leB 1 lo && (leB hi 65535 && leB lo hi)
def mtusB (i o : Int) : Bool := inB i 100 65535 && inB o 100 65535
def idlesB (u t q : Int) : Bool := inB u 1 100000 && (inB t 1 100000 && inB q 1 100000)
def tailB (b r : Int) : Bool := inB b 0 100 && inB r 0 100
def validB (a0 a1 a2 a3 a4 a5 a6 a7 a8 a9 a10 a11 : Int) : Bool := endsB a0 a1 && (portsB a2 a3 && inB a4 1 64) && mtusB a5 a6 && idlesB a7 a8 a9 && tailB a10 a11
end Go.Proofs.YthiljpbodmajaabGreat.Plain
namespace Go.Proofs.YthiljpbodmajaabGreat.Plain

def hdv (s : ByteArray) : Int := bt s 0 % 16 * 4
theorem hdv_bd (s : ByteArray) : 0 ≤ hdv s ∧ hdv s ≤ 60 := by unfold hdv; omega
def ver (s : ByteArray) : Int := bt s 0 / 16
def lg (s : ByteArray) (i : Int) : Int := wd s i * 65536 + wd s (i + 2)
theorem lg_bd (s : ByteArray) (i : Int) : 0 ≤ lg s i ∧ lg s i < 4294967296 := by have := wd_bd s i; have := wd_bd s (i + 2); unfold lg; omega
structure Fits (s : ByteArray) : Prop where
  n20 : 20 ≤ s.size
  n64 : s.size ≤ 65535
  v4 : ver s = 4
  h20 : 20 ≤ hdv s
  ht : hdv s ≤ wd s 2
  tn : wd s 2 ≤ (s.size : Int)
def fitsB (s : ByteArray) : Bool := decide (20 ≤ s.size ∧ s.size ≤ 65535 ∧ ver s = 4 ∧ 20 ≤ hdv s ∧ hdv s ≤ wd s 2 ∧ wd s 2 ≤ (s.size : Int))
theorem fits_of {s : ByteArray} (h : fitsB s = true) : Fits s := by
  simp only [fitsB, decide_eq_true_eq] at h
  exact ⟨h.1, h.2.1, h.2.2.1, h.2.2.2.1, h.2.2.2.2.1, h.2.2.2.2.2⟩
def bdy (s : ByteArray) : ByteArray := prt s (hdv s) (wd s 2)
theorem bdy_size {s : ByteArray} (h : Fits s) : ((bdy s).size : Int) = wd s 2 - hdv s := by
  have := hdv_bd s; have := h.ht; have := h.tn
  unfold bdy; rw [prt_size]; omega
theorem bdy_bt0 {s : ByteArray} (h : Fits s) (h8 : 8 ≤ (bdy s).size) : bt (bdy s) 0 = bt s (hdv s) := by
  have hz := bdy_size h
  have h1 := hdv_bd s
  have h2 := h.tn
  have e := bt_in (bdy s) 0 (by omega)
  have e2 := bt_in s (hdv s).toNat (by omega)
  rw [show ((0 : Nat) : Int) = 0 by rfl] at e
  rw [show (((hdv s).toNat : Nat) : Int) = hdv s by omega] at e2
  rw [e, e2]
  simp [bdy, prt, ByteArray.getElem_extract]
def hsv (s : ByteArray) : Int := sumv (blk (prt s 0 (hdv s)) 10)
def partB (s : ByteArray) : Bool := wd s 6 % 16384 != 0
/-- what is wrong with a header -/
def hdrv (s : ByteArray) : Int :=
  if fitsB s then if wd s 10 != hsv s then 4 else if partB s then 5 else if usB (lg s 12) && usB (lg s 16) then 0 else 6 else 3

/-- what the checksums of UDP and TCP cover ahead of the body -/
def ahd (s : ByteArray) (p l : Int) : ByteArray := prt s 12 20 ++ w2 p ++ w2 l
theorem ahd_size {s : ByteArray} (h : 20 ≤ s.size) (p l : Int) : (ahd s p l).size = 12 := by
  simp only [ahd, ByteArray.size_append, w2_size, prt_size]; omega
/-- the checksum of a body of UDP or TCP: of the bytes c, its field at place i -/
def cks (s c : ByteArray) (p i : Int) : Int := ones (total (ahd s p c.size ++ blk c i))
theorem cks_eq {s c : ByteArray} (p i : Int) (h : 20 ≤ s.size) (h0 : 0 ≤ i) (h1 : i + 2 ≤ c.size) (hc : c.size ≤ 65515) :
    sumv (blk (ahd s p c.size ++ c) (12 + i)) = cks s c p i := by
  have e : blk (ahd s p c.size ++ c) (12 + i) = ahd s p c.size ++ blk c i := by
    have := put_append (ahd s p c.size) c i (w2 0) h0
    rw [ahd_size h] at this
    exact this
  rw [e]
  unfold sumv cks
  rw [if_pos (by rw [ByteArray.size_append, ahd_size h, blk_size c i h0 h1]; omega)]
def udpv (s c : ByteArray) : Int := if cks s c 17 6 = 0 then 65535 else cks s c 17 6

def reqB (t : Int) : Bool := t == 8 || t == 13
def repB (t : Int) : Bool := t == 0 || t == 14
def errB (t : Int) : Bool := t == 3 || (t == 11 || t == 12)

/-- what is wrong with a quote: n its length, v its version, d its header's length, x the word at 6, p the protocol, t the byte behind the header -/
def qcase (n : Nat) (v d x p t : Int) : Int :=
  if 20 ≤ n ∧ v = 4 ∧ 20 ≤ d ∧ d + 8 ≤ (n : Int) then if x % 8192 != 0 then 5 else if p == 17 || p == 6 then 0 else if p == 1 then if reqB t || repB t then 0 else 7 else 7 else 3
def quotev (q : ByteArray) : Int := qcase q.size (ver q) (hdv q) (wd q 6) (bt q 9) (bt q (hdv q))
/-- what is wrong with a body of ICMP: n its length, c its checksum, k what it must be, t its type, d its code, q what is wrong with its quote -/
def icase (n : Nat) (c k t d q : Int) : Int :=
  if n < 8 then 3 else if c != k then 4 else if errB t then q else if d != 0 || !(reqB t || repB t) then 7 else if (t == 13 || t == 14) && decide (n < 20) then 3 else 0
def icv (b : ByteArray) : Int := icase b.size (wd b 2) (sumv (blk b 2)) (bt b 0) (bt b 1) (quotev (prt b 8 b.size))
/-- what is wrong with a body of UDP: n its length, l its own, c its checksum, k what it must be -/
def ucase (n : Nat) (l c k : Int) : Int :=
  if n < 8 then 3 else if l < 8 ∨ (n : Int) < l then 3 else if c != 0 && c != k then 4 else 0
def udc (s : ByteArray) : Int := ucase (bdy s).size (wd (bdy s) 4) (wd (bdy s) 6) (udpv s (prt (bdy s) 0 (wd (bdy s) 4)))
/-- what is wrong with a body of TCP: n its length, h its header's, c its checksum, k what it must be -/
def tcase (n : Nat) (h c k : Int) : Int :=
  if n < 20 then 3 else if h < 20 ∨ (n : Int) < h then 3 else if c != k then 4 else 0
def tcc (s : ByteArray) : Int := tcase (bdy s).size (bt (bdy s) 12 / 16 * 4) (wd (bdy s) 16) (cks s (bdy s) 6 16)
/-- what is wrong with a frame -/
def chk (s : ByteArray) : Int :=
  if hdrv s = 0 then if bt s 9 = 17 then udc s else if bt s 9 = 6 then tcc s else if bt s 9 = 1 then icv (bdy s) else 7 else hdrv s
end Go.Proofs.YthiljpbodmajaabGreat.Plain
namespace Go.Proofs.YthiljpbodmajaabGreat.Plain

theorem bt_append_l (a b : ByteArray) (i : Int) (h : i < (a.size : Int)) : bt (a ++ b) i = bt a i := by
  by_cases h0 : i < 0
  · rw [bt_neg _ _ h0, bt_neg _ _ h0]
  · obtain ⟨k, rfl⟩ := Int.eq_ofNat_of_zero_le (show 0 ≤ i by omega)
    have hk : k < a.size := by omega
    rw [bt_in a k hk, bt_in (a ++ b) k (by simp; omega)]
    rw [ByteArray.getElem_append_left hk]
theorem bt_append_r (a b : ByteArray) (i : Int) (h : (a.size : Int) ≤ i) : bt (a ++ b) i = bt b (i - a.size) := by
  obtain ⟨k, rfl⟩ := Int.eq_ofNat_of_zero_le (show 0 ≤ i by omega)
  by_cases hk : k < a.size + b.size
  · rw [bt_in (a ++ b) k (by simpa using hk), show ((k : Nat) : Int) - (a.size : Int) = ((k - a.size : Nat) : Int) by omega, bt_in b (k - a.size) (by omega)]
    rw [ByteArray.getElem_append_right (by omega)]
  · rw [bt_out _ _ (by simp; omega), bt_out _ _ (by omega)]
theorem bt_prt (s : ByteArray) (a b i : Int) (h0 : 0 ≤ a) (hi : 0 ≤ i) (h : a + i < b) : bt (prt s a b) i = bt s (a + i) := by
  obtain ⟨A, rfl⟩ := Int.eq_ofNat_of_zero_le h0
  obtain ⟨B, rfl⟩ := Int.eq_ofNat_of_zero_le (show 0 ≤ b by omega)
  obtain ⟨I, rfl⟩ := Int.eq_ofNat_of_zero_le hi
  by_cases hk : A + I < s.size
  · rw [show (A : Int) + (I : Int) = ((A + I : Nat) : Int) by omega, bt_in s (A + I) hk, bt_in (prt s A B) I (by rw [prt_size]; omega)]
    simp [prt, ByteArray.getElem_extract]
  · rw [bt_out s _ (by omega), bt_out (prt s A B) _ (by rw [prt_size]; omega)]
theorem bt_ext {a b : ByteArray} (hs : a.size = b.size) (h : ∀ i : Nat, i < a.size → bt a i = bt b i) : a = b := by
  apply ByteArray.ext_getElem hs
  intro i h1 h2
  have := h i h1
  rw [bt_in a i h1, bt_in b i h2] at this
  exact UInt8.toNat_inj.1 (by omega)

theorem bt_put (s t : ByteArray) (i j : Int) (h0 : 0 ≤ i) (h1 : i + (t.size : Int) ≤ s.size) :
    bt (put s i t) j = if i ≤ j ∧ j < i + t.size then bt t (j - i) else bt s j := by
  have z1 : ((prt s 0 i).size : Int) = i := by rw [prt_size]; omega
  have z2 : ((prt s 0 i ++ t).size : Int) = i + t.size := by rw [ByteArray.size_append]; omega
  by_cases hn : j < 0
  · rw [bt_neg _ _ hn, if_neg (by omega), bt_neg _ _ hn]
  by_cases c1 : j < i
  · rw [if_neg (by omega)]
    unfold put
    rw [bt_append_l _ _ _ (by omega), bt_append_l _ _ _ (by omega), bt_prt s 0 i j (by omega) (by omega) (by omega)]
    simp
  by_cases c2 : j < i + t.size
  · rw [if_pos ⟨by omega, c2⟩]
    unfold put
    rw [bt_append_l _ _ _ (by omega), bt_append_r _ _ _ (by omega), z1]
  · rw [if_neg (by omega)]
    unfold put
    rw [bt_append_r _ _ _ (by omega), z2]
    by_cases c3 : j < s.size
    · rw [bt_prt s _ _ _ (by omega) (by omega) (by omega)]
      congr 1
      omega
    · rw [bt_out s j (by omega), bt_out _ _ (by rw [prt_size]; omega)]

/-- a number as four bytes -/
def l4 (v : Int) : ByteArray := w2 (v / 65536) ++ w2 (v % 65536)
theorem l4_size (v : Int) : (l4 v).size = 4 := by simp [l4, w2_size]
/-- a number as one byte -/
def b1 (v : Int) : ByteArray := strOfNums [v]
theorem b1_size (v : Int) : (b1 v).size = 1 := strOfNums_size _

/-- the place of a port -/
def ppl (s : ByteArray) (k : Int) : Int := hdv s + (if bt s 9 = 1 then 4 else k)
theorem ppl_bd (s : ByteArray) (k : Int) (h0 : 0 ≤ k) (h1 : k ≤ 4) : 0 ≤ ppl s k ∧ ppl s k ≤ 64 := by have := hdv_bd s; unfold ppl; split <;> omega
def wsrc (s : ByteArray) (a p : Int) : ByteArray := put (put s 12 (l4 a)) (ppl (put s 12 (l4 a)) 0) (w2 p)
def wdst (s : ByteArray) (a p : Int) : ByteArray := put (put s 16 (l4 a)) (ppl (put s 16 (l4 a)) 2) (w2 p)

/-- the checksum of UDP's body -/
def uds (s : ByteArray) : Int := udpv s (prt (bdy s) 0 (wd (bdy s) 4))
def snt1 (s : ByteArray) : ByteArray := put s 8 (b1 (bt s 8 - 1))
def snt2 (s : ByteArray) : ByteArray := put (snt1 s) 10 (w2 (hsv (snt1 s)))
def sld (b : ByteArray) : ByteArray :=
  if bt b 9 = 17 then (if wd b (hdv b + 6) = 0 then b else put b (hdv b + 6) (w2 (uds b)))
  else if bt b 9 = 6 then put b (hdv b + 16) (w2 (cks b (bdy b) 6 16))
  else if bt b 9 = 1 then put b (hdv b + 2) (w2 (sumv (blk (bdy b) 2)))
  else b
def snt (s : ByteArray) : ByteArray := sld (snt2 s)

/-- what is written behind place 3 leaves the frame one that fits -/
theorem fits_put {s t : ByteArray} {i : Int} (h : Fits s) (h0 : 4 ≤ i) (h1 : i + (t.size : Int) ≤ s.size) : Fits (put s i t) := by
  have hz := put_size s i t (by omega) h1
  have e : ∀ j, j < 4 → bt (put s i t) j = bt s j := fun j hj => by rw [bt_put s t i j (by omega) h1, if_neg (by omega)]
  have e2 : wd (put s i t) 2 = wd s 2 := by unfold wd; rw [e 2 (by omega), e (2 + 1) (by omega)]
  have e3 : hdv (put s i t) = hdv s := by unfold hdv; rw [e 0 (by omega)]
  have e4 : ver (put s i t) = ver s := by unfold ver; rw [e 0 (by omega)]
  exact ⟨by rw [hz]; exact h.n20, by rw [hz]; exact h.n64, by rw [e4]; exact h.v4, by rw [e3]; exact h.h20, by rw [e2, e3]; exact h.ht, by rw [e2, hz]; exact h.tn⟩
theorem hdv_put {s t : ByteArray} {i : Int} (h0 : 1 ≤ i) (h1 : i + (t.size : Int) ≤ s.size) : hdv (put s i t) = hdv s := by
  unfold hdv; rw [bt_put s t i 0 (by omega) h1, if_neg (by omega)]
theorem tot_put {s t : ByteArray} {i : Int} (h0 : 4 ≤ i) (h1 : i + (t.size : Int) ≤ s.size) : wd (put s i t) 2 = wd s 2 := by
  unfold wd; rw [bt_put s t i _ (by omega) h1, if_neg (by omega), bt_put s t i _ (by omega) h1, if_neg (by omega)]
theorem bt_put_off {s t : ByteArray} {i j : Int} (h0 : 0 ≤ i) (h1 : i + (t.size : Int) ≤ s.size) (h : j < i ∨ i + t.size ≤ j) : bt (put s i t) j = bt s j := by
  rw [bt_put s t i j h0 h1, if_neg (by omega)]
theorem wd_put_off {s t : ByteArray} {i j : Int} (h0 : 0 ≤ i) (h1 : i + (t.size : Int) ≤ s.size) (h : j + 1 < i ∨ i + t.size ≤ j) : wd (put s i t) j = wd s j := by
  unfold wd; rw [bt_put_off h0 h1 (by omega), bt_put_off h0 h1 (by omega)]
theorem bdy_bt {s : ByteArray} (h : Fits s) (i : Int) (h0 : 0 ≤ i) (h1 : i < (bdy s).size) : bt (bdy s) i = bt s (hdv s + i) := by
  have hz := bdy_size h; have := hdv_bd s
  exact bt_prt s _ _ i (by omega) h0 (by omega)
theorem bdy_wd {s : ByteArray} (h : Fits s) (i : Int) (h0 : 0 ≤ i) (h1 : i + 1 < (bdy s).size) : wd (bdy s) i = wd s (hdv s + i) := by
  unfold wd; rw [bdy_bt h i h0 (by omega), bdy_bt h (i + 1) (by omega) h1, Int.add_assoc]
end Go.Proofs.YthiljpbodmajaabGreat.Plain
namespace Go.Proofs.YthiljpbodmajaabGreat.Plain

structure Cf where
  ia : Int
  oa : Int
  lo : Int
  hi : Int
  cp : Int
  im : Int
  om : Int
  iu : Int
  it : Int
  iq : Int
  bu : Int
  ra : Int
def Cf.ok (c : Cf) : Bool := validB c.ia c.oa c.lo c.hi c.cp c.im c.om c.iu c.it c.iq c.bu c.ra
/-- a mapping: protocol, endpoint, external port, ticks left, four peers, how many -/
structure Mp where
  pr : Int
  ea : Int
  ep : Int
  ex : Int
  le : Int
  q0 : Int
  r0 : Int
  q1 : Int
  r1 : Int
  q2 : Int
  r2 : Int
  q3 : Int
  r3 : Int
  kn : Int
structure Bx where
  c : Cf
  ms : List Mp
  tk : Int
  ti : Int

def Mp.has (m : Mp) (p x : Int) : Bool := m.pr == p && m.ex == x
def Mp.of (m : Mp) (p a q : Int) : Bool := m.pr == p && (m.ea == a && m.ep == q)
def Mp.knows (m : Mp) (a p : Int) : Bool :=
  (decide (0 < m.kn) && (m.q0 == a && m.r0 == p)) || (decide (1 < m.kn) && (m.q1 == a && m.r1 == p)) || (decide (2 < m.kn) && (m.q2 == a && m.r2 == p)) || (decide (3 < m.kn) && (m.q3 == a && m.r3 == p))
def Mp.takes (m : Mp) (a p : Int) : Bool := decide (m.kn < 4) || m.knows a p
def Mp.used (m : Mp) (a p i : Int) : Mp :=
  if m.kn < 4 ∧ m.knows a p = false then
    if m.kn = 0 then { m with le := i, q0 := a, r0 := p, kn := 1 }
    else if m.kn = 1 then { m with le := i, q1 := a, r1 := p, kn := 2 }
    else if m.kn = 2 then { m with le := i, q2 := a, r2 := p, kn := 3 }
    else { m with le := i, q3 := a, r3 := p, kn := 4 }
  else { m with le := i }
def Mp.before (m o : Mp) : Bool := if m.pr != o.pr then decide (m.pr < o.pr) else decide (m.ex < o.ex)
def Mp.new (p a q x : Int) : Mp := ⟨p, a, q, x, 0, 0, 0, 0, 0, 0, 0, 0, 0, 0⟩

def fidx (f : Mp → Bool) (ms : List Mp) : Int := if ms.findIdx f < ms.length then (ms.findIdx f : Int) else -1
/-- the least port from n on that no mapping of the list, taken in its order, has -/
def gap (p : Int) : List Mp → Int → Int
  | [], n => n
  | m :: ms, n => gap p ms (if m.has p n then n + 1 else n)
def chs (c : Cf) (ms : List Mp) (p own : Int) : Int :=
  if c.lo ≤ own ∧ own ≤ c.hi ∧ fidx (·.has p own) ms < 0 then own else gap p ms c.lo
def ins (m : Mp) : List Mp → List Mp
  | [] => [m]
  | x :: xs => if (x :: xs).all m.before then m :: x :: xs else x :: ins m xs
def aged (n : Int) (ms : List Mp) : List Mp := (ms.filter (fun m => decide (n < m.le))).map (fun m => { m with le := m.le - n })
/-- the external port, and the table that comes out; none: ErrFull -/
def use (c : Cf) (ms : List Mp) (p a q pa pp i : Int) : Option (Int × List Mp) :=
  let k := ms.findIdx (·.of p a q)
  match ms[k]? with
  | some m => if m.takes pa pp then some (m.ex, ms.set k (m.used pa pp i)) else none
  | none => if c.cp ≤ (ms.length : Int) ∨ c.hi < chs c ms p q then none else some (chs c ms p q, ins ((Mp.new p a q (chs c ms p q)).used pa pp i) ms)

def Cf.idle (c : Cf) (p : Int) : Int := if p = 17 then c.iu else if p = 6 then c.it else c.iq
def isReq (s : ByteArray) : Bool := bt s 9 == 1 && reqB (bt s (hdv s))
def isRep (s : ByteArray) : Bool := bt s 9 == 1 && repB (bt s (hdv s))
def isErr (s : ByteArray) : Bool := bt s 9 == 1 && errB (bt s (hdv s))
def addrB (c : Cf) (d : Int) (s : ByteArray) : Bool :=
  !(lg s 12 == c.ia || lg s 12 == c.oa || lg s 16 == c.ia) && (d == 0 || lg s 16 == c.oa)
def kindB (c : Cf) (d : Int) (s : ByteArray) : Bool :=
  if d = 1 then !(isReq s) else !(isRep s) && (!(isReq s) || !(lg s 16 == c.oa))
def exam (c : Cf) (d : Int) (s : ByteArray) : Int :=
  if ¬ d = 0 ∧ ¬ d = 1 then 2 else if ¬ chk s = 0 then chk s else if addrB c d s then (if kindB c d s then 0 else 7) else 6
def pss (s : ByteArray) (mtu : Int) : Int := if bt s 8 ≤ 1 then 9 else if mtu < wd s 2 then 10 else 0
/-- an answer: its error, its side, the frame that comes out, the table behind it -/
structure Ans where
  er : Int
  sd : Int
  fr : ByteArray
  ms : List Mp
def Ans.no (e : Int) (ms : List Mp) : Ans := ⟨e, 0, ByteArray.empty, ms⟩
end Go.Proofs.YthiljpbodmajaabGreat.Plain
namespace Go.Proofs.YthiljpbodmajaabGreat.Plain
/-- where the body's checksum stands -/
def spl (s : ByteArray) : Int := hdv s + (if bt s 9 = 17 then 6 else if bt s 9 = 6 then 16 else 2)
/-- a frame whose checksums can be made -/
structure Sok (s : ByteArray) : Prop where
  fit : Fits s
  u : bt s 9 = 17 → 8 ≤ wd (bdy s) 4 ∧ wd (bdy s) 4 ≤ ((bdy s).size : Int)
  t : bt s 9 = 6 → 20 ≤ (bdy s).size
  i : bt s 9 = 1 → 8 ≤ (bdy s).size
theorem fits_hdrv {s : ByteArray} (h : hdrv s = 0) : Fits s := by
  apply fits_of
  cases hf : fitsB s
  · simp [hdrv, hf] at h
  · rfl
theorem chk_hdrv {s : ByteArray} (h : chk s = 0) : hdrv s = 0 := by
  unfold chk at h
  by_cases c : hdrv s = 0
  · exact c
  · rw [if_neg c] at h; exact h
theorem chk_pr {s : ByteArray} (h : chk s = 0) : bt s 9 = 17 ∨ bt s 9 = 6 ∨ bt s 9 = 1 := by
  have c := chk_hdrv h
  unfold chk at h
  rw [if_pos c] at h
  by_cases c1 : bt s 9 = 17
  · exact .inl c1
  · by_cases c2 : bt s 9 = 6
    · exact .inr (.inl c2)
    · by_cases c3 : bt s 9 = 1
      · exact .inr (.inr c3)
      · rw [if_neg c1, if_neg c2, if_neg c3] at h; omega
theorem chk_sok {s : ByteArray} (h : chk s = 0) : Sok s := by
  have c := chk_hdrv h
  unfold chk at h
  rw [if_pos c] at h
  refine ⟨fits_hdrv c, fun e => ?_, fun e => ?_, fun e => ?_⟩
  · rw [if_pos e] at h
    unfold udc ucase at h
    split at h
    · omega
    · split at h
      · omega
      · omega
  · rw [if_neg (by omega), if_pos e] at h
    unfold tcc tcase at h
    split at h
    · omega
    · omega
  · rw [if_neg (by omega), if_neg (by omega), if_pos e] at h
    unfold icv icase at h
    split at h
    · omega
    · omega
theorem bdy_put_size {s t : ByteArray} {i : Int} (h : Fits s) (h0 : 4 ≤ i) (h1 : i + (t.size : Int) ≤ s.size) : (bdy (put s i t)).size = (bdy s).size := by
  have e1 := bdy_size h
  have e2 := bdy_size (fits_put h h0 h1)
  rw [hdv_put (by omega) h1, tot_put h0 h1] at e2
  omega
theorem sok_put {s t : ByteArray} {i : Int} (S : Sok s) (h0 : 4 ≤ i) (h1 : i + (t.size : Int) ≤ s.size) (h9 : i + t.size ≤ 9 ∨ 10 ≤ i) (hu : bt s 9 = 17 → i + t.size ≤ hdv s + 4 ∨ hdv s + 6 ≤ i) : Sok (put s i t) := by
  have F := fits_put (t := t) S.fit h0 h1
  have e9 : bt (put s i t) 9 = bt s 9 := bt_put_off (by omega) h1 (by omega)
  have ez := bdy_put_size (t := t) S.fit h0 h1
  refine ⟨F, fun e => ?_, fun e => ?_, fun e => ?_⟩
  · rw [e9] at e
    have u := S.u e
    have z8 : 8 ≤ (bdy s).size := by omega
    rw [ez, bdy_wd F 4 (by omega) (by omega), hdv_put (by omega) h1, wd_put_off (by omega) h1 (by have := hu e; omega), ← bdy_wd S.fit 4 (by omega) (by omega)]
    exact u
  · rw [ez]; exact S.t (by rw [← e9]; exact e)
  · rw [ez]; exact S.i (by rw [← e9]; exact e)
theorem hsv_bd (s : ByteArray) (h : (blk (prt s 0 (hdv s)) 10).size ≤ 65535) : 0 ≤ hsv s ∧ hsv s < 65536 := by
  unfold hsv sumv; rw [if_pos h]; have := ones_bd (total (blk (prt s 0 (hdv s)) 10)); omega
theorem cks_bd (s c : ByteArray) (p i : Int) : 0 ≤ cks s c p i ∧ cks s c p i < 65536 := by unfold cks; have := ones_bd (total (ahd s p c.size ++ blk c i)); omega
theorem uds_bd (s : ByteArray) : 0 ≤ uds s ∧ uds s < 65536 := by
  unfold uds udpv
  have := cks_bd s (prt (bdy s) 0 (wd (bdy s) 4)) 17 6
  split <;> omega
end Go.Proofs.YthiljpbodmajaabGreat.Plain
namespace Go.Proofs.YthiljpbodmajaabGreat.Plain

theorem bt_b1 (v : Int) (h0 : 0 ≤ v) (h1 : v < 256) : bt (b1 v) 0 = v := by
  have : v.toNat < 256 := by omega
  simp [bt, b1, strOfNums]
  omega
theorem bt_w2 (v : Int) (h0 : 0 ≤ v) (h1 : v < 65536) : bt (w2 v) 0 = v / 256 ∧ bt (w2 v) 1 = v % 256 := by
  constructor
  · simp [bt, w2, strOfNums]
    omega
  · simp [bt, w2, strOfNums]
    omega
theorem bt_mid (a x c : ByteArray) (i j : Int) (hi : i = (a.size : Int) + j) (h0 : 0 ≤ j) (h1 : j < x.size) : bt (a ++ x ++ c) i = bt x j := by
  subst hi
  rw [bt_append_l _ _ _ (by simp; omega), bt_append_r _ _ _ (by omega)]
  congr 1
  omega
theorem bt_mid1 (a c : ByteArray) (v i : Int) (hi : i = (a.size : Int)) (h0 : 0 ≤ v) (h1 : v < 256) : bt (a ++ b1 v ++ c) i = v := by
  rw [bt_mid a (b1 v) c i 0 (by omega) (by omega) (by rw [b1_size]; omega), bt_b1 v h0 h1]
theorem wd_mid (a c : ByteArray) (v i : Int) (hi : i = (a.size : Int)) (h0 : 0 ≤ v) (h1 : v < 65536) : wd (a ++ w2 v ++ c) i = v := by
  unfold wd
  rw [bt_mid a (w2 v) c i 0 (by omega) (by omega) (by rw [w2_size]; omega), bt_mid a (w2 v) c (i + 1) 1 (by omega) (by omega) (by rw [w2_size]; omega), (bt_w2 v h0 h1).1, (bt_w2 v h0 h1).2]
  omega
/-- a header: its first byte, the second, total length, the two words behind, TTL, protocol, checksum, source, destination, options -/
def hd (v u n x f t p c sa da : Int) (o : ByteArray) : ByteArray := b1 v ++ b1 u ++ w2 n ++ w2 x ++ w2 f ++ b1 t ++ b1 p ++ w2 c ++ l4 sa ++ l4 da ++ o
theorem hd_size (v u n x f t p c sa da : Int) (o : ByteArray) : (hd v u n x f t p c sa da o).size = 20 + o.size := by
  simp only [hd, ByteArray.size_append, b1_size, w2_size, l4_size]
section
variable (v u n x f t p c sa da : Int) (o r : ByteArray)
theorem hd_bt0 (h0 : 0 ≤ v) (h1 : v < 256) : bt (hd v u n x f t p c sa da o ++ r) 0 = v := by
  have := bt_mid1 ByteArray.empty (b1 u ++ w2 n ++ w2 x ++ w2 f ++ b1 t ++ b1 p ++ w2 c ++ l4 sa ++ l4 da ++ o ++ r) v 0 (by simp) h0 h1
  simpa [hd, ByteArray.append_assoc] using this
theorem hd_tot (h0 : 0 ≤ n) (h1 : n < 65536) : wd (hd v u n x f t p c sa da o ++ r) 2 = n := by
  have := wd_mid (b1 v ++ b1 u) (w2 x ++ w2 f ++ b1 t ++ b1 p ++ w2 c ++ l4 sa ++ l4 da ++ o ++ r) n 2 (by simp [b1_size]) h0 h1
  simpa [hd, ByteArray.append_assoc] using this
theorem hd_bt9 (h0 : 0 ≤ p) (h1 : p < 256) : bt (hd v u n x f t p c sa da o ++ r) 9 = p := by
  have := bt_mid1 (b1 v ++ b1 u ++ w2 n ++ w2 x ++ w2 f ++ b1 t) (w2 c ++ l4 sa ++ l4 da ++ o ++ r) p 9 (by simp [b1_size, w2_size]) h0 h1
  simpa [hd, ByteArray.append_assoc] using this
end
end Go.Proofs.YthiljpbodmajaabGreat.Plain
namespace Go.Proofs.YthiljpbodmajaabGreat.Plain
def pk (c n : Int) : Int := (if c < 0 then -(c + 1) else c) % n
theorem us_bd {a : Int} (h : usB a = true) : 0 ≤ a ∧ a < 4294967296 := by simp [usB] at h; omega
end Go.Proofs.YthiljpbodmajaabGreat.Plain
namespace Go.Proofs.YthiljpbodmajaabGreat.Plain
set_option linter.unusedVariables false

def lst (m : Mp) (ms : List Mp) (k : Nat) : List Mp := ms.take k ++ m :: ms.drop k
theorem lst_end (m : Mp) (ms : List Mp) : lst m ms ms.length = ms ++ [m] := by unfold lst; simp
theorem lst_at (m : Mp) (ms : List Mp) (k : Nat) (x : Mp) (hx : ms[k]? = some x) : (lst m ms (k + 1))[k]? = some x := by
  have hk := (List.getElem?_eq_some_iff.1 hx).1
  unfold lst
  rw [List.getElem?_append_left (by simp; omega), List.getElem?_take, if_pos (by omega), hx]
theorem lst_new (m : Mp) (ms : List Mp) (k : Nat) (x : Mp) (hx : ms[k]? = some x) : (lst m ms (k + 1))[k + 1]? = some m := by
  have hk := (List.getElem?_eq_some_iff.1 hx).1
  have h3 : (ms.take (k + 1)).length = k + 1 := by simp; omega
  unfold lst
  rw [List.getElem?_append_right (by omega), h3]
  simp
theorem lst_step (m : Mp) (ms : List Mp) (k : Nat) (x : Mp) (hx : ms[k]? = some x) : ((lst m ms (k + 1)).set (k + 1) x).set k m = lst m ms k := by
  obtain ⟨hk, e⟩ := List.getElem?_eq_some_iff.1 hx
  unfold lst
  have h1 : ms.take (k + 1) = ms.take k ++ [x] := by rw [List.take_add_one, hx]; rfl
  have h2 : ms.drop k = x :: ms.drop (k + 1) := by rw [← e]; exact List.drop_eq_getElem_cons hk
  have h3 : (ms.take k).length = k := by simp; omega
  rw [h1, h2]
  generalize ms.take k = A at h3
  generalize ms.drop (k + 1) = B
  subst h3
  simp
theorem ins_at (m : Mp) : ∀ (ms : List Mp) (k : Nat), k ≤ ms.length → (∀ j x, k ≤ j → ms[j]? = some x → m.before x = true) → (k = 0 ∨ ∃ x, ms[k - 1]? = some x ∧ m.before x = false) → ins m ms = lst m ms k
  | [], k, h, _, _ => by
    have : k = 0 := by simpa using h
    subst this; rfl
  | x :: xs, 0, _, h, _ => by
    have : (x :: xs).all m.before = true := by
      rw [List.all_eq_true]
      intro y hy
      obtain ⟨j, hj⟩ := List.getElem?_of_mem hy
      exact h j y (by omega) hj
    unfold ins lst
    rw [if_pos this]; rfl
  | x :: xs, k + 1, hk, h, hs => by
    obtain ⟨y, hy, hb⟩ : ∃ y, (x :: xs)[k]? = some y ∧ m.before y = false := by
      rcases hs with hs | hs
      · omega
      · simpa using hs
    have hall : ¬ (x :: xs).all m.before = true := by
      rw [List.all_eq_true]
      intro hh
      have := hh y (List.mem_of_getElem? hy)
      rw [hb] at this; cases this
    have ih := ins_at m xs k (by simpa using hk) (fun j z hj hz => h (j + 1) z (by omega) (by simpa using hz)) (by
      cases k with
      | zero => exact .inl rfl
      | succ k => exact .inr ⟨y, by simpa using hy, hb⟩)
    unfold ins
    rw [if_neg hall, ih]
    rfl

theorem aged_snoc (n : Int) (ms : List Mp) (i : Nat) (m : Mp) (h : ms[i]? = some m) : aged n (ms.take (i + 1)) = aged n (ms.take i) ++ (if n < m.le then [{ m with le := m.le - n }] else []) := by
  unfold aged
  rw [List.take_add_one, h]
  by_cases c : n < m.le <;> simp [c]
theorem take_set_snoc (L : List Mp) (k : Nat) (m : Mp) (h : k < L.length) : (L.set k m).take (k + 1) = L.take k ++ [m] := by
  rw [List.take_add_one]
  congr 1
  · apply List.ext_getElem?
    intro j
    simp only [List.getElem?_take]
    split
    · rw [List.getElem?_set_ne (by omega)]
    · rfl
  · simp [h]
end Go.Proofs.YthiljpbodmajaabGreat.Plain
namespace Go.Proofs.YthiljpbodmajaabGreat.Plain

def lt2 (a b : Mp) : Prop := a.pr < b.pr ∨ (a.pr = b.pr ∧ a.ex < b.ex)
theorem before_iff (m o : Mp) : m.before o = true ↔ lt2 m o := by
  unfold Mp.before lt2
  by_cases h : m.pr = o.pr
  · simp [h]
  · simp [h]
theorem lt2_trans {a b c : Mp} (h : lt2 a b) (k : lt2 b c) : lt2 a c := by unfold lt2 at *; omega
theorem lt2_tri (a b : Mp) (h : ¬ (a.pr = b.pr ∧ a.ex = b.ex)) : lt2 a b ∨ lt2 b a := by unfold lt2; omega
/-- in rising order of protocols, of one protocol in rising order of external ports -/
def Srt (ms : List Mp) : Prop := ms.Pairwise lt2
theorem srt_nil : Srt [] := List.Pairwise.nil
theorem mem_ins {m y : Mp} : ∀ {ms : List Mp}, y ∈ ins m ms ↔ y = m ∨ y ∈ ms
  | [] => by simp [ins]
  | x :: xs => by
    unfold ins
    split
    · simp
    · simp only [List.mem_cons, mem_ins (ms := xs)]
      constructor
      · rintro (h | h | h)
        · exact .inr (.inl h)
        · exact .inl h
        · exact .inr (.inr h)
      · rintro (h | h | h)
        · exact .inr (.inl h)
        · exact .inl h
        · exact .inr (.inr h)
theorem srt_ins (m : Mp) : ∀ ms : List Mp, Srt ms → (∀ x ∈ ms, ¬ (x.pr = m.pr ∧ x.ex = m.ex)) → Srt (ins m ms)
  | [], _, _ => by simp [ins, Srt]
  | x :: xs, h, hn => by
    unfold ins
    split
    · rename_i ha
      refine List.Pairwise.cons (fun y hy => ?_) h
      rw [List.all_eq_true] at ha
      exact (before_iff m y).1 (ha y hy)
    · rename_i ha
      have hx := (List.pairwise_cons.1 h)
      refine List.Pairwise.cons (fun y hy => ?_) (srt_ins m xs hx.2 (fun z hz => hn z (List.mem_cons_of_mem _ hz)))
      rcases mem_ins.1 hy with e | e
      · rw [e]
        have : ∃ y ∈ x :: xs, ¬ m.before y = true := by
          by_cases q : ∃ y ∈ x :: xs, ¬ m.before y = true
          · exact q
          · exact absurd (List.all_eq_true.2 fun z hz => by
              by_cases r : m.before z = true
              · exact r
              · exact absurd ⟨z, hz, r⟩ q) ha
        obtain ⟨z, hz, hb⟩ := this
        rw [before_iff] at hb
        have hzm : lt2 z m := by
          rcases lt2_tri z m (hn z hz) with q | q
          · exact q
          · exact absurd q hb
        rcases List.mem_cons.1 hz with e' | e'
        · rw [← e']; exact hzm
        · exact lt2_trans (hx.1 z e') hzm
      · exact hx.1 y e
theorem gap_free (p : Int) : ∀ (ms : List Mp) (n : Int), Srt ms → (∀ m ∈ ms, m.pr = p → m.ex ≠ gap p ms n) ∧ (∀ k, n ≤ k → k < gap p ms n → ∃ m ∈ ms, m.pr = p ∧ m.ex = k)
  | [], n, _ => ⟨fun m h => by simp at h, fun k h0 h1 => by simp only [gap] at h1; omega⟩
  | m :: ms, n, h => by
    have hx := List.pairwise_cons.1 h
    by_cases hh : m.has p n = true
    · have e : gap p (m :: ms) n = gap p ms (n + 1) := by simp [gap, hh]
      have he : m.pr = p ∧ m.ex = n := by simpa [Mp.has] using hh
      obtain ⟨i1, i2⟩ := gap_free p ms (n + 1) hx.2
      rw [e]
      have hg : n + 1 ≤ gap p ms (n + 1) := by
        by_cases q : n + 1 ≤ gap p ms (n + 1)
        · exact q
        · exfalso
          have : ∀ (ms : List Mp) (n : Int), n ≤ gap p ms n := by
            intro ms
            induction ms with
            | nil => intro n; exact Int.le_refl _
            | cons x xs ih =>
              intro n
              show n ≤ gap p xs (if x.has p n then n + 1 else n)
              have := ih (if x.has p n then n + 1 else n)
              split at this
              · rename_i hq; rw [if_pos hq]; omega
              · rename_i hq; rw [if_neg hq]; exact this
          exact q (this ms (n + 1))
      refine ⟨fun y hy hp => ?_, fun k h0 h1 => ?_⟩
      · rcases List.mem_cons.1 hy with q | q
        · rw [q]; omega
        · exact i1 y q hp
      · by_cases hk : k = n
        · exact ⟨m, List.mem_cons_self, he.1, by omega⟩
        · obtain ⟨y, hy, hq⟩ := i2 k (by omega) h1
          exact ⟨y, List.mem_cons_of_mem _ hy, hq⟩
    · have e : gap p (m :: ms) n = gap p ms n := by simp [gap, hh]
      obtain ⟨i1, i2⟩ := gap_free p ms n hx.2
      rw [e]
      have hle : ∀ (ms : List Mp) (n : Int), n ≤ gap p ms n := by
        intro ms
        induction ms with
        | nil => intro n; exact Int.le_refl _
        | cons x xs ih =>
          intro n
          show n ≤ gap p xs (if x.has p n then n + 1 else n)
          have := ih (if x.has p n then n + 1 else n)
          split at this
          · rename_i hq; rw [if_pos hq]; omega
          · rename_i hq; rw [if_neg hq]; exact this
      refine ⟨fun y hy hp => ?_, fun k h0 h1 => ?_⟩
      · rcases List.mem_cons.1 hy with q | q
        · subst q
          have hn : y.ex ≠ n := fun hne => hh (by simp [Mp.has, hp, hne])
          by_cases hg : gap p ms n = n
          · rw [hg]; exact hn
          · obtain ⟨z, hz, hz1, hz2⟩ := i2 n (Int.le_refl _) (by have := hle ms n; omega)
            have := hx.1 z hz
            unfold lt2 at this
            have := hle ms n
            omega
        · exact i1 y q hp
      · obtain ⟨y, hy, hq⟩ := i2 k h0 h1
        exact ⟨y, List.mem_cons_of_mem _ hy, hq⟩
theorem fidx_neg_iff {f : Mp → Bool} {ms : List Mp} : fidx f ms < 0 ↔ ∀ m ∈ ms, f m = false := by
  unfold fidx
  constructor
  · intro h m hm
    have hl : ¬ ms.findIdx f < ms.length := by
      intro q; rw [if_pos q] at h; omega
    rw [List.findIdx_lt_length] at hl
    cases hf : f m
    · rfl
    · exact absurd ⟨m, hm, hf⟩ hl
  · intro h
    have : ¬ ms.findIdx f < ms.length := by
      rw [List.findIdx_lt_length]
      rintro ⟨m, hm, hf⟩
      rw [h m hm] at hf
      cases hf
    rw [if_neg this]; decide
/-- the port that is given is free -/
theorem chs_free (c : Cf) (ms : List Mp) (p own : Int) (h : Srt ms) : ∀ m ∈ ms, ¬ (m.pr = p ∧ m.ex = chs c ms p own) := by
  intro m hm hh
  unfold chs at hh
  split at hh
  · rename_i hc
    have := fidx_neg_iff.1 hc.2.2 m hm
    simp [Mp.has, hh] at this
  · exact (gap_free p ms c.lo h).1 m hm hh.1 hh.2
end Go.Proofs.YthiljpbodmajaabGreat.Plain
