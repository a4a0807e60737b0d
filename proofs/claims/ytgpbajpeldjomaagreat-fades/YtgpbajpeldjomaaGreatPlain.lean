/-
  PLAIN MATHEMATICS (no Go in sight): bits of int, folding of sums.
-/
import Derived.Laws.BitsAllLaws
import Derived.Laws.Bits128
import Derived.Laws.BytesArg
namespace Go.Proofs.YtgpbajpeldjomaaGreat.Plain

theorem i64_and_nat (a b : Nat) (ha : a < 9223372036854775808) (hb : b < 9223372036854775808) : bits .and .i64 (a : Int) (b : Int) = ((a &&& b : Nat) : Int) := by
  have hx : a &&& b < 2 ^ 63 := Nat.and_lt_two_pow _ (by omega)
  show IntKind.i64.wrap ((BitVec.ofInt 64 (a : Int) &&& BitVec.ofInt 64 (b : Int)).toNat : Int) = _
  rw [BitVec.toNat_and, ofInt_u64 a (by omega), ofInt_u64 b (by omega), IntKind.wrap_i64]
  omega
theorem i64_or_nat (a b : Nat) (ha : a < 9223372036854775808) (hb : b < 9223372036854775808) : bits .or .i64 (a : Int) (b : Int) = ((a ||| b : Nat) : Int) := by
  have hx : a ||| b < 2 ^ 63 := Nat.or_lt_two_pow (by omega) (by omega)
  show IntKind.i64.wrap ((BitVec.ofInt 64 (a : Int) ||| BitVec.ofInt 64 (b : Int)).toNat : Int) = _
  rw [BitVec.toNat_or, ofInt_u64 a (by omega), ofInt_u64 b (by omega), IntKind.wrap_i64]
  omega
theorem and65535 (a : Int) (h0 : 0 ≤ a) (h1 : a < 9223372036854775808) : bits .and .i64 a 65535 = a % 65536 := by
  obtain ⟨A, rfl⟩ := Int.eq_ofNat_of_zero_le h0
  have := i64_and_nat A 65535 (by omega) (by omega)
  rw [nat_mask16] at this
  simpa using this
theorem and8191 (a : Int) (h0 : 0 ≤ a) (h1 : a < 9223372036854775808) : bits .and .i64 a 8191 = a % 8192 := by
  obtain ⟨A, rfl⟩ := Int.eq_ofNat_of_zero_le h0
  have := i64_and_nat A 8191 (by omega) (by omega)
  rw [nat_mask13] at this
  simpa using this
theorem and15 (a : Int) (h0 : 0 ≤ a) (h1 : a < 9223372036854775808) : bits .and .i64 a 15 = a % 16 := by
  obtain ⟨A, rfl⟩ := Int.eq_ofNat_of_zero_le h0
  have := i64_and_nat A 15 (by omega) (by omega)
  rw [nat_mask4] at this
  simpa using this
theorem and16383 (a : Int) (h0 : 0 ≤ a) (h1 : a < 9223372036854775808) : bits .and .i64 a 16383 = a % 16384 := by
  obtain ⟨A, rfl⟩ := Int.eq_ofNat_of_zero_le h0
  have := i64_and_nat A 16383 (by omega) (by omega)
  rw [nat_mask14] at this
  simpa using this
theorem or8 (a b : Int) (h0 : 0 ≤ a) (h1 : a < 65536) (h2 : 0 ≤ b) (h3 : b < 256) : bits .or .i64 (a * 256) b = a * 256 + b := by
  obtain ⟨A, rfl⟩ := Int.eq_ofNat_of_zero_le h0
  obtain ⟨B, rfl⟩ := Int.eq_ofNat_of_zero_le h2
  have := i64_or_nat (A * 256) B (by omega) (by omega)
  rw [nat_join 8 (A * 256) B (by omega) (by omega)] at this
  simpa using this
theorem or16 (a b : Int) (h0 : 0 ≤ a) (h1 : a < 65536) (h2 : 0 ≤ b) (h3 : b < 65536) : bits .or .i64 (a * 65536) b = a * 65536 + b := by
  obtain ⟨A, rfl⟩ := Int.eq_ofNat_of_zero_le h0
  obtain ⟨B, rfl⟩ := Int.eq_ofNat_of_zero_le h2
  have := i64_or_nat (A * 65536) B (by omega) (by omega)
  rw [nat_join 16 (A * 65536) B (by omega) (by omega)] at this
  simpa using this

/-- a sum brought below 65536, closed -/
def fd (n : Int) : Int := if n = 0 then 0 else (n - 1) % 65535 + 1
theorem fd_step (n : Int) (h : 65535 < n) : fd (n / 65536 + n % 65536) = fd n := by
  unfold fd; rw [if_neg (by omega), if_neg (by omega)]; omega
theorem fd_small (n : Int) (h0 : 0 ≤ n) (h1 : n ≤ 65535) : fd n = n := by
  unfold fd; split <;> omega
theorem fd_bd (n : Int) : 0 ≤ fd n ∧ fd n ≤ 65535 := by
  unfold fd; split <;> omega
/-- its complement -/
def ones (n : Int) : Int := 65535 - fd n
theorem ones_zero : ones 0 = 65535 := rfl
theorem ones_pos (n : Int) (h : ¬ n = 0) : ones n = 65534 - (n - 1) % 65535 := by
  unfold ones fd; rw [if_neg h]; omega
theorem ones_bd (n : Int) : 0 ≤ ones n ∧ ones n ≤ 65535 := by
  have := fd_bd n; unfold ones; omega

/-- is a number a word? -/
def isW (n : Int) : Bool := decide (0 ≤ n ∧ n ≤ 65535)
theorem isW_true {n : Int} (h : isW n = true) : 0 ≤ n ∧ n ≤ 65535 := by simpa [isW] using h
theorem isW_false {n : Int} (h : isW n = false) : n < 0 ∨ 65535 < n := by simp [isW] at h; omega
def fixv (c o n : Int) : Int := if isW c && isW o && isW n then ones (65535 - c + 65535 - o + n) else -1

end Go.Proofs.YtgpbajpeldjomaaGreat.Plain
namespace Go.Proofs.YtgpbajpeldjomaaGreat.Plain

/-- the byte at a place; 0 where there is none -/
def bt (s : ByteArray) (i : Int) : Int := if i < 0 then 0 else ((s.data.toList.getD i.toNat 0).toNat : Int)
theorem bt_bd (s : ByteArray) (i : Int) : 0 ≤ bt s i ∧ bt s i < 256 := by
  unfold bt; split
  · omega
  · have := (s.data.toList.getD i.toNat 0).toNat_lt; omega
theorem bt_neg (s : ByteArray) (i : Int) (h : i < 0) : bt s i = 0 := by unfold bt; rw [if_pos h]
theorem bt_out (s : ByteArray) (i : Int) (h : (s.size : Int) ≤ i) : bt s i = 0 := by
  unfold bt; rw [if_neg (by omega), List.getD_eq_getElem?_getD, List.getElem?_eq_none]
  · rfl
  · have : s.data.toList.length = s.size := by simp
    omega
theorem bt_in (s : ByteArray) (k : Nat) (h : k < s.size) : bt s k = (s[k].toNat : Int) := by
  unfold bt; rw [if_neg (by omega)]
  have hl : k < s.data.toList.length := by simpa using h
  rw [show ((k : Int).toNat) = k by omega, List.getD_eq_getElem?_getD, List.getElem?_eq_getElem hl]
  rfl
/-- the word at a place -/
def wd (s : ByteArray) (i : Int) : Int := bt s i * 256 + bt s (i + 1)
theorem wd_bd (s : ByteArray) (i : Int) : 0 ≤ wd s i ∧ wd s i < 65536 := by
  have := bt_bd s i; have := bt_bd s (i + 1); unfold wd; omega
/-- the number of the n bytes at a place -/
def nm (s : ByteArray) (i : Int) : Nat → Int
  | 0 => 0
  | k + 1 => nm s i k * 256 + bt s (i + k)
theorem nm_bd (s : ByteArray) (i : Int) (k : Nat) (h : k ≤ 4) : 0 ≤ nm s i k ∧ nm s i k < 4294967296 := by
  have h1 := bt_bd s (i + (0 : Nat)); have h2 := bt_bd s (i + (1 : Nat)); have h3 := bt_bd s (i + (2 : Nat)); have h4 := bt_bd s (i + (3 : Nat))
  match k, h with
  | 0, _ => simp [nm]
  | 1, _ => simp only [nm]; omega
  | 2, _ => simp only [nm]; omega
  | 3, _ => simp only [nm]; omega
  | 4, _ => simp only [nm]; omega
theorem nm1 (s : ByteArray) (i : Int) : nm s i 1 = bt s i := by simp [nm]
theorem nm2 (s : ByteArray) (i : Int) : nm s i 2 = wd s i := by simp [nm, wd]
theorem nm4 (s : ByteArray) (i : Int) : nm s i 4 = wd s i * 65536 + wd s (i + 2) := by
  simp only [nm, wd]
  rw [show i + 2 + 1 = i + ((3 : Nat) : Int) by omega, show i + 2 = i + ((2 : Nat) : Int) by omega, show i + 1 = i + ((1 : Nat) : Int) by omega, show i + ((0 : Nat) : Int) = i by omega]
  omega
/-- the sum of the first k words -/
def tot (s : ByteArray) : Nat → Int
  | 0 => 0
  | k + 1 => tot s k + wd s (2 * (k : Int))
theorem tot_bd (s : ByteArray) (k : Nat) : 0 ≤ tot s k ∧ tot s k ≤ 65535 * (k : Int) := by
  induction k with
  | zero => simp [tot]
  | succ k ih => have := wd_bd s (2 * (k : Int)); simp only [tot]; omega
/-- the sum of all words -/
def total (s : ByteArray) : Int := tot s ((s.size + 1) / 2)
theorem total_bd (s : ByteArray) : 0 ≤ total s ∧ total s ≤ 65535 * (((s.size + 1) / 2 : Nat) : Int) := tot_bd _ _
/-- Sum -/
def sumv (s : ByteArray) : Int := if s.size ≤ 65535 then ones (total s) else -1
end Go.Proofs.YtgpbajpeldjomaaGreat.Plain
namespace Go.Proofs.YtgpbajpeldjomaaGreat.Plain

/-- a text from place a up to place b, as far as it is there -/
def prt (s : ByteArray) (a b : Int) : ByteArray := s.extract a.toNat b.toNat
theorem prt_size (s : ByteArray) (a b : Int) : (prt s a b).size = min b.toNat s.size - a.toNat := by simp [prt]
theorem prt_le (s : ByteArray) (a b : Int) : (prt s a b).size ≤ s.size := by rw [prt_size]; omega
theorem prt_empty (s : ByteArray) (a b : Int) (h : b ≤ a) : prt s a b = ByteArray.empty := by
  unfold prt; rw [ByteArray.extract_eq_empty_iff]; omega
theorem prt_clip (s : ByteArray) (a b : Int) (h : (s.size : Int) ≤ b) : prt s a b = prt s a s.size := by
  apply ByteArray.ext_getElem
  · simp only [prt_size]; omega
  · intro i h1 h2; simp [prt, ByteArray.getElem_extract]
/-- a word as two bytes -/
def w2 (v : Int) : ByteArray := strOfNums [v / 256, v % 256]
theorem w2_size (v : Int) : (w2 v).size = 2 := strOfNums_size _
/-- a text with t at place i -/
def put (s : ByteArray) (i : Int) (t : ByteArray) : ByteArray := prt s 0 i ++ t ++ prt s (i + (t.size : Int)) s.size
theorem put_size (s : ByteArray) (i : Int) (t : ByteArray) (h0 : 0 ≤ i) (h1 : i + (t.size : Int) ≤ s.size) : (put s i t).size = s.size := by
  simp only [put, ByteArray.size_append, prt_size]; omega
def blk (s : ByteArray) (i : Int) : ByteArray := put s i (w2 0)
theorem blk_size (s : ByteArray) (i : Int) (h0 : 0 ≤ i) (h1 : i + 2 ≤ s.size) : (blk s i).size = s.size := put_size s i _ h0 (by rw [w2_size]; omega)
theorem put_append (a s : ByteArray) (i : Int) (t : ByteArray) (h0 : 0 ≤ i) : put (a ++ s) (a.size + i) t = a ++ put s i t := by
  unfold put prt
  rw [ByteArray.extract_append, ByteArray.extract_append]
  have e1 : a.extract (0 : Int).toNat ((a.size : Int) + i).toNat = a := by
    apply ByteArray.ext_getElem
    · simp; omega
    · intro j h1 h2; simp [ByteArray.getElem_extract]
  have e2 : a.extract ((a.size : Int) + i + (t.size : Int)).toNat (((a ++ s).size : Nat) : Int).toNat = ByteArray.empty := by
    rw [ByteArray.extract_eq_empty_iff]; omega
  rw [e1, e2]
  rw [show (0 : Int).toNat - a.size = (0 : Int).toNat by omega, show ((a.size : Int) + i).toNat - a.size = i.toNat by omega,
    show ((a.size : Int) + i + (t.size : Int)).toNat - a.size = (i + (t.size : Int)).toNat by omega,
    show (((a ++ s).size : Nat) : Int).toNat - a.size = ((s.size : Nat) : Int).toNat by rw [ByteArray.size_append]; omega]
  simp [ByteArray.append_assoc]
/-- a number as n bytes -/
def tx (v : Int) : Nat → ByteArray
  | 0 => ByteArray.empty
  | n + 1 => tx (v / 256) n ++ strOfNums [v % 256]
theorem tx_size (v : Int) (n : Nat) : (tx v n).size = n := by
  induction n generalizing v with
  | zero => rfl
  | succ n ih => simp [tx, ih, strOfNums_size]
theorem tx2 (v : Int) (h0 : 0 ≤ v) (h1 : v < 65536) : tx v 2 = w2 v := by
  apply ByteArray.ext
  simp [tx, w2, strOfNums, ByteArray.data_append]
  congr 2
  omega
end Go.Proofs.YtgpbajpeldjomaaGreat.Plain
namespace Go.Proofs.YtgpbajpeldjomaaGreat.Plain

def inB (n lo hi : Int) : Bool := decide (lo ≤ n ∧ n ≤ hi)
theorem inB_t {n lo hi : Int} (h : inB n lo hi = true) : lo ≤ n ∧ n ≤ hi := by simpa [inB] using h
theorem inB_f {n lo hi : Int} (h : inB n lo hi = false) : n < lo ∨ (lo ≤ n ∧ hi < n) := by simp [inB] at h; omega
def usB (a : Int) : Bool := decide (0 ≤ a ∧ 1 ≤ a / 16777216 ∧ a / 16777216 ≤ 223 ∧ ¬ a / 16777216 = 127)
theorem usB_t {a : Int} (h : usB a = true) : 0 ≤ a ∧ ((1 ≤ a / 16777216 ∧ a / 16777216 ≤ 126) ∨ (127 < a / 16777216 ∧ 128 ≤ a / 16777216 ∧ a / 16777216 ≤ 223)) := by simp [usB] at h; omega
theorem usB_f {a : Int} (h : usB a = false) : a < 0 ∨ (0 ≤ a ∧ a / 16777216 < 1) ∨ (0 ≤ a ∧ a / 16777216 = 127) ∨ (0 ≤ a ∧ 223 < a / 16777216) := by simp [usB] at h; omega
def neB (a b : Int) : Bool := a != b
theorem neB_t {a b : Int} (h : neB a b = true) : (a != b) = true := h
theorem neB_f {a b : Int} (h : neB a b = false) : (a != b) = false := h
def leB (a b : Int) : Bool := decide (a ≤ b)
theorem leB_t {a b : Int} (h : leB a b = true) : a ≤ b := by simpa [leB] using h
theorem leB_f {a b : Int} (h : leB a b = false) : b < a := by simp [leB] at h; omega

def endsB (a0 a1 : Int) : Bool := usB a0 && (usB a1 && neB a0 a1)
def portsB (lo hi : Int) : Bool := leB 1 lo && (leB hi 65535 && leB lo hi)
def mtusB (i o : Int) : Bool := inB i 100 65535 && inB o 100 65535
def idlesB (u t q : Int) : Bool := inB u 1 100000 && (inB t 1 100000 && inB q 1 100000)
def tailB (b r : Int) : Bool := inB b 0 100 && inB r 0 100
def validB (a0 a1 a2 a3 a4 a5 a6 a7 a8 a9 a10 a11 : Int) : Bool := endsB a0 a1 && (portsB a2 a3 && inB a4 1 64) && mtusB a5 a6 && idlesB a7 a8 a9 && tailB a10 a11
end Go.Proofs.YtgpbajpeldjomaaGreat.Plain
namespace Go.Proofs.YtgpbajpeldjomaaGreat.Plain

def hdv (s : ByteArray) : Int := bt s 0 % 16 * 4
theorem hdv_bd (s : ByteArray) : 0 ≤ hdv s ∧ hdv s ≤ 60 := by unfold hdv; omega
def ver (s : ByteArray) : Int := bt s 0 / 16
def lg (s : ByteArray) (i : Int) : Int := wd s i * 65536 + wd s (i + 2)
theorem lg_bd (s : ByteArray) (i : Int) : 0 ≤ lg s i ∧ lg s i < 4294967296 := by have := wd_bd s i; have := wd_bd s (i + 2); unfold lg; omega
structure Fits (s : ByteArray) : Prop where
  n20 : 20 ≤ s.size
  n64 : s.size ≤ 65535
  v4 : ver s = 4
  h20 : 20 ≤ hdv s
  ht : hdv s ≤ wd s 2
  tn : wd s 2 ≤ (s.size : Int)
def fitsB (s : ByteArray) : Bool := decide (20 ≤ s.size ∧ s.size ≤ 65535 ∧ ver s = 4 ∧ 20 ≤ hdv s ∧ hdv s ≤ wd s 2 ∧ wd s 2 ≤ (s.size : Int))
theorem fits_of {s : ByteArray} (h : fitsB s = true) : Fits s := by
  simp only [fitsB, decide_eq_true_eq] at h
  exact ⟨h.1, h.2.1, h.2.2.1, h.2.2.2.1, h.2.2.2.2.1, h.2.2.2.2.2⟩
def bdy (s : ByteArray) : ByteArray := prt s (hdv s) (wd s 2)
theorem bdy_size {s : ByteArray} (h : Fits s) : ((bdy s).size : Int) = wd s 2 - hdv s := by
  have := hdv_bd s; have := h.ht; have := h.tn
  unfold bdy; rw [prt_size]; omega
theorem bdy_bt0 {s : ByteArray} (h : Fits s) (h8 : 8 ≤ (bdy s).size) : bt (bdy s) 0 = bt s (hdv s) := by
  have hz := bdy_size h
  have h1 := hdv_bd s
  have h2 := h.tn
  have e := bt_in (bdy s) 0 (by omega)
  have e2 := bt_in s (hdv s).toNat (by omega)
  rw [show ((0 : Nat) : Int) = 0 by rfl] at e
  rw [show (((hdv s).toNat : Nat) : Int) = hdv s by omega] at e2
  rw [e, e2]
  simp [bdy, prt, ByteArray.getElem_extract]
def hsv (s : ByteArray) : Int := sumv (blk (prt s 0 (hdv s)) 10)
def partB (s : ByteArray) : Bool := wd s 6 % 16384 != 0
/-- what is wrong with a header -/
def hdrv (s : ByteArray) : Int :=
  if fitsB s then if wd s 10 != hsv s then 4 else if partB s then 5 else if usB (lg s 12) && usB (lg s 16) then 0 else 6 else 3

/-- what the checksums of UDP and TCP cover ahead of the body -/
def ahd (s : ByteArray) (p l : Int) : ByteArray := prt s 12 20 ++ w2 p ++ w2 l
theorem ahd_size {s : ByteArray} (h : 20 ≤ s.size) (p l : Int) : (ahd s p l).size = 12 := by
  simp only [ahd, ByteArray.size_append, w2_size, prt_size]; omega
/-- the checksum of a body of UDP or TCP: of the bytes c, its field at place i -/
def cks (s c : ByteArray) (p i : Int) : Int := ones (total (ahd s p c.size ++ blk c i))
theorem cks_eq {s c : ByteArray} (p i : Int) (h : 20 ≤ s.size) (h0 : 0 ≤ i) (h1 : i + 2 ≤ c.size) (hc : c.size ≤ 65515) :
    sumv (blk (ahd s p c.size ++ c) (12 + i)) = cks s c p i := by
  have e : blk (ahd s p c.size ++ c) (12 + i) = ahd s p c.size ++ blk c i := by
    have := put_append (ahd s p c.size) c i (w2 0) h0
    rw [ahd_size h] at this
    exact this
  rw [e]
  unfold sumv cks
  rw [if_pos (by rw [ByteArray.size_append, ahd_size h, blk_size c i h0 h1]; omega)]
def udpv (s c : ByteArray) : Int := if cks s c 17 6 = 0 then 65535 else cks s c 17 6

def reqB (t : Int) : Bool := t == 8 || t == 13
def repB (t : Int) : Bool := t == 0 || t == 14
def errB (t : Int) : Bool := t == 3 || (t == 11 || t == 12)

/-- what is wrong with a quote: n its length, v its version, d its header's length, x the word at 6, p the protocol, t the byte behind the header -/
def qcase (n : Nat) (v d x p t : Int) : Int :=
  if 20 ≤ n ∧ v = 4 ∧ 20 ≤ d ∧ d + 8 ≤ (n : Int) then if x % 8192 != 0 then 5 else if p == 17 || p == 6 then 0 else if p == 1 then if reqB t || repB t then 0 else 7 else 7 else 3
def quotev (q : ByteArray) : Int := qcase q.size (ver q) (hdv q) (wd q 6) (bt q 9) (bt q (hdv q))
/-- what is wrong with a body of ICMP: n its length, c its checksum, k what it must be, t its type, d its code, q what is wrong with its quote -/
def icase (n : Nat) (c k t d q : Int) : Int :=
  if n < 8 then 3 else if c != k then 4 else if errB t then q else if d != 0 || !(reqB t || repB t) then 7 else if (t == 13 || t == 14) && decide (n < 20) then 3 else 0
def icv (b : ByteArray) : Int := icase b.size (wd b 2) (sumv (blk b 2)) (bt b 0) (bt b 1) (quotev (prt b 8 b.size))
/-- what is wrong with a body of UDP: n its length, l its own, c its checksum, k what it must be -/
def ucase (n : Nat) (l c k : Int) : Int :=
  if n < 8 then 3 else if l < 8 ∨ (n : Int) < l then 3 else if c != 0 && c != k then 4 else 0
def udc (s : ByteArray) : Int := ucase (bdy s).size (wd (bdy s) 4) (wd (bdy s) 6) (udpv s (prt (bdy s) 0 (wd (bdy s) 4)))
/-- what is wrong with a body of TCP: n its length, h its header's, c its checksum, k what it must be -/
def tcase (n : Nat) (h c k : Int) : Int :=
  if n < 20 then 3 else if h < 20 ∨ (n : Int) < h then 3 else if c != k then 4 else 0
def tcc (s : ByteArray) : Int := tcase (bdy s).size (bt (bdy s) 12 / 16 * 4) (wd (bdy s) 16) (cks s (bdy s) 6 16)
/-- what is wrong with a frame -/
def chk (s : ByteArray) : Int :=
  if hdrv s = 0 then if bt s 9 = 17 then udc s else if bt s 9 = 6 then tcc s else if bt s 9 = 1 then icv (bdy s) else 7 else hdrv s
end Go.Proofs.YtgpbajpeldjomaaGreat.Plain
