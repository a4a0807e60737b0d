/-
  PLAIN MATHEMATICS: frames.
-/
import Derived.Test.YtgpbajpeldjomaaTexts
import Derived.Test.YtgpbajpeldjomaaCfgp
namespace Go.Proofs.Ytgpbajpeldjomaa.Plain

def hdv (s : ByteArray) : Int := bt s 0 % 16 * 4
theorem hdv_bd (s : ByteArray) : 0 ≤ hdv s ∧ hdv s ≤ 60 := by unfold hdv; omega
def ver (s : ByteArray) : Int := bt s 0 / 16
def lg (s : ByteArray) (i : Int) : Int := wd s i * 65536 + wd s (i + 2)
theorem lg_bd (s : ByteArray) (i : Int) : 0 ≤ lg s i ∧ lg s i < 4294967296 := by have := wd_bd s i; have := wd_bd s (i + 2); unfold lg; omega
structure Fits (s : ByteArray) : Prop where
  n20 : 20 ≤ s.size
  n64 : s.size ≤ 65535
  v4 : ver s = 4
  h20 : 20 ≤ hdv s
  ht : hdv s ≤ wd s 2
  tn : wd s 2 ≤ (s.size : Int)
def fitsB (s : ByteArray) : Bool := decide (20 ≤ s.size ∧ s.size ≤ 65535 ∧ ver s = 4 ∧ 20 ≤ hdv s ∧ hdv s ≤ wd s 2 ∧ wd s 2 ≤ (s.size : Int))
theorem fits_of {s : ByteArray} (h : fitsB s = true) : Fits s := by
  simp only [fitsB, decide_eq_true_eq] at h
  exact ⟨h.1, h.2.1, h.2.2.1, h.2.2.2.1, h.2.2.2.2.1, h.2.2.2.2.2⟩
def bdy (s : ByteArray) : ByteArray := prt s (hdv s) (wd s 2)
theorem bdy_size {s : ByteArray} (h : Fits s) : ((bdy s).size : Int) = wd s 2 - hdv s := by
  have := hdv_bd s; have := h.ht; have := h.tn
  unfold bdy; rw [prt_size]; omega
theorem bdy_bt0 {s : ByteArray} (h : Fits s) (h8 : 8 ≤ (bdy s).size) : bt (bdy s) 0 = bt s (hdv s) := by
  have hz := bdy_size h
  have h1 := hdv_bd s
  have h2 := h.tn
  have e := bt_in (bdy s) 0 (by omega)
  have e2 := bt_in s (hdv s).toNat (by omega)
  rw [show ((0 : Nat) : Int) = 0 by rfl] at e
  rw [show (((hdv s).toNat : Nat) : Int) = hdv s by omega] at e2
  rw [e, e2]
  simp [bdy, prt, ByteArray.getElem_extract]
def hsv (s : ByteArray) : Int := sumv (blk (prt s 0 (hdv s)) 10)
def partB (s : ByteArray) : Bool := wd s 6 % 16384 != 0
/-- what is wrong with a header -/
def hdrv (s : ByteArray) : Int :=
  if fitsB s then if wd s 10 != hsv s then 4 else if partB s then 5 else if usB (lg s 12) && usB (lg s 16) then 0 else 6 else 3

/-- what the checksums of UDP and TCP cover ahead of the body -/
def ahd (s : ByteArray) (p l : Int) : ByteArray := prt s 12 20 ++ w2 p ++ w2 l
theorem ahd_size {s : ByteArray} (h : 20 ≤ s.size) (p l : Int) : (ahd s p l).size = 12 := by
  simp only [ahd, ByteArray.size_append, w2_size, prt_size]; omega
/-- the checksum of a body of UDP or TCP: of the bytes c, its field at place i -/
def cks (s c : ByteArray) (p i : Int) : Int := ones (total (ahd s p c.size ++ blk c i))
theorem cks_eq {s c : ByteArray} (p i : Int) (h : 20 ≤ s.size) (h0 : 0 ≤ i) (h1 : i + 2 ≤ c.size) (hc : c.size ≤ 65515) :
    sumv (blk (ahd s p c.size ++ c) (12 + i)) = cks s c p i := by
  have e : blk (ahd s p c.size ++ c) (12 + i) = ahd s p c.size ++ blk c i := by
    have := put_append (ahd s p c.size) c i (w2 0) h0
    rw [ahd_size h] at this
    exact this
  rw [e]
  unfold sumv cks
  rw [if_pos (by rw [ByteArray.size_append, ahd_size h, blk_size c i h0 h1]; omega)]
def udpv (s c : ByteArray) : Int := if cks s c 17 6 = 0 then 65535 else cks s c 17 6

def reqB (t : Int) : Bool := t == 8 || t == 13
def repB (t : Int) : Bool := t == 0 || t == 14
def errB (t : Int) : Bool := t == 3 || (t == 11 || t == 12)

/-- what is wrong with a quote: n its length, v its version, d its header's length, x the word at 6, p the protocol, t the byte behind the header -/
def qcase (n : Nat) (v d x p t : Int) : Int :=
  if 20 ≤ n ∧ v = 4 ∧ 20 ≤ d ∧ d + 8 ≤ (n : Int) then if x % 8192 != 0 then 5 else if p == 17 || p == 6 then 0 else if p == 1 then if reqB t || repB t then 0 else 7 else 7 else 3
def quotev (q : ByteArray) : Int := qcase q.size (ver q) (hdv q) (wd q 6) (bt q 9) (bt q (hdv q))
/-- what is wrong with a body of ICMP: n its length, c its checksum, k what it must be, t its type, d its code, q what is wrong with its quote -/
def icase (n : Nat) (c k t d q : Int) : Int :=
  if n < 8 then 3 else if c != k then 4 else if errB t then q else if d != 0 || !(reqB t || repB t) then 7 else if (t == 13 || t == 14) && decide (n < 20) then 3 else 0
def icv (b : ByteArray) : Int := icase b.size (wd b 2) (sumv (blk b 2)) (bt b 0) (bt b 1) (quotev (prt b 8 b.size))
/-- what is wrong with a body of UDP: n its length, l its own, c its checksum, k what it must be -/
def ucase (n : Nat) (l c k : Int) : Int :=
  if n < 8 then 3 else if l < 8 ∨ (n : Int) < l then 3 else if c != 0 && c != k then 4 else 0
def udc (s : ByteArray) : Int := ucase (bdy s).size (wd (bdy s) 4) (wd (bdy s) 6) (udpv s (prt (bdy s) 0 (wd (bdy s) 4)))
/-- what is wrong with a body of TCP: n its length, h its header's, c its checksum, k what it must be -/
def tcase (n : Nat) (h c k : Int) : Int :=
  if n < 20 then 3 else if h < 20 ∨ (n : Int) < h then 3 else if c != k then 4 else 0
def tcc (s : ByteArray) : Int := tcase (bdy s).size (bt (bdy s) 12 / 16 * 4) (wd (bdy s) 16) (cks s (bdy s) 6 16)
/-- what is wrong with a frame -/
def chk (s : ByteArray) : Int :=
  if hdrv s = 0 then if bt s 9 = 17 then udc s else if bt s 9 = 6 then tcc s else if bt s 9 = 1 then icv (bdy s) else 7 else hdrv s
end Go.Proofs.Ytgpbajpeldjomaa.Plain
