/-
  PLAIN MATHEMATICS: what a configuration must be.
-/
import Derived.Test.YtgpbajpeldjomaaPlain
namespace Go.Proofs.Ytgpbajpeldjomaa.Plain

def inB (n lo hi : Int) : Bool := decide (lo ≤ n ∧ n ≤ hi)
theorem inB_t {n lo hi : Int} (h : inB n lo hi = true) : lo ≤ n ∧ n ≤ hi := by simpa [inB] using h
theorem inB_f {n lo hi : Int} (h : inB n lo hi = false) : n < lo ∨ (lo ≤ n ∧ hi < n) := by simp [inB] at h; omega
def usB (a : Int) : Bool := decide (0 ≤ a ∧ 1 ≤ a / 16777216 ∧ a / 16777216 ≤ 223 ∧ ¬ a / 16777216 = 127)
theorem usB_t {a : Int} (h : usB a = true) : 0 ≤ a ∧ ((1 ≤ a / 16777216 ∧ a / 16777216 ≤ 126) ∨ (127 < a / 16777216 ∧ 128 ≤ a / 16777216 ∧ a / 16777216 ≤ 223)) := by simp [usB] at h; omega
theorem usB_f {a : Int} (h : usB a = false) : a < 0 ∨ (0 ≤ a ∧ a / 16777216 < 1) ∨ (0 ≤ a ∧ a / 16777216 = 127) ∨ (0 ≤ a ∧ 223 < a / 16777216) := by simp [usB] at h; omega
def neB (a b : Int) : Bool := a != b
theorem neB_t {a b : Int} (h : neB a b = true) : (a != b) = true := h
theorem neB_f {a b : Int} (h : neB a b = false) : (a != b) = false := h
def leB (a b : Int) : Bool := decide (a ≤ b)
theorem leB_t {a b : Int} (h : leB a b = true) : a ≤ b := by simpa [leB] using h
theorem leB_f {a b : Int} (h : leB a b = false) : b < a := by simp [leB] at h; omega

def endsB (a0 a1 : Int) : Bool := usB a0 && (usB a1 && neB a0 a1)
def portsB (lo hi : Int) : Bool := leB 1 lo && (leB hi 65535 && leB lo hi)
def mtusB (i o : Int) : Bool := inB i 100 65535 && inB o 100 65535
def idlesB (u t q : Int) : Bool := inB u 1 100000 && (inB t 1 100000 && inB q 1 100000)
def tailB (b r : Int) : Bool := inB b 0 100 && inB r 0 100
def validB (a0 a1 a2 a3 a4 a5 a6 a7 a8 a9 a10 a11 : Int) : Bool := endsB a0 a1 && (portsB a2 a3 && inB a4 1 64) && mtusB a5 a6 && idlesB a7 a8 a9 && tailB a10 a11
end Go.Proofs.Ytgpbajpeldjomaa.Plain
