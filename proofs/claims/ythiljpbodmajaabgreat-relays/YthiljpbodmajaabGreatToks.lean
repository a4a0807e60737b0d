/-
  PLAIN MATHEMATICS: tokens by refilling are the least of what all runs of ticks leave.
-/
import Derived.Test.YthiljpbodmajaabGreatPlain
namespace Go.Proofs.YthiljpbodmajaabGreat.Plain

/-- may k messages more come out at the time now? (the list: times, and whether one came out, the latest first) -/
def Qr (B R now : Int) : List (Int × Bool) → Int → Prop
  | [], _ => True
  | (t, b) :: l, k => (if b then k + 1 else k) ≤ B + R * (now - t) ∧ Qr B R now l (if b then k + 1 else k)
/-- the tokens tell it -/
def Inv (B R now : Int) (l : List (Int × Bool)) (tk : Int) : Prop := ∀ k, k ≤ tk ↔ k ≤ B ∧ Qr B R now l k
theorem inv_start (B R : Int) : Inv B R 0 [] B := fun _ => ⟨fun h => ⟨h, trivial⟩, fun h => h.1⟩
theorem inv_told {B R now tk : Int} {l : List (Int × Bool)} (h : Inv B R now l tk) (b : Bool) : Inv B R now ((now, b) :: l) (if b then tk - 1 else tk) := by
  intro k
  have e : B + R * (now - now) = B := by rw [Int.sub_self, Int.mul_zero, Int.add_zero]
  unfold Qr
  rw [e]
  cases b
  · have := h k
    simp only [Bool.false_eq_true, if_false]
    exact ⟨fun q => ⟨(this.1 q).1, (this.1 q).1, (this.1 q).2⟩, fun q => this.2 ⟨q.1, q.2.2⟩⟩
  · have := h (k + 1)
    simp only [if_true]
    constructor
    · intro q
      have := this.1 (by omega)
      exact ⟨by omega, this.1, this.2⟩
    · intro q
      have := this.2 ⟨q.2.1, q.2.2⟩
      omega
theorem qr_tick (B R now n : Int) : ∀ (l : List (Int × Bool)) (k : Int), Qr B R (now + n) l k ↔ Qr B R now l (k - R * n)
  | [], k => by simp [Qr]
  | (t, b) :: l, k => by
    have e : R * (now + n - t) = R * (now - t) + R * n := by rw [← Int.mul_add]; congr 1; omega
    unfold Qr
    rw [e]
    cases b
    · simp only [Bool.false_eq_true, if_false]
      rw [qr_tick B R now n l k]
      constructor
      · intro h; exact ⟨by omega, h.2⟩
      · intro h; exact ⟨by omega, h.2⟩
    · simp only [if_true]
      rw [qr_tick B R now n l (k + 1), show k + 1 - R * n = k - R * n + 1 by omega]
      constructor
      · intro h; exact ⟨by omega, h.2⟩
      · intro h; exact ⟨by omega, h.2⟩
theorem inv_tick {B R now tk n : Int} {l : List (Int × Bool)} (h : Inv B R now l tk) (hn : 0 ≤ R * n) : Inv B R (now + n) l (if B < tk + R * n then B else tk + R * n) := by
  intro k
  have := h (k - R * n)
  rw [qr_tick]
  constructor
  · intro q
    have q1 : k ≤ B ∧ k - R * n ≤ tk := by split at q <;> omega
    exact ⟨q1.1, (this.1 q1.2).2⟩
  · intro q
    have := this.2 ⟨by omega, q.2⟩
    split <;> omega
end Go.Proofs.YthiljpbodmajaabGreat.Plain
