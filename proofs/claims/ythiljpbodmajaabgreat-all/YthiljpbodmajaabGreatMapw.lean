/-
  CONTRACTS: package mappings: a mapping by value: knows, takes, used, isBefore.
-/
import Derived.Test.YthiljpbodmajaabGreatTabm
import Derived.Test.YthiljpbodmajaabGreatCfgw
import Derived.BigQuiet
import Derived.Deep.QuietTactic
namespace Go.Proofs.YthiljpbodmajaabGreat
open Go.RowKit Plain
set_option linter.unusedVariables false

/-- a mapping as a value -/
def mpv (m : Mp) : Value := .agg #[.int .i64 m.pr, .int .i64 m.ea, .int .i64 m.ep, .int .i64 m.ex, .int .i64 m.le, .int .i64 m.q0, .int .i64 m.r0, .int .i64 m.q1, .int .i64 m.r1, .int .i64 m.q2, .int .i64 m.r2, .int .i64 m.q3, .int .i64 m.r3, .int .i64 m.kn]

theorem isBefore_any (m x : Mp) (w : World) :
    Calls Tryz.prog 231 #[mpv m, mpv x] w fun e w' => e = .returned (.bool (m.before x)) ∧ Below w.heap.size w w' := by
  unfold mpv
  cases h : (m.pr != x.pr)
  · have e : m.before x = decide (m.ex < x.ex) := by simp [Mp.before, h]
    have E : Hid _ := e
    clear e
    go_enter Tryz.func231, Tryz.ntmps231
    go_wp2
    go_ret
    exact ⟨ret_bool (by rw [E.out]), ((Below.refl _ _).alloc (Nat.le_refl _) _).alloc (by simp) _⟩
  · have e : m.before x = decide (m.pr < x.pr) := by simp [Mp.before, h]
    have E : Hid _ := e
    clear e
    go_enter Tryz.func231, Tryz.ntmps231
    go_wp2
    go_ret
    exact ⟨ret_bool (by rw [E.out]), ((Below.refl _ _).alloc (Nat.le_refl _) _).alloc (by simp) _⟩

def pkn (m : Mp) (a p : Int) : Nat → Bool
  | 0 => decide (0 < m.kn) && (m.q0 == a && m.r0 == p)
  | 1 => decide (1 < m.kn) && (m.q1 == a && m.r1 == p)
  | 2 => decide (2 < m.kn) && (m.q2 == a && m.r2 == p)
  | 3 => decide (3 < m.kn) && (m.q3 == a && m.r3 == p)
  | _ => false
theorem knows_eq (m : Mp) (a p : Int) : m.knows a p = (pkn m a p 0 || pkn m a p 1 || pkn m a p 2 || pkn m a p 3) := rfl
theorem knows_no {m : Mp} {a p : Int} (h : ∀ j : Nat, j < 4 → pkn m a p j = false) : m.knows a p = false := by
  rw [knows_eq, h 0 (by omega), h 1 (by omega), h 2 (by omega), h 3 (by omega)]; rfl
theorem knows_yes {m : Mp} {a p : Int} (j : Nat) (hj : j < 4) (h : pkn m a p j = true) : m.knows a p = true := by
  rw [knows_eq]
  match j, hj with
  | 0, _ => rw [h]; simp
  | 1, _ => rw [h]; simp
  | 2, _ => rw [h]; simp
  | 3, _ => rw [h]; simp
theorem pkn_next {m : Mp} {a p : Int} {k : Nat} (h : ∀ j : Nat, j < k → pkn m a p j = false) (hk : pkn m a p k = false) : ∀ j : Nat, j < k + 1 → pkn m a p j = false := fun j hj => by
  by_cases e : j = k
  · subst e; exact hk
  · exact h j (by omega)

set_option maxHeartbeats 4000000 in
theorem knows_any (m : Mp) (a p : Int) (w : World) :
    Calls Tryz.prog 216 #[mpv m, .agg #[.int .i64 a, .int .i64 p]] w fun e w' => e = .returned (.bool (m.knows a p)) ∧ Below w.heap.size w w' := by
  have hbel : ∀ n, Hid (Below w.heap.size w (((w.alloc (.cells #[.int .i64 m.pr, .int .i64 m.ea, .int .i64 m.ep, .int .i64 m.ex, .int .i64 m.le, .int .i64 m.q0, .int .i64 m.r0, .int .i64 m.q1, .int .i64 m.r1, .int .i64 m.q2, .int .i64 m.r2, .int .i64 m.q3, .int .i64 m.r3, .int .i64 m.kn] 116)).alloc (.cells #[.int .i64 a, .int .i64 p] 113)).drewN n)) := fun n => by
    have := ((Below.refl w.heap.size w).alloc (Nat.le_refl _) (.cells #[.int .i64 m.pr, .int .i64 m.ea, .int .i64 m.ep, .int .i64 m.ex, .int .i64 m.le, .int .i64 m.q0, .int .i64 m.r0, .int .i64 m.q1, .int .i64 m.r1, .int .i64 m.q2, .int .i64 m.r2, .int .i64 m.q3, .int .i64 m.r3, .int .i64 m.kn] 116)).alloc (by simp) (.cells #[.int .i64 a, .int .i64 p] 113)
    exact ⟨this.os, this.tape, this.output, this.size, this.block⟩
  unfold mpv
  generalize hr : m.knows a p = r
  have HR : Hid _ := hr
  clear hr
  have q2 := end_guard
  go_enter Tryz.func216, Tryz.ntmps216
  go_wp2
  go_loopw [6] (fun i wr => ∃ k nq : Nat, k ≤ 4 ∧ i = .int .i64 (k : Int) ∧ wr = ((w.alloc (.cells #[.int .i64 m.pr, .int .i64 m.ea, .int .i64 m.ep, .int .i64 m.ex, .int .i64 m.le, .int .i64 m.q0, .int .i64 m.r0, .int .i64 m.q1, .int .i64 m.r1, .int .i64 m.q2, .int .i64 m.r2, .int .i64 m.q3, .int .i64 m.r3, .int .i64 m.kn] 116)).alloc (.cells #[.int .i64 a, .int .i64 p] 113)).drewN nq ∧ Hid (∀ j : Nat, j < k → pkn m a p j = false)) (fun i _ => 4 - (intOf i).toNat)
  case atStart => exact ⟨0, 0, by omega, rfl, rfl, fun j h => by omega⟩
  case round =>
    obtain ⟨k, nq, hk, rfl, rfl, hf⟩ := hrel
    have key : k = 0 ∨ k = 1 ∨ k = 2 ∨ k = 3 ∨ k = 4 := by omega
    rcases key with rfl | rfl | rfl | rfl | rfl
    · by_cases g : (0 : Int) < m.kn
      · cases e : (m.q0 == a && m.r0 == p)
        · have hh : Hid (pkn m a p 0 = false) := by show _ = _; simp [pkn, e]
          have q1 := fun wx => end_eq wx m.q0 m.r0 a p
          rw [e] at q1
          go_wp2
          go_quiet (fail)
          go_wp2
          exact ⟨⟨0 + 1, _, by omega, by go_num, rfl, pkn_next hf.out hh.out⟩, by simp [intOf]⟩
        · have hh : Hid (pkn m a p 0 = true) := by show _ = _; simp [pkn, e, g]
          have q1 := fun wx => end_eq wx m.q0 m.r0 a p
          rw [e] at q1
          go_wp2
          go_quiet (fail)
          go_wp2
          go_ret
          exact ⟨ret_bool (by rw [← HR.out, knows_yes 0 (by omega) hh.out]), below_drewN (hbel _).out _⟩
      · have g' : decide ((0 : Int) < m.kn) = false := by simpa using g
        have hh : Hid (pkn m a p 0 = false) := by show _ = _; simp only [pkn, g', Bool.false_and]
        clear g
        go_wp2
        go_quiet (fail)
        go_wp2
        exact ⟨⟨0 + 1, _, by omega, by go_num, rfl, pkn_next hf.out hh.out⟩, by simp [intOf]⟩
    · by_cases g : (1 : Int) < m.kn
      · cases e : (m.q1 == a && m.r1 == p)
        · have hh : Hid (pkn m a p 1 = false) := by show _ = _; simp [pkn, e]
          have q1 := fun wx => end_eq wx m.q1 m.r1 a p
          rw [e] at q1
          go_wp2
          go_quiet (fail)
          go_wp2
          exact ⟨⟨1 + 1, _, by omega, by go_num, rfl, pkn_next hf.out hh.out⟩, by simp [intOf]⟩
        · have hh : Hid (pkn m a p 1 = true) := by show _ = _; simp [pkn, e, g]
          have q1 := fun wx => end_eq wx m.q1 m.r1 a p
          rw [e] at q1
          go_wp2
          go_quiet (fail)
          go_wp2
          go_ret
          exact ⟨ret_bool (by rw [← HR.out, knows_yes 1 (by omega) hh.out]), below_drewN (hbel _).out _⟩
      · have g' : decide ((1 : Int) < m.kn) = false := by simpa using g
        have hh : Hid (pkn m a p 1 = false) := by show _ = _; simp only [pkn, g', Bool.false_and]
        clear g
        go_wp2
        go_quiet (fail)
        go_wp2
        exact ⟨⟨1 + 1, _, by omega, by go_num, rfl, pkn_next hf.out hh.out⟩, by simp [intOf]⟩
    · by_cases g : (2 : Int) < m.kn
      · cases e : (m.q2 == a && m.r2 == p)
        · have hh : Hid (pkn m a p 2 = false) := by show _ = _; simp [pkn, e]
          have q1 := fun wx => end_eq wx m.q2 m.r2 a p
          rw [e] at q1
          go_wp2
          go_quiet (fail)
          go_wp2
          exact ⟨⟨2 + 1, _, by omega, by go_num, rfl, pkn_next hf.out hh.out⟩, by simp [intOf]⟩
        · have hh : Hid (pkn m a p 2 = true) := by show _ = _; simp [pkn, e, g]
          have q1 := fun wx => end_eq wx m.q2 m.r2 a p
          rw [e] at q1
          go_wp2
          go_quiet (fail)
          go_wp2
          go_ret
          exact ⟨ret_bool (by rw [← HR.out, knows_yes 2 (by omega) hh.out]), below_drewN (hbel _).out _⟩
      · have g' : decide ((2 : Int) < m.kn) = false := by simpa using g
        have hh : Hid (pkn m a p 2 = false) := by show _ = _; simp only [pkn, g', Bool.false_and]
        clear g
        go_wp2
        go_quiet (fail)
        go_wp2
        exact ⟨⟨2 + 1, _, by omega, by go_num, rfl, pkn_next hf.out hh.out⟩, by simp [intOf]⟩
    · by_cases g : (3 : Int) < m.kn
      · cases e : (m.q3 == a && m.r3 == p)
        · have hh : Hid (pkn m a p 3 = false) := by show _ = _; simp [pkn, e]
          have q1 := fun wx => end_eq wx m.q3 m.r3 a p
          rw [e] at q1
          go_wp2
          go_quiet (fail)
          go_wp2
          exact ⟨⟨3 + 1, _, by omega, by go_num, rfl, pkn_next hf.out hh.out⟩, by simp [intOf]⟩
        · have hh : Hid (pkn m a p 3 = true) := by show _ = _; simp [pkn, e, g]
          have q1 := fun wx => end_eq wx m.q3 m.r3 a p
          rw [e] at q1
          go_wp2
          go_quiet (fail)
          go_wp2
          go_ret
          exact ⟨ret_bool (by rw [← HR.out, knows_yes 3 (by omega) hh.out]), below_drewN (hbel _).out _⟩
      · have g' : decide ((3 : Int) < m.kn) = false := by simpa using g
        have hh : Hid (pkn m a p 3 = false) := by show _ = _; simp only [pkn, g', Bool.false_and]
        clear g
        go_wp2
        go_quiet (fail)
        go_wp2
        exact ⟨⟨3 + 1, _, by omega, by go_num, rfl, pkn_next hf.out hh.out⟩, by simp [intOf]⟩
    · go_wp2
      go_ret
      exact ⟨ret_bool (by rw [← HR.out, knows_no hf.out]), (hbel _).out⟩

theorem takes_any (m : Mp) (a p : Int) (w : World) :
    Calls Tryz.prog 185 #[mpv m, .agg #[.int .i64 a, .int .i64 p]] w fun e w' => e = .returned (.bool (m.takes a p)) ∧ Below w.heap.size w w' := by
  have cK : RetB 216 #[mpv m, .agg #[.int .i64 a, .int .i64 p]] (.bool (m.knows a p)) := fun w => knows_any m a p w
  have ht : m.takes a p = (decide (m.kn < 4) || m.knows a p) := rfl
  unfold mpv at cK ⊢
  generalize m.knows a p = k at cK ht
  by_cases h : m.kn < 4
  · have hr : m.takes a p = true := by simp [ht, h]
    have HR : Hid _ := hr
    clear hr ht cK
    go_enter Tryz.func185, Tryz.ntmps185
    go_wp2
    go_ret
    exact ⟨ret_bool (by rw [HR.out]), ((Below.refl _ _).alloc (Nat.le_refl _) _).alloc (by simp) _⟩
  · have hr : m.takes a p = k := by simp [ht, h]
    have HR : Hid _ := hr
    clear hr ht
    go_enter Tryz.func185, Tryz.ntmps185
    go_wp2_with fail
    refine Calls.mono (cK.at _) ?_; rintro e w1 ⟨rfl, hb⟩
    go_wp2
    go_ret
    exact ⟨ret_bool (by rw [HR.out]), (((Below.refl _ _).alloc (Nat.le_refl _) _).alloc (by simp) _).trans (hb.mono (by simp; omega))⟩
end Go.Proofs.YthiljpbodmajaabGreat
namespace Go.Proofs.YthiljpbodmajaabGreat
open Go.RowKit Plain
set_option linter.unusedVariables false

set_option maxHeartbeats 4000000 in
theorem used_full (m : Mp) (a p i : Int) (w : World) (h : 4 ≤ m.kn) :
    Calls Tryz.prog 186 #[mpv m, .agg #[.int .i64 a, .int .i64 p], .int .i64 i] w fun e w' => e = .returned (mpv { m with le := i }) ∧ Below w.heap.size w w' := by
  unfold mpv
  go_enter Tryz.func186, Tryz.ntmps186
  go_wp2
  exact bodyPost_ret (v := mpv { m with le := i }) (by simp [results, Tryz.results186, go_sem, mpv]) rfl ⟨rfl, (((Below.refl _ _).alloc (Nat.le_refl _) _).alloc (by simp) _).alloc (by simp; omega) _⟩
set_option maxHeartbeats 4000000 in
theorem used_known (m : Mp) (a p i : Int) (w : World) (h : m.kn < 4) (cK : ∀ z, RetB 216 #[mpv { m with le := z }, .agg #[.int .i64 a, .int .i64 p]] (.bool true)) :
    Calls Tryz.prog 186 #[mpv m, .agg #[.int .i64 a, .int .i64 p], .int .i64 i] w fun e w' => e = .returned (mpv { m with le := i }) ∧ Below w.heap.size w w' := by
  have cI := cK i
  clear cK
  unfold mpv at cI ⊢
  go_enter Tryz.func186, Tryz.ntmps186
  go_wp2_with fail
  refine Calls.mono (cI.at _) ?_; rintro e w1 ⟨rfl, hb⟩
  obtain ⟨hc1, hf1⟩ := bcell hb
  have hz : w.heap.size + 2 < w1.heap.size := by have := hb.size; simp at this; omega
  have hz1 : w.heap.size + 1 < w1.heap.size := by omega
  have hz0 : w.heap.size < w1.heap.size := by omega
  go_wp2
  refine bodyPost_ret (v := mpv { m with le := i }) (by simp [results, Tryz.results186, go_sem, mpv, hc1]) rfl ⟨rfl, ?_⟩
  repeat refine Below.setCell ?_ (by simp <;> omega) _
  exact ((((Below.refl _ _).alloc (Nat.le_refl _) _).alloc (by simp) _).alloc (by simp; omega) _).trans (hb.mono (by simp; omega))

end Go.Proofs.YthiljpbodmajaabGreat
