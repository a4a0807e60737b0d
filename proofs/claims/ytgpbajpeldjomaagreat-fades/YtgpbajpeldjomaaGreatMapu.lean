/-
  CONTRACTS: package mappings: used.
-/
import Derived.Test.YtgpbajpeldjomaaGreatMapw
namespace Go.Proofs.YtgpbajpeldjomaaGreat
open Go.RowKit Plain
set_option linter.unusedVariables false

set_option maxHeartbeats 4000000 in
theorem used_full (m : Mp) (a p i : Int) (w : World) (h : 4 ≤ m.kn) :
    Calls Tryz.prog 148 #[mpv m, .agg #[.int .i64 a, .int .i64 p], .int .i64 i] w fun e w' => e = .returned (mpv { m with le := i }) ∧ Below w.heap.size w w' := by
  unfold mpv
  go_enter Tryz.func148, Tryz.ntmps148
  go_wp2
  exact bodyPost_ret (v := mpv { m with le := i }) (by simp [results, Tryz.results148, go_sem, mpv]) rfl ⟨rfl, (((Below.refl _ _).alloc (Nat.le_refl _) _).alloc (by simp) _).alloc (by simp; omega) _⟩
set_option maxHeartbeats 4000000 in
theorem used_known (m : Mp) (a p i : Int) (w : World) (h : m.kn < 4) (cK : ∀ z, RetB 196 #[mpv { m with le := z }, .agg #[.int .i64 a, .int .i64 p]] (.bool true)) :
    Calls Tryz.prog 148 #[mpv m, .agg #[.int .i64 a, .int .i64 p], .int .i64 i] w fun e w' => e = .returned (mpv { m with le := i }) ∧ Below w.heap.size w w' := by
  have cI := cK i
  clear cK
  unfold mpv at cI ⊢
  go_enter Tryz.func148, Tryz.ntmps148
  go_wp2_with fail
  refine Calls.mono (cI.at _) ?_; rintro e w1 ⟨rfl, hb⟩
  obtain ⟨hc1, hf1⟩ := bcell hb
  have hz : w.heap.size + 2 < w1.heap.size := by have := hb.size; simp at this; omega
  have hz1 : w.heap.size + 1 < w1.heap.size := by omega
  have hz0 : w.heap.size < w1.heap.size := by omega
  go_wp2
  refine bodyPost_ret (v := mpv { m with le := i }) (by simp [results, Tryz.results148, go_sem, mpv, hc1]) rfl ⟨rfl, ?_⟩
  repeat refine Below.setCell ?_ (by simp <;> omega) _
  exact ((((Below.refl _ _).alloc (Nat.le_refl _) _).alloc (by simp) _).alloc (by simp; omega) _).trans (hb.mono (by simp; omega))

end Go.Proofs.YtgpbajpeldjomaaGreat
