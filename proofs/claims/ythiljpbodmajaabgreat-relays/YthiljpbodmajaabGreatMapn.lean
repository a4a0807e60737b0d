/-
  CONTRACTS: package mappings: used, of a peer that is new.
-/
import Derived.Test.YthiljpbodmajaabGreatMapw
namespace Go.Proofs.YthiljpbodmajaabGreat
open Go.RowKit Plain
set_option linter.unusedVariables false


set_option maxHeartbeats 4000000 in
theorem used_new0 (m : Mp) (a p i : Int) (w : World) (h : m.kn = 0) (cK : ∀ z, RetB 216 #[mpv { m with le := z }, .agg #[.int .i64 a, .int .i64 p]] (.bool false)) :
    Calls Tryz.prog 186 #[mpv m, .agg #[.int .i64 a, .int .i64 p], .int .i64 i] w fun e w' => e = .returned (mpv { m with le := i, q0 := a, r0 := p, kn := 1 }) ∧ Below w.heap.size w w' := by
  have cI := cK i
  clear cK
  unfold mpv at cI ⊢
  go_enter Tryz.func186, Tryz.ntmps186
  rw [h] at cI
  rw [h]
  go_wp2_with fail
  refine Calls.mono (cI.at _) ?_; rintro e w1 ⟨rfl, hb⟩
  have B0 : w1.heap[w.heap.size]? = some (.cells #[.int .i64 m.pr, .int .i64 m.ea, .int .i64 m.ep, .int .i64 m.ex, .int .i64 i, .int .i64 m.q0, .int .i64 m.r0, .int .i64 m.q1, .int .i64 m.r1, .int .i64 m.q2, .int .i64 m.r2, .int .i64 m.q3, .int .i64 m.r3, .int .i64 0] 116 (0, 0)) := (hb.block _ (by simp; omega)).trans (alloc3 w _ _ _).1
  have B1 : w1.heap[w.heap.size + 1]? = some (.cells #[.int .i64 a, .int .i64 p] 113 (0, 0)) := (hb.block _ (by simp)).trans (alloc3 w _ _ _).2.1
  have B2 : w1.heap[w.heap.size + 1 + 1]? = some (.cells #[.int .i64 0, .int .i64 0, .int .i64 0, .int .i64 0, .int .i64 0, .int .i64 0, .int .i64 0, .int .i64 0, .int .i64 0, .int .i64 0, .int .i64 0, .int .i64 0, .int .i64 0, .int .i64 0] 116 (0, 0)) := (hb.block _ (by simp)).trans (alloc3 w _ _ _).2.2
  obtain ⟨c0, c1, c2, c3, c4, c5, c6, c7, c8, c9, c10, c11, c12, c13⟩ := cell14 B0
  obtain ⟨d0, d1⟩ := cell2 B1
  obtain ⟨e0, e1, e2, e3, e4, e5, e6, e7, e8, e9, e10, e11, e12, e13⟩ := cell14 B2
  have f0 := nofrz B0
  have f2 := nofrz B2
  have HB : Hid _ := hb
  clear hb B0 B1 B2 cI
  go_wp2
  refine bodyPost_ret (v := mpv { m with le := i, q0 := a, r0 := p, kn := 1 }) (by simp [results, Tryz.results186, go_sem, mpv, e0, e1, e2, e3, e4, e5, e6, e7, e8, e9, e10, e11, e12, e13]) rfl ⟨rfl, ?_⟩
  repeat refine Below.setCell ?_ (by simp <;> omega) _
  exact ((((Below.refl _ _).alloc (Nat.le_refl _) _).alloc (by simp) _).alloc (by simp; omega) _).trans (HB.out.mono (by simp; omega))

set_option maxHeartbeats 4000000 in
theorem used_new1 (m : Mp) (a p i : Int) (w : World) (h : m.kn = 1) (cK : ∀ z, RetB 216 #[mpv { m with le := z }, .agg #[.int .i64 a, .int .i64 p]] (.bool false)) :
    Calls Tryz.prog 186 #[mpv m, .agg #[.int .i64 a, .int .i64 p], .int .i64 i] w fun e w' => e = .returned (mpv { m with le := i, q1 := a, r1 := p, kn := 2 }) ∧ Below w.heap.size w w' := by
  have cI := cK i
  clear cK
  unfold mpv at cI ⊢
  go_enter Tryz.func186, Tryz.ntmps186
  rw [h] at cI
  rw [h]
  go_wp2_with fail
  refine Calls.mono (cI.at _) ?_; rintro e w1 ⟨rfl, hb⟩
  have B0 : w1.heap[w.heap.size]? = some (.cells #[.int .i64 m.pr, .int .i64 m.ea, .int .i64 m.ep, .int .i64 m.ex, .int .i64 i, .int .i64 m.q0, .int .i64 m.r0, .int .i64 m.q1, .int .i64 m.r1, .int .i64 m.q2, .int .i64 m.r2, .int .i64 m.q3, .int .i64 m.r3, .int .i64 1] 116 (0, 0)) := (hb.block _ (by simp; omega)).trans (alloc3 w _ _ _).1
  have B1 : w1.heap[w.heap.size + 1]? = some (.cells #[.int .i64 a, .int .i64 p] 113 (0, 0)) := (hb.block _ (by simp)).trans (alloc3 w _ _ _).2.1
  have B2 : w1.heap[w.heap.size + 1 + 1]? = some (.cells #[.int .i64 0, .int .i64 0, .int .i64 0, .int .i64 0, .int .i64 0, .int .i64 0, .int .i64 0, .int .i64 0, .int .i64 0, .int .i64 0, .int .i64 0, .int .i64 0, .int .i64 0, .int .i64 0] 116 (0, 0)) := (hb.block _ (by simp)).trans (alloc3 w _ _ _).2.2
  obtain ⟨c0, c1, c2, c3, c4, c5, c6, c7, c8, c9, c10, c11, c12, c13⟩ := cell14 B0
  obtain ⟨d0, d1⟩ := cell2 B1
  obtain ⟨e0, e1, e2, e3, e4, e5, e6, e7, e8, e9, e10, e11, e12, e13⟩ := cell14 B2
  have f0 := nofrz B0
  have f2 := nofrz B2
  have HB : Hid _ := hb
  clear hb B0 B1 B2 cI
  go_wp2
  refine bodyPost_ret (v := mpv { m with le := i, q1 := a, r1 := p, kn := 2 }) (by simp [results, Tryz.results186, go_sem, mpv, e0, e1, e2, e3, e4, e5, e6, e7, e8, e9, e10, e11, e12, e13]) rfl ⟨rfl, ?_⟩
  repeat refine Below.setCell ?_ (by simp <;> omega) _
  exact ((((Below.refl _ _).alloc (Nat.le_refl _) _).alloc (by simp) _).alloc (by simp; omega) _).trans (HB.out.mono (by simp; omega))

set_option maxHeartbeats 4000000 in
theorem used_new2 (m : Mp) (a p i : Int) (w : World) (h : m.kn = 2) (cK : ∀ z, RetB 216 #[mpv { m with le := z }, .agg #[.int .i64 a, .int .i64 p]] (.bool false)) :
    Calls Tryz.prog 186 #[mpv m, .agg #[.int .i64 a, .int .i64 p], .int .i64 i] w fun e w' => e = .returned (mpv { m with le := i, q2 := a, r2 := p, kn := 3 }) ∧ Below w.heap.size w w' := by
  have cI := cK i
  clear cK
  unfold mpv at cI ⊢
  go_enter Tryz.func186, Tryz.ntmps186
  rw [h] at cI
  rw [h]
  go_wp2_with fail
  refine Calls.mono (cI.at _) ?_; rintro e w1 ⟨rfl, hb⟩
  have B0 : w1.heap[w.heap.size]? = some (.cells #[.int .i64 m.pr, .int .i64 m.ea, .int .i64 m.ep, .int .i64 m.ex, .int .i64 i, .int .i64 m.q0, .int .i64 m.r0, .int .i64 m.q1, .int .i64 m.r1, .int .i64 m.q2, .int .i64 m.r2, .int .i64 m.q3, .int .i64 m.r3, .int .i64 2] 116 (0, 0)) := (hb.block _ (by simp; omega)).trans (alloc3 w _ _ _).1
  have B1 : w1.heap[w.heap.size + 1]? = some (.cells #[.int .i64 a, .int .i64 p] 113 (0, 0)) := (hb.block _ (by simp)).trans (alloc3 w _ _ _).2.1
  have B2 : w1.heap[w.heap.size + 1 + 1]? = some (.cells #[.int .i64 0, .int .i64 0, .int .i64 0, .int .i64 0, .int .i64 0, .int .i64 0, .int .i64 0, .int .i64 0, .int .i64 0, .int .i64 0, .int .i64 0, .int .i64 0, .int .i64 0, .int .i64 0] 116 (0, 0)) := (hb.block _ (by simp)).trans (alloc3 w _ _ _).2.2
  obtain ⟨c0, c1, c2, c3, c4, c5, c6, c7, c8, c9, c10, c11, c12, c13⟩ := cell14 B0
  obtain ⟨d0, d1⟩ := cell2 B1
  obtain ⟨e0, e1, e2, e3, e4, e5, e6, e7, e8, e9, e10, e11, e12, e13⟩ := cell14 B2
  have f0 := nofrz B0
  have f2 := nofrz B2
  have HB : Hid _ := hb
  clear hb B0 B1 B2 cI
  go_wp2
  refine bodyPost_ret (v := mpv { m with le := i, q2 := a, r2 := p, kn := 3 }) (by simp [results, Tryz.results186, go_sem, mpv, e0, e1, e2, e3, e4, e5, e6, e7, e8, e9, e10, e11, e12, e13]) rfl ⟨rfl, ?_⟩
  repeat refine Below.setCell ?_ (by simp <;> omega) _
  exact ((((Below.refl _ _).alloc (Nat.le_refl _) _).alloc (by simp) _).alloc (by simp; omega) _).trans (HB.out.mono (by simp; omega))

set_option maxHeartbeats 4000000 in
theorem used_new3 (m : Mp) (a p i : Int) (w : World) (h : m.kn = 3) (cK : ∀ z, RetB 216 #[mpv { m with le := z }, .agg #[.int .i64 a, .int .i64 p]] (.bool false)) :
    Calls Tryz.prog 186 #[mpv m, .agg #[.int .i64 a, .int .i64 p], .int .i64 i] w fun e w' => e = .returned (mpv { m with le := i, q3 := a, r3 := p, kn := 4 }) ∧ Below w.heap.size w w' := by
  have cI := cK i
  clear cK
  unfold mpv at cI ⊢
  go_enter Tryz.func186, Tryz.ntmps186
  rw [h] at cI
  rw [h]
  go_wp2_with fail
  refine Calls.mono (cI.at _) ?_; rintro e w1 ⟨rfl, hb⟩
  have B0 : w1.heap[w.heap.size]? = some (.cells #[.int .i64 m.pr, .int .i64 m.ea, .int .i64 m.ep, .int .i64 m.ex, .int .i64 i, .int .i64 m.q0, .int .i64 m.r0, .int .i64 m.q1, .int .i64 m.r1, .int .i64 m.q2, .int .i64 m.r2, .int .i64 m.q3, .int .i64 m.r3, .int .i64 3] 116 (0, 0)) := (hb.block _ (by simp; omega)).trans (alloc3 w _ _ _).1
  have B1 : w1.heap[w.heap.size + 1]? = some (.cells #[.int .i64 a, .int .i64 p] 113 (0, 0)) := (hb.block _ (by simp)).trans (alloc3 w _ _ _).2.1
  have B2 : w1.heap[w.heap.size + 1 + 1]? = some (.cells #[.int .i64 0, .int .i64 0, .int .i64 0, .int .i64 0, .int .i64 0, .int .i64 0, .int .i64 0, .int .i64 0, .int .i64 0, .int .i64 0, .int .i64 0, .int .i64 0, .int .i64 0, .int .i64 0] 116 (0, 0)) := (hb.block _ (by simp)).trans (alloc3 w _ _ _).2.2
  obtain ⟨c0, c1, c2, c3, c4, c5, c6, c7, c8, c9, c10, c11, c12, c13⟩ := cell14 B0
  obtain ⟨d0, d1⟩ := cell2 B1
  obtain ⟨e0, e1, e2, e3, e4, e5, e6, e7, e8, e9, e10, e11, e12, e13⟩ := cell14 B2
  have f0 := nofrz B0
  have f2 := nofrz B2
  have HB : Hid _ := hb
  clear hb B0 B1 B2 cI
  go_wp2
  refine bodyPost_ret (v := mpv { m with le := i, q3 := a, r3 := p, kn := 4 }) (by simp [results, Tryz.results186, go_sem, mpv, e0, e1, e2, e3, e4, e5, e6, e7, e8, e9, e10, e11, e12, e13]) rfl ⟨rfl, ?_⟩
  repeat refine Below.setCell ?_ (by simp <;> omega) _
  exact ((((Below.refl _ _).alloc (Nat.le_refl _) _).alloc (by simp) _).alloc (by simp; omega) _).trans (HB.out.mono (by simp; omega))

theorem used_any (m : Mp) (a p i : Int) (w : World) (h0 : 0 ≤ m.kn) (h4 : m.kn ≤ 4) :
    Calls Tryz.prog 186 #[mpv m, .agg #[.int .i64 a, .int .i64 p], .int .i64 i] w fun e w' => e = .returned (mpv (m.used a p i)) ∧ Below w.heap.size w w' := by
  by_cases h : m.kn < 4
  · cases hk : m.knows a p
    · have cK : ∀ z, RetB 216 #[mpv { m with le := z }, .agg #[.int .i64 a, .int .i64 p]] (.bool false) := fun z w => by
        have := knows_any { m with le := z } a p w
        rw [show Mp.knows { m with le := z } a p = m.knows a p from rfl, hk] at this
        exact this
      have e : m.kn = 0 ∨ m.kn = 1 ∨ m.kn = 2 ∨ m.kn = 3 := by omega
      rcases e with e | e | e | e
      · have := used_new0 m a p i w e cK
        rw [show m.used a p i = { m with le := i, q0 := a, r0 := p, kn := 1 } by unfold Mp.used; rw [if_pos ⟨h, hk⟩, if_pos e]]
        exact this
      · have := used_new1 m a p i w e cK
        rw [show m.used a p i = { m with le := i, q1 := a, r1 := p, kn := 2 } by unfold Mp.used; rw [if_pos ⟨h, hk⟩, if_neg (by omega), if_pos e]]
        exact this
      · have := used_new2 m a p i w e cK
        rw [show m.used a p i = { m with le := i, q2 := a, r2 := p, kn := 3 } by unfold Mp.used; rw [if_pos ⟨h, hk⟩, if_neg (by omega), if_neg (by omega), if_pos e]]
        exact this
      · have := used_new3 m a p i w e cK
        rw [show m.used a p i = { m with le := i, q3 := a, r3 := p, kn := 4 } by unfold Mp.used; rw [if_pos ⟨h, hk⟩, if_neg (by omega), if_neg (by omega), if_neg (by omega)]]
        exact this
    · have cK : ∀ z, RetB 216 #[mpv { m with le := z }, .agg #[.int .i64 a, .int .i64 p]] (.bool true) := fun z w => by
        have := knows_any { m with le := z } a p w
        rw [show Mp.knows { m with le := z } a p = m.knows a p from rfl, hk] at this
        exact this
      have := used_known m a p i w h cK
      rw [show m.used a p i = { m with le := i } by unfold Mp.used; rw [if_neg (by rw [hk]; simp)]]
      exact this
  · have := used_full m a p i w (by omega)
    rw [show m.used a p i = { m with le := i } by unfold Mp.used; rw [if_neg (by omega)]]
    exact this
end Go.Proofs.YthiljpbodmajaabGreat
