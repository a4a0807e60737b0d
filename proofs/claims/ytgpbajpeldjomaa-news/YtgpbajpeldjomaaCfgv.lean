/-
  CONTRACT: natboxref.Valid.
-/
import Derived.Test.YtgpbajpeldjomaaCfga
import Derived.Deep.DeepCutAuto
namespace Go.Proofs.Ytgpbajpeldjomaa
open Go.RowKit Plain

set_option maxHeartbeats 2000000 in
set_option maxRecDepth 20000 in
theorem valid_any (a0 a1 a2 a3 a4 a5 a6 a7 a8 a9 a10 a11 : Int) (w : World) (g0 : a0 < 9223372036854775808) (g1 : a1 < 9223372036854775808) :
    Calls Try.prog 48 #[.agg #[.int .i64 a0, .int .i64 a1, .int .i64 a2, .int .i64 a3, .int .i64 a4, .int .i64 a5, .int .i64 a6, .int .i64 a7, .int .i64 a8, .int .i64 a9, .int .i64 a10, .int .i64 a11]] w fun e w' => e = .returned (.bool (validB a0 a1 a2 a3 a4 a5 a6 a7 a8 a9 a10 a11)) ∧ Below w.heap.size w w' := by
  go_enter Try.func48, Try.ntmps48
  go_upto_region 1 with fail
  go_cut [3] (fun t wx => t = .bool (endsB a0 a1) ∧ wx = w.alloc (.cells #[.int .i64 a0, .int .i64 a1, .int .i64 a2, .int .i64 a3, .int .i64 a4, .int .i64 a5, .int .i64 a6, .int .i64 a7, .int .i64 a8, .int .i64 a9, .int .i64 a10, .int .i64 a11] 30))
  case first =>
    cases h0 : usB a0
    · go_wp2_with (go_at_call 42; refine (refUsable_any _ _ (by omega)).mono ?_; rintro e w' ⟨rfl, rfl⟩)
      go_meet
      exact ⟨by simp [endsB, h0], rfl⟩
    · cases h1 : usB a1
      · go_wp2_with (go_at_call 42; refine (refUsable_any _ _ (by omega)).mono ?_; rintro e w' ⟨rfl, rfl⟩)
        go_meet
        exact ⟨by simp [endsB, h0, h1], rfl⟩
      · go_wp2_with (go_at_call 42; refine (refUsable_any _ _ (by omega)).mono ?_; rintro e w' ⟨rfl, rfl⟩)
        go_meet
        exact ⟨by simp [endsB, h0, h1, neB], rfl⟩
  case rest =>
    obtain ⟨rfl, rfl⟩ := hcut
    generalize hE : endsB a0 a1 = b1
    have HE : Hid _ := hE
    clear hE
    go_upto_region 2 with fail
    go_cut [4] (fun t wx => t = .bool (portsB a2 a3 && inB a4 1 64) ∧ wx = w.alloc (.cells #[.int .i64 a0, .int .i64 a1, .int .i64 a2, .int .i64 a3, .int .i64 a4, .int .i64 a5, .int .i64 a6, .int .i64 a7, .int .i64 a8, .int .i64 a9, .int .i64 a10, .int .i64 a11] 30))
    case first =>
      cases h0 : leB 1 a2
      · have h0' := leB_f h0
        go_wp2
        go_meet
        exact ⟨by simp [portsB, h0], rfl⟩
      · have h0' := leB_t h0
        cases h1 : leB a3 65535
        · have h1' := leB_f h1
          go_wp2
          go_meet
          exact ⟨by simp [portsB, h0, h1], rfl⟩
        · have h1' := leB_t h1
          cases h2 : leB a2 a3
          · have h2' := leB_f h2
            go_wp2
            go_meet
            exact ⟨by simp [portsB, h0, h1, h2], rfl⟩
          · have h2' := leB_t h2
            go_wp2_with (go_at_call 68; refine (between_any _ _ _ _).mono ?_; rintro e w' ⟨rfl, rfl⟩)
            go_meet
            exact ⟨by simp [portsB, h0, h1, h2], rfl⟩
    case rest =>
      obtain ⟨rfl, rfl⟩ := hcut
      generalize hP : (portsB a2 a3 && inB a4 1 64) = b2
      have HP : Hid _ := hP
      clear hP
      go_upto_region 3 with fail
      go_cut [5] (fun t wx => t = .bool (mtusB a5 a6) ∧ wx = w.alloc (.cells #[.int .i64 a0, .int .i64 a1, .int .i64 a2, .int .i64 a3, .int .i64 a4, .int .i64 a5, .int .i64 a6, .int .i64 a7, .int .i64 a8, .int .i64 a9, .int .i64 a10, .int .i64 a11] 30))
      case first =>
        cases h0 : inB a5 100 65535
        · go_wp2_with (go_at_call 68; refine (between_any _ _ _ _).mono ?_; rintro e w' ⟨rfl, rfl⟩)
          go_meet
          exact ⟨by simp [mtusB, h0], rfl⟩
        · go_wp2_with (go_at_call 68; refine (between_any _ _ _ _).mono ?_; rintro e w' ⟨rfl, rfl⟩)
          go_meet
          exact ⟨by simp [mtusB, h0], rfl⟩
      case rest =>
        obtain ⟨rfl, rfl⟩ := hcut
        generalize hM : mtusB a5 a6 = b3
        have HM : Hid _ := hM
        clear hM
        go_upto_region 4 with fail
        go_cut [6] (fun t wx => t = .bool (idlesB a7 a8 a9) ∧ wx = w.alloc (.cells #[.int .i64 a0, .int .i64 a1, .int .i64 a2, .int .i64 a3, .int .i64 a4, .int .i64 a5, .int .i64 a6, .int .i64 a7, .int .i64 a8, .int .i64 a9, .int .i64 a10, .int .i64 a11] 30))
        case first =>
          cases h0 : inB a7 1 100000
          · go_wp2_with (go_at_call 68; refine (between_any _ _ _ _).mono ?_; rintro e w' ⟨rfl, rfl⟩)
            go_meet
            exact ⟨by simp [idlesB, h0], rfl⟩
          · cases h1 : inB a8 1 100000
            · go_wp2_with (go_at_call 68; refine (between_any _ _ _ _).mono ?_; rintro e w' ⟨rfl, rfl⟩)
              go_meet
              exact ⟨by simp [idlesB, h0, h1], rfl⟩
            · go_wp2_with (go_at_call 68; refine (between_any _ _ _ _).mono ?_; rintro e w' ⟨rfl, rfl⟩)
              go_meet
              exact ⟨by simp [idlesB, h0, h1], rfl⟩
        case rest =>
          obtain ⟨rfl, rfl⟩ := hcut
          generalize hI : idlesB a7 a8 a9 = b4
          have HI : Hid _ := hI
          clear hI
          have fin : ∀ b : Bool, b = (b1 && b2 && b3 && b4 && tailB a10 a11) → b = validB a0 a1 a2 a3 a4 a5 a6 a7 a8 a9 a10 a11 := by
            intro b hb
            rw [hb, ← HE.out, ← HP.out, ← HM.out, ← HI.out]; rfl
          have FIN : Hid _ := fin
          clear fin HE HP HM HI
          cases b1
          · go_wp2
            go_ret
            exact ⟨ret_bool (FIN.out _ (by simp)), (Below.refl _ _).alloc (Nat.le_refl _) _⟩
          · cases b2
            · go_wp2
              go_ret
              exact ⟨ret_bool (FIN.out _ (by simp)), (Below.refl _ _).alloc (Nat.le_refl _) _⟩
            · cases b3
              · go_wp2
                go_ret
                exact ⟨ret_bool (FIN.out _ (by simp)), (Below.refl _ _).alloc (Nat.le_refl _) _⟩
              · cases b4
                · go_wp2
                  go_ret
                  exact ⟨ret_bool (FIN.out _ (by simp)), (Below.refl _ _).alloc (Nat.le_refl _) _⟩
                · cases h0 : inB a10 0 100
                  · go_wp2_with (go_at_call 68; refine (between_any _ _ _ _).mono ?_; rintro e w' ⟨rfl, rfl⟩)
                    go_ret
                    exact ⟨ret_bool (FIN.out _ (by simp [tailB, h0])), (Below.refl _ _).alloc (Nat.le_refl _) _⟩
                  · go_wp2_with (go_at_call 68; refine (between_any _ _ _ _).mono ?_; rintro e w' ⟨rfl, rfl⟩)
                    go_ret
                    exact ⟨ret_bool (FIN.out _ (by simp [tailB, h0])), (Below.refl _ _).alloc (Nat.le_refl _) _⟩
end Go.Proofs.Ytgpbajpeldjomaa
