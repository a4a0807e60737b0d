/-
  CONTRACTS: natbox.addressesHold, portsHold, limitsHold, configHolds.
-/
import Derived.Test.YtgpbajpeldjomaaGreatCfgw
import Derived.Below
import Derived.Deep.DeepCutAuto
namespace Go.Proofs.YtgpbajpeldjomaaGreat
open Go.RowKit Plain


set_option maxHeartbeats 1000000 in
theorem addresses_any (a0 a1 a2 a3 a4 a5 a6 a7 a8 a9 a10 a11 : Int) (w : World) :
    Calls Tryz.prog 96 #[.agg #[.int .i64 a0, .int .i64 a1, .int .i64 a2, .int .i64 a3, .int .i64 a4, .int .i64 a5, .int .i64 a6, .int .i64 a7, .int .i64 a8, .int .i64 a9, .int .i64 a10, .int .i64 a11]] w fun e w' => e = .returned (.bool (endsB a0 a1)) ∧ Below w.heap.size w w' := by
  unfold endsB
  cases h0 : usB a0
  · go_enter Tryz.func96, Tryz.ntmps96
    go_wp2_with fail
    refine (usable_any _ _).mono ?_; rintro e w' ⟨rfl, rfl⟩
    go_wp2
    go_ret
    exact ⟨rfl, (Below.refl _ _).alloc (Nat.le_refl _) _⟩
  · cases h1 : usB a1
    · go_enter Tryz.func96, Tryz.ntmps96
      go_wp2_with fail
      refine (usable_any _ _).mono ?_; rintro e w' ⟨rfl, rfl⟩
      go_wp2_with fail
      refine (usable_any _ _).mono ?_; rintro e w' ⟨rfl, rfl⟩
      go_wp2
      go_ret
      exact ⟨rfl, (Below.refl _ _).alloc (Nat.le_refl _) _⟩
    · go_enter Tryz.func96, Tryz.ntmps96
      go_wp2_with fail
      refine (usable_any _ _).mono ?_; rintro e w' ⟨rfl, rfl⟩
      go_wp2_with fail
      refine (usable_any _ _).mono ?_; rintro e w' ⟨rfl, rfl⟩
      go_wp2
      go_ret
      exact ⟨by simp [neB], (Below.refl _ _).alloc (Nat.le_refl _) _⟩

def limB (a4 a5 a6 a7 a8 a9 a10 a11 : Int) : Bool := inB a4 1 64 && (inB a5 100 65535 && (inB a6 100 65535 && (inB a7 1 100000 && (inB a8 1 100000 && (inB a9 1 100000 && (inB a10 0 100 && inB a11 0 100))))))
set_option maxHeartbeats 4000000 in
theorem limits_any (a0 a1 a2 a3 a4 a5 a6 a7 a8 a9 a10 a11 : Int) (w : World) :
    Calls Tryz.prog 98 #[.agg #[.int .i64 a0, .int .i64 a1, .int .i64 a2, .int .i64 a3, .int .i64 a4, .int .i64 a5, .int .i64 a6, .int .i64 a7, .int .i64 a8, .int .i64 a9, .int .i64 a10, .int .i64 a11]] w fun e w' => e = .returned (.bool (limB a4 a5 a6 a7 a8 a9 a10 a11)) ∧ Below w.heap.size w w' := by
  unfold limB
  cases h0 : inB a4 1 64
  · go_enter Tryz.func98, Tryz.ntmps98
    go_wp2_with (go_at_call 150; refine (within_any _ _ _ _).mono ?_; rintro e w' ⟨rfl, rfl⟩)
    go_ret
    exact ⟨by simp [*], (Below.refl _ _).alloc (Nat.le_refl _) _⟩
  · cases h1 : inB a5 100 65535
    · go_enter Tryz.func98, Tryz.ntmps98
      go_wp2_with (go_at_call 150; refine (within_any _ _ _ _).mono ?_; rintro e w' ⟨rfl, rfl⟩)
      go_ret
      exact ⟨by simp [*], (Below.refl _ _).alloc (Nat.le_refl _) _⟩
    · cases h2 : inB a6 100 65535
      · go_enter Tryz.func98, Tryz.ntmps98
        go_wp2_with (go_at_call 150; refine (within_any _ _ _ _).mono ?_; rintro e w' ⟨rfl, rfl⟩)
        go_ret
        exact ⟨by simp [*], (Below.refl _ _).alloc (Nat.le_refl _) _⟩
      · cases h3 : inB a7 1 100000
        · go_enter Tryz.func98, Tryz.ntmps98
          go_wp2_with (go_at_call 150; refine (within_any _ _ _ _).mono ?_; rintro e w' ⟨rfl, rfl⟩)
          go_ret
          exact ⟨by simp [*], (Below.refl _ _).alloc (Nat.le_refl _) _⟩
        · cases h4 : inB a8 1 100000
          · go_enter Tryz.func98, Tryz.ntmps98
            go_wp2_with (go_at_call 150; refine (within_any _ _ _ _).mono ?_; rintro e w' ⟨rfl, rfl⟩)
            go_ret
            exact ⟨by simp [*], (Below.refl _ _).alloc (Nat.le_refl _) _⟩
          · cases h5 : inB a9 1 100000
            · go_enter Tryz.func98, Tryz.ntmps98
              go_wp2_with (go_at_call 150; refine (within_any _ _ _ _).mono ?_; rintro e w' ⟨rfl, rfl⟩)
              go_ret
              exact ⟨by simp [*], (Below.refl _ _).alloc (Nat.le_refl _) _⟩
            · cases h6 : inB a10 0 100
              · go_enter Tryz.func98, Tryz.ntmps98
                go_wp2_with (go_at_call 150; refine (within_any _ _ _ _).mono ?_; rintro e w' ⟨rfl, rfl⟩)
                go_ret
                exact ⟨by simp [*], (Below.refl _ _).alloc (Nat.le_refl _) _⟩
              · cases h7 : inB a11 0 100
                · go_enter Tryz.func98, Tryz.ntmps98
                  go_wp2_with (go_at_call 150; refine (within_any _ _ _ _).mono ?_; rintro e w' ⟨rfl, rfl⟩)
                  go_ret
                  exact ⟨by simp [*], (Below.refl _ _).alloc (Nat.le_refl _) _⟩
                · go_enter Tryz.func98, Tryz.ntmps98
                  go_wp2_with (go_at_call 150; refine (within_any _ _ _ _).mono ?_; rintro e w' ⟨rfl, rfl⟩)
                  go_ret
                  exact ⟨by simp [*], (Below.refl _ _).alloc (Nat.le_refl _) _⟩

set_option maxHeartbeats 1000000 in
theorem ports_any (a0 a1 a2 a3 a4 a5 a6 a7 a8 a9 a10 a11 : Int) (w : World) :
    Calls Tryz.prog 97 #[.agg #[.int .i64 a0, .int .i64 a1, .int .i64 a2, .int .i64 a3, .int .i64 a4, .int .i64 a5, .int .i64 a6, .int .i64 a7, .int .i64 a8, .int .i64 a9, .int .i64 a10, .int .i64 a11]] w fun e w' => e = .returned (.bool (portsB a2 a3)) ∧ Below w.heap.size w w' := by
  unfold portsB
  cases h0 : leB 1 a2
  · have h0' := leB_f h0
    go_enter Tryz.func97, Tryz.ntmps97
    go_wp2
    go_ret
    exact ⟨rfl, (Below.refl _ _).alloc (Nat.le_refl _) _⟩
  · have h0' := leB_t h0
    cases h1 : leB a3 65535
    · have h1' := leB_f h1
      go_enter Tryz.func97, Tryz.ntmps97
      go_wp2
      go_ret
      exact ⟨rfl, (Below.refl _ _).alloc (Nat.le_refl _) _⟩
    · have h1' := leB_t h1
      go_enter Tryz.func97, Tryz.ntmps97
      go_wp2
      go_ret
      exact ⟨by simp [leB], (Below.refl _ _).alloc (Nat.le_refl _) _⟩

def confB (a0 a1 a2 a3 a4 a5 a6 a7 a8 a9 a10 a11 : Int) : Bool := endsB a0 a1 && (portsB a2 a3 && limB a4 a5 a6 a7 a8 a9 a10 a11)
set_option maxHeartbeats 1000000 in
theorem conf_any (a0 a1 a2 a3 a4 a5 a6 a7 a8 a9 a10 a11 : Int) (w : World) :
    Calls Tryz.prog 51 #[.agg #[.int .i64 a0, .int .i64 a1, .int .i64 a2, .int .i64 a3, .int .i64 a4, .int .i64 a5, .int .i64 a6, .int .i64 a7, .int .i64 a8, .int .i64 a9, .int .i64 a10, .int .i64 a11]] w fun e w' => e = .returned (.bool (confB a0 a1 a2 a3 a4 a5 a6 a7 a8 a9 a10 a11)) ∧ Below w.heap.size w w' := by
  unfold confB
  cases h0 : endsB a0 a1
  · go_enter Tryz.func51, Tryz.ntmps51
    go_wp2_with fail
    refine (addresses_any a0 a1 a2 a3 a4 a5 a6 a7 a8 a9 a10 a11 _).mono ?_; rintro e w1 ⟨rfl, hb1⟩
    go_wp2
    go_ret
    exact ⟨rfl, ((Below.refl _ _).alloc (Nat.le_refl _) _).trans (hb1.mono (by simp))⟩
  · cases h1 : portsB a2 a3
    · go_enter Tryz.func51, Tryz.ntmps51
      go_wp2_with fail
      refine (addresses_any a0 a1 a2 a3 a4 a5 a6 a7 a8 a9 a10 a11 _).mono ?_; rintro e w1 ⟨rfl, hb1⟩
      obtain ⟨hc1, hf1⟩ := bcell hb1
      have hz1 : w.heap.size < w1.heap.size := by have := hb1.size; simp at this; omega
      go_wp2_with fail
      refine (ports_any a0 a1 a2 a3 a4 a5 a6 a7 a8 a9 a10 a11 _).mono ?_; rintro e w2 ⟨rfl, hb2⟩
      go_wp2
      go_ret
      exact ⟨rfl, (((Below.refl _ _).alloc (Nat.le_refl _) _).trans (hb1.mono (by simp))).trans (hb2.mono (by omega))⟩
    · go_enter Tryz.func51, Tryz.ntmps51
      go_wp2_with fail
      refine (addresses_any a0 a1 a2 a3 a4 a5 a6 a7 a8 a9 a10 a11 _).mono ?_; rintro e w1 ⟨rfl, hb1⟩
      obtain ⟨hc1, hf1⟩ := bcell hb1
      have hz1 : w.heap.size < w1.heap.size := by have := hb1.size; simp at this; omega
      go_wp2_with fail
      refine (ports_any a0 a1 a2 a3 a4 a5 a6 a7 a8 a9 a10 a11 _).mono ?_; rintro e w2 ⟨rfl, hb2⟩
      obtain ⟨hc2, hf2⟩ := bcell hb2
      have hz2 : w.heap.size < w2.heap.size := by have := hb2.size; omega
      go_wp2_with fail
      refine (limits_any a0 a1 a2 a3 a4 a5 a6 a7 a8 a9 a10 a11 _).mono ?_; rintro e w3 ⟨rfl, hb3⟩
      go_wp2
      go_ret
      exact ⟨rfl, ((((Below.refl _ _).alloc (Nat.le_refl _) _).trans (hb1.mono (by simp))).trans (hb2.mono (by omega))).trans (hb3.mono (by omega))⟩
end Go.Proofs.YtgpbajpeldjomaaGreat
namespace Go.Proofs.YtgpbajpeldjomaaGreat
open Go.RowKit Plain

set_option maxHeartbeats 2000000 in
set_option maxRecDepth 20000 in
theorem valid_any (a0 a1 a2 a3 a4 a5 a6 a7 a8 a9 a10 a11 : Int) (w : World) (g0 : a0 < 9223372036854775808) (g1 : a1 < 9223372036854775808) :
    Calls Tryz.prog 99 #[.agg #[.int .i64 a0, .int .i64 a1, .int .i64 a2, .int .i64 a3, .int .i64 a4, .int .i64 a5, .int .i64 a6, .int .i64 a7, .int .i64 a8, .int .i64 a9, .int .i64 a10, .int .i64 a11]] w fun e w' => e = .returned (.bool (validB a0 a1 a2 a3 a4 a5 a6 a7 a8 a9 a10 a11)) ∧ Below w.heap.size w w' := by
  go_enter Tryz.func99, Tryz.ntmps99
  go_upto_region 1 with fail
  go_cut [3] (fun t wx => t = .bool (endsB a0 a1) ∧ wx = w.alloc (.cells #[.int .i64 a0, .int .i64 a1, .int .i64 a2, .int .i64 a3, .int .i64 a4, .int .i64 a5, .int .i64 a6, .int .i64 a7, .int .i64 a8, .int .i64 a9, .int .i64 a10, .int .i64 a11] 73))
  case first =>
    cases h0 : usB a0
    · go_wp2_with (go_at_call 151; refine (refUsable_any _ _ (by omega)).mono ?_; rintro e w' ⟨rfl, rfl⟩)
      go_meet
      exact ⟨by simp [endsB, h0], rfl⟩
    · cases h1 : usB a1
      · go_wp2_with (go_at_call 151; refine (refUsable_any _ _ (by omega)).mono ?_; rintro e w' ⟨rfl, rfl⟩)
        go_meet
        exact ⟨by simp [endsB, h0, h1], rfl⟩
      · go_wp2_with (go_at_call 151; refine (refUsable_any _ _ (by omega)).mono ?_; rintro e w' ⟨rfl, rfl⟩)
        go_meet
        exact ⟨by simp [endsB, h0, h1, neB], rfl⟩
  case rest =>
    obtain ⟨rfl, rfl⟩ := hcut
    generalize hE : endsB a0 a1 = b1
    have HE : Hid _ := hE
    clear hE
    go_upto_region 2 with fail
    go_cut [4] (fun t wx => t = .bool (portsB a2 a3 && inB a4 1 64) ∧ wx = w.alloc (.cells #[.int .i64 a0, .int .i64 a1, .int .i64 a2, .int .i64 a3, .int .i64 a4, .int .i64 a5, .int .i64 a6, .int .i64 a7, .int .i64 a8, .int .i64 a9, .int .i64 a10, .int .i64 a11] 73))
    case first =>
      cases h0 : leB 1 a2
      · have h0' := leB_f h0
        go_wp2
        go_meet
        exact ⟨by simp [portsB, h0], rfl⟩
      · have h0' := leB_t h0
        cases h1 : leB a3 65535
        · have h1' := leB_f h1
          go_wp2
          go_meet
          exact ⟨by simp [portsB, h0, h1], rfl⟩
        · have h1' := leB_t h1
          cases h2 : leB a2 a3
          · have h2' := leB_f h2
            go_wp2
            go_meet
            exact ⟨by simp [portsB, h0, h1, h2], rfl⟩
          · have h2' := leB_t h2
            go_wp2_with (go_at_call 152; refine (between_any _ _ _ _).mono ?_; rintro e w' ⟨rfl, rfl⟩)
            go_meet
            exact ⟨by simp [portsB, h0, h1, h2], rfl⟩
    case rest =>
      obtain ⟨rfl, rfl⟩ := hcut
      generalize hP : (portsB a2 a3 && inB a4 1 64) = b2
      have HP : Hid _ := hP
      clear hP
      go_upto_region 3 with fail
      go_cut [5] (fun t wx => t = .bool (mtusB a5 a6) ∧ wx = w.alloc (.cells #[.int .i64 a0, .int .i64 a1, .int .i64 a2, .int .i64 a3, .int .i64 a4, .int .i64 a5, .int .i64 a6, .int .i64 a7, .int .i64 a8, .int .i64 a9, .int .i64 a10, .int .i64 a11] 73))
      case first =>
        cases h0 : inB a5 100 65535
        · go_wp2_with (go_at_call 152; refine (between_any _ _ _ _).mono ?_; rintro e w' ⟨rfl, rfl⟩)
          go_meet
          exact ⟨by simp [mtusB, h0], rfl⟩
        · go_wp2_with (go_at_call 152; refine (between_any _ _ _ _).mono ?_; rintro e w' ⟨rfl, rfl⟩)
          go_meet
          exact ⟨by simp [mtusB, h0], rfl⟩
      case rest =>
        obtain ⟨rfl, rfl⟩ := hcut
        generalize hM : mtusB a5 a6 = b3
        have HM : Hid _ := hM
        clear hM
        go_upto_region 4 with fail
        go_cut [6] (fun t wx => t = .bool (idlesB a7 a8 a9) ∧ wx = w.alloc (.cells #[.int .i64 a0, .int .i64 a1, .int .i64 a2, .int .i64 a3, .int .i64 a4, .int .i64 a5, .int .i64 a6, .int .i64 a7, .int .i64 a8, .int .i64 a9, .int .i64 a10, .int .i64 a11] 73))
        case first =>
          cases h0 : inB a7 1 100000
          · go_wp2_with (go_at_call 152; refine (between_any _ _ _ _).mono ?_; rintro e w' ⟨rfl, rfl⟩)
            go_meet
            exact ⟨by simp [idlesB, h0], rfl⟩
          · cases h1 : inB a8 1 100000
            · go_wp2_with (go_at_call 152; refine (between_any _ _ _ _).mono ?_; rintro e w' ⟨rfl, rfl⟩)
              go_meet
              exact ⟨by simp [idlesB, h0, h1], rfl⟩
            · go_wp2_with (go_at_call 152; refine (between_any _ _ _ _).mono ?_; rintro e w' ⟨rfl, rfl⟩)
              go_meet
              exact ⟨by simp [idlesB, h0, h1], rfl⟩
        case rest =>
          obtain ⟨rfl, rfl⟩ := hcut
          generalize hI : idlesB a7 a8 a9 = b4
          have HI : Hid _ := hI
          clear hI
          have fin : ∀ b : Bool, b = (b1 && b2 && b3 && b4 && tailB a10 a11) → b = validB a0 a1 a2 a3 a4 a5 a6 a7 a8 a9 a10 a11 := by
            intro b hb
            rw [hb, ← HE.out, ← HP.out, ← HM.out, ← HI.out]; rfl
          have FIN : Hid _ := fin
          clear fin HE HP HM HI
          cases b1
          · go_wp2
            go_ret
            exact ⟨ret_bool (FIN.out _ (by simp)), (Below.refl _ _).alloc (Nat.le_refl _) _⟩
          · cases b2
            · go_wp2
              go_ret
              exact ⟨ret_bool (FIN.out _ (by simp)), (Below.refl _ _).alloc (Nat.le_refl _) _⟩
            · cases b3
              · go_wp2
                go_ret
                exact ⟨ret_bool (FIN.out _ (by simp)), (Below.refl _ _).alloc (Nat.le_refl _) _⟩
              · cases b4
                · go_wp2
                  go_ret
                  exact ⟨ret_bool (FIN.out _ (by simp)), (Below.refl _ _).alloc (Nat.le_refl _) _⟩
                · cases h0 : inB a10 0 100
                  · go_wp2_with (go_at_call 152; refine (between_any _ _ _ _).mono ?_; rintro e w' ⟨rfl, rfl⟩)
                    go_ret
                    exact ⟨ret_bool (FIN.out _ (by simp [tailB, h0])), (Below.refl _ _).alloc (Nat.le_refl _) _⟩
                  · go_wp2_with (go_at_call 152; refine (between_any _ _ _ _).mono ?_; rintro e w' ⟨rfl, rfl⟩)
                    go_ret
                    exact ⟨ret_bool (FIN.out _ (by simp [tailB, h0])), (Below.refl _ _).alloc (Nat.le_refl _) _⟩
end Go.Proofs.YtgpbajpeldjomaaGreat
