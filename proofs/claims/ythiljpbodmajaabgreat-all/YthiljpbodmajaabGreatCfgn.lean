/-
  A struct by value whose fields are all of type int, one cell each: opened.
-/
import Derived.ProofKit
import Derived.WalkKit
import Derived.OpenShut
import Derived.Test.YthiljpbodmajaabGreatCfgw
import Derived.Below
import Derived.Deep.DeepCutAuto
import Derived.RegionTactic
import Derived.Deep.RegionWith
import Derived.Deep.RegionHeld
namespace Go.Proofs.YthiljpbodmajaabGreat
open Go.ChangeShapes Go.WideShapes Go.RowKit

end Go.Proofs.YthiljpbodmajaabGreat
namespace Go.Proofs.YthiljpbodmajaabGreat
open Go.ChangeShapes Go.WideShapes Go.RowKit

end Go.Proofs.YthiljpbodmajaabGreat
namespace Go.Proofs.YthiljpbodmajaabGreat
open Go.RowKit Plain


set_option maxHeartbeats 1000000 in
theorem addresses_any (a0 a1 a2 a3 a4 a5 a6 a7 a8 a9 a10 a11 : Int) (w : World) :
    Calls Tryz.prog 69 #[.agg #[.int .i64 a0, .int .i64 a1, .int .i64 a2, .int .i64 a3, .int .i64 a4, .int .i64 a5, .int .i64 a6, .int .i64 a7, .int .i64 a8, .int .i64 a9, .int .i64 a10, .int .i64 a11]] w fun e w' => e = .returned (.bool (endsB a0 a1)) ∧ Below w.heap.size w w' := by
  unfold endsB
  cases h0 : usB a0
  · go_enter Tryz.func69, Tryz.ntmps69
    go_wp2_with fail
    refine (usable_any _ _).mono ?_; rintro e w' ⟨rfl, rfl⟩
    go_wp2
    go_ret
    exact ⟨rfl, (Below.refl _ _).alloc (Nat.le_refl _) _⟩
  · cases h1 : usB a1
    · go_enter Tryz.func69, Tryz.ntmps69
      go_wp2_with fail
      refine (usable_any _ _).mono ?_; rintro e w' ⟨rfl, rfl⟩
      go_wp2_with fail
      refine (usable_any _ _).mono ?_; rintro e w' ⟨rfl, rfl⟩
      go_wp2
      go_ret
      exact ⟨rfl, (Below.refl _ _).alloc (Nat.le_refl _) _⟩
    · go_enter Tryz.func69, Tryz.ntmps69
      go_wp2_with fail
      refine (usable_any _ _).mono ?_; rintro e w' ⟨rfl, rfl⟩
      go_wp2_with fail
      refine (usable_any _ _).mono ?_; rintro e w' ⟨rfl, rfl⟩
      go_wp2
      go_ret
      exact ⟨by simp [neB], (Below.refl _ _).alloc (Nat.le_refl _) _⟩

def limB (a4 a5 a6 a7 a8 a9 a10 a11 : Int) : Bool := inB a4 1 64 && (inB a5 100 65535 && (inB a6 100 65535 && (inB a7 1 100000 && (inB a8 1 100000 && (inB a9 1 100000 && (inB a10 0 100 && inB a11 0 100))))))
set_option maxHeartbeats 4000000 in
theorem limits_any (a0 a1 a2 a3 a4 a5 a6 a7 a8 a9 a10 a11 : Int) (w : World) :
    Calls Tryz.prog 71 #[.agg #[.int .i64 a0, .int .i64 a1, .int .i64 a2, .int .i64 a3, .int .i64 a4, .int .i64 a5, .int .i64 a6, .int .i64 a7, .int .i64 a8, .int .i64 a9, .int .i64 a10, .int .i64 a11]] w fun e w' => e = .returned (.bool (limB a4 a5 a6 a7 a8 a9 a10 a11)) ∧ Below w.heap.size w w' := by
  unfold limB
  cases h0 : inB a4 1 64
  · go_enter Tryz.func71, Tryz.ntmps71
    go_wp2_with (go_at_call 110; refine (within_any _ _ _ _).mono ?_; rintro e w' ⟨rfl, rfl⟩)
    go_ret
    exact ⟨by simp [*], (Below.refl _ _).alloc (Nat.le_refl _) _⟩
  · cases h1 : inB a5 100 65535
    · go_enter Tryz.func71, Tryz.ntmps71
      go_wp2_with (go_at_call 110; refine (within_any _ _ _ _).mono ?_; rintro e w' ⟨rfl, rfl⟩)
      go_ret
      exact ⟨by simp [*], (Below.refl _ _).alloc (Nat.le_refl _) _⟩
    · cases h2 : inB a6 100 65535
      · go_enter Tryz.func71, Tryz.ntmps71
        go_wp2_with (go_at_call 110; refine (within_any _ _ _ _).mono ?_; rintro e w' ⟨rfl, rfl⟩)
        go_ret
        exact ⟨by simp [*], (Below.refl _ _).alloc (Nat.le_refl _) _⟩
      · cases h3 : inB a7 1 100000
        · go_enter Tryz.func71, Tryz.ntmps71
          go_wp2_with (go_at_call 110; refine (within_any _ _ _ _).mono ?_; rintro e w' ⟨rfl, rfl⟩)
          go_ret
          exact ⟨by simp [*], (Below.refl _ _).alloc (Nat.le_refl _) _⟩
        · cases h4 : inB a8 1 100000
          · go_enter Tryz.func71, Tryz.ntmps71
            go_wp2_with (go_at_call 110; refine (within_any _ _ _ _).mono ?_; rintro e w' ⟨rfl, rfl⟩)
            go_ret
            exact ⟨by simp [*], (Below.refl _ _).alloc (Nat.le_refl _) _⟩
          · cases h5 : inB a9 1 100000
            · go_enter Tryz.func71, Tryz.ntmps71
              go_wp2_with (go_at_call 110; refine (within_any _ _ _ _).mono ?_; rintro e w' ⟨rfl, rfl⟩)
              go_ret
              exact ⟨by simp [*], (Below.refl _ _).alloc (Nat.le_refl _) _⟩
            · cases h6 : inB a10 0 100
              · go_enter Tryz.func71, Tryz.ntmps71
                go_wp2_with (go_at_call 110; refine (within_any _ _ _ _).mono ?_; rintro e w' ⟨rfl, rfl⟩)
                go_ret
                exact ⟨by simp [*], (Below.refl _ _).alloc (Nat.le_refl _) _⟩
              · cases h7 : inB a11 0 100
                · go_enter Tryz.func71, Tryz.ntmps71
                  go_wp2_with (go_at_call 110; refine (within_any _ _ _ _).mono ?_; rintro e w' ⟨rfl, rfl⟩)
                  go_ret
                  exact ⟨by simp [*], (Below.refl _ _).alloc (Nat.le_refl _) _⟩
                · go_enter Tryz.func71, Tryz.ntmps71
                  go_wp2_with (go_at_call 110; refine (within_any _ _ _ _).mono ?_; rintro e w' ⟨rfl, rfl⟩)
                  go_ret
                  exact ⟨by simp [*], (Below.refl _ _).alloc (Nat.le_refl _) _⟩

set_option maxHeartbeats 1000000 in
theorem ports_any (a0 a1 a2 a3 a4 a5 a6 a7 a8 a9 a10 a11 : Int) (w : World) :
    Calls Tryz.prog 70 #[.agg #[.int .i64 a0, .int .i64 a1, .int .i64 a2, .int .i64 a3, .int .i64 a4, .int .i64 a5, .int .i64 a6, .int .i64 a7, .int .i64 a8, .int .i64 a9, .int .i64 a10, .int .i64 a11]] w fun e w' => e = .returned (.bool (portsB a2 a3)) ∧ Below w.heap.size w w' := by
  unfold portsB
  cases h0 : leB 1 a2
  · have h0' := leB_f h0
    go_enter Tryz.func70, Tryz.ntmps70
    go_wp2
    go_ret
    exact ⟨rfl, (Below.refl _ _).alloc (Nat.le_refl _) _⟩
  · have h0' := leB_t h0
    cases h1 : leB a3 65535
    · have h1' := leB_f h1
      go_enter Tryz.func70, Tryz.ntmps70
      go_wp2
      go_ret
      exact ⟨rfl, (Below.refl _ _).alloc (Nat.le_refl _) _⟩
    · have h1' := leB_t h1
      go_enter Tryz.func70, Tryz.ntmps70
      go_wp2
      go_ret
      exact ⟨by simp [leB], (Below.refl _ _).alloc (Nat.le_refl _) _⟩

def confB (a0 a1 a2 a3 a4 a5 a6 a7 a8 a9 a10 a11 : Int) : Bool := endsB a0 a1 && (portsB a2 a3 && limB a4 a5 a6 a7 a8 a9 a10 a11)
set_option maxHeartbeats 1000000 in
theorem conf_any (a0 a1 a2 a3 a4 a5 a6 a7 a8 a9 a10 a11 : Int) (w : World) :
    Calls Tryz.prog 37 #[.agg #[.int .i64 a0, .int .i64 a1, .int .i64 a2, .int .i64 a3, .int .i64 a4, .int .i64 a5, .int .i64 a6, .int .i64 a7, .int .i64 a8, .int .i64 a9, .int .i64 a10, .int .i64 a11]] w fun e w' => e = .returned (.bool (confB a0 a1 a2 a3 a4 a5 a6 a7 a8 a9 a10 a11)) ∧ Below w.heap.size w w' := by
  unfold confB
  cases h0 : endsB a0 a1
  · go_enter Tryz.func37, Tryz.ntmps37
    go_wp2_with fail
    refine (addresses_any a0 a1 a2 a3 a4 a5 a6 a7 a8 a9 a10 a11 _).mono ?_; rintro e w1 ⟨rfl, hb1⟩
    go_wp2
    go_ret
    exact ⟨rfl, ((Below.refl _ _).alloc (Nat.le_refl _) _).trans (hb1.mono (by simp))⟩
  · cases h1 : portsB a2 a3
    · go_enter Tryz.func37, Tryz.ntmps37
      go_wp2_with fail
      refine (addresses_any a0 a1 a2 a3 a4 a5 a6 a7 a8 a9 a10 a11 _).mono ?_; rintro e w1 ⟨rfl, hb1⟩
      obtain ⟨hc1, hf1⟩ := bcell hb1
      have hz1 : w.heap.size < w1.heap.size := by have := hb1.size; simp at this; omega
      go_wp2_with fail
      refine (ports_any a0 a1 a2 a3 a4 a5 a6 a7 a8 a9 a10 a11 _).mono ?_; rintro e w2 ⟨rfl, hb2⟩
      go_wp2
      go_ret
      exact ⟨rfl, (((Below.refl _ _).alloc (Nat.le_refl _) _).trans (hb1.mono (by simp))).trans (hb2.mono (by omega))⟩
    · go_enter Tryz.func37, Tryz.ntmps37
      go_wp2_with fail
      refine (addresses_any a0 a1 a2 a3 a4 a5 a6 a7 a8 a9 a10 a11 _).mono ?_; rintro e w1 ⟨rfl, hb1⟩
      obtain ⟨hc1, hf1⟩ := bcell hb1
      have hz1 : w.heap.size < w1.heap.size := by have := hb1.size; simp at this; omega
      go_wp2_with fail
      refine (ports_any a0 a1 a2 a3 a4 a5 a6 a7 a8 a9 a10 a11 _).mono ?_; rintro e w2 ⟨rfl, hb2⟩
      obtain ⟨hc2, hf2⟩ := bcell hb2
      have hz2 : w.heap.size < w2.heap.size := by have := hb2.size; omega
      go_wp2_with fail
      refine (limits_any a0 a1 a2 a3 a4 a5 a6 a7 a8 a9 a10 a11 _).mono ?_; rintro e w3 ⟨rfl, hb3⟩
      go_wp2
      go_ret
      exact ⟨rfl, ((((Below.refl _ _).alloc (Nat.le_refl _) _).trans (hb1.mono (by simp))).trans (hb2.mono (by omega))).trans (hb3.mono (by omega))⟩
end Go.Proofs.YthiljpbodmajaabGreat
namespace Go.Proofs.YthiljpbodmajaabGreat
open Go.RowKit Plain

set_option maxHeartbeats 2000000 in
set_option maxRecDepth 20000 in
theorem valid_any (a0 a1 a2 a3 a4 a5 a6 a7 a8 a9 a10 a11 : Int) (w : World) (g0 : a0 < 9223372036854775808) (g1 : a1 < 9223372036854775808) :
    Calls Tryz.prog 139 #[.agg #[.int .i64 a0, .int .i64 a1, .int .i64 a2, .int .i64 a3, .int .i64 a4, .int .i64 a5, .int .i64 a6, .int .i64 a7, .int .i64 a8, .int .i64 a9, .int .i64 a10, .int .i64 a11]] w fun e w' => e = .returned (.bool (validB a0 a1 a2 a3 a4 a5 a6 a7 a8 a9 a10 a11)) ∧ Below w.heap.size w w' := by
  go_enter Tryz.func139, Tryz.ntmps139
  go_upto_region 1 with fail
  go_cut [3] (fun t wx => t = .bool (endsB a0 a1) ∧ wx = w.alloc (.cells #[.int .i64 a0, .int .i64 a1, .int .i64 a2, .int .i64 a3, .int .i64 a4, .int .i64 a5, .int .i64 a6, .int .i64 a7, .int .i64 a8, .int .i64 a9, .int .i64 a10, .int .i64 a11] 92))
  case first =>
    cases h0 : usB a0
    · go_wp2_with (go_at_call 187; refine (refUsable_any _ _ (by omega)).mono ?_; rintro e w' ⟨rfl, rfl⟩)
      go_meet
      exact ⟨by simp [endsB, h0], rfl⟩
    · cases h1 : usB a1
      · go_wp2_with (go_at_call 187; refine (refUsable_any _ _ (by omega)).mono ?_; rintro e w' ⟨rfl, rfl⟩)
        go_meet
        exact ⟨by simp [endsB, h0, h1], rfl⟩
      · go_wp2_with (go_at_call 187; refine (refUsable_any _ _ (by omega)).mono ?_; rintro e w' ⟨rfl, rfl⟩)
        go_meet
        exact ⟨by simp [endsB, h0, h1, neB], rfl⟩
  case rest =>
    obtain ⟨rfl, rfl⟩ := hcut
    generalize hE : endsB a0 a1 = b1
    have HE : Hid _ := hE
    clear hE
    go_upto_region 2 with fail
    go_cut [4] (fun t wx => t = .bool (portsB a2 a3 && inB a4 1 64) ∧ wx = w.alloc (.cells #[.int .i64 a0, .int .i64 a1, .int .i64 a2, .int .i64 a3, .int .i64 a4, .int .i64 a5, .int .i64 a6, .int .i64 a7, .int .i64 a8, .int .i64 a9, .int .i64 a10, .int .i64 a11] 92))
    case first =>
      cases h0 : leB 1 a2
      · have h0' := leB_f h0
        go_wp2
        go_meet
        exact ⟨by simp [portsB, h0], rfl⟩
      · have h0' := leB_t h0
        cases h1 : leB a3 65535
        · have h1' := leB_f h1
          go_wp2
          go_meet
          exact ⟨by simp [portsB, h0, h1], rfl⟩
        · have h1' := leB_t h1
          cases h2 : leB a2 a3
          · have h2' := leB_f h2
            go_wp2
            go_meet
            exact ⟨by simp [portsB, h0, h1, h2], rfl⟩
          · have h2' := leB_t h2
            go_wp2_with (go_at_call 188; refine (between_any _ _ _ _).mono ?_; rintro e w' ⟨rfl, rfl⟩)
            go_meet
            exact ⟨by simp [portsB, h0, h1, h2], rfl⟩
    case rest =>
      obtain ⟨rfl, rfl⟩ := hcut
      generalize hP : (portsB a2 a3 && inB a4 1 64) = b2
      have HP : Hid _ := hP
      clear hP
      go_upto_region 3 with fail
      go_cut [5] (fun t wx => t = .bool (mtusB a5 a6) ∧ wx = w.alloc (.cells #[.int .i64 a0, .int .i64 a1, .int .i64 a2, .int .i64 a3, .int .i64 a4, .int .i64 a5, .int .i64 a6, .int .i64 a7, .int .i64 a8, .int .i64 a9, .int .i64 a10, .int .i64 a11] 92))
      case first =>
        cases h0 : inB a5 100 65535
        · go_wp2_with (go_at_call 188; refine (between_any _ _ _ _).mono ?_; rintro e w' ⟨rfl, rfl⟩)
          go_meet
          exact ⟨by simp [mtusB, h0], rfl⟩
        · go_wp2_with (go_at_call 188; refine (between_any _ _ _ _).mono ?_; rintro e w' ⟨rfl, rfl⟩)
          go_meet
          exact ⟨by simp [mtusB, h0], rfl⟩
      case rest =>
        obtain ⟨rfl, rfl⟩ := hcut
        generalize hM : mtusB a5 a6 = b3
        have HM : Hid _ := hM
        clear hM
        go_upto_region 4 with fail
        go_cut [6] (fun t wx => t = .bool (idlesB a7 a8 a9) ∧ wx = w.alloc (.cells #[.int .i64 a0, .int .i64 a1, .int .i64 a2, .int .i64 a3, .int .i64 a4, .int .i64 a5, .int .i64 a6, .int .i64 a7, .int .i64 a8, .int .i64 a9, .int .i64 a10, .int .i64 a11] 92))
        case first =>
          cases h0 : inB a7 1 100000
          · go_wp2_with (go_at_call 188; refine (between_any _ _ _ _).mono ?_; rintro e w' ⟨rfl, rfl⟩)
            go_meet
            exact ⟨by simp [idlesB, h0], rfl⟩
          · cases h1 : inB a8 1 100000
            · go_wp2_with (go_at_call 188; refine (between_any _ _ _ _).mono ?_; rintro e w' ⟨rfl, rfl⟩)
              go_meet
              exact ⟨by simp [idlesB, h0, h1], rfl⟩
            · go_wp2_with (go_at_call 188; refine (between_any _ _ _ _).mono ?_; rintro e w' ⟨rfl, rfl⟩)
              go_meet
              exact ⟨by simp [idlesB, h0, h1], rfl⟩
        case rest =>
          obtain ⟨rfl, rfl⟩ := hcut
          generalize hI : idlesB a7 a8 a9 = b4
          have HI : Hid _ := hI
          clear hI
          have fin : ∀ b : Bool, b = (b1 && b2 && b3 && b4 && tailB a10 a11) → b = validB a0 a1 a2 a3 a4 a5 a6 a7 a8 a9 a10 a11 := by
            intro b hb
            rw [hb, ← HE.out, ← HP.out, ← HM.out, ← HI.out]; rfl
          have FIN : Hid _ := fin
          clear fin HE HP HM HI
          cases b1
          · go_wp2
            go_ret
            exact ⟨ret_bool (FIN.out _ (by simp)), (Below.refl _ _).alloc (Nat.le_refl _) _⟩
          · cases b2
            · go_wp2
              go_ret
              exact ⟨ret_bool (FIN.out _ (by simp)), (Below.refl _ _).alloc (Nat.le_refl _) _⟩
            · cases b3
              · go_wp2
                go_ret
                exact ⟨ret_bool (FIN.out _ (by simp)), (Below.refl _ _).alloc (Nat.le_refl _) _⟩
              · cases b4
                · go_wp2
                  go_ret
                  exact ⟨ret_bool (FIN.out _ (by simp)), (Below.refl _ _).alloc (Nat.le_refl _) _⟩
                · cases h0 : inB a10 0 100
                  · go_wp2_with (go_at_call 188; refine (between_any _ _ _ _).mono ?_; rintro e w' ⟨rfl, rfl⟩)
                    go_ret
                    exact ⟨ret_bool (FIN.out _ (by simp [tailB, h0])), (Below.refl _ _).alloc (Nat.le_refl _) _⟩
                  · go_wp2_with (go_at_call 188; refine (between_any _ _ _ _).mono ?_; rintro e w' ⟨rfl, rfl⟩)
                    go_ret
                    exact ⟨ret_bool (FIN.out _ (by simp [tailB, h0])), (Below.refl _ _).alloc (Nat.le_refl _) _⟩
end Go.Proofs.YthiljpbodmajaabGreat
namespace Go.Proofs.YthiljpbodmajaabGreat
open Go.RowKit Plain

theorem confB_valid (a0 a1 a2 a3 a4 a5 a6 a7 a8 a9 a10 a11 : Int) : confB a0 a1 a2 a3 a4 a5 a6 a7 a8 a9 a10 a11 = validB a0 a1 a2 a3 a4 a5 a6 a7 a8 a9 a10 a11 := by
  simp [confB, validB, limB, mtusB, idlesB, tailB, Bool.and_assoc]

theorem num_any (n : Int) (w : World) :
    Calls Tryz.prog 91 #[.int .i64 n] w fun e w' => e = .returned (.int .i64 n) ∧ w' = w := by
  go_enter Tryz.func91, Tryz.ntmps91
  go_wp2
  go_ret
  exact ⟨rfl, rfl⟩

set_option maxHeartbeats 1000000 in
theorem config_any (a0 a1 a2 a3 a4 a5 a6 a7 a8 a9 a10 a11 : Int) (w : World) :
    Calls Tryz.prog 92 #[.agg #[.int .i64 a0, .int .i64 a1, .int .i64 a2, .int .i64 a3, .int .i64 a4, .int .i64 a5, .int .i64 a6, .int .i64 a7, .int .i64 a8, .int .i64 a9, .int .i64 a10, .int .i64 a11]] w fun e w' => e = .returned (.agg #[.int .i64 a0, .int .i64 a1, .int .i64 a2, .int .i64 a3, .int .i64 a4, .int .i64 a5, .int .i64 a6, .int .i64 a7, .int .i64 a8, .int .i64 a9, .int .i64 a10, .int .i64 a11]) ∧ Below w.heap.size w w' := by
  go_enter Tryz.func92, Tryz.ntmps92
  go_wp2
  exact bodyPost_ret (v := .agg #[.int .i64 a0, .int .i64 a1, .int .i64 a2, .int .i64 a3, .int .i64 a4, .int .i64 a5, .int .i64 a6, .int .i64 a7, .int .i64 a8, .int .i64 a9, .int .i64 a10, .int .i64 a11]) (by simp [results, Tryz.results92, go_sem]) rfl ⟨rfl, ((Below.refl _ _).alloc (Nat.le_refl _) _).alloc (by simp) _⟩

set_option maxHeartbeats 1000000 in
theorem new_no (a0 a1 a2 a3 a4 a5 a6 a7 a8 a9 a10 a11 : Int) (w : World) (h : confB a0 a1 a2 a3 a4 a5 a6 a7 a8 a9 a10 a11 = false) :
    Calls Tryz.prog 11 #[.agg #[.int .i64 a0, .int .i64 a1, .int .i64 a2, .int .i64 a3, .int .i64 a4, .int .i64 a5, .int .i64 a6, .int .i64 a7, .int .i64 a8, .int .i64 a9, .int .i64 a10, .int .i64 a11]] w fun e w' => e = .returned (.tuple #[.pointer none, .int .i64 1]) ∧ Below w.heap.size w w' := by
  go_enter Tryz.func11, Tryz.ntmps11
  go_wp2_with fail
  refine (conf_any a0 a1 a2 a3 a4 a5 a6 a7 a8 a9 a10 a11 _).mono ?_; rintro e w1 ⟨rfl, hb1⟩
  go_wp2
  go_ret2
  exact ⟨rfl, ((Below.refl _ _).alloc (Nat.le_refl _) _).trans (hb1.mono (by simp))⟩
theorem mapNew_any (lo hi cp : Int) (w : World) :
    Calls Tryz.prog 38 #[.int .i64 lo, .int .i64 hi, .int .i64 cp] w fun e w' => e = .returned (.agg #[.int .i64 lo, .int .i64 hi, .int .i64 cp, .slice none 0 0]) ∧ Below w.heap.size w w' := by
  go_enter Tryz.func38, Tryz.ntmps38
  go_wp2
  exact bodyPost_ret (v := .agg #[.int .i64 lo, .int .i64 hi, .int .i64 cp, .slice none 0 0]) (by simp [results, Tryz.results38, go_sem]) rfl ⟨rfl, (Below.refl _ _).alloc (Nat.le_refl _) _⟩
set_option maxHeartbeats 1000000 in
theorem new_yes (a0 a1 a2 a3 a4 a5 a6 a7 a8 a9 a10 a11 : Int) (w : World) (h : confB a0 a1 a2 a3 a4 a5 a6 a7 a8 a9 a10 a11 = true) :
    Calls Tryz.prog 11 #[.agg #[.int .i64 a0, .int .i64 a1, .int .i64 a2, .int .i64 a3, .int .i64 a4, .int .i64 a5, .int .i64 a6, .int .i64 a7, .int .i64 a8, .int .i64 a9, .int .i64 a10, .int .i64 a11]] w fun e w' => ∃ b : Nat, e = .returned (.tuple #[.pointer (some ⟨b, 0, none⟩), .int .i64 0]) ∧ Below w.heap.size w w' ∧ w.heap.size ≤ b ∧
      w'.heap[b]? = some (.cells #[.int .i64 a0, .int .i64 a1, .int .i64 a2, .int .i64 a3, .int .i64 a4, .int .i64 a5, .int .i64 a6, .int .i64 a7, .int .i64 a8, .int .i64 a9, .int .i64 a10, .int .i64 a11, .int .i64 a2, .int .i64 a3, .int .i64 a4, .slice none 0 0, .int .i64 a10, .int .i64 0] 81 (0, 0)) := by
  have cM : RetB 38 #[.int .i64 a2, .int .i64 a3, .int .i64 a4] (.agg #[.int .i64 a2, .int .i64 a3, .int .i64 a4, .slice none 0 0]) := fun w => mapNew_any _ _ _ w
  go_enter Tryz.func11, Tryz.ntmps11
  go_wp2_with fail
  refine (conf_any a0 a1 a2 a3 a4 a5 a6 a7 a8 a9 a10 a11 _).mono ?_; rintro e w1 ⟨rfl, hb1⟩
  have hz1 : w.heap.size < w1.heap.size := by have := hb1.size; simp at this; omega
  have HW : Hid (Below w.heap.size w w1) := ((Below.refl _ _).alloc (Nat.le_refl _) _).trans (hb1.mono (by simp))
  have B0 : w1.heap[w.heap.size]? = some (.cells #[.int .i64 a0, .int .i64 a1, .int .i64 a2, .int .i64 a3, .int .i64 a4, .int .i64 a5, .int .i64 a6, .int .i64 a7, .int .i64 a8, .int .i64 a9, .int .i64 a10, .int .i64 a11] 23 (0, 0)) := (hb1.block w.heap.size (by simp)).trans (by show (w.heap.push _)[w.heap.size]? = _; simp)
  have q0 : ∀ w', Below w1.heap.size w1 w' → w'.cell? ⟨w.heap.size, 0, none⟩ = some (.int .i64 a0) := fun w' h => (h.cell (p := ⟨w.heap.size, 0, none⟩) hz1).trans (cell_of_row _ _ _ _ _ _ B0)
  have q1 : ∀ w', Below w1.heap.size w1 w' → w'.cell? ⟨w.heap.size, 1, none⟩ = some (.int .i64 a1) := fun w' h => (h.cell (p := ⟨w.heap.size, 1, none⟩) hz1).trans (cell_of_row _ _ _ _ _ _ B0)
  have q2 : ∀ w', Below w1.heap.size w1 w' → w'.cell? ⟨w.heap.size, 2, none⟩ = some (.int .i64 a2) := fun w' h => (h.cell (p := ⟨w.heap.size, 2, none⟩) hz1).trans (cell_of_row _ _ _ _ _ _ B0)
  have q3 : ∀ w', Below w1.heap.size w1 w' → w'.cell? ⟨w.heap.size, 3, none⟩ = some (.int .i64 a3) := fun w' h => (h.cell (p := ⟨w.heap.size, 3, none⟩) hz1).trans (cell_of_row _ _ _ _ _ _ B0)
  have q4 : ∀ w', Below w1.heap.size w1 w' → w'.cell? ⟨w.heap.size, 4, none⟩ = some (.int .i64 a4) := fun w' h => (h.cell (p := ⟨w.heap.size, 4, none⟩) hz1).trans (cell_of_row _ _ _ _ _ _ B0)
  have q5 : ∀ w', Below w1.heap.size w1 w' → w'.cell? ⟨w.heap.size, 5, none⟩ = some (.int .i64 a5) := fun w' h => (h.cell (p := ⟨w.heap.size, 5, none⟩) hz1).trans (cell_of_row _ _ _ _ _ _ B0)
  have q6 : ∀ w', Below w1.heap.size w1 w' → w'.cell? ⟨w.heap.size, 6, none⟩ = some (.int .i64 a6) := fun w' h => (h.cell (p := ⟨w.heap.size, 6, none⟩) hz1).trans (cell_of_row _ _ _ _ _ _ B0)
  have q7 : ∀ w', Below w1.heap.size w1 w' → w'.cell? ⟨w.heap.size, 7, none⟩ = some (.int .i64 a7) := fun w' h => (h.cell (p := ⟨w.heap.size, 7, none⟩) hz1).trans (cell_of_row _ _ _ _ _ _ B0)
  have q8 : ∀ w', Below w1.heap.size w1 w' → w'.cell? ⟨w.heap.size, 8, none⟩ = some (.int .i64 a8) := fun w' h => (h.cell (p := ⟨w.heap.size, 8, none⟩) hz1).trans (cell_of_row _ _ _ _ _ _ B0)
  have q9 : ∀ w', Below w1.heap.size w1 w' → w'.cell? ⟨w.heap.size, 9, none⟩ = some (.int .i64 a9) := fun w' h => (h.cell (p := ⟨w.heap.size, 9, none⟩) hz1).trans (cell_of_row _ _ _ _ _ _ B0)
  have q10 : ∀ w', Below w1.heap.size w1 w' → w'.cell? ⟨w.heap.size, 10, none⟩ = some (.int .i64 a10) := fun w' h => (h.cell (p := ⟨w.heap.size, 10, none⟩) hz1).trans (cell_of_row _ _ _ _ _ _ B0)
  have q11 : ∀ w', Below w1.heap.size w1 w' → w'.cell? ⟨w.heap.size, 11, none⟩ = some (.int .i64 a11) := fun w' h => (h.cell (p := ⟨w.heap.size, 11, none⟩) hz1).trans (cell_of_row _ _ _ _ _ _ B0)
  clear hb1 B0
  go_wp2
  go_region_held (fun w' => Below w1.heap.size w1 w') (first | assumption | exact Below.drew (Below.refl _ _) | exact Below.alloc (by assumption) (by assumption) _) (first
    | (go_at_call 38; refine Calls.mono (cM.at _) ?_; rintro e w2 ⟨rfl, hb2⟩; have hz2 : w1.heap.size ≤ w2.heap.size := hb2.size; have hk2 : Below w1.heap.size w1 w2 := Below.trans (Below.drew (Below.refl w1.heap.size w1)) hb2))
  all_goals
    go_wp2
    go_ret2
    refine ⟨_, rfl, ?_, ?_, ?_⟩
    · exact (HW.out.trans (hk2.mono (by omega))).alloc (by omega) _
    · omega
    · show (w2.heap.push _)[w2.heap.size]? = _
      simp

set_option maxHeartbeats 1000000 in
theorem refNew_no (a0 a1 a2 a3 a4 a5 a6 a7 a8 a9 a10 a11 : Int) (w : World) (g0 : a0 < 9223372036854775808) (g1 : a1 < 9223372036854775808) (h : validB a0 a1 a2 a3 a4 a5 a6 a7 a8 a9 a10 a11 = false) :
    Calls Tryz.prog 93 #[.agg #[.int .i64 a0, .int .i64 a1, .int .i64 a2, .int .i64 a3, .int .i64 a4, .int .i64 a5, .int .i64 a6, .int .i64 a7, .int .i64 a8, .int .i64 a9, .int .i64 a10, .int .i64 a11]] w fun e w' => e = .returned (.pointer none) ∧ Below w.heap.size w w' := by
  go_enter Tryz.func93, Tryz.ntmps93
  go_wp2_with fail
  refine (valid_any a0 a1 a2 a3 a4 a5 a6 a7 a8 a9 a10 a11 _ g0 g1).mono ?_; rintro e w1 ⟨rfl, hb1⟩
  go_wp2
  go_ret
  exact ⟨rfl, ((Below.refl _ _).alloc (Nat.le_refl _) _).trans (hb1.mono (by simp))⟩
end Go.Proofs.YthiljpbodmajaabGreat
