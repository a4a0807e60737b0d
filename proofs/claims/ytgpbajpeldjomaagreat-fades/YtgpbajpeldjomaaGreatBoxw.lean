/-
  CONTRACTS: package natbox: a box: what is looked at ahead of its table.
-/
import Derived.Test.YtgpbajpeldjomaaGreatBoxm
import Derived.Test.YtgpbajpeldjomaaGreatSntw
import Derived.Test.YtgpbajpeldjomaaGreatFrme
namespace Go.Proofs.YtgpbajpeldjomaaGreat
open Go.RowKit Plain
set_option linter.unusedVariables false

theorem isForBox_core (b : Nat) (s : ByteArray) (da oa : Int) (w : World) (hb : b < w.heap.size) (h1 : w.cell? ⟨b, 1, none⟩ = some (.int .i64 oa)) (cD : Ret 127 #[.string s] (.int .i64 da)) :
    Calls Tryz.prog 90 #[.pointer (some ⟨b, 0, none⟩), .string s] w fun e w' => e = .returned (.bool (da == oa)) ∧ Below w.heap.size w w' := by
  go_enter Tryz.func90, Tryz.ntmps90
  go_wp2
  go_quiet (first | (go_at_call 127; refine Calls.quiet_of_same (cD.at _)))
  go_wp2
  go_ret
  exact ⟨rfl, below_drewN (Below.refl _ _) _⟩
theorem addresses_core (b : Nat) (s : ByteArray) (sa da ia oa d : Int) (w : World) (h0 : w.cell? ⟨b, 0, none⟩ = some (.int .i64 ia)) (h1 : w.cell? ⟨b, 1, none⟩ = some (.int .i64 oa)) (cS : Ret 126 #[.string s] (.int .i64 sa)) (cD : Ret 127 #[.string s] (.int .i64 da)) (r : Bool)
    (hr : r = (!(sa == ia || sa == oa || da == ia) && (d == 0 || da == oa))) :
    Calls Tryz.prog 80 #[.pointer (some ⟨b, 0, none⟩), .int .i64 d, .string s] w fun e w' => e = .returned (.bool r) ∧ w' = w := by
  have HR : Hid _ := hr
  clear hr
  cases e1 : (sa == ia)
  · cases e2 : (sa == oa)
    · cases e3 : (da == ia)
      · cases e4 : (d == 0)
        · go_enter Tryz.func80, Tryz.ntmps80
          go_wp2_with fail
          refine Calls.mono (cS.at _) ?_; rintro e w' ⟨rfl, rfl⟩
          go_wp2_with fail
          refine Calls.mono (cD.at _) ?_; rintro e w' ⟨rfl, rfl⟩
          go_wp2
          go_ret
          exact ⟨ret_bool (by rw [HR.out, e1, e2, e3, e4]; rfl), rfl⟩
        · go_enter Tryz.func80, Tryz.ntmps80
          go_wp2_with fail
          refine Calls.mono (cS.at _) ?_; rintro e w' ⟨rfl, rfl⟩
          go_wp2_with fail
          refine Calls.mono (cD.at _) ?_; rintro e w' ⟨rfl, rfl⟩
          go_wp2
          go_ret
          exact ⟨ret_bool (by rw [HR.out, e1, e2, e3, e4]; rfl), rfl⟩
      · go_enter Tryz.func80, Tryz.ntmps80
        go_wp2_with fail
        refine Calls.mono (cS.at _) ?_; rintro e w' ⟨rfl, rfl⟩
        go_wp2_with fail
        refine Calls.mono (cD.at _) ?_; rintro e w' ⟨rfl, rfl⟩
        go_wp2
        go_ret
        exact ⟨ret_bool (by rw [HR.out, e1, e2, e3]; rfl), rfl⟩
    · go_enter Tryz.func80, Tryz.ntmps80
      go_wp2_with fail
      refine Calls.mono (cS.at _) ?_; rintro e w' ⟨rfl, rfl⟩
      go_wp2_with fail
      refine Calls.mono (cD.at _) ?_; rintro e w' ⟨rfl, rfl⟩
      go_wp2
      go_ret
      exact ⟨ret_bool (by rw [HR.out, e1, e2]; rfl), rfl⟩
  · go_enter Tryz.func80, Tryz.ntmps80
    go_wp2_with fail
    refine Calls.mono (cS.at _) ?_; rintro e w' ⟨rfl, rfl⟩
    go_wp2_with fail
    refine Calls.mono (cD.at _) ?_; rintro e w' ⟨rfl, rfl⟩
    go_wp2
    go_ret
    exact ⟨ret_bool (by rw [HR.out, e1]; rfl), rfl⟩
theorem kind_core (b : Nat) (s : ByteArray) (d : Int) (rq rp fb : Bool) (w : World) (cQ : Ret 128 #[.string s] (.bool rq)) (cP : Ret 129 #[.string s] (.bool rp))
    (cF : Calls Tryz.prog 90 #[.pointer (some ⟨b, 0, none⟩), .string s] w fun e w' => e = .returned (.bool fb) ∧ Below w.heap.size w w') (r : Bool) (hr : r = if d = 1 then !rq else !rp && (!rq || !fb)) :
    Calls Tryz.prog 81 #[.pointer (some ⟨b, 0, none⟩), .int .i64 d, .string s] w fun e w' => e = .returned (.bool r) ∧ Below w.heap.size w w' := by
  have CF : Hid _ := cF
  clear cF
  by_cases h : d = 1
  · rw [if_pos h] at hr
    subst h hr
    go_enter Tryz.func81, Tryz.ntmps81
    go_wp2_with fail
    refine Calls.mono (cQ.at _) ?_; rintro e w' ⟨rfl, rfl⟩
    go_wp2
    go_ret
    exact ⟨rfl, Below.refl _ _⟩
  · have h' : (d == 1) = false := by simpa using h
    rw [if_neg h] at hr
    subst hr
    clear h
    cases rp
    · cases rq
      · go_enter Tryz.func81, Tryz.ntmps81
        go_wp2_with fail
        refine Calls.mono (cP.at _) ?_; rintro e w' ⟨rfl, rfl⟩
        go_wp2_with fail
        refine Calls.mono (cQ.at _) ?_; rintro e w' ⟨rfl, rfl⟩
        go_wp2
        go_ret
        exact ⟨rfl, Below.refl _ _⟩
      · go_enter Tryz.func81, Tryz.ntmps81
        go_wp2_with fail
        refine Calls.mono (cP.at _) ?_; rintro e w' ⟨rfl, rfl⟩
        go_wp2_with fail
        refine Calls.mono (cQ.at _) ?_; rintro e w' ⟨rfl, rfl⟩
        go_wp2_with fail
        refine Calls.mono CF.out ?_; rintro e w1 ⟨rfl, hb⟩
        go_wp2
        go_ret
        exact ⟨rfl, hb⟩
    · go_enter Tryz.func81, Tryz.ntmps81
      go_wp2_with fail
      refine Calls.mono (cP.at _) ?_; rintro e w' ⟨rfl, rfl⟩
      go_wp2
      go_ret
      exact ⟨rfl, Below.refl _ _⟩
theorem examine_core (b : Nat) (s : ByteArray) (d k : Int) (ab kb : Bool) (w : World) (cC : RetB 79 #[.string s] (.int .i64 k))
    (cA : ∀ wx, Below w.heap.size w wx → Calls Tryz.prog 80 #[.pointer (some ⟨b, 0, none⟩), .int .i64 d, .string s] wx fun e w' => e = .returned (.bool ab) ∧ w' = wx)
    (cK : ∀ wx, Below w.heap.size w wx → Calls Tryz.prog 81 #[.pointer (some ⟨b, 0, none⟩), .int .i64 d, .string s] wx fun e w' => e = .returned (.bool kb) ∧ Below wx.heap.size wx w') (r : Int)
    (hr : r = if ¬ d = 0 ∧ ¬ d = 1 then 2 else if ¬ k = 0 then k else if ab then (if kb then 0 else 7) else 6) :
    Calls Tryz.prog 48 #[.pointer (some ⟨b, 0, none⟩), .int .i64 d, .string s] w fun e w' => e = .returned (.int .i64 r) ∧ Below w.heap.size w w' := by
  have CA : Hid _ := cA
  have CK : Hid _ := cK
  clear cA cK
  by_cases h : ¬ d = 0 ∧ ¬ d = 1
  · rw [if_pos h] at hr
    subst hr
    have g0 : (d != 0) = true := by simpa using h.1
    have g1 : (d != 1) = true := by simpa using h.2
    clear h
    go_enter Tryz.func48, Tryz.ntmps48
    go_wp2
    go_ret
    exact ⟨rfl, Below.refl _ _⟩
  · rw [if_neg h] at hr
    have hd : d = 0 ∨ d = 1 := by omega
    clear h
    by_cases h : k = 0
    · rw [if_neg (by omega)] at hr
      subst h
      have HR : Hid _ := hr
      clear hr
      rcases hd with rfl | rfl
      all_goals
        cases ab
        · go_enter Tryz.func48, Tryz.ntmps48
          go_wp2_with fail
          refine Calls.mono (cC.at _) ?_; rintro e w1 ⟨rfl, hb1⟩
          go_wp2_with fail
          refine Calls.mono (CA.out _ hb1) ?_; rintro e w' ⟨rfl, rfl⟩
          go_wp2
          go_ret
          exact ⟨ret_int (by rw [HR.out]; rfl), hb1⟩
        · cases kb
          · go_enter Tryz.func48, Tryz.ntmps48
            go_wp2_with fail
            refine Calls.mono (cC.at _) ?_; rintro e w1 ⟨rfl, hb1⟩
            go_wp2_with fail
            refine Calls.mono (CA.out _ hb1) ?_; rintro e w' ⟨rfl, rfl⟩
            go_wp2_with fail
            refine Calls.mono (CK.out _ hb1) ?_; rintro e w2 ⟨rfl, hb2⟩
            go_wp2
            go_ret
            exact ⟨ret_int (by rw [HR.out]; rfl), hb1.trans (hb2.mono hb1.size)⟩
          · go_enter Tryz.func48, Tryz.ntmps48
            go_wp2_with fail
            refine Calls.mono (cC.at _) ?_; rintro e w1 ⟨rfl, hb1⟩
            go_wp2_with fail
            refine Calls.mono (CA.out _ hb1) ?_; rintro e w' ⟨rfl, rfl⟩
            go_wp2_with fail
            refine Calls.mono (CK.out _ hb1) ?_; rintro e w2 ⟨rfl, hb2⟩
            go_wp2
            go_ret
            exact ⟨ret_int (by rw [HR.out]; rfl), hb1.trans (hb2.mono hb1.size)⟩
    · rw [if_pos h] at hr
      subst hr
      have h' : (r != 0) = true := by simpa using h
      clear h
      rcases hd with rfl | rfl
      all_goals
        go_enter Tryz.func48, Tryz.ntmps48
        go_wp2_with fail
        refine Calls.mono (cC.at _) ?_; rintro e w1 ⟨rfl, hb1⟩
        go_wp2
        go_ret
        exact ⟨rfl, hb1⟩
theorem passes_core (s : ByteArray) (t n mtu : Int) (w : World) (cT : Ret 136 #[.string s] (.int .i64 t)) (cN : Ret 137 #[.string s] (.int .i64 n)) (r : Int) (hr : r = if t ≤ 1 then 9 else if mtu < n then 10 else 0) :
    Calls Tryz.prog 86 #[.string s, .int .i64 mtu] w fun e w' => e = .returned (.int .i64 r) ∧ w' = w := by
  by_cases h : t ≤ 1
  · rw [if_pos h] at hr
    subst hr
    go_enter Tryz.func86, Tryz.ntmps86
    go_wp2_with fail
    refine Calls.mono (cT.at _) ?_; rintro e w' ⟨rfl, rfl⟩
    go_wp2
    go_ret
    exact ⟨rfl, rfl⟩
  · rw [if_neg h] at hr
    by_cases h2 : mtu < n
    · rw [if_pos h2] at hr
      subst hr
      go_enter Tryz.func86, Tryz.ntmps86
      go_wp2_with fail
      refine Calls.mono (cT.at _) ?_; rintro e w' ⟨rfl, rfl⟩
      go_wp2_with fail
      refine Calls.mono (cN.at _) ?_; rintro e w' ⟨rfl, rfl⟩
      go_wp2
      go_ret
      exact ⟨rfl, rfl⟩
    · rw [if_neg h2] at hr
      subst hr
      go_enter Tryz.func86, Tryz.ntmps86
      go_wp2_with fail
      refine Calls.mono (cT.at _) ?_; rintro e w' ⟨rfl, rfl⟩
      go_wp2_with fail
      refine Calls.mono (cN.at _) ?_; rintro e w' ⟨rfl, rfl⟩
      go_wp2
      go_ret
      exact ⟨rfl, rfl⟩
theorem idle_core (b : Nat) (p u t q : Int) (w : World) (h7 : w.cell? ⟨b, 7, none⟩ = some (.int .i64 u)) (h8 : w.cell? ⟨b, 8, none⟩ = some (.int .i64 t)) (h9 : w.cell? ⟨b, 9, none⟩ = some (.int .i64 q)) (r : Int) (hr : r = if p = 17 then u else if p = 6 then t else q) :
    Calls Tryz.prog 94 #[.pointer (some ⟨b, 0, none⟩), .int .i64 p] w fun e w' => e = .returned (.int .i64 r) ∧ w' = w := by
  by_cases h : p = 17
  · rw [if_pos h] at hr
    subst h hr
    go_enter Tryz.func94, Tryz.ntmps94
    go_wp2
    go_ret
    exact ⟨rfl, rfl⟩
  · rw [if_neg h] at hr
    have h' : (p == 17) = false := by simpa using h
    by_cases h2 : p = 6
    · rw [if_pos h2] at hr
      subst h2 hr
      clear h
      go_enter Tryz.func94, Tryz.ntmps94
      go_wp2
      go_ret
      exact ⟨rfl, rfl⟩
    · rw [if_neg h2] at hr
      have h2' : (p == 6) = false := by simpa using h2
      subst hr
      clear h h2
      go_enter Tryz.func94, Tryz.ntmps94
      go_wp2
      go_ret
      exact ⟨rfl, rfl⟩
/-- examine, of a box -/
theorem examine_any {w : World} {base b : Nat} {c : Cf} {tk ti : Int} {v : Value} {ms : List Mp} (T : Bat w base b c tk ti v ms) (d : Int) (s : ByteArray) (hs : s.size ≤ maxLen) :
    Calls Tryz.prog 48 #[.pointer (some ⟨b, 0, none⟩), .int .i64 d, .string s] w fun e w' => e = .returned (.int .i64 (exam c d s)) ∧ Below w.heap.size w w' :=
  examine_core b s d (chk s) (addrB c d s) (kindB c d s) w (fun w => framesCheck_any s w hs)
    (fun wx hb => addresses_core b s (lg s 12) (lg s 16) c.ia c.oa d wx ((T.below hb).at 0 rfl) ((T.below hb).at 1 rfl) (fun w => source_any s w hs) (fun w => destination_any s w hs) _ rfl)
    (fun wx hb => kind_core b s d (isReq s) (isRep s) (lg s 16 == c.oa) wx (isReq_any s hs) (isRep_any s hs) (isForBox_core b s (lg s 16) c.oa wx (T.below hb).lt ((T.below hb).at 1 rfl) (fun w => destination_any s w hs)) _ rfl) _ rfl
end Go.Proofs.YtgpbajpeldjomaaGreat
