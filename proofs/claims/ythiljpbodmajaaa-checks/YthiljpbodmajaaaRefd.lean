/-
  CONTRACTS: natboxref: header, Message, quote, asked.
-/
import Derived.Test.YthiljpbodmajaaaRefc
namespace Go.Proofs.Ythiljpbodmajaaa
open Go.RowKit Plain

set_option maxHeartbeats 4000000 in
theorem header_core (s P z B : ByteArray) (b0 d n k c x sa da : Int) (u1 u2 : Bool) (w : World) (z0 : 0 ≤ b0) (z1 : b0 < 256) (x0 : 0 ≤ x) (x1 : x < 65536) (hs : s.size ≤ 9223372036854775807)
    (c0 : Ret 21 #[.string s, .int .i64 0, .int .i64 1] (.int .i64 b0)) (cH : Ret 39 #[.string s] (.int .i64 d)) (cN : Ret 21 #[.string s, .int .i64 2, .int .i64 2] (.int .i64 n))
    (cP : 20 ≤ d → d ≤ n → n ≤ (s.size : Int) → Ret 26 #[.string s, .int .i64 0, .int .i64 d] (.string P)) (cT : RetB 41 #[.int .i64 0, .int .i64 2] (.string z))
    (cW : 20 ≤ d → d ≤ n → n ≤ (s.size : Int) → s.size ≤ 65535 → Ret 40 #[.string P, .int .i64 10, .string z] (.string B)) (cS : 20 ≤ d → d ≤ n → n ≤ (s.size : Int) → s.size ≤ 65535 → Ret 8 #[.string B] (.int .i64 k))
    (c10 : Ret 21 #[.string s, .int .i64 10, .int .i64 2] (.int .i64 c)) (c6 : Ret 21 #[.string s, .int .i64 6, .int .i64 2] (.int .i64 x))
    (c12 : Ret 21 #[.string s, .int .i64 12, .int .i64 4] (.int .i64 sa)) (cA : Ret 42 #[.int .i64 sa] (.bool u1))
    (c16 : Ret 21 #[.string s, .int .i64 16, .int .i64 4] (.int .i64 da)) (cD : Ret 42 #[.int .i64 da] (.bool u2)) (r : Int)
    (hr : r = if 20 ≤ s.size ∧ s.size ≤ 65535 ∧ b0 / 16 = 4 ∧ 20 ≤ d ∧ d ≤ n ∧ n ≤ (s.size : Int) then if c != k then 4 else if x % 16384 != 0 then 5 else if u1 && u2 then 0 else 6 else 3) :
    Calls Try.prog 20 #[.string s] w fun e w' => e = .returned (.int .i64 r) ∧ Below w.heap.size w w' := by
  have HR : Hid _ := hr
  clear hr
  by_cases k1 : s.size < 20
  · go_enter Try.func20, Try.ntmps20
    go_wp2
    go_ret
    exact ⟨ret_int (by rw [HR.out, if_neg (by omega)]), Below.refl _ _⟩
  · by_cases k2 : 65535 < s.size
    · go_enter Try.func20, Try.ntmps20
      go_wp2
      go_ret
      exact ⟨ret_int (by rw [HR.out, if_neg (by omega)]), Below.refl _ _⟩
    · by_cases k3 : b0 / 16 = 4
      · have k3' : (b0 / 16 != 4) = false := by simp [k3]
        have K3 : Hid _ := k3
        clear k3
        by_cases k4 : d < 20
        · go_enter Try.func20, Try.ntmps20
          go_wp2_with fail
          refine Calls.mono (c0.at _) ?_; rintro e w' ⟨rfl, rfl⟩
          go_wp2_with fail
          refine Calls.mono (cH.at _) ?_; rintro e w' ⟨rfl, rfl⟩
          go_wp2_with fail
          refine Calls.mono (cN.at _) ?_; rintro e w' ⟨rfl, rfl⟩
          go_wp2
          go_ret
          exact ⟨ret_int (by rw [HR.out, if_neg (by omega)]), Below.refl _ _⟩
        · by_cases k5 : n < d
          · go_enter Try.func20, Try.ntmps20
            go_wp2_with fail
            refine Calls.mono (c0.at _) ?_; rintro e w' ⟨rfl, rfl⟩
            go_wp2_with fail
            refine Calls.mono (cH.at _) ?_; rintro e w' ⟨rfl, rfl⟩
            go_wp2_with fail
            refine Calls.mono (cN.at _) ?_; rintro e w' ⟨rfl, rfl⟩
            go_wp2
            go_ret
            exact ⟨ret_int (by rw [HR.out, if_neg (by omega)]), Below.refl _ _⟩
          · by_cases k6 : (s.size : Int) < n
            · go_enter Try.func20, Try.ntmps20
              go_wp2_with fail
              refine Calls.mono (c0.at _) ?_; rintro e w' ⟨rfl, rfl⟩
              go_wp2_with fail
              refine Calls.mono (cH.at _) ?_; rintro e w' ⟨rfl, rfl⟩
              go_wp2_with fail
              refine Calls.mono (cN.at _) ?_; rintro e w' ⟨rfl, rfl⟩
              go_wp2
              go_ret
              exact ⟨ret_int (by rw [HR.out, if_neg (by omega)]), Below.refl _ _⟩
            · have hP := cP (by omega) (by omega) (by omega)
              have hW := cW (by omega) (by omega) (by omega) (by omega)
              have hS := cS (by omega) (by omega) (by omega) (by omega)
              clear cP cW cS
              have hn := HR.out
              rw [if_pos ⟨by omega, by omega, K3.out, by omega, by omega, by omega⟩] at hn
              have HN : Hid _ := hn
              clear hn HR
              cases e1 : (c != k)
              · have e1' : (k != c) = false := by rw [bne_comm]; exact e1
                by_cases e2 : x / 8192 % 2 = 1
                · have e3 : (x / 8192 % 2 == 1) = true := by simpa using e2
                  have e4 : (x % 16384 != 0) = true := by simp; omega
                  have E4 : Hid _ := e4
                  clear e4 e2
                  go_enter Try.func20, Try.ntmps20
                  go_wp2_with fail
                  refine Calls.mono (c0.at _) ?_; rintro e w' ⟨rfl, rfl⟩
                  go_wp2_with fail
                  refine Calls.mono (cH.at _) ?_; rintro e w' ⟨rfl, rfl⟩
                  go_wp2_with fail
                  refine Calls.mono (cN.at _) ?_; rintro e w' ⟨rfl, rfl⟩
                  go_wp2_with fail
                  refine Calls.mono (hP.at _) ?_; rintro e w' ⟨rfl, rfl⟩
                  go_wp2_with fail
                  refine Calls.mono (cT.at _) ?_; rintro e w1 ⟨rfl, hb⟩
                  go_wp2_with fail
                  refine Calls.mono (hW.at _) ?_; rintro e w' ⟨rfl, rfl⟩
                  go_wp2_with fail
                  refine Calls.mono (hS.at _) ?_; rintro e w' ⟨rfl, rfl⟩
                  go_wp2_with fail
                  refine Calls.mono (c10.at _) ?_; rintro e w' ⟨rfl, rfl⟩
                  go_wp2_with fail
                  refine Calls.mono (c6.at _) ?_; rintro e w' ⟨rfl, rfl⟩
                  go_wp2
                  go_ret
                  exact ⟨ret_int (by rw [HN.out, e1, E4.out]; rfl), hb⟩
                · have e3 : (x / 8192 % 2 == 1) = false := by simpa using e2
                  by_cases e5 : x % 8192 = 0
                  · have e6 : (x % 8192 != 0) = false := by simpa using e5
                    have e4 : (x % 16384 != 0) = false := by simp; omega
                    have E4 : Hid _ := e4
                    clear e4 e2 e5
                    cases u1
                    · go_enter Try.func20, Try.ntmps20
                      go_wp2_with fail
                      refine Calls.mono (c0.at _) ?_; rintro e w' ⟨rfl, rfl⟩
                      go_wp2_with fail
                      refine Calls.mono (cH.at _) ?_; rintro e w' ⟨rfl, rfl⟩
                      go_wp2_with fail
                      refine Calls.mono (cN.at _) ?_; rintro e w' ⟨rfl, rfl⟩
                      go_wp2_with fail
                      refine Calls.mono (hP.at _) ?_; rintro e w' ⟨rfl, rfl⟩
                      go_wp2_with fail
                      refine Calls.mono (cT.at _) ?_; rintro e w1 ⟨rfl, hb⟩
                      go_wp2_with fail
                      refine Calls.mono (hW.at _) ?_; rintro e w' ⟨rfl, rfl⟩
                      go_wp2_with fail
                      refine Calls.mono (hS.at _) ?_; rintro e w' ⟨rfl, rfl⟩
                      go_wp2_with fail
                      refine Calls.mono (c10.at _) ?_; rintro e w' ⟨rfl, rfl⟩
                      go_wp2_with fail
                      refine Calls.mono (c6.at _) ?_; rintro e w' ⟨rfl, rfl⟩
                      go_wp2_with fail
                      refine Calls.mono (c12.at _) ?_; rintro e w' ⟨rfl, rfl⟩
                      go_wp2_with fail
                      refine Calls.mono (cA.at _) ?_; rintro e w' ⟨rfl, rfl⟩
                      go_wp2
                      go_ret
                      exact ⟨ret_int (by rw [HN.out, e1, E4.out]; rfl), hb⟩
                    · cases u2
                      · go_enter Try.func20, Try.ntmps20
                        go_wp2_with fail
                        refine Calls.mono (c0.at _) ?_; rintro e w' ⟨rfl, rfl⟩
                        go_wp2_with fail
                        refine Calls.mono (cH.at _) ?_; rintro e w' ⟨rfl, rfl⟩
                        go_wp2_with fail
                        refine Calls.mono (cN.at _) ?_; rintro e w' ⟨rfl, rfl⟩
                        go_wp2_with fail
                        refine Calls.mono (hP.at _) ?_; rintro e w' ⟨rfl, rfl⟩
                        go_wp2_with fail
                        refine Calls.mono (cT.at _) ?_; rintro e w1 ⟨rfl, hb⟩
                        go_wp2_with fail
                        refine Calls.mono (hW.at _) ?_; rintro e w' ⟨rfl, rfl⟩
                        go_wp2_with fail
                        refine Calls.mono (hS.at _) ?_; rintro e w' ⟨rfl, rfl⟩
                        go_wp2_with fail
                        refine Calls.mono (c10.at _) ?_; rintro e w' ⟨rfl, rfl⟩
                        go_wp2_with fail
                        refine Calls.mono (c6.at _) ?_; rintro e w' ⟨rfl, rfl⟩
                        go_wp2_with fail
                        refine Calls.mono (c12.at _) ?_; rintro e w' ⟨rfl, rfl⟩
                        go_wp2_with fail
                        refine Calls.mono (cA.at _) ?_; rintro e w' ⟨rfl, rfl⟩
                        go_wp2_with fail
                        refine Calls.mono (c16.at _) ?_; rintro e w' ⟨rfl, rfl⟩
                        go_wp2_with fail
                        refine Calls.mono (cD.at _) ?_; rintro e w' ⟨rfl, rfl⟩
                        go_wp2
                        go_ret
                        exact ⟨ret_int (by rw [HN.out, e1, E4.out]; rfl), hb⟩
                      · go_enter Try.func20, Try.ntmps20
                        go_wp2_with fail
                        refine Calls.mono (c0.at _) ?_; rintro e w' ⟨rfl, rfl⟩
                        go_wp2_with fail
                        refine Calls.mono (cH.at _) ?_; rintro e w' ⟨rfl, rfl⟩
                        go_wp2_with fail
                        refine Calls.mono (cN.at _) ?_; rintro e w' ⟨rfl, rfl⟩
                        go_wp2_with fail
                        refine Calls.mono (hP.at _) ?_; rintro e w' ⟨rfl, rfl⟩
                        go_wp2_with fail
                        refine Calls.mono (cT.at _) ?_; rintro e w1 ⟨rfl, hb⟩
                        go_wp2_with fail
                        refine Calls.mono (hW.at _) ?_; rintro e w' ⟨rfl, rfl⟩
                        go_wp2_with fail
                        refine Calls.mono (hS.at _) ?_; rintro e w' ⟨rfl, rfl⟩
                        go_wp2_with fail
                        refine Calls.mono (c10.at _) ?_; rintro e w' ⟨rfl, rfl⟩
                        go_wp2_with fail
                        refine Calls.mono (c6.at _) ?_; rintro e w' ⟨rfl, rfl⟩
                        go_wp2_with fail
                        refine Calls.mono (c12.at _) ?_; rintro e w' ⟨rfl, rfl⟩
                        go_wp2_with fail
                        refine Calls.mono (cA.at _) ?_; rintro e w' ⟨rfl, rfl⟩
                        go_wp2_with fail
                        refine Calls.mono (c16.at _) ?_; rintro e w' ⟨rfl, rfl⟩
                        go_wp2_with fail
                        refine Calls.mono (cD.at _) ?_; rintro e w' ⟨rfl, rfl⟩
                        go_wp2
                        go_ret
                        exact ⟨ret_int (by rw [HN.out, e1, E4.out]; rfl), hb⟩
                  · have e6 : (x % 8192 != 0) = true := by simpa using e5
                    have e4 : (x % 16384 != 0) = true := by simp; omega
                    have E4 : Hid _ := e4
                    clear e4 e2 e5
                    go_enter Try.func20, Try.ntmps20
                    go_wp2_with fail
                    refine Calls.mono (c0.at _) ?_; rintro e w' ⟨rfl, rfl⟩
                    go_wp2_with fail
                    refine Calls.mono (cH.at _) ?_; rintro e w' ⟨rfl, rfl⟩
                    go_wp2_with fail
                    refine Calls.mono (cN.at _) ?_; rintro e w' ⟨rfl, rfl⟩
                    go_wp2_with fail
                    refine Calls.mono (hP.at _) ?_; rintro e w' ⟨rfl, rfl⟩
                    go_wp2_with fail
                    refine Calls.mono (cT.at _) ?_; rintro e w1 ⟨rfl, hb⟩
                    go_wp2_with fail
                    refine Calls.mono (hW.at _) ?_; rintro e w' ⟨rfl, rfl⟩
                    go_wp2_with fail
                    refine Calls.mono (hS.at _) ?_; rintro e w' ⟨rfl, rfl⟩
                    go_wp2_with fail
                    refine Calls.mono (c10.at _) ?_; rintro e w' ⟨rfl, rfl⟩
                    go_wp2_with fail
                    refine Calls.mono (c6.at _) ?_; rintro e w' ⟨rfl, rfl⟩
                    go_wp2
                    go_ret
                    exact ⟨ret_int (by rw [HN.out, e1, E4.out]; rfl), hb⟩
              · have e1' : (k != c) = true := by rw [bne_comm]; exact e1
                go_enter Try.func20, Try.ntmps20
                go_wp2_with fail
                refine Calls.mono (c0.at _) ?_; rintro e w' ⟨rfl, rfl⟩
                go_wp2_with fail
                refine Calls.mono (cH.at _) ?_; rintro e w' ⟨rfl, rfl⟩
                go_wp2_with fail
                refine Calls.mono (cN.at _) ?_; rintro e w' ⟨rfl, rfl⟩
                go_wp2_with fail
                refine Calls.mono (hP.at _) ?_; rintro e w' ⟨rfl, rfl⟩
                go_wp2_with fail
                refine Calls.mono (cT.at _) ?_; rintro e w1 ⟨rfl, hb⟩
                go_wp2_with fail
                refine Calls.mono (hW.at _) ?_; rintro e w' ⟨rfl, rfl⟩
                go_wp2_with fail
                refine Calls.mono (hS.at _) ?_; rintro e w' ⟨rfl, rfl⟩
                go_wp2_with fail
                refine Calls.mono (c10.at _) ?_; rintro e w' ⟨rfl, rfl⟩
                go_wp2
                go_ret
                exact ⟨ret_int (by rw [HN.out, e1]; rfl), hb⟩
      · have k3' : (b0 / 16 != 4) = true := by simp [k3]
        have K3 : Hid _ := k3
        clear k3
        go_enter Try.func20, Try.ntmps20
        go_wp2_with fail
        refine Calls.mono (c0.at _) ?_; rintro e w' ⟨rfl, rfl⟩
        go_wp2
        go_ret
        exact ⟨ret_int (by rw [HR.out, if_neg (fun g => K3.out g.2.2.1)]), Below.refl _ _⟩

theorem header_any (s : ByteArray) (w : World) (hs : s.size ≤ maxLen) :
    Calls Try.prog 20 #[.string s] w fun e w' => e = .returned (.int .i64 (hdrv s)) ∧ Below w.heap.size w w' := by
  have hm := hs
  unfold maxLen at hm
  have hz := prt_size s 0 (hdv s)
  have g1 := (lg_bd s 12).2
  have g2 := (lg_bd s 16).2
  refine header_core s (prt s 0 (hdv s)) (w2 0) (blk (prt s 0 (hdv s)) 10) (bt s 0) (hdv s) (wd s 2) (hsv s) (wd s 10) (wd s 6) (lg s 12) (lg s 16) (usB (lg s 12)) (usB (lg s 16)) w
    (bt_bd s 0).1 (bt_bd s 0).2 (wd_bd s 6).1 (wd_bd s 6).2 (by omega) (fun w => number1 s 0 w hs (by decide) (by decide)) (fun w => head_any s w hs) (fun w => number2 s 2 w hs (by decide) (by decide))
    (fun g1 g2 g3 w => part_any s 0 _ w (by decide) (by omega)) (fun w => text2 0 w (by decide) (by decide)) (fun g1 g2 g3 g4 w => with_any _ _ 10 w (by decide) (by decide) (by omega) (by rw [w2_size]; decide))
    (fun g1 g2 g3 g4 w => refSum_any _ w (size_le (by rw [blk_size _ _ (by decide) (by omega)]; omega)))
    (fun w => number2 s 10 w hs (by decide) (by decide)) (fun w => number2 s 6 w hs (by decide) (by decide)) (fun w => number4 s 12 w hs (by decide) (by decide)) (fun w => refUsable_any _ w (by omega))
    (fun w => number4 s 16 w hs (by decide) (by decide)) (fun w => refUsable_any _ w (by omega)) (hdrv s) ?_
  unfold hdrv partB fitsB
  simp only [decide_eq_true_eq]
  rfl

set_option maxHeartbeats 1000000 in
theorem message_core (s b : ByteArray) (t p : Int) (w : World) (cB : Ret 22 #[.string s] (.string b)) (c0 : Ret 21 #[.string b, .int .i64 0, .int .i64 1] (.int .i64 t))
    (cP : Ret 21 #[.string s, .int .i64 9, .int .i64 1] (.int .i64 p)) (hp : (p == 1) = true) :
    Calls Try.prog 44 #[.string s] w fun e w' => e = .returned (.bool (errB t)) ∧ w' = w := by
  obtain ⟨r, hr⟩ : ∃ r : Bool, r = (t == 3 || (t == 11 || t == 12)) := ⟨_, rfl⟩
  have he : errB t = r := hr.symm
  rw [he]
  have HR : Hid _ := hr
  clear hr he
  cases e1 : (t == 3)
  · cases e2 : (t == 11)
    · cases e3 : (t == 12)
      · go_enter Try.func44, Try.ntmps44
        go_wp2_with fail
        refine Calls.mono (cB.at _) ?_; rintro e w' ⟨rfl, rfl⟩
        go_wp2_with fail
        refine Calls.mono (c0.at _) ?_; rintro e w' ⟨rfl, rfl⟩
        go_wp2_with fail
        refine Calls.mono (cP.at _) ?_; rintro e w' ⟨rfl, rfl⟩
        go_wp2
        go_ret
        exact ⟨ret_bool (by rw [HR.out, e1, e2, e3]; rfl), rfl⟩
      · go_enter Try.func44, Try.ntmps44
        go_wp2_with fail
        refine Calls.mono (cB.at _) ?_; rintro e w' ⟨rfl, rfl⟩
        go_wp2_with fail
        refine Calls.mono (c0.at _) ?_; rintro e w' ⟨rfl, rfl⟩
        go_wp2_with fail
        refine Calls.mono (cP.at _) ?_; rintro e w' ⟨rfl, rfl⟩
        go_wp2
        go_ret
        exact ⟨ret_bool (by rw [HR.out, e1, e2, e3]; rfl), rfl⟩
    · go_enter Try.func44, Try.ntmps44
      go_wp2_with fail
      refine Calls.mono (cB.at _) ?_; rintro e w' ⟨rfl, rfl⟩
      go_wp2_with fail
      refine Calls.mono (c0.at _) ?_; rintro e w' ⟨rfl, rfl⟩
      go_wp2_with fail
      refine Calls.mono (cP.at _) ?_; rintro e w' ⟨rfl, rfl⟩
      go_wp2
      go_ret
      exact ⟨ret_bool (by rw [HR.out, e1, e2]; rfl), rfl⟩
  · go_enter Try.func44, Try.ntmps44
    go_wp2_with fail
    refine Calls.mono (cB.at _) ?_; rintro e w' ⟨rfl, rfl⟩
    go_wp2_with fail
    refine Calls.mono (c0.at _) ?_; rintro e w' ⟨rfl, rfl⟩
    go_wp2_with fail
    refine Calls.mono (cP.at _) ?_; rintro e w' ⟨rfl, rfl⟩
    go_wp2
    go_ret
    exact ⟨ret_bool (by rw [HR.out, e1]; rfl), rfl⟩
end Go.Proofs.Ythiljpbodmajaaa
