/-
  CONTRACTS: package frames: quotes, UDP, TCP, ICMP, Check; natbox.Check.
-/
import Derived.Test.YthiljpbodmajaabGreatFrmc
namespace Go.Proofs.YthiljpbodmajaabGreat
open Go.RowKit Plain

set_option maxHeartbeats 2000000 in
theorem checkQuote_core (q : ByteArray) (v d x p t : Int) (rq rp : Bool) (w : World) (hq : q.size ≤ 65535) (d1 : 0 ≤ d) (d2 : d ≤ 60) (x1 : 0 ≤ x) (x2 : x < 65536)
    (cV : Ret 213 #[.string q] (.int .i64 v)) (cH : Ret 115 #[.string q] (.int .i64 d)) (cW : Ret 162 #[.string q, .int .i64 6] (.int .i64 x))
    (cP : Ret 77 #[.string q] (.int .i64 p)) (cB : Ret 79 #[.string q] (.int .i64 t))
    (cR : Ret 170 #[.int .i64 t] (.bool rq)) (cY : Ret 171 #[.int .i64 t] (.bool rp)) (r : Int)
    (hr : r = if 20 ≤ q.size ∧ v = 4 ∧ 20 ≤ d ∧ d + 8 ≤ (q.size : Int) then if x % 8192 != 0 then 5 else if p == 17 || p == 6 then 0 else if p == 1 then if rq || rp then 0 else 7 else 7 else 3) :
    Calls Tryz.prog 168 #[.string q] w fun e w' => e = .returned (.int .i64 r) ∧ w' = w := by
  have ha := and8191 x (by omega) (by omega)
  have HR : Hid _ := hr
  clear hr
  by_cases c1 : q.size < 20
  · go_enter Tryz.func168, Tryz.ntmps168
    go_wp2_with (first
      | (go_at_call 213; refine Calls.mono (cV.at _) ?_; rintro e w' ⟨rfl, rfl⟩)
      | (go_at_call 115; refine Calls.mono (cH.at _) ?_; rintro e w' ⟨rfl, rfl⟩)
      | (go_at_call 162; refine Calls.mono (cW.at _) ?_; rintro e w' ⟨rfl, rfl⟩)
      | (go_at_call 77; refine Calls.mono (cP.at _) ?_; rintro e w' ⟨rfl, rfl⟩)
      | (go_at_call 79; refine Calls.mono (cB.at _) ?_; rintro e w' ⟨rfl, rfl⟩)
      | (go_at_call 170; refine Calls.mono (cR.at _) ?_; rintro e w' ⟨rfl, rfl⟩)
      | (go_at_call 171; refine Calls.mono (cY.at _) ?_; rintro e w' ⟨rfl, rfl⟩))
    go_ret
    exact ⟨ret_int (by rw [HR.out, if_neg (by omega)]), rfl⟩
  · by_cases c2 : v = 4
    · have c2' : (v != 4) = false := by simp [c2]
      have C2 : Hid _ := c2
      clear c2
      by_cases c3 : d < 20
      · go_enter Tryz.func168, Tryz.ntmps168
        go_wp2_with (first
          | (go_at_call 213; refine Calls.mono (cV.at _) ?_; rintro e w' ⟨rfl, rfl⟩)
          | (go_at_call 115; refine Calls.mono (cH.at _) ?_; rintro e w' ⟨rfl, rfl⟩)
          | (go_at_call 162; refine Calls.mono (cW.at _) ?_; rintro e w' ⟨rfl, rfl⟩)
          | (go_at_call 77; refine Calls.mono (cP.at _) ?_; rintro e w' ⟨rfl, rfl⟩)
          | (go_at_call 79; refine Calls.mono (cB.at _) ?_; rintro e w' ⟨rfl, rfl⟩)
          | (go_at_call 170; refine Calls.mono (cR.at _) ?_; rintro e w' ⟨rfl, rfl⟩)
          | (go_at_call 171; refine Calls.mono (cY.at _) ?_; rintro e w' ⟨rfl, rfl⟩))
        go_ret
        exact ⟨ret_int (by rw [HR.out, if_neg (by omega)]), rfl⟩
      · by_cases c4 : (q.size : Int) < d + 8
        · go_enter Tryz.func168, Tryz.ntmps168
          go_wp2_with (first
            | (go_at_call 213; refine Calls.mono (cV.at _) ?_; rintro e w' ⟨rfl, rfl⟩)
            | (go_at_call 115; refine Calls.mono (cH.at _) ?_; rintro e w' ⟨rfl, rfl⟩)
            | (go_at_call 162; refine Calls.mono (cW.at _) ?_; rintro e w' ⟨rfl, rfl⟩)
            | (go_at_call 77; refine Calls.mono (cP.at _) ?_; rintro e w' ⟨rfl, rfl⟩)
            | (go_at_call 79; refine Calls.mono (cB.at _) ?_; rintro e w' ⟨rfl, rfl⟩)
            | (go_at_call 170; refine Calls.mono (cR.at _) ?_; rintro e w' ⟨rfl, rfl⟩)
            | (go_at_call 171; refine Calls.mono (cY.at _) ?_; rintro e w' ⟨rfl, rfl⟩))
          go_ret
          exact ⟨ret_int (by rw [HR.out, if_neg (by omega)]), rfl⟩
        · have g : 20 ≤ q.size ∧ v = 4 ∧ 20 ≤ d ∧ d + 8 ≤ (q.size : Int) := ⟨by omega, C2.out, by omega, by omega⟩
          have G : Hid _ := g
          clear g
          cases h1 : (x % 8192 != 0)
          · cases h2 : (p == 17)
            · cases h3 : (p == 6)
              · cases h4 : (p == 1)
                · go_enter Tryz.func168, Tryz.ntmps168
                  go_wp2_with (first
                    | (go_at_call 213; refine Calls.mono (cV.at _) ?_; rintro e w' ⟨rfl, rfl⟩)
                    | (go_at_call 115; refine Calls.mono (cH.at _) ?_; rintro e w' ⟨rfl, rfl⟩)
                    | (go_at_call 162; refine Calls.mono (cW.at _) ?_; rintro e w' ⟨rfl, rfl⟩)
                    | (go_at_call 77; refine Calls.mono (cP.at _) ?_; rintro e w' ⟨rfl, rfl⟩)
                    | (go_at_call 79; refine Calls.mono (cB.at _) ?_; rintro e w' ⟨rfl, rfl⟩)
                    | (go_at_call 170; refine Calls.mono (cR.at _) ?_; rintro e w' ⟨rfl, rfl⟩)
                    | (go_at_call 171; refine Calls.mono (cY.at _) ?_; rintro e w' ⟨rfl, rfl⟩))
                  go_ret
                  exact ⟨ret_int (by rw [HR.out, if_pos G.out, h1, h2, h3, h4]; rfl), rfl⟩
                · cases rq
                  · cases rp
                    · go_enter Tryz.func168, Tryz.ntmps168
                      go_wp2_with (first
                        | (go_at_call 213; refine Calls.mono (cV.at _) ?_; rintro e w' ⟨rfl, rfl⟩)
                        | (go_at_call 115; refine Calls.mono (cH.at _) ?_; rintro e w' ⟨rfl, rfl⟩)
                        | (go_at_call 162; refine Calls.mono (cW.at _) ?_; rintro e w' ⟨rfl, rfl⟩)
                        | (go_at_call 77; refine Calls.mono (cP.at _) ?_; rintro e w' ⟨rfl, rfl⟩)
                        | (go_at_call 79; refine Calls.mono (cB.at _) ?_; rintro e w' ⟨rfl, rfl⟩)
                        | (go_at_call 170; refine Calls.mono (cR.at _) ?_; rintro e w' ⟨rfl, rfl⟩)
                        | (go_at_call 171; refine Calls.mono (cY.at _) ?_; rintro e w' ⟨rfl, rfl⟩))
                      go_ret
                      exact ⟨ret_int (by rw [HR.out, if_pos G.out, h1, h2, h3, h4]; rfl), rfl⟩
                    · go_enter Tryz.func168, Tryz.ntmps168
                      go_wp2_with (first
                        | (go_at_call 213; refine Calls.mono (cV.at _) ?_; rintro e w' ⟨rfl, rfl⟩)
                        | (go_at_call 115; refine Calls.mono (cH.at _) ?_; rintro e w' ⟨rfl, rfl⟩)
                        | (go_at_call 162; refine Calls.mono (cW.at _) ?_; rintro e w' ⟨rfl, rfl⟩)
                        | (go_at_call 77; refine Calls.mono (cP.at _) ?_; rintro e w' ⟨rfl, rfl⟩)
                        | (go_at_call 79; refine Calls.mono (cB.at _) ?_; rintro e w' ⟨rfl, rfl⟩)
                        | (go_at_call 170; refine Calls.mono (cR.at _) ?_; rintro e w' ⟨rfl, rfl⟩)
                        | (go_at_call 171; refine Calls.mono (cY.at _) ?_; rintro e w' ⟨rfl, rfl⟩))
                      go_ret
                      exact ⟨ret_int (by rw [HR.out, if_pos G.out, h1, h2, h3, h4]; rfl), rfl⟩
                  · go_enter Tryz.func168, Tryz.ntmps168
                    go_wp2_with (first
                      | (go_at_call 213; refine Calls.mono (cV.at _) ?_; rintro e w' ⟨rfl, rfl⟩)
                      | (go_at_call 115; refine Calls.mono (cH.at _) ?_; rintro e w' ⟨rfl, rfl⟩)
                      | (go_at_call 162; refine Calls.mono (cW.at _) ?_; rintro e w' ⟨rfl, rfl⟩)
                      | (go_at_call 77; refine Calls.mono (cP.at _) ?_; rintro e w' ⟨rfl, rfl⟩)
                      | (go_at_call 79; refine Calls.mono (cB.at _) ?_; rintro e w' ⟨rfl, rfl⟩)
                      | (go_at_call 170; refine Calls.mono (cR.at _) ?_; rintro e w' ⟨rfl, rfl⟩)
                      | (go_at_call 171; refine Calls.mono (cY.at _) ?_; rintro e w' ⟨rfl, rfl⟩))
                    go_ret
                    exact ⟨ret_int (by rw [HR.out, if_pos G.out, h1, h2, h3, h4]; rfl), rfl⟩
              · go_enter Tryz.func168, Tryz.ntmps168
                go_wp2_with (first
                  | (go_at_call 213; refine Calls.mono (cV.at _) ?_; rintro e w' ⟨rfl, rfl⟩)
                  | (go_at_call 115; refine Calls.mono (cH.at _) ?_; rintro e w' ⟨rfl, rfl⟩)
                  | (go_at_call 162; refine Calls.mono (cW.at _) ?_; rintro e w' ⟨rfl, rfl⟩)
                  | (go_at_call 77; refine Calls.mono (cP.at _) ?_; rintro e w' ⟨rfl, rfl⟩)
                  | (go_at_call 79; refine Calls.mono (cB.at _) ?_; rintro e w' ⟨rfl, rfl⟩)
                  | (go_at_call 170; refine Calls.mono (cR.at _) ?_; rintro e w' ⟨rfl, rfl⟩)
                  | (go_at_call 171; refine Calls.mono (cY.at _) ?_; rintro e w' ⟨rfl, rfl⟩))
                go_ret
                exact ⟨ret_int (by rw [HR.out, if_pos G.out, h1, h2, h3]; rfl), rfl⟩
            · go_enter Tryz.func168, Tryz.ntmps168
              go_wp2_with (first
                | (go_at_call 213; refine Calls.mono (cV.at _) ?_; rintro e w' ⟨rfl, rfl⟩)
                | (go_at_call 115; refine Calls.mono (cH.at _) ?_; rintro e w' ⟨rfl, rfl⟩)
                | (go_at_call 162; refine Calls.mono (cW.at _) ?_; rintro e w' ⟨rfl, rfl⟩)
                | (go_at_call 77; refine Calls.mono (cP.at _) ?_; rintro e w' ⟨rfl, rfl⟩)
                | (go_at_call 79; refine Calls.mono (cB.at _) ?_; rintro e w' ⟨rfl, rfl⟩)
                | (go_at_call 170; refine Calls.mono (cR.at _) ?_; rintro e w' ⟨rfl, rfl⟩)
                | (go_at_call 171; refine Calls.mono (cY.at _) ?_; rintro e w' ⟨rfl, rfl⟩))
              go_ret
              exact ⟨ret_int (by rw [HR.out, if_pos G.out, h1, h2]; rfl), rfl⟩
          · go_enter Tryz.func168, Tryz.ntmps168
            go_wp2_with (first
              | (go_at_call 213; refine Calls.mono (cV.at _) ?_; rintro e w' ⟨rfl, rfl⟩)
              | (go_at_call 115; refine Calls.mono (cH.at _) ?_; rintro e w' ⟨rfl, rfl⟩)
              | (go_at_call 162; refine Calls.mono (cW.at _) ?_; rintro e w' ⟨rfl, rfl⟩)
              | (go_at_call 77; refine Calls.mono (cP.at _) ?_; rintro e w' ⟨rfl, rfl⟩)
              | (go_at_call 79; refine Calls.mono (cB.at _) ?_; rintro e w' ⟨rfl, rfl⟩)
              | (go_at_call 170; refine Calls.mono (cR.at _) ?_; rintro e w' ⟨rfl, rfl⟩)
              | (go_at_call 171; refine Calls.mono (cY.at _) ?_; rintro e w' ⟨rfl, rfl⟩))
            go_ret
            exact ⟨ret_int (by rw [HR.out, if_pos G.out, h1]; rfl), rfl⟩
    · have c2' : (v != 4) = true := by simp [c2]
      have C2 : Hid _ := c2
      clear c2
      go_enter Tryz.func168, Tryz.ntmps168
      go_wp2_with (first
        | (go_at_call 213; refine Calls.mono (cV.at _) ?_; rintro e w' ⟨rfl, rfl⟩)
        | (go_at_call 115; refine Calls.mono (cH.at _) ?_; rintro e w' ⟨rfl, rfl⟩)
        | (go_at_call 162; refine Calls.mono (cW.at _) ?_; rintro e w' ⟨rfl, rfl⟩)
        | (go_at_call 77; refine Calls.mono (cP.at _) ?_; rintro e w' ⟨rfl, rfl⟩)
        | (go_at_call 79; refine Calls.mono (cB.at _) ?_; rintro e w' ⟨rfl, rfl⟩)
        | (go_at_call 170; refine Calls.mono (cR.at _) ?_; rintro e w' ⟨rfl, rfl⟩)
        | (go_at_call 171; refine Calls.mono (cY.at _) ?_; rintro e w' ⟨rfl, rfl⟩))
      go_ret
      exact ⟨ret_int (by rw [HR.out, if_neg (fun g => C2.out g.2.1)]), rfl⟩

theorem checkQuote_any (q : ByteArray) (w : World) (hq : q.size ≤ 65535) :
    Calls Tryz.prog 168 #[.string q] w fun e w' => e = .returned (.int .i64 (quotev q)) ∧ w' = w :=
  checkQuote_core q (ver q) (hdv q) (wd q 6) (bt q 9) (bt q (hdv q)) _ _ w hq (hdv_bd q).1 (hdv_bd q).2 (wd_bd q 6).1 (wd_bd q 6).2
    (fun w => version_any q w (size_le hq)) (fun w => headerLength_any q w (size_le hq)) (fun w => word_any q 6 w (size_le hq) (by decide) (by decide))
    (fun w => protocol_any q w (size_le hq)) (fun w => icmpType_any q w (size_le hq)) (fun w => isRequest_any _ w) (fun w => isReply_any _ w) _ rfl

set_option maxHeartbeats 2000000 in
theorem checkUDP_core (s b : ByteArray) (l c k : Int) (w : World) (hb65 : b.size ≤ 65535) (l1 : 0 ≤ l) (l2 : l < 65536)
    (cB : Ret 164 #[.string s] (.string b)) (cW : Ret 162 #[.string b, .int .i64 4] (.int .i64 l)) (cX : Ret 162 #[.string b, .int .i64 6] (.int .i64 c))
    (cU : 8 ≤ l → l ≤ (b.size : Int) → RetB 165 #[.string s] (.int .i64 k)) :
    Calls Tryz.prog 106 #[.string s] w fun e w' => e = .returned (.int .i64 (ucase b.size l c k)) ∧ Below w.heap.size w w' := by
  by_cases c1 : b.size < 8
  · go_enter Tryz.func106, Tryz.ntmps106
    go_wp2_with fail
    refine Calls.mono (cB.at _) ?_; rintro e w' ⟨rfl, rfl⟩
    go_wp2
    go_ret
    exact ⟨ret_int (by unfold ucase; rw [if_pos c1]), Below.refl _ _⟩
  · by_cases c2 : l < 8
    · go_enter Tryz.func106, Tryz.ntmps106
      go_wp2_with fail
      refine Calls.mono (cB.at _) ?_; rintro e w' ⟨rfl, rfl⟩
      go_wp2_with fail
      refine Calls.mono (cW.at _) ?_; rintro e w' ⟨rfl, rfl⟩
      go_wp2
      go_ret
      exact ⟨ret_int (by unfold ucase; rw [if_neg c1, if_pos (.inl c2)]), Below.refl _ _⟩
    · by_cases c3 : (b.size : Int) < l
      · go_enter Tryz.func106, Tryz.ntmps106
        go_wp2_with fail
        refine Calls.mono (cB.at _) ?_; rintro e w' ⟨rfl, rfl⟩
        go_wp2_with fail
        refine Calls.mono (cW.at _) ?_; rintro e w' ⟨rfl, rfl⟩
        go_wp2
        go_ret
        exact ⟨ret_int (by unfold ucase; rw [if_neg c1, if_pos (.inr c3)]), Below.refl _ _⟩
      · have hU := cU (by omega) (by omega)
        clear cU
        cases e1 : (c != 0)
        · go_enter Tryz.func106, Tryz.ntmps106
          go_wp2_with fail
          refine Calls.mono (cB.at _) ?_; rintro e w' ⟨rfl, rfl⟩
          go_wp2_with fail
          refine Calls.mono (cW.at _) ?_; rintro e w' ⟨rfl, rfl⟩
          go_wp2_with fail
          refine Calls.mono (cX.at _) ?_; rintro e w' ⟨rfl, rfl⟩
          go_wp2
          go_ret
          exact ⟨ret_int (by unfold ucase; rw [if_neg c1, if_neg (by omega), e1]; rfl), Below.refl _ _⟩
        · cases e2 : (c != k)
          all_goals
            go_enter Tryz.func106, Tryz.ntmps106
            go_wp2_with fail
            refine Calls.mono (cB.at _) ?_; rintro e w' ⟨rfl, rfl⟩
            go_wp2_with fail
            refine Calls.mono (cW.at _) ?_; rintro e w' ⟨rfl, rfl⟩
            go_wp2_with fail
            refine Calls.mono (cX.at _) ?_; rintro e w' ⟨rfl, rfl⟩
            go_wp2_with fail
            refine Calls.mono (hU.at _) ?_; rintro e w1 ⟨rfl, hb⟩
            go_wp2
            go_ret
            exact ⟨ret_int (by unfold ucase; rw [if_neg c1, if_neg (by omega), e1, e2]; rfl), hb⟩
theorem checkUDP_fits (s : ByteArray) (w : World) (h : Fits s) :
    Calls Tryz.prog 106 #[.string s] w fun e w' => e = .returned (.int .i64 (udc s)) ∧ Below w.heap.size w w' := by
  have hz := bdy_size h
  have h1 := h.tn
  have h2 := h.n64
  have h3 := h.h20
  have hb65 : (bdy s).size ≤ 65535 := by omega
  exact checkUDP_core s (bdy s) (wd (bdy s) 4) (wd (bdy s) 6) _ w hb65 (wd_bd _ _).1 (wd_bd _ _).2 (fun w => body_fits s w h) (fun w => word_any _ 4 w (size_le hb65) (by decide) (by decide))
    (fun w => word_any _ 6 w (size_le hb65) (by decide) (by decide)) (fun g1 g2 w => udpSum_fits s w h g1 g2)

set_option maxHeartbeats 2000000 in
theorem checkTCP_core (s b : ByteArray) (d c k : Int) (w : World) (hb65 : b.size ≤ 65535) (l1 : 0 ≤ d) (l2 : d < 256)
    (cB : Ret 164 #[.string s] (.string b)) (cW : Ret 114 #[.string b, .int .i64 12] (.int .i64 d)) (cX : Ret 162 #[.string b, .int .i64 16] (.int .i64 c))
    (cU : 20 ≤ b.size → RetB 166 #[.string s] (.int .i64 k)) :
    Calls Tryz.prog 107 #[.string s] w fun e w' => e = .returned (.int .i64 (tcase b.size (d / 16 * 4) c k)) ∧ Below w.heap.size w w' := by
  by_cases c1 : b.size < 20
  · go_enter Tryz.func107, Tryz.ntmps107
    go_wp2_with fail
    refine Calls.mono (cB.at _) ?_; rintro e w' ⟨rfl, rfl⟩
    go_wp2
    go_ret
    exact ⟨ret_int (by unfold tcase; rw [if_pos c1]), Below.refl _ _⟩
  · have hU := cU (by omega)
    clear cU
    by_cases c2 : d / 16 * 4 < 20
    · go_enter Tryz.func107, Tryz.ntmps107
      go_wp2_with fail
      refine Calls.mono (cB.at _) ?_; rintro e w' ⟨rfl, rfl⟩
      go_wp2_with fail
      refine Calls.mono (cW.at _) ?_; rintro e w' ⟨rfl, rfl⟩
      go_wp2
      go_ret
      exact ⟨ret_int (by unfold tcase; rw [if_neg c1, if_pos (.inl c2)]), Below.refl _ _⟩
    · by_cases c3 : (b.size : Int) < d / 16 * 4
      · go_enter Tryz.func107, Tryz.ntmps107
        go_wp2_with fail
        refine Calls.mono (cB.at _) ?_; rintro e w' ⟨rfl, rfl⟩
        go_wp2_with fail
        refine Calls.mono (cW.at _) ?_; rintro e w' ⟨rfl, rfl⟩
        go_wp2
        go_ret
        exact ⟨ret_int (by unfold tcase; rw [if_neg c1, if_pos (.inr c3)]), Below.refl _ _⟩
      · cases e2 : (c != k)
        all_goals
          go_enter Tryz.func107, Tryz.ntmps107
          go_wp2_with fail
          refine Calls.mono (cB.at _) ?_; rintro e w' ⟨rfl, rfl⟩
          go_wp2_with fail
          refine Calls.mono (cW.at _) ?_; rintro e w' ⟨rfl, rfl⟩
          go_wp2_with fail
          refine Calls.mono (cX.at _) ?_; rintro e w' ⟨rfl, rfl⟩
          go_wp2_with fail
          refine Calls.mono (hU.at _) ?_; rintro e w1 ⟨rfl, hb⟩
          go_wp2
          go_ret
          exact ⟨ret_int (by unfold tcase; rw [if_neg c1, if_neg (by omega), e2]; rfl), hb⟩
theorem checkTCP_fits (s : ByteArray) (w : World) (h : Fits s) :
    Calls Tryz.prog 107 #[.string s] w fun e w' => e = .returned (.int .i64 (tcc s)) ∧ Below w.heap.size w w' := by
  have hz := bdy_size h
  have h1 := h.tn
  have h2 := h.n64
  have h3 := h.h20
  have hb65 : (bdy s).size ≤ 65535 := by omega
  exact checkTCP_core s (bdy s) (bt (bdy s) 12) (wd (bdy s) 16) _ w hb65 (bt_bd _ _).1 (bt_bd _ _).2 (fun w => body_fits s w h) (fun w => byte_any _ 12 w (size_le hb65))
    (fun w => word_any _ 16 w (size_le hb65) (by decide) (by decide)) (fun g1 w => tcpSum_fits s w h g1)
end Go.Proofs.YthiljpbodmajaabGreat
namespace Go.Proofs.YthiljpbodmajaabGreat
open Go.RowKit Plain

set_option maxHeartbeats 4000000 in
theorem checkICMP_core (s b q : ByteArray) (c k t d qv : Int) (er rq rp : Bool) (w : World) (hb65 : b.size ≤ 65535)
    (cB : Ret 164 #[.string s] (.string b)) (cC : Ret 162 #[.string b, .int .i64 2] (.int .i64 c)) (cU : 8 ≤ b.size → RetB 167 #[.string s] (.int .i64 k))
    (cT : 8 ≤ b.size → Ret 79 #[.string s] (.int .i64 t)) (cE : Ret 78 #[.int .i64 t] (.bool er))
    (cP : 8 ≤ b.size → Ret 169 #[.string b, .int .i64 8, .int .i64 b.size] (.string q)) (cQ : Ret 168 #[.string q] (.int .i64 qv))
    (cD : Ret 114 #[.string b, .int .i64 1] (.int .i64 d)) (cR : Ret 170 #[.int .i64 t] (.bool rq)) (cY : Ret 171 #[.int .i64 t] (.bool rp)) (r : Int)
    (hr : r = if b.size < 8 then 3 else if c != k then 4 else if er then qv else if d != 0 || !(rq || rp) then 7 else if (t == 13 || t == 14) && decide (b.size < 20) then 3 else 0) :
    Calls Tryz.prog 108 #[.string s] w fun e w' => e = .returned (.int .i64 r) ∧ Below w.heap.size w w' := by
  have HR : Hid _ := hr
  clear hr
  by_cases c1 : b.size < 8
  · go_enter Tryz.func108, Tryz.ntmps108
    go_wp2_with fail
    refine Calls.mono (cB.at _) ?_; rintro e w' ⟨rfl, rfl⟩
    go_wp2
    go_ret
    exact ⟨ret_int (by rw [HR.out, if_pos c1]), Below.refl _ _⟩
  · have hU := cU (by omega)
    have hP := cP (by omega)
    have hT := cT (by omega)
    have hn := HR.out
    rw [if_neg c1] at hn
    have HN : Hid _ := hn
    clear cU cP cT hn HR
    cases e1 : (c != k)
    · cases er
      · cases e2 : (d != 0)
        · cases rq
          · cases rp
            · go_enter Tryz.func108, Tryz.ntmps108
              go_wp2_with fail
              refine Calls.mono (cB.at _) ?_; rintro e w' ⟨rfl, rfl⟩
              go_wp2_with fail
              refine Calls.mono (cC.at _) ?_; rintro e w' ⟨rfl, rfl⟩
              go_wp2_with fail
              refine Calls.mono (hU.at _) ?_; rintro e w1 ⟨rfl, hb⟩
              go_wp2_with fail
              refine Calls.mono (hT.at _) ?_; rintro e w' ⟨rfl, rfl⟩
              go_wp2_with fail
              refine Calls.mono (cE.at _) ?_; rintro e w' ⟨rfl, rfl⟩
              go_wp2_with fail
              refine Calls.mono (cD.at _) ?_; rintro e w' ⟨rfl, rfl⟩
              go_wp2_with fail
              refine Calls.mono (cR.at _) ?_; rintro e w' ⟨rfl, rfl⟩
              go_wp2_with fail
              refine Calls.mono (cY.at _) ?_; rintro e w' ⟨rfl, rfl⟩
              go_wp2
              go_ret
              exact ⟨ret_int (by rw [HN.out, e1, e2]; rfl), hb⟩
            · by_cases e3 : t = 13
              · subst e3
                by_cases e5 : b.size < 20
                · go_enter Tryz.func108, Tryz.ntmps108
                  go_wp2_with fail
                  refine Calls.mono (cB.at _) ?_; rintro e w' ⟨rfl, rfl⟩
                  go_wp2_with fail
                  refine Calls.mono (cC.at _) ?_; rintro e w' ⟨rfl, rfl⟩
                  go_wp2_with fail
                  refine Calls.mono (hU.at _) ?_; rintro e w1 ⟨rfl, hb⟩
                  go_wp2_with fail
                  refine Calls.mono (hT.at _) ?_; rintro e w' ⟨rfl, rfl⟩
                  go_wp2_with fail
                  refine Calls.mono (cE.at _) ?_; rintro e w' ⟨rfl, rfl⟩
                  go_wp2_with fail
                  refine Calls.mono (cD.at _) ?_; rintro e w' ⟨rfl, rfl⟩
                  go_wp2_with fail
                  refine Calls.mono (cR.at _) ?_; rintro e w' ⟨rfl, rfl⟩
                  go_wp2_with fail
                  refine Calls.mono (cY.at _) ?_; rintro e w' ⟨rfl, rfl⟩
                  go_wp2
                  go_ret
                  exact ⟨ret_int (by rw [HN.out, e1, e2]; simp [e5]), hb⟩
                · go_enter Tryz.func108, Tryz.ntmps108
                  go_wp2_with fail
                  refine Calls.mono (cB.at _) ?_; rintro e w' ⟨rfl, rfl⟩
                  go_wp2_with fail
                  refine Calls.mono (cC.at _) ?_; rintro e w' ⟨rfl, rfl⟩
                  go_wp2_with fail
                  refine Calls.mono (hU.at _) ?_; rintro e w1 ⟨rfl, hb⟩
                  go_wp2_with fail
                  refine Calls.mono (hT.at _) ?_; rintro e w' ⟨rfl, rfl⟩
                  go_wp2_with fail
                  refine Calls.mono (cE.at _) ?_; rintro e w' ⟨rfl, rfl⟩
                  go_wp2_with fail
                  refine Calls.mono (cD.at _) ?_; rintro e w' ⟨rfl, rfl⟩
                  go_wp2_with fail
                  refine Calls.mono (cR.at _) ?_; rintro e w' ⟨rfl, rfl⟩
                  go_wp2_with fail
                  refine Calls.mono (cY.at _) ?_; rintro e w' ⟨rfl, rfl⟩
                  go_wp2
                  go_ret
                  exact ⟨ret_int (by rw [HN.out, e1, e2]; simp [e5]), hb⟩
              · have e3' : (t == 13) = false := by simpa using e3
                by_cases e4 : t = 14
                · subst e4
                  by_cases e5 : b.size < 20
                  · go_enter Tryz.func108, Tryz.ntmps108
                    go_wp2_with fail
                    refine Calls.mono (cB.at _) ?_; rintro e w' ⟨rfl, rfl⟩
                    go_wp2_with fail
                    refine Calls.mono (cC.at _) ?_; rintro e w' ⟨rfl, rfl⟩
                    go_wp2_with fail
                    refine Calls.mono (hU.at _) ?_; rintro e w1 ⟨rfl, hb⟩
                    go_wp2_with fail
                    refine Calls.mono (hT.at _) ?_; rintro e w' ⟨rfl, rfl⟩
                    go_wp2_with fail
                    refine Calls.mono (cE.at _) ?_; rintro e w' ⟨rfl, rfl⟩
                    go_wp2_with fail
                    refine Calls.mono (cD.at _) ?_; rintro e w' ⟨rfl, rfl⟩
                    go_wp2_with fail
                    refine Calls.mono (cR.at _) ?_; rintro e w' ⟨rfl, rfl⟩
                    go_wp2_with fail
                    refine Calls.mono (cY.at _) ?_; rintro e w' ⟨rfl, rfl⟩
                    go_wp2
                    go_ret
                    exact ⟨ret_int (by rw [HN.out, e1, e2]; simp [e5]), hb⟩
                  · go_enter Tryz.func108, Tryz.ntmps108
                    go_wp2_with fail
                    refine Calls.mono (cB.at _) ?_; rintro e w' ⟨rfl, rfl⟩
                    go_wp2_with fail
                    refine Calls.mono (cC.at _) ?_; rintro e w' ⟨rfl, rfl⟩
                    go_wp2_with fail
                    refine Calls.mono (hU.at _) ?_; rintro e w1 ⟨rfl, hb⟩
                    go_wp2_with fail
                    refine Calls.mono (hT.at _) ?_; rintro e w' ⟨rfl, rfl⟩
                    go_wp2_with fail
                    refine Calls.mono (cE.at _) ?_; rintro e w' ⟨rfl, rfl⟩
                    go_wp2_with fail
                    refine Calls.mono (cD.at _) ?_; rintro e w' ⟨rfl, rfl⟩
                    go_wp2_with fail
                    refine Calls.mono (cR.at _) ?_; rintro e w' ⟨rfl, rfl⟩
                    go_wp2_with fail
                    refine Calls.mono (cY.at _) ?_; rintro e w' ⟨rfl, rfl⟩
                    go_wp2
                    go_ret
                    exact ⟨ret_int (by rw [HN.out, e1, e2]; simp [e5]), hb⟩
                · have e4' : (t == 14) = false := by simpa using e4
                  have E3 : Hid _ := e3
                  have E4 : Hid _ := e4
                  clear e3 e4
                  go_enter Tryz.func108, Tryz.ntmps108
                  go_wp2_with fail
                  refine Calls.mono (cB.at _) ?_; rintro e w' ⟨rfl, rfl⟩
                  go_wp2_with fail
                  refine Calls.mono (cC.at _) ?_; rintro e w' ⟨rfl, rfl⟩
                  go_wp2_with fail
                  refine Calls.mono (hU.at _) ?_; rintro e w1 ⟨rfl, hb⟩
                  go_wp2_with fail
                  refine Calls.mono (hT.at _) ?_; rintro e w' ⟨rfl, rfl⟩
                  go_wp2_with fail
                  refine Calls.mono (cE.at _) ?_; rintro e w' ⟨rfl, rfl⟩
                  go_wp2_with fail
                  refine Calls.mono (cD.at _) ?_; rintro e w' ⟨rfl, rfl⟩
                  go_wp2_with fail
                  refine Calls.mono (cR.at _) ?_; rintro e w' ⟨rfl, rfl⟩
                  go_wp2_with fail
                  refine Calls.mono (cY.at _) ?_; rintro e w' ⟨rfl, rfl⟩
                  go_wp2
                  go_ret
                  exact ⟨ret_int (by rw [HN.out, e1, e2, e3', e4']; rfl), hb⟩
          · by_cases e3 : t = 13
            · subst e3
              by_cases e5 : b.size < 20
              · go_enter Tryz.func108, Tryz.ntmps108
                go_wp2_with fail
                refine Calls.mono (cB.at _) ?_; rintro e w' ⟨rfl, rfl⟩
                go_wp2_with fail
                refine Calls.mono (cC.at _) ?_; rintro e w' ⟨rfl, rfl⟩
                go_wp2_with fail
                refine Calls.mono (hU.at _) ?_; rintro e w1 ⟨rfl, hb⟩
                go_wp2_with fail
                refine Calls.mono (hT.at _) ?_; rintro e w' ⟨rfl, rfl⟩
                go_wp2_with fail
                refine Calls.mono (cE.at _) ?_; rintro e w' ⟨rfl, rfl⟩
                go_wp2_with fail
                refine Calls.mono (cD.at _) ?_; rintro e w' ⟨rfl, rfl⟩
                go_wp2_with fail
                refine Calls.mono (cR.at _) ?_; rintro e w' ⟨rfl, rfl⟩
                go_wp2
                go_ret
                exact ⟨ret_int (by rw [HN.out, e1, e2]; simp [e5]), hb⟩
              · go_enter Tryz.func108, Tryz.ntmps108
                go_wp2_with fail
                refine Calls.mono (cB.at _) ?_; rintro e w' ⟨rfl, rfl⟩
                go_wp2_with fail
                refine Calls.mono (cC.at _) ?_; rintro e w' ⟨rfl, rfl⟩
                go_wp2_with fail
                refine Calls.mono (hU.at _) ?_; rintro e w1 ⟨rfl, hb⟩
                go_wp2_with fail
                refine Calls.mono (hT.at _) ?_; rintro e w' ⟨rfl, rfl⟩
                go_wp2_with fail
                refine Calls.mono (cE.at _) ?_; rintro e w' ⟨rfl, rfl⟩
                go_wp2_with fail
                refine Calls.mono (cD.at _) ?_; rintro e w' ⟨rfl, rfl⟩
                go_wp2_with fail
                refine Calls.mono (cR.at _) ?_; rintro e w' ⟨rfl, rfl⟩
                go_wp2
                go_ret
                exact ⟨ret_int (by rw [HN.out, e1, e2]; simp [e5]), hb⟩
            · have e3' : (t == 13) = false := by simpa using e3
              by_cases e4 : t = 14
              · subst e4
                by_cases e5 : b.size < 20
                · go_enter Tryz.func108, Tryz.ntmps108
                  go_wp2_with fail
                  refine Calls.mono (cB.at _) ?_; rintro e w' ⟨rfl, rfl⟩
                  go_wp2_with fail
                  refine Calls.mono (cC.at _) ?_; rintro e w' ⟨rfl, rfl⟩
                  go_wp2_with fail
                  refine Calls.mono (hU.at _) ?_; rintro e w1 ⟨rfl, hb⟩
                  go_wp2_with fail
                  refine Calls.mono (hT.at _) ?_; rintro e w' ⟨rfl, rfl⟩
                  go_wp2_with fail
                  refine Calls.mono (cE.at _) ?_; rintro e w' ⟨rfl, rfl⟩
                  go_wp2_with fail
                  refine Calls.mono (cD.at _) ?_; rintro e w' ⟨rfl, rfl⟩
                  go_wp2_with fail
                  refine Calls.mono (cR.at _) ?_; rintro e w' ⟨rfl, rfl⟩
                  go_wp2
                  go_ret
                  exact ⟨ret_int (by rw [HN.out, e1, e2]; simp [e5]), hb⟩
                · go_enter Tryz.func108, Tryz.ntmps108
                  go_wp2_with fail
                  refine Calls.mono (cB.at _) ?_; rintro e w' ⟨rfl, rfl⟩
                  go_wp2_with fail
                  refine Calls.mono (cC.at _) ?_; rintro e w' ⟨rfl, rfl⟩
                  go_wp2_with fail
                  refine Calls.mono (hU.at _) ?_; rintro e w1 ⟨rfl, hb⟩
                  go_wp2_with fail
                  refine Calls.mono (hT.at _) ?_; rintro e w' ⟨rfl, rfl⟩
                  go_wp2_with fail
                  refine Calls.mono (cE.at _) ?_; rintro e w' ⟨rfl, rfl⟩
                  go_wp2_with fail
                  refine Calls.mono (cD.at _) ?_; rintro e w' ⟨rfl, rfl⟩
                  go_wp2_with fail
                  refine Calls.mono (cR.at _) ?_; rintro e w' ⟨rfl, rfl⟩
                  go_wp2
                  go_ret
                  exact ⟨ret_int (by rw [HN.out, e1, e2]; simp [e5]), hb⟩
              · have e4' : (t == 14) = false := by simpa using e4
                have E3 : Hid _ := e3
                have E4 : Hid _ := e4
                clear e3 e4
                go_enter Tryz.func108, Tryz.ntmps108
                go_wp2_with fail
                refine Calls.mono (cB.at _) ?_; rintro e w' ⟨rfl, rfl⟩
                go_wp2_with fail
                refine Calls.mono (cC.at _) ?_; rintro e w' ⟨rfl, rfl⟩
                go_wp2_with fail
                refine Calls.mono (hU.at _) ?_; rintro e w1 ⟨rfl, hb⟩
                go_wp2_with fail
                refine Calls.mono (hT.at _) ?_; rintro e w' ⟨rfl, rfl⟩
                go_wp2_with fail
                refine Calls.mono (cE.at _) ?_; rintro e w' ⟨rfl, rfl⟩
                go_wp2_with fail
                refine Calls.mono (cD.at _) ?_; rintro e w' ⟨rfl, rfl⟩
                go_wp2_with fail
                refine Calls.mono (cR.at _) ?_; rintro e w' ⟨rfl, rfl⟩
                go_wp2
                go_ret
                exact ⟨ret_int (by rw [HN.out, e1, e2, e3', e4']; rfl), hb⟩
        · go_enter Tryz.func108, Tryz.ntmps108
          go_wp2_with fail
          refine Calls.mono (cB.at _) ?_; rintro e w' ⟨rfl, rfl⟩
          go_wp2_with fail
          refine Calls.mono (cC.at _) ?_; rintro e w' ⟨rfl, rfl⟩
          go_wp2_with fail
          refine Calls.mono (hU.at _) ?_; rintro e w1 ⟨rfl, hb⟩
          go_wp2_with fail
          refine Calls.mono (hT.at _) ?_; rintro e w' ⟨rfl, rfl⟩
          go_wp2_with fail
          refine Calls.mono (cE.at _) ?_; rintro e w' ⟨rfl, rfl⟩
          go_wp2_with fail
          refine Calls.mono (cD.at _) ?_; rintro e w' ⟨rfl, rfl⟩
          go_wp2
          go_ret
          exact ⟨ret_int (by rw [HN.out, e1, e2]; rfl), hb⟩
      · go_enter Tryz.func108, Tryz.ntmps108
        go_wp2_with fail
        refine Calls.mono (cB.at _) ?_; rintro e w' ⟨rfl, rfl⟩
        go_wp2_with fail
        refine Calls.mono (cC.at _) ?_; rintro e w' ⟨rfl, rfl⟩
        go_wp2_with fail
        refine Calls.mono (hU.at _) ?_; rintro e w1 ⟨rfl, hb⟩
        go_wp2_with fail
        refine Calls.mono (hT.at _) ?_; rintro e w' ⟨rfl, rfl⟩
        go_wp2_with fail
        refine Calls.mono (cE.at _) ?_; rintro e w' ⟨rfl, rfl⟩
        go_wp2_with fail
        refine Calls.mono (hP.at _) ?_; rintro e w' ⟨rfl, rfl⟩
        go_wp2_with fail
        refine Calls.mono (cQ.at _) ?_; rintro e w' ⟨rfl, rfl⟩
        go_wp2
        go_ret
        exact ⟨ret_int (by rw [HN.out, e1]; rfl), hb⟩
    · go_enter Tryz.func108, Tryz.ntmps108
      go_wp2_with fail
      refine Calls.mono (cB.at _) ?_; rintro e w' ⟨rfl, rfl⟩
      go_wp2_with fail
      refine Calls.mono (cC.at _) ?_; rintro e w' ⟨rfl, rfl⟩
      go_wp2_with fail
      refine Calls.mono (hU.at _) ?_; rintro e w1 ⟨rfl, hb⟩
      go_wp2
      go_ret
      exact ⟨ret_int (by rw [HN.out, e1]; rfl), hb⟩

theorem checkICMP_fits (s : ByteArray) (w : World) (h : Fits s) :
    Calls Tryz.prog 108 #[.string s] w fun e w' => e = .returned (.int .i64 (icv (bdy s))) ∧ Below w.heap.size w w' := by
  have hz := bdy_size h
  have h1 := h.tn
  have h2 := h.n64
  have h3 := h.h20
  have hb65 : (bdy s).size ≤ 65535 := by omega
  have hq := prt_le (bdy s) 8 (bdy s).size
  exact checkICMP_core s (bdy s) (prt (bdy s) 8 (bdy s).size) (wd (bdy s) 2) (sumv (blk (bdy s) 2)) (bt (bdy s) 0) (bt (bdy s) 1) _ _ _ _ w hb65 (fun w => body_fits s w h) (fun w => word_any _ 2 w (size_le hb65) (by decide) (by decide))
    (fun g1 w => icmpSum_fits s w h g1) (fun g1 w => by rw [bdy_bt0 h g1]; exact icmpType_any s w (size_le h2)) (fun w => isError_any _ w) (fun g w => octPart_in _ _ _ w (by decide) (by omega) (by omega))
    (fun w => checkQuote_any _ w (by omega)) (fun w => byte_any _ 1 w (size_le hb65)) (fun w => isRequest_any _ w) (fun w => isReply_any _ w) _ rfl

set_option maxHeartbeats 2000000 in
theorem check_core (s : ByteArray) (h p u t i : Int) (w : World)
    (cH : RetB 105 #[.string s] (.int .i64 h)) (cP : Ret 77 #[.string s] (.int .i64 p))
    (cU : h = 0 → RetB 106 #[.string s] (.int .i64 u)) (cT : h = 0 → RetB 107 #[.string s] (.int .i64 t)) (cI : h = 0 → RetB 108 #[.string s] (.int .i64 i)) (r : Int)
    (hr : r = if h = 0 then if p = 17 then u else if p = 6 then t else if p = 1 then i else 7 else h) :
    Calls Tryz.prog 68 #[.string s] w fun e w' => e = .returned (.int .i64 r) ∧ Below w.heap.size w w' := by
  have HR : Hid _ := hr
  clear hr
  by_cases c0 : h = 0
  · have hU := cU c0
    have hT := cT c0
    have hI := cI c0
    clear cU cT cI
    subst c0
    by_cases c1 : p = 17
    · subst c1
      go_enter Tryz.func68, Tryz.ntmps68
      go_wp2_with fail
      refine Calls.mono (cH.at _) ?_; rintro e w1 ⟨rfl, hb1⟩
      go_wp2_with fail
      refine Calls.mono (cP.at _) ?_; rintro e w' ⟨rfl, rfl⟩
      go_wp2_with fail
      refine Calls.mono (hU.at _) ?_; rintro e w2 ⟨rfl, hb2⟩
      go_wp2
      go_ret
      exact ⟨ret_int (by rw [HR.out]; rfl), hb1.trans (hb2.mono hb1.size)⟩
    · have c1' : (p == 17) = false := by simpa using c1
      by_cases c2 : p = 6
      · subst c2
        go_enter Tryz.func68, Tryz.ntmps68
        go_wp2_with fail
        refine Calls.mono (cH.at _) ?_; rintro e w1 ⟨rfl, hb1⟩
        go_wp2_with fail
        refine Calls.mono (cP.at _) ?_; rintro e w' ⟨rfl, rfl⟩
        go_wp2_with fail
        refine Calls.mono (hT.at _) ?_; rintro e w2 ⟨rfl, hb2⟩
        go_wp2
        go_ret
        exact ⟨ret_int (by rw [HR.out]; rfl), hb1.trans (hb2.mono hb1.size)⟩
      · have c2' : (p == 6) = false := by simpa using c2
        by_cases c3 : p = 1
        · subst c3
          go_enter Tryz.func68, Tryz.ntmps68
          go_wp2_with fail
          refine Calls.mono (cH.at _) ?_; rintro e w1 ⟨rfl, hb1⟩
          go_wp2_with fail
          refine Calls.mono (cP.at _) ?_; rintro e w' ⟨rfl, rfl⟩
          go_wp2_with fail
          refine Calls.mono (hI.at _) ?_; rintro e w2 ⟨rfl, hb2⟩
          go_wp2
          go_ret
          exact ⟨ret_int (by rw [HR.out]; rfl), hb1.trans (hb2.mono hb1.size)⟩
        · have c3' : (p == 1) = false := by simpa using c3
          have C1 : Hid _ := c1
          have C2 : Hid _ := c2
          have C3 : Hid _ := c3
          clear c1 c2 c3
          go_enter Tryz.func68, Tryz.ntmps68
          go_wp2_with fail
          refine Calls.mono (cH.at _) ?_; rintro e w1 ⟨rfl, hb1⟩
          go_wp2_with fail
          refine Calls.mono (cP.at _) ?_; rintro e w' ⟨rfl, rfl⟩
          go_wp2
          go_ret
          exact ⟨ret_int (by rw [HR.out, if_pos trivial, if_neg C1.out, if_neg C2.out, if_neg C3.out]), hb1⟩
  · have c0' : (h != 0) = true := by simpa using c0
    have C0 : Hid _ := c0
    clear c0
    go_enter Tryz.func68, Tryz.ntmps68
    go_wp2_with fail
    refine Calls.mono (cH.at _) ?_; rintro e w1 ⟨rfl, hb1⟩
    go_wp2
    go_ret
    exact ⟨ret_int (by rw [HR.out, if_neg C0.out]), hb1⟩
theorem hdrv_fits {s : ByteArray} (h : hdrv s = 0) : Fits s := by
  apply fits_of
  cases hf : fitsB s
  · simp [hdrv, hf] at h
  · rfl
theorem framesCheck_any (s : ByteArray) (w : World) (hs : s.size ≤ maxLen) :
    Calls Tryz.prog 68 #[.string s] w fun e w' => e = .returned (.int .i64 (chk s)) ∧ Below w.heap.size w w' :=
  check_core s (hdrv s) (bt s 9) (udc s) (tcc s) (icv (bdy s)) w (fun w => checkHeader_any s w hs) (fun w => protocol_any s w hs)
    (fun h w => checkUDP_fits s w (hdrv_fits h)) (fun h w => checkTCP_fits s w (hdrv_fits h)) (fun h w => checkICMP_fits s w (hdrv_fits h)) _ rfl
theorem boxCheck_any (s : ByteArray) (w : World) (hs : s.size ≤ maxLen) :
    Calls Tryz.prog 35 #[.string s] w fun e w' => e = .returned (.int .i64 (chk s)) ∧ Below w.heap.size w w' := by
  have hc := framesCheck_any s
  generalize chk s = c at hc ⊢
  have HC : Hid _ := hc
  clear hc
  go_enter Tryz.func35, Tryz.ntmps35
  go_wp2_with fail
  refine Calls.mono (Hid.out HC _ hs) ?_; rintro e w1 ⟨rfl, hb1⟩
  go_wp2
  go_ret
  exact ⟨rfl, hb1⟩
end Go.Proofs.YthiljpbodmajaabGreat
