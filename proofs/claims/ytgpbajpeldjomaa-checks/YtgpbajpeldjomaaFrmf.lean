/-
  CONTRACTS: package frames: ICMP, Check; natbox.Check.
-/
import Derived.Test.YtgpbajpeldjomaaFrme
namespace Go.Proofs.Ytgpbajpeldjomaa
open Go.RowKit Plain

set_option maxHeartbeats 4000000 in
theorem checkICMP_core (s b q : ByteArray) (c k t d qv : Int) (er rq rp : Bool) (w : World) (hb65 : b.size ≤ 65535)
    (cB : Ret 55 #[.string s] (.string b)) (cC : Ret 31 #[.string b, .int .i64 2] (.int .i64 c)) (cU : 8 ≤ b.size → RetB 58 #[.string s] (.int .i64 k))
    (cT : 8 ≤ b.size → Ret 59 #[.string s] (.int .i64 t)) (cE : Ret 60 #[.int .i64 t] (.bool er))
    (cP : 8 ≤ b.size → Ret 62 #[.string b, .int .i64 8, .int .i64 b.size] (.string q)) (cQ : Ret 61 #[.string q] (.int .i64 qv))
    (cD : Ret 49 #[.string b, .int .i64 1] (.int .i64 d)) (cR : Ret 63 #[.int .i64 t] (.bool rq)) (cY : Ret 64 #[.int .i64 t] (.bool rp)) (r : Int)
    (hr : r = if b.size < 8 then 3 else if c != k then 4 else if er then qv else if d != 0 || !(rq || rp) then 7 else if (t == 13 || t == 14) && decide (b.size < 20) then 3 else 0) :
    Calls Try.prog 38 #[.string s] w fun e w' => e = .returned (.int .i64 r) ∧ Below w.heap.size w w' := by
  have HR : Hid _ := hr
  clear hr
  by_cases c1 : b.size < 8
  · go_enter Try.func38, Try.ntmps38
    go_wp2_with fail
    refine Calls.mono (cB.at _) ?_; rintro e w' ⟨rfl, rfl⟩
    go_wp2
    go_ret
    exact ⟨ret_int (by rw [HR.out, if_pos c1]), Below.refl _ _⟩
  · have hU := cU (by omega)
    have hP := cP (by omega)
    have hT := cT (by omega)
    have hn := HR.out
    rw [if_neg c1] at hn
    have HN : Hid _ := hn
    clear cU cP cT hn HR
    cases e1 : (c != k)
    · cases er
      · cases e2 : (d != 0)
        · cases rq
          · cases rp
            · go_enter Try.func38, Try.ntmps38
              go_wp2_with fail
              refine Calls.mono (cB.at _) ?_; rintro e w' ⟨rfl, rfl⟩
              go_wp2_with fail
              refine Calls.mono (cC.at _) ?_; rintro e w' ⟨rfl, rfl⟩
              go_wp2_with fail
              refine Calls.mono (hU.at _) ?_; rintro e w1 ⟨rfl, hb⟩
              go_wp2_with fail
              refine Calls.mono (hT.at _) ?_; rintro e w' ⟨rfl, rfl⟩
              go_wp2_with fail
              refine Calls.mono (cE.at _) ?_; rintro e w' ⟨rfl, rfl⟩
              go_wp2_with fail
              refine Calls.mono (cD.at _) ?_; rintro e w' ⟨rfl, rfl⟩
              go_wp2_with fail
              refine Calls.mono (cR.at _) ?_; rintro e w' ⟨rfl, rfl⟩
              go_wp2_with fail
              refine Calls.mono (cY.at _) ?_; rintro e w' ⟨rfl, rfl⟩
              go_wp2
              go_ret
              exact ⟨ret_int (by rw [HN.out, e1, e2]; rfl), hb⟩
            · by_cases e3 : t = 13
              · subst e3
                by_cases e5 : b.size < 20
                · go_enter Try.func38, Try.ntmps38
                  go_wp2_with fail
                  refine Calls.mono (cB.at _) ?_; rintro e w' ⟨rfl, rfl⟩
                  go_wp2_with fail
                  refine Calls.mono (cC.at _) ?_; rintro e w' ⟨rfl, rfl⟩
                  go_wp2_with fail
                  refine Calls.mono (hU.at _) ?_; rintro e w1 ⟨rfl, hb⟩
                  go_wp2_with fail
                  refine Calls.mono (hT.at _) ?_; rintro e w' ⟨rfl, rfl⟩
                  go_wp2_with fail
                  refine Calls.mono (cE.at _) ?_; rintro e w' ⟨rfl, rfl⟩
                  go_wp2_with fail
                  refine Calls.mono (cD.at _) ?_; rintro e w' ⟨rfl, rfl⟩
                  go_wp2_with fail
                  refine Calls.mono (cR.at _) ?_; rintro e w' ⟨rfl, rfl⟩
                  go_wp2_with fail
                  refine Calls.mono (cY.at _) ?_; rintro e w' ⟨rfl, rfl⟩
                  go_wp2
                  go_ret
                  exact ⟨ret_int (by rw [HN.out, e1, e2]; simp [e5]), hb⟩
                · go_enter Try.func38, Try.ntmps38
                  go_wp2_with fail
                  refine Calls.mono (cB.at _) ?_; rintro e w' ⟨rfl, rfl⟩
                  go_wp2_with fail
                  refine Calls.mono (cC.at _) ?_; rintro e w' ⟨rfl, rfl⟩
                  go_wp2_with fail
                  refine Calls.mono (hU.at _) ?_; rintro e w1 ⟨rfl, hb⟩
                  go_wp2_with fail
                  refine Calls.mono (hT.at _) ?_; rintro e w' ⟨rfl, rfl⟩
                  go_wp2_with fail
                  refine Calls.mono (cE.at _) ?_; rintro e w' ⟨rfl, rfl⟩
                  go_wp2_with fail
                  refine Calls.mono (cD.at _) ?_; rintro e w' ⟨rfl, rfl⟩
                  go_wp2_with fail
                  refine Calls.mono (cR.at _) ?_; rintro e w' ⟨rfl, rfl⟩
                  go_wp2_with fail
                  refine Calls.mono (cY.at _) ?_; rintro e w' ⟨rfl, rfl⟩
                  go_wp2
                  go_ret
                  exact ⟨ret_int (by rw [HN.out, e1, e2]; simp [e5]), hb⟩
              · have e3' : (t == 13) = false := by simpa using e3
                by_cases e4 : t = 14
                · subst e4
                  by_cases e5 : b.size < 20
                  · go_enter Try.func38, Try.ntmps38
                    go_wp2_with fail
                    refine Calls.mono (cB.at _) ?_; rintro e w' ⟨rfl, rfl⟩
                    go_wp2_with fail
                    refine Calls.mono (cC.at _) ?_; rintro e w' ⟨rfl, rfl⟩
                    go_wp2_with fail
                    refine Calls.mono (hU.at _) ?_; rintro e w1 ⟨rfl, hb⟩
                    go_wp2_with fail
                    refine Calls.mono (hT.at _) ?_; rintro e w' ⟨rfl, rfl⟩
                    go_wp2_with fail
                    refine Calls.mono (cE.at _) ?_; rintro e w' ⟨rfl, rfl⟩
                    go_wp2_with fail
                    refine Calls.mono (cD.at _) ?_; rintro e w' ⟨rfl, rfl⟩
                    go_wp2_with fail
                    refine Calls.mono (cR.at _) ?_; rintro e w' ⟨rfl, rfl⟩
                    go_wp2_with fail
                    refine Calls.mono (cY.at _) ?_; rintro e w' ⟨rfl, rfl⟩
                    go_wp2
                    go_ret
                    exact ⟨ret_int (by rw [HN.out, e1, e2]; simp [e5]), hb⟩
                  · go_enter Try.func38, Try.ntmps38
                    go_wp2_with fail
                    refine Calls.mono (cB.at _) ?_; rintro e w' ⟨rfl, rfl⟩
                    go_wp2_with fail
                    refine Calls.mono (cC.at _) ?_; rintro e w' ⟨rfl, rfl⟩
                    go_wp2_with fail
                    refine Calls.mono (hU.at _) ?_; rintro e w1 ⟨rfl, hb⟩
                    go_wp2_with fail
                    refine Calls.mono (hT.at _) ?_; rintro e w' ⟨rfl, rfl⟩
                    go_wp2_with fail
                    refine Calls.mono (cE.at _) ?_; rintro e w' ⟨rfl, rfl⟩
                    go_wp2_with fail
                    refine Calls.mono (cD.at _) ?_; rintro e w' ⟨rfl, rfl⟩
                    go_wp2_with fail
                    refine Calls.mono (cR.at _) ?_; rintro e w' ⟨rfl, rfl⟩
                    go_wp2_with fail
                    refine Calls.mono (cY.at _) ?_; rintro e w' ⟨rfl, rfl⟩
                    go_wp2
                    go_ret
                    exact ⟨ret_int (by rw [HN.out, e1, e2]; simp [e5]), hb⟩
                · have e4' : (t == 14) = false := by simpa using e4
                  have E3 : Hid _ := e3
                  have E4 : Hid _ := e4
                  clear e3 e4
                  go_enter Try.func38, Try.ntmps38
                  go_wp2_with fail
                  refine Calls.mono (cB.at _) ?_; rintro e w' ⟨rfl, rfl⟩
                  go_wp2_with fail
                  refine Calls.mono (cC.at _) ?_; rintro e w' ⟨rfl, rfl⟩
                  go_wp2_with fail
                  refine Calls.mono (hU.at _) ?_; rintro e w1 ⟨rfl, hb⟩
                  go_wp2_with fail
                  refine Calls.mono (hT.at _) ?_; rintro e w' ⟨rfl, rfl⟩
                  go_wp2_with fail
                  refine Calls.mono (cE.at _) ?_; rintro e w' ⟨rfl, rfl⟩
                  go_wp2_with fail
                  refine Calls.mono (cD.at _) ?_; rintro e w' ⟨rfl, rfl⟩
                  go_wp2_with fail
                  refine Calls.mono (cR.at _) ?_; rintro e w' ⟨rfl, rfl⟩
                  go_wp2_with fail
                  refine Calls.mono (cY.at _) ?_; rintro e w' ⟨rfl, rfl⟩
                  go_wp2
                  go_ret
                  exact ⟨ret_int (by rw [HN.out, e1, e2, e3', e4']; rfl), hb⟩
          · by_cases e3 : t = 13
            · subst e3
              by_cases e5 : b.size < 20
              · go_enter Try.func38, Try.ntmps38
                go_wp2_with fail
                refine Calls.mono (cB.at _) ?_; rintro e w' ⟨rfl, rfl⟩
                go_wp2_with fail
                refine Calls.mono (cC.at _) ?_; rintro e w' ⟨rfl, rfl⟩
                go_wp2_with fail
                refine Calls.mono (hU.at _) ?_; rintro e w1 ⟨rfl, hb⟩
                go_wp2_with fail
                refine Calls.mono (hT.at _) ?_; rintro e w' ⟨rfl, rfl⟩
                go_wp2_with fail
                refine Calls.mono (cE.at _) ?_; rintro e w' ⟨rfl, rfl⟩
                go_wp2_with fail
                refine Calls.mono (cD.at _) ?_; rintro e w' ⟨rfl, rfl⟩
                go_wp2_with fail
                refine Calls.mono (cR.at _) ?_; rintro e w' ⟨rfl, rfl⟩
                go_wp2
                go_ret
                exact ⟨ret_int (by rw [HN.out, e1, e2]; simp [e5]), hb⟩
              · go_enter Try.func38, Try.ntmps38
                go_wp2_with fail
                refine Calls.mono (cB.at _) ?_; rintro e w' ⟨rfl, rfl⟩
                go_wp2_with fail
                refine Calls.mono (cC.at _) ?_; rintro e w' ⟨rfl, rfl⟩
                go_wp2_with fail
                refine Calls.mono (hU.at _) ?_; rintro e w1 ⟨rfl, hb⟩
                go_wp2_with fail
                refine Calls.mono (hT.at _) ?_; rintro e w' ⟨rfl, rfl⟩
                go_wp2_with fail
                refine Calls.mono (cE.at _) ?_; rintro e w' ⟨rfl, rfl⟩
                go_wp2_with fail
                refine Calls.mono (cD.at _) ?_; rintro e w' ⟨rfl, rfl⟩
                go_wp2_with fail
                refine Calls.mono (cR.at _) ?_; rintro e w' ⟨rfl, rfl⟩
                go_wp2
                go_ret
                exact ⟨ret_int (by rw [HN.out, e1, e2]; simp [e5]), hb⟩
            · have e3' : (t == 13) = false := by simpa using e3
              by_cases e4 : t = 14
              · subst e4
                by_cases e5 : b.size < 20
                · go_enter Try.func38, Try.ntmps38
                  go_wp2_with fail
                  refine Calls.mono (cB.at _) ?_; rintro e w' ⟨rfl, rfl⟩
                  go_wp2_with fail
                  refine Calls.mono (cC.at _) ?_; rintro e w' ⟨rfl, rfl⟩
                  go_wp2_with fail
                  refine Calls.mono (hU.at _) ?_; rintro e w1 ⟨rfl, hb⟩
                  go_wp2_with fail
                  refine Calls.mono (hT.at _) ?_; rintro e w' ⟨rfl, rfl⟩
                  go_wp2_with fail
                  refine Calls.mono (cE.at _) ?_; rintro e w' ⟨rfl, rfl⟩
                  go_wp2_with fail
                  refine Calls.mono (cD.at _) ?_; rintro e w' ⟨rfl, rfl⟩
                  go_wp2_with fail
                  refine Calls.mono (cR.at _) ?_; rintro e w' ⟨rfl, rfl⟩
                  go_wp2
                  go_ret
                  exact ⟨ret_int (by rw [HN.out, e1, e2]; simp [e5]), hb⟩
                · go_enter Try.func38, Try.ntmps38
                  go_wp2_with fail
                  refine Calls.mono (cB.at _) ?_; rintro e w' ⟨rfl, rfl⟩
                  go_wp2_with fail
                  refine Calls.mono (cC.at _) ?_; rintro e w' ⟨rfl, rfl⟩
                  go_wp2_with fail
                  refine Calls.mono (hU.at _) ?_; rintro e w1 ⟨rfl, hb⟩
                  go_wp2_with fail
                  refine Calls.mono (hT.at _) ?_; rintro e w' ⟨rfl, rfl⟩
                  go_wp2_with fail
                  refine Calls.mono (cE.at _) ?_; rintro e w' ⟨rfl, rfl⟩
                  go_wp2_with fail
                  refine Calls.mono (cD.at _) ?_; rintro e w' ⟨rfl, rfl⟩
                  go_wp2_with fail
                  refine Calls.mono (cR.at _) ?_; rintro e w' ⟨rfl, rfl⟩
                  go_wp2
                  go_ret
                  exact ⟨ret_int (by rw [HN.out, e1, e2]; simp [e5]), hb⟩
              · have e4' : (t == 14) = false := by simpa using e4
                have E3 : Hid _ := e3
                have E4 : Hid _ := e4
                clear e3 e4
                go_enter Try.func38, Try.ntmps38
                go_wp2_with fail
                refine Calls.mono (cB.at _) ?_; rintro e w' ⟨rfl, rfl⟩
                go_wp2_with fail
                refine Calls.mono (cC.at _) ?_; rintro e w' ⟨rfl, rfl⟩
                go_wp2_with fail
                refine Calls.mono (hU.at _) ?_; rintro e w1 ⟨rfl, hb⟩
                go_wp2_with fail
                refine Calls.mono (hT.at _) ?_; rintro e w' ⟨rfl, rfl⟩
                go_wp2_with fail
                refine Calls.mono (cE.at _) ?_; rintro e w' ⟨rfl, rfl⟩
                go_wp2_with fail
                refine Calls.mono (cD.at _) ?_; rintro e w' ⟨rfl, rfl⟩
                go_wp2_with fail
                refine Calls.mono (cR.at _) ?_; rintro e w' ⟨rfl, rfl⟩
                go_wp2
                go_ret
                exact ⟨ret_int (by rw [HN.out, e1, e2, e3', e4']; rfl), hb⟩
        · go_enter Try.func38, Try.ntmps38
          go_wp2_with fail
          refine Calls.mono (cB.at _) ?_; rintro e w' ⟨rfl, rfl⟩
          go_wp2_with fail
          refine Calls.mono (cC.at _) ?_; rintro e w' ⟨rfl, rfl⟩
          go_wp2_with fail
          refine Calls.mono (hU.at _) ?_; rintro e w1 ⟨rfl, hb⟩
          go_wp2_with fail
          refine Calls.mono (hT.at _) ?_; rintro e w' ⟨rfl, rfl⟩
          go_wp2_with fail
          refine Calls.mono (cE.at _) ?_; rintro e w' ⟨rfl, rfl⟩
          go_wp2_with fail
          refine Calls.mono (cD.at _) ?_; rintro e w' ⟨rfl, rfl⟩
          go_wp2
          go_ret
          exact ⟨ret_int (by rw [HN.out, e1, e2]; rfl), hb⟩
      · go_enter Try.func38, Try.ntmps38
        go_wp2_with fail
        refine Calls.mono (cB.at _) ?_; rintro e w' ⟨rfl, rfl⟩
        go_wp2_with fail
        refine Calls.mono (cC.at _) ?_; rintro e w' ⟨rfl, rfl⟩
        go_wp2_with fail
        refine Calls.mono (hU.at _) ?_; rintro e w1 ⟨rfl, hb⟩
        go_wp2_with fail
        refine Calls.mono (hT.at _) ?_; rintro e w' ⟨rfl, rfl⟩
        go_wp2_with fail
        refine Calls.mono (cE.at _) ?_; rintro e w' ⟨rfl, rfl⟩
        go_wp2_with fail
        refine Calls.mono (hP.at _) ?_; rintro e w' ⟨rfl, rfl⟩
        go_wp2_with fail
        refine Calls.mono (cQ.at _) ?_; rintro e w' ⟨rfl, rfl⟩
        go_wp2
        go_ret
        exact ⟨ret_int (by rw [HN.out, e1]; rfl), hb⟩
    · go_enter Try.func38, Try.ntmps38
      go_wp2_with fail
      refine Calls.mono (cB.at _) ?_; rintro e w' ⟨rfl, rfl⟩
      go_wp2_with fail
      refine Calls.mono (cC.at _) ?_; rintro e w' ⟨rfl, rfl⟩
      go_wp2_with fail
      refine Calls.mono (hU.at _) ?_; rintro e w1 ⟨rfl, hb⟩
      go_wp2
      go_ret
      exact ⟨ret_int (by rw [HN.out, e1]; rfl), hb⟩

theorem checkICMP_fits (s : ByteArray) (w : World) (h : Fits s) :
    Calls Try.prog 38 #[.string s] w fun e w' => e = .returned (.int .i64 (icv (bdy s))) ∧ Below w.heap.size w w' := by
  have hz := bdy_size h
  have h1 := h.tn
  have h2 := h.n64
  have h3 := h.h20
  have hb65 : (bdy s).size ≤ 65535 := by omega
  have hq := prt_le (bdy s) 8 (bdy s).size
  exact checkICMP_core s (bdy s) (prt (bdy s) 8 (bdy s).size) (wd (bdy s) 2) (sumv (blk (bdy s) 2)) (bt (bdy s) 0) (bt (bdy s) 1) _ _ _ _ w hb65 (fun w => body_fits s w h) (fun w => word_any _ 2 w (size_le hb65) (by decide) (by decide))
    (fun g1 w => icmpSum_fits s w h g1) (fun g1 w => by rw [bdy_bt0 h g1]; exact icmpType_any s w (size_le h2)) (fun w => isError_any _ w) (fun g w => octPart_in _ _ _ w (by decide) (by omega) (by omega))
    (fun w => checkQuote_any _ w (by omega)) (fun w => byte_any _ 1 w (size_le hb65)) (fun w => isRequest_any _ w) (fun w => isReply_any _ w) _ rfl

set_option maxHeartbeats 2000000 in
theorem check_core (s : ByteArray) (h p u t i : Int) (w : World)
    (cH : RetB 34 #[.string s] (.int .i64 h)) (cP : Ret 35 #[.string s] (.int .i64 p))
    (cU : h = 0 → RetB 36 #[.string s] (.int .i64 u)) (cT : h = 0 → RetB 37 #[.string s] (.int .i64 t)) (cI : h = 0 → RetB 38 #[.string s] (.int .i64 i)) (r : Int)
    (hr : r = if h = 0 then if p = 17 then u else if p = 6 then t else if p = 1 then i else 7 else h) :
    Calls Try.prog 19 #[.string s] w fun e w' => e = .returned (.int .i64 r) ∧ Below w.heap.size w w' := by
  have HR : Hid _ := hr
  clear hr
  by_cases c0 : h = 0
  · have hU := cU c0
    have hT := cT c0
    have hI := cI c0
    clear cU cT cI
    subst c0
    by_cases c1 : p = 17
    · subst c1
      go_enter Try.func19, Try.ntmps19
      go_wp2_with fail
      refine Calls.mono (cH.at _) ?_; rintro e w1 ⟨rfl, hb1⟩
      go_wp2_with fail
      refine Calls.mono (cP.at _) ?_; rintro e w' ⟨rfl, rfl⟩
      go_wp2_with fail
      refine Calls.mono (hU.at _) ?_; rintro e w2 ⟨rfl, hb2⟩
      go_wp2
      go_ret
      exact ⟨ret_int (by rw [HR.out]; rfl), hb1.trans (hb2.mono hb1.size)⟩
    · have c1' : (p == 17) = false := by simpa using c1
      by_cases c2 : p = 6
      · subst c2
        go_enter Try.func19, Try.ntmps19
        go_wp2_with fail
        refine Calls.mono (cH.at _) ?_; rintro e w1 ⟨rfl, hb1⟩
        go_wp2_with fail
        refine Calls.mono (cP.at _) ?_; rintro e w' ⟨rfl, rfl⟩
        go_wp2_with fail
        refine Calls.mono (hT.at _) ?_; rintro e w2 ⟨rfl, hb2⟩
        go_wp2
        go_ret
        exact ⟨ret_int (by rw [HR.out]; rfl), hb1.trans (hb2.mono hb1.size)⟩
      · have c2' : (p == 6) = false := by simpa using c2
        by_cases c3 : p = 1
        · subst c3
          go_enter Try.func19, Try.ntmps19
          go_wp2_with fail
          refine Calls.mono (cH.at _) ?_; rintro e w1 ⟨rfl, hb1⟩
          go_wp2_with fail
          refine Calls.mono (cP.at _) ?_; rintro e w' ⟨rfl, rfl⟩
          go_wp2_with fail
          refine Calls.mono (hI.at _) ?_; rintro e w2 ⟨rfl, hb2⟩
          go_wp2
          go_ret
          exact ⟨ret_int (by rw [HR.out]; rfl), hb1.trans (hb2.mono hb1.size)⟩
        · have c3' : (p == 1) = false := by simpa using c3
          have C1 : Hid _ := c1
          have C2 : Hid _ := c2
          have C3 : Hid _ := c3
          clear c1 c2 c3
          go_enter Try.func19, Try.ntmps19
          go_wp2_with fail
          refine Calls.mono (cH.at _) ?_; rintro e w1 ⟨rfl, hb1⟩
          go_wp2_with fail
          refine Calls.mono (cP.at _) ?_; rintro e w' ⟨rfl, rfl⟩
          go_wp2
          go_ret
          exact ⟨ret_int (by rw [HR.out, if_pos trivial, if_neg C1.out, if_neg C2.out, if_neg C3.out]), hb1⟩
  · have c0' : (h != 0) = true := by simpa using c0
    have C0 : Hid _ := c0
    clear c0
    go_enter Try.func19, Try.ntmps19
    go_wp2_with fail
    refine Calls.mono (cH.at _) ?_; rintro e w1 ⟨rfl, hb1⟩
    go_wp2
    go_ret
    exact ⟨ret_int (by rw [HR.out, if_neg C0.out]), hb1⟩
theorem hdrv_fits {s : ByteArray} (h : hdrv s = 0) : Fits s := by
  apply fits_of
  cases hf : fitsB s
  · simp [hdrv, hf] at h
  · rfl
theorem framesCheck_any (s : ByteArray) (w : World) (hs : s.size ≤ maxLen) :
    Calls Try.prog 19 #[.string s] w fun e w' => e = .returned (.int .i64 (chk s)) ∧ Below w.heap.size w w' :=
  check_core s (hdrv s) (bt s 9) (udc s) (tcc s) (icv (bdy s)) w (fun w => checkHeader_any s w hs) (fun w => protocol_any s w hs)
    (fun h w => checkUDP_fits s w (hdrv_fits h)) (fun h w => checkTCP_fits s w (hdrv_fits h)) (fun h w => checkICMP_fits s w (hdrv_fits h)) _ rfl
theorem boxCheck_any (s : ByteArray) (w : World) (hs : s.size ≤ maxLen) :
    Calls Try.prog 11 #[.string s] w fun e w' => e = .returned (.int .i64 (chk s)) ∧ Below w.heap.size w w' := by
  have hc := framesCheck_any s
  generalize chk s = c at hc ⊢
  have HC : Hid _ := hc
  clear hc
  go_enter Try.func11, Try.ntmps11
  go_wp2_with fail
  refine Calls.mono (Hid.out HC _ hs) ?_; rintro e w1 ⟨rfl, hb1⟩
  go_wp2
  go_ret
  exact ⟨rfl, hb1⟩
end Go.Proofs.Ytgpbajpeldjomaa
