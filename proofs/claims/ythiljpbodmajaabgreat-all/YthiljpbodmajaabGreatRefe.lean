/-
  CONTRACTS: natboxref: quote, asked, Check.
-/
import Derived.Test.YthiljpbodmajaabGreatRfck
namespace Go.Proofs.YthiljpbodmajaabGreat
open Go.RowKit Plain

set_option maxHeartbeats 4000000 in
theorem refQuote_core (q : ByteArray) (b0 d x p t : Int) (w : World) (z0 : 0 ≤ b0) (z1 : b0 < 256) (d1 : 0 ≤ d) (d2 : d ≤ 60) (x0 : 0 ≤ x) (x1 : x < 65536) (hq : q.size ≤ 65535)
    (c0 : Ret 141 #[.string q, .int .i64 0, .int .i64 1] (.int .i64 b0)) (cH : Ret 189 #[.string q] (.int .i64 d))
    (c6 : Ret 141 #[.string q, .int .i64 6, .int .i64 2] (.int .i64 x)) (c9 : Ret 141 #[.string q, .int .i64 9, .int .i64 1] (.int .i64 p))
    (cT : Ret 141 #[.string q, .int .i64 d, .int .i64 1] (.int .i64 t)) (r : Int)
    (hr : r = if 20 ≤ q.size ∧ b0 / 16 = 4 ∧ 20 ≤ d ∧ d + 8 ≤ (q.size : Int) then if x % 8192 != 0 then 5 else if p == 17 || p == 6 then 0 else if p == 1 then if (t == 8 || t == 13) || (t == 0 || t == 14) then 0 else 7 else 7 else 3) :
    Calls Tryz.prog 196 #[.string q] w fun e w' => e = .returned (.int .i64 r) ∧ w' = w := by
  have HR : Hid _ := hr
  clear hr
  by_cases k1 : q.size < 20
  · go_enter Tryz.func196, Tryz.ntmps196
    go_wp2_with fail
    refine Calls.mono (cH.at _) ?_; rintro e w' ⟨rfl, rfl⟩
    go_wp2
    go_ret
    exact ⟨ret_int (by rw [HR.out, if_neg (by omega)]), rfl⟩
  · by_cases k3 : b0 / 16 = 4
    · have k3' : (b0 / 16 != 4) = false := by simp [k3]
      have K3 : Hid _ := k3
      clear k3
      by_cases k4 : d < 20
      · go_enter Tryz.func196, Tryz.ntmps196
        go_wp2_with fail
        refine Calls.mono (cH.at _) ?_; rintro e w' ⟨rfl, rfl⟩
        go_wp2_with fail
        refine Calls.mono (c0.at _) ?_; rintro e w' ⟨rfl, rfl⟩
        go_wp2
        go_ret
        exact ⟨ret_int (by rw [HR.out, if_neg (by omega)]), rfl⟩
      · by_cases k5 : (q.size : Int) < d + 8
        · go_enter Tryz.func196, Tryz.ntmps196
          go_wp2_with fail
          refine Calls.mono (cH.at _) ?_; rintro e w' ⟨rfl, rfl⟩
          go_wp2_with fail
          refine Calls.mono (c0.at _) ?_; rintro e w' ⟨rfl, rfl⟩
          go_wp2
          go_ret
          exact ⟨ret_int (by rw [HR.out, if_neg (by omega)]), rfl⟩
        · have hn := HR.out
          rw [if_pos ⟨by omega, K3.out, by omega, by omega⟩] at hn
          have HN : Hid _ := hn
          clear hn HR
          cases e1 : (x % 8192 != 0)
          · cases e2 : (p == 17)
            · cases e3 : (p == 6)
              · cases e4 : (p == 1)
                · go_enter Tryz.func196, Tryz.ntmps196
                  go_wp2_with fail
                  refine Calls.mono (cH.at _) ?_; rintro e w' ⟨rfl, rfl⟩
                  go_wp2_with fail
                  refine Calls.mono (c0.at _) ?_; rintro e w' ⟨rfl, rfl⟩
                  go_wp2_with fail
                  refine Calls.mono (c6.at _) ?_; rintro e w' ⟨rfl, rfl⟩
                  go_wp2_with fail
                  refine Calls.mono (c9.at _) ?_; rintro e w' ⟨rfl, rfl⟩
                  go_wp2_with fail
                  refine Calls.mono (cT.at _) ?_; rintro e w' ⟨rfl, rfl⟩
                  go_wp2
                  go_ret
                  exact ⟨ret_int (by rw [HN.out, e1, e2, e3, e4]; rfl), rfl⟩
                · cases f1 : (t == 0)
                  · cases f2 : (t == 8)
                    · cases f3 : (t == 13)
                      · cases f4 : (t == 14)
                        · go_enter Tryz.func196, Tryz.ntmps196
                          go_wp2_with fail
                          refine Calls.mono (cH.at _) ?_; rintro e w' ⟨rfl, rfl⟩
                          go_wp2_with fail
                          refine Calls.mono (c0.at _) ?_; rintro e w' ⟨rfl, rfl⟩
                          go_wp2_with fail
                          refine Calls.mono (c6.at _) ?_; rintro e w' ⟨rfl, rfl⟩
                          go_wp2_with fail
                          refine Calls.mono (c9.at _) ?_; rintro e w' ⟨rfl, rfl⟩
                          go_wp2_with fail
                          refine Calls.mono (cT.at _) ?_; rintro e w' ⟨rfl, rfl⟩
                          go_wp2
                          go_ret
                          exact ⟨ret_int (by rw [HN.out, e1, e2, e3, e4, f1, f2, f3, f4]; rfl), rfl⟩
                        · go_enter Tryz.func196, Tryz.ntmps196
                          go_wp2_with fail
                          refine Calls.mono (cH.at _) ?_; rintro e w' ⟨rfl, rfl⟩
                          go_wp2_with fail
                          refine Calls.mono (c0.at _) ?_; rintro e w' ⟨rfl, rfl⟩
                          go_wp2_with fail
                          refine Calls.mono (c6.at _) ?_; rintro e w' ⟨rfl, rfl⟩
                          go_wp2_with fail
                          refine Calls.mono (c9.at _) ?_; rintro e w' ⟨rfl, rfl⟩
                          go_wp2_with fail
                          refine Calls.mono (cT.at _) ?_; rintro e w' ⟨rfl, rfl⟩
                          go_wp2
                          go_ret
                          exact ⟨ret_int (by rw [HN.out, e1, e2, e3, e4, f1, f2, f3, f4]; rfl), rfl⟩
                      · go_enter Tryz.func196, Tryz.ntmps196
                        go_wp2_with fail
                        refine Calls.mono (cH.at _) ?_; rintro e w' ⟨rfl, rfl⟩
                        go_wp2_with fail
                        refine Calls.mono (c0.at _) ?_; rintro e w' ⟨rfl, rfl⟩
                        go_wp2_with fail
                        refine Calls.mono (c6.at _) ?_; rintro e w' ⟨rfl, rfl⟩
                        go_wp2_with fail
                        refine Calls.mono (c9.at _) ?_; rintro e w' ⟨rfl, rfl⟩
                        go_wp2_with fail
                        refine Calls.mono (cT.at _) ?_; rintro e w' ⟨rfl, rfl⟩
                        go_wp2
                        go_ret
                        exact ⟨ret_int (by rw [HN.out, e1, e2, e3, e4, f2, f3]; rfl), rfl⟩
                    · go_enter Tryz.func196, Tryz.ntmps196
                      go_wp2_with fail
                      refine Calls.mono (cH.at _) ?_; rintro e w' ⟨rfl, rfl⟩
                      go_wp2_with fail
                      refine Calls.mono (c0.at _) ?_; rintro e w' ⟨rfl, rfl⟩
                      go_wp2_with fail
                      refine Calls.mono (c6.at _) ?_; rintro e w' ⟨rfl, rfl⟩
                      go_wp2_with fail
                      refine Calls.mono (c9.at _) ?_; rintro e w' ⟨rfl, rfl⟩
                      go_wp2_with fail
                      refine Calls.mono (cT.at _) ?_; rintro e w' ⟨rfl, rfl⟩
                      go_wp2
                      go_ret
                      exact ⟨ret_int (by rw [HN.out, e1, e2, e3, e4, f2]; rfl), rfl⟩
                  · go_enter Tryz.func196, Tryz.ntmps196
                    go_wp2_with fail
                    refine Calls.mono (cH.at _) ?_; rintro e w' ⟨rfl, rfl⟩
                    go_wp2_with fail
                    refine Calls.mono (c0.at _) ?_; rintro e w' ⟨rfl, rfl⟩
                    go_wp2_with fail
                    refine Calls.mono (c6.at _) ?_; rintro e w' ⟨rfl, rfl⟩
                    go_wp2_with fail
                    refine Calls.mono (c9.at _) ?_; rintro e w' ⟨rfl, rfl⟩
                    go_wp2_with fail
                    refine Calls.mono (cT.at _) ?_; rintro e w' ⟨rfl, rfl⟩
                    go_wp2
                    go_ret
                    exact ⟨ret_int (by rw [HN.out, e1, e2, e3, e4, f1]; simp), rfl⟩
              · go_enter Tryz.func196, Tryz.ntmps196
                go_wp2_with fail
                refine Calls.mono (cH.at _) ?_; rintro e w' ⟨rfl, rfl⟩
                go_wp2_with fail
                refine Calls.mono (c0.at _) ?_; rintro e w' ⟨rfl, rfl⟩
                go_wp2_with fail
                refine Calls.mono (c6.at _) ?_; rintro e w' ⟨rfl, rfl⟩
                go_wp2_with fail
                refine Calls.mono (c9.at _) ?_; rintro e w' ⟨rfl, rfl⟩
                go_wp2_with fail
                refine Calls.mono (cT.at _) ?_; rintro e w' ⟨rfl, rfl⟩
                go_wp2
                go_ret
                exact ⟨ret_int (by rw [HN.out, e1, e2, e3]; rfl), rfl⟩
            · go_enter Tryz.func196, Tryz.ntmps196
              go_wp2_with fail
              refine Calls.mono (cH.at _) ?_; rintro e w' ⟨rfl, rfl⟩
              go_wp2_with fail
              refine Calls.mono (c0.at _) ?_; rintro e w' ⟨rfl, rfl⟩
              go_wp2_with fail
              refine Calls.mono (c6.at _) ?_; rintro e w' ⟨rfl, rfl⟩
              go_wp2_with fail
              refine Calls.mono (c9.at _) ?_; rintro e w' ⟨rfl, rfl⟩
              go_wp2_with fail
              refine Calls.mono (cT.at _) ?_; rintro e w' ⟨rfl, rfl⟩
              go_wp2
              go_ret
              exact ⟨ret_int (by rw [HN.out, e1, e2]; rfl), rfl⟩
          · go_enter Tryz.func196, Tryz.ntmps196
            go_wp2_with fail
            refine Calls.mono (cH.at _) ?_; rintro e w' ⟨rfl, rfl⟩
            go_wp2_with fail
            refine Calls.mono (c0.at _) ?_; rintro e w' ⟨rfl, rfl⟩
            go_wp2_with fail
            refine Calls.mono (c6.at _) ?_; rintro e w' ⟨rfl, rfl⟩
            go_wp2
            go_ret
            exact ⟨ret_int (by rw [HN.out, e1]; rfl), rfl⟩
    · have k3' : (b0 / 16 != 4) = true := by simp [k3]
      have K3 : Hid _ := k3
      clear k3
      go_enter Tryz.func196, Tryz.ntmps196
      go_wp2_with fail
      refine Calls.mono (cH.at _) ?_; rintro e w' ⟨rfl, rfl⟩
      go_wp2_with fail
      refine Calls.mono (c0.at _) ?_; rintro e w' ⟨rfl, rfl⟩
      go_wp2
      go_ret
      exact ⟨ret_int (by rw [HR.out, if_neg (fun g => K3.out g.2.1)]), rfl⟩

theorem refQuote_any (q : ByteArray) (w : World) (hq : q.size ≤ 65535) :
    Calls Tryz.prog 196 #[.string q] w fun e w' => e = .returned (.int .i64 (quotev q)) ∧ w' = w := by
  have hs := size_le hq
  have hd := hdv_bd q
  exact refQuote_core q (bt q 0) (hdv q) (wd q 6) (bt q 9) (bt q (hdv q)) w (bt_bd q 0).1 (bt_bd q 0).2 hd.1 hd.2 (wd_bd q 6).1 (wd_bd q 6).2 hq
    (fun w => number1 q 0 w hs (by decide) (by decide)) (fun w => head_any q w hs) (fun w => number2 q 6 w hs (by decide) (by decide)) (fun w => number1 q 9 w hs (by decide) (by decide))
    (fun w => number1 q _ w hs (by omega) (by omega)) _ rfl

set_option maxHeartbeats 4000000 in
theorem rasked_core (s b q : ByteArray) (er : Bool) (t d qv : Int) (w : World) (hb : b.size ≤ 65535) (cM : Ret 150 #[.string s] (.bool er))
    (cP : Ret 146 #[.string b, .int .i64 8, .int .i64 b.size] (.string q)) (cQ : Ret 196 #[.string q] (.int .i64 qv))
    (c0 : Ret 141 #[.string b, .int .i64 0, .int .i64 1] (.int .i64 t)) (c1 : Ret 141 #[.string b, .int .i64 1, .int .i64 1] (.int .i64 d)) (r : Int)
    (hr : r = if er then qv else if d != 0 || !((t == 8 || t == 13) || (t == 0 || t == 14)) then 7 else if (t == 13 || t == 14) && decide (b.size < 20) then 3 else 0) :
    Calls Tryz.prog 147 #[.string s, .string b] w fun e w' => e = .returned (.int .i64 r) ∧ w' = w := by
  have HR : Hid _ := hr
  clear hr
  cases er
  · cases e1 : (d != 0)
    · by_cases t0 : t = 0
      · subst t0
        go_enter Tryz.func147, Tryz.ntmps147
        go_wp2_with fail
        refine Calls.mono (cM.at _) ?_; rintro e w' ⟨rfl, rfl⟩
        go_wp2_with fail
        refine Calls.mono (c0.at _) ?_; rintro e w' ⟨rfl, rfl⟩
        go_wp2_with fail
        refine Calls.mono (c1.at _) ?_; rintro e w' ⟨rfl, rfl⟩
        go_wp2
        go_ret
        exact ⟨ret_int (by rw [HR.out, e1]; rfl), rfl⟩
      · have t0' : (t == 0) = false := by simpa using t0
        have u0' : (t != 0) = true := by simpa using t0
        by_cases t8 : t = 8
        · subst t8
          clear t0 t0' u0'
          go_enter Tryz.func147, Tryz.ntmps147
          go_wp2_with fail
          refine Calls.mono (cM.at _) ?_; rintro e w' ⟨rfl, rfl⟩
          go_wp2_with fail
          refine Calls.mono (c0.at _) ?_; rintro e w' ⟨rfl, rfl⟩
          go_wp2_with fail
          refine Calls.mono (c1.at _) ?_; rintro e w' ⟨rfl, rfl⟩
          go_wp2
          go_ret
          exact ⟨ret_int (by rw [HR.out, e1]; rfl), rfl⟩
        · have t8' : (t == 8) = false := by simpa using t8
          have u8' : (t != 8) = true := by simpa using t8
          by_cases t13 : t = 13
          · subst t13
            clear t0 t0' u0' t8 t8' u8'
            by_cases l : b.size < 20
            · go_enter Tryz.func147, Tryz.ntmps147
              go_wp2_with fail
              refine Calls.mono (cM.at _) ?_; rintro e w' ⟨rfl, rfl⟩
              go_wp2_with fail
              refine Calls.mono (c0.at _) ?_; rintro e w' ⟨rfl, rfl⟩
              go_wp2_with fail
              refine Calls.mono (c1.at _) ?_; rintro e w' ⟨rfl, rfl⟩
              go_wp2
              go_ret
              exact ⟨ret_int (by rw [HR.out, e1]; simp [l]), rfl⟩
            · go_enter Tryz.func147, Tryz.ntmps147
              go_wp2_with fail
              refine Calls.mono (cM.at _) ?_; rintro e w' ⟨rfl, rfl⟩
              go_wp2_with fail
              refine Calls.mono (c0.at _) ?_; rintro e w' ⟨rfl, rfl⟩
              go_wp2_with fail
              refine Calls.mono (c1.at _) ?_; rintro e w' ⟨rfl, rfl⟩
              go_wp2
              go_ret
              exact ⟨ret_int (by rw [HR.out, e1]; simp [l]), rfl⟩
          · have t13' : (t == 13) = false := by simpa using t13
            have u13' : (t != 13) = true := by simpa using t13
            by_cases t14 : t = 14
            · subst t14
              clear t0 t0' u0' t8 t8' u8' t13 t13' u13'
              by_cases l : b.size < 20
              · go_enter Tryz.func147, Tryz.ntmps147
                go_wp2_with fail
                refine Calls.mono (cM.at _) ?_; rintro e w' ⟨rfl, rfl⟩
                go_wp2_with fail
                refine Calls.mono (c0.at _) ?_; rintro e w' ⟨rfl, rfl⟩
                go_wp2_with fail
                refine Calls.mono (c1.at _) ?_; rintro e w' ⟨rfl, rfl⟩
                go_wp2
                go_ret
                exact ⟨ret_int (by rw [HR.out, e1]; simp [l]), rfl⟩
              · go_enter Tryz.func147, Tryz.ntmps147
                go_wp2_with fail
                refine Calls.mono (cM.at _) ?_; rintro e w' ⟨rfl, rfl⟩
                go_wp2_with fail
                refine Calls.mono (c0.at _) ?_; rintro e w' ⟨rfl, rfl⟩
                go_wp2_with fail
                refine Calls.mono (c1.at _) ?_; rintro e w' ⟨rfl, rfl⟩
                go_wp2
                go_ret
                exact ⟨ret_int (by rw [HR.out, e1]; simp [l]), rfl⟩
            · have t14' : (t == 14) = false := by simpa using t14
              have u14' : (t != 14) = true := by simpa using t14
              clear t0 t8 t13 t14
              go_enter Tryz.func147, Tryz.ntmps147
              go_wp2_with fail
              refine Calls.mono (cM.at _) ?_; rintro e w' ⟨rfl, rfl⟩
              go_wp2_with fail
              refine Calls.mono (c0.at _) ?_; rintro e w' ⟨rfl, rfl⟩
              go_wp2_with fail
              refine Calls.mono (c1.at _) ?_; rintro e w' ⟨rfl, rfl⟩
              go_wp2
              go_ret
              exact ⟨ret_int (by rw [HR.out, e1, t0', t8', t13', t14']; rfl), rfl⟩
    · go_enter Tryz.func147, Tryz.ntmps147
      go_wp2_with fail
      refine Calls.mono (cM.at _) ?_; rintro e w' ⟨rfl, rfl⟩
      go_wp2_with fail
      refine Calls.mono (c0.at _) ?_; rintro e w' ⟨rfl, rfl⟩
      go_wp2_with fail
      refine Calls.mono (c1.at _) ?_; rintro e w' ⟨rfl, rfl⟩
      go_wp2
      go_ret
      exact ⟨ret_int (by rw [HR.out, e1]; rfl), rfl⟩
  · go_enter Tryz.func147, Tryz.ntmps147
    go_wp2_with fail
    refine Calls.mono (cM.at _) ?_; rintro e w' ⟨rfl, rfl⟩
    go_wp2_with fail
    refine Calls.mono (cP.at _) ?_; rintro e w' ⟨rfl, rfl⟩
    go_wp2_with fail
    refine Calls.mono (cQ.at _) ?_; rintro e w' ⟨rfl, rfl⟩
    go_wp2
    go_ret
    exact ⟨ret_int (by rw [HR.out]; rfl), rfl⟩

/-- what is wrong with a body of ICMP whose length and checksum are right -/
def askv (b : ByteArray) : Int :=
  if errB (bt b 0) then quotev (prt b 8 b.size) else if bt b 1 != 0 || !(reqB (bt b 0) || repB (bt b 0)) then 7 else if (bt b 0 == 13 || bt b 0 == 14) && decide (b.size < 20) then 3 else 0
theorem asked_fits (s : ByteArray) (w : World) (h : Fits s) (hp : bt s 9 = 1) :
    Calls Tryz.prog 147 #[.string s, .string (bdy s)] w fun e w' => e = .returned (.int .i64 (askv (bdy s))) ∧ w' = w := by
  have hz := bdy_size h
  have h1 := h.tn
  have h2 := h.n64
  have h3 := h.h20
  have hb65 : (bdy s).size ≤ 65535 := by omega
  have hq := prt_le (bdy s) 8 (bdy s).size
  exact rasked_core s (bdy s) (prt (bdy s) 8 (bdy s).size) (errB (bt (bdy s) 0)) (bt (bdy s) 0) (bt (bdy s) 1) (quotev (prt (bdy s) 8 (bdy s).size)) w hb65
    (fun w => message_core s (bdy s) (bt (bdy s) 0) (bt s 9) w (fun w => refBody_any s w (size_le h2)) (fun w => number1 _ 0 w (size_le hb65) (by decide) (by decide)) (fun w => number1 s 9 w (size_le h2) (by decide) (by decide)) (by simp [hp]))
    (fun w => part_any _ 8 _ w (by decide) (by omega)) (fun w => refQuote_any _ w (by omega)) (fun w => number1 _ 0 w (size_le hb65) (by decide) (by decide)) (fun w => number1 _ 1 w (size_le hb65) (by decide) (by decide)) _ rfl

set_option maxHeartbeats 2000000 in
theorem refCheck17 (s b ends : ByteArray) (c k r : Int) (ok : Bool) (w : World) (cH : RetB 140 #[.string s] (.int .i64 0)) (c9 : Ret 141 #[.string s, .int .i64 9, .int .i64 1] (.int .i64 17))
    (cB : Ret 142 #[.string s] (.string b)) (cL : Ret 143 #[.int .i64 17, .string b] (.bool ok)) (cF : Ret 144 #[.int .i64 17] (.int .i64 6))
    (cN : Ret 141 #[.string b, .int .i64 6, .int .i64 2] (.int .i64 c)) (cP : Ret 146 #[.string s, .int .i64 12, .int .i64 20] (.string ends))
    (cK : ok = true → RetB 145 #[.int .i64 17, .string ends, .string b] (.int .i64 k))
    (hr : r = if ok then if c != 0 && c != k then 4 else 0 else 3) :
    Calls Tryz.prog 94 #[.string s] w fun e w' => e = .returned (.int .i64 r) ∧ Below w.heap.size w w' := by
  have HR : Hid _ := hr
  clear hr
  cases ok
  · go_enter Tryz.func94, Tryz.ntmps94
    go_wp2_with fail
    refine Calls.mono (cH.at _) ?_; rintro e w1 ⟨rfl, hb1⟩
    go_wp2_with fail
    refine Calls.mono (c9.at _) ?_; rintro e w' ⟨rfl, rfl⟩
    go_wp2_with fail
    refine Calls.mono (cB.at _) ?_; rintro e w' ⟨rfl, rfl⟩
    go_wp2_with fail
    refine Calls.mono (cL.at _) ?_; rintro e w' ⟨rfl, rfl⟩
    go_wp2
    go_ret
    exact ⟨ret_int (by rw [HR.out]; rfl), hb1⟩
  · have hK := cK rfl
    clear cK
    cases e1 : (c != k)
    · go_enter Tryz.func94, Tryz.ntmps94
      go_wp2_with fail
      refine Calls.mono (cH.at _) ?_; rintro e w1 ⟨rfl, hb1⟩
      go_wp2_with fail
      refine Calls.mono (c9.at _) ?_; rintro e w' ⟨rfl, rfl⟩
      go_wp2_with fail
      refine Calls.mono (cB.at _) ?_; rintro e w' ⟨rfl, rfl⟩
      go_wp2_with fail
      refine Calls.mono (cL.at _) ?_; rintro e w' ⟨rfl, rfl⟩
      go_wp2_with fail
      refine Calls.mono (cF.at _) ?_; rintro e w' ⟨rfl, rfl⟩
      go_wp2_with fail
      refine Calls.mono (cN.at _) ?_; rintro e w' ⟨rfl, rfl⟩
      go_wp2_with fail
      refine Calls.mono (cP.at _) ?_; rintro e w' ⟨rfl, rfl⟩
      go_wp2_with fail
      refine Calls.mono (hK.at _) ?_; rintro e w2 ⟨rfl, hb2⟩
      go_wp2
      go_ret
      exact ⟨ret_int (by rw [HR.out, e1]; simp), hb1.trans (hb2.mono hb1.size)⟩
    · cases e2 : (c != 0)
      · go_enter Tryz.func94, Tryz.ntmps94
        go_wp2_with fail
        refine Calls.mono (cH.at _) ?_; rintro e w1 ⟨rfl, hb1⟩
        go_wp2_with fail
        refine Calls.mono (c9.at _) ?_; rintro e w' ⟨rfl, rfl⟩
        go_wp2_with fail
        refine Calls.mono (cB.at _) ?_; rintro e w' ⟨rfl, rfl⟩
        go_wp2_with fail
        refine Calls.mono (cL.at _) ?_; rintro e w' ⟨rfl, rfl⟩
        go_wp2_with fail
        refine Calls.mono (cF.at _) ?_; rintro e w' ⟨rfl, rfl⟩
        go_wp2_with fail
        refine Calls.mono (cN.at _) ?_; rintro e w' ⟨rfl, rfl⟩
        go_wp2_with fail
        refine Calls.mono (cP.at _) ?_; rintro e w' ⟨rfl, rfl⟩
        go_wp2_with fail
        refine Calls.mono (hK.at _) ?_; rintro e w2 ⟨rfl, hb2⟩
        go_wp2
        go_ret
        exact ⟨ret_int (by rw [HR.out, e1, e2]; rfl), hb1.trans (hb2.mono hb1.size)⟩
      · go_enter Tryz.func94, Tryz.ntmps94
        go_wp2_with fail
        refine Calls.mono (cH.at _) ?_; rintro e w1 ⟨rfl, hb1⟩
        go_wp2_with fail
        refine Calls.mono (c9.at _) ?_; rintro e w' ⟨rfl, rfl⟩
        go_wp2_with fail
        refine Calls.mono (cB.at _) ?_; rintro e w' ⟨rfl, rfl⟩
        go_wp2_with fail
        refine Calls.mono (cL.at _) ?_; rintro e w' ⟨rfl, rfl⟩
        go_wp2_with fail
        refine Calls.mono (cF.at _) ?_; rintro e w' ⟨rfl, rfl⟩
        go_wp2_with fail
        refine Calls.mono (cN.at _) ?_; rintro e w' ⟨rfl, rfl⟩
        go_wp2_with fail
        refine Calls.mono (cP.at _) ?_; rintro e w' ⟨rfl, rfl⟩
        go_wp2_with fail
        refine Calls.mono (hK.at _) ?_; rintro e w2 ⟨rfl, hb2⟩
        go_wp2
        go_ret
        exact ⟨ret_int (by rw [HR.out, e1, e2]; rfl), hb1.trans (hb2.mono hb1.size)⟩

set_option maxHeartbeats 2000000 in
theorem refCheck6 (s b ends : ByteArray) (c k r : Int) (ok : Bool) (w : World) (cH : RetB 140 #[.string s] (.int .i64 0)) (c9 : Ret 141 #[.string s, .int .i64 9, .int .i64 1] (.int .i64 6))
    (cB : Ret 142 #[.string s] (.string b)) (cL : Ret 143 #[.int .i64 6, .string b] (.bool ok)) (cF : Ret 144 #[.int .i64 6] (.int .i64 16))
    (cN : Ret 141 #[.string b, .int .i64 16, .int .i64 2] (.int .i64 c)) (cP : Ret 146 #[.string s, .int .i64 12, .int .i64 20] (.string ends))
    (cK : ok = true → RetB 145 #[.int .i64 6, .string ends, .string b] (.int .i64 k))
    (hr : r = if ok then if c != k then 4 else 0 else 3) :
    Calls Tryz.prog 94 #[.string s] w fun e w' => e = .returned (.int .i64 r) ∧ Below w.heap.size w w' := by
  have HR : Hid _ := hr
  clear hr
  cases ok
  · go_enter Tryz.func94, Tryz.ntmps94
    go_wp2_with fail
    refine Calls.mono (cH.at _) ?_; rintro e w1 ⟨rfl, hb1⟩
    go_wp2_with fail
    refine Calls.mono (c9.at _) ?_; rintro e w' ⟨rfl, rfl⟩
    go_wp2_with fail
    refine Calls.mono (cB.at _) ?_; rintro e w' ⟨rfl, rfl⟩
    go_wp2_with fail
    refine Calls.mono (cL.at _) ?_; rintro e w' ⟨rfl, rfl⟩
    go_wp2
    go_ret
    exact ⟨ret_int (by rw [HR.out]; rfl), hb1⟩
  · have hK := cK rfl
    clear cK
    cases e1 : (c != k)
    · go_enter Tryz.func94, Tryz.ntmps94
      go_wp2_with fail
      refine Calls.mono (cH.at _) ?_; rintro e w1 ⟨rfl, hb1⟩
      go_wp2_with fail
      refine Calls.mono (c9.at _) ?_; rintro e w' ⟨rfl, rfl⟩
      go_wp2_with fail
      refine Calls.mono (cB.at _) ?_; rintro e w' ⟨rfl, rfl⟩
      go_wp2_with fail
      refine Calls.mono (cL.at _) ?_; rintro e w' ⟨rfl, rfl⟩
      go_wp2_with fail
      refine Calls.mono (cF.at _) ?_; rintro e w' ⟨rfl, rfl⟩
      go_wp2_with fail
      refine Calls.mono (cN.at _) ?_; rintro e w' ⟨rfl, rfl⟩
      go_wp2_with fail
      refine Calls.mono (cP.at _) ?_; rintro e w' ⟨rfl, rfl⟩
      go_wp2_with fail
      refine Calls.mono (hK.at _) ?_; rintro e w2 ⟨rfl, hb2⟩
      go_wp2
      go_ret
      exact ⟨ret_int (by rw [HR.out, e1]; rfl), hb1.trans (hb2.mono hb1.size)⟩
    · go_enter Tryz.func94, Tryz.ntmps94
      go_wp2_with fail
      refine Calls.mono (cH.at _) ?_; rintro e w1 ⟨rfl, hb1⟩
      go_wp2_with fail
      refine Calls.mono (c9.at _) ?_; rintro e w' ⟨rfl, rfl⟩
      go_wp2_with fail
      refine Calls.mono (cB.at _) ?_; rintro e w' ⟨rfl, rfl⟩
      go_wp2_with fail
      refine Calls.mono (cL.at _) ?_; rintro e w' ⟨rfl, rfl⟩
      go_wp2_with fail
      refine Calls.mono (cF.at _) ?_; rintro e w' ⟨rfl, rfl⟩
      go_wp2_with fail
      refine Calls.mono (cN.at _) ?_; rintro e w' ⟨rfl, rfl⟩
      go_wp2_with fail
      refine Calls.mono (cP.at _) ?_; rintro e w' ⟨rfl, rfl⟩
      go_wp2_with fail
      refine Calls.mono (hK.at _) ?_; rintro e w2 ⟨rfl, hb2⟩
      go_wp2
      go_ret
      exact ⟨ret_int (by rw [HR.out, e1]; rfl), hb1.trans (hb2.mono hb1.size)⟩

set_option maxHeartbeats 2000000 in
theorem refCheck1 (s b ends : ByteArray) (c k r a : Int) (ok : Bool) (w : World) (cH : RetB 140 #[.string s] (.int .i64 0)) (c9 : Ret 141 #[.string s, .int .i64 9, .int .i64 1] (.int .i64 1))
    (cB : Ret 142 #[.string s] (.string b)) (cL : Ret 143 #[.int .i64 1, .string b] (.bool ok)) (cF : Ret 144 #[.int .i64 1] (.int .i64 2))
    (cN : Ret 141 #[.string b, .int .i64 2, .int .i64 2] (.int .i64 c)) (cP : Ret 146 #[.string s, .int .i64 12, .int .i64 20] (.string ends))
    (cK : ok = true → RetB 145 #[.int .i64 1, .string ends, .string b] (.int .i64 k)) (cA : Ret 147 #[.string s, .string b] (.int .i64 a))
    (hr : r = if ok then if c != k then 4 else a else 3) :
    Calls Tryz.prog 94 #[.string s] w fun e w' => e = .returned (.int .i64 r) ∧ Below w.heap.size w w' := by
  have HR : Hid _ := hr
  clear hr
  cases ok
  · go_enter Tryz.func94, Tryz.ntmps94
    go_wp2_with fail
    refine Calls.mono (cH.at _) ?_; rintro e w1 ⟨rfl, hb1⟩
    go_wp2_with fail
    refine Calls.mono (c9.at _) ?_; rintro e w' ⟨rfl, rfl⟩
    go_wp2_with fail
    refine Calls.mono (cB.at _) ?_; rintro e w' ⟨rfl, rfl⟩
    go_wp2_with fail
    refine Calls.mono (cL.at _) ?_; rintro e w' ⟨rfl, rfl⟩
    go_wp2
    go_ret
    exact ⟨ret_int (by rw [HR.out]; rfl), hb1⟩
  · have hK := cK rfl
    clear cK
    cases e1 : (c != k)
    · go_enter Tryz.func94, Tryz.ntmps94
      go_wp2_with fail
      refine Calls.mono (cH.at _) ?_; rintro e w1 ⟨rfl, hb1⟩
      go_wp2_with fail
      refine Calls.mono (c9.at _) ?_; rintro e w' ⟨rfl, rfl⟩
      go_wp2_with fail
      refine Calls.mono (cB.at _) ?_; rintro e w' ⟨rfl, rfl⟩
      go_wp2_with fail
      refine Calls.mono (cL.at _) ?_; rintro e w' ⟨rfl, rfl⟩
      go_wp2_with fail
      refine Calls.mono (cF.at _) ?_; rintro e w' ⟨rfl, rfl⟩
      go_wp2_with fail
      refine Calls.mono (cN.at _) ?_; rintro e w' ⟨rfl, rfl⟩
      go_wp2_with fail
      refine Calls.mono (cP.at _) ?_; rintro e w' ⟨rfl, rfl⟩
      go_wp2_with fail
      refine Calls.mono (hK.at _) ?_; rintro e w2 ⟨rfl, hb2⟩
      go_wp2_with fail
      refine Calls.mono (cA.at _) ?_; rintro e w' ⟨rfl, rfl⟩
      go_wp2
      go_ret
      exact ⟨ret_int (by rw [HR.out, e1]; rfl), hb1.trans (hb2.mono hb1.size)⟩
    · go_enter Tryz.func94, Tryz.ntmps94
      go_wp2_with fail
      refine Calls.mono (cH.at _) ?_; rintro e w1 ⟨rfl, hb1⟩
      go_wp2_with fail
      refine Calls.mono (c9.at _) ?_; rintro e w' ⟨rfl, rfl⟩
      go_wp2_with fail
      refine Calls.mono (cB.at _) ?_; rintro e w' ⟨rfl, rfl⟩
      go_wp2_with fail
      refine Calls.mono (cL.at _) ?_; rintro e w' ⟨rfl, rfl⟩
      go_wp2_with fail
      refine Calls.mono (cF.at _) ?_; rintro e w' ⟨rfl, rfl⟩
      go_wp2_with fail
      refine Calls.mono (cN.at _) ?_; rintro e w' ⟨rfl, rfl⟩
      go_wp2_with fail
      refine Calls.mono (cP.at _) ?_; rintro e w' ⟨rfl, rfl⟩
      go_wp2_with fail
      refine Calls.mono (hK.at _) ?_; rintro e w2 ⟨rfl, hb2⟩
      go_wp2
      go_ret
      exact ⟨ret_int (by rw [HR.out, e1]; rfl), hb1.trans (hb2.mono hb1.size)⟩

set_option maxHeartbeats 2000000 in
theorem refCheck_no (s : ByteArray) (h : Int) (w : World) (hh : (h != 0) = true) (cH : RetB 140 #[.string s] (.int .i64 h)) :
    Calls Tryz.prog 94 #[.string s] w fun e w' => e = .returned (.int .i64 h) ∧ Below w.heap.size w w' := by
  go_enter Tryz.func94, Tryz.ntmps94
  go_wp2_with fail
  refine Calls.mono (cH.at _) ?_; rintro e w1 ⟨rfl, hb1⟩
  go_wp2
  go_ret
  exact ⟨rfl, hb1⟩
set_option maxHeartbeats 2000000 in
theorem refCheck_kind (s : ByteArray) (p : Int) (w : World) (h1 : (p != 1) = true) (h2 : (p != 6) = true) (h3 : (p != 17) = true) (cH : RetB 140 #[.string s] (.int .i64 0))
    (c9 : Ret 141 #[.string s, .int .i64 9, .int .i64 1] (.int .i64 p)) :
    Calls Tryz.prog 94 #[.string s] w fun e w' => e = .returned (.int .i64 7) ∧ Below w.heap.size w w' := by
  go_enter Tryz.func94, Tryz.ntmps94
  go_wp2_with fail
  refine Calls.mono (cH.at _) ?_; rintro e w1 ⟨rfl, hb1⟩
  go_wp2_with fail
  refine Calls.mono (c9.at _) ?_; rintro e w' ⟨rfl, rfl⟩
  go_wp2
  go_ret
  exact ⟨rfl, hb1⟩

theorem ucase_ok (n : Nat) (l c k : Int) : ucase n l c k = if decide (8 ≤ n ∧ 8 ≤ l ∧ l ≤ (n : Int)) then if c != 0 && c != k then 4 else 0 else 3 := by
  unfold ucase
  by_cases g1 : n < 8
  · have g : ¬ (8 ≤ n ∧ 8 ≤ l ∧ l ≤ (n : Int)) := by omega
    rw [if_pos g1, decide_eq_false g]; rfl
  · by_cases g2 : l < 8 ∨ (n : Int) < l
    · have g : ¬ (8 ≤ n ∧ 8 ≤ l ∧ l ≤ (n : Int)) := by omega
      rw [if_neg g1, if_pos g2, decide_eq_false g]; rfl
    · have g : 8 ≤ n ∧ 8 ≤ l ∧ l ≤ (n : Int) := by omega
      rw [if_neg g1, if_neg g2, decide_eq_true g]; rfl
theorem tcase_ok (n : Nat) (h c k : Int) : tcase n h c k = if decide (20 ≤ n ∧ 20 ≤ h ∧ h ≤ (n : Int)) then if c != k then 4 else 0 else 3 := by
  unfold tcase
  by_cases g1 : n < 20
  · have g : ¬ (20 ≤ n ∧ 20 ≤ h ∧ h ≤ (n : Int)) := by omega
    rw [if_pos g1, decide_eq_false g]; rfl
  · by_cases g2 : h < 20 ∨ (n : Int) < h
    · have g : ¬ (20 ≤ n ∧ 20 ≤ h ∧ h ≤ (n : Int)) := by omega
      rw [if_neg g1, if_pos g2, decide_eq_false g]; rfl
    · have g : 20 ≤ n ∧ 20 ≤ h ∧ h ≤ (n : Int) := by omega
      rw [if_neg g1, if_neg g2, decide_eq_true g]; rfl
theorem icase_ok (n : Nat) (c k t d q a : Int) (ha : a = if errB t then q else if d != 0 || !(reqB t || repB t) then 7 else if (t == 13 || t == 14) && decide (n < 20) then 3 else 0) :
    icase n c k t d q = if decide (8 ≤ n) then if c != k then 4 else a else 3 := by
  unfold icase
  by_cases g1 : n < 8
  · have g : ¬ 8 ≤ n := by omega
    rw [if_pos g1, decide_eq_false g]; rfl
  · have g : 8 ≤ n := by omega
    rw [if_neg g1, decide_eq_true g, ha]; rfl
set_option maxHeartbeats 2000000 in
theorem refCheck_any (s : ByteArray) (w : World) (hs : s.size ≤ maxLen) :
    Calls Tryz.prog 94 #[.string s] w fun e w' => e = .returned (.int .i64 (chk s)) ∧ Below w.heap.size w w' := by
  by_cases h0 : hdrv s = 0
  · have F := hdrv_fits h0
    have hz := bdy_size F
    have f1 := F.tn
    have f2 := F.n64
    have f3 := F.h20
    have hb65 : (bdy s).size ≤ 65515 := by omega
    have hbs := size_le (show (bdy s).size ≤ 65535 by omega)
    have cH : RetB 140 #[.string s] (.int .i64 0) := by rw [← h0]; exact fun w => header_any s w hs
    have c9 : Ret 141 #[.string s, .int .i64 9, .int .i64 1] (.int .i64 (bt s 9)) := fun w => number1 s 9 w hs (by decide) (by decide)
    have cB : Ret 142 #[.string s] (.string (bdy s)) := fun w => refBody_any s w hs
    have cP : Ret 146 #[.string s, .int .i64 12, .int .i64 20] (.string (prt s 12 20)) := fun w => part_any s 12 20 w (by decide) (by decide)
    by_cases p17 : bt s 9 = 17
    · rw [p17] at c9
      have e : chk s = udc s := by unfold chk; rw [if_pos h0, if_pos p17]
      rw [e]
      refine refCheck17 s (bdy s) (prt s 12 20) (wd (bdy s) 6) _ _ _ w cH c9 cB (fun w => lengths17 (bdy s) (wd (bdy s) 4) w (fun w => number2 _ 4 w hbs (by decide) (by decide))) field17
        (fun w => number2 _ 6 w hbs (by decide) (by decide)) cP (fun hk w => checksum17 s (bdy s) w F.n20 f2 hb65 (of_decide_eq_true hk).2.1 (of_decide_eq_true hk).2.2) ?_
      exact ucase_ok _ _ _ _
    · by_cases p6 : bt s 9 = 6
      · rw [p6] at c9
        have e : chk s = tcc s := by unfold chk; rw [if_pos h0, if_neg p17, if_pos p6]
        rw [e]
        refine refCheck6 s (bdy s) (prt s 12 20) (wd (bdy s) 16) _ _ _ w cH c9 cB (fun w => lengths6 (bdy s) (bt (bdy s) 12) w (bt_bd _ _).1 (bt_bd _ _).2 (fun w => number1 _ 12 w hbs (by decide) (by decide))) field6
          (fun w => number2 _ 16 w hbs (by decide) (by decide)) cP (fun hk w => checksum6 s (bdy s) w F.n20 f2 (of_decide_eq_true hk).1 hb65) ?_
        exact tcase_ok _ _ _ _
      · by_cases p1 : bt s 9 = 1
        · have cA : Ret 147 #[.string s, .string (bdy s)] (.int .i64 (askv (bdy s))) := fun w => asked_fits s w F p1
          rw [p1] at c9
          have e : chk s = icv (bdy s) := by unfold chk; rw [if_pos h0, if_neg p17, if_neg p6, if_pos p1]
          rw [e]
          refine refCheck1 s (bdy s) (prt s 12 20) (wd (bdy s) 2) (sumv (blk (bdy s) 2)) _ (askv (bdy s)) _ w cH c9 cB (fun w => lengths1 (bdy s) w) rfield1
            (fun w => number2 _ 2 w hbs (by decide) (by decide)) cP (fun hk w => checksum1 _ (bdy s) w (of_decide_eq_true hk) (by omega)) cA ?_
          exact icase_ok _ _ _ _ _ _ _ rfl
        · have e : chk s = 7 := by unfold chk; rw [if_pos h0, if_neg p17, if_neg p6, if_neg p1]
          rw [e]
          exact refCheck_kind s (bt s 9) w (by simpa using p1) (by simpa using p6) (by simpa using p17) cH c9
  · have e : chk s = hdrv s := by unfold chk; rw [if_neg h0]
    rw [e]
    exact refCheck_no s (hdrv s) w (by simpa using h0) (fun w => header_any s w hs)
end Go.Proofs.YthiljpbodmajaabGreat
