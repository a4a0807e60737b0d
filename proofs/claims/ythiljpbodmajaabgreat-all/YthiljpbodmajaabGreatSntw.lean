/-
  CONTRACTS: package frames: kinds of frames, Sent.
-/
import Derived.Test.YthiljpbodmajaabGreatPutw
import Derived.Test.YthiljpbodmajaabGreatPlain
namespace Go.Proofs.YthiljpbodmajaabGreat
open Go.RowKit Plain
set_option linter.unusedVariables false

theorem isReq_core (s : ByteArray) (p t : Int) (q : Bool) (w : World) (cP : Ret 77 #[.string s] (.int .i64 p)) (cT : Ret 79 #[.string s] (.int .i64 t)) (cQ : Ret 170 #[.int .i64 t] (.bool q)) :
    Calls Tryz.prog 112 #[.string s] w fun e w' => e = .returned (.bool (p == 1 && q)) ∧ w' = w := by
  cases h : (p == 1)
  · go_enter Tryz.func112, Tryz.ntmps112
    go_wp2_with fail
    refine Calls.mono (cP.at _) ?_; rintro e w' ⟨rfl, rfl⟩
    go_wp2
    go_ret
    exact ⟨rfl, rfl⟩
  · go_enter Tryz.func112, Tryz.ntmps112
    go_wp2_with fail
    refine Calls.mono (cP.at _) ?_; rintro e w' ⟨rfl, rfl⟩
    go_wp2_with fail
    refine Calls.mono (cT.at _) ?_; rintro e w' ⟨rfl, rfl⟩
    go_wp2_with fail
    refine Calls.mono (cQ.at _) ?_; rintro e w' ⟨rfl, rfl⟩
    go_wp2
    go_ret
    exact ⟨rfl, rfl⟩
theorem isRep_core (s : ByteArray) (p t : Int) (q : Bool) (w : World) (cP : Ret 77 #[.string s] (.int .i64 p)) (cT : Ret 79 #[.string s] (.int .i64 t)) (cQ : Ret 171 #[.int .i64 t] (.bool q)) :
    Calls Tryz.prog 113 #[.string s] w fun e w' => e = .returned (.bool (p == 1 && q)) ∧ w' = w := by
  cases h : (p == 1)
  · go_enter Tryz.func113, Tryz.ntmps113
    go_wp2_with fail
    refine Calls.mono (cP.at _) ?_; rintro e w' ⟨rfl, rfl⟩
    go_wp2
    go_ret
    exact ⟨rfl, rfl⟩
  · go_enter Tryz.func113, Tryz.ntmps113
    go_wp2_with fail
    refine Calls.mono (cP.at _) ?_; rintro e w' ⟨rfl, rfl⟩
    go_wp2_with fail
    refine Calls.mono (cT.at _) ?_; rintro e w' ⟨rfl, rfl⟩
    go_wp2_with fail
    refine Calls.mono (cQ.at _) ?_; rintro e w' ⟨rfl, rfl⟩
    go_wp2
    go_ret
    exact ⟨rfl, rfl⟩
theorem isErr_core (s : ByteArray) (p t : Int) (q : Bool) (w : World) (cP : Ret 77 #[.string s] (.int .i64 p)) (cT : Ret 79 #[.string s] (.int .i64 t)) (cQ : Ret 78 #[.int .i64 t] (.bool q)) :
    Calls Tryz.prog 48 #[.string s] w fun e w' => e = .returned (.bool (p == 1 && q)) ∧ w' = w := by
  cases h : (p == 1)
  · go_enter Tryz.func48, Tryz.ntmps48
    go_wp2_with fail
    refine Calls.mono (cP.at _) ?_; rintro e w' ⟨rfl, rfl⟩
    go_wp2
    go_ret
    exact ⟨rfl, rfl⟩
  · go_enter Tryz.func48, Tryz.ntmps48
    go_wp2_with fail
    refine Calls.mono (cP.at _) ?_; rintro e w' ⟨rfl, rfl⟩
    go_wp2_with fail
    refine Calls.mono (cT.at _) ?_; rintro e w' ⟨rfl, rfl⟩
    go_wp2_with fail
    refine Calls.mono (cQ.at _) ?_; rintro e w' ⟨rfl, rfl⟩
    go_wp2
    go_ret
    exact ⟨rfl, rfl⟩
theorem isReq_any (s : ByteArray) (hs : s.size ≤ maxLen) : Ret 112 #[.string s] (.bool (isReq s)) := fun w =>
  isReq_core s (bt s 9) (bt s (hdv s)) _ w (fun w => protocol_any s w hs) (fun w => icmpType_any s w hs) (fun w => isRequest_any _ w)
theorem isRep_any (s : ByteArray) (hs : s.size ≤ maxLen) : Ret 113 #[.string s] (.bool (isRep s)) := fun w =>
  isRep_core s (bt s 9) (bt s (hdv s)) _ w (fun w => protocol_any s w hs) (fun w => icmpType_any s w hs) (fun w => isReply_any _ w)
theorem isErr_any (s : ByteArray) (hs : s.size ≤ maxLen) : Ret 48 #[.string s] (.bool (isErr s)) := fun w =>
  isErr_core s (bt s 9) (bt s (hdv s)) _ w (fun w => protocol_any s w hs) (fun w => icmpType_any s w hs) (fun w => isError_any _ w)

theorem sealedUDP_core (s r : ByteArray) (f c k : Int) (w : World) (cW : Ret 162 #[.string s, .int .i64 f] (.int .i64 c)) (cU : RetB 165 #[.string s] (.int .i64 k)) (cP : RetB 131 #[.string s, .int .i64 f, .int .i64 k] (.string r)) (z : ByteArray) (hz : z = if c = 0 then s else r) :
    Calls Tryz.prog 182 #[.string s, .int .i64 f] w fun e w' => e = .returned (.string z) ∧ Below w.heap.size w w' := by
  by_cases h : c = 0
  · subst h
    have hz' : z = s := hz
    subst hz'
    clear hz
    go_enter Tryz.func182, Tryz.ntmps182
    go_wp2_with fail
    refine Calls.mono (cW.at _) ?_; rintro e w' ⟨rfl, rfl⟩
    go_wp2
    go_ret
    exact ⟨rfl, Below.refl _ _⟩
  · have h' : (c == 0) = false := by simpa using h
    rw [if_neg h] at hz
    subst hz
    clear h
    go_enter Tryz.func182, Tryz.ntmps182
    go_wp2_with fail
    refine Calls.mono (cW.at _) ?_; rintro e w' ⟨rfl, rfl⟩
    go_wp2_with fail
    refine Calls.mono (cU.at _) ?_; rintro e w1 ⟨rfl, hb1⟩
    go_wp2_with fail
    refine Calls.mono (cP.at _) ?_; rintro e w2 ⟨rfl, hb2⟩
    go_wp2
    go_ret
    exact ⟨rfl, hb1.trans (hb2.mono hb1.size)⟩
theorem sumPlace_core (s : ByteArray) (d p r : Int) (w : World) (d0 : 0 ≤ d) (d1 : d ≤ 60) (cL : Ret 115 #[.string s] (.int .i64 d)) (cP : Ret 77 #[.string s] (.int .i64 p)) (hr : r = d + (if p = 17 then 6 else if p = 6 then 16 else 2)) :
    Calls Tryz.prog 181 #[.string s] w fun e w' => e = .returned (.int .i64 r) ∧ w' = w := by
  have HR : Hid _ := hr
  clear hr
  by_cases c : p = 17
  · subst c
    go_enter Tryz.func181, Tryz.ntmps181
    go_wp2_with fail
    refine Calls.mono (cL.at _) ?_; rintro e w' ⟨rfl, rfl⟩
    go_wp2_with fail
    refine Calls.mono (cP.at _) ?_; rintro e w' ⟨rfl, rfl⟩
    go_wp2
    go_ret
    exact ⟨ret_int (by rw [HR.out]; rfl), rfl⟩
  · by_cases c' : p = 6
    · subst c'
      clear c
      go_enter Tryz.func181, Tryz.ntmps181
      go_wp2_with fail
      refine Calls.mono (cL.at _) ?_; rintro e w' ⟨rfl, rfl⟩
      go_wp2_with fail
      refine Calls.mono (cP.at _) ?_; rintro e w' ⟨rfl, rfl⟩
      go_wp2
      go_ret
      exact ⟨ret_int (by rw [HR.out]; rfl), rfl⟩
    · have e1 : (p == 17) = false := by simpa using c
      have e2 : (p == 6) = false := by simpa using c'
      have C : Hid _ := c
      have C' : Hid _ := c'
      clear c c'
      go_enter Tryz.func181, Tryz.ntmps181
      go_wp2_with fail
      refine Calls.mono (cL.at _) ?_; rintro e w' ⟨rfl, rfl⟩
      go_wp2_with fail
      refine Calls.mono (cP.at _) ?_; rintro e w' ⟨rfl, rfl⟩
      go_wp2
      go_ret
      exact ⟨ret_int (by rw [HR.out, if_neg C.out, if_neg C'.out]), rfl⟩
theorem sumPlace_any (s : ByteArray) (hs : s.size ≤ maxLen) : Ret 181 #[.string s] (.int .i64 (spl s)) := fun w =>
  sumPlace_core s (hdv s) (bt s 9) _ w (hdv_bd s).1 (hdv_bd s).2 (fun w => headerLength_any s w hs) (fun w => protocol_any s w hs) rfl
theorem sealed_udp (s1 s2 r : ByteArray) (h d : Int) (w : World) (cH : RetB 163 #[.string s1] (.int .i64 h)) (cW : RetB 131 #[.string s1, .int .i64 10, .int .i64 h] (.string s2))
    (cL : Ret 181 #[.string s2] (.int .i64 d)) (cP : Ret 77 #[.string s2] (.int .i64 17)) (cU : RetB 182 #[.string s2, .int .i64 d] (.string r)) :
    Calls Tryz.prog 133 #[.string s1] w fun e w' => e = .returned (.string r) ∧ Below w.heap.size w w' := by
  go_enter Tryz.func133, Tryz.ntmps133
  go_wp2_with fail
  refine Calls.mono (cH.at _) ?_; rintro e w2 ⟨rfl, hb2⟩
  go_wp2_with fail
  refine Calls.mono (cW.at _) ?_; rintro e w3 ⟨rfl, hb3⟩
  go_wp2_with fail
  refine Calls.mono (cL.at _) ?_; rintro e w' ⟨rfl, rfl⟩
  go_wp2_with fail
  refine Calls.mono (cP.at _) ?_; rintro e w' ⟨rfl, rfl⟩
  go_wp2_with fail
  refine Calls.mono (cU.at _) ?_; rintro e w4 ⟨rfl, hb4⟩
  go_wp2
  go_ret
  have z2 := hb2.size
  have z3 := hb3.size
  exact ⟨rfl, (hb2.trans (hb3.mono (by omega))).trans (hb4.mono (by omega))⟩
theorem sealed_sum (s1 s2 r : ByteArray) (p h d k : Int) (w : World) (cH : RetB 163 #[.string s1] (.int .i64 h)) (cW : RetB 131 #[.string s1, .int .i64 10, .int .i64 h] (.string s2))
    (cL : Ret 181 #[.string s2] (.int .i64 d)) (cP : Ret 77 #[.string s2] (.int .i64 p))
    (hp : (p = 6 ∧ RetB 166 #[.string s2] (.int .i64 k) ∧ RetB 131 #[.string s2, .int .i64 d, .int .i64 k] (.string r)) ∨ (p = 1 ∧ RetB 167 #[.string s2] (.int .i64 k) ∧ RetB 131 #[.string s2, .int .i64 d, .int .i64 k] (.string r))) :
    Calls Tryz.prog 133 #[.string s1] w fun e w' => e = .returned (.string r) ∧ Below w.heap.size w w' := by
  rcases hp with ⟨rfl, cS, cQ⟩ | ⟨rfl, cS, cQ⟩
  all_goals
    go_enter Tryz.func133, Tryz.ntmps133
    go_wp2_with fail
    refine Calls.mono (cH.at _) ?_; rintro e w2 ⟨rfl, hb2⟩
    go_wp2_with fail
    refine Calls.mono (cW.at _) ?_; rintro e w3 ⟨rfl, hb3⟩
    go_wp2_with fail
    refine Calls.mono (cL.at _) ?_; rintro e w' ⟨rfl, rfl⟩
    go_wp2_with fail
    refine Calls.mono (cP.at _) ?_; rintro e w' ⟨rfl, rfl⟩
    go_wp2_with fail
    refine Calls.mono (cS.at _) ?_; rintro e w4 ⟨rfl, hb4⟩
    go_wp2_with fail
    refine Calls.mono (cQ.at _) ?_; rintro e w5 ⟨rfl, hb5⟩
    go_wp2
    go_ret
    have z2 := hb2.size
    have z3 := hb3.size
    have z4 := hb4.size
    exact ⟨rfl, ((hb2.trans (hb3.mono (by omega))).trans (hb4.mono (by omega))).trans (hb5.mono (by omega))⟩
theorem sent_seal (s s1 r : ByteArray) (t : Int) (w : World) (t0 : 0 ≤ t) (t1 : t < 256) (cT : Ret 126 #[.string s] (.int .i64 t)) (cB : RetB 134 #[.string s, .int .i64 8, .int .i64 (t - 1)] (.string s1)) (cS : RetB 133 #[.string s1] (.string r)) :
    Calls Tryz.prog 87 #[.string s] w fun e w' => e = .returned (.string r) ∧ Below w.heap.size w w' := by
  go_enter Tryz.func87, Tryz.ntmps87
  go_wp2_with fail
  refine Calls.mono (cT.at _) ?_; rintro e w' ⟨rfl, rfl⟩
  go_wp2_with fail
  refine Calls.mono (cB.at _) ?_; rintro e w1 ⟨rfl, hb1⟩
  go_wp2_with fail
  refine Calls.mono (cS.at _) ?_; rintro e w2 ⟨rfl, hb2⟩
  go_wp2
  go_ret
  have z1 := hb1.size
  exact ⟨rfl, hb1.trans (hb2.mono z1)⟩

/-- a frame with its checksums -/
theorem sealed_any (s1 : ByteArray) (S1 : Sok s1) (hp : bt s1 9 = 17 ∨ bt s1 9 = 6 ∨ bt s1 9 = 1) : RetB 133 #[.string s1] (.string (sld (put s1 10 (w2 (hsv s1))))) := fun w => by
  have F1 := S1.fit
  have n20 := F1.n20
  have n64 := F1.n64
  have hb : (blk (prt s1 0 (hdv s1)) 10).size ≤ 65535 := by
    have h20 := F1.h20
    have ht1 := F1.ht
    have tn := F1.tn
    rw [blk_size _ _ (by decide) (by rw [prt_size]; omega), prt_size]
    omega
  have hh := hsv_bd s1 hb
  have S2 : Sok (put s1 10 (w2 (hsv s1))) := sok_put S1 (by decide) (by rw [w2_size]; omega) (by rw [w2_size]; omega) (fun _ => .inl (by rw [w2_size]; have := F1.h20; omega))
  have z2 : (put s1 10 (w2 (hsv s1))).size = s1.size := put_size s1 10 _ (by decide) (by rw [w2_size]; omega)
  have e9 : bt (put s1 10 (w2 (hsv s1))) 9 = bt s1 9 := by rw [bt_put_off (by decide) (by rw [w2_size]; omega) (by omega)]
  have cH : RetB 163 #[.string s1] (.int .i64 (hsv s1)) := fun w => headerSum_fits _ w F1
  have cW : RetB 131 #[.string s1, .int .i64 10, .int .i64 (hsv s1)] (.string (put s1 10 (w2 (hsv s1)))) := fun w => putWord_in _ _ _ w (by decide) (by omega) (by omega) hh.1 hh.2
  generalize put s1 10 (w2 (hsv s1)) = s2 at S2 z2 e9 cW ⊢
  have F2 := S2.fit
  have hd := hdv_bd s2
  have hbz := bdy_size F2
  have htn := F2.tn
  have hht := F2.ht
  have hl : s2.size ≤ maxLen := size_le (by omega)
  have cL : Ret 181 #[.string s2] (.int .i64 (spl s2)) := sumPlace_any s2 hl
  have cP : Ret 77 #[.string s2] (.int .i64 (bt s1 9)) := fun w => by rw [← e9]; exact protocol_any _ w hl
  rcases hp with e | e | e
  · have u := S2.u (by rw [e9]; exact e)
    rw [e] at cP
    have hk := uds_bd s2
    have es : spl s2 = hdv s2 + 6 := by unfold spl; rw [if_pos (by rw [e9]; exact e)]
    rw [es] at cL
    exact sealed_udp s1 s2 _ (hsv s1) (hdv s2 + 6) w cH cW cL cP
      (fun w => sealedUDP_core s2 _ (hdv s2 + 6) _ (uds s2) w (fun w => word_any _ _ w hl (by omega) (by omega)) (fun w => udpSum_fits _ w F2 u.1 u.2)
        (fun w => putWord_in _ _ _ w (by omega) (by omega) (by omega) hk.1 hk.2) _ (by unfold sld; rw [if_pos (by rw [e9]; exact e)]))
  · have u := S2.t (by rw [e9]; exact e)
    rw [e] at cP
    have hk := cks_bd s2 (bdy s2) 6 16
    have er : sld s2 = put s2 (hdv s2 + 16) (w2 (cks s2 (bdy s2) 6 16)) := by
      unfold sld; rw [if_neg (by rw [e9]; omega), if_pos (by rw [e9]; exact e)]
    rw [er]
    have es : spl s2 = hdv s2 + 16 := by unfold spl; rw [if_neg (by rw [e9]; omega), if_pos (by rw [e9]; exact e)]
    rw [es] at cL
    exact sealed_sum s1 s2 _ 6 (hsv s1) (hdv s2 + 16) (cks s2 (bdy s2) 6 16) w cH cW cL cP
      (.inl ⟨rfl, fun w => tcpSum_fits _ w F2 u, fun w => putWord_in _ _ _ w (by omega) (by omega) (by omega) hk.1 hk.2⟩)
  · have u := S2.i (by rw [e9]; exact e)
    rw [e] at cP
    have hs2 : (blk (bdy s2) 2).size ≤ 65535 := by rw [blk_size _ _ (by decide) (by omega)]; omega
    have hk : 0 ≤ sumv (blk (bdy s2) 2) ∧ sumv (blk (bdy s2) 2) < 65536 := by unfold sumv; rw [if_pos hs2]; have := ones_bd (total (blk (bdy s2) 2)); omega
    have er : sld s2 = put s2 (hdv s2 + 2) (w2 (sumv (blk (bdy s2) 2))) := by
      unfold sld; rw [if_neg (by rw [e9]; omega), if_neg (by rw [e9]; omega), if_pos (by rw [e9]; exact e)]
    rw [er]
    have es : spl s2 = hdv s2 + 2 := by unfold spl; rw [if_neg (by rw [e9]; omega), if_neg (by rw [e9]; omega)]
    rw [es] at cL
    exact sealed_sum s1 s2 _ 1 (hsv s1) (hdv s2 + 2) (sumv (blk (bdy s2) 2)) w cH cW cL cP
      (.inr ⟨rfl, fun w => icmpSum_fits _ w F2 u, fun w => putWord_in _ _ _ w (by omega) (by omega) (by omega) hk.1 hk.2⟩)
theorem sent_any (s : ByteArray) (w : World) (S : Sok s) (ht : 1 ≤ bt s 8) (hp : bt s 9 = 17 ∨ bt s 9 = 6 ∨ bt s 9 = 1) :
    Calls Tryz.prog 87 #[.string s] w fun e w' => e = .returned (.string (snt s)) ∧ Below w.heap.size w w' := by
  have F := S.fit
  have n20 := F.n20
  have n64 := F.n64
  have htb := bt_bd s 8
  have hu : bt s 9 = 17 → (8 : Int) + ((b1 (bt s 8 - 1)).size : Int) ≤ hdv s + 4 ∨ hdv s + 6 ≤ 8 := fun _ => .inl (by rw [b1_size]; have := F.h20; omega)
  have S1 : Sok (snt1 s) := sok_put S (by decide) (by rw [b1_size]; omega) (by rw [b1_size]; omega) hu
  have e9 : bt (snt1 s) 9 = bt s 9 := by
    unfold snt1; rw [bt_put_off (by decide) (by rw [b1_size]; omega) (by rw [b1_size]; omega)]
  exact sent_seal s (snt1 s) _ (bt s 8) w (by omega) (by omega) (fun w => ttl_any s w (size_le n64)) (fun w => putByte_in s 8 _ w (by decide) (by omega) n64 (by omega) (by omega)) (sealed_any (snt1 s) S1 (by rw [e9]; exact hp))
end Go.Proofs.YthiljpbodmajaabGreat
