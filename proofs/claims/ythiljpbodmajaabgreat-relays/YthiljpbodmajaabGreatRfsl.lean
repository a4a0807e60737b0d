/-
  PLAIN MATHEMATICS: what is sealed passes Check.
-/
import Derived.Test.YthiljpbodmajaabGreatPlain
import Derived.Test.YthiljpbodmajaabGreatRefe
namespace Go.Proofs.YthiljpbodmajaabGreat.Plain

theorem prt_put_lo {s t : ByteArray} {i a b : Int} (ha : 0 ≤ a) (hb : b ≤ i) (h0 : 0 ≤ i) (h1 : i + (t.size : Int) ≤ s.size) : prt (put s i t) a b = prt s a b := by
  have hz := put_size s i t h0 h1
  apply bt_ext
  · rw [prt_size, prt_size, hz]
  · intro j hj
    rw [prt_size, hz] at hj
    rw [bt_prt _ _ _ _ ha (by omega) (by omega), bt_prt _ _ _ _ ha (by omega) (by omega), bt_put_off h0 h1 (by omega)]
theorem prt_put_hi {s t : ByteArray} {i a b : Int} (ha : i + (t.size : Int) ≤ a) (h0 : 0 ≤ i) (h1 : i + (t.size : Int) ≤ s.size) : prt (put s i t) a b = prt s a b := by
  have hz := put_size s i t h0 h1
  apply bt_ext
  · rw [prt_size, prt_size, hz]
  · intro j hj
    rw [prt_size, hz] at hj
    rw [bt_prt _ _ _ _ (by omega) (by omega) (by omega), bt_prt _ _ _ _ (by omega) (by omega) (by omega), bt_put_off h0 h1 (by omega)]
theorem bdy_put_out {s t : ByteArray} {i : Int} (F : Fits s) (h0 : 4 ≤ i) (h1 : i + (t.size : Int) ≤ hdv s) : bdy (put s i t) = bdy s := by
  have tn := F.tn
  have ht := F.ht
  unfold bdy
  rw [hdv_put (by omega) (by omega), tot_put (by omega) (by omega), prt_put_hi (by omega) (by omega) (by omega)]
section
variable {s : ByteArray}
end
end Go.Proofs.YthiljpbodmajaabGreat.Plain
namespace Go.Proofs.YthiljpbodmajaabGreat
open Go.RowKit Plain
set_option linter.unusedVariables false

theorem tx_one (v : Int) (h0 : 0 ≤ v) (h1 : v < 256) : tx v 1 = b1 v := by
  show ByteArray.empty ++ strOfNums [v % 256] = strOfNums [v]
  rw [Int.emod_eq_of_lt h0 h1, ByteArray.empty_append]
theorem tx_four (v : Int) (h0 : 0 ≤ v) (h1 : v < 4294967296) : tx v 4 = l4 v := by
  have e : tx v 4 = tx (v / 65536) 2 ++ (strOfNums [v / 256 % 256] ++ strOfNums [v % 256]) := by
    show tx (v / 256) 3 ++ _ = _
    show (tx (v / 256 / 256) 2 ++ strOfNums [v / 256 % 256]) ++ strOfNums [v % 256] = _
    rw [ByteArray.append_assoc, Int.ediv_ediv_of_nonneg (by decide)]
    rfl
  rw [e, tx2 _ (by omega) (by omega)]
  unfold l4
  congr 1
  have e1 : v % 65536 / 256 = v / 256 % 256 := by omega
  have e2 : v % 65536 % 256 = v % 256 := by omega
  unfold w2
  rw [e1, e2]
  apply ByteArray.ext
  simp [strOfNums, ByteArray.data_append]
set_option maxHeartbeats 1000000 in
theorem text_stepL (v n m : Int) (k : Nat) (w : World) (hm : Hid (n - 1 = m)) (h0 : 0 ≤ v) (h1 : v < 4294967296) (n0 : 0 < n) (n1 : n ≤ 4)
    (ih : ∀ w : World, Calls Tryz.prog 191 #[.int .i64 (v / 256), .int .i64 m] w fun e w' => e = .returned (.string (tx (v / 256) k)) ∧ Below w.heap.size w w') (hk : k ≤ 4) :
    Calls Tryz.prog 191 #[.int .i64 v, .int .i64 n] w fun e w' => e = .returned (.string (tx v (k + 1))) ∧ Below w.heap.size w w' := by
  have hz := tx_size (v / 256) k
  have hz1 : (strOfNums [v % 256]).size = 1 := strOfNums_size _
  have e1 : IntKind.i64.wrap (v.tdiv 256) = v / 256 := by rw [IntKind.wrap_i64, Int.tdiv_eq_ediv_of_nonneg h0]; omega
  have e2 : IntKind.i64.wrap (n - 1) = m := by rw [IntKind.wrap_i64, ← hm.out]; omega
  have e3 : v.tmod 256 = v % 256 := Int.tmod_eq_emod_of_nonneg h0
  have e4 : IntKind.u8.wrap (v % 256) = v % 256 := by rw [IntKind.wrap_u8']; omega
  have hcv := conv1_at (v % 256)
  have IH : Hid _ := ih
  clear ih
  go_enter Tryz.func191, Tryz.ntmps191
  go_wp2
  go_region_with (go_at_call 191; refine Calls.mono (Hid.out IH _) ?_; rintro e w' ⟨rfl, hb⟩; obtain ⟨hc, hf⟩ := bcell hb)
  all_goals
    go_wp2
    go_ret
    refine ⟨ret_string rfl, ?_⟩
    first
    | exact ((Below.refl _ _).drew.trans hb).alloc hb.size _
    | exact (((Below.refl _ _).alloc (Nat.le_refl _) _).drew).trans (hb.mono (by simp))
theorem text1L (v : Int) (h0 : 0 ≤ v) (h1 : v < 4294967296) : RetB 191 #[.int .i64 v, .int .i64 1] (.string (tx v 1)) := fun w =>
  text_stepL v 1 0 0 w rfl h0 h1 (by decide) (by decide) (fun w => text_zero _ w) (by decide)
theorem text2L (v : Int) (h0 : 0 ≤ v) (h1 : v < 4294967296) : RetB 191 #[.int .i64 v, .int .i64 2] (.string (tx v 2)) := fun w =>
  text_stepL v 2 1 1 w rfl h0 h1 (by decide) (by decide) (fun w => text1L _ (by omega) (by omega) w) (by decide)
theorem text3L (v : Int) (h0 : 0 ≤ v) (h1 : v < 4294967296) : RetB 191 #[.int .i64 v, .int .i64 3] (.string (tx v 3)) := fun w =>
  text_stepL v 3 2 2 w rfl h0 h1 (by decide) (by decide) (fun w => text2L _ (by omega) (by omega) w) (by decide)
theorem text4 (v : Int) (h0 : 0 ≤ v) (h1 : v < 4294967296) : RetB 191 #[.int .i64 v, .int .i64 4] (.string (l4 v)) := fun w =>
  (text_stepL v 4 3 3 w rfl h0 h1 (by decide) (by decide) (fun w => text3L _ (by omega) (by omega) w) (by decide)).mono fun e w' h => ⟨by rw [h.1, tx_four v h0 h1], h.2⟩
theorem text1b (v : Int) (h0 : 0 ≤ v) (h1 : v < 256) : RetB 191 #[.int .i64 v, .int .i64 1] (.string (b1 v)) := fun w =>
  (text1L v h0 (by omega) w).mono fun e w' h => ⟨by rw [h.1, tx_one v h0 h1], h.2⟩

theorem sport_core (s : ByteArray) (h q x : Int) (w : World) (h0 : 0 ≤ h) (h1 : h ≤ 60) (cH : Ret 189 #[.string s] (.int .i64 h)) (c9 : Ret 141 #[.string s, .int .i64 9, .int .i64 1] (.int .i64 q))
    (c4 : (q == 1) = true → Ret 141 #[.string s, .int .i64 (h + 4), .int .i64 2] (.int .i64 x)) (c0 : (q == 1) = false → Ret 141 #[.string s, .int .i64 (h), .int .i64 2] (.int .i64 x)) :
    Calls Tryz.prog 207 #[.string s] w fun e w' => e = .returned (.int .i64 x) ∧ w' = w := by
  have C4 : Hid _ := c4
  have C0 : Hid _ := c0
  clear c4 c0
  cases e1 : (q == 1)
  · have cX := C0.out e1
    clear C4 C0
    go_enter Tryz.func207, Tryz.ntmps207
    go_wp2_with fail
    refine Calls.mono (cH.at _) ?_; rintro e w' ⟨rfl, hw⟩; replace hw := hw.symm; subst hw
    go_wp2_with fail
    refine Calls.mono (c9.at _) ?_; rintro e w' ⟨rfl, hw⟩; replace hw := hw.symm; subst hw
    go_wp2_with fail
    refine Calls.mono (cX.at _) ?_; rintro e w' ⟨rfl, hw⟩; replace hw := hw.symm; subst hw
    go_wp2
    go_ret
    exact ⟨rfl, rfl⟩
  · have cX := C4.out e1
    clear C4 C0
    go_enter Tryz.func207, Tryz.ntmps207
    go_wp2_with fail
    refine Calls.mono (cH.at _) ?_; rintro e w' ⟨rfl, hw⟩; replace hw := hw.symm; subst hw
    go_wp2_with fail
    refine Calls.mono (c9.at _) ?_; rintro e w' ⟨rfl, hw⟩; replace hw := hw.symm; subst hw
    go_wp2_with fail
    refine Calls.mono (cX.at _) ?_; rintro e w' ⟨rfl, hw⟩; replace hw := hw.symm; subst hw
    go_wp2
    go_ret
    exact ⟨rfl, rfl⟩
theorem sport_any (s : ByteArray) (hs : s.size ≤ maxLen) : Ret 207 #[.string s] (.int .i64 (wd s (ppl s 0))) := fun w => by
  have hd := hdv_bd s
  refine sport_core s (hdv s) (bt s 9) _ w hd.1 hd.2 (fun w => head_any s w hs) (fun w => number1 s 9 w hs (by decide) (by decide)) (fun e => ?_) (fun e => ?_)
  · have e' : bt s 9 = 1 := by simpa using e
    unfold ppl; rw [if_pos e']
    exact fun w => number2 s _ w hs (by omega) (by omega)
  · have e' : ¬ bt s 9 = 1 := by simpa using e
    unfold ppl; rw [if_neg e']
    rw [Int.add_zero]
    exact fun w => number2 s _ w hs (by omega) (by omega)

theorem dport_core (s : ByteArray) (h q x : Int) (w : World) (h0 : 0 ≤ h) (h1 : h ≤ 60) (cH : Ret 189 #[.string s] (.int .i64 h)) (c9 : Ret 141 #[.string s, .int .i64 9, .int .i64 1] (.int .i64 q))
    (c4 : (q == 1) = true → Ret 141 #[.string s, .int .i64 (h + 4), .int .i64 2] (.int .i64 x)) (c0 : (q == 1) = false → Ret 141 #[.string s, .int .i64 (h + 2), .int .i64 2] (.int .i64 x)) :
    Calls Tryz.prog 204 #[.string s] w fun e w' => e = .returned (.int .i64 x) ∧ w' = w := by
  have C4 : Hid _ := c4
  have C0 : Hid _ := c0
  clear c4 c0
  cases e1 : (q == 1)
  · have cX := C0.out e1
    clear C4 C0
    go_enter Tryz.func204, Tryz.ntmps204
    go_wp2_with fail
    refine Calls.mono (cH.at _) ?_; rintro e w' ⟨rfl, hw⟩; replace hw := hw.symm; subst hw
    go_wp2_with fail
    refine Calls.mono (c9.at _) ?_; rintro e w' ⟨rfl, hw⟩; replace hw := hw.symm; subst hw
    go_wp2_with fail
    refine Calls.mono (cX.at _) ?_; rintro e w' ⟨rfl, hw⟩; replace hw := hw.symm; subst hw
    go_wp2
    go_ret
    exact ⟨rfl, rfl⟩
  · have cX := C4.out e1
    clear C4 C0
    go_enter Tryz.func204, Tryz.ntmps204
    go_wp2_with fail
    refine Calls.mono (cH.at _) ?_; rintro e w' ⟨rfl, hw⟩; replace hw := hw.symm; subst hw
    go_wp2_with fail
    refine Calls.mono (c9.at _) ?_; rintro e w' ⟨rfl, hw⟩; replace hw := hw.symm; subst hw
    go_wp2_with fail
    refine Calls.mono (cX.at _) ?_; rintro e w' ⟨rfl, hw⟩; replace hw := hw.symm; subst hw
    go_wp2
    go_ret
    exact ⟨rfl, rfl⟩
theorem dport_any (s : ByteArray) (hs : s.size ≤ maxLen) : Ret 204 #[.string s] (.int .i64 (wd s (ppl s 2))) := fun w => by
  have hd := hdv_bd s
  refine dport_core s (hdv s) (bt s 9) _ w hd.1 hd.2 (fun w => head_any s w hs) (fun w => number1 s 9 w hs (by decide) (by decide)) (fun e => ?_) (fun e => ?_)
  · have e' : bt s 9 = 1 := by simpa using e
    unfold ppl; rw [if_pos e']
    exact fun w => number2 s _ w hs (by omega) (by omega)
  · have e' : ¬ bt s 9 = 1 := by simpa using e
    unfold ppl; rw [if_neg e']
    
    exact fun w => number2 s _ w hs (by omega) (by omega)

theorem far_any (q x : Int) : Ret 208 #[.int .i64 q, .int .i64 x] (.int .i64 (if q = 1 then 0 else x)) := fun w => by
  by_cases h : q = 1
  · rw [if_pos h]
    subst h
    go_enter Tryz.func208, Tryz.ntmps208
    go_wp2
    go_ret
    exact ⟨rfl, rfl⟩
  · rw [if_neg h]
    have h' : (q == 1) = false := by simpa using h
    clear h
    go_enter Tryz.func208, Tryz.ntmps208
    go_wp2
    go_ret
    exact ⟨rfl, rfl⟩

theorem rsource_core (s A1 P1 s1 s2 : ByteArray) (h q a x i : Int) (w : World) (h0 : 0 ≤ h) (h1 : h ≤ 60) (cH : Ret 189 #[.string s] (.int .i64 h)) (c9 : Ret 141 #[.string s, .int .i64 9, .int .i64 1] (.int .i64 q))
    (hi1 : (q == 1) = true → h + 4 = i) (hi0 : (q == 1) = false → h = i) (cA : RetB 191 #[.int .i64 a, .int .i64 4] (.string A1)) (cW : Ret 190 #[.string s, .int .i64 12, .string A1] (.string s1))
    (cP : RetB 191 #[.int .i64 x, .int .i64 2] (.string P1)) (cV : Ret 190 #[.string s1, .int .i64 i, .string P1] (.string s2)) :
    Calls Tryz.prog 210 #[.string s, .int .i64 a, .int .i64 x] w fun e w' => e = .returned (.string s2) ∧ Below w.heap.size w w' := by
  have HI1 : Hid _ := hi1
  have HI0 : Hid _ := hi0
  clear hi1 hi0
  cases e1 : (q == 1)
  all_goals first
    | (have hi := HI0.out e1
       clear HI0 HI1
       subst hi
       go_enter Tryz.func210, Tryz.ntmps210
       go_wp2_with fail
       refine Calls.mono (cH.at _) ?_; rintro e w' ⟨rfl, hw⟩; replace hw := hw.symm; subst hw
       go_wp2_with fail
       refine Calls.mono (c9.at _) ?_; rintro e w' ⟨rfl, hw⟩; replace hw := hw.symm; subst hw
       go_wp2_with fail
       refine Calls.mono (cA.at _) ?_; rintro e w1 ⟨rfl, hb1⟩
       go_wp2_with fail
       refine Calls.mono (cW.at _) ?_; rintro e w' ⟨rfl, hw⟩; replace hw := hw.symm; subst hw
       go_wp2_with fail
       refine Calls.mono (cP.at _) ?_; rintro e w2 ⟨rfl, hb2⟩
       go_wp2_with fail
       refine Calls.mono (cV.at _) ?_; rintro e w' ⟨rfl, hw⟩; replace hw := hw.symm; subst hw
       go_wp2
       go_ret
       exact ⟨rfl, hb1.trans (hb2.mono hb1.size)⟩)
    | (have hi := HI1.out e1
       clear HI0 HI1
       subst hi
       go_enter Tryz.func210, Tryz.ntmps210
       go_wp2_with fail
       refine Calls.mono (cH.at _) ?_; rintro e w' ⟨rfl, hw⟩; replace hw := hw.symm; subst hw
       go_wp2_with fail
       refine Calls.mono (c9.at _) ?_; rintro e w' ⟨rfl, hw⟩; replace hw := hw.symm; subst hw
       go_wp2_with fail
       refine Calls.mono (cA.at _) ?_; rintro e w1 ⟨rfl, hb1⟩
       go_wp2_with fail
       refine Calls.mono (cW.at _) ?_; rintro e w' ⟨rfl, hw⟩; replace hw := hw.symm; subst hw
       go_wp2_with fail
       refine Calls.mono (cP.at _) ?_; rintro e w2 ⟨rfl, hb2⟩
       go_wp2_with fail
       refine Calls.mono (cV.at _) ?_; rintro e w' ⟨rfl, hw⟩; replace hw := hw.symm; subst hw
       go_wp2
       go_ret
       exact ⟨rfl, hb1.trans (hb2.mono hb1.size)⟩)

theorem rdestination_core (s A1 P1 s1 s2 : ByteArray) (h q a x i : Int) (w : World) (h0 : 0 ≤ h) (h1 : h ≤ 60) (cH : Ret 189 #[.string s] (.int .i64 h)) (c9 : Ret 141 #[.string s, .int .i64 9, .int .i64 1] (.int .i64 q))
    (hi1 : (q == 1) = true → h + 4 = i) (hi0 : (q == 1) = false → h + 2 = i) (cA : RetB 191 #[.int .i64 a, .int .i64 4] (.string A1)) (cW : Ret 190 #[.string s, .int .i64 16, .string A1] (.string s1))
    (cP : RetB 191 #[.int .i64 x, .int .i64 2] (.string P1)) (cV : Ret 190 #[.string s1, .int .i64 i, .string P1] (.string s2)) :
    Calls Tryz.prog 206 #[.string s, .int .i64 a, .int .i64 x] w fun e w' => e = .returned (.string s2) ∧ Below w.heap.size w w' := by
  have HI1 : Hid _ := hi1
  have HI0 : Hid _ := hi0
  clear hi1 hi0
  cases e1 : (q == 1)
  all_goals first
    | (have hi := HI0.out e1
       clear HI0 HI1
       subst hi
       go_enter Tryz.func206, Tryz.ntmps206
       go_wp2_with fail
       refine Calls.mono (cH.at _) ?_; rintro e w' ⟨rfl, hw⟩; replace hw := hw.symm; subst hw
       go_wp2_with fail
       refine Calls.mono (c9.at _) ?_; rintro e w' ⟨rfl, hw⟩; replace hw := hw.symm; subst hw
       go_wp2_with fail
       refine Calls.mono (cA.at _) ?_; rintro e w1 ⟨rfl, hb1⟩
       go_wp2_with fail
       refine Calls.mono (cW.at _) ?_; rintro e w' ⟨rfl, hw⟩; replace hw := hw.symm; subst hw
       go_wp2_with fail
       refine Calls.mono (cP.at _) ?_; rintro e w2 ⟨rfl, hb2⟩
       go_wp2_with fail
       refine Calls.mono (cV.at _) ?_; rintro e w' ⟨rfl, hw⟩; replace hw := hw.symm; subst hw
       go_wp2
       go_ret
       exact ⟨rfl, hb1.trans (hb2.mono hb1.size)⟩)
    | (have hi := HI1.out e1
       clear HI0 HI1
       subst hi
       go_enter Tryz.func206, Tryz.ntmps206
       go_wp2_with fail
       refine Calls.mono (cH.at _) ?_; rintro e w' ⟨rfl, hw⟩; replace hw := hw.symm; subst hw
       go_wp2_with fail
       refine Calls.mono (c9.at _) ?_; rintro e w' ⟨rfl, hw⟩; replace hw := hw.symm; subst hw
       go_wp2_with fail
       refine Calls.mono (cA.at _) ?_; rintro e w1 ⟨rfl, hb1⟩
       go_wp2_with fail
       refine Calls.mono (cW.at _) ?_; rintro e w' ⟨rfl, hw⟩; replace hw := hw.symm; subst hw
       go_wp2_with fail
       refine Calls.mono (cP.at _) ?_; rintro e w2 ⟨rfl, hb2⟩
       go_wp2_with fail
       refine Calls.mono (cV.at _) ?_; rintro e w' ⟨rfl, hw⟩; replace hw := hw.symm; subst hw
       go_wp2
       go_ret
       exact ⟨rfl, hb1.trans (hb2.mono hb1.size)⟩)

set_option maxHeartbeats 1000000 in
/-- with a body's checksum; u: whether UDP's is looked at -/
theorem sealed_yes (s b e1 t1 s1 P z B t2 s2 : ByteArray) (h q at' n c hc : Int) (w : World) (h0 : 0 ≤ h) (h1 : h ≤ 60) (a0 : 0 ≤ at') (a1 : at' ≤ 16) (cH : Ret 189 #[.string s] (.int .i64 h)) (c9 : Ret 141 #[.string s, .int .i64 9, .int .i64 1] (.int .i64 q))
    (cB : Ret 142 #[.string s] (.string b)) (cF : Ret 144 #[.int .i64 q] (.int .i64 at')) (hq : (q != 17) = true ∨ (q != 17) = false ∧ (n != 0) = true) (cN : Ret 141 #[.string b, .int .i64 at', .int .i64 2] (.int .i64 n))
    (cE : Ret 146 #[.string s, .int .i64 12, .int .i64 20] (.string e1)) (cC : RetB 145 #[.int .i64 q, .string e1, .string b] (.int .i64 c)) (cT : RetB 191 #[.int .i64 c, .int .i64 2] (.string t1)) (cW : Ret 190 #[.string s, .int .i64 (h + at'), .string t1] (.string s1))
    (cP : Ret 146 #[.string s1, .int .i64 0, .int .i64 h] (.string P)) (cZ : RetB 191 #[.int .i64 0, .int .i64 2] (.string z)) (cV : Ret 190 #[.string P, .int .i64 10, .string z] (.string B)) (cS : Ret 192 #[.string B] (.int .i64 hc))
    (cU : RetB 191 #[.int .i64 hc, .int .i64 2] (.string t2)) (cX : Ret 190 #[.string s1, .int .i64 10, .string t2] (.string s2)) :
    Calls Tryz.prog 228 #[.string s] w fun e w' => e = .returned (.string s2) ∧ Below w.heap.size w w' := by
  rcases hq with hq | ⟨hq, hn⟩
  · go_enter Tryz.func228, Tryz.ntmps228
    go_wp2_with fail
    refine Calls.mono (cH.at _) ?_; rintro e w' ⟨rfl, hw⟩; replace hw := hw.symm; subst hw
    go_wp2_with fail
    refine Calls.mono (c9.at _) ?_; rintro e w' ⟨rfl, hw⟩; replace hw := hw.symm; subst hw
    go_wp2_with fail
    refine Calls.mono (cB.at _) ?_; rintro e w' ⟨rfl, hw⟩; replace hw := hw.symm; subst hw
    go_wp2_with fail
    refine Calls.mono (cF.at _) ?_; rintro e w' ⟨rfl, hw⟩; replace hw := hw.symm; subst hw
    go_wp2_with fail
    refine Calls.mono (cE.at _) ?_; rintro e w' ⟨rfl, hw⟩; replace hw := hw.symm; subst hw
    go_wp2_with fail
    refine Calls.mono (cC.at _) ?_; rintro e w1 ⟨rfl, hb1⟩
    go_wp2_with fail
    refine Calls.mono (cT.at _) ?_; rintro e w2 ⟨rfl, hb2⟩
    go_wp2_with fail
    refine Calls.mono (cW.at _) ?_; rintro e w' ⟨rfl, hw⟩; replace hw := hw.symm; subst hw
    go_wp2_with fail
    refine Calls.mono (cP.at _) ?_; rintro e w' ⟨rfl, hw⟩; replace hw := hw.symm; subst hw
    go_wp2_with fail
    refine Calls.mono (cZ.at _) ?_; rintro e w3 ⟨rfl, hb3⟩
    go_wp2_with fail
    refine Calls.mono (cV.at _) ?_; rintro e w' ⟨rfl, hw⟩; replace hw := hw.symm; subst hw
    go_wp2_with fail
    refine Calls.mono (cS.at _) ?_; rintro e w' ⟨rfl, hw⟩; replace hw := hw.symm; subst hw
    go_wp2_with fail
    refine Calls.mono (cU.at _) ?_; rintro e w4 ⟨rfl, hb4⟩
    go_wp2_with fail
    refine Calls.mono (cX.at _) ?_; rintro e w' ⟨rfl, hw⟩; replace hw := hw.symm; subst hw
    go_wp2
    go_ret
    have b2 := hb1.trans (hb2.mono hb1.size)
    have b3 := b2.trans (hb3.mono b2.size)
    exact ⟨rfl, b3.trans (hb4.mono b3.size)⟩
  · go_enter Tryz.func228, Tryz.ntmps228
    go_wp2_with fail
    refine Calls.mono (cH.at _) ?_; rintro e w' ⟨rfl, hw⟩; replace hw := hw.symm; subst hw
    go_wp2_with fail
    refine Calls.mono (c9.at _) ?_; rintro e w' ⟨rfl, hw⟩; replace hw := hw.symm; subst hw
    go_wp2_with fail
    refine Calls.mono (cB.at _) ?_; rintro e w' ⟨rfl, hw⟩; replace hw := hw.symm; subst hw
    go_wp2_with fail
    refine Calls.mono (cF.at _) ?_; rintro e w' ⟨rfl, hw⟩; replace hw := hw.symm; subst hw
    go_wp2_with fail
    refine Calls.mono (cN.at _) ?_; rintro e w' ⟨rfl, hw⟩; replace hw := hw.symm; subst hw
    go_wp2_with fail
    refine Calls.mono (cE.at _) ?_; rintro e w' ⟨rfl, hw⟩; replace hw := hw.symm; subst hw
    go_wp2_with fail
    refine Calls.mono (cC.at _) ?_; rintro e w1 ⟨rfl, hb1⟩
    go_wp2_with fail
    refine Calls.mono (cT.at _) ?_; rintro e w2 ⟨rfl, hb2⟩
    go_wp2_with fail
    refine Calls.mono (cW.at _) ?_; rintro e w' ⟨rfl, hw⟩; replace hw := hw.symm; subst hw
    go_wp2_with fail
    refine Calls.mono (cP.at _) ?_; rintro e w' ⟨rfl, hw⟩; replace hw := hw.symm; subst hw
    go_wp2_with fail
    refine Calls.mono (cZ.at _) ?_; rintro e w3 ⟨rfl, hb3⟩
    go_wp2_with fail
    refine Calls.mono (cV.at _) ?_; rintro e w' ⟨rfl, hw⟩; replace hw := hw.symm; subst hw
    go_wp2_with fail
    refine Calls.mono (cS.at _) ?_; rintro e w' ⟨rfl, hw⟩; replace hw := hw.symm; subst hw
    go_wp2_with fail
    refine Calls.mono (cU.at _) ?_; rintro e w4 ⟨rfl, hb4⟩
    go_wp2_with fail
    refine Calls.mono (cX.at _) ?_; rintro e w' ⟨rfl, hw⟩; replace hw := hw.symm; subst hw
    go_wp2
    go_ret
    have b2 := hb1.trans (hb2.mono hb1.size)
    have b3 := b2.trans (hb3.mono b2.size)
    exact ⟨rfl, b3.trans (hb4.mono b3.size)⟩
set_option maxHeartbeats 1000000 in
/-- without one: UDP's is 0 -/
theorem sealed_no (s b P z B t2 s2 : ByteArray) (h hc : Int) (w : World) (h0 : 0 ≤ h) (h1 : h ≤ 60) (cH : Ret 189 #[.string s] (.int .i64 h)) (c9 : Ret 141 #[.string s, .int .i64 9, .int .i64 1] (.int .i64 17))
    (cB : Ret 142 #[.string s] (.string b)) (cF : Ret 144 #[.int .i64 17] (.int .i64 6)) (cN : Ret 141 #[.string b, .int .i64 6, .int .i64 2] (.int .i64 0))
    (cP : Ret 146 #[.string s, .int .i64 0, .int .i64 h] (.string P)) (cZ : RetB 191 #[.int .i64 0, .int .i64 2] (.string z)) (cV : Ret 190 #[.string P, .int .i64 10, .string z] (.string B)) (cS : Ret 192 #[.string B] (.int .i64 hc))
    (cU : RetB 191 #[.int .i64 hc, .int .i64 2] (.string t2)) (cX : Ret 190 #[.string s, .int .i64 10, .string t2] (.string s2)) :
    Calls Tryz.prog 228 #[.string s] w fun e w' => e = .returned (.string s2) ∧ Below w.heap.size w w' := by
  go_enter Tryz.func228, Tryz.ntmps228
  go_wp2_with fail
  refine Calls.mono (cH.at _) ?_; rintro e w' ⟨rfl, hw⟩; replace hw := hw.symm; subst hw
  go_wp2_with fail
  refine Calls.mono (c9.at _) ?_; rintro e w' ⟨rfl, hw⟩; replace hw := hw.symm; subst hw
  go_wp2_with fail
  refine Calls.mono (cB.at _) ?_; rintro e w' ⟨rfl, hw⟩; replace hw := hw.symm; subst hw
  go_wp2_with fail
  refine Calls.mono (cF.at _) ?_; rintro e w' ⟨rfl, hw⟩; replace hw := hw.symm; subst hw
  go_wp2_with fail
  refine Calls.mono (cN.at _) ?_; rintro e w' ⟨rfl, hw⟩; replace hw := hw.symm; subst hw
  go_wp2_with fail
  refine Calls.mono (cP.at _) ?_; rintro e w' ⟨rfl, hw⟩; replace hw := hw.symm; subst hw
  go_wp2_with fail
  refine Calls.mono (cZ.at _) ?_; rintro e w3 ⟨rfl, hb3⟩
  go_wp2_with fail
  refine Calls.mono (cV.at _) ?_; rintro e w' ⟨rfl, hw⟩; replace hw := hw.symm; subst hw
  go_wp2_with fail
  refine Calls.mono (cS.at _) ?_; rintro e w' ⟨rfl, hw⟩; replace hw := hw.symm; subst hw
  go_wp2_with fail
  refine Calls.mono (cU.at _) ?_; rintro e w4 ⟨rfl, hb4⟩
  go_wp2_with fail
  refine Calls.mono (cX.at _) ?_; rintro e w' ⟨rfl, hw⟩; replace hw := hw.symm; subst hw
  go_wp2
  go_ret
  exact ⟨rfl, hb3.trans (hb4.mono hb3.size)⟩
theorem on_core (s t1 s1 s2 : ByteArray) (t : Int) (w : World) (t0 : 1 ≤ t) (t1' : t < 256) (c8 : Ret 141 #[.string s, .int .i64 8, .int .i64 1] (.int .i64 t)) (cT : RetB 191 #[.int .i64 (t - 1), .int .i64 1] (.string t1))
    (cW : Ret 190 #[.string s, .int .i64 8, .string t1] (.string s1)) (cS : RetB 228 #[.string s1] (.string s2)) :
    Calls Tryz.prog 202 #[.string s] w fun e w' => e = .returned (.string s2) ∧ Below w.heap.size w w' := by
  go_enter Tryz.func202, Tryz.ntmps202
  go_wp2_with fail
  refine Calls.mono (c8.at _) ?_; rintro e w' ⟨rfl, hw⟩; replace hw := hw.symm; subst hw
  go_wp2_with fail
  refine Calls.mono (cT.at _) ?_; rintro e w1 ⟨rfl, hb1⟩
  go_wp2_with fail
  refine Calls.mono (cW.at _) ?_; rintro e w' ⟨rfl, hw⟩; replace hw := hw.symm; subst hw
  go_wp2_with fail
  refine Calls.mono (cS.at _) ?_; rintro e w2 ⟨rfl, hb2⟩
  go_wp2
  go_ret
  exact ⟨rfl, hb1.trans (hb2.mono hb1.size)⟩
theorem stopped_core (b : Nat) (s : ByteArray) (t n m : Int) (w : World) (c8 : Ret 141 #[.string s, .int .i64 8, .int .i64 1] (.int .i64 t)) (c2 : Ret 141 #[.string s, .int .i64 2, .int .i64 2] (.int .i64 n)) (r : Int) (hr : r = if t < 2 then 9 else if m < n then 10 else 0) :
    Calls Tryz.prog 200 #[.pointer (some ⟨b, 0, none⟩), .string s, .int .i64 m] w fun e w' => e = .returned (.int .i64 r) ∧ w' = w := by
  by_cases h1 : t < 2
  · rw [if_pos h1] at hr
    subst hr
    go_enter Tryz.func200, Tryz.ntmps200
    go_wp2_with fail
    refine Calls.mono (c8.at _) ?_; rintro e w' ⟨rfl, hw⟩; replace hw := hw.symm; subst hw
    go_wp2
    go_ret
    exact ⟨rfl, rfl⟩
  · rw [if_neg h1] at hr
    by_cases h2 : m < n
    · rw [if_pos h2] at hr
      subst hr
      go_enter Tryz.func200, Tryz.ntmps200
      go_wp2_with fail
      refine Calls.mono (c8.at _) ?_; rintro e w' ⟨rfl, hw⟩; replace hw := hw.symm; subst hw
      go_wp2_with fail
      refine Calls.mono (c2.at _) ?_; rintro e w' ⟨rfl, hw⟩; replace hw := hw.symm; subst hw
      go_wp2
      go_ret
      exact ⟨rfl, rfl⟩
    · rw [if_neg h2] at hr
      subst hr
      go_enter Tryz.func200, Tryz.ntmps200
      go_wp2_with fail
      refine Calls.mono (c8.at _) ?_; rintro e w' ⟨rfl, hw⟩; replace hw := hw.symm; subst hw
      go_wp2_with fail
      refine Calls.mono (c2.at _) ?_; rintro e w' ⟨rfl, hw⟩; replace hw := hw.symm; subst hw
      go_wp2
      go_ret
      exact ⟨rfl, rfl⟩

end Go.Proofs.YthiljpbodmajaabGreat
namespace Go.Proofs.YthiljpbodmajaabGreat
open Go.RowKit Plain
set_option linter.unusedVariables false

theorem put_comm {s t u : ByteArray} {i j : Int} (h0 : 0 ≤ i) (hij : i + (t.size : Int) ≤ j) (hj : j + (u.size : Int) ≤ s.size) : put (put s i t) j u = put (put s j u) i t := by
  have z1 : (put s i t).size = s.size := put_size s i t h0 (by omega)
  have z2 : (put s j u).size = s.size := put_size s j u (by omega) hj
  have z3 : (put (put s i t) j u).size = s.size := by rw [put_size _ _ _ (by omega) (by rw [z1]; exact hj), z1]
  have z4 : (put (put s j u) i t).size = s.size := by rw [put_size _ _ _ h0 (by rw [z2]; omega), z2]
  refine bt_ext (by rw [z3, z4]) (fun k hk => ?_)
  rw [bt_put (put s i t) u j k (by omega) (by rw [z1]; exact hj), bt_put (put s j u) t i k h0 (by rw [z2]; omega), bt_put s t i k h0 (by omega), bt_put s u j k (by omega) hj]
  by_cases a : i ≤ (k : Int) ∧ (k : Int) < i + t.size
  · rw [if_neg (by omega), if_pos a, if_pos a]
  · rw [if_neg a, if_neg a]
/-- the ends of a frame are not touched by what is written ahead of them or behind -/
theorem ahd_put {s t : ByteArray} {i : Int} (p : Int) (n : Nat) (h0 : 0 ≤ i) (h1 : i + (t.size : Int) ≤ s.size) (h : i + (t.size : Int) ≤ 12 ∨ 20 ≤ i) : ahd (put s i t) p n = ahd s p n := by
  unfold ahd
  rcases h with k | k
  · rw [prt_put_hi k h0 h1]
  · rw [prt_put_lo (by decide) k h0 h1]
theorem cks_put {s t c : ByteArray} {i : Int} (p k : Int) (h0 : 0 ≤ i) (h1 : i + (t.size : Int) ≤ s.size) (h : i + (t.size : Int) ≤ 12 ∨ 20 ≤ i) : cks (put s i t) c p k = cks s c p k := by
  unfold cks
  rw [ahd_put p _ h0 h1 h]
/-- natboxref.Sealed -/
theorem rsealed_any (x : ByteArray) (S : Sok x) (hp : bt x 9 = 17 ∨ bt x 9 = 6 ∨ bt x 9 = 1) : RetB 228 #[.string x] (.string (sld (put x 10 (w2 (hsv x))))) := fun w => by
  have F := S.fit
  have hs := F.n64
  have hl : x.size ≤ maxLen := size_le hs
  have n20 := F.n20
  have h20 := F.h20
  have hd := hdv_bd x
  have hz := bdy_size F
  have tn := F.tn
  have ht := F.ht
  have hbl : (bdy x).size ≤ 65515 := by omega
  have w10 : (10 : Int) + ((w2 (hsv x)).size : Int) ≤ x.size := by rw [w2_size]; omega
  have g9 : bt (put x 10 (w2 (hsv x))) 9 = bt x 9 := bt_put_off (by decide) w10 (by omega)
  have gh : hdv (put x 10 (w2 (hsv x))) = hdv x := hdv_put (by decide) w10
  have gb : bdy (put x 10 (w2 (hsv x))) = bdy x := bdy_put_out F (by decide) (by rw [w2_size]; omega)
  have hsb : 0 ≤ hsv x ∧ hsv x < 65536 := hsv_bd x (by
    have hb := blk_size (prt x 0 (hdv x)) 10 (by decide) (by rw [prt_size]; omega)
    have h2 := prt_le x 0 (hdv x)
    omega)
  have tail : ∀ (k cv : Int), 0 ≤ k → k + 2 ≤ (bdy x).size → 0 ≤ cv → cv < 65536 →
      prt (put x (hdv x + k) (w2 cv)) 0 (hdv x) = prt x 0 (hdv x) ∧ put (put x (hdv x + k) (w2 cv)) 10 (w2 (hsv x)) = put (put x 10 (w2 (hsv x))) (hdv x + k) (w2 cv) := fun k cv k0 k1 c0 c1 => by
    refine ⟨prt_put_lo (by decide) (by omega) (by omega) (by rw [w2_size]; omega), ?_⟩
    exact (put_comm (by decide) (by rw [w2_size]; omega) (by rw [w2_size]; omega)).symm
  have cP : ∀ s1 : ByteArray, prt s1 0 (hdv x) = prt x 0 (hdv x) → Ret 146 #[.string s1, .int .i64 0, .int .i64 (hdv x)] (.string (prt x 0 (hdv x))) := fun s1 e w => by rw [← e]; exact part_any s1 0 _ w (by decide) (by omega)
  have cZ : RetB 191 #[.int .i64 0, .int .i64 2] (.string (w2 0)) := fun w => text2 0 w (by decide) (by decide)
  have pz := prt_size x 0 (hdv x)
  have cV : Ret 190 #[.string (prt x 0 (hdv x)), .int .i64 10, .string (w2 0)] (.string (blk (prt x 0 (hdv x)) 10)) := fun w => with_any _ _ 10 w (by decide) (by decide) (by omega) (by rw [w2_size]; decide)
  have cS : Ret 192 #[.string (blk (prt x 0 (hdv x)) 10)] (.int .i64 (hsv x)) := fun w => refSum_any _ w (size_le (by rw [blk_size _ _ (by decide) (by omega)]; omega))
  have cU : RetB 191 #[.int .i64 (hsv x), .int .i64 2] (.string (w2 (hsv x))) := fun w => text2 _ w hsb.1 hsb.2
  have cH : Ret 189 #[.string x] (.int .i64 (hdv x)) := fun w => head_any x w hl
  have cB : Ret 142 #[.string x] (.string (bdy x)) := fun w => refBody_any x w hl
  have c9 : Ret 141 #[.string x, .int .i64 9, .int .i64 1] (.int .i64 (bt x 9)) := fun w => number1 x 9 w hl (by decide) (by decide)
  have yes : ∀ (k cv : Int), 0 ≤ k → k ≤ 16 → k + 2 ≤ (bdy x).size → 0 ≤ cv → cv < 65536 → Ret 144 #[.int .i64 (bt x 9)] (.int .i64 k) → ((bt x 9 != 17) = true ∨ (bt x 9 != 17) = false ∧ (wd (bdy x) k != 0) = true) →
      RetB 145 #[.int .i64 (bt x 9), .string (prt x 12 20), .string (bdy x)] (.int .i64 cv) →
      Calls Tryz.prog 228 #[.string x] w fun e w' => e = .returned (.string (put (put x 10 (w2 (hsv x))) (hdv x + k) (w2 cv))) ∧ Below w.heap.size w w' := fun k cv k0 k16 k1 c0 c1 cF hq cC => by
    obtain ⟨t1, t2⟩ := tail k cv k0 k1 c0 c1
    have z1 : (put x (hdv x + k) (w2 cv)).size = x.size := put_size _ _ _ (by omega) (by rw [w2_size]; omega)
    rw [← t2]
    exact sealed_yes x (bdy x) (prt x 12 20) (w2 cv) (put x (hdv x + k) (w2 cv)) (prt x 0 (hdv x)) (w2 0) (blk (prt x 0 (hdv x)) 10) (w2 (hsv x)) _ (hdv x) (bt x 9) k (wd (bdy x) k) cv (hsv x) w hd.1 hd.2 k0 k16 cH c9 cB cF hq
      (fun w => number2 _ k w (size_le (by omega)) k0 (by omega)) (fun w => part_any x 12 20 w (by decide) (by decide)) cC (fun w => text2 cv w c0 c1)
      (fun w => with_any _ _ _ w (by omega) (by omega) hs (by rw [w2_size]; decide)) (cP _ t1) cZ cV cS cU (fun w => with_any _ _ 10 w (by decide) (by decide) (by omega) (by rw [w2_size]; decide))
  unfold sld
  rw [g9, gh, gb]
  rcases hp with e | e | e
  · rw [if_pos e]
    have hu := S.u e
    have hw6 : wd (put x 10 (w2 (hsv x))) (hdv x + 6) = wd (bdy x) 6 := by
      rw [bdy_wd F 6 (by decide) (by omega)]
      exact wd_put_off (by decide) w10 (by rw [w2_size]; omega)
    have hU : uds (put x 10 (w2 (hsv x))) = udpv x (prt (bdy x) 0 (wd (bdy x) 4)) := by
      unfold uds udpv
      rw [gb, cks_put 17 6 (by decide) w10 (.inl (by rw [w2_size]; decide))]
    rw [hw6, hU]
    by_cases h0 : wd (bdy x) 6 = 0
    · rw [if_pos h0]
      have cF : Ret 144 #[.int .i64 17] (.int .i64 6) := fun w => field17 w
      have cN : Ret 141 #[.string (bdy x), .int .i64 6, .int .i64 2] (.int .i64 0) := fun w => by have := number2 (bdy x) 6 w (size_le (by omega)) (by decide) (by decide); rw [h0] at this; exact this
      rw [e] at c9
      exact sealed_no x (bdy x) (prt x 0 (hdv x)) (w2 0) (blk (prt x 0 (hdv x)) 10) (w2 (hsv x)) _ (hdv x) (hsv x) w hd.1 hd.2 cH c9 cB cF cN (cP x rfl) cZ cV cS cU (fun w => with_any _ _ 10 w (by decide) (by decide) hs (by rw [w2_size]; decide))
    · rw [if_neg h0]
      have hcb := cks_bd x (prt (bdy x) 0 (wd (bdy x) 4)) 17 6
      refine yes 6 (udpv x (prt (bdy x) 0 (wd (bdy x) 4))) (by decide) (by decide) (by omega) (by unfold udpv; split <;> omega) (by unfold udpv; split <;> omega) (by rw [e]; exact fun w => field17 w) (.inr ⟨by rw [e]; rfl, by simpa using h0⟩) ?_
      rw [e]
      exact fun w => checksum17 x (bdy x) w n20 hs hbl hu.1 hu.2
  · rw [if_neg (by omega), if_pos e, cks_put 6 16 (by decide) w10 (.inl (by rw [w2_size]; decide))]
    have h2 := S.t e
    have hcb := cks_bd x (bdy x) 6 16
    refine yes 16 _ (by decide) (by decide) (by omega) hcb.1 hcb.2 (by rw [e]; exact fun w => field6 w) (.inl (by rw [e]; rfl)) ?_
    rw [e]
    exact fun w => checksum6 x (bdy x) w n20 hs h2 hbl
  · rw [if_neg (by omega), if_neg (by omega), if_pos e]
    have h2 := S.i e
    have hz2 := blk_size (bdy x) 2 (by decide) (by omega)
    have hb2 : 0 ≤ sumv (blk (bdy x) 2) ∧ sumv (blk (bdy x) 2) < 65536 := by
      unfold sumv
      rw [if_pos (by omega)]
      have := ones_bd (total (blk (bdy x) 2))
      omega
    refine yes 2 _ (by decide) (by decide) (by omega) (by omega) (by omega) (by rw [e]; exact fun w => rfield1 w) (.inl (by rw [e]; rfl)) ?_
    rw [e]
    exact fun w => checksum1 _ (bdy x) w h2 (by omega)
/-- natboxref.on -/
theorem on_any (s : ByteArray) (S : Sok s) (ht : 1 ≤ bt s 8) (hp : bt s 9 = 17 ∨ bt s 9 = 6 ∨ bt s 9 = 1) : RetB 202 #[.string s] (.string (snt s)) := fun w => by
  have F := S.fit
  have n20 := F.n20
  have b8 := bt_bd s 8
  have w8 : (8 : Int) + ((b1 (bt s 8 - 1)).size : Int) ≤ s.size := by rw [b1_size]; omega
  have S1 : Sok (put s 8 (b1 (bt s 8 - 1))) := sok_put S (by decide) w8 (.inl (by rw [b1_size]; decide)) (fun _ => .inl (by rw [b1_size]; have := F.h20; omega))
  have g9 : bt (put s 8 (b1 (bt s 8 - 1))) 9 = bt s 9 := bt_put_off (by decide) w8 (by rw [b1_size]; omega)
  exact on_core s (b1 (bt s 8 - 1)) _ _ (bt s 8) w ht b8.2 (fun w => number1 s 8 w (size_le F.n64) (by decide) (by decide)) (text1b _ (by omega) (by omega))
    (fun w => with_any _ _ 8 w (by decide) (by decide) F.n64 (by rw [b1_size]; decide)) (rsealed_any _ S1 (by rw [g9]; exact hp))
theorem rsource_any (s : ByteArray) (a x : Int) (hs : 20 ≤ s.size) (hz : s.size ≤ 65535) (a0 : 0 ≤ a) (a1 : a < 4294967296) (x0 : 0 ≤ x) (x1 : x < 65536) : RetB 210 #[.string s, .int .i64 a, .int .i64 x] (.string (wsrc s a x)) := fun w => by
  have hl : s.size ≤ maxLen := size_le hz
  have hd := hdv_bd s
  have w12 : (12 : Int) + ((l4 a).size : Int) ≤ s.size := by rw [l4_size]; omega
  have z1 : (put s 12 (l4 a)).size = s.size := put_size _ _ _ (by decide) w12
  have p1 : ppl (put s 12 (l4 a)) 0 = ppl s 0 := by unfold ppl; rw [hdv_put (by decide) w12, bt_put_off (by decide) w12 (by omega)]
  unfold wsrc
  rw [p1]
  have pb := ppl_bd s 0 (by decide) (by decide)
  exact rsource_core s (l4 a) (w2 x) (put s 12 (l4 a)) _ (hdv s) (bt s 9) a x (ppl s 0) w hd.1 hd.2 (fun w => head_any s w hl) (fun w => number1 s 9 w hl (by decide) (by decide))
    (fun e => by unfold ppl; rw [if_pos (by simpa using e)]) (fun e => by unfold ppl; rw [if_neg (by simpa using e)]; omega) (text4 a a0 a1) (fun w => with_any _ _ 12 w (by decide) (by decide) hz (by rw [l4_size]; decide))
    (fun w => text2 x w x0 x1) (fun w => with_any _ _ _ w pb.1 (by omega) (by omega) (by rw [w2_size]; decide))
theorem rdest_any (s : ByteArray) (a x : Int) (hs : 20 ≤ s.size) (hz : s.size ≤ 65535) (a0 : 0 ≤ a) (a1 : a < 4294967296) (x0 : 0 ≤ x) (x1 : x < 65536) : RetB 206 #[.string s, .int .i64 a, .int .i64 x] (.string (wdst s a x)) := fun w => by
  have hl : s.size ≤ maxLen := size_le hz
  have hd := hdv_bd s
  have w16 : (16 : Int) + ((l4 a).size : Int) ≤ s.size := by rw [l4_size]; omega
  have z1 : (put s 16 (l4 a)).size = s.size := put_size _ _ _ (by decide) w16
  have p1 : ppl (put s 16 (l4 a)) 2 = ppl s 2 := by unfold ppl; rw [hdv_put (by decide) w16, bt_put_off (by decide) w16 (by omega)]
  unfold wdst
  rw [p1]
  have pb := ppl_bd s 2 (by decide) (by decide)
  exact rdestination_core s (l4 a) (w2 x) (put s 16 (l4 a)) _ (hdv s) (bt s 9) a x (ppl s 2) w hd.1 hd.2 (fun w => head_any s w hl) (fun w => number1 s 9 w hl (by decide) (by decide))
    (fun e => by unfold ppl; rw [if_pos (by simpa using e)]) (fun e => by unfold ppl; rw [if_neg (by simpa using e)]) (text4 a a0 a1) (fun w => with_any _ _ 16 w (by decide) (by decide) hz (by rw [l4_size]; decide))
    (fun w => text2 x w x0 x1) (fun w => with_any _ _ _ w pb.1 (by omega) (by omega) (by rw [w2_size]; decide))
theorem pss_two (s : ByteArray) (m : Int) : pss s m = if bt s 8 < 2 then 9 else if m < wd s 2 then 10 else 0 := by
  unfold pss
  by_cases h : bt s 8 ≤ 1
  · have h2 : bt s 8 < 2 := by omega
    rw [if_pos h, if_pos h2]
  · have h2 : ¬ bt s 8 < 2 := by omega
    rw [if_neg h, if_neg h2]
theorem rstopped_any (b : Nat) (s : ByteArray) (m : Int) (hs : s.size ≤ maxLen) : Ret 200 #[.pointer (some ⟨b, 0, none⟩), .string s, .int .i64 m] (.int .i64 (pss s m)) := fun w =>
  stopped_core b s (bt s 8) (wd s 2) m w (fun w => number1 s 8 w hs (by decide) (by decide)) (fun w => number2 s 2 w hs (by decide) (by decide)) _ (pss_two s m)
end Go.Proofs.YthiljpbodmajaabGreat
