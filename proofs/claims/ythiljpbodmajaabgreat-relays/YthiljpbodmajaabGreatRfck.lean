/-
  CONTRACTS: natboxref: Head, Body, field, lengths, covered, checksum.
-/
import Derived.Test.YthiljpbodmajaabGreatFrme
namespace Go.Proofs.YthiljpbodmajaabGreat
open Go.RowKit Plain

theorem head_core (s : ByteArray) (b0 : Int) (w : World) (h0 : 0 ≤ b0) (h1 : b0 < 256) (cN : Ret 141 #[.string s, .int .i64 0, .int .i64 1] (.int .i64 b0)) :
    Calls Tryz.prog 189 #[.string s] w fun e w' => e = .returned (.int .i64 (b0 % 16 * 4)) ∧ w' = w := by
  go_enter Tryz.func189, Tryz.ntmps189
  go_wp2_with fail
  refine Calls.mono (cN.at _) ?_; rintro e w' ⟨rfl, rfl⟩
  go_wp2
  go_ret
  exact ⟨rfl, rfl⟩
theorem head_any (s : ByteArray) (w : World) (hs : s.size ≤ maxLen) :
    Calls Tryz.prog 189 #[.string s] w fun e w' => e = .returned (.int .i64 (hdv s)) ∧ w' = w :=
  head_core s (bt s 0) w (bt_bd s 0).1 (bt_bd s 0).2 (fun w => number1 s 0 w hs (by decide) (by decide))
theorem refBody_core (s b : ByteArray) (d n : Int) (w : World) (cH : Ret 189 #[.string s] (.int .i64 d)) (cN : Ret 141 #[.string s, .int .i64 2, .int .i64 2] (.int .i64 n))
    (cP : Ret 146 #[.string s, .int .i64 d, .int .i64 n] (.string b)) :
    Calls Tryz.prog 142 #[.string s] w fun e w' => e = .returned (.string b) ∧ w' = w := by
  go_enter Tryz.func142, Tryz.ntmps142
  go_wp2_with fail
  refine Calls.mono (cH.at _) ?_; rintro e w' ⟨rfl, rfl⟩
  go_wp2_with fail
  refine Calls.mono (cN.at _) ?_; rintro e w' ⟨rfl, rfl⟩
  go_wp2_with fail
  refine Calls.mono (cP.at _) ?_; rintro e w' ⟨rfl, rfl⟩
  go_wp2
  go_ret
  exact ⟨rfl, rfl⟩
theorem refBody_any (s : ByteArray) (w : World) (hs : s.size ≤ maxLen) :
    Calls Tryz.prog 142 #[.string s] w fun e w' => e = .returned (.string (bdy s)) ∧ w' = w :=
  refBody_core s (bdy s) (hdv s) (wd s 2) w (fun w => head_any s w hs) (fun w => number2 s 2 w hs (by decide) (by decide)) (fun w => part_any s _ _ w (hdv_bd s).1 (wd_bd s 2).1)
theorem field17 (w : World) : Calls Tryz.prog 144 #[.int .i64 17] w fun e w' => e = .returned (.int .i64 6) ∧ w' = w := by
  go_enter Tryz.func144, Tryz.ntmps144
  go_wp2
  go_ret
  exact ⟨rfl, rfl⟩
theorem field6 (w : World) : Calls Tryz.prog 144 #[.int .i64 6] w fun e w' => e = .returned (.int .i64 16) ∧ w' = w := by
  go_enter Tryz.func144, Tryz.ntmps144
  go_wp2
  go_ret
  exact ⟨rfl, rfl⟩
theorem rfield1 (w : World) : Calls Tryz.prog 144 #[.int .i64 1] w fun e w' => e = .returned (.int .i64 2) ∧ w' = w := by
  go_enter Tryz.func144, Tryz.ntmps144
  go_wp2
  go_ret
  exact ⟨rfl, rfl⟩

theorem lengths17 (b : ByteArray) (l : Int) (w : World) (cN : Ret 141 #[.string b, .int .i64 4, .int .i64 2] (.int .i64 l)) :
    Calls Tryz.prog 143 #[.int .i64 17, .string b] w fun e w' => e = .returned (.bool (decide (8 ≤ b.size ∧ 8 ≤ l ∧ l ≤ (b.size : Int)))) ∧ w' = w := by
  obtain ⟨r, hr⟩ : ∃ r : Bool, r = decide (8 ≤ b.size ∧ 8 ≤ l ∧ l ≤ (b.size : Int)) := ⟨_, rfl⟩
  rw [← hr]
  have HR : Hid _ := hr
  clear hr
  by_cases c1 : 8 ≤ b.size
  · by_cases c2 : 8 ≤ l
    · go_enter Tryz.func143, Tryz.ntmps143
      go_wp2_with fail
      refine Calls.mono (cN.at _) ?_; rintro e w' ⟨rfl, rfl⟩
      go_wp2
      go_ret
      exact ⟨ret_bool (by rw [HR.out, decide_eq_decide]; omega), rfl⟩
    · go_enter Tryz.func143, Tryz.ntmps143
      go_wp2_with fail
      refine Calls.mono (cN.at _) ?_; rintro e w' ⟨rfl, rfl⟩
      go_wp2
      go_ret
      exact ⟨ret_bool (by rw [HR.out]; simp; omega), rfl⟩
  · go_enter Tryz.func143, Tryz.ntmps143
    go_wp2_with fail
    refine Calls.mono (cN.at _) ?_; rintro e w' ⟨rfl, rfl⟩
    go_wp2
    go_ret
    exact ⟨ret_bool (by rw [HR.out]; simp; omega), rfl⟩
theorem lengths6 (b : ByteArray) (d : Int) (w : World) (d0 : 0 ≤ d) (d1 : d < 256) (cN : Ret 141 #[.string b, .int .i64 12, .int .i64 1] (.int .i64 d)) :
    Calls Tryz.prog 143 #[.int .i64 6, .string b] w fun e w' => e = .returned (.bool (decide (20 ≤ b.size ∧ 20 ≤ d / 16 * 4 ∧ d / 16 * 4 ≤ (b.size : Int)))) ∧ w' = w := by
  obtain ⟨r, hr⟩ : ∃ r : Bool, r = decide (20 ≤ b.size ∧ 20 ≤ d / 16 * 4 ∧ d / 16 * 4 ≤ (b.size : Int)) := ⟨_, rfl⟩
  rw [← hr]
  have HR : Hid _ := hr
  clear hr
  by_cases c1 : 20 ≤ b.size
  · by_cases c2 : 20 ≤ d / 16 * 4
    · go_enter Tryz.func143, Tryz.ntmps143
      go_wp2_with fail
      refine Calls.mono (cN.at _) ?_; rintro e w' ⟨rfl, rfl⟩
      go_wp2
      go_ret
      exact ⟨ret_bool (by rw [HR.out, decide_eq_decide]; omega), rfl⟩
    · go_enter Tryz.func143, Tryz.ntmps143
      go_wp2_with fail
      refine Calls.mono (cN.at _) ?_; rintro e w' ⟨rfl, rfl⟩
      go_wp2
      go_ret
      exact ⟨ret_bool (by rw [HR.out]; simp; omega), rfl⟩
  · go_enter Tryz.func143, Tryz.ntmps143
    go_wp2_with fail
    refine Calls.mono (cN.at _) ?_; rintro e w' ⟨rfl, rfl⟩
    go_wp2
    go_ret
    exact ⟨ret_bool (by rw [HR.out]; simp; omega), rfl⟩
theorem lengths1 (b : ByteArray) (w : World) :
    Calls Tryz.prog 143 #[.int .i64 1, .string b] w fun e w' => e = .returned (.bool (decide (8 ≤ b.size))) ∧ w' = w := by
  obtain ⟨r, hr⟩ : ∃ r : Bool, r = decide (8 ≤ b.size) := ⟨_, rfl⟩
  rw [← hr]
  have HR : Hid _ := hr
  clear hr
  go_enter Tryz.func143, Tryz.ntmps143
  go_wp2
  go_ret
  exact ⟨ret_bool (by rw [HR.out, decide_eq_decide]; omega), rfl⟩

theorem covered1 (ends body z B : ByteArray) (w : World) (cT : RetB 191 #[.int .i64 0, .int .i64 2] (.string z)) (cW : Ret 190 #[.string body, .int .i64 2, .string z] (.string B)) :
    Calls Tryz.prog 193 #[.int .i64 1, .string ends, .string body] w fun e w' => e = .returned (.string B) ∧ Below w.heap.size w w' := by
  go_enter Tryz.func193, Tryz.ntmps193
  go_wp2_with fail
  refine Calls.mono (cT.at _) ?_; rintro e w1 ⟨rfl, hb⟩
  go_wp2_with fail
  refine Calls.mono (cW.at _) ?_; rintro e w' ⟨rfl, rfl⟩
  go_wp2
  go_ret
  exact ⟨rfl, hb⟩
theorem covered6 (ends body z B t1 t2 : ByteArray) (w : World) (s1 : ends.size ≤ 65535) (s2 : t1.size ≤ 65535) (s3 : t2.size ≤ 65535) (s4 : B.size ≤ 65535)
    (cF : Ret 144 #[.int .i64 6] (.int .i64 16)) (cT : RetB 191 #[.int .i64 0, .int .i64 2] (.string z)) (cW : Ret 190 #[.string body, .int .i64 16, .string z] (.string B))
    (c1 : RetB 191 #[.int .i64 6, .int .i64 2] (.string t1)) (c2 : RetB 191 #[.int .i64 body.size, .int .i64 2] (.string t2)) :
    Calls Tryz.prog 193 #[.int .i64 6, .string ends, .string body] w fun e w' => e = .returned (.string (ends ++ t1 ++ t2 ++ B)) ∧ Below w.heap.size w w' := by
  go_enter Tryz.func193, Tryz.ntmps193
  go_wp2_with fail
  refine Calls.mono (cF.at _) ?_; rintro e w' ⟨rfl, rfl⟩
  go_wp2_with fail
  refine Calls.mono (cT.at _) ?_; rintro e w1 ⟨rfl, hb1⟩
  go_wp2_with fail
  refine Calls.mono (cW.at _) ?_; rintro e w' ⟨rfl, rfl⟩
  go_wp2_with fail
  refine Calls.mono (c1.at _) ?_; rintro e w2 ⟨rfl, hb2⟩
  go_wp2_with fail
  refine Calls.mono (c2.at _) ?_; rintro e w3 ⟨rfl, hb3⟩
  go_wp2
  go_ret
  exact ⟨rfl, (hb1.trans (hb2.mono hb1.size)).trans (hb3.mono (Nat.le_trans hb1.size hb2.size))⟩
theorem covered17 (ends body b z B t1 t2 : ByteArray) (l : Int) (w : World) (s1 : ends.size ≤ 65535) (s2 : t1.size ≤ 65535) (s3 : t2.size ≤ 65535) (s4 : B.size ≤ 65535)
    (cN : Ret 141 #[.string body, .int .i64 4, .int .i64 2] (.int .i64 l)) (cP : Ret 146 #[.string body, .int .i64 0, .int .i64 l] (.string b))
    (cF : Ret 144 #[.int .i64 17] (.int .i64 6)) (cT : RetB 191 #[.int .i64 0, .int .i64 2] (.string z)) (cW : Ret 190 #[.string b, .int .i64 6, .string z] (.string B))
    (c1 : RetB 191 #[.int .i64 17, .int .i64 2] (.string t1)) (c2 : RetB 191 #[.int .i64 b.size, .int .i64 2] (.string t2)) :
    Calls Tryz.prog 193 #[.int .i64 17, .string ends, .string body] w fun e w' => e = .returned (.string (ends ++ t1 ++ t2 ++ B)) ∧ Below w.heap.size w w' := by
  go_enter Tryz.func193, Tryz.ntmps193
  go_wp2_with fail
  refine Calls.mono (cN.at _) ?_; rintro e w' ⟨rfl, rfl⟩
  go_wp2_with fail
  refine Calls.mono (cP.at _) ?_; rintro e w' ⟨rfl, rfl⟩
  go_wp2_with fail
  refine Calls.mono (cF.at _) ?_; rintro e w' ⟨rfl, rfl⟩
  go_wp2_with fail
  refine Calls.mono (cT.at _) ?_; rintro e w1 ⟨rfl, hb1⟩
  go_wp2_with fail
  refine Calls.mono (cW.at _) ?_; rintro e w' ⟨rfl, rfl⟩
  go_wp2_with fail
  refine Calls.mono (c1.at _) ?_; rintro e w2 ⟨rfl, hb2⟩
  go_wp2_with fail
  refine Calls.mono (c2.at _) ?_; rintro e w3 ⟨rfl, hb3⟩
  go_wp2
  go_ret
  exact ⟨rfl, (hb1.trans (hb2.mono hb1.size)).trans (hb3.mono (Nat.le_trans hb1.size hb2.size))⟩

theorem checksum_core (p : Int) (ends body c : ByteArray) (n v : Int) (w : World) (hp : (p == 17) = false) (cC : RetB 193 #[.int .i64 p, .string ends, .string body] (.string c))
    (cT : Ret 194 #[.string c] (.int .i64 n)) (cO : Ret 195 #[.int .i64 n] (.int .i64 v)) :
    Calls Tryz.prog 145 #[.int .i64 p, .string ends, .string body] w fun e w' => e = .returned (.int .i64 v) ∧ Below w.heap.size w w' := by
  go_enter Tryz.func145, Tryz.ntmps145
  go_wp2_with fail
  refine Calls.mono (cC.at _) ?_; rintro e w1 ⟨rfl, hb⟩
  go_wp2_with fail
  refine Calls.mono (cT.at _) ?_; rintro e w' ⟨rfl, rfl⟩
  go_wp2_with fail
  refine Calls.mono (cO.at _) ?_; rintro e w' ⟨rfl, rfl⟩
  go_wp2
  go_ret
  exact ⟨rfl, hb⟩
theorem checksum17_core (ends body c : ByteArray) (n v r : Int) (w : World) (hr : r = if v = 0 then 65535 else v) (cC : RetB 193 #[.int .i64 17, .string ends, .string body] (.string c))
    (cT : Ret 194 #[.string c] (.int .i64 n)) (cO : Ret 195 #[.int .i64 n] (.int .i64 v)) :
    Calls Tryz.prog 145 #[.int .i64 17, .string ends, .string body] w fun e w' => e = .returned (.int .i64 r) ∧ Below w.heap.size w w' := by
  have HR : Hid _ := hr
  clear hr
  by_cases h0 : v = 0
  · subst h0
    go_enter Tryz.func145, Tryz.ntmps145
    go_wp2_with fail
    refine Calls.mono (cC.at _) ?_; rintro e w1 ⟨rfl, hb⟩
    go_wp2_with fail
    refine Calls.mono (cT.at _) ?_; rintro e w' ⟨rfl, rfl⟩
    go_wp2_with fail
    refine Calls.mono (cO.at _) ?_; rintro e w' ⟨rfl, rfl⟩
    go_wp2
    go_ret
    exact ⟨ret_int (by rw [HR.out]; rfl), hb⟩
  · have hn : (v == 0) = false := by simpa using h0
    have H0 : Hid _ := h0
    clear h0
    go_enter Tryz.func145, Tryz.ntmps145
    go_wp2_with fail
    refine Calls.mono (cC.at _) ?_; rintro e w1 ⟨rfl, hb⟩
    go_wp2_with fail
    refine Calls.mono (cT.at _) ?_; rintro e w' ⟨rfl, rfl⟩
    go_wp2_with fail
    refine Calls.mono (cO.at _) ?_; rintro e w' ⟨rfl, rfl⟩
    go_wp2
    go_ret
    exact ⟨ret_int (by rw [HR.out, if_neg H0.out]), hb⟩

theorem total_ok {s : ByteArray} (h : s.size ≤ 131072) : 0 ≤ total s ∧ total s < 9223372036854775808 := by
  have := total_bd s; omega
theorem checksum1 (ends b : ByteArray) (w : World) (h8 : 8 ≤ b.size) (hb : b.size ≤ 65535) :
    Calls Tryz.prog 145 #[.int .i64 1, .string ends, .string b] w fun e w' => e = .returned (.int .i64 (sumv (blk b 2))) ∧ Below w.heap.size w w' := by
  have hz := blk_size b 2 (by decide) (by omega)
  have e : sumv (blk b 2) = ones (total (blk b 2)) := by unfold sumv; rw [if_pos (by omega)]
  have ht := total_ok (s := blk b 2) (by omega)
  rw [e]
  exact checksum_core 1 ends b (blk b 2) _ _ w rfl (fun w => covered1 ends b (w2 0) (blk b 2) w (fun w => text2 0 w (by decide) (by decide)) (fun w => with_any b (w2 0) 2 w (by decide) (by decide) hb (by rw [w2_size]; decide)))
    (fun w => total_any _ w (size_le (by omega)) (by omega)) (fun w => ones_any _ w ht.1 ht.2)
theorem checksum6 (s b : ByteArray) (w : World) (hs : 20 ≤ s.size) (hs' : s.size ≤ 65535) (h8 : 20 ≤ b.size) (hb : b.size ≤ 65515) :
    Calls Tryz.prog 145 #[.int .i64 6, .string (prt s 12 20), .string b] w fun e w' => e = .returned (.int .i64 (cks s b 6 16)) ∧ Below w.heap.size w w' := by
  have hz := blk_size b 16 (by decide) (by omega)
  have hp := prt_le s 12 20
  have ha := ahd_size hs 6 b.size
  have hsz : (ahd s 6 b.size ++ blk b 16).size = 12 + b.size := by rw [ByteArray.size_append, ha, hz]
  have ht := total_ok (s := ahd s 6 b.size ++ blk b 16) (by omega)
  exact checksum_core 6 (prt s 12 20) b (ahd s 6 b.size ++ blk b 16) _ _ w rfl
    (fun w => covered6 (prt s 12 20) b (w2 0) (blk b 16) (w2 6) (w2 b.size) w (by omega) (by rw [w2_size]; decide) (by rw [w2_size]; decide) (by omega) field6 (fun w => text2 0 w (by decide) (by decide))
      (fun w => with_any b (w2 0) 16 w (by decide) (by decide) (by omega) (by rw [w2_size]; decide)) (fun w => text2 6 w (by decide) (by decide)) (fun w => text2 _ w (by omega) (by omega)))
    (fun w => total_any _ w (size_le (by omega)) (by omega)) (fun w => ones_any _ w ht.1 ht.2)
theorem checksum17 (s b : ByteArray) (w : World) (hs : 20 ≤ s.size) (hs' : s.size ≤ 65535) (hb : b.size ≤ 65515) (h8 : 8 ≤ wd b 4) (hl : wd b 4 ≤ (b.size : Int)) :
    Calls Tryz.prog 145 #[.int .i64 17, .string (prt s 12 20), .string b] w fun e w' => e = .returned (.int .i64 (udpv s (prt b 0 (wd b 4)))) ∧ Below w.heap.size w w' := by
  have hc : ((prt b 0 (wd b 4)).size : Int) = wd b 4 := by rw [prt_size]; omega
  have hbs := size_le (show b.size ≤ 65535 by omega)
  have hz := blk_size (prt b 0 (wd b 4)) 6 (by decide) (by omega)
  have hp := prt_le s 12 20
  have ha := ahd_size hs 17 (prt b 0 (wd b 4)).size
  have hsz : (ahd s 17 (prt b 0 (wd b 4)).size ++ blk (prt b 0 (wd b 4)) 6).size = 12 + (prt b 0 (wd b 4)).size := by rw [ByteArray.size_append, ha, hz]
  have ht := total_ok (s := ahd s 17 (prt b 0 (wd b 4)).size ++ blk (prt b 0 (wd b 4)) 6) (by omega)
  exact checksum17_core (prt s 12 20) b (ahd s 17 (prt b 0 (wd b 4)).size ++ blk (prt b 0 (wd b 4)) 6) _ _ _ w rfl
    (fun w => covered17 (prt s 12 20) b (prt b 0 (wd b 4)) (w2 0) (blk (prt b 0 (wd b 4)) 6) (w2 17) (w2 (prt b 0 (wd b 4)).size) (wd b 4) w (by omega) (by rw [w2_size]; decide) (by rw [w2_size]; decide) (by omega)
      (fun w => number2 b 4 w hbs (by decide) (by decide)) (fun w => part_any b 0 _ w (by decide) (by omega)) field17 (fun w => text2 0 w (by decide) (by decide))
      (fun w => with_any _ (w2 0) 6 w (by decide) (by decide) (by omega) (by rw [w2_size]; decide)) (fun w => text2 17 w (by decide) (by decide)) (fun w => text2 _ w (by omega) (by omega)))
    (fun w => total_any _ w (size_le (by omega)) (by omega)) (fun w => ones_any _ w ht.1 ht.2)
end Go.Proofs.YthiljpbodmajaabGreat
namespace Go.Proofs.YthiljpbodmajaabGreat
open Go.RowKit Plain

set_option maxHeartbeats 4000000 in
theorem header_core (s P z B : ByteArray) (b0 d n k c x sa da : Int) (u1 u2 : Bool) (w : World) (z0 : 0 ≤ b0) (z1 : b0 < 256) (x0 : 0 ≤ x) (x1 : x < 65536) (hs : s.size ≤ 9223372036854775807)
    (c0 : Ret 141 #[.string s, .int .i64 0, .int .i64 1] (.int .i64 b0)) (cH : Ret 189 #[.string s] (.int .i64 d)) (cN : Ret 141 #[.string s, .int .i64 2, .int .i64 2] (.int .i64 n))
    (cP : 20 ≤ d → d ≤ n → n ≤ (s.size : Int) → Ret 146 #[.string s, .int .i64 0, .int .i64 d] (.string P)) (cT : RetB 191 #[.int .i64 0, .int .i64 2] (.string z))
    (cW : 20 ≤ d → d ≤ n → n ≤ (s.size : Int) → s.size ≤ 65535 → Ret 190 #[.string P, .int .i64 10, .string z] (.string B)) (cS : 20 ≤ d → d ≤ n → n ≤ (s.size : Int) → s.size ≤ 65535 → Ret 192 #[.string B] (.int .i64 k))
    (c10 : Ret 141 #[.string s, .int .i64 10, .int .i64 2] (.int .i64 c)) (c6 : Ret 141 #[.string s, .int .i64 6, .int .i64 2] (.int .i64 x))
    (c12 : Ret 141 #[.string s, .int .i64 12, .int .i64 4] (.int .i64 sa)) (cA : Ret 187 #[.int .i64 sa] (.bool u1))
    (c16 : Ret 141 #[.string s, .int .i64 16, .int .i64 4] (.int .i64 da)) (cD : Ret 187 #[.int .i64 da] (.bool u2)) (r : Int)
    (hr : r = if 20 ≤ s.size ∧ s.size ≤ 65535 ∧ b0 / 16 = 4 ∧ 20 ≤ d ∧ d ≤ n ∧ n ≤ (s.size : Int) then if c != k then 4 else if x % 16384 != 0 then 5 else if u1 && u2 then 0 else 6 else 3) :
    Calls Tryz.prog 140 #[.string s] w fun e w' => e = .returned (.int .i64 r) ∧ Below w.heap.size w w' := by
  have HR : Hid _ := hr
  clear hr
  by_cases k1 : s.size < 20
  · go_enter Tryz.func140, Tryz.ntmps140
    go_wp2
    go_ret
    exact ⟨ret_int (by rw [HR.out, if_neg (by omega)]), Below.refl _ _⟩
  · by_cases k2 : 65535 < s.size
    · go_enter Tryz.func140, Tryz.ntmps140
      go_wp2
      go_ret
      exact ⟨ret_int (by rw [HR.out, if_neg (by omega)]), Below.refl _ _⟩
    · by_cases k3 : b0 / 16 = 4
      · have k3' : (b0 / 16 != 4) = false := by simp [k3]
        have K3 : Hid _ := k3
        clear k3
        by_cases k4 : d < 20
        · go_enter Tryz.func140, Tryz.ntmps140
          go_wp2_with fail
          refine Calls.mono (c0.at _) ?_; rintro e w' ⟨rfl, rfl⟩
          go_wp2_with fail
          refine Calls.mono (cH.at _) ?_; rintro e w' ⟨rfl, rfl⟩
          go_wp2_with fail
          refine Calls.mono (cN.at _) ?_; rintro e w' ⟨rfl, rfl⟩
          go_wp2
          go_ret
          exact ⟨ret_int (by rw [HR.out, if_neg (by omega)]), Below.refl _ _⟩
        · by_cases k5 : n < d
          · go_enter Tryz.func140, Tryz.ntmps140
            go_wp2_with fail
            refine Calls.mono (c0.at _) ?_; rintro e w' ⟨rfl, rfl⟩
            go_wp2_with fail
            refine Calls.mono (cH.at _) ?_; rintro e w' ⟨rfl, rfl⟩
            go_wp2_with fail
            refine Calls.mono (cN.at _) ?_; rintro e w' ⟨rfl, rfl⟩
            go_wp2
            go_ret
            exact ⟨ret_int (by rw [HR.out, if_neg (by omega)]), Below.refl _ _⟩
          · by_cases k6 : (s.size : Int) < n
            · go_enter Tryz.func140, Tryz.ntmps140
              go_wp2_with fail
              refine Calls.mono (c0.at _) ?_; rintro e w' ⟨rfl, rfl⟩
              go_wp2_with fail
              refine Calls.mono (cH.at _) ?_; rintro e w' ⟨rfl, rfl⟩
              go_wp2_with fail
              refine Calls.mono (cN.at _) ?_; rintro e w' ⟨rfl, rfl⟩
              go_wp2
              go_ret
              exact ⟨ret_int (by rw [HR.out, if_neg (by omega)]), Below.refl _ _⟩
            · have hP := cP (by omega) (by omega) (by omega)
              have hW := cW (by omega) (by omega) (by omega) (by omega)
              have hS := cS (by omega) (by omega) (by omega) (by omega)
              clear cP cW cS
              have hn := HR.out
              rw [if_pos ⟨by omega, by omega, K3.out, by omega, by omega, by omega⟩] at hn
              have HN : Hid _ := hn
              clear hn HR
              cases e1 : (c != k)
              · have e1' : (k != c) = false := by rw [bne_comm]; exact e1
                by_cases e2 : x / 8192 % 2 = 1
                · have e3 : (x / 8192 % 2 == 1) = true := by simpa using e2
                  have e4 : (x % 16384 != 0) = true := by simp; omega
                  have E4 : Hid _ := e4
                  clear e4 e2
                  go_enter Tryz.func140, Tryz.ntmps140
                  go_wp2_with fail
                  refine Calls.mono (c0.at _) ?_; rintro e w' ⟨rfl, rfl⟩
                  go_wp2_with fail
                  refine Calls.mono (cH.at _) ?_; rintro e w' ⟨rfl, rfl⟩
                  go_wp2_with fail
                  refine Calls.mono (cN.at _) ?_; rintro e w' ⟨rfl, rfl⟩
                  go_wp2_with fail
                  refine Calls.mono (hP.at _) ?_; rintro e w' ⟨rfl, rfl⟩
                  go_wp2_with fail
                  refine Calls.mono (cT.at _) ?_; rintro e w1 ⟨rfl, hb⟩
                  go_wp2_with fail
                  refine Calls.mono (hW.at _) ?_; rintro e w' ⟨rfl, rfl⟩
                  go_wp2_with fail
                  refine Calls.mono (hS.at _) ?_; rintro e w' ⟨rfl, rfl⟩
                  go_wp2_with fail
                  refine Calls.mono (c10.at _) ?_; rintro e w' ⟨rfl, rfl⟩
                  go_wp2_with fail
                  refine Calls.mono (c6.at _) ?_; rintro e w' ⟨rfl, rfl⟩
                  go_wp2
                  go_ret
                  exact ⟨ret_int (by rw [HN.out, e1, E4.out]; rfl), hb⟩
                · have e3 : (x / 8192 % 2 == 1) = false := by simpa using e2
                  by_cases e5 : x % 8192 = 0
                  · have e6 : (x % 8192 != 0) = false := by simpa using e5
                    have e4 : (x % 16384 != 0) = false := by simp; omega
                    have E4 : Hid _ := e4
                    clear e4 e2 e5
                    cases u1
                    · go_enter Tryz.func140, Tryz.ntmps140
                      go_wp2_with fail
                      refine Calls.mono (c0.at _) ?_; rintro e w' ⟨rfl, rfl⟩
                      go_wp2_with fail
                      refine Calls.mono (cH.at _) ?_; rintro e w' ⟨rfl, rfl⟩
                      go_wp2_with fail
                      refine Calls.mono (cN.at _) ?_; rintro e w' ⟨rfl, rfl⟩
                      go_wp2_with fail
                      refine Calls.mono (hP.at _) ?_; rintro e w' ⟨rfl, rfl⟩
                      go_wp2_with fail
                      refine Calls.mono (cT.at _) ?_; rintro e w1 ⟨rfl, hb⟩
                      go_wp2_with fail
                      refine Calls.mono (hW.at _) ?_; rintro e w' ⟨rfl, rfl⟩
                      go_wp2_with fail
                      refine Calls.mono (hS.at _) ?_; rintro e w' ⟨rfl, rfl⟩
                      go_wp2_with fail
                      refine Calls.mono (c10.at _) ?_; rintro e w' ⟨rfl, rfl⟩
                      go_wp2_with fail
                      refine Calls.mono (c6.at _) ?_; rintro e w' ⟨rfl, rfl⟩
                      go_wp2_with fail
                      refine Calls.mono (c12.at _) ?_; rintro e w' ⟨rfl, rfl⟩
                      go_wp2_with fail
                      refine Calls.mono (cA.at _) ?_; rintro e w' ⟨rfl, rfl⟩
                      go_wp2
                      go_ret
                      exact ⟨ret_int (by rw [HN.out, e1, E4.out]; rfl), hb⟩
                    · cases u2
                      · go_enter Tryz.func140, Tryz.ntmps140
                        go_wp2_with fail
                        refine Calls.mono (c0.at _) ?_; rintro e w' ⟨rfl, rfl⟩
                        go_wp2_with fail
                        refine Calls.mono (cH.at _) ?_; rintro e w' ⟨rfl, rfl⟩
                        go_wp2_with fail
                        refine Calls.mono (cN.at _) ?_; rintro e w' ⟨rfl, rfl⟩
                        go_wp2_with fail
                        refine Calls.mono (hP.at _) ?_; rintro e w' ⟨rfl, rfl⟩
                        go_wp2_with fail
                        refine Calls.mono (cT.at _) ?_; rintro e w1 ⟨rfl, hb⟩
                        go_wp2_with fail
                        refine Calls.mono (hW.at _) ?_; rintro e w' ⟨rfl, rfl⟩
                        go_wp2_with fail
                        refine Calls.mono (hS.at _) ?_; rintro e w' ⟨rfl, rfl⟩
                        go_wp2_with fail
                        refine Calls.mono (c10.at _) ?_; rintro e w' ⟨rfl, rfl⟩
                        go_wp2_with fail
                        refine Calls.mono (c6.at _) ?_; rintro e w' ⟨rfl, rfl⟩
                        go_wp2_with fail
                        refine Calls.mono (c12.at _) ?_; rintro e w' ⟨rfl, rfl⟩
                        go_wp2_with fail
                        refine Calls.mono (cA.at _) ?_; rintro e w' ⟨rfl, rfl⟩
                        go_wp2_with fail
                        refine Calls.mono (c16.at _) ?_; rintro e w' ⟨rfl, rfl⟩
                        go_wp2_with fail
                        refine Calls.mono (cD.at _) ?_; rintro e w' ⟨rfl, rfl⟩
                        go_wp2
                        go_ret
                        exact ⟨ret_int (by rw [HN.out, e1, E4.out]; rfl), hb⟩
                      · go_enter Tryz.func140, Tryz.ntmps140
                        go_wp2_with fail
                        refine Calls.mono (c0.at _) ?_; rintro e w' ⟨rfl, rfl⟩
                        go_wp2_with fail
                        refine Calls.mono (cH.at _) ?_; rintro e w' ⟨rfl, rfl⟩
                        go_wp2_with fail
                        refine Calls.mono (cN.at _) ?_; rintro e w' ⟨rfl, rfl⟩
                        go_wp2_with fail
                        refine Calls.mono (hP.at _) ?_; rintro e w' ⟨rfl, rfl⟩
                        go_wp2_with fail
                        refine Calls.mono (cT.at _) ?_; rintro e w1 ⟨rfl, hb⟩
                        go_wp2_with fail
                        refine Calls.mono (hW.at _) ?_; rintro e w' ⟨rfl, rfl⟩
                        go_wp2_with fail
                        refine Calls.mono (hS.at _) ?_; rintro e w' ⟨rfl, rfl⟩
                        go_wp2_with fail
                        refine Calls.mono (c10.at _) ?_; rintro e w' ⟨rfl, rfl⟩
                        go_wp2_with fail
                        refine Calls.mono (c6.at _) ?_; rintro e w' ⟨rfl, rfl⟩
                        go_wp2_with fail
                        refine Calls.mono (c12.at _) ?_; rintro e w' ⟨rfl, rfl⟩
                        go_wp2_with fail
                        refine Calls.mono (cA.at _) ?_; rintro e w' ⟨rfl, rfl⟩
                        go_wp2_with fail
                        refine Calls.mono (c16.at _) ?_; rintro e w' ⟨rfl, rfl⟩
                        go_wp2_with fail
                        refine Calls.mono (cD.at _) ?_; rintro e w' ⟨rfl, rfl⟩
                        go_wp2
                        go_ret
                        exact ⟨ret_int (by rw [HN.out, e1, E4.out]; rfl), hb⟩
                  · have e6 : (x % 8192 != 0) = true := by simpa using e5
                    have e4 : (x % 16384 != 0) = true := by simp; omega
                    have E4 : Hid _ := e4
                    clear e4 e2 e5
                    go_enter Tryz.func140, Tryz.ntmps140
                    go_wp2_with fail
                    refine Calls.mono (c0.at _) ?_; rintro e w' ⟨rfl, rfl⟩
                    go_wp2_with fail
                    refine Calls.mono (cH.at _) ?_; rintro e w' ⟨rfl, rfl⟩
                    go_wp2_with fail
                    refine Calls.mono (cN.at _) ?_; rintro e w' ⟨rfl, rfl⟩
                    go_wp2_with fail
                    refine Calls.mono (hP.at _) ?_; rintro e w' ⟨rfl, rfl⟩
                    go_wp2_with fail
                    refine Calls.mono (cT.at _) ?_; rintro e w1 ⟨rfl, hb⟩
                    go_wp2_with fail
                    refine Calls.mono (hW.at _) ?_; rintro e w' ⟨rfl, rfl⟩
                    go_wp2_with fail
                    refine Calls.mono (hS.at _) ?_; rintro e w' ⟨rfl, rfl⟩
                    go_wp2_with fail
                    refine Calls.mono (c10.at _) ?_; rintro e w' ⟨rfl, rfl⟩
                    go_wp2_with fail
                    refine Calls.mono (c6.at _) ?_; rintro e w' ⟨rfl, rfl⟩
                    go_wp2
                    go_ret
                    exact ⟨ret_int (by rw [HN.out, e1, E4.out]; rfl), hb⟩
              · have e1' : (k != c) = true := by rw [bne_comm]; exact e1
                go_enter Tryz.func140, Tryz.ntmps140
                go_wp2_with fail
                refine Calls.mono (c0.at _) ?_; rintro e w' ⟨rfl, rfl⟩
                go_wp2_with fail
                refine Calls.mono (cH.at _) ?_; rintro e w' ⟨rfl, rfl⟩
                go_wp2_with fail
                refine Calls.mono (cN.at _) ?_; rintro e w' ⟨rfl, rfl⟩
                go_wp2_with fail
                refine Calls.mono (hP.at _) ?_; rintro e w' ⟨rfl, rfl⟩
                go_wp2_with fail
                refine Calls.mono (cT.at _) ?_; rintro e w1 ⟨rfl, hb⟩
                go_wp2_with fail
                refine Calls.mono (hW.at _) ?_; rintro e w' ⟨rfl, rfl⟩
                go_wp2_with fail
                refine Calls.mono (hS.at _) ?_; rintro e w' ⟨rfl, rfl⟩
                go_wp2_with fail
                refine Calls.mono (c10.at _) ?_; rintro e w' ⟨rfl, rfl⟩
                go_wp2
                go_ret
                exact ⟨ret_int (by rw [HN.out, e1]; rfl), hb⟩
      · have k3' : (b0 / 16 != 4) = true := by simp [k3]
        have K3 : Hid _ := k3
        clear k3
        go_enter Tryz.func140, Tryz.ntmps140
        go_wp2_with fail
        refine Calls.mono (c0.at _) ?_; rintro e w' ⟨rfl, rfl⟩
        go_wp2
        go_ret
        exact ⟨ret_int (by rw [HR.out, if_neg (fun g => K3.out g.2.2.1)]), Below.refl _ _⟩

theorem header_any (s : ByteArray) (w : World) (hs : s.size ≤ maxLen) :
    Calls Tryz.prog 140 #[.string s] w fun e w' => e = .returned (.int .i64 (hdrv s)) ∧ Below w.heap.size w w' := by
  have hm := hs
  unfold maxLen at hm
  have hz := prt_size s 0 (hdv s)
  have g1 := (lg_bd s 12).2
  have g2 := (lg_bd s 16).2
  refine header_core s (prt s 0 (hdv s)) (w2 0) (blk (prt s 0 (hdv s)) 10) (bt s 0) (hdv s) (wd s 2) (hsv s) (wd s 10) (wd s 6) (lg s 12) (lg s 16) (usB (lg s 12)) (usB (lg s 16)) w
    (bt_bd s 0).1 (bt_bd s 0).2 (wd_bd s 6).1 (wd_bd s 6).2 (by omega) (fun w => number1 s 0 w hs (by decide) (by decide)) (fun w => head_any s w hs) (fun w => number2 s 2 w hs (by decide) (by decide))
    (fun g1 g2 g3 w => part_any s 0 _ w (by decide) (by omega)) (fun w => text2 0 w (by decide) (by decide)) (fun g1 g2 g3 g4 w => with_any _ _ 10 w (by decide) (by decide) (by omega) (by rw [w2_size]; decide))
    (fun g1 g2 g3 g4 w => refSum_any _ w (size_le (by rw [blk_size _ _ (by decide) (by omega)]; omega)))
    (fun w => number2 s 10 w hs (by decide) (by decide)) (fun w => number2 s 6 w hs (by decide) (by decide)) (fun w => number4 s 12 w hs (by decide) (by decide)) (fun w => refUsable_any _ w (by omega))
    (fun w => number4 s 16 w hs (by decide) (by decide)) (fun w => refUsable_any _ w (by omega)) (hdrv s) ?_
  unfold hdrv partB fitsB
  simp only [decide_eq_true_eq]
  rfl

set_option maxHeartbeats 1000000 in
theorem message_core (s b : ByteArray) (t p : Int) (w : World) (cB : Ret 142 #[.string s] (.string b)) (c0 : Ret 141 #[.string b, .int .i64 0, .int .i64 1] (.int .i64 t))
    (cP : Ret 141 #[.string s, .int .i64 9, .int .i64 1] (.int .i64 p)) (hp : (p == 1) = true) :
    Calls Tryz.prog 150 #[.string s] w fun e w' => e = .returned (.bool (errB t)) ∧ w' = w := by
  obtain ⟨r, hr⟩ : ∃ r : Bool, r = (t == 3 || (t == 11 || t == 12)) := ⟨_, rfl⟩
  have he : errB t = r := hr.symm
  rw [he]
  have HR : Hid _ := hr
  clear hr he
  cases e1 : (t == 3)
  · cases e2 : (t == 11)
    · cases e3 : (t == 12)
      · go_enter Tryz.func150, Tryz.ntmps150
        go_wp2_with fail
        refine Calls.mono (cB.at _) ?_; rintro e w' ⟨rfl, rfl⟩
        go_wp2_with fail
        refine Calls.mono (c0.at _) ?_; rintro e w' ⟨rfl, rfl⟩
        go_wp2_with fail
        refine Calls.mono (cP.at _) ?_; rintro e w' ⟨rfl, rfl⟩
        go_wp2
        go_ret
        exact ⟨ret_bool (by rw [HR.out, e1, e2, e3]; rfl), rfl⟩
      · go_enter Tryz.func150, Tryz.ntmps150
        go_wp2_with fail
        refine Calls.mono (cB.at _) ?_; rintro e w' ⟨rfl, rfl⟩
        go_wp2_with fail
        refine Calls.mono (c0.at _) ?_; rintro e w' ⟨rfl, rfl⟩
        go_wp2_with fail
        refine Calls.mono (cP.at _) ?_; rintro e w' ⟨rfl, rfl⟩
        go_wp2
        go_ret
        exact ⟨ret_bool (by rw [HR.out, e1, e2, e3]; rfl), rfl⟩
    · go_enter Tryz.func150, Tryz.ntmps150
      go_wp2_with fail
      refine Calls.mono (cB.at _) ?_; rintro e w' ⟨rfl, rfl⟩
      go_wp2_with fail
      refine Calls.mono (c0.at _) ?_; rintro e w' ⟨rfl, rfl⟩
      go_wp2_with fail
      refine Calls.mono (cP.at _) ?_; rintro e w' ⟨rfl, rfl⟩
      go_wp2
      go_ret
      exact ⟨ret_bool (by rw [HR.out, e1, e2]; rfl), rfl⟩
  · go_enter Tryz.func150, Tryz.ntmps150
    go_wp2_with fail
    refine Calls.mono (cB.at _) ?_; rintro e w' ⟨rfl, rfl⟩
    go_wp2_with fail
    refine Calls.mono (c0.at _) ?_; rintro e w' ⟨rfl, rfl⟩
    go_wp2_with fail
    refine Calls.mono (cP.at _) ?_; rintro e w' ⟨rfl, rfl⟩
    go_wp2
    go_ret
    exact ⟨ret_bool (by rw [HR.out, e1]; rfl), rfl⟩
end Go.Proofs.YthiljpbodmajaabGreat
