/-
  CONTRACTS: package natboxkeep: small things.
-/
import Derived.Test.YthiljpbodmajaaaGreatSumw
import Derived.Test.YthiljpbodmajaaaGreatPlain
import Derived.Test.YthiljpbodmajaaaGreatTabm
import Derived.Deep.RegionHeld
namespace Go.Proofs.YthiljpbodmajaaaGreat
open Go.RowKit Plain
set_option linter.unusedVariables false

theorem and255 (a : Int) : bits .and .i64 a 255 = a % 256 := by
  show IntKind.i64.wrap ((BitVec.ofInt 64 a &&& BitVec.ofInt 64 255).toNat : Int) = _
  rw [BitVec.toNat_and]
  have h1 : (BitVec.ofInt 64 a).toNat = (a % 18446744073709551616).toNat := by simp
  have h2 : (BitVec.ofInt 64 255).toNat = 255 := by rfl
  rw [h1, h2, show (255 : Nat) = 2 ^ 8 - 1 by rfl, Nat.and_two_pow_sub_one_eq_mod, IntKind.wrap_i64]
  omega
theorem and24 (a : Int) (h0 : 0 ≤ a) (h1 : a < 9223372036854775808) : bits .and .i64 a 16777215 = a % 16777216 := by
  obtain ⟨A, rfl⟩ := Int.eq_ofNat_of_zero_le h0
  have := i64_and_nat A 16777215 (by omega) (by omega)
  rw [show (16777215 : Nat) = 2 ^ 24 - 1 by rfl, Nat.and_two_pow_sub_one_eq_mod] at this
  simpa using this
theorem or24 (a : Int) (h0 : 0 ≤ a) (h1 : a < 16777216) : bits .or .i64 167772160 a = 167772160 + a := by
  obtain ⟨A, rfl⟩ := Int.eq_ofNat_of_zero_le h0
  have := i64_or_nat 167772160 A (by omega) (by omega)
  rw [nat_join 24 167772160 A (by omega) (by omega)] at this
  simpa using this

theorem pick_any (c n : Int) (w : World) (hn : 0 < n) (hn1 : n < 9223372036854775808) (c0 : -9223372036854775808 ≤ c) (c1 : c < 9223372036854775808) :
    Calls Tryz.prog 43 #[.int .i64 c, .int .i64 n] w fun e w' => e = .returned (.int .i64 (pk c n)) ∧ w' = w := by
  have hz : (n == 0) = false := by simp; omega
  by_cases h : c < 0
  · have e0 : pk c n = (-(c + 1)) % n := by unfold pk; rw [if_pos h]
    have e1 : (-(c + 1)).tmod n = (-(c + 1)) % n := Int.tmod_eq_emod_of_nonneg (by omega)
    have E0 : Hid _ := e0
    have E1 : Hid _ := e1
    have hb := Int.emod_lt_of_pos (-(c + 1)) hn
    have hb0 := Int.emod_nonneg (-(c + 1)) (show n ≠ 0 by omega)
    clear e0 e1
    go_enter Tryz.func43, Tryz.ntmps43
    go_wp2
    go_ret
    exact ⟨ret_int (by rw [E0.out, ← E1.out, Int.neg_tmod]), rfl⟩
  · have e0 : pk c n = c % n := by unfold pk; rw [if_neg h]
    have e1 : c.tmod n = c % n := Int.tmod_eq_emod_of_nonneg (by omega)
    have E0 : Hid _ := e0
    have E1 : Hid _ := e1
    clear e0 e1
    go_enter Tryz.func43, Tryz.ntmps43
    go_wp2
    go_ret
    exact ⟨ret_int (by rw [E0.out]), rfl⟩
theorem kwithin_core (v lo hi k n : Int) (w : World) (h : lo ≤ hi) (l0 : -1000000000000 ≤ lo) (l1 : hi ≤ 1000000000000) (hn : hi - lo + 1 = n) (k0 : 0 ≤ k) (k1 : k < n) (cP : Ret 43 #[.int .i64 v, .int .i64 n] (.int .i64 k)) (r : Int) (hr : r = if lo ≤ v ∧ v ≤ hi then v else lo + k) :
    Calls Tryz.prog 18 #[.int .i64 v, .int .i64 lo, .int .i64 hi] w fun e w' => e = .returned (.int .i64 r) ∧ w' = w := by
  have key : (lo ≤ v ∧ v ≤ hi ∧ r = v) ∨ (r = lo + k ∧ (v < lo ∨ (lo ≤ v ∧ decide (v ≤ hi) = false))) := by
    by_cases c : lo ≤ v ∧ v ≤ hi
    · rw [if_pos c] at hr; exact .inl ⟨c.1, c.2, hr⟩
    · rw [if_neg c] at hr
      refine .inr ⟨hr, ?_⟩
      by_cases d : v < lo
      · exact .inl d
      · exact .inr ⟨by omega, by simp; omega⟩
  clear hr
  rcases key with ⟨g1, g2, rfl⟩ | ⟨rfl, g | ⟨g, g'⟩⟩
  · go_enter Tryz.func18, Tryz.ntmps18
    go_wp2
    go_ret
    exact ⟨rfl, rfl⟩
  all_goals
    go_enter Tryz.func18, Tryz.ntmps18
    go_wp2_with fail
    refine Calls.mono (cP.at _) ?_; rintro e w' ⟨rfl, rfl⟩
    go_wp2
    go_ret
    exact ⟨rfl, rfl⟩
theorem kwithin_any (v lo hi : Int) (w : World) (h : lo ≤ hi) (l0 : -1000000000000 ≤ lo) (l1 : hi ≤ 1000000000000) (v0 : -9223372036854775808 ≤ v) (v1 : v < 9223372036854775808) :
    Calls Tryz.prog 18 #[.int .i64 v, .int .i64 lo, .int .i64 hi] w fun e w' => e = .returned (.int .i64 (wth v lo hi)) ∧ w' = w :=
  kwithin_core v lo hi (pk v (hi - lo + 1)) (hi - lo + 1) w h (by omega) (by omega) rfl (pk_bd _ _ (by omega)).1 (pk_bd _ _ (by omega)).2 (fun w => pick_any v _ w (by omega) (by omega) v0 v1) _ rfl
theorem kaddr_core (v a : Int) (w : World) (a0 : 0 ≤ a) (a1 : a < 4294967296) (cW : Ret 18 #[.int .i64 v, .int .i64 0, .int .i64 4294967295] (.int .i64 a)) (r : Int) (hr : r = if a / 16777216 < 1 ∨ 223 < a / 16777216 ∨ a / 16777216 = 127 then 167772160 + a % 16777216 else a) :
    Calls Tryz.prog 40 #[.int .i64 v] w fun e w' => e = .returned (.int .i64 r) ∧ w' = w := by
  have x1 := and24 a a0 (by omega)
  have x2 := or24 (a % 16777216) (by omega) (by omega)
  have key : (r = 167772160 + a % 16777216 ∧ (a / 16777216 < 1 ∨ (1 ≤ a / 16777216 ∧ 223 < a / 16777216) ∨ (1 ≤ a / 16777216 ∧ a / 16777216 ≤ 223 ∧ (a / 16777216 == 127) = true))) ∨ (r = a ∧ 1 ≤ a / 16777216 ∧ a / 16777216 ≤ 223 ∧ (a / 16777216 == 127) = false) := by
    by_cases c : a / 16777216 < 1 ∨ 223 < a / 16777216 ∨ a / 16777216 = 127
    · rw [if_pos c] at hr
      refine .inl ⟨hr, ?_⟩
      simp only [beq_iff_eq]
      omega
    · rw [if_neg c] at hr
      refine .inr ⟨hr, by omega, by omega, ?_⟩
      simp only [beq_eq_false_iff_ne]
      omega
  clear hr
  rcases key with ⟨rfl, g | ⟨g, g1⟩ | ⟨g, g1, g2⟩⟩ | ⟨rfl, g, g1, g2⟩
  all_goals
    go_enter Tryz.func40, Tryz.ntmps40
    go_wp2_with fail
    refine Calls.mono (cW.at _) ?_; rintro e w' ⟨rfl, rfl⟩
    go_wp2
    go_ret
    exact ⟨rfl, rfl⟩
theorem kaddr_any (v : Int) (v0 : -9223372036854775808 ≤ v) (v1 : v < 9223372036854775808) : Ret 40 #[.int .i64 v] (.int .i64 (adr v)) := fun w =>
  kaddr_core v (wth v 0 4294967295) w (wth_bd _ _ _ (by decide)).1 (by have := (wth_bd v 0 4294967295 (by decide)).2; omega) (fun w => kwithin_any v 0 4294967295 w (by decide) (by decide) (by decide) v0 v1) _ rfl

theorem one_any (v : Int) : RetB 59 #[.int .i64 v] (.string (b1 (v % 256))) := fun w => by
  have h1 := and255 v
  have hcv := conv1 w (v % 256)
  have e4 : IntKind.u8.wrap (v % 256) = v % 256 := by rw [IntKind.wrap_u8']; omega
  go_enter Tryz.func59, Tryz.ntmps59
  go_wp2
  go_ret
  exact ⟨rfl, (Below.refl _ _).alloc (Nat.le_refl _) _⟩
theorem two_core (v x : Int) (A B : ByteArray) (hx : v / 256 = x) (zA : A.size = 1) (zB : B.size = 1) (c1 : RetB 59 #[.int .i64 x] (.string A)) (c2 : RetB 59 #[.int .i64 v] (.string B)) : RetB 60 #[.int .i64 v] (.string (A ++ B)) := fun w => by
  go_enter Tryz.func60, Tryz.ntmps60
  go_wp2_with fail
  refine Calls.mono (c1.at _) ?_; rintro e w1 ⟨rfl, hb1⟩
  go_wp2_with fail
  refine Calls.mono (c2.at _) ?_; rintro e w2 ⟨rfl, hb2⟩
  go_wp2
  go_ret
  exact ⟨rfl, hb1.trans (hb2.mono hb1.size)⟩
theorem b1b1 (v : Int) : b1 (v / 256 % 256) ++ b1 (v % 256) = w2 (v % 65536) := by
  apply ByteArray.ext
  simp [b1, w2, strOfNums, ByteArray.data_append]
  congr 2
  omega
theorem two_any (v : Int) : RetB 60 #[.int .i64 v] (.string (w2 (v % 65536))) := by
  have := two_core v (v / 256) (b1 (v / 256 % 256)) (b1 (v % 256)) rfl (b1_size _) (b1_size _) (one_any _) (one_any v)
  rw [b1b1] at this
  exact this
theorem two_in (v : Int) (h0 : 0 ≤ v) (h1 : v < 65536) : RetB 60 #[.int .i64 v] (.string (w2 v)) := by
  have := two_any v
  rw [show v % 65536 = v by omega] at this
  exact this
theorem four_core (v x : Int) (A B : ByteArray) (hx : v / 65536 = x) (zA : A.size = 2) (zB : B.size = 2) (c1 : RetB 60 #[.int .i64 x] (.string A)) (c2 : RetB 60 #[.int .i64 v] (.string B)) : RetB 124 #[.int .i64 v] (.string (A ++ B)) := fun w => by
  go_enter Tryz.func124, Tryz.ntmps124
  go_wp2_with fail
  refine Calls.mono (c1.at _) ?_; rintro e w1 ⟨rfl, hb1⟩
  go_wp2_with fail
  refine Calls.mono (c2.at _) ?_; rintro e w2 ⟨rfl, hb2⟩
  go_wp2
  go_ret
  exact ⟨rfl, hb1.trans (hb2.mono hb1.size)⟩
theorem four_in (v : Int) (h0 : 0 ≤ v) (h1 : v < 4294967296) : RetB 124 #[.int .i64 v] (.string (l4 v)) :=
  four_core v (v / 65536) (w2 (v / 65536)) (w2 (v % 65536)) rfl (w2_size _) (w2_size _) (two_in _ (by omega) (by omega)) (two_any v)
theorem kput_core (s A : ByteArray) (I : Nat) (v : Int) (h1 : I + 2 ≤ s.size) (h2 : s.size ≤ 65535) (zA : A.size = 2) (c1 : RetB 60 #[.int .i64 v] (.string A)) : RetB 61 #[.string s, .int .i64 (I : Int), .int .i64 v] (.string (s.extract 0 I ++ A ++ s.extract (I + 2) s.size)) := fun w => by
  have hy : (0 : Int) ≤ (I : Int) + 2 := by omega
  have hx : (I : Int) ≤ (s.size : Int) := by omega
  have hv : (I : Int) + 2 ≤ (s.size : Int) := by omega
  have hwr : IntKind.i64.wrap ((I : Int) + 2) = (I : Int) + 2 := by rw [IntKind.wrap_i64]; omega
  go_enter Tryz.func61, Tryz.ntmps61
  go_wp2
  go_region_with (first | (go_at_call 60; refine Calls.mono (c1.at _) ?_; rintro e w1 ⟨rfl, hb⟩))
  all_goals
    go_wp2
    go_ret
    exact ⟨ret_string (by simp), Below.trans (Below.drew (Below.refl w.heap.size w)) hb⟩
theorem kput_in (s : ByteArray) (i v : Int) (h0 : 0 ≤ i) (h1 : i + 2 ≤ s.size) (h2 : s.size ≤ 65535) (v0 : 0 ≤ v) (v1 : v < 65536) : RetB 61 #[.string s, .int .i64 i, .int .i64 v] (.string (put s i (w2 v))) := by
  obtain ⟨I, rfl⟩ := Int.eq_ofNat_of_zero_le h0
  have := kput_core s (w2 v) I v (by omega) h2 (w2_size v) (two_in v v0 v1)
  rw [show put s (I : Int) (w2 v) = s.extract 0 I ++ w2 v ++ s.extract (I + 2) s.size by
    simp only [put, prt, w2_size]
    rw [show ((I : Int) + ((2 : Nat) : Int)).toNat = I + 2 by omega]
    simp only [Int.toNat_natCast, Int.toNat_zero]]
  exact this
theorem least_any (a b : Int) : Ret 33 #[.int .i64 a, .int .i64 b] (.int .i64 (if a < b then a else b)) := fun w => by
  by_cases h : a < b
  · rw [if_pos h]
    go_enter Tryz.func33, Tryz.ntmps33
    go_wp2
    go_ret
    exact ⟨rfl, rfl⟩
  · rw [if_neg h]
    go_enter Tryz.func33, Tryz.ntmps33
    go_wp2
    go_ret
    exact ⟨rfl, rfl⟩
set_option maxHeartbeats 1000000 in
set_option maxRecDepth 8000 in
theorem ksum_any (s : ByteArray) (hz : s.size ≤ 200000) : Ret 62 #[.string s] (.int .i64 (ksm s)) := fun w => by
  generalize hr : ksm s = r
  have HR : Hid _ := hr
  clear hr
  go_enter Tryz.func62, Tryz.ntmps62
  go_wp2
  go_loop [3, 4] (fun t i => ∃ (k : Nat) (n : Int), k ≤ s.size ∧ i = .int .i64 (k : Int) ∧ t = .int .i64 n ∧ 0 ≤ n ∧ n ≤ 65535 ∧ Hid (n = fd (psum s k))) (fun _ i => s.size - (intOf i).toNat)
  case atStart => exact ⟨0, 0, by omega, rfl, rfl, by omega, by omega, (rfl : (0 : Int) = fd (psum s 0))⟩
  case round =>
    obtain ⟨k, n, hk, rfl, rfl, hn0, hn1, hn⟩ := hrel
    by_cases hlt : k < s.size
    · have hb := bt_in s k hlt
      have hb2 := bt_bd s k
      generalize hB : bt s k = B at hb hb2
      obtain ⟨hb0, hb1⟩ := hb2
      have HB : Hid (s[k].toNat = B) := hb.symm
      have hb' : (s[k].toNat : Int) = B := hb.symm
      have HBB : Hid (bt s k = B) := hB
      clear hb HB hB
      have step : Hid (∀ v : Int, v = (if k % 2 = 0 then B * 256 else B) → (if n + v > 65535 then n + v - 65535 else n + v) = fd (psum s (k + 1))) := fun v hv => by
        simp only [psum]
        rw [HBB.out, ← hv, ← fd_step1 (psum s k) v (psum_bd s k) (by subst hv; split <;> omega) (by subst hv; split <;> omega), ← hn.out]
      by_cases hev : k % 2 = 0
      · have hm : ((k : Int).tmod 2 == 0) = true := by simp only [beq_iff_eq]; rw [Int.tmod_eq_emod_of_nonneg (by omega)]; omega
        have st := step.out (B * 256) (by rw [if_pos hev])
        by_cases hov : n + B * 256 > 65535
        · rw [if_pos hov] at st
          have ST : Hid _ := st
          clear st step
          go_wp2
          go_round
          case rel => exact ⟨k + 1, n + B * 256 - 65535, by omega, by go_num, by go_num, by omega, by omega, ST.out⟩
          case measure => simp [intOf]; omega
        · rw [if_neg hov] at st
          have ST : Hid _ := st
          clear st step
          go_wp2
          go_round
          case rel => exact ⟨k + 1, n + B * 256, by omega, by go_num, by go_num, by omega, by omega, ST.out⟩
          case measure => simp [intOf]; omega
      · have hm : ((k : Int).tmod 2 == 0) = false := by simp only [beq_eq_false_iff_ne]; rw [Int.tmod_eq_emod_of_nonneg (by omega)]; omega
        have st := step.out B (by rw [if_neg hev])
        by_cases hov : n + B > 65535
        · rw [if_pos hov] at st
          have ST : Hid _ := st
          clear st step
          go_wp2
          go_round
          case rel => exact ⟨k + 1, n + B - 65535, by omega, by go_num, by go_num, by omega, by omega, ST.out⟩
          case measure => simp [intOf]; omega
        · rw [if_neg hov] at st
          have ST : Hid _ := st
          clear st step
          go_wp2
          go_round
          case rel => exact ⟨k + 1, n + B, by omega, by go_num, by go_num, by omega, by omega, ST.out⟩
          case measure => simp [intOf]; omega
    · go_wp2
      go_ret
      exact ⟨ret_int (by rw [hn.out, ← HR.out, show k = s.size by omega, psum_total]; rfl), rfl⟩
end Go.Proofs.YthiljpbodmajaaaGreat
namespace Go.Proofs.YthiljpbodmajaaaGreat
open Go.RowKit Plain
set_option linter.unusedVariables false

/-- a datagram -/
structure Dg where
  pr : Int
  kd : Int
  ba : Bool
  sa : Int
  sp : Int
  da : Int
  dp : Int
  tl : Int
  bi : Int
  sr : Int
  op : ByteArray
  md : ByteArray
  tx : ByteArray
  ta : ByteArray
def dgl (d : Dg) : Array Value := #[.int .i64 d.pr, .int .i64 d.kd, .bool d.ba, .int .i64 d.sa, .int .i64 d.sp, .int .i64 d.da, .int .i64 d.dp, .int .i64 d.tl, .int .i64 d.bi, .int .i64 d.sr, .string d.op, .string d.md, .string d.tx, .string d.ta]

theorem below_next {B : Nat} {W w1 w2 : World} (hB : B ≤ W.heap.size) (h : Below B W w1) (k : Below w1.heap.size w1 w2) : Below B W w2 := h.trans (k.mono (Nat.le_trans hB h.size))
/-- the datagram's cells, in every world that leaves them -/
theorem dg_at (d : Dg) (w : World) (i : Nat) (u : Value) (h : (dgl d)[i]? = some u) : ∀ w', Below (w.heap.size + 1) (w.alloc (.cells (dgl d) 33)) w' → w'.cell? ⟨w.heap.size, i, none⟩ = some u := fun w' hb =>
  (hb.cell (p := ⟨w.heap.size, i, none⟩) (by simp)).trans ((cell_of_row _ _ _ _ _ _ (alloc1 w _)).trans h)
/-- the datagram's own block, laid in w, stands in w' -/
def Dok (d : Dg) (w w' : World) : Prop := Below (w.heap.size + 1) (w.alloc (.cells (dgl d) 33)) w'
theorem Dok.start (d : Dg) (w : World) : Dok d w (w.alloc (.cells (dgl d) 33)) := Below.refl _ _
theorem Dok.drew {d : Dg} {w w' : World} (h : Dok d w w') : Dok d w w'.drew := Below.drew h
theorem Dok.next {d : Dg} {w w1 w2 : World} (h : Dok d w w1) (k : Below w1.heap.size w1 w2) : Dok d w w2 := Below.trans h (k.mono (Nat.le_trans (by simp) h.size))
theorem Dok.below {d : Dg} {w w' : World} (h : Dok d w w') : Below w.heap.size w w' := ((Below.refl w.heap.size w).alloc (Nat.le_refl _) _).trans (Below.mono h (by omega))
theorem Dok.at {d : Dg} {w : World} (i : Nat) {u : Value} (h : (dgl d)[i]? = some u) : ∀ w', Dok d w w' → w'.cell? ⟨w.heap.size, i, none⟩ = some u := dg_at d w i u h
theorem ends_core (d : Dg) (A B : ByteArray) (w : World) (zA : A.size = 4) (zB : B.size = 4) (cA : RetB 124 #[.int .i64 d.sa] (.string A)) (cB : RetB 124 #[.int .i64 d.da] (.string B)) :
    Calls Tryz.prog 82 #[.agg (dgl d)] w fun e w' => e = .returned (.string (A ++ B)) ∧ Below w.heap.size w w' := by
  have hX := dg_at d w 3 (.int .i64 d.sa) rfl
  have hY := dg_at d w 5 (.int .i64 d.da) rfl
  have hB : w.heap.size + 1 ≤ (w.alloc (.cells (dgl d) 33)).heap.size := by simp
  generalize hD : dgl d = D at hX hY hB ⊢
  have HB : Hid _ := hB
  clear hB hD
  go_enter Tryz.func82, Tryz.ntmps82
  go_wp2
  go_region_held (fun w' => Below (w.heap.size + 1) (w.alloc (.cells D 33)) w') (first | assumption | exact (Below.refl _ _).drew) (first
    | (go_at_call_of 124 (Value.int .i64 d.sa); refine Calls.mono (cA.at _) ?_; rintro e w1 ⟨rfl, hb1⟩; have hk1 := below_next HB.out (by assumption) hb1)
    | (go_at_call_of 124 (Value.int .i64 d.da); refine Calls.mono (cB.at _) ?_; rintro e w2 ⟨rfl, hb2⟩; have hk2 := below_next HB.out (by assumption) hb2))
  all_goals
    go_wp2
    go_ret
    exact ⟨rfl, ((Below.refl w.heap.size w).alloc (Nat.le_refl _) _).trans (Below.mono (by assumption) (by omega))⟩
theorem ends_any (d : Dg) (s0 : 0 ≤ d.sa) (s1 : d.sa < 4294967296) (d0 : 0 ≤ d.da) (d1 : d.da < 4294967296) : RetB 82 #[.agg (dgl d)] (.string (l4 d.sa ++ l4 d.da)) := fun w =>
  ends_core d _ _ w (l4_size _) (l4_size _) (four_in _ s0 s1) (four_in _ d0 d1)
end Go.Proofs.YthiljpbodmajaaaGreat
