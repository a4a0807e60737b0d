/-
  CONTRACTS: package natboxkeep: other, first, fill, given, idle, out.
-/
import Derived.Test.YthiljpbodmajaaaGreatKepd
import Derived.Test.YthiljpbodmajaaaGreatPlain
namespace Go.Proofs.YthiljpbodmajaaaGreat
open Go.RowKit Plain
set_option linter.unusedVariables false

/-- a configuration as a value -/
def cfl (c : Cf) : Array Value := #[.int .i64 c.ia, .int .i64 c.oa, .int .i64 c.lo, .int .i64 c.hi, .int .i64 c.cp, .int .i64 c.im, .int .i64 c.om, .int .i64 c.iu, .int .i64 c.it, .int .i64 c.iq, .int .i64 c.bu, .int .i64 c.ra]
theorem other_core (v a x y z : Int) (c : Cf) (w : World) (a0 : 0 ≤ a) (a1 : a < 4294967296) (x0 : 0 ≤ x) (x1 : x < 4294967296) (y0 : 0 ≤ y) (y1 : y < 4294967296) (cA : Ret 40 #[.int .i64 v] (.int .i64 a))
    (hx : x = ot1 a c.ia c.oa) (hy : y = ot1 x c.ia c.oa) (hz : z = ot1 y c.ia c.oa) (cX : ∀ u, 0 ≤ u → u < 4294967296 → Ret 40 #[.int .i64 (u + 1)] (.int .i64 (adr (u + 1)))) :
    Calls Tryz.prog 29 #[.int .i64 v, .agg (cfl c)] w fun e w' => e = .returned (.int .i64 z) ∧ Below w.heap.size w w' := by
  have hbel : Hid (Below w.heap.size w (w.alloc (.cells (cfl c) 28))) := (Below.refl _ _).alloc (Nat.le_refl _) _
  have HX : Hid _ := And.intro hx (And.intro hy hz)
  have CX : Hid _ := cX
  clear hx hy hz cX
  unfold cfl at *
  go_enter Tryz.func29, Tryz.ntmps29
  go_wp2_with fail
  refine Calls.mono (cA.at _) ?_; rintro e w' ⟨rfl, hw⟩; replace hw := hw.symm; subst hw
  go_wp2
  go_loop [5, 6] (fun t i => ∃ (k : Nat) (u : Int), k ≤ 3 ∧ i = .int .i64 (k : Int) ∧ t = .int .i64 u ∧ 0 ≤ u ∧ u < 4294967296 ∧ Hid ((k = 0 → u = a) ∧ (k = 1 → u = x) ∧ (k = 2 → u = y) ∧ (k = 3 → u = z))) (fun _ i => 3 - (intOf i).toNat)
  case atStart => exact ⟨0, a, by omega, rfl, rfl, a0, a1, ⟨fun _ => rfl, fun h => by omega, fun h => by omega, fun h => by omega⟩⟩
  case round =>
    obtain ⟨k, u, hk, rfl, rfl, u0, u1, hu⟩ := hrel
    by_cases hlt : k < 3
    · have hnext : Hid (∀ t, t = ot1 u c.ia c.oa → ((k + 1 = 0 → t = a) ∧ (k + 1 = 1 → t = x) ∧ (k + 1 = 2 → t = y) ∧ (k + 1 = 3 → t = z))) := fun t ht => by
        obtain ⟨h0, h1, h2, h3⟩ := hu.out
        obtain ⟨e1, e2, e3⟩ := HX.out
        refine ⟨fun h => by omega, fun h => ?_, fun h => ?_, fun h => ?_⟩
        · rw [ht, e1, h0 (by omega)]
        · rw [ht, e2, h1 (by omega)]
        · rw [ht, e3, h2 (by omega)]
      have hot : Hid (0 ≤ adr (u + 1) ∧ adr (u + 1) < 4294967296) := us_bd (adr_us (u + 1))
      by_cases e1 : u = c.ia
      · have ht := hnext.out (adr (u + 1)) (by unfold ot1; rw [if_pos (.inl e1)])
        have HT : Hid _ := ht
        have cA1 := CX.out u u0 u1
        have e1' : (u == c.ia) = true := by simpa using e1
        generalize adr (u + 1) = A at cA1 HT hot
        clear ht hnext e1
        go_wp2_with fail
        refine Calls.mono (cA1.at _) ?_; rintro e w' ⟨rfl, hw⟩; replace hw := hw.symm; subst hw
        go_wp2
        go_round
        case rel => exact ⟨k + 1, A, by omega, by go_num, rfl, hot.out.1, hot.out.2, HT.out⟩
        case measure => simp [intOf]; omega
      · have e1' : (u == c.ia) = false := by simpa using e1
        by_cases e2 : u = c.oa
        · have ht := hnext.out (adr (u + 1)) (by unfold ot1; rw [if_pos (.inr e2)])
          have HT : Hid _ := ht
          have cA1 := CX.out u u0 u1
          have e2' : (u == c.oa) = true := by simpa using e2
          generalize adr (u + 1) = A at cA1 HT hot
          clear ht hnext e1 e2
          go_wp2_with fail
          refine Calls.mono (cA1.at _) ?_; rintro e w' ⟨rfl, hw⟩; replace hw := hw.symm; subst hw
          go_wp2
          go_round
          case rel => exact ⟨k + 1, A, by omega, by go_num, rfl, hot.out.1, hot.out.2, HT.out⟩
          case measure => simp [intOf]; omega
        · have e2' : (u == c.oa) = false := by simpa using e2
          have ht := hnext.out u (by unfold ot1; rw [if_neg (by omega)])
          have HT : Hid _ := ht
          clear ht hnext e1 e2
          go_wp2
          go_round
          case rel => exact ⟨k + 1, u, by omega, by go_num, rfl, u0, u1, HT.out⟩
          case measure => simp [intOf]; omega
    · go_wp2
      go_ret
      exact ⟨ret_int (hu.out.2.2.2 (by omega)), hbel.out⟩
theorem other_any (v : Int) (c : Cf) (v0 : -9223372036854775808 ≤ v) (v1 : v < 9223372036854775808) : RetB 29 #[.int .i64 v, .agg (cfl c)] (.int .i64 (oth v c.ia c.oa)) := fun w =>
  have b1 := us_bd (adr_us v)
  have b2 := us_bd (ot1_us _ c.ia c.oa (adr_us v))
  have b3 := us_bd (ot1_us _ c.ia c.oa (ot1_us _ c.ia c.oa (adr_us v)))
  other_core v (adr v) _ _ _ c w b1.1 b1.2 b2.1 b2.2 b3.1 b3.2 (kaddr_any v v0 v1) rfl rfl rfl (fun u h0 h1 => kaddr_any _ (by omega) (by omega))
theorem first_any (s : ByteArray) (n : Int) (w : World) (hs : s.size ≤ maxLen) : Calls Tryz.prog 42 #[.string s, .int .i64 n] w fun e w' => e = .returned (.string (prt s 0 n)) ∧ w' = w := by
  by_cases h : n < 0
  · have e : prt s 0 n = ⟨#[]⟩ := prt_empty s 0 n (by omega)
    have E : Hid _ := e
    clear e
    go_enter Tryz.func42, Tryz.ntmps42
    go_wp2
    go_ret
    exact ⟨ret_string E.out.symm, rfl⟩
  · obtain ⟨N, rfl⟩ := Int.eq_ofNat_of_zero_le (show 0 ≤ n by omega)
    by_cases h2 : N < s.size
    · go_enter Tryz.func42, Tryz.ntmps42
      go_wp2
      go_ret
      exact ⟨ret_string (by simp [prt]), rfl⟩
    · have e : prt s 0 N = s := by
        apply bt_ext
        · rw [prt_size]; omega
        · intro i hi
          rw [prt_size] at hi
          rw [bt_prt s 0 N i (by omega) (by omega) (by omega)]
          simp
      have E : Hid _ := e
      clear e
      go_enter Tryz.func42, Tryz.ntmps42
      go_wp2
      go_ret
      exact ⟨ret_string E.out.symm, rfl⟩
def gvn (lo hi own tk : Int) : Int := if lo ≤ own ∧ own ≤ hi ∧ ¬ own = tk then own else if ¬ lo = tk then lo else lo + 1
theorem given_any (c : Cf) (own tk : Int) (w : World) (l0 : 0 ≤ c.lo) (l1 : c.lo ≤ 65535) : Calls Tryz.prog 26 #[.agg (cfl c), .int .i64 own, .int .i64 tk] w fun e w' => e = .returned (.int .i64 (gvn c.lo c.hi own tk)) ∧ Below w.heap.size w w' := by
  have hbel : Hid (Below w.heap.size w (w.alloc (.cells (cfl c) 28))) := (Below.refl _ _).alloc (Nat.le_refl _) _
  have key : (c.lo ≤ own ∧ own ≤ c.hi ∧ (own != tk) = true ∧ gvn c.lo c.hi own tk = own) ∨ ((own < c.lo ∨ (c.lo ≤ own ∧ decide (own ≤ c.hi) = false) ∨ (c.lo ≤ own ∧ own ≤ c.hi ∧ (own != tk) = false)) ∧ (((c.lo != tk) = true ∧ gvn c.lo c.hi own tk = c.lo) ∨ ((c.lo != tk) = false ∧ gvn c.lo c.hi own tk = c.lo + 1))) := by
    unfold gvn
    by_cases g : c.lo ≤ own ∧ own ≤ c.hi ∧ ¬ own = tk
    · exact .inl ⟨g.1, g.2.1, by simpa using g.2.2, if_pos g⟩
    · rw [if_neg g]
      refine .inr ⟨?_, ?_⟩
      · simp only [decide_eq_false_iff_not, bne_eq_false_iff_eq]; omega
      · by_cases f : c.lo = tk
        · exact .inr ⟨by simpa using f, by rw [if_neg (by omega)]⟩
        · exact .inl ⟨by simpa using f, by rw [if_pos f]⟩
  generalize gvn c.lo c.hi own tk = r at key ⊢
  unfold cfl at *
  rcases key with ⟨g1, g2, g3, rfl⟩ | ⟨g, f⟩
  · go_enter Tryz.func26, Tryz.ntmps26
    go_wp2
    go_ret
    exact ⟨rfl, hbel.out⟩
  · rcases g with g | ⟨g, g'⟩ | ⟨g, g', g''⟩
    all_goals
      rcases f with ⟨f, rfl⟩ | ⟨f, rfl⟩
      all_goals
        go_enter Tryz.func26, Tryz.ntmps26
        go_wp2
        go_ret
        exact ⟨rfl, hbel.out⟩
theorem kidle_any (c : Cf) (p : Int) (w : World) : Calls Tryz.prog 16 #[.agg (cfl c), .int .i64 p] w fun e w' => e = .returned (.int .i64 (c.idle p)) ∧ Below w.heap.size w w' := by
  have hbel : Hid (Below w.heap.size w (w.alloc (.cells (cfl c) 28))) := (Below.refl _ _).alloc (Nat.le_refl _) _
  unfold Cf.idle
  unfold cfl at *
  by_cases h : p = 17
  · subst h
    go_enter Tryz.func16, Tryz.ntmps16
    go_wp2
    go_ret
    exact ⟨rfl, hbel.out⟩
  · rw [if_neg h]
    have h' : (p == 17) = false := by simpa using h
    by_cases h2 : p = 6
    · subst h2
      clear h
      go_enter Tryz.func16, Tryz.ntmps16
      go_wp2
      go_ret
      exact ⟨rfl, hbel.out⟩
    · rw [if_neg h2]
      have h2' : (p == 6) = false := by simpa using h2
      clear h h2
      go_enter Tryz.func16, Tryz.ntmps16
      go_wp2
      go_ret
      exact ⟨rfl, hbel.out⟩
set_option maxHeartbeats 2000000 in
theorem out_any (d : Dg) (c : Cf) (x : Int) (w : World) (t0 : 0 ≤ d.tl) (t1 : d.tl ≤ 255) : Calls Tryz.prog 24 #[.agg (dgl d), .agg (cfl c), .int .i64 x] w fun e w' => e = .returned (.agg (dgl { d with sa := c.oa, sp := x, tl := d.tl - 1 })) ∧ Below w.heap.size w w' := by
  unfold dgl cfl
  go_enter Tryz.func24, Tryz.ntmps24
  go_wp2
  refine bodyPost_ret (v := .agg (dgl { d with sa := c.oa, sp := x, tl := d.tl - 1 })) (by simp [results, Tryz.results24, go_sem, dgl]) rfl ⟨rfl, ?_⟩
  exact (((Below.refl _ _).alloc (Nat.le_refl _) _).alloc (by simp) _).alloc (by simp; omega) _
end Go.Proofs.YthiljpbodmajaaaGreat
