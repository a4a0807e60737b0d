/-
  CONTRACTS: package frames: quotes (frames/quote.go).
-/
import Derived.Test.YthiljpbodmajaabGreatSntw
namespace Go.Proofs.YthiljpbodmajaabGreat.Plain
/-- a checksum where a word that it covers has changed, or not -/
def fx (c o n : Int) : Int := if o = n then c else ones (65535 - c + 65535 - o + n)
def fbw (k : Int) (b q : ByteArray) (i : Int) : Int := fx k (wd b i) (wd q i)
def fba (k : Int) (b q : ByteArray) : Int := fbw (fbw (fbw (fbw k b q 12) b q 14) b q 16) b q 18
def fbe (k : Int) (b q : ByteArray) : Int := fbw (fbw (fba k b q) b q (ppl q 0)) b q (ppl q 2)
def fud (k : Int) (b q : ByteArray) : Int := if k = 0 then 0 else if fbe k b q = 0 then 65535 else fbe k b q
def fxh (b q : ByteArray) : ByteArray := put q 10 (w2 (fba (wd q 10) b q))
def fxc (b q : ByteArray) : Int := if bt q 9 = 17 then fud (wd q (spl q)) b q else if bt q 9 = 6 then fbe (wd q (spl q)) b q else fbw (wd q (spl q)) b q (hdv q + 4)
def fxb (b q : ByteArray) : ByteArray := if spl q + 2 ≤ (q.size : Int) then put q (spl q) (w2 (fxc b q)) else q
/-- the quote of an error message -/
def quo (s : ByteArray) : ByteArray := prt (bdy s) 8 (bdy s).size
/-- an error message with another quote -/
def wqu (s q : ByteArray) : ByteArray := put s (hdv s + 8) (fxb (quo s) (fxh (quo s) q))
theorem fx_bd (c o n : Int) (h0 : 0 ≤ c) (h1 : c < 65536) : 0 ≤ fx c o n ∧ fx c o n < 65536 := by
  unfold fx
  split
  · exact ⟨h0, h1⟩
  · have := ones_bd (65535 - c + 65535 - o + n); omega
theorem fbw_bd (k : Int) (b q : ByteArray) (i : Int) (h0 : 0 ≤ k) (h1 : k < 65536) : 0 ≤ fbw k b q i ∧ fbw k b q i < 65536 := fx_bd _ _ _ h0 h1
theorem fba_bd (k : Int) (b q : ByteArray) (h0 : 0 ≤ k) (h1 : k < 65536) : 0 ≤ fba k b q ∧ fba k b q < 65536 := by
  have a := fbw_bd k b q 12 h0 h1
  have a := fbw_bd _ b q 14 a.1 a.2
  have a := fbw_bd _ b q 16 a.1 a.2
  exact fbw_bd _ b q 18 a.1 a.2
theorem fbe_bd (k : Int) (b q : ByteArray) (h0 : 0 ≤ k) (h1 : k < 65536) : 0 ≤ fbe k b q ∧ fbe k b q < 65536 := by
  have a := fba_bd k b q h0 h1
  have a := fbw_bd _ b q (ppl q 0) a.1 a.2
  exact fbw_bd _ b q (ppl q 2) a.1 a.2
theorem fud_bd (k : Int) (b q : ByteArray) (h0 : 0 ≤ k) (h1 : k < 65536) : 0 ≤ fud k b q ∧ fud k b q < 65536 := by
  have a := fbe_bd k b q h0 h1
  unfold fud
  split
  · decide
  · split
    · decide
    · exact a
theorem fxc_bd (b q : ByteArray) : 0 ≤ fxc b q ∧ fxc b q < 65536 := by
  have h := wd_bd q (spl q)
  unfold fxc
  split
  · exact fud_bd _ _ _ h.1 (by omega)
  · split
    · exact fbe_bd _ _ _ h.1 (by omega)
    · exact fbw_bd _ _ _ _ h.1 (by omega)
end Go.Proofs.YthiljpbodmajaabGreat.Plain
namespace Go.Proofs.YthiljpbodmajaabGreat
open Go.RowKit Plain
set_option linter.unusedVariables false

theorem fixedByWord_core (k i o n z : Int) (b q : ByteArray) (w : World) (cO : Ret 162 #[.string b, .int .i64 i] (.int .i64 o)) (cN : Ret 162 #[.string q, .int .i64 i] (.int .i64 n)) (cF : ¬ o = n → Ret 230 #[.int .i64 k, .int .i64 o, .int .i64 n] (.int .i64 z)) (hz : o = n → z = k) :
    Calls Tryz.prog 221 #[.int .i64 k, .string b, .string q, .int .i64 i] w fun e w' => e = .returned (.int .i64 z) ∧ w' = w := by
  by_cases h : o = n
  · have hz' := hz h
    subst h hz'
    clear hz cF
    go_enter Tryz.func221, Tryz.ntmps221
    go_wp2_with fail
    refine Calls.mono (cO.at _) ?_; rintro e w' ⟨rfl, hw⟩; replace hw := hw.symm; subst hw
    go_wp2_with fail
    refine Calls.mono (cN.at _) ?_; rintro e w' ⟨rfl, hw⟩; replace hw := hw.symm; subst hw
    go_wp2
    go_ret
    exact ⟨rfl, rfl⟩
  · have c := cF h
    have h' : (o == n) = false := by simpa using h
    clear hz cF h
    go_enter Tryz.func221, Tryz.ntmps221
    go_wp2_with fail
    refine Calls.mono (cO.at _) ?_; rintro e w' ⟨rfl, hw⟩; replace hw := hw.symm; subst hw
    go_wp2_with fail
    refine Calls.mono (cN.at _) ?_; rintro e w' ⟨rfl, hw⟩; replace hw := hw.symm; subst hw
    go_wp2_with fail
    refine Calls.mono (c.at _) ?_; rintro e w' ⟨rfl, hw⟩; replace hw := hw.symm; subst hw
    go_wp2
    go_ret
    exact ⟨rfl, rfl⟩
theorem fixedByWord_any (k i : Int) (b q : ByteArray) (k0 : 0 ≤ k) (k1 : k < 65536) (i0 : 0 ≤ i) (i1 : i < 65536) (hb : b.size ≤ maxLen) (hq : q.size ≤ maxLen) : Ret 221 #[.int .i64 k, .string b, .string q, .int .i64 i] (.int .i64 (fbw k b q i)) := fun w => by
  have h1 := wd_bd b i
  have h2 := wd_bd q i
  refine fixedByWord_core k i (wd b i) (wd q i) _ b q w (fun w => word_any b i w hb i0 (by omega)) (fun w => word_any q i w hq i0 (by omega)) (fun h w => ?_) (fun h => by unfold fbw fx; rw [if_pos h])
  have := codeFix_yes k (wd b i) (wd q i) w (by unfold isW; simp; omega) (by unfold isW; simp; omega) (by unfold isW; simp; omega)
  unfold fbw fx
  rw [if_neg h]
  exact this
theorem fixedByAddresses_core (k z1 z2 z3 z4 : Int) (b q : ByteArray) (w : World)
    (c1 : Ret 221 #[.int .i64 k, .string b, .string q, .int .i64 12] (.int .i64 z1)) (c2 : Ret 221 #[.int .i64 z1, .string b, .string q, .int .i64 14] (.int .i64 z2)) (c3 : Ret 221 #[.int .i64 z2, .string b, .string q, .int .i64 16] (.int .i64 z3)) (c4 : Ret 221 #[.int .i64 z3, .string b, .string q, .int .i64 18] (.int .i64 z4)) :
    Calls Tryz.prog 218 #[.int .i64 k, .string b, .string q] w fun e w' => e = .returned (.int .i64 z4) ∧ w' = w := by
  have C : Hid (∀ (j : Nat) (u : Int), j < 4 → ((j = 0 → u = k) ∧ (j = 1 → u = z1) ∧ (j = 2 → u = z2) ∧ (j = 3 → u = z3) ∧ (j = 4 → u = z4)) → ∃ t, Ret 221 #[.int .i64 u, .string b, .string q, .int .i64 (12 + 2 * (j : Int))] (.int .i64 t) ∧ ((j + 1 = 0 → t = k) ∧ (j + 1 = 1 → t = z1) ∧ (j + 1 = 2 → t = z2) ∧ (j + 1 = 3 → t = z3) ∧ (j + 1 = 4 → t = z4))) := fun j u hj hu => by
    obtain ⟨h0, h1, h2, h3, h4⟩ := hu
    match j, hj with
    | 0, _ => exact ⟨z1, by rw [h0 rfl]; exact c1, by omega, fun _ => rfl, by omega, by omega, by omega⟩
    | 1, _ => exact ⟨z2, by rw [h1 rfl]; exact c2, by omega, by omega, fun _ => rfl, by omega, by omega⟩
    | 2, _ => exact ⟨z3, by rw [h2 rfl]; exact c3, by omega, by omega, by omega, fun _ => rfl, by omega⟩
    | 3, _ => exact ⟨z4, by rw [h3 rfl]; exact c4, by omega, by omega, by omega, by omega, fun _ => rfl⟩
  clear c1 c2 c3 c4
  go_enter Tryz.func218, Tryz.ntmps218
  go_wp2
  go_loop [0, 7] (fun t i => ∃ (j : Nat) (u p : Int), j ≤ 4 ∧ p = 12 + 2 * (j : Int) ∧ i = .int .i64 p ∧ t = .int .i64 u ∧ Hid ((j = 0 → u = k) ∧ (j = 1 → u = z1) ∧ (j = 2 → u = z2) ∧ (j = 3 → u = z3) ∧ (j = 4 → u = z4))) (fun _ i => 20 - (intOf i).toNat)
  case atStart => exact ⟨0, k, 12, by omega, by omega, rfl, rfl, ⟨fun _ => rfl, fun h => by omega, fun h => by omega, fun h => by omega, fun h => by omega⟩⟩
  case round =>
    obtain ⟨j, u, p, hj, hp, rfl, rfl, hu⟩ := hrel
    by_cases hlt : j < 4
    · obtain ⟨t, ct, ht⟩ := C.out j u hlt hu.out
      rw [← hp] at ct
      have HT : Hid _ := ht
      have p1 : p < 20 := by omega
      have p0 : 12 ≤ p := by omega
      have HP : Hid _ := hp
      clear ht hp
      go_wp2_with fail
      refine Calls.mono (ct.at _) ?_; rintro e w' ⟨rfl, hw⟩; replace hw := hw.symm; subst hw
      go_wp2
      go_round
      case rel => exact ⟨j + 1, t, p + 2, by omega, by have := HP.out; omega, by go_num, rfl, HT.out⟩
      case measure => simp [intOf]; omega
    · have p1 : 20 ≤ p := by omega
      have HU : Hid (u = z4) := hu.out.2.2.2.2 (by omega)
      go_wp2
      go_ret
      exact ⟨ret_int HU.out, rfl⟩
theorem fixedByAddresses_any (k : Int) (b q : ByteArray) (k0 : 0 ≤ k) (k1 : k < 65536) (hb : b.size ≤ maxLen) (hq : q.size ≤ maxLen) : Ret 218 #[.int .i64 k, .string b, .string q] (.int .i64 (fba k b q)) := fun w => by
  have a1 := fbw_bd k b q 12 k0 k1
  have a2 := fbw_bd _ b q 14 a1.1 a1.2
  have a3 := fbw_bd _ b q 16 a2.1 a2.2
  exact fixedByAddresses_core k _ _ _ _ b q w (fixedByWord_any k 12 b q k0 k1 (by decide) (by decide) hb hq) (fixedByWord_any _ 14 b q a1.1 a1.2 (by decide) (by decide) hb hq) (fixedByWord_any _ 16 b q a2.1 a2.2 (by decide) (by decide) hb hq) (fixedByWord_any _ 18 b q a3.1 a3.2 (by decide) (by decide) hb hq)
theorem fixedByEnds_core (k z1 z2 z3 p1 p2 : Int) (b q : ByteArray) (w : World) (c1 : Ret 218 #[.int .i64 k, .string b, .string q] (.int .i64 z1)) (c2 : Ret 132 #[.string q, .int .i64 0] (.int .i64 p1)) (c3 : Ret 221 #[.int .i64 z1, .string b, .string q, .int .i64 p1] (.int .i64 z2)) (c4 : Ret 132 #[.string q, .int .i64 2] (.int .i64 p2)) (c5 : Ret 221 #[.int .i64 z2, .string b, .string q, .int .i64 p2] (.int .i64 z3)) :
    Calls Tryz.prog 220 #[.int .i64 k, .string b, .string q] w fun e w' => e = .returned (.int .i64 z3) ∧ w' = w := by
  go_enter Tryz.func220, Tryz.ntmps220
  go_wp2_with fail
  refine Calls.mono (c1.at _) ?_; rintro e w' ⟨rfl, hw⟩; replace hw := hw.symm; subst hw
  go_wp2_with fail
  refine Calls.mono (c2.at _) ?_; rintro e w' ⟨rfl, hw⟩; replace hw := hw.symm; subst hw
  go_wp2_with fail
  refine Calls.mono (c3.at _) ?_; rintro e w' ⟨rfl, hw⟩; replace hw := hw.symm; subst hw
  go_wp2_with fail
  refine Calls.mono (c4.at _) ?_; rintro e w' ⟨rfl, hw⟩; replace hw := hw.symm; subst hw
  go_wp2_with fail
  refine Calls.mono (c5.at _) ?_; rintro e w' ⟨rfl, hw⟩; replace hw := hw.symm; subst hw
  go_wp2
  go_ret
  exact ⟨rfl, rfl⟩
theorem fixedByEnds_any (k : Int) (b q : ByteArray) (k0 : 0 ≤ k) (k1 : k < 65536) (hb : b.size ≤ maxLen) (hq : q.size ≤ maxLen) : Ret 220 #[.int .i64 k, .string b, .string q] (.int .i64 (fbe k b q)) := fun w => by
  have a1 := fba_bd k b q k0 k1
  have p1 := ppl_bd q 0 (by decide) (by decide)
  have p2 := ppl_bd q 2 (by decide) (by decide)
  have a2 := fbw_bd _ b q (ppl q 0) a1.1 a1.2
  exact fixedByEnds_core k _ _ _ _ _ b q w (fixedByAddresses_any k b q k0 k1 hb hq) (fun w => portPlace_any q 0 w hq (by decide) (by decide)) (fixedByWord_any _ _ b q a1.1 a1.2 p1.1 (by omega) hb hq) (fun w => portPlace_any q 2 w hq (by decide) (by decide)) (fixedByWord_any _ _ b q a2.1 a2.2 p2.1 (by omega) hb hq)
theorem fixedUDP_core (k z r : Int) (b q : ByteArray) (w : World) (c : Ret 220 #[.int .i64 k, .string b, .string q] (.int .i64 z)) (hr : r = if k = 0 then 0 else if z = 0 then 65535 else z) :
    Calls Tryz.prog 219 #[.int .i64 k, .string b, .string q] w fun e w' => e = .returned (.int .i64 r) ∧ w' = w := by
  by_cases h : k = 0
  · rw [if_pos h] at hr
    subst h hr
    go_enter Tryz.func219, Tryz.ntmps219
    go_wp2
    go_ret
    exact ⟨rfl, rfl⟩
  · have h' : (k == 0) = false := by simpa using h
    rw [if_neg h] at hr
    clear h
    by_cases g : z = 0
    · rw [if_pos g] at hr
      subst g hr
      go_enter Tryz.func219, Tryz.ntmps219
      go_wp2_with fail
      refine Calls.mono (c.at _) ?_; rintro e w' ⟨rfl, hw⟩; replace hw := hw.symm; subst hw
      go_wp2
      go_ret
      exact ⟨rfl, rfl⟩
    · have g' : (z == 0) = false := by simpa using g
      rw [if_neg g] at hr
      subst hr
      clear g
      go_enter Tryz.func219, Tryz.ntmps219
      go_wp2_with fail
      refine Calls.mono (c.at _) ?_; rintro e w' ⟨rfl, hw⟩; replace hw := hw.symm; subst hw
      go_wp2
      go_ret
      exact ⟨rfl, rfl⟩
theorem fixedUDP_any (k : Int) (b q : ByteArray) (k0 : 0 ≤ k) (k1 : k < 65536) (hb : b.size ≤ maxLen) (hq : q.size ≤ maxLen) : Ret 219 #[.int .i64 k, .string b, .string q] (.int .i64 (fud k b q)) := fun w =>
  fixedUDP_core k _ _ b q w (fixedByEnds_any k b q k0 k1 hb hq) rfl
theorem fixedHeader_core (k z : Int) (b q r : ByteArray) (w : World) (c1 : Ret 162 #[.string q, .int .i64 10] (.int .i64 k)) (c2 : Ret 218 #[.int .i64 k, .string b, .string q] (.int .i64 z)) (c3 : RetB 131 #[.string q, .int .i64 10, .int .i64 z] (.string r)) :
    Calls Tryz.prog 174 #[.string b, .string q] w fun e w' => e = .returned (.string r) ∧ Below w.heap.size w w' := by
  go_enter Tryz.func174, Tryz.ntmps174
  go_wp2_with fail
  refine Calls.mono (c1.at _) ?_; rintro e w' ⟨rfl, hw⟩; replace hw := hw.symm; subst hw
  go_wp2_with fail
  refine Calls.mono (c2.at _) ?_; rintro e w' ⟨rfl, hw⟩; replace hw := hw.symm; subst hw
  go_wp2_with fail
  refine Calls.mono (c3.at _) ?_; rintro e w1 ⟨rfl, hb⟩
  go_wp2
  go_ret
  exact ⟨rfl, hb⟩
theorem fixedHeader_any (b q : ByteArray) (hb : b.size ≤ 65535) (hq : q.size ≤ 65535) (h20 : 20 ≤ q.size) : RetB 174 #[.string b, .string q] (.string (fxh b q)) := fun w => by
  have h := wd_bd q 10
  have a := fba_bd (wd q 10) b q h.1 (by omega)
  exact fixedHeader_core (wd q 10) _ b q _ w (fun w => word_any q 10 w (size_le hq) (by decide) (by decide)) (fixedByAddresses_any _ b q h.1 (by omega) (size_le hb) (size_le hq)) (fun w => putWord_in q 10 _ w (by decide) (by omega) hq a.1 a.2)
theorem fixedBody_core (f k z p d : Int) (b q r : ByteArray) (w : World) (d0 : 0 ≤ d) (d1 : d ≤ 60) (c1 : Ret 181 #[.string q] (.int .i64 f)) (c2 : Ret 162 #[.string q, .int .i64 f] (.int .i64 k)) (c3 : Ret 77 #[.string q] (.int .i64 p))
    (cz : (p = 17 ∧ Ret 219 #[.int .i64 k, .string b, .string q] (.int .i64 z)) ∨ (p = 6 ∧ Ret 220 #[.int .i64 k, .string b, .string q] (.int .i64 z)) ∨ (p = 1 ∧ Ret 115 #[.string q] (.int .i64 d) ∧ Ret 221 #[.int .i64 k, .string b, .string q, .int .i64 (d + 4)] (.int .i64 z)))
    (c4 : RetB 131 #[.string q, .int .i64 f, .int .i64 z] (.string r)) :
    Calls Tryz.prog 175 #[.string b, .string q] w fun e w' => e = .returned (.string r) ∧ Below w.heap.size w w' := by
  rcases cz with ⟨rfl, cz⟩ | ⟨rfl, cz⟩ | ⟨rfl, cL, cz⟩
  · go_enter Tryz.func175, Tryz.ntmps175
    go_wp2_with fail
    refine Calls.mono (c1.at _) ?_; rintro e w' ⟨rfl, hw⟩; replace hw := hw.symm; subst hw
    go_wp2_with fail
    refine Calls.mono (c2.at _) ?_; rintro e w' ⟨rfl, hw⟩; replace hw := hw.symm; subst hw
    go_wp2_with fail
    refine Calls.mono (c3.at _) ?_; rintro e w' ⟨rfl, hw⟩; replace hw := hw.symm; subst hw
    go_wp2_with fail
    refine Calls.mono (cz.at _) ?_; rintro e w' ⟨rfl, hw⟩; replace hw := hw.symm; subst hw
    go_wp2_with fail
    refine Calls.mono (c4.at _) ?_; rintro e w1 ⟨rfl, hb⟩
    go_wp2
    go_ret
    exact ⟨rfl, hb⟩
  · go_enter Tryz.func175, Tryz.ntmps175
    go_wp2_with fail
    refine Calls.mono (c1.at _) ?_; rintro e w' ⟨rfl, hw⟩; replace hw := hw.symm; subst hw
    go_wp2_with fail
    refine Calls.mono (c2.at _) ?_; rintro e w' ⟨rfl, hw⟩; replace hw := hw.symm; subst hw
    go_wp2_with fail
    refine Calls.mono (c3.at _) ?_; rintro e w' ⟨rfl, hw⟩; replace hw := hw.symm; subst hw
    go_wp2_with fail
    refine Calls.mono (cz.at _) ?_; rintro e w' ⟨rfl, hw⟩; replace hw := hw.symm; subst hw
    go_wp2_with fail
    refine Calls.mono (c4.at _) ?_; rintro e w1 ⟨rfl, hb⟩
    go_wp2
    go_ret
    exact ⟨rfl, hb⟩
  · go_enter Tryz.func175, Tryz.ntmps175
    go_wp2_with fail
    refine Calls.mono (c1.at _) ?_; rintro e w' ⟨rfl, hw⟩; replace hw := hw.symm; subst hw
    go_wp2_with fail
    refine Calls.mono (c2.at _) ?_; rintro e w' ⟨rfl, hw⟩; replace hw := hw.symm; subst hw
    go_wp2_with fail
    refine Calls.mono (c3.at _) ?_; rintro e w' ⟨rfl, hw⟩; replace hw := hw.symm; subst hw
    go_wp2_with fail
    refine Calls.mono (cL.at _) ?_; rintro e w' ⟨rfl, hw⟩; replace hw := hw.symm; subst hw
    go_wp2_with fail
    refine Calls.mono (cz.at _) ?_; rintro e w' ⟨rfl, hw⟩; replace hw := hw.symm; subst hw
    go_wp2_with fail
    refine Calls.mono (c4.at _) ?_; rintro e w1 ⟨rfl, hb⟩
    go_wp2
    go_ret
    exact ⟨rfl, hb⟩
theorem putWord_out (s : ByteArray) (i n : Int) (w : World) (h0 : 0 ≤ i) (h1 : ¬ i + 2 ≤ s.size) (h2 : s.size ≤ 65535) (h3 : i ≤ 65535) :
    Calls Tryz.prog 131 #[.string s, .int .i64 i, .int .i64 n] w fun e w' => e = .returned (.string s) ∧ Below w.heap.size w w' := by
  have h : (s.size : Int) - 2 < i := by omega
  clear h1
  go_enter Tryz.func131, Tryz.ntmps131
  go_wp2
  go_ret
  exact ⟨rfl, Below.refl _ _⟩
theorem spl_bd (q : ByteArray) : 0 ≤ spl q ∧ spl q ≤ 76 := by
  have := hdv_bd q
  unfold spl
  split
  · omega
  · split <;> omega
theorem fixedBody_any (b q : ByteArray) (hb : b.size ≤ 65535) (hq : q.size ≤ 65535) (hp : bt q 9 = 17 ∨ bt q 9 = 6 ∨ bt q 9 = 1) : RetB 175 #[.string b, .string q] (.string (fxb b q)) := fun w => by
  have hd := hdv_bd q
  have hs := spl_bd q
  have h := wd_bd q (spl q)
  have hl := size_le hb
  have hl' := size_le hq
  have hz := fxc_bd b q
  refine fixedBody_core (spl q) (wd q (spl q)) (fxc b q) (bt q 9) (hdv q) b q (fxb b q) w hd.1 hd.2 (sumPlace_any q hl') (fun w => word_any q _ w hl' hs.1 (by omega)) (fun w => protocol_any q w hl') ?_ (fun w => ?_)
  · unfold fxc
    rcases hp with e | e | e
    · rw [if_pos e]; exact .inl ⟨e, fixedUDP_any _ b q h.1 (by omega) hl hl'⟩
    · rw [if_neg (by omega), if_pos e]; exact .inr (.inl ⟨e, fixedByEnds_any _ b q h.1 (by omega) hl hl'⟩)
    · rw [if_neg (by omega), if_neg (by omega)]; exact .inr (.inr ⟨e, fun w => headerLength_any q w hl', fixedByWord_any _ _ b q h.1 (by omega) (by omega) (by omega) hl hl'⟩)
  · unfold fxb
    by_cases g : spl q + 2 ≤ (q.size : Int)
    · rw [if_pos g]; exact putWord_in q _ _ w hs.1 g hq hz.1 hz.2
    · rw [if_neg g]; exact putWord_out q _ _ w hs.1 g hq (by omega)
theorem quote_core (s B q : ByteArray) (w : World) (hB : B.size ≤ 65535) (c1 : Ret 164 #[.string s] (.string B)) (c2 : Ret 169 #[.string B, .int .i64 8, .int .i64 (B.size : Int)] (.string q)) :
    Calls Tryz.prog 116 #[.string s] w fun e w' => e = .returned (.string q) ∧ w' = w := by
  go_enter Tryz.func116, Tryz.ntmps116
  go_wp2_with fail
  refine Calls.mono (c1.at _) ?_; rintro e w' ⟨rfl, hw⟩; replace hw := hw.symm; subst hw
  go_wp2_with fail
  refine Calls.mono (c2.at _) ?_; rintro e w' ⟨rfl, hw⟩; replace hw := hw.symm; subst hw
  go_wp2
  go_ret
  exact ⟨rfl, rfl⟩
theorem withQuote_core (s q0 q q1 q2 A Z : ByteArray) (d k : Int) (w : World) (d0 : 0 ≤ d) (d1 : d ≤ 60) (hs : s.size ≤ 65535) (hq : q2.size ≤ 65535) (hA : A.size ≤ 65535) (hZ : Z.size ≤ 65535) (hk : d + 8 + (q2.size : Int) = k) (c0 : Ret 116 #[.string s] (.string q0)) (c1 : RetB 174 #[.string q0, .string q] (.string q1)) (c2 : RetB 175 #[.string q0, .string q1] (.string q2)) (c3 : Ret 115 #[.string s] (.int .i64 d))
    (c4 : Ret 169 #[.string s, .int .i64 0, .int .i64 (d + 8)] (.string A)) (c5 : Ret 169 #[.string s, .int .i64 k, .int .i64 (s.size : Int)] (.string Z)) :
    Calls Tryz.prog 120 #[.string s, .string q] w fun e w' => e = .returned (.string (A ++ q2 ++ Z)) ∧ Below w.heap.size w w' := by
  go_enter Tryz.func120, Tryz.ntmps120
  go_wp2_with fail
  refine Calls.mono (c0.at _) ?_; rintro e w' ⟨rfl, hw⟩; replace hw := hw.symm; subst hw
  go_wp2_with fail
  refine Calls.mono (c1.at _) ?_; rintro e w1 ⟨rfl, hb1⟩
  go_wp2_with fail
  refine Calls.mono (c2.at _) ?_; rintro e w2 ⟨rfl, hb2⟩
  go_wp2_with fail
  refine Calls.mono (c3.at _) ?_; rintro e w' ⟨rfl, hw⟩; replace hw := hw.symm; subst hw
  go_wp2_with fail
  refine Calls.mono (c4.at _) ?_; rintro e w' ⟨rfl, hw⟩; replace hw := hw.symm; subst hw
  go_wp2_with fail
  refine Calls.mono (c5.at _) ?_; rintro e w' ⟨rfl, hw⟩; replace hw := hw.symm; subst hw
  go_wp2
  go_ret
  exact ⟨rfl, hb1.trans (hb2.mono hb1.size)⟩
end Go.Proofs.YthiljpbodmajaabGreat
