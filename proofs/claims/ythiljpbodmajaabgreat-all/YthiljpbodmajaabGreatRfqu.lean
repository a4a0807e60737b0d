/-
  PLAIN MATHEMATICS: a checksum that is told of all words at once, and of one after the other.
-/
import Derived.Test.YthiljpbodmajaabGreatQuow
import Derived.Test.YthiljpbodmajaabGreatPlain
import Derived.Test.YthiljpbodmajaabGreatRefe
import Derived.Test.YthiljpbodmajaabGreatRfsl
namespace Go.Proofs.YthiljpbodmajaabGreat
open Plain
set_option linter.unusedVariables false

theorem ones_same {a b : Int} (ha : 1 ≤ a) (hb : 1 ≤ b) (h : a % 65535 = b % 65535) : ones a = ones b := by
  rw [ones_pos a (by omega), ones_pos b (by omega)]
  omega
/-- what the words that differ add -/
def msum : List (Int × Int) → Int
  | [] => 0
  | (o, n) :: r => (if o = n then 0 else 65535 - o + n) + msum r
def msame : List (Int × Int) → Bool
  | [] => true
  | (o, n) :: r => (o == n) && msame r
def mvd (c : Int) (l : List (Int × Int)) : Int := if msame l then c else ones (65535 - c + msum l)
def fxs (c : Int) (l : List (Int × Int)) : Int := l.foldl (fun c x => fx c x.1 x.2) c
theorem msum_bd : ∀ (l : List (Int × Int)), (∀ x ∈ l, 0 ≤ x.1 ∧ x.1 ≤ 65535 ∧ 0 ≤ x.2 ∧ x.2 ≤ 65535) → 0 ≤ msum l ∧ (msame l = true → msum l = 0)
  | [], _ => ⟨Int.le_refl _, fun _ => rfl⟩
  | (o, n) :: r, h => by
    have ih := msum_bd r (fun x hx => h x (List.mem_cons_of_mem _ hx))
    have hb := h (o, n) List.mem_cons_self
    simp only [] at hb
    unfold msum msame
    by_cases e : o = n
    · simp only [e, if_true, beq_self_eq_true, Bool.true_and]
      exact ⟨by omega, fun k => by have := ih.2 k; omega⟩
    · have e' : (o == n) = false := by simpa using e
      simp only [e, if_false, e', Bool.false_and]
      exact ⟨by omega, fun k => (by cases k)⟩
theorem mvd_fxs : ∀ (l : List (Int × Int)) (c : Int), 0 ≤ c → c ≤ 65535 → (∀ x ∈ l, 0 ≤ x.1 ∧ x.1 ≤ 65535 ∧ 0 ≤ x.2 ∧ x.2 ≤ 65535) → mvd c l = fxs c l
  | [], c, _, _, _ => rfl
  | (o, n) :: r, c, c0, c1, h => by
    have hr : ∀ x ∈ r, 0 ≤ x.1 ∧ x.1 ≤ 65535 ∧ 0 ≤ x.2 ∧ x.2 ≤ 65535 := fun x hx => h x (List.mem_cons_of_mem _ hx)
    have hb := h (o, n) List.mem_cons_self
    simp only [] at hb
    have M := msum_bd r hr
    show mvd c ((o, n) :: r) = fxs (fx c o n) r
    by_cases e : o = n
    · have e1 : fx c o n = c := by unfold fx; rw [if_pos e]
      rw [e1, ← mvd_fxs r c c0 c1 hr]
      unfold mvd
      have e2 : msame ((o, n) :: r) = msame r := by show ((o == n) && msame r) = _; simp [e]
      have e3 : msum ((o, n) :: r) = msum r := by show (if o = n then 0 else 65535 - o + n) + msum r = _; rw [if_pos e]; omega
      rw [e2, e3]
    · have hc := fx_bd c o n c0 (by omega)
      rw [← mvd_fxs r (fx c o n) hc.1 (by omega) hr]
      have e1 : fx c o n = ones (65535 - c + 65535 - o + n) := by unfold fx; rw [if_neg e]
      have e2 : msame ((o, n) :: r) = false := by show ((o == n) && msame r) = _; simp [e]
      have e3 : msum ((o, n) :: r) = 65535 - o + n + msum r := by show (if o = n then 0 else 65535 - o + n) + msum r = _; rw [if_neg e]
      have h1 : 1 ≤ 65535 - c + 65535 - o + n ∨ 65535 - c + 65535 - o + n = 0 := by omega
      unfold mvd
      rw [e2, e3]
      simp only [Bool.false_eq_true, if_false]
      cases q : msame r
      · simp only [Bool.false_eq_true, if_false]
        rcases h1 with h1 | h1
        · have ho := ones_pos (65535 - c + 65535 - o + n) (by omega)
          refine ones_same (by omega) (by rw [e1, ho]; omega) ?_
          rw [e1, ho]
          omega
        · rw [e1, h1, ones_zero]
          congr 1
          omega
      · simp only [if_true]
        rw [e1, M.2 q]
        congr 1
        omega
end Go.Proofs.YthiljpbodmajaabGreat
namespace Go.Proofs.YthiljpbodmajaabGreat
open Go.RowKit Plain
set_option linter.unusedVariables false

def wpairs (a z : ByteArray) (k : Nat) : List (Int × Int) := (List.range k).map (fun j : Nat => (wd a (2 * (j : Int)), wd z (2 * (j : Int))))
theorem wpairs_succ (a z : ByteArray) (k : Nat) : wpairs a z (k + 1) = wpairs a z k ++ [(wd a (2 * (k : Int)), wd z (2 * (k : Int)))] := by
  unfold wpairs
  rw [List.range_succ, List.map_append]
  rfl
theorem msum_app : ∀ (l : List (Int × Int)) (o n : Int), msum (l ++ [(o, n)]) = msum l + (if o = n then 0 else 65535 - o + n)
  | [], o, n => by show (if o = n then 0 else 65535 - o + n) + 0 = 0 + _; omega
  | (a, b) :: r, o, n => by
    show (if a = b then 0 else 65535 - a + b) + msum (r ++ [(o, n)]) = (if a = b then 0 else 65535 - a + b) + msum r + _
    rw [msum_app r o n]; omega
theorem msame_app : ∀ (l : List (Int × Int)) (o n : Int), msame (l ++ [(o, n)]) = (msame l && (o == n))
  | [], o, n => by show ((o == n) && true) = (true && (o == n)); simp
  | (a, b) :: r, o, n => by
    show ((a == b) && msame (r ++ [(o, n)])) = (((a == b) && msame r) && (o == n))
    rw [msame_app r o n, Bool.and_assoc]
set_option maxHeartbeats 4000000 in
theorem rmoved_core (c : Int) (a z : ByteArray) (w : World) (c0 : 0 ≤ c) (c1 : c ≤ 65535) (ha : a.size ≤ 65535) (hz : z.size ≤ 65535) (cN : ∀ (s : ByteArray) (i : Int), (s = a ∨ s = z) → 0 ≤ i → i ≤ 65535 → Ret 141 #[.string s, .int .i64 i, .int .i64 2] (.int .i64 (wd s i)))
    (cO : ∀ n : Int, 0 ≤ n → n < 9223372036854775808 → Ret 195 #[.int .i64 n] (.int .i64 (ones n))) (r : Int) (hr : r = mvd c (wpairs a z ((a.size + 1) / 2))) :
    Calls Tryz.prog 227 #[.int .i64 c, .string a, .string z] w fun e w' => e = .returned (.int .i64 r) ∧ w' = w := by
  have HR : Hid _ := hr
  have CN : Hid _ := cN
  have CO : Hid _ := cO
  obtain ⟨A, hA⟩ : ∃ A : Nat, A = a.size := ⟨_, rfl⟩
  have HA : Hid _ := hA
  rw [← hA] at ha
  clear hr cN cO
  go_enter Tryz.func227, Tryz.ntmps227
  have hA' : a.size = A := hA.symm
  clear hA
  go_wp2
  go_loop [7, 8, 9] (fun nv sv iv => ∃ (k I : Nat) (N : Int) (b : Bool), Hid (I = 2 * k) ∧ I ≤ A + 1 ∧ 0 ≤ N ∧ N ≤ 65535 + 131070 * (I : Int) ∧ nv = .int .i64 N ∧ sv = .bool b ∧ iv = .int .i64 (I : Int) ∧ Hid (N = 65535 - c + msum (wpairs a z k)) ∧ Hid (b = msame (wpairs a z k)) ∧ Hid (k ≤ (A + 1) / 2)) (fun _ _ i => A + 2 - (intOf i).toNat)
  case atStart => exact ⟨0, 0, 65535 - c, true, rfl, by omega, by omega, by omega, by simp, rfl, rfl, by show _ = _; simp [wpairs, msum], rfl, Nat.zero_le _⟩
  case round =>
    obtain ⟨k, I, N, b, hI, hIA, n0, n1, rfl, rfl, rfl, hN, hb, hk⟩ := hrel
    by_cases hlt : I < A
    · have c1' : Hid _ := CN.out a (I : Int) (.inl rfl) (by omega) (by omega)
      have c2' : Hid _ := CN.out z (I : Int) (.inr rfl) (by omega) (by omega)
      have b1 := wd_bd a (I : Int)
      have b2 := wd_bd z (I : Int)
      have hsum : Hid (msum (wpairs a z (k + 1)) = msum (wpairs a z k) + (if wd a (I : Int) = wd z (I : Int) then 0 else 65535 - wd a (I : Int) + wd z (I : Int))) := by
        show _ = _
        rw [wpairs_succ, msum_app, show 2 * (k : Int) = (I : Int) by have := hI.out; omega]
      have hsam : Hid (msame (wpairs a z (k + 1)) = (msame (wpairs a z k) && (wd a (I : Int) == wd z (I : Int)))) := by
        show _ = _
        rw [wpairs_succ, msame_app, show 2 * (k : Int) = (I : Int) by have := hI.out; omega]
      have nx : Hid (I + 2 = 2 * (k + 1) ∧ k + 1 ≤ (A + 1) / 2) := ⟨by have := hI.out; omega, by have := hI.out; omega⟩
      generalize wd a (I : Int) = o at c1' b1 hsum hsam
      generalize wd z (I : Int) = n at c2' b2 hsum hsam
      obtain ⟨o0, o1⟩ := b1
      obtain ⟨m0, m1⟩ := b2
      cases e1 : (o != n)
      · have e : o = n := by simpa using e1
        have hs' : Hid (N = 65535 - c + msum (wpairs a z (k + 1))) := by show _ = _; rw [hsum.out, if_pos e, hN.out]; omega
        have hb' : Hid (b = msame (wpairs a z (k + 1))) := by show _ = _; rw [hsam.out, hb.out]; simp [e]
        clear e
        go_wp2_with fail
        refine Calls.mono (Ret.at c1'.out _) ?_; rintro e w' ⟨rfl, hw⟩; replace hw := hw.symm; subst hw
        go_wp2_with fail
        refine Calls.mono (Ret.at c2'.out _) ?_; rintro e w' ⟨rfl, hw⟩; replace hw := hw.symm; subst hw
        go_wp2
        go_round
        case rel => exact ⟨k + 1, I + 2, N, b, nx.out.1, by omega, n0, by omega, rfl, rfl, by go_num, hs', hb', nx.out.2⟩
        case measure => simp [intOf]; omega
      · have e : ¬ o = n := by simpa using e1
        have hs' : Hid (N + 65535 - o + n = 65535 - c + msum (wpairs a z (k + 1))) := by show _ = _; rw [hsum.out, if_neg e, hN.out]; omega
        have hb' : Hid (false = msame (wpairs a z (k + 1))) := by show _ = _; rw [hsam.out]; simp [e]
        clear e
        go_wp2_with fail
        refine Calls.mono (Ret.at c1'.out _) ?_; rintro e w' ⟨rfl, hw⟩; replace hw := hw.symm; subst hw
        go_wp2_with fail
        refine Calls.mono (Ret.at c2'.out _) ?_; rintro e w' ⟨rfl, hw⟩; replace hw := hw.symm; subst hw
        go_wp2
        go_round
        case rel => exact ⟨k + 1, I + 2, N + 65535 - o + n, false, nx.out.1, by omega, by omega, by omega, by simp, rfl, by go_num, hs', hb', nx.out.2⟩
        case measure => simp [intOf]; omega
    · have hke : Hid (k = (A + 1) / 2) := by show _ = _; have := hI.out; have := hk.out; omega
      have hAa : Hid (A = a.size) := HA.out
      cases b
      · have hfin : Hid (r = ones N) := by
          show _ = _
          rw [HR.out, ← hAa.out, ← hke.out]
          unfold mvd
          rw [← hb.out, ← hN.out]
          rfl
        have cO1 : Hid _ := CO.out N n0 (by omega)
        go_wp2_with fail
        refine Calls.mono (Ret.at cO1.out _) ?_; rintro e w' ⟨rfl, hw⟩; replace hw := hw.symm; subst hw
        go_wp2
        go_ret
        exact ⟨ret_int (by rw [hfin.out]), rfl⟩
      · have hfin : Hid (r = c) := by
          show _ = _
          rw [HR.out, ← hAa.out, ← hke.out]
          unfold mvd
          rw [← hb.out]
          rfl
        go_wp2
        go_ret
        exact ⟨ret_int (by rw [hfin.out]), rfl⟩
theorem rmoved_any (c : Int) (a z : ByteArray) (c0 : 0 ≤ c) (c1 : c ≤ 65535) (ha : a.size ≤ 65535) (hz : z.size ≤ 65535) : Ret 227 #[.int .i64 c, .string a, .string z] (.int .i64 (fxs c (wpairs a z ((a.size + 1) / 2)))) := fun w => by
  have e := mvd_fxs (wpairs a z ((a.size + 1) / 2)) c c0 c1 (fun x hx => by
    unfold wpairs at hx
    obtain ⟨j, _, rfl⟩ := List.mem_map.1 hx
    have b1 := wd_bd a (2 * (j : Int))
    have b2 := wd_bd z (2 * (j : Int))
    simp only []
    omega)
  rw [← e]
  exact rmoved_core c a z w c0 c1 ha hz (fun s i hs i0 i1 w => number2 s i w (size_le (by rcases hs with rfl | rfl <;> assumption)) i0 (by omega)) (fun n n0 n1 w => ones_any n w n0 n1) _ rfl
end Go.Proofs.YthiljpbodmajaabGreat
namespace Go.Proofs.YthiljpbodmajaabGreat
open Go.RowKit Plain
set_option linter.unusedVariables false

set_option maxHeartbeats 4000000 in
set_option maxRecDepth 2000 in
theorem requo_short (q r qa ra qi ri qp rp t1 s t3 s2 t5 s3 : ByteArray) (h p fl k10 c1 c2 c3 c4 c5 : Int) (w : World) (h0 : 0 ≤ h) (h1 : h ≤ 60) (f0 : 0 ≤ fl) (f1 : fl ≤ 16) (hq : q.size ≤ 65535) (za : qa.size ≤ 65535) (zb : qp.size ≤ 65535) (zc : ra.size ≤ 65535) (zd : rp.size ≤ 65535) (cH : Ret 189 #[.string q] (.int .i64 h)) (c9 : Ret 141 #[.string q, .int .i64 9, .int .i64 1] (.int .i64 p)) (cK : Ret 141 #[.string q, .int .i64 10, .int .i64 2] (.int .i64 k10))
    (cA : Ret 146 #[.string q, .int .i64 12, .int .i64 20] (.string qa)) (cB : Ret 146 #[.string r, .int .i64 12, .int .i64 20] (.string ra)) (cM1 : Ret 227 #[.int .i64 k10, .string qa, .string ra] (.int .i64 c1)) (cT1 : RetB 191 #[.int .i64 c1, .int .i64 2] (.string t1)) (cW1 : Ret 190 #[.string r, .int .i64 10, .string t1] (.string s)) (cF : Ret 144 #[.int .i64 p] (.int .i64 fl))
    (hs : (q.size : Int) < h + fl + 2) :
    Calls Tryz.prog 201 #[.string q, .string r] w fun e w' => e = .returned (.string s) ∧ Below w.heap.size w w' := by
  go_enter Tryz.func201, Tryz.ntmps201
  go_wp2_with fail
  refine Calls.mono (cH.at _) ?_; rintro e w' ⟨rfl, hw⟩; replace hw := hw.symm; subst hw
  go_wp2_with fail
  refine Calls.mono (c9.at _) ?_; rintro e w' ⟨rfl, hw⟩; replace hw := hw.symm; subst hw
  go_wp2_with fail
  refine Calls.mono (cK.at _) ?_; rintro e w' ⟨rfl, hw⟩; replace hw := hw.symm; subst hw
  go_wp2_with fail
  refine Calls.mono (cA.at _) ?_; rintro e w' ⟨rfl, hw⟩; replace hw := hw.symm; subst hw
  go_wp2_with fail
  refine Calls.mono (cB.at _) ?_; rintro e w' ⟨rfl, hw⟩; replace hw := hw.symm; subst hw
  go_wp2_with fail
  refine Calls.mono (cM1.at _) ?_; rintro e w' ⟨rfl, hw⟩; replace hw := hw.symm; subst hw
  go_wp2_with fail
  refine Calls.mono (cT1.at _) ?_; rintro e w1 ⟨rfl, hb1⟩
  go_wp2_with fail
  refine Calls.mono (cW1.at _) ?_; rintro e w' ⟨rfl, hw⟩; replace hw := hw.symm; subst hw
  go_wp2_with fail
  refine Calls.mono (cF.at _) ?_; rintro e w' ⟨rfl, hw⟩; replace hw := hw.symm; subst hw
  go_wp2
  go_ret
  exact ⟨rfl, hb1⟩
set_option maxHeartbeats 4000000 in
set_option maxRecDepth 2000 in
theorem requo_icmp (q r qa ra qi ri qp rp t1 s t3 s2 t5 s3 : ByteArray) (h p fl k10 c1 c2 c3 c4 c5 : Int) (w : World) (h0 : 0 ≤ h) (h1 : h ≤ 60) (f0 : 0 ≤ fl) (f1 : fl ≤ 16) (hq : q.size ≤ 65535) (za : qa.size ≤ 65535) (zb : qp.size ≤ 65535) (zc : ra.size ≤ 65535) (zd : rp.size ≤ 65535) (cH : Ret 189 #[.string q] (.int .i64 h)) (c9 : Ret 141 #[.string q, .int .i64 9, .int .i64 1] (.int .i64 p)) (cK : Ret 141 #[.string q, .int .i64 10, .int .i64 2] (.int .i64 k10))
    (cA : Ret 146 #[.string q, .int .i64 12, .int .i64 20] (.string qa)) (cB : Ret 146 #[.string r, .int .i64 12, .int .i64 20] (.string ra)) (cM1 : Ret 227 #[.int .i64 k10, .string qa, .string ra] (.int .i64 c1)) (cT1 : RetB 191 #[.int .i64 c1, .int .i64 2] (.string t1)) (cW1 : Ret 190 #[.string r, .int .i64 10, .string t1] (.string s)) (cF : Ret 144 #[.int .i64 p] (.int .i64 fl))
    (hs : h + fl + 2 ≤ (q.size : Int)) (cC : Ret 141 #[.string q, .int .i64 (h + fl), .int .i64 2] (.int .i64 c2)) (hp : (p == 1) = true) (cQ : Ret 146 #[.string q, .int .i64 (h + 4), .int .i64 (h + 6)] (.string qi)) (cR : Ret 146 #[.string r, .int .i64 (h + 4), .int .i64 (h + 6)] (.string ri)) (cM3 : Ret 227 #[.int .i64 c2, .string qi, .string ri] (.int .i64 c3)) (cT3 : RetB 191 #[.int .i64 c3, .int .i64 2] (.string t3)) (cW3 : Ret 190 #[.string s, .int .i64 (h + fl), .string t3] (.string s2)) :
    Calls Tryz.prog 201 #[.string q, .string r] w fun e w' => e = .returned (.string s2) ∧ Below w.heap.size w w' := by
  go_enter Tryz.func201, Tryz.ntmps201
  go_wp2_with fail
  refine Calls.mono (cH.at _) ?_; rintro e w' ⟨rfl, hw⟩; replace hw := hw.symm; subst hw
  go_wp2_with fail
  refine Calls.mono (c9.at _) ?_; rintro e w' ⟨rfl, hw⟩; replace hw := hw.symm; subst hw
  go_wp2_with fail
  refine Calls.mono (cK.at _) ?_; rintro e w' ⟨rfl, hw⟩; replace hw := hw.symm; subst hw
  go_wp2_with fail
  refine Calls.mono (cA.at _) ?_; rintro e w' ⟨rfl, hw⟩; replace hw := hw.symm; subst hw
  go_wp2_with fail
  refine Calls.mono (cB.at _) ?_; rintro e w' ⟨rfl, hw⟩; replace hw := hw.symm; subst hw
  go_wp2_with fail
  refine Calls.mono (cM1.at _) ?_; rintro e w' ⟨rfl, hw⟩; replace hw := hw.symm; subst hw
  go_wp2_with fail
  refine Calls.mono (cT1.at _) ?_; rintro e w1 ⟨rfl, hb1⟩
  go_wp2_with fail
  refine Calls.mono (cW1.at _) ?_; rintro e w' ⟨rfl, hw⟩; replace hw := hw.symm; subst hw
  go_wp2_with fail
  refine Calls.mono (cF.at _) ?_; rintro e w' ⟨rfl, hw⟩; replace hw := hw.symm; subst hw
  go_wp2_with fail
  refine Calls.mono (cC.at _) ?_; rintro e w' ⟨rfl, hw⟩; replace hw := hw.symm; subst hw
  go_wp2_with fail
  refine Calls.mono (cQ.at _) ?_; rintro e w' ⟨rfl, hw⟩; replace hw := hw.symm; subst hw
  go_wp2_with fail
  refine Calls.mono (cR.at _) ?_; rintro e w' ⟨rfl, hw⟩; replace hw := hw.symm; subst hw
  go_wp2_with fail
  refine Calls.mono (cM3.at _) ?_; rintro e w' ⟨rfl, hw⟩; replace hw := hw.symm; subst hw
  go_wp2_with fail
  refine Calls.mono (cT3.at _) ?_; rintro e w2 ⟨rfl, hb2⟩
  go_wp2_with fail
  refine Calls.mono (cW3.at _) ?_; rintro e w' ⟨rfl, hw⟩; replace hw := hw.symm; subst hw
  go_wp2
  go_ret
  exact ⟨rfl, hb1.trans (hb2.mono hb1.size)⟩
set_option maxHeartbeats 4000000 in
set_option maxRecDepth 2000 in
theorem requo_none (q r qa ra qi ri qp rp t1 s t3 s2 t5 s3 : ByteArray) (h p fl k10 c1 c2 c3 c4 c5 : Int) (w : World) (h0 : 0 ≤ h) (h1 : h ≤ 60) (f0 : 0 ≤ fl) (f1 : fl ≤ 16) (hq : q.size ≤ 65535) (za : qa.size ≤ 65535) (zb : qp.size ≤ 65535) (zc : ra.size ≤ 65535) (zd : rp.size ≤ 65535) (cH : Ret 189 #[.string q] (.int .i64 h)) (c9 : Ret 141 #[.string q, .int .i64 9, .int .i64 1] (.int .i64 p)) (cK : Ret 141 #[.string q, .int .i64 10, .int .i64 2] (.int .i64 k10))
    (cA : Ret 146 #[.string q, .int .i64 12, .int .i64 20] (.string qa)) (cB : Ret 146 #[.string r, .int .i64 12, .int .i64 20] (.string ra)) (cM1 : Ret 227 #[.int .i64 k10, .string qa, .string ra] (.int .i64 c1)) (cT1 : RetB 191 #[.int .i64 c1, .int .i64 2] (.string t1)) (cW1 : Ret 190 #[.string r, .int .i64 10, .string t1] (.string s)) (cF : Ret 144 #[.int .i64 p] (.int .i64 fl))
    (hs : h + fl + 2 ≤ (q.size : Int)) (cC : Ret 141 #[.string q, .int .i64 (h + fl), .int .i64 2] (.int .i64 0)) (hp : p = 17) :
    Calls Tryz.prog 201 #[.string q, .string r] w fun e w' => e = .returned (.string s) ∧ Below w.heap.size w w' := by
  subst hp
  go_enter Tryz.func201, Tryz.ntmps201
  go_wp2_with fail
  refine Calls.mono (cH.at _) ?_; rintro e w' ⟨rfl, hw⟩; replace hw := hw.symm; subst hw
  go_wp2_with fail
  refine Calls.mono (c9.at _) ?_; rintro e w' ⟨rfl, hw⟩; replace hw := hw.symm; subst hw
  go_wp2_with fail
  refine Calls.mono (cK.at _) ?_; rintro e w' ⟨rfl, hw⟩; replace hw := hw.symm; subst hw
  go_wp2_with fail
  refine Calls.mono (cA.at _) ?_; rintro e w' ⟨rfl, hw⟩; replace hw := hw.symm; subst hw
  go_wp2_with fail
  refine Calls.mono (cB.at _) ?_; rintro e w' ⟨rfl, hw⟩; replace hw := hw.symm; subst hw
  go_wp2_with fail
  refine Calls.mono (cM1.at _) ?_; rintro e w' ⟨rfl, hw⟩; replace hw := hw.symm; subst hw
  go_wp2_with fail
  refine Calls.mono (cT1.at _) ?_; rintro e w1 ⟨rfl, hb1⟩
  go_wp2_with fail
  refine Calls.mono (cW1.at _) ?_; rintro e w' ⟨rfl, hw⟩; replace hw := hw.symm; subst hw
  go_wp2_with fail
  refine Calls.mono (cF.at _) ?_; rintro e w' ⟨rfl, hw⟩; replace hw := hw.symm; subst hw
  go_wp2_with fail
  refine Calls.mono (cC.at _) ?_; rintro e w' ⟨rfl, hw⟩; replace hw := hw.symm; subst hw
  go_wp2
  go_ret
  exact ⟨rfl, hb1⟩
set_option maxHeartbeats 4000000 in
set_option maxRecDepth 2000 in
theorem requo_tcp (q r qa ra qi ri qp rp t1 s t3 s2 t5 s3 : ByteArray) (h p fl k10 c1 c2 c3 c4 c5 : Int) (w : World) (h0 : 0 ≤ h) (h1 : h ≤ 60) (f0 : 0 ≤ fl) (f1 : fl ≤ 16) (hq : q.size ≤ 65535) (za : qa.size ≤ 65535) (zb : qp.size ≤ 65535) (zc : ra.size ≤ 65535) (zd : rp.size ≤ 65535) (cH : Ret 189 #[.string q] (.int .i64 h)) (c9 : Ret 141 #[.string q, .int .i64 9, .int .i64 1] (.int .i64 p)) (cK : Ret 141 #[.string q, .int .i64 10, .int .i64 2] (.int .i64 k10))
    (cA : Ret 146 #[.string q, .int .i64 12, .int .i64 20] (.string qa)) (cB : Ret 146 #[.string r, .int .i64 12, .int .i64 20] (.string ra)) (cM1 : Ret 227 #[.int .i64 k10, .string qa, .string ra] (.int .i64 c1)) (cT1 : RetB 191 #[.int .i64 c1, .int .i64 2] (.string t1)) (cW1 : Ret 190 #[.string r, .int .i64 10, .string t1] (.string s)) (cF : Ret 144 #[.int .i64 p] (.int .i64 fl))
    (hs : h + fl + 2 ≤ (q.size : Int)) (cC : Ret 141 #[.string q, .int .i64 (h + fl), .int .i64 2] (.int .i64 c2)) (hp : p = 6) (cP : Ret 146 #[.string q, .int .i64 h, .int .i64 (h + 4)] (.string qp)) (cR : Ret 146 #[.string r, .int .i64 h, .int .i64 (h + 4)] (.string rp)) (cM4 : Ret 227 #[.int .i64 c2, .string (qa ++ qp), .string (ra ++ rp)] (.int .i64 c4)) (cT5 : RetB 191 #[.int .i64 c5, .int .i64 2] (.string t5)) (cW5 : Ret 190 #[.string s, .int .i64 (h + fl), .string t5] (.string s3)) (h5 : c5 = c4) :
    Calls Tryz.prog 201 #[.string q, .string r] w fun e w' => e = .returned (.string s3) ∧ Below w.heap.size w w' := by
  subst hp
  subst h5
  go_enter Tryz.func201, Tryz.ntmps201
  go_wp2_with fail
  refine Calls.mono (cH.at _) ?_; rintro e w' ⟨rfl, hw⟩; replace hw := hw.symm; subst hw
  go_wp2_with fail
  refine Calls.mono (c9.at _) ?_; rintro e w' ⟨rfl, hw⟩; replace hw := hw.symm; subst hw
  go_wp2_with fail
  refine Calls.mono (cK.at _) ?_; rintro e w' ⟨rfl, hw⟩; replace hw := hw.symm; subst hw
  go_wp2_with fail
  refine Calls.mono (cA.at _) ?_; rintro e w' ⟨rfl, hw⟩; replace hw := hw.symm; subst hw
  go_wp2_with fail
  refine Calls.mono (cB.at _) ?_; rintro e w' ⟨rfl, hw⟩; replace hw := hw.symm; subst hw
  go_wp2_with fail
  refine Calls.mono (cM1.at _) ?_; rintro e w' ⟨rfl, hw⟩; replace hw := hw.symm; subst hw
  go_wp2_with fail
  refine Calls.mono (cT1.at _) ?_; rintro e w1 ⟨rfl, hb1⟩
  go_wp2_with fail
  refine Calls.mono (cW1.at _) ?_; rintro e w' ⟨rfl, hw⟩; replace hw := hw.symm; subst hw
  go_wp2_with fail
  refine Calls.mono (cF.at _) ?_; rintro e w' ⟨rfl, hw⟩; replace hw := hw.symm; subst hw
  go_wp2_with fail
  refine Calls.mono (cC.at _) ?_; rintro e w' ⟨rfl, hw⟩; replace hw := hw.symm; subst hw
  go_wp2_with fail
  refine Calls.mono (cA.at _) ?_; rintro e w' ⟨rfl, hw⟩; replace hw := hw.symm; subst hw
  go_wp2_with fail
  refine Calls.mono (cP.at _) ?_; rintro e w' ⟨rfl, hw⟩; replace hw := hw.symm; subst hw
  go_wp2_with fail
  refine Calls.mono (cB.at _) ?_; rintro e w' ⟨rfl, hw⟩; replace hw := hw.symm; subst hw
  go_wp2_with fail
  refine Calls.mono (cR.at _) ?_; rintro e w' ⟨rfl, hw⟩; replace hw := hw.symm; subst hw
  go_wp2_with fail
  refine Calls.mono (cM4.at _) ?_; rintro e w' ⟨rfl, hw⟩; replace hw := hw.symm; subst hw
  go_wp2_with fail
  refine Calls.mono (cT5.at _) ?_; rintro e w2 ⟨rfl, hb2⟩
  go_wp2_with fail
  refine Calls.mono (cW5.at _) ?_; rintro e w' ⟨rfl, hw⟩; replace hw := hw.symm; subst hw
  go_wp2
  go_ret
  exact ⟨rfl, hb1.trans (hb2.mono hb1.size)⟩
set_option maxHeartbeats 4000000 in
set_option maxRecDepth 2000 in
theorem requo_udp (q r qa ra qi ri qp rp t1 s t3 s2 t5 s3 : ByteArray) (h p fl k10 c1 c2 c3 c4 c5 : Int) (w : World) (h0 : 0 ≤ h) (h1 : h ≤ 60) (f0 : 0 ≤ fl) (f1 : fl ≤ 16) (hq : q.size ≤ 65535) (za : qa.size ≤ 65535) (zb : qp.size ≤ 65535) (zc : ra.size ≤ 65535) (zd : rp.size ≤ 65535) (cH : Ret 189 #[.string q] (.int .i64 h)) (c9 : Ret 141 #[.string q, .int .i64 9, .int .i64 1] (.int .i64 p)) (cK : Ret 141 #[.string q, .int .i64 10, .int .i64 2] (.int .i64 k10))
    (cA : Ret 146 #[.string q, .int .i64 12, .int .i64 20] (.string qa)) (cB : Ret 146 #[.string r, .int .i64 12, .int .i64 20] (.string ra)) (cM1 : Ret 227 #[.int .i64 k10, .string qa, .string ra] (.int .i64 c1)) (cT1 : RetB 191 #[.int .i64 c1, .int .i64 2] (.string t1)) (cW1 : Ret 190 #[.string r, .int .i64 10, .string t1] (.string s)) (cF : Ret 144 #[.int .i64 p] (.int .i64 fl))
    (hs : h + fl + 2 ≤ (q.size : Int)) (cC : Ret 141 #[.string q, .int .i64 (h + fl), .int .i64 2] (.int .i64 c2)) (hp : p = 17) (h2 : (c2 == 0) = false) (cP : Ret 146 #[.string q, .int .i64 h, .int .i64 (h + 4)] (.string qp)) (cR : Ret 146 #[.string r, .int .i64 h, .int .i64 (h + 4)] (.string rp)) (cM4 : Ret 227 #[.int .i64 c2, .string (qa ++ qp), .string (ra ++ rp)] (.int .i64 c4)) (cT5 : RetB 191 #[.int .i64 c5, .int .i64 2] (.string t5)) (cW5 : Ret 190 #[.string s, .int .i64 (h + fl), .string t5] (.string s3)) (h4 : (c4 == 0) = false) (h5 : c5 = c4) :
    Calls Tryz.prog 201 #[.string q, .string r] w fun e w' => e = .returned (.string s3) ∧ Below w.heap.size w w' := by
  subst hp
  subst h5
  go_enter Tryz.func201, Tryz.ntmps201
  go_wp2_with fail
  refine Calls.mono (cH.at _) ?_; rintro e w' ⟨rfl, hw⟩; replace hw := hw.symm; subst hw
  go_wp2_with fail
  refine Calls.mono (c9.at _) ?_; rintro e w' ⟨rfl, hw⟩; replace hw := hw.symm; subst hw
  go_wp2_with fail
  refine Calls.mono (cK.at _) ?_; rintro e w' ⟨rfl, hw⟩; replace hw := hw.symm; subst hw
  go_wp2_with fail
  refine Calls.mono (cA.at _) ?_; rintro e w' ⟨rfl, hw⟩; replace hw := hw.symm; subst hw
  go_wp2_with fail
  refine Calls.mono (cB.at _) ?_; rintro e w' ⟨rfl, hw⟩; replace hw := hw.symm; subst hw
  go_wp2_with fail
  refine Calls.mono (cM1.at _) ?_; rintro e w' ⟨rfl, hw⟩; replace hw := hw.symm; subst hw
  go_wp2_with fail
  refine Calls.mono (cT1.at _) ?_; rintro e w1 ⟨rfl, hb1⟩
  go_wp2_with fail
  refine Calls.mono (cW1.at _) ?_; rintro e w' ⟨rfl, hw⟩; replace hw := hw.symm; subst hw
  go_wp2_with fail
  refine Calls.mono (cF.at _) ?_; rintro e w' ⟨rfl, hw⟩; replace hw := hw.symm; subst hw
  go_wp2_with fail
  refine Calls.mono (cC.at _) ?_; rintro e w' ⟨rfl, hw⟩; replace hw := hw.symm; subst hw
  go_wp2_with fail
  refine Calls.mono (cA.at _) ?_; rintro e w' ⟨rfl, hw⟩; replace hw := hw.symm; subst hw
  go_wp2_with fail
  refine Calls.mono (cP.at _) ?_; rintro e w' ⟨rfl, hw⟩; replace hw := hw.symm; subst hw
  go_wp2_with fail
  refine Calls.mono (cB.at _) ?_; rintro e w' ⟨rfl, hw⟩; replace hw := hw.symm; subst hw
  go_wp2_with fail
  refine Calls.mono (cR.at _) ?_; rintro e w' ⟨rfl, hw⟩; replace hw := hw.symm; subst hw
  go_wp2_with fail
  refine Calls.mono (cM4.at _) ?_; rintro e w' ⟨rfl, hw⟩; replace hw := hw.symm; subst hw
  go_wp2_with fail
  refine Calls.mono (cT5.at _) ?_; rintro e w2 ⟨rfl, hb2⟩
  go_wp2_with fail
  refine Calls.mono (cW5.at _) ?_; rintro e w' ⟨rfl, hw⟩; replace hw := hw.symm; subst hw
  go_wp2
  go_ret
  exact ⟨rfl, hb1.trans (hb2.mono hb1.size)⟩
set_option maxHeartbeats 4000000 in
set_option maxRecDepth 2000 in
theorem requo_udp0 (q r qa ra qi ri qp rp t1 s t3 s2 t5 s3 : ByteArray) (h p fl k10 c1 c2 c3 c4 c5 : Int) (w : World) (h0 : 0 ≤ h) (h1 : h ≤ 60) (f0 : 0 ≤ fl) (f1 : fl ≤ 16) (hq : q.size ≤ 65535) (za : qa.size ≤ 65535) (zb : qp.size ≤ 65535) (zc : ra.size ≤ 65535) (zd : rp.size ≤ 65535) (cH : Ret 189 #[.string q] (.int .i64 h)) (c9 : Ret 141 #[.string q, .int .i64 9, .int .i64 1] (.int .i64 p)) (cK : Ret 141 #[.string q, .int .i64 10, .int .i64 2] (.int .i64 k10))
    (cA : Ret 146 #[.string q, .int .i64 12, .int .i64 20] (.string qa)) (cB : Ret 146 #[.string r, .int .i64 12, .int .i64 20] (.string ra)) (cM1 : Ret 227 #[.int .i64 k10, .string qa, .string ra] (.int .i64 c1)) (cT1 : RetB 191 #[.int .i64 c1, .int .i64 2] (.string t1)) (cW1 : Ret 190 #[.string r, .int .i64 10, .string t1] (.string s)) (cF : Ret 144 #[.int .i64 p] (.int .i64 fl))
    (hs : h + fl + 2 ≤ (q.size : Int)) (cC : Ret 141 #[.string q, .int .i64 (h + fl), .int .i64 2] (.int .i64 c2)) (hp : p = 17) (h2 : (c2 == 0) = false) (cP : Ret 146 #[.string q, .int .i64 h, .int .i64 (h + 4)] (.string qp)) (cR : Ret 146 #[.string r, .int .i64 h, .int .i64 (h + 4)] (.string rp)) (cM4 : Ret 227 #[.int .i64 c2, .string (qa ++ qp), .string (ra ++ rp)] (.int .i64 c4)) (cT5 : RetB 191 #[.int .i64 c5, .int .i64 2] (.string t5)) (cW5 : Ret 190 #[.string s, .int .i64 (h + fl), .string t5] (.string s3)) (h4 : c4 = 0) (h5 : c5 = 65535) :
    Calls Tryz.prog 201 #[.string q, .string r] w fun e w' => e = .returned (.string s3) ∧ Below w.heap.size w w' := by
  subst hp
  subst h5
  subst h4
  go_enter Tryz.func201, Tryz.ntmps201
  go_wp2_with fail
  refine Calls.mono (cH.at _) ?_; rintro e w' ⟨rfl, hw⟩; replace hw := hw.symm; subst hw
  go_wp2_with fail
  refine Calls.mono (c9.at _) ?_; rintro e w' ⟨rfl, hw⟩; replace hw := hw.symm; subst hw
  go_wp2_with fail
  refine Calls.mono (cK.at _) ?_; rintro e w' ⟨rfl, hw⟩; replace hw := hw.symm; subst hw
  go_wp2_with fail
  refine Calls.mono (cA.at _) ?_; rintro e w' ⟨rfl, hw⟩; replace hw := hw.symm; subst hw
  go_wp2_with fail
  refine Calls.mono (cB.at _) ?_; rintro e w' ⟨rfl, hw⟩; replace hw := hw.symm; subst hw
  go_wp2_with fail
  refine Calls.mono (cM1.at _) ?_; rintro e w' ⟨rfl, hw⟩; replace hw := hw.symm; subst hw
  go_wp2_with fail
  refine Calls.mono (cT1.at _) ?_; rintro e w1 ⟨rfl, hb1⟩
  go_wp2_with fail
  refine Calls.mono (cW1.at _) ?_; rintro e w' ⟨rfl, hw⟩; replace hw := hw.symm; subst hw
  go_wp2_with fail
  refine Calls.mono (cF.at _) ?_; rintro e w' ⟨rfl, hw⟩; replace hw := hw.symm; subst hw
  go_wp2_with fail
  refine Calls.mono (cC.at _) ?_; rintro e w' ⟨rfl, hw⟩; replace hw := hw.symm; subst hw
  go_wp2_with fail
  refine Calls.mono (cA.at _) ?_; rintro e w' ⟨rfl, hw⟩; replace hw := hw.symm; subst hw
  go_wp2_with fail
  refine Calls.mono (cP.at _) ?_; rintro e w' ⟨rfl, hw⟩; replace hw := hw.symm; subst hw
  go_wp2_with fail
  refine Calls.mono (cB.at _) ?_; rintro e w' ⟨rfl, hw⟩; replace hw := hw.symm; subst hw
  go_wp2_with fail
  refine Calls.mono (cR.at _) ?_; rintro e w' ⟨rfl, hw⟩; replace hw := hw.symm; subst hw
  go_wp2_with fail
  refine Calls.mono (cM4.at _) ?_; rintro e w' ⟨rfl, hw⟩; replace hw := hw.symm; subst hw
  go_wp2_with fail
  refine Calls.mono (cT5.at _) ?_; rintro e w2 ⟨rfl, hb2⟩
  go_wp2_with fail
  refine Calls.mono (cW5.at _) ?_; rintro e w' ⟨rfl, hw⟩; replace hw := hw.symm; subst hw
  go_wp2
  go_ret
  exact ⟨rfl, hb1.trans (hb2.mono hb1.size)⟩
end Go.Proofs.YthiljpbodmajaabGreat
namespace Go.Proofs.YthiljpbodmajaabGreat
open Go.RowKit Plain
set_option linter.unusedVariables false

theorem wd_prt (s : ByteArray) (a b i : Int) (h0 : 0 ≤ a) (hi : 0 ≤ i) (h : a + i + 1 < b) : wd (prt s a b) i = wd s (a + i) := by
  unfold wd
  rw [bt_prt s a b i h0 hi (by omega), bt_prt s a b (i + 1) h0 (by omega) (by omega), Int.add_assoc]
theorem wd_app_l (a b : ByteArray) (i : Int) (h : i + 1 < (a.size : Int)) : wd (a ++ b) i = wd a i := by
  unfold wd; rw [bt_append_l a b i (by omega), bt_append_l a b (i + 1) h]
theorem wd_app_r (a b : ByteArray) (i : Int) (h : (a.size : Int) ≤ i) : wd (a ++ b) i = wd b (i - a.size) := by
  unfold wd; rw [bt_append_r a b i h, bt_append_r a b (i + 1) (by omega), show i + 1 - (a.size : Int) = i - a.size + 1 by omega]
theorem bt_w2 (v : Int) (h0 : 0 ≤ v) (h1 : v < 65536) : bt (w2 v) 0 * 256 + bt (w2 v) 1 = v := by
  have e := wd_mid ByteArray.empty ByteArray.empty v 0 (by simp) h0 h1
  have e2 : ByteArray.empty ++ w2 v ++ ByteArray.empty = w2 v := by simp
  rw [e2] at e
  exact e
theorem put_wd_self (s : ByteArray) (i : Int) (h0 : 0 ≤ i) (h1 : i + 2 ≤ s.size) : put s i (w2 (wd s i)) = s := by
  have b0 := bt_bd s i
  have b1' := bt_bd s (i + 1)
  have hb := wd_bd s i
  have hv : wd s i = bt s i * 256 + bt s (i + 1) := rfl
  generalize wd s i = v at *
  have z : (put s i (w2 v)).size = s.size := put_size _ _ _ h0 (by rw [w2_size]; exact h1)
  have e := bt_w2 v hb.1 hb.2
  have c0 := bt_bd (w2 v) 0
  have c1 := bt_bd (w2 v) 1
  refine bt_ext z (fun k hk => ?_)
  rw [bt_put s _ i k h0 (by rw [w2_size]; exact h1)]
  by_cases q : i ≤ (k : Int) ∧ (k : Int) < i + ((w2 v).size : Int)
  · rw [if_pos q]
    rw [w2_size] at q
    by_cases k0 : (k : Int) = i
    · rw [k0, Int.sub_self]; omega
    · rw [show (k : Int) = i + 1 by omega, show i + 1 - i = 1 by omega]; omega
  · rw [if_neg q]
theorem wp4 (a z : ByteArray) (k : Int) : fxs k (wpairs a z 4) = fx (fx (fx (fx k (wd a 0) (wd z 0)) (wd a 2) (wd z 2)) (wd a 4) (wd z 4)) (wd a 6) (wd z 6) := by
  unfold fxs wpairs
  simp [List.range_succ]
theorem wp6 (a z : ByteArray) (k : Int) : fxs k (wpairs a z 6) = fx (fx (fx (fx (fx (fx k (wd a 0) (wd z 0)) (wd a 2) (wd z 2)) (wd a 4) (wd z 4)) (wd a 6) (wd z 6)) (wd a 8) (wd z 8)) (wd a 10) (wd z 10) := by
  unfold fxs wpairs
  simp [List.range_succ]
theorem wp1 (a z : ByteArray) (k : Int) : fxs k (wpairs a z 1) = fx k (wd a 0) (wd z 0) := by
  unfold fxs wpairs
  simp [List.range_succ]
/-- a quote, and what becomes of it ahead of its checksums -/
structure Rqk (q r : ByteArray) : Prop where
  z : r.size = q.size
  hz : q.size ≤ 65535
  h20 : 20 ≤ hdv q
  h8 : hdv q + 8 ≤ q.size
  hd : hdv r = hdv q
  p9 : bt r 9 = bt q 9
  e10 : wd r 10 = wd q 10
  ec : spl q + 2 ≤ (q.size : Int) → wd r (spl q) = wd q (spl q)
  hp : bt q 9 = 17 ∨ bt q 9 = 6 ∨ bt q 9 = 1
set_option maxHeartbeats 1000000 in
theorem requoted_any (q r : ByteArray) (K : Rqk q r) : RetB 201 #[.string q, .string r] (.string (fxb q (fxh q r))) := fun w => by
  have hz := K.hz
  have z := K.z
  have h20 := K.h20
  have h8 := K.h8
  have hdb := hdv_bd q
  have hlq : q.size ≤ maxLen := size_le hz
  have hlr : r.size ≤ maxLen := size_le (by omega)
  have b10 := wd_bd q 10
  have n20 : 20 ≤ q.size := by omega
  have zqa : (prt q 12 20).size = 8 := by rw [prt_size]; omega
  have zra : (prt r 12 20).size = 8 := by rw [prt_size]; omega
  have zqp : (prt q (hdv q) (hdv q + 4)).size = 4 := by rw [prt_size]; omega
  have zrp : (prt r (hdv q) (hdv q + 4)).size = 4 := by rw [prt_size]; omega
  have f4 : ∀ k, fxs k (wpairs (prt q 12 20) (prt r 12 20) (((prt q 12 20).size + 1) / 2)) = fba k q r := fun k => by
    rw [zqa]
    rw [show (8 + 1) / 2 = 4 from rfl, wp4]
    rw [wd_prt q 12 20 0 (by decide) (by decide) (by decide), wd_prt r 12 20 0 (by decide) (by decide) (by decide), wd_prt q 12 20 2 (by decide) (by decide) (by decide), wd_prt r 12 20 2 (by decide) (by decide) (by decide), wd_prt q 12 20 4 (by decide) (by decide) (by decide), wd_prt r 12 20 4 (by decide) (by decide) (by decide), wd_prt q 12 20 6 (by decide) (by decide) (by decide), wd_prt r 12 20 6 (by decide) (by decide) (by decide)]
    rfl
  have c1b := fba_bd (wd q 10) q r b10.1 b10.2
  have w10 : (10 : Int) + ((w2 (fba (wd q 10) q r)).size : Int) ≤ r.size := by rw [w2_size]; omega
  have ey : fxh q r = put r 10 (w2 (fba (wd q 10) q r)) := by unfold fxh; rw [K.e10]
  obtain ⟨y, hy⟩ : ∃ y, y = fxh q r := ⟨_, rfl⟩
  have zy : y.size = q.size := by rw [hy, ey, put_size _ _ _ (by decide) w10, z]
  have y9 : bt y 9 = bt q 9 := by rw [hy, ey, bt_put_off (by decide) w10 (by omega), K.p9]
  have yh : hdv y = hdv q := by rw [hy, ey, hdv_put (by decide) w10, K.hd]
  have yw : ∀ j, 12 ≤ j → wd y j = wd r j := fun j hj => by rw [hy, ey]; exact wd_put_off (by decide) w10 (by rw [w2_size]; omega)
  have ysp : spl y = spl q := by unfold spl; rw [yh, y9]
  have spb : 20 ≤ spl q := by unfold spl; repeat (first | omega | split)
  have fby : ∀ k, fba k q y = fba k q r := fun k => by unfold fba fbw; rw [yw 12 (by decide), yw 14 (by decide), yw 16 (by decide), yw 18 (by decide)]
  have cH : Ret 189 #[.string q] (.int .i64 (hdv q)) := fun w => head_any q w hlq
  have c9 : Ret 141 #[.string q, .int .i64 9, .int .i64 1] (.int .i64 (bt q 9)) := fun w => number1 q 9 w hlq (by decide) (by decide)
  have cK : Ret 141 #[.string q, .int .i64 10, .int .i64 2] (.int .i64 (wd q 10)) := fun w => number2 q 10 w hlq (by decide) (by decide)
  have cA : Ret 146 #[.string q, .int .i64 12, .int .i64 20] (.string (prt q 12 20)) := fun w => part_any q 12 20 w (by decide) (by decide)
  have cB : Ret 146 #[.string r, .int .i64 12, .int .i64 20] (.string (prt r 12 20)) := fun w => part_any r 12 20 w (by decide) (by decide)
  have cM1 : Ret 227 #[.int .i64 (wd q 10), .string (prt q 12 20), .string (prt r 12 20)] (.int .i64 (fba (wd q 10) q r)) := by
    have := rmoved_any (wd q 10) (prt q 12 20) (prt r 12 20) b10.1 (by omega) (by omega) (by omega)
    rw [f4] at this
    exact this
  have cT1 : RetB 191 #[.int .i64 (fba (wd q 10) q r), .int .i64 2] (.string (w2 (fba (wd q 10) q r))) := fun w => text2 _ w c1b.1 c1b.2
  have cW1 : Ret 190 #[.string r, .int .i64 10, .string (w2 (fba (wd q 10) q r))] (.string y) := fun w => by rw [hy, ey]; exact with_any _ _ 10 w (by decide) (by decide) (by omega) (by rw [w2_size]; decide)
  rw [← hy]
  have done : ∀ fl : Int, spl q = hdv q + fl → 0 ≤ fl → fl ≤ 16 → Ret 144 #[.int .i64 (bt q 9)] (.int .i64 fl) → Calls Tryz.prog 201 #[.string q, .string r] w fun e w' => e = .returned (.string (fxb q y)) ∧ Below w.heap.size w w' := fun fl hfl f0 f1 cF => by
    unfold fxb
    rw [ysp, zy]
    by_cases hs : spl q + 2 ≤ (q.size : Int)
    · rw [if_pos hs]
      have hcs := K.ec hs
      have cC : Ret 141 #[.string q, .int .i64 (hdv q + fl), .int .i64 2] (.int .i64 (wd q (spl q))) := fun w => by rw [hfl]; exact number2 q _ w hlq (by omega) (by omega)
      have cb := wd_bd q (spl q)
      have yc : wd y (spl q) = wd q (spl q) := by rw [yw _ (by omega), hcs]
      have cX : ∀ v, 0 ≤ v → v < 65536 → Ret 190 #[.string y, .int .i64 (hdv q + fl), .string (w2 v)] (.string (put y (spl q) (w2 v))) := fun v v0 v1 w => by rw [hfl]; exact with_any _ _ _ w (by omega) (by omega) (by omega) (by rw [w2_size]; decide)
      unfold fxc
      rw [y9, ysp, yc]
      have f6 : ∀ k, ¬ bt q 9 = 1 → fxs k (wpairs (prt q 12 20 ++ prt q (hdv q) (hdv q + 4)) (prt r 12 20 ++ prt r (hdv q) (hdv q + 4)) (((prt q 12 20 ++ prt q (hdv q) (hdv q + 4)).size + 1) / 2)) = fbe k q y := fun k hn => by
        rw [ByteArray.size_append, zqa, zqp, show (8 + 4 + 1) / 2 = 6 from rfl, wp6]
        rw [wd_app_l _ _ 0 (by omega), wd_app_l _ _ 0 (by omega), wd_app_l _ _ 2 (by omega), wd_app_l _ _ 2 (by omega), wd_app_l _ _ 4 (by omega), wd_app_l _ _ 4 (by omega), wd_app_l _ _ 6 (by omega), wd_app_l _ _ 6 (by omega)]
        rw [wd_app_r _ _ 8 (by omega), wd_app_r _ _ 8 (by omega), wd_app_r _ _ 10 (by omega), wd_app_r _ _ 10 (by omega), zqa, zra]
        rw [wd_prt q 12 20 0 (by decide) (by decide) (by decide), wd_prt r 12 20 0 (by decide) (by decide) (by decide), wd_prt q 12 20 2 (by decide) (by decide) (by decide), wd_prt r 12 20 2 (by decide) (by decide) (by decide), wd_prt q 12 20 4 (by decide) (by decide) (by decide), wd_prt r 12 20 4 (by decide) (by decide) (by decide), wd_prt q 12 20 6 (by decide) (by decide) (by decide), wd_prt r 12 20 6 (by decide) (by decide) (by decide)]
        rw [show (8 : Int) - ((8 : Nat) : Int) = 0 by decide, show (10 : Int) - ((8 : Nat) : Int) = 2 by decide, wd_prt q _ _ 0 (by omega) (by decide) (by omega), wd_prt r _ _ 0 (by omega) (by decide) (by omega), wd_prt q _ _ 2 (by omega) (by decide) (by omega), wd_prt r _ _ 2 (by omega) (by decide) (by omega)]
        unfold fbe
        rw [fby]
        have p0 : ppl y 0 = hdv q + 0 := by unfold ppl; rw [yh, y9, if_neg hn]
        have p2 : ppl y 2 = hdv q + 2 := by unfold ppl; rw [yh, y9, if_neg hn]
        rw [p0, p2]
        unfold fbw
        rw [yw (hdv q + 0) (by omega), yw (hdv q + 2) (by omega)]
        rfl
      have cP : Ret 146 #[.string q, .int .i64 (hdv q), .int .i64 (hdv q + 4)] (.string (prt q (hdv q) (hdv q + 4))) := fun w => part_any q _ _ w (by omega) (by omega)
      have cR : Ret 146 #[.string r, .int .i64 (hdv q), .int .i64 (hdv q + 4)] (.string (prt r (hdv q) (hdv q + 4))) := fun w => part_any r _ _ w (by omega) (by omega)
      have cM4 : ¬ bt q 9 = 1 → Ret 227 #[.int .i64 (wd q (spl q)), .string (prt q 12 20 ++ prt q (hdv q) (hdv q + 4)), .string (prt r 12 20 ++ prt r (hdv q) (hdv q + 4))] (.int .i64 (fbe (wd q (spl q)) q y)) := fun hn => by
        have := rmoved_any (wd q (spl q)) (prt q 12 20 ++ prt q (hdv q) (hdv q + 4)) (prt r 12 20 ++ prt r (hdv q) (hdv q + 4)) cb.1 (by omega) (by rw [ByteArray.size_append]; omega) (by rw [ByteArray.size_append]; omega)
        rw [f6 _ hn] at this
        exact this
      have eb : ∀ k, 0 ≤ k → k < 65536 → 0 ≤ fbe k q y ∧ fbe k q y < 65536 := fun k k0 k1 => by
        have a := fba_bd k q y k0 k1
        have a2 := fbw_bd _ q y (ppl y 0) a.1 a.2
        exact fbw_bd _ q y (ppl y 2) a2.1 a2.2
      have e4 := eb _ cb.1 cb.2
      rcases K.hp with e | e | e
      · rw [if_pos e]
        rw [e] at c9 cF
        by_cases h0 : wd q (spl q) = 0
        · have : fud (wd q (spl q)) q y = wd y (spl q) := by unfold fud; rw [if_pos h0, yc, h0]
          rw [this, put_wd_self y (spl q) (by omega) (by omega)]
          rw [h0] at cC
          exact requo_none q r (prt q 12 20) (prt r 12 20) ⟨#[]⟩ ⟨#[]⟩ (prt q (hdv q) (hdv q + 4)) (prt r (hdv q) (hdv q + 4)) _ y ⟨#[]⟩ ⟨#[]⟩ ⟨#[]⟩ ⟨#[]⟩ (hdv q) 17 fl (wd q 10) _ 0 0 0 0 w hdb.1 hdb.2 f0 f1 hz (by omega) (by omega) (by omega) (by omega) cH c9 cK cA cB cM1 cT1 cW1 cF (by omega) cC rfl
        · have h0' : (wd q (spl q) == 0) = false := by simpa using h0
          by_cases h4 : fbe (wd q (spl q)) q y = 0
          · have : fud (wd q (spl q)) q y = 65535 := by unfold fud; rw [if_neg h0, if_pos h4]
            rw [this]
            have m4 := cM4 (by omega)
            rw [h4] at m4
            exact requo_udp0 q r (prt q 12 20) (prt r 12 20) ⟨#[]⟩ ⟨#[]⟩ (prt q (hdv q) (hdv q + 4)) (prt r (hdv q) (hdv q + 4)) _ y ⟨#[]⟩ ⟨#[]⟩ (w2 65535) _ (hdv q) 17 fl (wd q 10) _ (wd q (spl q)) 0 0 65535 w hdb.1 hdb.2 f0 f1 hz (by omega) (by omega) (by omega) (by omega) cH c9 cK cA cB cM1 cT1 cW1 cF (by omega) cC rfl h0' cP cR m4 (fun w => text2 _ w (by decide) (by decide)) (cX 65535 (by decide) (by decide)) rfl rfl
          · have : fud (wd q (spl q)) q y = fbe (wd q (spl q)) q y := by unfold fud; rw [if_neg h0, if_neg h4]
            rw [this]
            exact requo_udp q r (prt q 12 20) (prt r 12 20) ⟨#[]⟩ ⟨#[]⟩ (prt q (hdv q) (hdv q + 4)) (prt r (hdv q) (hdv q + 4)) _ y ⟨#[]⟩ ⟨#[]⟩ _ _ (hdv q) 17 fl (wd q 10) _ (wd q (spl q)) 0 _ _ w hdb.1 hdb.2 f0 f1 hz (by omega) (by omega) (by omega) (by omega) cH c9 cK cA cB cM1 cT1 cW1 cF (by omega) cC rfl h0' cP cR (cM4 (by omega)) (fun w => text2 _ w e4.1 e4.2) (cX _ e4.1 e4.2) (by simpa using h4) rfl
      · rw [if_neg (by omega), if_pos e]
        rw [e] at c9 cF
        exact requo_tcp q r (prt q 12 20) (prt r 12 20) ⟨#[]⟩ ⟨#[]⟩ (prt q (hdv q) (hdv q + 4)) (prt r (hdv q) (hdv q + 4)) _ y ⟨#[]⟩ ⟨#[]⟩ _ _ (hdv q) 6 fl (wd q 10) _ (wd q (spl q)) 0 _ _ w hdb.1 hdb.2 f0 f1 hz (by omega) (by omega) (by omega) (by omega) cH c9 cK cA cB cM1 cT1 cW1 cF (by omega) cC rfl cP cR (cM4 (by omega)) (fun w => text2 _ w e4.1 e4.2) (cX _ e4.1 e4.2) rfl
      · rw [if_neg (by omega), if_neg (by omega)]
        have zqi : (prt q (hdv q + 4) (hdv q + 6)).size = 2 := by rw [prt_size]; omega
        have zri : (prt r (hdv q + 4) (hdv q + 6)).size = 2 := by rw [prt_size]; omega
        have cM3 : Ret 227 #[.int .i64 (wd q (spl q)), .string (prt q (hdv q + 4) (hdv q + 6)), .string (prt r (hdv q + 4) (hdv q + 6))] (.int .i64 (fbw (wd q (spl q)) q y (hdv q + 4))) := by
          have := rmoved_any (wd q (spl q)) (prt q (hdv q + 4) (hdv q + 6)) (prt r (hdv q + 4) (hdv q + 6)) cb.1 (by omega) (by omega) (by omega)
          rw [zqi, show (2 + 1) / 2 = 1 from rfl, wp1, wd_prt q _ _ 0 (by omega) (by decide) (by omega), wd_prt r _ _ 0 (by omega) (by decide) (by omega), Int.add_zero] at this
          unfold fbw
          rw [yw (hdv q + 4) (by omega)]
          exact this
        have e3 := fbw_bd (wd q (spl q)) q y (hdv q + 4) cb.1 cb.2
        rw [yh]
        exact requo_icmp q r (prt q 12 20) (prt r 12 20) _ _ (prt q (hdv q) (hdv q + 4)) (prt r (hdv q) (hdv q + 4)) _ y _ _ ⟨#[]⟩ ⟨#[]⟩ (hdv q) (bt q 9) fl (wd q 10) _ (wd q (spl q)) _ 0 0 w hdb.1 hdb.2 f0 f1 hz (by omega) (by omega) (by omega) (by omega) cH c9 cK cA cB cM1 cT1 cW1 cF (by omega) cC (by rw [e]; rfl) (fun w => part_any q _ _ w (by omega) (by omega)) (fun w => part_any r _ _ w (by omega) (by omega)) cM3 (fun w => text2 _ w e3.1 e3.2) (cX _ e3.1 e3.2)
    · rw [if_neg hs]
      exact requo_short q r (prt q 12 20) (prt r 12 20) ⟨#[]⟩ ⟨#[]⟩ (prt q (hdv q) (hdv q + 4)) (prt r (hdv q) (hdv q + 4)) _ y ⟨#[]⟩ ⟨#[]⟩ ⟨#[]⟩ ⟨#[]⟩ (hdv q) (bt q 9) fl (wd q 10) _ 0 0 0 0 w hdb.1 hdb.2 f0 f1 hz (by omega) (by omega) (by omega) (by omega) cH c9 cK cA cB cM1 cT1 cW1 cF (by omega)
  rcases K.hp with e | e | e
  · exact done 6 (by unfold spl; rw [if_pos e]) (by decide) (by decide) (by rw [e]; exact fun w => field17 w)
  · exact done 16 (by unfold spl; rw [if_neg (by omega), if_pos e]) (by decide) (by decide) (by rw [e]; exact fun w => field6 w)
  · exact done 2 (by unfold spl; rw [if_neg (by omega), if_neg (by omega)]) (by decide) (by decide) (by rw [e]; exact fun w => rfield1 w)
end Go.Proofs.YthiljpbodmajaabGreat
