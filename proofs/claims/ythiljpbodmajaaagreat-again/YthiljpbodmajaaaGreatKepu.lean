/-
  CONTRACTS: package natboxkeep: a body of UDP.
-/
import Derived.Test.YthiljpbodmajaaaGreatKepd
namespace Go.Proofs.YthiljpbodmajaaaGreat
open Go.RowKit Plain
set_option linter.unusedVariables false

/-- a body of UDP ahead of its checksum: n its length -/
def ku0 (d : Dg) (n : Int) : ByteArray := w2 d.sp ++ w2 d.dp ++ w2 n ++ w2 0 ++ d.tx
theorem ku0_size (d : Dg) (n : Int) : (ku0 d n).size = 8 + d.tx.size := by simp only [ku0, ByteArray.size_append, w2_size]
/-- its checksum -/
def kuc (d : Dg) (n : Int) : Int := 65535 - ksm (l4 d.sa ++ l4 d.da ++ w2 17 ++ w2 n ++ prt (ku0 d n) 0 n)
def kud (d : Dg) (n : Int) : ByteArray := if d.ba then ku0 d n else put (ku0 d n) 6 (w2 (if kuc d n = 0 then 65535 else kuc d n))

set_option maxHeartbeats 4000000 in
theorem udp_core (d : Dg) (A B C Z E S R X P F : ByteArray) (n k c : Int) (w : World) (r0 : 0 ≤ d.sr) (r1 : d.sr ≤ d.tx.size) (ht : d.tx.size ≤ 65495) (hn : 8 + (d.tx.size : Int) - d.sr = n) (zA : A.size = 2) (zB : B.size = 2) (zC : C.size = 2) (zZ : Z.size = 2) (zE : E.size = 8) (zS : S.size = 2)
    (hX : A ++ B ++ C ++ Z ++ d.tx = X) (hxz : X.size = 8 + d.tx.size) (hP : X.extract 0 n.toNat = P) (hpz : P.size ≤ X.size) (hF : E ++ S ++ C ++ P = F) (k0 : 0 ≤ k) (k1 : k ≤ 65535) (hc : c = if 65535 - k = 0 then 65535 else 65535 - k)
    (cA : RetB 60 #[.int .i64 d.sp] (.string A)) (cB : RetB 60 #[.int .i64 d.dp] (.string B)) (cC : RetB 60 #[.int .i64 n] (.string C)) (cZ : RetB 60 #[.int .i64 0] (.string Z))
    (cE : RetB 82 #[.agg (dgl d)] (.string E)) (cS : RetB 60 #[.int .i64 17] (.string S)) (cK : Ret 62 #[.string F] (.int .i64 k)) (cP : RetB 61 #[.string X, .int .i64 6, .int .i64 c] (.string R)) :
    Calls Tryz.prog 80 #[.agg (dgl d)] w fun e w' => e = .returned (.string (if d.ba then X else R)) ∧ Below w.heap.size w w' := by
  have q0 := Dok.at (d := d) (w := w) 0 (u := (.int .i64 d.pr)) rfl
  have q1 := Dok.at (d := d) (w := w) 1 (u := (.int .i64 d.kd)) rfl
  have q2 := Dok.at (d := d) (w := w) 2 (u := (.bool d.ba)) rfl
  have q3 := Dok.at (d := d) (w := w) 3 (u := (.int .i64 d.sa)) rfl
  have q4 := Dok.at (d := d) (w := w) 4 (u := (.int .i64 d.sp)) rfl
  have q5 := Dok.at (d := d) (w := w) 5 (u := (.int .i64 d.da)) rfl
  have q6 := Dok.at (d := d) (w := w) 6 (u := (.int .i64 d.dp)) rfl
  have q7 := Dok.at (d := d) (w := w) 7 (u := (.int .i64 d.tl)) rfl
  have q8 := Dok.at (d := d) (w := w) 8 (u := (.int .i64 d.bi)) rfl
  have q9 := Dok.at (d := d) (w := w) 9 (u := (.int .i64 d.sr)) rfl
  have q10 := Dok.at (d := d) (w := w) 10 (u := (.string d.op)) rfl
  have q11 := Dok.at (d := d) (w := w) 11 (u := (.string d.md)) rfl
  have q12 := Dok.at (d := d) (w := w) 12 (u := (.string d.tx)) rfl
  have q13 := Dok.at (d := d) (w := w) 13 (u := (.string d.ta)) rfl
  have ds : Hid (Dok d w (w.alloc (.cells (dgl d) 33))) := Dok.start d w
  have hn0 : 0 ≤ n := by omega
  have hn1 : n ≤ (X.size : Int) := by omega
  have HC : Hid _ := hc
  have hz1 : (A ++ B).size = 4 := by rw [ByteArray.size_append]; omega
  have hz2 : (A ++ B ++ C).size = 6 := by rw [ByteArray.size_append]; omega
  have hz3 : (A ++ B ++ C ++ Z).size = 8 := by rw [ByteArray.size_append]; omega
  have hz4 : (E ++ S).size = 10 := by rw [ByteArray.size_append]; omega
  have hz5 : (E ++ S ++ C).size = 12 := by rw [ByteArray.size_append]; omega
  clear hc
  unfold dgl at cE ds ⊢
  have hzX : X.size ≤ 65535 := by omega
  cases hba : d.ba
  · rw [hba] at q2 cE ds
    by_cases hk : 65535 - k = 0
    · have hc' : c = 65535 := by rw [HC.out, if_pos hk]
      subst hc'
      clear HC
      go_enter Tryz.func80, Tryz.ntmps80
      go_wp2
      go_region_held (fun w' => Dok d w w') (first | assumption | exact ds.out.drew | exact Dok.drew (by assumption)) (first
        | (go_at_call_of 60 (Value.int .i64 d.sp); refine Calls.mono (cA.at _) ?_; rintro e wk ⟨rfl, hbk⟩; have hkk := Dok.next (d := d) (w := w) (by assumption) hbk)
        | (go_at_call_of 60 (Value.int .i64 d.dp); refine Calls.mono (cB.at _) ?_; rintro e wk ⟨rfl, hbk⟩; have hkk := Dok.next (d := d) (w := w) (by assumption) hbk)
        | (go_at_call_of 60 (Value.int .i64 n); refine Calls.mono (cC.at _) ?_; rintro e wk ⟨rfl, hbk⟩; have hkk := Dok.next (d := d) (w := w) (by assumption) hbk)
        | (go_at_call_of 60 (Value.int .i64 0); refine Calls.mono (cZ.at _) ?_; rintro e wk ⟨rfl, hbk⟩; have hkk := Dok.next (d := d) (w := w) (by assumption) hbk))
      go_wp2
      go_region_held (fun w' => Dok d w w') (first | assumption | exact ds.out.drew | exact Dok.drew (by assumption)) (first
        | (go_at_call 82; refine Calls.mono (cE.at _) ?_; rintro e wk ⟨rfl, hbk⟩; have hkk := Dok.next (d := d) (w := w) (by assumption) hbk)
        | (go_at_call_of 60 (Value.int .i64 17); refine Calls.mono (cS.at _) ?_; rintro e wk ⟨rfl, hbk⟩; have hkk := Dok.next (d := d) (w := w) (by assumption) hbk)
        | (go_at_call_of 60 (Value.int .i64 n); refine Calls.mono (cC.at _) ?_; rintro e wk ⟨rfl, hbk⟩; have hkk := Dok.next (d := d) (w := w) (by assumption) hbk)
        | (go_at_call 62; refine Calls.mono (cK.at _) ?_; rintro e wk ⟨rfl, hwk⟩; replace hwk := hwk.symm; subst hwk))
      all_goals
        go_wp2_with fail
        refine Calls.mono (cP.at _) ?_; rintro e wz ⟨rfl, hbz⟩
        go_wp2
        go_ret
        exact ⟨rfl, (Dok.next (by assumption) hbz).below⟩
    · have hc' : 65535 - k = c := by rw [HC.out, if_neg hk]
      have hk' : (c == 0) = false := by rw [← hc']; simpa using hk
      clear HC hk
      go_enter Tryz.func80, Tryz.ntmps80
      go_wp2
      go_region_held (fun w' => Dok d w w') (first | assumption | exact ds.out.drew | exact Dok.drew (by assumption)) (first
        | (go_at_call_of 60 (Value.int .i64 d.sp); refine Calls.mono (cA.at _) ?_; rintro e wk ⟨rfl, hbk⟩; have hkk := Dok.next (d := d) (w := w) (by assumption) hbk)
        | (go_at_call_of 60 (Value.int .i64 d.dp); refine Calls.mono (cB.at _) ?_; rintro e wk ⟨rfl, hbk⟩; have hkk := Dok.next (d := d) (w := w) (by assumption) hbk)
        | (go_at_call_of 60 (Value.int .i64 n); refine Calls.mono (cC.at _) ?_; rintro e wk ⟨rfl, hbk⟩; have hkk := Dok.next (d := d) (w := w) (by assumption) hbk)
        | (go_at_call_of 60 (Value.int .i64 0); refine Calls.mono (cZ.at _) ?_; rintro e wk ⟨rfl, hbk⟩; have hkk := Dok.next (d := d) (w := w) (by assumption) hbk))
      go_wp2
      go_region_held (fun w' => Dok d w w') (first | assumption | exact ds.out.drew | exact Dok.drew (by assumption)) (first
        | (go_at_call 82; refine Calls.mono (cE.at _) ?_; rintro e wk ⟨rfl, hbk⟩; have hkk := Dok.next (d := d) (w := w) (by assumption) hbk)
        | (go_at_call_of 60 (Value.int .i64 17); refine Calls.mono (cS.at _) ?_; rintro e wk ⟨rfl, hbk⟩; have hkk := Dok.next (d := d) (w := w) (by assumption) hbk)
        | (go_at_call_of 60 (Value.int .i64 n); refine Calls.mono (cC.at _) ?_; rintro e wk ⟨rfl, hbk⟩; have hkk := Dok.next (d := d) (w := w) (by assumption) hbk)
        | (go_at_call 62; refine Calls.mono (cK.at _) ?_; rintro e wk ⟨rfl, hwk⟩; replace hwk := hwk.symm; subst hwk))
      all_goals
        go_wp2_with fail
        refine Calls.mono (cP.at _) ?_; rintro e wz ⟨rfl, hbz⟩
        go_wp2
        go_ret
        exact ⟨rfl, (Dok.next (by assumption) hbz).below⟩
  · rw [hba] at q2 cE ds
    go_enter Tryz.func80, Tryz.ntmps80
    go_wp2
    go_region_held (fun w' => Dok d w w') (first | assumption | exact ds.out.drew | exact Dok.drew (by assumption)) (first
      | (go_at_call_of 60 (Value.int .i64 d.sp); refine Calls.mono (cA.at _) ?_; rintro e wk ⟨rfl, hbk⟩; have hkk := Dok.next (d := d) (w := w) (by assumption) hbk)
      | (go_at_call_of 60 (Value.int .i64 d.dp); refine Calls.mono (cB.at _) ?_; rintro e wk ⟨rfl, hbk⟩; have hkk := Dok.next (d := d) (w := w) (by assumption) hbk)
      | (go_at_call_of 60 (Value.int .i64 n); refine Calls.mono (cC.at _) ?_; rintro e wk ⟨rfl, hbk⟩; have hkk := Dok.next (d := d) (w := w) (by assumption) hbk)
      | (go_at_call_of 60 (Value.int .i64 0); refine Calls.mono (cZ.at _) ?_; rintro e wk ⟨rfl, hbk⟩; have hkk := Dok.next (d := d) (w := w) (by assumption) hbk))
    all_goals
      go_wp2
      go_ret
      exact ⟨rfl, Dok.below (by assumption)⟩
theorem udp_any (d : Dg) (w : World) (n : Int) (r0 : 0 ≤ d.sr) (r1 : d.sr ≤ d.tx.size) (ht : d.tx.size ≤ 65495) (hn : 8 + (d.tx.size : Int) - d.sr = n) (p0 : 0 ≤ d.sp) (p1 : d.sp < 65536) (e0 : 0 ≤ d.dp) (e1 : d.dp < 65536) (s0 : 0 ≤ d.sa) (s1 : d.sa < 4294967296) (d0 : 0 ≤ d.da) (d1 : d.da < 4294967296) :
    Calls Tryz.prog 80 #[.agg (dgl d)] w fun e w' => e = .returned (.string (kud d n)) ∧ Below w.heap.size w w' := by
  have hz := ku0_size d n
  have hp := prt_le (ku0 d n) 0 n
  have hF : (l4 d.sa ++ l4 d.da ++ w2 17 ++ w2 n ++ prt (ku0 d n) 0 n).size ≤ 200000 := by
    simp only [ByteArray.size_append, l4_size, w2_size]; omega
  have hk := ksm_bd (l4 d.sa ++ l4 d.da ++ w2 17 ++ w2 n ++ prt (ku0 d n) 0 n)
  exact udp_core d (w2 d.sp) (w2 d.dp) (w2 n) (w2 0) (l4 d.sa ++ l4 d.da) (w2 17) _ (ku0 d n) (prt (ku0 d n) 0 n) _ n (ksm (l4 d.sa ++ l4 d.da ++ w2 17 ++ w2 n ++ prt (ku0 d n) 0 n)) _ w r0 r1 ht hn (w2_size _) (w2_size _) (w2_size _) (w2_size _) (by simp only [ByteArray.size_append, l4_size]) (w2_size _)
    rfl hz rfl hp rfl hk.1 hk.2 rfl (two_in _ p0 p1) (two_in _ e0 e1) (two_in _ (by omega) (by omega)) (two_in _ (by omega) (by omega)) (ends_any d s0 s1 d0 d1) (two_in _ (by omega) (by omega)) (ksum_any _ hF)
    (kput_in _ _ _ (by omega) (by omega) (by omega) (by split <;> omega) (by split <;> omega))
end Go.Proofs.YthiljpbodmajaaaGreat
