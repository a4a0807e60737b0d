/-
  CONTRACTS: package natboxkeep: a body of ICMP's queries; bodies.
-/
import Derived.Test.YthiljpbodmajaaaGreatKepd
namespace Go.Proofs.YthiljpbodmajaaaGreat
open Go.RowKit Plain
set_option linter.unusedVariables false

/-- a query's identifier -/
def kid (d : Dg) : Int := if d.kd = 8 ∨ d.kd = 13 then d.sp else d.dp
/-- a query ahead of its checksum -/
def ki0 (d : Dg) : ByteArray := (if 8 < d.kd then b1 d.kd ++ b1 0 ++ w2 0 ++ w2 (kid d) ++ prt d.md 0 2 ++ prt d.md 2 14 else b1 d.kd ++ b1 0 ++ w2 0 ++ w2 (kid d) ++ prt d.md 0 2) ++ d.tx
def kic (d : Dg) : ByteArray := put (ki0 d) 2 (w2 (65535 - ksm (ki0 d)))
set_option maxHeartbeats 4000000 in
theorem icmp_core (d : Dg) (A B C D M N R X Y : ByteArray) (i k c : Int) (w : World) (hp1 : (d.pr == 17) = false) (hp2 : (d.pr == 6) = false) (ht : d.tx.size ≤ 65495) (hmd : d.md.size = 14) (hkd : d.kd = 8 ∨ d.kd = 13 ∨ d.kd = 0 ∨ d.kd = 14) (zA : A.size = 1) (zB : B.size = 1) (zC : C.size = 2) (zD : D.size = 2)
    (hAB : d.kd = 0 → A = B) (hM : d.md.extract 0 2 = M) (hN : d.md.extract 2 14 = N) (zM : M.size = 2) (zN : N.size = 12) (hi : i = if d.kd = 8 ∨ d.kd = 13 then d.sp else d.dp) (hX : A ++ B ++ C ++ D ++ M = X) (hY : (if 8 < d.kd then X ++ N else X) ++ d.tx = Y) (hyz : Y.size ≤ 65535) (hy8 : 4 ≤ Y.size) (k0 : 0 ≤ k) (k1 : k ≤ 65535) (hc : 65535 - k = c)
    (cA : RetB 59 #[.int .i64 d.kd] (.string A)) (cB : RetB 59 #[.int .i64 0] (.string B)) (cC : RetB 60 #[.int .i64 0] (.string C)) (cD : RetB 60 #[.int .i64 i] (.string D))
    (cK : Ret 62 #[.string Y] (.int .i64 k)) (cP : RetB 61 #[.string Y, .int .i64 2, .int .i64 c] (.string R)) :
    Calls Tryz.prog 44 #[.agg (dgl d)] w fun e w' => e = .returned (.string R) ∧ Below w.heap.size w w' := by
  have q0 := Dok.at (d := d) (w := w) 0 (u := (.int .i64 d.pr)) rfl
  have q1 := Dok.at (d := d) (w := w) 1 (u := (.int .i64 d.kd)) rfl
  have q2 := Dok.at (d := d) (w := w) 2 (u := (.bool d.ba)) rfl
  have q3 := Dok.at (d := d) (w := w) 3 (u := (.int .i64 d.sa)) rfl
  have q4 := Dok.at (d := d) (w := w) 4 (u := (.int .i64 d.sp)) rfl
  have q5 := Dok.at (d := d) (w := w) 5 (u := (.int .i64 d.da)) rfl
  have q6 := Dok.at (d := d) (w := w) 6 (u := (.int .i64 d.dp)) rfl
  have q7 := Dok.at (d := d) (w := w) 7 (u := (.int .i64 d.tl)) rfl
  have q8 := Dok.at (d := d) (w := w) 8 (u := (.int .i64 d.bi)) rfl
  have q9 := Dok.at (d := d) (w := w) 9 (u := (.int .i64 d.sr)) rfl
  have q10 := Dok.at (d := d) (w := w) 10 (u := (.string d.op)) rfl
  have q11 := Dok.at (d := d) (w := w) 11 (u := (.string d.md)) rfl
  have q12 := Dok.at (d := d) (w := w) 12 (u := (.string d.tx)) rfl
  have q13 := Dok.at (d := d) (w := w) 13 (u := (.string d.ta)) rfl
  have ds : Hid (Dok d w (w.alloc (.cells (dgl d) 33))) := Dok.start d w
  have hz1 : (A ++ B).size = 2 := by rw [ByteArray.size_append]; omega
  have hz2 : (A ++ B ++ C).size = 4 := by rw [ByteArray.size_append]; omega
  have hz3 : (A ++ B ++ C ++ D).size = 6 := by rw [ByteArray.size_append]; omega
  have hz4 : X.size = 8 := by rw [← hX, ByteArray.size_append]; omega
  have hz5 : (X ++ N).size = 20 := by rw [ByteArray.size_append]; omega
  unfold dgl at ds ⊢
  rcases hkd with e | e | e | e
  all_goals
    try (have hab := hAB e; subst hab)
    clear hAB
    rw [e] at q1 ds cA hi hY
    rw [e]
    first
    | (have hi' : i = d.sp := by simpa using hi)
    | (have hi' : i = d.dp := by simpa using hi)
    subst hi'
    first
    | (have hY' : X ++ N ++ d.tx = Y := by simpa using hY)
    | (have hY' : X ++ d.tx = Y := by simpa using hY)
    clear hi hY
    go_enter Tryz.func44, Tryz.ntmps44
    go_wp2
    go_region_held (fun w' => Dok d w w') (first | assumption | exact ds.out.drew | exact Dok.drew (by assumption)) (first
      | (go_at_call_of 59 (Value.int .i64 0); refine Calls.mono (cB.at _) ?_; rintro e wk ⟨rfl, hbk⟩; have hkk := Dok.next (d := d) (w := w) (by assumption) hbk)
      | (go_at_call 59; refine Calls.mono (cA.at _) ?_; rintro e wk ⟨rfl, hbk⟩; have hkk := Dok.next (d := d) (w := w) (by assumption) hbk)
      | (go_at_call_of 60 (Value.int .i64 0); refine Calls.mono (cC.at _) ?_; rintro e wk ⟨rfl, hbk⟩; have hkk := Dok.next (d := d) (w := w) (by assumption) hbk)
      | (go_at_call 60; refine Calls.mono (cD.at _) ?_; rintro e wk ⟨rfl, hbk⟩; have hkk := Dok.next (d := d) (w := w) (by assumption) hbk))
    all_goals
      go_wp2_with fail
      refine Calls.mono (cK.at _) ?_; rintro e w' ⟨rfl, hw⟩; replace hw := hw.symm; subst hw
      go_wp2_with fail
      refine Calls.mono (cP.at _) ?_; rintro e w4 ⟨rfl, hb4⟩
      go_wp2
      go_ret
      exact ⟨rfl, (Dok.next (by assumption) hb4).below⟩
end Go.Proofs.YthiljpbodmajaaaGreat
