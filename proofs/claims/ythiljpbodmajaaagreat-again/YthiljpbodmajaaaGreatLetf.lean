/-
  CONTRACTS: natboxkeep's (letter).frame, aged, size.
-/
import Derived.Test.YthiljpbodmajaaaGreatKepb
import Derived.Test.YthiljpbodmajaaaGreatKepg
import Derived.Test.YthiljpbodmajaaaGreatKepz
import Derived.Test.YthiljpbodmajaaaGreatBoxr
namespace Go.Proofs.YthiljpbodmajaaaGreat
open Go.RowKit Plain
set_option linter.unusedVariables false

/-- an error message: what carries it, its type and code, the four bytes ahead of the quote, the quote -/
structure Lt where
  d : Dg
  ki : Int
  co : Int
  re : ByteArray
  qu : ByteArray
def ltl (m : Lt) : Array Value := #[.int .i64 m.d.pr, .int .i64 m.d.kd, .bool m.d.ba, .int .i64 m.d.sa, .int .i64 m.d.sp, .int .i64 m.d.da, .int .i64 m.d.dp, .int .i64 m.d.tl, .int .i64 m.d.bi, .int .i64 m.d.sr, .string m.d.op, .string m.d.md, .string m.d.tx, .string m.d.ta, .int .i64 m.ki, .int .i64 m.co, .string m.re, .string m.qu]
def lb0 (m : Lt) : ByteArray := b1 (m.ki % 256) ++ b1 (m.co % 256) ++ w2 0 ++ m.re ++ m.qu
def lbd (m : Lt) : ByteArray := put (lb0 m) 2 (w2 (65535 - ksm (lb0 m)))
def lfr (m : Lt) : ByteArray := kwh m.d (lbd m)
def Lok (m : Lt) (w w' : World) : Prop := Below (w.heap.size + 1) (w.alloc (.cells (ltl m) 62)) w'
theorem Lok.start (m : Lt) (w : World) : Lok m w (w.alloc (.cells (ltl m) 62)) := Below.refl _ _
theorem Lok.drew {m : Lt} {w w' : World} (h : Lok m w w') : Lok m w w'.drew := Below.drew h
theorem Lok.next {m : Lt} {w w1 w2 : World} (h : Lok m w w1) (k : Below w1.heap.size w1 w2) : Lok m w w2 := Below.trans h (k.mono (Nat.le_trans (by simp) h.size))
theorem Lok.below {m : Lt} {w w' : World} (h : Lok m w w') : Below w.heap.size w w' := ((Below.refl w.heap.size w).alloc (Nat.le_refl _) _).trans (Below.mono h (by omega))
theorem Lok.at {m : Lt} {w : World} (i : Nat) {u : Value} (h : (ltl m)[i]? = some u) : ∀ w', Lok m w w' → w'.cell? ⟨w.heap.size, i, none⟩ = some u := fun w' hb =>
  (Below.cell hb (p := ⟨w.heap.size, i, none⟩) (by simp)).trans ((cell_of_row _ _ _ _ _ _ (alloc1 w _)).trans h)
/-- what a header wants -/
structure Hdok (d : Dg) : Prop where
  pr : 0 ≤ d.pr ∧ d.pr < 256
  s0 : 0 ≤ d.sa
  s1 : d.sa < 4294967296
  d0 : 0 ≤ d.da
  d1 : d.da < 4294967296
  t0 : 0 ≤ d.tl
  t1 : d.tl < 256
  op : d.op.size ≤ 12
  ta : d.ta.size ≤ 65535
theorem whole_hd (d : Dg) (b : ByteArray) (D : Hdok d) (hb : d.op.size + b.size ≤ 65515) : RetB 47 #[.agg (dgl d), .string b] (.string (kwh d b)) := fun w => by
  have ho := D.op
  have hH : b1 (64 + (20 + (d.op.size : Int)) / 4) ++ b1 (d.bi % 256) ++ w2 (20 + (d.op.size : Int) + b.size) ++ w2 (d.bi / 256 % 65536) ++ w2 (top2 (d.bi / 16777216)) ++ b1 d.tl ++ b1 d.pr ++ w2 0 ++ (l4 d.sa ++ l4 d.da) ++ d.op = kh d b.size 0 := by
    simp [kh, hd, ByteArray.append_assoc]
  have hz : (kh d b.size 0).size = 20 + d.op.size := hd_size _ _ _ _ _ _ _ _ _ _ _
  have hs := ksm_bd (kh d b.size 0)
  have ht2 := top2_ok (d.bi / 16777216)
  have hpr := D.pr
  have hR : put (kh d b.size 0) 10 (w2 (65535 - ksm (kh d b.size 0))) = kh d b.size (65535 - ksm (kh d b.size 0)) := hd_put10' _ _ _ _ _ _ _ _ _ _ _ _
  have := whole_core d b _ _ _ _ _ _ _ _ _ (kh d b.size 0) (put (kh d b.size 0) 10 (w2 (65535 - ksm (kh d b.size 0)))) _ _ _ _ _ _ (ksm (kh d b.size 0)) _ w ho (by omega) D.ta rfl rfl rfl rfl rfl rfl (b1_size _) (b1_size _) (w2_size _) (w2_size _) (w2_size _) (b1_size _) (b1_size _) (w2_size _) (by simp only [ByteArray.size_append, l4_size]) hH hz hs.1 hs.2 rfl
    (put_size _ _ _ (by omega) (by rw [hz, w2_size]; omega))
    (one_in _ (by omega) (by omega)) (one_any d.bi) (two_in _ (by omega) (by omega)) (two_any _) (two_in _ ht2.1 ht2.2.1) (one_in _ D.t0 D.t1) (one_in _ hpr.1 hpr.2) (two_in _ (by omega) (by omega)) (ends_any d D.s0 D.s1 D.d0 D.d1) (ksum_any _ (by omega)) (kput_in _ _ _ (by omega) (by omega) (by omega) (by omega) (by omega))
  rw [hR] at this
  exact this
set_option maxHeartbeats 4000000 in
theorem lframe_core (m : Lt) (A B C X Y R : ByteArray) (k c : Int) (w : World) (zA : A.size = 1) (zB : B.size = 1) (zC : C.size = 2) (hz : m.re.size + m.qu.size ≤ 65511) (hX : A ++ B ++ C ++ m.re ++ m.qu = X) (k0 : 0 ≤ k) (k1 : k ≤ 65535) (hc : 65535 - k = c)
    (cA : RetB 59 #[.int .i64 m.ki] (.string A)) (cB : RetB 59 #[.int .i64 m.co] (.string B)) (cC : RetB 60 #[.int .i64 0] (.string C)) (cK : Ret 62 #[.string X] (.int .i64 k)) (cP : RetB 61 #[.string X, .int .i64 2, .int .i64 c] (.string Y)) (cW : RetB 47 #[.agg (dgl m.d), .string Y] (.string R)) :
    Calls Tryz.prog 31 #[.agg (ltl m)] w fun e w' => e = .returned (.string R) ∧ Below w.heap.size w w' := by
  have q0 := Lok.at (m := m) (w := w) 0 (u := (.int .i64 m.d.pr)) rfl
  have q1 := Lok.at (m := m) (w := w) 1 (u := (.int .i64 m.d.kd)) rfl
  have q2 := Lok.at (m := m) (w := w) 2 (u := (.bool m.d.ba)) rfl
  have q3 := Lok.at (m := m) (w := w) 3 (u := (.int .i64 m.d.sa)) rfl
  have q4 := Lok.at (m := m) (w := w) 4 (u := (.int .i64 m.d.sp)) rfl
  have q5 := Lok.at (m := m) (w := w) 5 (u := (.int .i64 m.d.da)) rfl
  have q6 := Lok.at (m := m) (w := w) 6 (u := (.int .i64 m.d.dp)) rfl
  have q7 := Lok.at (m := m) (w := w) 7 (u := (.int .i64 m.d.tl)) rfl
  have q8 := Lok.at (m := m) (w := w) 8 (u := (.int .i64 m.d.bi)) rfl
  have q9 := Lok.at (m := m) (w := w) 9 (u := (.int .i64 m.d.sr)) rfl
  have q10 := Lok.at (m := m) (w := w) 10 (u := (.string m.d.op)) rfl
  have q11 := Lok.at (m := m) (w := w) 11 (u := (.string m.d.md)) rfl
  have q12 := Lok.at (m := m) (w := w) 12 (u := (.string m.d.tx)) rfl
  have q13 := Lok.at (m := m) (w := w) 13 (u := (.string m.d.ta)) rfl
  have q14 := Lok.at (m := m) (w := w) 14 (u := (.int .i64 m.ki)) rfl
  have q15 := Lok.at (m := m) (w := w) 15 (u := (.int .i64 m.co)) rfl
  have q16 := Lok.at (m := m) (w := w) 16 (u := (.string m.re)) rfl
  have q17 := Lok.at (m := m) (w := w) 17 (u := (.string m.qu)) rfl
  have ds : Hid (Lok m w (w.alloc (.cells (ltl m) 62))) := Lok.start m w
  have hz1 : (A ++ B).size = 2 := by rw [ByteArray.size_append]; omega
  have hz2 : (A ++ B ++ C).size = 4 := by rw [ByteArray.size_append]; omega
  have hz3 : (A ++ B ++ C ++ m.re).size = 4 + m.re.size := by rw [ByteArray.size_append]; omega
  have hwc : IntKind.i64.wrap c = c := by rw [IntKind.wrap_i64]; omega
  unfold dgl at cW
  unfold ltl at ds ⊢
  go_enter Tryz.func31, Tryz.ntmps31
  go_wp2
  go_region_held (fun w' => Lok m w w') (first | assumption | exact ds.out.drew | exact Lok.drew (by assumption)) (first
    | (go_at_call_of 59 (Value.int .i64 m.ki); refine Calls.mono (cA.at _) ?_; rintro e wk ⟨rfl, hbk⟩; have hkk := Lok.next (m := m) (w := w) (by assumption) hbk)
    | (go_at_call_of 59 (Value.int .i64 m.co); refine Calls.mono (cB.at _) ?_; rintro e wk ⟨rfl, hbk⟩; have hkk := Lok.next (m := m) (w := w) (by assumption) hbk)
    | (go_at_call_of 60 (Value.int .i64 0); refine Calls.mono (cC.at _) ?_; rintro e wk ⟨rfl, hbk⟩; have hkk := Lok.next (m := m) (w := w) (by assumption) hbk))
  all_goals
    go_wp2
    go_region_held (fun w' => Lok m w w') (first | assumption | exact Lok.drew (by assumption)) (first
      | (go_at_call 62; refine Calls.mono (cK.at _) ?_; rintro e w' ⟨rfl, hw⟩; replace hw := hw.symm; subst hw)
      | (go_at_call 61; refine Calls.mono (cP.at _) ?_; rintro e wp ⟨rfl, hbp⟩; have hkp := Lok.next (m := m) (w := w) (by assumption) hbp)
      | (go_at_call 47; refine Calls.mono (cW.at _) ?_; rintro e wq ⟨rfl, hbq⟩; have hkq := Lok.next (m := m) (w := w) (by assumption) hbq))
    all_goals
      go_wp2
      go_ret
      exact ⟨rfl, Lok.below (by assumption)⟩
theorem lb0_size (m : Lt) : (lb0 m).size = 4 + m.re.size + m.qu.size := by
  unfold lb0; simp only [ByteArray.size_append, b1_size, w2_size]
theorem lbd_size (m : Lt) : (lbd m).size = 4 + m.re.size + m.qu.size := by
  unfold lbd; rw [put_size _ _ _ (by omega) (by rw [lb0_size, w2_size]; omega), lb0_size]
theorem lframe_any (m : Lt) (D : Hdok m.d) (hz : m.d.op.size + m.re.size + m.qu.size ≤ 65511) : RetB 31 #[.agg (ltl m)] (.string (lfr m)) := fun w => by
  have h0 := lb0_size m
  have h1 := lbd_size m
  have hk := ksm_bd (lb0 m)
  exact lframe_core m _ _ _ (lb0 m) (lbd m) _ (ksm (lb0 m)) _ w (b1_size _) (b1_size _) (w2_size _) (by omega) rfl hk.1 hk.2 rfl (one_any _) (one_any _) (two_in _ (by omega) (by omega)) (ksum_any _ (by omega)) (kput_in _ _ _ (by omega) (by omega) (by omega) (by omega) (by omega)) (whole_hd m.d _ D (by omega))
set_option maxHeartbeats 4000000 in
theorem kaged_core (d : Dg) (n x : Int) (X R : ByteArray) (w : World) (cF : RetB 23 #[.agg #[.int .i64 d.pr, .int .i64 d.kd, .bool d.ba, .int .i64 d.sa, .int .i64 d.sp, .int .i64 d.da, .int .i64 d.dp, .int .i64 x, .int .i64 d.bi, .int .i64 d.sr, .string d.op, .string d.md, .string d.tx, .string d.ta]] (.string X)) (cT : Ret 42 #[.string X, .int .i64 n] (.string R)) :
    Calls Tryz.prog 58 #[.agg (dgl d), .int .i64 n, .int .i64 x] w fun e w' => e = .returned (.string R) ∧ Below w.heap.size w w' := by
  unfold dgl
  go_enter Tryz.func58, Tryz.ntmps58
  go_wp2_with fail
  refine Calls.mono (cF.at _) ?_; rintro e w1 ⟨rfl, hb1⟩
  have HB : Hid (Below w.heap.size w w1) := ((Below.refl w.heap.size w).alloc (Nat.le_refl _) _).trans (hb1.mono (by simp))
  clear hb1
  go_wp2_with fail
  refine Calls.mono (cT.at _) ?_; rintro e w' ⟨rfl, hw⟩; replace hw := hw.symm; subst hw
  go_wp2
  go_ret
  exact ⟨rfl, HB.out⟩
theorem kaged_any (d : Dg) (n x : Int) (D : Dgok d) (x0 : 0 ≤ x) (x1 : x < 256) : RetB 58 #[.agg (dgl d), .int .i64 n, .int .i64 x] (.string (prt (kfr { d with tl := x }) 0 n)) := fun w => by
  have D2 : Dgok { d with tl := x } := ⟨D.pr, D.s0, D.s1, D.d0, D.d1, D.p0, D.p1, D.q0, D.q1, x0, x1, D.md, D.op, D.o4, D.tx, D.ta⟩
  have hz : (kfr { d with tl := x }).size ≤ 200000 := by rw [kfr_size D2]; have h1 : d.op.size + (kbd { d with tl := x }).size ≤ 65515 := (kbd_size D2).1; have h2 : d.ta.size ≤ 65535 := D2.ta; show 20 + d.op.size + (kbd { d with tl := x }).size + d.ta.size ≤ 200000; omega
  have cF := kframe_any { d with tl := x } D2
  have cT := fun w => first_any (kfr { d with tl := x }) n w (Nat.le_trans hz (by decide))
  unfold dgl at cF
  simp only at cF
  generalize kfr { d with tl := x } = X at cF cT
  exact kaged_core d n x X _ w cF cT
theorem ksize_core (d : Dg) (X : ByteArray) (w : World) (cF : RetB 44 #[.agg (dgl d)] (.string X)) (hX : X.size ≤ 100000) (ho : d.op.size ≤ 12) :
    Calls Tryz.prog 57 #[.agg (dgl d)] w fun e w' => e = .returned (.int .i64 (20 + (d.op.size : Int) + (X.size : Int))) ∧ Below w.heap.size w w' := by
  have q0 := Dok.at (d := d) (w := w) 0 (u := (.int .i64 d.pr)) rfl
  have q1 := Dok.at (d := d) (w := w) 1 (u := (.int .i64 d.kd)) rfl
  have q2 := Dok.at (d := d) (w := w) 2 (u := (.bool d.ba)) rfl
  have q3 := Dok.at (d := d) (w := w) 3 (u := (.int .i64 d.sa)) rfl
  have q4 := Dok.at (d := d) (w := w) 4 (u := (.int .i64 d.sp)) rfl
  have q5 := Dok.at (d := d) (w := w) 5 (u := (.int .i64 d.da)) rfl
  have q6 := Dok.at (d := d) (w := w) 6 (u := (.int .i64 d.dp)) rfl
  have q7 := Dok.at (d := d) (w := w) 7 (u := (.int .i64 d.tl)) rfl
  have q8 := Dok.at (d := d) (w := w) 8 (u := (.int .i64 d.bi)) rfl
  have q9 := Dok.at (d := d) (w := w) 9 (u := (.int .i64 d.sr)) rfl
  have q10 := Dok.at (d := d) (w := w) 10 (u := (.string d.op)) rfl
  have q11 := Dok.at (d := d) (w := w) 11 (u := (.string d.md)) rfl
  have q12 := Dok.at (d := d) (w := w) 12 (u := (.string d.tx)) rfl
  have q13 := Dok.at (d := d) (w := w) 13 (u := (.string d.ta)) rfl
  have ds : Hid (Dok d w (w.alloc (.cells (dgl d) 33))) := Dok.start d w
  have hw1 : IntKind.i64.wrap (20 + (d.op.size : Int)) = 20 + (d.op.size : Int) := by rw [IntKind.wrap_i64]; omega
  have hw2 : IntKind.i64.wrap (20 + (d.op.size : Int) + (X.size : Int)) = 20 + (d.op.size : Int) + (X.size : Int) := by rw [IntKind.wrap_i64]; omega
  unfold dgl at cF ds ⊢
  go_enter Tryz.func57, Tryz.ntmps57
  go_wp2
  go_region_held (fun w' => Dok d w w') (first | assumption | exact ds.out.drew | exact Dok.drew (by assumption)) (first
    | (go_at_call 44; refine Calls.mono (cF.at _) ?_; rintro e wk ⟨rfl, hbk⟩; have hkk := Dok.next (d := d) (w := w) (by assumption) hbk))
  all_goals
    go_wp2
    go_ret
    exact ⟨rfl, Dok.below (by assumption)⟩
theorem ksize_any (d : Dg) (D : Dgok d) : RetB 57 #[.agg (dgl d)] (.int .i64 (20 + (d.op.size : Int) + ((kbd d).size : Int))) := fun w =>
  ksize_core d _ w (body_any d D) (by have := (kbd_size D).1; omega) D.op
end Go.Proofs.YthiljpbodmajaaaGreat
namespace Go.Proofs.YthiljpbodmajaaaGreat
open Plain
set_option linter.unusedVariables false

theorem Hdok.hv {d : Dg} (D : Hdok d) (o4 : d.op.size % 4 = 0) : (64 + (20 + (d.op.size : Int)) / 4) % 16 * 4 = 20 + (d.op.size : Int) ∧ 64 ≤ 64 + (20 + (d.op.size : Int)) / 4 ∧ 64 + (20 + (d.op.size : Int)) / 4 < 73 := by
  have := D.op; omega
/-- a frame of a header and a body of one's own -/
theorem khx_parts {d : Dg} (D : Hdok d) (o4 : d.op.size % 4 = 0) (b : ByteArray) (c : Int) (c0 : 0 ≤ c) (c1 : c < 65536) (hb : d.op.size + b.size ≤ 65515) (hs : (kh d b.size c ++ (b ++ d.ta)).size ≤ 65535) :
    Fits (kh d b.size c ++ (b ++ d.ta)) ∧ hdv (kh d b.size c ++ (b ++ d.ta)) = 20 + (d.op.size : Int) ∧ bdy (kh d b.size c ++ (b ++ d.ta)) = b ∧ bt (kh d b.size c ++ (b ++ d.ta)) 9 = d.pr ∧ bt (kh d b.size c ++ (b ++ d.ta)) 8 = d.tl ∧ wd (kh d b.size c ++ (b ++ d.ta)) 2 = 20 + (d.op.size : Int) + b.size ∧ lg (kh d b.size c ++ (b ++ d.ta)) 12 = d.sa ∧ lg (kh d b.size c ++ (b ++ d.ta)) 16 = d.da ∧ wd (kh d b.size c ++ (b ++ d.ta)) 10 = c ∧ hsv (kh d b.size c ++ (b ++ d.ta)) = kcs d b.size ∧ partB (kh d b.size c ++ (b ++ d.ta)) = false ∧ prt (kh d b.size c ++ (b ++ d.ta)) 12 20 = l4 d.sa ++ l4 d.da := by
  have hv := D.hv o4
  have hp := D.pr
  have ho := D.op
  have ht2 := top2_ok (d.bi / 16777216)
  have e0 : bt (kh d b.size c ++ (b ++ d.ta)) 0 = 64 + (20 + (d.op.size : Int)) / 4 := hd_bt0 _ _ _ _ _ _ _ _ _ _ _ _ (by omega) (by omega)
  have e2 : wd (kh d b.size c ++ (b ++ d.ta)) 2 = 20 + (d.op.size : Int) + b.size := hd_tot _ _ _ _ _ _ _ _ _ _ _ _ (by omega) (by omega)
  have eh : hdv (kh d b.size c ++ (b ++ d.ta)) = 20 + (d.op.size : Int) := by unfold hdv; rw [e0]; exact hv.1
  have ez : (kh d b.size c ++ (b ++ d.ta)).size = 20 + d.op.size + b.size + d.ta.size := by simp only [ByteArray.size_append]; unfold kh; rw [hd_size]; omega
  have ev : ver (kh d b.size c ++ (b ++ d.ta)) = 4 := by unfold ver; rw [e0]; omega
  refine ⟨⟨by omega, hs, ev, by omega, by omega, by omega⟩, eh, ?_, ?_, ?_, e2, ?_, ?_, ?_, ?_, ?_, ?_⟩
  · unfold bdy
    rw [eh, e2]
    exact hd_body _ _ _ _ _ _ _ _ _ _ _ b d.ta _ _ rfl rfl
  · exact hd_bt9 _ _ _ _ _ _ _ _ _ _ _ _ hp.1 hp.2
  · exact hd_bt8 _ _ _ _ _ _ _ _ _ _ _ _ D.t0 D.t1
  · exact hd_lg12 _ _ _ _ _ _ _ _ _ _ _ _ D.s0 D.s1
  · exact hd_lg16 _ _ _ _ _ _ _ _ _ _ _ _ D.d0 D.d1
  · exact hd_wd10 _ _ _ _ _ _ _ _ _ _ _ _ c0 c1
  · exact hd_hsv _ _ _ _ _ _ _ _ _ _ _ _ hv.1 (by omega) (by omega) (by omega)
  · have h6 : wd (kh d b.size c ++ (b ++ d.ta)) 6 = top2 (d.bi / 16777216) := hd_wd6 _ _ _ _ _ _ _ _ _ _ _ _ ht2.1 ht2.2.1
    unfold partB; rw [h6, ht2.2.2]; rfl
  · exact hd_ends _ _ _ _ _ _ _ _ _ _ _ _
theorem lb0_blk (m : Lt) : blk (lb0 m) 2 = lb0 m := by
  unfold lb0
  have := w2_zero_blk (b1 (m.ki % 256) ++ b1 (m.co % 256)) (m.re ++ m.qu) 0 2 (by simp [b1_size])
  simpa [ByteArray.append_assoc] using this
/-- a message with x in its checksum field -/
def lbx (m : Lt) (x : Int) : ByteArray := b1 (m.ki % 256) ++ b1 (m.co % 256) ++ w2 x ++ m.re ++ m.qu
theorem lbx_put (m : Lt) (x y : Int) : put (lbx m x) 2 (w2 y) = lbx m y := by
  unfold lbx
  have := put_mid (b1 (m.ki % 256) ++ b1 (m.co % 256)) (w2 x) (m.re ++ m.qu) (w2 y) 2 (by simp [b1_size]) (by simp [w2_size])
  simpa [ByteArray.append_assoc] using this
theorem lbd_eq (m : Lt) : lbd m = lbx m (65535 - ksm (lb0 m)) := lbx_put m 0 _
theorem lbx_size (m : Lt) (x : Int) : (lbx m x).size = 4 + m.re.size + m.qu.size := by
  unfold lbx; simp only [ByteArray.size_append, b1_size, w2_size]
theorem lbx_sum (m : Lt) (x : Int) (h : m.re.size + m.qu.size ≤ 65531) : sumv (blk (lbx m x) 2) = 65535 - ksm (lb0 m) := by
  have : blk (lbx m x) 2 = lb0 m := lbx_put m x 0
  rw [this]
  unfold sumv
  rw [if_pos (by rw [lb0_size]; omega)]
  rfl
/-- the box's own message about a TTL -/
def mnl (f t : Int) (q : ByteArray) : Lt := ⟨{ dg0 with pr := 1, sa := f, da := t, tl := 64 }, 11, 0, l4 0, q⟩
theorem mnl_hd (f t : Int) (q : ByteArray) (f0 : 0 ≤ f) (f1 : f < 4294967296) (t0 : 0 ≤ t) (t1 : t < 4294967296) : Hdok (mnl f t q).d :=
  ⟨⟨(by decide : (0 : Int) ≤ 1), (by decide : (1 : Int) < 256)⟩, f0, f1, t0, t1, (by decide : (0 : Int) ≤ 64), (by decide : (64 : Int) < 256), (by decide : (ByteArray.mk #[]).size ≤ 12), (by decide : (ByteArray.mk #[]).size ≤ 65535)⟩
theorem mine_eq (s : ByteArray) (f : Int) (f0 : 0 ≤ f) (f1 : f < 4294967296) (hQ : (prt s 0 (hdv s + 8)).size ≤ 1000) : tld s f 2816 0 = lfr (mnl f (lg s 12) (prt s 0 (hdv s + 8))) := by
  have ha := lg_bd s 12
  unfold tld tlm
  generalize lg s 12 = a at *
  generalize prt s 0 (hdv s + 8) = Q at *
  have H := mnl_hd f a Q f0 f1 ha.1 ha.2
  have e1 : w2 2816 = b1 11 ++ b1 0 := by decide
  have e2 : l4 0 = w2 0 ++ w2 0 := by decide
  have eb : w2 2816 ++ l4 0 ++ w2 0 ++ Q = lbx (mnl f a Q) 0 := by
    unfold lbx mnl
    rw [e1, e2]
    simp [ByteArray.append_assoc]
  have zop : (mnl f a Q).d.op.size = 0 := rfl
  have zta : (mnl f a Q).d.ta = ByteArray.empty := rfl
  have zre : (mnl f a Q).re.size = 4 := l4_size 0
  have zqu : (mnl f a Q).qu.size = Q.size := rfl
  have ez : ∀ x, (lbx (mnl f a Q) x).size = 8 + Q.size := fun x => by rw [lbx_size, zre, zqu]
  have et : top2 0 = 0 := by decide
  have ek : ∀ c, hd 69 0 (20 + (8 + (Q.size : Int))) 0 0 64 1 c f a ByteArray.empty = kh (mnl f a Q).d (8 + Q.size) c := fun c => by
    unfold kh
    rw [zop]
    show _ = hd (64 + (20 + ((0 : Nat) : Int)) / 4) (0 % 256) (20 + ((0 : Nat) : Int) + ((8 + Q.size : Nat) : Int)) (0 / 256 % 65536) (top2 (0 / 16777216)) 64 1 c f a ByteArray.empty
    rw [show (0 : Int) / 16777216 = 0 by rfl, et, show (64 + (20 + ((0 : Nat) : Int)) / 4 : Int) = 69 by rfl, show (0 % 256 : Int) = 0 by rfl, show (0 / 256 % 65536 : Int) = 0 by rfl, show (20 + ((0 : Nat) : Int) + ((8 + Q.size : Nat) : Int)) = 20 + (8 + (Q.size : Int)) by omega]
  have es : ∀ x c, (kh (mnl f a Q).d (lbx (mnl f a Q) x).size c ++ (lbx (mnl f a Q) x ++ (mnl f a Q).d.ta)).size ≤ 65535 := fun x c => by
    simp only [ByteArray.size_append, zta]; unfold kh; rw [hd_size, ez, zop]; simp; omega
  have hb : ∀ x, (mnl f a Q).d.op.size + (lbx (mnl f a Q) x).size ≤ 65515 := fun x => by rw [ez, zop]; omega
  have P0 := khx_parts H (by rw [zop]) (lbx (mnl f a Q) 0) 0 (by decide) (by decide) (hb 0) (es 0 0)
  have hc := kcs_bd (mnl f a Q).d (lbx (mnl f a Q) 0).size
  have P1 := khx_parts H (by rw [zop]) (lbx (mnl f a Q) 0) _ hc.1 hc.2 (hb 0) (es 0 _)
  have e0 : hd 69 0 (20 + (8 + (Q.size : Int))) 0 0 64 1 0 f a ByteArray.empty ++ (w2 2816 ++ l4 0 ++ w2 0 ++ Q) = kh (mnl f a Q).d (lbx (mnl f a Q) 0).size 0 ++ (lbx (mnl f a Q) 0 ++ (mnl f a Q).d.ta) := by
    rw [eb, ek, zta, ez]; simp
  have ep : ∀ c c' (r : ByteArray), put (kh (mnl f a Q).d (lbx (mnl f a Q) 0).size c ++ r) 10 (w2 c') = kh (mnl f a Q).d (lbx (mnl f a Q) 0).size c' ++ r := fun c c' r => hd_put10 _ _ _ _ _ _ _ _ _ _ _ r c'
  rw [e0, P0.2.2.2.2.2.2.2.2.2.1, ep]
  generalize hC : kcs (mnl f a Q).d (lbx (mnl f a Q) 0).size = C at *
  have e20 : 20 + ((mnl f a Q).d.op.size : Int) + 2 = ((kh (mnl f a Q).d (lbx (mnl f a Q) 0).size C).size : Int) + 2 := by unfold kh; rw [hd_size]; omega
  unfold sld
  rw [P1.2.2.2.1, if_neg (by show ¬ (1 : Int) = 17; decide), if_neg (by show ¬ (1 : Int) = 6; decide), if_pos (by show (1 : Int) = 1; rfl), P1.2.2.1, P1.2.1, e20, put_append _ _ _ _ (by decide), put_append_l _ _ _ _ (by decide) (by rw [ez, w2_size]; omega), lbx_put, lbx_sum _ _ (by rw [zre, zqu]; omega), ← lbd_eq]
  unfold lfr
  rw [kwh_eq, lbd_size, ez, zre, zqu, ← hC, ez]
  unfold kcs
  rw [show 4 + 4 + Q.size = 8 + Q.size by omega]
end Go.Proofs.YthiljpbodmajaaaGreat
