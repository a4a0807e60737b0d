/-
  CONTRACTS: package natboxkeep: body, frame.
-/
import Derived.Test.YthiljpbodmajaaaGreatKepu
import Derived.Test.YthiljpbodmajaaaGreatKept
import Derived.Test.YthiljpbodmajaaaGreatKepi
import Derived.Test.YthiljpbodmajaaaGreatKeph
namespace Go.Proofs.YthiljpbodmajaaaGreat
open Go.RowKit Plain
set_option linter.unusedVariables false

/-- what a datagram's numbers are -/
structure Dgok (d : Dg) : Prop where
  pr : (d.pr = 17 ∧ 0 ≤ d.sr ∧ d.sr ≤ d.tx.size) ∨ (d.pr = 6 ∧ 0 ≤ d.sr ∧ d.sr ≤ 10 ∧ 4 * d.sr ≤ d.tx.size) ∨ (d.pr = 1 ∧ (d.kd = 8 ∨ d.kd = 13 ∨ d.kd = 0 ∨ d.kd = 14))
  s0 : 0 ≤ d.sa
  s1 : d.sa < 4294967296
  d0 : 0 ≤ d.da
  d1 : d.da < 4294967296
  p0 : 0 ≤ d.sp
  p1 : d.sp < 65536
  q0 : 0 ≤ d.dp
  q1 : d.dp < 65536
  t0 : 0 ≤ d.tl
  t1 : d.tl < 256
  md : d.md.size = 14
  op : d.op.size ≤ 12
  o4 : d.op.size % 4 = 0
  tx : d.op.size + d.tx.size ≤ 65495
  ta : d.ta.size ≤ 65535
/-- a datagram's body -/
def kbd (d : Dg) : ByteArray := if d.pr = 17 then kud d (8 + (d.tx.size : Int) - d.sr) else if d.pr = 6 then ktc d else kic d
def kfr (d : Dg) : ByteArray := kwh d (kbd d)
theorem ki0_size (d : Dg) (h : d.md.size = 14) : (ki0 d).size = (if 8 < d.kd then 20 else 8) + d.tx.size := by
  have z1 : (prt d.md 0 2).size = 2 := by rw [prt_size]; omega
  have z2 : (prt d.md 2 14).size = 12 := by rw [prt_size]; omega
  unfold ki0
  split <;> simp only [ByteArray.size_append, b1_size, w2_size, z1, z2]
theorem kt0_size (d : Dg) (h : d.md.size = 14) : (kt0 d).size = 20 + d.tx.size := by
  have zM : (prt d.md 0 8).size = 8 := by rw [prt_size]; omega
  have zN : (prt d.md 9 12).size = 3 := by rw [prt_size]; omega
  have zO : (prt d.md 12 14).size = 2 := by rw [prt_size]; omega
  simp only [kt0, ByteArray.size_append, w2_size, b1_size, zM, zN, zO]
theorem kbd_size {d : Dg} (D : Dgok d) : d.op.size + (kbd d).size ≤ 65515 ∧ 8 ≤ (kbd d).size := by
  have ht := D.tx
  unfold kbd
  split
  · unfold kud
    split
    · rw [ku0_size]; omega
    · rw [put_size _ _ _ (by omega) (by rw [ku0_size, w2_size]; omega), ku0_size]; omega
  · split
    · unfold ktc
      rw [put_size _ _ _ (by omega) (by rw [kt0_size d D.md, w2_size]; omega), kt0_size d D.md]; omega
    · unfold kic
      have := ki0_size d D.md
      rw [put_size _ _ _ (by omega) (by rw [this, w2_size]; split <;> omega), this]
      split <;> omega
theorem body_udp (d : Dg) (X : ByteArray) (w : World) (hp : d.pr = 17) (cU : RetB 80 #[.agg (dgl d)] (.string X)) : Calls Tryz.prog 44 #[.agg (dgl d)] w fun e w' => e = .returned (.string X) ∧ Below w.heap.size w w' := by
  have ds : Hid (Dok d w (w.alloc (.cells (dgl d) 33))) := Dok.start d w
  unfold dgl at cU ds ⊢
  rw [hp] at cU ds ⊢
  go_enter Tryz.func44, Tryz.ntmps44
  go_wp2_with fail
  refine Calls.mono (cU.at _) ?_; rintro e w1 ⟨rfl, hb1⟩
  go_wp2
  go_ret
  exact ⟨rfl, (ds.out.next hb1).below⟩
theorem body_tcp (d : Dg) (X : ByteArray) (w : World) (hp : d.pr = 6) (cU : RetB 81 #[.agg (dgl d)] (.string X)) : Calls Tryz.prog 44 #[.agg (dgl d)] w fun e w' => e = .returned (.string X) ∧ Below w.heap.size w w' := by
  have ds : Hid (Dok d w (w.alloc (.cells (dgl d) 33))) := Dok.start d w
  unfold dgl at cU ds ⊢
  rw [hp] at cU ds ⊢
  go_enter Tryz.func44, Tryz.ntmps44
  go_wp2_with fail
  refine Calls.mono (cU.at _) ?_; rintro e w1 ⟨rfl, hb1⟩
  go_wp2
  go_ret
  exact ⟨rfl, (ds.out.next hb1).below⟩
theorem one_in (v : Int) (h0 : 0 ≤ v) (h1 : v < 256) : RetB 59 #[.int .i64 v] (.string (b1 v)) := by
  have := one_any v
  rw [show v % 256 = v by omega] at this
  exact this
theorem icmp_any (d : Dg) (w : World) (D : Dgok d) (hp : d.pr = 1) (hk : d.kd = 8 ∨ d.kd = 13 ∨ d.kd = 0 ∨ d.kd = 14) : Calls Tryz.prog 44 #[.agg (dgl d)] w fun e w' => e = .returned (.string (kic d)) ∧ Below w.heap.size w w' := by
  have hmd := D.md
  have ht := D.tx
  have z1 : (prt d.md 0 2).size = 2 := by rw [prt_size]; omega
  have z2 : (prt d.md 2 14).size = 12 := by rw [prt_size]; omega
  have hz := ki0_size d hmd
  have hz2 : (ki0 d).size ≤ 65535 := by rw [hz]; split <;> omega
  have hz3 : 8 ≤ (ki0 d).size := by rw [hz]; split <;> omega
  have hs := ksm_bd (ki0 d)
  have hi0 : 0 ≤ kid d := by unfold kid; have := D.p0; have := D.q0; split <;> omega
  have hi1 : kid d < 65536 := by unfold kid; have := D.p1; have := D.q1; split <;> omega
  exact icmp_core d (b1 d.kd) (b1 0) (w2 0) (w2 (kid d)) (prt d.md 0 2) (prt d.md 2 14) _ _ (ki0 d) (kid d) (ksm (ki0 d)) _ w (by simp; omega) (by simp; omega) (by omega) hmd hk (b1_size _) (b1_size _) (w2_size _) (w2_size _)
    (fun h => by rw [h]) rfl rfl z1 z2 rfl rfl rfl hz2 (by omega) hs.1 hs.2 rfl (one_in _ (by omega) (by omega)) (one_in _ (by omega) (by omega)) (two_in _ (by omega) (by omega)) (two_in _ hi0 hi1) (ksum_any _ (by omega)) (kput_in _ _ _ (by omega) (by omega) hz2 (by omega) (by omega))
theorem body_any (d : Dg) (D : Dgok d) : RetB 44 #[.agg (dgl d)] (.string (kbd d)) := fun w => by
  have ht := D.tx
  rcases D.pr with ⟨hp, r0, r1⟩ | ⟨hp, r0, r1, r2⟩ | ⟨hp, hk⟩
  · rw [show kbd d = kud d (8 + (d.tx.size : Int) - d.sr) by unfold kbd; rw [if_pos hp]]
    exact body_udp d _ w hp (fun w => udp_any d w _ r0 r1 (by omega) rfl D.p0 D.p1 D.q0 D.q1 D.s0 D.s1 D.d0 D.d1)
  · rw [show kbd d = ktc d by unfold kbd; rw [if_neg (by omega), if_pos hp]]
    exact body_tcp d _ w hp (fun w => tcp_any d w r0 r1 (by omega) D.md D.p0 D.p1 D.q0 D.q1 D.s0 D.s1 D.d0 D.d1)
  · rw [show kbd d = kic d by unfold kbd; rw [if_neg (by omega), if_neg (by omega)]]
    exact icmp_any d w D hp hk
theorem whole_any (d : Dg) (b : ByteArray) (D : Dgok d) (hb : d.op.size + b.size ≤ 65515) : RetB 47 #[.agg (dgl d), .string b] (.string (kwh d b)) := fun w => by
  have ho := D.op
  have hH : b1 (64 + (20 + (d.op.size : Int)) / 4) ++ b1 (d.bi % 256) ++ w2 (20 + (d.op.size : Int) + b.size) ++ w2 (d.bi / 256 % 65536) ++ w2 (top2 (d.bi / 16777216)) ++ b1 d.tl ++ b1 d.pr ++ w2 0 ++ (l4 d.sa ++ l4 d.da) ++ d.op = kh d b.size 0 := by
    simp [kh, hd, ByteArray.append_assoc]
  have hz : (kh d b.size 0).size = 20 + d.op.size := hd_size _ _ _ _ _ _ _ _ _ _ _
  have hs := ksm_bd (kh d b.size 0)
  have ht2 := top2_ok (d.bi / 16777216)
  have hpr : 0 ≤ d.pr ∧ d.pr < 256 := by rcases D.pr with ⟨h, _⟩ | ⟨h, _⟩ | ⟨h, _⟩ <;> omega
  have hR : put (kh d b.size 0) 10 (w2 (65535 - ksm (kh d b.size 0))) = kh d b.size (65535 - ksm (kh d b.size 0)) := hd_put10' _ _ _ _ _ _ _ _ _ _ _ _
  have := whole_core d b _ _ _ _ _ _ _ _ _ (kh d b.size 0) (put (kh d b.size 0) 10 (w2 (65535 - ksm (kh d b.size 0)))) _ _ _ _ _ _ (ksm (kh d b.size 0)) _ w ho (by omega) D.ta rfl rfl rfl rfl rfl rfl (b1_size _) (b1_size _) (w2_size _) (w2_size _) (w2_size _) (b1_size _) (b1_size _) (w2_size _) (by simp only [ByteArray.size_append, l4_size]) hH hz hs.1 hs.2 rfl
    (put_size _ _ _ (by omega) (by rw [hz, w2_size]; omega))
    (one_in _ (by omega) (by omega)) (one_any d.bi) (two_in _ (by omega) (by omega)) (two_any _) (two_in _ ht2.1 ht2.2.1) (one_in _ D.t0 D.t1) (one_in _ hpr.1 hpr.2) (two_in _ (by omega) (by omega)) (ends_any d D.s0 D.s1 D.d0 D.d1) (ksum_any _ (by omega)) (kput_in _ _ _ (by omega) (by omega) (by omega) (by omega) (by omega))
  rw [hR] at this
  exact this
theorem frame_core (d : Dg) (B R : ByteArray) (w : World) (cB : RetB 44 #[.agg (dgl d)] (.string B)) (cW : RetB 47 #[.agg (dgl d), .string B] (.string R)) : Calls Tryz.prog 23 #[.agg (dgl d)] w fun e w' => e = .returned (.string R) ∧ Below w.heap.size w w' := by
  have q0 := Dok.at (d := d) (w := w) 0 (u := (.int .i64 d.pr)) rfl
  have q1 := Dok.at (d := d) (w := w) 1 (u := (.int .i64 d.kd)) rfl
  have q2 := Dok.at (d := d) (w := w) 2 (u := (.bool d.ba)) rfl
  have q3 := Dok.at (d := d) (w := w) 3 (u := (.int .i64 d.sa)) rfl
  have q4 := Dok.at (d := d) (w := w) 4 (u := (.int .i64 d.sp)) rfl
  have q5 := Dok.at (d := d) (w := w) 5 (u := (.int .i64 d.da)) rfl
  have q6 := Dok.at (d := d) (w := w) 6 (u := (.int .i64 d.dp)) rfl
  have q7 := Dok.at (d := d) (w := w) 7 (u := (.int .i64 d.tl)) rfl
  have q8 := Dok.at (d := d) (w := w) 8 (u := (.int .i64 d.bi)) rfl
  have q9 := Dok.at (d := d) (w := w) 9 (u := (.int .i64 d.sr)) rfl
  have q10 := Dok.at (d := d) (w := w) 10 (u := (.string d.op)) rfl
  have q11 := Dok.at (d := d) (w := w) 11 (u := (.string d.md)) rfl
  have q12 := Dok.at (d := d) (w := w) 12 (u := (.string d.tx)) rfl
  have q13 := Dok.at (d := d) (w := w) 13 (u := (.string d.ta)) rfl
  have ds : Hid (Dok d w (w.alloc (.cells (dgl d) 33))) := Dok.start d w
  unfold dgl at cB cW ds ⊢
  go_enter Tryz.func23, Tryz.ntmps23
  go_wp2
  go_region_held (fun w' => Dok d w w') (first | assumption | exact ds.out.drew | exact Dok.drew (by assumption)) (first
    | (go_at_call 44; refine Calls.mono (cB.at _) ?_; rintro e wk ⟨rfl, hbk⟩; have hkk := Dok.next (d := d) (w := w) (by assumption) hbk)
    | (go_at_call 47; refine Calls.mono (cW.at _) ?_; rintro e wk ⟨rfl, hbk⟩; have hkk := Dok.next (d := d) (w := w) (by assumption) hbk))
  all_goals
    go_wp2
    go_ret
    exact ⟨rfl, Dok.below (by assumption)⟩
theorem kframe_any (d : Dg) (D : Dgok d) : RetB 23 #[.agg (dgl d)] (.string (kfr d)) := fun w =>
  frame_core d (kbd d) (kfr d) w (body_any d D) (whole_any d (kbd d) D (kbd_size D).1)
end Go.Proofs.YthiljpbodmajaaaGreat
