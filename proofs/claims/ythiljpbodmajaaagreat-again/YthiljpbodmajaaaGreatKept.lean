/-
  CONTRACTS: package natboxkeep: a body of TCP.
-/
import Derived.Test.YthiljpbodmajaaaGreatKepd
namespace Go.Proofs.YthiljpbodmajaaaGreat
open Go.RowKit Plain
set_option linter.unusedVariables false

theorem or4 (a b : Int) (h0 : 0 ≤ a) (h1 : a < 65536) (h2 : 0 ≤ b) (h3 : b < 16) : bits .or .i64 (a * 16) b = a * 16 + b := by
  obtain ⟨A, rfl⟩ := Int.eq_ofNat_of_zero_le h0
  obtain ⟨B, rfl⟩ := Int.eq_ofNat_of_zero_le h2
  have := i64_or_nat (A * 16) B (by omega) (by omega)
  rw [nat_join 4 (A * 16) B (by omega) (by omega)] at this
  simpa using this
/-- a body of TCP ahead of its checksum -/
def kt0 (d : Dg) : ByteArray := w2 d.sp ++ w2 d.dp ++ prt d.md 0 8 ++ b1 ((5 + d.sr) * 16 + bt d.md 8 % 16) ++ prt d.md 9 12 ++ w2 0 ++ prt d.md 12 14 ++ d.tx
def ktc (d : Dg) : ByteArray := put (kt0 d) 16 (w2 (65535 - ksm (l4 d.sa ++ l4 d.da ++ w2 6 ++ w2 (kt0 d).size ++ kt0 d)))
set_option maxHeartbeats 4000000 in
theorem tcp_core (d : Dg) (A B M N O Y Z E S L R X F : ByteArray) (m y k c : Int) (w : World) (r0 : 0 ≤ d.sr) (r1 : d.sr ≤ 10) (ht : d.tx.size ≤ 65495) (hmd : d.md.size = 14) (zA : A.size = 2) (zB : B.size = 2) (zY : Y.size = 1) (zZ : Z.size = 2) (zE : E.size = 8) (zS : S.size = 2) (zL : L.size = 2)
    (hM : d.md.extract 0 8 = M) (hN : d.md.extract 9 12 = N) (hO : d.md.extract 12 14 = O) (zM : M.size = 8) (zN : N.size = 3) (zO : O.size = 2) (hm : ((d.md[8]'(by omega)).toNat : Int) = m) (m0 : 0 ≤ m) (m1 : m < 256) (hy : (5 + d.sr) * 16 + m % 16 = y)
    (hX : A ++ B ++ M ++ Y ++ N ++ Z ++ O ++ d.tx = X) (hxz : X.size ≤ 65515) (hF : E ++ S ++ L ++ X = F) (k0 : 0 ≤ k) (k1 : k ≤ 65535) (hc : 65535 - k = c)
    (cA : RetB 60 #[.int .i64 d.sp] (.string A)) (cB : RetB 60 #[.int .i64 d.dp] (.string B)) (cY : RetB 59 #[.int .i64 y] (.string Y)) (cZ : RetB 60 #[.int .i64 0] (.string Z))
    (cE : RetB 82 #[.agg (dgl d)] (.string E)) (cS : RetB 60 #[.int .i64 6] (.string S)) (cL : RetB 60 #[.int .i64 X.size] (.string L)) (cK : Ret 62 #[.string F] (.int .i64 k)) (cP : RetB 61 #[.string X, .int .i64 16, .int .i64 c] (.string R)) :
    Calls Tryz.prog 81 #[.agg (dgl d)] w fun e w' => e = .returned (.string R) ∧ Below w.heap.size w w' := by
  have q0 := Dok.at (d := d) (w := w) 0 (u := (.int .i64 d.pr)) rfl
  have q1 := Dok.at (d := d) (w := w) 1 (u := (.int .i64 d.kd)) rfl
  have q2 := Dok.at (d := d) (w := w) 2 (u := (.bool d.ba)) rfl
  have q3 := Dok.at (d := d) (w := w) 3 (u := (.int .i64 d.sa)) rfl
  have q4 := Dok.at (d := d) (w := w) 4 (u := (.int .i64 d.sp)) rfl
  have q5 := Dok.at (d := d) (w := w) 5 (u := (.int .i64 d.da)) rfl
  have q6 := Dok.at (d := d) (w := w) 6 (u := (.int .i64 d.dp)) rfl
  have q7 := Dok.at (d := d) (w := w) 7 (u := (.int .i64 d.tl)) rfl
  have q8 := Dok.at (d := d) (w := w) 8 (u := (.int .i64 d.bi)) rfl
  have q9 := Dok.at (d := d) (w := w) 9 (u := (.int .i64 d.sr)) rfl
  have q10 := Dok.at (d := d) (w := w) 10 (u := (.string d.op)) rfl
  have q11 := Dok.at (d := d) (w := w) 11 (u := (.string d.md)) rfl
  have q12 := Dok.at (d := d) (w := w) 12 (u := (.string d.tx)) rfl
  have q13 := Dok.at (d := d) (w := w) 13 (u := (.string d.ta)) rfl
  have ds : Hid (Dok d w (w.alloc (.cells (dgl d) 33))) := Dok.start d w
  have x1 := and15 m m0 (by omega)
  have x2 := or4 (5 + d.sr) (m % 16) (by omega) (by omega) (by omega) (by omega)
  have hw5 : IntKind.i64.wrap (5 + d.sr) = 5 + d.sr := by rw [IntKind.wrap_i64]; omega
  have hw6 : IntKind.i64.wrap ((5 + d.sr) * 16) = (5 + d.sr) * 16 := by rw [IntKind.wrap_i64]; omega
  have hwm : IntKind.i64.wrap m = m := by rw [IntKind.wrap_i64]; omega
  have hz1 : (A ++ B).size = 4 := by rw [ByteArray.size_append]; omega
  have hz2 : (A ++ B ++ M).size = 12 := by rw [ByteArray.size_append]; omega
  have hz3 : (A ++ B ++ M ++ Y).size = 13 := by rw [ByteArray.size_append]; omega
  have hz4 : (A ++ B ++ M ++ Y ++ N).size = 16 := by rw [ByteArray.size_append]; omega
  have hz5 : (A ++ B ++ M ++ Y ++ N ++ Z).size = 18 := by rw [ByteArray.size_append]; omega
  have hz6 : (A ++ B ++ M ++ Y ++ N ++ Z ++ O).size = 20 := by rw [ByteArray.size_append]; omega
  have hz7 : (E ++ S).size = 10 := by rw [ByteArray.size_append]; omega
  have hz8 : (E ++ S ++ L).size = 12 := by rw [ByteArray.size_append]; omega
  have h8 : (8 : Int) < (d.md.size : Int) := by omega
  unfold dgl at cE ds ⊢
  go_enter Tryz.func81, Tryz.ntmps81
  go_wp2
  go_region_held (fun w' => Dok d w w') (first | assumption | exact ds.out.drew | exact Dok.drew (by assumption)) (first
    | (go_at_call_of 60 (Value.int .i64 d.sp); refine Calls.mono (cA.at _) ?_; rintro e wk ⟨rfl, hbk⟩; have hkk := Dok.next (d := d) (w := w) (by assumption) hbk)
    | (go_at_call_of 60 (Value.int .i64 d.dp); refine Calls.mono (cB.at _) ?_; rintro e wk ⟨rfl, hbk⟩; have hkk := Dok.next (d := d) (w := w) (by assumption) hbk)
    | (go_at_call_of 59 (Value.int .i64 y); refine Calls.mono (cY.at _) ?_; rintro e wk ⟨rfl, hbk⟩; have hkk := Dok.next (d := d) (w := w) (by assumption) hbk)
    | (go_at_call_of 60 (Value.int .i64 0); refine Calls.mono (cZ.at _) ?_; rintro e wk ⟨rfl, hbk⟩; have hkk := Dok.next (d := d) (w := w) (by assumption) hbk))
  all_goals
    go_wp2_with fail
    refine Calls.mono (cE.at _) ?_; rintro e w1 ⟨rfl, hb1⟩
    go_wp2_with fail
    refine Calls.mono (cS.at _) ?_; rintro e w2 ⟨rfl, hb2⟩
    go_wp2_with fail
    refine Calls.mono (cL.at _) ?_; rintro e w3 ⟨rfl, hb3⟩
    go_wp2_with fail
    refine Calls.mono (cK.at _) ?_; rintro e w' ⟨rfl, hw⟩; replace hw := hw.symm; subst hw
    go_wp2_with fail
    refine Calls.mono (cP.at _) ?_; rintro e w4 ⟨rfl, hb4⟩
    go_wp2
    go_ret
    exact ⟨rfl, ((((Dok.next (by assumption) hb1).next hb2).next hb3).next hb4).below⟩
theorem tcp_any (d : Dg) (w : World) (r0 : 0 ≤ d.sr) (r1 : d.sr ≤ 10) (ht : d.tx.size ≤ 65495) (hmd : d.md.size = 14) (p0 : 0 ≤ d.sp) (p1 : d.sp < 65536) (e0 : 0 ≤ d.dp) (e1 : d.dp < 65536) (s0 : 0 ≤ d.sa) (s1 : d.sa < 4294967296) (d0 : 0 ≤ d.da) (d1 : d.da < 4294967296) :
    Calls Tryz.prog 81 #[.agg (dgl d)] w fun e w' => e = .returned (.string (ktc d)) ∧ Below w.heap.size w w' := by
  have zM : (prt d.md 0 8).size = 8 := by rw [prt_size]; omega
  have zN : (prt d.md 9 12).size = 3 := by rw [prt_size]; omega
  have zO : (prt d.md 12 14).size = 2 := by rw [prt_size]; omega
  have hxz : (kt0 d).size = 20 + d.tx.size := by simp only [kt0, ByteArray.size_append, w2_size, b1_size, zM, zN, zO]
  have hF : (l4 d.sa ++ l4 d.da ++ w2 6 ++ w2 (kt0 d).size ++ kt0 d).size ≤ 200000 := by
    simp only [ByteArray.size_append, l4_size, w2_size]; omega
  have hk := ksm_bd (l4 d.sa ++ l4 d.da ++ w2 6 ++ w2 (kt0 d).size ++ kt0 d)
  have hb := bt_in d.md 8 (by omega)
  have hbb := bt_bd d.md 8
  have cY : RetB 59 #[.int .i64 ((5 + d.sr) * 16 + bt d.md 8 % 16)] (.string (b1 ((5 + d.sr) * 16 + bt d.md 8 % 16))) := by
    have := one_any ((5 + d.sr) * 16 + bt d.md 8 % 16)
    rw [show ((5 + d.sr) * 16 + bt d.md 8 % 16) % 256 = (5 + d.sr) * 16 + bt d.md 8 % 16 by omega] at this
    exact this
  exact tcp_core d (w2 d.sp) (w2 d.dp) (prt d.md 0 8) (prt d.md 9 12) (prt d.md 12 14) _ (w2 0) (l4 d.sa ++ l4 d.da) (w2 6) (w2 (kt0 d).size) _ (kt0 d) _ (bt d.md 8) _ (ksm (l4 d.sa ++ l4 d.da ++ w2 6 ++ w2 (kt0 d).size ++ kt0 d)) _ w r0 r1 ht hmd (w2_size _) (w2_size _) (b1_size _) (w2_size _) (by simp only [ByteArray.size_append, l4_size]) (w2_size _) (w2_size _)
    rfl rfl rfl zM zN zO hb.symm hbb.1 hbb.2 rfl rfl (by omega) rfl hk.1 hk.2 rfl (two_in _ p0 p1) (two_in _ e0 e1) cY (two_in _ (by omega) (by omega)) (ends_any d s0 s1 d0 d1) (two_in _ (by omega) (by omega)) (two_in _ (by omega) (by omega)) (ksum_any _ hF)
    (kput_in _ _ _ (by omega) (by omega) (by omega) (by omega) (by omega))
end Go.Proofs.YthiljpbodmajaaaGreat
