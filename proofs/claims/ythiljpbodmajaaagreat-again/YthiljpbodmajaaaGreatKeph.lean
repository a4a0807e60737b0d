/-
  CONTRACTS: package natboxkeep: a whole frame.
-/
import Derived.Test.YthiljpbodmajaaaGreatKepd
namespace Go.Proofs.YthiljpbodmajaaaGreat
open Go.RowKit Plain
set_option linter.unusedVariables false

theorem or64 (a : Int) (h0 : 0 ≤ a) (h1 : a < 64) : bits .or .i64 64 a = 64 + a := by
  obtain ⟨A, rfl⟩ := Int.eq_ofNat_of_zero_le h0
  have := i64_or_nat 64 A (by omega) (by omega)
  rw [nat_join 6 64 A (by omega) (by omega)] at this
  simpa using this
/-- the two highest bits of a word -/
def top2 (x : Int) : Int := bits .and .i64 x 49152
theorem top2_ok (x : Int) : 0 ≤ top2 x ∧ top2 x < 65536 ∧ top2 x % 16384 = 0 := by
  unfold top2
  show 0 ≤ IntKind.i64.wrap ((BitVec.ofInt 64 x &&& BitVec.ofInt 64 49152).toNat : Int) ∧ IntKind.i64.wrap ((BitVec.ofInt 64 x &&& BitVec.ofInt 64 49152).toNat : Int) < 65536 ∧ IntKind.i64.wrap ((BitVec.ofInt 64 x &&& BitVec.ofInt 64 49152).toNat : Int) % 16384 = 0
  rw [BitVec.toNat_and, show (BitVec.ofInt 64 49152).toNat = 49152 by rfl]
  have h1 : (BitVec.ofInt 64 x).toNat &&& 49152 ≤ 49152 := Nat.and_le_right
  have h2 : ((BitVec.ofInt 64 x).toNat &&& 49152) % 2 ^ 14 = 0 := by rw [Nat.and_mod_two_pow]; simp
  generalize (BitVec.ofInt 64 x).toNat &&& 49152 = n at h1 h2 ⊢
  rw [IntKind.wrap_i64]
  omega
/-- a header ahead of its checksum, of a body of n bytes -/
def kh (d : Dg) (n : Nat) (c : Int) : ByteArray := hd (64 + (20 + d.op.size : Int) / 4) (d.bi % 256) (20 + (d.op.size : Int) + n) (d.bi / 256 % 65536) (top2 (d.bi / 16777216)) d.tl d.pr c d.sa d.da d.op
def kwh (d : Dg) (b : ByteArray) : ByteArray := kh d b.size (65535 - ksm (kh d b.size 0)) ++ b ++ d.ta
set_option maxHeartbeats 4000000 in
theorem whole_core (d : Dg) (b A0 A1 A2 A3 A4 A5 A6 A7 E H R : ByteArray) (h v n x3 x4 f k c : Int) (w : World) (ho : d.op.size ≤ 12) (hb : b.size ≤ 65515) (hta : d.ta.size ≤ 65535) (hh : 20 + (d.op.size : Int) = h) (hv : 64 + h / 4 = v) (hn : h + (b.size : Int) = n) (hx3 : d.bi / 256 = x3) (hx4 : d.bi / 16777216 = x4) (hf : bits .and .i64 x4 49152 = f)
    (z0 : A0.size = 1) (z1 : A1.size = 1) (z2 : A2.size = 2) (z3 : A3.size = 2) (z4 : A4.size = 2) (z5 : A5.size = 1) (z6 : A6.size = 1) (z7 : A7.size = 2) (zE : E.size = 8) (hH : A0 ++ A1 ++ A2 ++ A3 ++ A4 ++ A5 ++ A6 ++ A7 ++ E ++ d.op = H) (hHz : H.size = 20 + d.op.size) (k0 : 0 ≤ k) (k1 : k ≤ 65535) (hc : 65535 - k = c) (zR : R.size = H.size)
    (c0 : RetB 59 #[.int .i64 v] (.string A0)) (c1 : RetB 59 #[.int .i64 d.bi] (.string A1)) (c2 : RetB 60 #[.int .i64 n] (.string A2)) (c3 : RetB 60 #[.int .i64 x3] (.string A3)) (c4 : RetB 60 #[.int .i64 f] (.string A4))
    (c5 : RetB 59 #[.int .i64 d.tl] (.string A5)) (c6 : RetB 59 #[.int .i64 d.pr] (.string A6)) (c7 : RetB 60 #[.int .i64 0] (.string A7)) (cE : RetB 82 #[.agg (dgl d)] (.string E)) (cK : Ret 62 #[.string H] (.int .i64 k)) (cP : RetB 61 #[.string H, .int .i64 10, .int .i64 c] (.string R)) :
    Calls Tryz.prog 47 #[.agg (dgl d), .string b] w fun e w' => e = .returned (.string (R ++ b ++ d.ta)) ∧ Below w.heap.size w w' := by
  have q0 := Dok.at (d := d) (w := w) 0 (u := (.int .i64 d.pr)) rfl
  have q1 := Dok.at (d := d) (w := w) 1 (u := (.int .i64 d.kd)) rfl
  have q2 := Dok.at (d := d) (w := w) 2 (u := (.bool d.ba)) rfl
  have q3 := Dok.at (d := d) (w := w) 3 (u := (.int .i64 d.sa)) rfl
  have q4 := Dok.at (d := d) (w := w) 4 (u := (.int .i64 d.sp)) rfl
  have q5 := Dok.at (d := d) (w := w) 5 (u := (.int .i64 d.da)) rfl
  have q6 := Dok.at (d := d) (w := w) 6 (u := (.int .i64 d.dp)) rfl
  have q7 := Dok.at (d := d) (w := w) 7 (u := (.int .i64 d.tl)) rfl
  have q8 := Dok.at (d := d) (w := w) 8 (u := (.int .i64 d.bi)) rfl
  have q9 := Dok.at (d := d) (w := w) 9 (u := (.int .i64 d.sr)) rfl
  have q10 := Dok.at (d := d) (w := w) 10 (u := (.string d.op)) rfl
  have q11 := Dok.at (d := d) (w := w) 11 (u := (.string d.md)) rfl
  have q12 := Dok.at (d := d) (w := w) 12 (u := (.string d.tx)) rfl
  have q13 := Dok.at (d := d) (w := w) 13 (u := (.string d.ta)) rfl
  have ds : Hid (Dok d w (w.alloc (.cells (dgl d) 33))) := Dok.start d w
  have x1 := or64 (h / 4) (by omega) (by omega)
  have hq : h.tdiv 4 = h / 4 := Int.tdiv_eq_ediv_of_nonneg (by omega)
  have hw1 : IntKind.i64.wrap (h.tdiv 4) = h / 4 := by rw [hq, IntKind.wrap_i64]; omega
  have hw1' : IntKind.i64.wrap (h / 4) = h / 4 := by rw [IntKind.wrap_i64]; omega
  have hw2 : IntKind.i64.wrap (h + (b.size : Int)) = n := by rw [hn, IntKind.wrap_i64]; omega
  have hwn : IntKind.i64.wrap n = n := by rw [IntKind.wrap_i64]; omega
  have hwc : IntKind.i64.wrap c = c := by rw [IntKind.wrap_i64]; omega
  have g1 : (A0 ++ A1).size = 2 := by rw [ByteArray.size_append]; omega
  have g2 : (A0 ++ A1 ++ A2).size = 4 := by rw [ByteArray.size_append]; omega
  have g3 : (A0 ++ A1 ++ A2 ++ A3).size = 6 := by rw [ByteArray.size_append]; omega
  have g4 : (A0 ++ A1 ++ A2 ++ A3 ++ A4).size = 8 := by rw [ByteArray.size_append]; omega
  have g5 : (A0 ++ A1 ++ A2 ++ A3 ++ A4 ++ A5).size = 9 := by rw [ByteArray.size_append]; omega
  have g6 : (A0 ++ A1 ++ A2 ++ A3 ++ A4 ++ A5 ++ A6).size = 10 := by rw [ByteArray.size_append]; omega
  have g7 : (A0 ++ A1 ++ A2 ++ A3 ++ A4 ++ A5 ++ A6 ++ A7).size = 12 := by rw [ByteArray.size_append]; omega
  have g8 : (A0 ++ A1 ++ A2 ++ A3 ++ A4 ++ A5 ++ A6 ++ A7 ++ E).size = 20 := by rw [ByteArray.size_append]; omega
  have g9 : (R ++ b).size ≤ 70000 := by rw [ByteArray.size_append]; omega
  unfold dgl at cE ds ⊢
  go_enter Tryz.func47, Tryz.ntmps47
  go_wp2
  go_region_held (fun w' => Dok d w w') (first | assumption | exact ds.out.drew | exact Dok.drew (by assumption)) (first
    | (go_at_call_of 59 (Value.int .i64 v); refine Calls.mono (c0.at _) ?_; rintro e wk ⟨rfl, hbk⟩; have hkk := Dok.next (d := d) (w := w) (by assumption) hbk)
    | (go_at_call_of 59 (Value.int .i64 d.bi); refine Calls.mono (c1.at _) ?_; rintro e wk ⟨rfl, hbk⟩; have hkk := Dok.next (d := d) (w := w) (by assumption) hbk)
    | (go_at_call_of 60 (Value.int .i64 n); refine Calls.mono (c2.at _) ?_; rintro e wk ⟨rfl, hbk⟩; have hkk := Dok.next (d := d) (w := w) (by assumption) hbk)
    | (go_at_call_of 60 (Value.int .i64 x3); refine Calls.mono (c3.at _) ?_; rintro e wk ⟨rfl, hbk⟩; have hkk := Dok.next (d := d) (w := w) (by assumption) hbk)
    | (go_at_call_of 60 (Value.int .i64 f); refine Calls.mono (c4.at _) ?_; rintro e wk ⟨rfl, hbk⟩; have hkk := Dok.next (d := d) (w := w) (by assumption) hbk)
    | (go_at_call_of 59 (Value.int .i64 d.tl); refine Calls.mono (c5.at _) ?_; rintro e wk ⟨rfl, hbk⟩; have hkk := Dok.next (d := d) (w := w) (by assumption) hbk)
    | (go_at_call_of 59 (Value.int .i64 d.pr); refine Calls.mono (c6.at _) ?_; rintro e wk ⟨rfl, hbk⟩; have hkk := Dok.next (d := d) (w := w) (by assumption) hbk)
    | (go_at_call_of 60 (Value.int .i64 0); refine Calls.mono (c7.at _) ?_; rintro e wk ⟨rfl, hbk⟩; have hkk := Dok.next (d := d) (w := w) (by assumption) hbk)
    | (go_at_call 82; refine Calls.mono (cE.at _) ?_; rintro e wk ⟨rfl, hbk⟩; have hkk := Dok.next (d := d) (w := w) (by assumption) hbk))
  go_wp2
  go_region_held (fun w' => Dok d w w') (first | assumption | exact ds.out.drew | exact Dok.drew (by assumption)) (first
    | (go_at_call 62; refine Calls.mono (cK.at _) ?_; rintro e wk ⟨rfl, hwk⟩; replace hwk := hwk.symm; subst hwk)
    | (go_at_call 61; refine Calls.mono (cP.at _) ?_; rintro e wk ⟨rfl, hbk⟩; have hkk := Dok.next (d := d) (w := w) (by assumption) hbk))
  all_goals
    go_wp2
    go_ret
    exact ⟨rfl, Dok.below (by assumption)⟩
end Go.Proofs.YthiljpbodmajaaaGreat
