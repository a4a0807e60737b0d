/-
  CONTRACTS: package natboxlaw: made gives a pair.
-/
import Derived.Test.YthiljpbodmajaabGreatPrfr
import Derived.Test.YthiljpbodmajaabGreatCfgn
import Derived.Test.YthiljpbodmajaabGreatMsga
import Derived.Test.YthiljpbodmajaabGreatRefe
import Derived.Test.YthiljpbodmajaabGreatLwst
namespace Go.Proofs.YthiljpbodmajaabGreat
open Go.RowKit Plain
set_option linter.unusedVariables false
set_option maxHeartbeats 1000000 in
theorem refNew_full (a0 a1 a2 a3 a4 a5 a6 a7 a8 a9 a10 a11 : Int) (w : World) (g0 : a0 < 9223372036854775808) (g1 : a1 < 9223372036854775808) (h : validB a0 a1 a2 a3 a4 a5 a6 a7 a8 a9 a10 a11 = true) :
    Calls Tryz.prog 93 #[.agg #[.int .i64 a0, .int .i64 a1, .int .i64 a2, .int .i64 a3, .int .i64 a4, .int .i64 a5, .int .i64 a6, .int .i64 a7, .int .i64 a8, .int .i64 a9, .int .i64 a10, .int .i64 a11]] w fun e w' => ∃ b : Nat, e = .returned (.pointer (some ⟨b, 0, none⟩)) ∧ Below w.heap.size w w' ∧ w.heap.size ≤ b ∧ w'.heap[b]? = some (.cells (rbc (Cf.mk a0 a1 a2 a3 a4 a5 a6 a7 a8 a9 a10 a11) 0 (.slice none 0 0) (.slice none 0 0)) 157 (0, 0)) := by
  go_enter Tryz.func93, Tryz.ntmps93
  go_wp2_with fail
  refine (valid_any a0 a1 a2 a3 a4 a5 a6 a7 a8 a9 a10 a11 _ g0 g1).mono ?_; rintro e w1 ⟨rfl, hb1⟩
  obtain ⟨hc1, hf1⟩ := bcell hb1
  have hz1 : w.heap.size < w1.heap.size := by have := hb1.size; simp at this; omega
  go_wp2
  go_ret
  exact ⟨_, rfl, (((Below.refl _ _).alloc (Nat.le_refl _) _).trans (hb1.mono (by simp))).alloc (by omega) _, by omega, alloc1 _ _⟩
/-- a new pair -/
def ps0 (c : Cf) (x r : Nat) : Ps := ⟨x, r, c, 0, c.bu, [], [], [], .slice none 0 0, .slice none 0 0, .slice none 0 0⟩
theorem pr0 {w : World} {base x r : Nat} {c : Cf} (h : c.ok = true) (hb : base ≤ w.heap.size) (hx : base ≤ x) (hr : base ≤ r) (hn : x ≠ r) (bx : w.heap[x]? = some (.cells (bxc c (.slice none 0 0) c.bu 0) 81 (0, 0))) (br : w.heap[r]? = some (.cells (rbc c 0 (.slice none 0 0) (.slice none 0 0)) 157 (0, 0))) : Pr w base (ps0 c x r) := by
  have C := cok_of h
  have R := cok_rest h
  have n0 : ∀ k : Nat, (Value.slice none 0 0).ownBlock ≠ some k := fun k e => by cases e
  refine ⟨⟨bx, rfl, Row.nil w base, n0 _, hb⟩, ⟨⟨br, Urow.nil w base, World.ownsRow_nil w base _ _, n0 _, n0 _, fun k e => (n0 k e).elim, hb⟩, sim_start c (by have := C.c1; omega), fun u hu => (by cases hu), Int.le_refl 0, (by decide : (0 : Int) ≤ 1099511627776), h, ?_, fun t ht => (by cases ht)⟩, inv_start c.bu c.ra, List.Pairwise.nil, R.1.1, (fun u hu => by cases hu), hx, hr, hn, n0 _, n0 _, n0 _, fun k e => (n0 k e).elim⟩
  show tokR c 0 [] = c.bu
  simp [tokR, sinceR]
set_option maxHeartbeats 1000000 in
theorem made_yes (a0 a1 a2 a3 a4 a5 a6 a7 a8 a9 a10 a11 : Int) (w : World) (g0 : a0 < 9223372036854775808) (g1 : a1 < 9223372036854775808) (hv : validB a0 a1 a2 a3 a4 a5 a6 a7 a8 a9 a10 a11 = true) :
    Calls Tryz.prog 56 #[.agg #[.int .i64 a0, .int .i64 a1, .int .i64 a2, .int .i64 a3, .int .i64 a4, .int .i64 a5, .int .i64 a6, .int .i64 a7, .int .i64 a8, .int .i64 a9, .int .i64 a10, .int .i64 a11]] w fun e w' => ∃ x r : Nat, e = .returned (.tuple #[.agg #[.pointer (some ⟨x, 0, none⟩), .pointer (some ⟨r, 0, none⟩)], .bool true]) ∧ Below w.heap.size w w' ∧ w.heap.size ≤ x ∧ w.heap.size ≤ r ∧ x ≠ r ∧
      w'.heap[x]? = some (.cells (bxc (Cf.mk a0 a1 a2 a3 a4 a5 a6 a7 a8 a9 a10 a11) (.slice none 0 0) a10 0) 81 (0, 0)) ∧ w'.heap[r]? = some (.cells (rbc (Cf.mk a0 a1 a2 a3 a4 a5 a6 a7 a8 a9 a10 a11) 0 (.slice none 0 0) (.slice none 0 0)) 157 (0, 0)) := by
  have hc : confB a0 a1 a2 a3 a4 a5 a6 a7 a8 a9 a10 a11 = true := by rw [confB_valid]; exact hv
  have HV : Hid _ := hv
  have HC : Hid _ := hc
  clear hv hc
  go_enter Tryz.func56, Tryz.ntmps56
  go_wp2_with fail
  refine (config_any a0 a1 a2 a3 a4 a5 a6 a7 a8 a9 a10 a11 _).mono ?_; rintro e w1 ⟨rfl, hb1⟩
  obtain ⟨hc1, hf1⟩ := bcell hb1
  have hz1 : w.heap.size + 1 < w1.heap.size := by have := hb1.size; simp at this; omega
  have hy1 : w.heap.size < w1.heap.size := by omega
  go_wp2_with fail
  refine (new_yes a0 a1 a2 a3 a4 a5 a6 a7 a8 a9 a10 a11 _ HC.out).mono ?_; rintro e w2 ⟨x2, rfl, hb2, hx2, hB2⟩
  obtain ⟨hc2, hf2⟩ := bcell hb2
  have hz2 : w.heap.size + 1 < w2.heap.size := by have := hb2.size; omega
  have hy2 : w.heap.size < w2.heap.size := by omega
  have hl2 : x2 < w2.heap.size := (Array.getElem?_eq_some_iff.1 hB2).1
  have HB2 : Hid _ := hB2
  clear hB2
  go_wp2_with fail
  refine (refNew_full a0 a1 a2 a3 a4 a5 a6 a7 a8 a9 a10 a11 _ g0 g1 HV.out).mono ?_; rintro e w3 ⟨x3, rfl, hb3, hx3, hB3⟩
  obtain ⟨hc3, hf3⟩ := bcell hb3
  have hz3 : w.heap.size + 1 < w3.heap.size := by have := hb3.size; omega
  have hy3 : w.heap.size < w3.heap.size := by omega
  have HB3 : Hid _ := hB3
  have HA2 : Hid _ := (hb3.block x2 hl2).trans HB2.out
  clear hB3 HB2
  go_wp2_with (go_at_call 91; refine (num_any _ _).mono ?_; rintro e w' ⟨rfl, rfl⟩)
  have e2 : x2 ≠ w.heap.size := by omega
  have e2' : x2 ≠ w.heap.size + 1 := by omega
  have e3 : x3 ≠ w.heap.size := by omega
  have e3' : x3 ≠ w.heap.size + 1 := by omega
  exact bodyPost_ret (v := .tuple #[.agg #[.pointer (some ⟨x2, 0, none⟩), .pointer (some ⟨x3, 0, none⟩)], .bool true]) (by simp [results, Tryz.results56, go_sem, hc1, hc2, hc3, hz1, hz2]) rfl
    ⟨_, _, rfl, (((((((Below.refl _ _).alloc (Nat.le_refl _) _).alloc (by simp) _).trans (hb1.mono (by simp; omega))).trans (hb2.mono (by omega))).trans (hb3.mono (by omega))).setCell (by simp) _).setCell (by simp) _, by omega, by omega, by omega,
      (Below.heap_setCell _ _ _ _ (by first | exact e2' | exact e2)).trans ((Below.heap_setCell _ _ _ _ (by first | exact e2' | exact e2)).trans HA2.out), (Below.heap_setCell _ _ _ _ (by first | exact e3' | exact e3)).trans ((Below.heap_setCell _ _ _ _ (by first | exact e3' | exact e3)).trans HB3.out)⟩
set_option maxHeartbeats 1000000 in
theorem made_no (a0 a1 a2 a3 a4 a5 a6 a7 a8 a9 a10 a11 : Int) (w : World) (g0 : a0 < 9223372036854775808) (g1 : a1 < 9223372036854775808) (hv : validB a0 a1 a2 a3 a4 a5 a6 a7 a8 a9 a10 a11 = false) :
    Calls Tryz.prog 56 #[.agg #[.int .i64 a0, .int .i64 a1, .int .i64 a2, .int .i64 a3, .int .i64 a4, .int .i64 a5, .int .i64 a6, .int .i64 a7, .int .i64 a8, .int .i64 a9, .int .i64 a10, .int .i64 a11]] w fun e w' => e = .returned (.tuple #[.agg #[.pointer none, .pointer none], .bool true]) ∧ Below w.heap.size w w' := by
  have hc : confB a0 a1 a2 a3 a4 a5 a6 a7 a8 a9 a10 a11 = false := by rw [confB_valid]; exact hv
  have HV : Hid _ := hv
  have HC : Hid _ := hc
  clear hv hc
  go_enter Tryz.func56, Tryz.ntmps56
  go_wp2_with fail
  refine (config_any a0 a1 a2 a3 a4 a5 a6 a7 a8 a9 a10 a11 _).mono ?_; rintro e w1 ⟨rfl, hb1⟩
  obtain ⟨hc1, hf1⟩ := bcell hb1
  have hz1 : w.heap.size + 1 < w1.heap.size := by have := hb1.size; simp at this; omega
  have hy1 : w.heap.size < w1.heap.size := by omega
  go_wp2_with fail
  refine (new_no a0 a1 a2 a3 a4 a5 a6 a7 a8 a9 a10 a11 _ HC.out).mono ?_; rintro e w2 ⟨rfl, hb2⟩
  obtain ⟨hc2, hf2⟩ := bcell hb2
  have hz2 : w.heap.size + 1 < w2.heap.size := by have := hb2.size; omega
  have hy2 : w.heap.size < w2.heap.size := by omega
  go_wp2_with fail
  refine (refNew_no a0 a1 a2 a3 a4 a5 a6 a7 a8 a9 a10 a11 _ g0 g1 HV.out).mono ?_; rintro e w3 ⟨rfl, hb3⟩
  obtain ⟨hc3, hf3⟩ := bcell hb3
  have hz3 : w.heap.size + 1 < w3.heap.size := by have := hb3.size; omega
  have hy3 : w.heap.size < w3.heap.size := by omega
  go_wp2_with (go_at_call 91; refine (num_any _ _).mono ?_; rintro e w' ⟨rfl, rfl⟩)
  exact bodyPost_ret (v := .tuple #[.agg #[.pointer none, .pointer none], .bool true]) (by simp [results, Tryz.results56, go_sem, hc1, hc2, hc3, hz1, hz2]) rfl
    ⟨rfl, (((((((Below.refl _ _).alloc (Nat.le_refl _) _).alloc (by simp) _).trans (hb1.mono (by simp; omega))).trans (hb2.mono (by omega))).trans (hb3.mono (by omega))).setCell (by simp) _).setCell (by simp) _⟩
end Go.Proofs.YthiljpbodmajaabGreat
namespace Go.Proofs.YthiljpbodmajaabGreat
open Go.RowKit Plain
set_option linter.unusedVariables false
theorem lchecks_any (s : ByteArray) (hl : s.size ≤ maxLen) : RetB 57 #[.string s] (.bool true) := fun w => by
  have c1 : RetB 35 #[.string s] (.int .i64 (chk s)) := fun w => boxCheck_any s w hl
  have c2 : RetB 94 #[.string s] (.int .i64 (chk s)) := fun w => refCheck_any s w hl
  generalize chk s = c at c1 c2
  go_enter Tryz.func57, Tryz.ntmps57
  go_wp2_with fail
  refine Calls.mono (c1.at _) ?_; rintro e w1 ⟨rfl, hb1⟩
  go_wp2_with fail
  refine (num_any _ _).mono ?_; rintro e w' ⟨rfl, rfl⟩
  go_wp2_with fail
  refine Calls.mono (c2.at _) ?_; rintro e w2 ⟨rfl, hb2⟩
  go_wp2
  go_ret
  exact ⟨by simp, hb1.trans (hb2.mono hb1.size)⟩
theorem pick_any (c : Int) (n : Nat) (hn : 0 < n) (hm : n ≤ 9223372036854775807) (c0 : -9223372036854775808 ≤ c) (c1 : c < 9223372036854775808) : ∃ j : Nat, j < n ∧ Ret 59 #[.int .i64 c, .int .i64 (n : Int)] (.int .i64 (j : Int)) := by
  have key : ∀ d : Int, 0 ≤ d → ∃ j : Nat, j < n ∧ d % (n : Int) = (j : Int) := fun d hd => by
    have h1 := Int.emod_nonneg d (show (n : Int) ≠ 0 by omega)
    have h2 := Int.emod_lt_of_pos d (show (0 : Int) < (n : Int) by omega)
    exact ⟨(d % (n : Int)).toNat, by omega, by omega⟩
  have hnz : ¬ (n : Int) = 0 := by omega
  by_cases h : c < 0
  · obtain ⟨j, hj, e⟩ := key (-(c + 1)) (by omega)
    refine ⟨j, hj, fun w => ?_⟩
    have hw1 : IntKind.i64.wrap (c + 1) = c + 1 := by rw [IntKind.wrap_i64]; omega
    have hw2 : IntKind.i64.wrap (-(c + 1)) = -(c + 1) := by rw [IntKind.wrap_i64]; omega
    have ht : Int.tmod (-(c + 1)) (n : Int) = (j : Int) := by rw [Int.tmod_eq_emod_of_nonneg (by omega)]; exact e
    have hw3 : IntKind.i64.wrap (j : Int) = (j : Int) := by rw [IntKind.wrap_i64]; omega
    go_enter Tryz.func59, Tryz.ntmps59
    go_wp2
    go_ret
    exact ⟨rfl, rfl⟩
  · obtain ⟨j, hj, e⟩ := key c (by omega)
    refine ⟨j, hj, fun w => ?_⟩
    have h' : 0 ≤ c := by omega
    have ht : Int.tmod c (n : Int) = (j : Int) := by rw [Int.tmod_eq_emod_of_nonneg (by omega)]; exact e
    have hw3 : IntKind.i64.wrap (j : Int) = (j : Int) := by rw [IntKind.wrap_i64]; omega
    clear h
    go_enter Tryz.func59, Tryz.ntmps59
    go_wp2
    go_ret
    exact ⟨rfl, rfl⟩
/-- the document's box -/
def someC : Cf := ⟨167772161, 3405803785, 40000, 40009, 2, 1500, 1500, 30, 60, 10, 2, 1⟩
/-- the document's first frame, as it goes in and as it comes out -/
def fIn : ByteArray := ⟨#[69, 0, 0, 32, 0, 0, 0, 0, 64, 17, 70, 142, 10, 0, 0, 5, 198, 51, 100, 7, 19, 136, 0, 53, 0, 12, 243, 18, 97, 98, 99, 100]⟩
def fOut : ByteArray := ⟨#[69, 0, 0, 32, 0, 0, 0, 0, 63, 17, 21, 137, 203, 0, 113, 9, 198, 51, 100, 7, 156, 64, 0, 53, 0, 12, 56, 85, 97, 98, 99, 100]⟩
theorem some_any : RetB 90 #[] (.agg #[.int .i64 167772161, .int .i64 3405803785, .int .i64 40000, .int .i64 40009, .int .i64 2, .int .i64 1500, .int .i64 1500, .int .i64 30, .int .i64 60, .int .i64 10, .int .i64 2, .int .i64 1]) := fun w => by
  go_enter Tryz.func90, Tryz.ntmps90
  go_wp2
  refine bodyPost_ret (v := .agg #[.int .i64 167772161, .int .i64 3405803785, .int .i64 40000, .int .i64 40009, .int .i64 2, .int .i64 1500, .int .i64 1500, .int .i64 30, .int .i64 60, .int .i64 10, .int .i64 2, .int .i64 1]) (by simp [results, Tryz.results90, go_sem]) rfl ⟨rfl, ?_⟩
  exact (Below.refl _ _).alloc (Nat.le_refl _) _
theorem first_ok : (frR someC 2 [] 0 fIn).er = 0 ∧ (frR someC 2 [] 0 fIn).sd = 1 ∧ (frR someC 2 [] 0 fIn).fr = fOut := by
  refine ⟨?_, ?_, ?_⟩ <;> kernel_rfl
end Go.Proofs.YthiljpbodmajaabGreat
namespace Go.Proofs.YthiljpbodmajaabGreat
open Go.RowKit Plain
set_option linter.unusedVariables false
theorem someC_ok : someC.ok = true := by kernel_rfl
theorem someV : validB 167772161 3405803785 40000 40009 2 1500 1500 30 60 10 2 1 = true := by kernel_rfl
theorem first_any {w : World} {base x : Nat} {v : Value} (T : Bat w base x someC 2 0 v []) : Calls Tryz.prog 18 #[.pointer (some ⟨x, 0, none⟩), .int .i64 0, .string ⟨#[69, 0, 0, 32, 0, 0, 0, 0, 64, 17, 70, 142, 10, 0, 0, 5, 198, 51, 100, 7, 19, 136, 0, 53, 0, 12, 243, 18, 97, 98, 99, 100]⟩] w fun e w' => e = .returned (.agg #[.int .i64 0, .int .i64 1, .string ⟨#[69, 0, 0, 32, 0, 0, 0, 0, 63, 17, 21, 137, 203, 0, 113, 9, 198, 51, 100, 7, 156, 64, 0, 53, 0, 12, 56, 85, 97, 98, 99, 100]⟩]) ∧ ∃ v' tk ms', BL w w' base x someC v v' tk 0 ms' := by
  refine (frame_all T someC_ok (tok_nil _ (by decide)) 0 fIn (by decide) (by decide)).mono ?_
  rintro e w' ⟨rfl, v', B⟩
  refine ⟨?_, v', _, _, B⟩
  obtain ⟨h1, h2, h3⟩ := first_ok
  unfold Rp.val rpv
  rw [h1, h2, h3]
  rfl
set_option maxHeartbeats 2000000 in
theorem begins_any : RetB 55 #[] (.bool true) := fun w => by
  have CS : Hid _ := some_any
  go_enter Tryz.func55, Tryz.ntmps55
  go_wp2_with fail
  refine Calls.mono (CS.out _) ?_; rintro e w1 ⟨rfl, hb1⟩
  have H1 : Hid (Below w.heap.size w w1) := hb1
  clear hb1 CS
  go_wp2_with fail
  refine (made_yes 167772161 3405803785 40000 40009 2 1500 1500 30 60 10 2 1 _ (by decide) (by decide) someV).mono ?_; rintro e w2 ⟨x, r, rfl, hb2, hx, hr, hn, Bx, Br⟩
  have H2 : Hid (Below w.heap.size w w2) := H1.out.trans (hb2.mono H1.out.size)
  have hs1 := H1.out.size
  have hxl : x < w2.heap.size := (Array.getElem?_eq_some_iff.1 Bx).1
  have HX : Hid _ := Bx
  clear hb2 Bx Br H1
  go_upto_region 2 with fail
  try go_frame
  obtain ⟨w3, hw3⟩ : ∃ w3, w3 = w2.alloc (.cells #[.pointer (some ⟨x, 0, none⟩), .pointer (some ⟨r, 0, none⟩)] 97) := ⟨_, rfl⟩
  rw [← hw3]
  have q0 : w3.cell? ⟨w2.heap.size, 0, none⟩ = some (.pointer (some ⟨x, 0, none⟩)) := by rw [hw3]; exact cell_of_row _ _ _ _ _ _ (alloc1 _ _)
  have H3 : Hid (Below w.heap.size w w3) := by rw [hw3]; exact H2.out.alloc H2.out.size _
  have T : Hid (Bat w3 w.heap.size x someC 2 0 (.slice none 0 0) []) := by
    refine ⟨?_, rfl, Row.nil _ _, by simp [Value.ownBlock], H3.out.size⟩
    rw [hw3]
    exact (push_lt _ _ _ hxl).trans HX.out
  have CF : Hid _ := first_any T.out
  clear hw3 HX H2
  generalize w2.heap.size = M at q0 hxl ⊢
  clear w2
  go_wp2_with fail
  refine Calls.mono CF.out ?_; rintro e w4 ⟨rfl, v', tk, ms', B⟩
  have H4 : Hid (Below w.heap.size w w4) := BL.below T.out B (by omega) H3.out
  clear CF B T H3 q0
  go_wp2_with fail
  refine (num_any _ _).mono ?_; rintro e w' ⟨rfl, hw⟩; replace hw := hw.symm; subst hw
  go_wp2
  go_ret
  exact ⟨by simp, H4.out.alloc H4.out.size _⟩
end Go.Proofs.YthiljpbodmajaabGreat
