/-
  CONTRACTS: package natboxkeep: conf, fill.
-/
import Derived.Test.YthiljpbodmajaaaGreatKepg
import Derived.Deep.OwnRows
namespace Go.Proofs.YthiljpbodmajaaaGreat
open Go.RowKit Plain
set_option linter.unusedVariables false

/-- c, taken as a configuration -/
def cnf (c : Cf) : Cf := { ia := adr c.ia, oa := if adr c.ia = adr c.oa then adr (adr c.oa + 1) else adr c.oa, lo := wth c.lo 1 65535, hi := wth c.hi (wth c.lo 1 65535) 65535, cp := wth c.cp 1 64, im := wth c.im 100 65535, om := wth c.om 100 65535, iu := wth c.iu 1 100000, it := wth c.it 1 100000, iq := wth c.iq 1 100000, bu := wth c.bu 0 100, ra := wth c.ra 0 100 }
/-- c's numbers are numbers of 64 bits -/
structure Cfwf (c : Cf) : Prop where
  ia : -9223372036854775808 ≤ c.ia ∧ c.ia < 9223372036854775808
  oa : -9223372036854775808 ≤ c.oa ∧ c.oa < 9223372036854775808
  lo : -9223372036854775808 ≤ c.lo ∧ c.lo < 9223372036854775808
  hi : -9223372036854775808 ≤ c.hi ∧ c.hi < 9223372036854775808
  cp : -9223372036854775808 ≤ c.cp ∧ c.cp < 9223372036854775808
  im : -9223372036854775808 ≤ c.im ∧ c.im < 9223372036854775808
  om : -9223372036854775808 ≤ c.om ∧ c.om < 9223372036854775808
  iu : -9223372036854775808 ≤ c.iu ∧ c.iu < 9223372036854775808
  it : -9223372036854775808 ≤ c.it ∧ c.it < 9223372036854775808
  iq : -9223372036854775808 ≤ c.iq ∧ c.iq < 9223372036854775808
  bu : -9223372036854775808 ≤ c.bu ∧ c.bu < 9223372036854775808
  ra : -9223372036854775808 ≤ c.ra ∧ c.ra < 9223372036854775808
set_option maxHeartbeats 8000000 in
theorem conf_core (c : Cf) (A B B' x2 x3 x4 x5 x6 x7 x8 x9 x10 x11 oa : Int) (w : World) (b0 : 0 ≤ B) (b1 : B < 4294967296) (hoa : oa = if A = B then B' else B)
    (c0 : Ret 40 #[.int .i64 c.ia] (.int .i64 A)) (c1 : Ret 40 #[.int .i64 c.oa] (.int .i64 B)) (c1' : Ret 40 #[.int .i64 (B + 1)] (.int .i64 B'))
    (c2 : Ret 18 #[.int .i64 c.lo, .int .i64 1, .int .i64 65535] (.int .i64 x2)) (c3 : Ret 18 #[.int .i64 c.hi, .int .i64 x2, .int .i64 65535] (.int .i64 x3)) (c4 : Ret 18 #[.int .i64 c.cp, .int .i64 1, .int .i64 64] (.int .i64 x4))
    (c5 : Ret 18 #[.int .i64 c.im, .int .i64 100, .int .i64 65535] (.int .i64 x5)) (c6 : Ret 18 #[.int .i64 c.om, .int .i64 100, .int .i64 65535] (.int .i64 x6)) (c7 : Ret 18 #[.int .i64 c.iu, .int .i64 1, .int .i64 100000] (.int .i64 x7))
    (c8 : Ret 18 #[.int .i64 c.it, .int .i64 1, .int .i64 100000] (.int .i64 x8)) (c9 : Ret 18 #[.int .i64 c.iq, .int .i64 1, .int .i64 100000] (.int .i64 x9)) (c10 : Ret 18 #[.int .i64 c.bu, .int .i64 0, .int .i64 100] (.int .i64 x10)) (c11 : Ret 18 #[.int .i64 c.ra, .int .i64 0, .int .i64 100] (.int .i64 x11)) :
    Calls Tryz.prog 12 #[.agg (cfl c)] w fun e w' => e = .returned (.agg #[.int .i64 A, .int .i64 oa, .int .i64 x2, .int .i64 x3, .int .i64 x4, .int .i64 x5, .int .i64 x6, .int .i64 x7, .int .i64 x8, .int .i64 x9, .int .i64 x10, .int .i64 x11]) ∧ Below w.heap.size w w' := by
  have key : (A = B ∧ oa = B') ∨ ((A == B) = false ∧ oa = B) := by
    by_cases h : A = B
    · rw [if_pos h] at hoa; exact .inl ⟨h, hoa⟩
    · rw [if_neg h] at hoa; exact .inr ⟨by simpa using h, hoa⟩
  clear hoa
  unfold cfl
  rcases key with ⟨rfl, rfl⟩ | ⟨h, rfl⟩
  · go_enter Tryz.func12, Tryz.ntmps12
    go_wp2_with fail
    refine Calls.mono (c0.at _) ?_; rintro e w' ⟨rfl, rfl⟩
    go_wp2_with fail
    refine Calls.mono (c1.at _) ?_; rintro e w' ⟨rfl, rfl⟩
    go_wp2_with fail
    refine Calls.mono (c1'.at _) ?_; rintro e w' ⟨rfl, rfl⟩
    go_wp2_with fail
    refine Calls.mono (c2.at _) ?_; rintro e w' ⟨rfl, rfl⟩
    go_wp2_with fail
    refine Calls.mono (c3.at _) ?_; rintro e w' ⟨rfl, rfl⟩
    go_wp2_with fail
    refine Calls.mono (c4.at _) ?_; rintro e w' ⟨rfl, rfl⟩
    go_wp2_with fail
    refine Calls.mono (c5.at _) ?_; rintro e w' ⟨rfl, rfl⟩
    go_wp2_with fail
    refine Calls.mono (c6.at _) ?_; rintro e w' ⟨rfl, rfl⟩
    go_wp2_with fail
    refine Calls.mono (c7.at _) ?_; rintro e w' ⟨rfl, rfl⟩
    go_wp2_with fail
    refine Calls.mono (c8.at _) ?_; rintro e w' ⟨rfl, rfl⟩
    go_wp2_with fail
    refine Calls.mono (c9.at _) ?_; rintro e w' ⟨rfl, rfl⟩
    go_wp2_with fail
    refine Calls.mono (c10.at _) ?_; rintro e w' ⟨rfl, rfl⟩
    go_wp2_with fail
    refine Calls.mono (c11.at _) ?_; rintro e w' ⟨rfl, rfl⟩
    go_wp2
    refine bodyPost_ret (v := .agg #[.int .i64 A, .int .i64 oa, .int .i64 x2, .int .i64 x3, .int .i64 x4, .int .i64 x5, .int .i64 x6, .int .i64 x7, .int .i64 x8, .int .i64 x9, .int .i64 x10, .int .i64 x11]) (by simp [results, Tryz.results12, go_sem]) rfl ⟨rfl, ?_⟩
    exact (((Below.refl _ _).alloc (Nat.le_refl _) _).alloc (by simp) _).alloc (by simp; omega) _
  · go_enter Tryz.func12, Tryz.ntmps12
    go_wp2_with fail
    refine Calls.mono (c0.at _) ?_; rintro e w' ⟨rfl, rfl⟩
    go_wp2_with fail
    refine Calls.mono (c1.at _) ?_; rintro e w' ⟨rfl, rfl⟩
    go_wp2_with fail
    refine Calls.mono (c2.at _) ?_; rintro e w' ⟨rfl, rfl⟩
    go_wp2_with fail
    refine Calls.mono (c3.at _) ?_; rintro e w' ⟨rfl, rfl⟩
    go_wp2_with fail
    refine Calls.mono (c4.at _) ?_; rintro e w' ⟨rfl, rfl⟩
    go_wp2_with fail
    refine Calls.mono (c5.at _) ?_; rintro e w' ⟨rfl, rfl⟩
    go_wp2_with fail
    refine Calls.mono (c6.at _) ?_; rintro e w' ⟨rfl, rfl⟩
    go_wp2_with fail
    refine Calls.mono (c7.at _) ?_; rintro e w' ⟨rfl, rfl⟩
    go_wp2_with fail
    refine Calls.mono (c8.at _) ?_; rintro e w' ⟨rfl, rfl⟩
    go_wp2_with fail
    refine Calls.mono (c9.at _) ?_; rintro e w' ⟨rfl, rfl⟩
    go_wp2_with fail
    refine Calls.mono (c10.at _) ?_; rintro e w' ⟨rfl, rfl⟩
    go_wp2_with fail
    refine Calls.mono (c11.at _) ?_; rintro e w' ⟨rfl, rfl⟩
    go_wp2
    refine bodyPost_ret (v := .agg #[.int .i64 A, .int .i64 oa, .int .i64 x2, .int .i64 x3, .int .i64 x4, .int .i64 x5, .int .i64 x6, .int .i64 x7, .int .i64 x8, .int .i64 x9, .int .i64 x10, .int .i64 x11]) (by simp [results, Tryz.results12, go_sem]) rfl ⟨rfl, ?_⟩
    exact (((Below.refl _ _).alloc (Nat.le_refl _) _).alloc (by simp) _).alloc (by simp; omega) _
theorem kconf_any (c : Cf) (W : Cfwf c) : RetB 12 #[.agg (cfl c)] (.agg (cfl (cnf c))) := fun w => by
  have hb := us_bd (adr_us c.oa)
  have hl := wth_bd c.lo 1 65535 (by decide)
  exact conf_core c (adr c.ia) (adr c.oa) (adr (adr c.oa + 1)) (wth c.lo 1 65535) _ _ _ _ _ _ _ _ _ _ w hb.1 hb.2 rfl (kaddr_any _ W.ia.1 W.ia.2) (kaddr_any _ W.oa.1 W.oa.2) (kaddr_any _ (by omega) (by omega))
    (fun w => kwithin_any _ _ _ w (by omega) (by omega) (by omega) W.lo.1 W.lo.2) (fun w => kwithin_any _ _ _ w hl.2 (by omega) (by omega) W.hi.1 W.hi.2) (fun w => kwithin_any _ _ _ w (by omega) (by omega) (by omega) W.cp.1 W.cp.2)
    (fun w => kwithin_any _ _ _ w (by omega) (by omega) (by omega) W.im.1 W.im.2) (fun w => kwithin_any _ _ _ w (by omega) (by omega) (by omega) W.om.1 W.om.2) (fun w => kwithin_any _ _ _ w (by omega) (by omega) (by omega) W.iu.1 W.iu.2)
    (fun w => kwithin_any _ _ _ w (by omega) (by omega) (by omega) W.it.1 W.it.2) (fun w => kwithin_any _ _ _ w (by omega) (by omega) (by omega) W.iq.1 W.iq.2) (fun w => kwithin_any _ _ _ w (by omega) (by omega) (by omega) W.bu.1 W.bu.2) (fun w => kwithin_any _ _ _ w (by omega) (by omega) (by omega) W.ra.1 W.ra.2)
theorem cnf_ok (c : Cf) : (cnf c).ok = true := by
  have h0 := adr_us c.ia
  have h1 := adr_us c.oa
  have h2 := adr_us (adr c.oa + 1)
  have b1 := us_bd h1
  have n1 := adr_next h1
  have l1 := wth_bd c.lo 1 65535 (by decide)
  have l2 := wth_bd c.hi (wth c.lo 1 65535) 65535 l1.2
  have l3 := wth_bd c.cp 1 64 (by decide)
  have l4' := wth_bd c.im 100 65535 (by decide)
  have l5 := wth_bd c.om 100 65535 (by decide)
  have l6 := wth_bd c.iu 1 100000 (by decide)
  have l7 := wth_bd c.it 1 100000 (by decide)
  have l8 := wth_bd c.iq 1 100000 (by decide)
  have l9 := wth_bd c.bu 0 100 (by decide)
  have l10 := wth_bd c.ra 0 100 (by decide)
  have hoa : usB (if adr c.ia = adr c.oa then adr (adr c.oa + 1) else adr c.oa) = true := by split <;> assumption
  have hne : (adr c.ia != (if adr c.ia = adr c.oa then adr (adr c.oa + 1) else adr c.oa)) = true := by
    simp only [bne_iff_ne, ne_eq]
    split
    · rename_i h
      rw [h, n1]
      have := h1
      simp only [usB, decide_eq_true_eq] at this
      split <;> omega
    · assumption
  simp [Cf.ok, validB, endsB, portsB, mtusB, idlesB, tailB, cnf, h0, hoa, neB, hne, inB, leB, l1.1, l2.1, l2.2, l3.1, l3.2, l4'.1, l4'.2, l5.1, l5.2, l6.1, l6.2, l7.1, l7.2, l8.1, l8.2, l9.1, l9.2, l10.1, l10.2]

set_option maxHeartbeats 1000000 in
theorem fill_any (s : ByteArray) (N : Nat) (hN : N ≤ 14) (hs : s.size ≤ maxLen) (w : World) : Calls Tryz.prog 41 #[.string s, .int .i64 (N : Int)] w fun e w' => (∃ t : ByteArray, t.size = N ∧ e = .returned (.string t)) ∧ Below w.heap.size w w' := by
  have hmk := run_make_row' (P := Tryz.prog) 121 5 (.int .u8 0) 1 Tryz.underlying121 (by kernel_rfl) rfl .i64 .i64 N (by omega) (by omega)
  have hr0 : Hid ((w.alloc (.cells (madeCells #[.int .u8 0] N) 5)).rowIs w.heap.size 5 N (fun _ => .int .u8 0)) := World.rowIs_made w _ N _
  go_enter Tryz.func41, Tryz.ntmps41
  go_wp2
  go_loopw [6] (fun i wr => ∃ (k : Nat) (f : Nat → Int), k ≤ N ∧ i = .int .i64 (k : Int) ∧ wr.rowIs w.heap.size 5 N (fun j => .int .u8 (f j)) ∧ Below w.heap.size w wr) (fun i _ => N - (intOf i).toNat)
  case atStart => exact ⟨0, fun _ => 0, by omega, rfl, hr0.out, (Below.refl _ _).alloc (Nat.le_refl _) _⟩
  case round =>
    obtain ⟨k, f, hk, rfl, hrow, hbel⟩ := hrel
    by_cases h1 : k < N
    · by_cases h2 : k < s.size
      · have hc := hrow.cell h1
        have hf := hrow.frozen k
        have HR : Hid _ := hrow
        have HB : Hid _ := hbel
        clear hrow hbel
        go_wp2
        exact ⟨⟨k + 1, fun j => if j = k then ((s[k].toNat : Nat) : Int) else f j, by omega, by go_num, (World.rowIs.set (f := fun j => .int .u8 (f j)) HR.out k _).congr (fun i hi => by by_cases e : i = k <;> simp [e]), HB.out.setCell (Nat.le_refl _) _⟩, by simp [intOf]; omega⟩
      · have h2' : decide ((k : Int) < (s.size : Int)) = false := by simp; omega
        have hcv := run_convert_bytes_arg (P := Tryz.prog) wr 121 5 Tryz.underlying121 Tryz.underlying5 w.heap.size 0 N N ((List.range N).map f) (by simp) (fun i hi => by have := hrow.cell hi; simpa [hi] using this) 9 Tryz.underlying9
        have HB : Hid _ := hbel
        clear hrow hbel
        go_wp2
        go_ret
        exact ⟨⟨_, by rw [strOfNums_size]; simp, rfl⟩, HB.out⟩
    · have h1' : decide ((k : Int) < (N : Int)) = false := by simp; omega
      have hcv := run_convert_bytes_arg (P := Tryz.prog) wr 121 5 Tryz.underlying121 Tryz.underlying5 w.heap.size 0 N N ((List.range N).map f) (by simp) (fun i hi => by have := hrow.cell hi; simpa [hi] using this) 9 Tryz.underlying9
      have HB : Hid _ := hbel
      clear hrow hbel
      go_wp2
      go_ret
      exact ⟨⟨_, by rw [strOfNums_size]; simp, rfl⟩, HB.out⟩
end Go.Proofs.YthiljpbodmajaaaGreat
