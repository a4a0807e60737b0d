/-
  CONTRACTS: natboxkeep.fits.
-/
import Derived.Test.YthiljpbodmajaabGreatToks
import Derived.Test.YthiljpbodmajaabGreatKepg
import Derived.Deep.RegionHeld
namespace Go.Proofs.YthiljpbodmajaabGreat
open Go.RowKit Plain
set_option linter.unusedVariables false

theorem fits_few (c : Cf) (tv bv : Value) (now : Int) (w : World) (hb : c.bu < 1) :
    Calls Tryz.prog 20 #[.agg (cfl c), tv, bv, .int .i64 now] w fun e w' => e = .returned (.bool false) ∧ Below w.heap.size w w' := by
  unfold cfl
  have h1 : decide (c.bu < 1) = true := by simpa using hb
  go_enter Tryz.func20, Tryz.ntmps20
  go_wp2
  go_ret
  exact ⟨rfl, (Below.refl _ _).alloc (Nat.le_refl _) _⟩
theorem fits_nil (c : Cf) (now : Int) (w : World) (hb : 1 ≤ c.bu) :
    Calls Tryz.prog 20 #[.agg (cfl c), .slice none 0 0, .slice none 0 0, .int .i64 now] w fun e w' => e = .returned (.bool true) ∧ Below w.heap.size w w' := by
  unfold cfl
  have h1 : decide (c.bu < 1) = false := by simpa using hb
  go_enter Tryz.func20, Tryz.ntmps20
  go_wp2
  go_loop [9, 10] (fun n i => i = .int .i64 (-1)) (fun _ i => 0)
  case atStart => rfl
  case round =>
    subst hrel
    go_wp2
    go_ret
    exact ⟨rfl, (Below.refl _ _).alloc (Nat.le_refl _) _⟩
theorem drop_step {l : List (Int × Bool)} {j : Nat} {p : Int × Bool} (h : l[l.length - 1 - j]? = some p) (hj : j < l.length) : l.drop (l.length - (j + 1)) = p :: l.drop (l.length - j) := by
  obtain ⟨h1, h2⟩ := List.getElem?_eq_some_iff.1 h
  rw [show l.length - (j + 1) = l.length - 1 - j by omega, List.drop_eq_getElem_cons h1, h2, show l.length - 1 - j + 1 = l.length - j by omega]
set_option maxHeartbeats 4000000 in
theorem fits_in (c : Cf) (g1 g2 N cap1 cap2 : Nat) (l : List (Int × Bool)) (now : Int) (w : World) (hN : l.length = N) (hz : N ≤ 9223372036854775807) (b0 : 1 ≤ c.bu) (b1 : c.bu ≤ 100) (r0 : 0 ≤ c.ra) (r1 : c.ra ≤ 100) (n0 : 0 ≤ now) (n1 : now ≤ 2199023255552) (hl : ∀ p ∈ l, 0 ≤ p.1 ∧ p.1 ≤ now) (z1 : g1 < w.heap.size) (z2 : g2 < w.heap.size)
    (h1 : ∀ (j : Nat) p, l[N - 1 - j]? = some p → j < N → w.cell? ⟨g1, j, none⟩ = some (.int .i64 p.1)) (h2 : ∀ (j : Nat) p, l[N - 1 - j]? = some p → j < N → w.cell? ⟨g2, j, none⟩ = some (.bool p.2)) (r : Bool) (hr : r = true ↔ Qr c.bu c.ra now l 1) :
    Calls Tryz.prog 20 #[.agg (cfl c), .slice (some ⟨g1, 0, none⟩) N cap1, .slice (some ⟨g2, 0, none⟩) N cap2, .int .i64 now] w fun e w' => e = .returned (.bool r) ∧ Below w.heap.size w w' := by
  unfold cfl
  have H1 : Hid _ := h1
  have H2 : Hid _ := h2
  have HR : Hid _ := hr
  have HL : Hid _ := hl
  have HN : Hid _ := hN
  clear h1 h2 hr hl hN
  have hb1 : decide (c.bu < 1) = false := by simpa using b0
  go_enter Tryz.func20, Tryz.ntmps20
  go_wp2
  have C0 := alloc1 w (.cells #[.int .i64 c.ia, .int .i64 c.oa, .int .i64 c.lo, .int .i64 c.hi, .int .i64 c.cp, .int .i64 c.im, .int .i64 c.om, .int .i64 c.iu, .int .i64 c.it, .int .i64 c.iq, .int .i64 c.bu, .int .i64 c.ra] 23)
  have HC : Hid _ := C0
  have HB : Hid (Below w.heap.size w (w.alloc (.cells #[.int .i64 c.ia, .int .i64 c.oa, .int .i64 c.lo, .int .i64 c.hi, .int .i64 c.cp, .int .i64 c.im, .int .i64 c.om, .int .i64 c.iu, .int .i64 c.it, .int .i64 c.iq, .int .i64 c.bu, .int .i64 c.ra] 23))) := (Below.refl _ _).alloc (Nat.le_refl _) _
  clear C0
  go_loopw [9, 10] (fun nv iv wr => ∃ (i k : Int), nv = .int .i64 k ∧ iv = .int .i64 i ∧ -1 ≤ i ∧ i < (N : Int) ∧ 1 ≤ k ∧ k ≤ 1000000000000000 ∧ Hid (Qr c.bu c.ra now l 1 ↔ Qr c.bu c.ra now (l.drop (N - (i + 1).toNat)) k) ∧ Hid (Below w.heap.size w wr) ∧ wr.cell? ⟨w.heap.size, 10, none⟩ = some (.int .i64 c.bu) ∧ wr.cell? ⟨w.heap.size, 11, none⟩ = some (.int .i64 c.ra)) (fun _ iv _ => (intOf iv + 1).toNat)
  case atStart =>
    refine ⟨(N : Int) - 1, 1, rfl, by go_num, by omega, by omega, by omega, by omega, ?_, HB.out, cell_of_row _ _ _ _ _ _ HC.out, cell_of_row _ _ _ _ _ _ HC.out⟩
    show _ ↔ _
    rw [show N - ((N : Int) - 1 + 1).toNat = 0 by omega]
    exact Iff.rfl
  case round =>
    obtain ⟨i, k, rfl, rfl, i0, i1, k0, k1, hq, hB, q10, q11⟩ := hrel
    by_cases hi : 0 ≤ i
    · obtain ⟨j, rfl⟩ := Int.eq_ofNat_of_zero_le hi
      have hj : j < N := by omega
      obtain ⟨p, hp⟩ : ∃ p, l[N - 1 - j]? = some p := ⟨l[N - 1 - j]'(by have := HN.out; omega), List.getElem?_eq_getElem _⟩
      have c1 : wr.cell? ⟨g1, j, none⟩ = some (.int .i64 p.1) := (hB.out.cell (p := ⟨g1, j, none⟩) z1).trans (H1.out j p hp hj)
      have c2 : wr.cell? ⟨g2, j, none⟩ = some (.bool p.2) := (hB.out.cell (p := ⟨g2, j, none⟩) z2).trans (H2.out j p hp hj)
      have hd : Hid (l.drop (N - (j + 1)) = p :: l.drop (N - j)) := by
        have := HN.out
        subst this
        exact drop_step hp hj
      have hpl := HL.out p (List.mem_of_getElem? hp)
      have HP : Hid _ := hp
      clear hp hi i0
      obtain ⟨t, b⟩ := p
      simp only at c1 c2 hpl
      obtain ⟨t0, t1⟩ := hpl
      have m0 : 0 ≤ c.ra * (now - t) := Int.mul_nonneg r0 (by omega)
      have m1 : c.ra * (now - t) ≤ 100 * 2199023255552 := by
        have : c.ra * (now - t) ≤ 100 * (now - t) := Int.mul_le_mul_of_nonneg_right r1 (by omega)
        omega
      have hs : Hid (Qr c.bu c.ra now (l.drop (N - ((j : Int) + 1).toNat)) k ↔ (if b then k + 1 else k) ≤ c.bu + c.ra * (now - t) ∧ Qr c.bu c.ra now (l.drop (N - j)) (if b then k + 1 else k)) := by
        show _ ↔ _
        rw [show ((j : Int) + 1).toNat = j + 1 by omega, hd.out]
        exact Iff.rfl
      obtain ⟨q, hqq⟩ : ∃ q, c.ra * (now - t) = q := ⟨_, rfl⟩
      rw [hqq] at m0 m1 hs
      have w1 : IntKind.i64.wrap (now - t) = now - t := by rw [IntKind.wrap_i64]; omega
      have w2 : IntKind.i64.wrap q = q := by rw [IntKind.wrap_i64]; omega
      have w3 : IntKind.i64.wrap (c.bu + q) = c.bu + q := by rw [IntKind.wrap_i64]; omega
      have hjj : (j : Int) < (N : Int) := by omega
      have hBd : Hid (Below w.heap.size w wr.drew) := hB.out.drew
      cases b
      · have e : Hid (Qr c.bu c.ra now (l.drop (N - ((j : Int) + 1).toNat)) k ↔ k ≤ c.bu + q ∧ Qr c.bu c.ra now (l.drop (N - j)) k) := hs.out
        clear hs
        go_wp2
        go_region_held (fun w' => w'.cell? ⟨w.heap.size, 10, none⟩ = some (.int .i64 c.bu) ∧ w'.cell? ⟨w.heap.size, 11, none⟩ = some (.int .i64 c.ra) ∧ w'.cell? ⟨g1, j, none⟩ = some (.int .i64 t)) (go_keep) (fail)
        all_goals
          by_cases hc : k ≤ c.bu + q
          · have hc1 : decide (c.bu + q < k) = false := by simpa using hc
            go_wp2
            go_round
            case rel => exact ⟨(j : Int) - 1, k, rfl, by go_num, by omega, by omega, k0, by omega, by rw [show ((j : Int) - 1 + 1).toNat = j by omega]; exact hq.out.trans (e.out.trans ⟨fun h => h.2, fun h => ⟨hc, h⟩⟩), hBd.out, by simpa using q10, by simpa using q11⟩
            case measure => (simp [intOf]; try omega)
          · have hc1 : decide (c.bu + q < k) = true := by simpa using hc
            go_wp2
            go_ret
            exact ⟨by congr 2; cases r; rfl; exact absurd (e.out.1 (hq.out.1 (HR.out.1 rfl))).1 (by omega), hBd.out⟩
      · have e : Hid (Qr c.bu c.ra now (l.drop (N - ((j : Int) + 1).toNat)) k ↔ k + 1 ≤ c.bu + q ∧ Qr c.bu c.ra now (l.drop (N - j)) (k + 1)) := hs.out
        clear hs
        go_wp2
        go_region_held (fun w' => w'.cell? ⟨w.heap.size, 10, none⟩ = some (.int .i64 c.bu) ∧ w'.cell? ⟨w.heap.size, 11, none⟩ = some (.int .i64 c.ra) ∧ w'.cell? ⟨g1, j, none⟩ = some (.int .i64 t)) (go_keep) (fail)
        all_goals
          by_cases hc : k + 1 ≤ c.bu + q
          · have hc1 : decide (c.bu + q < k + 1) = false := by simpa using hc
            go_wp2
            go_round
            case rel => exact ⟨(j : Int) - 1, k + 1, rfl, by go_num, by omega, by omega, by omega, by omega, by rw [show ((j : Int) - 1 + 1).toNat = j by omega]; exact hq.out.trans (e.out.trans ⟨fun h => h.2, fun h => ⟨hc, h⟩⟩), hBd.out, by simpa using q10, by simpa using q11⟩
            case measure => (simp [intOf]; try omega)
          · have hc1 : decide (c.bu + q < k + 1) = true := by simpa using hc
            go_wp2
            go_ret
            exact ⟨by congr 2; cases r; rfl; exact absurd (e.out.1 (hq.out.1 (HR.out.1 rfl))).1 (by omega), hBd.out⟩
    · have hi1 : i = -1 := by omega
      subst hi1
      have e : Hid (r = true) := HR.out.2 (hq.out.2 (by rw [show N - (-1 + 1 : Int).toNat = N by omega, List.drop_eq_nil_of_le (by have := HN.out; omega)]; trivial))
      go_wp2
      go_ret
      have er : r = true := e.out
      subst er
      exact ⟨rfl, hB.out⟩
end Go.Proofs.YthiljpbodmajaabGreat
