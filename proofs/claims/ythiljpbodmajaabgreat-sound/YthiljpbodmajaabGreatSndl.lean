/-
  CONTRACTS: natboxkeep.Sound.
-/
import Derived.Test.YthiljpbodmajaabGreatKepv
import Derived.Test.YthiljpbodmajaabGreatKepz
import Derived.Deep.RegionHeld
import Derived.Deep.DeepCutAuto
namespace Go.Proofs.YthiljpbodmajaabGreat
open Go.RowKit Plain
set_option linter.unusedVariables false

theorem cels12 {w : World} {g : Nat} {t : TypeId} {fr : Nat × Nat} {v0 v1 v2 v3 v4 v5 v6 v7 v8 v9 v10 v11 : Value} (h : w.heap[g]? = some (.cells #[v0, v1, v2, v3, v4, v5, v6, v7, v8, v9, v10, v11] t fr)) : w.cell? ⟨g, 0, none⟩ = some v0 ∧ w.cell? ⟨g, 1, none⟩ = some v1 ∧ w.cell? ⟨g, 2, none⟩ = some v2 ∧ w.cell? ⟨g, 3, none⟩ = some v3 ∧ w.cell? ⟨g, 4, none⟩ = some v4 ∧ w.cell? ⟨g, 5, none⟩ = some v5 ∧ w.cell? ⟨g, 6, none⟩ = some v6 ∧ w.cell? ⟨g, 7, none⟩ = some v7 ∧ w.cell? ⟨g, 8, none⟩ = some v8 ∧ w.cell? ⟨g, 9, none⟩ = some v9 ∧ w.cell? ⟨g, 10, none⟩ = some v10 ∧ w.cell? ⟨g, 11, none⟩ = some v11 :=
  ⟨cell_of_row w g 0 _ t fr h, cell_of_row w g 1 _ t fr h, cell_of_row w g 2 _ t fr h, cell_of_row w g 3 _ t fr h, cell_of_row w g 4 _ t fr h, cell_of_row w g 5 _ t fr h, cell_of_row w g 6 _ t fr h, cell_of_row w g 7 _ t fr h, cell_of_row w g 8 _ t fr h, cell_of_row w g 9 _ t fr h, cell_of_row w g 10 _ t fr h, cell_of_row w g 11 _ t fr h⟩
set_option maxHeartbeats 16000000 in
set_option maxRecDepth 2000 in
theorem sndl_core (c g : Cf) (P : Dg → Prop) (R : Int → List Mp → Prop) (k0 k1 k2 k3 k4 k5 k6 k7 k8 : Int) (m0 m1 m2 : ByteArray) (A off len cap : Nat) (ao : Option Addr) (zs : List (Int × Int × ByteArray)) (w : World) (hao : 0 < len → ao = some ⟨A, off, none⟩) (cC : RetB 10 #[.agg (cfl c)] (.agg (cfl g)))
    (cN : ∀ wx, Calls Tryz.prog 11 #[.agg (cfl g)] wx fun e w' => ∃ b, e = .returned (.tuple #[.pointer (some ⟨b, 0, none⟩), .int .i64 0]) ∧ Bat w' wx.heap.size b g g.bu 0 (.slice none 0 0) [] ∧ Below wx.heap.size wx w' ∧ wx.heap.size ≤ b)
    (cS : ∀ wx, Calls Tryz.prog 12 #[.agg #[.int .i64 k0, .int .i64 k1, .int .i64 k2, .int .i64 k3, .int .i64 k4, .int .i64 k5, .int .i64 k6, .int .i64 k7, .int .i64 k8, .string m0, .string m1, .string m2], .agg (cfl g), .int .i64 g.om] wx fun e w' => ∃ d, e = .returned (.agg (dgl d)) ∧ P d ∧ Below wx.heap.size wx w')
    (X : Dg → ByteArray) (cX : ∀ d, P d → RetB 14 #[.agg (dgl d)] (.string (X d))) (cH : ∀ d, P d → RetB 35 #[.string (X d)] (.int .i64 0))
    (cB : ∀ d, P d → ∃ ext : Int, ∀ wx, Calls Tryz.prog 23 #[.agg (cfl g), .agg (dgl d)] wx fun e w' => ∃ b, e = .returned (.tuple #[.pointer (some ⟨b, 0, none⟩), .int .i64 ext]) ∧ Below wx.heap.size wx w')
    (cD : ∀ wx base b v tk ti ms sd tt fs, Bat wx base b g tk ti v ms → R tk ms → fs.size ≤ maxLen → ∃ tk' ms', R tk' ms' ∧ Calls Tryz.prog 34 #[.pointer (some ⟨b, 0, none⟩), .agg (cfl g), .agg #[.int .i64 sd, .int .i64 tt, .string fs]] wx fun e w' => e = .returned (.bool true) ∧ ∃ v', BL wx w' base b g v v' tk' ti ms')
    (cT : ∀ wx base b v tk ti ms n, Bat wx base b g tk ti v ms → R tk ms → 0 ≤ n → n ≤ 100000 → 0 ≤ ti → ti + n ≤ 1099511627776 → ∃ tk' ms', R tk' ms' ∧ Calls Tryz.prog 17 #[.pointer (some ⟨b, 0, none⟩), .int .i64 n] wx fun e w' => e = .returned (.int .i64 0) ∧ ∃ v', BL wx w' base b g v v' tk' (ti + n) ms')
    (cW : ∀ x ∈ zs, ∃ n, (0 ≤ n ∧ n ≤ 100000) ∧ Ret 16 #[.int .i64 x.2.1, .int .i64 0, .int .i64 100000] (.int .i64 n))
    (hzs : zs.length = len) (hA : 0 < len → A < w.heap.size) (hc : ∀ (j : Nat) x, zs[j]? = some x → w.cell? ⟨A, off + j * 3, none⟩ = some (.int .i64 x.1) ∧ w.cell? ⟨A, off + j * 3 + 1, none⟩ = some (.int .i64 x.2.1) ∧ w.cell? ⟨A, off + j * 3 + 2, none⟩ = some (.string x.2.2) ∧ x.2.2.size ≤ maxLen)
    (hlen : len ≤ 9223372036854775807) (hR0 : R g.bu []) :
    Calls Tryz.prog 8 #[.agg (cfl c), .slice ao len cap, .agg #[.int .i64 k0, .int .i64 k1, .int .i64 k2, .int .i64 k3, .int .i64 k4, .int .i64 k5, .int .i64 k6, .int .i64 k7, .int .i64 k8, .string m0, .string m1, .string m2]] w fun e w' => e = .returned (.bool true) ∧ Below w.heap.size w w' := by
  unfold cfl at cC cS cN ⊢
  unfold dgl at cS cX
  have CS : Hid _ := cS
  have CN : Hid _ := cN
  have CX : Hid _ := cX
  have CH : Hid _ := cH
  have CB : Hid _ := cB
  have CD : Hid _ := cD
  have CT : Hid _ := cT
  have CW : Hid _ := cW
  have HA : Hid _ := hA
  have HC : Hid _ := hc
  have HZ : Hid _ := hzs
  have HAO : Hid _ := hao
  have HR0 : Hid _ := hR0
  clear cS cN cX cH cB cD cT cW hA hc hzs hao hR0
  go_enter Tryz.func8, Tryz.ntmps8
  go_wp2_with fail
  refine Calls.mono (cC.at _) ?_; rintro e w1 ⟨rfl, hb1⟩
  have P1 : Hid _ := (hb1.block (w.heap.size + 1) (by simp)).trans (alloc2 w _ _).2
  have HW1 : Hid (Below w.heap.size w w1) := (((Below.refl w.heap.size w).alloc (Nat.le_refl _) _).alloc (by simp) _).trans (hb1.mono (by simp; omega))
  have hz1 : w.heap.size + 1 < w1.heap.size := by have := hb1.size; simp at this; omega
  clear hb1
  go_wp2_with fail
  refine Calls.mono (CN.out _) ?_; rintro e w2 ⟨b, rfl, hT, hb2, hbb⟩
  obtain ⟨base, hbase⟩ : ∃ base, base = (w1.alloc (.cells #[.int .i64 g.ia, .int .i64 g.oa, .int .i64 g.lo, .int .i64 g.hi, .int .i64 g.cp, .int .i64 g.im, .int .i64 g.om, .int .i64 g.iu, .int .i64 g.it, .int .i64 g.iq, .int .i64 g.bu, .int .i64 g.ra] 23)).heap.size := ⟨_, rfl⟩
  rw [← hbase] at hT hbb
  have hba : base = w1.heap.size + 1 := by rw [hbase]; simp
  clear hbase
  have HG2 : Hid _ := (hb2.block w1.heap.size (by simp)).trans (alloc1 w1 _)
  have HP2 : Hid _ := (hb2.block (w.heap.size + 1) (by simp; omega)).trans ((Below.heap_alloc w1 _ _ hz1).trans P1.out)
  have HW2 : Hid (Below w.heap.size w w2) := (HW1.out.alloc (by omega) _).trans (hb2.mono (by simp; omega))
  have HT : Hid _ := hT
  have hbs : base ≤ b := hbb
  have hbx : w1.heap.size < base := by omega
  have hby : w.heap.size + 1 < base := by omega
  clear hT hb2 hbb P1 hba
  go_wp2
  go_loopw [10, 11] (fun nv iv wr => ∃ (i : Nat) (now tk : Int) (ms : List Mp) (v : Value), nv = .int .i64 now ∧ iv = .int .i64 (i : Int) ∧ i ≤ len ∧ 0 ≤ now ∧ now ≤ 1099511627776 ∧ Hid (Below w.heap.size w wr) ∧ Hid (wr.heap[w1.heap.size]? = some (.cells #[.int .i64 g.ia, .int .i64 g.oa, .int .i64 g.lo, .int .i64 g.hi, .int .i64 g.cp, .int .i64 g.im, .int .i64 g.om, .int .i64 g.iu, .int .i64 g.it, .int .i64 g.iq, .int .i64 g.bu, .int .i64 g.ra] 23 (0, 0))) ∧ Hid (wr.heap[w.heap.size + 1]? = some (.cells #[.int .i64 k0, .int .i64 k1, .int .i64 k2, .int .i64 k3, .int .i64 k4, .int .i64 k5, .int .i64 k6, .int .i64 k7, .int .i64 k8, .string m0, .string m1, .string m2] 25 (0, 0))) ∧ Hid (Bat wr base b g tk now v ms) ∧ Hid (R tk ms)) (fun _ iv _ => len - (intOf iv).toNat)
  case atStart => exact ⟨0, 0, g.bu, [], .slice none 0 0, rfl, rfl, Nat.zero_le _, by omega, by omega, HW2.out, HG2.out, HP2.out, HT.out, HR0.out⟩
  case round =>
    obtain ⟨i, now, tk, ms, v, rfl, rfl, hi, n0, n1, hB, hG, hP, hT, hR⟩ := hrel
    by_cases hlt : i < len
    · obtain ⟨⟨sd, tt, fs⟩, hz⟩ : ∃ z, zs[i]? = some z := ⟨zs[i]'(by have := HZ.out; omega), List.getElem?_eq_getElem _⟩
      have ha := HAO.out (by omega)
      subst ha
      obtain ⟨z1, z2, z3, z4⟩ := HC.out i _ hz
      have x1 : Hid (w.cell? ⟨A, off + i * 3, none⟩ = some (.int .i64 sd)) := z1
      have x2 : Hid (w.cell? ⟨A, off + i * 3 + 1, none⟩ = some (.int .i64 tt)) := z2
      have x3 : Hid (w.cell? ⟨A, off + i * 3 + 2, none⟩ = some (.string fs)) := z3
      have hfs : Hid (fs.size ≤ maxLen) := z4
      have c2 : wr.cell? ⟨A, off + i * 3 + 1, none⟩ = some (.int .i64 tt) := (hB.out.cell (p := ⟨A, off + i * 3 + 1, none⟩) (HA.out (by omega))).trans z2
      obtain ⟨n, ⟨q0, q1⟩, cWn⟩ := CW.out _ (List.mem_of_getElem? hz)
      simp only at cWn
      clear hz z1 z2 z3 z4
      go_wp2_with fail
      refine Calls.mono (cWn.at _) ?_; rintro e w' ⟨rfl, hw⟩; replace hw := hw.symm; subst hw
      by_cases hM : now + n ≤ 1099511627776
      · have hM1 : decide (1099511627776 < now + n) = false := by simpa using hM
        obtain ⟨nw, hnw⟩ : ∃ nw, now + n = nw := ⟨_, rfl⟩
        have w0' : 0 ≤ nw := by omega
        have w1' : nw ≤ 1099511627776 := by omega
        obtain ⟨tk1, ms1, hR1', cT1⟩ := CT.out wr base b v tk now ms n hT.out hR.out q0 q1 n0 hM
        have hR1 : Hid _ := hR1'
        clear hR1'
        rw [hnw] at cT1
        have CT1 : Hid _ := cT1
        clear cT1
        go_wp2_with fail
        refine Calls.mono CT1.out ?_; rintro e w7 ⟨rfl, v7, hL7⟩
        have B7 : Hid (Below base wr w7) := hL7.below hT.out hbs (Below.refl base wr)
        have HB7 : Hid (Below w.heap.size w w7) := hB.out.trans (B7.out.mono (by omega))
        have HG7 := (B7.out.block w1.heap.size (by omega)).trans hG.out
        have HP7 : Hid _ := (B7.out.block (w.heap.size + 1) (by omega)).trans hP.out
        have T7 : Hid _ := hL7.bat
        have y1' : w7.cell? ⟨A, off + i * 3, none⟩ = some (.int .i64 sd) := (HB7.out.cell (p := ⟨A, off + i * 3, none⟩) (HA.out (by omega))).trans x1.out
        have y2' : w7.cell? ⟨A, off + i * 3 + 1, none⟩ = some (.int .i64 tt) := (HB7.out.cell (p := ⟨A, off + i * 3 + 1, none⟩) (HA.out (by omega))).trans x2.out
        have y3' : w7.cell? ⟨A, off + i * 3 + 2, none⟩ = some (.string fs) := (HB7.out.cell (p := ⟨A, off + i * 3 + 2, none⟩) (HA.out (by omega))).trans x3.out
        have HHG7 : Hid _ := HG7
        have f0 : ∀ w', Below base w7 w' → w'.cell? ⟨w1.heap.size, 0, none⟩ = some (.int .i64 g.ia) := fun w' h => (h.cell (p := ⟨w1.heap.size, 0, none⟩) (by show w1.heap.size < base; omega)).trans (cell_of_row _ _ 0 _ _ _ HG7)
        have f1 : ∀ w', Below base w7 w' → w'.cell? ⟨w1.heap.size, 1, none⟩ = some (.int .i64 g.oa) := fun w' h => (h.cell (p := ⟨w1.heap.size, 1, none⟩) (by show w1.heap.size < base; omega)).trans (cell_of_row _ _ 1 _ _ _ HG7)
        have f2 : ∀ w', Below base w7 w' → w'.cell? ⟨w1.heap.size, 2, none⟩ = some (.int .i64 g.lo) := fun w' h => (h.cell (p := ⟨w1.heap.size, 2, none⟩) (by show w1.heap.size < base; omega)).trans (cell_of_row _ _ 2 _ _ _ HG7)
        have f3 : ∀ w', Below base w7 w' → w'.cell? ⟨w1.heap.size, 3, none⟩ = some (.int .i64 g.hi) := fun w' h => (h.cell (p := ⟨w1.heap.size, 3, none⟩) (by show w1.heap.size < base; omega)).trans (cell_of_row _ _ 3 _ _ _ HG7)
        have f4 : ∀ w', Below base w7 w' → w'.cell? ⟨w1.heap.size, 4, none⟩ = some (.int .i64 g.cp) := fun w' h => (h.cell (p := ⟨w1.heap.size, 4, none⟩) (by show w1.heap.size < base; omega)).trans (cell_of_row _ _ 4 _ _ _ HG7)
        have f5 : ∀ w', Below base w7 w' → w'.cell? ⟨w1.heap.size, 5, none⟩ = some (.int .i64 g.im) := fun w' h => (h.cell (p := ⟨w1.heap.size, 5, none⟩) (by show w1.heap.size < base; omega)).trans (cell_of_row _ _ 5 _ _ _ HG7)
        have f6 : ∀ w', Below base w7 w' → w'.cell? ⟨w1.heap.size, 6, none⟩ = some (.int .i64 g.om) := fun w' h => (h.cell (p := ⟨w1.heap.size, 6, none⟩) (by show w1.heap.size < base; omega)).trans (cell_of_row _ _ 6 _ _ _ HG7)
        have f7 : ∀ w', Below base w7 w' → w'.cell? ⟨w1.heap.size, 7, none⟩ = some (.int .i64 g.iu) := fun w' h => (h.cell (p := ⟨w1.heap.size, 7, none⟩) (by show w1.heap.size < base; omega)).trans (cell_of_row _ _ 7 _ _ _ HG7)
        have f8 : ∀ w', Below base w7 w' → w'.cell? ⟨w1.heap.size, 8, none⟩ = some (.int .i64 g.it) := fun w' h => (h.cell (p := ⟨w1.heap.size, 8, none⟩) (by show w1.heap.size < base; omega)).trans (cell_of_row _ _ 8 _ _ _ HG7)
        have f9 : ∀ w', Below base w7 w' → w'.cell? ⟨w1.heap.size, 9, none⟩ = some (.int .i64 g.iq) := fun w' h => (h.cell (p := ⟨w1.heap.size, 9, none⟩) (by show w1.heap.size < base; omega)).trans (cell_of_row _ _ 9 _ _ _ HG7)
        have f10 : ∀ w', Below base w7 w' → w'.cell? ⟨w1.heap.size, 10, none⟩ = some (.int .i64 g.bu) := fun w' h => (h.cell (p := ⟨w1.heap.size, 10, none⟩) (by show w1.heap.size < base; omega)).trans (cell_of_row _ _ 10 _ _ _ HG7)
        have f11 : ∀ w', Below base w7 w' → w'.cell? ⟨w1.heap.size, 11, none⟩ = some (.int .i64 g.ra) := fun w' h => (h.cell (p := ⟨w1.heap.size, 11, none⟩) (by show w1.heap.size < base; omega)).trans (cell_of_row _ _ 11 _ _ _ HG7)
        have y1 : ∀ w', Below base w7 w' → w'.cell? ⟨A, off + i * 3, none⟩ = some (.int .i64 sd) := fun w' h => (h.cell (p := ⟨A, off + i * 3, none⟩) (by show A < base; have := HA.out (by omega); omega)).trans y1'
        have y2 : ∀ w', Below base w7 w' → w'.cell? ⟨A, off + i * 3 + 1, none⟩ = some (.int .i64 tt) := fun w' h => (h.cell (p := ⟨A, off + i * 3 + 1, none⟩) (by show A < base; have := HA.out (by omega); omega)).trans y2'
        have y3 : ∀ w', Below base w7 w' → w'.cell? ⟨A, off + i * 3 + 2, none⟩ = some (.string fs) := fun w' h => (h.cell (p := ⟨A, off + i * 3 + 2, none⟩) (by show A < base; have := HA.out (by omega); omega)).trans y3'
        obtain ⟨tk2, ms2, hR2, cS2⟩ := CD.out w7.drew base b v7 tk1 nw ms1 sd tt fs T7.out.drew hR1.out hfs.out
        unfold cfl at cS2
        have CS2 : Hid _ := cS2
        clear HG7 cS2 hL7 CT1 y1' y2' y3'
        go_wp2
        have BD : Hid (Below base w7 w7.drew) := (Below.refl base w7).drew
        go_region_held (fun w' => Below base w7 w') (first | (with_reducible assumption) | (with_reducible exact BD.out)) (first
          | (go_at_call 34; refine Calls.mono CS2.out ?_; rintro e w8 ⟨rfl, v8, hL8⟩
             have B8 : Below base w7 w8 := BD.out.trans (hL8.below T7.out.drew hbs (Below.refl base w7.drew))
             have HB8 : Hid (Below base w7 w8) := B8
             have T8 : Hid _ := hL8.bat))
        all_goals
          clear f0 f1 f2 f3 f4 f5 f6 f7 f8 f9 f10 f11 y1 y2 y3 CS2
          go_wp2
          go_round
          case rel => exact ⟨i + 1, nw, tk2, ms2, v8, rfl, by go_num, by omega, w0', w1', HB7.out.trans (HB8.out.mono (by omega)), (HB8.out.block w1.heap.size (by omega)).trans HHG7.out, (HB8.out.block (w.heap.size + 1) (by omega)).trans HP7.out, T8.out, hR2⟩
          case measure => simp [intOf]; omega
      · have hM1 : decide (1099511627776 < now + n) = true := by simpa using hM
        obtain ⟨tk1, ms1, hR1', cT1⟩ := CT.out wr base b v tk now ms 0 hT.out hR.out (by decide) (by decide) n0 (by omega)
        have hR1 : Hid _ := hR1'
        clear hR1'
        rw [Int.add_zero] at cT1
        have w0' : 0 ≤ now := n0
        have w1' : now ≤ 1099511627776 := n1
        have CT1 : Hid _ := cT1
        clear cT1
        go_wp2_with fail
        refine Calls.mono CT1.out ?_; rintro e w7 ⟨rfl, v7, hL7⟩
        have B7 : Hid (Below base wr w7) := hL7.below hT.out hbs (Below.refl base wr)
        have HB7 : Hid (Below w.heap.size w w7) := hB.out.trans (B7.out.mono (by omega))
        have HG7 := (B7.out.block w1.heap.size (by omega)).trans hG.out
        have HP7 : Hid _ := (B7.out.block (w.heap.size + 1) (by omega)).trans hP.out
        have T7 : Hid _ := hL7.bat
        have y1' : w7.cell? ⟨A, off + i * 3, none⟩ = some (.int .i64 sd) := (HB7.out.cell (p := ⟨A, off + i * 3, none⟩) (HA.out (by omega))).trans x1.out
        have y2' : w7.cell? ⟨A, off + i * 3 + 1, none⟩ = some (.int .i64 tt) := (HB7.out.cell (p := ⟨A, off + i * 3 + 1, none⟩) (HA.out (by omega))).trans x2.out
        have y3' : w7.cell? ⟨A, off + i * 3 + 2, none⟩ = some (.string fs) := (HB7.out.cell (p := ⟨A, off + i * 3 + 2, none⟩) (HA.out (by omega))).trans x3.out
        have HHG7 : Hid _ := HG7
        have f0 : ∀ w', Below base w7 w' → w'.cell? ⟨w1.heap.size, 0, none⟩ = some (.int .i64 g.ia) := fun w' h => (h.cell (p := ⟨w1.heap.size, 0, none⟩) (by show w1.heap.size < base; omega)).trans (cell_of_row _ _ 0 _ _ _ HG7)
        have f1 : ∀ w', Below base w7 w' → w'.cell? ⟨w1.heap.size, 1, none⟩ = some (.int .i64 g.oa) := fun w' h => (h.cell (p := ⟨w1.heap.size, 1, none⟩) (by show w1.heap.size < base; omega)).trans (cell_of_row _ _ 1 _ _ _ HG7)
        have f2 : ∀ w', Below base w7 w' → w'.cell? ⟨w1.heap.size, 2, none⟩ = some (.int .i64 g.lo) := fun w' h => (h.cell (p := ⟨w1.heap.size, 2, none⟩) (by show w1.heap.size < base; omega)).trans (cell_of_row _ _ 2 _ _ _ HG7)
        have f3 : ∀ w', Below base w7 w' → w'.cell? ⟨w1.heap.size, 3, none⟩ = some (.int .i64 g.hi) := fun w' h => (h.cell (p := ⟨w1.heap.size, 3, none⟩) (by show w1.heap.size < base; omega)).trans (cell_of_row _ _ 3 _ _ _ HG7)
        have f4 : ∀ w', Below base w7 w' → w'.cell? ⟨w1.heap.size, 4, none⟩ = some (.int .i64 g.cp) := fun w' h => (h.cell (p := ⟨w1.heap.size, 4, none⟩) (by show w1.heap.size < base; omega)).trans (cell_of_row _ _ 4 _ _ _ HG7)
        have f5 : ∀ w', Below base w7 w' → w'.cell? ⟨w1.heap.size, 5, none⟩ = some (.int .i64 g.im) := fun w' h => (h.cell (p := ⟨w1.heap.size, 5, none⟩) (by show w1.heap.size < base; omega)).trans (cell_of_row _ _ 5 _ _ _ HG7)
        have f6 : ∀ w', Below base w7 w' → w'.cell? ⟨w1.heap.size, 6, none⟩ = some (.int .i64 g.om) := fun w' h => (h.cell (p := ⟨w1.heap.size, 6, none⟩) (by show w1.heap.size < base; omega)).trans (cell_of_row _ _ 6 _ _ _ HG7)
        have f7 : ∀ w', Below base w7 w' → w'.cell? ⟨w1.heap.size, 7, none⟩ = some (.int .i64 g.iu) := fun w' h => (h.cell (p := ⟨w1.heap.size, 7, none⟩) (by show w1.heap.size < base; omega)).trans (cell_of_row _ _ 7 _ _ _ HG7)
        have f8 : ∀ w', Below base w7 w' → w'.cell? ⟨w1.heap.size, 8, none⟩ = some (.int .i64 g.it) := fun w' h => (h.cell (p := ⟨w1.heap.size, 8, none⟩) (by show w1.heap.size < base; omega)).trans (cell_of_row _ _ 8 _ _ _ HG7)
        have f9 : ∀ w', Below base w7 w' → w'.cell? ⟨w1.heap.size, 9, none⟩ = some (.int .i64 g.iq) := fun w' h => (h.cell (p := ⟨w1.heap.size, 9, none⟩) (by show w1.heap.size < base; omega)).trans (cell_of_row _ _ 9 _ _ _ HG7)
        have f10 : ∀ w', Below base w7 w' → w'.cell? ⟨w1.heap.size, 10, none⟩ = some (.int .i64 g.bu) := fun w' h => (h.cell (p := ⟨w1.heap.size, 10, none⟩) (by show w1.heap.size < base; omega)).trans (cell_of_row _ _ 10 _ _ _ HG7)
        have f11 : ∀ w', Below base w7 w' → w'.cell? ⟨w1.heap.size, 11, none⟩ = some (.int .i64 g.ra) := fun w' h => (h.cell (p := ⟨w1.heap.size, 11, none⟩) (by show w1.heap.size < base; omega)).trans (cell_of_row _ _ 11 _ _ _ HG7)
        have y1 : ∀ w', Below base w7 w' → w'.cell? ⟨A, off + i * 3, none⟩ = some (.int .i64 sd) := fun w' h => (h.cell (p := ⟨A, off + i * 3, none⟩) (by show A < base; have := HA.out (by omega); omega)).trans y1'
        have y2 : ∀ w', Below base w7 w' → w'.cell? ⟨A, off + i * 3 + 1, none⟩ = some (.int .i64 tt) := fun w' h => (h.cell (p := ⟨A, off + i * 3 + 1, none⟩) (by show A < base; have := HA.out (by omega); omega)).trans y2'
        have y3 : ∀ w', Below base w7 w' → w'.cell? ⟨A, off + i * 3 + 2, none⟩ = some (.string fs) := fun w' h => (h.cell (p := ⟨A, off + i * 3 + 2, none⟩) (by show A < base; have := HA.out (by omega); omega)).trans y3'
        obtain ⟨tk2, ms2, hR2, cS2⟩ := CD.out w7.drew base b v7 tk1 now ms1 sd tt fs T7.out.drew hR1.out hfs.out
        unfold cfl at cS2
        have CS2 : Hid _ := cS2
        clear HG7 cS2 hL7 CT1 y1' y2' y3'
        go_wp2
        have BD : Hid (Below base w7 w7.drew) := (Below.refl base w7).drew
        go_region_held (fun w' => Below base w7 w') (first | (with_reducible assumption) | (with_reducible exact BD.out)) (first
          | (go_at_call 34; refine Calls.mono CS2.out ?_; rintro e w8 ⟨rfl, v8, hL8⟩
             have B8 : Below base w7 w8 := BD.out.trans (hL8.below T7.out.drew hbs (Below.refl base w7.drew))
             have HB8 : Hid (Below base w7 w8) := B8
             have T8 : Hid _ := hL8.bat))
        all_goals
          clear f0 f1 f2 f3 f4 f5 f6 f7 f8 f9 f10 f11 y1 y2 y3 CS2
          go_wp2
          go_round
          case rel => exact ⟨i + 1, now, tk2, ms2, v8, rfl, by go_num, by omega, w0', w1', HB7.out.trans (HB8.out.mono (by omega)), (HB8.out.block w1.heap.size (by omega)).trans HHG7.out, (HB8.out.block (w.heap.size + 1) (by omega)).trans HP7.out, T8.out, hR2⟩
          case measure => simp [intOf]; omega
    · have hin : i = len := by omega
      obtain ⟨g0, g1, g2, g3, g4, g5, g6, g7, g8, g9, g10, g11⟩ := cels12 hG.out
      obtain ⟨p0, p1, p2, p3, p4, p5, p6, p7, p8, p9, p10, p11⟩ := cels12 hP.out
      go_wp2_with fail
      refine Calls.mono (CS.out _) ?_; rintro e w3 ⟨d, rfl, hPd, hb3⟩
      have G3 := (hb3.block w1.heap.size (Array.getElem?_eq_some_iff.1 hG.out).1).trans hG.out
      have HW3 : Hid (Below w.heap.size w w3) := hB.out.trans (hb3.mono hB.out.size)
      have hz3 : w1.heap.size < w3.heap.size := (Array.getElem?_eq_some_iff.1 G3).1
      have cX1 := CX.out d hPd
      have cH1 := CH.out d hPd
      obtain ⟨ext, cB1⟩ := CB.out d hPd
      unfold cfl dgl at cB1
      have CB1 : Hid _ := cB1
      generalize X d = XX at cX1 cH1
      have HG3 : Hid _ := G3
      clear g0 g1 g2 g3 g4 g5 g6 g7 g8 g9 g10 g11 p0 p1 p2 p3 p4 p5 p6 p7 p8 p9 p10 p11 hb3 G3 cB1
      have E4 : Hid _ := alloc1 w3 (.cells #[.int .i64 d.pr, .int .i64 d.kd, .bool d.ba, .int .i64 d.sa, .int .i64 d.sp, .int .i64 d.da, .int .i64 d.dp, .int .i64 d.tl, .int .i64 d.bi, .int .i64 d.sr, .string d.op, .string d.md, .string d.tx, .string d.ta] 33)
      have HW4 : Hid (Below w.heap.size w (w3.alloc (.cells #[.int .i64 d.pr, .int .i64 d.kd, .bool d.ba, .int .i64 d.sa, .int .i64 d.sp, .int .i64 d.da, .int .i64 d.dp, .int .i64 d.tl, .int .i64 d.bi, .int .i64 d.sr, .string d.op, .string d.md, .string d.tx, .string d.ta] 33))) := HW3.out.alloc HW3.out.size _
      have HG4 : Hid _ := (Below.heap_alloc w3 (.cells #[.int .i64 d.pr, .int .i64 d.kd, .bool d.ba, .int .i64 d.sa, .int .i64 d.sp, .int .i64 d.da, .int .i64 d.dp, .int .i64 d.tl, .int .i64 d.bi, .int .i64 d.sr, .string d.op, .string d.md, .string d.tx, .string d.ta] 33) _ hz3).trans HG3.out
      go_wp2_with fail
      generalize w3.alloc (.cells #[.int .i64 d.pr, .int .i64 d.kd, .bool d.ba, .int .i64 d.sa, .int .i64 d.sp, .int .i64 d.da, .int .i64 d.dp, .int .i64 d.tl, .int .i64 d.bi, .int .i64 d.sr, .string d.op, .string d.md, .string d.tx, .string d.ta] 33) = w4 at E4 HW4 HG4 ⊢
      refine Calls.mono (cX1.at _) ?_; rintro e w5 ⟨rfl, hb5⟩
      have G5 : Hid _ := (hb5.block _ (Array.getElem?_eq_some_iff.1 HG4.out).1).trans HG4.out
      have E5 : Hid _ := (hb5.block _ (Array.getElem?_eq_some_iff.1 E4.out).1).trans E4.out
      have HW5 : Hid (Below w.heap.size w w5) := HW4.out.trans (hb5.mono HW4.out.size)
      clear hb5 E4 HW4 HG4
      go_wp2_with fail
      refine Calls.mono (cH1.at _) ?_; rintro e w6 ⟨rfl, hb6⟩
      have G6 := (hb6.block _ (Array.getElem?_eq_some_iff.1 G5.out).1).trans G5.out
      have E6 := (hb6.block _ (Array.getElem?_eq_some_iff.1 E5.out).1).trans E5.out
      have HW6 : Hid (Below w.heap.size w w6) := HW5.out.trans (hb6.mono HW5.out.size)
      obtain ⟨g0, g1, g2, g3, g4, g5, g6, g7, g8, g9, g10, g11⟩ := cels12 G6
      obtain ⟨d0, d1, d2, d3, d4, d5, d6, d7, d8, d9, d10, d11, d12, d13⟩ := cell14 E6
      clear hb6 G5 E5 HW5 G6 E6
      go_wp2_with fail
      refine Calls.mono (CB1.out _) ?_; rintro e w7 ⟨b7, rfl, hb7⟩
      have HW7 : Hid (Below w.heap.size w w7) := HW6.out.trans (hb7.mono HW6.out.size)
      clear hb7 g0 g1 g2 g3 g4 g5 g6 g7 g8 g9 g10 g11 d0 d1 d2 d3 d4 d5 d6 d7 d8 d9 d10 d11 d12 d13
      go_wp2
      go_ret
      exact ⟨by simp, HW7.out⟩
end Go.Proofs.YthiljpbodmajaabGreat
