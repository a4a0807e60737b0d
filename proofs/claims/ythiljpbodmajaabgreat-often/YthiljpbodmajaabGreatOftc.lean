/-
  CONTRACTS: natboxkeep.Often.
-/
import Derived.Test.YthiljpbodmajaabGreatOftw
import Derived.Test.YthiljpbodmajaabGreatKepv
import Derived.Test.YthiljpbodmajaabGreatKepz
import Derived.Deep.DeepCutAuto
namespace Go.Proofs.YthiljpbodmajaabGreat
open Go.RowKit Plain
set_option linter.unusedVariables false

theorem cel12 {w : World} {g : Nat} {t : TypeId} {fr : Nat × Nat} {v0 v1 v2 v3 v4 v5 v6 v7 v8 v9 v10 v11 : Value} (h : w.heap[g]? = some (.cells #[v0, v1, v2, v3, v4, v5, v6, v7, v8, v9, v10, v11] t fr)) : w.cell? ⟨g, 0, none⟩ = some v0 ∧ w.cell? ⟨g, 1, none⟩ = some v1 ∧ w.cell? ⟨g, 2, none⟩ = some v2 ∧ w.cell? ⟨g, 3, none⟩ = some v3 ∧ w.cell? ⟨g, 4, none⟩ = some v4 ∧ w.cell? ⟨g, 5, none⟩ = some v5 ∧ w.cell? ⟨g, 6, none⟩ = some v6 ∧ w.cell? ⟨g, 7, none⟩ = some v7 ∧ w.cell? ⟨g, 8, none⟩ = some v8 ∧ w.cell? ⟨g, 9, none⟩ = some v9 ∧ w.cell? ⟨g, 10, none⟩ = some v10 ∧ w.cell? ⟨g, 11, none⟩ = some v11 :=
  ⟨cell_of_row w g 0 _ t fr h, cell_of_row w g 1 _ t fr h, cell_of_row w g 2 _ t fr h, cell_of_row w g 3 _ t fr h, cell_of_row w g 4 _ t fr h, cell_of_row w g 5 _ t fr h, cell_of_row w g 6 _ t fr h, cell_of_row w g 7 _ t fr h, cell_of_row w g 8 _ t fr h, cell_of_row w g 9 _ t fr h, cell_of_row w g 10 _ t fr h, cell_of_row w g 11 _ t fr h⟩
theorem tokens_any {w : World} {base b : Nat} {c : Cf} {tk ti : Int} {v : Value} {ms : List Mp} (T : Bat w base b c tk ti v ms) :
    Calls Tryz.prog 21 #[.pointer (some ⟨b, 0, none⟩)] w fun e w' => e = .returned (.int .i64 tk) ∧ w' = w := by
  have h16 : w.cell? ⟨b, 16, none⟩ = some (.int .i64 tk) := T.at 16 rfl
  clear T
  go_enter Tryz.func21, Tryz.ntmps21
  go_wp2
  go_ret
  exact ⟨rfl, rfl⟩
theorem info_int : (Tryz.prog.info? 3).map (fun i => (i.zero, i.size, i.bytes)) = some (some (.int .i64 0), 1, 8) := by kernel_rfl
theorem info_bool : (Tryz.prog.info? 4).map (fun i => (i.zero, i.size, i.bytes)) = some (some (.bool false), 1, 1) := by kernel_rfl
/-- what is looked for: the state of the loop -/
structure Ost (w0 : World) (K base b : Nat) (g : Cf) (tk now : Int) (v tv bv : Value) (l : List (Int × Bool)) (wr : World) : Prop where
  oin : Oin w0 K base b g tk now v tv bv l.length l.length (xt l) (xb l) wr
  nil : l = [] → tv = .slice none 0 0 ∧ bv = .slice none 0 0
  inv : Inv g.bu g.ra now l tk
  all : ∀ p ∈ l, 0 ≤ p.1 ∧ p.1 ≤ now
  t0 : 0 ≤ tk
  t1 : tk ≤ 100
set_option maxHeartbeats 16000000 in
set_option maxRecDepth 2000 in
theorem often_core (c g : Cf) (P : Dg → Prop) (k0 k1 k2 k3 k4 k5 k6 k7 k8 x : Int) (m0 m1 m2 : ByteArray) (A off len cap : Nat) (ao : Option Addr) (zs : List Int) (w : World) (hao : 0 < len → ao = some ⟨A, off, none⟩) (cC : RetB 10 #[.agg (cfl c)] (.agg (cfl g)))
    (cN : ∀ wx, Calls Tryz.prog 11 #[.agg (cfl g)] wx fun e w' => ∃ b, e = .returned (.tuple #[.pointer (some ⟨b, 0, none⟩), .int .i64 0]) ∧ Bat w' wx.heap.size b g g.bu 0 (.slice none 0 0) [] ∧ Below wx.heap.size wx w' ∧ wx.heap.size ≤ b)
    (cS : ∀ wx, Calls Tryz.prog 12 #[.agg #[.int .i64 k0, .int .i64 k1, .int .i64 k2, .int .i64 k3, .int .i64 k4, .int .i64 k5, .int .i64 k6, .int .i64 k7, .int .i64 k8, .string m0, .string m1, .string m2], .agg (cfl g), .int .i64 g.om] wx fun e w' => ∃ d, e = .returned (.agg (dgl d)) ∧ P d ∧ Below wx.heap.size wx w')
    (cP : Ret 13 #[.int .i64 k5, .int .i64 2] (.int .i64 x))
    (X W : Dg → ByteArray) (cX : ∀ d, P d → RetB 14 #[.agg #[.int .i64 d.pr, .int .i64 d.kd, .bool d.ba, .int .i64 d.sa, .int .i64 d.sp, .int .i64 d.da, .int .i64 d.dp, .int .i64 x, .int .i64 d.bi, .int .i64 d.sr, .string d.op, .string d.md, .string d.tx, .string d.ta]] (.string (X d))) (cM : ∀ d, P d → RetB 15 #[.agg (cfl g), .agg #[.int .i64 d.pr, .int .i64 d.kd, .bool d.ba, .int .i64 d.sa, .int .i64 d.sp, .int .i64 d.da, .int .i64 d.dp, .int .i64 x, .int .i64 d.bi, .int .i64 d.sr, .string d.op, .string d.md, .string d.tx, .string d.ta]] (.string (W d)))
    (cF : ∀ d wx base b v tk ti, P d → Bat wx base b g tk ti v [] → 0 ≤ tk → tk ≤ 100 → Calls Tryz.prog 18 #[.pointer (some ⟨b, 0, none⟩), .int .i64 0, .string (X d)] wx fun e w' => e = .returned (rpv 9 0 (if 1 ≤ tk then W d else ⟨#[]⟩)) ∧ ∃ v', BL wx w' base b g v v' (if 1 ≤ tk then tk - 1 else tk) ti [])
    (cT : ∀ wx base b v tk ti n, Bat wx base b g tk ti v [] → 0 ≤ tk → tk ≤ 100 → 0 ≤ n → n ≤ 100000 → 0 ≤ ti → ti + n ≤ 1099511627776 → ∃ tk', tk' = (if g.bu < tk + g.ra * n then g.bu else tk + g.ra * n) ∧ 0 ≤ tk' ∧ tk' ≤ 100 ∧ Calls Tryz.prog 17 #[.pointer (some ⟨b, 0, none⟩), .int .i64 n] wx fun e w' => e = .returned (.int .i64 0) ∧ ∃ v', BL wx w' base b g v v' tk' (ti + n) [])
    (cW : ∀ z : Int, z ∈ zs → ∃ n, (0 ≤ n ∧ n ≤ 100000) ∧ Ret 16 #[.int .i64 z, .int .i64 0, .int .i64 100000] (.int .i64 n))
    (hzs : zs.length = len) (hlen : len * 8 ≤ 140737488351232) (hA : 0 < len → A < w.heap.size) (hc : ∀ (j : Nat) z, zs[j]? = some z → w.cell? ⟨A, off + j, none⟩ = some (.int .i64 z))
    (b0 : 0 ≤ g.bu) (b1 : g.bu ≤ 100) (r0 : 0 ≤ g.ra) (r1 : g.ra ≤ 100) :
    Calls Tryz.prog 3 #[.agg (cfl c), .agg #[.int .i64 k0, .int .i64 k1, .int .i64 k2, .int .i64 k3, .int .i64 k4, .int .i64 k5, .int .i64 k6, .int .i64 k7, .int .i64 k8, .string m0, .string m1, .string m2], .slice ao len cap] w fun e w' => e = .returned (.bool true) ∧ Below w.heap.size w w' := by
  obtain ⟨i0, hi0, hz00, hz01, hz02⟩ := info_parts info_int
  obtain ⟨i1, hi1, hz10, hz11, hz12⟩ := info_parts info_bool
  unfold cfl at cC cS cN cM ⊢
  unfold dgl at cS
  have CS : Hid _ := cS
  have CN : Hid _ := cN
  have CX : Hid _ := cX
  have CM : Hid _ := cM
  have CF : Hid _ := cF
  have CT : Hid _ := cT
  have CW : Hid _ := cW
  have HA : Hid _ := hA
  have HC : Hid _ := hc
  have HZ : Hid _ := hzs
  have HAO : Hid _ := hao
  have HI0 : Hid _ := hi0
  have HI1 : Hid _ := hi1
  have Z00 : Hid _ := hz00
  have Z01 : Hid _ := hz01
  have Z02 : Hid _ := hz02
  have Z10 : Hid _ := hz10
  have Z11 : Hid _ := hz11
  have Z12 : Hid _ := hz12
  clear cS cN cX cM cF cT cW hA hc hzs hao hi0 hi1 hz00 hz01 hz02 hz10 hz11 hz12
  go_enter Tryz.func3, Tryz.ntmps3
  go_wp2_with fail
  refine Calls.mono (cC.at _) ?_; rintro e w1 ⟨rfl, hb1⟩
  have P1 : Hid _ := (hb1.block (w.heap.size + 1) (by simp)).trans (alloc2 w _ _).2
  have HW1 : Hid (Below w.heap.size w w1) := (((Below.refl w.heap.size w).alloc (Nat.le_refl _) _).alloc (by simp) _).trans (hb1.mono (by simp; omega))
  have hz1 : w.heap.size + 1 < w1.heap.size := by have := hb1.size; simp at this; omega
  clear hb1
  go_wp2_with fail
  refine Calls.mono (CN.out _) ?_; rintro e w2 ⟨b, rfl, hT, hb2, hbb⟩
  obtain ⟨base, hbase⟩ : ∃ base, base = (w1.alloc (.cells #[.int .i64 g.ia, .int .i64 g.oa, .int .i64 g.lo, .int .i64 g.hi, .int .i64 g.cp, .int .i64 g.im, .int .i64 g.om, .int .i64 g.iu, .int .i64 g.it, .int .i64 g.iq, .int .i64 g.bu, .int .i64 g.ra] 23)).heap.size := ⟨_, rfl⟩
  rw [← hbase] at hT hbb
  have hba : base = w1.heap.size + 1 := by rw [hbase]; simp
  clear hbase
  have G2 := (hb2.block w1.heap.size (by simp)).trans (alloc1 w1 _)
  have P2 := (hb2.block (w.heap.size + 1) (by simp; omega)).trans ((Below.heap_alloc w1 _ _ hz1).trans P1.out)
  have HW2 : Hid (Below w.heap.size w w2) := (HW1.out.alloc (by omega) _).trans (hb2.mono (by simp; omega))
  have hz2 : w1.heap.size < w2.heap.size := by have := hb2.size; simp at this; omega
  have HT : Hid _ := hT
  have hbl : b < w2.heap.size := hT.lt
  have hbs : base ≤ b := hbb
  have HG2 : Hid _ := G2
  have HP2 : Hid _ := P2
  obtain ⟨g0, g1, g2, g3, g4, g5, g6, g7, g8, g9, g10, g11⟩ := cel12 G2
  obtain ⟨p0, p1, p2, p3, p4, p5, p6, p7, p8, p9, p10, p11⟩ := cel12 P2
  clear hT hb2 hbb G2 P2 P1
  go_wp2_with fail
  refine Calls.mono (CS.out _) ?_; rintro e w3 ⟨d, rfl, hP, hb3⟩
  have G3 := (hb3.block w1.heap.size hz2).trans HG2.out
  have P3 := (hb3.block (w.heap.size + 1) (by omega)).trans HP2.out
  have T3 : Hid _ := HT.out.below hb3
  have HW3 : Hid (Below w.heap.size w w3) := HW2.out.trans (hb3.mono HW2.out.size)
  have hz3 : w2.heap.size ≤ w3.heap.size := hb3.size
  have HP : Hid _ := hP
  have HG3 : Hid _ := G3
  clear g0 g1 g2 g3 g4 g5 g6 g7 g8 g9 g10 g11 p0 p1 p2 p3 p4 p5 p6 p7 p8 p9 p10 p11 hb3 HT HG2 HP2
  obtain ⟨p0, p1, p2, p3, p4, p5, p6, p7, p8, p9, p10, p11⟩ := cel12 P3
  clear G3 P3
  have E3 := alloc1 w3 (.cells #[.int .i64 d.pr, .int .i64 d.kd, .bool d.ba, .int .i64 d.sa, .int .i64 d.sp, .int .i64 d.da, .int .i64 d.dp, .int .i64 x, .int .i64 d.bi, .int .i64 d.sr, .string d.op, .string d.md, .string d.tx, .string d.ta] 33)
  have T4 : Hid _ := T3.out.below ((Below.refl w3.heap.size w3).alloc (Nat.le_refl _) (.cells #[.int .i64 d.pr, .int .i64 d.kd, .bool d.ba, .int .i64 d.sa, .int .i64 d.sp, .int .i64 d.da, .int .i64 d.dp, .int .i64 x, .int .i64 d.bi, .int .i64 d.sr, .string d.op, .string d.md, .string d.tx, .string d.ta] 33))
  have HW4 : Hid (Below w.heap.size w (w3.alloc (.cells #[.int .i64 d.pr, .int .i64 d.kd, .bool d.ba, .int .i64 d.sa, .int .i64 d.sp, .int .i64 d.da, .int .i64 d.dp, .int .i64 x, .int .i64 d.bi, .int .i64 d.sr, .string d.op, .string d.md, .string d.tx, .string d.ta] 33))) := HW3.out.alloc HW3.out.size _
  have HG4 : Hid _ := (Below.heap_alloc w3 (.cells #[.int .i64 d.pr, .int .i64 d.kd, .bool d.ba, .int .i64 d.sa, .int .i64 d.sp, .int .i64 d.da, .int .i64 d.dp, .int .i64 x, .int .i64 d.bi, .int .i64 d.sr, .string d.op, .string d.md, .string d.tx, .string d.ta] 33) _ (by omega)).trans HG3.out
  have HE : Hid _ := E3
  have hz13 : w1.heap.size < w3.heap.size := by omega
  have hzp : w.heap.size + 1 < w3.heap.size := by omega
  have cX1 := CX.out d hP
  have cM1 := CM.out d hP
  have CF1 : Hid (∀ wx base b v tk ti, Bat wx base b g tk ti v [] → 0 ≤ tk → tk ≤ 100 → Calls Tryz.prog 18 #[.pointer (some ⟨b, 0, none⟩), .int .i64 0, .string (X d)] wx fun e w' => e = .returned (rpv 9 0 (if 1 ≤ tk then W d else ⟨#[]⟩)) ∧ ∃ v', BL wx w' base b g v v' (if 1 ≤ tk then tk - 1 else tk) ti []) := fun wx base b v tk ti => CF.out d wx base b v tk ti hP
  generalize X d = XX at cX1 CF1
  generalize W d = WW at cM1 CF1
  clear E3 hP CX CM CF CN CS
  go_wp2_with fail
  refine Calls.mono (cP.at _) ?_; rintro e w' ⟨rfl, hw⟩; replace hw := hw.symm; subst hw
  go_wp2_with fail
  generalize w3.alloc (.cells #[.int .i64 d.pr, .int .i64 d.kd, .bool d.ba, .int .i64 d.sa, .int .i64 d.sp, .int .i64 d.da, .int .i64 d.dp, .int .i64 x, .int .i64 d.bi, .int .i64 d.sr, .string d.op, .string d.md, .string d.tx, .string d.ta] 33) = w4 at T4 HW4 HG4 HE ⊢
  refine Calls.mono (cX1.at _) ?_; rintro e w5 ⟨rfl, hb5⟩
  have T5 : Hid _ := T4.out.below hb5
  have G5 := (hb5.block _ (Array.getElem?_eq_some_iff.1 HG4.out).1).trans HG4.out
  have D5 := (hb5.block _ (Array.getElem?_eq_some_iff.1 HE.out).1).trans HE.out
  have HW5 : Hid (Below w.heap.size w w5) := HW4.out.trans (hb5.mono HW4.out.size)
  have HG5 : Hid _ := G5
  obtain ⟨g0, g1, g2, g3, g4, g5, g6, g7, g8, g9, g10, g11⟩ := cel12 G5
  obtain ⟨d0, d1, d2, d3, d4, d5, d6, d7, d8, d9, d10, d11, d12, d13⟩ := cell14 D5
  clear hb5 G5 D5 p0 p1 p2 p3 p4 p5 p6 p7 p8 p9 p10 p11 T4 HW4 HG4 HE
  go_wp2_with fail
  refine Calls.mono (cM1.at _) ?_; rintro e w6 ⟨rfl, hb6⟩
  have T6 : Hid _ := T5.out.below hb6
  have HG6 : Hid _ := (hb6.block _ (Array.getElem?_eq_some_iff.1 HG5.out).1).trans HG5.out
  have HW6 : Hid (Below w.heap.size w w6) := HW5.out.trans (hb6.mono HW5.out.size)
  clear hb6 g0 g1 g2 g3 g4 g5 g6 g7 g8 g9 g10 g11 d0 d1 d2 d3 d4 d5 d6 d7 d8 d9 d10 d11 d12 d13 T5 HG5 HW5
  have O0 : Hid (Ost w w1.heap.size base b g g.bu 0 (.slice none 0 0) (.slice none 0 0) (.slice none 0 0) [] w6) :=
    ⟨⟨HW6.out, HG6.out, T6.out, World.ownsRow_nil _ _ _ _, World.ownsRow_nil _ _ _ _, by omega, by simp [Value.ownBlock], by simp [Value.ownBlock], by simp [Value.ownBlock], by omega, hbs⟩, fun _ => ⟨rfl, rfl⟩, inv_start _ _, by simp, b0, b1⟩
  go_wp2
  clear T6 HG6 HW6
  go_loopw [13, 14, 15, 16] (fun nv tx bx iv wr => ∃ (i : Nat) (now tk : Int) (l : List (Int × Bool)) (v tv bv : Value), nv = .int .i64 now ∧ tx = tv ∧ bx = bv ∧ iv = .int .i64 (i : Int) ∧ i ≤ len ∧ 0 ≤ now ∧ now ≤ 1099511627776 ∧ Hid (l.length = i) ∧ Hid (Ost w w1.heap.size base b g tk now v tv bv l wr)) (fun _ _ _ iv _ => len - (intOf iv).toNat)
  case atStart => exact ⟨0, 0, g.bu, [], .slice none 0 0, .slice none 0 0, .slice none 0 0, rfl, rfl, rfl, rfl, Nat.zero_le _, by omega, by omega, rfl, O0.out⟩
  case round =>
    obtain ⟨i, now, tk, l, v, tv, bv, rfl, htv, hbv, rfl, hi, n0, n1, hl, hO⟩ := hrel
    replace htv := htv.symm
    replace hbv := hbv.symm
    subst htv hbv
    by_cases hlt : i < len
    · obtain ⟨z, hz⟩ : ∃ z, zs[i]? = some z := ⟨zs[i]'(by have := HZ.out; omega), List.getElem?_eq_getElem _⟩
      have ha := HAO.out (by omega)
      subst ha
      have c1 : wr.cell? ⟨A, off + i, none⟩ = some (.int .i64 z) := (hO.out.oin.bel.cell (p := ⟨A, off + i, none⟩) (HA.out (by omega))).trans (HC.out i z hz)
      obtain ⟨n, ⟨q0, q1⟩, cWn⟩ := CW.out z (List.mem_of_getElem? hz)
      clear hz
      go_wp2_with fail
      refine Calls.mono (cWn.at _) ?_; rintro e w' ⟨rfl, hw⟩; replace hw := hw.symm; subst hw
      by_cases hM : now + n ≤ 1099511627776
      · have hM1 : decide (1099511627776 < now + n) = false := by simpa using hM
        obtain ⟨nw, hnw⟩ : ∃ nw, now + n = nw := ⟨_, rfl⟩
        have w0' : 0 ≤ nw := by omega
        have w1' : nw ≤ 1099511627776 := by omega
        have w2' : now ≤ nw := by omega
        obtain ⟨tk1, htk, k10, k11, cT1⟩ := CT.out wr base b v tk now n hO.out.oin.bat hO.out.t0 hO.out.t1 q0 q1 n0 hM
        have I1 : Hid (Inv g.bu g.ra nw l tk1) := by
          show Inv _ _ _ _ _
          rw [htk, ← hnw]
          exact inv_tick hO.out.inv (Int.mul_nonneg r0 q0)
        rw [hnw] at cT1
        clear htk
        have CT1 : Hid _ := cT1
        clear cT1
        go_wp2_with fail
        refine Calls.mono CT1.out ?_; rintro e w7 ⟨rfl, v7, hL7⟩
        have O7 : Hid _ := hO.out.oin.bl hL7
        have cF2 := CF1.out w7 base b v7 tk1 nw O7.out.bat k10 k11
        unfold rpv at cF2
        by_cases hk : 1 ≤ tk1
        · rw [if_pos hk, if_pos hk] at cF2
          have hd : decide (1 ≤ tk1) = true := by simpa using hk
          have CF2 : Hid _ := cF2
          clear cF2 hL7 CT1
          go_wp2_with fail
          refine Calls.mono CF2.out ?_; rintro e w8 ⟨rfl, v8, hL8⟩
          have O8 : Hid (∀ o, Oin w w1.heap.size base b g (tk1 - 1) nw v8 tv bv l.length l.length (xt l) (xb l) (w8.alloc o)) := fun o => (O7.out.bl hL8).next ((Below.refl _ _).alloc (Nat.le_refl _) o)
          have R8 : Hid (∀ o, (w8.alloc o).heap[w8.heap.size]? = some o) := fun o => alloc1 w8 o
          clear hL8 CF2 O7
          go_wp2_with fail
          have O9 : Hid _ := O8.out (.cells #[.int .i64 9, .int .i64 0, .string WW] 42)
          have R9 := R8.out (.cells #[.int .i64 9, .int .i64 0, .string WW] 42)
          have hz9 : w8.heap.size < (w8.alloc (.cells #[.int .i64 9, .int .i64 0, .string WW] 42)).heap.size := by simp
          generalize w8.alloc (.cells #[.int .i64 9, .int .i64 0, .string WW] 42) = w9 at O9 R9 hz9 ⊢
          clear O8 R8
          have cL9 : Calls Tryz.prog 19 #[.pointer (some ⟨b, 0, none⟩)] w9 fun e w' => e = .returned (.int .i64 0) ∧ w' = w9 := live_any O9.out.bat (by simp)
          have G9 := O9.out.cfg
          have cF9 := fits_oin O9.out hO.out.nil I1.out (by have := hl.out; omega) b1 r0 r1 w0' (by omega) (fun p hp => by have := hO.out.all p hp; omega)
          rw [hd] at cF9
          unfold cfl at G9 cF9
          obtain ⟨g0, g1, g2, g3, g4, g5, g6, g7, g8, g9, g10, g11⟩ := cel12 G9
          obtain ⟨r0', r1', r2'⟩ := cell3 R9
          have HR9 : Hid _ := R9
          have CF9 : Hid _ := cF9
          clear G9 R9 cF9
          refine Calls.mono cL9 ?_; rintro e w' ⟨rfl, hw⟩; replace hw := hw.symm; subst hw
          go_wp2_with fail
          refine Calls.mono CF9.out ?_; rintro e w10 ⟨rfl, hb10⟩
          have O10 : Hid _ := O9.out.next hb10
          have R10 := (hb10.block _ hz9).trans HR9.out
          clear r0' r1' r2' g0 g1 g2 g3 g4 g5 g6 g7 g8 g9 g10 g11 hb10 HR9 CF9 cL9
          obtain ⟨r0', r1', r2'⟩ := cell3 R10
          clear R10
          have tm := O10.out.tim.alloc (.cells #[.int .i64 nw] 3)
          have A10 := alloc1 w10 (.cells #[.int .i64 nw] 3)
          have hs10 : w.heap.size ≤ (w10.alloc (.cells #[.int .i64 nw] 3)).heap.size := by have := O10.out.bel.size; simp; omega
          have TM : Hid _ := tm
          have HA10 : Hid _ := A10
          have S10 : Hid _ := hs10
          clear tm A10 hs10
          go_wp2_with (first
            | (at_builtin; refine wpList_append_lies _ rfl _ _ 26 rfl w.heap.size 3 i0 (.int .i64 0) 1 8 Tryz.underlying26 HI0.out Z00.out Z01.out Z02.out rfl (by decide) _ _ _ rfl TM.out ⟨w10.heap.size, 0, none⟩ 1 1 [.int .i64 nw] rfl rfl (World.news_of_block HA10.out) ?c2 (by decide) ?c3 ?c4 S10.out _ rfl ?_)
            | go_in)
          case c2 => intro u hu; simp at hu; subst hu; rfl
          case c3 => have := hl.out; unfold maxLen; omega
          case c4 => have := hl.out; omega
          intro g1 cap1 w11 ho1 hg1 hl1 hz11
          have O11 : Hid _ := Oin.app1 (O10.out.next ((Below.refl _ _).alloc (Nat.le_refl _) _)) hg1 ho1 (by simpa using hl1)
          clear ho1 hg1 hl1 TM HA10 S10 r0' r1' r2'
          have tm2 := O11.out.tol.alloc (.cells #[.bool true] 4)
          have A11 := alloc1 w11 (.cells #[.bool true] 4)
          have hs11 : w.heap.size ≤ (w11.alloc (.cells #[.bool true] 4)).heap.size := by have := O11.out.bel.size; simp; omega
          have TM2 : Hid _ := tm2
          have HA11 : Hid _ := A11
          have S11 : Hid _ := hs11
          clear tm2 A11 hs11
          go_wp2_with (first
            | (at_builtin; refine wpList_append_lies _ rfl _ _ 38 rfl w.heap.size 4 i1 (.bool false) 1 1 Tryz.underlying38 HI1.out Z10.out Z11.out Z12.out rfl (by decide) _ _ _ rfl TM2.out ⟨w11.heap.size, 0, none⟩ 1 1 [.bool true] rfl rfl (World.news_of_block HA11.out) ?c2 (by decide) ?c3 ?c4 S11.out _ rfl ?_)
            | go_in)
          case c2 => intro u hu; simp at hu; subst hu; rfl
          case c3 => have := hl.out; unfold maxLen; omega
          case c4 => have := hl.out; omega
          intro g2 cap2 w12 ho2 hg2 hl2 hz12
          have O12 : Hid _ := Oin.app2 (O11.out.next ((Below.refl _ _).alloc (Nat.le_refl _) _)) hg2 ho2 (by simpa using hl2)
          clear ho2 hg2 hl2 TM2 HA11 S11
          have OS : Hid (Ost w w1.heap.size base b g (tk1 - 1) nw v8 (.slice (some ⟨g1, 0, none⟩) (l.length + 1) cap1) (.slice (some ⟨g2, 0, none⟩) (l.length + 1) cap2) ((nw, true) :: l) w12) := by
            refine ⟨?_, fun h => (by cases h), ?_, fun p hp => ?_, by omega, by omega⟩
            · have e1 : xt l ++ [.int .i64 nw] = xt ((nw, true) :: l) := by simp [xt]
              have e2 : xb l ++ [.bool true] = xb ((nw, true) :: l) := by simp [xb]
              have := O12.out
              rw [e1, e2] at this
              exact this
            · exact inv_told I1.out true
            · rcases List.mem_cons.1 hp with e | e
              · rw [e]; exact ⟨w0', Int.le_refl _⟩
              · have := hO.out.all p e; omega
          clear O11 O12
          go_wp2
          go_round
          case rel => exact ⟨i + 1, nw, (tk1 - 1), (nw, true) :: l, v8, _, _, rfl, rfl, rfl, by go_num, by omega, w0', w1', by show _ = _; simp [hl.out], OS.out⟩
          case measure => simp [intOf]; omega
        · rw [if_neg hk, if_neg hk] at cF2
          have hd : decide (1 ≤ tk1) = false := by simpa using hk
          have CF2 : Hid _ := cF2
          clear cF2 hL7 CT1
          go_wp2_with fail
          refine Calls.mono CF2.out ?_; rintro e w8 ⟨rfl, v8, hL8⟩
          have O8 : Hid (∀ o, Oin w w1.heap.size base b g tk1 nw v8 tv bv l.length l.length (xt l) (xb l) (w8.alloc o)) := fun o => (O7.out.bl hL8).next ((Below.refl _ _).alloc (Nat.le_refl _) o)
          have R8 : Hid (∀ o, (w8.alloc o).heap[w8.heap.size]? = some o) := fun o => alloc1 w8 o
          clear hL8 CF2 O7
          go_wp2_with fail
          have O9 : Hid _ := O8.out (.cells #[.int .i64 9, .int .i64 0, .string ⟨#[]⟩] 42)
          have R9 := R8.out (.cells #[.int .i64 9, .int .i64 0, .string ⟨#[]⟩] 42)
          have hz9 : w8.heap.size < (w8.alloc (.cells #[.int .i64 9, .int .i64 0, .string ⟨#[]⟩] 42)).heap.size := by simp
          generalize w8.alloc (.cells #[.int .i64 9, .int .i64 0, .string ⟨#[]⟩] 42) = w9 at O9 R9 hz9 ⊢
          clear O8 R8
          have cL9 : Calls Tryz.prog 19 #[.pointer (some ⟨b, 0, none⟩)] w9 fun e w' => e = .returned (.int .i64 0) ∧ w' = w9 := live_any O9.out.bat (by simp)
          have G9 := O9.out.cfg
          have cF9 := fits_oin O9.out hO.out.nil I1.out (by have := hl.out; omega) b1 r0 r1 w0' (by omega) (fun p hp => by have := hO.out.all p hp; omega)
          rw [hd] at cF9
          unfold cfl at G9 cF9
          obtain ⟨g0, g1, g2, g3, g4, g5, g6, g7, g8, g9, g10, g11⟩ := cel12 G9
          obtain ⟨r0', r1', r2'⟩ := cell3 R9
          have HR9 : Hid _ := R9
          have CF9 : Hid _ := cF9
          clear G9 R9 cF9
          refine Calls.mono cL9 ?_; rintro e w' ⟨rfl, hw⟩; replace hw := hw.symm; subst hw
          go_wp2_with fail
          refine Calls.mono CF9.out ?_; rintro e w10 ⟨rfl, hb10⟩
          have O10 : Hid _ := O9.out.next hb10
          have R10 := (hb10.block _ hz9).trans HR9.out
          clear r0' r1' r2' g0 g1 g2 g3 g4 g5 g6 g7 g8 g9 g10 g11 hb10 HR9 CF9 cL9
          obtain ⟨r0', r1', r2'⟩ := cell3 R10
          clear R10
          have tm := O10.out.tim.alloc (.cells #[.int .i64 nw] 3)
          have A10 := alloc1 w10 (.cells #[.int .i64 nw] 3)
          have hs10 : w.heap.size ≤ (w10.alloc (.cells #[.int .i64 nw] 3)).heap.size := by have := O10.out.bel.size; simp; omega
          have TM : Hid _ := tm
          have HA10 : Hid _ := A10
          have S10 : Hid _ := hs10
          clear tm A10 hs10
          go_wp2_with (first
            | (at_builtin; refine wpList_append_lies _ rfl _ _ 26 rfl w.heap.size 3 i0 (.int .i64 0) 1 8 Tryz.underlying26 HI0.out Z00.out Z01.out Z02.out rfl (by decide) _ _ _ rfl TM.out ⟨w10.heap.size, 0, none⟩ 1 1 [.int .i64 nw] rfl rfl (World.news_of_block HA10.out) ?c2 (by decide) ?c3 ?c4 S10.out _ rfl ?_)
            | go_in)
          case c2 => intro u hu; simp at hu; subst hu; rfl
          case c3 => have := hl.out; unfold maxLen; omega
          case c4 => have := hl.out; omega
          intro g1 cap1 w11 ho1 hg1 hl1 hz11
          have O11 : Hid _ := Oin.app1 (O10.out.next ((Below.refl _ _).alloc (Nat.le_refl _) _)) hg1 ho1 (by simpa using hl1)
          clear ho1 hg1 hl1 TM HA10 S10 r0' r1' r2'
          have tm2 := O11.out.tol.alloc (.cells #[.bool false] 4)
          have A11 := alloc1 w11 (.cells #[.bool false] 4)
          have hs11 : w.heap.size ≤ (w11.alloc (.cells #[.bool false] 4)).heap.size := by have := O11.out.bel.size; simp; omega
          have TM2 : Hid _ := tm2
          have HA11 : Hid _ := A11
          have S11 : Hid _ := hs11
          clear tm2 A11 hs11
          go_wp2_with (first
            | (at_builtin; refine wpList_append_lies _ rfl _ _ 38 rfl w.heap.size 4 i1 (.bool false) 1 1 Tryz.underlying38 HI1.out Z10.out Z11.out Z12.out rfl (by decide) _ _ _ rfl TM2.out ⟨w11.heap.size, 0, none⟩ 1 1 [.bool false] rfl rfl (World.news_of_block HA11.out) ?c2 (by decide) ?c3 ?c4 S11.out _ rfl ?_)
            | go_in)
          case c2 => intro u hu; simp at hu; subst hu; rfl
          case c3 => have := hl.out; unfold maxLen; omega
          case c4 => have := hl.out; omega
          intro g2 cap2 w12 ho2 hg2 hl2 hz12
          have O12 : Hid _ := Oin.app2 (O11.out.next ((Below.refl _ _).alloc (Nat.le_refl _) _)) hg2 ho2 (by simpa using hl2)
          clear ho2 hg2 hl2 TM2 HA11 S11
          have OS : Hid (Ost w w1.heap.size base b g tk1 nw v8 (.slice (some ⟨g1, 0, none⟩) (l.length + 1) cap1) (.slice (some ⟨g2, 0, none⟩) (l.length + 1) cap2) ((nw, false) :: l) w12) := by
            refine ⟨?_, fun h => (by cases h), ?_, fun p hp => ?_, by omega, by omega⟩
            · have e1 : xt l ++ [.int .i64 nw] = xt ((nw, false) :: l) := by simp [xt]
              have e2 : xb l ++ [.bool false] = xb ((nw, false) :: l) := by simp [xb]
              have := O12.out
              rw [e1, e2] at this
              exact this
            · exact inv_told I1.out false
            · rcases List.mem_cons.1 hp with e | e
              · rw [e]; exact ⟨w0', Int.le_refl _⟩
              · have := hO.out.all p e; omega
          clear O11 O12
          go_wp2
          go_round
          case rel => exact ⟨i + 1, nw, tk1, (nw, false) :: l, v8, _, _, rfl, rfl, rfl, by go_num, by omega, w0', w1', by show _ = _; simp [hl.out], OS.out⟩
          case measure => simp [intOf]; omega
      · have hM1 : decide (1099511627776 < now + n) = true := by simpa using hM
        obtain ⟨tk1, htk, k10, k11, cT1⟩ := CT.out wr base b v tk now 0 hO.out.oin.bat hO.out.t0 hO.out.t1 (by decide) (by decide) n0 (by omega)
        have I1 : Hid (Inv g.bu g.ra now l tk1) := by
          show Inv _ _ _ _ _
          have := inv_tick hO.out.inv (n := 0) (Int.mul_nonneg r0 (by decide))
          rw [Int.add_zero] at this
          rw [htk]
          exact this
        rw [Int.add_zero] at cT1
        have w0' : 0 ≤ now := n0
        have w1' : now ≤ 1099511627776 := n1
        have w2' : now ≤ now := by omega
        clear htk
        have CT1 : Hid _ := cT1
        clear cT1
        go_wp2_with fail
        refine Calls.mono CT1.out ?_; rintro e w7 ⟨rfl, v7, hL7⟩
        have O7 : Hid _ := hO.out.oin.bl hL7
        have cF2 := CF1.out w7 base b v7 tk1 now O7.out.bat k10 k11
        unfold rpv at cF2
        by_cases hk : 1 ≤ tk1
        · rw [if_pos hk, if_pos hk] at cF2
          have hd : decide (1 ≤ tk1) = true := by simpa using hk
          have CF2 : Hid _ := cF2
          clear cF2 hL7 CT1
          go_wp2_with fail
          refine Calls.mono CF2.out ?_; rintro e w8 ⟨rfl, v8, hL8⟩
          have O8 : Hid (∀ o, Oin w w1.heap.size base b g (tk1 - 1) now v8 tv bv l.length l.length (xt l) (xb l) (w8.alloc o)) := fun o => (O7.out.bl hL8).next ((Below.refl _ _).alloc (Nat.le_refl _) o)
          have R8 : Hid (∀ o, (w8.alloc o).heap[w8.heap.size]? = some o) := fun o => alloc1 w8 o
          clear hL8 CF2 O7
          go_wp2_with fail
          have O9 : Hid _ := O8.out (.cells #[.int .i64 9, .int .i64 0, .string WW] 42)
          have R9 := R8.out (.cells #[.int .i64 9, .int .i64 0, .string WW] 42)
          have hz9 : w8.heap.size < (w8.alloc (.cells #[.int .i64 9, .int .i64 0, .string WW] 42)).heap.size := by simp
          generalize w8.alloc (.cells #[.int .i64 9, .int .i64 0, .string WW] 42) = w9 at O9 R9 hz9 ⊢
          clear O8 R8
          have cL9 : Calls Tryz.prog 19 #[.pointer (some ⟨b, 0, none⟩)] w9 fun e w' => e = .returned (.int .i64 0) ∧ w' = w9 := live_any O9.out.bat (by simp)
          have G9 := O9.out.cfg
          have cF9 := fits_oin O9.out hO.out.nil I1.out (by have := hl.out; omega) b1 r0 r1 w0' (by omega) (fun p hp => by have := hO.out.all p hp; omega)
          rw [hd] at cF9
          unfold cfl at G9 cF9
          obtain ⟨g0, g1, g2, g3, g4, g5, g6, g7, g8, g9, g10, g11⟩ := cel12 G9
          obtain ⟨r0', r1', r2'⟩ := cell3 R9
          have HR9 : Hid _ := R9
          have CF9 : Hid _ := cF9
          clear G9 R9 cF9
          refine Calls.mono cL9 ?_; rintro e w' ⟨rfl, hw⟩; replace hw := hw.symm; subst hw
          go_wp2_with fail
          refine Calls.mono CF9.out ?_; rintro e w10 ⟨rfl, hb10⟩
          have O10 : Hid _ := O9.out.next hb10
          have R10 := (hb10.block _ hz9).trans HR9.out
          clear r0' r1' r2' g0 g1 g2 g3 g4 g5 g6 g7 g8 g9 g10 g11 hb10 HR9 CF9 cL9
          obtain ⟨r0', r1', r2'⟩ := cell3 R10
          clear R10
          have tm := O10.out.tim.alloc (.cells #[.int .i64 now] 3)
          have A10 := alloc1 w10 (.cells #[.int .i64 now] 3)
          have hs10 : w.heap.size ≤ (w10.alloc (.cells #[.int .i64 now] 3)).heap.size := by have := O10.out.bel.size; simp; omega
          have TM : Hid _ := tm
          have HA10 : Hid _ := A10
          have S10 : Hid _ := hs10
          clear tm A10 hs10
          go_wp2_with (first
            | (at_builtin; refine wpList_append_lies _ rfl _ _ 26 rfl w.heap.size 3 i0 (.int .i64 0) 1 8 Tryz.underlying26 HI0.out Z00.out Z01.out Z02.out rfl (by decide) _ _ _ rfl TM.out ⟨w10.heap.size, 0, none⟩ 1 1 [.int .i64 now] rfl rfl (World.news_of_block HA10.out) ?c2 (by decide) ?c3 ?c4 S10.out _ rfl ?_)
            | go_in)
          case c2 => intro u hu; simp at hu; subst hu; rfl
          case c3 => have := hl.out; unfold maxLen; omega
          case c4 => have := hl.out; omega
          intro g1 cap1 w11 ho1 hg1 hl1 hz11
          have O11 : Hid _ := Oin.app1 (O10.out.next ((Below.refl _ _).alloc (Nat.le_refl _) _)) hg1 ho1 (by simpa using hl1)
          clear ho1 hg1 hl1 TM HA10 S10 r0' r1' r2'
          have tm2 := O11.out.tol.alloc (.cells #[.bool true] 4)
          have A11 := alloc1 w11 (.cells #[.bool true] 4)
          have hs11 : w.heap.size ≤ (w11.alloc (.cells #[.bool true] 4)).heap.size := by have := O11.out.bel.size; simp; omega
          have TM2 : Hid _ := tm2
          have HA11 : Hid _ := A11
          have S11 : Hid _ := hs11
          clear tm2 A11 hs11
          go_wp2_with (first
            | (at_builtin; refine wpList_append_lies _ rfl _ _ 38 rfl w.heap.size 4 i1 (.bool false) 1 1 Tryz.underlying38 HI1.out Z10.out Z11.out Z12.out rfl (by decide) _ _ _ rfl TM2.out ⟨w11.heap.size, 0, none⟩ 1 1 [.bool true] rfl rfl (World.news_of_block HA11.out) ?c2 (by decide) ?c3 ?c4 S11.out _ rfl ?_)
            | go_in)
          case c2 => intro u hu; simp at hu; subst hu; rfl
          case c3 => have := hl.out; unfold maxLen; omega
          case c4 => have := hl.out; omega
          intro g2 cap2 w12 ho2 hg2 hl2 hz12
          have O12 : Hid _ := Oin.app2 (O11.out.next ((Below.refl _ _).alloc (Nat.le_refl _) _)) hg2 ho2 (by simpa using hl2)
          clear ho2 hg2 hl2 TM2 HA11 S11
          have OS : Hid (Ost w w1.heap.size base b g (tk1 - 1) now v8 (.slice (some ⟨g1, 0, none⟩) (l.length + 1) cap1) (.slice (some ⟨g2, 0, none⟩) (l.length + 1) cap2) ((now, true) :: l) w12) := by
            refine ⟨?_, fun h => (by cases h), ?_, fun p hp => ?_, by omega, by omega⟩
            · have e1 : xt l ++ [.int .i64 now] = xt ((now, true) :: l) := by simp [xt]
              have e2 : xb l ++ [.bool true] = xb ((now, true) :: l) := by simp [xb]
              have := O12.out
              rw [e1, e2] at this
              exact this
            · exact inv_told I1.out true
            · rcases List.mem_cons.1 hp with e | e
              · rw [e]; exact ⟨w0', Int.le_refl _⟩
              · have := hO.out.all p e; omega
          clear O11 O12
          go_wp2
          go_round
          case rel => exact ⟨i + 1, now, (tk1 - 1), (now, true) :: l, v8, _, _, rfl, rfl, rfl, by go_num, by omega, w0', w1', by show _ = _; simp [hl.out], OS.out⟩
          case measure => simp [intOf]; omega
        · rw [if_neg hk, if_neg hk] at cF2
          have hd : decide (1 ≤ tk1) = false := by simpa using hk
          have CF2 : Hid _ := cF2
          clear cF2 hL7 CT1
          go_wp2_with fail
          refine Calls.mono CF2.out ?_; rintro e w8 ⟨rfl, v8, hL8⟩
          have O8 : Hid (∀ o, Oin w w1.heap.size base b g tk1 now v8 tv bv l.length l.length (xt l) (xb l) (w8.alloc o)) := fun o => (O7.out.bl hL8).next ((Below.refl _ _).alloc (Nat.le_refl _) o)
          have R8 : Hid (∀ o, (w8.alloc o).heap[w8.heap.size]? = some o) := fun o => alloc1 w8 o
          clear hL8 CF2 O7
          go_wp2_with fail
          have O9 : Hid _ := O8.out (.cells #[.int .i64 9, .int .i64 0, .string ⟨#[]⟩] 42)
          have R9 := R8.out (.cells #[.int .i64 9, .int .i64 0, .string ⟨#[]⟩] 42)
          have hz9 : w8.heap.size < (w8.alloc (.cells #[.int .i64 9, .int .i64 0, .string ⟨#[]⟩] 42)).heap.size := by simp
          generalize w8.alloc (.cells #[.int .i64 9, .int .i64 0, .string ⟨#[]⟩] 42) = w9 at O9 R9 hz9 ⊢
          clear O8 R8
          have cL9 : Calls Tryz.prog 19 #[.pointer (some ⟨b, 0, none⟩)] w9 fun e w' => e = .returned (.int .i64 0) ∧ w' = w9 := live_any O9.out.bat (by simp)
          have G9 := O9.out.cfg
          have cF9 := fits_oin O9.out hO.out.nil I1.out (by have := hl.out; omega) b1 r0 r1 w0' (by omega) (fun p hp => by have := hO.out.all p hp; omega)
          rw [hd] at cF9
          unfold cfl at G9 cF9
          obtain ⟨g0, g1, g2, g3, g4, g5, g6, g7, g8, g9, g10, g11⟩ := cel12 G9
          obtain ⟨r0', r1', r2'⟩ := cell3 R9
          have HR9 : Hid _ := R9
          have CF9 : Hid _ := cF9
          clear G9 R9 cF9
          refine Calls.mono cL9 ?_; rintro e w' ⟨rfl, hw⟩; replace hw := hw.symm; subst hw
          go_wp2_with fail
          refine Calls.mono CF9.out ?_; rintro e w10 ⟨rfl, hb10⟩
          have O10 : Hid _ := O9.out.next hb10
          have R10 := (hb10.block _ hz9).trans HR9.out
          clear r0' r1' r2' g0 g1 g2 g3 g4 g5 g6 g7 g8 g9 g10 g11 hb10 HR9 CF9 cL9
          obtain ⟨r0', r1', r2'⟩ := cell3 R10
          clear R10
          have tm := O10.out.tim.alloc (.cells #[.int .i64 now] 3)
          have A10 := alloc1 w10 (.cells #[.int .i64 now] 3)
          have hs10 : w.heap.size ≤ (w10.alloc (.cells #[.int .i64 now] 3)).heap.size := by have := O10.out.bel.size; simp; omega
          have TM : Hid _ := tm
          have HA10 : Hid _ := A10
          have S10 : Hid _ := hs10
          clear tm A10 hs10
          go_wp2_with (first
            | (at_builtin; refine wpList_append_lies _ rfl _ _ 26 rfl w.heap.size 3 i0 (.int .i64 0) 1 8 Tryz.underlying26 HI0.out Z00.out Z01.out Z02.out rfl (by decide) _ _ _ rfl TM.out ⟨w10.heap.size, 0, none⟩ 1 1 [.int .i64 now] rfl rfl (World.news_of_block HA10.out) ?c2 (by decide) ?c3 ?c4 S10.out _ rfl ?_)
            | go_in)
          case c2 => intro u hu; simp at hu; subst hu; rfl
          case c3 => have := hl.out; unfold maxLen; omega
          case c4 => have := hl.out; omega
          intro g1 cap1 w11 ho1 hg1 hl1 hz11
          have O11 : Hid _ := Oin.app1 (O10.out.next ((Below.refl _ _).alloc (Nat.le_refl _) _)) hg1 ho1 (by simpa using hl1)
          clear ho1 hg1 hl1 TM HA10 S10 r0' r1' r2'
          have tm2 := O11.out.tol.alloc (.cells #[.bool false] 4)
          have A11 := alloc1 w11 (.cells #[.bool false] 4)
          have hs11 : w.heap.size ≤ (w11.alloc (.cells #[.bool false] 4)).heap.size := by have := O11.out.bel.size; simp; omega
          have TM2 : Hid _ := tm2
          have HA11 : Hid _ := A11
          have S11 : Hid _ := hs11
          clear tm2 A11 hs11
          go_wp2_with (first
            | (at_builtin; refine wpList_append_lies _ rfl _ _ 38 rfl w.heap.size 4 i1 (.bool false) 1 1 Tryz.underlying38 HI1.out Z10.out Z11.out Z12.out rfl (by decide) _ _ _ rfl TM2.out ⟨w11.heap.size, 0, none⟩ 1 1 [.bool false] rfl rfl (World.news_of_block HA11.out) ?c2 (by decide) ?c3 ?c4 S11.out _ rfl ?_)
            | go_in)
          case c2 => intro u hu; simp at hu; subst hu; rfl
          case c3 => have := hl.out; unfold maxLen; omega
          case c4 => have := hl.out; omega
          intro g2 cap2 w12 ho2 hg2 hl2 hz12
          have O12 : Hid _ := Oin.app2 (O11.out.next ((Below.refl _ _).alloc (Nat.le_refl _) _)) hg2 ho2 (by simpa using hl2)
          clear ho2 hg2 hl2 TM2 HA11 S11
          have OS : Hid (Ost w w1.heap.size base b g tk1 now v8 (.slice (some ⟨g1, 0, none⟩) (l.length + 1) cap1) (.slice (some ⟨g2, 0, none⟩) (l.length + 1) cap2) ((now, false) :: l) w12) := by
            refine ⟨?_, fun h => (by cases h), ?_, fun p hp => ?_, by omega, by omega⟩
            · have e1 : xt l ++ [.int .i64 now] = xt ((now, false) :: l) := by simp [xt]
              have e2 : xb l ++ [.bool false] = xb ((now, false) :: l) := by simp [xb]
              have := O12.out
              rw [e1, e2] at this
              exact this
            · exact inv_told I1.out false
            · rcases List.mem_cons.1 hp with e | e
              · rw [e]; exact ⟨w0', Int.le_refl _⟩
              · have := hO.out.all p e; omega
          clear O11 O12
          go_wp2
          go_round
          case rel => exact ⟨i + 1, now, tk1, (now, false) :: l, v8, _, _, rfl, rfl, rfl, by go_num, by omega, w0', w1', by show _ = _; simp [hl.out], OS.out⟩
          case measure => simp [intOf]; omega
    · have hin : i = len := by omega
      have cK := tokens_any hO.out.oin.bat
      have cF1 := fits_oin hO.out.oin hO.out.nil hO.out.inv (by have := hl.out; omega) b1 r0 r1 n0 (by omega) hO.out.all
      have cL1 := live_any hO.out.oin.bat (by simp)
      have G7 := hO.out.oin.cfg
      unfold cfl at G7 cF1
      obtain ⟨g0, g1, g2, g3, g4, g5, g6, g7, g8, g9, g10, g11⟩ := cel12 G7
      have HBf : Hid (∀ wx, Below wr.heap.size wr wx → Below w.heap.size w wx) := fun wx h => hO.out.oin.bel.trans (h.mono hO.out.oin.bel.size)
      have CL1 : Hid (∀ wx, Below wr.heap.size wr wx → Calls Tryz.prog 19 #[.pointer (some ⟨b, 0, none⟩)] wx fun e w' => e = .returned (.int .i64 0) ∧ w' = wx) := fun wx h => live_any (hO.out.oin.bat.below h) (by simp)
      have CK : Hid _ := cK
      have CF3 : Hid _ := cF1
      clear G7 cK cF1 cL1
      go_wp2_with fail
      refine Calls.mono CK.out ?_; rintro e w' ⟨rfl, hw⟩; replace hw := hw.symm; subst hw
      go_wp2_with fail
      refine Calls.mono CF3.out ?_; rintro e w10 ⟨rfl, hb10⟩
      have C10 : Hid _ := CL1.out _ hb10
      have B10 : Hid _ := HBf.out _ hb10
      clear hb10 g0 g1 g2 g3 g4 g5 g6 g7 g8 g9 g10 g11
      by_cases hk : 1 ≤ tk
      · have k1 : decide (1 ≤ tk) = true := by simpa using hk
        have k2 : decide (0 < tk) = true := by simp; omega
        go_wp2_with fail
        refine Calls.mono C10.out ?_; rintro e w' ⟨rfl, hw⟩; replace hw := hw.symm; subst hw
        go_wp2
        go_ret
        exact ⟨by simp, B10.out⟩
      · have k1 : decide (1 ≤ tk) = false := by simpa using hk
        have k2 : decide (0 < tk) = false := by simp; omega
        go_wp2_with fail
        refine Calls.mono C10.out ?_; rintro e w' ⟨rfl, hw⟩; replace hw := hw.symm; subst hw
        go_wp2
        go_ret
        exact ⟨by simp, B10.out⟩
end Go.Proofs.YthiljpbodmajaabGreat
