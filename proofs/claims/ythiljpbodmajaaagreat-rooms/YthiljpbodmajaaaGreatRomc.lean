/-
  CONTRACTS: natboxkeep.Rooms.
-/
import Derived.Test.YthiljpbodmajaaaGreatHomc
import Derived.Test.YthiljpbodmajaaaGreatRomq
import Derived.Deep.DeepCutAuto
namespace Go.Proofs.YthiljpbodmajaaaGreat
open Go.RowKit Plain
set_option linter.unusedVariables false

set_option maxHeartbeats 8000000 in
set_option maxRecDepth 2000 in
theorem rooms_core (c g : Cf) (P : Dg → Prop) (k0 k1 k2 k3 k4 k5 k6 k7 k8 many room n : Int) (m0 m1 m2 : ByteArray) (w : World) (hc : g.ok = true) (cC : RetB 12 #[.agg (cfl c)] (.agg (cfl g)))
    (cN : ∀ wx, Calls Tryz.prog 27 #[.agg (cfl g)] wx fun e w' => ∃ b, e = .returned (.tuple #[.pointer (some ⟨b, 0, none⟩), .int .i64 0]) ∧ Bat w' wx.heap.size b g g.bu 0 (.slice none 0 0) [] ∧ Below wx.heap.size wx w' ∧ wx.heap.size ≤ b)
    (cS : ∀ wx, Calls Tryz.prog 13 #[.agg #[.int .i64 k0, .int .i64 k1, .int .i64 k2, .int .i64 k3, .int .i64 k4, .int .i64 k5, .int .i64 k6, .int .i64 k7, .int .i64 k8, .string m0, .string m1, .string m2], .agg (cfl g), .int .i64 g.om] wx fun e w' => ∃ d, e = .returned (.agg (dgl d)) ∧ P d ∧ Below wx.heap.size wx w')
    (lo0 : 1 ≤ g.lo) (lo1 : g.lo ≤ g.hi) (hi1 : g.hi ≤ 65535)
    (R : Dg → Nat → List Mp → Int → Prop) (hR0 : ∀ d, P d → R d 0 [] g.bu) (n0 : 0 ≤ n) (n1 : n ≤ 72) (r0 : 0 ≤ room) (r1 : room ≤ 65536) (hsp : ∀ d, P d → 0 ≤ d.sp ∧ d.sp < 65536)
    (cF : ∀ d (sp : Int), P d → 0 ≤ sp → sp < 65536 → RetB 23 #[.agg (dgl { d with sp := sp })] (.string (kfr { d with sp := sp })))
    (cY : ∀ d (i : Nat) wx base b v tk ms, P d → (i : Int) < n → R d i ms tk → Bat wx base b g tk 0 v ms → ∃ er sd fr tk' ms', ((i : Int) < room → (er != 0) = false ∧ (sd != 1) = false ∧ fr.toList.isEmpty = false) ∧ (room ≤ (i : Int) → (er != 11) = false) ∧ R d (i + 1) ms' tk' ∧ Calls Tryz.prog 25 #[.pointer (some ⟨b, 0, none⟩), .int .i64 0, .string (kfr { d with sp := (d.sp + i) % 65536 })] wx fun e w' => e = .returned (rpv er sd fr) ∧ ∃ v', BL wx w' base b g v v' tk' 0 ms')
    (cL : Ret 33 #[.int .i64 g.cp, .int .i64 (g.hi - g.lo + 1)] (.int .i64 room)) (cW : Ret 18 #[.int .i64 many, .int .i64 0, .int .i64 72] (.int .i64 n))
    (live : Int) (cL2 : Ret 33 #[.int .i64 n, .int .i64 room] (.int .i64 live)) (lv0 : 0 ≤ live) (lv1 : live ≤ 64)
    (hE : ∀ d (i : Nat) ms tk, P d → (i : Int) = n → R d i ms tk → (ms.length : Int) = live ∧ (∀ (k : Nat) m, ms[k]? = some m → m.pr = d.pr ∧ m.ea = d.sa ∧ 0 ≤ m.ep ∧ m.ep < 65536 ∧ (m.ep - d.sp + 65536) % 65536 < live ∧ g.lo ≤ m.ex ∧ m.ex ≤ g.hi) ∧ (∀ (k : Nat) m m', ms[k]? = some m → ms[k + 1]? = some m' → m.ex < m'.ex)) :
    Calls Tryz.prog 9 #[.agg (cfl c), .agg #[.int .i64 k0, .int .i64 k1, .int .i64 k2, .int .i64 k3, .int .i64 k4, .int .i64 k5, .int .i64 k6, .int .i64 k7, .int .i64 k8, .string m0, .string m1, .string m2], .int .i64 many] w fun e w' => e = .returned (.bool true) ∧ Below w.heap.size w w' := by
  unfold cfl at cC cS cN ⊢
  unfold dgl at cS
  have CS : Hid _ := cS
  have CN : Hid _ := cN
  have CF : Hid _ := cF
  have CY : Hid _ := cY
  have HR0 : Hid _ := hR0
  have HSP : Hid _ := hsp
  have HE0 : Hid _ := hE
  clear cS cN cF cY hR0 hsp hE
  go_enter Tryz.func9, Tryz.ntmps9
  go_wp2_with fail
  refine Calls.mono (cC.at _) ?_; rintro e w1 ⟨rfl, hb1⟩
  have P1 : Hid _ := (hb1.block (w.heap.size + 1) (by simp)).trans (alloc2 w _ _).2
  have HW1 : Hid (Below w.heap.size w w1) := (((Below.refl w.heap.size w).alloc (Nat.le_refl _) _).alloc (by simp) _).trans (hb1.mono (by simp; omega))
  have hz1 : w.heap.size + 1 < w1.heap.size := by have := hb1.size; simp at this; omega
  clear hb1
  go_wp2_with fail
  refine Calls.mono (CN.out _) ?_; rintro e w2 ⟨b, rfl, hT, hb2, hbb⟩
  obtain ⟨base, hbase⟩ : ∃ base, base = (w1.alloc (.cells #[.int .i64 g.ia, .int .i64 g.oa, .int .i64 g.lo, .int .i64 g.hi, .int .i64 g.cp, .int .i64 g.im, .int .i64 g.om, .int .i64 g.iu, .int .i64 g.it, .int .i64 g.iq, .int .i64 g.bu, .int .i64 g.ra] 28)).heap.size := ⟨_, rfl⟩
  rw [← hbase] at hT hbb
  have hba : base = w1.heap.size + 1 := by rw [hbase]; simp
  clear hbase
  have G2 := (hb2.block w1.heap.size (by simp)).trans (alloc1 w1 _)
  have P2 := (hb2.block (w.heap.size + 1) (by simp; omega)).trans ((Below.heap_alloc w1 _ _ hz1).trans P1.out)
  have HW2 : Hid (Below w.heap.size w w2) := (HW1.out.alloc (by omega) _).trans (hb2.mono (by simp; omega))
  have hz2 : w1.heap.size < w2.heap.size := by have := hb2.size; simp at this; omega
  have HT : Hid _ := hT
  have hbl : b < w2.heap.size := hT.lt
  have hbs : base ≤ b := hbb
  have HG2 : Hid _ := G2
  obtain ⟨g0, g1, g2, g3, g4, g5, g6, g7, g8, g9, g10, g11⟩ := cell12 G2
  obtain ⟨p0, p1, p2, p3, p4, p5, p6, p7, p8, p9, p10, p11⟩ := cell12 P2
  clear hT hb2 hbb G2 P2 P1
  go_wp2_with fail
  refine Calls.mono (CS.out _) ?_; rintro e w3 ⟨d, rfl, hP, hb3⟩
  have G3 := (hb3.block w1.heap.size hz2).trans HG2.out
  have T3 : Hid _ := HT.out.below hb3
  have HW3 : Hid (Below w.heap.size w w3) := HW2.out.trans (hb3.mono HW2.out.size)
  have hz3 : w2.heap.size ≤ w3.heap.size := hb3.size
  have HP : Hid _ := hP
  have HG3 : Hid _ := G3
  clear g0 g1 g2 g3 g4 g5 g6 g7 g8 g9 g10 g11 p0 p1 p2 p3 p4 p5 p6 p7 p8 p9 p10 p11 hb3 hP HT HG2
  obtain ⟨g0, g1, g2, g3, g4, g5, g6, g7, g8, g9, g10, g11⟩ := cell12 G3
  clear G3
  have E3 := alloc1 w3 (.cells #[.int .i64 d.pr, .int .i64 d.kd, .bool d.ba, .int .i64 d.sa, .int .i64 d.sp, .int .i64 d.da, .int .i64 d.dp, .int .i64 d.tl, .int .i64 d.bi, .int .i64 d.sr, .string d.op, .string d.md, .string d.tx, .string d.ta] 33)
  have T4 : Hid _ := T3.out.below ((Below.refl w3.heap.size w3).alloc (Nat.le_refl _) (.cells #[.int .i64 d.pr, .int .i64 d.kd, .bool d.ba, .int .i64 d.sa, .int .i64 d.sp, .int .i64 d.da, .int .i64 d.dp, .int .i64 d.tl, .int .i64 d.bi, .int .i64 d.sr, .string d.op, .string d.md, .string d.tx, .string d.ta] 33))
  have HW4 : Hid (Below w.heap.size w (w3.alloc (.cells #[.int .i64 d.pr, .int .i64 d.kd, .bool d.ba, .int .i64 d.sa, .int .i64 d.sp, .int .i64 d.da, .int .i64 d.dp, .int .i64 d.tl, .int .i64 d.bi, .int .i64 d.sr, .string d.op, .string d.md, .string d.tx, .string d.ta] 33))) := HW3.out.alloc HW3.out.size _
  have HG4 : Hid _ := (Below.heap_alloc w3 (.cells #[.int .i64 d.pr, .int .i64 d.kd, .bool d.ba, .int .i64 d.sa, .int .i64 d.sp, .int .i64 d.da, .int .i64 d.dp, .int .i64 d.tl, .int .i64 d.bi, .int .i64 d.sr, .string d.op, .string d.md, .string d.tx, .string d.ta] 33) _ (by omega)).trans HG3.out
  have hz4 : w3.heap.size < (w3.alloc (.cells #[.int .i64 d.pr, .int .i64 d.kd, .bool d.ba, .int .i64 d.sa, .int .i64 d.sp, .int .i64 d.da, .int .i64 d.dp, .int .i64 d.tl, .int .i64 d.bi, .int .i64 d.sr, .string d.op, .string d.md, .string d.tx, .string d.ta] 33)).heap.size := by simp
  have HE : Hid _ := E3
  have hz13 : w1.heap.size < w3.heap.size := by omega
  clear E3
  go_wp2_with fail
  refine Calls.mono (cL.at _) ?_; rintro e w' ⟨rfl, hw⟩; replace hw := hw.symm; subst hw
  go_wp2_with fail
  refine Calls.mono (cW.at _) ?_; rintro e w' ⟨rfl, hw⟩; replace hw := hw.symm; subst hw
  generalize w3.alloc (.cells #[.int .i64 d.pr, .int .i64 d.kd, .bool d.ba, .int .i64 d.sa, .int .i64 d.sp, .int .i64 d.da, .int .i64 d.dp, .int .i64 d.tl, .int .i64 d.bi, .int .i64 d.sr, .string d.op, .string d.md, .string d.tx, .string d.ta] 33) = w4 at T4 HW4 HG4 hz4 HE ⊢
  go_wp2
  obtain ⟨s0, s1⟩ := HSP.out d HP.out
  clear g0 g1 g2 g3 g4 g5 g6 g7 g8 g9 g10 g11 hz13
  go_loopw [14] (fun iv wr => ∃ (i : Nat) (sp tk : Int) (v : Value) (ms : List Mp), iv = .int .i64 (i : Int) ∧ (i : Int) ≤ n ∧ Hid (Below w.heap.size w wr) ∧ Hid (wr.heap[w1.heap.size]? = some (.cells #[.int .i64 g.ia, .int .i64 g.oa, .int .i64 g.lo, .int .i64 g.hi, .int .i64 g.cp, .int .i64 g.im, .int .i64 g.om, .int .i64 g.iu, .int .i64 g.it, .int .i64 g.iq, .int .i64 g.bu, .int .i64 g.ra] 28 (0, 0))) ∧ wr.heap[w3.heap.size]? = some (.cells #[.int .i64 d.pr, .int .i64 d.kd, .bool d.ba, .int .i64 d.sa, .int .i64 sp, .int .i64 d.da, .int .i64 d.dp, .int .i64 d.tl, .int .i64 d.bi, .int .i64 d.sr, .string d.op, .string d.md, .string d.tx, .string d.ta] 33 (0, 0)) ∧ Hid (R d i ms tk) ∧ Hid (Bat wr base b g tk 0 v ms) ∧ Hid (v.ownBlock ≠ some w3.heap.size)) (fun iv _ => n.toNat - (intOf iv).toNat)
  case atStart => exact ⟨0, d.sp, g.bu, .slice none 0 0, [], rfl, n0, HW4.out, HG4.out, HE.out, HR0.out d HP.out, T4.out, by show _ ≠ _; simp [Value.ownBlock]⟩
  case round =>
    obtain ⟨i, sp, tk, v, ms, rfl, hin, hB, hG, hD, hR, hT, hO⟩ := hrel
    by_cases hlt : (i : Int) < n
    · obtain ⟨d0, d1, d2, d3, d4, d5, d6, d7, d8, d9, d10, d11, d12, d13⟩ := cell14 hD
      have fd := nofrz hD
      have q0 : 0 ≤ (d.sp + (i : Int)) % 65536 := by omega
      have q1 : (d.sp + (i : Int)) % 65536 < 65536 := by omega
      have cF1 := CF.out d ((d.sp + (i : Int)) % 65536) HP.out q0 q1
      unfold dgl at cF1
      simp only at cF1
      have CY1 := CY.out d i
      obtain ⟨sq, hsq⟩ : ∃ sq, (d.sp + (i : Int)) % 65536 = sq := ⟨_, rfl⟩
      have D1 : Hid ((wr.setCell ⟨w3.heap.size, 4, none⟩ (.int .i64 sq)).heap[w3.heap.size]? = some (.cells #[.int .i64 d.pr, .int .i64 d.kd, .bool d.ba, .int .i64 d.sa, .int .i64 sq, .int .i64 d.da, .int .i64 d.dp, .int .i64 d.tl, .int .i64 d.bi, .int .i64 d.sr, .string d.op, .string d.md, .string d.tx, .string d.ta] 33 (0, 0))) := heap_setCell_same (.int .i64 sq) hD
      have T1 : Hid _ := Tb.other2 hT.out (p := ⟨w3.heap.size, 4, none⟩) (by show w3.heap.size ≠ b; omega) hO.out (.int .i64 sq)
      have B1 : Hid (Below w.heap.size w (wr.setCell ⟨w3.heap.size, 4, none⟩ (.int .i64 sq))) := hB.out.setCell (by show w.heap.size ≤ w3.heap.size; omega) _
      have G1 : Hid ((wr.setCell ⟨w3.heap.size, 4, none⟩ (.int .i64 sq)).heap[w1.heap.size]? = _) := (Below.heap_setCell wr _ _ _ (by show w1.heap.size ≠ w3.heap.size; omega)).trans hG.out
      have hi0 : (0 : Int) ≤ (i : Int) := by omega
      rw [hsq] at cF1 CY1
      go_wp2_with fail
      generalize wr.setCell ⟨w3.heap.size, 4, none⟩ (.int .i64 sq) = wS at D1 T1 B1 G1 ⊢
      clear hD d0 d1 d2 d3 d4 d5 d6 d7 d8 d9 d10 d11 d12 d13 fd
      refine Calls.mono (cF1.at _) ?_; rintro e w5 ⟨rfl, hb5⟩
      have T5 : Hid _ := T1.out.below hb5
      have h35 : w3.heap.size < w5.heap.size := Nat.lt_of_lt_of_le (Array.getElem?_eq_some_iff.1 D1.out).1 hb5.size
      have D5 : Hid _ := (hb5.block _ (Array.getElem?_eq_some_iff.1 D1.out).1).trans D1.out
      have G5 : Hid _ := (hb5.block _ (Array.getElem?_eq_some_iff.1 G1.out).1).trans G1.out
      have B5 : Hid (Below w.heap.size w w5) := B1.out.trans (hb5.mono B1.out.size)
      obtain ⟨er, sd, fr, tk', ms', y1, y2, y3, cYx⟩ := CY1 w5 base b v tk ms HP.out hlt hR.out T5.out
      unfold rpv at cYx
      have CYX : Hid _ := cYx
      have Y1 : Hid _ := y1
      have Y2 : Hid _ := y2
      have Y3 : Hid _ := y3
      clear cYx CY1 cF1 hb5 y1 y2 y3
      go_wp2_with fail
      refine Calls.mono CYX.out ?_; rintro e w6 ⟨rfl, v', hL⟩
      have hz6 : w5.heap.size ≤ w6.heap.size := hL.chg.size
      have A6 : Hid (∀ o, Below w.heap.size w (w6.alloc o)) := fun o => (B5.out.trans ((hL.below T5.out hbs (Below.refl base w5)).mono (by omega))).alloc (by have := B5.out.size; omega) o
      have G6 : Hid (∀ o, (w6.alloc o).heap[w1.heap.size]? = some (.cells #[.int .i64 g.ia, .int .i64 g.oa, .int .i64 g.lo, .int .i64 g.hi, .int .i64 g.cp, .int .i64 g.im, .int .i64 g.om, .int .i64 g.iu, .int .i64 g.it, .int .i64 g.iq, .int .i64 g.bu, .int .i64 g.ra] 28 (0, 0))) := fun o => (Below.heap_alloc w6 o _ (by omega)).trans ((hL.chg.block _ (by omega) (by omega) (fun e => by have := (T5.out.row.lt _ e.symm).1; omega)).trans G5.out)
      have D6 : Hid (∀ o, (w6.alloc o).heap[w3.heap.size]? = some (.cells #[.int .i64 d.pr, .int .i64 d.kd, .bool d.ba, .int .i64 d.sa, .int .i64 sq, .int .i64 d.da, .int .i64 d.dp, .int .i64 d.tl, .int .i64 d.bi, .int .i64 d.sr, .string d.op, .string d.md, .string d.tx, .string d.ta] 33 (0, 0))) := fun o => (Below.heap_alloc w6 o _ (by omega)).trans ((hL.chg.block _ h35 (by omega) (fun e => hO.out e.symm)).trans D5.out)
      have T6 : Hid (∀ o, Bat (w6.alloc o) base b g tk' 0 v' ms') := fun o => hL.bat.below ((Below.refl _ _).alloc (Nat.le_refl _) o)
      have O6 : Hid (v'.ownBlock ≠ some w3.heap.size) := fun e => by
        rcases hL.own _ e with k | k
        · exact hO.out k.symm
        · omega
      clear hL CYX
      by_cases hr : (i : Int) < room
      · obtain ⟨z1, z2, z3⟩ := Y1.out hr
        have hr2 : decide (room ≤ (i : Int)) = false := by simpa using hr
        go_wp2
        go_round
        case rel => exact ⟨i + 1, sq, tk', v', ms', by go_num, by omega, A6.out _, G6.out _, D6.out _, Y3.out, T6.out _, O6.out⟩
        case measure => simp [intOf]; omega
      · have z := Y2.out (by omega)
        have hr1 : decide ((i : Int) < room) = false := by simpa using hr
        go_wp2
        go_round
        case rel => exact ⟨i + 1, sq, tk', v', ms', by go_num, by omega, A6.out _, G6.out _, D6.out _, Y3.out, T6.out _, O6.out⟩
        case measure => simp [intOf]; omega
    · obtain ⟨e1, e2, e3⟩ := HE0.out d i ms tk HP.out (by omega) hR.out
      have E1 : Hid _ := e1
      have E2 : Hid _ := e2
      have E3 : Hid _ := e3
      clear e1 e2 e3 HE0 hR CF CY HR0
      obtain ⟨g0, g1, g2, g3, g4, g5, g6, g7, g8, g9, g10, g11⟩ := cell12 hG.out
      go_wp2_with fail
      refine Calls.mono (cL2.at _) ?_; rintro e w' ⟨rfl, hw⟩; replace hw := hw.symm; subst hw
      go_wp2
      clear g0 g1 g2 g3 g4 g5 g6 g7 g8 g9 g10 g11
      have HD : Hid _ := hD
      clear hD
      go_loopw [17, 18] (fun lv iv wx => ∃ (j : Nat) (la : Int), lv = .int .i64 la ∧ iv = .int .i64 (j : Int) ∧ (j : Int) ≤ live ∧ g.lo - 1 ≤ la ∧ la ≤ g.hi ∧ Hid (∀ m, ms[j]? = some m → la < m.ex) ∧ Hid (Below w.heap.size w wx) ∧ Hid (wx.heap[w1.heap.size]? = some (.cells #[.int .i64 g.ia, .int .i64 g.oa, .int .i64 g.lo, .int .i64 g.hi, .int .i64 g.cp, .int .i64 g.im, .int .i64 g.om, .int .i64 g.iu, .int .i64 g.it, .int .i64 g.iq, .int .i64 g.bu, .int .i64 g.ra] 28 (0, 0))) ∧ Hid (wx.heap[w3.heap.size]? = some (.cells #[.int .i64 d.pr, .int .i64 d.kd, .bool d.ba, .int .i64 d.sa, .int .i64 sp, .int .i64 d.da, .int .i64 d.dp, .int .i64 d.tl, .int .i64 d.bi, .int .i64 d.sr, .string d.op, .string d.md, .string d.tx, .string d.ta] 33 (0, 0))) ∧ Hid (Bat wx base b g tk 0 v ms)) (fun _ iv _ => live.toNat - (intOf iv).toNat)
      case atStart => exact ⟨0, g.lo - 1, by go_num, rfl, lv0, by omega, by omega, fun m hm => by have := (E2.out 0 m hm).2.2.2.2.2.1; omega, hB.out, hG.out, HD.out, hT.out⟩
      case round =>
        obtain ⟨j, la, rfl, rfl, hj, la0, la1, hla, hB2, hG2, hD2, hT2⟩ := hrel
        have hlen : Hid (ms.length ≤ 64) := by have := E1.out; show _ ≤ _; omega
        by_cases hlt2 : (j : Int) < live
        · obtain ⟨m, hm⟩ : ∃ m, ms[j]? = some m := ⟨ms[j]'(by have := E1.out; omega), List.getElem?_eq_getElem _⟩
          obtain ⟨f1, f2, f3, f4, f5, f6, f7⟩ := E2.out j m hm
          have f8 := hla.out m hm
          have cM := mapping_at hT2.out hlen.out hm
          rw [f1, f2] at cM
          have CM : Hid _ := cM
          have HM : Hid _ := hm
          clear cM hm f1 f2 hla
          generalize hep : m.ep = ep at CM f3 f4 f5
          generalize hex : m.ex = ex at CM f6 f7 f8
          generalize m.le = le at CM
          generalize m.kn = kn at CM
          have HEX : Hid _ := hex
          clear hep hex
          obtain ⟨kk, hkk⟩ : ∃ kk, (ep - d.sp + 65536) % 65536 = kk := ⟨_, rfl⟩
          rw [hkk] at f5
          have k1 : decide (live ≤ kk) = false := by simpa using f5
          have k2 : decide (ex ≤ la) = false := by simpa using f8
          have k3 : decide (g.hi < ex) = false := by simpa using f7
          go_wp2_with fail
          refine Calls.mono CM.out ?_; rintro e wm ⟨rfl, hbm⟩
          have Gm := (hbm.block w1.heap.size (Array.getElem?_eq_some_iff.1 hG2.out).1).trans hG2.out
          have Dm := (hbm.block w3.heap.size (Array.getElem?_eq_some_iff.1 hD2.out).1).trans hD2.out
          have HGm : Hid _ := Gm
          have HDm : Hid _ := Dm
          obtain ⟨g0, g1, g2, g3, g4, g5, g6, g7, g8, g9, g10, g11⟩ := cell12 Gm
          obtain ⟨d0, d1, d2, d3, d4, d5, d6, d7, d8, d9, d10, d11, d12, d13⟩ := cell14 Dm
          have Tm : Hid _ := hT2.out.below hbm
          have Bm : Hid (Below w.heap.size w wm) := hB2.out.trans (hbm.mono hB2.out.size)
          have hzG : w1.heap.size < wm.heap.size := (Array.getElem?_eq_some_iff.1 Gm).1
          have hzD : w3.heap.size < wm.heap.size := (Array.getElem?_eq_some_iff.1 Dm).1
          clear hbm Gm Dm hG2 hD2 hB2 hT2 CM
          go_wp2
          go_round
          case rel => exact ⟨j + 1, ex, rfl, by go_num, by omega, by omega, by omega, fun m' hm' => by rw [← HEX.out]; exact E3.out j m m' HM.out hm', Bm.out.alloc Bm.out.size _, (Below.heap_alloc wm _ _ (Array.getElem?_eq_some_iff.1 HGm.out).1).trans HGm.out, (Below.heap_alloc wm _ _ (Array.getElem?_eq_some_iff.1 HDm.out).1).trans HDm.out, Tm.out.below ((Below.refl _ _).alloc (Nat.le_refl _) _)⟩
          case measure => simp [intOf]; omega
        · have cM := mapping_core b live 0 0 0 0 0 0 13 (fun wx h => at_no b 12 base live v ms wx (hT2.out.below h).cell (hT2.out.below h).row hlen.out (.inr ⟨lv0, by have := E1.out; omega⟩))
          have CM : Hid _ := cM
          clear cM
          go_wp2_with fail
          refine Calls.mono CM.out ?_; rintro e wm ⟨rfl, hbm⟩
          have cV : ∀ o, Calls Tryz.prog 17 #[.pointer (some ⟨b, 0, none⟩)] (wm.alloc o) fun e w' => e = .returned (.int .i64 live) ∧ w' = wm.alloc o := fun o => by
            have := live_any ((hT2.out.below hbm).below ((Below.refl _ _).alloc (Nat.le_refl _) o)) hlen.out
            rw [E1.out] at this
            exact this
          have Bm : Hid (Below w.heap.size w wm) := hB2.out.trans (hbm.mono hB2.out.size)
          have CV : Hid _ := cV
          clear cV hbm
          go_wp2_with fail
          refine Calls.mono (CV.out _) ?_; rintro e w' ⟨rfl, hw⟩; replace hw := hw.symm; subst hw
          go_wp2
          go_ret
          exact ⟨by simp, Bm.out.alloc Bm.out.size _⟩
end Go.Proofs.YthiljpbodmajaaaGreat
