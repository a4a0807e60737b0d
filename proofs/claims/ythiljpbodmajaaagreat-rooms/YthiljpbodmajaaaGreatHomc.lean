/-
  CONTRACTS: natboxkeep.Home.
-/
import Derived.Test.YthiljpbodmajaaaGreatKepx
import Derived.Test.YthiljpbodmajaaaGreatTick
import Derived.Test.YthiljpbodmajaaaGreatKfrm
namespace Go.Proofs.YthiljpbodmajaaaGreat
open Go.RowKit Plain
set_option linter.unusedVariables false

/-- the configuration stands in block A, the datagram in block B, the packs in the blocks behind the first argument's, and nothing that stood in w has changed -/
def Hst (g : Cf) (d : Dg) (A B : Nat) (pv qv : Array Value) (w w' : World) : Prop := Tst g d A B w w' ∧ w'.heap[w.heap.size + 1]? = some (.cells pv 30 (0, 0)) ∧ w'.heap[w.heap.size + 1 + 1]? = some (.cells qv 30 (0, 0))
section
variable {g : Cf} {d : Dg} {A B : Nat} {pv qv : Array Value} {w : World}
theorem Hst.cf (i : Nat) {u : Value} (h : (cfl g)[i]? = some u) : ∀ w', Hst g d A B pv qv w w' → w'.cell? ⟨A, i, none⟩ = some u := fun w' hs => Tst.cf i h w' hs.1
theorem Hst.dg (i : Nat) {u : Value} (h : (dgl d)[i]? = some u) : ∀ w', Hst g d A B pv qv w w' → w'.cell? ⟨B, i, none⟩ = some u := fun w' hs => Tst.dg i h w' hs.1
theorem Hst.p (i : Nat) {u : Value} (h : pv[i]? = some u) : ∀ w', Hst g d A B pv qv w w' → w'.cell? ⟨w.heap.size + 1, i, none⟩ = some u := fun w' hs => (cell_of_row _ _ _ _ _ _ hs.2.1).trans h
theorem Hst.q (i : Nat) {u : Value} (h : qv[i]? = some u) : ∀ w', Hst g d A B pv qv w w' → w'.cell? ⟨w.heap.size + 1 + 1, i, none⟩ = some u := fun w' hs => (cell_of_row _ _ _ _ _ _ hs.2.2).trans h
theorem Hst.drew {w' : World} (h : Hst g d A B pv qv w w') : Hst g d A B pv qv w w'.drew := ⟨h.1.drew, h.2.1, h.2.2⟩
theorem Hst.nextB {w1 w2 : World} {base : Nat} (h : Hst g d A B pv qv w w1) (k : Below base w1 w2) (hA : A < base) (hB : B < base) (hw : w.heap.size + 1 + 1 < base) : Hst g d A B pv qv w w2 :=
  ⟨⟨h.1.1.trans (k.mono (by omega)), (k.block _ hA).trans h.1.2.1, (k.block _ hB).trans h.1.2.2⟩, (k.block _ (by omega)).trans h.2.1, (k.block _ hw).trans h.2.2⟩
theorem Hst.next {w1 w2 : World} (h : Hst g d A B pv qv w w1) (k : Below w1.heap.size w1 w2) : Hst g d A B pv qv w w2 :=
  h.nextB k (Array.getElem?_eq_some_iff.1 h.1.2.1).1 (Array.getElem?_eq_some_iff.1 h.1.2.2).1 (Array.getElem?_eq_some_iff.1 h.2.2).1
theorem Hst.bl {w1 w2 : World} {base b : Nat} {v v' : Value} {tk ti tk0 ti0 : Int} {ms ms' : List Mp} (h : Hst g d A B pv qv w w1) (T : Bat w1 base b g tk0 ti0 v ms) (hb : base ≤ b) (k : BL w1 w2 base b g v v' tk ti ms') (hA : A < base) (hB : B < base) (hw : w.heap.size + 1 + 1 < base) : Hst g d A B pv qv w w2 :=
  h.nextB (BL.below T k hb (Below.refl base w1)) hA hB hw
theorem Hst.putq {w1 : World} (h : Hst g d A B pv qv w w1) (i : Nat) (u : Value) (hA : A ≠ w.heap.size + 1 + 1) (hB : B ≠ w.heap.size + 1 + 1) : Hst g d A B pv (qv.setIfInBounds i u) w (w1.setCell ⟨w.heap.size + 1 + 1, i, none⟩ u) :=
  ⟨⟨h.1.1.setCell (by show w.heap.size ≤ w.heap.size + 1 + 1; omega) u, (Below.heap_setCell w1 _ _ _ hA).trans h.1.2.1, (Below.heap_setCell w1 _ _ _ hB).trans h.1.2.2⟩, (Below.heap_setCell w1 _ _ _ (by show w.heap.size + 1 ≠ w.heap.size + 1 + 1; omega)).trans h.2.1, heap_setCell_same u h.2.2⟩
end
theorem Tb.other {w : World} {base b o : Nat} {ty : TypeId} {cur : Array Value} {v : Value} {ms : List Mp} (T : Tb w base b o ty cur v ms) {p : Addr} (h1 : p.block ≠ b) (h2 : p.block < base) (u : Value) : Tb (w.setCell p u) base b o ty cur v ms :=
  ⟨(Below.heap_setCell w p u b (Ne.symm h1)).trans T.blk, T.at3, T.row.kept (fun g hg => Below.heap_setCell w p u g (fun e => by have := (T.row.lt g hg).1; omega)), T.ne, by simpa [World.setCell] using T.bs⟩
set_option maxHeartbeats 16000000 in
theorem home_core (c g : Cf) (P : Dg → Prop) (R : Dg → Int → Dg → Prop) (k0 k1 k2 k3 k4 k5 k6 k7 k8 l0 l1 l2 l3 l4 l5 l6 l7 l8 tt : Int) (m0 m1 m2 n0 n1 n2 : ByteArray) (w : World) (cC : RetB 12 #[.agg (cfl c)] (.agg (cfl g)))
    (cS : ∀ wx, Calls Tryz.prog 13 #[.agg #[.int .i64 k0, .int .i64 k1, .int .i64 k2, .int .i64 k3, .int .i64 k4, .int .i64 k5, .int .i64 k6, .int .i64 k7, .int .i64 k8, .string m0, .string m1, .string m2], .agg (cfl g), .int .i64 g.om] wx fun e w' => ∃ d, e = .returned (.agg (dgl d)) ∧ P d ∧ Below wx.heap.size wx w')
    (cT : ∀ d, P d → ∃ ext m, (m.pr = d.pr ∧ m.ea = d.sa ∧ m.ep = d.sp ∧ m.ex = ext ∧ m.le = g.idle d.pr ∧ m.kn = 1) ∧ (1 ≤ ext ∧ ext ≤ 65535) ∧ ∀ wx, Calls Tryz.prog 14 #[.agg (cfl g), .agg (dgl d)] wx fun e w' => ∃ b v', e = .returned (.tuple #[.pointer (some ⟨b, 0, none⟩), .int .i64 ext]) ∧ Bat w' wx.heap.size b g g.bu 0 v' [m] ∧ Below wx.heap.size wx w' ∧ wx.heap.size ≤ b)
    (hid : ∀ p, 1 ≤ g.idle p ∧ g.idle p ≤ 100000)
    (cW : ∀ id, 1 ≤ id → id ≤ 100000 → ∃ n, (0 ≤ n ∧ n ≤ id - 1) ∧ Ret 18 #[.int .i64 tt, .int .i64 0, .int .i64 (id - 1)] (.int .i64 n))
    (cK : ∀ wx base b v m n, Bat wx base b g g.bu 0 v [m] → 0 ≤ n → n < m.le → m.le ≤ 100000 → Calls Tryz.prog 19 #[.pointer (some ⟨b, 0, none⟩), .int .i64 n] wx fun e w' => e = .returned (.int .i64 0) ∧ ∃ v' tk, BL wx w' base b g v v' tk n [{ m with le := m.le - n }])
    (cF : ∀ d ext wx, P d → 1 ≤ ext → ext ≤ 65535 → Calls Tryz.prog 20 #[.agg #[.int .i64 k0, .int .i64 l1, .int .i64 l2, .int .i64 l3, .int .i64 l4, .int .i64 l5, .int .i64 l6, .int .i64 l7, .int .i64 l8, .string n0, .string n1, .string n2], .agg (cfl g), .int .i64 ext] wx fun e w' => ∃ a, e = .returned (.agg (dgl a)) ∧ R d ext a ∧ Below wx.heap.size wx w')
    (cI : ∀ d ext a, R d ext a → RetB 21 #[.agg (dgl a), .int .i64 d.sa, .int .i64 d.sp] (.agg (dgl { a with da := d.sa, dp := d.sp, tl := a.tl - 1 })) ∧ RetB 23 #[.agg (dgl a)] (.string (kfr a)) ∧ RetB 23 #[.agg (dgl { a with da := d.sa, dp := d.sp, tl := a.tl - 1 })] (.string (kfr { a with da := d.sa, dp := d.sp, tl := a.tl - 1 })))
    (cX : ∀ d ext a wx base b v tk ti m, R d ext a → Bat wx base b g tk ti v [m] → m.pr = d.pr → m.ea = d.sa → m.ep = d.sp → m.ex = ext → Calls Tryz.prog 25 #[.pointer (some ⟨b, 0, none⟩), .int .i64 1, .string (kfr a)] wx fun e w' => e = .returned (rpv 0 0 (kfr { a with da := d.sa, dp := d.sp, tl := a.tl - 1 })) ∧ Below wx.heap.size wx w') :
    Calls Tryz.prog 5 #[.agg (cfl c), .agg #[.int .i64 k0, .int .i64 k1, .int .i64 k2, .int .i64 k3, .int .i64 k4, .int .i64 k5, .int .i64 k6, .int .i64 k7, .int .i64 k8, .string m0, .string m1, .string m2], .agg #[.int .i64 l0, .int .i64 l1, .int .i64 l2, .int .i64 l3, .int .i64 l4, .int .i64 l5, .int .i64 l6, .int .i64 l7, .int .i64 l8, .string n0, .string n1, .string n2], .int .i64 tt] w fun e w' => e = .returned (.bool true) ∧ Below w.heap.size w w' := by
  have CT : Hid _ := cT
  have cJ : ∀ p, RetB 16 #[.agg (cfl g), .int .i64 p] (.int .i64 (g.idle p)) := fun p w => kidle_any g p w
  have CJ : Hid _ := cJ
  have CW : Hid _ := cW
  have CK : Hid _ := cK
  unfold dgl at cF
  have CF : Hid _ := cF
  have CI : Hid _ := cI
  have CX : Hid _ := cX
  have HI : Hid _ := hid
  clear cT cJ cW cK cF cI cX hid
  unfold cfl at cC cS ⊢
  unfold dgl at cS
  have CS : Hid _ := cS
  clear cS
  go_enter Tryz.func5, Tryz.ntmps5
  go_wp2_with fail
  refine Calls.mono (cC.at _) ?_; rintro e w1 ⟨rfl, hb1⟩
  have P1 := (hb1.block (w.heap.size + 1) (by simp)).trans (alloc3 w _ _ _).2.1
  have Q1 := (hb1.block (w.heap.size + 1 + 1) (by simp)).trans (alloc3 w _ _ _).2.2
  obtain ⟨p0, p1, p2, p3, p4, p5, p6, p7, p8, p9, p10, p11⟩ := cell12 P1
  have HW1 : Hid (Below w.heap.size w w1) := ((((Below.refl w.heap.size w).alloc (Nat.le_refl _) _).alloc (by simp) _).alloc (by simp; omega) _).trans (hb1.mono (by simp; omega))
  have hz1 : w.heap.size + 1 + 1 < w1.heap.size := by have := hb1.size; simp at this; omega
  have hz1' : w.heap.size + 1 < w1.heap.size := by omega
  have HP1 : Hid _ := P1
  have HQ1 : Hid _ := Q1
  clear hb1 P1 Q1
  go_wp2_with fail
  refine Calls.mono (CS.out _) ?_; rintro e w2 ⟨d, rfl, hP, hb2⟩
  obtain ⟨ext, m, hm, hext, cT⟩ := CT.out d hP
  have cJ := CJ.out d.pr
  have hid := HI.out d.pr
  have HPd : Hid _ := hP
  have HM : Hid _ := hm
  have HX : Hid _ := hext
  have CT1 : Hid _ := cT
  clear CT cT CS hm hP CJ HI hext
  generalize g.idle d.pr = id at cJ HM hid
  obtain ⟨n, hn, cW⟩ := CW.out id hid.1 hid.2
  unfold cfl at cJ
  have B2 := (hb2.block w1.heap.size (by simp)).trans (alloc1 w1 _)
  obtain ⟨g0, g1, g2, g3, g4, g5, g6, g7, g8, g9, g10, g11⟩ := cell12 B2
  have HB2 : Hid _ := B2
  have P2 : Hid _ := (hb2.block (w.heap.size + 1) (by simp; omega)).trans ((Below.heap_alloc w1 _ _ (by omega)).trans HP1.out)
  have Q2 : Hid _ := (hb2.block (w.heap.size + 1 + 1) (by simp; omega)).trans ((Below.heap_alloc w1 _ _ (by omega)).trans HQ1.out)
  have HW2 : Hid (Below w.heap.size w w2) := HW1.out.trans (((Below.refl w1.heap.size w1).alloc (Nat.le_refl _) _ |>.trans (hb2.mono (by simp))).mono (by omega))
  have hz2 : w1.heap.size < w2.heap.size := by have := hb2.size; simp at this; omega
  clear hb2 B2 p0 p1 p2 p3 p4 p5 p6 p7 p8 p9 p10 p11 CW HP1 HQ1
  go_wp2_with fail
  refine Calls.mono (CT1.out _) ?_; rintro e w3 ⟨b, v', rfl, hT, hb3, hbb⟩
  have S3 : Hid (Hst g d w1.heap.size w2.heap.size #[.int .i64 k0, .int .i64 k1, .int .i64 k2, .int .i64 k3, .int .i64 k4, .int .i64 k5, .int .i64 k6, .int .i64 k7, .int .i64 k8, .string m0, .string m1, .string m2] #[.int .i64 l0, .int .i64 l1, .int .i64 l2, .int .i64 l3, .int .i64 l4, .int .i64 l5, .int .i64 l6, .int .i64 l7, .int .i64 l8, .string n0, .string n1, .string n2] w w3) :=
    ⟨⟨HW2.out.trans (((Below.refl w2.heap.size w2).alloc (Nat.le_refl _) _ |>.trans (hb3.mono (by simp))).mono (by omega)), (hb3.block w1.heap.size (by simp; omega)).trans ((Below.heap_alloc w2 _ _ hz2).trans HB2.out), (hb3.block w2.heap.size (by simp)).trans (alloc1 w2 _)⟩, (hb3.block _ (by simp; omega)).trans ((Below.heap_alloc w2 _ _ (by omega)).trans P2.out), (hb3.block _ (by simp; omega)).trans ((Below.heap_alloc w2 _ _ (by omega)).trans Q2.out)⟩
  have HT : Hid _ := hT
  have hbs : w2.heap.size + 1 ≤ b := by simpa using hbb
  clear hb3 hT g0 g1 g2 g3 g4 g5 g6 g7 g8 g9 g10 g11 hbb HB2 P2 Q2
  have G3 : w3.heap[w1.heap.size]? = some (.cells #[.int .i64 g.ia, .int .i64 g.oa, .int .i64 g.lo, .int .i64 g.hi, .int .i64 g.cp, .int .i64 g.im, .int .i64 g.om, .int .i64 g.iu, .int .i64 g.it, .int .i64 g.iq, .int .i64 g.bu, .int .i64 g.ra] 28 (0, 0)) := S3.out.1.2.1
  have D3 : w3.heap[w2.heap.size]? = some (.cells #[.int .i64 d.pr, .int .i64 d.kd, .bool d.ba, .int .i64 d.sa, .int .i64 d.sp, .int .i64 d.da, .int .i64 d.dp, .int .i64 d.tl, .int .i64 d.bi, .int .i64 d.sr, .string d.op, .string d.md, .string d.tx, .string d.ta] 33 (0, 0)) := S3.out.1.2.2
  obtain ⟨g0, g1, g2, g3, g4, g5, g6, g7, g8, g9, g10, g11⟩ := cell12 G3
  obtain ⟨d0, d1, d2, d3, d4, d5, d6, d7, d8, d9, d10, d11, d12, d13⟩ := cell14 D3
  clear G3 D3
  go_wp2_with fail
  refine Calls.mono (cJ.at _) ?_; rintro e w4 ⟨rfl, hb4⟩
  have S4 : Hid (Hst g d w1.heap.size w2.heap.size #[.int .i64 k0, .int .i64 k1, .int .i64 k2, .int .i64 k3, .int .i64 k4, .int .i64 k5, .int .i64 k6, .int .i64 k7, .int .i64 k8, .string m0, .string m1, .string m2] #[.int .i64 l0, .int .i64 l1, .int .i64 l2, .int .i64 l3, .int .i64 l4, .int .i64 l5, .int .i64 l6, .int .i64 l7, .int .i64 l8, .string n0, .string n1, .string n2] w w4) := Hst.next S3.out hb4
  have T4 : Hid _ := HT.out.below hb4
  clear hb4 S3 HT g0 g1 g2 g3 g4 g5 g6 g7 g8 g9 g10 g11 d0 d1 d2 d3 d4 d5 d6 d7 d8 d9 d10 d11 d12 d13
  go_wp2_with fail
  refine Calls.mono (cW.at _) ?_; rintro e w' ⟨rfl, hw⟩; replace hw := hw.symm; subst hw
  have hmle : m.le = id := HM.out.2.2.2.2.1
  go_wp2_with fail
  refine Calls.mono (CK.out _ _ b _ m n T4.out hn.1 (by omega) (by omega)) ?_; rintro e w5 ⟨rfl, v5, tk5, hBL⟩
  have S5 : Hid (Hst g d w1.heap.size w2.heap.size #[.int .i64 k0, .int .i64 k1, .int .i64 k2, .int .i64 k3, .int .i64 k4, .int .i64 k5, .int .i64 k6, .int .i64 k7, .int .i64 k8, .string m0, .string m1, .string m2] #[.int .i64 l0, .int .i64 l1, .int .i64 l2, .int .i64 l3, .int .i64 l4, .int .i64 l5, .int .i64 l6, .int .i64 l7, .int .i64 l8, .string n0, .string n1, .string n2] w w5) := Hst.bl S4.out T4.out (by simpa using hbs) hBL (by simp; omega) (by simp) (by simp; omega)
  have T5 : Hid _ := hBL.bat
  have G5 : w5.heap[w1.heap.size]? = some (.cells #[.int .i64 g.ia, .int .i64 g.oa, .int .i64 g.lo, .int .i64 g.hi, .int .i64 g.cp, .int .i64 g.im, .int .i64 g.om, .int .i64 g.iu, .int .i64 g.it, .int .i64 g.iq, .int .i64 g.bu, .int .i64 g.ra] 28 (0, 0)) := S5.out.1.2.1
  have D5 : w5.heap[w2.heap.size]? = some (.cells #[.int .i64 d.pr, .int .i64 d.kd, .bool d.ba, .int .i64 d.sa, .int .i64 d.sp, .int .i64 d.da, .int .i64 d.dp, .int .i64 d.tl, .int .i64 d.bi, .int .i64 d.sr, .string d.op, .string d.md, .string d.tx, .string d.ta] 33 (0, 0)) := S5.out.1.2.2
  have P5 : w5.heap[w.heap.size + 1]? = some (.cells #[.int .i64 k0, .int .i64 k1, .int .i64 k2, .int .i64 k3, .int .i64 k4, .int .i64 k5, .int .i64 k6, .int .i64 k7, .int .i64 k8, .string m0, .string m1, .string m2] 30 (0, 0)) := S5.out.2.1
  have Q5 : w5.heap[w.heap.size + 1 + 1]? = some (.cells #[.int .i64 l0, .int .i64 l1, .int .i64 l2, .int .i64 l3, .int .i64 l4, .int .i64 l5, .int .i64 l6, .int .i64 l7, .int .i64 l8, .string n0, .string n1, .string n2] 30 (0, 0)) := S5.out.2.2
  obtain ⟨g0, g1, g2, g3, g4, g5, g6, g7, g8, g9, g10, g11⟩ := cell12 G5
  obtain ⟨p0, p1, p2, p3, p4, p5, p6, p7, p8, p9, p10, p11⟩ := cell12 P5
  obtain ⟨q0, q1, q2, q3, q4, q5, q6, q7, q8, q9, q10, q11⟩ := cell12 Q5
  have fq := nofrz Q5
  have hA2 : ¬ w1.heap.size = w.heap.size + 1 + 1 := by omega
  have hB2 : ¬ w2.heap.size = w.heap.size + 1 + 1 := by omega
  clear G5 D5 P5 Q5 hBL S4 T4
  have S6 : Hid (Hst g d w1.heap.size w2.heap.size #[.int .i64 k0, .int .i64 k1, .int .i64 k2, .int .i64 k3, .int .i64 k4, .int .i64 k5, .int .i64 k6, .int .i64 k7, .int .i64 k8, .string m0, .string m1, .string m2] #[.int .i64 k0, .int .i64 l1, .int .i64 l2, .int .i64 l3, .int .i64 l4, .int .i64 l5, .int .i64 l6, .int .i64 l7, .int .i64 l8, .string n0, .string n1, .string n2] w (w5.setCell ⟨w.heap.size + 1 + 1, 0, none⟩ (.int .i64 k0))) := Hst.putq S5.out 0 _ hA2 hB2
  have T6 : Hid _ := T5.out.other (p := ⟨w.heap.size + 1 + 1, 0, none⟩) (by show w.heap.size + 1 + 1 ≠ b; omega) (by simp; omega) (.int .i64 k0)
  go_wp2_with fail
  refine Calls.mono (CF.out d ext _ HPd.out HX.out.1 HX.out.2) ?_; rintro e w7 ⟨a, rfl, hR, hb7⟩
  have S7 : Hid (Hst g d w1.heap.size w2.heap.size #[.int .i64 k0, .int .i64 k1, .int .i64 k2, .int .i64 k3, .int .i64 k4, .int .i64 k5, .int .i64 k6, .int .i64 k7, .int .i64 k8, .string m0, .string m1, .string m2] #[.int .i64 k0, .int .i64 l1, .int .i64 l2, .int .i64 l3, .int .i64 l4, .int .i64 l5, .int .i64 l6, .int .i64 l7, .int .i64 l8, .string n0, .string n1, .string n2] w w7) := Hst.next S6.out hb7
  have T7 : Hid _ := T6.out.below hb7
  obtain ⟨i1, i2, i3⟩ := CI.out d ext a hR
  unfold dgl at i1 i2 i3
  simp only at i1 i3
  have HR : Hid _ := hR
  have D7 : w7.heap[w2.heap.size]? = some (.cells #[.int .i64 d.pr, .int .i64 d.kd, .bool d.ba, .int .i64 d.sa, .int .i64 d.sp, .int .i64 d.da, .int .i64 d.dp, .int .i64 d.tl, .int .i64 d.bi, .int .i64 d.sr, .string d.op, .string d.md, .string d.tx, .string d.ta] 33 (0, 0)) := S7.out.1.2.2
  obtain ⟨d0, d1, d2, d3, d4, d5, d6, d7, d8, d9, d10, d11, d12, d13⟩ := cell14 D7
  have hl7 : w2.heap.size < w7.heap.size := (Array.getElem?_eq_some_iff.1 D7).1
  clear hb7 S5 S6 T5 T6 D7 CF CI hR fq g0 g1 g2 g3 g4 g5 g6 g7 g8 g9 g10 g11 p0 p1 p2 p3 p4 p5 p6 p7 p8 p9 p10 p11 q0 q1 q2 q3 q4 q5 q6 q7 q8 q9 q10 q11
  go_wp2_with fail
  refine Calls.mono (i1.at _) ?_; rintro e w8 ⟨rfl, hb8⟩
  have A8 : Hid _ := (hb8.block w7.heap.size (by simp)).trans (alloc1 w7 _)
  have B8 : Hid (Below w7.heap.size w7 w8) := ((Below.refl w7.heap.size w7).alloc (Nat.le_refl _) _).trans (hb8.mono (by simp))
  have hl8 : w7.heap.size < w8.heap.size := by have := hb8.size; simp at this; omega
  have S8 : Hid (Hst g d w1.heap.size w2.heap.size #[.int .i64 k0, .int .i64 k1, .int .i64 k2, .int .i64 k3, .int .i64 k4, .int .i64 k5, .int .i64 k6, .int .i64 k7, .int .i64 k8, .string m0, .string m1, .string m2] #[.int .i64 k0, .int .i64 l1, .int .i64 l2, .int .i64 l3, .int .i64 l4, .int .i64 l5, .int .i64 l6, .int .i64 l7, .int .i64 l8, .string n0, .string n1, .string n2] w w8) := Hst.next S7.out B8.out
  have T8 : Hid _ := T7.out.below B8.out
  clear hb8 i1 S7 T7 B8 d0 d1 d2 d3 d4 d5 d6 d7 d8 d9 d10 d11 d12 d13
  go_wp2
  generalize hW9 : w8.alloc (.cells #[.int .i64 a.pr, .int .i64 a.kd, .bool a.ba, .int .i64 a.sa, .int .i64 a.sp, .int .i64 d.sa, .int .i64 d.sp, .int .i64 (a.tl - 1), .int .i64 a.bi, .int .i64 a.sr, .string a.op, .string a.md, .string a.tx, .string a.ta] 33) = W9
  have B9 : Hid (W9.heap[w8.heap.size]? = some (.cells #[.int .i64 a.pr, .int .i64 a.kd, .bool a.ba, .int .i64 a.sa, .int .i64 a.sp, .int .i64 d.sa, .int .i64 d.sp, .int .i64 (a.tl - 1), .int .i64 a.bi, .int .i64 a.sr, .string a.op, .string a.md, .string a.tx, .string a.ta] 33 (0, 0))) := by rw [← hW9]; exact alloc1 w8 _
  have BW : Hid (Below w8.heap.size w8 W9) := by rw [← hW9]; exact (Below.refl _ _).alloc (Nat.le_refl _) _
  have hl9 : w8.heap.size < W9.heap.size := by rw [← hW9]; simp
  have A9 : Hid (W9.heap[w7.heap.size]? = some (.cells #[.int .i64 a.pr, .int .i64 a.kd, .bool a.ba, .int .i64 a.sa, .int .i64 a.sp, .int .i64 a.da, .int .i64 a.dp, .int .i64 a.tl, .int .i64 a.bi, .int .i64 a.sr, .string a.op, .string a.md, .string a.tx, .string a.ta] 33 (0, 0))) := by rw [← hW9]; exact (Below.heap_alloc w8 _ _ hl8).trans A8.out
  have HT9 : Hid (∀ wx, Below W9.heap.size W9 wx → Bat wx _ b g tk5 n v5 [{ m with le := m.le - n }]) := fun wx h => (T8.out.below BW.out).below h
  have HS9 : Hid (∀ wx, Below W9.heap.size W9 wx → Hst g d w1.heap.size w2.heap.size #[.int .i64 k0, .int .i64 k1, .int .i64 k2, .int .i64 k3, .int .i64 k4, .int .i64 k5, .int .i64 k6, .int .i64 k7, .int .i64 k8, .string m0, .string m1, .string m2] #[.int .i64 k0, .int .i64 l1, .int .i64 l2, .int .i64 l3, .int .i64 l4, .int .i64 l5, .int .i64 l6, .int .i64 l7, .int .i64 l8, .string n0, .string n1, .string n2] w wx) := fun wx h => Hst.next (Hst.next S8.out BW.out) h
  have cP : Hid (∀ wx, Below W9.heap.size W9 wx → Calls Tryz.prog 22 #[.pointer (some ⟨b, 0, none⟩), .int .i64 1, .string (kfr a), .int .i64 0, .string (kfr { a with da := d.sa, dp := d.sp, tl := a.tl - 1 })] wx fun e w' => e = .returned (.bool true) ∧ Below wx.heap.size wx w') := fun wx h =>
    (passes_yes b 1 0 _ _ (fun w1 => Below wx.heap.size wx w1) (CX.out d ext a wx _ b _ _ _ _ HR.out (HT9.out wx h) HM.out.1 HM.out.2.1 HM.out.2.2.1 HM.out.2.2.2.1)).mono fun e w' q => ⟨q.1, by obtain ⟨w1, h1, h2⟩ := q.2; exact h1.trans (h2.mono h1.size)⟩
  generalize kfr a = XX at i2 cP
  generalize kfr { a with da := d.sa, dp := d.sp, tl := a.tl - 1 } = YY at i3 cP
  clear CX
  have B0 : Hid (Below W9.heap.size W9 W9.drew) := (Below.refl _ _).drew
  have a0 : ∀ wz, Below W9.heap.size W9 wz → wz.cell? ⟨w7.heap.size, 0, none⟩ = some (.int .i64 a.pr) := fun wz hz => (hz.cell (p := ⟨w7.heap.size, 0, none⟩) (by show w7.heap.size < _; omega)).trans (cell_of_row _ _ 0 _ _ _ A9.out)
  have a1 : ∀ wz, Below W9.heap.size W9 wz → wz.cell? ⟨w7.heap.size, 1, none⟩ = some (.int .i64 a.kd) := fun wz hz => (hz.cell (p := ⟨w7.heap.size, 1, none⟩) (by show w7.heap.size < _; omega)).trans (cell_of_row _ _ 1 _ _ _ A9.out)
  have a2 : ∀ wz, Below W9.heap.size W9 wz → wz.cell? ⟨w7.heap.size, 2, none⟩ = some (.bool a.ba) := fun wz hz => (hz.cell (p := ⟨w7.heap.size, 2, none⟩) (by show w7.heap.size < _; omega)).trans (cell_of_row _ _ 2 _ _ _ A9.out)
  have a3 : ∀ wz, Below W9.heap.size W9 wz → wz.cell? ⟨w7.heap.size, 3, none⟩ = some (.int .i64 a.sa) := fun wz hz => (hz.cell (p := ⟨w7.heap.size, 3, none⟩) (by show w7.heap.size < _; omega)).trans (cell_of_row _ _ 3 _ _ _ A9.out)
  have a4 : ∀ wz, Below W9.heap.size W9 wz → wz.cell? ⟨w7.heap.size, 4, none⟩ = some (.int .i64 a.sp) := fun wz hz => (hz.cell (p := ⟨w7.heap.size, 4, none⟩) (by show w7.heap.size < _; omega)).trans (cell_of_row _ _ 4 _ _ _ A9.out)
  have a5 : ∀ wz, Below W9.heap.size W9 wz → wz.cell? ⟨w7.heap.size, 5, none⟩ = some (.int .i64 a.da) := fun wz hz => (hz.cell (p := ⟨w7.heap.size, 5, none⟩) (by show w7.heap.size < _; omega)).trans (cell_of_row _ _ 5 _ _ _ A9.out)
  have a6 : ∀ wz, Below W9.heap.size W9 wz → wz.cell? ⟨w7.heap.size, 6, none⟩ = some (.int .i64 a.dp) := fun wz hz => (hz.cell (p := ⟨w7.heap.size, 6, none⟩) (by show w7.heap.size < _; omega)).trans (cell_of_row _ _ 6 _ _ _ A9.out)
  have a7 : ∀ wz, Below W9.heap.size W9 wz → wz.cell? ⟨w7.heap.size, 7, none⟩ = some (.int .i64 a.tl) := fun wz hz => (hz.cell (p := ⟨w7.heap.size, 7, none⟩) (by show w7.heap.size < _; omega)).trans (cell_of_row _ _ 7 _ _ _ A9.out)
  have a8 : ∀ wz, Below W9.heap.size W9 wz → wz.cell? ⟨w7.heap.size, 8, none⟩ = some (.int .i64 a.bi) := fun wz hz => (hz.cell (p := ⟨w7.heap.size, 8, none⟩) (by show w7.heap.size < _; omega)).trans (cell_of_row _ _ 8 _ _ _ A9.out)
  have a9 : ∀ wz, Below W9.heap.size W9 wz → wz.cell? ⟨w7.heap.size, 9, none⟩ = some (.int .i64 a.sr) := fun wz hz => (hz.cell (p := ⟨w7.heap.size, 9, none⟩) (by show w7.heap.size < _; omega)).trans (cell_of_row _ _ 9 _ _ _ A9.out)
  have a10 : ∀ wz, Below W9.heap.size W9 wz → wz.cell? ⟨w7.heap.size, 10, none⟩ = some (.string a.op) := fun wz hz => (hz.cell (p := ⟨w7.heap.size, 10, none⟩) (by show w7.heap.size < _; omega)).trans (cell_of_row _ _ 10 _ _ _ A9.out)
  have a11 : ∀ wz, Below W9.heap.size W9 wz → wz.cell? ⟨w7.heap.size, 11, none⟩ = some (.string a.md) := fun wz hz => (hz.cell (p := ⟨w7.heap.size, 11, none⟩) (by show w7.heap.size < _; omega)).trans (cell_of_row _ _ 11 _ _ _ A9.out)
  have a12 : ∀ wz, Below W9.heap.size W9 wz → wz.cell? ⟨w7.heap.size, 12, none⟩ = some (.string a.tx) := fun wz hz => (hz.cell (p := ⟨w7.heap.size, 12, none⟩) (by show w7.heap.size < _; omega)).trans (cell_of_row _ _ 12 _ _ _ A9.out)
  have a13 : ∀ wz, Below W9.heap.size W9 wz → wz.cell? ⟨w7.heap.size, 13, none⟩ = some (.string a.ta) := fun wz hz => (hz.cell (p := ⟨w7.heap.size, 13, none⟩) (by show w7.heap.size < _; omega)).trans (cell_of_row _ _ 13 _ _ _ A9.out)
  have b0 : ∀ wz, Below W9.heap.size W9 wz → wz.cell? ⟨w8.heap.size, 0, none⟩ = some (.int .i64 a.pr) := fun wz hz => (hz.cell (p := ⟨w8.heap.size, 0, none⟩) (by show w8.heap.size < _; omega)).trans (cell_of_row _ _ 0 _ _ _ B9.out)
  have b1 : ∀ wz, Below W9.heap.size W9 wz → wz.cell? ⟨w8.heap.size, 1, none⟩ = some (.int .i64 a.kd) := fun wz hz => (hz.cell (p := ⟨w8.heap.size, 1, none⟩) (by show w8.heap.size < _; omega)).trans (cell_of_row _ _ 1 _ _ _ B9.out)
  have b2 : ∀ wz, Below W9.heap.size W9 wz → wz.cell? ⟨w8.heap.size, 2, none⟩ = some (.bool a.ba) := fun wz hz => (hz.cell (p := ⟨w8.heap.size, 2, none⟩) (by show w8.heap.size < _; omega)).trans (cell_of_row _ _ 2 _ _ _ B9.out)
  have b3 : ∀ wz, Below W9.heap.size W9 wz → wz.cell? ⟨w8.heap.size, 3, none⟩ = some (.int .i64 a.sa) := fun wz hz => (hz.cell (p := ⟨w8.heap.size, 3, none⟩) (by show w8.heap.size < _; omega)).trans (cell_of_row _ _ 3 _ _ _ B9.out)
  have b4 : ∀ wz, Below W9.heap.size W9 wz → wz.cell? ⟨w8.heap.size, 4, none⟩ = some (.int .i64 a.sp) := fun wz hz => (hz.cell (p := ⟨w8.heap.size, 4, none⟩) (by show w8.heap.size < _; omega)).trans (cell_of_row _ _ 4 _ _ _ B9.out)
  have b5 : ∀ wz, Below W9.heap.size W9 wz → wz.cell? ⟨w8.heap.size, 5, none⟩ = some (.int .i64 d.sa) := fun wz hz => (hz.cell (p := ⟨w8.heap.size, 5, none⟩) (by show w8.heap.size < _; omega)).trans (cell_of_row _ _ 5 _ _ _ B9.out)
  have b6 : ∀ wz, Below W9.heap.size W9 wz → wz.cell? ⟨w8.heap.size, 6, none⟩ = some (.int .i64 d.sp) := fun wz hz => (hz.cell (p := ⟨w8.heap.size, 6, none⟩) (by show w8.heap.size < _; omega)).trans (cell_of_row _ _ 6 _ _ _ B9.out)
  have b7 : ∀ wz, Below W9.heap.size W9 wz → wz.cell? ⟨w8.heap.size, 7, none⟩ = some (.int .i64 (a.tl - 1)) := fun wz hz => (hz.cell (p := ⟨w8.heap.size, 7, none⟩) (by show w8.heap.size < _; omega)).trans (cell_of_row _ _ 7 _ _ _ B9.out)
  have b8 : ∀ wz, Below W9.heap.size W9 wz → wz.cell? ⟨w8.heap.size, 8, none⟩ = some (.int .i64 a.bi) := fun wz hz => (hz.cell (p := ⟨w8.heap.size, 8, none⟩) (by show w8.heap.size < _; omega)).trans (cell_of_row _ _ 8 _ _ _ B9.out)
  have b9 : ∀ wz, Below W9.heap.size W9 wz → wz.cell? ⟨w8.heap.size, 9, none⟩ = some (.int .i64 a.sr) := fun wz hz => (hz.cell (p := ⟨w8.heap.size, 9, none⟩) (by show w8.heap.size < _; omega)).trans (cell_of_row _ _ 9 _ _ _ B9.out)
  have b10 : ∀ wz, Below W9.heap.size W9 wz → wz.cell? ⟨w8.heap.size, 10, none⟩ = some (.string a.op) := fun wz hz => (hz.cell (p := ⟨w8.heap.size, 10, none⟩) (by show w8.heap.size < _; omega)).trans (cell_of_row _ _ 10 _ _ _ B9.out)
  have b11 : ∀ wz, Below W9.heap.size W9 wz → wz.cell? ⟨w8.heap.size, 11, none⟩ = some (.string a.md) := fun wz hz => (hz.cell (p := ⟨w8.heap.size, 11, none⟩) (by show w8.heap.size < _; omega)).trans (cell_of_row _ _ 11 _ _ _ B9.out)
  have b12 : ∀ wz, Below W9.heap.size W9 wz → wz.cell? ⟨w8.heap.size, 12, none⟩ = some (.string a.tx) := fun wz hz => (hz.cell (p := ⟨w8.heap.size, 12, none⟩) (by show w8.heap.size < _; omega)).trans (cell_of_row _ _ 12 _ _ _ B9.out)
  have b13 : ∀ wz, Below W9.heap.size W9 wz → wz.cell? ⟨w8.heap.size, 13, none⟩ = some (.string a.ta) := fun wz hz => (hz.cell (p := ⟨w8.heap.size, 13, none⟩) (by show w8.heap.size < _; omega)).trans (cell_of_row _ _ 13 _ _ _ B9.out)
  clear A9 B9 A8 S8 T8 hW9 BW
  go_region_held (fun w' => Below W9.heap.size W9 w') (first | (with_reducible assumption) | (with_reducible exact B0.out)) (first
    | (go_at_call_of 23 (Value.int .i64 d.sa); refine Calls.mono (i3.at _) ?_; rintro e wy ⟨rfl, hby⟩; have hky := Below.trans (a := W9) (by with_reducible assumption) (hby.mono (Below.size (by with_reducible assumption))))
    | (go_at_call 23; refine Calls.mono (i2.at _) ?_; rintro e wx ⟨rfl, hbx⟩; have hkx := Below.trans (a := W9) (by with_reducible assumption) (hbx.mono (Below.size (by with_reducible assumption))))
    | (go_at_call 22; refine Calls.mono (cP.out _ (by with_reducible assumption)) ?_; rintro e wz ⟨rfl, hbz⟩; have hkz := Below.trans (a := W9) (by with_reducible assumption) (hbz.mono (Below.size (by with_reducible assumption))); have HKZ : Hid _ := hkz))
  have SZ : Hid (Hst g d w1.heap.size w2.heap.size #[.int .i64 k0, .int .i64 k1, .int .i64 k2, .int .i64 k3, .int .i64 k4, .int .i64 k5, .int .i64 k6, .int .i64 k7, .int .i64 k8, .string m0, .string m1, .string m2] #[.int .i64 k0, .int .i64 l1, .int .i64 l2, .int .i64 l3, .int .i64 l4, .int .i64 l5, .int .i64 l6, .int .i64 l7, .int .i64 l8, .string n0, .string n1, .string n2] w wz) := HS9.out wz HKZ.out
  have TZ : Hid _ := HT9.out wz HKZ.out
  have GZ : wz.heap[w1.heap.size]? = some (.cells #[.int .i64 g.ia, .int .i64 g.oa, .int .i64 g.lo, .int .i64 g.hi, .int .i64 g.cp, .int .i64 g.im, .int .i64 g.om, .int .i64 g.iu, .int .i64 g.it, .int .i64 g.iq, .int .i64 g.bu, .int .i64 g.ra] 28 (0, 0)) := SZ.out.1.2.1
  have DZ : wz.heap[w2.heap.size]? = some (.cells #[.int .i64 d.pr, .int .i64 d.kd, .bool d.ba, .int .i64 d.sa, .int .i64 d.sp, .int .i64 d.da, .int .i64 d.dp, .int .i64 d.tl, .int .i64 d.bi, .int .i64 d.sr, .string d.op, .string d.md, .string d.tx, .string d.ta] 33 (0, 0)) := SZ.out.1.2.2
  obtain ⟨g0, g1, g2, g3, g4, g5, g6, g7, g8, g9, g10, g11⟩ := cell12 GZ
  obtain ⟨d0, d1, d2, d3, d4, d5, d6, d7, d8, d9, d10, d11, d12, d13⟩ := cell14 DZ
  clear GZ DZ HS9 HT9 HKZ hkz hbz cP i2 i3 B0 a0 a1 a2 a3 a4 a5 a6 a7 a8 a9 a10 a11 a12 a13 b0 b1 b2 b3 b4 b5 b6 b7 b8 b9 b10 b11 b12 b13
  go_wp2_with fail
  refine Calls.mono (cJ.at _) ?_; rintro e wi ⟨rfl, hbi⟩
  have SI : Hid (Hst g d w1.heap.size w2.heap.size #[.int .i64 k0, .int .i64 k1, .int .i64 k2, .int .i64 k3, .int .i64 k4, .int .i64 k5, .int .i64 k6, .int .i64 k7, .int .i64 k8, .string m0, .string m1, .string m2] #[.int .i64 k0, .int .i64 l1, .int .i64 l2, .int .i64 l3, .int .i64 l4, .int .i64 l5, .int .i64 l6, .int .i64 l7, .int .i64 l8, .string n0, .string n1, .string n2] w wi) := Hst.next SZ.out hbi
  have TI : Hid _ := TZ.out.below hbi
  have DI : wi.heap[w2.heap.size]? = some (.cells #[.int .i64 d.pr, .int .i64 d.kd, .bool d.ba, .int .i64 d.sa, .int .i64 d.sp, .int .i64 d.da, .int .i64 d.dp, .int .i64 d.tl, .int .i64 d.bi, .int .i64 d.sr, .string d.op, .string d.md, .string d.tx, .string d.ta] 33 (0, 0)) := SI.out.1.2.2
  clear hbi SZ TZ g0 g1 g2 g3 g4 g5 g6 g7 g8 g9 g10 g11 d0 d1 d2 d3 d4 d5 d6 d7 d8 d9 d10 d11 d12 d13
  obtain ⟨d0, d1, d2, d3, d4, d5, d6, d7, d8, d9, d10, d11, d12, d13⟩ := cell14 DI
  clear DI
  have hm' : Hid (({ m with le := m.le - n } : Mp).pr = d.pr ∧ ({ m with le := m.le - n } : Mp).ea = d.sa ∧ ({ m with le := m.le - n } : Mp).ep = d.sp ∧ ({ m with le := m.le - n } : Mp).ex = ext ∧ ({ m with le := m.le - n } : Mp).le = id - n ∧ ({ m with le := m.le - n } : Mp).kn = 1) := ⟨HM.out.1, HM.out.2.1, HM.out.2.2.1, HM.out.2.2.2.1, by show m.le - n = id - n; rw [HM.out.2.2.2.2.1], HM.out.2.2.2.2.2⟩
  go_wp2_with fail
  refine Calls.mono (holds_yes b 0 (id - n) 1 ext d (fun wx hx => Hid.out (holdsM TI.out hm'.out hx))) ?_; rintro e wj ⟨rfl, hbj⟩
  go_wp2
  go_ret
  exact ⟨rfl, SI.out.1.1.trans (hbj.mono SI.out.1.1.size)⟩
/-- two datagrams in the blocks KS, KT; nothing that stood in w has changed -/
def Dst (sv tv : Array Value) (KS KT : Nat) (w w' : World) : Prop := Below w.heap.size w w' ∧ w'.heap[KS]? = some (.cells sv 33 (0, 0)) ∧ w'.heap[KT]? = some (.cells tv 33 (0, 0))
section
variable {sv tv : Array Value} {KS KT : Nat} {w : World}
theorem Dst.s (i : Nat) {u : Value} (h : sv[i]? = some u) : ∀ w', Dst sv tv KS KT w w' → w'.cell? ⟨KS, i, none⟩ = some u := fun w' hs => (cell_of_row _ _ _ _ _ _ hs.2.1).trans h
theorem Dst.t (i : Nat) {u : Value} (h : tv[i]? = some u) : ∀ w', Dst sv tv KS KT w w' → w'.cell? ⟨KT, i, none⟩ = some u := fun w' hs => (cell_of_row _ _ _ _ _ _ hs.2.2).trans h
theorem Dst.next {w1 w2 : World} (h : Dst sv tv KS KT w w1) (k : Below w1.heap.size w1 w2) : Dst sv tv KS KT w w2 :=
  ⟨h.1.trans (k.mono h.1.size), (k.block _ (Array.getElem?_eq_some_iff.1 h.2.1).1).trans h.2.1, (k.block _ (Array.getElem?_eq_some_iff.1 h.2.2).1).trans h.2.2⟩
theorem Dst.left {wy wq : World} {base b : Nat} {g : Cf} {tk ti : Int} {v v' : Value} {ms ms' : List Mp} {cur : Array Value} {ty : TypeId} (h : Dst sv tv KS KT w wy) (T : Bat wy base b g tk ti v ms) (L : Left wy wq base b 12 ty cur v v' ms') (hw : w.heap.size ≤ base) (hb : base ≤ b) (nS : KS ≠ b) (nT : KT ≠ b) (oS : v.ownBlock ≠ some KS) (oT : v.ownBlock ≠ some KT) : Dst sv tv KS KT w wq :=
  ⟨⟨L.chg.os.trans h.1.os, L.chg.tape.trans h.1.tape, L.chg.output.trans h.1.output, Nat.le_trans h.1.size L.chg.size, fun k hk => by
      rw [L.chg.block k (Nat.lt_of_lt_of_le hk h.1.size) (by omega) (fun e => by have := (T.row.lt k e.symm).1; omega)]
      exact h.1.block k hk⟩,
    (L.chg.block KS (Array.getElem?_eq_some_iff.1 h.2.1).1 nS (fun e => oS e.symm)).trans h.2.1, (L.chg.block KT (Array.getElem?_eq_some_iff.1 h.2.2).1 nT (fun e => oT e.symm)).trans h.2.2⟩
end
end Go.Proofs.YthiljpbodmajaaaGreat
