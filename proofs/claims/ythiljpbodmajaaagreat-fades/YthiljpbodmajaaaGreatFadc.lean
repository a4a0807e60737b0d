/-
  CONTRACTS: natboxkeep.Fades.
-/
import Derived.Test.YthiljpbodmajaaaGreatHomc
namespace Go.Proofs.YthiljpbodmajaaaGreat
open Go.RowKit Plain
set_option linter.unusedVariables false

/-- the frame is refused, and nothing comes out -/
theorem stays_yes {w : World} (b : Nat) (d er : Int) (s : ByteArray) (cF : Calls Tryz.prog 25 #[.pointer (some ⟨b, 0, none⟩), .int .i64 d, .string s] w fun e w' => e = .returned (rpv er 0 ⟨#[]⟩) ∧ Below w.heap.size w w') :
    Calls Tryz.prog 28 #[.pointer (some ⟨b, 0, none⟩), .int .i64 d, .string s, .int .i64 er] w fun e w' => e = .returned (.bool true) ∧ Below w.heap.size w w' := by
  have CF : Hid _ := cF
  clear cF
  unfold rpv at CF
  go_enter Tryz.func28, Tryz.ntmps28
  go_wp2_with fail
  refine Calls.mono CF.out ?_; rintro e w1 ⟨rfl, hq⟩
  have HQ : Hid _ := hq
  clear hq
  go_wp2
  go_ret
  exact ⟨by simp, HQ.out.trans (((Below.refl _ _).alloc (Nat.le_refl _) _).mono HQ.out.size)⟩
theorem mapping_none {w : World} {base b : Nat} {c : Cf} {tk ti : Int} {v : Value} (T : Bat w base b c tk ti v []) :
    Calls Tryz.prog 32 #[.pointer (some ⟨b, 0, none⟩), .int .i64 0] w fun e w' => e = .returned (.tuple #[.agg #[.int .i64 0, .int .i64 0, .int .i64 0, .int .i64 0, .int .i64 0, .int .i64 0], .int .i64 13]) ∧ Below w.heap.size w w' :=
  mapping_core b 0 0 0 0 0 0 0 13 (fun wx h => at_no b 12 base 0 v [] wx (T.below h).cell (T.below h).row (by simp) (.inr ⟨by decide, by simp⟩))
/-- as Hst, and two datagrams in the blocks KA, KB -/
def Fst (g : Cf) (d : Dg) (A B : Nat) (pv qv av bv : Array Value) (KA KB : Nat) (w w' : World) : Prop := Hst g d A B pv qv w w' ∧ w'.heap[KA]? = some (.cells av 33 (0, 0)) ∧ w'.heap[KB]? = some (.cells bv 33 (0, 0))
section
variable {g : Cf} {d : Dg} {A B KA KB : Nat} {pv qv av bv : Array Value} {w : World}
theorem Fst.next {w1 w2 : World} (h : Fst g d A B pv qv av bv KA KB w w1) (k : Below w1.heap.size w1 w2) : Fst g d A B pv qv av bv KA KB w w2 :=
  ⟨Hst.next h.1 k, (k.block _ (Array.getElem?_eq_some_iff.1 h.2.1).1).trans h.2.1, (k.block _ (Array.getElem?_eq_some_iff.1 h.2.2).1).trans h.2.2⟩
theorem Fst.bl {w1 w2 : World} {base b : Nat} {v v' : Value} {tk ti tk0 ti0 : Int} {ms ms' : List Mp} (h : Fst g d A B pv qv av bv KA KB w w1) (T : Bat w1 base b g tk0 ti0 v ms) (hb : base ≤ b) (k : BL w1 w2 base b g v v' tk ti ms') (hA : A < base) (hB : B < base) (hw : w.heap.size + 1 + 1 < base) (nA : KA ≠ b) (nB : KB ≠ b) (oA : v.ownBlock ≠ some KA) (oB : v.ownBlock ≠ some KB) : Fst g d A B pv qv av bv KA KB w w2 :=
  ⟨Hst.bl h.1 T hb k hA hB hw, (k.chg.block KA (Array.getElem?_eq_some_iff.1 h.2.1).1 nA (fun e => oA e.symm)).trans h.2.1, (k.chg.block KB (Array.getElem?_eq_some_iff.1 h.2.2).1 nB (fun e => oB e.symm)).trans h.2.2⟩
end
set_option maxHeartbeats 32000000 in
theorem fades_core (c g : Cf) (P : Dg → Prop) (R : Dg → Int → Dg → Prop) (P2 : Dg → Dg → Prop) (k0 k1 k2 k3 k4 k5 k6 k7 k8 l0 l1 l2 l3 l4 l5 l6 l7 l8 tt : Int) (m0 m1 m2 n0 n1 n2 : ByteArray) (w : World) (cC : RetB 12 #[.agg (cfl c)] (.agg (cfl g)))
    (cS : ∀ wx, Calls Tryz.prog 13 #[.agg #[.int .i64 k0, .int .i64 k1, .int .i64 k2, .int .i64 k3, .int .i64 k4, .int .i64 k5, .int .i64 k6, .int .i64 k7, .int .i64 k8, .string m0, .string m1, .string m2], .agg (cfl g), .int .i64 g.om] wx fun e w' => ∃ d, e = .returned (.agg (dgl d)) ∧ P d ∧ Below wx.heap.size wx w')
    (cT : ∀ d, P d → ∃ ext m, (m.pr = d.pr ∧ m.ea = d.sa ∧ m.ep = d.sp ∧ m.ex = ext ∧ m.le = g.idle d.pr ∧ m.kn = 1) ∧ (1 ≤ ext ∧ ext ≤ 65535 ∧ ext = chs g [] d.pr d.sp) ∧ ∀ wx, Calls Tryz.prog 14 #[.agg (cfl g), .agg (dgl d)] wx fun e w' => ∃ b v', e = .returned (.tuple #[.pointer (some ⟨b, 0, none⟩), .int .i64 ext]) ∧ Bat w' wx.heap.size b g g.bu 0 v' [m] ∧ Below wx.heap.size wx w' ∧ wx.heap.size ≤ b)
    (hid : ∀ p, 1 ≤ g.idle p ∧ g.idle p ≤ 100000)
    (cW : ∀ id, 1 ≤ id → id ≤ 100000 → ∃ n, (0 ≤ n ∧ n ≤ id - 1) ∧ Ret 18 #[.int .i64 tt, .int .i64 0, .int .i64 (id - 1)] (.int .i64 n))
    (cK : ∀ wx base b v m n, Bat wx base b g g.bu 0 v [m] → 0 ≤ n → n < m.le → m.le ≤ 100000 → Calls Tryz.prog 19 #[.pointer (some ⟨b, 0, none⟩), .int .i64 n] wx fun e w' => e = .returned (.int .i64 0) ∧ ∃ v', BL wx w' base b g v v' g.bu n [{ m with le := m.le - n }])
    (cF : ∀ d ext wx, P d → 1 ≤ ext → ext ≤ 65535 → Calls Tryz.prog 20 #[.agg #[.int .i64 k0, .int .i64 l1, .int .i64 l2, .int .i64 l3, .int .i64 l4, .int .i64 l5, .int .i64 l6, .int .i64 l7, .int .i64 l8, .string n0, .string n1, .string n2], .agg (cfl g), .int .i64 ext] wx fun e w' => ∃ a, e = .returned (.agg (dgl a)) ∧ R d ext a ∧ Below wx.heap.size wx w')
    (cI : ∀ d ext a, R d ext a → RetB 21 #[.agg (dgl a), .int .i64 d.sa, .int .i64 d.sp] (.agg (dgl { a with da := d.sa, dp := d.sp, tl := a.tl - 1 })) ∧ RetB 23 #[.agg (dgl a)] (.string (kfr a)) ∧ RetB 23 #[.agg (dgl { a with da := d.sa, dp := d.sp, tl := a.tl - 1 })] (.string (kfr { a with da := d.sa, dp := d.sp, tl := a.tl - 1 })))
    (cX : ∀ d ext a wx base b v tk ti m, R d ext a → Bat wx base b g tk ti v [m] → m.pr = d.pr → m.ea = d.sa → m.ep = d.sp → m.ex = ext → Calls Tryz.prog 25 #[.pointer (some ⟨b, 0, none⟩), .int .i64 1, .string (kfr a)] wx fun e w' => e = .returned (rpv 0 0 (kfr { a with da := d.sa, dp := d.sp, tl := a.tl - 1 })) ∧ Below wx.heap.size wx w')
    (cK2 : ∀ wx base b v m n ti, Bat wx base b g g.bu ti v [m] → m.le = n → 1 ≤ n → n ≤ 100000 → 0 ≤ ti → ti ≤ 100000 → Calls Tryz.prog 19 #[.pointer (some ⟨b, 0, none⟩), .int .i64 n] wx fun e w' => e = .returned (.int .i64 0) ∧ ∃ v', BL wx w' base b g v v' g.bu (ti + n) [])
    (cN : ∀ d ext a wx base b v tk ti, R d ext a → Bat wx base b g tk ti v [] → Calls Tryz.prog 25 #[.pointer (some ⟨b, 0, none⟩), .int .i64 1, .string (kfr a)] wx fun e w' => e = .returned (rpv 8 0 ⟨#[]⟩) ∧ Below wx.heap.size wx w')
    (cS2 : ∀ d wx, P d → Calls Tryz.prog 13 #[.agg #[.int .i64 k0, .int .i64 l1, .int .i64 d.sp, .int .i64 l3, .int .i64 l4, .int .i64 l5, .int .i64 l6, .int .i64 l7, .int .i64 l8, .string n0, .string n1, .string n2], .agg (cfl g), .int .i64 g.om] wx fun e w' => ∃ s, e = .returned (.agg (dgl s)) ∧ P2 d s ∧ Below wx.heap.size wx w')
    (cO : ∀ d s ext, P2 d s → 1 ≤ ext → ext ≤ 65535 → RetB 24 #[.agg (dgl s), .agg (cfl g), .int .i64 ext] (.agg (dgl { s with sa := g.oa, sp := ext, tl := s.tl - 1 })) ∧ RetB 23 #[.agg (dgl s)] (.string (kfr s)) ∧ RetB 23 #[.agg (dgl { s with sa := g.oa, sp := ext, tl := s.tl - 1 })] (.string (kfr { s with sa := g.oa, sp := ext, tl := s.tl - 1 })))
    (cY : ∀ d s ext wx base b v ti, P2 d s → ext = chs g [] d.pr d.sp → Bat wx base b g g.bu ti v [] → ∃ m, (m.pr = s.pr ∧ m.ea = s.sa ∧ m.ep = s.sp ∧ m.ex = ext ∧ m.le = g.idle d.pr ∧ m.kn = 1) ∧ Calls Tryz.prog 25 #[.pointer (some ⟨b, 0, none⟩), .int .i64 0, .string (kfr s)] wx fun e w' => e = .returned (rpv 0 1 (kfr { s with sa := g.oa, sp := ext, tl := s.tl - 1 })) ∧ ∃ v', Left wx w' base b 12 90 (bxc g v g.bu ti) v v' [m]) :
    Calls Tryz.prog 8 #[.agg (cfl c), .agg #[.int .i64 k0, .int .i64 k1, .int .i64 k2, .int .i64 k3, .int .i64 k4, .int .i64 k5, .int .i64 k6, .int .i64 k7, .int .i64 k8, .string m0, .string m1, .string m2], .agg #[.int .i64 l0, .int .i64 l1, .int .i64 l2, .int .i64 l3, .int .i64 l4, .int .i64 l5, .int .i64 l6, .int .i64 l7, .int .i64 l8, .string n0, .string n1, .string n2], .int .i64 tt] w fun e w' => e = .returned (.bool true) ∧ Below w.heap.size w w' := by
  have CT : Hid _ := cT
  have cJ : ∀ p, RetB 16 #[.agg (cfl g), .int .i64 p] (.int .i64 (g.idle p)) := fun p w => kidle_any g p w
  have CJ : Hid _ := cJ
  have CW : Hid _ := cW
  have CK : Hid _ := cK
  have CK2 : Hid _ := cK2
  have CN : Hid _ := cN
  have CO : Hid _ := cO
  have CY : Hid _ := cY
  unfold dgl cfl at cS2
  have CS2 : Hid _ := cS2
  unfold dgl at cF
  have CF : Hid _ := cF
  have CI : Hid _ := cI
  have CX : Hid _ := cX
  have HI : Hid _ := hid
  clear cT cJ cW cK cF cI cX hid cK2 cN cO cY cS2
  unfold cfl at cC cS ⊢
  unfold dgl at cS
  have CS : Hid _ := cS
  clear cS
  go_enter Tryz.func8, Tryz.ntmps8
  go_wp2_with fail
  refine Calls.mono (cC.at _) ?_; rintro e w1 ⟨rfl, hb1⟩
  have P1 := (hb1.block (w.heap.size + 1) (by simp)).trans (alloc3 w _ _ _).2.1
  have Q1 := (hb1.block (w.heap.size + 1 + 1) (by simp)).trans (alloc3 w _ _ _).2.2
  obtain ⟨p0, p1, p2, p3, p4, p5, p6, p7, p8, p9, p10, p11⟩ := cell12 P1
  have HW1 : Hid (Below w.heap.size w w1) := ((((Below.refl w.heap.size w).alloc (Nat.le_refl _) _).alloc (by simp) _).alloc (by simp; omega) _).trans (hb1.mono (by simp; omega))
  have hz1 : w.heap.size + 1 + 1 < w1.heap.size := by have := hb1.size; simp at this; omega
  have hz1' : w.heap.size + 1 < w1.heap.size := by omega
  have HP1 : Hid _ := P1
  have HQ1 : Hid _ := Q1
  clear hb1 P1 Q1
  go_wp2_with fail
  refine Calls.mono (CS.out _) ?_; rintro e w2 ⟨d, rfl, hP, hb2⟩
  obtain ⟨ext, m, hm, hext, cT⟩ := CT.out d hP
  have cJ := CJ.out d.pr
  have hid := HI.out d.pr
  have HPd : Hid _ := hP
  have HM : Hid _ := hm
  have HX : Hid _ := hext
  have CT1 : Hid _ := cT
  clear CT cT CS hm hP CJ HI hext
  generalize hidE : g.idle d.pr = id at cJ HM hid
  have HIE : Hid _ := hidE
  clear hidE
  obtain ⟨n, hn, cW⟩ := CW.out id hid.1 hid.2
  unfold cfl at cJ
  have B2 := (hb2.block w1.heap.size (by simp)).trans (alloc1 w1 _)
  obtain ⟨g0, g1, g2, g3, g4, g5, g6, g7, g8, g9, g10, g11⟩ := cell12 B2
  have HB2 : Hid _ := B2
  have P2 : Hid _ := (hb2.block (w.heap.size + 1) (by simp; omega)).trans ((Below.heap_alloc w1 _ _ (by omega)).trans HP1.out)
  have Q2 : Hid _ := (hb2.block (w.heap.size + 1 + 1) (by simp; omega)).trans ((Below.heap_alloc w1 _ _ (by omega)).trans HQ1.out)
  have HW2 : Hid (Below w.heap.size w w2) := HW1.out.trans (((Below.refl w1.heap.size w1).alloc (Nat.le_refl _) _ |>.trans (hb2.mono (by simp))).mono (by omega))
  have hz2 : w1.heap.size < w2.heap.size := by have := hb2.size; simp at this; omega
  clear hb2 B2 p0 p1 p2 p3 p4 p5 p6 p7 p8 p9 p10 p11 CW HP1 HQ1
  go_wp2_with fail
  refine Calls.mono (CT1.out _) ?_; rintro e w3 ⟨b, v', rfl, hT, hb3, hbb⟩
  have S3 : Hid (Hst g d w1.heap.size w2.heap.size #[.int .i64 k0, .int .i64 k1, .int .i64 k2, .int .i64 k3, .int .i64 k4, .int .i64 k5, .int .i64 k6, .int .i64 k7, .int .i64 k8, .string m0, .string m1, .string m2] #[.int .i64 l0, .int .i64 l1, .int .i64 l2, .int .i64 l3, .int .i64 l4, .int .i64 l5, .int .i64 l6, .int .i64 l7, .int .i64 l8, .string n0, .string n1, .string n2] w w3) :=
    ⟨⟨HW2.out.trans (((Below.refl w2.heap.size w2).alloc (Nat.le_refl _) _ |>.trans (hb3.mono (by simp))).mono (by omega)), (hb3.block w1.heap.size (by simp; omega)).trans ((Below.heap_alloc w2 _ _ hz2).trans HB2.out), (hb3.block w2.heap.size (by simp)).trans (alloc1 w2 _)⟩, (hb3.block _ (by simp; omega)).trans ((Below.heap_alloc w2 _ _ (by omega)).trans P2.out), (hb3.block _ (by simp; omega)).trans ((Below.heap_alloc w2 _ _ (by omega)).trans Q2.out)⟩
  have HT : Hid _ := hT
  have hbs : w2.heap.size + 1 ≤ b := by simpa using hbb
  clear hb3 hT g0 g1 g2 g3 g4 g5 g6 g7 g8 g9 g10 g11 hbb HB2 P2 Q2
  have G3 : w3.heap[w1.heap.size]? = some (.cells #[.int .i64 g.ia, .int .i64 g.oa, .int .i64 g.lo, .int .i64 g.hi, .int .i64 g.cp, .int .i64 g.im, .int .i64 g.om, .int .i64 g.iu, .int .i64 g.it, .int .i64 g.iq, .int .i64 g.bu, .int .i64 g.ra] 28 (0, 0)) := S3.out.1.2.1
  have D3 : w3.heap[w2.heap.size]? = some (.cells #[.int .i64 d.pr, .int .i64 d.kd, .bool d.ba, .int .i64 d.sa, .int .i64 d.sp, .int .i64 d.da, .int .i64 d.dp, .int .i64 d.tl, .int .i64 d.bi, .int .i64 d.sr, .string d.op, .string d.md, .string d.tx, .string d.ta] 33 (0, 0)) := S3.out.1.2.2
  obtain ⟨g0, g1, g2, g3, g4, g5, g6, g7, g8, g9, g10, g11⟩ := cell12 G3
  obtain ⟨d0, d1, d2, d3, d4, d5, d6, d7, d8, d9, d10, d11, d12, d13⟩ := cell14 D3
  clear G3 D3
  go_wp2_with fail
  refine Calls.mono (cJ.at _) ?_; rintro e w4 ⟨rfl, hb4⟩
  have S4 : Hid (Hst g d w1.heap.size w2.heap.size #[.int .i64 k0, .int .i64 k1, .int .i64 k2, .int .i64 k3, .int .i64 k4, .int .i64 k5, .int .i64 k6, .int .i64 k7, .int .i64 k8, .string m0, .string m1, .string m2] #[.int .i64 l0, .int .i64 l1, .int .i64 l2, .int .i64 l3, .int .i64 l4, .int .i64 l5, .int .i64 l6, .int .i64 l7, .int .i64 l8, .string n0, .string n1, .string n2] w w4) := Hst.next S3.out hb4
  have T4 : Hid _ := HT.out.below hb4
  clear hb4 S3 HT g0 g1 g2 g3 g4 g5 g6 g7 g8 g9 g10 g11 d0 d1 d2 d3 d4 d5 d6 d7 d8 d9 d10 d11 d12 d13
  go_wp2_with fail
  refine Calls.mono (cW.at _) ?_; rintro e w' ⟨rfl, hw⟩; replace hw := hw.symm; subst hw
  have hmle : m.le = id := HM.out.2.2.2.2.1
  have G4 : w4.heap[w1.heap.size]? = some (.cells #[.int .i64 g.ia, .int .i64 g.oa, .int .i64 g.lo, .int .i64 g.hi, .int .i64 g.cp, .int .i64 g.im, .int .i64 g.om, .int .i64 g.iu, .int .i64 g.it, .int .i64 g.iq, .int .i64 g.bu, .int .i64 g.ra] 28 (0, 0)) := S4.out.1.2.1
  have P4 : w4.heap[w.heap.size + 1]? = some (.cells #[.int .i64 k0, .int .i64 k1, .int .i64 k2, .int .i64 k3, .int .i64 k4, .int .i64 k5, .int .i64 k6, .int .i64 k7, .int .i64 k8, .string m0, .string m1, .string m2] 30 (0, 0)) := S4.out.2.1
  have Q4 : w4.heap[w.heap.size + 1 + 1]? = some (.cells #[.int .i64 l0, .int .i64 l1, .int .i64 l2, .int .i64 l3, .int .i64 l4, .int .i64 l5, .int .i64 l6, .int .i64 l7, .int .i64 l8, .string n0, .string n1, .string n2] 30 (0, 0)) := S4.out.2.2
  obtain ⟨g0, g1, g2, g3, g4, g5, g6, g7, g8, g9, g10, g11⟩ := cell12 G4
  obtain ⟨p0, p1, p2, p3, p4, p5, p6, p7, p8, p9, p10, p11⟩ := cell12 P4
  obtain ⟨q0, q1, q2, q3, q4, q5, q6, q7, q8, q9, q10, q11⟩ := cell12 Q4
  have fq := nofrz Q4
  have hA2 : ¬ w1.heap.size = w.heap.size + 1 + 1 := by omega
  have hB2 : ¬ w2.heap.size = w.heap.size + 1 + 1 := by omega
  clear G4 P4 Q4
  have S4' : Hid (Hst g d w1.heap.size w2.heap.size #[.int .i64 k0, .int .i64 k1, .int .i64 k2, .int .i64 k3, .int .i64 k4, .int .i64 k5, .int .i64 k6, .int .i64 k7, .int .i64 k8, .string m0, .string m1, .string m2] #[.int .i64 k0, .int .i64 l1, .int .i64 l2, .int .i64 l3, .int .i64 l4, .int .i64 l5, .int .i64 l6, .int .i64 l7, .int .i64 l8, .string n0, .string n1, .string n2] w (w4.setCell ⟨w.heap.size + 1 + 1, 0, none⟩ (.int .i64 k0))) := Hst.putq S4.out 0 _ hA2 hB2
  have T4' : Hid _ := T4.out.other (p := ⟨w.heap.size + 1 + 1, 0, none⟩) (by show w.heap.size + 1 + 1 ≠ b; omega) (by simp; omega) (.int .i64 k0)
  go_wp2_with fail
  refine Calls.mono (CF.out d ext _ HPd.out HX.out.1 HX.out.2.1) ?_; rintro e w5 ⟨a, rfl, hR, hb5⟩
  have S5 : Hid (Hst g d w1.heap.size w2.heap.size #[.int .i64 k0, .int .i64 k1, .int .i64 k2, .int .i64 k3, .int .i64 k4, .int .i64 k5, .int .i64 k6, .int .i64 k7, .int .i64 k8, .string m0, .string m1, .string m2] #[.int .i64 k0, .int .i64 l1, .int .i64 l2, .int .i64 l3, .int .i64 l4, .int .i64 l5, .int .i64 l6, .int .i64 l7, .int .i64 l8, .string n0, .string n1, .string n2] w w5) := Hst.next S4'.out hb5
  have T5 : Hid _ := T4'.out.below hb5
  obtain ⟨i1, i2, i3⟩ := CI.out d ext a hR
  unfold dgl at i1 i2 i3
  simp only at i1 i3
  have HR : Hid _ := hR
  have D5 : w5.heap[w2.heap.size]? = some (.cells #[.int .i64 d.pr, .int .i64 d.kd, .bool d.ba, .int .i64 d.sa, .int .i64 d.sp, .int .i64 d.da, .int .i64 d.dp, .int .i64 d.tl, .int .i64 d.bi, .int .i64 d.sr, .string d.op, .string d.md, .string d.tx, .string d.ta] 33 (0, 0)) := S5.out.1.2.2
  obtain ⟨d0, d1, d2, d3, d4, d5, d6, d7, d8, d9, d10, d11, d12, d13⟩ := cell14 D5
  have hl5 : w2.heap.size < w5.heap.size := (Array.getElem?_eq_some_iff.1 D5).1
  clear hb5 S4 S4' T4 T4' D5 CF CI hR fq g0 g1 g2 g3 g4 g5 g6 g7 g8 g9 g10 g11 p0 p1 p2 p3 p4 p5 p6 p7 p8 p9 p10 p11 q0 q1 q2 q3 q4 q5 q6 q7 q8 q9 q10 q11
  go_wp2_with fail
  refine Calls.mono (i1.at _) ?_; rintro e w6 ⟨rfl, hb6⟩
  have A6 : Hid _ := (hb6.block w5.heap.size (by simp)).trans (alloc1 w5 _)
  have B6 : Hid (Below w5.heap.size w5 w6) := ((Below.refl w5.heap.size w5).alloc (Nat.le_refl _) _).trans (hb6.mono (by simp))
  have hl6 : w5.heap.size < w6.heap.size := by have := hb6.size; simp at this; omega
  have hb5' : b < w5.heap.size := T5.out.lt
  have ho5 : Hid (∀ k, v'.ownBlock = some k → k < w5.heap.size) := T5.out.own_lt
  have F7 : Hid (Fst g d w1.heap.size w2.heap.size #[.int .i64 k0, .int .i64 k1, .int .i64 k2, .int .i64 k3, .int .i64 k4, .int .i64 k5, .int .i64 k6, .int .i64 k7, .int .i64 k8, .string m0, .string m1, .string m2] #[.int .i64 k0, .int .i64 l1, .int .i64 l2, .int .i64 l3, .int .i64 l4, .int .i64 l5, .int .i64 l6, .int .i64 l7, .int .i64 l8, .string n0, .string n1, .string n2] #[.int .i64 a.pr, .int .i64 a.kd, .bool a.ba, .int .i64 a.sa, .int .i64 a.sp, .int .i64 a.da, .int .i64 a.dp, .int .i64 a.tl, .int .i64 a.bi, .int .i64 a.sr, .string a.op, .string a.md, .string a.tx, .string a.ta] #[.int .i64 a.pr, .int .i64 a.kd, .bool a.ba, .int .i64 a.sa, .int .i64 a.sp, .int .i64 d.sa, .int .i64 d.sp, .int .i64 (a.tl - 1), .int .i64 a.bi, .int .i64 a.sr, .string a.op, .string a.md, .string a.tx, .string a.ta] w5.heap.size w6.heap.size w (w6.alloc (.cells #[.int .i64 a.pr, .int .i64 a.kd, .bool a.ba, .int .i64 a.sa, .int .i64 a.sp, .int .i64 d.sa, .int .i64 d.sp, .int .i64 (a.tl - 1), .int .i64 a.bi, .int .i64 a.sr, .string a.op, .string a.md, .string a.tx, .string a.ta] 33))) := ⟨Hst.next (Hst.next S5.out B6.out) ((Below.refl _ _).alloc (Nat.le_refl _) _), (Below.heap_alloc w6 _ _ hl6).trans A6.out, alloc1 w6 _⟩
  have T7 : Hid _ := (T5.out.below B6.out).below ((Below.refl w6.heap.size w6).alloc (Nat.le_refl _) (.cells #[.int .i64 a.pr, .int .i64 a.kd, .bool a.ba, .int .i64 a.sa, .int .i64 a.sp, .int .i64 d.sa, .int .i64 d.sp, .int .i64 (a.tl - 1), .int .i64 a.bi, .int .i64 a.sr, .string a.op, .string a.md, .string a.tx, .string a.ta] 33))
  clear hb6 i1 S5 T5 A6 B6 d0 d1 d2 d3 d4 d5 d6 d7 d8 d9 d10 d11 d12 d13
  go_wp2_with fail
  refine Calls.mono (CK.out _ _ b _ m n T7.out hn.1 (by omega) (by omega)) ?_; rintro e w8 ⟨rfl, v8, hBL⟩
  have F8 : Hid (Fst g d w1.heap.size w2.heap.size #[.int .i64 k0, .int .i64 k1, .int .i64 k2, .int .i64 k3, .int .i64 k4, .int .i64 k5, .int .i64 k6, .int .i64 k7, .int .i64 k8, .string m0, .string m1, .string m2] #[.int .i64 k0, .int .i64 l1, .int .i64 l2, .int .i64 l3, .int .i64 l4, .int .i64 l5, .int .i64 l6, .int .i64 l7, .int .i64 l8, .string n0, .string n1, .string n2] #[.int .i64 a.pr, .int .i64 a.kd, .bool a.ba, .int .i64 a.sa, .int .i64 a.sp, .int .i64 a.da, .int .i64 a.dp, .int .i64 a.tl, .int .i64 a.bi, .int .i64 a.sr, .string a.op, .string a.md, .string a.tx, .string a.ta] #[.int .i64 a.pr, .int .i64 a.kd, .bool a.ba, .int .i64 a.sa, .int .i64 a.sp, .int .i64 d.sa, .int .i64 d.sp, .int .i64 (a.tl - 1), .int .i64 a.bi, .int .i64 a.sr, .string a.op, .string a.md, .string a.tx, .string a.ta] w5.heap.size w6.heap.size w w8) := Fst.bl F7.out T7.out (by simpa using hbs) hBL (by simp; omega) (by simp) (by simp; omega) (by omega) (by omega) (fun e => by have := ho5.out _ e; omega) (fun e => by have := ho5.out _ e; omega)
  have T8 : Hid _ := hBL.bat
  have hO8 : Hid (∀ k, v8.ownBlock = some k → ¬ k = w5.heap.size ∧ ¬ k = w6.heap.size) := fun k hk => by
    rcases hBL.own k hk with e | e
    · have := ho5.out k e.symm; omega
    · simp at e; omega
  have hA8 : w5.heap.size < w8.heap.size := (Array.getElem?_eq_some_iff.1 F8.out.2.1).1
  have hB8 : w6.heap.size < w8.heap.size := (Array.getElem?_eq_some_iff.1 F8.out.2.2).1
  have cP : Hid (∀ wx, Below w8.heap.size w8 wx → Calls Tryz.prog 22 #[.pointer (some ⟨b, 0, none⟩), .int .i64 1, .string (kfr a), .int .i64 0, .string (kfr { a with da := d.sa, dp := d.sp, tl := a.tl - 1 })] wx fun e w' => e = .returned (.bool true) ∧ Below wx.heap.size wx w') := fun wx h =>
    (passes_yes b 1 0 _ _ (fun w1 => Below wx.heap.size wx w1) (CX.out d ext a wx _ b _ _ _ _ HR.out (T8.out.below h) HM.out.1 HM.out.2.1 HM.out.2.2.1 HM.out.2.2.2.1)).mono fun e w' q => ⟨q.1, by obtain ⟨w1, h1, h2⟩ := q.2; exact h1.trans (h2.mono h1.size)⟩
  have cNN : Hid (∀ wx base b v tk ti, Bat wx base b g tk ti v [] → Calls Tryz.prog 28 #[.pointer (some ⟨b, 0, none⟩), .int .i64 1, .string (kfr a), .int .i64 8] wx fun e w' => e = .returned (.bool true) ∧ Below wx.heap.size wx w') := fun wx base b v tk ti T => stays_yes b 1 8 _ (CN.out d ext a wx base b v tk ti HR.out T)
  generalize kfr a = XX at i2 cP cNN
  generalize kfr { a with da := d.sa, dp := d.sp, tl := a.tl - 1 } = YY at i3 cP
  have B0 : Hid (Below w8.heap.size w8 w8.drew) := (Below.refl _ _).drew
  have a0 : ∀ wz, Below w8.heap.size w8 wz → wz.cell? ⟨w5.heap.size, 0, none⟩ = some (.int .i64 a.pr) := fun wz hz => (hz.cell (p := ⟨w5.heap.size, 0, none⟩) hA8).trans (cell_of_row _ _ 0 _ _ _ F8.out.2.1)
  have a1 : ∀ wz, Below w8.heap.size w8 wz → wz.cell? ⟨w5.heap.size, 1, none⟩ = some (.int .i64 a.kd) := fun wz hz => (hz.cell (p := ⟨w5.heap.size, 1, none⟩) hA8).trans (cell_of_row _ _ 1 _ _ _ F8.out.2.1)
  have a2 : ∀ wz, Below w8.heap.size w8 wz → wz.cell? ⟨w5.heap.size, 2, none⟩ = some (.bool a.ba) := fun wz hz => (hz.cell (p := ⟨w5.heap.size, 2, none⟩) hA8).trans (cell_of_row _ _ 2 _ _ _ F8.out.2.1)
  have a3 : ∀ wz, Below w8.heap.size w8 wz → wz.cell? ⟨w5.heap.size, 3, none⟩ = some (.int .i64 a.sa) := fun wz hz => (hz.cell (p := ⟨w5.heap.size, 3, none⟩) hA8).trans (cell_of_row _ _ 3 _ _ _ F8.out.2.1)
  have a4 : ∀ wz, Below w8.heap.size w8 wz → wz.cell? ⟨w5.heap.size, 4, none⟩ = some (.int .i64 a.sp) := fun wz hz => (hz.cell (p := ⟨w5.heap.size, 4, none⟩) hA8).trans (cell_of_row _ _ 4 _ _ _ F8.out.2.1)
  have a5 : ∀ wz, Below w8.heap.size w8 wz → wz.cell? ⟨w5.heap.size, 5, none⟩ = some (.int .i64 a.da) := fun wz hz => (hz.cell (p := ⟨w5.heap.size, 5, none⟩) hA8).trans (cell_of_row _ _ 5 _ _ _ F8.out.2.1)
  have a6 : ∀ wz, Below w8.heap.size w8 wz → wz.cell? ⟨w5.heap.size, 6, none⟩ = some (.int .i64 a.dp) := fun wz hz => (hz.cell (p := ⟨w5.heap.size, 6, none⟩) hA8).trans (cell_of_row _ _ 6 _ _ _ F8.out.2.1)
  have a7 : ∀ wz, Below w8.heap.size w8 wz → wz.cell? ⟨w5.heap.size, 7, none⟩ = some (.int .i64 a.tl) := fun wz hz => (hz.cell (p := ⟨w5.heap.size, 7, none⟩) hA8).trans (cell_of_row _ _ 7 _ _ _ F8.out.2.1)
  have a8 : ∀ wz, Below w8.heap.size w8 wz → wz.cell? ⟨w5.heap.size, 8, none⟩ = some (.int .i64 a.bi) := fun wz hz => (hz.cell (p := ⟨w5.heap.size, 8, none⟩) hA8).trans (cell_of_row _ _ 8 _ _ _ F8.out.2.1)
  have a9 : ∀ wz, Below w8.heap.size w8 wz → wz.cell? ⟨w5.heap.size, 9, none⟩ = some (.int .i64 a.sr) := fun wz hz => (hz.cell (p := ⟨w5.heap.size, 9, none⟩) hA8).trans (cell_of_row _ _ 9 _ _ _ F8.out.2.1)
  have a10 : ∀ wz, Below w8.heap.size w8 wz → wz.cell? ⟨w5.heap.size, 10, none⟩ = some (.string a.op) := fun wz hz => (hz.cell (p := ⟨w5.heap.size, 10, none⟩) hA8).trans (cell_of_row _ _ 10 _ _ _ F8.out.2.1)
  have a11 : ∀ wz, Below w8.heap.size w8 wz → wz.cell? ⟨w5.heap.size, 11, none⟩ = some (.string a.md) := fun wz hz => (hz.cell (p := ⟨w5.heap.size, 11, none⟩) hA8).trans (cell_of_row _ _ 11 _ _ _ F8.out.2.1)
  have a12 : ∀ wz, Below w8.heap.size w8 wz → wz.cell? ⟨w5.heap.size, 12, none⟩ = some (.string a.tx) := fun wz hz => (hz.cell (p := ⟨w5.heap.size, 12, none⟩) hA8).trans (cell_of_row _ _ 12 _ _ _ F8.out.2.1)
  have a13 : ∀ wz, Below w8.heap.size w8 wz → wz.cell? ⟨w5.heap.size, 13, none⟩ = some (.string a.ta) := fun wz hz => (hz.cell (p := ⟨w5.heap.size, 13, none⟩) hA8).trans (cell_of_row _ _ 13 _ _ _ F8.out.2.1)
  have b0 : ∀ wz, Below w8.heap.size w8 wz → wz.cell? ⟨w6.heap.size, 0, none⟩ = some (.int .i64 a.pr) := fun wz hz => (hz.cell (p := ⟨w6.heap.size, 0, none⟩) hB8).trans (cell_of_row _ _ 0 _ _ _ F8.out.2.2)
  have b1 : ∀ wz, Below w8.heap.size w8 wz → wz.cell? ⟨w6.heap.size, 1, none⟩ = some (.int .i64 a.kd) := fun wz hz => (hz.cell (p := ⟨w6.heap.size, 1, none⟩) hB8).trans (cell_of_row _ _ 1 _ _ _ F8.out.2.2)
  have b2 : ∀ wz, Below w8.heap.size w8 wz → wz.cell? ⟨w6.heap.size, 2, none⟩ = some (.bool a.ba) := fun wz hz => (hz.cell (p := ⟨w6.heap.size, 2, none⟩) hB8).trans (cell_of_row _ _ 2 _ _ _ F8.out.2.2)
  have b3 : ∀ wz, Below w8.heap.size w8 wz → wz.cell? ⟨w6.heap.size, 3, none⟩ = some (.int .i64 a.sa) := fun wz hz => (hz.cell (p := ⟨w6.heap.size, 3, none⟩) hB8).trans (cell_of_row _ _ 3 _ _ _ F8.out.2.2)
  have b4 : ∀ wz, Below w8.heap.size w8 wz → wz.cell? ⟨w6.heap.size, 4, none⟩ = some (.int .i64 a.sp) := fun wz hz => (hz.cell (p := ⟨w6.heap.size, 4, none⟩) hB8).trans (cell_of_row _ _ 4 _ _ _ F8.out.2.2)
  have b5 : ∀ wz, Below w8.heap.size w8 wz → wz.cell? ⟨w6.heap.size, 5, none⟩ = some (.int .i64 d.sa) := fun wz hz => (hz.cell (p := ⟨w6.heap.size, 5, none⟩) hB8).trans (cell_of_row _ _ 5 _ _ _ F8.out.2.2)
  have b6 : ∀ wz, Below w8.heap.size w8 wz → wz.cell? ⟨w6.heap.size, 6, none⟩ = some (.int .i64 d.sp) := fun wz hz => (hz.cell (p := ⟨w6.heap.size, 6, none⟩) hB8).trans (cell_of_row _ _ 6 _ _ _ F8.out.2.2)
  have b7 : ∀ wz, Below w8.heap.size w8 wz → wz.cell? ⟨w6.heap.size, 7, none⟩ = some (.int .i64 (a.tl - 1)) := fun wz hz => (hz.cell (p := ⟨w6.heap.size, 7, none⟩) hB8).trans (cell_of_row _ _ 7 _ _ _ F8.out.2.2)
  have b8 : ∀ wz, Below w8.heap.size w8 wz → wz.cell? ⟨w6.heap.size, 8, none⟩ = some (.int .i64 a.bi) := fun wz hz => (hz.cell (p := ⟨w6.heap.size, 8, none⟩) hB8).trans (cell_of_row _ _ 8 _ _ _ F8.out.2.2)
  have b9 : ∀ wz, Below w8.heap.size w8 wz → wz.cell? ⟨w6.heap.size, 9, none⟩ = some (.int .i64 a.sr) := fun wz hz => (hz.cell (p := ⟨w6.heap.size, 9, none⟩) hB8).trans (cell_of_row _ _ 9 _ _ _ F8.out.2.2)
  have b10 : ∀ wz, Below w8.heap.size w8 wz → wz.cell? ⟨w6.heap.size, 10, none⟩ = some (.string a.op) := fun wz hz => (hz.cell (p := ⟨w6.heap.size, 10, none⟩) hB8).trans (cell_of_row _ _ 10 _ _ _ F8.out.2.2)
  have b11 : ∀ wz, Below w8.heap.size w8 wz → wz.cell? ⟨w6.heap.size, 11, none⟩ = some (.string a.md) := fun wz hz => (hz.cell (p := ⟨w6.heap.size, 11, none⟩) hB8).trans (cell_of_row _ _ 11 _ _ _ F8.out.2.2)
  have b12 : ∀ wz, Below w8.heap.size w8 wz → wz.cell? ⟨w6.heap.size, 12, none⟩ = some (.string a.tx) := fun wz hz => (hz.cell (p := ⟨w6.heap.size, 12, none⟩) hB8).trans (cell_of_row _ _ 12 _ _ _ F8.out.2.2)
  have b13 : ∀ wz, Below w8.heap.size w8 wz → wz.cell? ⟨w6.heap.size, 13, none⟩ = some (.string a.ta) := fun wz hz => (hz.cell (p := ⟨w6.heap.size, 13, none⟩) hB8).trans (cell_of_row _ _ 13 _ _ _ F8.out.2.2)
  clear CX CN F7 T7 hBL
  go_wp2
  go_region_held (fun w' => Below w8.heap.size w8 w') (first | (with_reducible assumption) | (with_reducible exact B0.out)) (first
    | (go_at_call_of 23 (Value.int .i64 d.sa); refine Calls.mono (i3.at _) ?_; rintro e wy ⟨rfl, hby⟩; have hky := Below.trans (a := w8) (by with_reducible assumption) (hby.mono (Below.size (by with_reducible assumption))))
    | (go_at_call 23; refine Calls.mono (i2.at _) ?_; rintro e wx ⟨rfl, hbx⟩; have hkx := Below.trans (a := w8) (by with_reducible assumption) (hbx.mono (Below.size (by with_reducible assumption))))
    | (go_at_call 22; refine Calls.mono (cP.out _ (by with_reducible assumption)) ?_; rintro e wz ⟨rfl, hbz⟩; have hkz := Below.trans (a := w8) (by with_reducible assumption) (hbz.mono (Below.size (by with_reducible assumption))); have HKZ : Hid _ := hkz))
  have FZ : Hid (Fst g d w1.heap.size w2.heap.size #[.int .i64 k0, .int .i64 k1, .int .i64 k2, .int .i64 k3, .int .i64 k4, .int .i64 k5, .int .i64 k6, .int .i64 k7, .int .i64 k8, .string m0, .string m1, .string m2] #[.int .i64 k0, .int .i64 l1, .int .i64 l2, .int .i64 l3, .int .i64 l4, .int .i64 l5, .int .i64 l6, .int .i64 l7, .int .i64 l8, .string n0, .string n1, .string n2] #[.int .i64 a.pr, .int .i64 a.kd, .bool a.ba, .int .i64 a.sa, .int .i64 a.sp, .int .i64 a.da, .int .i64 a.dp, .int .i64 a.tl, .int .i64 a.bi, .int .i64 a.sr, .string a.op, .string a.md, .string a.tx, .string a.ta] #[.int .i64 a.pr, .int .i64 a.kd, .bool a.ba, .int .i64 a.sa, .int .i64 a.sp, .int .i64 d.sa, .int .i64 d.sp, .int .i64 (a.tl - 1), .int .i64 a.bi, .int .i64 a.sr, .string a.op, .string a.md, .string a.tx, .string a.ta] w5.heap.size w6.heap.size w wz) := Fst.next F8.out HKZ.out
  have TZ : Hid _ := T8.out.below HKZ.out
  have DZ : wz.heap[w2.heap.size]? = some (.cells #[.int .i64 d.pr, .int .i64 d.kd, .bool d.ba, .int .i64 d.sa, .int .i64 d.sp, .int .i64 d.da, .int .i64 d.dp, .int .i64 d.tl, .int .i64 d.bi, .int .i64 d.sr, .string d.op, .string d.md, .string d.tx, .string d.ta] 33 (0, 0)) := FZ.out.1.1.2.2
  obtain ⟨d0, d1, d2, d3, d4, d5, d6, d7, d8, d9, d10, d11, d12, d13⟩ := cell14 DZ
  clear DZ HKZ hkz hbz cP i3 B0 F8 T8 hA8 hB8 a0 a1 a2 a3 a4 a5 a6 a7 a8 a9 a10 a11 a12 a13 b0 b1 b2 b3 b4 b5 b6 b7 b8 b9 b10 b11 b12 b13
  have hm' : Hid (({ m with le := m.le - n } : Mp).pr = d.pr ∧ ({ m with le := m.le - n } : Mp).ea = d.sa ∧ ({ m with le := m.le - n } : Mp).ep = d.sp ∧ ({ m with le := m.le - n } : Mp).ex = ext ∧ ({ m with le := m.le - n } : Mp).le = id - n ∧ ({ m with le := m.le - n } : Mp).kn = 1) := ⟨HM.out.1, HM.out.2.1, HM.out.2.2.1, HM.out.2.2.2.1, by show m.le - n = id - n; rw [HM.out.2.2.2.2.1], HM.out.2.2.2.2.2⟩
  go_wp2_with fail
  refine Calls.mono (holds_yes b 0 (id - n) 1 ext d (fun wx hx => Hid.out (holdsM TZ.out hm'.out hx))) ?_; rintro e wh ⟨rfl, hbh⟩
  have FH : Hid (Fst g d w1.heap.size w2.heap.size #[.int .i64 k0, .int .i64 k1, .int .i64 k2, .int .i64 k3, .int .i64 k4, .int .i64 k5, .int .i64 k6, .int .i64 k7, .int .i64 k8, .string m0, .string m1, .string m2] #[.int .i64 k0, .int .i64 l1, .int .i64 l2, .int .i64 l3, .int .i64 l4, .int .i64 l5, .int .i64 l6, .int .i64 l7, .int .i64 l8, .string n0, .string n1, .string n2] #[.int .i64 a.pr, .int .i64 a.kd, .bool a.ba, .int .i64 a.sa, .int .i64 a.sp, .int .i64 a.da, .int .i64 a.dp, .int .i64 a.tl, .int .i64 a.bi, .int .i64 a.sr, .string a.op, .string a.md, .string a.tx, .string a.ta] #[.int .i64 a.pr, .int .i64 a.kd, .bool a.ba, .int .i64 a.sa, .int .i64 a.sp, .int .i64 d.sa, .int .i64 d.sp, .int .i64 (a.tl - 1), .int .i64 a.bi, .int .i64 a.sr, .string a.op, .string a.md, .string a.tx, .string a.ta] w5.heap.size w6.heap.size w wh) := Fst.next FZ.out hbh
  have TH : Hid _ := TZ.out.below hbh
  clear hbh FZ TZ hm' d0 d1 d2 d3 d4 d5 d6 d7 d8 d9 d10 d11 d12 d13
  go_wp2_with fail
  refine Calls.mono (CK2.out _ _ b _ _ (id - n) n TH.out (by show m.le - n = id - n; omega) (by omega) (by omega) hn.1 (by omega)) ?_; rintro e w9 ⟨rfl, v9, hBL⟩
  have F9 : Hid (Fst g d w1.heap.size w2.heap.size #[.int .i64 k0, .int .i64 k1, .int .i64 k2, .int .i64 k3, .int .i64 k4, .int .i64 k5, .int .i64 k6, .int .i64 k7, .int .i64 k8, .string m0, .string m1, .string m2] #[.int .i64 k0, .int .i64 l1, .int .i64 l2, .int .i64 l3, .int .i64 l4, .int .i64 l5, .int .i64 l6, .int .i64 l7, .int .i64 l8, .string n0, .string n1, .string n2] #[.int .i64 a.pr, .int .i64 a.kd, .bool a.ba, .int .i64 a.sa, .int .i64 a.sp, .int .i64 a.da, .int .i64 a.dp, .int .i64 a.tl, .int .i64 a.bi, .int .i64 a.sr, .string a.op, .string a.md, .string a.tx, .string a.ta] #[.int .i64 a.pr, .int .i64 a.kd, .bool a.ba, .int .i64 a.sa, .int .i64 a.sp, .int .i64 d.sa, .int .i64 d.sp, .int .i64 (a.tl - 1), .int .i64 a.bi, .int .i64 a.sr, .string a.op, .string a.md, .string a.tx, .string a.ta] w5.heap.size w6.heap.size w w9) := Fst.bl FH.out TH.out (by simpa using hbs) hBL (by simp; omega) (by simp) (by simp; omega) (by omega) (by omega) (fun e => (hO8.out _ e).1 rfl) (fun e => (hO8.out _ e).2 rfl)
  have T9 : Hid _ := hBL.bat
  have A9 : w9.heap[w5.heap.size]? = some (.cells #[.int .i64 a.pr, .int .i64 a.kd, .bool a.ba, .int .i64 a.sa, .int .i64 a.sp, .int .i64 a.da, .int .i64 a.dp, .int .i64 a.tl, .int .i64 a.bi, .int .i64 a.sr, .string a.op, .string a.md, .string a.tx, .string a.ta] 33 (0, 0)) := F9.out.2.1
  obtain ⟨a0, a1, a2, a3, a4, a5, a6, a7, a8, a9, a10, a11, a12, a13⟩ := cell14 A9
  clear hBL FH TH A9 CK CK2 hO8
  go_wp2_with fail
  refine Calls.mono (i2.at _) ?_; rintro e wa ⟨rfl, hba⟩
  have FA : Hid (Fst g d w1.heap.size w2.heap.size #[.int .i64 k0, .int .i64 k1, .int .i64 k2, .int .i64 k3, .int .i64 k4, .int .i64 k5, .int .i64 k6, .int .i64 k7, .int .i64 k8, .string m0, .string m1, .string m2] #[.int .i64 k0, .int .i64 l1, .int .i64 l2, .int .i64 l3, .int .i64 l4, .int .i64 l5, .int .i64 l6, .int .i64 l7, .int .i64 l8, .string n0, .string n1, .string n2] #[.int .i64 a.pr, .int .i64 a.kd, .bool a.ba, .int .i64 a.sa, .int .i64 a.sp, .int .i64 a.da, .int .i64 a.dp, .int .i64 a.tl, .int .i64 a.bi, .int .i64 a.sr, .string a.op, .string a.md, .string a.tx, .string a.ta] #[.int .i64 a.pr, .int .i64 a.kd, .bool a.ba, .int .i64 a.sa, .int .i64 a.sp, .int .i64 d.sa, .int .i64 d.sp, .int .i64 (a.tl - 1), .int .i64 a.bi, .int .i64 a.sr, .string a.op, .string a.md, .string a.tx, .string a.ta] w5.heap.size w6.heap.size w wa) := Fst.next F9.out hba
  have TA : Hid _ := T9.out.below hba
  clear hba F9 T9 i2 a0 a1 a2 a3 a4 a5 a6 a7 a8 a9 a10 a11 a12 a13
  go_wp2_with fail
  refine Calls.mono (cNN.out _ _ b _ _ _ TA.out) ?_; rintro e wb ⟨rfl, hbb⟩
  have FB : Hid (Fst g d w1.heap.size w2.heap.size #[.int .i64 k0, .int .i64 k1, .int .i64 k2, .int .i64 k3, .int .i64 k4, .int .i64 k5, .int .i64 k6, .int .i64 k7, .int .i64 k8, .string m0, .string m1, .string m2] #[.int .i64 k0, .int .i64 l1, .int .i64 l2, .int .i64 l3, .int .i64 l4, .int .i64 l5, .int .i64 l6, .int .i64 l7, .int .i64 l8, .string n0, .string n1, .string n2] #[.int .i64 a.pr, .int .i64 a.kd, .bool a.ba, .int .i64 a.sa, .int .i64 a.sp, .int .i64 a.da, .int .i64 a.dp, .int .i64 a.tl, .int .i64 a.bi, .int .i64 a.sr, .string a.op, .string a.md, .string a.tx, .string a.ta] #[.int .i64 a.pr, .int .i64 a.kd, .bool a.ba, .int .i64 a.sa, .int .i64 a.sp, .int .i64 d.sa, .int .i64 d.sp, .int .i64 (a.tl - 1), .int .i64 a.bi, .int .i64 a.sr, .string a.op, .string a.md, .string a.tx, .string a.ta] w5.heap.size w6.heap.size w wb) := Fst.next FA.out hbb
  have TB : Hid _ := TA.out.below hbb
  clear hbb FA TA cNN
  go_wp2_with fail
  refine Calls.mono (mapping_none TB.out) ?_; rintro e wm ⟨rfl, hbm⟩
  have FM : Hid (Fst g d w1.heap.size w2.heap.size #[.int .i64 k0, .int .i64 k1, .int .i64 k2, .int .i64 k3, .int .i64 k4, .int .i64 k5, .int .i64 k6, .int .i64 k7, .int .i64 k8, .string m0, .string m1, .string m2] #[.int .i64 k0, .int .i64 l1, .int .i64 l2, .int .i64 l3, .int .i64 l4, .int .i64 l5, .int .i64 l6, .int .i64 l7, .int .i64 l8, .string n0, .string n1, .string n2] #[.int .i64 a.pr, .int .i64 a.kd, .bool a.ba, .int .i64 a.sa, .int .i64 a.sp, .int .i64 a.da, .int .i64 a.dp, .int .i64 a.tl, .int .i64 a.bi, .int .i64 a.sr, .string a.op, .string a.md, .string a.tx, .string a.ta] #[.int .i64 a.pr, .int .i64 a.kd, .bool a.ba, .int .i64 a.sa, .int .i64 a.sp, .int .i64 d.sa, .int .i64 d.sp, .int .i64 (a.tl - 1), .int .i64 a.bi, .int .i64 a.sr, .string a.op, .string a.md, .string a.tx, .string a.ta] w5.heap.size w6.heap.size w wm) := Fst.next FB.out hbm
  have TM : Hid _ := TB.out.below hbm
  clear hbm FB TB
  go_wp2_with fail
  have FN : Hid (Fst g d w1.heap.size w2.heap.size #[.int .i64 k0, .int .i64 k1, .int .i64 k2, .int .i64 k3, .int .i64 k4, .int .i64 k5, .int .i64 k6, .int .i64 k7, .int .i64 k8, .string m0, .string m1, .string m2] #[.int .i64 k0, .int .i64 l1, .int .i64 l2, .int .i64 l3, .int .i64 l4, .int .i64 l5, .int .i64 l6, .int .i64 l7, .int .i64 l8, .string n0, .string n1, .string n2] #[.int .i64 a.pr, .int .i64 a.kd, .bool a.ba, .int .i64 a.sa, .int .i64 a.sp, .int .i64 a.da, .int .i64 a.dp, .int .i64 a.tl, .int .i64 a.bi, .int .i64 a.sr, .string a.op, .string a.md, .string a.tx, .string a.ta] #[.int .i64 a.pr, .int .i64 a.kd, .bool a.ba, .int .i64 a.sa, .int .i64 a.sp, .int .i64 d.sa, .int .i64 d.sp, .int .i64 (a.tl - 1), .int .i64 a.bi, .int .i64 a.sr, .string a.op, .string a.md, .string a.tx, .string a.ta] w5.heap.size w6.heap.size w (wm.alloc (.cells #[.int .i64 0, .int .i64 0, .int .i64 0, .int .i64 0, .int .i64 0, .int .i64 0] 66))) := Fst.next FM.out ((Below.refl _ _).alloc (Nat.le_refl _) _)
  have TN : Hid _ := TM.out.below ((Below.refl wm.heap.size wm).alloc (Nat.le_refl _) (.cells #[.int .i64 0, .int .i64 0, .int .i64 0, .int .i64 0, .int .i64 0, .int .i64 0] 66))
  refine Calls.mono (live_any TN.out (by simp)) ?_; rintro e w' ⟨rfl, hw⟩; replace hw := hw.symm; subst hw
  generalize wm.alloc (.cells #[.int .i64 0, .int .i64 0, .int .i64 0, .int .i64 0, .int .i64 0, .int .i64 0] 66) = wn at FN TN ⊢
  clear FM TM
  simp only [List.length_nil]
  have GN : wn.heap[w1.heap.size]? = some (.cells #[.int .i64 g.ia, .int .i64 g.oa, .int .i64 g.lo, .int .i64 g.hi, .int .i64 g.cp, .int .i64 g.im, .int .i64 g.om, .int .i64 g.iu, .int .i64 g.it, .int .i64 g.iq, .int .i64 g.bu, .int .i64 g.ra] 28 (0, 0)) := FN.out.1.1.2.1
  have DN : wn.heap[w2.heap.size]? = some (.cells #[.int .i64 d.pr, .int .i64 d.kd, .bool d.ba, .int .i64 d.sa, .int .i64 d.sp, .int .i64 d.da, .int .i64 d.dp, .int .i64 d.tl, .int .i64 d.bi, .int .i64 d.sr, .string d.op, .string d.md, .string d.tx, .string d.ta] 33 (0, 0)) := FN.out.1.1.2.2
  have QN : wn.heap[w.heap.size + 1 + 1]? = some (.cells #[.int .i64 k0, .int .i64 l1, .int .i64 l2, .int .i64 l3, .int .i64 l4, .int .i64 l5, .int .i64 l6, .int .i64 l7, .int .i64 l8, .string n0, .string n1, .string n2] 30 (0, 0)) := FN.out.1.2.2
  obtain ⟨g0, g1, g2, g3, g4, g5, g6, g7, g8, g9, g10, g11⟩ := cell12 GN
  obtain ⟨d0, d1, d2, d3, d4, d5, d6, d7, d8, d9, d10, d11, d12, d13⟩ := cell14 DN
  obtain ⟨q0, q1, q2, q3, q4, q5, q6, q7, q8, q9, q10, q11⟩ := cell12 QN
  have fq := nofrz QN
  clear GN DN QN
  have SN : Hid (Hst g d w1.heap.size w2.heap.size #[.int .i64 k0, .int .i64 k1, .int .i64 k2, .int .i64 k3, .int .i64 k4, .int .i64 k5, .int .i64 k6, .int .i64 k7, .int .i64 k8, .string m0, .string m1, .string m2] #[.int .i64 k0, .int .i64 l1, .int .i64 d.sp, .int .i64 l3, .int .i64 l4, .int .i64 l5, .int .i64 l6, .int .i64 l7, .int .i64 l8, .string n0, .string n1, .string n2] w (wn.setCell ⟨w.heap.size + 1 + 1, 2, none⟩ (.int .i64 d.sp))) := Hst.putq FN.out.1 2 _ hA2 hB2
  have TN' : Hid _ := TN.out.other (p := ⟨w.heap.size + 1 + 1, 2, none⟩) (by show w.heap.size + 1 + 1 ≠ b; omega) (by simp; omega) (.int .i64 d.sp)
  go_wp2_with fail
  refine Calls.mono (CS2.out d _ HPd.out) ?_; rintro e wt ⟨s, rfl, hP2, hbt⟩
  have ST : Hid (Hst g d w1.heap.size w2.heap.size #[.int .i64 k0, .int .i64 k1, .int .i64 k2, .int .i64 k3, .int .i64 k4, .int .i64 k5, .int .i64 k6, .int .i64 k7, .int .i64 k8, .string m0, .string m1, .string m2] #[.int .i64 k0, .int .i64 l1, .int .i64 d.sp, .int .i64 l3, .int .i64 l4, .int .i64 l5, .int .i64 l6, .int .i64 l7, .int .i64 l8, .string n0, .string n1, .string n2] w wt) := Hst.next SN.out hbt
  have TT : Hid _ := TN'.out.below hbt
  obtain ⟨o1, o2, o3⟩ := CO.out d s ext hP2 HX.out.1 HX.out.2.1
  unfold dgl at o1 o2 o3
  unfold cfl at o1
  simp only at o1 o3
  have cPP : Hid (∀ wx base b v ti, Bat wx base b g g.bu ti v [] → ∃ m2, (m2.pr = s.pr ∧ m2.ea = s.sa ∧ m2.ep = s.sp ∧ m2.ex = ext ∧ m2.le = id ∧ m2.kn = 1) ∧ Calls Tryz.prog 22 #[.pointer (some ⟨b, 0, none⟩), .int .i64 0, .string (kfr s), .int .i64 1, .string (kfr { s with sa := g.oa, sp := ext, tl := s.tl - 1 })] wx fun e w' => e = .returned (.bool true) ∧ ∃ wq, (∃ v', Left wx wq base b 12 90 (bxc g v g.bu ti) v v' [m2]) ∧ Below wq.heap.size wq w') := fun wx base b v ti T => by
    obtain ⟨m2, h2, c2⟩ := CY.out d s ext wx base b v ti hP2 HX.out.2.2 T
    rw [HIE.out] at h2
    exact ⟨m2, h2, passes_yes b 0 1 _ _ _ c2⟩
  generalize kfr s = XS at o2 cPP
  generalize kfr { s with sa := g.oa, sp := ext, tl := s.tl - 1 } = YS at o3 cPP
  have GT : wt.heap[w1.heap.size]? = some (.cells #[.int .i64 g.ia, .int .i64 g.oa, .int .i64 g.lo, .int .i64 g.hi, .int .i64 g.cp, .int .i64 g.im, .int .i64 g.om, .int .i64 g.iu, .int .i64 g.it, .int .i64 g.iq, .int .i64 g.bu, .int .i64 g.ra] 28 (0, 0)) := ST.out.1.2.1
  clear hbt SN TN TN' FN CO CY CS2 hP2 fq g0 g1 g2 g3 g4 g5 g6 g7 g8 g9 g10 g11 d0 d1 d2 d3 d4 d5 d6 d7 d8 d9 d10 d11 d12 d13 q0 q1 q2 q3 q4 q5 q6 q7 q8 q9 q10 q11
  obtain ⟨g0, g1, g2, g3, g4, g5, g6, g7, g8, g9, g10, g11⟩ := cell12 GT
  have hlt : w1.heap.size < wt.heap.size := (Array.getElem?_eq_some_iff.1 GT).1
  have hbT : b < wt.heap.size := TT.out.lt
  have hoT : Hid (∀ k, v9.ownBlock = some k → k < wt.heap.size) := TT.out.own_lt
  clear GT
  go_wp2_with fail
  refine Calls.mono (o1.at _) ?_; rintro e wu ⟨rfl, hbu⟩
  have AU : Hid _ := (hbu.block wt.heap.size (by simp)).trans (alloc1 wt _)
  have BU : Hid (Below wt.heap.size wt wu) := ((Below.refl wt.heap.size wt).alloc (Nat.le_refl _) _).trans (hbu.mono (by simp))
  have hlu : wt.heap.size < wu.heap.size := by have := hbu.size; simp at this; omega
  have ss : Hid (Dst #[.int .i64 s.pr, .int .i64 s.kd, .bool s.ba, .int .i64 s.sa, .int .i64 s.sp, .int .i64 s.da, .int .i64 s.dp, .int .i64 s.tl, .int .i64 s.bi, .int .i64 s.sr, .string s.op, .string s.md, .string s.tx, .string s.ta] #[.int .i64 s.pr, .int .i64 s.kd, .bool s.ba, .int .i64 g.oa, .int .i64 ext, .int .i64 s.da, .int .i64 s.dp, .int .i64 (s.tl - 1), .int .i64 s.bi, .int .i64 s.sr, .string s.op, .string s.md, .string s.tx, .string s.ta] wt.heap.size wu.heap.size w (wu.alloc (.cells #[.int .i64 s.pr, .int .i64 s.kd, .bool s.ba, .int .i64 g.oa, .int .i64 ext, .int .i64 s.da, .int .i64 s.dp, .int .i64 (s.tl - 1), .int .i64 s.bi, .int .i64 s.sr, .string s.op, .string s.md, .string s.tx, .string s.ta] 33)).drew) := ⟨((ST.out.1.1.trans (BU.out.mono ST.out.1.1.size)).alloc (Nat.le_trans ST.out.1.1.size BU.out.size) _).drew, (Below.heap_alloc wu _ _ hlu).trans AU.out, alloc1 wu _⟩
  have HTa : Hid _ := ((TT.out.below BU.out).below ((Below.refl wu.heap.size wu).alloc (Nat.le_refl _) (.cells #[.int .i64 s.pr, .int .i64 s.kd, .bool s.ba, .int .i64 g.oa, .int .i64 ext, .int .i64 s.da, .int .i64 s.dp, .int .i64 (s.tl - 1), .int .i64 s.bi, .int .i64 s.sr, .string s.op, .string s.md, .string s.tx, .string s.ta] 33))).drew
  clear hbu o1 ST TT AU BU g0 g1 g2 g3 g4 g5 g6 g7 g8 g9 g10 g11
  have s0 := Dst.s (sv := #[.int .i64 s.pr, .int .i64 s.kd, .bool s.ba, .int .i64 s.sa, .int .i64 s.sp, .int .i64 s.da, .int .i64 s.dp, .int .i64 s.tl, .int .i64 s.bi, .int .i64 s.sr, .string s.op, .string s.md, .string s.tx, .string s.ta]) (tv := #[.int .i64 s.pr, .int .i64 s.kd, .bool s.ba, .int .i64 g.oa, .int .i64 ext, .int .i64 s.da, .int .i64 s.dp, .int .i64 (s.tl - 1), .int .i64 s.bi, .int .i64 s.sr, .string s.op, .string s.md, .string s.tx, .string s.ta]) (KS := wt.heap.size) (KT := wu.heap.size) (w := w) 0 (u := (.int .i64 s.pr)) rfl
  have s1 := Dst.s (sv := #[.int .i64 s.pr, .int .i64 s.kd, .bool s.ba, .int .i64 s.sa, .int .i64 s.sp, .int .i64 s.da, .int .i64 s.dp, .int .i64 s.tl, .int .i64 s.bi, .int .i64 s.sr, .string s.op, .string s.md, .string s.tx, .string s.ta]) (tv := #[.int .i64 s.pr, .int .i64 s.kd, .bool s.ba, .int .i64 g.oa, .int .i64 ext, .int .i64 s.da, .int .i64 s.dp, .int .i64 (s.tl - 1), .int .i64 s.bi, .int .i64 s.sr, .string s.op, .string s.md, .string s.tx, .string s.ta]) (KS := wt.heap.size) (KT := wu.heap.size) (w := w) 1 (u := (.int .i64 s.kd)) rfl
  have s2 := Dst.s (sv := #[.int .i64 s.pr, .int .i64 s.kd, .bool s.ba, .int .i64 s.sa, .int .i64 s.sp, .int .i64 s.da, .int .i64 s.dp, .int .i64 s.tl, .int .i64 s.bi, .int .i64 s.sr, .string s.op, .string s.md, .string s.tx, .string s.ta]) (tv := #[.int .i64 s.pr, .int .i64 s.kd, .bool s.ba, .int .i64 g.oa, .int .i64 ext, .int .i64 s.da, .int .i64 s.dp, .int .i64 (s.tl - 1), .int .i64 s.bi, .int .i64 s.sr, .string s.op, .string s.md, .string s.tx, .string s.ta]) (KS := wt.heap.size) (KT := wu.heap.size) (w := w) 2 (u := (.bool s.ba)) rfl
  have s3 := Dst.s (sv := #[.int .i64 s.pr, .int .i64 s.kd, .bool s.ba, .int .i64 s.sa, .int .i64 s.sp, .int .i64 s.da, .int .i64 s.dp, .int .i64 s.tl, .int .i64 s.bi, .int .i64 s.sr, .string s.op, .string s.md, .string s.tx, .string s.ta]) (tv := #[.int .i64 s.pr, .int .i64 s.kd, .bool s.ba, .int .i64 g.oa, .int .i64 ext, .int .i64 s.da, .int .i64 s.dp, .int .i64 (s.tl - 1), .int .i64 s.bi, .int .i64 s.sr, .string s.op, .string s.md, .string s.tx, .string s.ta]) (KS := wt.heap.size) (KT := wu.heap.size) (w := w) 3 (u := (.int .i64 s.sa)) rfl
  have s4 := Dst.s (sv := #[.int .i64 s.pr, .int .i64 s.kd, .bool s.ba, .int .i64 s.sa, .int .i64 s.sp, .int .i64 s.da, .int .i64 s.dp, .int .i64 s.tl, .int .i64 s.bi, .int .i64 s.sr, .string s.op, .string s.md, .string s.tx, .string s.ta]) (tv := #[.int .i64 s.pr, .int .i64 s.kd, .bool s.ba, .int .i64 g.oa, .int .i64 ext, .int .i64 s.da, .int .i64 s.dp, .int .i64 (s.tl - 1), .int .i64 s.bi, .int .i64 s.sr, .string s.op, .string s.md, .string s.tx, .string s.ta]) (KS := wt.heap.size) (KT := wu.heap.size) (w := w) 4 (u := (.int .i64 s.sp)) rfl
  have s5 := Dst.s (sv := #[.int .i64 s.pr, .int .i64 s.kd, .bool s.ba, .int .i64 s.sa, .int .i64 s.sp, .int .i64 s.da, .int .i64 s.dp, .int .i64 s.tl, .int .i64 s.bi, .int .i64 s.sr, .string s.op, .string s.md, .string s.tx, .string s.ta]) (tv := #[.int .i64 s.pr, .int .i64 s.kd, .bool s.ba, .int .i64 g.oa, .int .i64 ext, .int .i64 s.da, .int .i64 s.dp, .int .i64 (s.tl - 1), .int .i64 s.bi, .int .i64 s.sr, .string s.op, .string s.md, .string s.tx, .string s.ta]) (KS := wt.heap.size) (KT := wu.heap.size) (w := w) 5 (u := (.int .i64 s.da)) rfl
  have s6 := Dst.s (sv := #[.int .i64 s.pr, .int .i64 s.kd, .bool s.ba, .int .i64 s.sa, .int .i64 s.sp, .int .i64 s.da, .int .i64 s.dp, .int .i64 s.tl, .int .i64 s.bi, .int .i64 s.sr, .string s.op, .string s.md, .string s.tx, .string s.ta]) (tv := #[.int .i64 s.pr, .int .i64 s.kd, .bool s.ba, .int .i64 g.oa, .int .i64 ext, .int .i64 s.da, .int .i64 s.dp, .int .i64 (s.tl - 1), .int .i64 s.bi, .int .i64 s.sr, .string s.op, .string s.md, .string s.tx, .string s.ta]) (KS := wt.heap.size) (KT := wu.heap.size) (w := w) 6 (u := (.int .i64 s.dp)) rfl
  have s7 := Dst.s (sv := #[.int .i64 s.pr, .int .i64 s.kd, .bool s.ba, .int .i64 s.sa, .int .i64 s.sp, .int .i64 s.da, .int .i64 s.dp, .int .i64 s.tl, .int .i64 s.bi, .int .i64 s.sr, .string s.op, .string s.md, .string s.tx, .string s.ta]) (tv := #[.int .i64 s.pr, .int .i64 s.kd, .bool s.ba, .int .i64 g.oa, .int .i64 ext, .int .i64 s.da, .int .i64 s.dp, .int .i64 (s.tl - 1), .int .i64 s.bi, .int .i64 s.sr, .string s.op, .string s.md, .string s.tx, .string s.ta]) (KS := wt.heap.size) (KT := wu.heap.size) (w := w) 7 (u := (.int .i64 s.tl)) rfl
  have s8 := Dst.s (sv := #[.int .i64 s.pr, .int .i64 s.kd, .bool s.ba, .int .i64 s.sa, .int .i64 s.sp, .int .i64 s.da, .int .i64 s.dp, .int .i64 s.tl, .int .i64 s.bi, .int .i64 s.sr, .string s.op, .string s.md, .string s.tx, .string s.ta]) (tv := #[.int .i64 s.pr, .int .i64 s.kd, .bool s.ba, .int .i64 g.oa, .int .i64 ext, .int .i64 s.da, .int .i64 s.dp, .int .i64 (s.tl - 1), .int .i64 s.bi, .int .i64 s.sr, .string s.op, .string s.md, .string s.tx, .string s.ta]) (KS := wt.heap.size) (KT := wu.heap.size) (w := w) 8 (u := (.int .i64 s.bi)) rfl
  have s9 := Dst.s (sv := #[.int .i64 s.pr, .int .i64 s.kd, .bool s.ba, .int .i64 s.sa, .int .i64 s.sp, .int .i64 s.da, .int .i64 s.dp, .int .i64 s.tl, .int .i64 s.bi, .int .i64 s.sr, .string s.op, .string s.md, .string s.tx, .string s.ta]) (tv := #[.int .i64 s.pr, .int .i64 s.kd, .bool s.ba, .int .i64 g.oa, .int .i64 ext, .int .i64 s.da, .int .i64 s.dp, .int .i64 (s.tl - 1), .int .i64 s.bi, .int .i64 s.sr, .string s.op, .string s.md, .string s.tx, .string s.ta]) (KS := wt.heap.size) (KT := wu.heap.size) (w := w) 9 (u := (.int .i64 s.sr)) rfl
  have s10 := Dst.s (sv := #[.int .i64 s.pr, .int .i64 s.kd, .bool s.ba, .int .i64 s.sa, .int .i64 s.sp, .int .i64 s.da, .int .i64 s.dp, .int .i64 s.tl, .int .i64 s.bi, .int .i64 s.sr, .string s.op, .string s.md, .string s.tx, .string s.ta]) (tv := #[.int .i64 s.pr, .int .i64 s.kd, .bool s.ba, .int .i64 g.oa, .int .i64 ext, .int .i64 s.da, .int .i64 s.dp, .int .i64 (s.tl - 1), .int .i64 s.bi, .int .i64 s.sr, .string s.op, .string s.md, .string s.tx, .string s.ta]) (KS := wt.heap.size) (KT := wu.heap.size) (w := w) 10 (u := (.string s.op)) rfl
  have s11 := Dst.s (sv := #[.int .i64 s.pr, .int .i64 s.kd, .bool s.ba, .int .i64 s.sa, .int .i64 s.sp, .int .i64 s.da, .int .i64 s.dp, .int .i64 s.tl, .int .i64 s.bi, .int .i64 s.sr, .string s.op, .string s.md, .string s.tx, .string s.ta]) (tv := #[.int .i64 s.pr, .int .i64 s.kd, .bool s.ba, .int .i64 g.oa, .int .i64 ext, .int .i64 s.da, .int .i64 s.dp, .int .i64 (s.tl - 1), .int .i64 s.bi, .int .i64 s.sr, .string s.op, .string s.md, .string s.tx, .string s.ta]) (KS := wt.heap.size) (KT := wu.heap.size) (w := w) 11 (u := (.string s.md)) rfl
  have s12 := Dst.s (sv := #[.int .i64 s.pr, .int .i64 s.kd, .bool s.ba, .int .i64 s.sa, .int .i64 s.sp, .int .i64 s.da, .int .i64 s.dp, .int .i64 s.tl, .int .i64 s.bi, .int .i64 s.sr, .string s.op, .string s.md, .string s.tx, .string s.ta]) (tv := #[.int .i64 s.pr, .int .i64 s.kd, .bool s.ba, .int .i64 g.oa, .int .i64 ext, .int .i64 s.da, .int .i64 s.dp, .int .i64 (s.tl - 1), .int .i64 s.bi, .int .i64 s.sr, .string s.op, .string s.md, .string s.tx, .string s.ta]) (KS := wt.heap.size) (KT := wu.heap.size) (w := w) 12 (u := (.string s.tx)) rfl
  have s13 := Dst.s (sv := #[.int .i64 s.pr, .int .i64 s.kd, .bool s.ba, .int .i64 s.sa, .int .i64 s.sp, .int .i64 s.da, .int .i64 s.dp, .int .i64 s.tl, .int .i64 s.bi, .int .i64 s.sr, .string s.op, .string s.md, .string s.tx, .string s.ta]) (tv := #[.int .i64 s.pr, .int .i64 s.kd, .bool s.ba, .int .i64 g.oa, .int .i64 ext, .int .i64 s.da, .int .i64 s.dp, .int .i64 (s.tl - 1), .int .i64 s.bi, .int .i64 s.sr, .string s.op, .string s.md, .string s.tx, .string s.ta]) (KS := wt.heap.size) (KT := wu.heap.size) (w := w) 13 (u := (.string s.ta)) rfl
  have t0 := Dst.t (sv := #[.int .i64 s.pr, .int .i64 s.kd, .bool s.ba, .int .i64 s.sa, .int .i64 s.sp, .int .i64 s.da, .int .i64 s.dp, .int .i64 s.tl, .int .i64 s.bi, .int .i64 s.sr, .string s.op, .string s.md, .string s.tx, .string s.ta]) (tv := #[.int .i64 s.pr, .int .i64 s.kd, .bool s.ba, .int .i64 g.oa, .int .i64 ext, .int .i64 s.da, .int .i64 s.dp, .int .i64 (s.tl - 1), .int .i64 s.bi, .int .i64 s.sr, .string s.op, .string s.md, .string s.tx, .string s.ta]) (KS := wt.heap.size) (KT := wu.heap.size) (w := w) 0 (u := (.int .i64 s.pr)) rfl
  have t1 := Dst.t (sv := #[.int .i64 s.pr, .int .i64 s.kd, .bool s.ba, .int .i64 s.sa, .int .i64 s.sp, .int .i64 s.da, .int .i64 s.dp, .int .i64 s.tl, .int .i64 s.bi, .int .i64 s.sr, .string s.op, .string s.md, .string s.tx, .string s.ta]) (tv := #[.int .i64 s.pr, .int .i64 s.kd, .bool s.ba, .int .i64 g.oa, .int .i64 ext, .int .i64 s.da, .int .i64 s.dp, .int .i64 (s.tl - 1), .int .i64 s.bi, .int .i64 s.sr, .string s.op, .string s.md, .string s.tx, .string s.ta]) (KS := wt.heap.size) (KT := wu.heap.size) (w := w) 1 (u := (.int .i64 s.kd)) rfl
  have t2 := Dst.t (sv := #[.int .i64 s.pr, .int .i64 s.kd, .bool s.ba, .int .i64 s.sa, .int .i64 s.sp, .int .i64 s.da, .int .i64 s.dp, .int .i64 s.tl, .int .i64 s.bi, .int .i64 s.sr, .string s.op, .string s.md, .string s.tx, .string s.ta]) (tv := #[.int .i64 s.pr, .int .i64 s.kd, .bool s.ba, .int .i64 g.oa, .int .i64 ext, .int .i64 s.da, .int .i64 s.dp, .int .i64 (s.tl - 1), .int .i64 s.bi, .int .i64 s.sr, .string s.op, .string s.md, .string s.tx, .string s.ta]) (KS := wt.heap.size) (KT := wu.heap.size) (w := w) 2 (u := (.bool s.ba)) rfl
  have t3 := Dst.t (sv := #[.int .i64 s.pr, .int .i64 s.kd, .bool s.ba, .int .i64 s.sa, .int .i64 s.sp, .int .i64 s.da, .int .i64 s.dp, .int .i64 s.tl, .int .i64 s.bi, .int .i64 s.sr, .string s.op, .string s.md, .string s.tx, .string s.ta]) (tv := #[.int .i64 s.pr, .int .i64 s.kd, .bool s.ba, .int .i64 g.oa, .int .i64 ext, .int .i64 s.da, .int .i64 s.dp, .int .i64 (s.tl - 1), .int .i64 s.bi, .int .i64 s.sr, .string s.op, .string s.md, .string s.tx, .string s.ta]) (KS := wt.heap.size) (KT := wu.heap.size) (w := w) 3 (u := (.int .i64 g.oa)) rfl
  have t4 := Dst.t (sv := #[.int .i64 s.pr, .int .i64 s.kd, .bool s.ba, .int .i64 s.sa, .int .i64 s.sp, .int .i64 s.da, .int .i64 s.dp, .int .i64 s.tl, .int .i64 s.bi, .int .i64 s.sr, .string s.op, .string s.md, .string s.tx, .string s.ta]) (tv := #[.int .i64 s.pr, .int .i64 s.kd, .bool s.ba, .int .i64 g.oa, .int .i64 ext, .int .i64 s.da, .int .i64 s.dp, .int .i64 (s.tl - 1), .int .i64 s.bi, .int .i64 s.sr, .string s.op, .string s.md, .string s.tx, .string s.ta]) (KS := wt.heap.size) (KT := wu.heap.size) (w := w) 4 (u := (.int .i64 ext)) rfl
  have t5 := Dst.t (sv := #[.int .i64 s.pr, .int .i64 s.kd, .bool s.ba, .int .i64 s.sa, .int .i64 s.sp, .int .i64 s.da, .int .i64 s.dp, .int .i64 s.tl, .int .i64 s.bi, .int .i64 s.sr, .string s.op, .string s.md, .string s.tx, .string s.ta]) (tv := #[.int .i64 s.pr, .int .i64 s.kd, .bool s.ba, .int .i64 g.oa, .int .i64 ext, .int .i64 s.da, .int .i64 s.dp, .int .i64 (s.tl - 1), .int .i64 s.bi, .int .i64 s.sr, .string s.op, .string s.md, .string s.tx, .string s.ta]) (KS := wt.heap.size) (KT := wu.heap.size) (w := w) 5 (u := (.int .i64 s.da)) rfl
  have t6 := Dst.t (sv := #[.int .i64 s.pr, .int .i64 s.kd, .bool s.ba, .int .i64 s.sa, .int .i64 s.sp, .int .i64 s.da, .int .i64 s.dp, .int .i64 s.tl, .int .i64 s.bi, .int .i64 s.sr, .string s.op, .string s.md, .string s.tx, .string s.ta]) (tv := #[.int .i64 s.pr, .int .i64 s.kd, .bool s.ba, .int .i64 g.oa, .int .i64 ext, .int .i64 s.da, .int .i64 s.dp, .int .i64 (s.tl - 1), .int .i64 s.bi, .int .i64 s.sr, .string s.op, .string s.md, .string s.tx, .string s.ta]) (KS := wt.heap.size) (KT := wu.heap.size) (w := w) 6 (u := (.int .i64 s.dp)) rfl
  have t7 := Dst.t (sv := #[.int .i64 s.pr, .int .i64 s.kd, .bool s.ba, .int .i64 s.sa, .int .i64 s.sp, .int .i64 s.da, .int .i64 s.dp, .int .i64 s.tl, .int .i64 s.bi, .int .i64 s.sr, .string s.op, .string s.md, .string s.tx, .string s.ta]) (tv := #[.int .i64 s.pr, .int .i64 s.kd, .bool s.ba, .int .i64 g.oa, .int .i64 ext, .int .i64 s.da, .int .i64 s.dp, .int .i64 (s.tl - 1), .int .i64 s.bi, .int .i64 s.sr, .string s.op, .string s.md, .string s.tx, .string s.ta]) (KS := wt.heap.size) (KT := wu.heap.size) (w := w) 7 (u := (.int .i64 (s.tl - 1))) rfl
  have t8 := Dst.t (sv := #[.int .i64 s.pr, .int .i64 s.kd, .bool s.ba, .int .i64 s.sa, .int .i64 s.sp, .int .i64 s.da, .int .i64 s.dp, .int .i64 s.tl, .int .i64 s.bi, .int .i64 s.sr, .string s.op, .string s.md, .string s.tx, .string s.ta]) (tv := #[.int .i64 s.pr, .int .i64 s.kd, .bool s.ba, .int .i64 g.oa, .int .i64 ext, .int .i64 s.da, .int .i64 s.dp, .int .i64 (s.tl - 1), .int .i64 s.bi, .int .i64 s.sr, .string s.op, .string s.md, .string s.tx, .string s.ta]) (KS := wt.heap.size) (KT := wu.heap.size) (w := w) 8 (u := (.int .i64 s.bi)) rfl
  have t9 := Dst.t (sv := #[.int .i64 s.pr, .int .i64 s.kd, .bool s.ba, .int .i64 s.sa, .int .i64 s.sp, .int .i64 s.da, .int .i64 s.dp, .int .i64 s.tl, .int .i64 s.bi, .int .i64 s.sr, .string s.op, .string s.md, .string s.tx, .string s.ta]) (tv := #[.int .i64 s.pr, .int .i64 s.kd, .bool s.ba, .int .i64 g.oa, .int .i64 ext, .int .i64 s.da, .int .i64 s.dp, .int .i64 (s.tl - 1), .int .i64 s.bi, .int .i64 s.sr, .string s.op, .string s.md, .string s.tx, .string s.ta]) (KS := wt.heap.size) (KT := wu.heap.size) (w := w) 9 (u := (.int .i64 s.sr)) rfl
  have t10 := Dst.t (sv := #[.int .i64 s.pr, .int .i64 s.kd, .bool s.ba, .int .i64 s.sa, .int .i64 s.sp, .int .i64 s.da, .int .i64 s.dp, .int .i64 s.tl, .int .i64 s.bi, .int .i64 s.sr, .string s.op, .string s.md, .string s.tx, .string s.ta]) (tv := #[.int .i64 s.pr, .int .i64 s.kd, .bool s.ba, .int .i64 g.oa, .int .i64 ext, .int .i64 s.da, .int .i64 s.dp, .int .i64 (s.tl - 1), .int .i64 s.bi, .int .i64 s.sr, .string s.op, .string s.md, .string s.tx, .string s.ta]) (KS := wt.heap.size) (KT := wu.heap.size) (w := w) 10 (u := (.string s.op)) rfl
  have t11 := Dst.t (sv := #[.int .i64 s.pr, .int .i64 s.kd, .bool s.ba, .int .i64 s.sa, .int .i64 s.sp, .int .i64 s.da, .int .i64 s.dp, .int .i64 s.tl, .int .i64 s.bi, .int .i64 s.sr, .string s.op, .string s.md, .string s.tx, .string s.ta]) (tv := #[.int .i64 s.pr, .int .i64 s.kd, .bool s.ba, .int .i64 g.oa, .int .i64 ext, .int .i64 s.da, .int .i64 s.dp, .int .i64 (s.tl - 1), .int .i64 s.bi, .int .i64 s.sr, .string s.op, .string s.md, .string s.tx, .string s.ta]) (KS := wt.heap.size) (KT := wu.heap.size) (w := w) 11 (u := (.string s.md)) rfl
  have t12 := Dst.t (sv := #[.int .i64 s.pr, .int .i64 s.kd, .bool s.ba, .int .i64 s.sa, .int .i64 s.sp, .int .i64 s.da, .int .i64 s.dp, .int .i64 s.tl, .int .i64 s.bi, .int .i64 s.sr, .string s.op, .string s.md, .string s.tx, .string s.ta]) (tv := #[.int .i64 s.pr, .int .i64 s.kd, .bool s.ba, .int .i64 g.oa, .int .i64 ext, .int .i64 s.da, .int .i64 s.dp, .int .i64 (s.tl - 1), .int .i64 s.bi, .int .i64 s.sr, .string s.op, .string s.md, .string s.tx, .string s.ta]) (KS := wt.heap.size) (KT := wu.heap.size) (w := w) 12 (u := (.string s.tx)) rfl
  have t13 := Dst.t (sv := #[.int .i64 s.pr, .int .i64 s.kd, .bool s.ba, .int .i64 s.sa, .int .i64 s.sp, .int .i64 s.da, .int .i64 s.dp, .int .i64 s.tl, .int .i64 s.bi, .int .i64 s.sr, .string s.op, .string s.md, .string s.tx, .string s.ta]) (tv := #[.int .i64 s.pr, .int .i64 s.kd, .bool s.ba, .int .i64 g.oa, .int .i64 ext, .int .i64 s.da, .int .i64 s.dp, .int .i64 (s.tl - 1), .int .i64 s.bi, .int .i64 s.sr, .string s.op, .string s.md, .string s.tx, .string s.ta]) (KS := wt.heap.size) (KT := wu.heap.size) (w := w) 13 (u := (.string s.ta)) rfl
  go_wp2
  go_region_held (fun w' => Dst #[.int .i64 s.pr, .int .i64 s.kd, .bool s.ba, .int .i64 s.sa, .int .i64 s.sp, .int .i64 s.da, .int .i64 s.dp, .int .i64 s.tl, .int .i64 s.bi, .int .i64 s.sr, .string s.op, .string s.md, .string s.tx, .string s.ta] #[.int .i64 s.pr, .int .i64 s.kd, .bool s.ba, .int .i64 g.oa, .int .i64 ext, .int .i64 s.da, .int .i64 s.dp, .int .i64 (s.tl - 1), .int .i64 s.bi, .int .i64 s.sr, .string s.op, .string s.md, .string s.tx, .string s.ta] wt.heap.size wu.heap.size w w') (first | (with_reducible assumption) | (with_reducible exact ss.out)) (first
    | (go_at_call_of 23 (Value.int .i64 ext); refine Calls.mono (o3.at _) ?_; rintro e wy ⟨rfl, hby⟩; have hky := Dst.next hkx hby; have HTy : Hid _ := Tb.below HTx.out hby)
    | (go_at_call 23; refine Calls.mono (o2.at _) ?_; rintro e wx ⟨rfl, hbx⟩; have hkx := Dst.next ss.out hbx; have HTx : Hid _ := Tb.below HTa.out hbx)
    | (go_at_call 22; obtain ⟨m2, hm2, cPx⟩ := cPP.out _ _ b _ _ HTy.out; refine Calls.mono cPx ?_; rintro e wz2 ⟨rfl, wq, ⟨v2, hL⟩, hbz⟩; have hkz2 := Dst.next (Dst.left hky HTy.out hL (by simp; omega) (by simpa using hbs) (by omega) (by omega) (fun e => by have := hoT.out _ e; omega) (fun e => by have := hoT.out _ e; omega)) hbz; have HLz : Hid _ := hL.grow HTy.out.lt hbz; have HM2 : Hid _ := hm2))
  go_wp2_with fail
  refine Calls.mono (holds_yes b 0 id 1 ext s (fun wx hx => Hid.out (holdsM (Left.bat HLz.out) HM2.out hx))) ?_; rintro e wj ⟨rfl, hbj⟩
  go_wp2
  go_ret
  exact ⟨rfl, hkz2.1.trans (hbj.mono hkz2.1.size)⟩
end Go.Proofs.YthiljpbodmajaaaGreat
