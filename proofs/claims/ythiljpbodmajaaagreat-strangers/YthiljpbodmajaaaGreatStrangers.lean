/-
  CONTRACTS: natboxkeep.Strangers.
-/
import Derived.Test.YthiljpbodmajaaaGreatStal
import Derived.Test.YthiljpbodmajaaaGreatKepv
import Derived.Test.YthiljpbodmajaaaGreatKepg
import Derived.Deep.DeepCutAuto
import Derived.Deep.RegionHeld
import Derived.Maps.RangeWalk
import Derived.Test.YthiljpbodmajaaaGreatRows
import Derived.WalkKit
import Derived.ProofKit
import Derived.OpenShut
import Derived.ChangeOld
import Derived.Below
import Derived.Test.YthiljpbodmajaaaGreatNotp
import Derived.Test.YthiljpbodmajaaaGreatKfrm
import Derived.Test.YthiljpbodmajaaaGreatLetr
namespace Go.Proofs.YthiljpbodmajaaaGreat
open Go.RowKit Plain
set_option linter.unusedVariables false

set_option maxHeartbeats 16000000 in
set_option maxRecDepth 2000 in
theorem strangers_core (c g : Cf) (n : Nt) (qp od : Int) (P : Dg → Prop) (R : Dg → Prop) (k0 k1 k2 k3 k4 k5 k6 k7 k8 l0 l1 l2 l3 l4 l5 l6 l7 l8 : Int) (m0 m1 m2 n0 n1 n2 : ByteArray) (w : World) (cC : RetB 12 #[.agg (cfl c)] (.agg (cfl g)))
    (cNw : ∀ wx, Calls Tryz.prog 27 #[.agg (cfl g)] wx fun e w' => ∃ b v, e = .returned (.tuple #[.pointer (some ⟨b, 0, none⟩), .int .i64 0]) ∧ Bat w' wx.heap.size b g g.bu 0 v [] ∧ Below wx.heap.size wx w' ∧ wx.heap.size ≤ b)
    (cW : Ret 18 #[.int .i64 l4, .int .i64 0, .int .i64 65535] (.int .i64 qp))
    (cF : ∀ wx, Calls Tryz.prog 20 #[.agg #[.int .i64 l0, .int .i64 l1, .int .i64 l2, .int .i64 l3, .int .i64 l4, .int .i64 l5, .int .i64 l6, .int .i64 l7, .int .i64 l8, .string n0, .string n1, .string n2], .agg (cfl g), .int .i64 qp] wx fun e w' => ∃ a, e = .returned (.agg (dgl a)) ∧ R a ∧ Below wx.heap.size wx w')
    (cA : ∀ a, R a → RetB 23 #[.agg (dgl a)] (.string (kfr a)) ∧ ∀ wx base b v, Bat wx base b g g.bu 0 v [] → Calls Tryz.prog 28 #[.pointer (some ⟨b, 0, none⟩), .int .i64 1, .string (kfr a), .int .i64 8] wx fun e w' => e = .returned (.bool true) ∧ Below wx.heap.size wx w')
    (cL : ∀ wx base b v, Bat wx base b g g.bu 0 v [] → Calls Tryz.prog 17 #[.pointer (some ⟨b, 0, none⟩)] wx fun e w' => e = .returned (.int .i64 0) ∧ w' = wx)
    (cS : ∀ wx, Calls Tryz.prog 13 #[.agg #[.int .i64 k0, .int .i64 k1, .int .i64 k2, .int .i64 k3, .int .i64 k4, .int .i64 k5, .int .i64 k6, .int .i64 k7, .int .i64 k8, .string m0, .string m1, .string m2], .agg (cfl g), .int .i64 g.om] wx fun e w' => ∃ d, e = .returned (.agg (dgl d)) ∧ P d ∧ Below wx.heap.size wx w')
    (cO : RetB 29 #[.int .i64 l3, .agg (cfl g)] (.int .i64 od))
    (cB : ∀ a d, R a → P d → ∃ ext id mp,
      RetB 26 #[.agg (cfl g), .int .i64 d.sp, .int .i64 (-1)] (.int .i64 ext) ∧
      RetB 24 #[.agg (dgl d), .agg (cfl g), .int .i64 ext] (.agg (dgl { d with sa := g.oa, sp := ext, tl := d.tl - 1 })) ∧
      RetB 23 #[.agg (dgl d)] (.string (kfr d)) ∧ RetB 23 #[.agg (dgl { d with sa := g.oa, sp := ext, tl := d.tl - 1 })] (.string (kfr { d with sa := g.oa, sp := ext, tl := d.tl - 1 })) ∧
      (∀ wx base b v, Bat wx base b g g.bu 0 v [] → Calls Tryz.prog 22 #[.pointer (some ⟨b, 0, none⟩), .int .i64 0, .string (kfr d), .int .i64 1, .string (kfr { d with sa := g.oa, sp := ext, tl := d.tl - 1 })] wx fun e w' => e = .returned (.bool true) ∧ ∃ v', BL wx w' base b g v v' g.bu 0 [mp]) ∧
      (decide (a.pr = d.pr ∧ a.dp = ext) = true → RetB 21 #[.agg (dgl a), .int .i64 d.sa, .int .i64 d.sp] (.agg (dgl { a with da := d.sa, dp := d.sp, tl := a.tl - 1 })) ∧ ∃ XB, RetB 23 #[.agg (dgl { a with da := d.sa, dp := d.sp, tl := a.tl - 1 })] (.string XB) ∧
        ∀ wx base b v, Bat wx base b g g.bu 0 v [mp] → Calls Tryz.prog 22 #[.pointer (some ⟨b, 0, none⟩), .int .i64 1, .string (kfr a), .int .i64 0, .string XB] wx fun e w' => e = .returned (.bool true) ∧ Below wx.heap.size wx w') ∧
      (decide (a.pr = d.pr ∧ a.dp = ext) = false → ∀ wx base b v, Bat wx base b g g.bu 0 v [mp] → Calls Tryz.prog 28 #[.pointer (some ⟨b, 0, none⟩), .int .i64 1, .string (kfr a), .int .i64 8] wx fun e w' => e = .returned (.bool true) ∧ Below wx.heap.size wx w') ∧
      (decide (¬ od = d.da ∨ (¬ qp = d.dp ∧ ¬ d.pr = 1)) = true → ∀ wx, Calls Tryz.prog 30 #[.agg (ntl n), .agg (cfl g), .int .i64 g.oa, .agg (dgl { d with sa := g.oa, sp := ext, da := od, dp := qp, tl := d.tl - 1 }), .int .i64 g.im] wx fun e w' => ∃ m, e = .returned (.agg (ltl m)) ∧ Below wx.heap.size wx w' ∧ ∃ XX, RetB 31 #[.agg (ltl m)] (.string XX) ∧ ∀ wx base b v, Bat wx base b g g.bu 0 v [mp] → Calls Tryz.prog 28 #[.pointer (some ⟨b, 0, none⟩), .int .i64 1, .string XX, .int .i64 8] wx fun e w' => e = .returned (.bool true) ∧ Below wx.heap.size wx w') ∧
      RetB 16 #[.agg (cfl g), .int .i64 d.pr] (.int .i64 id) ∧
      (∀ wx base b v, Bat wx base b g g.bu 0 v [mp] → Calls Tryz.prog 15 #[.pointer (some ⟨b, 0, none⟩), .int .i64 0, .agg (dgl d), .int .i64 ext, .int .i64 id, .int .i64 1] wx fun e w' => e = .returned (.bool true) ∧ Below wx.heap.size wx w')) :
    Calls Tryz.prog 7 #[.agg (cfl c), .agg #[.int .i64 k0, .int .i64 k1, .int .i64 k2, .int .i64 k3, .int .i64 k4, .int .i64 k5, .int .i64 k6, .int .i64 k7, .int .i64 k8, .string m0, .string m1, .string m2], .agg #[.int .i64 l0, .int .i64 l1, .int .i64 l2, .int .i64 l3, .int .i64 l4, .int .i64 l5, .int .i64 l6, .int .i64 l7, .int .i64 l8, .string n0, .string n1, .string n2], .agg (ntl n)] w fun e w' => e = .returned (.bool true) ∧ Below w.heap.size w w' := by
  unfold ltl ntl dgl cfl at cB
  unfold dgl cfl at cS cF
  unfold dgl at cA
  unfold cfl at cC cNw cO ⊢
  unfold ntl
  have CC : Hid _ := cC
  have CNw : Hid _ := cNw
  have CF : Hid _ := cF
  have CA : Hid _ := cA
  have CL : Hid _ := cL
  have CS : Hid _ := cS
  have CO : Hid _ := cO
  have CB : Hid _ := cB
  clear cC cNw cF cA cL cS cO cB
  go_enter Tryz.func7, Tryz.ntmps7
  go_upto_region 1 with fail
  have S_v0 : Hid (St [(w.heap.size, (cfl c), 28), (w.heap.size + 1, #[.int .i64 k0, .int .i64 k1, .int .i64 k2, .int .i64 k3, .int .i64 k4, .int .i64 k5, .int .i64 k6, .int .i64 k7, .int .i64 k8, .string m0, .string m1, .string m2], 30), (w.heap.size + 1 + 1, #[.int .i64 l0, .int .i64 l1, .int .i64 l2, .int .i64 l3, .int .i64 l4, .int .i64 l5, .int .i64 l6, .int .i64 l7, .int .i64 l8, .string n0, .string n1, .string n2], 30), (w.heap.size + 1 + 1 + 1, (ntl n), 56)] w ((((w.alloc (.cells #[.int .i64 c.ia, .int .i64 c.oa, .int .i64 c.lo, .int .i64 c.hi, .int .i64 c.cp, .int .i64 c.im, .int .i64 c.om, .int .i64 c.iu, .int .i64 c.it, .int .i64 c.iq, .int .i64 c.bu, .int .i64 c.ra] 28)).alloc (.cells #[.int .i64 k0, .int .i64 k1, .int .i64 k2, .int .i64 k3, .int .i64 k4, .int .i64 k5, .int .i64 k6, .int .i64 k7, .int .i64 k8, .string m0, .string m1, .string m2] 30)).alloc (.cells #[.int .i64 l0, .int .i64 l1, .int .i64 l2, .int .i64 l3, .int .i64 l4, .int .i64 l5, .int .i64 l6, .int .i64 l7, .int .i64 l8, .string n0, .string n1, .string n2] 30)).alloc (.cells #[.int .i64 n.sr, .int .i64 n.ty, .int .i64 n.co, .int .i64 n.le, .int .i64 n.se, .int .i64 n.tl, .int .i64 n.op, .int .i64 n.bi, .string n.re, .string n.ta] 56))) := St.alloc (St.alloc (St.alloc (St.alloc (St.start w) (cfl c) 28 (w.heap.size) rfl) #[.int .i64 k0, .int .i64 k1, .int .i64 k2, .int .i64 k3, .int .i64 k4, .int .i64 k5, .int .i64 k6, .int .i64 k7, .int .i64 k8, .string m0, .string m1, .string m2] 30 (w.heap.size + 1) (by simp)) #[.int .i64 l0, .int .i64 l1, .int .i64 l2, .int .i64 l3, .int .i64 l4, .int .i64 l5, .int .i64 l6, .int .i64 l7, .int .i64 l8, .string n0, .string n1, .string n2] 30 (w.heap.size + 1 + 1) (by simp)) (ntl n) 56 (w.heap.size + 1 + 1 + 1) (by simp)
  generalize ((((w.alloc (.cells #[.int .i64 c.ia, .int .i64 c.oa, .int .i64 c.lo, .int .i64 c.hi, .int .i64 c.cp, .int .i64 c.im, .int .i64 c.om, .int .i64 c.iu, .int .i64 c.it, .int .i64 c.iq, .int .i64 c.bu, .int .i64 c.ra] 28)).alloc (.cells #[.int .i64 k0, .int .i64 k1, .int .i64 k2, .int .i64 k3, .int .i64 k4, .int .i64 k5, .int .i64 k6, .int .i64 k7, .int .i64 k8, .string m0, .string m1, .string m2] 30)).alloc (.cells #[.int .i64 l0, .int .i64 l1, .int .i64 l2, .int .i64 l3, .int .i64 l4, .int .i64 l5, .int .i64 l6, .int .i64 l7, .int .i64 l8, .string n0, .string n1, .string n2] 30)).alloc (.cells #[.int .i64 n.sr, .int .i64 n.ty, .int .i64 n.co, .int .i64 n.le, .int .i64 n.se, .int .i64 n.tl, .int .i64 n.op, .int .i64 n.bi, .string n.re, .string n.ta] 56)) = v0 at S_v0 ⊢
  generalize (Value.agg #[.int .i64 c.ia, .int .i64 c.oa, .int .i64 c.lo, .int .i64 c.hi, .int .i64 c.cp, .int .i64 c.im, .int .i64 c.om, .int .i64 c.iu, .int .i64 c.it, .int .i64 c.iq, .int .i64 c.bu, .int .i64 c.ra]) = B1
  generalize (Value.agg #[.int .i64 k0, .int .i64 k1, .int .i64 k2, .int .i64 k3, .int .i64 k4, .int .i64 k5, .int .i64 k6, .int .i64 k7, .int .i64 k8, .string m0, .string m1, .string m2]) = B2
  generalize (Value.agg #[.int .i64 l0, .int .i64 l1, .int .i64 l2, .int .i64 l3, .int .i64 l4, .int .i64 l5, .int .i64 l6, .int .i64 l7, .int .i64 l8, .string n0, .string n1, .string n2]) = B3
  generalize (Value.agg #[.int .i64 n.sr, .int .i64 n.ty, .int .i64 n.co, .int .i64 n.le, .int .i64 n.se, .int .i64 n.tl, .int .i64 n.op, .int .i64 n.bi, .string n.re, .string n.ta]) = B4
  go_wp2_with (first | (refine pull_cf [.int .i64 c.ia, .int .i64 c.oa, .int .i64 c.lo, .int .i64 c.hi, .int .i64 c.cp, .int .i64 c.im, .int .i64 c.om, .int .i64 c.iu, .int .i64 c.it, .int .i64 c.iq, .int .i64 c.bu, .int .i64 c.ra] rfl (w.heap.size) (St.get S_v0.out 0 rfl) rfl rfl rfl ?_))
  refine Calls.mono (RetB.at CC.out _) ?_; rintro e w1 ⟨rfl, hb1⟩
  have S_w1 : Hid (St [(w.heap.size, (cfl c), 28), (w.heap.size + 1, #[.int .i64 k0, .int .i64 k1, .int .i64 k2, .int .i64 k3, .int .i64 k4, .int .i64 k5, .int .i64 k6, .int .i64 k7, .int .i64 k8, .string m0, .string m1, .string m2], 30), (w.heap.size + 1 + 1, #[.int .i64 l0, .int .i64 l1, .int .i64 l2, .int .i64 l3, .int .i64 l4, .int .i64 l5, .int .i64 l6, .int .i64 l7, .int .i64 l8, .string n0, .string n1, .string n2], 30), (w.heap.size + 1 + 1 + 1, (ntl n), 56)] w w1) := St.next S_v0.out hb1
  generalize (Value.agg #[.int .i64 c.ia, .int .i64 c.oa, .int .i64 c.lo, .int .i64 c.hi, .int .i64 c.cp, .int .i64 c.im, .int .i64 c.om, .int .i64 c.iu, .int .i64 c.it, .int .i64 c.iq, .int .i64 c.bu, .int .i64 c.ra]) = B5
  clear S_v0
  have hz_w1 : w.heap.size + 1 + 1 + 1 < w1.heap.size := St.lt S_w1.out (x := (w.heap.size + 1 + 1 + 1, (ntl n), 56)) (by simp)
  clear hb1
  rename_i KK hKK
  refine hKK _ _ ?_
  refine keep_cf [.int .i64 g.ia, .int .i64 g.oa, .int .i64 g.lo, .int .i64 g.hi, .int .i64 g.cp, .int .i64 g.im, .int .i64 g.om, .int .i64 g.iu, .int .i64 g.it, .int .i64 g.iq, .int .i64 g.bu, .int .i64 g.ra] rfl rfl rfl rfl rfl (by simp [Value.oneCell']) (by simp [Act.eval, Act.put]) (by simp [Act.eval, Act.put]) ?_
  clear hKK
  clear KK
  have S_v1 : Hid (St [(w.heap.size, (cfl c), 28), (w.heap.size + 1, #[.int .i64 k0, .int .i64 k1, .int .i64 k2, .int .i64 k3, .int .i64 k4, .int .i64 k5, .int .i64 k6, .int .i64 k7, .int .i64 k8, .string m0, .string m1, .string m2], 30), (w.heap.size + 1 + 1, #[.int .i64 l0, .int .i64 l1, .int .i64 l2, .int .i64 l3, .int .i64 l4, .int .i64 l5, .int .i64 l6, .int .i64 l7, .int .i64 l8, .string n0, .string n1, .string n2], 30), (w.heap.size + 1 + 1 + 1, (ntl n), 56), (w1.heap.size, (cfl g), 28)] w (w1.alloc (.cells #[.int .i64 g.ia, .int .i64 g.oa, .int .i64 g.lo, .int .i64 g.hi, .int .i64 g.cp, .int .i64 g.im, .int .i64 g.om, .int .i64 g.iu, .int .i64 g.it, .int .i64 g.iq, .int .i64 g.bu, .int .i64 g.ra] 28))) := St.alloc S_w1.out (cfl g) 28 (w1.heap.size) rfl
  have hs_v1 : w1.heap.size < (w1.alloc (.cells #[.int .i64 g.ia, .int .i64 g.oa, .int .i64 g.lo, .int .i64 g.hi, .int .i64 g.cp, .int .i64 g.im, .int .i64 g.om, .int .i64 g.iu, .int .i64 g.it, .int .i64 g.iq, .int .i64 g.bu, .int .i64 g.ra] 28)).heap.size := by simp
  generalize w1.alloc (.cells #[.int .i64 g.ia, .int .i64 g.oa, .int .i64 g.lo, .int .i64 g.hi, .int .i64 g.cp, .int .i64 g.im, .int .i64 g.om, .int .i64 g.iu, .int .i64 g.it, .int .i64 g.iq, .int .i64 g.bu, .int .i64 g.ra] 28) = v1 at S_v1 hs_v1  ⊢
  clear S_w1
  clear hs_v1
  clear CC
  have hz_v1 : w1.heap.size < v1.heap.size := St.lt S_v1.out (x := (w1.heap.size, (cfl g), 28)) (by simp)
  go_wp2_with (first | (refine pull_cf [.int .i64 g.ia, .int .i64 g.oa, .int .i64 g.lo, .int .i64 g.hi, .int .i64 g.cp, .int .i64 g.im, .int .i64 g.om, .int .i64 g.iu, .int .i64 g.it, .int .i64 g.iq, .int .i64 g.bu, .int .i64 g.ra] rfl (w1.heap.size) (St.get S_v1.out 4 rfl) rfl rfl rfl ?_))
  refine Calls.mono (CNw.out _) ?_; rintro e w2 ⟨b, v2, rfl, hT, hb2, hbb⟩
  have S_w2 : Hid (St [(w.heap.size, (cfl c), 28), (w.heap.size + 1, #[.int .i64 k0, .int .i64 k1, .int .i64 k2, .int .i64 k3, .int .i64 k4, .int .i64 k5, .int .i64 k6, .int .i64 k7, .int .i64 k8, .string m0, .string m1, .string m2], 30), (w.heap.size + 1 + 1, #[.int .i64 l0, .int .i64 l1, .int .i64 l2, .int .i64 l3, .int .i64 l4, .int .i64 l5, .int .i64 l6, .int .i64 l7, .int .i64 l8, .string n0, .string n1, .string n2], 30), (w.heap.size + 1 + 1 + 1, (ntl n), 56), (w1.heap.size, (cfl g), 28)] w w2) := St.next S_v1.out hb2
  generalize (Value.agg #[.int .i64 g.ia, .int .i64 g.oa, .int .i64 g.lo, .int .i64 g.hi, .int .i64 g.cp, .int .i64 g.im, .int .i64 g.om, .int .i64 g.iu, .int .i64 g.it, .int .i64 g.iq, .int .i64 g.bu, .int .i64 g.ra]) = B6
  clear S_v1
  have hz_w2 : w1.heap.size < w2.heap.size := St.lt S_w2.out (x := (w1.heap.size, (cfl g), 28)) (by simp)
  clear hb2
  have HT : Hid _ := hT
  have hbs : v1.heap.size ≤ b := hbb
  have hbw : b < w2.heap.size := HT.out.lt
  have HO2 : Hid (∀ o, v2.ownBlock = some o → o < w2.heap.size) := fun o e => (HT.out.row.lt o e).2
  clear hT hbb CNw
  go_upto_region 5 with fail
  try go_frame
  obtain ⟨SX, hSX⟩ : ∃ SX : World → Prop, ∀ w', Sof SX w' ↔ St [(w.heap.size, (cfl c), 28), (w.heap.size + 1, #[.int .i64 k0, .int .i64 k1, .int .i64 k2, .int .i64 k3, .int .i64 k4, .int .i64 k5, .int .i64 k6, .int .i64 k7, .int .i64 k8, .string m0, .string m1, .string m2], 30), (w.heap.size + 1 + 1, #[.int .i64 l0, .int .i64 l1, .int .i64 l2, .int .i64 l3, .int .i64 l4, .int .i64 l5, .int .i64 l6, .int .i64 l7, .int .i64 l8, .string n0, .string n1, .string n2], 30), (w.heap.size + 1 + 1 + 1, (ntl n), 56), (w1.heap.size, (cfl g), 28)] w w' := ⟨_, fun _ => Iff.rfl⟩
  have HSX : Hid _ := hSX
  clear hSX
  have ss : Hid (Sof SX w2.drew) := (HSX.out _).2 (St.drew S_w2.out)
  have TD : Hid _ := Tb.drew HT.out
  go_cut [12] (fun pv wx => ∃ K a, pv = .pointer (some ⟨K, 0, none⟩) ∧ R a ∧ w2.heap.size ≤ K ∧ St [(w.heap.size, (cfl c), 28), (w.heap.size + 1, #[.int .i64 k0, .int .i64 k1, .int .i64 k2, .int .i64 k3, .int .i64 k4, .int .i64 k5, .int .i64 k6, .int .i64 k7, .int .i64 k8, .string m0, .string m1, .string m2], 30), (w.heap.size + 1 + 1, #[.int .i64 l0, .int .i64 l1, .int .i64 l2, .int .i64 l3, .int .i64 l4, .int .i64 l5, .int .i64 l6, .int .i64 l7, .int .i64 l8, .string n0, .string n1, .string n2], 30), (w.heap.size + 1 + 1 + 1, (ntl n), 56), (w1.heap.size, (cfl g), 28), (K, (dgl a), 33)] w wx ∧ Bat wx v1.heap.size b g g.bu 0 v2 [])
  case first =>
    refine wp_region_held_drew (S := fun w' => Sof SX w') (by kernel_rfl) ss.out (fun hHeld => ?_)
    refine takeL (i := 0) (v := .agg #[.int .i64 l0, .int .i64 l1, .int .i64 l2, .int .i64 l3, .int .i64 l4, .int .i64 l5, .int .i64 l6, .int .i64 l7, .int .i64 l8, .string n0, .string n1, .string n2]) rfl (by kernel_rfl) (by kernel_rfl) (by kernel_rfl) (fun _ _ _ h => h) (yields_pk (by rfl) rfl (w.heap.size + 1 + 1) rfl [.int .i64 l0, .int .i64 l1, .int .i64 l2, .int .i64 l3, .int .i64 l4, .int .i64 l5, .int .i64 l6, .int .i64 l7, .int .i64 l8, .string n0, .string n1, .string n2] rfl (fun w' h => ⟨30, show w'.heap[w.heap.size + 1 + 1]? = some (.cells #[.int .i64 l0, .int .i64 l1, .int .i64 l2, .int .i64 l3, .int .i64 l4, .int .i64 l5, .int .i64 l6, .int .i64 l7, .int .i64 l8, .string n0, .string n1, .string n2] 30 (0, 0)) from St.get ((HSX.out w').1 h) 2 rfl⟩)) (by assumption) ?_
    try go_frame
    refine takeL (i := 1) (v := .agg #[.int .i64 g.ia, .int .i64 g.oa, .int .i64 g.lo, .int .i64 g.hi, .int .i64 g.cp, .int .i64 g.im, .int .i64 g.om, .int .i64 g.iu, .int .i64 g.it, .int .i64 g.iq, .int .i64 g.bu, .int .i64 g.ra]) rfl (by kernel_rfl) (by kernel_rfl) (by kernel_rfl) (fun _ _ _ h => h) (yields_cf (by rfl) rfl (w1.heap.size) rfl [.int .i64 g.ia, .int .i64 g.oa, .int .i64 g.lo, .int .i64 g.hi, .int .i64 g.cp, .int .i64 g.im, .int .i64 g.om, .int .i64 g.iu, .int .i64 g.it, .int .i64 g.iq, .int .i64 g.bu, .int .i64 g.ra] rfl (fun w' h => ⟨28, show w'.heap[w1.heap.size]? = some (.cells #[.int .i64 g.ia, .int .i64 g.oa, .int .i64 g.lo, .int .i64 g.hi, .int .i64 g.cp, .int .i64 g.im, .int .i64 g.om, .int .i64 g.iu, .int .i64 g.it, .int .i64 g.iq, .int .i64 g.bu, .int .i64 g.ra] 28 (0, 0)) from St.get ((HSX.out w').1 h) 4 rfl⟩)) (by assumption) ?_
    try go_frame
    refine takeL (i := 2) (v := .pointer (some ⟨w.heap.size + 1 + 1, 4, none⟩)) rfl (by kernel_rfl) (by kernel_rfl) (by kernel_rfl) (fun _ _ _ h => h) (Or.inl ⟨by rfl, fun w' hSw => by first | rfl | go_simp⟩) (by assumption) ?_
    try go_frame
    refine takeL (i := 3) (v := .int .i64 l4) rfl (by kernel_rfl) (by kernel_rfl) (by kernel_rfl) (fun _ _ _ h => h) (yields_in (by rfl) rfl rfl (fun w' h => St.at 2 4 rfl rfl w' ((HSX.out w').1 h))) (by assumption) ?_
    try go_frame
    refine twoL (i := 4) (j := 6) (by kernel_rfl) rfl rfl (by rfl) (by rfl) (fun K hK => ?_) (fun K hK => ?_)
    ·
      go_simp
      go_wp2_with (first | (go_at_call 18; refine Calls.mono (cW.at _) ?_; rintro e w' ⟨rfl, hw⟩; replace hw := hw.symm; subst hw))
      refine hK.out _ _ ?_ (fun hHeld => ?_)
      · exact ss.out
      clear hK
      clear K
      try go_frame
      refine twoL (i := 5) (j := 6) (by kernel_rfl) rfl rfl (by rfl) (by rfl) (fun K hK => ?_) (fun K hK => ?_)
      ·
        go_simp
        go_wp2_with (first | (go_at_call 20; refine Calls.mono (CF.out _) ?_; rintro e wx ⟨a, rfl, hR, hbx⟩; have hkx : Sof SX wx := (HSX.out _).2 (St.next ((HSX.out _).1 ss.out) hbx); have TX : Hid _ := Tb.below TD.out hbx))
        refine hK.out _ _ ?_ (fun hHeld => ?_)
        · exact hkx
        clear hK
        clear K
        try go_frame
        have hsx : w2.heap.size ≤ wx.heap.size := hbx.size
        clear hbx
        refine callL (i := 6) (by kernel_rfl) rfl (by rfl) (fun K hK => ?_)
        refine alloc_dg rfl ?_
        have hkwa : Sof SX (wx.alloc (.cells (dgl dg0) 33)) := (HSX.out _).2 (St.next ((HSX.out _).1 hkx) ((Below.refl _ _).alloc (Nat.le_refl _) _))
        have Twa : Hid _ := Tb.below TX.out ((Below.refl _ _).alloc (Nat.le_refl _) (.cells (dgl dg0) 33))
        have hzwa : Hid _ := alloc1 wx (.cells (dgl dg0) 33)
        have hlwa : Hid (wx.heap.size < (wx.alloc (.cells (dgl dg0) 33)).heap.size) := by show _ < _; simp
        generalize wx.alloc (.cells (dgl dg0) 33) = wa at hkwa Twa hzwa hlwa ⊢
        refine hK.out _ _ ?_ (fun hHeld => ?_)
        · exact hkwa
        clear hK
        clear K
        try go_frame
        refine callL (i := 7) (by kernel_rfl) rfl (by rfl) (fun K hK => ?_)
        refine store_dg rfl (wx.heap.size) rfl [.int .i64 a.pr, .int .i64 a.kd, .bool a.ba, .int .i64 a.sa, .int .i64 a.sp, .int .i64 a.da, .int .i64 a.dp, .int .i64 a.tl, .int .i64 a.bi, .int .i64 a.sr, .string a.op, .string a.md, .string a.tx, .string a.ta] rfl rfl hzwa.out rfl (by simp [Value.oneCell']) ?_
        have Sf : Hid _ := St.fill ((HSX.out _).1 hkwa) hzwa.out [.int .i64 a.pr, .int .i64 a.kd, .bool a.ba, .int .i64 a.sa, .int .i64 a.sp, .int .i64 a.da, .int .i64 a.dp, .int .i64 a.tl, .int .i64 a.bi, .int .i64 a.sr, .string a.op, .string a.md, .string a.tx, .string a.ta] rfl (Nat.le_trans (St.below ((HSX.out _).1 ss.out)).size hsx) (St.ne ((HSX.out _).1 ss.out) hsx)
        have Tf : Hid _ := Tb.fill (wx.heap.size) (Nat.ne_of_lt (Nat.lt_of_lt_of_le hbw hsx)) (fun o e => Nat.ne_of_lt (Nat.lt_of_lt_of_le (HO2.out o e) hsx)) [.int .i64 a.pr, .int .i64 a.kd, .bool a.ba, .int .i64 a.sa, .int .i64 a.sp, .int .i64 a.da, .int .i64 a.dp, .int .i64 a.tl, .int .i64 a.bi, .int .i64 a.sr, .string a.op, .string a.md, .string a.tx, .string a.ta] 0 _ Twa.out
        have hkf : Sof SX (wa.setCells (wx.heap.size) 0 [.int .i64 a.pr, .int .i64 a.kd, .bool a.ba, .int .i64 a.sa, .int .i64 a.sp, .int .i64 a.da, .int .i64 a.dp, .int .i64 a.tl, .int .i64 a.bi, .int .i64 a.sr, .string a.op, .string a.md, .string a.tx, .string a.ta]) := (HSX.out _).2 (St.fore Sf.out)
        generalize wa.setCells (wx.heap.size) 0 [.int .i64 a.pr, .int .i64 a.kd, .bool a.ba, .int .i64 a.sa, .int .i64 a.sp, .int .i64 a.da, .int .i64 a.dp, .int .i64 a.tl, .int .i64 a.bi, .int .i64 a.sr, .string a.op, .string a.md, .string a.tx, .string a.ta] = wf at Sf Tf hkf ⊢
        refine hK.out _ _ ?_ (fun hHeld => ?_)
        · exact hkf
        clear hK
        clear K
        try go_frame
        refine wpAnyH_done (by kernel_rfl) ?_ _
        go_wp2_with fail
        go_meet
        exact ⟨_, a, rfl, hR, hsx, Sf.out, Tf.out⟩
      ·
        refine alloc_dg rfl ?_
        have hkwa : Sof SX (w2.drew.alloc (.cells (dgl dg0) 33)) := (HSX.out _).2 (St.next ((HSX.out _).1 ss.out) ((Below.refl _ _).alloc (Nat.le_refl _) _))
        have Twa : Hid _ := Tb.below TD.out ((Below.refl _ _).alloc (Nat.le_refl _) (.cells (dgl dg0) 33))
        have hzwa : Hid _ := alloc1 w2.drew (.cells (dgl dg0) 33)
        have hlwa : Hid (w2.drew.heap.size < (w2.drew.alloc (.cells (dgl dg0) 33)).heap.size) := by show _ < _; simp
        generalize w2.drew.alloc (.cells (dgl dg0) 33) = wa at hkwa Twa hzwa hlwa ⊢
        refine hK.out _ _ ?_ (fun hHeld => ?_)
        · exact hkwa
        clear hK
        clear K
        try go_frame
        refine callL (i := 5) (by kernel_rfl) rfl (by rfl) (fun K hK => ?_)
        go_simp
        go_wp2_with (first | (go_at_call 20; refine Calls.mono (CF.out _) ?_; rintro e wx ⟨a, rfl, hR, hbx⟩; have hkx : Sof SX wx := (HSX.out _).2 (St.next ((HSX.out _).1 hkwa) hbx); have TX : Hid _ := Tb.below Twa.out hbx))
        refine hK.out _ _ ?_ (fun hHeld => ?_)
        · exact hkx
        clear hK
        clear K
        try go_frame
        have hzx : Hid _ := (hbx.block w2.drew.heap.size hlwa.out).trans hzwa.out
        clear hbx
        refine callL (i := 7) (by kernel_rfl) rfl (by rfl) (fun K hK => ?_)
        refine store_dg rfl (w2.drew.heap.size) rfl [.int .i64 a.pr, .int .i64 a.kd, .bool a.ba, .int .i64 a.sa, .int .i64 a.sp, .int .i64 a.da, .int .i64 a.dp, .int .i64 a.tl, .int .i64 a.bi, .int .i64 a.sr, .string a.op, .string a.md, .string a.tx, .string a.ta] rfl rfl hzx.out rfl (by simp [Value.oneCell']) ?_
        have Sf : Hid _ := St.fill ((HSX.out _).1 hkx) hzx.out [.int .i64 a.pr, .int .i64 a.kd, .bool a.ba, .int .i64 a.sa, .int .i64 a.sp, .int .i64 a.da, .int .i64 a.dp, .int .i64 a.tl, .int .i64 a.bi, .int .i64 a.sr, .string a.op, .string a.md, .string a.tx, .string a.ta] rfl (Nat.le_trans (St.below ((HSX.out _).1 ss.out)).size (Nat.le_refl w2.heap.size)) (St.ne ((HSX.out _).1 ss.out) (Nat.le_refl w2.heap.size))
        have Tf : Hid _ := Tb.fill (w2.drew.heap.size) (Nat.ne_of_lt (Nat.lt_of_lt_of_le hbw (Nat.le_refl w2.heap.size))) (fun o e => Nat.ne_of_lt (Nat.lt_of_lt_of_le (HO2.out o e) (Nat.le_refl w2.heap.size))) [.int .i64 a.pr, .int .i64 a.kd, .bool a.ba, .int .i64 a.sa, .int .i64 a.sp, .int .i64 a.da, .int .i64 a.dp, .int .i64 a.tl, .int .i64 a.bi, .int .i64 a.sr, .string a.op, .string a.md, .string a.tx, .string a.ta] 0 _ TX.out
        have hkf : Sof SX (wx.setCells (w2.drew.heap.size) 0 [.int .i64 a.pr, .int .i64 a.kd, .bool a.ba, .int .i64 a.sa, .int .i64 a.sp, .int .i64 a.da, .int .i64 a.dp, .int .i64 a.tl, .int .i64 a.bi, .int .i64 a.sr, .string a.op, .string a.md, .string a.tx, .string a.ta]) := (HSX.out _).2 (St.fore Sf.out)
        generalize wx.setCells (w2.drew.heap.size) 0 [.int .i64 a.pr, .int .i64 a.kd, .bool a.ba, .int .i64 a.sa, .int .i64 a.sp, .int .i64 a.da, .int .i64 a.dp, .int .i64 a.tl, .int .i64 a.bi, .int .i64 a.sr, .string a.op, .string a.md, .string a.tx, .string a.ta] = wf at Sf Tf hkf ⊢
        refine hK.out _ _ ?_ (fun hHeld => ?_)
        · exact hkf
        clear hK
        clear K
        try go_frame
        refine wpAnyH_done (by kernel_rfl) ?_ _
        go_wp2_with fail
        go_meet
        exact ⟨_, a, rfl, hR, (Nat.le_refl w2.heap.size), Sf.out, Tf.out⟩
    ·
      refine alloc_dg rfl ?_
      have hkwa : Sof SX (w2.drew.alloc (.cells (dgl dg0) 33)) := (HSX.out _).2 (St.next ((HSX.out _).1 ss.out) ((Below.refl _ _).alloc (Nat.le_refl _) _))
      have Twa : Hid _ := Tb.below TD.out ((Below.refl _ _).alloc (Nat.le_refl _) (.cells (dgl dg0) 33))
      have hzwa : Hid _ := alloc1 w2.drew (.cells (dgl dg0) 33)
      have hlwa : Hid (w2.drew.heap.size < (w2.drew.alloc (.cells (dgl dg0) 33)).heap.size) := by show _ < _; simp
      generalize w2.drew.alloc (.cells (dgl dg0) 33) = wa at hkwa Twa hzwa hlwa ⊢
      refine hK.out _ _ ?_ (fun hHeld => ?_)
      · exact hkwa
      clear hK
      clear K
      try go_frame
      refine callL (i := 4) (by kernel_rfl) rfl (by rfl) (fun K hK => ?_)
      go_simp
      go_wp2_with (first | (go_at_call 18; refine Calls.mono (cW.at _) ?_; rintro e w' ⟨rfl, hw⟩; replace hw := hw.symm; subst hw))
      refine hK.out _ _ ?_ (fun hHeld => ?_)
      · exact hkwa
      clear hK
      clear K
      try go_frame
      refine callL (i := 5) (by kernel_rfl) rfl (by rfl) (fun K hK => ?_)
      go_simp
      go_wp2_with (first | (go_at_call 20; refine Calls.mono (CF.out _) ?_; rintro e wx ⟨a, rfl, hR, hbx⟩; have hkx : Sof SX wx := (HSX.out _).2 (St.next ((HSX.out _).1 hkwa) hbx); have TX : Hid _ := Tb.below Twa.out hbx))
      refine hK.out _ _ ?_ (fun hHeld => ?_)
      · exact hkx
      clear hK
      clear K
      try go_frame
      have hzx : Hid _ := (hbx.block w2.drew.heap.size hlwa.out).trans hzwa.out
      clear hbx
      refine callL (i := 7) (by kernel_rfl) rfl (by rfl) (fun K hK => ?_)
      refine store_dg rfl (w2.drew.heap.size) rfl [.int .i64 a.pr, .int .i64 a.kd, .bool a.ba, .int .i64 a.sa, .int .i64 a.sp, .int .i64 a.da, .int .i64 a.dp, .int .i64 a.tl, .int .i64 a.bi, .int .i64 a.sr, .string a.op, .string a.md, .string a.tx, .string a.ta] rfl rfl hzx.out rfl (by simp [Value.oneCell']) ?_
      have Sf : Hid _ := St.fill ((HSX.out _).1 hkx) hzx.out [.int .i64 a.pr, .int .i64 a.kd, .bool a.ba, .int .i64 a.sa, .int .i64 a.sp, .int .i64 a.da, .int .i64 a.dp, .int .i64 a.tl, .int .i64 a.bi, .int .i64 a.sr, .string a.op, .string a.md, .string a.tx, .string a.ta] rfl (Nat.le_trans (St.below ((HSX.out _).1 ss.out)).size (Nat.le_refl w2.heap.size)) (St.ne ((HSX.out _).1 ss.out) (Nat.le_refl w2.heap.size))
      have Tf : Hid _ := Tb.fill (w2.drew.heap.size) (Nat.ne_of_lt (Nat.lt_of_lt_of_le hbw (Nat.le_refl w2.heap.size))) (fun o e => Nat.ne_of_lt (Nat.lt_of_lt_of_le (HO2.out o e) (Nat.le_refl w2.heap.size))) [.int .i64 a.pr, .int .i64 a.kd, .bool a.ba, .int .i64 a.sa, .int .i64 a.sp, .int .i64 a.da, .int .i64 a.dp, .int .i64 a.tl, .int .i64 a.bi, .int .i64 a.sr, .string a.op, .string a.md, .string a.tx, .string a.ta] 0 _ TX.out
      have hkf : Sof SX (wx.setCells (w2.drew.heap.size) 0 [.int .i64 a.pr, .int .i64 a.kd, .bool a.ba, .int .i64 a.sa, .int .i64 a.sp, .int .i64 a.da, .int .i64 a.dp, .int .i64 a.tl, .int .i64 a.bi, .int .i64 a.sr, .string a.op, .string a.md, .string a.tx, .string a.ta]) := (HSX.out _).2 (St.fore Sf.out)
      generalize wx.setCells (w2.drew.heap.size) 0 [.int .i64 a.pr, .int .i64 a.kd, .bool a.ba, .int .i64 a.sa, .int .i64 a.sp, .int .i64 a.da, .int .i64 a.dp, .int .i64 a.tl, .int .i64 a.bi, .int .i64 a.sr, .string a.op, .string a.md, .string a.tx, .string a.ta] = wf at Sf Tf hkf ⊢
      refine hK.out _ _ ?_ (fun hHeld => ?_)
      · exact hkf
      clear hK
      clear K
      try go_frame
      refine wpAnyH_done (by kernel_rfl) ?_ _
      go_wp2_with fail
      go_meet
      exact ⟨_, a, rfl, hR, (Nat.le_refl w2.heap.size), Sf.out, Tf.out⟩
  case rest =>
    obtain ⟨KA, a, rfl, hR, hKA, hst0, htb0⟩ := hcut
    obtain ⟨w3, hw3⟩ : ∃ w3 : World, w3 = wc := ⟨_, rfl⟩
    subst hw3
    have S_w3 : Hid (St [(w.heap.size, (cfl c), 28), (w.heap.size + 1, #[.int .i64 k0, .int .i64 k1, .int .i64 k2, .int .i64 k3, .int .i64 k4, .int .i64 k5, .int .i64 k6, .int .i64 k7, .int .i64 k8, .string m0, .string m1, .string m2], 30), (w.heap.size + 1 + 1, #[.int .i64 l0, .int .i64 l1, .int .i64 l2, .int .i64 l3, .int .i64 l4, .int .i64 l5, .int .i64 l6, .int .i64 l7, .int .i64 l8, .string n0, .string n1, .string n2], 30), (w.heap.size + 1 + 1 + 1, (ntl n), 56), (w1.heap.size, (cfl g), 28), (KA, (dgl a), 33)] w w3) := hst0
    clear S_w2
    clear HT
    have HT : Hid (Bat w3 v1.heap.size b g g.bu 0 v2 []) := htb0
    clear htb0 hst0 HSX ss TD CF
    have hz_w3 : KA < w3.heap.size := St.lt S_w3.out (x := (KA, (dgl a), 33)) (by simp)
    obtain ⟨iA, cA⟩ := CA.out a hR
    have HR : Hid _ := hR
    have CA1 : Hid _ := cA
    have CB1 : Hid _ := fun d => CB.out a d hR
    clear CA CB cA hR
    generalize kfr a = XA at iA CA1 CB1
    go_wp2_with (first | (refine pull_dg [.int .i64 a.pr, .int .i64 a.kd, .bool a.ba, .int .i64 a.sa, .int .i64 a.sp, .int .i64 a.da, .int .i64 a.dp, .int .i64 a.tl, .int .i64 a.bi, .int .i64 a.sr, .string a.op, .string a.md, .string a.tx, .string a.ta] rfl (KA) (St.get S_w3.out 5 rfl) rfl rfl rfl ?_))
    refine Calls.mono (iA.at _) ?_; rintro e w4 ⟨rfl, hb4⟩
    have S_w4 : Hid (St [(w.heap.size, (cfl c), 28), (w.heap.size + 1, #[.int .i64 k0, .int .i64 k1, .int .i64 k2, .int .i64 k3, .int .i64 k4, .int .i64 k5, .int .i64 k6, .int .i64 k7, .int .i64 k8, .string m0, .string m1, .string m2], 30), (w.heap.size + 1 + 1, #[.int .i64 l0, .int .i64 l1, .int .i64 l2, .int .i64 l3, .int .i64 l4, .int .i64 l5, .int .i64 l6, .int .i64 l7, .int .i64 l8, .string n0, .string n1, .string n2], 30), (w.heap.size + 1 + 1 + 1, (ntl n), 56), (w1.heap.size, (cfl g), 28), (KA, (dgl a), 33)] w w4) := St.next S_w3.out hb4
    have HT_w4 : Hid _ := Tb.below HT.out hb4
    clear HT
    have HT : Hid _ := HT_w4.out
    clear HT_w4
    generalize (Value.agg #[.int .i64 a.pr, .int .i64 a.kd, .bool a.ba, .int .i64 a.sa, .int .i64 a.sp, .int .i64 a.da, .int .i64 a.dp, .int .i64 a.tl, .int .i64 a.bi, .int .i64 a.sr, .string a.op, .string a.md, .string a.tx, .string a.ta]) = B7
    clear S_w3
    clear hb4
    clear iA
    go_wp2_with fail
    refine Calls.mono (CA1.out _ _ b _ HT.out) ?_; rintro e w5 ⟨rfl, hb5⟩
    have S_w5 : Hid (St [(w.heap.size, (cfl c), 28), (w.heap.size + 1, #[.int .i64 k0, .int .i64 k1, .int .i64 k2, .int .i64 k3, .int .i64 k4, .int .i64 k5, .int .i64 k6, .int .i64 k7, .int .i64 k8, .string m0, .string m1, .string m2], 30), (w.heap.size + 1 + 1, #[.int .i64 l0, .int .i64 l1, .int .i64 l2, .int .i64 l3, .int .i64 l4, .int .i64 l5, .int .i64 l6, .int .i64 l7, .int .i64 l8, .string n0, .string n1, .string n2], 30), (w.heap.size + 1 + 1 + 1, (ntl n), 56), (w1.heap.size, (cfl g), 28), (KA, (dgl a), 33)] w w5) := St.next S_w4.out hb5
    have HT_w5 : Hid _ := Tb.below HT.out hb5
    clear HT
    have HT : Hid _ := HT_w5.out
    clear HT_w5
    clear S_w4
    clear hb5
    clear CA1
    go_wp2_with fail
    refine Calls.mono (CL.out _ _ b _ HT.out) ?_; rintro e w' ⟨rfl, hw⟩; replace hw := hw.symm; subst hw
    clear CL
    have q_g6 : w5.cell? ⟨w1.heap.size, 6, none⟩ = some (.int .i64 g.om) := St.at 4 6 rfl rfl _ S_w5.out
    go_wp2_with (first | (refine pull_pk [.int .i64 k0, .int .i64 k1, .int .i64 k2, .int .i64 k3, .int .i64 k4, .int .i64 k5, .int .i64 k6, .int .i64 k7, .int .i64 k8, .string m0, .string m1, .string m2] rfl (w.heap.size + 1) (St.get S_w5.out 1 rfl) rfl rfl rfl ?_) | (refine pull_cf [.int .i64 g.ia, .int .i64 g.oa, .int .i64 g.lo, .int .i64 g.hi, .int .i64 g.cp, .int .i64 g.im, .int .i64 g.om, .int .i64 g.iu, .int .i64 g.it, .int .i64 g.iq, .int .i64 g.bu, .int .i64 g.ra] rfl (w1.heap.size) (St.get S_w5.out 4 rfl) rfl rfl rfl ?_))
    refine Calls.mono (CS.out _) ?_; rintro e w6 ⟨d, rfl, hP, hb6⟩
    have S_w6 : Hid (St [(w.heap.size, (cfl c), 28), (w.heap.size + 1, #[.int .i64 k0, .int .i64 k1, .int .i64 k2, .int .i64 k3, .int .i64 k4, .int .i64 k5, .int .i64 k6, .int .i64 k7, .int .i64 k8, .string m0, .string m1, .string m2], 30), (w.heap.size + 1 + 1, #[.int .i64 l0, .int .i64 l1, .int .i64 l2, .int .i64 l3, .int .i64 l4, .int .i64 l5, .int .i64 l6, .int .i64 l7, .int .i64 l8, .string n0, .string n1, .string n2], 30), (w.heap.size + 1 + 1 + 1, (ntl n), 56), (w1.heap.size, (cfl g), 28), (KA, (dgl a), 33)] w w6) := St.next S_w5.out hb6
    have HT_w6 : Hid _ := Tb.below HT.out hb6
    clear HT
    have HT : Hid _ := HT_w6.out
    clear HT_w6
    clear q_g6
    generalize (Value.agg #[.int .i64 k0, .int .i64 k1, .int .i64 k2, .int .i64 k3, .int .i64 k4, .int .i64 k5, .int .i64 k6, .int .i64 k7, .int .i64 k8, .string m0, .string m1, .string m2]) = B8
    generalize (Value.agg #[.int .i64 g.ia, .int .i64 g.oa, .int .i64 g.lo, .int .i64 g.hi, .int .i64 g.cp, .int .i64 g.im, .int .i64 g.om, .int .i64 g.iu, .int .i64 g.it, .int .i64 g.iq, .int .i64 g.bu, .int .i64 g.ra]) = B9
    clear S_w5
    have hz_w6 : KA < w6.heap.size := St.lt S_w6.out (x := (KA, (dgl a), 33)) (by simp)
    clear hb6
    have hbl_d : b < w6.heap.size := HT.out.lt
    have HO_d : Hid (∀ o, v2.ownBlock = some o → o < w6.heap.size) := fun o e => (HT.out.row.lt o e).2
    rename_i KK hKK
    refine hKK _ _ ?_
    refine keep_dg [.int .i64 d.pr, .int .i64 d.kd, .bool d.ba, .int .i64 d.sa, .int .i64 d.sp, .int .i64 d.da, .int .i64 d.dp, .int .i64 d.tl, .int .i64 d.bi, .int .i64 d.sr, .string d.op, .string d.md, .string d.tx, .string d.ta] rfl rfl rfl rfl rfl (by simp [Value.oneCell']) (by simp [Act.eval, Act.put]) (by simp [Act.eval, Act.put]) ?_
    clear hKK
    clear KK
    have S_v6 : Hid (St [(w.heap.size, (cfl c), 28), (w.heap.size + 1, #[.int .i64 k0, .int .i64 k1, .int .i64 k2, .int .i64 k3, .int .i64 k4, .int .i64 k5, .int .i64 k6, .int .i64 k7, .int .i64 k8, .string m0, .string m1, .string m2], 30), (w.heap.size + 1 + 1, #[.int .i64 l0, .int .i64 l1, .int .i64 l2, .int .i64 l3, .int .i64 l4, .int .i64 l5, .int .i64 l6, .int .i64 l7, .int .i64 l8, .string n0, .string n1, .string n2], 30), (w.heap.size + 1 + 1 + 1, (ntl n), 56), (w1.heap.size, (cfl g), 28), (KA, (dgl a), 33), (w6.heap.size, (dgl d), 33)] w (w6.alloc (.cells #[.int .i64 d.pr, .int .i64 d.kd, .bool d.ba, .int .i64 d.sa, .int .i64 d.sp, .int .i64 d.da, .int .i64 d.dp, .int .i64 d.tl, .int .i64 d.bi, .int .i64 d.sr, .string d.op, .string d.md, .string d.tx, .string d.ta] 33))) := St.alloc S_w6.out (dgl d) 33 (w6.heap.size) rfl
    have HT_v6 : Hid _ := Tb.below HT.out ((Below.refl _ _).alloc (Nat.le_refl _) (.cells #[.int .i64 d.pr, .int .i64 d.kd, .bool d.ba, .int .i64 d.sa, .int .i64 d.sp, .int .i64 d.da, .int .i64 d.dp, .int .i64 d.tl, .int .i64 d.bi, .int .i64 d.sr, .string d.op, .string d.md, .string d.tx, .string d.ta] 33))
    have hs_v6 : w6.heap.size < (w6.alloc (.cells #[.int .i64 d.pr, .int .i64 d.kd, .bool d.ba, .int .i64 d.sa, .int .i64 d.sp, .int .i64 d.da, .int .i64 d.dp, .int .i64 d.tl, .int .i64 d.bi, .int .i64 d.sr, .string d.op, .string d.md, .string d.tx, .string d.ta] 33)).heap.size := by simp
    generalize w6.alloc (.cells #[.int .i64 d.pr, .int .i64 d.kd, .bool d.ba, .int .i64 d.sa, .int .i64 d.sp, .int .i64 d.da, .int .i64 d.dp, .int .i64 d.tl, .int .i64 d.bi, .int .i64 d.sr, .string d.op, .string d.md, .string d.tx, .string d.ta] 33) = v6 at S_v6 hs_v6 HT_v6 ⊢
    clear S_w6
    clear HT
    have HT : Hid _ := HT_v6.out
    clear HT_v6
    clear hs_v6
    obtain ⟨ext, id, mp, cG, cU, i1, i2, cP1, cH1, cH2, cN, cJ, cHo⟩ := CB1.out d hP
    have CP0 : Hid _ := cP1
    have CH1 : Hid _ := cH1
    have CH2 : Hid _ := cH2
    have CN : Hid _ := cN
    have CHo : Hid _ := cHo
    clear CS CB1 cP1 cH1 cH2 cN cHo hP
    have CP1 : Hid (∀ wx, Bat wx v1.heap.size b g g.bu 0 v2 [] → Calls Tryz.prog 22 #[.pointer (some ⟨b, 0, none⟩), .int .i64 0, .string (kfr d), .int .i64 1, .string (kfr { d with sa := g.oa, sp := ext, tl := d.tl - 1 })] wx fun e w' => e = .returned (.bool true) ∧ ∃ v', BL wx w' v1.heap.size b g v2 v' g.bu 0 [mp]) := fun wx => CP0.out wx _ b _
    clear CP0
    generalize kfr d = XD at i1 CP1
    generalize kfr { d with sa := g.oa, sp := ext, tl := d.tl - 1 } = XO at i2 CP1
    have q_d4 : v6.cell? ⟨w6.heap.size, 4, none⟩ = some (.int .i64 d.sp) := St.at 6 4 rfl rfl _ S_v6.out
    go_wp2_with (first | (refine pull_cf [.int .i64 g.ia, .int .i64 g.oa, .int .i64 g.lo, .int .i64 g.hi, .int .i64 g.cp, .int .i64 g.im, .int .i64 g.om, .int .i64 g.iu, .int .i64 g.it, .int .i64 g.iq, .int .i64 g.bu, .int .i64 g.ra] rfl (w1.heap.size) (St.get S_v6.out 4 rfl) rfl rfl rfl ?_))
    refine Calls.mono (cG.at _) ?_; rintro e w7 ⟨rfl, hb7⟩
    have S_w7 : Hid (St [(w.heap.size, (cfl c), 28), (w.heap.size + 1, #[.int .i64 k0, .int .i64 k1, .int .i64 k2, .int .i64 k3, .int .i64 k4, .int .i64 k5, .int .i64 k6, .int .i64 k7, .int .i64 k8, .string m0, .string m1, .string m2], 30), (w.heap.size + 1 + 1, #[.int .i64 l0, .int .i64 l1, .int .i64 l2, .int .i64 l3, .int .i64 l4, .int .i64 l5, .int .i64 l6, .int .i64 l7, .int .i64 l8, .string n0, .string n1, .string n2], 30), (w.heap.size + 1 + 1 + 1, (ntl n), 56), (w1.heap.size, (cfl g), 28), (KA, (dgl a), 33), (w6.heap.size, (dgl d), 33)] w w7) := St.next S_v6.out hb7
    have HT_w7 : Hid _ := Tb.below HT.out hb7
    clear HT
    have HT : Hid _ := HT_w7.out
    clear HT_w7
    clear q_d4
    generalize (Value.agg #[.int .i64 g.ia, .int .i64 g.oa, .int .i64 g.lo, .int .i64 g.hi, .int .i64 g.cp, .int .i64 g.im, .int .i64 g.om, .int .i64 g.iu, .int .i64 g.it, .int .i64 g.iq, .int .i64 g.bu, .int .i64 g.ra]) = B10
    clear S_v6
    have hz_w7 : w6.heap.size < w7.heap.size := St.lt S_w7.out (x := (w6.heap.size, (dgl d), 33)) (by simp)
    clear hb7
    clear cG
    go_wp2_with (first | (refine pull_dg [.int .i64 d.pr, .int .i64 d.kd, .bool d.ba, .int .i64 d.sa, .int .i64 d.sp, .int .i64 d.da, .int .i64 d.dp, .int .i64 d.tl, .int .i64 d.bi, .int .i64 d.sr, .string d.op, .string d.md, .string d.tx, .string d.ta] rfl (w6.heap.size) (St.get S_w7.out 6 rfl) rfl rfl rfl ?_) | (refine pull_cf [.int .i64 g.ia, .int .i64 g.oa, .int .i64 g.lo, .int .i64 g.hi, .int .i64 g.cp, .int .i64 g.im, .int .i64 g.om, .int .i64 g.iu, .int .i64 g.it, .int .i64 g.iq, .int .i64 g.bu, .int .i64 g.ra] rfl (w1.heap.size) (St.get S_w7.out 4 rfl) rfl rfl rfl ?_))
    refine Calls.mono (cU.at _) ?_; rintro e w8 ⟨rfl, hb8⟩
    have S_w8 : Hid (St [(w.heap.size, (cfl c), 28), (w.heap.size + 1, #[.int .i64 k0, .int .i64 k1, .int .i64 k2, .int .i64 k3, .int .i64 k4, .int .i64 k5, .int .i64 k6, .int .i64 k7, .int .i64 k8, .string m0, .string m1, .string m2], 30), (w.heap.size + 1 + 1, #[.int .i64 l0, .int .i64 l1, .int .i64 l2, .int .i64 l3, .int .i64 l4, .int .i64 l5, .int .i64 l6, .int .i64 l7, .int .i64 l8, .string n0, .string n1, .string n2], 30), (w.heap.size + 1 + 1 + 1, (ntl n), 56), (w1.heap.size, (cfl g), 28), (KA, (dgl a), 33), (w6.heap.size, (dgl d), 33)] w w8) := St.next S_w7.out hb8
    have HT_w8 : Hid _ := Tb.below HT.out hb8
    clear HT
    have HT : Hid _ := HT_w8.out
    clear HT_w8
    generalize (Value.agg #[.int .i64 d.pr, .int .i64 d.kd, .bool d.ba, .int .i64 d.sa, .int .i64 d.sp, .int .i64 d.da, .int .i64 d.dp, .int .i64 d.tl, .int .i64 d.bi, .int .i64 d.sr, .string d.op, .string d.md, .string d.tx, .string d.ta]) = B11
    generalize (Value.agg #[.int .i64 g.ia, .int .i64 g.oa, .int .i64 g.lo, .int .i64 g.hi, .int .i64 g.cp, .int .i64 g.im, .int .i64 g.om, .int .i64 g.iu, .int .i64 g.it, .int .i64 g.iq, .int .i64 g.bu, .int .i64 g.ra]) = B12
    clear S_w7
    have hz_w8 : w6.heap.size < w8.heap.size := St.lt S_w8.out (x := (w6.heap.size, (dgl d), 33)) (by simp)
    clear hb8
    have hbl_o : b < w8.heap.size := HT.out.lt
    have HO_o : Hid (∀ o, v2.ownBlock = some o → o < w8.heap.size) := fun o e => (HT.out.row.lt o e).2
    rename_i KK hKK
    refine hKK _ _ ?_
    refine keep_dg [.int .i64 d.pr, .int .i64 d.kd, .bool d.ba, .int .i64 g.oa, .int .i64 ext, .int .i64 d.da, .int .i64 d.dp, .int .i64 (d.tl - 1), .int .i64 d.bi, .int .i64 d.sr, .string d.op, .string d.md, .string d.tx, .string d.ta] rfl rfl rfl rfl rfl (by simp [Value.oneCell']) (by simp [Act.eval, Act.put]) (by simp [Act.eval, Act.put]) ?_
    clear hKK
    clear KK
    have S_v8 : Hid (St [(w.heap.size, (cfl c), 28), (w.heap.size + 1, #[.int .i64 k0, .int .i64 k1, .int .i64 k2, .int .i64 k3, .int .i64 k4, .int .i64 k5, .int .i64 k6, .int .i64 k7, .int .i64 k8, .string m0, .string m1, .string m2], 30), (w.heap.size + 1 + 1, #[.int .i64 l0, .int .i64 l1, .int .i64 l2, .int .i64 l3, .int .i64 l4, .int .i64 l5, .int .i64 l6, .int .i64 l7, .int .i64 l8, .string n0, .string n1, .string n2], 30), (w.heap.size + 1 + 1 + 1, (ntl n), 56), (w1.heap.size, (cfl g), 28), (KA, (dgl a), 33), (w6.heap.size, (dgl d), 33), (w8.heap.size, (dgl { d with sa := g.oa, sp := ext, tl := d.tl - 1 }), 33)] w (w8.alloc (.cells #[.int .i64 d.pr, .int .i64 d.kd, .bool d.ba, .int .i64 g.oa, .int .i64 ext, .int .i64 d.da, .int .i64 d.dp, .int .i64 (d.tl - 1), .int .i64 d.bi, .int .i64 d.sr, .string d.op, .string d.md, .string d.tx, .string d.ta] 33))) := St.alloc S_w8.out (dgl { d with sa := g.oa, sp := ext, tl := d.tl - 1 }) 33 (w8.heap.size) rfl
    have HT_v8 : Hid _ := Tb.below HT.out ((Below.refl _ _).alloc (Nat.le_refl _) (.cells #[.int .i64 d.pr, .int .i64 d.kd, .bool d.ba, .int .i64 g.oa, .int .i64 ext, .int .i64 d.da, .int .i64 d.dp, .int .i64 (d.tl - 1), .int .i64 d.bi, .int .i64 d.sr, .string d.op, .string d.md, .string d.tx, .string d.ta] 33))
    have hs_v8 : w8.heap.size < (w8.alloc (.cells #[.int .i64 d.pr, .int .i64 d.kd, .bool d.ba, .int .i64 g.oa, .int .i64 ext, .int .i64 d.da, .int .i64 d.dp, .int .i64 (d.tl - 1), .int .i64 d.bi, .int .i64 d.sr, .string d.op, .string d.md, .string d.tx, .string d.ta] 33)).heap.size := by simp
    generalize w8.alloc (.cells #[.int .i64 d.pr, .int .i64 d.kd, .bool d.ba, .int .i64 g.oa, .int .i64 ext, .int .i64 d.da, .int .i64 d.dp, .int .i64 (d.tl - 1), .int .i64 d.bi, .int .i64 d.sr, .string d.op, .string d.md, .string d.tx, .string d.ta] 33) = v8 at S_v8 hs_v8 HT_v8 ⊢
    clear S_w8
    clear HT
    have HT : Hid _ := HT_v8.out
    clear HT_v8
    clear hs_v8
    clear cU
    have hz_v8 : w8.heap.size < v8.heap.size := St.lt S_v8.out (x := (w8.heap.size, (dgl { d with sa := g.oa, sp := ext, tl := d.tl - 1 }), 33)) (by simp)
    go_upto_region 13 with fail
    try go_frame
    obtain ⟨SX, hSX⟩ : ∃ SX : World → Prop, ∀ w', Sof SX w' ↔ St [(w.heap.size, (cfl c), 28), (w.heap.size + 1, #[.int .i64 k0, .int .i64 k1, .int .i64 k2, .int .i64 k3, .int .i64 k4, .int .i64 k5, .int .i64 k6, .int .i64 k7, .int .i64 k8, .string m0, .string m1, .string m2], 30), (w.heap.size + 1 + 1, #[.int .i64 l0, .int .i64 l1, .int .i64 l2, .int .i64 l3, .int .i64 l4, .int .i64 l5, .int .i64 l6, .int .i64 l7, .int .i64 l8, .string n0, .string n1, .string n2], 30), (w.heap.size + 1 + 1 + 1, (ntl n), 56), (w1.heap.size, (cfl g), 28), (KA, (dgl a), 33), (w6.heap.size, (dgl d), 33), (w8.heap.size, (dgl { d with sa := g.oa, sp := ext, tl := d.tl - 1 }), 33)] w w' := ⟨_, fun _ => Iff.rfl⟩
    have HSX : Hid _ := hSX
    clear hSX
    have ss : Hid (Sof SX v8.drew) := (HSX.out _).2 (St.drew S_v8.out)
    have TD : Hid _ := Tb.drew HT.out
    go_cut [14] (fun ov wx => ov = .bool true ∧ St [(w.heap.size, (cfl c), 28), (w.heap.size + 1, #[.int .i64 k0, .int .i64 k1, .int .i64 k2, .int .i64 k3, .int .i64 k4, .int .i64 k5, .int .i64 k6, .int .i64 k7, .int .i64 k8, .string m0, .string m1, .string m2], 30), (w.heap.size + 1 + 1, #[.int .i64 l0, .int .i64 l1, .int .i64 l2, .int .i64 l3, .int .i64 l4, .int .i64 l5, .int .i64 l6, .int .i64 l7, .int .i64 l8, .string n0, .string n1, .string n2], 30), (w.heap.size + 1 + 1 + 1, (ntl n), 56), (w1.heap.size, (cfl g), 28), (KA, (dgl a), 33), (w6.heap.size, (dgl d), 33), (w8.heap.size, (dgl { d with sa := g.oa, sp := ext, tl := d.tl - 1 }), 33)] w wx ∧ ∃ v', Bat wx v1.heap.size b g g.bu 0 v' [mp] ∧ ∀ o, v'.ownBlock = some o → o < w2.heap.size ∨ v8.heap.size ≤ o)
    case first =>
      refine wp_region_held_drew (S := fun w' => Sof SX w') (by kernel_rfl) ss.out (fun hHeld => ?_)
      refine takeL (i := 1) (v := .agg #[.int .i64 d.pr, .int .i64 d.kd, .bool d.ba, .int .i64 d.sa, .int .i64 d.sp, .int .i64 d.da, .int .i64 d.dp, .int .i64 d.tl, .int .i64 d.bi, .int .i64 d.sr, .string d.op, .string d.md, .string d.tx, .string d.ta]) rfl (by kernel_rfl) (by kernel_rfl) (by kernel_rfl) (fun _ _ _ h => h) (yields_dg (by rfl) rfl (w6.heap.size) rfl [.int .i64 d.pr, .int .i64 d.kd, .bool d.ba, .int .i64 d.sa, .int .i64 d.sp, .int .i64 d.da, .int .i64 d.dp, .int .i64 d.tl, .int .i64 d.bi, .int .i64 d.sr, .string d.op, .string d.md, .string d.tx, .string d.ta] rfl (fun w' h => ⟨33, show w'.heap[w6.heap.size]? = some (.cells #[.int .i64 d.pr, .int .i64 d.kd, .bool d.ba, .int .i64 d.sa, .int .i64 d.sp, .int .i64 d.da, .int .i64 d.dp, .int .i64 d.tl, .int .i64 d.bi, .int .i64 d.sr, .string d.op, .string d.md, .string d.tx, .string d.ta] 33 (0, 0)) from St.get ((HSX.out w').1 h) 6 rfl⟩)) (by assumption) ?_
      try go_frame
      refine takeL (i := 3) (v := .agg #[.int .i64 d.pr, .int .i64 d.kd, .bool d.ba, .int .i64 g.oa, .int .i64 ext, .int .i64 d.da, .int .i64 d.dp, .int .i64 (d.tl - 1), .int .i64 d.bi, .int .i64 d.sr, .string d.op, .string d.md, .string d.tx, .string d.ta]) rfl (by kernel_rfl) (by kernel_rfl) (by kernel_rfl) (fun _ _ _ h => h) (yields_dg (by rfl) rfl (w8.heap.size) rfl [.int .i64 d.pr, .int .i64 d.kd, .bool d.ba, .int .i64 g.oa, .int .i64 ext, .int .i64 d.da, .int .i64 d.dp, .int .i64 (d.tl - 1), .int .i64 d.bi, .int .i64 d.sr, .string d.op, .string d.md, .string d.tx, .string d.ta] rfl (fun w' h => ⟨33, show w'.heap[w8.heap.size]? = some (.cells #[.int .i64 d.pr, .int .i64 d.kd, .bool d.ba, .int .i64 g.oa, .int .i64 ext, .int .i64 d.da, .int .i64 d.dp, .int .i64 (d.tl - 1), .int .i64 d.bi, .int .i64 d.sr, .string d.op, .string d.md, .string d.tx, .string d.ta] 33 (0, 0)) from St.get ((HSX.out w').1 h) 7 rfl⟩)) (by assumption) ?_
      try go_frame
      refine takeL (i := 0) (v := .pointer (some ⟨b, 0, none⟩)) rfl (by kernel_rfl) (by kernel_rfl) (by kernel_rfl) (fun _ _ _ h => h) (yields_mv (by rfl) (.inl rfl) rfl) (by assumption) ?_
      try go_frame
      refine callL (i := 2) (by kernel_rfl) rfl (by rfl) (fun K hK => ?_)
      go_simp
      go_wp2_with (first | (go_at_call 23; refine Calls.mono (i1.at _) ?_; rintro e wx ⟨rfl, hbx⟩; have hkx : Sof SX wx := (HSX.out _).2 (St.next ((HSX.out _).1 ss.out) hbx); have TX : Hid _ := Tb.below TD.out hbx))
      refine hK.out _ _ ?_ (fun hHeld => ?_)
      · exact hkx
      clear hK
      clear K
      try go_frame
      have hsx : v8.heap.size ≤ wx.heap.size := hbx.size
      clear hbx TD
      refine callL (i := 4) (by kernel_rfl) rfl (by rfl) (fun K hK => ?_)
      go_simp
      go_wp2_with (first | (go_at_call 23; refine Calls.mono (i2.at _) ?_; rintro e wy ⟨rfl, hby⟩; have hky : Sof SX wy := (HSX.out _).2 (St.next ((HSX.out _).1 hkx) hby); have TY : Hid _ := Tb.below TX.out hby))
      refine hK.out _ _ ?_ (fun hHeld => ?_)
      · exact hky
      clear hK
      clear K
      try go_frame
      have hsy : wx.heap.size ≤ wy.heap.size := hby.size
      clear hby TX
      refine callL (i := 5) (by kernel_rfl) rfl (by rfl) (fun K hK => ?_)
      go_simp
      go_wp2_with (first | (go_at_call 22; refine Calls.mono (CP1.out _ TY.out) ?_; rintro e wz ⟨rfl, vz, hbz⟩; have hkz : Sof SX wz := (HSX.out _).2 (St.bl ((HSX.out _).1 hky) TY.out hbs hbz (by omega) (hi := w2.heap.size) hbw HO2.out (by simp; omega)); have TZ : Hid _ := hbz.bat))
      refine hK.out _ _ ?_ (fun hHeld => ?_)
      · exact hkz
      clear hK
      clear K
      try go_frame
      refine takeL (i := 6) (v := .bool true) rfl (by kernel_rfl) (by kernel_rfl) (by kernel_rfl) (fun _ _ _ h => h) (yields_mv (by rfl) (.inr rfl) rfl) (by assumption) ?_
      try go_frame
      refine wpAnyH_done (by kernel_rfl) ?_ _
      go_wp2_with fail
      go_meet
      exact ⟨rfl, (HSX.out _).1 hkz, ⟨vz, TZ.out, fun o e => by rcases hbz.own o e with q | q; exact .inl (HO2.out o q.symm); exact .inr (by omega)⟩⟩
    case rest =>
      obtain ⟨rfl, hst0, htb0⟩ := hcut
      obtain ⟨w9, hw9⟩ : ∃ w9 : World, w9 = wc := ⟨_, rfl⟩
      subst hw9
      have S_w9 : Hid (St [(w.heap.size, (cfl c), 28), (w.heap.size + 1, #[.int .i64 k0, .int .i64 k1, .int .i64 k2, .int .i64 k3, .int .i64 k4, .int .i64 k5, .int .i64 k6, .int .i64 k7, .int .i64 k8, .string m0, .string m1, .string m2], 30), (w.heap.size + 1 + 1, #[.int .i64 l0, .int .i64 l1, .int .i64 l2, .int .i64 l3, .int .i64 l4, .int .i64 l5, .int .i64 l6, .int .i64 l7, .int .i64 l8, .string n0, .string n1, .string n2], 30), (w.heap.size + 1 + 1 + 1, (ntl n), 56), (w1.heap.size, (cfl g), 28), (KA, (dgl a), 33), (w6.heap.size, (dgl d), 33), (w8.heap.size, (dgl { d with sa := g.oa, sp := ext, tl := d.tl - 1 }), 33)] w w9) := hst0
      clear S_v8
      obtain ⟨v4, htb1, hown⟩ := htb0
      clear HT
      have HT : Hid (Bat w9 v1.heap.size b g g.bu 0 v4 [mp]) := htb1
      have HO4 : Hid (∀ o, v4.ownBlock = some o → o < w2.heap.size ∨ v8.heap.size ≤ o) := hown
      clear htb1 hown TD
      clear hst0 HSX ss CP1 i1 i2
      clear HO_d hbl_d HO_o hbl_o HO2
      have HO_o : Hid (∀ o, v4.ownBlock = some o → o < w2.heap.size ∨ v8.heap.size ≤ o) := HO4.out
      clear HO4
      have q_a0 : w9.cell? ⟨KA, 0, none⟩ = some (.int .i64 a.pr) := St.at 5 0 rfl rfl _ S_w9.out
      have q_d0 : w9.cell? ⟨w6.heap.size, 0, none⟩ = some (.int .i64 d.pr) := St.at 6 0 rfl rfl _ S_w9.out
      have q_a6 : w9.cell? ⟨KA, 6, none⟩ = some (.int .i64 a.dp) := St.at 5 6 rfl rfl _ S_w9.out
      go_upto_region 16 with fail
      try go_frame
      go_cut [82] (fun bv wx => bv = .bool (decide (a.pr = d.pr ∧ a.dp = ext)) ∧ wx = w9)
      case first =>
        cases e1 : (a.pr == d.pr)
        · have hd : Hid (decide (a.pr = d.pr ∧ a.dp = ext) = false) := by show _ = _; simp at e1; simp [e1]
          go_wp2_with fail
          go_meet
          exact ⟨by rw [hd.out], rfl⟩
        · cases e2 : (a.dp == ext)
          · have hd : Hid (decide (a.pr = d.pr ∧ a.dp = ext) = false) := by show _ = _; simp at e1 e2; simp [e2]
            go_wp2_with fail
            go_meet
            exact ⟨by rw [hd.out], rfl⟩
          · have hd : Hid (decide (a.pr = d.pr ∧ a.dp = ext) = true) := by show _ = _; simp at e1 e2; simp [e1, e2]
            go_wp2_with fail
            go_meet
            exact ⟨by rw [hd.out], rfl⟩
      case rest =>
        obtain ⟨rfl, hw⟩ := hcut
        replace hw := hw.symm; subst hw
        clear q_a0 q_d0 q_a6
        obtain ⟨bb, hbb⟩ : ∃ bb : Bool, decide (a.pr = d.pr ∧ a.dp = ext) = bb := ⟨_, rfl⟩
        rw [hbb] at CH1 CH2 ⊢
        clear hbb
        go_upto_if 82 with fail
        try go_frame
        go_cut [14] (fun ov wx => ov = .bool true ∧ St [(w.heap.size, (cfl c), 28), (w.heap.size + 1, #[.int .i64 k0, .int .i64 k1, .int .i64 k2, .int .i64 k3, .int .i64 k4, .int .i64 k5, .int .i64 k6, .int .i64 k7, .int .i64 k8, .string m0, .string m1, .string m2], 30), (w.heap.size + 1 + 1, #[.int .i64 l0, .int .i64 l1, .int .i64 l2, .int .i64 l3, .int .i64 l4, .int .i64 l5, .int .i64 l6, .int .i64 l7, .int .i64 l8, .string n0, .string n1, .string n2], 30), (w.heap.size + 1 + 1 + 1, (ntl n), 56), (w1.heap.size, (cfl g), 28), (KA, (dgl a), 33), (w6.heap.size, (dgl d), 33), (w8.heap.size, (dgl { d with sa := g.oa, sp := ext, tl := d.tl - 1 }), 33)] w wx ∧ Bat wx v1.heap.size b g g.bu 0 v4 [mp])
        case first =>
          cases bb
          ·
            have cZ := CH2.out rfl
            have CZ : Hid _ := cZ
            clear cZ CH1 CH2
            go_wp2_with fail
            refine Calls.mono (CZ.out _ _ b _ HT.out) ?_; rintro e w10 ⟨rfl, hb10⟩
            have S_w10 : Hid (St [(w.heap.size, (cfl c), 28), (w.heap.size + 1, #[.int .i64 k0, .int .i64 k1, .int .i64 k2, .int .i64 k3, .int .i64 k4, .int .i64 k5, .int .i64 k6, .int .i64 k7, .int .i64 k8, .string m0, .string m1, .string m2], 30), (w.heap.size + 1 + 1, #[.int .i64 l0, .int .i64 l1, .int .i64 l2, .int .i64 l3, .int .i64 l4, .int .i64 l5, .int .i64 l6, .int .i64 l7, .int .i64 l8, .string n0, .string n1, .string n2], 30), (w.heap.size + 1 + 1 + 1, (ntl n), 56), (w1.heap.size, (cfl g), 28), (KA, (dgl a), 33), (w6.heap.size, (dgl d), 33), (w8.heap.size, (dgl { d with sa := g.oa, sp := ext, tl := d.tl - 1 }), 33)] w w10) := St.next S_w9.out hb10
            have HT_w10 : Hid _ := Tb.below HT.out hb10
            clear HT
            have HT : Hid _ := HT_w10.out
            clear HT_w10
            clear S_w9
            clear hb10
            go_wp2_with fail
            go_meet
            exact ⟨rfl, S_w10.out, HT.out⟩
          ·
            obtain ⟨cI, XB, iB, cZ⟩ := CH1.out rfl
            have CZ : Hid _ := cZ
            clear cZ CH1 CH2
            have q_d3 : w9.cell? ⟨w6.heap.size, 3, none⟩ = some (.int .i64 d.sa) := St.at 6 3 rfl rfl _ S_w9.out
            have q_d4 : w9.cell? ⟨w6.heap.size, 4, none⟩ = some (.int .i64 d.sp) := St.at 6 4 rfl rfl _ S_w9.out
            go_wp2_with (first | (refine pull_dg [.int .i64 a.pr, .int .i64 a.kd, .bool a.ba, .int .i64 a.sa, .int .i64 a.sp, .int .i64 a.da, .int .i64 a.dp, .int .i64 a.tl, .int .i64 a.bi, .int .i64 a.sr, .string a.op, .string a.md, .string a.tx, .string a.ta] rfl (KA) (St.get S_w9.out 5 rfl) rfl rfl rfl ?_))
            refine Calls.mono (cI.at _) ?_; rintro e w11 ⟨rfl, hb11⟩
            have S_w11 : Hid (St [(w.heap.size, (cfl c), 28), (w.heap.size + 1, #[.int .i64 k0, .int .i64 k1, .int .i64 k2, .int .i64 k3, .int .i64 k4, .int .i64 k5, .int .i64 k6, .int .i64 k7, .int .i64 k8, .string m0, .string m1, .string m2], 30), (w.heap.size + 1 + 1, #[.int .i64 l0, .int .i64 l1, .int .i64 l2, .int .i64 l3, .int .i64 l4, .int .i64 l5, .int .i64 l6, .int .i64 l7, .int .i64 l8, .string n0, .string n1, .string n2], 30), (w.heap.size + 1 + 1 + 1, (ntl n), 56), (w1.heap.size, (cfl g), 28), (KA, (dgl a), 33), (w6.heap.size, (dgl d), 33), (w8.heap.size, (dgl { d with sa := g.oa, sp := ext, tl := d.tl - 1 }), 33)] w w11) := St.next S_w9.out hb11
            have HT_w11 : Hid _ := Tb.below HT.out hb11
            clear HT
            have HT : Hid _ := HT_w11.out
            clear HT_w11
            clear q_d3 q_d4
            generalize (Value.agg #[.int .i64 a.pr, .int .i64 a.kd, .bool a.ba, .int .i64 a.sa, .int .i64 a.sp, .int .i64 a.da, .int .i64 a.dp, .int .i64 a.tl, .int .i64 a.bi, .int .i64 a.sr, .string a.op, .string a.md, .string a.tx, .string a.ta]) = B13
            clear S_w9
            clear hb11
            have hbl_b : b < w11.heap.size := HT.out.lt
            have HO_b : Hid (∀ o, v4.ownBlock = some o → o < w11.heap.size) := fun o e => (HT.out.row.lt o e).2
            rename_i KK hKK
            refine hKK _ _ ?_
            refine keep_dg [.int .i64 a.pr, .int .i64 a.kd, .bool a.ba, .int .i64 a.sa, .int .i64 a.sp, .int .i64 d.sa, .int .i64 d.sp, .int .i64 (a.tl - 1), .int .i64 a.bi, .int .i64 a.sr, .string a.op, .string a.md, .string a.tx, .string a.ta] rfl rfl rfl rfl rfl (by simp [Value.oneCell']) (by simp [Act.eval, Act.put]) (by simp [Act.eval, Act.put]) ?_
            clear hKK
            clear KK
            have S_v11 : Hid (St [(w.heap.size, (cfl c), 28), (w.heap.size + 1, #[.int .i64 k0, .int .i64 k1, .int .i64 k2, .int .i64 k3, .int .i64 k4, .int .i64 k5, .int .i64 k6, .int .i64 k7, .int .i64 k8, .string m0, .string m1, .string m2], 30), (w.heap.size + 1 + 1, #[.int .i64 l0, .int .i64 l1, .int .i64 l2, .int .i64 l3, .int .i64 l4, .int .i64 l5, .int .i64 l6, .int .i64 l7, .int .i64 l8, .string n0, .string n1, .string n2], 30), (w.heap.size + 1 + 1 + 1, (ntl n), 56), (w1.heap.size, (cfl g), 28), (KA, (dgl a), 33), (w6.heap.size, (dgl d), 33), (w8.heap.size, (dgl { d with sa := g.oa, sp := ext, tl := d.tl - 1 }), 33), (w11.heap.size, (dgl { a with da := d.sa, dp := d.sp, tl := a.tl - 1 }), 33)] w (w11.alloc (.cells #[.int .i64 a.pr, .int .i64 a.kd, .bool a.ba, .int .i64 a.sa, .int .i64 a.sp, .int .i64 d.sa, .int .i64 d.sp, .int .i64 (a.tl - 1), .int .i64 a.bi, .int .i64 a.sr, .string a.op, .string a.md, .string a.tx, .string a.ta] 33))) := St.alloc S_w11.out (dgl { a with da := d.sa, dp := d.sp, tl := a.tl - 1 }) 33 (w11.heap.size) rfl
            have HT_v11 : Hid _ := Tb.below HT.out ((Below.refl _ _).alloc (Nat.le_refl _) (.cells #[.int .i64 a.pr, .int .i64 a.kd, .bool a.ba, .int .i64 a.sa, .int .i64 a.sp, .int .i64 d.sa, .int .i64 d.sp, .int .i64 (a.tl - 1), .int .i64 a.bi, .int .i64 a.sr, .string a.op, .string a.md, .string a.tx, .string a.ta] 33))
            have hs_v11 : w11.heap.size < (w11.alloc (.cells #[.int .i64 a.pr, .int .i64 a.kd, .bool a.ba, .int .i64 a.sa, .int .i64 a.sp, .int .i64 d.sa, .int .i64 d.sp, .int .i64 (a.tl - 1), .int .i64 a.bi, .int .i64 a.sr, .string a.op, .string a.md, .string a.tx, .string a.ta] 33)).heap.size := by simp
            generalize w11.alloc (.cells #[.int .i64 a.pr, .int .i64 a.kd, .bool a.ba, .int .i64 a.sa, .int .i64 a.sp, .int .i64 d.sa, .int .i64 d.sp, .int .i64 (a.tl - 1), .int .i64 a.bi, .int .i64 a.sr, .string a.op, .string a.md, .string a.tx, .string a.ta] 33) = v11 at S_v11 hs_v11 HT_v11 ⊢
            clear S_w11
            clear HT
            have HT : Hid _ := HT_v11.out
            clear HT_v11
            clear hs_v11
            go_wp2_with (first | (refine pull_dg [.int .i64 a.pr, .int .i64 a.kd, .bool a.ba, .int .i64 a.sa, .int .i64 a.sp, .int .i64 d.sa, .int .i64 d.sp, .int .i64 (a.tl - 1), .int .i64 a.bi, .int .i64 a.sr, .string a.op, .string a.md, .string a.tx, .string a.ta] rfl (w11.heap.size) (St.get S_v11.out 8 rfl) rfl rfl rfl ?_))
            refine Calls.mono (iB.at _) ?_; rintro e w12 ⟨rfl, hb12⟩
            have S_w12 : Hid (St [(w.heap.size, (cfl c), 28), (w.heap.size + 1, #[.int .i64 k0, .int .i64 k1, .int .i64 k2, .int .i64 k3, .int .i64 k4, .int .i64 k5, .int .i64 k6, .int .i64 k7, .int .i64 k8, .string m0, .string m1, .string m2], 30), (w.heap.size + 1 + 1, #[.int .i64 l0, .int .i64 l1, .int .i64 l2, .int .i64 l3, .int .i64 l4, .int .i64 l5, .int .i64 l6, .int .i64 l7, .int .i64 l8, .string n0, .string n1, .string n2], 30), (w.heap.size + 1 + 1 + 1, (ntl n), 56), (w1.heap.size, (cfl g), 28), (KA, (dgl a), 33), (w6.heap.size, (dgl d), 33), (w8.heap.size, (dgl { d with sa := g.oa, sp := ext, tl := d.tl - 1 }), 33), (w11.heap.size, (dgl { a with da := d.sa, dp := d.sp, tl := a.tl - 1 }), 33)] w w12) := St.next S_v11.out hb12
            have HT_w12 : Hid _ := Tb.below HT.out hb12
            clear HT
            have HT : Hid _ := HT_w12.out
            clear HT_w12
            generalize (Value.agg #[.int .i64 a.pr, .int .i64 a.kd, .bool a.ba, .int .i64 a.sa, .int .i64 a.sp, .int .i64 d.sa, .int .i64 d.sp, .int .i64 (a.tl - 1), .int .i64 a.bi, .int .i64 a.sr, .string a.op, .string a.md, .string a.tx, .string a.ta]) = B14
            clear S_v11
            clear hb12
            go_wp2_with fail
            refine Calls.mono (CZ.out _ _ b _ HT.out) ?_; rintro e w13 ⟨rfl, hb13⟩
            have S_w13 : Hid (St [(w.heap.size, (cfl c), 28), (w.heap.size + 1, #[.int .i64 k0, .int .i64 k1, .int .i64 k2, .int .i64 k3, .int .i64 k4, .int .i64 k5, .int .i64 k6, .int .i64 k7, .int .i64 k8, .string m0, .string m1, .string m2], 30), (w.heap.size + 1 + 1, #[.int .i64 l0, .int .i64 l1, .int .i64 l2, .int .i64 l3, .int .i64 l4, .int .i64 l5, .int .i64 l6, .int .i64 l7, .int .i64 l8, .string n0, .string n1, .string n2], 30), (w.heap.size + 1 + 1 + 1, (ntl n), 56), (w1.heap.size, (cfl g), 28), (KA, (dgl a), 33), (w6.heap.size, (dgl d), 33), (w8.heap.size, (dgl { d with sa := g.oa, sp := ext, tl := d.tl - 1 }), 33), (w11.heap.size, (dgl { a with da := d.sa, dp := d.sp, tl := a.tl - 1 }), 33)] w w13) := St.next S_w12.out hb13
            have HT_w13 : Hid _ := Tb.below HT.out hb13
            clear HT
            have HT : Hid _ := HT_w13.out
            clear HT_w13
            clear S_w12
            clear hb13
            go_wp2_with fail
            go_meet
            exact ⟨rfl, St.fore S_w13.out, HT.out⟩
        case rest =>
          obtain ⟨rfl, hst0, htb0⟩ := hcut
          obtain ⟨w14, hw14⟩ : ∃ w14 : World, w14 = wc := ⟨_, rfl⟩
          subst hw14
          have S_w14 : Hid (St [(w.heap.size, (cfl c), 28), (w.heap.size + 1, #[.int .i64 k0, .int .i64 k1, .int .i64 k2, .int .i64 k3, .int .i64 k4, .int .i64 k5, .int .i64 k6, .int .i64 k7, .int .i64 k8, .string m0, .string m1, .string m2], 30), (w.heap.size + 1 + 1, #[.int .i64 l0, .int .i64 l1, .int .i64 l2, .int .i64 l3, .int .i64 l4, .int .i64 l5, .int .i64 l6, .int .i64 l7, .int .i64 l8, .string n0, .string n1, .string n2], 30), (w.heap.size + 1 + 1 + 1, (ntl n), 56), (w1.heap.size, (cfl g), 28), (KA, (dgl a), 33), (w6.heap.size, (dgl d), 33), (w8.heap.size, (dgl { d with sa := g.oa, sp := ext, tl := d.tl - 1 }), 33)] w w14) := hst0
          clear S_w9
          clear HT
          have HT : Hid _ := htb0
          clear htb0 hst0 CH1 CH2 bb
          have q_q3 : w14.cell? ⟨w.heap.size + 1 + 1, 3, none⟩ = some (.int .i64 l3) := St.at 2 3 rfl rfl _ S_w14.out
          go_wp2_with (first | (refine pull_cf [.int .i64 g.ia, .int .i64 g.oa, .int .i64 g.lo, .int .i64 g.hi, .int .i64 g.cp, .int .i64 g.im, .int .i64 g.om, .int .i64 g.iu, .int .i64 g.it, .int .i64 g.iq, .int .i64 g.bu, .int .i64 g.ra] rfl (w1.heap.size) (St.get S_w14.out 4 rfl) rfl rfl rfl ?_))
          refine Calls.mono (RetB.at CO.out _) ?_; rintro e w15 ⟨rfl, hb15⟩
          have S_w15 : Hid (St [(w.heap.size, (cfl c), 28), (w.heap.size + 1, #[.int .i64 k0, .int .i64 k1, .int .i64 k2, .int .i64 k3, .int .i64 k4, .int .i64 k5, .int .i64 k6, .int .i64 k7, .int .i64 k8, .string m0, .string m1, .string m2], 30), (w.heap.size + 1 + 1, #[.int .i64 l0, .int .i64 l1, .int .i64 l2, .int .i64 l3, .int .i64 l4, .int .i64 l5, .int .i64 l6, .int .i64 l7, .int .i64 l8, .string n0, .string n1, .string n2], 30), (w.heap.size + 1 + 1 + 1, (ntl n), 56), (w1.heap.size, (cfl g), 28), (KA, (dgl a), 33), (w6.heap.size, (dgl d), 33), (w8.heap.size, (dgl { d with sa := g.oa, sp := ext, tl := d.tl - 1 }), 33)] w w15) := St.next S_w14.out hb15
          have HT_w15 : Hid _ := Tb.below HT.out hb15
          clear HT
          have HT : Hid _ := HT_w15.out
          clear HT_w15
          clear q_q3
          generalize (Value.agg #[.int .i64 g.ia, .int .i64 g.oa, .int .i64 g.lo, .int .i64 g.hi, .int .i64 g.cp, .int .i64 g.im, .int .i64 g.om, .int .i64 g.iu, .int .i64 g.it, .int .i64 g.iq, .int .i64 g.bu, .int .i64 g.ra]) = B15
          clear S_w14
          clear hb15
          clear CO
          have fz := St.frz 7 rfl S_w15.out
          have q_o5 : w15.cell? ⟨w8.heap.size, 5, none⟩ = some (.int .i64 d.da) := St.at 7 5 rfl rfl _ S_w15.out
          go_upto_region 21 with fail
          have S_u16 : Hid (St [(w.heap.size, (cfl c), 28), (w.heap.size + 1, #[.int .i64 k0, .int .i64 k1, .int .i64 k2, .int .i64 k3, .int .i64 k4, .int .i64 k5, .int .i64 k6, .int .i64 k7, .int .i64 k8, .string m0, .string m1, .string m2], 30), (w.heap.size + 1 + 1, #[.int .i64 l0, .int .i64 l1, .int .i64 l2, .int .i64 l3, .int .i64 l4, .int .i64 l5, .int .i64 l6, .int .i64 l7, .int .i64 l8, .string n0, .string n1, .string n2], 30), (w.heap.size + 1 + 1 + 1, (ntl n), 56), (w1.heap.size, (cfl g), 28), (KA, (dgl a), 33), (w6.heap.size, (dgl d), 33), (w8.heap.size, #[.int .i64 d.pr, .int .i64 d.kd, .bool d.ba, .int .i64 g.oa, .int .i64 ext, .int .i64 od, .int .i64 d.dp, .int .i64 (d.tl - 1), .int .i64 d.bi, .int .i64 d.sr, .string d.op, .string d.md, .string d.tx, .string d.ta], 33)] w (w15.setCell ⟨w8.heap.size, 5, none⟩ (.int .i64 od))) := St.setAt (L1 := [(w.heap.size, (cfl c), 28), (w.heap.size + 1, #[.int .i64 k0, .int .i64 k1, .int .i64 k2, .int .i64 k3, .int .i64 k4, .int .i64 k5, .int .i64 k6, .int .i64 k7, .int .i64 k8, .string m0, .string m1, .string m2], 30), (w.heap.size + 1 + 1, #[.int .i64 l0, .int .i64 l1, .int .i64 l2, .int .i64 l3, .int .i64 l4, .int .i64 l5, .int .i64 l6, .int .i64 l7, .int .i64 l8, .string n0, .string n1, .string n2], 30), (w.heap.size + 1 + 1 + 1, (ntl n), 56), (w1.heap.size, (cfl g), 28), (KA, (dgl a), 33), (w6.heap.size, (dgl d), 33)]) (L2 := []) S_w15.out (by omega) (by simp; omega) 5 (.int .i64 od)
          have T_u16 : Hid _ := Tb.other3 HT.out (p := ⟨w8.heap.size, 5, none⟩) (by show b ≠ w8.heap.size; omega) (fun o e => by have := HO_o.out o e; show o ≠ w8.heap.size; omega) (.int .i64 od)
          generalize w15.setCell ⟨w8.heap.size, 5, none⟩ (.int .i64 od) = u16 at S_u16 T_u16 ⊢
          clear S_w15 fz q_o5
          clear HT
          have HT : Hid _ := T_u16.out
          clear T_u16
          have q_q4 : u16.cell? ⟨w.heap.size + 1 + 1, 4, none⟩ = some (.int .i64 l4) := St.at 2 4 rfl rfl _ S_u16.out
          go_wp2_with fail
          refine Calls.mono (cW.at _) ?_; rintro e w' ⟨rfl, hw⟩; replace hw := hw.symm; subst hw
          clear q_q4
          have fz := St.frz 7 rfl S_u16.out
          have q_o6 : u16.cell? ⟨w8.heap.size, 6, none⟩ = some (.int .i64 d.dp) := St.at 7 6 rfl rfl _ S_u16.out
          go_upto_region 22 with fail
          have S_u17 : Hid (St [(w.heap.size, (cfl c), 28), (w.heap.size + 1, #[.int .i64 k0, .int .i64 k1, .int .i64 k2, .int .i64 k3, .int .i64 k4, .int .i64 k5, .int .i64 k6, .int .i64 k7, .int .i64 k8, .string m0, .string m1, .string m2], 30), (w.heap.size + 1 + 1, #[.int .i64 l0, .int .i64 l1, .int .i64 l2, .int .i64 l3, .int .i64 l4, .int .i64 l5, .int .i64 l6, .int .i64 l7, .int .i64 l8, .string n0, .string n1, .string n2], 30), (w.heap.size + 1 + 1 + 1, (ntl n), 56), (w1.heap.size, (cfl g), 28), (KA, (dgl a), 33), (w6.heap.size, (dgl d), 33), (w8.heap.size, #[.int .i64 d.pr, .int .i64 d.kd, .bool d.ba, .int .i64 g.oa, .int .i64 ext, .int .i64 od, .int .i64 qp, .int .i64 (d.tl - 1), .int .i64 d.bi, .int .i64 d.sr, .string d.op, .string d.md, .string d.tx, .string d.ta], 33)] w (u16.setCell ⟨w8.heap.size, 6, none⟩ (.int .i64 qp))) := St.setAt (L1 := [(w.heap.size, (cfl c), 28), (w.heap.size + 1, #[.int .i64 k0, .int .i64 k1, .int .i64 k2, .int .i64 k3, .int .i64 k4, .int .i64 k5, .int .i64 k6, .int .i64 k7, .int .i64 k8, .string m0, .string m1, .string m2], 30), (w.heap.size + 1 + 1, #[.int .i64 l0, .int .i64 l1, .int .i64 l2, .int .i64 l3, .int .i64 l4, .int .i64 l5, .int .i64 l6, .int .i64 l7, .int .i64 l8, .string n0, .string n1, .string n2], 30), (w.heap.size + 1 + 1 + 1, (ntl n), 56), (w1.heap.size, (cfl g), 28), (KA, (dgl a), 33), (w6.heap.size, (dgl d), 33)]) (L2 := []) S_u16.out (by omega) (by simp; omega) 6 (.int .i64 qp)
          have T_u17 : Hid _ := Tb.other3 HT.out (p := ⟨w8.heap.size, 6, none⟩) (by show b ≠ w8.heap.size; omega) (fun o e => by have := HO_o.out o e; show o ≠ w8.heap.size; omega) (.int .i64 qp)
          generalize u16.setCell ⟨w8.heap.size, 6, none⟩ (.int .i64 qp) = u17 at S_u17 T_u17 ⊢
          clear S_u16 fz q_o6
          clear HT
          have HT : Hid _ := T_u17.out
          clear T_u17
          clear cW
          have q_o5 : u17.cell? ⟨w8.heap.size, 5, none⟩ = some (.int .i64 od) := St.at 7 5 rfl rfl _ S_u17.out
          have q_d5 : u17.cell? ⟨w6.heap.size, 5, none⟩ = some (.int .i64 d.da) := St.at 6 5 rfl rfl _ S_u17.out
          have q_o6 : u17.cell? ⟨w8.heap.size, 6, none⟩ = some (.int .i64 qp) := St.at 7 6 rfl rfl _ S_u17.out
          have q_d6 : u17.cell? ⟨w6.heap.size, 6, none⟩ = some (.int .i64 d.dp) := St.at 6 6 rfl rfl _ S_u17.out
          have q_d0 : u17.cell? ⟨w6.heap.size, 0, none⟩ = some (.int .i64 d.pr) := St.at 6 0 rfl rfl _ S_u17.out
          go_upto_region 22 with fail
          try go_frame
          go_cut [125] (fun bv wx => bv = .bool (decide (¬ od = d.da ∨ (¬ qp = d.dp ∧ ¬ d.pr = 1))) ∧ wx = u17)
          case first =>
            cases e1 : (od != d.da)
            · cases e2 : (qp != d.dp)
              · have hd : Hid (decide (¬ od = d.da ∨ (¬ qp = d.dp ∧ ¬ d.pr = 1)) = false) := by show _ = _; simp at e1 e2; simp [e1, e2]
                go_wp2_with fail
                go_meet
                exact ⟨by rw [hd.out], rfl⟩
              · cases e3 : (d.pr != 1)
                · have hd : Hid (decide (¬ od = d.da ∨ (¬ qp = d.dp ∧ ¬ d.pr = 1)) = false) := by show _ = _; simp at e1 e2 e3; simp [e1, e3]
                  go_wp2_with fail
                  go_meet
                  exact ⟨by rw [hd.out], rfl⟩
                · have hd : Hid (decide (¬ od = d.da ∨ (¬ qp = d.dp ∧ ¬ d.pr = 1)) = true) := by show _ = _; simp at e1 e2 e3; simp [e2, e3]
                  go_wp2_with fail
                  go_meet
                  exact ⟨by rw [hd.out], rfl⟩
            · have hd : Hid (decide (¬ od = d.da ∨ (¬ qp = d.dp ∧ ¬ d.pr = 1)) = true) := by show _ = _; simp at e1; simp [e1]
              go_wp2_with fail
              go_meet
              exact ⟨by rw [hd.out], rfl⟩
          case rest =>
            obtain ⟨rfl, hw⟩ := hcut
            replace hw := hw.symm; subst hw
            clear q_o5 q_d5 q_o6 q_d6 q_d0
            obtain ⟨bb, hbb⟩ : ∃ bb : Bool, decide (¬ od = d.da ∨ (¬ qp = d.dp ∧ ¬ d.pr = 1)) = bb := ⟨_, rfl⟩
            rw [hbb] at CN ⊢
            clear hbb
            go_upto_if 125 with fail
            try go_frame
            go_cut [14] (fun ov wx => ov = .bool true ∧ St [(w.heap.size, (cfl c), 28), (w.heap.size + 1, #[.int .i64 k0, .int .i64 k1, .int .i64 k2, .int .i64 k3, .int .i64 k4, .int .i64 k5, .int .i64 k6, .int .i64 k7, .int .i64 k8, .string m0, .string m1, .string m2], 30), (w.heap.size + 1 + 1, #[.int .i64 l0, .int .i64 l1, .int .i64 l2, .int .i64 l3, .int .i64 l4, .int .i64 l5, .int .i64 l6, .int .i64 l7, .int .i64 l8, .string n0, .string n1, .string n2], 30), (w.heap.size + 1 + 1 + 1, (ntl n), 56), (w1.heap.size, (cfl g), 28), (KA, (dgl a), 33), (w6.heap.size, (dgl d), 33), (w8.heap.size, #[.int .i64 d.pr, .int .i64 d.kd, .bool d.ba, .int .i64 g.oa, .int .i64 ext, .int .i64 od, .int .i64 qp, .int .i64 (d.tl - 1), .int .i64 d.bi, .int .i64 d.sr, .string d.op, .string d.md, .string d.tx, .string d.ta], 33)] w wx ∧ Bat wx v1.heap.size b g g.bu 0 v4 [mp])
            case first =>
              cases bb
              ·
                go_wp2_with fail
                go_meet
                exact ⟨rfl, S_u17.out, HT.out⟩
              ·
                have cN := CN.out rfl
                have CN1 : Hid _ := cN
                clear cN CN
                have q_g1 : u17.cell? ⟨w1.heap.size, 1, none⟩ = some (.int .i64 g.oa) := St.at 4 1 rfl rfl _ S_u17.out
                have q_g5 : u17.cell? ⟨w1.heap.size, 5, none⟩ = some (.int .i64 g.im) := St.at 4 5 rfl rfl _ S_u17.out
                go_wp2_with (first | (refine pull_nt [.int .i64 n.sr, .int .i64 n.ty, .int .i64 n.co, .int .i64 n.le, .int .i64 n.se, .int .i64 n.tl, .int .i64 n.op, .int .i64 n.bi, .string n.re, .string n.ta] rfl (w.heap.size + 1 + 1 + 1) (St.get S_u17.out 3 rfl) rfl rfl rfl ?_) | (refine pull_cf [.int .i64 g.ia, .int .i64 g.oa, .int .i64 g.lo, .int .i64 g.hi, .int .i64 g.cp, .int .i64 g.im, .int .i64 g.om, .int .i64 g.iu, .int .i64 g.it, .int .i64 g.iq, .int .i64 g.bu, .int .i64 g.ra] rfl (w1.heap.size) (St.get S_u17.out 4 rfl) rfl rfl rfl ?_) | (refine pull_dg [.int .i64 d.pr, .int .i64 d.kd, .bool d.ba, .int .i64 g.oa, .int .i64 ext, .int .i64 od, .int .i64 qp, .int .i64 (d.tl - 1), .int .i64 d.bi, .int .i64 d.sr, .string d.op, .string d.md, .string d.tx, .string d.ta] rfl (w8.heap.size) (St.get S_u17.out 7 rfl) rfl rfl rfl ?_))
                refine Calls.mono (CN1.out _) ?_; rintro e w18 ⟨m, rfl, hb18, XX, jX, cZ⟩
                have S_w18 : Hid (St [(w.heap.size, (cfl c), 28), (w.heap.size + 1, #[.int .i64 k0, .int .i64 k1, .int .i64 k2, .int .i64 k3, .int .i64 k4, .int .i64 k5, .int .i64 k6, .int .i64 k7, .int .i64 k8, .string m0, .string m1, .string m2], 30), (w.heap.size + 1 + 1, #[.int .i64 l0, .int .i64 l1, .int .i64 l2, .int .i64 l3, .int .i64 l4, .int .i64 l5, .int .i64 l6, .int .i64 l7, .int .i64 l8, .string n0, .string n1, .string n2], 30), (w.heap.size + 1 + 1 + 1, (ntl n), 56), (w1.heap.size, (cfl g), 28), (KA, (dgl a), 33), (w6.heap.size, (dgl d), 33), (w8.heap.size, #[.int .i64 d.pr, .int .i64 d.kd, .bool d.ba, .int .i64 g.oa, .int .i64 ext, .int .i64 od, .int .i64 qp, .int .i64 (d.tl - 1), .int .i64 d.bi, .int .i64 d.sr, .string d.op, .string d.md, .string d.tx, .string d.ta], 33)] w w18) := St.next S_u17.out hb18
                have HT_w18 : Hid _ := Tb.below HT.out hb18
                clear HT
                have HT : Hid _ := HT_w18.out
                clear HT_w18
                clear q_g1 q_g5
                generalize (Value.agg #[.int .i64 n.sr, .int .i64 n.ty, .int .i64 n.co, .int .i64 n.le, .int .i64 n.se, .int .i64 n.tl, .int .i64 n.op, .int .i64 n.bi, .string n.re, .string n.ta]) = B16
                generalize (Value.agg #[.int .i64 g.ia, .int .i64 g.oa, .int .i64 g.lo, .int .i64 g.hi, .int .i64 g.cp, .int .i64 g.im, .int .i64 g.om, .int .i64 g.iu, .int .i64 g.it, .int .i64 g.iq, .int .i64 g.bu, .int .i64 g.ra]) = B17
                generalize (Value.agg #[.int .i64 d.pr, .int .i64 d.kd, .bool d.ba, .int .i64 g.oa, .int .i64 ext, .int .i64 od, .int .i64 qp, .int .i64 (d.tl - 1), .int .i64 d.bi, .int .i64 d.sr, .string d.op, .string d.md, .string d.tx, .string d.ta]) = B18
                clear S_u17
                clear hb18
                have hbl_m : b < w18.heap.size := HT.out.lt
                have HO_m : Hid (∀ o, v4.ownBlock = some o → o < w18.heap.size) := fun o e => (HT.out.row.lt o e).2
                rename_i KK hKK
                refine hKK _ _ ?_
                refine keep_lt [.int .i64 m.d.pr, .int .i64 m.d.kd, .bool m.d.ba, .int .i64 m.d.sa, .int .i64 m.d.sp, .int .i64 m.d.da, .int .i64 m.d.dp, .int .i64 m.d.tl, .int .i64 m.d.bi, .int .i64 m.d.sr, .string m.d.op, .string m.d.md, .string m.d.tx, .string m.d.ta, .int .i64 m.ki, .int .i64 m.co, .string m.re, .string m.qu] rfl rfl rfl rfl rfl (by simp [Value.oneCell']) (by simp [Act.eval, Act.put]) (by simp [Act.eval, Act.put]) ?_
                clear hKK
                clear KK
                have S_v18 : Hid (St [(w.heap.size, (cfl c), 28), (w.heap.size + 1, #[.int .i64 k0, .int .i64 k1, .int .i64 k2, .int .i64 k3, .int .i64 k4, .int .i64 k5, .int .i64 k6, .int .i64 k7, .int .i64 k8, .string m0, .string m1, .string m2], 30), (w.heap.size + 1 + 1, #[.int .i64 l0, .int .i64 l1, .int .i64 l2, .int .i64 l3, .int .i64 l4, .int .i64 l5, .int .i64 l6, .int .i64 l7, .int .i64 l8, .string n0, .string n1, .string n2], 30), (w.heap.size + 1 + 1 + 1, (ntl n), 56), (w1.heap.size, (cfl g), 28), (KA, (dgl a), 33), (w6.heap.size, (dgl d), 33), (w8.heap.size, #[.int .i64 d.pr, .int .i64 d.kd, .bool d.ba, .int .i64 g.oa, .int .i64 ext, .int .i64 od, .int .i64 qp, .int .i64 (d.tl - 1), .int .i64 d.bi, .int .i64 d.sr, .string d.op, .string d.md, .string d.tx, .string d.ta], 33), (w18.heap.size, (ltl m), 62)] w (w18.alloc (.cells #[.int .i64 m.d.pr, .int .i64 m.d.kd, .bool m.d.ba, .int .i64 m.d.sa, .int .i64 m.d.sp, .int .i64 m.d.da, .int .i64 m.d.dp, .int .i64 m.d.tl, .int .i64 m.d.bi, .int .i64 m.d.sr, .string m.d.op, .string m.d.md, .string m.d.tx, .string m.d.ta, .int .i64 m.ki, .int .i64 m.co, .string m.re, .string m.qu] 62))) := St.alloc S_w18.out (ltl m) 62 (w18.heap.size) rfl
                have HT_v18 : Hid _ := Tb.below HT.out ((Below.refl _ _).alloc (Nat.le_refl _) (.cells #[.int .i64 m.d.pr, .int .i64 m.d.kd, .bool m.d.ba, .int .i64 m.d.sa, .int .i64 m.d.sp, .int .i64 m.d.da, .int .i64 m.d.dp, .int .i64 m.d.tl, .int .i64 m.d.bi, .int .i64 m.d.sr, .string m.d.op, .string m.d.md, .string m.d.tx, .string m.d.ta, .int .i64 m.ki, .int .i64 m.co, .string m.re, .string m.qu] 62))
                have hs_v18 : w18.heap.size < (w18.alloc (.cells #[.int .i64 m.d.pr, .int .i64 m.d.kd, .bool m.d.ba, .int .i64 m.d.sa, .int .i64 m.d.sp, .int .i64 m.d.da, .int .i64 m.d.dp, .int .i64 m.d.tl, .int .i64 m.d.bi, .int .i64 m.d.sr, .string m.d.op, .string m.d.md, .string m.d.tx, .string m.d.ta, .int .i64 m.ki, .int .i64 m.co, .string m.re, .string m.qu] 62)).heap.size := by simp
                generalize w18.alloc (.cells #[.int .i64 m.d.pr, .int .i64 m.d.kd, .bool m.d.ba, .int .i64 m.d.sa, .int .i64 m.d.sp, .int .i64 m.d.da, .int .i64 m.d.dp, .int .i64 m.d.tl, .int .i64 m.d.bi, .int .i64 m.d.sr, .string m.d.op, .string m.d.md, .string m.d.tx, .string m.d.ta, .int .i64 m.ki, .int .i64 m.co, .string m.re, .string m.qu] 62) = v18 at S_v18 hs_v18 HT_v18 ⊢
                clear S_w18
                clear HT
                have HT : Hid _ := HT_v18.out
                clear HT_v18
                clear hs_v18
                have CZ : Hid _ := cZ
                clear cZ
                go_wp2_with (first | (refine pull_lt [.int .i64 m.d.pr, .int .i64 m.d.kd, .bool m.d.ba, .int .i64 m.d.sa, .int .i64 m.d.sp, .int .i64 m.d.da, .int .i64 m.d.dp, .int .i64 m.d.tl, .int .i64 m.d.bi, .int .i64 m.d.sr, .string m.d.op, .string m.d.md, .string m.d.tx, .string m.d.ta, .int .i64 m.ki, .int .i64 m.co, .string m.re, .string m.qu] rfl (w18.heap.size) (St.get S_v18.out 8 rfl) rfl rfl rfl ?_))
                refine Calls.mono (jX.at _) ?_; rintro e w19 ⟨rfl, hb19⟩
                have S_w19 : Hid (St [(w.heap.size, (cfl c), 28), (w.heap.size + 1, #[.int .i64 k0, .int .i64 k1, .int .i64 k2, .int .i64 k3, .int .i64 k4, .int .i64 k5, .int .i64 k6, .int .i64 k7, .int .i64 k8, .string m0, .string m1, .string m2], 30), (w.heap.size + 1 + 1, #[.int .i64 l0, .int .i64 l1, .int .i64 l2, .int .i64 l3, .int .i64 l4, .int .i64 l5, .int .i64 l6, .int .i64 l7, .int .i64 l8, .string n0, .string n1, .string n2], 30), (w.heap.size + 1 + 1 + 1, (ntl n), 56), (w1.heap.size, (cfl g), 28), (KA, (dgl a), 33), (w6.heap.size, (dgl d), 33), (w8.heap.size, #[.int .i64 d.pr, .int .i64 d.kd, .bool d.ba, .int .i64 g.oa, .int .i64 ext, .int .i64 od, .int .i64 qp, .int .i64 (d.tl - 1), .int .i64 d.bi, .int .i64 d.sr, .string d.op, .string d.md, .string d.tx, .string d.ta], 33), (w18.heap.size, (ltl m), 62)] w w19) := St.next S_v18.out hb19
                have HT_w19 : Hid _ := Tb.below HT.out hb19
                clear HT
                have HT : Hid _ := HT_w19.out
                clear HT_w19
                generalize (Value.agg #[.int .i64 m.d.pr, .int .i64 m.d.kd, .bool m.d.ba, .int .i64 m.d.sa, .int .i64 m.d.sp, .int .i64 m.d.da, .int .i64 m.d.dp, .int .i64 m.d.tl, .int .i64 m.d.bi, .int .i64 m.d.sr, .string m.d.op, .string m.d.md, .string m.d.tx, .string m.d.ta, .int .i64 m.ki, .int .i64 m.co, .string m.re, .string m.qu]) = B19
                clear S_v18
                clear hb19
                go_wp2_with fail
                refine Calls.mono (CZ.out _ _ b _ HT.out) ?_; rintro e w20 ⟨rfl, hb20⟩
                have S_w20 : Hid (St [(w.heap.size, (cfl c), 28), (w.heap.size + 1, #[.int .i64 k0, .int .i64 k1, .int .i64 k2, .int .i64 k3, .int .i64 k4, .int .i64 k5, .int .i64 k6, .int .i64 k7, .int .i64 k8, .string m0, .string m1, .string m2], 30), (w.heap.size + 1 + 1, #[.int .i64 l0, .int .i64 l1, .int .i64 l2, .int .i64 l3, .int .i64 l4, .int .i64 l5, .int .i64 l6, .int .i64 l7, .int .i64 l8, .string n0, .string n1, .string n2], 30), (w.heap.size + 1 + 1 + 1, (ntl n), 56), (w1.heap.size, (cfl g), 28), (KA, (dgl a), 33), (w6.heap.size, (dgl d), 33), (w8.heap.size, #[.int .i64 d.pr, .int .i64 d.kd, .bool d.ba, .int .i64 g.oa, .int .i64 ext, .int .i64 od, .int .i64 qp, .int .i64 (d.tl - 1), .int .i64 d.bi, .int .i64 d.sr, .string d.op, .string d.md, .string d.tx, .string d.ta], 33), (w18.heap.size, (ltl m), 62)] w w20) := St.next S_w19.out hb20
                have HT_w20 : Hid _ := Tb.below HT.out hb20
                clear HT
                have HT : Hid _ := HT_w20.out
                clear HT_w20
                clear S_w19
                clear hb20
                go_wp2_with fail
                go_meet
                exact ⟨rfl, St.fore S_w20.out, HT.out⟩
            case rest =>
              obtain ⟨rfl, hst0, htb0⟩ := hcut
              obtain ⟨w21, hw21⟩ : ∃ w21 : World, w21 = wc := ⟨_, rfl⟩
              subst hw21
              have S_w21 : Hid (St [(w.heap.size, (cfl c), 28), (w.heap.size + 1, #[.int .i64 k0, .int .i64 k1, .int .i64 k2, .int .i64 k3, .int .i64 k4, .int .i64 k5, .int .i64 k6, .int .i64 k7, .int .i64 k8, .string m0, .string m1, .string m2], 30), (w.heap.size + 1 + 1, #[.int .i64 l0, .int .i64 l1, .int .i64 l2, .int .i64 l3, .int .i64 l4, .int .i64 l5, .int .i64 l6, .int .i64 l7, .int .i64 l8, .string n0, .string n1, .string n2], 30), (w.heap.size + 1 + 1 + 1, (ntl n), 56), (w1.heap.size, (cfl g), 28), (KA, (dgl a), 33), (w6.heap.size, (dgl d), 33), (w8.heap.size, #[.int .i64 d.pr, .int .i64 d.kd, .bool d.ba, .int .i64 g.oa, .int .i64 ext, .int .i64 od, .int .i64 qp, .int .i64 (d.tl - 1), .int .i64 d.bi, .int .i64 d.sr, .string d.op, .string d.md, .string d.tx, .string d.ta], 33)] w w21) := hst0
              clear S_u17
              clear HT
              have HT : Hid _ := htb0
              clear htb0 hst0 CN bb
              have CH : Hid (∀ wx, Bat wx v1.heap.size b g g.bu 0 v4 [mp] → Calls Tryz.prog 15 #[.pointer (some ⟨b, 0, none⟩), .int .i64 0, .agg #[.int .i64 d.pr, .int .i64 d.kd, .bool d.ba, .int .i64 d.sa, .int .i64 d.sp, .int .i64 d.da, .int .i64 d.dp, .int .i64 d.tl, .int .i64 d.bi, .int .i64 d.sr, .string d.op, .string d.md, .string d.tx, .string d.ta], .int .i64 ext, .int .i64 id, .int .i64 1] wx fun e w' => e = .returned (.bool true) ∧ Below wx.heap.size wx w') := fun wx => CHo.out wx _ b _
              clear CHo
              go_upto_region 25 with fail
              try go_frame
              obtain ⟨SX, hSX⟩ : ∃ SX : World → Prop, ∀ w', Sof SX w' ↔ St [(w.heap.size, (cfl c), 28), (w.heap.size + 1, #[.int .i64 k0, .int .i64 k1, .int .i64 k2, .int .i64 k3, .int .i64 k4, .int .i64 k5, .int .i64 k6, .int .i64 k7, .int .i64 k8, .string m0, .string m1, .string m2], 30), (w.heap.size + 1 + 1, #[.int .i64 l0, .int .i64 l1, .int .i64 l2, .int .i64 l3, .int .i64 l4, .int .i64 l5, .int .i64 l6, .int .i64 l7, .int .i64 l8, .string n0, .string n1, .string n2], 30), (w.heap.size + 1 + 1 + 1, (ntl n), 56), (w1.heap.size, (cfl g), 28), (KA, (dgl a), 33), (w6.heap.size, (dgl d), 33), (w8.heap.size, #[.int .i64 d.pr, .int .i64 d.kd, .bool d.ba, .int .i64 g.oa, .int .i64 ext, .int .i64 od, .int .i64 qp, .int .i64 (d.tl - 1), .int .i64 d.bi, .int .i64 d.sr, .string d.op, .string d.md, .string d.tx, .string d.ta], 33)] w w' := ⟨_, fun _ => Iff.rfl⟩
              have HSX : Hid _ := hSX
              clear hSX
              have ss : Hid (Sof SX w21.drew) := (HSX.out _).2 (St.drew S_w21.out)
              have TD : Hid _ := Tb.drew HT.out
              refine wp_region_held_drew (S := fun w' => Sof SX w') (by kernel_rfl) ss.out (fun hHeld => ?_)
              refine takeL (i := 0) (v := .bool true) rfl (by kernel_rfl) (by kernel_rfl) (by kernel_rfl) (fun _ _ _ h => h) (yields_mv (by rfl) (.inl rfl) rfl) (by assumption) ?_
              try go_frame
              refine takeL (i := 1) (v := .bool true) rfl (by kernel_rfl) (by kernel_rfl) (by kernel_rfl) (fun _ _ _ h => h) (yields_mv (by rfl) (.inl rfl) rfl) (by assumption) ?_
              try go_frame
              refine takeL (i := 2) (v := .pointer (some ⟨b, 0, none⟩)) rfl (by kernel_rfl) (by kernel_rfl) (by kernel_rfl) (fun _ _ _ h => h) (yields_mv (by rfl) (.inl rfl) rfl) (by assumption) ?_
              try go_frame
              refine takeL (i := 3) (v := .agg #[.int .i64 d.pr, .int .i64 d.kd, .bool d.ba, .int .i64 d.sa, .int .i64 d.sp, .int .i64 d.da, .int .i64 d.dp, .int .i64 d.tl, .int .i64 d.bi, .int .i64 d.sr, .string d.op, .string d.md, .string d.tx, .string d.ta]) rfl (by kernel_rfl) (by kernel_rfl) (by kernel_rfl) (fun _ _ _ h => h) (yields_dg (by rfl) rfl (w6.heap.size) rfl [.int .i64 d.pr, .int .i64 d.kd, .bool d.ba, .int .i64 d.sa, .int .i64 d.sp, .int .i64 d.da, .int .i64 d.dp, .int .i64 d.tl, .int .i64 d.bi, .int .i64 d.sr, .string d.op, .string d.md, .string d.tx, .string d.ta] rfl (fun w' h => ⟨33, show w'.heap[w6.heap.size]? = some (.cells #[.int .i64 d.pr, .int .i64 d.kd, .bool d.ba, .int .i64 d.sa, .int .i64 d.sp, .int .i64 d.da, .int .i64 d.dp, .int .i64 d.tl, .int .i64 d.bi, .int .i64 d.sr, .string d.op, .string d.md, .string d.tx, .string d.ta] 33 (0, 0)) from St.get ((HSX.out w').1 h) 6 rfl⟩)) (by assumption) ?_
              try go_frame
              refine takeL (i := 4) (v := .int .i64 ext) rfl (by kernel_rfl) (by kernel_rfl) (by kernel_rfl) (fun _ _ _ h => h) (yields_mv (by rfl) (.inl rfl) rfl) (by assumption) ?_
              try go_frame
              refine takeL (i := 5) (v := .agg #[.int .i64 g.ia, .int .i64 g.oa, .int .i64 g.lo, .int .i64 g.hi, .int .i64 g.cp, .int .i64 g.im, .int .i64 g.om, .int .i64 g.iu, .int .i64 g.it, .int .i64 g.iq, .int .i64 g.bu, .int .i64 g.ra]) rfl (by kernel_rfl) (by kernel_rfl) (by kernel_rfl) (fun _ _ _ h => h) (yields_cf (by rfl) rfl (w1.heap.size) rfl [.int .i64 g.ia, .int .i64 g.oa, .int .i64 g.lo, .int .i64 g.hi, .int .i64 g.cp, .int .i64 g.im, .int .i64 g.om, .int .i64 g.iu, .int .i64 g.it, .int .i64 g.iq, .int .i64 g.bu, .int .i64 g.ra] rfl (fun w' h => ⟨28, show w'.heap[w1.heap.size]? = some (.cells #[.int .i64 g.ia, .int .i64 g.oa, .int .i64 g.lo, .int .i64 g.hi, .int .i64 g.cp, .int .i64 g.im, .int .i64 g.om, .int .i64 g.iu, .int .i64 g.it, .int .i64 g.iq, .int .i64 g.bu, .int .i64 g.ra] 28 (0, 0)) from St.get ((HSX.out w').1 h) 4 rfl⟩)) (by assumption) ?_
              try go_frame
              refine takeL (i := 6) (v := .pointer (some ⟨w6.heap.size, 0, none⟩)) rfl (by kernel_rfl) (by kernel_rfl) (by kernel_rfl) (fun _ _ _ h => h) (Or.inl ⟨by rfl, fun w' hSw => by first | rfl | go_simp⟩) (by assumption) ?_
              try go_frame
              refine takeL (i := 7) (v := .int .i64 d.pr) rfl (by kernel_rfl) (by kernel_rfl) (by kernel_rfl) (fun _ _ _ h => h) (yields_in (by rfl) rfl rfl (fun w' h => St.at 6 0 rfl rfl w' ((HSX.out w').1 h))) (by assumption) ?_
              try go_frame
              refine callL (i := 8) (by kernel_rfl) rfl (by rfl) (fun K hK => ?_)
              go_simp
              go_wp2_with (first | (go_at_call 16; refine Calls.mono (cJ.at _) ?_; rintro e wi ⟨rfl, hbi⟩; have hki : Sof SX wi := (HSX.out _).2 (St.next ((HSX.out _).1 ss.out) hbi); have TI : Hid _ := Tb.below TD.out hbi))
              refine hK.out _ _ ?_ (fun hHeld => ?_)
              · exact hki
              clear hK
              clear K
              try go_frame
              refine callL (i := 9) (by kernel_rfl) rfl (by rfl) (fun K hK => ?_)
              go_simp
              go_wp2_with (first | (go_at_call 15; refine Calls.mono (CH.out _ TI.out) ?_; rintro e wj ⟨rfl, hbj⟩; have hkj : Sof SX wj := (HSX.out _).2 (St.next ((HSX.out _).1 hki) hbj)))
              refine hK.out _ _ ?_ (fun hHeld => ?_)
              · exact hkj
              clear hK
              clear K
              try go_frame
              refine takeL (i := 10) (v := .bool true) rfl (by kernel_rfl) (by kernel_rfl) (by kernel_rfl) (fun _ _ _ h => h) (Or.inl ⟨by rfl, fun w' hSw => by first | rfl | go_simp⟩) (by assumption) ?_
              try go_frame
              refine takeL (i := 11) (v := .bool true) rfl (by kernel_rfl) (by kernel_rfl) (by kernel_rfl) (fun _ _ _ h => h) (yields_mv (by rfl) (.inr rfl) rfl) (by assumption) ?_
              try go_frame
              refine wpAnyH_done (by kernel_rfl) ?_ _
              go_wp2
              go_ret
              exact ⟨rfl, ((HSX.out _).1 hkj).below⟩
end Go.Proofs.YthiljpbodmajaaaGreat
namespace Go.Proofs.YthiljpbodmajaaaGreat
open Go.RowKit Plain
set_option linter.unusedVariables false
theorem stays_ok {w : World} (b : Nat) (d er : Int) (s : ByteArray) (cF : Calls Tryz.prog 25 #[.pointer (some ⟨b, 0, none⟩), .int .i64 d, .string s] w fun e w' => e = .returned (rpv er 0 ⟨#[]⟩) ∧ Below w.heap.size w w') :
    Calls Tryz.prog 28 #[.pointer (some ⟨b, 0, none⟩), .int .i64 d, .string s, .int .i64 er] w fun e w' => e = .returned (.bool true) ∧ Below w.heap.size w w' := by
  have CF : Hid _ := cF
  clear cF
  unfold rpv at CF
  go_enter Tryz.func28, Tryz.ntmps28
  go_wp2_with fail
  refine Calls.mono CF.out ?_; rintro e w1 ⟨rfl, hq⟩
  have HQ : Hid _ := hq
  clear hq
  go_wp2
  go_ret
  exact ⟨by simp, HQ.out.trans (((Below.refl _ _).alloc (Nat.le_refl _) _).mono HQ.out.size)⟩
theorem frm_ok0 {a : Dg} {g : Cf} {sa da sp dp tl k8 ext : Int} (G : g.ok = true) (S : Sentok a (oth sa g.ia g.oa) da sp dp tl g.im k8) (ht : 2 ≤ tl) (e0 : 0 ≤ ext) (e1 : ext ≤ 65535) : Inok (frm a g.oa ext) g := by
  have C := cok_of G
  have hoa := us_bd C.oa
  have D := S.ok
  have D' : Dgok (frm a g.oa ext) := by
    refine ⟨?_, D.s0, D.s1, hoa.1, hoa.2, D.p0, D.p1, by show 0 ≤ ext; omega, by show ext < 65536; omega, D.t0, D.t1, D.md, D.op, D.o4, D.tx, D.ta⟩
    rcases D.pr with h | h | ⟨h, h'⟩
    · exact .inl h
    · exact .inr (.inl h)
    · refine .inr (.inr ⟨h, ?_⟩)
      show akd a.kd = 8 ∨ akd a.kd = 13 ∨ akd a.kd = 0 ∨ akd a.kd = 14
      rcases S.kd h with e | e <;> simp [akd, e]
  have hz := kbd_frm D S.kd g.oa ext D'
  have hall := S.all
  rw [kfr_size D] at hall
  refine ⟨D', ?_, by show usB a.sa = true; rw [S.sa]; exact oth_us _ _ _, C.oa, by show ¬ a.sa = g.ia; rw [S.sa]; exact (oth_ne _ _ _).1, by show ¬ a.sa = g.oa; rw [S.sa]; exact (oth_ne _ _ _).2, fun e => C.ne (Eq.symm e), rfl, ?_, by show 2 ≤ a.tl; rw [S.tl]; exact ht, ?_⟩
  · rw [kfr_size D', hz]; exact hall
  · intro h
    show akd a.kd = 0 ∨ akd a.kd = 14
    rcases S.kd h with e | e <;> simp [akd, e]
  · show 20 + (a.op.size : Int) + (kbd (frm a g.oa ext)).size ≤ g.im
    rw [hz]; exact S.len
theorem kstrangers_any (c : Cf) (W : Cfwf c) (p q : Pk) (Wp : Pkwf p) (Wq : Pkwf q) (n : Nt) (Wn : Ntwf n) (w : World) :
    Calls Tryz.prog 7 #[.agg (cfl c), .agg (pkl p), .agg (pkl q), .agg (ntl n)] w fun e w' => e = .returned (.bool true) ∧ Below w.heap.size w w' := by
  have cC := kconf_any c W
  have G := cnf_ok c
  generalize cnf c = g at *
  have M := cok_mtu G
  have C := cok_of G
  have hoa := us_bd C.oa
  have l1 := C.l1; have l2 := C.l2; have h2 := C.h2
  have hse := wth_bd n.se 0 255 (by decide)
  obtain ⟨qp, hqp⟩ : ∃ qp : Int, qp = wth q.dp 0 65535 := ⟨_, rfl⟩
  have hqb : 0 ≤ qp ∧ qp ≤ 65535 := by rw [hqp]; exact wth_bd q.dp 0 65535 (by decide)
  obtain ⟨od, hod⟩ : ∃ od : Int, od = oth q.da g.ia g.oa := ⟨_, rfl⟩
  have hob : 0 ≤ od ∧ od < 4294967296 := by rw [hod]; exact us_bd (oth_us _ _ _)
  refine strangers_core c g n qp od (fun d => Outok d g) (fun a => Inok a g ∧ a.dp = qp)
    p.kd p.sa p.sp p.da p.dp p.tl p.op p.bi p.sr q.kd q.sa q.sp q.da q.dp q.tl q.op q.bi q.sr p.md p.tx p.ta q.md q.tx q.ta w cC
    (fun wx => (new_bat g G wx).mono fun e w' h => by obtain ⟨b, he, hT, hb, hl⟩ := h; exact ⟨b, _, he, hT, hb, hl⟩)
    (by rw [hqp]; exact fun w => kwithin_any _ _ _ w (by decide) (by decide) (by decide) Wq.dp.1 Wq.dp.2)
    (fun wx => (from_core g (fun a => Sentok a (oth q.sa g.ia g.oa) (oth q.da g.ia g.oa) (wth q.sp 0 65535) (wth q.dp 0 65535) (wth q.tl 2 255) g.im (pk q.kd 5)) qp q.kd q.sa q.sp q.da q.dp q.tl q.op q.bi q.sr q.md q.tx q.ta wx (fun wy => (sentc_any q g g.im Wq M.1 M.2.1 wy).mono fun e w' h => ?_)).mono fun e w' h => ?_)
    (fun a hR => ⟨kframe_any a hR.1.ok, fun wx base b v T => stays_ok b 1 8 (kfr a) (frame_none T (by simp) (kfr a) hR.1.all hR.1.exam hR.1.kinds.2 (by simp))⟩)
    (fun wx base b v T => live_any T (by simp))
    (fun wx => (sentc_any p g g.om Wp M.2.2.1 M.2.2.2 wx).mono fun e w' h => ?_)
    (by rw [hod]; exact other_any q.da g Wq.da.1 Wq.da.2) (fun a d hR O => ?_)
  · obtain ⟨⟨d, he, hS⟩, hb⟩ := h
    exact ⟨d, he, hS, hb⟩
  · obtain ⟨a, he, hS, hb⟩ := h
    exact ⟨frm a g.oa qp, he, ⟨frm_ok0 G hS (wth_bd _ _ _ (by decide)).1 hqb.1 hqb.2, rfl⟩, hb⟩
  · obtain ⟨⟨d, he, hS⟩, hb⟩ := h
    exact ⟨d, he, hS.out (wth_bd _ _ _ (by decide)).1, hb⟩
  · obtain ⟨I, hdp⟩ := hR
    have A := I.ok
    have D := O.ok
    have hi := idle_bd G d.pr
    obtain ⟨ext, hext⟩ : ∃ ext, ext = chs g [] d.pr d.sp := ⟨_, rfl⟩
    have xb : 1 ≤ ext ∧ ext ≤ 65535 := by rw [hext, chs_nil]; split <;> omega
    have hgv : gvn g.lo g.hi d.sp (-1) = ext := by rw [hext, chs_gvn g C d.pr d.sp D.p0]; rfl
    obtain ⟨F, e1, e2, e3, e4, e5, e6, e7⟩ := O.parts
    have MO := moved D g.oa ext d.da d.dp (d.tl - 1) hoa.1 hoa.2 D.d0 D.d1 (by omega) (by omega) D.q0 D.q1 (by have := O.tl; omega) (by have := D.t1; omega)
    have MX := moved D g.oa ext od qp (d.tl - 1) hoa.1 hoa.2 hob.1 hob.2 (by omega) (by omega) hqb.1 (by omega) (by have := O.tl; omega) (by have := D.t1; omega)
    have MI := moved A a.sa a.sp d.sa d.sp (a.tl - 1) A.s0 A.s1 D.s0 D.s1 A.p0 A.p1 D.p0 D.p1 (by have := I.tl; omega) (by have := A.t1; omega)
    have DX : Dgok { d with sa := g.oa, sp := ext, da := od, dp := qp, tl := d.tl - 1 } := MX.1
    have hzX : (kfr { d with sa := g.oa, sp := ext, da := od, dp := qp, tl := d.tl - 1 }).size ≤ 65535 := by have := MX.2.2; have := O.all; omega
    obtain ⟨mp, hmp⟩ : ∃ mp, mp = (Mp.new d.pr d.sa d.sp ext).used d.da (if d.pr = 1 then 0 else d.dp) (g.idle d.pr) := ⟨_, rfl⟩
    have hu : Go.Proofs.YthiljpbodmajaaaGreat.fromB g [] (kfr d) = some (ext, [mp]) := by
      have := fromB_nil C (kfr d) ext (by rw [e3, O.sport]; exact hext)
      have hp := O.ppr
      unfold Go.Proofs.YthiljpbodmajaaaGreat.ppr at hp
      rw [hp, e3, e6, e7, O.sport, ← hmp] at this
      exact this
    have Mm : Mok mp := by rw [hmp]; exact new_mok xb.1 xb.2 D.s0 D.s1 D.p0 D.p1 hi.1 hi.2
    have N := new_used d.pr d.sa d.sp ext d.da (if d.pr = 1 then 0 else d.dp) (g.idle d.pr)
    rw [← hmp] at N
    have m1 : mp.pr = d.pr := by rw [N]
    have m2 : mp.ea = d.sa := by rw [N]
    have m3 : mp.ep = d.sp := by rw [N]
    have m4 : mp.ex = ext := by rw [N]
    have m5 : mp.le = g.idle d.pr := by rw [N]
    have m6 : mp.kn = 1 := by rw [N]
    refine ⟨ext, g.idle d.pr, mp, ?_, fun w => out_any d g ext w D.t0 (by have := D.t1; omega), kframe_any d D, kframe_any _ MO.1, fun wx base b v T => ?_, fun e => ?_, fun e => ?_, fun e wx => ?_, fun w => kidle_any g d.pr w, fun wx base b v T => ?_⟩
    · have := fun w => given_any g d.sp (-1) w (by omega) (by omega)
      rw [hgv] at this
      exact this
    · have := frame_sends T G (tok_nil g (by have := C.c1; omega)) (kfr d) O.exam O.kinds.2.2 (by rw [e7]; exact O.n4) O.pss ext _ hu
      rw [O.goes ext (by omega) (by omega) hoa.1 hoa.2] at this
      exact (passes_yes b 0 1 _ _ _ this).mono fun e w' q => ⟨q.1, by obtain ⟨w1, ⟨v', h1⟩, h2⟩ := q.2; exact ⟨v', (Left.bl h1).grow h2⟩⟩
    · have e' : a.pr = d.pr ∧ a.dp = ext := of_decide_eq_true e
      refine ⟨in_any a d.sa d.sp A.t0 (by have := A.t1; omega), kfr { a with da := d.sa, dp := d.sp, tl := a.tl - 1 }, kframe_any _ MI.1, fun wx base b v T => ?_⟩
      exact (passes_yes b 1 0 _ _ (fun w1 => Below wx.heap.size wx w1) (home_frame I T D (m1.trans e'.1.symm) m2 m3 (m4.trans e'.2.symm))).mono fun e w' q => ⟨q.1, by obtain ⟨w1, h1, h2⟩ := q.2; exact h1.trans (h2.mono h1.size)⟩
    · have e' : ¬ (a.pr = d.pr ∧ a.dp = ext) := of_decide_eq_false e
      intro wx base b v T
      obtain ⟨F', f1, f2, f3, f4, f5, f6, f7⟩ := I.parts
      have hh : mp.has (bt (kfr a) 9) (wd (kfr a) (ppl (kfr a) 2)) = false := by
        rw [f3, I.dport]
        cases h : mp.has a.pr a.dp
        · rfl
        · exfalso
          simp [Mp.has, m1, m4] at h
          exact e' ⟨h.1.symm, h.2.symm⟩
      exact stays_ok b 1 8 (kfr a) (frame_none T (by simp) (kfr a) I.all I.exam I.kinds.2 (by rw [List.findIdx_cons, hh]; rfl))
    · refine (noted_any n Wn g _ DX hzX g.oa g.im C.oa M.1 M.2.1 wx).mono fun e0 w' h => ?_
      obtain ⟨⟨m, k, he, hN⟩, hb⟩ := h
      have L := hN.nt.ok
      refine ⟨m, he, hb, lfr m, lframe_any m L.hd (by have := L.all; have := L.re; omega), fun wy base b v T => ?_⟩
      have hoth := oth_ne n.sr g.ia g.oa
      have n1 : ¬ m.d.sa = g.ia := by rw [hN.sa]; exact hoth.1
      have n2 : ¬ m.d.sa = g.oa := by rw [hN.sa]; exact hoth.2
      have hio : ¬ g.oa = g.ia := fun e => C.ne e.symm
      have Nn : Noted m { { d with da := od, dp := qp, tl := wth n.se 0 255 } with sa := g.oa, sp := ext } k := hN.nt
      obtain ⟨x1, x2, x3, x4, x5, x6⟩ := Nn.exam (g := g) 1 (.inr rfl) n1 n2 (by rw [hN.da]; exact hio) (fun _ => hN.da)
      have hf : ([mp] : List Mp)[([mp] : List Mp).findIdx (·.has d.pr ext)]? = some mp := by
        have hh : mp.has d.pr ext = true := by unfold Mp.has; rw [m1, m4]; simp
        simp [List.findIdx_cons, hh]
      have e' : ¬ od = d.da ∨ (¬ qp = d.dp ∧ ¬ d.pr = 1) := of_decide_eq_true e
      have hkn : mp.knows od (if d.pr = 1 then 0 else qp) = false := by
        rw [N]
        simp [Mp.knows]
        intro h
        rcases e' with k | ⟨k1, k2⟩
        · exact absurd h.symm k
        · rw [if_neg k2, if_neg k2]; exact fun h => k1 h.symm
      have hS := stranger_R (u := { d with da := od, dp := qp, tl := wth n.se 0 255 }) (tk := g.bu) (ex := ext) (ms := [mp]) (mp := mp) G O.kd Nn n1 n2 hN.da hf hkn
      have fr := frame_note T G (tok_one (by have := C.c1; omega) Mm) 1 (lfr m) (by have := L.len (kcs m.d (lbx m (lck m)).size) (lck m); rw [← lfr_eq] at this; exact Nat.le_trans this (by decide)) x1 x2
      rw [hS] at fr
      simp only [Rp.val] at fr
      exact stays_ok b 1 8 (lfr m) fr
    · exact holds_yes b 0 (g.idle d.pr) 1 ext d (fun wy hx => Hid.out (holdsM T ⟨m1, m2, m3, m4, m5, m6⟩ hx))
end Go.Proofs.YthiljpbodmajaaaGreat
namespace Go.Proofs.YthiljpbodmajaaaGreat.strangers
open Go.ChangeShapes Go.WideShapes Go.ChangeAt Go.RowKit Plain
set_option linter.unusedVariables false

theorem own : ownKnob Tryz.prog.godebug = none := by kernel_rfl
theorem laidOut : laidOutB Tryz.prog = true := by kernel_rfl

set_option maxRecDepth 100000 in
theorem lifted (os : Os) (started : os.Started) (H : Type) (enc : TypeId × Value → H) :
    ReturnsInHanded {} Tryz.checked os 7 .any (Rows.strangersSpec.pre6 enc Tryz.prog Tryz.f7 Rows.strangersRow.domain false) (Rows.strangersSpec.post enc Tryz.prog Tryz.f7 false true false false) := by
  refine returnsInHanded_of_change (C := Tryz.checked) own started (by kernel_rfl) Tryz.func7
    (ChangeSpec.witness6 (enc := enc) (C := Tryz.checked) false ⟨#[], #[.agg #[.int .i64 0, .int .i64 0, .int .i64 0, .int .i64 0, .int .i64 0, .int .i64 0, .int .i64 0, .int .i64 0, .int .i64 0, .int .i64 0, .int .i64 0, .int .i64 0], .agg #[.int .i64 0, .int .i64 0, .int .i64 0, .int .i64 0, .int .i64 0, .int .i64 0, .int .i64 0, .int .i64 0, .int .i64 0, .string ⟨#[]⟩, .string ⟨#[]⟩, .string ⟨#[]⟩], .agg #[.int .i64 0, .int .i64 0, .int .i64 0, .int .i64 0, .int .i64 0, .int .i64 0, .int .i64 0, .int .i64 0, .int .i64 0, .string ⟨#[]⟩, .string ⟨#[]⟩, .string ⟨#[]⟩], .agg #[.int .i64 0, .int .i64 0, .int .i64 0, .int .i64 0, .int .i64 0, .int .i64 0, .int .i64 0, .int .i64 0, .string ⟨#[]⟩, .string ⟨#[]⟩]], []⟩ 8 (by kernel_rfl) (by kernel_rfl) (by kernel_rfl) (by kernel_rfl)) ?_
  intro W base args ds gs before hval0 hW hcnd _
  have hval : ∀ (j : Nat) t v, Tryz.f7.params[j]? = some t → args[j]? = some v → Value.okWide Tryz.prog W .any base t v := hval0
  have hW' := hW
  obtain ⟨p, q, hA0, hV, rfl, hfz, hnd⟩ := hW
  have hA : DataW.TrodAll enc Tryz.prog W 0 (fun _ => true) true Tryz.f7.params.toList args.toList ds p := hA0
  rw [Tryz.params7] at hA hval
  obtain ⟨v0, vs0, d0, ds0, p0, q0, hargs0, rfl, rfl, h0, r0⟩ := trodAll_cons hA
  obtain ⟨v1, vs1, d1, ds1, p1, q1, hargs1, rfl, rfl, h1, r1⟩ := trodAll_cons r0
  obtain ⟨v2, vs2, d2, ds2, p2, q2, hargs2, rfl, rfl, h2, r2⟩ := trodAll_cons r1
  obtain ⟨v3, vs3, d3, ds3, p3, q3, hargs3, rfl, rfl, h3, r3⟩ := trodAll_cons r2
  obtain ⟨rfl, rfl, rfl⟩ := trodAll_nil r3
  obtain rfl : args = #[v0, v1, v2, v3] := by cases args; simp_all
  obtain ⟨rfl, rfl⟩ := trodVars_none hV
  have k0 := h0
  have lt0 : ∀ x ∈ p0, x.block < W.heap.size := by obtain ⟨m, hm⟩ := k0; exact DataW.trod_lt m _ _ _ hm
  have k1 := h1
  have lt1 : ∀ x ∈ p1, x.block < W.heap.size := by obtain ⟨m, hm⟩ := k1; exact DataW.trod_lt m _ _ _ hm
  have k2 := h2
  have lt2 : ∀ x ∈ p2, x.block < W.heap.size := by obtain ⟨m, hm⟩ := k2; exact DataW.trod_lt m _ _ _ hm
  have k3 := h3
  have lt3 : ∀ x ∈ p3, x.block < W.heap.size := by obtain ⟨m, hm⟩ := k3; exact DataW.trod_lt m _ _ _ hm
  have bd : ∀ {n : Int}, (Lit.int .i64 n).wf = true → -9223372036854775808 ≤ n ∧ n < 9223372036854775808 := fun h => by have := bounds_i64 h; omega
  obtain ⟨cs, rfl, hsz0, hz⟩ := open_struct_ints Tryz.underlying28 Tryz.underlying3 (by kernel_rfl) (by kernel_rfl) (by kernel_rfl) (hval 0 28 v0 rfl rfl) h0
  obtain ⟨c0, c1, c2, c3, c4, c5, c6, c7, c8, c9, c10, c11, rfl⟩ := array12 hsz0
  obtain ⟨a0_0, e0, w0_0⟩ := hz 0 (by decide)
  obtain ⟨a0_1, e1, w0_1⟩ := hz 1 (by decide)
  obtain ⟨a0_2, e2, w0_2⟩ := hz 2 (by decide)
  obtain ⟨a0_3, e3, w0_3⟩ := hz 3 (by decide)
  obtain ⟨a0_4, e4, w0_4⟩ := hz 4 (by decide)
  obtain ⟨a0_5, e5, w0_5⟩ := hz 5 (by decide)
  obtain ⟨a0_6, e6, w0_6⟩ := hz 6 (by decide)
  obtain ⟨a0_7, e7, w0_7⟩ := hz 7 (by decide)
  obtain ⟨a0_8, e8, w0_8⟩ := hz 8 (by decide)
  obtain ⟨a0_9, e9, w0_9⟩ := hz 9 (by decide)
  obtain ⟨a0_10, e10, w0_10⟩ := hz 10 (by decide)
  obtain ⟨a0_11, e11, w0_11⟩ := hz 11 (by decide)
  simp at e0 e1 e2 e3 e4 e5 e6 e7 e8 e9 e10 e11
  subst e0 e1 e2 e3 e4 e5 e6 e7 e8 e9 e10 e11
  have W0 : Cfwf ⟨a0_0, a0_1, a0_2, a0_3, a0_4, a0_5, a0_6, a0_7, a0_8, a0_9, a0_10, a0_11⟩ := ⟨bd w0_0, bd w0_1, bd w0_2, bd w0_3, bd w0_4, bd w0_5, bd w0_6, bd w0_7, bd w0_8, bd w0_9, bd w0_10, bd w0_11⟩
  obtain ⟨cs1, rfl, hsz1, hz1⟩ := open_struct_mixed Tryz.underlying30 (by kernel_rfl) (by kernel_rfl) (hval 1 30 v1 rfl rfl) h1
  obtain ⟨c0, c1, c2, c3, c4, c5, c6, c7, c8, c9, c10, c11, rfl⟩ := array12 hsz1
  obtain ⟨a1_0, e0, w1_0⟩ := (hz1 0 3 rfl (by kernel_rfl)).1 Tryz.underlying3
  obtain ⟨a1_1, e1, w1_1⟩ := (hz1 1 3 rfl (by kernel_rfl)).1 Tryz.underlying3
  obtain ⟨a1_2, e2, w1_2⟩ := (hz1 2 3 rfl (by kernel_rfl)).1 Tryz.underlying3
  obtain ⟨a1_3, e3, w1_3⟩ := (hz1 3 3 rfl (by kernel_rfl)).1 Tryz.underlying3
  obtain ⟨a1_4, e4, w1_4⟩ := (hz1 4 3 rfl (by kernel_rfl)).1 Tryz.underlying3
  obtain ⟨a1_5, e5, w1_5⟩ := (hz1 5 3 rfl (by kernel_rfl)).1 Tryz.underlying3
  obtain ⟨a1_6, e6, w1_6⟩ := (hz1 6 3 rfl (by kernel_rfl)).1 Tryz.underlying3
  obtain ⟨a1_7, e7, w1_7⟩ := (hz1 7 3 rfl (by kernel_rfl)).1 Tryz.underlying3
  obtain ⟨a1_8, e8, w1_8⟩ := (hz1 8 3 rfl (by kernel_rfl)).1 Tryz.underlying3
  obtain ⟨a1_9, e9, w1_9⟩ := (hz1 9 9 rfl (by kernel_rfl)).2 Tryz.underlying9
  obtain ⟨a1_10, e10, w1_10⟩ := (hz1 10 9 rfl (by kernel_rfl)).2 Tryz.underlying9
  obtain ⟨a1_11, e11, w1_11⟩ := (hz1 11 9 rfl (by kernel_rfl)).2 Tryz.underlying9
  simp at e0 e1 e2 e3 e4 e5 e6 e7 e8 e9 e10 e11
  subst e0 e1 e2 e3 e4 e5 e6 e7 e8 e9 e10 e11
  have W1 : Pkwf ⟨a1_0, a1_1, a1_2, a1_3, a1_4, a1_5, a1_6, a1_7, a1_8, a1_9, a1_10, a1_11⟩ := ⟨bd w1_0, bd w1_1, bd w1_2, bd w1_3, bd w1_4, bd w1_5, bd w1_6, bd w1_8, w1_9, w1_10, w1_11⟩
  obtain ⟨cs2, rfl, hsz2, hz2⟩ := open_struct_mixed Tryz.underlying30 (by kernel_rfl) (by kernel_rfl) (hval 2 30 v2 rfl rfl) h2
  obtain ⟨c0, c1, c2, c3, c4, c5, c6, c7, c8, c9, c10, c11, rfl⟩ := array12 hsz2
  obtain ⟨a2_0, e0, w2_0⟩ := (hz2 0 3 rfl (by kernel_rfl)).1 Tryz.underlying3
  obtain ⟨a2_1, e1, w2_1⟩ := (hz2 1 3 rfl (by kernel_rfl)).1 Tryz.underlying3
  obtain ⟨a2_2, e2, w2_2⟩ := (hz2 2 3 rfl (by kernel_rfl)).1 Tryz.underlying3
  obtain ⟨a2_3, e3, w2_3⟩ := (hz2 3 3 rfl (by kernel_rfl)).1 Tryz.underlying3
  obtain ⟨a2_4, e4, w2_4⟩ := (hz2 4 3 rfl (by kernel_rfl)).1 Tryz.underlying3
  obtain ⟨a2_5, e5, w2_5⟩ := (hz2 5 3 rfl (by kernel_rfl)).1 Tryz.underlying3
  obtain ⟨a2_6, e6, w2_6⟩ := (hz2 6 3 rfl (by kernel_rfl)).1 Tryz.underlying3
  obtain ⟨a2_7, e7, w2_7⟩ := (hz2 7 3 rfl (by kernel_rfl)).1 Tryz.underlying3
  obtain ⟨a2_8, e8, w2_8⟩ := (hz2 8 3 rfl (by kernel_rfl)).1 Tryz.underlying3
  obtain ⟨a2_9, e9, w2_9⟩ := (hz2 9 9 rfl (by kernel_rfl)).2 Tryz.underlying9
  obtain ⟨a2_10, e10, w2_10⟩ := (hz2 10 9 rfl (by kernel_rfl)).2 Tryz.underlying9
  obtain ⟨a2_11, e11, w2_11⟩ := (hz2 11 9 rfl (by kernel_rfl)).2 Tryz.underlying9
  simp at e0 e1 e2 e3 e4 e5 e6 e7 e8 e9 e10 e11
  subst e0 e1 e2 e3 e4 e5 e6 e7 e8 e9 e10 e11
  have W2 : Pkwf ⟨a2_0, a2_1, a2_2, a2_3, a2_4, a2_5, a2_6, a2_7, a2_8, a2_9, a2_10, a2_11⟩ := ⟨bd w2_0, bd w2_1, bd w2_2, bd w2_3, bd w2_4, bd w2_5, bd w2_6, bd w2_8, w2_9, w2_10, w2_11⟩
  obtain ⟨cs3, rfl, hsz3, hz3⟩ := open_struct_mixed Tryz.underlying56 (by kernel_rfl) (by kernel_rfl) (hval 3 56 v3 rfl rfl) h3
  obtain ⟨c0, c1, c2, c3, c4, c5, c6, c7, c8, c9, rfl⟩ := array10 hsz3
  obtain ⟨a3_0, e0, w3_0⟩ := (hz3 0 3 rfl (by kernel_rfl)).1 Tryz.underlying3
  obtain ⟨a3_1, e1, w3_1⟩ := (hz3 1 3 rfl (by kernel_rfl)).1 Tryz.underlying3
  obtain ⟨a3_2, e2, w3_2⟩ := (hz3 2 3 rfl (by kernel_rfl)).1 Tryz.underlying3
  obtain ⟨a3_3, e3, w3_3⟩ := (hz3 3 3 rfl (by kernel_rfl)).1 Tryz.underlying3
  obtain ⟨a3_4, e4, w3_4⟩ := (hz3 4 3 rfl (by kernel_rfl)).1 Tryz.underlying3
  obtain ⟨a3_5, e5, w3_5⟩ := (hz3 5 3 rfl (by kernel_rfl)).1 Tryz.underlying3
  obtain ⟨a3_6, e6, w3_6⟩ := (hz3 6 3 rfl (by kernel_rfl)).1 Tryz.underlying3
  obtain ⟨a3_7, e7, w3_7⟩ := (hz3 7 3 rfl (by kernel_rfl)).1 Tryz.underlying3
  obtain ⟨a3_8, e8, w3_8⟩ := (hz3 8 9 rfl (by kernel_rfl)).2 Tryz.underlying9
  obtain ⟨a3_9, e9, w3_9⟩ := (hz3 9 9 rfl (by kernel_rfl)).2 Tryz.underlying9
  simp at e0 e1 e2 e3 e4 e5 e6 e7 e8 e9
  subst e0 e1 e2 e3 e4 e5 e6 e7 e8 e9
  have W3 : Ntwf ⟨a3_0, a3_1, a3_2, a3_3, a3_4, a3_5, a3_6, a3_7, a3_8, a3_9⟩ := ⟨bd w3_0, bd w3_1, bd w3_2, bd w3_3, bd w3_4, bd w3_5, bd w3_6, bd w3_7, w3_8, w3_9⟩
  clear hA0 hval0
  refine (kstrangers_any _ W0 _ _ W1 W2 _ W3 W).mono fun e W' ⟨he, bel⟩ => ?_
  subst he
  exact ⟨_, rfl, _, _, _, [], _, [], hW', trodAll_mk1 (shut_bool Tryz.underlying4 _), (trodAll_cons_mk (Below.trod laidOut (by kernel_rfl) (of_decide_eq_true (by kernel_rfl)) k0 bel lt0) (trodAll_cons_mk (Below.trod laidOut (by kernel_rfl) (of_decide_eq_true (by kernel_rfl)) k1 bel lt1) (trodAll_cons_mk (Below.trod laidOut (by kernel_rfl) (of_decide_eq_true (by kernel_rfl)) k2 bel lt2) (trodAll_cons_mk (Below.trod laidOut (by kernel_rfl) (of_decide_eq_true (by kernel_rfl)) k3 bel lt3) trodAll_mk0)))), rfl, bel.frame _, fun h => by cases h⟩

theorem over : Rows.strangersRow.holds Tryz.pinned (OpenSpec.ofChange Rows.strangersSpec) :=
  OpenClaim.holds_of_wide 7 Tryz.f7 rfl rfl rfl rfl rfl rfl rfl ⟨rfl, rfl, rfl, rfl, rfl⟩ rfl rfl rfl rfl rfl (by kernel_rfl) Tryz.func7 (by kernel_rfl)
    (of_decide_eq_true (by kernel_rfl)) (by unfold Func.isWrapper; first | (rw [if_pos (by decide +kernel)]; kernel_rfl) | (rw [if_neg (by decide +kernel)]; exact ⟨rfl, rfl⟩))
    (fun os started H enc _ => lifted os started H enc)

theorem proved : Rows.StrangersSaid := over
#print axioms proved
end Go.Proofs.YthiljpbodmajaaaGreat.strangers
