/-
  CONTRACTS: natboxkeep.Again.
-/
import Derived.Test.YthiljpbodmajaaaGreatStal
import Derived.Test.YthiljpbodmajaaaGreatKepv
import Derived.Test.YthiljpbodmajaaaGreatKepg
import Derived.Deep.DeepCutAuto
import Derived.Deep.RegionHeld
import Derived.Maps.RangeWalk
namespace Go.Proofs.YthiljpbodmajaaaGreat
open Go.RowKit Plain
set_option linter.unusedVariables false

set_option maxHeartbeats 16000000 in
set_option maxRecDepth 2000 in
theorem again_core (c g : Cf) (P : Dg → Prop) (M : Dg → Int → Mp → Prop) (R : Dg → Dg → Prop) (V : Dg → Prop) (k0 k1 k2 k3 k4 k5 k6 k7 k8 l0 l1 l2 l3 l4 l5 l6 l7 l8 j0 j1 j2 j3 j4 j5 j6 j7 j8 : Int) (m0 m1 m2 n0 n1 n2 r0 r1 r2 : ByteArray) (w : World) (cC : RetB 12 #[.agg (cfl c)] (.agg (cfl g)))
    (cS : ∀ wx, Calls Tryz.prog 13 #[.agg #[.int .i64 k0, .int .i64 k1, .int .i64 k2, .int .i64 k3, .int .i64 k4, .int .i64 k5, .int .i64 k6, .int .i64 k7, .int .i64 k8, .string m0, .string m1, .string m2], .agg (cfl g), .int .i64 g.om] wx fun e w' => ∃ d, e = .returned (.agg (dgl d)) ∧ P d ∧ Below wx.heap.size wx w')
    (cT : ∀ d, P d → ∃ ext mp, M d ext mp ∧ ∀ wx, Calls Tryz.prog 14 #[.agg (cfl g), .agg (dgl d)] wx fun e w' => ∃ b v', e = .returned (.tuple #[.pointer (some ⟨b, 0, none⟩), .int .i64 ext]) ∧ Bat w' wx.heap.size b g g.bu 0 v' [mp] ∧ Below wx.heap.size wx w' ∧ wx.heap.size ≤ b)
    (cQ : ∀ d wx, P d → Calls Tryz.prog 13 #[.agg #[.int .i64 k0, .int .i64 d.sa, .int .i64 d.sp, .int .i64 l3, .int .i64 l4, .int .i64 l5, .int .i64 l6, .int .i64 l7, .int .i64 l8, .string n0, .string n1, .string n2], .agg (cfl g), .int .i64 g.om] wx fun e w' => ∃ a, e = .returned (.agg (dgl a)) ∧ R d a ∧ Below wx.heap.size wx w')
    (cV : ∀ wx, Calls Tryz.prog 13 #[.agg #[.int .i64 k0, .int .i64 j1, .int .i64 j2, .int .i64 j3, .int .i64 j4, .int .i64 j5, .int .i64 j6, .int .i64 j7, .int .i64 j8, .string r0, .string r1, .string r2], .agg (cfl g), .int .i64 g.om] wx fun e w' => ∃ s, e = .returned (.agg (dgl s)) ∧ V s ∧ 0 ≤ s.sp ∧ s.sp < 65536 ∧ Below wx.heap.size wx w')
    (cB : ∀ d ext mp a, P d → M d ext mp → R d a → ∃ pe id mp2,
      RetB 24 #[.agg (dgl a), .agg (cfl g), .int .i64 ext] (.agg (dgl { a with sa := g.oa, sp := ext, tl := a.tl - 1 })) ∧
      RetB 23 #[.agg (dgl a)] (.string (kfr a)) ∧ RetB 23 #[.agg (dgl { a with sa := g.oa, sp := ext, tl := a.tl - 1 })] (.string (kfr { a with sa := g.oa, sp := ext, tl := a.tl - 1 })) ∧
      (∀ wx base b v, Bat wx base b g g.bu 0 v [mp] → Calls Tryz.prog 22 #[.pointer (some ⟨b, 0, none⟩), .int .i64 0, .string (kfr a), .int .i64 1, .string (kfr { a with sa := g.oa, sp := ext, tl := a.tl - 1 })] wx fun e w' => e = .returned (.bool true) ∧ ∃ v', BL wx w' base b g v v' g.bu 0 [mp2]) ∧
      (decide (a.da = d.da ∧ (a.dp = d.dp ∨ d.pr = 1)) = false → pe = 2) ∧ (decide (a.da = d.da ∧ (a.dp = d.dp ∨ d.pr = 1)) = true → pe = 1) ∧ RetB 16 #[.agg (cfl g), .int .i64 d.pr] (.int .i64 id) ∧
      (∀ wx base b v, Bat wx base b g g.bu 0 v [mp2] → Calls Tryz.prog 15 #[.pointer (some ⟨b, 0, none⟩), .int .i64 0, .agg (dgl d), .int .i64 ext, .int .i64 id, .int .i64 pe] wx fun e w' => e = .returned (.bool true) ∧ Below wx.heap.size wx w') ∧
      (∀ s, V s → ∃ sp, (decide (s.sa = d.sa ∧ s.sp = d.sp) = false → sp = s.sp) ∧ (decide (s.sa = d.sa ∧ s.sp = d.sp) = true → sp = (s.sp + 1) % 65536) ∧ RetB 23 #[.agg (dgl { s with sp := sp })] (.string (kfr { s with sp := sp })) ∧
        (decide (g.cp = 1 ∨ g.lo = g.hi) = true → ∀ wx base b v, Bat wx base b g g.bu 0 v [mp2] → ∃ sd z, Calls Tryz.prog 25 #[.pointer (some ⟨b, 0, none⟩), .int .i64 0, .string (kfr { s with sp := sp })] wx fun e w' => e = .returned (rpv 11 sd z) ∧ ∃ v' tk, BL wx w' base b g v v' tk 0 [mp2]) ∧
        (decide (g.cp = 1 ∨ g.lo = g.hi) = false → ∃ ow, RetB 26 #[.agg (cfl g), .int .i64 sp, .int .i64 ext] (.int .i64 ow) ∧ RetB 24 #[.agg (dgl { s with sp := sp }), .agg (cfl g), .int .i64 ow] (.agg (dgl { s with sa := g.oa, sp := ow, tl := s.tl - 1 })) ∧
          RetB 23 #[.agg (dgl { s with sa := g.oa, sp := ow, tl := s.tl - 1 })] (.string (kfr { s with sa := g.oa, sp := ow, tl := s.tl - 1 })) ∧
          ∀ wx base b v, Bat wx base b g g.bu 0 v [mp2] → Calls Tryz.prog 22 #[.pointer (some ⟨b, 0, none⟩), .int .i64 0, .string (kfr { s with sp := sp }), .int .i64 1, .string (kfr { s with sa := g.oa, sp := ow, tl := s.tl - 1 })] wx fun e w' => e = .returned (.bool true) ∧ ∃ v' ms, ms.length = 2 ∧ BL wx w' base b g v v' g.bu 0 ms))) :
    Calls Tryz.prog 6 #[.agg (cfl c), .agg #[.int .i64 k0, .int .i64 k1, .int .i64 k2, .int .i64 k3, .int .i64 k4, .int .i64 k5, .int .i64 k6, .int .i64 k7, .int .i64 k8, .string m0, .string m1, .string m2], .agg #[.int .i64 l0, .int .i64 l1, .int .i64 l2, .int .i64 l3, .int .i64 l4, .int .i64 l5, .int .i64 l6, .int .i64 l7, .int .i64 l8, .string n0, .string n1, .string n2], .agg #[.int .i64 j0, .int .i64 j1, .int .i64 j2, .int .i64 j3, .int .i64 j4, .int .i64 j5, .int .i64 j6, .int .i64 j7, .int .i64 j8, .string r0, .string r1, .string r2]] w fun e w' => e = .returned (.bool true) ∧ Below w.heap.size w w' := by
  unfold rpv dgl cfl at cB
  unfold dgl cfl at cS cQ cV cT
  unfold cfl at cC ⊢
  have CC : Hid _ := cC
  have CS : Hid _ := cS
  have CT : Hid _ := cT
  have CQ : Hid _ := cQ
  have CV : Hid _ := cV
  have CB : Hid _ := cB
  clear cC cS cT cQ cV cB
  go_enter Tryz.func6, Tryz.ntmps6
  go_upto_region 1 with fail
  have S_v0 : Hid (St [(w.heap.size, (cfl c), 28), (w.heap.size + 1, #[.int .i64 k0, .int .i64 k1, .int .i64 k2, .int .i64 k3, .int .i64 k4, .int .i64 k5, .int .i64 k6, .int .i64 k7, .int .i64 k8, .string m0, .string m1, .string m2], 30), (w.heap.size + 1 + 1, #[.int .i64 l0, .int .i64 l1, .int .i64 l2, .int .i64 l3, .int .i64 l4, .int .i64 l5, .int .i64 l6, .int .i64 l7, .int .i64 l8, .string n0, .string n1, .string n2], 30), (w.heap.size + 1 + 1 + 1, #[.int .i64 j0, .int .i64 j1, .int .i64 j2, .int .i64 j3, .int .i64 j4, .int .i64 j5, .int .i64 j6, .int .i64 j7, .int .i64 j8, .string r0, .string r1, .string r2], 30)] w ((((w.alloc (.cells #[.int .i64 c.ia, .int .i64 c.oa, .int .i64 c.lo, .int .i64 c.hi, .int .i64 c.cp, .int .i64 c.im, .int .i64 c.om, .int .i64 c.iu, .int .i64 c.it, .int .i64 c.iq, .int .i64 c.bu, .int .i64 c.ra] 28)).alloc (.cells #[.int .i64 k0, .int .i64 k1, .int .i64 k2, .int .i64 k3, .int .i64 k4, .int .i64 k5, .int .i64 k6, .int .i64 k7, .int .i64 k8, .string m0, .string m1, .string m2] 30)).alloc (.cells #[.int .i64 l0, .int .i64 l1, .int .i64 l2, .int .i64 l3, .int .i64 l4, .int .i64 l5, .int .i64 l6, .int .i64 l7, .int .i64 l8, .string n0, .string n1, .string n2] 30)).alloc (.cells #[.int .i64 j0, .int .i64 j1, .int .i64 j2, .int .i64 j3, .int .i64 j4, .int .i64 j5, .int .i64 j6, .int .i64 j7, .int .i64 j8, .string r0, .string r1, .string r2] 30))) := St.alloc (St.alloc (St.alloc (St.alloc (St.start w) (cfl c) 28 (w.heap.size) rfl) #[.int .i64 k0, .int .i64 k1, .int .i64 k2, .int .i64 k3, .int .i64 k4, .int .i64 k5, .int .i64 k6, .int .i64 k7, .int .i64 k8, .string m0, .string m1, .string m2] 30 (w.heap.size + 1) (by simp)) #[.int .i64 l0, .int .i64 l1, .int .i64 l2, .int .i64 l3, .int .i64 l4, .int .i64 l5, .int .i64 l6, .int .i64 l7, .int .i64 l8, .string n0, .string n1, .string n2] 30 (w.heap.size + 1 + 1) (by simp)) #[.int .i64 j0, .int .i64 j1, .int .i64 j2, .int .i64 j3, .int .i64 j4, .int .i64 j5, .int .i64 j6, .int .i64 j7, .int .i64 j8, .string r0, .string r1, .string r2] 30 (w.heap.size + 1 + 1 + 1) (by simp)
  generalize ((((w.alloc (.cells #[.int .i64 c.ia, .int .i64 c.oa, .int .i64 c.lo, .int .i64 c.hi, .int .i64 c.cp, .int .i64 c.im, .int .i64 c.om, .int .i64 c.iu, .int .i64 c.it, .int .i64 c.iq, .int .i64 c.bu, .int .i64 c.ra] 28)).alloc (.cells #[.int .i64 k0, .int .i64 k1, .int .i64 k2, .int .i64 k3, .int .i64 k4, .int .i64 k5, .int .i64 k6, .int .i64 k7, .int .i64 k8, .string m0, .string m1, .string m2] 30)).alloc (.cells #[.int .i64 l0, .int .i64 l1, .int .i64 l2, .int .i64 l3, .int .i64 l4, .int .i64 l5, .int .i64 l6, .int .i64 l7, .int .i64 l8, .string n0, .string n1, .string n2] 30)).alloc (.cells #[.int .i64 j0, .int .i64 j1, .int .i64 j2, .int .i64 j3, .int .i64 j4, .int .i64 j5, .int .i64 j6, .int .i64 j7, .int .i64 j8, .string r0, .string r1, .string r2] 30)) = v0 at S_v0 ⊢
  generalize (Value.agg #[.int .i64 c.ia, .int .i64 c.oa, .int .i64 c.lo, .int .i64 c.hi, .int .i64 c.cp, .int .i64 c.im, .int .i64 c.om, .int .i64 c.iu, .int .i64 c.it, .int .i64 c.iq, .int .i64 c.bu, .int .i64 c.ra]) = B1
  generalize (Value.agg #[.int .i64 k0, .int .i64 k1, .int .i64 k2, .int .i64 k3, .int .i64 k4, .int .i64 k5, .int .i64 k6, .int .i64 k7, .int .i64 k8, .string m0, .string m1, .string m2]) = B2
  generalize (Value.agg #[.int .i64 l0, .int .i64 l1, .int .i64 l2, .int .i64 l3, .int .i64 l4, .int .i64 l5, .int .i64 l6, .int .i64 l7, .int .i64 l8, .string n0, .string n1, .string n2]) = B3
  generalize (Value.agg #[.int .i64 j0, .int .i64 j1, .int .i64 j2, .int .i64 j3, .int .i64 j4, .int .i64 j5, .int .i64 j6, .int .i64 j7, .int .i64 j8, .string r0, .string r1, .string r2]) = B4
  go_wp2_with (first | (refine pull_cf [.int .i64 c.ia, .int .i64 c.oa, .int .i64 c.lo, .int .i64 c.hi, .int .i64 c.cp, .int .i64 c.im, .int .i64 c.om, .int .i64 c.iu, .int .i64 c.it, .int .i64 c.iq, .int .i64 c.bu, .int .i64 c.ra] rfl (w.heap.size) (St.get S_v0.out 0 rfl) rfl rfl rfl ?_))
  refine Calls.mono (RetB.at CC.out _) ?_; rintro e w1 ⟨rfl, hb1⟩
  have S_w1 : Hid (St [(w.heap.size, (cfl c), 28), (w.heap.size + 1, #[.int .i64 k0, .int .i64 k1, .int .i64 k2, .int .i64 k3, .int .i64 k4, .int .i64 k5, .int .i64 k6, .int .i64 k7, .int .i64 k8, .string m0, .string m1, .string m2], 30), (w.heap.size + 1 + 1, #[.int .i64 l0, .int .i64 l1, .int .i64 l2, .int .i64 l3, .int .i64 l4, .int .i64 l5, .int .i64 l6, .int .i64 l7, .int .i64 l8, .string n0, .string n1, .string n2], 30), (w.heap.size + 1 + 1 + 1, #[.int .i64 j0, .int .i64 j1, .int .i64 j2, .int .i64 j3, .int .i64 j4, .int .i64 j5, .int .i64 j6, .int .i64 j7, .int .i64 j8, .string r0, .string r1, .string r2], 30)] w w1) := St.next S_v0.out hb1
  generalize (Value.agg #[.int .i64 c.ia, .int .i64 c.oa, .int .i64 c.lo, .int .i64 c.hi, .int .i64 c.cp, .int .i64 c.im, .int .i64 c.om, .int .i64 c.iu, .int .i64 c.it, .int .i64 c.iq, .int .i64 c.bu, .int .i64 c.ra]) = B5
  clear S_v0
  have hz_w1 : w.heap.size + 1 + 1 + 1 < w1.heap.size := St.lt S_w1.out (x := (w.heap.size + 1 + 1 + 1, #[.int .i64 j0, .int .i64 j1, .int .i64 j2, .int .i64 j3, .int .i64 j4, .int .i64 j5, .int .i64 j6, .int .i64 j7, .int .i64 j8, .string r0, .string r1, .string r2], 30)) (by simp)
  clear hb1
  rename_i KK hKK
  refine hKK _ _ ?_
  refine keep_cf [.int .i64 g.ia, .int .i64 g.oa, .int .i64 g.lo, .int .i64 g.hi, .int .i64 g.cp, .int .i64 g.im, .int .i64 g.om, .int .i64 g.iu, .int .i64 g.it, .int .i64 g.iq, .int .i64 g.bu, .int .i64 g.ra] rfl rfl rfl rfl rfl (by simp [Value.oneCell']) (by simp [Act.eval, Act.put]) (by simp [Act.eval, Act.put]) ?_
  clear hKK
  clear KK
  have S_v1 : Hid (St [(w.heap.size, (cfl c), 28), (w.heap.size + 1, #[.int .i64 k0, .int .i64 k1, .int .i64 k2, .int .i64 k3, .int .i64 k4, .int .i64 k5, .int .i64 k6, .int .i64 k7, .int .i64 k8, .string m0, .string m1, .string m2], 30), (w.heap.size + 1 + 1, #[.int .i64 l0, .int .i64 l1, .int .i64 l2, .int .i64 l3, .int .i64 l4, .int .i64 l5, .int .i64 l6, .int .i64 l7, .int .i64 l8, .string n0, .string n1, .string n2], 30), (w.heap.size + 1 + 1 + 1, #[.int .i64 j0, .int .i64 j1, .int .i64 j2, .int .i64 j3, .int .i64 j4, .int .i64 j5, .int .i64 j6, .int .i64 j7, .int .i64 j8, .string r0, .string r1, .string r2], 30), (w1.heap.size, (cfl g), 28)] w (w1.alloc (.cells #[.int .i64 g.ia, .int .i64 g.oa, .int .i64 g.lo, .int .i64 g.hi, .int .i64 g.cp, .int .i64 g.im, .int .i64 g.om, .int .i64 g.iu, .int .i64 g.it, .int .i64 g.iq, .int .i64 g.bu, .int .i64 g.ra] 28))) := St.alloc S_w1.out (cfl g) 28 (w1.heap.size) rfl
  have hs_v1 : w1.heap.size < (w1.alloc (.cells #[.int .i64 g.ia, .int .i64 g.oa, .int .i64 g.lo, .int .i64 g.hi, .int .i64 g.cp, .int .i64 g.im, .int .i64 g.om, .int .i64 g.iu, .int .i64 g.it, .int .i64 g.iq, .int .i64 g.bu, .int .i64 g.ra] 28)).heap.size := by simp
  generalize w1.alloc (.cells #[.int .i64 g.ia, .int .i64 g.oa, .int .i64 g.lo, .int .i64 g.hi, .int .i64 g.cp, .int .i64 g.im, .int .i64 g.om, .int .i64 g.iu, .int .i64 g.it, .int .i64 g.iq, .int .i64 g.bu, .int .i64 g.ra] 28) = v1 at S_v1 hs_v1  ⊢
  clear S_w1
  clear hs_v1
  clear CC
  have q_g6 : v1.cell? ⟨w1.heap.size, 6, none⟩ = some (.int .i64 g.om) := St.at 4 6 rfl rfl _ S_v1.out
  go_wp2_with (first | (refine pull_pk [.int .i64 k0, .int .i64 k1, .int .i64 k2, .int .i64 k3, .int .i64 k4, .int .i64 k5, .int .i64 k6, .int .i64 k7, .int .i64 k8, .string m0, .string m1, .string m2] rfl (w.heap.size + 1) (St.get S_v1.out 1 rfl) rfl rfl rfl ?_) | (refine pull_cf [.int .i64 g.ia, .int .i64 g.oa, .int .i64 g.lo, .int .i64 g.hi, .int .i64 g.cp, .int .i64 g.im, .int .i64 g.om, .int .i64 g.iu, .int .i64 g.it, .int .i64 g.iq, .int .i64 g.bu, .int .i64 g.ra] rfl (w1.heap.size) (St.get S_v1.out 4 rfl) rfl rfl rfl ?_))
  refine Calls.mono (CS.out _) ?_; rintro e w2 ⟨d, rfl, hP, hb2⟩
  have S_w2 : Hid (St [(w.heap.size, (cfl c), 28), (w.heap.size + 1, #[.int .i64 k0, .int .i64 k1, .int .i64 k2, .int .i64 k3, .int .i64 k4, .int .i64 k5, .int .i64 k6, .int .i64 k7, .int .i64 k8, .string m0, .string m1, .string m2], 30), (w.heap.size + 1 + 1, #[.int .i64 l0, .int .i64 l1, .int .i64 l2, .int .i64 l3, .int .i64 l4, .int .i64 l5, .int .i64 l6, .int .i64 l7, .int .i64 l8, .string n0, .string n1, .string n2], 30), (w.heap.size + 1 + 1 + 1, #[.int .i64 j0, .int .i64 j1, .int .i64 j2, .int .i64 j3, .int .i64 j4, .int .i64 j5, .int .i64 j6, .int .i64 j7, .int .i64 j8, .string r0, .string r1, .string r2], 30), (w1.heap.size, (cfl g), 28)] w w2) := St.next S_v1.out hb2
  clear q_g6
  generalize (Value.agg #[.int .i64 k0, .int .i64 k1, .int .i64 k2, .int .i64 k3, .int .i64 k4, .int .i64 k5, .int .i64 k6, .int .i64 k7, .int .i64 k8, .string m0, .string m1, .string m2]) = B6
  generalize (Value.agg #[.int .i64 g.ia, .int .i64 g.oa, .int .i64 g.lo, .int .i64 g.hi, .int .i64 g.cp, .int .i64 g.im, .int .i64 g.om, .int .i64 g.iu, .int .i64 g.it, .int .i64 g.iq, .int .i64 g.bu, .int .i64 g.ra]) = B7
  clear S_v1
  have hz_w2 : w1.heap.size < w2.heap.size := St.lt S_w2.out (x := (w1.heap.size, (cfl g), 28)) (by simp)
  clear hb2
  rename_i KK hKK
  refine hKK _ _ ?_
  refine keep_dg [.int .i64 d.pr, .int .i64 d.kd, .bool d.ba, .int .i64 d.sa, .int .i64 d.sp, .int .i64 d.da, .int .i64 d.dp, .int .i64 d.tl, .int .i64 d.bi, .int .i64 d.sr, .string d.op, .string d.md, .string d.tx, .string d.ta] rfl rfl rfl rfl rfl (by simp [Value.oneCell']) (by simp [Act.eval, Act.put]) (by simp [Act.eval, Act.put]) ?_
  clear hKK
  clear KK
  have S_v2 : Hid (St [(w.heap.size, (cfl c), 28), (w.heap.size + 1, #[.int .i64 k0, .int .i64 k1, .int .i64 k2, .int .i64 k3, .int .i64 k4, .int .i64 k5, .int .i64 k6, .int .i64 k7, .int .i64 k8, .string m0, .string m1, .string m2], 30), (w.heap.size + 1 + 1, #[.int .i64 l0, .int .i64 l1, .int .i64 l2, .int .i64 l3, .int .i64 l4, .int .i64 l5, .int .i64 l6, .int .i64 l7, .int .i64 l8, .string n0, .string n1, .string n2], 30), (w.heap.size + 1 + 1 + 1, #[.int .i64 j0, .int .i64 j1, .int .i64 j2, .int .i64 j3, .int .i64 j4, .int .i64 j5, .int .i64 j6, .int .i64 j7, .int .i64 j8, .string r0, .string r1, .string r2], 30), (w1.heap.size, (cfl g), 28), (w2.heap.size, (dgl d), 33)] w (w2.alloc (.cells #[.int .i64 d.pr, .int .i64 d.kd, .bool d.ba, .int .i64 d.sa, .int .i64 d.sp, .int .i64 d.da, .int .i64 d.dp, .int .i64 d.tl, .int .i64 d.bi, .int .i64 d.sr, .string d.op, .string d.md, .string d.tx, .string d.ta] 33))) := St.alloc S_w2.out (dgl d) 33 (w2.heap.size) rfl
  have hs_v2 : w2.heap.size < (w2.alloc (.cells #[.int .i64 d.pr, .int .i64 d.kd, .bool d.ba, .int .i64 d.sa, .int .i64 d.sp, .int .i64 d.da, .int .i64 d.dp, .int .i64 d.tl, .int .i64 d.bi, .int .i64 d.sr, .string d.op, .string d.md, .string d.tx, .string d.ta] 33)).heap.size := by simp
  generalize w2.alloc (.cells #[.int .i64 d.pr, .int .i64 d.kd, .bool d.ba, .int .i64 d.sa, .int .i64 d.sp, .int .i64 d.da, .int .i64 d.dp, .int .i64 d.tl, .int .i64 d.bi, .int .i64 d.sr, .string d.op, .string d.md, .string d.tx, .string d.ta] 33) = v2 at S_v2 hs_v2  ⊢
  clear S_w2
  clear hs_v2
  clear CS
  obtain ⟨ext, mp, hM, cT⟩ := CT.out d hP
  have CB1 : Hid _ := fun a => CB.out d ext mp a hP hM
  have CQ1 : Hid _ := fun wx => CQ.out d wx hP
  have CT1 : Hid _ := cT
  clear CT cT hP hM CB CQ
  have SVB : Hid _ := S_v2.out
  go_wp2_with (first | (refine pull_cf [.int .i64 g.ia, .int .i64 g.oa, .int .i64 g.lo, .int .i64 g.hi, .int .i64 g.cp, .int .i64 g.im, .int .i64 g.om, .int .i64 g.iu, .int .i64 g.it, .int .i64 g.iq, .int .i64 g.bu, .int .i64 g.ra] rfl (w1.heap.size) (St.get S_v2.out 4 rfl) rfl rfl rfl ?_) | (refine pull_dg [.int .i64 d.pr, .int .i64 d.kd, .bool d.ba, .int .i64 d.sa, .int .i64 d.sp, .int .i64 d.da, .int .i64 d.dp, .int .i64 d.tl, .int .i64 d.bi, .int .i64 d.sr, .string d.op, .string d.md, .string d.tx, .string d.ta] rfl (w2.heap.size) (St.get S_v2.out 5 rfl) rfl rfl rfl ?_))
  refine Calls.mono (CT1.out _) ?_; rintro e w3 ⟨b, v3, rfl, hT, hb3, hbb⟩
  have S_w3 : Hid (St [(w.heap.size, (cfl c), 28), (w.heap.size + 1, #[.int .i64 k0, .int .i64 k1, .int .i64 k2, .int .i64 k3, .int .i64 k4, .int .i64 k5, .int .i64 k6, .int .i64 k7, .int .i64 k8, .string m0, .string m1, .string m2], 30), (w.heap.size + 1 + 1, #[.int .i64 l0, .int .i64 l1, .int .i64 l2, .int .i64 l3, .int .i64 l4, .int .i64 l5, .int .i64 l6, .int .i64 l7, .int .i64 l8, .string n0, .string n1, .string n2], 30), (w.heap.size + 1 + 1 + 1, #[.int .i64 j0, .int .i64 j1, .int .i64 j2, .int .i64 j3, .int .i64 j4, .int .i64 j5, .int .i64 j6, .int .i64 j7, .int .i64 j8, .string r0, .string r1, .string r2], 30), (w1.heap.size, (cfl g), 28), (w2.heap.size, (dgl d), 33)] w w3) := St.next S_v2.out hb3
  generalize (Value.agg #[.int .i64 g.ia, .int .i64 g.oa, .int .i64 g.lo, .int .i64 g.hi, .int .i64 g.cp, .int .i64 g.im, .int .i64 g.om, .int .i64 g.iu, .int .i64 g.it, .int .i64 g.iq, .int .i64 g.bu, .int .i64 g.ra]) = B8
  generalize (Value.agg #[.int .i64 d.pr, .int .i64 d.kd, .bool d.ba, .int .i64 d.sa, .int .i64 d.sp, .int .i64 d.da, .int .i64 d.dp, .int .i64 d.tl, .int .i64 d.bi, .int .i64 d.sr, .string d.op, .string d.md, .string d.tx, .string d.ta]) = B9
  clear S_v2
  have hz_w3 : w2.heap.size < w3.heap.size := St.lt S_w3.out (x := (w2.heap.size, (dgl d), 33)) (by simp)
  clear hb3
  have HT : Hid _ := hT
  have hbs : v2.heap.size ≤ b := hbb
  have hbw : b < w3.heap.size := HT.out.lt
  have HO3 : Hid (∀ o, v3.ownBlock = some o → o < w3.heap.size) := fun o e => (HT.out.row.lt o e).2
  have hzb : w2.heap.size < v2.heap.size := St.lt SVB.out (x := (w2.heap.size, (dgl d), 33)) (by simp)
  clear hT hbb CT1 SVB
  have q_p0 : w3.cell? ⟨w.heap.size + 1, 0, none⟩ = some (.int .i64 k0) := St.at 1 0 rfl rfl _ S_w3.out
  have fz := St.frz 2 rfl S_w3.out
  have q_q0 : w3.cell? ⟨w.heap.size + 1 + 1, 0, none⟩ = some (.int .i64 l0) := St.at 2 0 rfl rfl _ S_w3.out
  go_upto_region 7 with fail
  have S_u4 : Hid (St [(w.heap.size, (cfl c), 28), (w.heap.size + 1, #[.int .i64 k0, .int .i64 k1, .int .i64 k2, .int .i64 k3, .int .i64 k4, .int .i64 k5, .int .i64 k6, .int .i64 k7, .int .i64 k8, .string m0, .string m1, .string m2], 30), (w.heap.size + 1 + 1, #[.int .i64 k0, .int .i64 l1, .int .i64 l2, .int .i64 l3, .int .i64 l4, .int .i64 l5, .int .i64 l6, .int .i64 l7, .int .i64 l8, .string n0, .string n1, .string n2], 30), (w.heap.size + 1 + 1 + 1, #[.int .i64 j0, .int .i64 j1, .int .i64 j2, .int .i64 j3, .int .i64 j4, .int .i64 j5, .int .i64 j6, .int .i64 j7, .int .i64 j8, .string r0, .string r1, .string r2], 30), (w1.heap.size, (cfl g), 28), (w2.heap.size, (dgl d), 33)] w (w3.setCell ⟨w.heap.size + 1 + 1, 0, none⟩ (.int .i64 k0))) := St.setAt (L1 := [(w.heap.size, (cfl c), 28), (w.heap.size + 1, #[.int .i64 k0, .int .i64 k1, .int .i64 k2, .int .i64 k3, .int .i64 k4, .int .i64 k5, .int .i64 k6, .int .i64 k7, .int .i64 k8, .string m0, .string m1, .string m2], 30)]) (L2 := [(w.heap.size + 1 + 1 + 1, #[.int .i64 j0, .int .i64 j1, .int .i64 j2, .int .i64 j3, .int .i64 j4, .int .i64 j5, .int .i64 j6, .int .i64 j7, .int .i64 j8, .string r0, .string r1, .string r2], 30), (w1.heap.size, (cfl g), 28), (w2.heap.size, (dgl d), 33)]) S_w3.out (by omega) (by simp; omega) 0 (.int .i64 k0)
  have T_u4 : Hid _ := Tb.other3 HT.out (p := ⟨w.heap.size + 1 + 1, 0, none⟩) (by show b ≠ w.heap.size + 1 + 1; omega) (fun o e => by have := (HT.out.row.lt o e).1; show o ≠ w.heap.size + 1 + 1; omega) (.int .i64 k0)
  generalize w3.setCell ⟨w.heap.size + 1 + 1, 0, none⟩ (.int .i64 k0) = u4 at S_u4 T_u4 ⊢
  clear S_w3 fz q_p0 q_q0
  clear HT
  have HT : Hid _ := T_u4.out
  clear T_u4
  have q_d3 : u4.cell? ⟨w2.heap.size, 3, none⟩ = some (.int .i64 d.sa) := St.at 5 3 rfl rfl _ S_u4.out
  have fz := St.frz 2 rfl S_u4.out
  have q_q1 : u4.cell? ⟨w.heap.size + 1 + 1, 1, none⟩ = some (.int .i64 l1) := St.at 2 1 rfl rfl _ S_u4.out
  go_upto_region 8 with fail
  have S_u5 : Hid (St [(w.heap.size, (cfl c), 28), (w.heap.size + 1, #[.int .i64 k0, .int .i64 k1, .int .i64 k2, .int .i64 k3, .int .i64 k4, .int .i64 k5, .int .i64 k6, .int .i64 k7, .int .i64 k8, .string m0, .string m1, .string m2], 30), (w.heap.size + 1 + 1, #[.int .i64 k0, .int .i64 d.sa, .int .i64 l2, .int .i64 l3, .int .i64 l4, .int .i64 l5, .int .i64 l6, .int .i64 l7, .int .i64 l8, .string n0, .string n1, .string n2], 30), (w.heap.size + 1 + 1 + 1, #[.int .i64 j0, .int .i64 j1, .int .i64 j2, .int .i64 j3, .int .i64 j4, .int .i64 j5, .int .i64 j6, .int .i64 j7, .int .i64 j8, .string r0, .string r1, .string r2], 30), (w1.heap.size, (cfl g), 28), (w2.heap.size, (dgl d), 33)] w (u4.setCell ⟨w.heap.size + 1 + 1, 1, none⟩ (.int .i64 d.sa))) := St.setAt (L1 := [(w.heap.size, (cfl c), 28), (w.heap.size + 1, #[.int .i64 k0, .int .i64 k1, .int .i64 k2, .int .i64 k3, .int .i64 k4, .int .i64 k5, .int .i64 k6, .int .i64 k7, .int .i64 k8, .string m0, .string m1, .string m2], 30)]) (L2 := [(w.heap.size + 1 + 1 + 1, #[.int .i64 j0, .int .i64 j1, .int .i64 j2, .int .i64 j3, .int .i64 j4, .int .i64 j5, .int .i64 j6, .int .i64 j7, .int .i64 j8, .string r0, .string r1, .string r2], 30), (w1.heap.size, (cfl g), 28), (w2.heap.size, (dgl d), 33)]) S_u4.out (by omega) (by simp; omega) 1 (.int .i64 d.sa)
  have T_u5 : Hid _ := Tb.other3 HT.out (p := ⟨w.heap.size + 1 + 1, 1, none⟩) (by show b ≠ w.heap.size + 1 + 1; omega) (fun o e => by have := (HT.out.row.lt o e).1; show o ≠ w.heap.size + 1 + 1; omega) (.int .i64 d.sa)
  generalize u4.setCell ⟨w.heap.size + 1 + 1, 1, none⟩ (.int .i64 d.sa) = u5 at S_u5 T_u5 ⊢
  clear S_u4 fz q_d3 q_q1
  clear HT
  have HT : Hid _ := T_u5.out
  clear T_u5
  have q_d4 : u5.cell? ⟨w2.heap.size, 4, none⟩ = some (.int .i64 d.sp) := St.at 5 4 rfl rfl _ S_u5.out
  have fz := St.frz 2 rfl S_u5.out
  have q_q2 : u5.cell? ⟨w.heap.size + 1 + 1, 2, none⟩ = some (.int .i64 l2) := St.at 2 2 rfl rfl _ S_u5.out
  go_upto_region 9 with fail
  have S_u6 : Hid (St [(w.heap.size, (cfl c), 28), (w.heap.size + 1, #[.int .i64 k0, .int .i64 k1, .int .i64 k2, .int .i64 k3, .int .i64 k4, .int .i64 k5, .int .i64 k6, .int .i64 k7, .int .i64 k8, .string m0, .string m1, .string m2], 30), (w.heap.size + 1 + 1, #[.int .i64 k0, .int .i64 d.sa, .int .i64 d.sp, .int .i64 l3, .int .i64 l4, .int .i64 l5, .int .i64 l6, .int .i64 l7, .int .i64 l8, .string n0, .string n1, .string n2], 30), (w.heap.size + 1 + 1 + 1, #[.int .i64 j0, .int .i64 j1, .int .i64 j2, .int .i64 j3, .int .i64 j4, .int .i64 j5, .int .i64 j6, .int .i64 j7, .int .i64 j8, .string r0, .string r1, .string r2], 30), (w1.heap.size, (cfl g), 28), (w2.heap.size, (dgl d), 33)] w (u5.setCell ⟨w.heap.size + 1 + 1, 2, none⟩ (.int .i64 d.sp))) := St.setAt (L1 := [(w.heap.size, (cfl c), 28), (w.heap.size + 1, #[.int .i64 k0, .int .i64 k1, .int .i64 k2, .int .i64 k3, .int .i64 k4, .int .i64 k5, .int .i64 k6, .int .i64 k7, .int .i64 k8, .string m0, .string m1, .string m2], 30)]) (L2 := [(w.heap.size + 1 + 1 + 1, #[.int .i64 j0, .int .i64 j1, .int .i64 j2, .int .i64 j3, .int .i64 j4, .int .i64 j5, .int .i64 j6, .int .i64 j7, .int .i64 j8, .string r0, .string r1, .string r2], 30), (w1.heap.size, (cfl g), 28), (w2.heap.size, (dgl d), 33)]) S_u5.out (by omega) (by simp; omega) 2 (.int .i64 d.sp)
  have T_u6 : Hid _ := Tb.other3 HT.out (p := ⟨w.heap.size + 1 + 1, 2, none⟩) (by show b ≠ w.heap.size + 1 + 1; omega) (fun o e => by have := (HT.out.row.lt o e).1; show o ≠ w.heap.size + 1 + 1; omega) (.int .i64 d.sp)
  generalize u5.setCell ⟨w.heap.size + 1 + 1, 2, none⟩ (.int .i64 d.sp) = u6 at S_u6 T_u6 ⊢
  clear S_u5 fz q_d4 q_q2
  clear HT
  have HT : Hid _ := T_u6.out
  clear T_u6
  have q_g6 : u6.cell? ⟨w1.heap.size, 6, none⟩ = some (.int .i64 g.om) := St.at 4 6 rfl rfl _ S_u6.out
  go_wp2_with (first | (refine pull_pk [.int .i64 k0, .int .i64 d.sa, .int .i64 d.sp, .int .i64 l3, .int .i64 l4, .int .i64 l5, .int .i64 l6, .int .i64 l7, .int .i64 l8, .string n0, .string n1, .string n2] rfl (w.heap.size + 1 + 1) (St.get S_u6.out 2 rfl) rfl rfl rfl ?_) | (refine pull_cf [.int .i64 g.ia, .int .i64 g.oa, .int .i64 g.lo, .int .i64 g.hi, .int .i64 g.cp, .int .i64 g.im, .int .i64 g.om, .int .i64 g.iu, .int .i64 g.it, .int .i64 g.iq, .int .i64 g.bu, .int .i64 g.ra] rfl (w1.heap.size) (St.get S_u6.out 4 rfl) rfl rfl rfl ?_))
  refine Calls.mono (CQ1.out _) ?_; rintro e w7 ⟨a, rfl, hR, hb7⟩
  have S_w7 : Hid (St [(w.heap.size, (cfl c), 28), (w.heap.size + 1, #[.int .i64 k0, .int .i64 k1, .int .i64 k2, .int .i64 k3, .int .i64 k4, .int .i64 k5, .int .i64 k6, .int .i64 k7, .int .i64 k8, .string m0, .string m1, .string m2], 30), (w.heap.size + 1 + 1, #[.int .i64 k0, .int .i64 d.sa, .int .i64 d.sp, .int .i64 l3, .int .i64 l4, .int .i64 l5, .int .i64 l6, .int .i64 l7, .int .i64 l8, .string n0, .string n1, .string n2], 30), (w.heap.size + 1 + 1 + 1, #[.int .i64 j0, .int .i64 j1, .int .i64 j2, .int .i64 j3, .int .i64 j4, .int .i64 j5, .int .i64 j6, .int .i64 j7, .int .i64 j8, .string r0, .string r1, .string r2], 30), (w1.heap.size, (cfl g), 28), (w2.heap.size, (dgl d), 33)] w w7) := St.next S_u6.out hb7
  have HT_w7 : Hid _ := Tb.below HT.out hb7
  clear HT
  have HT : Hid _ := HT_w7.out
  clear HT_w7
  clear q_g6
  generalize (Value.agg #[.int .i64 k0, .int .i64 d.sa, .int .i64 d.sp, .int .i64 l3, .int .i64 l4, .int .i64 l5, .int .i64 l6, .int .i64 l7, .int .i64 l8, .string n0, .string n1, .string n2]) = B10
  generalize (Value.agg #[.int .i64 g.ia, .int .i64 g.oa, .int .i64 g.lo, .int .i64 g.hi, .int .i64 g.cp, .int .i64 g.im, .int .i64 g.om, .int .i64 g.iu, .int .i64 g.it, .int .i64 g.iq, .int .i64 g.bu, .int .i64 g.ra]) = B11
  clear S_u6
  have hz_w7 : w2.heap.size < w7.heap.size := St.lt S_w7.out (x := (w2.heap.size, (dgl d), 33)) (by simp)
  clear hb7
  have hna : b < w7.heap.size := HT.out.lt
  have hbl_a : b < w7.heap.size := HT.out.lt
  have HO_a : Hid (∀ o, v3.ownBlock = some o → o < w7.heap.size) := fun o e => (HT.out.row.lt o e).2
  rename_i KK hKK
  refine hKK _ _ ?_
  refine keep_dg [.int .i64 a.pr, .int .i64 a.kd, .bool a.ba, .int .i64 a.sa, .int .i64 a.sp, .int .i64 a.da, .int .i64 a.dp, .int .i64 a.tl, .int .i64 a.bi, .int .i64 a.sr, .string a.op, .string a.md, .string a.tx, .string a.ta] rfl rfl rfl rfl rfl (by simp [Value.oneCell']) (by simp [Act.eval, Act.put]) (by simp [Act.eval, Act.put]) ?_
  clear hKK
  clear KK
  have S_v7 : Hid (St [(w.heap.size, (cfl c), 28), (w.heap.size + 1, #[.int .i64 k0, .int .i64 k1, .int .i64 k2, .int .i64 k3, .int .i64 k4, .int .i64 k5, .int .i64 k6, .int .i64 k7, .int .i64 k8, .string m0, .string m1, .string m2], 30), (w.heap.size + 1 + 1, #[.int .i64 k0, .int .i64 d.sa, .int .i64 d.sp, .int .i64 l3, .int .i64 l4, .int .i64 l5, .int .i64 l6, .int .i64 l7, .int .i64 l8, .string n0, .string n1, .string n2], 30), (w.heap.size + 1 + 1 + 1, #[.int .i64 j0, .int .i64 j1, .int .i64 j2, .int .i64 j3, .int .i64 j4, .int .i64 j5, .int .i64 j6, .int .i64 j7, .int .i64 j8, .string r0, .string r1, .string r2], 30), (w1.heap.size, (cfl g), 28), (w2.heap.size, (dgl d), 33), (w7.heap.size, (dgl a), 33)] w (w7.alloc (.cells #[.int .i64 a.pr, .int .i64 a.kd, .bool a.ba, .int .i64 a.sa, .int .i64 a.sp, .int .i64 a.da, .int .i64 a.dp, .int .i64 a.tl, .int .i64 a.bi, .int .i64 a.sr, .string a.op, .string a.md, .string a.tx, .string a.ta] 33))) := St.alloc S_w7.out (dgl a) 33 (w7.heap.size) rfl
  have HT_v7 : Hid _ := Tb.below HT.out ((Below.refl _ _).alloc (Nat.le_refl _) (.cells #[.int .i64 a.pr, .int .i64 a.kd, .bool a.ba, .int .i64 a.sa, .int .i64 a.sp, .int .i64 a.da, .int .i64 a.dp, .int .i64 a.tl, .int .i64 a.bi, .int .i64 a.sr, .string a.op, .string a.md, .string a.tx, .string a.ta] 33))
  have hs_v7 : w7.heap.size < (w7.alloc (.cells #[.int .i64 a.pr, .int .i64 a.kd, .bool a.ba, .int .i64 a.sa, .int .i64 a.sp, .int .i64 a.da, .int .i64 a.dp, .int .i64 a.tl, .int .i64 a.bi, .int .i64 a.sr, .string a.op, .string a.md, .string a.tx, .string a.ta] 33)).heap.size := by simp
  generalize w7.alloc (.cells #[.int .i64 a.pr, .int .i64 a.kd, .bool a.ba, .int .i64 a.sa, .int .i64 a.sp, .int .i64 a.da, .int .i64 a.dp, .int .i64 a.tl, .int .i64 a.bi, .int .i64 a.sr, .string a.op, .string a.md, .string a.tx, .string a.ta] 33) = v7 at S_v7 hs_v7 HT_v7 ⊢
  clear S_w7
  clear HT
  have HT : Hid _ := HT_v7.out
  clear HT_v7
  clear hs_v7
  obtain ⟨pe, id, mp2, cO, i1, i2, cP1, hp2, hp1, cJ, cHo, cE⟩ := CB1.out a hR
  have CP0 : Hid _ := cP1
  have HP1 : Hid _ := hp1
  have HP2 : Hid _ := hp2
  have CHo : Hid _ := cHo
  have CE : Hid _ := cE
  clear CB1 CQ1 cP1 hp1 hp2 cHo cE hR
  have CP1 : Hid (∀ wx, Bat wx v2.heap.size b g g.bu 0 v3 [mp] → Calls Tryz.prog 22 #[.pointer (some ⟨b, 0, none⟩), .int .i64 0, .string (kfr a), .int .i64 1, .string (kfr { a with sa := g.oa, sp := ext, tl := a.tl - 1 })] wx fun e w' => e = .returned (.bool true) ∧ ∃ v', BL wx w' v2.heap.size b g v3 v' g.bu 0 [mp2]) := fun wx => CP0.out wx _ b _
  clear CP0
  generalize kfr a = XA at i1 CP1
  generalize kfr { a with sa := g.oa, sp := ext, tl := a.tl - 1 } = XO at i2 CP1
  go_wp2_with (first | (refine pull_dg [.int .i64 a.pr, .int .i64 a.kd, .bool a.ba, .int .i64 a.sa, .int .i64 a.sp, .int .i64 a.da, .int .i64 a.dp, .int .i64 a.tl, .int .i64 a.bi, .int .i64 a.sr, .string a.op, .string a.md, .string a.tx, .string a.ta] rfl (w7.heap.size) (St.get S_v7.out 6 rfl) rfl rfl rfl ?_) | (refine pull_cf [.int .i64 g.ia, .int .i64 g.oa, .int .i64 g.lo, .int .i64 g.hi, .int .i64 g.cp, .int .i64 g.im, .int .i64 g.om, .int .i64 g.iu, .int .i64 g.it, .int .i64 g.iq, .int .i64 g.bu, .int .i64 g.ra] rfl (w1.heap.size) (St.get S_v7.out 4 rfl) rfl rfl rfl ?_))
  refine Calls.mono (cO.at _) ?_; rintro e w8 ⟨rfl, hb8⟩
  have S_w8 : Hid (St [(w.heap.size, (cfl c), 28), (w.heap.size + 1, #[.int .i64 k0, .int .i64 k1, .int .i64 k2, .int .i64 k3, .int .i64 k4, .int .i64 k5, .int .i64 k6, .int .i64 k7, .int .i64 k8, .string m0, .string m1, .string m2], 30), (w.heap.size + 1 + 1, #[.int .i64 k0, .int .i64 d.sa, .int .i64 d.sp, .int .i64 l3, .int .i64 l4, .int .i64 l5, .int .i64 l6, .int .i64 l7, .int .i64 l8, .string n0, .string n1, .string n2], 30), (w.heap.size + 1 + 1 + 1, #[.int .i64 j0, .int .i64 j1, .int .i64 j2, .int .i64 j3, .int .i64 j4, .int .i64 j5, .int .i64 j6, .int .i64 j7, .int .i64 j8, .string r0, .string r1, .string r2], 30), (w1.heap.size, (cfl g), 28), (w2.heap.size, (dgl d), 33), (w7.heap.size, (dgl a), 33)] w w8) := St.next S_v7.out hb8
  have HT_w8 : Hid _ := Tb.below HT.out hb8
  clear HT
  have HT : Hid _ := HT_w8.out
  clear HT_w8
  generalize (Value.agg #[.int .i64 a.pr, .int .i64 a.kd, .bool a.ba, .int .i64 a.sa, .int .i64 a.sp, .int .i64 a.da, .int .i64 a.dp, .int .i64 a.tl, .int .i64 a.bi, .int .i64 a.sr, .string a.op, .string a.md, .string a.tx, .string a.ta]) = B12
  generalize (Value.agg #[.int .i64 g.ia, .int .i64 g.oa, .int .i64 g.lo, .int .i64 g.hi, .int .i64 g.cp, .int .i64 g.im, .int .i64 g.om, .int .i64 g.iu, .int .i64 g.it, .int .i64 g.iq, .int .i64 g.bu, .int .i64 g.ra]) = B13
  clear S_v7
  have hz_w8 : w7.heap.size < w8.heap.size := St.lt S_w8.out (x := (w7.heap.size, (dgl a), 33)) (by simp)
  clear hb8
  have hbl_o : b < w8.heap.size := HT.out.lt
  have HO_o : Hid (∀ o, v3.ownBlock = some o → o < w8.heap.size) := fun o e => (HT.out.row.lt o e).2
  rename_i KK hKK
  refine hKK _ _ ?_
  refine keep_dg [.int .i64 a.pr, .int .i64 a.kd, .bool a.ba, .int .i64 g.oa, .int .i64 ext, .int .i64 a.da, .int .i64 a.dp, .int .i64 (a.tl - 1), .int .i64 a.bi, .int .i64 a.sr, .string a.op, .string a.md, .string a.tx, .string a.ta] rfl rfl rfl rfl rfl (by simp [Value.oneCell']) (by simp [Act.eval, Act.put]) (by simp [Act.eval, Act.put]) ?_
  clear hKK
  clear KK
  have S_v8 : Hid (St [(w.heap.size, (cfl c), 28), (w.heap.size + 1, #[.int .i64 k0, .int .i64 k1, .int .i64 k2, .int .i64 k3, .int .i64 k4, .int .i64 k5, .int .i64 k6, .int .i64 k7, .int .i64 k8, .string m0, .string m1, .string m2], 30), (w.heap.size + 1 + 1, #[.int .i64 k0, .int .i64 d.sa, .int .i64 d.sp, .int .i64 l3, .int .i64 l4, .int .i64 l5, .int .i64 l6, .int .i64 l7, .int .i64 l8, .string n0, .string n1, .string n2], 30), (w.heap.size + 1 + 1 + 1, #[.int .i64 j0, .int .i64 j1, .int .i64 j2, .int .i64 j3, .int .i64 j4, .int .i64 j5, .int .i64 j6, .int .i64 j7, .int .i64 j8, .string r0, .string r1, .string r2], 30), (w1.heap.size, (cfl g), 28), (w2.heap.size, (dgl d), 33), (w7.heap.size, (dgl a), 33), (w8.heap.size, (dgl { a with sa := g.oa, sp := ext, tl := a.tl - 1 }), 33)] w (w8.alloc (.cells #[.int .i64 a.pr, .int .i64 a.kd, .bool a.ba, .int .i64 g.oa, .int .i64 ext, .int .i64 a.da, .int .i64 a.dp, .int .i64 (a.tl - 1), .int .i64 a.bi, .int .i64 a.sr, .string a.op, .string a.md, .string a.tx, .string a.ta] 33))) := St.alloc S_w8.out (dgl { a with sa := g.oa, sp := ext, tl := a.tl - 1 }) 33 (w8.heap.size) rfl
  have HT_v8 : Hid _ := Tb.below HT.out ((Below.refl _ _).alloc (Nat.le_refl _) (.cells #[.int .i64 a.pr, .int .i64 a.kd, .bool a.ba, .int .i64 g.oa, .int .i64 ext, .int .i64 a.da, .int .i64 a.dp, .int .i64 (a.tl - 1), .int .i64 a.bi, .int .i64 a.sr, .string a.op, .string a.md, .string a.tx, .string a.ta] 33))
  have hs_v8 : w8.heap.size < (w8.alloc (.cells #[.int .i64 a.pr, .int .i64 a.kd, .bool a.ba, .int .i64 g.oa, .int .i64 ext, .int .i64 a.da, .int .i64 a.dp, .int .i64 (a.tl - 1), .int .i64 a.bi, .int .i64 a.sr, .string a.op, .string a.md, .string a.tx, .string a.ta] 33)).heap.size := by simp
  generalize w8.alloc (.cells #[.int .i64 a.pr, .int .i64 a.kd, .bool a.ba, .int .i64 g.oa, .int .i64 ext, .int .i64 a.da, .int .i64 a.dp, .int .i64 (a.tl - 1), .int .i64 a.bi, .int .i64 a.sr, .string a.op, .string a.md, .string a.tx, .string a.ta] 33) = v8 at S_v8 hs_v8 HT_v8 ⊢
  clear S_w8
  clear HT
  have HT : Hid _ := HT_v8.out
  clear HT_v8
  clear hs_v8
  clear cO
  have hz_v8 : w8.heap.size < v8.heap.size := St.lt S_v8.out (x := (w8.heap.size, (dgl { a with sa := g.oa, sp := ext, tl := a.tl - 1 }), 33)) (by simp)
  go_upto_region 11 with fail
  try go_frame
  obtain ⟨SX, hSX⟩ : ∃ SX : World → Prop, ∀ w', Sof SX w' ↔ St [(w.heap.size, (cfl c), 28), (w.heap.size + 1, #[.int .i64 k0, .int .i64 k1, .int .i64 k2, .int .i64 k3, .int .i64 k4, .int .i64 k5, .int .i64 k6, .int .i64 k7, .int .i64 k8, .string m0, .string m1, .string m2], 30), (w.heap.size + 1 + 1, #[.int .i64 k0, .int .i64 d.sa, .int .i64 d.sp, .int .i64 l3, .int .i64 l4, .int .i64 l5, .int .i64 l6, .int .i64 l7, .int .i64 l8, .string n0, .string n1, .string n2], 30), (w.heap.size + 1 + 1 + 1, #[.int .i64 j0, .int .i64 j1, .int .i64 j2, .int .i64 j3, .int .i64 j4, .int .i64 j5, .int .i64 j6, .int .i64 j7, .int .i64 j8, .string r0, .string r1, .string r2], 30), (w1.heap.size, (cfl g), 28), (w2.heap.size, (dgl d), 33), (w7.heap.size, (dgl a), 33), (w8.heap.size, (dgl { a with sa := g.oa, sp := ext, tl := a.tl - 1 }), 33)] w w' := ⟨_, fun _ => Iff.rfl⟩
  have HSX : Hid _ := hSX
  clear hSX
  have ss : Hid (Sof SX v8.drew) := (HSX.out _).2 (St.drew S_v8.out)
  have TD : Hid _ := Tb.drew HT.out
  go_cut [15] (fun ov wx => ov = .bool true ∧ St [(w.heap.size, (cfl c), 28), (w.heap.size + 1, #[.int .i64 k0, .int .i64 k1, .int .i64 k2, .int .i64 k3, .int .i64 k4, .int .i64 k5, .int .i64 k6, .int .i64 k7, .int .i64 k8, .string m0, .string m1, .string m2], 30), (w.heap.size + 1 + 1, #[.int .i64 k0, .int .i64 d.sa, .int .i64 d.sp, .int .i64 l3, .int .i64 l4, .int .i64 l5, .int .i64 l6, .int .i64 l7, .int .i64 l8, .string n0, .string n1, .string n2], 30), (w.heap.size + 1 + 1 + 1, #[.int .i64 j0, .int .i64 j1, .int .i64 j2, .int .i64 j3, .int .i64 j4, .int .i64 j5, .int .i64 j6, .int .i64 j7, .int .i64 j8, .string r0, .string r1, .string r2], 30), (w1.heap.size, (cfl g), 28), (w2.heap.size, (dgl d), 33), (w7.heap.size, (dgl a), 33), (w8.heap.size, (dgl { a with sa := g.oa, sp := ext, tl := a.tl - 1 }), 33)] w wx ∧ ∃ v', Bat wx v2.heap.size b g g.bu 0 v' [mp2])
  case first =>
    refine wp_region_held_drew (S := fun w' => Sof SX w') (by kernel_rfl) ss.out (fun hHeld => ?_)
    refine takeL (i := 1) (v := .agg #[.int .i64 a.pr, .int .i64 a.kd, .bool a.ba, .int .i64 a.sa, .int .i64 a.sp, .int .i64 a.da, .int .i64 a.dp, .int .i64 a.tl, .int .i64 a.bi, .int .i64 a.sr, .string a.op, .string a.md, .string a.tx, .string a.ta]) rfl (by kernel_rfl) (by kernel_rfl) (by kernel_rfl) (fun _ _ _ h => h) (yields_dg (by rfl) rfl (w7.heap.size) rfl [.int .i64 a.pr, .int .i64 a.kd, .bool a.ba, .int .i64 a.sa, .int .i64 a.sp, .int .i64 a.da, .int .i64 a.dp, .int .i64 a.tl, .int .i64 a.bi, .int .i64 a.sr, .string a.op, .string a.md, .string a.tx, .string a.ta] rfl (fun w' h => ⟨33, show w'.heap[w7.heap.size]? = some (.cells #[.int .i64 a.pr, .int .i64 a.kd, .bool a.ba, .int .i64 a.sa, .int .i64 a.sp, .int .i64 a.da, .int .i64 a.dp, .int .i64 a.tl, .int .i64 a.bi, .int .i64 a.sr, .string a.op, .string a.md, .string a.tx, .string a.ta] 33 (0, 0)) from St.get ((HSX.out w').1 h) 6 rfl⟩)) (by assumption) ?_
    try go_frame
    refine takeL (i := 3) (v := .agg #[.int .i64 a.pr, .int .i64 a.kd, .bool a.ba, .int .i64 g.oa, .int .i64 ext, .int .i64 a.da, .int .i64 a.dp, .int .i64 (a.tl - 1), .int .i64 a.bi, .int .i64 a.sr, .string a.op, .string a.md, .string a.tx, .string a.ta]) rfl (by kernel_rfl) (by kernel_rfl) (by kernel_rfl) (fun _ _ _ h => h) (yields_dg (by rfl) rfl (w8.heap.size) rfl [.int .i64 a.pr, .int .i64 a.kd, .bool a.ba, .int .i64 g.oa, .int .i64 ext, .int .i64 a.da, .int .i64 a.dp, .int .i64 (a.tl - 1), .int .i64 a.bi, .int .i64 a.sr, .string a.op, .string a.md, .string a.tx, .string a.ta] rfl (fun w' h => ⟨33, show w'.heap[w8.heap.size]? = some (.cells #[.int .i64 a.pr, .int .i64 a.kd, .bool a.ba, .int .i64 g.oa, .int .i64 ext, .int .i64 a.da, .int .i64 a.dp, .int .i64 (a.tl - 1), .int .i64 a.bi, .int .i64 a.sr, .string a.op, .string a.md, .string a.tx, .string a.ta] 33 (0, 0)) from St.get ((HSX.out w').1 h) 7 rfl⟩)) (by assumption) ?_
    try go_frame
    refine takeL (i := 0) (v := .pointer (some ⟨b, 0, none⟩)) rfl (by kernel_rfl) (by kernel_rfl) (by kernel_rfl) (fun _ _ _ h => h) (yields_mv (by rfl) (.inl rfl) rfl) (by assumption) ?_
    try go_frame
    refine callL (i := 2) (by kernel_rfl) rfl (by rfl) (fun K hK => ?_)
    go_simp
    go_wp2_with (first | (go_at_call 23; refine Calls.mono (i1.at _) ?_; rintro e wx ⟨rfl, hbx⟩; have hkx : Sof SX wx := (HSX.out _).2 (St.next ((HSX.out _).1 ss.out) hbx); have TX : Hid _ := Tb.below TD.out hbx))
    refine hK.out _ _ ?_ (fun hHeld => ?_)
    · exact hkx
    clear hK
    clear K
    try go_frame
    have hsx : v8.heap.size ≤ wx.heap.size := hbx.size
    clear hbx TD
    refine callL (i := 4) (by kernel_rfl) rfl (by rfl) (fun K hK => ?_)
    go_simp
    go_wp2_with (first | (go_at_call 23; refine Calls.mono (i2.at _) ?_; rintro e wy ⟨rfl, hby⟩; have hky : Sof SX wy := (HSX.out _).2 (St.next ((HSX.out _).1 hkx) hby); have TY : Hid _ := Tb.below TX.out hby))
    refine hK.out _ _ ?_ (fun hHeld => ?_)
    · exact hky
    clear hK
    clear K
    try go_frame
    have hsy : wx.heap.size ≤ wy.heap.size := hby.size
    clear hby TX
    refine callL (i := 5) (by kernel_rfl) rfl (by rfl) (fun K hK => ?_)
    go_simp
    go_wp2_with (first | (go_at_call 22; refine Calls.mono (CP1.out _ TY.out) ?_; rintro e wz ⟨rfl, vz, hbz⟩; have hkz : Sof SX wz := (HSX.out _).2 (St.bl ((HSX.out _).1 hky) TY.out hbs hbz (by omega) (hi := w7.heap.size) hbl_a HO_a.out (by simp; omega)); have TZ : Hid _ := hbz.bat))
    refine hK.out _ _ ?_ (fun hHeld => ?_)
    · exact hkz
    clear hK
    clear K
    try go_frame
    refine takeL (i := 6) (v := .bool true) rfl (by kernel_rfl) (by kernel_rfl) (by kernel_rfl) (fun _ _ _ h => h) (yields_mv (by rfl) (.inr rfl) rfl) (by assumption) ?_
    try go_frame
    refine wpAnyH_done (by kernel_rfl) ?_ _
    go_wp2_with fail
    go_meet
    exact ⟨rfl, (HSX.out _).1 hkz, ⟨vz, TZ.out⟩⟩
  case rest =>
    obtain ⟨rfl, hst0, htb0⟩ := hcut
    obtain ⟨w9, hw9⟩ : ∃ w9 : World, w9 = wc := ⟨_, rfl⟩
    subst hw9
    have S_w9 : Hid (St [(w.heap.size, (cfl c), 28), (w.heap.size + 1, #[.int .i64 k0, .int .i64 k1, .int .i64 k2, .int .i64 k3, .int .i64 k4, .int .i64 k5, .int .i64 k6, .int .i64 k7, .int .i64 k8, .string m0, .string m1, .string m2], 30), (w.heap.size + 1 + 1, #[.int .i64 k0, .int .i64 d.sa, .int .i64 d.sp, .int .i64 l3, .int .i64 l4, .int .i64 l5, .int .i64 l6, .int .i64 l7, .int .i64 l8, .string n0, .string n1, .string n2], 30), (w.heap.size + 1 + 1 + 1, #[.int .i64 j0, .int .i64 j1, .int .i64 j2, .int .i64 j3, .int .i64 j4, .int .i64 j5, .int .i64 j6, .int .i64 j7, .int .i64 j8, .string r0, .string r1, .string r2], 30), (w1.heap.size, (cfl g), 28), (w2.heap.size, (dgl d), 33), (w7.heap.size, (dgl a), 33), (w8.heap.size, (dgl { a with sa := g.oa, sp := ext, tl := a.tl - 1 }), 33)] w w9) := hst0
    clear S_v8
    obtain ⟨v4, htb1⟩ := htb0
    clear HT
    have HT : Hid (Bat w9 v2.heap.size b g g.bu 0 v4 [mp2]) := htb1
    clear htb1 TD
    clear hst0 HSX ss CP1 i1 i2
    clear HO_a hbl_a HO_o hbl_o HO3 hna
    have q_a5 : w9.cell? ⟨w7.heap.size, 5, none⟩ = some (.int .i64 a.da) := St.at 6 5 rfl rfl _ S_w9.out
    have q_d5 : w9.cell? ⟨w2.heap.size, 5, none⟩ = some (.int .i64 d.da) := St.at 5 5 rfl rfl _ S_w9.out
    have q_a6 : w9.cell? ⟨w7.heap.size, 6, none⟩ = some (.int .i64 a.dp) := St.at 6 6 rfl rfl _ S_w9.out
    have q_d6 : w9.cell? ⟨w2.heap.size, 6, none⟩ = some (.int .i64 d.dp) := St.at 5 6 rfl rfl _ S_w9.out
    have q_d0 : w9.cell? ⟨w2.heap.size, 0, none⟩ = some (.int .i64 d.pr) := St.at 5 0 rfl rfl _ S_w9.out
    go_upto_region 13 with fail
    try go_frame
    go_cut [75] (fun bv wx => bv = .bool (decide (a.da = d.da ∧ (a.dp = d.dp ∨ d.pr = 1))) ∧ wx = w9)
    case first =>
      cases e1 : (a.da == d.da)
      · have hd : Hid (decide (a.da = d.da ∧ (a.dp = d.dp ∨ d.pr = 1)) = false) := by show _ = _; simp at e1; simp [e1]
        go_wp2_with fail
        go_meet
        exact ⟨by rw [hd.out], rfl⟩
      · cases e2 : (a.dp == d.dp)
        · cases e3 : (d.pr == 1)
          · have hd : Hid (decide (a.da = d.da ∧ (a.dp = d.dp ∨ d.pr = 1)) = false) := by show _ = _; simp at e1 e2 e3; simp [e2, e3]
            go_wp2_with fail
            go_meet
            exact ⟨by rw [hd.out], rfl⟩
          · have hd : Hid (decide (a.da = d.da ∧ (a.dp = d.dp ∨ d.pr = 1)) = true) := by show _ = _; simp at e1 e2 e3; simp [e1, e3]
            go_wp2_with fail
            go_meet
            exact ⟨by rw [hd.out], rfl⟩
        · have hd : Hid (decide (a.da = d.da ∧ (a.dp = d.dp ∨ d.pr = 1)) = true) := by show _ = _; simp at e1 e2; simp [e1, e2]
          go_wp2_with fail
          go_meet
          exact ⟨by rw [hd.out], rfl⟩
    case rest =>
      obtain ⟨rfl, hw⟩ := hcut
      replace hw := hw.symm; subst hw
      clear q_a5 q_d5 q_a6 q_d6 q_d0
      obtain ⟨bb, hbb⟩ : ∃ bb : Bool, decide (a.da = d.da ∧ (a.dp = d.dp ∨ d.pr = 1)) = bb := ⟨_, rfl⟩
      rw [hbb] at HP1 HP2 ⊢
      clear hbb
      go_upto_if 75 with fail
      try go_frame
      go_cut [16] (fun pv wx => pv = .int .i64 pe ∧ wx = w9)
      case first =>
        cases bb
        · have h : Hid (pe = 2) := HP2.out rfl
          go_wp2_with fail
          go_meet
          exact ⟨by rw [h.out], rfl⟩
        · have h : Hid (pe = 1) := HP1.out rfl
          go_wp2_with fail
          go_meet
          exact ⟨by rw [h.out], rfl⟩
      case rest =>
        obtain ⟨rfl, hw⟩ := hcut
        replace hw := hw.symm; subst hw
        clear HP1 HP2 bb
        have CH : Hid (∀ wx, Bat wx v2.heap.size b g g.bu 0 v4 [mp2] → Calls Tryz.prog 15 #[.pointer (some ⟨b, 0, none⟩), .int .i64 0, .agg #[.int .i64 d.pr, .int .i64 d.kd, .bool d.ba, .int .i64 d.sa, .int .i64 d.sp, .int .i64 d.da, .int .i64 d.dp, .int .i64 d.tl, .int .i64 d.bi, .int .i64 d.sr, .string d.op, .string d.md, .string d.tx, .string d.ta], .int .i64 ext, .int .i64 id, .int .i64 pe] wx fun e w' => e = .returned (.bool true) ∧ Below wx.heap.size wx w') := fun wx => CHo.out wx _ b _
        clear CHo
        go_upto_region 15 with fail
        try go_frame
        obtain ⟨SX, hSX⟩ : ∃ SX : World → Prop, ∀ w', Sof SX w' ↔ St [(w.heap.size, (cfl c), 28), (w.heap.size + 1, #[.int .i64 k0, .int .i64 k1, .int .i64 k2, .int .i64 k3, .int .i64 k4, .int .i64 k5, .int .i64 k6, .int .i64 k7, .int .i64 k8, .string m0, .string m1, .string m2], 30), (w.heap.size + 1 + 1, #[.int .i64 k0, .int .i64 d.sa, .int .i64 d.sp, .int .i64 l3, .int .i64 l4, .int .i64 l5, .int .i64 l6, .int .i64 l7, .int .i64 l8, .string n0, .string n1, .string n2], 30), (w.heap.size + 1 + 1 + 1, #[.int .i64 j0, .int .i64 j1, .int .i64 j2, .int .i64 j3, .int .i64 j4, .int .i64 j5, .int .i64 j6, .int .i64 j7, .int .i64 j8, .string r0, .string r1, .string r2], 30), (w1.heap.size, (cfl g), 28), (w2.heap.size, (dgl d), 33), (w7.heap.size, (dgl a), 33), (w8.heap.size, (dgl { a with sa := g.oa, sp := ext, tl := a.tl - 1 }), 33)] w w' := ⟨_, fun _ => Iff.rfl⟩
        have HSX : Hid _ := hSX
        clear hSX
        have ss : Hid (Sof SX w9.drew) := (HSX.out _).2 (St.drew S_w9.out)
        have TD : Hid _ := Tb.drew HT.out
        go_cut [89] (fun ov wx => ov = .bool false ∧ St [(w.heap.size, (cfl c), 28), (w.heap.size + 1, #[.int .i64 k0, .int .i64 k1, .int .i64 k2, .int .i64 k3, .int .i64 k4, .int .i64 k5, .int .i64 k6, .int .i64 k7, .int .i64 k8, .string m0, .string m1, .string m2], 30), (w.heap.size + 1 + 1, #[.int .i64 k0, .int .i64 d.sa, .int .i64 d.sp, .int .i64 l3, .int .i64 l4, .int .i64 l5, .int .i64 l6, .int .i64 l7, .int .i64 l8, .string n0, .string n1, .string n2], 30), (w.heap.size + 1 + 1 + 1, #[.int .i64 j0, .int .i64 j1, .int .i64 j2, .int .i64 j3, .int .i64 j4, .int .i64 j5, .int .i64 j6, .int .i64 j7, .int .i64 j8, .string r0, .string r1, .string r2], 30), (w1.heap.size, (cfl g), 28), (w2.heap.size, (dgl d), 33), (w7.heap.size, (dgl a), 33), (w8.heap.size, (dgl { a with sa := g.oa, sp := ext, tl := a.tl - 1 }), 33)] w wx ∧ Bat wx v2.heap.size b g g.bu 0 v4 [mp2])
        case first =>
          refine wp_region_held_drew (S := fun w' => Sof SX w') (by kernel_rfl) ss.out (fun hHeld => ?_)
          refine takeL (i := 0) (v := .bool true) rfl (by kernel_rfl) (by kernel_rfl) (by kernel_rfl) (fun _ _ _ h => h) (yields_mv (by rfl) (.inl rfl) rfl) (by assumption) ?_
          try go_frame
          refine takeL (i := 1) (v := .bool false) rfl (by kernel_rfl) (by kernel_rfl) (by kernel_rfl) (fun _ _ _ h => h) (Or.inl ⟨by rfl, fun w' hSw => by first | rfl | go_simp⟩) (by assumption) ?_
          try go_frame
          refine takeL (i := 2) (v := .bool false) rfl (by kernel_rfl) (by kernel_rfl) (by kernel_rfl) (fun _ _ _ h => h) (yields_mv (by rfl) (.inl rfl) rfl) (by assumption) ?_
          try go_frame
          refine takeL (i := 3) (v := .pointer (some ⟨b, 0, none⟩)) rfl (by kernel_rfl) (by kernel_rfl) (by kernel_rfl) (fun _ _ _ h => h) (yields_mv (by rfl) (.inl rfl) rfl) (by assumption) ?_
          try go_frame
          refine takeL (i := 4) (v := .agg #[.int .i64 d.pr, .int .i64 d.kd, .bool d.ba, .int .i64 d.sa, .int .i64 d.sp, .int .i64 d.da, .int .i64 d.dp, .int .i64 d.tl, .int .i64 d.bi, .int .i64 d.sr, .string d.op, .string d.md, .string d.tx, .string d.ta]) rfl (by kernel_rfl) (by kernel_rfl) (by kernel_rfl) (fun _ _ _ h => h) (yields_dg (by rfl) rfl (w2.heap.size) rfl [.int .i64 d.pr, .int .i64 d.kd, .bool d.ba, .int .i64 d.sa, .int .i64 d.sp, .int .i64 d.da, .int .i64 d.dp, .int .i64 d.tl, .int .i64 d.bi, .int .i64 d.sr, .string d.op, .string d.md, .string d.tx, .string d.ta] rfl (fun w' h => ⟨33, show w'.heap[w2.heap.size]? = some (.cells #[.int .i64 d.pr, .int .i64 d.kd, .bool d.ba, .int .i64 d.sa, .int .i64 d.sp, .int .i64 d.da, .int .i64 d.dp, .int .i64 d.tl, .int .i64 d.bi, .int .i64 d.sr, .string d.op, .string d.md, .string d.tx, .string d.ta] 33 (0, 0)) from St.get ((HSX.out w').1 h) 5 rfl⟩)) (by assumption) ?_
          try go_frame
          refine takeL (i := 5) (v := .int .i64 ext) rfl (by kernel_rfl) (by kernel_rfl) (by kernel_rfl) (fun _ _ _ h => h) (yields_mv (by rfl) (.inl rfl) rfl) (by assumption) ?_
          try go_frame
          refine takeL (i := 6) (v := .agg #[.int .i64 g.ia, .int .i64 g.oa, .int .i64 g.lo, .int .i64 g.hi, .int .i64 g.cp, .int .i64 g.im, .int .i64 g.om, .int .i64 g.iu, .int .i64 g.it, .int .i64 g.iq, .int .i64 g.bu, .int .i64 g.ra]) rfl (by kernel_rfl) (by kernel_rfl) (by kernel_rfl) (fun _ _ _ h => h) (yields_cf (by rfl) rfl (w1.heap.size) rfl [.int .i64 g.ia, .int .i64 g.oa, .int .i64 g.lo, .int .i64 g.hi, .int .i64 g.cp, .int .i64 g.im, .int .i64 g.om, .int .i64 g.iu, .int .i64 g.it, .int .i64 g.iq, .int .i64 g.bu, .int .i64 g.ra] rfl (fun w' h => ⟨28, show w'.heap[w1.heap.size]? = some (.cells #[.int .i64 g.ia, .int .i64 g.oa, .int .i64 g.lo, .int .i64 g.hi, .int .i64 g.cp, .int .i64 g.im, .int .i64 g.om, .int .i64 g.iu, .int .i64 g.it, .int .i64 g.iq, .int .i64 g.bu, .int .i64 g.ra] 28 (0, 0)) from St.get ((HSX.out w').1 h) 4 rfl⟩)) (by assumption) ?_
          try go_frame
          refine takeL (i := 7) (v := .pointer (some ⟨w2.heap.size, 0, none⟩)) rfl (by kernel_rfl) (by kernel_rfl) (by kernel_rfl) (fun _ _ _ h => h) (Or.inl ⟨by rfl, fun w' hSw => by first | rfl | go_simp⟩) (by assumption) ?_
          try go_frame
          refine takeL (i := 8) (v := .int .i64 d.pr) rfl (by kernel_rfl) (by kernel_rfl) (by kernel_rfl) (fun _ _ _ h => h) (yields_in (by rfl) rfl rfl (fun w' h => St.at 5 0 rfl rfl w' ((HSX.out w').1 h))) (by assumption) ?_
          try go_frame
          refine takeL (i := 10) (v := .int .i64 pe) rfl (by kernel_rfl) (by kernel_rfl) (by kernel_rfl) (fun _ _ _ h => h) (yields_mv (by rfl) (.inl rfl) rfl) (by assumption) ?_
          try go_frame
          refine callL (i := 9) (by kernel_rfl) rfl (by rfl) (fun K hK => ?_)
          go_simp
          go_wp2_with (first | (go_at_call 16; refine Calls.mono (cJ.at _) ?_; rintro e wi ⟨rfl, hbi⟩; have hki : Sof SX wi := (HSX.out _).2 (St.next ((HSX.out _).1 ss.out) hbi); have TI : Hid _ := Tb.below TD.out hbi))
          refine hK.out _ _ ?_ (fun hHeld => ?_)
          · exact hki
          clear hK
          clear K
          try go_frame
          refine callL (i := 11) (by kernel_rfl) rfl (by rfl) (fun K hK => ?_)
          go_simp
          go_wp2_with (first | (go_at_call 15; refine Calls.mono (CH.out _ TI.out) ?_; rintro e wj ⟨rfl, hbj⟩; have hkj : Sof SX wj := (HSX.out _).2 (St.next ((HSX.out _).1 hki) hbj); have TJ : Hid _ := Tb.below TI.out hbj))
          refine hK.out _ _ ?_ (fun hHeld => ?_)
          · exact hkj
          clear hK
          clear K
          try go_frame
          refine takeL (i := 12) (v := .bool false) rfl (by kernel_rfl) (by kernel_rfl) (by kernel_rfl) (fun _ _ _ h => h) (Or.inl ⟨by rfl, fun w' hSw => by first | rfl | go_simp⟩) (by assumption) ?_
          try go_frame
          refine takeL (i := 13) (v := .bool false) rfl (by kernel_rfl) (by kernel_rfl) (by kernel_rfl) (fun _ _ _ h => h) (Or.inl ⟨by rfl, fun w' hSw => by first | rfl | go_simp⟩) (by assumption) ?_
          try go_frame
          refine wpAnyH_done (by kernel_rfl) ?_ _
          go_wp2_with fail
          go_meet
          exact ⟨rfl, (HSX.out _).1 hkj, TJ.out⟩
        case rest =>
          obtain ⟨rfl, hst0, htb0⟩ := hcut
          obtain ⟨w10, hw10⟩ : ∃ w10 : World, w10 = wc := ⟨_, rfl⟩
          subst hw10
          have S_w10 : Hid (St [(w.heap.size, (cfl c), 28), (w.heap.size + 1, #[.int .i64 k0, .int .i64 k1, .int .i64 k2, .int .i64 k3, .int .i64 k4, .int .i64 k5, .int .i64 k6, .int .i64 k7, .int .i64 k8, .string m0, .string m1, .string m2], 30), (w.heap.size + 1 + 1, #[.int .i64 k0, .int .i64 d.sa, .int .i64 d.sp, .int .i64 l3, .int .i64 l4, .int .i64 l5, .int .i64 l6, .int .i64 l7, .int .i64 l8, .string n0, .string n1, .string n2], 30), (w.heap.size + 1 + 1 + 1, #[.int .i64 j0, .int .i64 j1, .int .i64 j2, .int .i64 j3, .int .i64 j4, .int .i64 j5, .int .i64 j6, .int .i64 j7, .int .i64 j8, .string r0, .string r1, .string r2], 30), (w1.heap.size, (cfl g), 28), (w2.heap.size, (dgl d), 33), (w7.heap.size, (dgl a), 33), (w8.heap.size, (dgl { a with sa := g.oa, sp := ext, tl := a.tl - 1 }), 33)] w w10) := hst0
          clear S_w9
          clear HT
          have HT : Hid _ := htb0
          clear htb0 hst0 HSX ss TD CH cJ
          have q_p0 : w10.cell? ⟨w.heap.size + 1, 0, none⟩ = some (.int .i64 k0) := St.at 1 0 rfl rfl _ S_w10.out
          have fz := St.frz 3 rfl S_w10.out
          have q_v0 : w10.cell? ⟨w.heap.size + 1 + 1 + 1, 0, none⟩ = some (.int .i64 j0) := St.at 3 0 rfl rfl _ S_w10.out
          go_upto_region 18 with fail
          have S_u11 : Hid (St [(w.heap.size, (cfl c), 28), (w.heap.size + 1, #[.int .i64 k0, .int .i64 k1, .int .i64 k2, .int .i64 k3, .int .i64 k4, .int .i64 k5, .int .i64 k6, .int .i64 k7, .int .i64 k8, .string m0, .string m1, .string m2], 30), (w.heap.size + 1 + 1, #[.int .i64 k0, .int .i64 d.sa, .int .i64 d.sp, .int .i64 l3, .int .i64 l4, .int .i64 l5, .int .i64 l6, .int .i64 l7, .int .i64 l8, .string n0, .string n1, .string n2], 30), (w.heap.size + 1 + 1 + 1, #[.int .i64 k0, .int .i64 j1, .int .i64 j2, .int .i64 j3, .int .i64 j4, .int .i64 j5, .int .i64 j6, .int .i64 j7, .int .i64 j8, .string r0, .string r1, .string r2], 30), (w1.heap.size, (cfl g), 28), (w2.heap.size, (dgl d), 33), (w7.heap.size, (dgl a), 33), (w8.heap.size, (dgl { a with sa := g.oa, sp := ext, tl := a.tl - 1 }), 33)] w (w10.setCell ⟨w.heap.size + 1 + 1 + 1, 0, none⟩ (.int .i64 k0))) := St.setAt (L1 := [(w.heap.size, (cfl c), 28), (w.heap.size + 1, #[.int .i64 k0, .int .i64 k1, .int .i64 k2, .int .i64 k3, .int .i64 k4, .int .i64 k5, .int .i64 k6, .int .i64 k7, .int .i64 k8, .string m0, .string m1, .string m2], 30), (w.heap.size + 1 + 1, #[.int .i64 k0, .int .i64 d.sa, .int .i64 d.sp, .int .i64 l3, .int .i64 l4, .int .i64 l5, .int .i64 l6, .int .i64 l7, .int .i64 l8, .string n0, .string n1, .string n2], 30)]) (L2 := [(w1.heap.size, (cfl g), 28), (w2.heap.size, (dgl d), 33), (w7.heap.size, (dgl a), 33), (w8.heap.size, (dgl { a with sa := g.oa, sp := ext, tl := a.tl - 1 }), 33)]) S_w10.out (by omega) (by simp; omega) 0 (.int .i64 k0)
          have T_u11 : Hid _ := Tb.other3 HT.out (p := ⟨w.heap.size + 1 + 1 + 1, 0, none⟩) (by show b ≠ w.heap.size + 1 + 1 + 1; omega) (fun o e => by have := (HT.out.row.lt o e).1; show o ≠ w.heap.size + 1 + 1 + 1; omega) (.int .i64 k0)
          generalize w10.setCell ⟨w.heap.size + 1 + 1 + 1, 0, none⟩ (.int .i64 k0) = u11 at S_u11 T_u11 ⊢
          clear S_w10 fz q_p0 q_v0
          clear HT
          have HT : Hid _ := T_u11.out
          clear T_u11
          have q_g6 : u11.cell? ⟨w1.heap.size, 6, none⟩ = some (.int .i64 g.om) := St.at 4 6 rfl rfl _ S_u11.out
          go_wp2_with (first | (refine pull_pk [.int .i64 k0, .int .i64 j1, .int .i64 j2, .int .i64 j3, .int .i64 j4, .int .i64 j5, .int .i64 j6, .int .i64 j7, .int .i64 j8, .string r0, .string r1, .string r2] rfl (w.heap.size + 1 + 1 + 1) (St.get S_u11.out 3 rfl) rfl rfl rfl ?_) | (refine pull_cf [.int .i64 g.ia, .int .i64 g.oa, .int .i64 g.lo, .int .i64 g.hi, .int .i64 g.cp, .int .i64 g.im, .int .i64 g.om, .int .i64 g.iu, .int .i64 g.it, .int .i64 g.iq, .int .i64 g.bu, .int .i64 g.ra] rfl (w1.heap.size) (St.get S_u11.out 4 rfl) rfl rfl rfl ?_))
          refine Calls.mono (CV.out _) ?_; rintro e w12 ⟨s, rfl, hV, sp0, sp1, hb12⟩
          have S_w12 : Hid (St [(w.heap.size, (cfl c), 28), (w.heap.size + 1, #[.int .i64 k0, .int .i64 k1, .int .i64 k2, .int .i64 k3, .int .i64 k4, .int .i64 k5, .int .i64 k6, .int .i64 k7, .int .i64 k8, .string m0, .string m1, .string m2], 30), (w.heap.size + 1 + 1, #[.int .i64 k0, .int .i64 d.sa, .int .i64 d.sp, .int .i64 l3, .int .i64 l4, .int .i64 l5, .int .i64 l6, .int .i64 l7, .int .i64 l8, .string n0, .string n1, .string n2], 30), (w.heap.size + 1 + 1 + 1, #[.int .i64 k0, .int .i64 j1, .int .i64 j2, .int .i64 j3, .int .i64 j4, .int .i64 j5, .int .i64 j6, .int .i64 j7, .int .i64 j8, .string r0, .string r1, .string r2], 30), (w1.heap.size, (cfl g), 28), (w2.heap.size, (dgl d), 33), (w7.heap.size, (dgl a), 33), (w8.heap.size, (dgl { a with sa := g.oa, sp := ext, tl := a.tl - 1 }), 33)] w w12) := St.next S_u11.out hb12
          have HT_w12 : Hid _ := Tb.below HT.out hb12
          clear HT
          have HT : Hid _ := HT_w12.out
          clear HT_w12
          clear q_g6
          generalize (Value.agg #[.int .i64 k0, .int .i64 j1, .int .i64 j2, .int .i64 j3, .int .i64 j4, .int .i64 j5, .int .i64 j6, .int .i64 j7, .int .i64 j8, .string r0, .string r1, .string r2]) = B14
          generalize (Value.agg #[.int .i64 g.ia, .int .i64 g.oa, .int .i64 g.lo, .int .i64 g.hi, .int .i64 g.cp, .int .i64 g.im, .int .i64 g.om, .int .i64 g.iu, .int .i64 g.it, .int .i64 g.iq, .int .i64 g.bu, .int .i64 g.ra]) = B15
          clear S_u11
          have hz_w12 : w8.heap.size < w12.heap.size := St.lt S_w12.out (x := (w8.heap.size, (dgl { a with sa := g.oa, sp := ext, tl := a.tl - 1 }), 33)) (by simp)
          clear hb12
          have hbl_s : b < w12.heap.size := HT.out.lt
          have HO_s : Hid (∀ o, v4.ownBlock = some o → o < w12.heap.size) := fun o e => (HT.out.row.lt o e).2
          rename_i KK hKK
          refine hKK _ _ ?_
          refine keep_dg [.int .i64 s.pr, .int .i64 s.kd, .bool s.ba, .int .i64 s.sa, .int .i64 s.sp, .int .i64 s.da, .int .i64 s.dp, .int .i64 s.tl, .int .i64 s.bi, .int .i64 s.sr, .string s.op, .string s.md, .string s.tx, .string s.ta] rfl rfl rfl rfl rfl (by simp [Value.oneCell']) (by simp [Act.eval, Act.put]) (by simp [Act.eval, Act.put]) ?_
          clear hKK
          clear KK
          have S_v12 : Hid (St [(w.heap.size, (cfl c), 28), (w.heap.size + 1, #[.int .i64 k0, .int .i64 k1, .int .i64 k2, .int .i64 k3, .int .i64 k4, .int .i64 k5, .int .i64 k6, .int .i64 k7, .int .i64 k8, .string m0, .string m1, .string m2], 30), (w.heap.size + 1 + 1, #[.int .i64 k0, .int .i64 d.sa, .int .i64 d.sp, .int .i64 l3, .int .i64 l4, .int .i64 l5, .int .i64 l6, .int .i64 l7, .int .i64 l8, .string n0, .string n1, .string n2], 30), (w.heap.size + 1 + 1 + 1, #[.int .i64 k0, .int .i64 j1, .int .i64 j2, .int .i64 j3, .int .i64 j4, .int .i64 j5, .int .i64 j6, .int .i64 j7, .int .i64 j8, .string r0, .string r1, .string r2], 30), (w1.heap.size, (cfl g), 28), (w2.heap.size, (dgl d), 33), (w7.heap.size, (dgl a), 33), (w8.heap.size, (dgl { a with sa := g.oa, sp := ext, tl := a.tl - 1 }), 33), (w12.heap.size, (dgl s), 33)] w (w12.alloc (.cells #[.int .i64 s.pr, .int .i64 s.kd, .bool s.ba, .int .i64 s.sa, .int .i64 s.sp, .int .i64 s.da, .int .i64 s.dp, .int .i64 s.tl, .int .i64 s.bi, .int .i64 s.sr, .string s.op, .string s.md, .string s.tx, .string s.ta] 33))) := St.alloc S_w12.out (dgl s) 33 (w12.heap.size) rfl
          have HT_v12 : Hid _ := Tb.below HT.out ((Below.refl _ _).alloc (Nat.le_refl _) (.cells #[.int .i64 s.pr, .int .i64 s.kd, .bool s.ba, .int .i64 s.sa, .int .i64 s.sp, .int .i64 s.da, .int .i64 s.dp, .int .i64 s.tl, .int .i64 s.bi, .int .i64 s.sr, .string s.op, .string s.md, .string s.tx, .string s.ta] 33))
          have hs_v12 : w12.heap.size < (w12.alloc (.cells #[.int .i64 s.pr, .int .i64 s.kd, .bool s.ba, .int .i64 s.sa, .int .i64 s.sp, .int .i64 s.da, .int .i64 s.dp, .int .i64 s.tl, .int .i64 s.bi, .int .i64 s.sr, .string s.op, .string s.md, .string s.tx, .string s.ta] 33)).heap.size := by simp
          generalize w12.alloc (.cells #[.int .i64 s.pr, .int .i64 s.kd, .bool s.ba, .int .i64 s.sa, .int .i64 s.sp, .int .i64 s.da, .int .i64 s.dp, .int .i64 s.tl, .int .i64 s.bi, .int .i64 s.sr, .string s.op, .string s.md, .string s.tx, .string s.ta] 33) = v12 at S_v12 hs_v12 HT_v12 ⊢
          clear S_w12
          clear HT
          have HT : Hid _ := HT_v12.out
          clear HT_v12
          clear hs_v12
          have hz_v12 : w12.heap.size < v12.heap.size := St.lt S_v12.out (x := (w12.heap.size, (dgl s), 33)) (by simp)
          obtain ⟨sp, hsp0, hsp1, i3, cFull, cFree⟩ := CE.out s hV
          have HSP0 : Hid _ := hsp0
          have HSP1 : Hid _ := hsp1
          have CFull : Hid _ := cFull
          have CFree : Hid _ := cFree
          clear CE CV hsp0 hsp1 cFull cFree hV
          have q_s3 : v12.cell? ⟨w12.heap.size, 3, none⟩ = some (.int .i64 s.sa) := St.at 8 3 rfl rfl _ S_v12.out
          have q_d3 : v12.cell? ⟨w2.heap.size, 3, none⟩ = some (.int .i64 d.sa) := St.at 5 3 rfl rfl _ S_v12.out
          have q_s4 : v12.cell? ⟨w12.heap.size, 4, none⟩ = some (.int .i64 s.sp) := St.at 8 4 rfl rfl _ S_v12.out
          have q_d4 : v12.cell? ⟨w2.heap.size, 4, none⟩ = some (.int .i64 d.sp) := St.at 5 4 rfl rfl _ S_v12.out
          go_upto_region 19 with fail
          try go_frame
          go_cut [109] (fun bv wx => bv = .bool (decide (s.sa = d.sa ∧ s.sp = d.sp)) ∧ wx = v12)
          case first =>
            cases e1 : (s.sa == d.sa)
            · have hd : Hid (decide (s.sa = d.sa ∧ s.sp = d.sp) = false) := by show _ = _; simp at e1; simp [e1]
              go_wp2_with fail
              go_meet
              exact ⟨by rw [hd.out], rfl⟩
            · cases e2 : (s.sp == d.sp)
              · have hd : Hid (decide (s.sa = d.sa ∧ s.sp = d.sp) = false) := by show _ = _; simp at e1 e2; simp [e2]
                go_wp2_with fail
                go_meet
                exact ⟨by rw [hd.out], rfl⟩
              · have hd : Hid (decide (s.sa = d.sa ∧ s.sp = d.sp) = true) := by show _ = _; simp at e1 e2; simp [e1, e2]
                go_wp2_with fail
                go_meet
                exact ⟨by rw [hd.out], rfl⟩
          case rest =>
            obtain ⟨rfl, hw⟩ := hcut
            replace hw := hw.symm; subst hw
            obtain ⟨bb, hbb⟩ : ∃ bb : Bool, decide (s.sa = d.sa ∧ s.sp = d.sp) = bb := ⟨_, rfl⟩
            rw [hbb] at HSP0 HSP1 ⊢
            clear hbb
            have fz := St.frz 8 rfl S_v12.out
            go_upto_if 109 with fail
            try go_frame
            go_cut [] (fun wx => St [(w.heap.size, (cfl c), 28), (w.heap.size + 1, #[.int .i64 k0, .int .i64 k1, .int .i64 k2, .int .i64 k3, .int .i64 k4, .int .i64 k5, .int .i64 k6, .int .i64 k7, .int .i64 k8, .string m0, .string m1, .string m2], 30), (w.heap.size + 1 + 1, #[.int .i64 k0, .int .i64 d.sa, .int .i64 d.sp, .int .i64 l3, .int .i64 l4, .int .i64 l5, .int .i64 l6, .int .i64 l7, .int .i64 l8, .string n0, .string n1, .string n2], 30), (w.heap.size + 1 + 1 + 1, #[.int .i64 k0, .int .i64 j1, .int .i64 j2, .int .i64 j3, .int .i64 j4, .int .i64 j5, .int .i64 j6, .int .i64 j7, .int .i64 j8, .string r0, .string r1, .string r2], 30), (w1.heap.size, (cfl g), 28), (w2.heap.size, (dgl d), 33), (w7.heap.size, (dgl a), 33), (w8.heap.size, (dgl { a with sa := g.oa, sp := ext, tl := a.tl - 1 }), 33), (w12.heap.size, #[.int .i64 s.pr, .int .i64 s.kd, .bool s.ba, .int .i64 s.sa, .int .i64 sp, .int .i64 s.da, .int .i64 s.dp, .int .i64 s.tl, .int .i64 s.bi, .int .i64 s.sr, .string s.op, .string s.md, .string s.tx, .string s.ta], 33)] w wx ∧ Bat wx v2.heap.size b g g.bu 0 v4 [mp2])
            case first =>
              cases bb
              · have h : Hid _ := HSP0.out rfl
                go_wp2_with fail
                go_meet
                rw [h.out]; exact ⟨S_v12.out, HT.out⟩
              · have h : Hid _ := HSP1.out rfl
                go_wp2_with fail
                go_meet
                rw [h.out]; exact ⟨St.setAt (L1 := [(w.heap.size, (cfl c), 28), (w.heap.size + 1, #[.int .i64 k0, .int .i64 k1, .int .i64 k2, .int .i64 k3, .int .i64 k4, .int .i64 k5, .int .i64 k6, .int .i64 k7, .int .i64 k8, .string m0, .string m1, .string m2], 30), (w.heap.size + 1 + 1, #[.int .i64 k0, .int .i64 d.sa, .int .i64 d.sp, .int .i64 l3, .int .i64 l4, .int .i64 l5, .int .i64 l6, .int .i64 l7, .int .i64 l8, .string n0, .string n1, .string n2], 30), (w.heap.size + 1 + 1 + 1, #[.int .i64 k0, .int .i64 j1, .int .i64 j2, .int .i64 j3, .int .i64 j4, .int .i64 j5, .int .i64 j6, .int .i64 j7, .int .i64 j8, .string r0, .string r1, .string r2], 30), (w1.heap.size, (cfl g), 28), (w2.heap.size, (dgl d), 33), (w7.heap.size, (dgl a), 33), (w8.heap.size, (dgl { a with sa := g.oa, sp := ext, tl := a.tl - 1 }), 33)]) (L2 := []) S_v12.out (by omega) (by simp; omega) 4 (.int .i64 ((s.sp + 1) % 65536)), Tb.other3 HT.out (p := ⟨w12.heap.size, 4, none⟩) (by show b ≠ w12.heap.size; omega) (fun o e => by have := HO_s.out o e; show o ≠ w12.heap.size; omega) (.int .i64 ((s.sp + 1) % 65536))⟩
            case rest =>
              obtain ⟨hst0, htb0⟩ := hcut
              obtain ⟨w13, hw13⟩ : ∃ w13 : World, w13 = wc := ⟨_, rfl⟩
              subst hw13
              have S_w13 : Hid (St [(w.heap.size, (cfl c), 28), (w.heap.size + 1, #[.int .i64 k0, .int .i64 k1, .int .i64 k2, .int .i64 k3, .int .i64 k4, .int .i64 k5, .int .i64 k6, .int .i64 k7, .int .i64 k8, .string m0, .string m1, .string m2], 30), (w.heap.size + 1 + 1, #[.int .i64 k0, .int .i64 d.sa, .int .i64 d.sp, .int .i64 l3, .int .i64 l4, .int .i64 l5, .int .i64 l6, .int .i64 l7, .int .i64 l8, .string n0, .string n1, .string n2], 30), (w.heap.size + 1 + 1 + 1, #[.int .i64 k0, .int .i64 j1, .int .i64 j2, .int .i64 j3, .int .i64 j4, .int .i64 j5, .int .i64 j6, .int .i64 j7, .int .i64 j8, .string r0, .string r1, .string r2], 30), (w1.heap.size, (cfl g), 28), (w2.heap.size, (dgl d), 33), (w7.heap.size, (dgl a), 33), (w8.heap.size, (dgl { a with sa := g.oa, sp := ext, tl := a.tl - 1 }), 33), (w12.heap.size, #[.int .i64 s.pr, .int .i64 s.kd, .bool s.ba, .int .i64 s.sa, .int .i64 sp, .int .i64 s.da, .int .i64 s.dp, .int .i64 s.tl, .int .i64 s.bi, .int .i64 s.sr, .string s.op, .string s.md, .string s.tx, .string s.ta], 33)] w w13) := hst0
              clear S_v12
              clear HT
              have HT : Hid _ := htb0
              clear htb0 hst0 fz HSP0 HSP1 bb sp0 sp1 q_s3 q_d3 q_s4 q_d4
              have hz_w13 : w12.heap.size < w13.heap.size := St.lt S_w13.out (x := (w12.heap.size, #[.int .i64 s.pr, .int .i64 s.kd, .bool s.ba, .int .i64 s.sa, .int .i64 sp, .int .i64 s.da, .int .i64 s.dp, .int .i64 s.tl, .int .i64 s.bi, .int .i64 s.sr, .string s.op, .string s.md, .string s.tx, .string s.ta], 33)) (by simp)
              have q_g4 : w13.cell? ⟨w1.heap.size, 4, none⟩ = some (.int .i64 g.cp) := St.at 4 4 rfl rfl _ S_w13.out
              have q_g2 : w13.cell? ⟨w1.heap.size, 2, none⟩ = some (.int .i64 g.lo) := St.at 4 2 rfl rfl _ S_w13.out
              have q_g3 : w13.cell? ⟨w1.heap.size, 3, none⟩ = some (.int .i64 g.hi) := St.at 4 3 rfl rfl _ S_w13.out
              go_upto_region 21 with fail
              try go_frame
              go_cut [124] (fun bv wx => bv = .bool (decide (g.cp = 1 ∨ g.lo = g.hi)) ∧ wx = w13)
              case first =>
                cases e1 : (g.cp == 1)
                · cases e2 : (g.lo == g.hi)
                  · have hd : Hid (decide (g.cp = 1 ∨ g.lo = g.hi) = false) := by show _ = _; simp at e1 e2; simp [e1, e2]
                    go_wp2_with fail
                    go_meet
                    exact ⟨by rw [hd.out], rfl⟩
                  · have hd : Hid (decide (g.cp = 1 ∨ g.lo = g.hi) = true) := by show _ = _; simp at e1 e2; simp [e2]
                    go_wp2_with fail
                    go_meet
                    exact ⟨by rw [hd.out], rfl⟩
                · have hd : Hid (decide (g.cp = 1 ∨ g.lo = g.hi) = true) := by show _ = _; simp at e1; simp [e1]
                  go_wp2_with fail
                  go_meet
                  exact ⟨by rw [hd.out], rfl⟩
              case rest =>
                obtain ⟨rfl, hw⟩ := hcut
                replace hw := hw.symm; subst hw
                clear q_g4 q_g2 q_g3
                obtain ⟨bb, hbb⟩ : ∃ bb : Bool, decide (g.cp = 1 ∨ g.lo = g.hi) = bb := ⟨_, rfl⟩
                rw [hbb] at CFull CFree ⊢
                clear hbb
                go_upto_if 124 with fail
                try go_frame
                cases bb
                ·
                  obtain ⟨ow, cG, cU, i4, cP2⟩ := CFree.out rfl
                  have CP2 : Hid _ := cP2
                  clear cP2 CFull CFree
                  go_upto_region 24 with fail
                  try go_frame
                  obtain ⟨SX, hSX⟩ : ∃ SX : World → Prop, ∀ w', Sof SX w' ↔ St [(w.heap.size, (cfl c), 28), (w.heap.size + 1, #[.int .i64 k0, .int .i64 k1, .int .i64 k2, .int .i64 k3, .int .i64 k4, .int .i64 k5, .int .i64 k6, .int .i64 k7, .int .i64 k8, .string m0, .string m1, .string m2], 30), (w.heap.size + 1 + 1, #[.int .i64 k0, .int .i64 d.sa, .int .i64 d.sp, .int .i64 l3, .int .i64 l4, .int .i64 l5, .int .i64 l6, .int .i64 l7, .int .i64 l8, .string n0, .string n1, .string n2], 30), (w.heap.size + 1 + 1 + 1, #[.int .i64 k0, .int .i64 j1, .int .i64 j2, .int .i64 j3, .int .i64 j4, .int .i64 j5, .int .i64 j6, .int .i64 j7, .int .i64 j8, .string r0, .string r1, .string r2], 30), (w1.heap.size, (cfl g), 28), (w2.heap.size, (dgl d), 33), (w7.heap.size, (dgl a), 33), (w8.heap.size, (dgl { a with sa := g.oa, sp := ext, tl := a.tl - 1 }), 33), (w12.heap.size, #[.int .i64 s.pr, .int .i64 s.kd, .bool s.ba, .int .i64 s.sa, .int .i64 sp, .int .i64 s.da, .int .i64 s.dp, .int .i64 s.tl, .int .i64 s.bi, .int .i64 s.sr, .string s.op, .string s.md, .string s.tx, .string s.ta], 33)] w w' := ⟨_, fun _ => Iff.rfl⟩
                  have HSX : Hid _ := hSX
                  clear hSX
                  have ss : Hid (Sof SX w13.drew) := (HSX.out _).2 (St.drew S_w13.out)
                  have TD : Hid _ := Tb.drew HT.out
                  go_cut [19] (fun pv wx => ∃ K, pv = .pointer (some ⟨K, 0, none⟩) ∧ w13.heap.size ≤ K ∧ St [(w.heap.size, (cfl c), 28), (w.heap.size + 1, #[.int .i64 k0, .int .i64 k1, .int .i64 k2, .int .i64 k3, .int .i64 k4, .int .i64 k5, .int .i64 k6, .int .i64 k7, .int .i64 k8, .string m0, .string m1, .string m2], 30), (w.heap.size + 1 + 1, #[.int .i64 k0, .int .i64 d.sa, .int .i64 d.sp, .int .i64 l3, .int .i64 l4, .int .i64 l5, .int .i64 l6, .int .i64 l7, .int .i64 l8, .string n0, .string n1, .string n2], 30), (w.heap.size + 1 + 1 + 1, #[.int .i64 k0, .int .i64 j1, .int .i64 j2, .int .i64 j3, .int .i64 j4, .int .i64 j5, .int .i64 j6, .int .i64 j7, .int .i64 j8, .string r0, .string r1, .string r2], 30), (w1.heap.size, (cfl g), 28), (w2.heap.size, (dgl d), 33), (w7.heap.size, (dgl a), 33), (w8.heap.size, (dgl { a with sa := g.oa, sp := ext, tl := a.tl - 1 }), 33), (w12.heap.size, #[.int .i64 s.pr, .int .i64 s.kd, .bool s.ba, .int .i64 s.sa, .int .i64 sp, .int .i64 s.da, .int .i64 s.dp, .int .i64 s.tl, .int .i64 s.bi, .int .i64 s.sr, .string s.op, .string s.md, .string s.tx, .string s.ta], 33), (K, (dgl { s with sa := g.oa, sp := ow, tl := s.tl - 1 }), 33)] w wx ∧ Bat wx v2.heap.size b g g.bu 0 v4 [mp2])
                  case first =>
                    have HOe : Hid (∀ o, v4.ownBlock = some o → o < w13.heap.size) := fun o e => (HT.out.row.lt o e).2
                    have hbe : b < w13.heap.size := HT.out.lt
                    refine wp_region_held_drew (S := fun w' => Sof SX w') (by kernel_rfl) ss.out (fun hHeld => ?_)
                    refine takeL (i := 0) (v := .agg #[.int .i64 s.pr, .int .i64 s.kd, .bool s.ba, .int .i64 s.sa, .int .i64 sp, .int .i64 s.da, .int .i64 s.dp, .int .i64 s.tl, .int .i64 s.bi, .int .i64 s.sr, .string s.op, .string s.md, .string s.tx, .string s.ta]) rfl (by kernel_rfl) (by kernel_rfl) (by kernel_rfl) (fun _ _ _ h => h) (yields_dg (by rfl) rfl (w12.heap.size) rfl [.int .i64 s.pr, .int .i64 s.kd, .bool s.ba, .int .i64 s.sa, .int .i64 sp, .int .i64 s.da, .int .i64 s.dp, .int .i64 s.tl, .int .i64 s.bi, .int .i64 s.sr, .string s.op, .string s.md, .string s.tx, .string s.ta] rfl (fun w' h => ⟨33, show w'.heap[w12.heap.size]? = some (.cells #[.int .i64 s.pr, .int .i64 s.kd, .bool s.ba, .int .i64 s.sa, .int .i64 sp, .int .i64 s.da, .int .i64 s.dp, .int .i64 s.tl, .int .i64 s.bi, .int .i64 s.sr, .string s.op, .string s.md, .string s.tx, .string s.ta] 33 (0, 0)) from St.get ((HSX.out w').1 h) 8 rfl⟩)) (by assumption) ?_
                    try go_frame
                    refine takeL (i := 1) (v := .agg #[.int .i64 g.ia, .int .i64 g.oa, .int .i64 g.lo, .int .i64 g.hi, .int .i64 g.cp, .int .i64 g.im, .int .i64 g.om, .int .i64 g.iu, .int .i64 g.it, .int .i64 g.iq, .int .i64 g.bu, .int .i64 g.ra]) rfl (by kernel_rfl) (by kernel_rfl) (by kernel_rfl) (fun _ _ _ h => h) (yields_cf (by rfl) rfl (w1.heap.size) rfl [.int .i64 g.ia, .int .i64 g.oa, .int .i64 g.lo, .int .i64 g.hi, .int .i64 g.cp, .int .i64 g.im, .int .i64 g.om, .int .i64 g.iu, .int .i64 g.it, .int .i64 g.iq, .int .i64 g.bu, .int .i64 g.ra] rfl (fun w' h => ⟨28, show w'.heap[w1.heap.size]? = some (.cells #[.int .i64 g.ia, .int .i64 g.oa, .int .i64 g.lo, .int .i64 g.hi, .int .i64 g.cp, .int .i64 g.im, .int .i64 g.om, .int .i64 g.iu, .int .i64 g.it, .int .i64 g.iq, .int .i64 g.bu, .int .i64 g.ra] 28 (0, 0)) from St.get ((HSX.out w').1 h) 4 rfl⟩)) (by assumption) ?_
                    try go_frame
                    refine takeL (i := 2) (v := .agg #[.int .i64 g.ia, .int .i64 g.oa, .int .i64 g.lo, .int .i64 g.hi, .int .i64 g.cp, .int .i64 g.im, .int .i64 g.om, .int .i64 g.iu, .int .i64 g.it, .int .i64 g.iq, .int .i64 g.bu, .int .i64 g.ra]) rfl (by kernel_rfl) (by kernel_rfl) (by kernel_rfl) (fun _ _ _ h => h) (yields_cf (by rfl) rfl (w1.heap.size) rfl [.int .i64 g.ia, .int .i64 g.oa, .int .i64 g.lo, .int .i64 g.hi, .int .i64 g.cp, .int .i64 g.im, .int .i64 g.om, .int .i64 g.iu, .int .i64 g.it, .int .i64 g.iq, .int .i64 g.bu, .int .i64 g.ra] rfl (fun w' h => ⟨28, show w'.heap[w1.heap.size]? = some (.cells #[.int .i64 g.ia, .int .i64 g.oa, .int .i64 g.lo, .int .i64 g.hi, .int .i64 g.cp, .int .i64 g.im, .int .i64 g.om, .int .i64 g.iu, .int .i64 g.it, .int .i64 g.iq, .int .i64 g.bu, .int .i64 g.ra] 28 (0, 0)) from St.get ((HSX.out w').1 h) 4 rfl⟩)) (by assumption) ?_
                    try go_frame
                    refine takeL (i := 3) (v := .pointer (some ⟨w12.heap.size, 4, none⟩)) rfl (by kernel_rfl) (by kernel_rfl) (by kernel_rfl) (fun _ _ _ h => h) (Or.inl ⟨by rfl, fun w' hSw => by first | rfl | go_simp⟩) (by assumption) ?_
                    try go_frame
                    refine takeL (i := 4) (v := .int .i64 sp) rfl (by kernel_rfl) (by kernel_rfl) (by kernel_rfl) (fun _ _ _ h => h) (yields_in (by rfl) rfl rfl (fun w' h => St.at 8 4 rfl rfl w' ((HSX.out w').1 h))) (by assumption) ?_
                    try go_frame
                    refine takeL (i := 5) (v := .int .i64 ext) rfl (by kernel_rfl) (by kernel_rfl) (by kernel_rfl) (fun _ _ _ h => h) (yields_mv (by rfl) (.inl rfl) rfl) (by assumption) ?_
                    try go_frame
                    refine twoL (i := 6) (j := 8) (by kernel_rfl) rfl rfl (by rfl) (by rfl) (fun K hK => ?_) (fun K hK => ?_)
                    ·
                      go_simp
                      go_wp2_with (first | (go_at_call 26; refine Calls.mono (cG.at _) ?_; rintro e wy ⟨rfl, hbwy⟩; have hkwy : Sof SX wy := (HSX.out _).2 (St.next ((HSX.out _).1 ss.out) hbwy); have Twy : Hid _ := Tb.below TD.out hbwy))
                      refine hK.out _ _ ?_ (fun hHeld => ?_)
                      · exact hkwy
                      clear hK
                      clear K
                      try go_frame
                      have hsy : w13.heap.size ≤ wy.heap.size := hbwy.size
                      have hky : Sof SX wy := hkwy
                      have Ty : Hid _ := Twy.out
                      clear hbwy
                      refine twoL (i := 7) (j := 8) (by kernel_rfl) rfl rfl (by rfl) (by rfl) (fun K hK => ?_) (fun K hK => ?_)
                      ·
                        go_simp
                        go_wp2_with (first | (go_at_call 24; refine Calls.mono (cU.at _) ?_; rintro e wx ⟨rfl, hbx⟩; have hkx : Sof SX wx := (HSX.out _).2 (St.next ((HSX.out _).1 hky) hbx); have TX : Hid _ := Tb.below Ty.out hbx))
                        refine hK.out _ _ ?_ (fun hHeld => ?_)
                        · exact hkx
                        clear hK
                        clear K
                        try go_frame
                        have hsx : w13.heap.size ≤ wx.heap.size := Nat.le_trans hsy hbx.size
                        clear hbx
                        refine callL (i := 8) (by kernel_rfl) rfl (by rfl) (fun K hK => ?_)
                        refine alloc_dg rfl ?_
                        have hkwa : Sof SX (wx.alloc (.cells (dgl dg0) 33)) := (HSX.out _).2 (St.next ((HSX.out _).1 hkx) ((Below.refl _ _).alloc (Nat.le_refl _) _))
                        have Twa : Hid _ := Tb.below TX.out ((Below.refl _ _).alloc (Nat.le_refl _) (.cells (dgl dg0) 33))
                        have hzwa : Hid _ := alloc1 wx (.cells (dgl dg0) 33)
                        have hlwa : Hid (wx.heap.size < (wx.alloc (.cells (dgl dg0) 33)).heap.size) := by show _ < _; simp
                        generalize wx.alloc (.cells (dgl dg0) 33) = wa at hkwa Twa hzwa hlwa ⊢
                        refine hK.out _ _ ?_ (fun hHeld => ?_)
                        · exact hkwa
                        clear hK
                        clear K
                        try go_frame
                        refine callL (i := 9) (by kernel_rfl) rfl (by rfl) (fun K hK => ?_)
                        refine store_dg rfl (wx.heap.size) rfl [.int .i64 s.pr, .int .i64 s.kd, .bool s.ba, .int .i64 g.oa, .int .i64 ow, .int .i64 s.da, .int .i64 s.dp, .int .i64 (s.tl - 1), .int .i64 s.bi, .int .i64 s.sr, .string s.op, .string s.md, .string s.tx, .string s.ta] rfl rfl hzwa.out rfl (by simp [Value.oneCell']) ?_
                        have Sf : Hid _ := St.fill ((HSX.out _).1 hkwa) hzwa.out [.int .i64 s.pr, .int .i64 s.kd, .bool s.ba, .int .i64 g.oa, .int .i64 ow, .int .i64 s.da, .int .i64 s.dp, .int .i64 (s.tl - 1), .int .i64 s.bi, .int .i64 s.sr, .string s.op, .string s.md, .string s.tx, .string s.ta] rfl (Nat.le_trans (St.below ((HSX.out _).1 ss.out)).size hsx) (St.ne ((HSX.out _).1 ss.out) hsx)
                        have Tf : Hid _ := Tb.fill (wx.heap.size) (Nat.ne_of_lt (Nat.lt_of_lt_of_le hbe hsx)) (fun o e => Nat.ne_of_lt (Nat.lt_of_lt_of_le (HOe.out o e) hsx)) [.int .i64 s.pr, .int .i64 s.kd, .bool s.ba, .int .i64 g.oa, .int .i64 ow, .int .i64 s.da, .int .i64 s.dp, .int .i64 (s.tl - 1), .int .i64 s.bi, .int .i64 s.sr, .string s.op, .string s.md, .string s.tx, .string s.ta] 0 _ Twa.out
                        have hkf : Sof SX (wa.setCells (wx.heap.size) 0 [.int .i64 s.pr, .int .i64 s.kd, .bool s.ba, .int .i64 g.oa, .int .i64 ow, .int .i64 s.da, .int .i64 s.dp, .int .i64 (s.tl - 1), .int .i64 s.bi, .int .i64 s.sr, .string s.op, .string s.md, .string s.tx, .string s.ta]) := (HSX.out _).2 (St.fore Sf.out)
                        generalize wa.setCells (wx.heap.size) 0 [.int .i64 s.pr, .int .i64 s.kd, .bool s.ba, .int .i64 g.oa, .int .i64 ow, .int .i64 s.da, .int .i64 s.dp, .int .i64 (s.tl - 1), .int .i64 s.bi, .int .i64 s.sr, .string s.op, .string s.md, .string s.tx, .string s.ta] = wf at Sf Tf hkf ⊢
                        refine hK.out _ _ ?_ (fun hHeld => ?_)
                        · exact hkf
                        clear hK
                        clear K
                        try go_frame
                        refine wpAnyH_done (by kernel_rfl) ?_ _
                        go_wp2_with fail
                        go_meet
                        exact ⟨_, rfl, hsx, Sf.out, Tf.out⟩
                      ·
                        refine alloc_dg rfl ?_
                        have hkwa : Sof SX (wy.alloc (.cells (dgl dg0) 33)) := (HSX.out _).2 (St.next ((HSX.out _).1 hky) ((Below.refl _ _).alloc (Nat.le_refl _) _))
                        have Twa : Hid _ := Tb.below Ty.out ((Below.refl _ _).alloc (Nat.le_refl _) (.cells (dgl dg0) 33))
                        have hzwa : Hid _ := alloc1 wy (.cells (dgl dg0) 33)
                        have hlwa : Hid (wy.heap.size < (wy.alloc (.cells (dgl dg0) 33)).heap.size) := by show _ < _; simp
                        generalize wy.alloc (.cells (dgl dg0) 33) = wa at hkwa Twa hzwa hlwa ⊢
                        refine hK.out _ _ ?_ (fun hHeld => ?_)
                        · exact hkwa
                        clear hK
                        clear K
                        try go_frame
                        have hzq : Hid _ := hzwa.out
                        have hlq : Hid _ := hlwa.out
                        refine callL (i := 7) (by kernel_rfl) rfl (by rfl) (fun K hK => ?_)
                        go_simp
                        go_wp2_with (first | (go_at_call 24; refine Calls.mono (cU.at _) ?_; rintro e wx ⟨rfl, hbx⟩; have hkx : Sof SX wx := (HSX.out _).2 (St.next ((HSX.out _).1 hkwa) hbx); have TX : Hid _ := Tb.below Twa.out hbx))
                        refine hK.out _ _ ?_ (fun hHeld => ?_)
                        · exact hkx
                        clear hK
                        clear K
                        try go_frame
                        have hzx : Hid _ := (hbx.block wy.heap.size hlq.out).trans hzq.out
                        clear hbx
                        refine callL (i := 9) (by kernel_rfl) rfl (by rfl) (fun K hK => ?_)
                        refine store_dg rfl (wy.heap.size) rfl [.int .i64 s.pr, .int .i64 s.kd, .bool s.ba, .int .i64 g.oa, .int .i64 ow, .int .i64 s.da, .int .i64 s.dp, .int .i64 (s.tl - 1), .int .i64 s.bi, .int .i64 s.sr, .string s.op, .string s.md, .string s.tx, .string s.ta] rfl rfl hzx.out rfl (by simp [Value.oneCell']) ?_
                        have Sf : Hid _ := St.fill ((HSX.out _).1 hkx) hzx.out [.int .i64 s.pr, .int .i64 s.kd, .bool s.ba, .int .i64 g.oa, .int .i64 ow, .int .i64 s.da, .int .i64 s.dp, .int .i64 (s.tl - 1), .int .i64 s.bi, .int .i64 s.sr, .string s.op, .string s.md, .string s.tx, .string s.ta] rfl (Nat.le_trans (St.below ((HSX.out _).1 ss.out)).size hsy) (St.ne ((HSX.out _).1 ss.out) hsy)
                        have Tf : Hid _ := Tb.fill (wy.heap.size) (Nat.ne_of_lt (Nat.lt_of_lt_of_le hbe hsy)) (fun o e => Nat.ne_of_lt (Nat.lt_of_lt_of_le (HOe.out o e) hsy)) [.int .i64 s.pr, .int .i64 s.kd, .bool s.ba, .int .i64 g.oa, .int .i64 ow, .int .i64 s.da, .int .i64 s.dp, .int .i64 (s.tl - 1), .int .i64 s.bi, .int .i64 s.sr, .string s.op, .string s.md, .string s.tx, .string s.ta] 0 _ TX.out
                        have hkf : Sof SX (wx.setCells (wy.heap.size) 0 [.int .i64 s.pr, .int .i64 s.kd, .bool s.ba, .int .i64 g.oa, .int .i64 ow, .int .i64 s.da, .int .i64 s.dp, .int .i64 (s.tl - 1), .int .i64 s.bi, .int .i64 s.sr, .string s.op, .string s.md, .string s.tx, .string s.ta]) := (HSX.out _).2 (St.fore Sf.out)
                        generalize wx.setCells (wy.heap.size) 0 [.int .i64 s.pr, .int .i64 s.kd, .bool s.ba, .int .i64 g.oa, .int .i64 ow, .int .i64 s.da, .int .i64 s.dp, .int .i64 (s.tl - 1), .int .i64 s.bi, .int .i64 s.sr, .string s.op, .string s.md, .string s.tx, .string s.ta] = wf at Sf Tf hkf ⊢
                        refine hK.out _ _ ?_ (fun hHeld => ?_)
                        · exact hkf
                        clear hK
                        clear K
                        try go_frame
                        refine wpAnyH_done (by kernel_rfl) ?_ _
                        go_wp2_with fail
                        go_meet
                        exact ⟨_, rfl, hsy, Sf.out, Tf.out⟩
                    ·
                      refine alloc_dg rfl ?_
                      have hkwa : Sof SX (w13.drew.alloc (.cells (dgl dg0) 33)) := (HSX.out _).2 (St.next ((HSX.out _).1 ss.out) ((Below.refl _ _).alloc (Nat.le_refl _) _))
                      have Twa : Hid _ := Tb.below TD.out ((Below.refl _ _).alloc (Nat.le_refl _) (.cells (dgl dg0) 33))
                      have hzwa : Hid _ := alloc1 w13.drew (.cells (dgl dg0) 33)
                      have hlwa : Hid (w13.drew.heap.size < (w13.drew.alloc (.cells (dgl dg0) 33)).heap.size) := by show _ < _; simp
                      generalize w13.drew.alloc (.cells (dgl dg0) 33) = wa at hkwa Twa hzwa hlwa ⊢
                      refine hK.out _ _ ?_ (fun hHeld => ?_)
                      · exact hkwa
                      clear hK
                      clear K
                      try go_frame
                      refine callL (i := 6) (by kernel_rfl) rfl (by rfl) (fun K hK => ?_)
                      go_simp
                      go_wp2_with (first | (go_at_call 26; refine Calls.mono (cG.at _) ?_; rintro e wy ⟨rfl, hbwy⟩; have hkwy : Sof SX wy := (HSX.out _).2 (St.next ((HSX.out _).1 hkwa) hbwy); have Twy : Hid _ := Tb.below Twa.out hbwy))
                      refine hK.out _ _ ?_ (fun hHeld => ?_)
                      · exact hkwy
                      clear hK
                      clear K
                      try go_frame
                      have hzq : Hid _ := (hbwy.block w13.drew.heap.size hlwa.out).trans hzwa.out
                      have hlq : Hid (w13.drew.heap.size < wy.heap.size) := Nat.lt_of_lt_of_le hlwa.out hbwy.size
                      clear hbwy
                      refine callL (i := 7) (by kernel_rfl) rfl (by rfl) (fun K hK => ?_)
                      go_simp
                      go_wp2_with (first | (go_at_call 24; refine Calls.mono (cU.at _) ?_; rintro e wx ⟨rfl, hbx⟩; have hkx : Sof SX wx := (HSX.out _).2 (St.next ((HSX.out _).1 hkwy) hbx); have TX : Hid _ := Tb.below Twy.out hbx))
                      refine hK.out _ _ ?_ (fun hHeld => ?_)
                      · exact hkx
                      clear hK
                      clear K
                      try go_frame
                      have hzx : Hid _ := (hbx.block w13.drew.heap.size hlq.out).trans hzq.out
                      clear hbx
                      refine callL (i := 9) (by kernel_rfl) rfl (by rfl) (fun K hK => ?_)
                      refine store_dg rfl (w13.drew.heap.size) rfl [.int .i64 s.pr, .int .i64 s.kd, .bool s.ba, .int .i64 g.oa, .int .i64 ow, .int .i64 s.da, .int .i64 s.dp, .int .i64 (s.tl - 1), .int .i64 s.bi, .int .i64 s.sr, .string s.op, .string s.md, .string s.tx, .string s.ta] rfl rfl hzx.out rfl (by simp [Value.oneCell']) ?_
                      have Sf : Hid _ := St.fill ((HSX.out _).1 hkx) hzx.out [.int .i64 s.pr, .int .i64 s.kd, .bool s.ba, .int .i64 g.oa, .int .i64 ow, .int .i64 s.da, .int .i64 s.dp, .int .i64 (s.tl - 1), .int .i64 s.bi, .int .i64 s.sr, .string s.op, .string s.md, .string s.tx, .string s.ta] rfl (Nat.le_trans (St.below ((HSX.out _).1 ss.out)).size (Nat.le_refl w13.heap.size)) (St.ne ((HSX.out _).1 ss.out) (Nat.le_refl w13.heap.size))
                      have Tf : Hid _ := Tb.fill (w13.drew.heap.size) (Nat.ne_of_lt (Nat.lt_of_lt_of_le hbe (Nat.le_refl w13.heap.size))) (fun o e => Nat.ne_of_lt (Nat.lt_of_lt_of_le (HOe.out o e) (Nat.le_refl w13.heap.size))) [.int .i64 s.pr, .int .i64 s.kd, .bool s.ba, .int .i64 g.oa, .int .i64 ow, .int .i64 s.da, .int .i64 s.dp, .int .i64 (s.tl - 1), .int .i64 s.bi, .int .i64 s.sr, .string s.op, .string s.md, .string s.tx, .string s.ta] 0 _ TX.out
                      have hkf : Sof SX (wx.setCells (w13.drew.heap.size) 0 [.int .i64 s.pr, .int .i64 s.kd, .bool s.ba, .int .i64 g.oa, .int .i64 ow, .int .i64 s.da, .int .i64 s.dp, .int .i64 (s.tl - 1), .int .i64 s.bi, .int .i64 s.sr, .string s.op, .string s.md, .string s.tx, .string s.ta]) := (HSX.out _).2 (St.fore Sf.out)
                      generalize wx.setCells (w13.drew.heap.size) 0 [.int .i64 s.pr, .int .i64 s.kd, .bool s.ba, .int .i64 g.oa, .int .i64 ow, .int .i64 s.da, .int .i64 s.dp, .int .i64 (s.tl - 1), .int .i64 s.bi, .int .i64 s.sr, .string s.op, .string s.md, .string s.tx, .string s.ta] = wf at Sf Tf hkf ⊢
                      refine hK.out _ _ ?_ (fun hHeld => ?_)
                      · exact hkf
                      clear hK
                      clear K
                      try go_frame
                      refine wpAnyH_done (by kernel_rfl) ?_ _
                      go_wp2_with fail
                      go_meet
                      exact ⟨_, rfl, (Nat.le_refl w13.heap.size), Sf.out, Tf.out⟩
                  case rest =>
                    obtain ⟨KT, rfl, hKT, hst0, htb0⟩ := hcut
                    have HOe : Hid (∀ o, v4.ownBlock = some o → o < w13.heap.size) := fun o e => (HT.out.row.lt o e).2
                    have hbe : b < w13.heap.size := HT.out.lt
                    obtain ⟨w14, hw14⟩ : ∃ w14 : World, w14 = wc := ⟨_, rfl⟩
                    subst hw14
                    have S_w14 : Hid (St [(w.heap.size, (cfl c), 28), (w.heap.size + 1, #[.int .i64 k0, .int .i64 k1, .int .i64 k2, .int .i64 k3, .int .i64 k4, .int .i64 k5, .int .i64 k6, .int .i64 k7, .int .i64 k8, .string m0, .string m1, .string m2], 30), (w.heap.size + 1 + 1, #[.int .i64 k0, .int .i64 d.sa, .int .i64 d.sp, .int .i64 l3, .int .i64 l4, .int .i64 l5, .int .i64 l6, .int .i64 l7, .int .i64 l8, .string n0, .string n1, .string n2], 30), (w.heap.size + 1 + 1 + 1, #[.int .i64 k0, .int .i64 j1, .int .i64 j2, .int .i64 j3, .int .i64 j4, .int .i64 j5, .int .i64 j6, .int .i64 j7, .int .i64 j8, .string r0, .string r1, .string r2], 30), (w1.heap.size, (cfl g), 28), (w2.heap.size, (dgl d), 33), (w7.heap.size, (dgl a), 33), (w8.heap.size, (dgl { a with sa := g.oa, sp := ext, tl := a.tl - 1 }), 33), (w12.heap.size, #[.int .i64 s.pr, .int .i64 s.kd, .bool s.ba, .int .i64 s.sa, .int .i64 sp, .int .i64 s.da, .int .i64 s.dp, .int .i64 s.tl, .int .i64 s.bi, .int .i64 s.sr, .string s.op, .string s.md, .string s.tx, .string s.ta], 33), (KT, (dgl { s with sa := g.oa, sp := ow, tl := s.tl - 1 }), 33)] w w14) := hst0
                    clear S_w13
                    clear HT
                    have HT : Hid (Bat w14 v2.heap.size b g g.bu 0 v4 [mp2]) := htb0
                    clear htb0 hst0 HSX ss TD cG cU
                    have CP3 : Hid (∀ wx, Bat wx v2.heap.size b g g.bu 0 v4 [mp2] → Calls Tryz.prog 22 #[.pointer (some ⟨b, 0, none⟩), .int .i64 0, .string (kfr { s with sp := sp }), .int .i64 1, .string (kfr { s with sa := g.oa, sp := ow, tl := s.tl - 1 })] wx fun e w' => e = .returned (.bool true) ∧ ∃ v' ms, ms.length = 2 ∧ BL wx w' v2.heap.size b g v4 v' g.bu 0 ms) := fun wx => CP2.out wx _ b _
                    clear CP2
                    generalize kfr { s with sp := sp } = XS at i3 CP3
                    generalize kfr { s with sa := g.oa, sp := ow, tl := s.tl - 1 } = XT at i4 CP3
                    have S_two : Hid (St [(w12.heap.size, #[.int .i64 s.pr, .int .i64 s.kd, .bool s.ba, .int .i64 s.sa, .int .i64 sp, .int .i64 s.da, .int .i64 s.dp, .int .i64 s.tl, .int .i64 s.bi, .int .i64 s.sr, .string s.op, .string s.md, .string s.tx, .string s.ta], 33), (KT, (dgl { s with sa := g.oa, sp := ow, tl := s.tl - 1 }), 33)] w w14) := St.pick2 S_w14.out 8 9 rfl rfl
                    clear S_w14
                    go_upto_region 25 with fail
                    try go_frame
                    obtain ⟨SX, hSX⟩ : ∃ SX : World → Prop, ∀ w', Sof SX w' ↔ St [(w12.heap.size, #[.int .i64 s.pr, .int .i64 s.kd, .bool s.ba, .int .i64 s.sa, .int .i64 sp, .int .i64 s.da, .int .i64 s.dp, .int .i64 s.tl, .int .i64 s.bi, .int .i64 s.sr, .string s.op, .string s.md, .string s.tx, .string s.ta], 33), (KT, (dgl { s with sa := g.oa, sp := ow, tl := s.tl - 1 }), 33)] w w' := ⟨_, fun _ => Iff.rfl⟩
                    have HSX : Hid _ := hSX
                    clear hSX
                    have ss : Hid (Sof SX w14.drew) := (HSX.out _).2 (St.drew S_two.out)
                    have TD : Hid _ := Tb.drew HT.out
                    go_cut [15] (fun ov wx => ov = .bool true ∧ Below w.heap.size w wx ∧ ∃ v5 ms, ms.length = 2 ∧ Bat wx v2.heap.size b g g.bu 0 v5 ms)
                    case first =>
                      refine wp_region_held_drew (S := fun w' => Sof SX w') (by kernel_rfl) ss.out (fun hHeld => ?_)
                      refine takeL (i := 1) (v := .agg #[.int .i64 s.pr, .int .i64 s.kd, .bool s.ba, .int .i64 s.sa, .int .i64 sp, .int .i64 s.da, .int .i64 s.dp, .int .i64 s.tl, .int .i64 s.bi, .int .i64 s.sr, .string s.op, .string s.md, .string s.tx, .string s.ta]) rfl (by kernel_rfl) (by kernel_rfl) (by kernel_rfl) (fun _ _ _ h => h) (yields_dg (by rfl) rfl (w12.heap.size) rfl [.int .i64 s.pr, .int .i64 s.kd, .bool s.ba, .int .i64 s.sa, .int .i64 sp, .int .i64 s.da, .int .i64 s.dp, .int .i64 s.tl, .int .i64 s.bi, .int .i64 s.sr, .string s.op, .string s.md, .string s.tx, .string s.ta] rfl (fun w' h => ⟨33, show w'.heap[w12.heap.size]? = some (.cells #[.int .i64 s.pr, .int .i64 s.kd, .bool s.ba, .int .i64 s.sa, .int .i64 sp, .int .i64 s.da, .int .i64 s.dp, .int .i64 s.tl, .int .i64 s.bi, .int .i64 s.sr, .string s.op, .string s.md, .string s.tx, .string s.ta] 33 (0, 0)) from St.get ((HSX.out w').1 h) 0 rfl⟩)) (by assumption) ?_
                      try go_frame
                      refine takeL (i := 3) (v := .agg #[.int .i64 s.pr, .int .i64 s.kd, .bool s.ba, .int .i64 g.oa, .int .i64 ow, .int .i64 s.da, .int .i64 s.dp, .int .i64 (s.tl - 1), .int .i64 s.bi, .int .i64 s.sr, .string s.op, .string s.md, .string s.tx, .string s.ta]) rfl (by kernel_rfl) (by kernel_rfl) (by kernel_rfl) (fun _ _ _ h => h) (yields_dg (by rfl) rfl (KT) rfl [.int .i64 s.pr, .int .i64 s.kd, .bool s.ba, .int .i64 g.oa, .int .i64 ow, .int .i64 s.da, .int .i64 s.dp, .int .i64 (s.tl - 1), .int .i64 s.bi, .int .i64 s.sr, .string s.op, .string s.md, .string s.tx, .string s.ta] rfl (fun w' h => ⟨33, show w'.heap[KT]? = some (.cells #[.int .i64 s.pr, .int .i64 s.kd, .bool s.ba, .int .i64 g.oa, .int .i64 ow, .int .i64 s.da, .int .i64 s.dp, .int .i64 (s.tl - 1), .int .i64 s.bi, .int .i64 s.sr, .string s.op, .string s.md, .string s.tx, .string s.ta] 33 (0, 0)) from St.get ((HSX.out w').1 h) 1 rfl⟩)) (by assumption) ?_
                      try go_frame
                      refine takeL (i := 0) (v := .pointer (some ⟨b, 0, none⟩)) rfl (by kernel_rfl) (by kernel_rfl) (by kernel_rfl) (fun _ _ _ h => h) (yields_mv (by rfl) (.inl rfl) rfl) (by assumption) ?_
                      try go_frame
                      refine callL (i := 2) (by kernel_rfl) rfl (by rfl) (fun K hK => ?_)
                      go_simp
                      go_wp2_with (first | (go_at_call 23; refine Calls.mono (i3.at _) ?_; rintro e wx ⟨rfl, hbx⟩; have hkx : Sof SX wx := (HSX.out _).2 (St.next ((HSX.out _).1 ss.out) hbx); have TX : Hid _ := Tb.below TD.out hbx))
                      refine hK.out _ _ ?_ (fun hHeld => ?_)
                      · exact hkx
                      clear hK
                      clear K
                      try go_frame
                      clear hbx
                      refine callL (i := 4) (by kernel_rfl) rfl (by rfl) (fun K hK => ?_)
                      go_simp
                      go_wp2_with (first | (go_at_call 23; refine Calls.mono (i4.at _) ?_; rintro e wy ⟨rfl, hby⟩; have hky : Sof SX wy := (HSX.out _).2 (St.next ((HSX.out _).1 hkx) hby); have TY : Hid _ := Tb.below TX.out hby))
                      refine hK.out _ _ ?_ (fun hHeld => ?_)
                      · exact hky
                      clear hK
                      clear K
                      try go_frame
                      clear hby
                      refine callL (i := 5) (by kernel_rfl) rfl (by rfl) (fun K hK => ?_)
                      go_simp
                      go_wp2_with (first | (go_at_call 22; refine Calls.mono (CP3.out _ TY.out) ?_; rintro e wz ⟨rfl, v5, ms, hms, hbz⟩; have hkz : Sof SX wz := (HSX.out _).2 (St.bl ((HSX.out _).1 hky) TY.out hbs hbz (by omega) (hi := w12.heap.size) hbl_s HO_s.out (by simp; omega))))
                      refine hK.out _ _ ?_ (fun hHeld => ?_)
                      · exact hkz
                      clear hK
                      clear K
                      try go_frame
                      refine takeL (i := 6) (v := .bool true) rfl (by kernel_rfl) (by kernel_rfl) (by kernel_rfl) (fun _ _ _ h => h) (yields_mv (by rfl) (.inr rfl) rfl) (by assumption) ?_
                      try go_frame
                      refine wpAnyH_done (by kernel_rfl) ?_ _
                      go_wp2_with fail
                      go_meet
                      exact ⟨rfl, ((HSX.out _).1 hkz).below, v5, ms, hms, hbz.bat⟩
                    case rest =>
                      obtain ⟨rfl, hst0, v5, ms, hms, htb0⟩ := hcut
                      have cL := live_any htb0 (by omega)
                      rw [hms] at cL
                      have CL : Hid (Calls Tryz.prog 17 #[.pointer (some ⟨b, 0, none⟩)] wc fun e w' => e = .returned (.int .i64 2) ∧ w' = wc) := cL
                      clear cL htb0 HSX ss TD
                      go_wp2_with fail
                      refine Calls.mono CL.out ?_; rintro e w' ⟨rfl, hw⟩; replace hw := hw.symm; subst hw
                      go_wp2
                      go_ret
                      exact ⟨rfl, hst0⟩
                ·
                  have cZ := CFull.out rfl
                  have CZ : Hid _ := cZ
                  clear cZ CFull CFree
                  generalize kfr { s with sp := sp } = XS at i3 CZ
                  go_wp2_with (first | (refine pull_dg [.int .i64 s.pr, .int .i64 s.kd, .bool s.ba, .int .i64 s.sa, .int .i64 sp, .int .i64 s.da, .int .i64 s.dp, .int .i64 s.tl, .int .i64 s.bi, .int .i64 s.sr, .string s.op, .string s.md, .string s.tx, .string s.ta] rfl (w12.heap.size) (St.get S_w13.out 8 rfl) rfl rfl rfl ?_))
                  refine Calls.mono (i3.at _) ?_; rintro e w15 ⟨rfl, hb15⟩
                  have S_w15 : Hid (St [(w.heap.size, (cfl c), 28), (w.heap.size + 1, #[.int .i64 k0, .int .i64 k1, .int .i64 k2, .int .i64 k3, .int .i64 k4, .int .i64 k5, .int .i64 k6, .int .i64 k7, .int .i64 k8, .string m0, .string m1, .string m2], 30), (w.heap.size + 1 + 1, #[.int .i64 k0, .int .i64 d.sa, .int .i64 d.sp, .int .i64 l3, .int .i64 l4, .int .i64 l5, .int .i64 l6, .int .i64 l7, .int .i64 l8, .string n0, .string n1, .string n2], 30), (w.heap.size + 1 + 1 + 1, #[.int .i64 k0, .int .i64 j1, .int .i64 j2, .int .i64 j3, .int .i64 j4, .int .i64 j5, .int .i64 j6, .int .i64 j7, .int .i64 j8, .string r0, .string r1, .string r2], 30), (w1.heap.size, (cfl g), 28), (w2.heap.size, (dgl d), 33), (w7.heap.size, (dgl a), 33), (w8.heap.size, (dgl { a with sa := g.oa, sp := ext, tl := a.tl - 1 }), 33), (w12.heap.size, #[.int .i64 s.pr, .int .i64 s.kd, .bool s.ba, .int .i64 s.sa, .int .i64 sp, .int .i64 s.da, .int .i64 s.dp, .int .i64 s.tl, .int .i64 s.bi, .int .i64 s.sr, .string s.op, .string s.md, .string s.tx, .string s.ta], 33)] w w15) := St.next S_w13.out hb15
                  have HT_w15 : Hid _ := Tb.below HT.out hb15
                  clear HT
                  have HT : Hid _ := HT_w15.out
                  clear HT_w15
                  generalize (Value.agg #[.int .i64 s.pr, .int .i64 s.kd, .bool s.ba, .int .i64 s.sa, .int .i64 sp, .int .i64 s.da, .int .i64 s.dp, .int .i64 s.tl, .int .i64 s.bi, .int .i64 s.sr, .string s.op, .string s.md, .string s.tx, .string s.ta]) = B16
                  clear S_w13
                  clear hb15
                  obtain ⟨sd, z, cY⟩ := CZ.out _ _ b _ HT.out
                  have CY : Hid _ := cY
                  have CL : Hid (∀ wx tk v5, Bat wx v2.heap.size b g tk 0 v5 [mp2] → Calls Tryz.prog 17 #[.pointer (some ⟨b, 0, none⟩)] wx fun e w' => e = .returned (.int .i64 1) ∧ w' = wx) := fun wx tk v5 h => live_any h (by simp)
                  clear cY CZ
                  go_wp2_with fail
                  refine Calls.mono CY.out ?_; rintro e wf ⟨rfl, v5, tk5, hbz⟩
                  have hbel : Hid (Below w.heap.size w wf) := (St.bl (L := []) ⟨S_w15.out.below, by simp⟩ HT.out hbs hbz (by omega) (hi := w12.heap.size) hbl_s HO_s.out (by simp)).below
                  have TF : Hid _ := hbz.bat
                  clear hbz HT CY
                  go_wp2_with fail
                  refine Calls.mono (CL.out _ _ _ (Tb.below TF.out ((Below.refl _ _).alloc (Nat.le_refl _) _))) ?_; rintro e w' ⟨rfl, hw⟩; replace hw := hw.symm; subst hw
                  go_wp2
                  go_ret
                  exact ⟨rfl, hbel.out.alloc hbel.out.size _⟩
end Go.Proofs.YthiljpbodmajaaaGreat
