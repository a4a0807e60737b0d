/-
  CONTRACTS: natboxkeep.Mirror.
-/
import Derived.Test.YthiljpbodmajaabGreatStal
import Derived.Test.YthiljpbodmajaabGreatKepv
import Derived.Test.YthiljpbodmajaabGreatKepg
import Derived.Deep.DeepCutAuto
import Derived.Deep.RegionHeld
import Derived.Maps.RangeWalk
import Derived.Test.YthiljpbodmajaabGreatRows
import Derived.WalkKit
import Derived.ProofKit
import Derived.OpenShut
import Derived.ChangeOld
import Derived.Below
import Derived.Test.YthiljpbodmajaabGreatLetr
import Derived.Test.YthiljpbodmajaabGreatNotp
namespace Go.Proofs.YthiljpbodmajaabGreat
open Go.RowKit Plain
set_option linter.unusedVariables false

set_option maxHeartbeats 16000000 in
set_option maxRecDepth 2000 in
theorem mirror_core (c g0 g : Cf) (n : Nt) (lo hi cp kk : Int) (P : Dg → Prop) (M : Dg → Int → Mp → Prop) (R : Dg → Prop) (k0 k1 k2 k3 k4 k5 k6 k7 k8 l0 l1 l2 l3 l4 l5 l6 l7 l8 : Int) (m0 m1 m2 n0 n1 n2 : ByteArray) (w : World) (cC : RetB 10 #[.agg (cfl c)] (.agg (cfl g0)))
    (hg : g = { g0 with lo := lo, hi := hi, cp := cp }) (hc1 : (g0.cp == 1) = true → cp = 2) (hc2 : (g0.cp == 1) = false → cp = g0.cp) (gl0 : 1 ≤ g0.lo) (gl1 : g0.lo ≤ 65535) (gh0 : 1 ≤ g0.hi) (gh1 : g0.hi ≤ 65535)
    (hl1 : decide (g0.lo = g0.hi ∧ g0.hi < 65535) = true → lo = g0.lo ∧ hi = g0.hi + 1) (hl2 : decide (g0.lo = g0.hi ∧ g0.hi < 65535) = false → (g0.lo == g0.hi) = true → lo = g0.lo - 1 ∧ hi = g0.hi) (hl3 : decide (g0.lo = g0.hi ∧ g0.hi < 65535) = false → (g0.lo == g0.hi) = false → lo = g0.lo ∧ hi = g0.hi)
    (cK : Ret 13 #[.int .i64 k0, .int .i64 3] (.int .i64 kk))
    (cS : ∀ wx, Calls Tryz.prog 12 #[.agg #[.int .i64 kk, .int .i64 k1, .int .i64 k2, .int .i64 k3, .int .i64 k4, .int .i64 k5, .int .i64 k6, .int .i64 k7, .int .i64 k8, .string m0, .string m1, .string m2], .agg (cfl g), .int .i64 g.om] wx fun e w' => ∃ d, e = .returned (.agg (dgl d)) ∧ P d ∧ Below wx.heap.size wx w')
    (cT : ∀ d, P d → ∃ ext mp, M d ext mp ∧ ∀ wx, Calls Tryz.prog 23 #[.agg (cfl g), .agg (dgl d)] wx fun e w' => ∃ b v', e = .returned (.tuple #[.pointer (some ⟨b, 0, none⟩), .int .i64 ext]) ∧ Bat w' wx.heap.size b g g.bu 0 v' [mp] ∧ Below wx.heap.size wx w' ∧ wx.heap.size ≤ b)
    (cQ : ∀ wx, Calls Tryz.prog 12 #[.agg #[.int .i64 kk, .int .i64 l1, .int .i64 l2, .int .i64 l3, .int .i64 l4, .int .i64 l5, .int .i64 l6, .int .i64 l7, .int .i64 l8, .string n0, .string n1, .string n2], .agg (cfl g), .int .i64 g.im] wx fun e w' => ∃ a, e = .returned (.agg (dgl a)) ∧ R a ∧ Below wx.heap.size wx w')
    (cB : ∀ d ext mp a, P d → M d ext mp → R a → ∃ ow lv ms,
      (decide (¬ (a.sa = d.sa ∧ a.sp = d.sp)) = false → ow = ext ∧ lv = 1) ∧
      (decide (¬ (a.sa = d.sa ∧ a.sp = d.sp)) = true → lv = 2 ∧ RetB 33 #[.agg (cfl g), .int .i64 a.sp, .int .i64 ext] (.int .i64 ow)) ∧
      RetB 25 #[.agg (dgl { a with da := g.oa, dp := ext }), .agg (cfl g), .int .i64 ow] (.agg (dgl { a with sa := g.oa, sp := ow, da := g.oa, dp := ext, tl := a.tl - 1 })) ∧
      RetB 14 #[.agg (dgl { a with da := g.oa, dp := ext })] (.string (kfr { a with da := g.oa, dp := ext })) ∧ RetB 14 #[.agg (dgl { a with sa := g.oa, sp := ow, da := d.sa, dp := d.sp, tl := a.tl - 1 })] (.string (kfr { a with sa := g.oa, sp := ow, da := d.sa, dp := d.sp, tl := a.tl - 1 })) ∧
      (∀ wx base b v, Bat wx base b g g.bu 0 v [mp] → Calls Tryz.prog 28 #[.pointer (some ⟨b, 0, none⟩), .int .i64 0, .string (kfr { a with da := g.oa, dp := ext }), .int .i64 0, .string (kfr { a with sa := g.oa, sp := ow, da := d.sa, dp := d.sp, tl := a.tl - 1 })] wx fun e w' => e = .returned (.bool true) ∧ ∃ v', BL wx w' base b g v v' g.bu 0 ms) ∧
      (∀ wx base b v, Bat wx base b g g.bu 0 v ms → Calls Tryz.prog 19 #[.pointer (some ⟨b, 0, none⟩)] wx fun e w' => e = .returned (.int .i64 lv) ∧ w' = wx) ∧
      (∀ wx, Calls Tryz.prog 26 #[.agg (ntl n), .agg (cfl g), .int .i64 g.oa, .agg (dgl { a with sa := g.oa, sp := ow, da := d.sa, dp := d.sp, tl := a.tl - 1 }), .int .i64 g.im] wx fun e w' => ∃ m, e = .returned (.agg (ltl m)) ∧ Below wx.heap.size wx w' ∧ ∃ y XX YY,
        RetB 27 #[.agg (ltl m), .agg (ntl n), .agg (dgl { a with sa := g.oa, sp := ow, da := d.sa, dp := d.sp, tl := a.tl - 1 }), .agg (dgl { a with da := g.oa, dp := ext })] (.agg (ltl y)) ∧
        RetB 29 #[.agg (ltl m)] (.string XX) ∧ RetB 29 #[.agg #[.int .i64 y.d.pr, .int .i64 y.d.kd, .bool y.d.ba, .int .i64 g.oa, .int .i64 y.d.sp, .int .i64 a.sa, .int .i64 y.d.dp, .int .i64 y.d.tl, .int .i64 y.d.bi, .int .i64 y.d.sr, .string y.d.op, .string y.d.md, .string y.d.tx, .string y.d.ta, .int .i64 y.ki, .int .i64 y.co, .string y.re, .string y.qu]] (.string YY) ∧
        ∀ wx base b v, Bat wx base b g g.bu 0 v ms → Calls Tryz.prog 28 #[.pointer (some ⟨b, 0, none⟩), .int .i64 0, .string XX, .int .i64 0, .string YY] wx fun e w' => e = .returned (.bool true) ∧ Below wx.heap.size wx w')) :
    Calls Tryz.prog 7 #[.agg (cfl c), .agg #[.int .i64 k0, .int .i64 k1, .int .i64 k2, .int .i64 k3, .int .i64 k4, .int .i64 k5, .int .i64 k6, .int .i64 k7, .int .i64 k8, .string m0, .string m1, .string m2], .agg #[.int .i64 l0, .int .i64 l1, .int .i64 l2, .int .i64 l3, .int .i64 l4, .int .i64 l5, .int .i64 l6, .int .i64 l7, .int .i64 l8, .string n0, .string n1, .string n2], .agg (ntl n)] w fun e w' => e = .returned (.bool true) ∧ Below w.heap.size w w' := by
  unfold ltl ntl dgl cfl at cB
  unfold dgl cfl at cS cQ cT
  unfold cfl at cC ⊢
  unfold ntl
  have CC : Hid _ := cC
  have CS : Hid _ := cS
  have CT : Hid _ := cT
  have CQ : Hid _ := cQ
  have CB : Hid _ := cB
  have HG : Hid _ := hg
  have HC1 : Hid _ := hc1
  have HC2 : Hid _ := hc2
  have HL1 : Hid _ := hl1
  have HL2 : Hid _ := hl2
  have HL3 : Hid _ := hl3
  clear cC cS cT cQ cB hg hc1 hc2 hl1 hl2 hl3
  go_enter Tryz.func7, Tryz.ntmps7
  go_upto_region 1 with fail
  have S_v0 : Hid (St [(w.heap.size, (cfl c), 23), (w.heap.size + 1, #[.int .i64 k0, .int .i64 k1, .int .i64 k2, .int .i64 k3, .int .i64 k4, .int .i64 k5, .int .i64 k6, .int .i64 k7, .int .i64 k8, .string m0, .string m1, .string m2], 25), (w.heap.size + 1 + 1, #[.int .i64 l0, .int .i64 l1, .int .i64 l2, .int .i64 l3, .int .i64 l4, .int .i64 l5, .int .i64 l6, .int .i64 l7, .int .i64 l8, .string n0, .string n1, .string n2], 25), (w.heap.size + 1 + 1 + 1, (ntl n), 53)] w ((((w.alloc (.cells #[.int .i64 c.ia, .int .i64 c.oa, .int .i64 c.lo, .int .i64 c.hi, .int .i64 c.cp, .int .i64 c.im, .int .i64 c.om, .int .i64 c.iu, .int .i64 c.it, .int .i64 c.iq, .int .i64 c.bu, .int .i64 c.ra] 23)).alloc (.cells #[.int .i64 k0, .int .i64 k1, .int .i64 k2, .int .i64 k3, .int .i64 k4, .int .i64 k5, .int .i64 k6, .int .i64 k7, .int .i64 k8, .string m0, .string m1, .string m2] 25)).alloc (.cells #[.int .i64 l0, .int .i64 l1, .int .i64 l2, .int .i64 l3, .int .i64 l4, .int .i64 l5, .int .i64 l6, .int .i64 l7, .int .i64 l8, .string n0, .string n1, .string n2] 25)).alloc (.cells #[.int .i64 n.sr, .int .i64 n.ty, .int .i64 n.co, .int .i64 n.le, .int .i64 n.se, .int .i64 n.tl, .int .i64 n.op, .int .i64 n.bi, .string n.re, .string n.ta] 53))) := St.alloc (St.alloc (St.alloc (St.alloc (St.start w) (cfl c) 23 (w.heap.size) rfl) #[.int .i64 k0, .int .i64 k1, .int .i64 k2, .int .i64 k3, .int .i64 k4, .int .i64 k5, .int .i64 k6, .int .i64 k7, .int .i64 k8, .string m0, .string m1, .string m2] 25 (w.heap.size + 1) (by simp)) #[.int .i64 l0, .int .i64 l1, .int .i64 l2, .int .i64 l3, .int .i64 l4, .int .i64 l5, .int .i64 l6, .int .i64 l7, .int .i64 l8, .string n0, .string n1, .string n2] 25 (w.heap.size + 1 + 1) (by simp)) (ntl n) 53 (w.heap.size + 1 + 1 + 1) (by simp)
  generalize ((((w.alloc (.cells #[.int .i64 c.ia, .int .i64 c.oa, .int .i64 c.lo, .int .i64 c.hi, .int .i64 c.cp, .int .i64 c.im, .int .i64 c.om, .int .i64 c.iu, .int .i64 c.it, .int .i64 c.iq, .int .i64 c.bu, .int .i64 c.ra] 23)).alloc (.cells #[.int .i64 k0, .int .i64 k1, .int .i64 k2, .int .i64 k3, .int .i64 k4, .int .i64 k5, .int .i64 k6, .int .i64 k7, .int .i64 k8, .string m0, .string m1, .string m2] 25)).alloc (.cells #[.int .i64 l0, .int .i64 l1, .int .i64 l2, .int .i64 l3, .int .i64 l4, .int .i64 l5, .int .i64 l6, .int .i64 l7, .int .i64 l8, .string n0, .string n1, .string n2] 25)).alloc (.cells #[.int .i64 n.sr, .int .i64 n.ty, .int .i64 n.co, .int .i64 n.le, .int .i64 n.se, .int .i64 n.tl, .int .i64 n.op, .int .i64 n.bi, .string n.re, .string n.ta] 53)) = v0 at S_v0 ⊢
  generalize (Value.agg #[.int .i64 c.ia, .int .i64 c.oa, .int .i64 c.lo, .int .i64 c.hi, .int .i64 c.cp, .int .i64 c.im, .int .i64 c.om, .int .i64 c.iu, .int .i64 c.it, .int .i64 c.iq, .int .i64 c.bu, .int .i64 c.ra]) = B1
  generalize (Value.agg #[.int .i64 k0, .int .i64 k1, .int .i64 k2, .int .i64 k3, .int .i64 k4, .int .i64 k5, .int .i64 k6, .int .i64 k7, .int .i64 k8, .string m0, .string m1, .string m2]) = B2
  generalize (Value.agg #[.int .i64 l0, .int .i64 l1, .int .i64 l2, .int .i64 l3, .int .i64 l4, .int .i64 l5, .int .i64 l6, .int .i64 l7, .int .i64 l8, .string n0, .string n1, .string n2]) = B3
  generalize (Value.agg #[.int .i64 n.sr, .int .i64 n.ty, .int .i64 n.co, .int .i64 n.le, .int .i64 n.se, .int .i64 n.tl, .int .i64 n.op, .int .i64 n.bi, .string n.re, .string n.ta]) = B4
  go_wp2_with (first | (refine pull_cf [.int .i64 c.ia, .int .i64 c.oa, .int .i64 c.lo, .int .i64 c.hi, .int .i64 c.cp, .int .i64 c.im, .int .i64 c.om, .int .i64 c.iu, .int .i64 c.it, .int .i64 c.iq, .int .i64 c.bu, .int .i64 c.ra] rfl (w.heap.size) (St.get S_v0.out 0 rfl) rfl rfl rfl ?_))
  refine Calls.mono (RetB.at CC.out _) ?_; rintro e w1 ⟨rfl, hb1⟩
  have S_w1 : Hid (St [(w.heap.size, (cfl c), 23), (w.heap.size + 1, #[.int .i64 k0, .int .i64 k1, .int .i64 k2, .int .i64 k3, .int .i64 k4, .int .i64 k5, .int .i64 k6, .int .i64 k7, .int .i64 k8, .string m0, .string m1, .string m2], 25), (w.heap.size + 1 + 1, #[.int .i64 l0, .int .i64 l1, .int .i64 l2, .int .i64 l3, .int .i64 l4, .int .i64 l5, .int .i64 l6, .int .i64 l7, .int .i64 l8, .string n0, .string n1, .string n2], 25), (w.heap.size + 1 + 1 + 1, (ntl n), 53)] w w1) := St.next S_v0.out hb1
  generalize (Value.agg #[.int .i64 c.ia, .int .i64 c.oa, .int .i64 c.lo, .int .i64 c.hi, .int .i64 c.cp, .int .i64 c.im, .int .i64 c.om, .int .i64 c.iu, .int .i64 c.it, .int .i64 c.iq, .int .i64 c.bu, .int .i64 c.ra]) = B5
  clear S_v0
  have hz_w1 : w.heap.size + 1 + 1 + 1 < w1.heap.size := St.lt S_w1.out (x := (w.heap.size + 1 + 1 + 1, (ntl n), 53)) (by simp)
  clear hb1
  have HL0 : Hid (∀ x ∈ ([(w.heap.size, (cfl c), 23), (w.heap.size + 1, #[.int .i64 k0, .int .i64 k1, .int .i64 k2, .int .i64 k3, .int .i64 k4, .int .i64 k5, .int .i64 k6, .int .i64 k7, .int .i64 k8, .string m0, .string m1, .string m2], 25), (w.heap.size + 1 + 1, #[.int .i64 l0, .int .i64 l1, .int .i64 l2, .int .i64 l3, .int .i64 l4, .int .i64 l5, .int .i64 l6, .int .i64 l7, .int .i64 l8, .string n0, .string n1, .string n2], 25), (w.heap.size + 1 + 1 + 1, (ntl n), 53)] : List (Nat × Array Value × TypeId)), x.1 < w1.heap.size) := fun x hx => St.lt S_w1.out hx
  have HW0 : Hid (w.heap.size ≤ w1.heap.size) := (St.below S_w1.out).size
  rename_i KK hKK
  refine hKK _ _ ?_
  refine keep_cf [.int .i64 g0.ia, .int .i64 g0.oa, .int .i64 g0.lo, .int .i64 g0.hi, .int .i64 g0.cp, .int .i64 g0.im, .int .i64 g0.om, .int .i64 g0.iu, .int .i64 g0.it, .int .i64 g0.iq, .int .i64 g0.bu, .int .i64 g0.ra] rfl rfl rfl rfl rfl (by simp [Value.oneCell']) (by simp [Act.eval, Act.put]) (by simp [Act.eval, Act.put]) ?_
  clear hKK
  clear KK
  have S_v1 : Hid (St [(w.heap.size, (cfl c), 23), (w.heap.size + 1, #[.int .i64 k0, .int .i64 k1, .int .i64 k2, .int .i64 k3, .int .i64 k4, .int .i64 k5, .int .i64 k6, .int .i64 k7, .int .i64 k8, .string m0, .string m1, .string m2], 25), (w.heap.size + 1 + 1, #[.int .i64 l0, .int .i64 l1, .int .i64 l2, .int .i64 l3, .int .i64 l4, .int .i64 l5, .int .i64 l6, .int .i64 l7, .int .i64 l8, .string n0, .string n1, .string n2], 25), (w.heap.size + 1 + 1 + 1, (ntl n), 53), (w1.heap.size, (cfl g0), 23)] w (w1.alloc (.cells #[.int .i64 g0.ia, .int .i64 g0.oa, .int .i64 g0.lo, .int .i64 g0.hi, .int .i64 g0.cp, .int .i64 g0.im, .int .i64 g0.om, .int .i64 g0.iu, .int .i64 g0.it, .int .i64 g0.iq, .int .i64 g0.bu, .int .i64 g0.ra] 23))) := St.alloc S_w1.out (cfl g0) 23 (w1.heap.size) rfl
  have hs_v1 : w1.heap.size < (w1.alloc (.cells #[.int .i64 g0.ia, .int .i64 g0.oa, .int .i64 g0.lo, .int .i64 g0.hi, .int .i64 g0.cp, .int .i64 g0.im, .int .i64 g0.om, .int .i64 g0.iu, .int .i64 g0.it, .int .i64 g0.iq, .int .i64 g0.bu, .int .i64 g0.ra] 23)).heap.size := by simp
  generalize w1.alloc (.cells #[.int .i64 g0.ia, .int .i64 g0.oa, .int .i64 g0.lo, .int .i64 g0.hi, .int .i64 g0.cp, .int .i64 g0.im, .int .i64 g0.om, .int .i64 g0.iu, .int .i64 g0.it, .int .i64 g0.iq, .int .i64 g0.bu, .int .i64 g0.ra] 23) = v1 at S_v1 hs_v1  ⊢
  clear S_w1
  clear hs_v1
  clear CC
  have q_g4 : v1.cell? ⟨w1.heap.size, 4, none⟩ = some (.int .i64 g0.cp) := St.at 4 4 rfl rfl _ S_v1.out
  have fz := St.frz 4 rfl S_v1.out
  go_upto_if 24 with fail
  try go_frame
  go_cut [] (fun wx => St [(w.heap.size, (cfl c), 23), (w.heap.size + 1, #[.int .i64 k0, .int .i64 k1, .int .i64 k2, .int .i64 k3, .int .i64 k4, .int .i64 k5, .int .i64 k6, .int .i64 k7, .int .i64 k8, .string m0, .string m1, .string m2], 25), (w.heap.size + 1 + 1, #[.int .i64 l0, .int .i64 l1, .int .i64 l2, .int .i64 l3, .int .i64 l4, .int .i64 l5, .int .i64 l6, .int .i64 l7, .int .i64 l8, .string n0, .string n1, .string n2], 25), (w.heap.size + 1 + 1 + 1, (ntl n), 53), (w1.heap.size, #[.int .i64 g0.ia, .int .i64 g0.oa, .int .i64 g0.lo, .int .i64 g0.hi, .int .i64 cp, .int .i64 g0.im, .int .i64 g0.om, .int .i64 g0.iu, .int .i64 g0.it, .int .i64 g0.iq, .int .i64 g0.bu, .int .i64 g0.ra], 23)] w wx)
  case first =>
    cases e1 : (g0.cp == 1)
    · have h : Hid (cp = g0.cp) := HC2.out e1
      go_wp2_with fail
      go_meet
      rw [h.out]; exact S_v1.out
    · have h : Hid (cp = 2) := HC1.out e1
      go_wp2_with fail
      go_meet
      rw [h.out]; exact St.setLast (L := [(w.heap.size, (cfl c), 23), (w.heap.size + 1, #[.int .i64 k0, .int .i64 k1, .int .i64 k2, .int .i64 k3, .int .i64 k4, .int .i64 k5, .int .i64 k6, .int .i64 k7, .int .i64 k8, .string m0, .string m1, .string m2], 25), (w.heap.size + 1 + 1, #[.int .i64 l0, .int .i64 l1, .int .i64 l2, .int .i64 l3, .int .i64 l4, .int .i64 l5, .int .i64 l6, .int .i64 l7, .int .i64 l8, .string n0, .string n1, .string n2], 25), (w.heap.size + 1 + 1 + 1, (ntl n), 53)]) S_v1.out HL0.out HW0.out 4 (.int .i64 2)
  case rest =>
    have hst0 := hcut
    obtain ⟨w2, hw2⟩ : ∃ w2 : World, w2 = wc := ⟨_, rfl⟩
    subst hw2
    have S_w2 : Hid (St [(w.heap.size, (cfl c), 23), (w.heap.size + 1, #[.int .i64 k0, .int .i64 k1, .int .i64 k2, .int .i64 k3, .int .i64 k4, .int .i64 k5, .int .i64 k6, .int .i64 k7, .int .i64 k8, .string m0, .string m1, .string m2], 25), (w.heap.size + 1 + 1, #[.int .i64 l0, .int .i64 l1, .int .i64 l2, .int .i64 l3, .int .i64 l4, .int .i64 l5, .int .i64 l6, .int .i64 l7, .int .i64 l8, .string n0, .string n1, .string n2], 25), (w.heap.size + 1 + 1 + 1, (ntl n), 53), (w1.heap.size, #[.int .i64 g0.ia, .int .i64 g0.oa, .int .i64 g0.lo, .int .i64 g0.hi, .int .i64 cp, .int .i64 g0.im, .int .i64 g0.om, .int .i64 g0.iu, .int .i64 g0.it, .int .i64 g0.iq, .int .i64 g0.bu, .int .i64 g0.ra], 23)] w w2) := hst0
    clear S_v1
    clear hst0 q_g4 fz HC1 HC2
    have q_g2 : w2.cell? ⟨w1.heap.size, 2, none⟩ = some (.int .i64 g0.lo) := St.at 4 2 rfl rfl _ S_w2.out
    have q_g3 : w2.cell? ⟨w1.heap.size, 3, none⟩ = some (.int .i64 g0.hi) := St.at 4 3 rfl rfl _ S_w2.out
    go_upto_region 4 with fail
    go_cut [35] (fun bv wx => bv = .bool (decide (g0.lo = g0.hi ∧ g0.hi < 65535)) ∧ wx = w2)
    case first =>
      cases e1 : (g0.lo == g0.hi)
      · have hd : Hid (decide (g0.lo = g0.hi ∧ g0.hi < 65535) = false) := by show _ = _; simp at e1; simp [e1]
        go_wp2_with fail
        go_meet
        exact ⟨by rw [hd.out], rfl⟩
      · cases e2 : decide (g0.hi < 65535)
        · have hd : Hid (decide (g0.lo = g0.hi ∧ g0.hi < 65535) = false) := by show _ = _; simp at e1 e2; simp; omega
          go_wp2_with fail
          go_meet
          exact ⟨by rw [hd.out], rfl⟩
        · have hd : Hid (decide (g0.lo = g0.hi ∧ g0.hi < 65535) = true) := by show _ = _; simp at e1 e2; simp; omega
          go_wp2_with fail
          go_meet
          exact ⟨by rw [hd.out], rfl⟩
    case rest =>
      obtain ⟨rfl, hw⟩ := hcut
      replace hw := hw.symm; subst hw
      obtain ⟨bb, hbb⟩ : ∃ bb : Bool, decide (g0.lo = g0.hi ∧ g0.hi < 65535) = bb := ⟨_, rfl⟩
      have H1 : Hid (bb = true → lo = g0.lo ∧ hi = g0.hi + 1) := by show _ → _; rw [← hbb]; exact HL1.out
      have H2 : Hid (bb = false → (g0.lo == g0.hi) = true → lo = g0.lo - 1 ∧ hi = g0.hi) := by show _ → _; rw [← hbb]; exact HL2.out
      have H3 : Hid (bb = false → (g0.lo == g0.hi) = false → lo = g0.lo ∧ hi = g0.hi) := by show _ → _; rw [← hbb]; exact HL3.out
      rw [hbb]
      clear hbb HL1 HL2 HL3
      have fz := St.frz 4 rfl S_w2.out
      go_upto_if 35 with fail
      try go_frame
      go_cut [] (fun wx => St [(w.heap.size, (cfl c), 23), (w.heap.size + 1, #[.int .i64 k0, .int .i64 k1, .int .i64 k2, .int .i64 k3, .int .i64 k4, .int .i64 k5, .int .i64 k6, .int .i64 k7, .int .i64 k8, .string m0, .string m1, .string m2], 25), (w.heap.size + 1 + 1, #[.int .i64 l0, .int .i64 l1, .int .i64 l2, .int .i64 l3, .int .i64 l4, .int .i64 l5, .int .i64 l6, .int .i64 l7, .int .i64 l8, .string n0, .string n1, .string n2], 25), (w.heap.size + 1 + 1 + 1, (ntl n), 53), (w1.heap.size, #[.int .i64 g0.ia, .int .i64 g0.oa, .int .i64 lo, .int .i64 hi, .int .i64 cp, .int .i64 g0.im, .int .i64 g0.om, .int .i64 g0.iu, .int .i64 g0.it, .int .i64 g0.iq, .int .i64 g0.bu, .int .i64 g0.ra], 23)] w wx)
      case first =>
        cases bb
        · cases e1 : (g0.lo == g0.hi)
          · have h : Hid _ := H3.out rfl e1
            go_wp2_with fail
            go_meet
            rw [h.out.1, h.out.2]; exact S_w2.out
          · have h : Hid _ := H2.out rfl e1
            go_wp2_with fail
            go_meet
            rw [h.out.1, h.out.2]; exact St.setLast (L := [(w.heap.size, (cfl c), 23), (w.heap.size + 1, #[.int .i64 k0, .int .i64 k1, .int .i64 k2, .int .i64 k3, .int .i64 k4, .int .i64 k5, .int .i64 k6, .int .i64 k7, .int .i64 k8, .string m0, .string m1, .string m2], 25), (w.heap.size + 1 + 1, #[.int .i64 l0, .int .i64 l1, .int .i64 l2, .int .i64 l3, .int .i64 l4, .int .i64 l5, .int .i64 l6, .int .i64 l7, .int .i64 l8, .string n0, .string n1, .string n2], 25), (w.heap.size + 1 + 1 + 1, (ntl n), 53)]) S_w2.out HL0.out HW0.out 2 (.int .i64 (g0.lo - 1))
        · have h : Hid _ := H1.out rfl
          go_wp2_with fail
          go_meet
          rw [h.out.1, h.out.2]; exact St.setLast (L := [(w.heap.size, (cfl c), 23), (w.heap.size + 1, #[.int .i64 k0, .int .i64 k1, .int .i64 k2, .int .i64 k3, .int .i64 k4, .int .i64 k5, .int .i64 k6, .int .i64 k7, .int .i64 k8, .string m0, .string m1, .string m2], 25), (w.heap.size + 1 + 1, #[.int .i64 l0, .int .i64 l1, .int .i64 l2, .int .i64 l3, .int .i64 l4, .int .i64 l5, .int .i64 l6, .int .i64 l7, .int .i64 l8, .string n0, .string n1, .string n2], 25), (w.heap.size + 1 + 1 + 1, (ntl n), 53)]) S_w2.out HL0.out HW0.out 3 (.int .i64 (g0.hi + 1))
      case rest =>
        have hst0 := hcut
        obtain ⟨w3, hw3⟩ : ∃ w3 : World, w3 = wc := ⟨_, rfl⟩
        subst hw3
        have S_w3 : Hid (St [(w.heap.size, (cfl c), 23), (w.heap.size + 1, #[.int .i64 k0, .int .i64 k1, .int .i64 k2, .int .i64 k3, .int .i64 k4, .int .i64 k5, .int .i64 k6, .int .i64 k7, .int .i64 k8, .string m0, .string m1, .string m2], 25), (w.heap.size + 1 + 1, #[.int .i64 l0, .int .i64 l1, .int .i64 l2, .int .i64 l3, .int .i64 l4, .int .i64 l5, .int .i64 l6, .int .i64 l7, .int .i64 l8, .string n0, .string n1, .string n2], 25), (w.heap.size + 1 + 1 + 1, (ntl n), 53), (w1.heap.size, (cfl g), 23)] w w3) := by rw [HG.out]; exact hst0
        clear S_w2 hst0 q_g2 q_g3 fz H1 H2 H3 HG HL0 HW0 bb gl0 gl1 gh0 gh1
        have hz_w3 : w1.heap.size < w3.heap.size := St.lt S_w3.out (x := (w1.heap.size, (cfl g), 23)) (by simp)
        have q_p0 : w3.cell? ⟨w.heap.size + 1, 0, none⟩ = some (.int .i64 k0) := St.at 1 0 rfl rfl _ S_w3.out
        go_wp2_with fail
        refine Calls.mono (cK.at _) ?_; rintro e w' ⟨rfl, hw⟩; replace hw := hw.symm; subst hw
        clear q_p0
        clear cK
        have fz := St.frz 1 rfl S_w3.out
        have q_p0 : w3.cell? ⟨w.heap.size + 1, 0, none⟩ = some (.int .i64 k0) := St.at 1 0 rfl rfl _ S_w3.out
        go_upto_region 9 with fail
        have S_u4 : Hid (St [(w.heap.size, (cfl c), 23), (w.heap.size + 1, #[.int .i64 kk, .int .i64 k1, .int .i64 k2, .int .i64 k3, .int .i64 k4, .int .i64 k5, .int .i64 k6, .int .i64 k7, .int .i64 k8, .string m0, .string m1, .string m2], 25), (w.heap.size + 1 + 1, #[.int .i64 l0, .int .i64 l1, .int .i64 l2, .int .i64 l3, .int .i64 l4, .int .i64 l5, .int .i64 l6, .int .i64 l7, .int .i64 l8, .string n0, .string n1, .string n2], 25), (w.heap.size + 1 + 1 + 1, (ntl n), 53), (w1.heap.size, (cfl g), 23)] w (w3.setCell ⟨w.heap.size + 1, 0, none⟩ (.int .i64 kk))) := St.setAt (L1 := [(w.heap.size, (cfl c), 23)]) (L2 := [(w.heap.size + 1 + 1, #[.int .i64 l0, .int .i64 l1, .int .i64 l2, .int .i64 l3, .int .i64 l4, .int .i64 l5, .int .i64 l6, .int .i64 l7, .int .i64 l8, .string n0, .string n1, .string n2], 25), (w.heap.size + 1 + 1 + 1, (ntl n), 53), (w1.heap.size, (cfl g), 23)]) S_w3.out (by omega) (by simp; omega) 0 (.int .i64 kk)
        generalize w3.setCell ⟨w.heap.size + 1, 0, none⟩ (.int .i64 kk) = u4 at S_u4 ⊢
        clear S_w3 fz q_p0
        have q_p0 : u4.cell? ⟨w.heap.size + 1, 0, none⟩ = some (.int .i64 kk) := St.at 1 0 rfl rfl _ S_u4.out
        have fz := St.frz 2 rfl S_u4.out
        have q_q0 : u4.cell? ⟨w.heap.size + 1 + 1, 0, none⟩ = some (.int .i64 l0) := St.at 2 0 rfl rfl _ S_u4.out
        go_upto_region 10 with fail
        have S_u5 : Hid (St [(w.heap.size, (cfl c), 23), (w.heap.size + 1, #[.int .i64 kk, .int .i64 k1, .int .i64 k2, .int .i64 k3, .int .i64 k4, .int .i64 k5, .int .i64 k6, .int .i64 k7, .int .i64 k8, .string m0, .string m1, .string m2], 25), (w.heap.size + 1 + 1, #[.int .i64 kk, .int .i64 l1, .int .i64 l2, .int .i64 l3, .int .i64 l4, .int .i64 l5, .int .i64 l6, .int .i64 l7, .int .i64 l8, .string n0, .string n1, .string n2], 25), (w.heap.size + 1 + 1 + 1, (ntl n), 53), (w1.heap.size, (cfl g), 23)] w (u4.setCell ⟨w.heap.size + 1 + 1, 0, none⟩ (.int .i64 kk))) := St.setAt (L1 := [(w.heap.size, (cfl c), 23), (w.heap.size + 1, #[.int .i64 kk, .int .i64 k1, .int .i64 k2, .int .i64 k3, .int .i64 k4, .int .i64 k5, .int .i64 k6, .int .i64 k7, .int .i64 k8, .string m0, .string m1, .string m2], 25)]) (L2 := [(w.heap.size + 1 + 1 + 1, (ntl n), 53), (w1.heap.size, (cfl g), 23)]) S_u4.out (by omega) (by simp; omega) 0 (.int .i64 kk)
        generalize u4.setCell ⟨w.heap.size + 1 + 1, 0, none⟩ (.int .i64 kk) = u5 at S_u5 ⊢
        clear S_u4 fz q_p0 q_q0
        have q_g6 : u5.cell? ⟨w1.heap.size, 6, none⟩ = some (.int .i64 g.om) := St.at 4 6 rfl rfl _ S_u5.out
        go_wp2_with (first | (refine pull_pk [.int .i64 kk, .int .i64 k1, .int .i64 k2, .int .i64 k3, .int .i64 k4, .int .i64 k5, .int .i64 k6, .int .i64 k7, .int .i64 k8, .string m0, .string m1, .string m2] rfl (w.heap.size + 1) (St.get S_u5.out 1 rfl) rfl rfl rfl ?_) | (refine pull_cf [.int .i64 g.ia, .int .i64 g.oa, .int .i64 g.lo, .int .i64 g.hi, .int .i64 g.cp, .int .i64 g.im, .int .i64 g.om, .int .i64 g.iu, .int .i64 g.it, .int .i64 g.iq, .int .i64 g.bu, .int .i64 g.ra] rfl (w1.heap.size) (St.get S_u5.out 4 rfl) rfl rfl rfl ?_))
        refine Calls.mono (CS.out _) ?_; rintro e w6 ⟨d, rfl, hP, hb6⟩
        have S_w6 : Hid (St [(w.heap.size, (cfl c), 23), (w.heap.size + 1, #[.int .i64 kk, .int .i64 k1, .int .i64 k2, .int .i64 k3, .int .i64 k4, .int .i64 k5, .int .i64 k6, .int .i64 k7, .int .i64 k8, .string m0, .string m1, .string m2], 25), (w.heap.size + 1 + 1, #[.int .i64 kk, .int .i64 l1, .int .i64 l2, .int .i64 l3, .int .i64 l4, .int .i64 l5, .int .i64 l6, .int .i64 l7, .int .i64 l8, .string n0, .string n1, .string n2], 25), (w.heap.size + 1 + 1 + 1, (ntl n), 53), (w1.heap.size, (cfl g), 23)] w w6) := St.next S_u5.out hb6
        clear q_g6
        generalize (Value.agg #[.int .i64 kk, .int .i64 k1, .int .i64 k2, .int .i64 k3, .int .i64 k4, .int .i64 k5, .int .i64 k6, .int .i64 k7, .int .i64 k8, .string m0, .string m1, .string m2]) = B6
        generalize (Value.agg #[.int .i64 g.ia, .int .i64 g.oa, .int .i64 g.lo, .int .i64 g.hi, .int .i64 g.cp, .int .i64 g.im, .int .i64 g.om, .int .i64 g.iu, .int .i64 g.it, .int .i64 g.iq, .int .i64 g.bu, .int .i64 g.ra]) = B7
        clear S_u5
        have hz_w6 : w1.heap.size < w6.heap.size := St.lt S_w6.out (x := (w1.heap.size, (cfl g), 23)) (by simp)
        clear hb6
        rename_i KK hKK
        refine hKK _ _ ?_
        refine keep_dg [.int .i64 d.pr, .int .i64 d.kd, .bool d.ba, .int .i64 d.sa, .int .i64 d.sp, .int .i64 d.da, .int .i64 d.dp, .int .i64 d.tl, .int .i64 d.bi, .int .i64 d.sr, .string d.op, .string d.md, .string d.tx, .string d.ta] rfl rfl rfl rfl rfl (by simp [Value.oneCell']) (by simp [Act.eval, Act.put]) (by simp [Act.eval, Act.put]) ?_
        clear hKK
        clear KK
        have S_v6 : Hid (St [(w.heap.size, (cfl c), 23), (w.heap.size + 1, #[.int .i64 kk, .int .i64 k1, .int .i64 k2, .int .i64 k3, .int .i64 k4, .int .i64 k5, .int .i64 k6, .int .i64 k7, .int .i64 k8, .string m0, .string m1, .string m2], 25), (w.heap.size + 1 + 1, #[.int .i64 kk, .int .i64 l1, .int .i64 l2, .int .i64 l3, .int .i64 l4, .int .i64 l5, .int .i64 l6, .int .i64 l7, .int .i64 l8, .string n0, .string n1, .string n2], 25), (w.heap.size + 1 + 1 + 1, (ntl n), 53), (w1.heap.size, (cfl g), 23), (w6.heap.size, (dgl d), 33)] w (w6.alloc (.cells #[.int .i64 d.pr, .int .i64 d.kd, .bool d.ba, .int .i64 d.sa, .int .i64 d.sp, .int .i64 d.da, .int .i64 d.dp, .int .i64 d.tl, .int .i64 d.bi, .int .i64 d.sr, .string d.op, .string d.md, .string d.tx, .string d.ta] 33))) := St.alloc S_w6.out (dgl d) 33 (w6.heap.size) rfl
        have hs_v6 : w6.heap.size < (w6.alloc (.cells #[.int .i64 d.pr, .int .i64 d.kd, .bool d.ba, .int .i64 d.sa, .int .i64 d.sp, .int .i64 d.da, .int .i64 d.dp, .int .i64 d.tl, .int .i64 d.bi, .int .i64 d.sr, .string d.op, .string d.md, .string d.tx, .string d.ta] 33)).heap.size := by simp
        generalize w6.alloc (.cells #[.int .i64 d.pr, .int .i64 d.kd, .bool d.ba, .int .i64 d.sa, .int .i64 d.sp, .int .i64 d.da, .int .i64 d.dp, .int .i64 d.tl, .int .i64 d.bi, .int .i64 d.sr, .string d.op, .string d.md, .string d.tx, .string d.ta] 33) = v6 at S_v6 hs_v6  ⊢
        clear S_w6
        clear hs_v6
        obtain ⟨ext, mp, hM, cT⟩ := CT.out d hP
        have CB1 : Hid _ := fun a => CB.out d ext mp a hP hM
        have CT1 : Hid _ := cT
        clear CT cT hP hM CS CB
        have SVB : Hid _ := S_v6.out
        go_wp2_with (first | (refine pull_cf [.int .i64 g.ia, .int .i64 g.oa, .int .i64 g.lo, .int .i64 g.hi, .int .i64 g.cp, .int .i64 g.im, .int .i64 g.om, .int .i64 g.iu, .int .i64 g.it, .int .i64 g.iq, .int .i64 g.bu, .int .i64 g.ra] rfl (w1.heap.size) (St.get S_v6.out 4 rfl) rfl rfl rfl ?_) | (refine pull_dg [.int .i64 d.pr, .int .i64 d.kd, .bool d.ba, .int .i64 d.sa, .int .i64 d.sp, .int .i64 d.da, .int .i64 d.dp, .int .i64 d.tl, .int .i64 d.bi, .int .i64 d.sr, .string d.op, .string d.md, .string d.tx, .string d.ta] rfl (w6.heap.size) (St.get S_v6.out 5 rfl) rfl rfl rfl ?_))
        refine Calls.mono (CT1.out _) ?_; rintro e w7 ⟨b, v3, rfl, hT, hb7, hbb⟩
        have S_w7 : Hid (St [(w.heap.size, (cfl c), 23), (w.heap.size + 1, #[.int .i64 kk, .int .i64 k1, .int .i64 k2, .int .i64 k3, .int .i64 k4, .int .i64 k5, .int .i64 k6, .int .i64 k7, .int .i64 k8, .string m0, .string m1, .string m2], 25), (w.heap.size + 1 + 1, #[.int .i64 kk, .int .i64 l1, .int .i64 l2, .int .i64 l3, .int .i64 l4, .int .i64 l5, .int .i64 l6, .int .i64 l7, .int .i64 l8, .string n0, .string n1, .string n2], 25), (w.heap.size + 1 + 1 + 1, (ntl n), 53), (w1.heap.size, (cfl g), 23), (w6.heap.size, (dgl d), 33)] w w7) := St.next S_v6.out hb7
        generalize (Value.agg #[.int .i64 g.ia, .int .i64 g.oa, .int .i64 g.lo, .int .i64 g.hi, .int .i64 g.cp, .int .i64 g.im, .int .i64 g.om, .int .i64 g.iu, .int .i64 g.it, .int .i64 g.iq, .int .i64 g.bu, .int .i64 g.ra]) = B8
        generalize (Value.agg #[.int .i64 d.pr, .int .i64 d.kd, .bool d.ba, .int .i64 d.sa, .int .i64 d.sp, .int .i64 d.da, .int .i64 d.dp, .int .i64 d.tl, .int .i64 d.bi, .int .i64 d.sr, .string d.op, .string d.md, .string d.tx, .string d.ta]) = B9
        clear S_v6
        have hz_w7 : w6.heap.size < w7.heap.size := St.lt S_w7.out (x := (w6.heap.size, (dgl d), 33)) (by simp)
        clear hb7
        have HT : Hid _ := hT
        have hbs : v6.heap.size ≤ b := hbb
        have hbw : b < w7.heap.size := HT.out.lt
        have HO3 : Hid (∀ o, v3.ownBlock = some o → o < w7.heap.size) := fun o e => (HT.out.row.lt o e).2
        have hzb : w6.heap.size < v6.heap.size := St.lt SVB.out (x := (w6.heap.size, (dgl d), 33)) (by simp)
        clear hT hbb CT1 SVB
        have q_g5 : w7.cell? ⟨w1.heap.size, 5, none⟩ = some (.int .i64 g.im) := St.at 4 5 rfl rfl _ S_w7.out
        go_wp2_with (first | (refine pull_pk [.int .i64 kk, .int .i64 l1, .int .i64 l2, .int .i64 l3, .int .i64 l4, .int .i64 l5, .int .i64 l6, .int .i64 l7, .int .i64 l8, .string n0, .string n1, .string n2] rfl (w.heap.size + 1 + 1) (St.get S_w7.out 2 rfl) rfl rfl rfl ?_) | (refine pull_cf [.int .i64 g.ia, .int .i64 g.oa, .int .i64 g.lo, .int .i64 g.hi, .int .i64 g.cp, .int .i64 g.im, .int .i64 g.om, .int .i64 g.iu, .int .i64 g.it, .int .i64 g.iq, .int .i64 g.bu, .int .i64 g.ra] rfl (w1.heap.size) (St.get S_w7.out 4 rfl) rfl rfl rfl ?_))
        refine Calls.mono (CQ.out _) ?_; rintro e w8 ⟨a, rfl, hR, hb8⟩
        have S_w8 : Hid (St [(w.heap.size, (cfl c), 23), (w.heap.size + 1, #[.int .i64 kk, .int .i64 k1, .int .i64 k2, .int .i64 k3, .int .i64 k4, .int .i64 k5, .int .i64 k6, .int .i64 k7, .int .i64 k8, .string m0, .string m1, .string m2], 25), (w.heap.size + 1 + 1, #[.int .i64 kk, .int .i64 l1, .int .i64 l2, .int .i64 l3, .int .i64 l4, .int .i64 l5, .int .i64 l6, .int .i64 l7, .int .i64 l8, .string n0, .string n1, .string n2], 25), (w.heap.size + 1 + 1 + 1, (ntl n), 53), (w1.heap.size, (cfl g), 23), (w6.heap.size, (dgl d), 33)] w w8) := St.next S_w7.out hb8
        have HT_w8 : Hid _ := Tb.below HT.out hb8
        clear HT
        have HT : Hid _ := HT_w8.out
        clear HT_w8
        clear q_g5
        generalize (Value.agg #[.int .i64 kk, .int .i64 l1, .int .i64 l2, .int .i64 l3, .int .i64 l4, .int .i64 l5, .int .i64 l6, .int .i64 l7, .int .i64 l8, .string n0, .string n1, .string n2]) = B10
        generalize (Value.agg #[.int .i64 g.ia, .int .i64 g.oa, .int .i64 g.lo, .int .i64 g.hi, .int .i64 g.cp, .int .i64 g.im, .int .i64 g.om, .int .i64 g.iu, .int .i64 g.it, .int .i64 g.iq, .int .i64 g.bu, .int .i64 g.ra]) = B11
        clear S_w7
        have hn_w8 : w7.heap.size ≤ w8.heap.size := hb8.size
        have hz_w8 : w6.heap.size < w8.heap.size := St.lt S_w8.out (x := (w6.heap.size, (dgl d), 33)) (by simp)
        clear hb8
        have hbl_a : b < w8.heap.size := HT.out.lt
        have HO_a : Hid (∀ o, v3.ownBlock = some o → o < w8.heap.size) := fun o e => (HT.out.row.lt o e).2
        rename_i KK hKK
        refine hKK _ _ ?_
        refine keep_dg [.int .i64 a.pr, .int .i64 a.kd, .bool a.ba, .int .i64 a.sa, .int .i64 a.sp, .int .i64 a.da, .int .i64 a.dp, .int .i64 a.tl, .int .i64 a.bi, .int .i64 a.sr, .string a.op, .string a.md, .string a.tx, .string a.ta] rfl rfl rfl rfl rfl (by simp [Value.oneCell']) (by simp [Act.eval, Act.put]) (by simp [Act.eval, Act.put]) ?_
        clear hKK
        clear KK
        have S_v8 : Hid (St [(w.heap.size, (cfl c), 23), (w.heap.size + 1, #[.int .i64 kk, .int .i64 k1, .int .i64 k2, .int .i64 k3, .int .i64 k4, .int .i64 k5, .int .i64 k6, .int .i64 k7, .int .i64 k8, .string m0, .string m1, .string m2], 25), (w.heap.size + 1 + 1, #[.int .i64 kk, .int .i64 l1, .int .i64 l2, .int .i64 l3, .int .i64 l4, .int .i64 l5, .int .i64 l6, .int .i64 l7, .int .i64 l8, .string n0, .string n1, .string n2], 25), (w.heap.size + 1 + 1 + 1, (ntl n), 53), (w1.heap.size, (cfl g), 23), (w6.heap.size, (dgl d), 33), (w8.heap.size, (dgl a), 33)] w (w8.alloc (.cells #[.int .i64 a.pr, .int .i64 a.kd, .bool a.ba, .int .i64 a.sa, .int .i64 a.sp, .int .i64 a.da, .int .i64 a.dp, .int .i64 a.tl, .int .i64 a.bi, .int .i64 a.sr, .string a.op, .string a.md, .string a.tx, .string a.ta] 33))) := St.alloc S_w8.out (dgl a) 33 (w8.heap.size) rfl
        have HT_v8 : Hid _ := Tb.below HT.out ((Below.refl _ _).alloc (Nat.le_refl _) (.cells #[.int .i64 a.pr, .int .i64 a.kd, .bool a.ba, .int .i64 a.sa, .int .i64 a.sp, .int .i64 a.da, .int .i64 a.dp, .int .i64 a.tl, .int .i64 a.bi, .int .i64 a.sr, .string a.op, .string a.md, .string a.tx, .string a.ta] 33))
        have hs_v8 : w8.heap.size < (w8.alloc (.cells #[.int .i64 a.pr, .int .i64 a.kd, .bool a.ba, .int .i64 a.sa, .int .i64 a.sp, .int .i64 a.da, .int .i64 a.dp, .int .i64 a.tl, .int .i64 a.bi, .int .i64 a.sr, .string a.op, .string a.md, .string a.tx, .string a.ta] 33)).heap.size := by simp
        generalize w8.alloc (.cells #[.int .i64 a.pr, .int .i64 a.kd, .bool a.ba, .int .i64 a.sa, .int .i64 a.sp, .int .i64 a.da, .int .i64 a.dp, .int .i64 a.tl, .int .i64 a.bi, .int .i64 a.sr, .string a.op, .string a.md, .string a.tx, .string a.ta] 33) = v8 at S_v8 hs_v8 HT_v8 ⊢
        clear S_w8
        clear HT
        have HT : Hid _ := HT_v8.out
        clear HT_v8
        clear hs_v8
        obtain ⟨ow, lv, ms, hs1, hs2, cO, i1, i2, cP1, cL, cN⟩ := CB1.out a hR
        have HS1 : Hid _ := hs1
        have HS2 : Hid _ := hs2
        have CP1 : Hid _ := cP1
        have CL : Hid _ := cL
        have CN : Hid _ := cN
        clear hs1 hs2 cP1 cL cN CB1 hR CQ
        have q_g1 : v8.cell? ⟨w1.heap.size, 1, none⟩ = some (.int .i64 g.oa) := St.at 4 1 rfl rfl _ S_v8.out
        have fz := St.frz 6 rfl S_v8.out
        have q_a5 : v8.cell? ⟨w8.heap.size, 5, none⟩ = some (.int .i64 a.da) := St.at 6 5 rfl rfl _ S_v8.out
        go_upto_region 16 with fail
        have S_u9 : Hid (St [(w.heap.size, (cfl c), 23), (w.heap.size + 1, #[.int .i64 kk, .int .i64 k1, .int .i64 k2, .int .i64 k3, .int .i64 k4, .int .i64 k5, .int .i64 k6, .int .i64 k7, .int .i64 k8, .string m0, .string m1, .string m2], 25), (w.heap.size + 1 + 1, #[.int .i64 kk, .int .i64 l1, .int .i64 l2, .int .i64 l3, .int .i64 l4, .int .i64 l5, .int .i64 l6, .int .i64 l7, .int .i64 l8, .string n0, .string n1, .string n2], 25), (w.heap.size + 1 + 1 + 1, (ntl n), 53), (w1.heap.size, (cfl g), 23), (w6.heap.size, (dgl d), 33), (w8.heap.size, #[.int .i64 a.pr, .int .i64 a.kd, .bool a.ba, .int .i64 a.sa, .int .i64 a.sp, .int .i64 g.oa, .int .i64 a.dp, .int .i64 a.tl, .int .i64 a.bi, .int .i64 a.sr, .string a.op, .string a.md, .string a.tx, .string a.ta], 33)] w (v8.setCell ⟨w8.heap.size, 5, none⟩ (.int .i64 g.oa))) := St.setAt (L1 := [(w.heap.size, (cfl c), 23), (w.heap.size + 1, #[.int .i64 kk, .int .i64 k1, .int .i64 k2, .int .i64 k3, .int .i64 k4, .int .i64 k5, .int .i64 k6, .int .i64 k7, .int .i64 k8, .string m0, .string m1, .string m2], 25), (w.heap.size + 1 + 1, #[.int .i64 kk, .int .i64 l1, .int .i64 l2, .int .i64 l3, .int .i64 l4, .int .i64 l5, .int .i64 l6, .int .i64 l7, .int .i64 l8, .string n0, .string n1, .string n2], 25), (w.heap.size + 1 + 1 + 1, (ntl n), 53), (w1.heap.size, (cfl g), 23), (w6.heap.size, (dgl d), 33)]) (L2 := []) S_v8.out (by omega) (by simp; omega) 5 (.int .i64 g.oa)
        have T_u9 : Hid _ := Tb.other3 HT.out (p := ⟨w8.heap.size, 5, none⟩) (by show b ≠ w8.heap.size; omega) (fun o e => by have := HO_a.out o e; show o ≠ w8.heap.size; omega) (.int .i64 g.oa)
        generalize v8.setCell ⟨w8.heap.size, 5, none⟩ (.int .i64 g.oa) = u9 at S_u9 T_u9 ⊢
        clear S_v8 fz q_g1 q_a5
        clear HT
        have HT : Hid _ := T_u9.out
        clear T_u9
        have fz := St.frz 6 rfl S_u9.out
        have q_a6 : u9.cell? ⟨w8.heap.size, 6, none⟩ = some (.int .i64 a.dp) := St.at 6 6 rfl rfl _ S_u9.out
        go_upto_region 17 with fail
        have S_u10 : Hid (St [(w.heap.size, (cfl c), 23), (w.heap.size + 1, #[.int .i64 kk, .int .i64 k1, .int .i64 k2, .int .i64 k3, .int .i64 k4, .int .i64 k5, .int .i64 k6, .int .i64 k7, .int .i64 k8, .string m0, .string m1, .string m2], 25), (w.heap.size + 1 + 1, #[.int .i64 kk, .int .i64 l1, .int .i64 l2, .int .i64 l3, .int .i64 l4, .int .i64 l5, .int .i64 l6, .int .i64 l7, .int .i64 l8, .string n0, .string n1, .string n2], 25), (w.heap.size + 1 + 1 + 1, (ntl n), 53), (w1.heap.size, (cfl g), 23), (w6.heap.size, (dgl d), 33), (w8.heap.size, #[.int .i64 a.pr, .int .i64 a.kd, .bool a.ba, .int .i64 a.sa, .int .i64 a.sp, .int .i64 g.oa, .int .i64 ext, .int .i64 a.tl, .int .i64 a.bi, .int .i64 a.sr, .string a.op, .string a.md, .string a.tx, .string a.ta], 33)] w (u9.setCell ⟨w8.heap.size, 6, none⟩ (.int .i64 ext))) := St.setAt (L1 := [(w.heap.size, (cfl c), 23), (w.heap.size + 1, #[.int .i64 kk, .int .i64 k1, .int .i64 k2, .int .i64 k3, .int .i64 k4, .int .i64 k5, .int .i64 k6, .int .i64 k7, .int .i64 k8, .string m0, .string m1, .string m2], 25), (w.heap.size + 1 + 1, #[.int .i64 kk, .int .i64 l1, .int .i64 l2, .int .i64 l3, .int .i64 l4, .int .i64 l5, .int .i64 l6, .int .i64 l7, .int .i64 l8, .string n0, .string n1, .string n2], 25), (w.heap.size + 1 + 1 + 1, (ntl n), 53), (w1.heap.size, (cfl g), 23), (w6.heap.size, (dgl d), 33)]) (L2 := []) S_u9.out (by omega) (by simp; omega) 6 (.int .i64 ext)
        have T_u10 : Hid _ := Tb.other3 HT.out (p := ⟨w8.heap.size, 6, none⟩) (by show b ≠ w8.heap.size; omega) (fun o e => by have := HO_a.out o e; show o ≠ w8.heap.size; omega) (.int .i64 ext)
        generalize u9.setCell ⟨w8.heap.size, 6, none⟩ (.int .i64 ext) = u10 at S_u10 T_u10 ⊢
        clear S_u9 fz q_a6
        clear HT
        have HT : Hid _ := T_u10.out
        clear T_u10
        have q_a3 : u10.cell? ⟨w8.heap.size, 3, none⟩ = some (.int .i64 a.sa) := St.at 6 3 rfl rfl _ S_u10.out
        have q_d3 : u10.cell? ⟨w6.heap.size, 3, none⟩ = some (.int .i64 d.sa) := St.at 5 3 rfl rfl _ S_u10.out
        have q_a4 : u10.cell? ⟨w8.heap.size, 4, none⟩ = some (.int .i64 a.sp) := St.at 6 4 rfl rfl _ S_u10.out
        have q_d4 : u10.cell? ⟨w6.heap.size, 4, none⟩ = some (.int .i64 d.sp) := St.at 5 4 rfl rfl _ S_u10.out
        go_upto_region 19 with fail
        go_cut [91] (fun bv wx => bv = .bool (decide (¬ (a.sa = d.sa ∧ a.sp = d.sp))) ∧ wx = u10)
        case first =>
          cases e1 : (a.sa != d.sa)
          · cases e2 : (a.sp != d.sp)
            · have hd : Hid (decide (¬ (a.sa = d.sa ∧ a.sp = d.sp)) = false) := by show _ = _; simp at e1 e2; simp [e1, e2]
              go_wp2_with fail
              go_meet
              exact ⟨by rw [hd.out], rfl⟩
            · have hd : Hid (decide (¬ (a.sa = d.sa ∧ a.sp = d.sp)) = true) := by show _ = _; simp at e1 e2; simp [e2]
              go_wp2_with fail
              go_meet
              exact ⟨by rw [hd.out], rfl⟩
          · have hd : Hid (decide (¬ (a.sa = d.sa ∧ a.sp = d.sp)) = true) := by show _ = _; simp at e1; simp [e1]
            go_wp2_with fail
            go_meet
            exact ⟨by rw [hd.out], rfl⟩
        case rest =>
          obtain ⟨rfl, hw⟩ := hcut
          replace hw := hw.symm; subst hw
          obtain ⟨bb, hbb⟩ : ∃ bb : Bool, decide (¬ (a.sa = d.sa ∧ a.sp = d.sp)) = bb := ⟨_, rfl⟩
          have H1 : Hid (bb = false → ow = ext ∧ lv = 1) := by show _ → _; rw [← hbb]; exact HS1.out
          have H2 : Hid (bb = true → lv = 2 ∧ RetB 33 #[.agg #[.int .i64 g.ia, .int .i64 g.oa, .int .i64 g.lo, .int .i64 g.hi, .int .i64 g.cp, .int .i64 g.im, .int .i64 g.om, .int .i64 g.iu, .int .i64 g.it, .int .i64 g.iq, .int .i64 g.bu, .int .i64 g.ra], .int .i64 a.sp, .int .i64 ext] (.int .i64 ow)) := by show _ → _; rw [← hbb]; exact HS2.out
          rw [hbb]
          clear hbb HS1 HS2
          go_upto_if 91 with fail
          try go_frame
          go_cut [14, 15] (fun ov lw wx => ov = .int .i64 ow ∧ lw = .int .i64 lv ∧ St [(w.heap.size, (cfl c), 23), (w.heap.size + 1, #[.int .i64 kk, .int .i64 k1, .int .i64 k2, .int .i64 k3, .int .i64 k4, .int .i64 k5, .int .i64 k6, .int .i64 k7, .int .i64 k8, .string m0, .string m1, .string m2], 25), (w.heap.size + 1 + 1, #[.int .i64 kk, .int .i64 l1, .int .i64 l2, .int .i64 l3, .int .i64 l4, .int .i64 l5, .int .i64 l6, .int .i64 l7, .int .i64 l8, .string n0, .string n1, .string n2], 25), (w.heap.size + 1 + 1 + 1, (ntl n), 53), (w1.heap.size, (cfl g), 23), (w6.heap.size, (dgl d), 33), (w8.heap.size, #[.int .i64 a.pr, .int .i64 a.kd, .bool a.ba, .int .i64 a.sa, .int .i64 a.sp, .int .i64 g.oa, .int .i64 ext, .int .i64 a.tl, .int .i64 a.bi, .int .i64 a.sr, .string a.op, .string a.md, .string a.tx, .string a.ta], 33)] w wx ∧ Bat wx v6.heap.size b g g.bu 0 v3 [mp])
          case first =>
            cases bb
            · have h : Hid _ := H1.out rfl
              go_wp2_with fail
              go_meet
              exact ⟨by rw [h.out.1], by rw [h.out.2], S_u10.out, HT.out⟩
            · have cG := (H2.out rfl).2
              have h : Hid _ := (H2.out rfl).1
              go_wp2_with (first | (refine pull_cf [.int .i64 g.ia, .int .i64 g.oa, .int .i64 g.lo, .int .i64 g.hi, .int .i64 g.cp, .int .i64 g.im, .int .i64 g.om, .int .i64 g.iu, .int .i64 g.it, .int .i64 g.iq, .int .i64 g.bu, .int .i64 g.ra] rfl (w1.heap.size) (St.get S_u10.out 4 rfl) rfl rfl rfl ?_))
              refine Calls.mono (cG.at _) ?_; rintro e wx ⟨rfl, hbx⟩
              go_wp2_with fail
              go_meet
              exact ⟨rfl, by rw [h.out], St.next S_u10.out hbx, Tb.below HT.out hbx⟩
          case rest =>
            obtain ⟨rfl, rfl, hst0, htb0⟩ := hcut
            obtain ⟨w11, hw11⟩ : ∃ w11 : World, w11 = wc := ⟨_, rfl⟩
            subst hw11
            have S_w11 : Hid (St [(w.heap.size, (cfl c), 23), (w.heap.size + 1, #[.int .i64 kk, .int .i64 k1, .int .i64 k2, .int .i64 k3, .int .i64 k4, .int .i64 k5, .int .i64 k6, .int .i64 k7, .int .i64 k8, .string m0, .string m1, .string m2], 25), (w.heap.size + 1 + 1, #[.int .i64 kk, .int .i64 l1, .int .i64 l2, .int .i64 l3, .int .i64 l4, .int .i64 l5, .int .i64 l6, .int .i64 l7, .int .i64 l8, .string n0, .string n1, .string n2], 25), (w.heap.size + 1 + 1 + 1, (ntl n), 53), (w1.heap.size, (cfl g), 23), (w6.heap.size, (dgl d), 33), (w8.heap.size, #[.int .i64 a.pr, .int .i64 a.kd, .bool a.ba, .int .i64 a.sa, .int .i64 a.sp, .int .i64 g.oa, .int .i64 ext, .int .i64 a.tl, .int .i64 a.bi, .int .i64 a.sr, .string a.op, .string a.md, .string a.tx, .string a.ta], 33)] w w11) := hst0
            clear S_u10
            clear HT
            have HT : Hid _ := htb0
            clear htb0 hst0 H1 H2 bb q_a3 q_d3 q_a4 q_d4
            have hz_w11 : w8.heap.size < w11.heap.size := St.lt S_w11.out (x := (w8.heap.size, #[.int .i64 a.pr, .int .i64 a.kd, .bool a.ba, .int .i64 a.sa, .int .i64 a.sp, .int .i64 g.oa, .int .i64 ext, .int .i64 a.tl, .int .i64 a.bi, .int .i64 a.sr, .string a.op, .string a.md, .string a.tx, .string a.ta], 33)) (by simp)
            go_wp2_with (first | (refine pull_dg [.int .i64 a.pr, .int .i64 a.kd, .bool a.ba, .int .i64 a.sa, .int .i64 a.sp, .int .i64 g.oa, .int .i64 ext, .int .i64 a.tl, .int .i64 a.bi, .int .i64 a.sr, .string a.op, .string a.md, .string a.tx, .string a.ta] rfl (w8.heap.size) (St.get S_w11.out 6 rfl) rfl rfl rfl ?_) | (refine pull_cf [.int .i64 g.ia, .int .i64 g.oa, .int .i64 g.lo, .int .i64 g.hi, .int .i64 g.cp, .int .i64 g.im, .int .i64 g.om, .int .i64 g.iu, .int .i64 g.it, .int .i64 g.iq, .int .i64 g.bu, .int .i64 g.ra] rfl (w1.heap.size) (St.get S_w11.out 4 rfl) rfl rfl rfl ?_))
            refine Calls.mono (cO.at _) ?_; rintro e w12 ⟨rfl, hb12⟩
            have S_w12 : Hid (St [(w.heap.size, (cfl c), 23), (w.heap.size + 1, #[.int .i64 kk, .int .i64 k1, .int .i64 k2, .int .i64 k3, .int .i64 k4, .int .i64 k5, .int .i64 k6, .int .i64 k7, .int .i64 k8, .string m0, .string m1, .string m2], 25), (w.heap.size + 1 + 1, #[.int .i64 kk, .int .i64 l1, .int .i64 l2, .int .i64 l3, .int .i64 l4, .int .i64 l5, .int .i64 l6, .int .i64 l7, .int .i64 l8, .string n0, .string n1, .string n2], 25), (w.heap.size + 1 + 1 + 1, (ntl n), 53), (w1.heap.size, (cfl g), 23), (w6.heap.size, (dgl d), 33), (w8.heap.size, #[.int .i64 a.pr, .int .i64 a.kd, .bool a.ba, .int .i64 a.sa, .int .i64 a.sp, .int .i64 g.oa, .int .i64 ext, .int .i64 a.tl, .int .i64 a.bi, .int .i64 a.sr, .string a.op, .string a.md, .string a.tx, .string a.ta], 33)] w w12) := St.next S_w11.out hb12
            have HT_w12 : Hid _ := Tb.below HT.out hb12
            clear HT
            have HT : Hid _ := HT_w12.out
            clear HT_w12
            generalize (Value.agg #[.int .i64 a.pr, .int .i64 a.kd, .bool a.ba, .int .i64 a.sa, .int .i64 a.sp, .int .i64 g.oa, .int .i64 ext, .int .i64 a.tl, .int .i64 a.bi, .int .i64 a.sr, .string a.op, .string a.md, .string a.tx, .string a.ta]) = B12
            generalize (Value.agg #[.int .i64 g.ia, .int .i64 g.oa, .int .i64 g.lo, .int .i64 g.hi, .int .i64 g.cp, .int .i64 g.im, .int .i64 g.om, .int .i64 g.iu, .int .i64 g.it, .int .i64 g.iq, .int .i64 g.bu, .int .i64 g.ra]) = B13
            clear S_w11
            have hz_w12 : w8.heap.size < w12.heap.size := St.lt S_w12.out (x := (w8.heap.size, #[.int .i64 a.pr, .int .i64 a.kd, .bool a.ba, .int .i64 a.sa, .int .i64 a.sp, .int .i64 g.oa, .int .i64 ext, .int .i64 a.tl, .int .i64 a.bi, .int .i64 a.sr, .string a.op, .string a.md, .string a.tx, .string a.ta], 33)) (by simp)
            clear hb12
            have hbl_o : b < w12.heap.size := HT.out.lt
            have HO_o : Hid (∀ o, v3.ownBlock = some o → o < w12.heap.size) := fun o e => (HT.out.row.lt o e).2
            rename_i KK hKK
            refine hKK _ _ ?_
            refine keep_dg [.int .i64 a.pr, .int .i64 a.kd, .bool a.ba, .int .i64 g.oa, .int .i64 ow, .int .i64 g.oa, .int .i64 ext, .int .i64 (a.tl - 1), .int .i64 a.bi, .int .i64 a.sr, .string a.op, .string a.md, .string a.tx, .string a.ta] rfl rfl rfl rfl rfl (by simp [Value.oneCell']) (by simp [Act.eval, Act.put]) (by simp [Act.eval, Act.put]) ?_
            clear hKK
            clear KK
            have S_v12 : Hid (St [(w.heap.size, (cfl c), 23), (w.heap.size + 1, #[.int .i64 kk, .int .i64 k1, .int .i64 k2, .int .i64 k3, .int .i64 k4, .int .i64 k5, .int .i64 k6, .int .i64 k7, .int .i64 k8, .string m0, .string m1, .string m2], 25), (w.heap.size + 1 + 1, #[.int .i64 kk, .int .i64 l1, .int .i64 l2, .int .i64 l3, .int .i64 l4, .int .i64 l5, .int .i64 l6, .int .i64 l7, .int .i64 l8, .string n0, .string n1, .string n2], 25), (w.heap.size + 1 + 1 + 1, (ntl n), 53), (w1.heap.size, (cfl g), 23), (w6.heap.size, (dgl d), 33), (w8.heap.size, #[.int .i64 a.pr, .int .i64 a.kd, .bool a.ba, .int .i64 a.sa, .int .i64 a.sp, .int .i64 g.oa, .int .i64 ext, .int .i64 a.tl, .int .i64 a.bi, .int .i64 a.sr, .string a.op, .string a.md, .string a.tx, .string a.ta], 33), (w12.heap.size, (dgl { a with sa := g.oa, sp := ow, da := g.oa, dp := ext, tl := a.tl - 1 }), 33)] w (w12.alloc (.cells #[.int .i64 a.pr, .int .i64 a.kd, .bool a.ba, .int .i64 g.oa, .int .i64 ow, .int .i64 g.oa, .int .i64 ext, .int .i64 (a.tl - 1), .int .i64 a.bi, .int .i64 a.sr, .string a.op, .string a.md, .string a.tx, .string a.ta] 33))) := St.alloc S_w12.out (dgl { a with sa := g.oa, sp := ow, da := g.oa, dp := ext, tl := a.tl - 1 }) 33 (w12.heap.size) rfl
            have HT_v12 : Hid _ := Tb.below HT.out ((Below.refl _ _).alloc (Nat.le_refl _) (.cells #[.int .i64 a.pr, .int .i64 a.kd, .bool a.ba, .int .i64 g.oa, .int .i64 ow, .int .i64 g.oa, .int .i64 ext, .int .i64 (a.tl - 1), .int .i64 a.bi, .int .i64 a.sr, .string a.op, .string a.md, .string a.tx, .string a.ta] 33))
            have hs_v12 : w12.heap.size < (w12.alloc (.cells #[.int .i64 a.pr, .int .i64 a.kd, .bool a.ba, .int .i64 g.oa, .int .i64 ow, .int .i64 g.oa, .int .i64 ext, .int .i64 (a.tl - 1), .int .i64 a.bi, .int .i64 a.sr, .string a.op, .string a.md, .string a.tx, .string a.ta] 33)).heap.size := by simp
            generalize w12.alloc (.cells #[.int .i64 a.pr, .int .i64 a.kd, .bool a.ba, .int .i64 g.oa, .int .i64 ow, .int .i64 g.oa, .int .i64 ext, .int .i64 (a.tl - 1), .int .i64 a.bi, .int .i64 a.sr, .string a.op, .string a.md, .string a.tx, .string a.ta] 33) = v12 at S_v12 hs_v12 HT_v12 ⊢
            clear S_w12
            clear HT
            have HT : Hid _ := HT_v12.out
            clear HT_v12
            clear hs_v12
            clear cO
            have q_d3 : v12.cell? ⟨w6.heap.size, 3, none⟩ = some (.int .i64 d.sa) := St.at 5 3 rfl rfl _ S_v12.out
            have fz := St.frz 7 rfl S_v12.out
            have q_o5 : v12.cell? ⟨w12.heap.size, 5, none⟩ = some (.int .i64 g.oa) := St.at 7 5 rfl rfl _ S_v12.out
            go_upto_region 24 with fail
            have S_u13 : Hid (St [(w.heap.size, (cfl c), 23), (w.heap.size + 1, #[.int .i64 kk, .int .i64 k1, .int .i64 k2, .int .i64 k3, .int .i64 k4, .int .i64 k5, .int .i64 k6, .int .i64 k7, .int .i64 k8, .string m0, .string m1, .string m2], 25), (w.heap.size + 1 + 1, #[.int .i64 kk, .int .i64 l1, .int .i64 l2, .int .i64 l3, .int .i64 l4, .int .i64 l5, .int .i64 l6, .int .i64 l7, .int .i64 l8, .string n0, .string n1, .string n2], 25), (w.heap.size + 1 + 1 + 1, (ntl n), 53), (w1.heap.size, (cfl g), 23), (w6.heap.size, (dgl d), 33), (w8.heap.size, #[.int .i64 a.pr, .int .i64 a.kd, .bool a.ba, .int .i64 a.sa, .int .i64 a.sp, .int .i64 g.oa, .int .i64 ext, .int .i64 a.tl, .int .i64 a.bi, .int .i64 a.sr, .string a.op, .string a.md, .string a.tx, .string a.ta], 33), (w12.heap.size, #[.int .i64 a.pr, .int .i64 a.kd, .bool a.ba, .int .i64 g.oa, .int .i64 ow, .int .i64 d.sa, .int .i64 ext, .int .i64 (a.tl - 1), .int .i64 a.bi, .int .i64 a.sr, .string a.op, .string a.md, .string a.tx, .string a.ta], 33)] w (v12.setCell ⟨w12.heap.size, 5, none⟩ (.int .i64 d.sa))) := St.setAt (L1 := [(w.heap.size, (cfl c), 23), (w.heap.size + 1, #[.int .i64 kk, .int .i64 k1, .int .i64 k2, .int .i64 k3, .int .i64 k4, .int .i64 k5, .int .i64 k6, .int .i64 k7, .int .i64 k8, .string m0, .string m1, .string m2], 25), (w.heap.size + 1 + 1, #[.int .i64 kk, .int .i64 l1, .int .i64 l2, .int .i64 l3, .int .i64 l4, .int .i64 l5, .int .i64 l6, .int .i64 l7, .int .i64 l8, .string n0, .string n1, .string n2], 25), (w.heap.size + 1 + 1 + 1, (ntl n), 53), (w1.heap.size, (cfl g), 23), (w6.heap.size, (dgl d), 33), (w8.heap.size, #[.int .i64 a.pr, .int .i64 a.kd, .bool a.ba, .int .i64 a.sa, .int .i64 a.sp, .int .i64 g.oa, .int .i64 ext, .int .i64 a.tl, .int .i64 a.bi, .int .i64 a.sr, .string a.op, .string a.md, .string a.tx, .string a.ta], 33)]) (L2 := []) S_v12.out (by omega) (by simp; omega) 5 (.int .i64 d.sa)
            have T_u13 : Hid _ := Tb.other3 HT.out (p := ⟨w12.heap.size, 5, none⟩) (by show b ≠ w12.heap.size; omega) (fun o e => by have := HO_o.out o e; show o ≠ w12.heap.size; omega) (.int .i64 d.sa)
            generalize v12.setCell ⟨w12.heap.size, 5, none⟩ (.int .i64 d.sa) = u13 at S_u13 T_u13 ⊢
            clear S_v12 fz q_d3 q_o5
            clear HT
            have HT : Hid _ := T_u13.out
            clear T_u13
            have q_d4 : u13.cell? ⟨w6.heap.size, 4, none⟩ = some (.int .i64 d.sp) := St.at 5 4 rfl rfl _ S_u13.out
            have fz := St.frz 7 rfl S_u13.out
            have q_o6 : u13.cell? ⟨w12.heap.size, 6, none⟩ = some (.int .i64 ext) := St.at 7 6 rfl rfl _ S_u13.out
            go_upto_region 25 with fail
            have S_u14 : Hid (St [(w.heap.size, (cfl c), 23), (w.heap.size + 1, #[.int .i64 kk, .int .i64 k1, .int .i64 k2, .int .i64 k3, .int .i64 k4, .int .i64 k5, .int .i64 k6, .int .i64 k7, .int .i64 k8, .string m0, .string m1, .string m2], 25), (w.heap.size + 1 + 1, #[.int .i64 kk, .int .i64 l1, .int .i64 l2, .int .i64 l3, .int .i64 l4, .int .i64 l5, .int .i64 l6, .int .i64 l7, .int .i64 l8, .string n0, .string n1, .string n2], 25), (w.heap.size + 1 + 1 + 1, (ntl n), 53), (w1.heap.size, (cfl g), 23), (w6.heap.size, (dgl d), 33), (w8.heap.size, #[.int .i64 a.pr, .int .i64 a.kd, .bool a.ba, .int .i64 a.sa, .int .i64 a.sp, .int .i64 g.oa, .int .i64 ext, .int .i64 a.tl, .int .i64 a.bi, .int .i64 a.sr, .string a.op, .string a.md, .string a.tx, .string a.ta], 33), (w12.heap.size, #[.int .i64 a.pr, .int .i64 a.kd, .bool a.ba, .int .i64 g.oa, .int .i64 ow, .int .i64 d.sa, .int .i64 d.sp, .int .i64 (a.tl - 1), .int .i64 a.bi, .int .i64 a.sr, .string a.op, .string a.md, .string a.tx, .string a.ta], 33)] w (u13.setCell ⟨w12.heap.size, 6, none⟩ (.int .i64 d.sp))) := St.setAt (L1 := [(w.heap.size, (cfl c), 23), (w.heap.size + 1, #[.int .i64 kk, .int .i64 k1, .int .i64 k2, .int .i64 k3, .int .i64 k4, .int .i64 k5, .int .i64 k6, .int .i64 k7, .int .i64 k8, .string m0, .string m1, .string m2], 25), (w.heap.size + 1 + 1, #[.int .i64 kk, .int .i64 l1, .int .i64 l2, .int .i64 l3, .int .i64 l4, .int .i64 l5, .int .i64 l6, .int .i64 l7, .int .i64 l8, .string n0, .string n1, .string n2], 25), (w.heap.size + 1 + 1 + 1, (ntl n), 53), (w1.heap.size, (cfl g), 23), (w6.heap.size, (dgl d), 33), (w8.heap.size, #[.int .i64 a.pr, .int .i64 a.kd, .bool a.ba, .int .i64 a.sa, .int .i64 a.sp, .int .i64 g.oa, .int .i64 ext, .int .i64 a.tl, .int .i64 a.bi, .int .i64 a.sr, .string a.op, .string a.md, .string a.tx, .string a.ta], 33)]) (L2 := []) S_u13.out (by omega) (by simp; omega) 6 (.int .i64 d.sp)
            have T_u14 : Hid _ := Tb.other3 HT.out (p := ⟨w12.heap.size, 6, none⟩) (by show b ≠ w12.heap.size; omega) (fun o e => by have := HO_o.out o e; show o ≠ w12.heap.size; omega) (.int .i64 d.sp)
            generalize u13.setCell ⟨w12.heap.size, 6, none⟩ (.int .i64 d.sp) = u14 at S_u14 T_u14 ⊢
            clear S_u13 fz q_d4 q_o6
            clear HT
            have HT : Hid _ := T_u14.out
            clear T_u14
            have CP2 : Hid (∀ wx, Bat wx v6.heap.size b g g.bu 0 v3 [mp] → Calls Tryz.prog 28 #[.pointer (some ⟨b, 0, none⟩), .int .i64 0, .string (kfr { a with da := g.oa, dp := ext }), .int .i64 0, .string (kfr { a with sa := g.oa, sp := ow, da := d.sa, dp := d.sp, tl := a.tl - 1 })] wx fun e w' => e = .returned (.bool true) ∧ ∃ v', BL wx w' v6.heap.size b g v3 v' g.bu 0 ms) := fun wx => CP1.out wx _ b _
            clear CP1
            generalize kfr { a with da := g.oa, dp := ext } = XA at i1 CP2
            generalize kfr { a with sa := g.oa, sp := ow, da := d.sa, dp := d.sp, tl := a.tl - 1 } = XB at i2 CP2
            go_upto_region 25 with fail
            try go_frame
            obtain ⟨SX, hSX⟩ : ∃ SX : World → Prop, ∀ w', Sof SX w' ↔ St [(w.heap.size, (cfl c), 23), (w.heap.size + 1, #[.int .i64 kk, .int .i64 k1, .int .i64 k2, .int .i64 k3, .int .i64 k4, .int .i64 k5, .int .i64 k6, .int .i64 k7, .int .i64 k8, .string m0, .string m1, .string m2], 25), (w.heap.size + 1 + 1, #[.int .i64 kk, .int .i64 l1, .int .i64 l2, .int .i64 l3, .int .i64 l4, .int .i64 l5, .int .i64 l6, .int .i64 l7, .int .i64 l8, .string n0, .string n1, .string n2], 25), (w.heap.size + 1 + 1 + 1, (ntl n), 53), (w1.heap.size, (cfl g), 23), (w6.heap.size, (dgl d), 33), (w8.heap.size, #[.int .i64 a.pr, .int .i64 a.kd, .bool a.ba, .int .i64 a.sa, .int .i64 a.sp, .int .i64 g.oa, .int .i64 ext, .int .i64 a.tl, .int .i64 a.bi, .int .i64 a.sr, .string a.op, .string a.md, .string a.tx, .string a.ta], 33), (w12.heap.size, #[.int .i64 a.pr, .int .i64 a.kd, .bool a.ba, .int .i64 g.oa, .int .i64 ow, .int .i64 d.sa, .int .i64 d.sp, .int .i64 (a.tl - 1), .int .i64 a.bi, .int .i64 a.sr, .string a.op, .string a.md, .string a.tx, .string a.ta], 33)] w w' := ⟨_, fun _ => Iff.rfl⟩
            have HSX : Hid _ := hSX
            clear hSX
            have ss : Hid (Sof SX u14.drew) := (HSX.out _).2 (St.drew S_u14.out)
            have TD : Hid _ := Tb.drew HT.out
            go_cut [17] (fun ov wx => ov = .bool true ∧ St [(w.heap.size, (cfl c), 23), (w.heap.size + 1, #[.int .i64 kk, .int .i64 k1, .int .i64 k2, .int .i64 k3, .int .i64 k4, .int .i64 k5, .int .i64 k6, .int .i64 k7, .int .i64 k8, .string m0, .string m1, .string m2], 25), (w.heap.size + 1 + 1, #[.int .i64 kk, .int .i64 l1, .int .i64 l2, .int .i64 l3, .int .i64 l4, .int .i64 l5, .int .i64 l6, .int .i64 l7, .int .i64 l8, .string n0, .string n1, .string n2], 25), (w.heap.size + 1 + 1 + 1, (ntl n), 53), (w1.heap.size, (cfl g), 23), (w6.heap.size, (dgl d), 33), (w8.heap.size, #[.int .i64 a.pr, .int .i64 a.kd, .bool a.ba, .int .i64 a.sa, .int .i64 a.sp, .int .i64 g.oa, .int .i64 ext, .int .i64 a.tl, .int .i64 a.bi, .int .i64 a.sr, .string a.op, .string a.md, .string a.tx, .string a.ta], 33), (w12.heap.size, #[.int .i64 a.pr, .int .i64 a.kd, .bool a.ba, .int .i64 g.oa, .int .i64 ow, .int .i64 d.sa, .int .i64 d.sp, .int .i64 (a.tl - 1), .int .i64 a.bi, .int .i64 a.sr, .string a.op, .string a.md, .string a.tx, .string a.ta], 33)] w wx ∧ ∃ v', Bat wx v6.heap.size b g g.bu 0 v' ms)
            case first =>
              refine wp_region_held_drew (S := fun w' => Sof SX w') (by kernel_rfl) ss.out (fun hHeld => ?_)
              refine takeL (i := 1) (v := .agg #[.int .i64 a.pr, .int .i64 a.kd, .bool a.ba, .int .i64 a.sa, .int .i64 a.sp, .int .i64 g.oa, .int .i64 ext, .int .i64 a.tl, .int .i64 a.bi, .int .i64 a.sr, .string a.op, .string a.md, .string a.tx, .string a.ta]) rfl (by kernel_rfl) (by kernel_rfl) (by kernel_rfl) (fun _ _ _ h => h) (yields_dg (by rfl) rfl (w8.heap.size) rfl [.int .i64 a.pr, .int .i64 a.kd, .bool a.ba, .int .i64 a.sa, .int .i64 a.sp, .int .i64 g.oa, .int .i64 ext, .int .i64 a.tl, .int .i64 a.bi, .int .i64 a.sr, .string a.op, .string a.md, .string a.tx, .string a.ta] rfl (fun w' h => ⟨33, show w'.heap[w8.heap.size]? = some (.cells #[.int .i64 a.pr, .int .i64 a.kd, .bool a.ba, .int .i64 a.sa, .int .i64 a.sp, .int .i64 g.oa, .int .i64 ext, .int .i64 a.tl, .int .i64 a.bi, .int .i64 a.sr, .string a.op, .string a.md, .string a.tx, .string a.ta] 33 (0, 0)) from St.get ((HSX.out w').1 h) 6 rfl⟩)) (by assumption) ?_
              try simp only [Act.put, List.setIfInBounds_toArray, List.set_cons_zero, List.set_cons_succ]
              refine takeL (i := 3) (v := .agg #[.int .i64 a.pr, .int .i64 a.kd, .bool a.ba, .int .i64 g.oa, .int .i64 ow, .int .i64 d.sa, .int .i64 d.sp, .int .i64 (a.tl - 1), .int .i64 a.bi, .int .i64 a.sr, .string a.op, .string a.md, .string a.tx, .string a.ta]) rfl (by kernel_rfl) (by kernel_rfl) (by kernel_rfl) (fun _ _ _ h => h) (yields_dg (by rfl) rfl (w12.heap.size) rfl [.int .i64 a.pr, .int .i64 a.kd, .bool a.ba, .int .i64 g.oa, .int .i64 ow, .int .i64 d.sa, .int .i64 d.sp, .int .i64 (a.tl - 1), .int .i64 a.bi, .int .i64 a.sr, .string a.op, .string a.md, .string a.tx, .string a.ta] rfl (fun w' h => ⟨33, show w'.heap[w12.heap.size]? = some (.cells #[.int .i64 a.pr, .int .i64 a.kd, .bool a.ba, .int .i64 g.oa, .int .i64 ow, .int .i64 d.sa, .int .i64 d.sp, .int .i64 (a.tl - 1), .int .i64 a.bi, .int .i64 a.sr, .string a.op, .string a.md, .string a.tx, .string a.ta] 33 (0, 0)) from St.get ((HSX.out w').1 h) 7 rfl⟩)) (by assumption) ?_
              try simp only [Act.put, List.setIfInBounds_toArray, List.set_cons_zero, List.set_cons_succ]
              refine takeL (i := 0) (v := .pointer (some ⟨b, 0, none⟩)) rfl (by kernel_rfl) (by kernel_rfl) (by kernel_rfl) (fun _ _ _ h => h) (yields_mv (by rfl) (.inl rfl) rfl) (by assumption) ?_
              try simp only [Act.put, List.setIfInBounds_toArray, List.set_cons_zero, List.set_cons_succ]
              refine callL (i := 2) (by kernel_rfl) rfl (by rfl) (fun K hK => ?_)
              go_simp
              go_wp2_with (first | (go_at_call 14; refine Calls.mono (i1.at _) ?_; rintro e wx ⟨rfl, hbx⟩; have hkx : Sof SX wx := (HSX.out _).2 (St.next ((HSX.out _).1 ss.out) hbx); have TX : Hid _ := Tb.below TD.out hbx))
              refine hK.out _ _ ?_ (fun hHeld => ?_)
              · exact hkx
              clear hK
              clear K
              try simp only [Act.put, List.setIfInBounds_toArray, List.set_cons_zero, List.set_cons_succ]
              clear hbx TD
              refine callL (i := 4) (by kernel_rfl) rfl (by rfl) (fun K hK => ?_)
              go_simp
              go_wp2_with (first | (go_at_call 14; refine Calls.mono (i2.at _) ?_; rintro e wy ⟨rfl, hby⟩; have hky : Sof SX wy := (HSX.out _).2 (St.next ((HSX.out _).1 hkx) hby); have TY : Hid _ := Tb.below TX.out hby))
              refine hK.out _ _ ?_ (fun hHeld => ?_)
              · exact hky
              clear hK
              clear K
              try simp only [Act.put, List.setIfInBounds_toArray, List.set_cons_zero, List.set_cons_succ]
              clear hby TX
              refine callL (i := 5) (by kernel_rfl) rfl (by rfl) (fun K hK => ?_)
              go_simp
              go_wp2_with (first | (go_at_call 28; refine Calls.mono (CP2.out _ TY.out) ?_; rintro e wz ⟨rfl, vz, hbz⟩; have hkz : Sof SX wz := (HSX.out _).2 (St.bl ((HSX.out _).1 hky) TY.out hbs hbz (by omega) (hi := w7.heap.size) hbw HO3.out (by simp; omega)); have TZ : Hid _ := hbz.bat))
              refine hK.out _ _ ?_ (fun hHeld => ?_)
              · exact hkz
              clear hK
              clear K
              try simp only [Act.put, List.setIfInBounds_toArray, List.set_cons_zero, List.set_cons_succ]
              clear hbz TY
              refine takeL (i := 6) (v := .bool true) rfl (by kernel_rfl) (by kernel_rfl) (by kernel_rfl) (fun _ _ _ h => h) (yields_mv (by rfl) (.inr rfl) rfl) (by assumption) ?_
              try simp only [Act.put, List.setIfInBounds_toArray, List.set_cons_zero, List.set_cons_succ]
              refine wpAnyH_done (by kernel_rfl) ?_ _
              go_wp2_with fail
              go_meet
              exact ⟨rfl, (HSX.out _).1 hkz, ⟨vz, TZ.out⟩⟩
            case rest =>
              obtain ⟨rfl, hst0, htb0⟩ := hcut
              obtain ⟨w15, hw15⟩ : ∃ w15 : World, w15 = wc := ⟨_, rfl⟩
              subst hw15
              have S_w15 : Hid (St [(w.heap.size, (cfl c), 23), (w.heap.size + 1, #[.int .i64 kk, .int .i64 k1, .int .i64 k2, .int .i64 k3, .int .i64 k4, .int .i64 k5, .int .i64 k6, .int .i64 k7, .int .i64 k8, .string m0, .string m1, .string m2], 25), (w.heap.size + 1 + 1, #[.int .i64 kk, .int .i64 l1, .int .i64 l2, .int .i64 l3, .int .i64 l4, .int .i64 l5, .int .i64 l6, .int .i64 l7, .int .i64 l8, .string n0, .string n1, .string n2], 25), (w.heap.size + 1 + 1 + 1, (ntl n), 53), (w1.heap.size, (cfl g), 23), (w6.heap.size, (dgl d), 33), (w8.heap.size, #[.int .i64 a.pr, .int .i64 a.kd, .bool a.ba, .int .i64 a.sa, .int .i64 a.sp, .int .i64 g.oa, .int .i64 ext, .int .i64 a.tl, .int .i64 a.bi, .int .i64 a.sr, .string a.op, .string a.md, .string a.tx, .string a.ta], 33), (w12.heap.size, #[.int .i64 a.pr, .int .i64 a.kd, .bool a.ba, .int .i64 g.oa, .int .i64 ow, .int .i64 d.sa, .int .i64 d.sp, .int .i64 (a.tl - 1), .int .i64 a.bi, .int .i64 a.sr, .string a.op, .string a.md, .string a.tx, .string a.ta], 33)] w w15) := hst0
              clear S_u14
              obtain ⟨v4, htb1⟩ := htb0
              clear HT
              have HT : Hid (Bat w15 v6.heap.size b g g.bu 0 v4 ms) := htb1
              clear htb1 TD
              clear hst0 HSX ss CP2 i1 i2
              clear HO_a hbl_a HO_o hbl_o HO3
              go_wp2_with fail
              refine Calls.mono (CL.out _ _ b _ HT.out) ?_; rintro e w' ⟨rfl, hw⟩; replace hw := hw.symm; subst hw
              have q_g1 : w15.cell? ⟨w1.heap.size, 1, none⟩ = some (.int .i64 g.oa) := St.at 4 1 rfl rfl _ S_w15.out
              have q_g5 : w15.cell? ⟨w1.heap.size, 5, none⟩ = some (.int .i64 g.im) := St.at 4 5 rfl rfl _ S_w15.out
              go_wp2_with (first | (refine pull_nt [.int .i64 n.sr, .int .i64 n.ty, .int .i64 n.co, .int .i64 n.le, .int .i64 n.se, .int .i64 n.tl, .int .i64 n.op, .int .i64 n.bi, .string n.re, .string n.ta] rfl (w.heap.size + 1 + 1 + 1) (St.get S_w15.out 3 rfl) rfl rfl rfl ?_) | (refine pull_cf [.int .i64 g.ia, .int .i64 g.oa, .int .i64 g.lo, .int .i64 g.hi, .int .i64 g.cp, .int .i64 g.im, .int .i64 g.om, .int .i64 g.iu, .int .i64 g.it, .int .i64 g.iq, .int .i64 g.bu, .int .i64 g.ra] rfl (w1.heap.size) (St.get S_w15.out 4 rfl) rfl rfl rfl ?_) | (refine pull_dg [.int .i64 a.pr, .int .i64 a.kd, .bool a.ba, .int .i64 g.oa, .int .i64 ow, .int .i64 d.sa, .int .i64 d.sp, .int .i64 (a.tl - 1), .int .i64 a.bi, .int .i64 a.sr, .string a.op, .string a.md, .string a.tx, .string a.ta] rfl (w12.heap.size) (St.get S_w15.out 7 rfl) rfl rfl rfl ?_))
              refine Calls.mono (CN.out _) ?_; rintro e w16 ⟨m, rfl, hb16, y, XX, YY, cA, j1, j2, cP3⟩
              have S_w16 : Hid (St [(w.heap.size, (cfl c), 23), (w.heap.size + 1, #[.int .i64 kk, .int .i64 k1, .int .i64 k2, .int .i64 k3, .int .i64 k4, .int .i64 k5, .int .i64 k6, .int .i64 k7, .int .i64 k8, .string m0, .string m1, .string m2], 25), (w.heap.size + 1 + 1, #[.int .i64 kk, .int .i64 l1, .int .i64 l2, .int .i64 l3, .int .i64 l4, .int .i64 l5, .int .i64 l6, .int .i64 l7, .int .i64 l8, .string n0, .string n1, .string n2], 25), (w.heap.size + 1 + 1 + 1, (ntl n), 53), (w1.heap.size, (cfl g), 23), (w6.heap.size, (dgl d), 33), (w8.heap.size, #[.int .i64 a.pr, .int .i64 a.kd, .bool a.ba, .int .i64 a.sa, .int .i64 a.sp, .int .i64 g.oa, .int .i64 ext, .int .i64 a.tl, .int .i64 a.bi, .int .i64 a.sr, .string a.op, .string a.md, .string a.tx, .string a.ta], 33), (w12.heap.size, #[.int .i64 a.pr, .int .i64 a.kd, .bool a.ba, .int .i64 g.oa, .int .i64 ow, .int .i64 d.sa, .int .i64 d.sp, .int .i64 (a.tl - 1), .int .i64 a.bi, .int .i64 a.sr, .string a.op, .string a.md, .string a.tx, .string a.ta], 33)] w w16) := St.next S_w15.out hb16
              have HT_w16 : Hid _ := Tb.below HT.out hb16
              clear HT
              have HT : Hid _ := HT_w16.out
              clear HT_w16
              clear q_g1 q_g5
              generalize (Value.agg #[.int .i64 n.sr, .int .i64 n.ty, .int .i64 n.co, .int .i64 n.le, .int .i64 n.se, .int .i64 n.tl, .int .i64 n.op, .int .i64 n.bi, .string n.re, .string n.ta]) = B14
              generalize (Value.agg #[.int .i64 g.ia, .int .i64 g.oa, .int .i64 g.lo, .int .i64 g.hi, .int .i64 g.cp, .int .i64 g.im, .int .i64 g.om, .int .i64 g.iu, .int .i64 g.it, .int .i64 g.iq, .int .i64 g.bu, .int .i64 g.ra]) = B15
              generalize (Value.agg #[.int .i64 a.pr, .int .i64 a.kd, .bool a.ba, .int .i64 g.oa, .int .i64 ow, .int .i64 d.sa, .int .i64 d.sp, .int .i64 (a.tl - 1), .int .i64 a.bi, .int .i64 a.sr, .string a.op, .string a.md, .string a.tx, .string a.ta]) = B16
              clear S_w15
              have hz_w16 : w12.heap.size < w16.heap.size := St.lt S_w16.out (x := (w12.heap.size, #[.int .i64 a.pr, .int .i64 a.kd, .bool a.ba, .int .i64 g.oa, .int .i64 ow, .int .i64 d.sa, .int .i64 d.sp, .int .i64 (a.tl - 1), .int .i64 a.bi, .int .i64 a.sr, .string a.op, .string a.md, .string a.tx, .string a.ta], 33)) (by simp)
              clear hb16
              have hbl_m : b < w16.heap.size := HT.out.lt
              have HO_m : Hid (∀ o, v4.ownBlock = some o → o < w16.heap.size) := fun o e => (HT.out.row.lt o e).2
              rename_i KK hKK
              refine hKK _ _ ?_
              refine keep_lt [.int .i64 m.d.pr, .int .i64 m.d.kd, .bool m.d.ba, .int .i64 m.d.sa, .int .i64 m.d.sp, .int .i64 m.d.da, .int .i64 m.d.dp, .int .i64 m.d.tl, .int .i64 m.d.bi, .int .i64 m.d.sr, .string m.d.op, .string m.d.md, .string m.d.tx, .string m.d.ta, .int .i64 m.ki, .int .i64 m.co, .string m.re, .string m.qu] rfl rfl rfl rfl rfl (by simp [Value.oneCell']) (by simp [Act.eval, Act.put]) (by simp [Act.eval, Act.put]) ?_
              clear hKK
              clear KK
              have S_v16 : Hid (St [(w.heap.size, (cfl c), 23), (w.heap.size + 1, #[.int .i64 kk, .int .i64 k1, .int .i64 k2, .int .i64 k3, .int .i64 k4, .int .i64 k5, .int .i64 k6, .int .i64 k7, .int .i64 k8, .string m0, .string m1, .string m2], 25), (w.heap.size + 1 + 1, #[.int .i64 kk, .int .i64 l1, .int .i64 l2, .int .i64 l3, .int .i64 l4, .int .i64 l5, .int .i64 l6, .int .i64 l7, .int .i64 l8, .string n0, .string n1, .string n2], 25), (w.heap.size + 1 + 1 + 1, (ntl n), 53), (w1.heap.size, (cfl g), 23), (w6.heap.size, (dgl d), 33), (w8.heap.size, #[.int .i64 a.pr, .int .i64 a.kd, .bool a.ba, .int .i64 a.sa, .int .i64 a.sp, .int .i64 g.oa, .int .i64 ext, .int .i64 a.tl, .int .i64 a.bi, .int .i64 a.sr, .string a.op, .string a.md, .string a.tx, .string a.ta], 33), (w12.heap.size, #[.int .i64 a.pr, .int .i64 a.kd, .bool a.ba, .int .i64 g.oa, .int .i64 ow, .int .i64 d.sa, .int .i64 d.sp, .int .i64 (a.tl - 1), .int .i64 a.bi, .int .i64 a.sr, .string a.op, .string a.md, .string a.tx, .string a.ta], 33), (w16.heap.size, (ltl m), 59)] w (w16.alloc (.cells #[.int .i64 m.d.pr, .int .i64 m.d.kd, .bool m.d.ba, .int .i64 m.d.sa, .int .i64 m.d.sp, .int .i64 m.d.da, .int .i64 m.d.dp, .int .i64 m.d.tl, .int .i64 m.d.bi, .int .i64 m.d.sr, .string m.d.op, .string m.d.md, .string m.d.tx, .string m.d.ta, .int .i64 m.ki, .int .i64 m.co, .string m.re, .string m.qu] 59))) := St.alloc S_w16.out (ltl m) 59 (w16.heap.size) rfl
              have HT_v16 : Hid _ := Tb.below HT.out ((Below.refl _ _).alloc (Nat.le_refl _) (.cells #[.int .i64 m.d.pr, .int .i64 m.d.kd, .bool m.d.ba, .int .i64 m.d.sa, .int .i64 m.d.sp, .int .i64 m.d.da, .int .i64 m.d.dp, .int .i64 m.d.tl, .int .i64 m.d.bi, .int .i64 m.d.sr, .string m.d.op, .string m.d.md, .string m.d.tx, .string m.d.ta, .int .i64 m.ki, .int .i64 m.co, .string m.re, .string m.qu] 59))
              have hs_v16 : w16.heap.size < (w16.alloc (.cells #[.int .i64 m.d.pr, .int .i64 m.d.kd, .bool m.d.ba, .int .i64 m.d.sa, .int .i64 m.d.sp, .int .i64 m.d.da, .int .i64 m.d.dp, .int .i64 m.d.tl, .int .i64 m.d.bi, .int .i64 m.d.sr, .string m.d.op, .string m.d.md, .string m.d.tx, .string m.d.ta, .int .i64 m.ki, .int .i64 m.co, .string m.re, .string m.qu] 59)).heap.size := by simp
              generalize w16.alloc (.cells #[.int .i64 m.d.pr, .int .i64 m.d.kd, .bool m.d.ba, .int .i64 m.d.sa, .int .i64 m.d.sp, .int .i64 m.d.da, .int .i64 m.d.dp, .int .i64 m.d.tl, .int .i64 m.d.bi, .int .i64 m.d.sr, .string m.d.op, .string m.d.md, .string m.d.tx, .string m.d.ta, .int .i64 m.ki, .int .i64 m.co, .string m.re, .string m.qu] 59) = v16 at S_v16 hs_v16 HT_v16 ⊢
              clear S_w16
              clear HT
              have HT : Hid _ := HT_v16.out
              clear HT_v16
              clear hs_v16
              have CP3 : Hid _ := cP3
              clear cP3 CN
              go_wp2_with (first | (refine pull_lt [.int .i64 m.d.pr, .int .i64 m.d.kd, .bool m.d.ba, .int .i64 m.d.sa, .int .i64 m.d.sp, .int .i64 m.d.da, .int .i64 m.d.dp, .int .i64 m.d.tl, .int .i64 m.d.bi, .int .i64 m.d.sr, .string m.d.op, .string m.d.md, .string m.d.tx, .string m.d.ta, .int .i64 m.ki, .int .i64 m.co, .string m.re, .string m.qu] rfl (w16.heap.size) (St.get S_v16.out 8 rfl) rfl rfl rfl ?_) | (refine pull_nt [.int .i64 n.sr, .int .i64 n.ty, .int .i64 n.co, .int .i64 n.le, .int .i64 n.se, .int .i64 n.tl, .int .i64 n.op, .int .i64 n.bi, .string n.re, .string n.ta] rfl (w.heap.size + 1 + 1 + 1) (St.get S_v16.out 3 rfl) rfl rfl rfl ?_) | (refine pull_dg [.int .i64 a.pr, .int .i64 a.kd, .bool a.ba, .int .i64 g.oa, .int .i64 ow, .int .i64 d.sa, .int .i64 d.sp, .int .i64 (a.tl - 1), .int .i64 a.bi, .int .i64 a.sr, .string a.op, .string a.md, .string a.tx, .string a.ta] rfl (w12.heap.size) (St.get S_v16.out 7 rfl) rfl rfl rfl ?_) | (refine pull_dg [.int .i64 a.pr, .int .i64 a.kd, .bool a.ba, .int .i64 a.sa, .int .i64 a.sp, .int .i64 g.oa, .int .i64 ext, .int .i64 a.tl, .int .i64 a.bi, .int .i64 a.sr, .string a.op, .string a.md, .string a.tx, .string a.ta] rfl (w8.heap.size) (St.get S_v16.out 6 rfl) rfl rfl rfl ?_))
              refine Calls.mono (cA.at _) ?_; rintro e w17 ⟨rfl, hb17⟩
              have S_w17 : Hid (St [(w.heap.size, (cfl c), 23), (w.heap.size + 1, #[.int .i64 kk, .int .i64 k1, .int .i64 k2, .int .i64 k3, .int .i64 k4, .int .i64 k5, .int .i64 k6, .int .i64 k7, .int .i64 k8, .string m0, .string m1, .string m2], 25), (w.heap.size + 1 + 1, #[.int .i64 kk, .int .i64 l1, .int .i64 l2, .int .i64 l3, .int .i64 l4, .int .i64 l5, .int .i64 l6, .int .i64 l7, .int .i64 l8, .string n0, .string n1, .string n2], 25), (w.heap.size + 1 + 1 + 1, (ntl n), 53), (w1.heap.size, (cfl g), 23), (w6.heap.size, (dgl d), 33), (w8.heap.size, #[.int .i64 a.pr, .int .i64 a.kd, .bool a.ba, .int .i64 a.sa, .int .i64 a.sp, .int .i64 g.oa, .int .i64 ext, .int .i64 a.tl, .int .i64 a.bi, .int .i64 a.sr, .string a.op, .string a.md, .string a.tx, .string a.ta], 33), (w12.heap.size, #[.int .i64 a.pr, .int .i64 a.kd, .bool a.ba, .int .i64 g.oa, .int .i64 ow, .int .i64 d.sa, .int .i64 d.sp, .int .i64 (a.tl - 1), .int .i64 a.bi, .int .i64 a.sr, .string a.op, .string a.md, .string a.tx, .string a.ta], 33), (w16.heap.size, (ltl m), 59)] w w17) := St.next S_v16.out hb17
              have HT_w17 : Hid _ := Tb.below HT.out hb17
              clear HT
              have HT : Hid _ := HT_w17.out
              clear HT_w17
              generalize (Value.agg #[.int .i64 m.d.pr, .int .i64 m.d.kd, .bool m.d.ba, .int .i64 m.d.sa, .int .i64 m.d.sp, .int .i64 m.d.da, .int .i64 m.d.dp, .int .i64 m.d.tl, .int .i64 m.d.bi, .int .i64 m.d.sr, .string m.d.op, .string m.d.md, .string m.d.tx, .string m.d.ta, .int .i64 m.ki, .int .i64 m.co, .string m.re, .string m.qu]) = B17
              generalize (Value.agg #[.int .i64 n.sr, .int .i64 n.ty, .int .i64 n.co, .int .i64 n.le, .int .i64 n.se, .int .i64 n.tl, .int .i64 n.op, .int .i64 n.bi, .string n.re, .string n.ta]) = B18
              generalize (Value.agg #[.int .i64 a.pr, .int .i64 a.kd, .bool a.ba, .int .i64 g.oa, .int .i64 ow, .int .i64 d.sa, .int .i64 d.sp, .int .i64 (a.tl - 1), .int .i64 a.bi, .int .i64 a.sr, .string a.op, .string a.md, .string a.tx, .string a.ta]) = B19
              generalize (Value.agg #[.int .i64 a.pr, .int .i64 a.kd, .bool a.ba, .int .i64 a.sa, .int .i64 a.sp, .int .i64 g.oa, .int .i64 ext, .int .i64 a.tl, .int .i64 a.bi, .int .i64 a.sr, .string a.op, .string a.md, .string a.tx, .string a.ta]) = B20
              clear S_v16
              have hz_w17 : w16.heap.size < w17.heap.size := St.lt S_w17.out (x := (w16.heap.size, (ltl m), 59)) (by simp)
              clear hb17
              have hbl_y : b < w17.heap.size := HT.out.lt
              have HO_y : Hid (∀ o, v4.ownBlock = some o → o < w17.heap.size) := fun o e => (HT.out.row.lt o e).2
              rename_i KK hKK
              refine hKK _ _ ?_
              refine keep_lt [.int .i64 y.d.pr, .int .i64 y.d.kd, .bool y.d.ba, .int .i64 y.d.sa, .int .i64 y.d.sp, .int .i64 y.d.da, .int .i64 y.d.dp, .int .i64 y.d.tl, .int .i64 y.d.bi, .int .i64 y.d.sr, .string y.d.op, .string y.d.md, .string y.d.tx, .string y.d.ta, .int .i64 y.ki, .int .i64 y.co, .string y.re, .string y.qu] rfl rfl rfl rfl rfl (by simp [Value.oneCell']) (by simp [Act.eval, Act.put]) (by simp [Act.eval, Act.put]) ?_
              clear hKK
              clear KK
              have S_v17 : Hid (St [(w.heap.size, (cfl c), 23), (w.heap.size + 1, #[.int .i64 kk, .int .i64 k1, .int .i64 k2, .int .i64 k3, .int .i64 k4, .int .i64 k5, .int .i64 k6, .int .i64 k7, .int .i64 k8, .string m0, .string m1, .string m2], 25), (w.heap.size + 1 + 1, #[.int .i64 kk, .int .i64 l1, .int .i64 l2, .int .i64 l3, .int .i64 l4, .int .i64 l5, .int .i64 l6, .int .i64 l7, .int .i64 l8, .string n0, .string n1, .string n2], 25), (w.heap.size + 1 + 1 + 1, (ntl n), 53), (w1.heap.size, (cfl g), 23), (w6.heap.size, (dgl d), 33), (w8.heap.size, #[.int .i64 a.pr, .int .i64 a.kd, .bool a.ba, .int .i64 a.sa, .int .i64 a.sp, .int .i64 g.oa, .int .i64 ext, .int .i64 a.tl, .int .i64 a.bi, .int .i64 a.sr, .string a.op, .string a.md, .string a.tx, .string a.ta], 33), (w12.heap.size, #[.int .i64 a.pr, .int .i64 a.kd, .bool a.ba, .int .i64 g.oa, .int .i64 ow, .int .i64 d.sa, .int .i64 d.sp, .int .i64 (a.tl - 1), .int .i64 a.bi, .int .i64 a.sr, .string a.op, .string a.md, .string a.tx, .string a.ta], 33), (w16.heap.size, (ltl m), 59), (w17.heap.size, (ltl y), 59)] w (w17.alloc (.cells #[.int .i64 y.d.pr, .int .i64 y.d.kd, .bool y.d.ba, .int .i64 y.d.sa, .int .i64 y.d.sp, .int .i64 y.d.da, .int .i64 y.d.dp, .int .i64 y.d.tl, .int .i64 y.d.bi, .int .i64 y.d.sr, .string y.d.op, .string y.d.md, .string y.d.tx, .string y.d.ta, .int .i64 y.ki, .int .i64 y.co, .string y.re, .string y.qu] 59))) := St.alloc S_w17.out (ltl y) 59 (w17.heap.size) rfl
              have HT_v17 : Hid _ := Tb.below HT.out ((Below.refl _ _).alloc (Nat.le_refl _) (.cells #[.int .i64 y.d.pr, .int .i64 y.d.kd, .bool y.d.ba, .int .i64 y.d.sa, .int .i64 y.d.sp, .int .i64 y.d.da, .int .i64 y.d.dp, .int .i64 y.d.tl, .int .i64 y.d.bi, .int .i64 y.d.sr, .string y.d.op, .string y.d.md, .string y.d.tx, .string y.d.ta, .int .i64 y.ki, .int .i64 y.co, .string y.re, .string y.qu] 59))
              have hs_v17 : w17.heap.size < (w17.alloc (.cells #[.int .i64 y.d.pr, .int .i64 y.d.kd, .bool y.d.ba, .int .i64 y.d.sa, .int .i64 y.d.sp, .int .i64 y.d.da, .int .i64 y.d.dp, .int .i64 y.d.tl, .int .i64 y.d.bi, .int .i64 y.d.sr, .string y.d.op, .string y.d.md, .string y.d.tx, .string y.d.ta, .int .i64 y.ki, .int .i64 y.co, .string y.re, .string y.qu] 59)).heap.size := by simp
              generalize w17.alloc (.cells #[.int .i64 y.d.pr, .int .i64 y.d.kd, .bool y.d.ba, .int .i64 y.d.sa, .int .i64 y.d.sp, .int .i64 y.d.da, .int .i64 y.d.dp, .int .i64 y.d.tl, .int .i64 y.d.bi, .int .i64 y.d.sr, .string y.d.op, .string y.d.md, .string y.d.tx, .string y.d.ta, .int .i64 y.ki, .int .i64 y.co, .string y.re, .string y.qu] 59) = v17 at S_v17 hs_v17 HT_v17 ⊢
              clear S_w17
              clear HT
              have HT : Hid _ := HT_v17.out
              clear HT_v17
              clear hs_v17
              clear cA
              have q_g1 : v17.cell? ⟨w1.heap.size, 1, none⟩ = some (.int .i64 g.oa) := St.at 4 1 rfl rfl _ S_v17.out
              have fz := St.frz 9 rfl S_v17.out
              have q_y3 : v17.cell? ⟨w17.heap.size, 3, none⟩ = some (.int .i64 y.d.sa) := St.at 9 3 rfl rfl _ S_v17.out
              go_upto_region 31 with fail
              have S_u18 : Hid (St [(w.heap.size, (cfl c), 23), (w.heap.size + 1, #[.int .i64 kk, .int .i64 k1, .int .i64 k2, .int .i64 k3, .int .i64 k4, .int .i64 k5, .int .i64 k6, .int .i64 k7, .int .i64 k8, .string m0, .string m1, .string m2], 25), (w.heap.size + 1 + 1, #[.int .i64 kk, .int .i64 l1, .int .i64 l2, .int .i64 l3, .int .i64 l4, .int .i64 l5, .int .i64 l6, .int .i64 l7, .int .i64 l8, .string n0, .string n1, .string n2], 25), (w.heap.size + 1 + 1 + 1, (ntl n), 53), (w1.heap.size, (cfl g), 23), (w6.heap.size, (dgl d), 33), (w8.heap.size, #[.int .i64 a.pr, .int .i64 a.kd, .bool a.ba, .int .i64 a.sa, .int .i64 a.sp, .int .i64 g.oa, .int .i64 ext, .int .i64 a.tl, .int .i64 a.bi, .int .i64 a.sr, .string a.op, .string a.md, .string a.tx, .string a.ta], 33), (w12.heap.size, #[.int .i64 a.pr, .int .i64 a.kd, .bool a.ba, .int .i64 g.oa, .int .i64 ow, .int .i64 d.sa, .int .i64 d.sp, .int .i64 (a.tl - 1), .int .i64 a.bi, .int .i64 a.sr, .string a.op, .string a.md, .string a.tx, .string a.ta], 33), (w16.heap.size, (ltl m), 59), (w17.heap.size, #[.int .i64 y.d.pr, .int .i64 y.d.kd, .bool y.d.ba, .int .i64 g.oa, .int .i64 y.d.sp, .int .i64 y.d.da, .int .i64 y.d.dp, .int .i64 y.d.tl, .int .i64 y.d.bi, .int .i64 y.d.sr, .string y.d.op, .string y.d.md, .string y.d.tx, .string y.d.ta, .int .i64 y.ki, .int .i64 y.co, .string y.re, .string y.qu], 59)] w (v17.setCell ⟨w17.heap.size, 3, none⟩ (.int .i64 g.oa))) := St.setAt (L1 := [(w.heap.size, (cfl c), 23), (w.heap.size + 1, #[.int .i64 kk, .int .i64 k1, .int .i64 k2, .int .i64 k3, .int .i64 k4, .int .i64 k5, .int .i64 k6, .int .i64 k7, .int .i64 k8, .string m0, .string m1, .string m2], 25), (w.heap.size + 1 + 1, #[.int .i64 kk, .int .i64 l1, .int .i64 l2, .int .i64 l3, .int .i64 l4, .int .i64 l5, .int .i64 l6, .int .i64 l7, .int .i64 l8, .string n0, .string n1, .string n2], 25), (w.heap.size + 1 + 1 + 1, (ntl n), 53), (w1.heap.size, (cfl g), 23), (w6.heap.size, (dgl d), 33), (w8.heap.size, #[.int .i64 a.pr, .int .i64 a.kd, .bool a.ba, .int .i64 a.sa, .int .i64 a.sp, .int .i64 g.oa, .int .i64 ext, .int .i64 a.tl, .int .i64 a.bi, .int .i64 a.sr, .string a.op, .string a.md, .string a.tx, .string a.ta], 33), (w12.heap.size, #[.int .i64 a.pr, .int .i64 a.kd, .bool a.ba, .int .i64 g.oa, .int .i64 ow, .int .i64 d.sa, .int .i64 d.sp, .int .i64 (a.tl - 1), .int .i64 a.bi, .int .i64 a.sr, .string a.op, .string a.md, .string a.tx, .string a.ta], 33), (w16.heap.size, (ltl m), 59)]) (L2 := []) S_v17.out (by omega) (by simp; omega) 3 (.int .i64 g.oa)
              have T_u18 : Hid _ := Tb.other3 HT.out (p := ⟨w17.heap.size, 3, none⟩) (by show b ≠ w17.heap.size; omega) (fun o e => by have := HO_y.out o e; show o ≠ w17.heap.size; omega) (.int .i64 g.oa)
              generalize v17.setCell ⟨w17.heap.size, 3, none⟩ (.int .i64 g.oa) = u18 at S_u18 T_u18 ⊢
              clear S_v17 fz q_g1 q_y3
              clear HT
              have HT : Hid _ := T_u18.out
              clear T_u18
              have q_a3 : u18.cell? ⟨w8.heap.size, 3, none⟩ = some (.int .i64 a.sa) := St.at 6 3 rfl rfl _ S_u18.out
              have fz := St.frz 9 rfl S_u18.out
              have q_y5 : u18.cell? ⟨w17.heap.size, 5, none⟩ = some (.int .i64 y.d.da) := St.at 9 5 rfl rfl _ S_u18.out
              go_upto_region 32 with fail
              have S_u19 : Hid (St [(w.heap.size, (cfl c), 23), (w.heap.size + 1, #[.int .i64 kk, .int .i64 k1, .int .i64 k2, .int .i64 k3, .int .i64 k4, .int .i64 k5, .int .i64 k6, .int .i64 k7, .int .i64 k8, .string m0, .string m1, .string m2], 25), (w.heap.size + 1 + 1, #[.int .i64 kk, .int .i64 l1, .int .i64 l2, .int .i64 l3, .int .i64 l4, .int .i64 l5, .int .i64 l6, .int .i64 l7, .int .i64 l8, .string n0, .string n1, .string n2], 25), (w.heap.size + 1 + 1 + 1, (ntl n), 53), (w1.heap.size, (cfl g), 23), (w6.heap.size, (dgl d), 33), (w8.heap.size, #[.int .i64 a.pr, .int .i64 a.kd, .bool a.ba, .int .i64 a.sa, .int .i64 a.sp, .int .i64 g.oa, .int .i64 ext, .int .i64 a.tl, .int .i64 a.bi, .int .i64 a.sr, .string a.op, .string a.md, .string a.tx, .string a.ta], 33), (w12.heap.size, #[.int .i64 a.pr, .int .i64 a.kd, .bool a.ba, .int .i64 g.oa, .int .i64 ow, .int .i64 d.sa, .int .i64 d.sp, .int .i64 (a.tl - 1), .int .i64 a.bi, .int .i64 a.sr, .string a.op, .string a.md, .string a.tx, .string a.ta], 33), (w16.heap.size, (ltl m), 59), (w17.heap.size, #[.int .i64 y.d.pr, .int .i64 y.d.kd, .bool y.d.ba, .int .i64 g.oa, .int .i64 y.d.sp, .int .i64 a.sa, .int .i64 y.d.dp, .int .i64 y.d.tl, .int .i64 y.d.bi, .int .i64 y.d.sr, .string y.d.op, .string y.d.md, .string y.d.tx, .string y.d.ta, .int .i64 y.ki, .int .i64 y.co, .string y.re, .string y.qu], 59)] w (u18.setCell ⟨w17.heap.size, 5, none⟩ (.int .i64 a.sa))) := St.setAt (L1 := [(w.heap.size, (cfl c), 23), (w.heap.size + 1, #[.int .i64 kk, .int .i64 k1, .int .i64 k2, .int .i64 k3, .int .i64 k4, .int .i64 k5, .int .i64 k6, .int .i64 k7, .int .i64 k8, .string m0, .string m1, .string m2], 25), (w.heap.size + 1 + 1, #[.int .i64 kk, .int .i64 l1, .int .i64 l2, .int .i64 l3, .int .i64 l4, .int .i64 l5, .int .i64 l6, .int .i64 l7, .int .i64 l8, .string n0, .string n1, .string n2], 25), (w.heap.size + 1 + 1 + 1, (ntl n), 53), (w1.heap.size, (cfl g), 23), (w6.heap.size, (dgl d), 33), (w8.heap.size, #[.int .i64 a.pr, .int .i64 a.kd, .bool a.ba, .int .i64 a.sa, .int .i64 a.sp, .int .i64 g.oa, .int .i64 ext, .int .i64 a.tl, .int .i64 a.bi, .int .i64 a.sr, .string a.op, .string a.md, .string a.tx, .string a.ta], 33), (w12.heap.size, #[.int .i64 a.pr, .int .i64 a.kd, .bool a.ba, .int .i64 g.oa, .int .i64 ow, .int .i64 d.sa, .int .i64 d.sp, .int .i64 (a.tl - 1), .int .i64 a.bi, .int .i64 a.sr, .string a.op, .string a.md, .string a.tx, .string a.ta], 33), (w16.heap.size, (ltl m), 59)]) (L2 := []) S_u18.out (by omega) (by simp; omega) 5 (.int .i64 a.sa)
              have T_u19 : Hid _ := Tb.other3 HT.out (p := ⟨w17.heap.size, 5, none⟩) (by show b ≠ w17.heap.size; omega) (fun o e => by have := HO_y.out o e; show o ≠ w17.heap.size; omega) (.int .i64 a.sa)
              generalize u18.setCell ⟨w17.heap.size, 5, none⟩ (.int .i64 a.sa) = u19 at S_u19 T_u19 ⊢
              clear S_u18 fz q_a3 q_y5
              clear HT
              have HT : Hid _ := T_u19.out
              clear T_u19
              have CP4 : Hid (∀ wx, Bat wx v6.heap.size b g g.bu 0 v4 ms → Calls Tryz.prog 28 #[.pointer (some ⟨b, 0, none⟩), .int .i64 0, .string XX, .int .i64 0, .string YY] wx fun e w' => e = .returned (.bool true) ∧ Below wx.heap.size wx w') := fun wx => CP3.out wx _ b _
              clear CP3
              go_upto_region 32 with fail
              try go_frame
              obtain ⟨SX, hSX⟩ : ∃ SX : World → Prop, ∀ w', Sof SX w' ↔ St [(w.heap.size, (cfl c), 23), (w.heap.size + 1, #[.int .i64 kk, .int .i64 k1, .int .i64 k2, .int .i64 k3, .int .i64 k4, .int .i64 k5, .int .i64 k6, .int .i64 k7, .int .i64 k8, .string m0, .string m1, .string m2], 25), (w.heap.size + 1 + 1, #[.int .i64 kk, .int .i64 l1, .int .i64 l2, .int .i64 l3, .int .i64 l4, .int .i64 l5, .int .i64 l6, .int .i64 l7, .int .i64 l8, .string n0, .string n1, .string n2], 25), (w.heap.size + 1 + 1 + 1, (ntl n), 53), (w1.heap.size, (cfl g), 23), (w6.heap.size, (dgl d), 33), (w8.heap.size, #[.int .i64 a.pr, .int .i64 a.kd, .bool a.ba, .int .i64 a.sa, .int .i64 a.sp, .int .i64 g.oa, .int .i64 ext, .int .i64 a.tl, .int .i64 a.bi, .int .i64 a.sr, .string a.op, .string a.md, .string a.tx, .string a.ta], 33), (w12.heap.size, #[.int .i64 a.pr, .int .i64 a.kd, .bool a.ba, .int .i64 g.oa, .int .i64 ow, .int .i64 d.sa, .int .i64 d.sp, .int .i64 (a.tl - 1), .int .i64 a.bi, .int .i64 a.sr, .string a.op, .string a.md, .string a.tx, .string a.ta], 33), (w16.heap.size, (ltl m), 59), (w17.heap.size, #[.int .i64 y.d.pr, .int .i64 y.d.kd, .bool y.d.ba, .int .i64 g.oa, .int .i64 y.d.sp, .int .i64 a.sa, .int .i64 y.d.dp, .int .i64 y.d.tl, .int .i64 y.d.bi, .int .i64 y.d.sr, .string y.d.op, .string y.d.md, .string y.d.tx, .string y.d.ta, .int .i64 y.ki, .int .i64 y.co, .string y.re, .string y.qu], 59)] w w' := ⟨_, fun _ => Iff.rfl⟩
              have HSX : Hid _ := hSX
              clear hSX
              have ss : Hid (Sof SX u19.drew) := (HSX.out _).2 (St.drew S_u19.out)
              have TD : Hid _ := Tb.drew HT.out
              go_cut [17] (fun ov wx => ov = .bool true ∧ St [(w.heap.size, (cfl c), 23), (w.heap.size + 1, #[.int .i64 kk, .int .i64 k1, .int .i64 k2, .int .i64 k3, .int .i64 k4, .int .i64 k5, .int .i64 k6, .int .i64 k7, .int .i64 k8, .string m0, .string m1, .string m2], 25), (w.heap.size + 1 + 1, #[.int .i64 kk, .int .i64 l1, .int .i64 l2, .int .i64 l3, .int .i64 l4, .int .i64 l5, .int .i64 l6, .int .i64 l7, .int .i64 l8, .string n0, .string n1, .string n2], 25), (w.heap.size + 1 + 1 + 1, (ntl n), 53), (w1.heap.size, (cfl g), 23), (w6.heap.size, (dgl d), 33), (w8.heap.size, #[.int .i64 a.pr, .int .i64 a.kd, .bool a.ba, .int .i64 a.sa, .int .i64 a.sp, .int .i64 g.oa, .int .i64 ext, .int .i64 a.tl, .int .i64 a.bi, .int .i64 a.sr, .string a.op, .string a.md, .string a.tx, .string a.ta], 33), (w12.heap.size, #[.int .i64 a.pr, .int .i64 a.kd, .bool a.ba, .int .i64 g.oa, .int .i64 ow, .int .i64 d.sa, .int .i64 d.sp, .int .i64 (a.tl - 1), .int .i64 a.bi, .int .i64 a.sr, .string a.op, .string a.md, .string a.tx, .string a.ta], 33), (w16.heap.size, (ltl m), 59), (w17.heap.size, #[.int .i64 y.d.pr, .int .i64 y.d.kd, .bool y.d.ba, .int .i64 g.oa, .int .i64 y.d.sp, .int .i64 a.sa, .int .i64 y.d.dp, .int .i64 y.d.tl, .int .i64 y.d.bi, .int .i64 y.d.sr, .string y.d.op, .string y.d.md, .string y.d.tx, .string y.d.ta, .int .i64 y.ki, .int .i64 y.co, .string y.re, .string y.qu], 59)] w wx ∧ Bat wx v6.heap.size b g g.bu 0 v4 ms)
              case first =>
                refine wp_region_held_drew (S := fun w' => Sof SX w') (by kernel_rfl) ss.out (fun hHeld => ?_)
                refine takeL (i := 1) (v := .agg #[.int .i64 m.d.pr, .int .i64 m.d.kd, .bool m.d.ba, .int .i64 m.d.sa, .int .i64 m.d.sp, .int .i64 m.d.da, .int .i64 m.d.dp, .int .i64 m.d.tl, .int .i64 m.d.bi, .int .i64 m.d.sr, .string m.d.op, .string m.d.md, .string m.d.tx, .string m.d.ta, .int .i64 m.ki, .int .i64 m.co, .string m.re, .string m.qu]) rfl (by kernel_rfl) (by kernel_rfl) (by kernel_rfl) (fun _ _ _ h => h) (yields_lt (by rfl) rfl (w16.heap.size) rfl [.int .i64 m.d.pr, .int .i64 m.d.kd, .bool m.d.ba, .int .i64 m.d.sa, .int .i64 m.d.sp, .int .i64 m.d.da, .int .i64 m.d.dp, .int .i64 m.d.tl, .int .i64 m.d.bi, .int .i64 m.d.sr, .string m.d.op, .string m.d.md, .string m.d.tx, .string m.d.ta, .int .i64 m.ki, .int .i64 m.co, .string m.re, .string m.qu] rfl (fun w' h => ⟨59, show w'.heap[w16.heap.size]? = some (.cells #[.int .i64 m.d.pr, .int .i64 m.d.kd, .bool m.d.ba, .int .i64 m.d.sa, .int .i64 m.d.sp, .int .i64 m.d.da, .int .i64 m.d.dp, .int .i64 m.d.tl, .int .i64 m.d.bi, .int .i64 m.d.sr, .string m.d.op, .string m.d.md, .string m.d.tx, .string m.d.ta, .int .i64 m.ki, .int .i64 m.co, .string m.re, .string m.qu] 59 (0, 0)) from St.get ((HSX.out w').1 h) 8 rfl⟩)) (by assumption) ?_
                try simp only [Act.put, List.setIfInBounds_toArray, List.set_cons_zero, List.set_cons_succ]
                refine takeL (i := 3) (v := .agg #[.int .i64 y.d.pr, .int .i64 y.d.kd, .bool y.d.ba, .int .i64 g.oa, .int .i64 y.d.sp, .int .i64 a.sa, .int .i64 y.d.dp, .int .i64 y.d.tl, .int .i64 y.d.bi, .int .i64 y.d.sr, .string y.d.op, .string y.d.md, .string y.d.tx, .string y.d.ta, .int .i64 y.ki, .int .i64 y.co, .string y.re, .string y.qu]) rfl (by kernel_rfl) (by kernel_rfl) (by kernel_rfl) (fun _ _ _ h => h) (yields_lt (by rfl) rfl (w17.heap.size) rfl [.int .i64 y.d.pr, .int .i64 y.d.kd, .bool y.d.ba, .int .i64 g.oa, .int .i64 y.d.sp, .int .i64 a.sa, .int .i64 y.d.dp, .int .i64 y.d.tl, .int .i64 y.d.bi, .int .i64 y.d.sr, .string y.d.op, .string y.d.md, .string y.d.tx, .string y.d.ta, .int .i64 y.ki, .int .i64 y.co, .string y.re, .string y.qu] rfl (fun w' h => ⟨59, show w'.heap[w17.heap.size]? = some (.cells #[.int .i64 y.d.pr, .int .i64 y.d.kd, .bool y.d.ba, .int .i64 g.oa, .int .i64 y.d.sp, .int .i64 a.sa, .int .i64 y.d.dp, .int .i64 y.d.tl, .int .i64 y.d.bi, .int .i64 y.d.sr, .string y.d.op, .string y.d.md, .string y.d.tx, .string y.d.ta, .int .i64 y.ki, .int .i64 y.co, .string y.re, .string y.qu] 59 (0, 0)) from St.get ((HSX.out w').1 h) 9 rfl⟩)) (by assumption) ?_
                try simp only [Act.put, List.setIfInBounds_toArray, List.set_cons_zero, List.set_cons_succ]
                refine takeL (i := 0) (v := .pointer (some ⟨b, 0, none⟩)) rfl (by kernel_rfl) (by kernel_rfl) (by kernel_rfl) (fun _ _ _ h => h) (yields_mv (by rfl) (.inl rfl) rfl) (by assumption) ?_
                try simp only [Act.put, List.setIfInBounds_toArray, List.set_cons_zero, List.set_cons_succ]
                refine callL (i := 2) (by kernel_rfl) rfl (by rfl) (fun K hK => ?_)
                go_simp
                go_wp2_with (first | (go_at_call 29; refine Calls.mono (j1.at _) ?_; rintro e wx ⟨rfl, hbx⟩; have hkx : Sof SX wx := (HSX.out _).2 (St.next ((HSX.out _).1 ss.out) hbx); have TX : Hid _ := Tb.below TD.out hbx))
                refine hK.out _ _ ?_ (fun hHeld => ?_)
                · exact hkx
                clear hK
                clear K
                try simp only [Act.put, List.setIfInBounds_toArray, List.set_cons_zero, List.set_cons_succ]
                clear hbx TD
                refine callL (i := 4) (by kernel_rfl) rfl (by rfl) (fun K hK => ?_)
                go_simp
                go_wp2_with (first | (go_at_call 29; refine Calls.mono (j2.at _) ?_; rintro e wy ⟨rfl, hby⟩; have hky : Sof SX wy := (HSX.out _).2 (St.next ((HSX.out _).1 hkx) hby); have TY : Hid _ := Tb.below TX.out hby))
                refine hK.out _ _ ?_ (fun hHeld => ?_)
                · exact hky
                clear hK
                clear K
                try simp only [Act.put, List.setIfInBounds_toArray, List.set_cons_zero, List.set_cons_succ]
                clear hby TX
                refine callL (i := 5) (by kernel_rfl) rfl (by rfl) (fun K hK => ?_)
                go_simp
                go_wp2_with (first | (go_at_call 28; refine Calls.mono (CP4.out _ TY.out) ?_; rintro e wz ⟨rfl, hbz⟩; have hkz : Sof SX wz := (HSX.out _).2 (St.next ((HSX.out _).1 hky) hbz); have TZ : Hid _ := Tb.below TY.out hbz))
                refine hK.out _ _ ?_ (fun hHeld => ?_)
                · exact hkz
                clear hK
                clear K
                try simp only [Act.put, List.setIfInBounds_toArray, List.set_cons_zero, List.set_cons_succ]
                clear hbz TY
                refine takeL (i := 6) (v := .bool true) rfl (by kernel_rfl) (by kernel_rfl) (by kernel_rfl) (fun _ _ _ h => h) (yields_mv (by rfl) (.inr rfl) rfl) (by assumption) ?_
                try simp only [Act.put, List.setIfInBounds_toArray, List.set_cons_zero, List.set_cons_succ]
                refine wpAnyH_done (by kernel_rfl) ?_ _
                go_wp2_with fail
                go_meet
                exact ⟨rfl, (HSX.out _).1 hkz, TZ.out⟩
              case rest =>
                obtain ⟨rfl, hst0, htb0⟩ := hcut
                obtain ⟨w20, hw20⟩ : ∃ w20 : World, w20 = wc := ⟨_, rfl⟩
                subst hw20
                have S_w20 : Hid (St [(w.heap.size, (cfl c), 23), (w.heap.size + 1, #[.int .i64 kk, .int .i64 k1, .int .i64 k2, .int .i64 k3, .int .i64 k4, .int .i64 k5, .int .i64 k6, .int .i64 k7, .int .i64 k8, .string m0, .string m1, .string m2], 25), (w.heap.size + 1 + 1, #[.int .i64 kk, .int .i64 l1, .int .i64 l2, .int .i64 l3, .int .i64 l4, .int .i64 l5, .int .i64 l6, .int .i64 l7, .int .i64 l8, .string n0, .string n1, .string n2], 25), (w.heap.size + 1 + 1 + 1, (ntl n), 53), (w1.heap.size, (cfl g), 23), (w6.heap.size, (dgl d), 33), (w8.heap.size, #[.int .i64 a.pr, .int .i64 a.kd, .bool a.ba, .int .i64 a.sa, .int .i64 a.sp, .int .i64 g.oa, .int .i64 ext, .int .i64 a.tl, .int .i64 a.bi, .int .i64 a.sr, .string a.op, .string a.md, .string a.tx, .string a.ta], 33), (w12.heap.size, #[.int .i64 a.pr, .int .i64 a.kd, .bool a.ba, .int .i64 g.oa, .int .i64 ow, .int .i64 d.sa, .int .i64 d.sp, .int .i64 (a.tl - 1), .int .i64 a.bi, .int .i64 a.sr, .string a.op, .string a.md, .string a.tx, .string a.ta], 33), (w16.heap.size, (ltl m), 59), (w17.heap.size, #[.int .i64 y.d.pr, .int .i64 y.d.kd, .bool y.d.ba, .int .i64 g.oa, .int .i64 y.d.sp, .int .i64 a.sa, .int .i64 y.d.dp, .int .i64 y.d.tl, .int .i64 y.d.bi, .int .i64 y.d.sr, .string y.d.op, .string y.d.md, .string y.d.tx, .string y.d.ta, .int .i64 y.ki, .int .i64 y.co, .string y.re, .string y.qu], 59)] w w20) := hst0
                clear S_u19
                clear HT
                have HT : Hid (Bat w20 v6.heap.size b g g.bu 0 v4 ms) := htb0
                clear htb0 TD
                clear hst0 HSX ss CP4 j1 j2
                go_wp2_with fail
                refine Calls.mono (CL.out _ _ b _ HT.out) ?_; rintro e w' ⟨rfl, hw⟩; replace hw := hw.symm; subst hw
                go_wp2
                go_ret
                exact ⟨rfl, S_w20.out.below⟩
end Go.Proofs.YthiljpbodmajaabGreat
namespace Go.Proofs.YthiljpbodmajaabGreat
open Go.RowKit Plain
set_option linter.unusedVariables false
set_option maxHeartbeats 2000000 in
theorem kmirror_any (c : Cf) (W : Cfwf c) (p q : Pk) (Wp : Pkwf p) (Wq : Pkwf q) (n : Nt) (Wn : Ntwf n) (w : World) :
    Calls Tryz.prog 7 #[.agg (cfl c), .agg (pkl p), .agg (pkl q), .agg (ntl n)] w fun e w' => e = .returned (.bool true) ∧ Below w.heap.size w w' := by
  have cC := kconf_any c W
  have G0 := cnf_ok c
  generalize cnf c = g0 at *
  have C0 := cok_of G0
  have a1 := C0.l1; have a2 := C0.l2; have a3 := C0.h2; have a4 := C0.c1; have a5 := C0.c2
  obtain ⟨lo, hlo⟩ : ∃ lo : Int, lo = if g0.lo = g0.hi ∧ ¬ g0.hi < 65535 then g0.lo - 1 else g0.lo := ⟨_, rfl⟩
  obtain ⟨hi, hhi⟩ : ∃ hi : Int, hi = if g0.lo = g0.hi ∧ g0.hi < 65535 then g0.hi + 1 else g0.hi := ⟨_, rfl⟩
  obtain ⟨cp, hcp⟩ : ∃ cp : Int, cp = if g0.cp = 1 then 2 else g0.cp := ⟨_, rfl⟩
  have hlb : 1 ≤ lo ∧ hi ≤ 65535 ∧ lo < hi := by
    rw [hlo, hhi]
    by_cases e1 : g0.lo = g0.hi
    · by_cases e2 : g0.hi < 65535
      · rw [if_neg (by omega), if_pos ⟨e1, e2⟩]; omega
      · rw [if_pos ⟨e1, e2⟩, if_neg (by omega)]; omega
    · rw [if_neg (by omega), if_neg (by omega)]; omega
  have hcb : 2 ≤ cp ∧ cp ≤ 64 := by rw [hcp]; split <;> omega
  have G := ok_with G0 lo hi cp hlb.1 hlb.2.1 (by omega) (by omega) hcb.2
  have hg : ({ g0 with lo := lo, hi := hi, cp := cp } : Cf) = { g0 with lo := lo, hi := hi, cp := cp } := rfl
  obtain ⟨g, hgg⟩ : ∃ g : Cf, g = { g0 with lo := lo, hi := hi, cp := cp } := ⟨_, rfl⟩
  rw [← hgg] at G
  have g2 : 2 ≤ g.cp := by rw [hgg]; exact hcb.1
  have g3 : g.lo < g.hi := by rw [hgg]; exact hlb.2.2
  clear hg
  have M := cok_mtu G
  have C := cok_of G
  have hoa := us_bd C.oa
  have hse := wth_bd n.se 0 255 (by decide)
  have hkk := pk_bd p.kd 3 (by decide)
  have hbu := (cok_rest G).1
  obtain ⟨kk, hk3⟩ : ∃ kk : Int, kk = pk p.kd 3 := ⟨_, rfl⟩
  rw [← hk3] at hkk
  have Wp' : Pkwf { p with kd := kk } := ⟨⟨by show _ ≤ kk; omega, by show kk < _; omega⟩, Wp.sa, Wp.sp, Wp.da, Wp.dp, Wp.tl, Wp.op, Wp.sr, Wp.md, Wp.tx, Wp.ta⟩
  have Wq' : Pkwf { q with kd := kk } := ⟨⟨by show _ ≤ kk; omega, by show kk < _; omega⟩, Wq.sa, Wq.sp, Wq.da, Wq.dp, Wq.tl, Wq.op, Wq.sr, Wq.md, Wq.tx, Wq.ta⟩
  refine mirror_core c g0 g n lo hi cp kk (fun d => Outok d g ∧ d.pr = kpr (pk kk 5)) (fun d ext mp => mp = (Mp.new d.pr d.sa d.sp ext).used d.da (if d.pr = 1 then 0 else d.dp) (g.idle d.pr) ∧ 1 ≤ ext ∧ ext ≤ 65535 ∧ ext = chs g [] d.pr d.sp)
    (fun a => Dgok a ∧ a.sa = oth q.sa g.ia g.oa ∧ 2 ≤ a.tl ∧ 20 + (a.op.size : Int) + (kbd a).size ≤ g.im ∧ (kfr a).size ≤ 65535 ∧ a.pr = kpr (pk kk 5))
    p.kd p.sa p.sp p.da p.dp p.tl p.op p.bi p.sr q.kd q.sa q.sp q.da q.dp q.tl q.op q.bi q.sr p.md p.tx p.ta q.md q.tx q.ta w cC hgg
    (fun e => by rw [hcp, if_pos (by simpa using e)]) (fun e => by rw [hcp, if_neg (by simpa using e)]) (by omega) (by omega) (by omega) (by omega)
    (fun e => ?_) (fun e1 e2 => ?_) (fun e1 e2 => ?_) (by rw [hk3]; exact fun w => pick_any _ _ w (by decide) (by decide) Wp.kd.1 Wp.kd.2)
    (fun wx => (sentc_any { p with kd := kk } g g.om Wp' M.2.2.1 M.2.2.2 wx).mono fun e w' h => ?_) (fun d hd => ?_)
    (fun wx => (sentc_any { q with kd := kk } g g.im Wq' M.1 M.2.1 wx).mono fun e w' h => ?_) (fun d ext mp a hd hM hR => ?_)
  · simp at e
    exact ⟨by rw [hlo, if_neg (by omega)], by rw [hhi, if_pos e]⟩
  · simp at e1 e2
    have e3 : ¬ g0.hi < 65535 := by have := e1 e2; omega
    exact ⟨by rw [hlo, if_pos ⟨e2, e3⟩], by rw [hhi, if_neg (by omega)]⟩
  · simp at e1 e2
    exact ⟨by rw [hlo, if_neg (by omega)], by rw [hhi, if_neg (by omega)]⟩
  · obtain ⟨⟨d, he, hS⟩, hb⟩ := h
    exact ⟨d, he, ⟨hS.out (wth_bd _ _ _ (by decide)).1, hS.pr⟩, hb⟩
  · obtain ⟨ext, m, hm, hx, hs⟩ := start_m g G d hd.1
    exact ⟨ext, m, ⟨hm, hx.1, hx.2.1, hx.2.2⟩, hs⟩
  · obtain ⟨⟨a, he, hS⟩, hb⟩ := h
    exact ⟨a, he, ⟨hS.ok, hS.sa, by rw [hS.tl]; exact (wth_bd _ _ _ (by decide)).1, hS.len, hS.all, hS.pr⟩, hb⟩
  · obtain ⟨O, hpr⟩ := hd
    obtain ⟨hm, x1, x2, hx⟩ := hM
    obtain ⟨A, hsa, htl, hlen, hall, hap⟩ := hR
    have D := O.ok
    have hnp : ¬ a.pr = 1 := by rw [hap]; exact kpr_three hkk.1 hkk.2
    have MA := moved A a.sa a.sp g.oa ext a.tl A.s0 A.s1 hoa.1 hoa.2 A.p0 A.p1 (by omega) (by omega) A.t0 A.t1
    have hus : usB a.sa = true := by rw [hsa]; exact oth_us _ _ _
    have DA : Dgok { a with da := g.oa, dp := ext } := MA.1
    have B : Bkok { a with da := g.oa, dp := ext } g := ⟨DA, by have := MA.2.2; omega, hus, by rw [hsa]; exact (oth_ne _ _ _).1, by rw [hsa]; exact (oth_ne _ _ _).2, rfl, hnp, htl, by have := MA.2.1; show 20 + (a.op.size : Int) + (kbd { a with da := g.oa, dp := ext }).size ≤ g.im; omega⟩
    obtain ⟨how, ms, hmir, hfr⟩ := mirror_back G O B (hap.trans hpr.symm) rfl g2 g3 hx hm
    obtain ⟨ow, hw0⟩ : ∃ ow, ow = mown g d { a with da := g.oa, dp := ext } ext := ⟨_, rfl⟩
    rw [← hw0] at how hmir hfr
    have MB := moved A g.oa ow d.sa d.sp (a.tl - 1) hoa.1 hoa.2 D.s0 D.s1 (by omega) (by omega) D.p0 D.p1 (by omega) (by have := A.t1; omega)
    have DB : Dgok { a with sa := g.oa, sp := ow, da := d.sa, dp := d.sp, tl := a.tl - 1 } := MB.1
    have hzB : (kfr { a with sa := g.oa, sp := ow, da := d.sa, dp := d.sp, tl := a.tl - 1 }).size ≤ 65535 := by have := MB.2.2; omega
    have hl64 : ms.length ≤ 64 := by have := hmir.tok.len; have := C.c2; omega
    refine ⟨ow, (if a.sa = d.sa ∧ a.sp = d.sp then 1 else 2), ms, fun e => ?_, fun e => ?_, ?_, kframe_any _ DA, kframe_any _ DB, fun wx base b v T => ?_, fun wx base b v T => ?_, fun wx => ?_⟩
    · have e' : a.sa = d.sa ∧ a.sp = d.sp := by simpa using e
      exact ⟨by rw [hw0]; unfold mown; rw [if_pos e'], by rw [if_pos e']⟩
    · have e' : ¬ (a.sa = d.sa ∧ a.sp = d.sp) := of_decide_eq_true e
      refine ⟨by rw [if_neg e'], ?_⟩
      have : ow = gvn g.lo g.hi a.sp ext := by rw [hw0]; unfold mown; rw [if_neg e']
      rw [this]
      exact fun w => given_any g a.sp ext w (by have := C.l1; omega) (by have := C.l2; have := C.h2; omega)
    · exact fun w => out_any { a with da := g.oa, dp := ext } g ow w A.t0 (by have := A.t1; show a.tl ≤ 255; omega)
    · exact (passes_yes b 0 0 _ _ (fun w1 => ∃ v', BL wx w1 base b g v v' g.bu 0 ms) (hfr wx base b v g.bu 0 hbu.2 T)).mono fun e w' q => ⟨q.1, by obtain ⟨w1, ⟨v', h1⟩, h2⟩ := q.2; exact ⟨v', h1.grow h2⟩⟩
    · have := live_any T hl64
      rw [hmir.len] at this
      exact this
    · refine (noted_any n Wn g _ DB hzB g.oa g.im C.oa M.1 M.2.1 wx).mono fun e w' h => ?_
      obtain ⟨⟨m, k, he, hN⟩, hb⟩ := h
      have L := hN.nt.ok
      have hk := ntd_k hN
      have hrz := ntd_rz hN DA ⟨rfl, rfl, rfl, rfl, rfl, rfl, rfl, rfl, rfl, rfl⟩
      have hab := labout_any n Wn DB DA ⟨rfl, rfl, rfl, rfl, rfl, rfl, rfl, rfl, rfl, rfl⟩ hN.nt
      rw [hk] at hab
      have h3 := ntd_frame hN g.oa a.sa C.oa hus _ hrz
      refine ⟨m, he, hb, _, lfr m, _, hab, lframe_any m L.hd (by have := L.all; have := L.re; omega), h3, fun wy base b v T => ?_⟩
      have hoth := oth_ne n.sr g.ia g.oa
      have n1 : ¬ m.d.sa = g.ia := by rw [hN.sa]; exact hoth.1
      have n2 : ¬ m.d.sa = g.oa := by rw [hN.sa]; exact hoth.2
      have n3 : ¬ m.d.da = g.ia := by rw [hN.da]; exact fun e => C.ne e.symm
      have N := hN.nt
      obtain ⟨e1, e2, e3, e4, e5, e6⟩ := N.exam (g := g) 0 (.inl rfl) n1 n2 n3 (fun h => absurd h (by decide))
      obtain ⟨r, hr, rx⟩ := hmir.rc
      obtain ⟨mp', hmp, p1, p2, p3⟩ := hmir.sn
      have hpe : a.pr = d.pr := hap.trans hpr.symm
      rw [← hpe] at hr hmp
      have hR := mirror_R (u := { { a with sa := g.oa, sp := ow, da := d.sa, dp := d.sp, tl := a.tl - 1 } with tl := wth n.se 0 255 }) (tk := g.bu) (ms := ms) (r := r) (mp := mp') G (dg_tl DB _ hse.1 (by omega)) hnp (by rw [p1]; exact hus) N n1 n2 hN.da rfl hN.len hr hmp (by rw [rx]; exact p3) (by rw [rx]; exact x1) (by rw [rx]; exact x2) (by rw [p2]; exact A.p0) (by rw [p2]; exact A.p1)
      have ee : ({ { { a with sa := g.oa, sp := ow, da := d.sa, dp := d.sp, tl := a.tl - 1 } with tl := wth n.se 0 255 } with sa := mp'.ea, sp := mp'.ep, da := g.oa, dp := r.ex } : Dg) = { { a with da := g.oa, dp := ext } with tl := wth n.se 0 255 } := by rw [p1, p2, rx]
      have fr := frame_note T G hmir.tok 0 (lfr m) (by have := L.len (kcs m.d (lbx m (lck m)).size) (lck m); rw [← lfr_eq] at this; exact Nat.le_trans this (by decide)) e1 e2
      rw [hR, ee, hk, p1] at fr
      simp only [Rp.val] at fr
      exact (passes_yes b 0 0 _ _ (fun w1 => Below wy.heap.size wy w1) fr).mono fun e w' q => ⟨q.1, by obtain ⟨w1, h1, h2⟩ := q.2; exact h1.trans (h2.mono h1.size)⟩
end Go.Proofs.YthiljpbodmajaabGreat
namespace Go.Proofs.YthiljpbodmajaabGreat.mirror
open Go.ChangeShapes Go.WideShapes Go.ChangeAt Go.RowKit Plain
set_option linter.unusedVariables false

theorem own : ownKnob Tryz.prog.godebug = none := by kernel_rfl
theorem laidOut : laidOutB Tryz.prog = true := by kernel_rfl

set_option maxRecDepth 100000 in
theorem lifted (os : Os) (started : os.Started) (H : Type) (enc : TypeId × Value → H) :
    ReturnsInHanded {} Tryz.checked os 7 .any (Rows.mirrorSpec.pre6 enc Tryz.prog Tryz.f7 Rows.mirrorRow.domain false) (Rows.mirrorSpec.post enc Tryz.prog Tryz.f7 false true false false) := by
  refine returnsInHanded_of_change (C := Tryz.checked) own started (by kernel_rfl) Tryz.func7
    (ChangeSpec.witness6 (enc := enc) (C := Tryz.checked) false ⟨#[], #[.agg #[.int .i64 0, .int .i64 0, .int .i64 0, .int .i64 0, .int .i64 0, .int .i64 0, .int .i64 0, .int .i64 0, .int .i64 0, .int .i64 0, .int .i64 0, .int .i64 0], .agg #[.int .i64 0, .int .i64 0, .int .i64 0, .int .i64 0, .int .i64 0, .int .i64 0, .int .i64 0, .int .i64 0, .int .i64 0, .string ⟨#[]⟩, .string ⟨#[]⟩, .string ⟨#[]⟩], .agg #[.int .i64 0, .int .i64 0, .int .i64 0, .int .i64 0, .int .i64 0, .int .i64 0, .int .i64 0, .int .i64 0, .int .i64 0, .string ⟨#[]⟩, .string ⟨#[]⟩, .string ⟨#[]⟩], .agg #[.int .i64 0, .int .i64 0, .int .i64 0, .int .i64 0, .int .i64 0, .int .i64 0, .int .i64 0, .int .i64 0, .string ⟨#[]⟩, .string ⟨#[]⟩]], []⟩ 8 (by kernel_rfl) (by kernel_rfl) (by kernel_rfl) (by kernel_rfl)) ?_
  intro W base args ds gs before hval0 hW hcnd _
  have hval : ∀ (j : Nat) t v, Tryz.f7.params[j]? = some t → args[j]? = some v → Value.okWide Tryz.prog W .any base t v := hval0
  have hW' := hW
  obtain ⟨p, q, hA0, hV, rfl, hfz, hnd⟩ := hW
  have hA : DataW.TrodAll enc Tryz.prog W 0 (fun _ => true) true Tryz.f7.params.toList args.toList ds p := hA0
  rw [Tryz.params7] at hA hval
  obtain ⟨v0, vs0, d0, ds0, p0, q0, hargs0, rfl, rfl, h0, r0⟩ := trodAll_cons hA
  obtain ⟨v1, vs1, d1, ds1, p1, q1, hargs1, rfl, rfl, h1, r1⟩ := trodAll_cons r0
  obtain ⟨v2, vs2, d2, ds2, p2, q2, hargs2, rfl, rfl, h2, r2⟩ := trodAll_cons r1
  obtain ⟨v3, vs3, d3, ds3, p3, q3, hargs3, rfl, rfl, h3, r3⟩ := trodAll_cons r2
  obtain ⟨rfl, rfl, rfl⟩ := trodAll_nil r3
  obtain rfl : args = #[v0, v1, v2, v3] := by cases args; simp_all
  obtain ⟨rfl, rfl⟩ := trodVars_none hV
  have k0 := h0
  have lt0 : ∀ x ∈ p0, x.block < W.heap.size := by obtain ⟨m, hm⟩ := k0; exact DataW.trod_lt m _ _ _ hm
  have k1 := h1
  have lt1 : ∀ x ∈ p1, x.block < W.heap.size := by obtain ⟨m, hm⟩ := k1; exact DataW.trod_lt m _ _ _ hm
  have k2 := h2
  have lt2 : ∀ x ∈ p2, x.block < W.heap.size := by obtain ⟨m, hm⟩ := k2; exact DataW.trod_lt m _ _ _ hm
  have k3 := h3
  have lt3 : ∀ x ∈ p3, x.block < W.heap.size := by obtain ⟨m, hm⟩ := k3; exact DataW.trod_lt m _ _ _ hm
  have bd : ∀ {n : Int}, (Lit.int .i64 n).wf = true → -9223372036854775808 ≤ n ∧ n < 9223372036854775808 := fun h => by have := bounds_i64 h; omega
  obtain ⟨cs, rfl, hsz0, hz⟩ := open_struct_ints Tryz.underlying23 Tryz.underlying3 (by kernel_rfl) (by kernel_rfl) (by kernel_rfl) (hval 0 23 v0 rfl rfl) h0
  obtain ⟨c0, c1, c2, c3, c4, c5, c6, c7, c8, c9, c10, c11, rfl⟩ := array12 hsz0
  obtain ⟨a0_0, e0, w0_0⟩ := hz 0 (by decide)
  obtain ⟨a0_1, e1, w0_1⟩ := hz 1 (by decide)
  obtain ⟨a0_2, e2, w0_2⟩ := hz 2 (by decide)
  obtain ⟨a0_3, e3, w0_3⟩ := hz 3 (by decide)
  obtain ⟨a0_4, e4, w0_4⟩ := hz 4 (by decide)
  obtain ⟨a0_5, e5, w0_5⟩ := hz 5 (by decide)
  obtain ⟨a0_6, e6, w0_6⟩ := hz 6 (by decide)
  obtain ⟨a0_7, e7, w0_7⟩ := hz 7 (by decide)
  obtain ⟨a0_8, e8, w0_8⟩ := hz 8 (by decide)
  obtain ⟨a0_9, e9, w0_9⟩ := hz 9 (by decide)
  obtain ⟨a0_10, e10, w0_10⟩ := hz 10 (by decide)
  obtain ⟨a0_11, e11, w0_11⟩ := hz 11 (by decide)
  simp at e0 e1 e2 e3 e4 e5 e6 e7 e8 e9 e10 e11
  subst e0 e1 e2 e3 e4 e5 e6 e7 e8 e9 e10 e11
  have W0 : Cfwf ⟨a0_0, a0_1, a0_2, a0_3, a0_4, a0_5, a0_6, a0_7, a0_8, a0_9, a0_10, a0_11⟩ := ⟨bd w0_0, bd w0_1, bd w0_2, bd w0_3, bd w0_4, bd w0_5, bd w0_6, bd w0_7, bd w0_8, bd w0_9, bd w0_10, bd w0_11⟩
  obtain ⟨cs1, rfl, hsz1, hz1⟩ := open_struct_mixed Tryz.underlying25 (by kernel_rfl) (by kernel_rfl) (hval 1 25 v1 rfl rfl) h1
  obtain ⟨c0, c1, c2, c3, c4, c5, c6, c7, c8, c9, c10, c11, rfl⟩ := array12 hsz1
  obtain ⟨a1_0, e0, w1_0⟩ := (hz1 0 3 rfl (by kernel_rfl)).1 Tryz.underlying3
  obtain ⟨a1_1, e1, w1_1⟩ := (hz1 1 3 rfl (by kernel_rfl)).1 Tryz.underlying3
  obtain ⟨a1_2, e2, w1_2⟩ := (hz1 2 3 rfl (by kernel_rfl)).1 Tryz.underlying3
  obtain ⟨a1_3, e3, w1_3⟩ := (hz1 3 3 rfl (by kernel_rfl)).1 Tryz.underlying3
  obtain ⟨a1_4, e4, w1_4⟩ := (hz1 4 3 rfl (by kernel_rfl)).1 Tryz.underlying3
  obtain ⟨a1_5, e5, w1_5⟩ := (hz1 5 3 rfl (by kernel_rfl)).1 Tryz.underlying3
  obtain ⟨a1_6, e6, w1_6⟩ := (hz1 6 3 rfl (by kernel_rfl)).1 Tryz.underlying3
  obtain ⟨a1_7, e7, w1_7⟩ := (hz1 7 3 rfl (by kernel_rfl)).1 Tryz.underlying3
  obtain ⟨a1_8, e8, w1_8⟩ := (hz1 8 3 rfl (by kernel_rfl)).1 Tryz.underlying3
  obtain ⟨a1_9, e9, w1_9⟩ := (hz1 9 9 rfl (by kernel_rfl)).2 Tryz.underlying9
  obtain ⟨a1_10, e10, w1_10⟩ := (hz1 10 9 rfl (by kernel_rfl)).2 Tryz.underlying9
  obtain ⟨a1_11, e11, w1_11⟩ := (hz1 11 9 rfl (by kernel_rfl)).2 Tryz.underlying9
  simp at e0 e1 e2 e3 e4 e5 e6 e7 e8 e9 e10 e11
  subst e0 e1 e2 e3 e4 e5 e6 e7 e8 e9 e10 e11
  have W1 : Pkwf ⟨a1_0, a1_1, a1_2, a1_3, a1_4, a1_5, a1_6, a1_7, a1_8, a1_9, a1_10, a1_11⟩ := ⟨bd w1_0, bd w1_1, bd w1_2, bd w1_3, bd w1_4, bd w1_5, bd w1_6, bd w1_8, w1_9, w1_10, w1_11⟩
  obtain ⟨cs2, rfl, hsz2, hz2⟩ := open_struct_mixed Tryz.underlying25 (by kernel_rfl) (by kernel_rfl) (hval 2 25 v2 rfl rfl) h2
  obtain ⟨c0, c1, c2, c3, c4, c5, c6, c7, c8, c9, c10, c11, rfl⟩ := array12 hsz2
  obtain ⟨a2_0, e0, w2_0⟩ := (hz2 0 3 rfl (by kernel_rfl)).1 Tryz.underlying3
  obtain ⟨a2_1, e1, w2_1⟩ := (hz2 1 3 rfl (by kernel_rfl)).1 Tryz.underlying3
  obtain ⟨a2_2, e2, w2_2⟩ := (hz2 2 3 rfl (by kernel_rfl)).1 Tryz.underlying3
  obtain ⟨a2_3, e3, w2_3⟩ := (hz2 3 3 rfl (by kernel_rfl)).1 Tryz.underlying3
  obtain ⟨a2_4, e4, w2_4⟩ := (hz2 4 3 rfl (by kernel_rfl)).1 Tryz.underlying3
  obtain ⟨a2_5, e5, w2_5⟩ := (hz2 5 3 rfl (by kernel_rfl)).1 Tryz.underlying3
  obtain ⟨a2_6, e6, w2_6⟩ := (hz2 6 3 rfl (by kernel_rfl)).1 Tryz.underlying3
  obtain ⟨a2_7, e7, w2_7⟩ := (hz2 7 3 rfl (by kernel_rfl)).1 Tryz.underlying3
  obtain ⟨a2_8, e8, w2_8⟩ := (hz2 8 3 rfl (by kernel_rfl)).1 Tryz.underlying3
  obtain ⟨a2_9, e9, w2_9⟩ := (hz2 9 9 rfl (by kernel_rfl)).2 Tryz.underlying9
  obtain ⟨a2_10, e10, w2_10⟩ := (hz2 10 9 rfl (by kernel_rfl)).2 Tryz.underlying9
  obtain ⟨a2_11, e11, w2_11⟩ := (hz2 11 9 rfl (by kernel_rfl)).2 Tryz.underlying9
  simp at e0 e1 e2 e3 e4 e5 e6 e7 e8 e9 e10 e11
  subst e0 e1 e2 e3 e4 e5 e6 e7 e8 e9 e10 e11
  have W2 : Pkwf ⟨a2_0, a2_1, a2_2, a2_3, a2_4, a2_5, a2_6, a2_7, a2_8, a2_9, a2_10, a2_11⟩ := ⟨bd w2_0, bd w2_1, bd w2_2, bd w2_3, bd w2_4, bd w2_5, bd w2_6, bd w2_8, w2_9, w2_10, w2_11⟩
  obtain ⟨cs3, rfl, hsz3, hz3⟩ := open_struct_mixed Tryz.underlying53 (by kernel_rfl) (by kernel_rfl) (hval 3 53 v3 rfl rfl) h3
  obtain ⟨c0, c1, c2, c3, c4, c5, c6, c7, c8, c9, rfl⟩ := array10 hsz3
  obtain ⟨a3_0, e0, w3_0⟩ := (hz3 0 3 rfl (by kernel_rfl)).1 Tryz.underlying3
  obtain ⟨a3_1, e1, w3_1⟩ := (hz3 1 3 rfl (by kernel_rfl)).1 Tryz.underlying3
  obtain ⟨a3_2, e2, w3_2⟩ := (hz3 2 3 rfl (by kernel_rfl)).1 Tryz.underlying3
  obtain ⟨a3_3, e3, w3_3⟩ := (hz3 3 3 rfl (by kernel_rfl)).1 Tryz.underlying3
  obtain ⟨a3_4, e4, w3_4⟩ := (hz3 4 3 rfl (by kernel_rfl)).1 Tryz.underlying3
  obtain ⟨a3_5, e5, w3_5⟩ := (hz3 5 3 rfl (by kernel_rfl)).1 Tryz.underlying3
  obtain ⟨a3_6, e6, w3_6⟩ := (hz3 6 3 rfl (by kernel_rfl)).1 Tryz.underlying3
  obtain ⟨a3_7, e7, w3_7⟩ := (hz3 7 3 rfl (by kernel_rfl)).1 Tryz.underlying3
  obtain ⟨a3_8, e8, w3_8⟩ := (hz3 8 9 rfl (by kernel_rfl)).2 Tryz.underlying9
  obtain ⟨a3_9, e9, w3_9⟩ := (hz3 9 9 rfl (by kernel_rfl)).2 Tryz.underlying9
  simp at e0 e1 e2 e3 e4 e5 e6 e7 e8 e9
  subst e0 e1 e2 e3 e4 e5 e6 e7 e8 e9
  have W3 : Ntwf ⟨a3_0, a3_1, a3_2, a3_3, a3_4, a3_5, a3_6, a3_7, a3_8, a3_9⟩ := ⟨bd w3_0, bd w3_1, bd w3_2, bd w3_3, bd w3_4, bd w3_5, bd w3_6, bd w3_7, w3_8, w3_9⟩
  clear hA0 hval0
  refine (kmirror_any _ W0 _ _ W1 W2 _ W3 W).mono fun e W' ⟨he, bel⟩ => ?_
  subst he
  exact ⟨_, rfl, _, _, _, [], _, [], hW', trodAll_mk1 (shut_bool Tryz.underlying4 _), (trodAll_cons_mk (Below.trod laidOut (by kernel_rfl) (of_decide_eq_true (by kernel_rfl)) k0 bel lt0) (trodAll_cons_mk (Below.trod laidOut (by kernel_rfl) (of_decide_eq_true (by kernel_rfl)) k1 bel lt1) (trodAll_cons_mk (Below.trod laidOut (by kernel_rfl) (of_decide_eq_true (by kernel_rfl)) k2 bel lt2) (trodAll_cons_mk (Below.trod laidOut (by kernel_rfl) (of_decide_eq_true (by kernel_rfl)) k3 bel lt3) trodAll_mk0)))), rfl, bel.frame _, fun h => by cases h⟩

theorem over : Rows.mirrorRow.holds Tryz.pinned (OpenSpec.ofChange Rows.mirrorSpec) :=
  OpenClaim.holds_of_wide 7 Tryz.f7 rfl rfl rfl rfl rfl rfl rfl ⟨rfl, rfl, rfl, rfl, rfl⟩ rfl rfl rfl rfl rfl (by kernel_rfl) Tryz.func7 (by kernel_rfl)
    (of_decide_eq_true (by kernel_rfl)) (by unfold Func.isWrapper; first | (rw [if_pos (by decide +kernel)]; kernel_rfl) | (rw [if_neg (by decide +kernel)]; exact ⟨rfl, rfl⟩))
    (fun os started H enc _ => lifted os started H enc)

theorem proved : Rows.MirrorSaid := over
#print axioms proved
end Go.Proofs.YthiljpbodmajaabGreat.mirror
