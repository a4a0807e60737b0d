/-
  CONTRACTS: natboxkeep.Told.
-/
import Derived.Test.YthiljpbodmajaabGreatStau
import Derived.Test.YthiljpbodmajaabGreatKepv
import Derived.Test.YthiljpbodmajaabGreatKepg
import Derived.Test.YthiljpbodmajaabGreatAgnp
import Derived.Deep.DeepCutAuto
import Derived.Deep.RegionHeld
import Derived.Maps.RangeWalk
import Derived.Test.YthiljpbodmajaabGreatRows
import Derived.WalkKit
import Derived.ProofKit
import Derived.OpenShut
import Derived.ChangeOld
import Derived.Below
import Derived.Test.YthiljpbodmajaabGreatNotp
import Derived.Test.YthiljpbodmajaabGreatKfrm
namespace Go.Proofs.YthiljpbodmajaabGreat
open Go.RowKit Plain
set_option linter.unusedVariables false

set_option maxHeartbeats 16000000 in
set_option maxRecDepth 2000 in
theorem ktold_core (c g : Cf) (n : Nt) (P : Dg → Prop) (R1 : Dg → Int → Dg → Prop) (R : Dg → Int → Dg → Lt → Prop) (ab : Dg → Int → Dg → Lt → Lt) (X Y : Dg → Int → Dg → Lt → ByteArray) (k0 k1 k2 k3 k4 k5 k6 k7 k8 l0 l1 l2 l3 l4 l5 l6 l7 l8 : Int) (m0 m1 m2 n0 n1 n2 : ByteArray) (w : World) (cC : RetB 10 #[.agg (cfl c)] (.agg (cfl g)))
    (cS : ∀ wx, Calls Tryz.prog 12 #[.agg #[.int .i64 k0, .int .i64 k1, .int .i64 k2, .int .i64 k3, .int .i64 k4, .int .i64 k5, .int .i64 k6, .int .i64 k7, .int .i64 k8, .string m0, .string m1, .string m2], .agg (cfl g), .int .i64 g.om] wx fun e w' => ∃ d, e = .returned (.agg (dgl d)) ∧ P d ∧ Below wx.heap.size wx w')
    (cT : ∀ d, P d → ∃ ext m, (m.pr = d.pr ∧ m.ea = d.sa ∧ m.ep = d.sp ∧ m.ex = ext ∧ m.le = g.idle d.pr ∧ m.kn = 1 ∧ Mok m) ∧ (1 ≤ ext ∧ ext ≤ 65535) ∧ ∀ wx, Calls Tryz.prog 23 #[.agg (cfl g), .agg (dgl d)] wx fun e w' => ∃ b v', e = .returned (.tuple #[.pointer (some ⟨b, 0, none⟩), .int .i64 ext]) ∧ Bat w' wx.heap.size b g g.bu 0 v' [m] ∧ Below wx.heap.size wx w' ∧ wx.heap.size ≤ b)
    (cF : ∀ d ext wx, P d → 1 ≤ ext → ext ≤ 65535 → Calls Tryz.prog 31 #[.agg #[.int .i64 k0, .int .i64 l1, .int .i64 l2, .int .i64 l3, .int .i64 l4, .int .i64 l5, .int .i64 l6, .int .i64 l7, .int .i64 l8, .string n0, .string n1, .string n2], .agg (cfl g), .int .i64 ext] wx fun e w' => ∃ a, e = .returned (.agg (dgl a)) ∧ R1 d ext a ∧ Below wx.heap.size wx w')
    (cI : ∀ d ext a, R1 d ext a → RetB 32 #[.agg (dgl a), .int .i64 d.sa, .int .i64 d.sp] (.agg (dgl { a with da := d.sa, dp := d.sp, tl := a.tl - 1 })) ∧ RetB 14 #[.agg (dgl a)] (.string (kfr a)) ∧ RetB 14 #[.agg (dgl { a with da := d.sa, dp := d.sp, tl := a.tl - 1 })] (.string (kfr { a with da := d.sa, dp := d.sp, tl := a.tl - 1 })))
    (cX1 : ∀ d ext a wx base b v tk ti m, R1 d ext a → Bat wx base b g tk ti v [m] → m.pr = d.pr → m.ea = d.sa → m.ep = d.sp → m.ex = ext → Calls Tryz.prog 18 #[.pointer (some ⟨b, 0, none⟩), .int .i64 1, .string (kfr a)] wx fun e w' => e = .returned (rpv 0 0 (kfr { a with da := d.sa, dp := d.sp, tl := a.tl - 1 })) ∧ Below wx.heap.size wx w')
    (cN : ∀ d ext a wx, R1 d ext a → Calls Tryz.prog 26 #[.agg (ntl n), .agg (cfl g), .int .i64 a.sa, .agg (dgl { a with da := d.sa, dp := d.sp, tl := a.tl - 1 }), .int .i64 g.om] wx fun e w' => ∃ m, e = .returned (.agg (ltl m)) ∧ R d ext a m ∧ Below wx.heap.size wx w')
    (cA : ∀ d ext a m, R d ext a m → RetB 27 #[.agg (ltl m), .agg (ntl n), .agg (dgl { a with da := d.sa, dp := d.sp, tl := a.tl - 1 }), .agg (dgl a)] (.agg (ltl (ab d ext a m))))
    (cG : ∀ d ext a m, R d ext a m → RetB 29 #[.agg (ltl m)] (.string (X d ext a m)) ∧ RetB 29 #[.agg #[.int .i64 (ab d ext a m).d.pr, .int .i64 (ab d ext a m).d.kd, .bool (ab d ext a m).d.ba, .int .i64 g.oa, .int .i64 (ab d ext a m).d.sp, .int .i64 (ab d ext a m).d.da, .int .i64 (ab d ext a m).d.dp, .int .i64 (ab d ext a m).d.tl, .int .i64 (ab d ext a m).d.bi, .int .i64 (ab d ext a m).d.sr, .string (ab d ext a m).d.op, .string (ab d ext a m).d.md, .string (ab d ext a m).d.tx, .string (ab d ext a m).d.ta, .int .i64 (ab d ext a m).ki, .int .i64 (ab d ext a m).co, .string (ab d ext a m).re, .string (ab d ext a m).qu]] (.string (Y d ext a m)))
    (cX : ∀ d ext a m wx base b v tk ti mp, R d ext a m → Bat wx base b g tk ti v [mp] → mp.pr = d.pr → mp.ea = d.sa → mp.ep = d.sp → mp.ex = ext → Mok mp → Calls Tryz.prog 18 #[.pointer (some ⟨b, 0, none⟩), .int .i64 0, .string (X d ext a m)] wx fun e w' => e = .returned (rpv 0 1 (Y d ext a m)) ∧ Below wx.heap.size wx w') :
    Calls Tryz.prog 6 #[.agg (cfl c), .agg #[.int .i64 k0, .int .i64 k1, .int .i64 k2, .int .i64 k3, .int .i64 k4, .int .i64 k5, .int .i64 k6, .int .i64 k7, .int .i64 k8, .string m0, .string m1, .string m2], .agg #[.int .i64 l0, .int .i64 l1, .int .i64 l2, .int .i64 l3, .int .i64 l4, .int .i64 l5, .int .i64 l6, .int .i64 l7, .int .i64 l8, .string n0, .string n1, .string n2], .agg (ntl n)] w fun e w' => e = .returned (.bool true) ∧ Below w.heap.size w w' := by
  have cJ : ∀ p, RetB 24 #[.agg (cfl g), .int .i64 p] (.int .i64 (g.idle p)) := fun p w => kidle_any g p w
  unfold ltl ntl dgl cfl at cN
  unfold ltl ntl dgl at cA
  unfold ltl at cG
  unfold dgl cfl at cF
  unfold dgl at cI
  unfold cfl at cC cS cJ ⊢
  unfold dgl at cS
  unfold ntl
  have CC : Hid _ := cC
  have CT : Hid _ := cT
  have CF : Hid _ := cF
  have CI : Hid _ := cI
  have CX1 : Hid _ := cX1
  have CN : Hid _ := cN
  have CA : Hid _ := cA
  have CG : Hid _ := cG
  have CX : Hid _ := cX
  have CJ : Hid _ := cJ
  have CS : Hid _ := cS
  clear cC cT cF cI cX1 cN cA cG cX cJ cS
  go_enter Tryz.func6, Tryz.ntmps6
  go_upto_region 1 with fail
  have S_v0 : Hid (St [(w.heap.size, (cfl c), 23), (w.heap.size + 1, #[.int .i64 k0, .int .i64 k1, .int .i64 k2, .int .i64 k3, .int .i64 k4, .int .i64 k5, .int .i64 k6, .int .i64 k7, .int .i64 k8, .string m0, .string m1, .string m2], 25), (w.heap.size + 1 + 1, #[.int .i64 l0, .int .i64 l1, .int .i64 l2, .int .i64 l3, .int .i64 l4, .int .i64 l5, .int .i64 l6, .int .i64 l7, .int .i64 l8, .string n0, .string n1, .string n2], 25), (w.heap.size + 1 + 1 + 1, (ntl n), 53)] w ((((w.alloc (.cells #[.int .i64 c.ia, .int .i64 c.oa, .int .i64 c.lo, .int .i64 c.hi, .int .i64 c.cp, .int .i64 c.im, .int .i64 c.om, .int .i64 c.iu, .int .i64 c.it, .int .i64 c.iq, .int .i64 c.bu, .int .i64 c.ra] 23)).alloc (.cells #[.int .i64 k0, .int .i64 k1, .int .i64 k2, .int .i64 k3, .int .i64 k4, .int .i64 k5, .int .i64 k6, .int .i64 k7, .int .i64 k8, .string m0, .string m1, .string m2] 25)).alloc (.cells #[.int .i64 l0, .int .i64 l1, .int .i64 l2, .int .i64 l3, .int .i64 l4, .int .i64 l5, .int .i64 l6, .int .i64 l7, .int .i64 l8, .string n0, .string n1, .string n2] 25)).alloc (.cells #[.int .i64 n.sr, .int .i64 n.ty, .int .i64 n.co, .int .i64 n.le, .int .i64 n.se, .int .i64 n.tl, .int .i64 n.op, .int .i64 n.bi, .string n.re, .string n.ta] 53))) := St.alloc (St.alloc (St.alloc (St.alloc (St.start w) (cfl c) 23 (w.heap.size) rfl) #[.int .i64 k0, .int .i64 k1, .int .i64 k2, .int .i64 k3, .int .i64 k4, .int .i64 k5, .int .i64 k6, .int .i64 k7, .int .i64 k8, .string m0, .string m1, .string m2] 25 (w.heap.size + 1) (by simp)) #[.int .i64 l0, .int .i64 l1, .int .i64 l2, .int .i64 l3, .int .i64 l4, .int .i64 l5, .int .i64 l6, .int .i64 l7, .int .i64 l8, .string n0, .string n1, .string n2] 25 (w.heap.size + 1 + 1) (by simp)) (ntl n) 53 (w.heap.size + 1 + 1 + 1) (by simp)
  generalize ((((w.alloc (.cells #[.int .i64 c.ia, .int .i64 c.oa, .int .i64 c.lo, .int .i64 c.hi, .int .i64 c.cp, .int .i64 c.im, .int .i64 c.om, .int .i64 c.iu, .int .i64 c.it, .int .i64 c.iq, .int .i64 c.bu, .int .i64 c.ra] 23)).alloc (.cells #[.int .i64 k0, .int .i64 k1, .int .i64 k2, .int .i64 k3, .int .i64 k4, .int .i64 k5, .int .i64 k6, .int .i64 k7, .int .i64 k8, .string m0, .string m1, .string m2] 25)).alloc (.cells #[.int .i64 l0, .int .i64 l1, .int .i64 l2, .int .i64 l3, .int .i64 l4, .int .i64 l5, .int .i64 l6, .int .i64 l7, .int .i64 l8, .string n0, .string n1, .string n2] 25)).alloc (.cells #[.int .i64 n.sr, .int .i64 n.ty, .int .i64 n.co, .int .i64 n.le, .int .i64 n.se, .int .i64 n.tl, .int .i64 n.op, .int .i64 n.bi, .string n.re, .string n.ta] 53)) = v0 at S_v0 ⊢
  generalize (Value.agg #[.int .i64 c.ia, .int .i64 c.oa, .int .i64 c.lo, .int .i64 c.hi, .int .i64 c.cp, .int .i64 c.im, .int .i64 c.om, .int .i64 c.iu, .int .i64 c.it, .int .i64 c.iq, .int .i64 c.bu, .int .i64 c.ra]) = B1
  generalize (Value.agg #[.int .i64 k0, .int .i64 k1, .int .i64 k2, .int .i64 k3, .int .i64 k4, .int .i64 k5, .int .i64 k6, .int .i64 k7, .int .i64 k8, .string m0, .string m1, .string m2]) = B2
  generalize (Value.agg #[.int .i64 l0, .int .i64 l1, .int .i64 l2, .int .i64 l3, .int .i64 l4, .int .i64 l5, .int .i64 l6, .int .i64 l7, .int .i64 l8, .string n0, .string n1, .string n2]) = B3
  generalize (Value.agg #[.int .i64 n.sr, .int .i64 n.ty, .int .i64 n.co, .int .i64 n.le, .int .i64 n.se, .int .i64 n.tl, .int .i64 n.op, .int .i64 n.bi, .string n.re, .string n.ta]) = B4
  go_wp2_with (first | (refine pull_cf [.int .i64 c.ia, .int .i64 c.oa, .int .i64 c.lo, .int .i64 c.hi, .int .i64 c.cp, .int .i64 c.im, .int .i64 c.om, .int .i64 c.iu, .int .i64 c.it, .int .i64 c.iq, .int .i64 c.bu, .int .i64 c.ra] rfl (w.heap.size) (St.get S_v0.out 0 rfl) rfl rfl rfl ?_))
  refine Calls.mono (RetB.at CC.out _) ?_; rintro e w1 ⟨rfl, hb1⟩
  have S_w1 : Hid (St [(w.heap.size, (cfl c), 23), (w.heap.size + 1, #[.int .i64 k0, .int .i64 k1, .int .i64 k2, .int .i64 k3, .int .i64 k4, .int .i64 k5, .int .i64 k6, .int .i64 k7, .int .i64 k8, .string m0, .string m1, .string m2], 25), (w.heap.size + 1 + 1, #[.int .i64 l0, .int .i64 l1, .int .i64 l2, .int .i64 l3, .int .i64 l4, .int .i64 l5, .int .i64 l6, .int .i64 l7, .int .i64 l8, .string n0, .string n1, .string n2], 25), (w.heap.size + 1 + 1 + 1, (ntl n), 53)] w w1) := St.next S_v0.out hb1
  generalize (Value.agg #[.int .i64 c.ia, .int .i64 c.oa, .int .i64 c.lo, .int .i64 c.hi, .int .i64 c.cp, .int .i64 c.im, .int .i64 c.om, .int .i64 c.iu, .int .i64 c.it, .int .i64 c.iq, .int .i64 c.bu, .int .i64 c.ra]) = B5
  clear S_v0
  have hz_w1 : w.heap.size + 1 + 1 + 1 < w1.heap.size := St.lt S_w1.out (x := (w.heap.size + 1 + 1 + 1, (ntl n), 53)) (by simp)
  clear hb1
  rename_i KK hKK
  refine hKK _ _ ?_
  refine keep_cf [.int .i64 g.ia, .int .i64 g.oa, .int .i64 g.lo, .int .i64 g.hi, .int .i64 g.cp, .int .i64 g.im, .int .i64 g.om, .int .i64 g.iu, .int .i64 g.it, .int .i64 g.iq, .int .i64 g.bu, .int .i64 g.ra] rfl rfl rfl rfl rfl (by simp [Value.oneCell']) (by simp [Act.eval, Act.put]) (by simp [Act.eval, Act.put]) ?_
  clear hKK
  clear KK
  have S_v1 : Hid (St [(w.heap.size, (cfl c), 23), (w.heap.size + 1, #[.int .i64 k0, .int .i64 k1, .int .i64 k2, .int .i64 k3, .int .i64 k4, .int .i64 k5, .int .i64 k6, .int .i64 k7, .int .i64 k8, .string m0, .string m1, .string m2], 25), (w.heap.size + 1 + 1, #[.int .i64 l0, .int .i64 l1, .int .i64 l2, .int .i64 l3, .int .i64 l4, .int .i64 l5, .int .i64 l6, .int .i64 l7, .int .i64 l8, .string n0, .string n1, .string n2], 25), (w.heap.size + 1 + 1 + 1, (ntl n), 53), (w1.heap.size, (cfl g), 23)] w (w1.alloc (.cells #[.int .i64 g.ia, .int .i64 g.oa, .int .i64 g.lo, .int .i64 g.hi, .int .i64 g.cp, .int .i64 g.im, .int .i64 g.om, .int .i64 g.iu, .int .i64 g.it, .int .i64 g.iq, .int .i64 g.bu, .int .i64 g.ra] 23))) := St.alloc S_w1.out (cfl g) 23 (w1.heap.size) rfl
  have hs_v1 : w1.heap.size < (w1.alloc (.cells #[.int .i64 g.ia, .int .i64 g.oa, .int .i64 g.lo, .int .i64 g.hi, .int .i64 g.cp, .int .i64 g.im, .int .i64 g.om, .int .i64 g.iu, .int .i64 g.it, .int .i64 g.iq, .int .i64 g.bu, .int .i64 g.ra] 23)).heap.size := by simp
  generalize w1.alloc (.cells #[.int .i64 g.ia, .int .i64 g.oa, .int .i64 g.lo, .int .i64 g.hi, .int .i64 g.cp, .int .i64 g.im, .int .i64 g.om, .int .i64 g.iu, .int .i64 g.it, .int .i64 g.iq, .int .i64 g.bu, .int .i64 g.ra] 23) = v1 at S_v1 hs_v1  ⊢
  clear S_w1
  clear hs_v1
  clear CC
  have q_g6 : v1.cell? ⟨w1.heap.size, 6, none⟩ = some (.int .i64 g.om) := St.at 4 6 rfl rfl _ S_v1.out
  go_wp2_with (first | (refine pull_pk [.int .i64 k0, .int .i64 k1, .int .i64 k2, .int .i64 k3, .int .i64 k4, .int .i64 k5, .int .i64 k6, .int .i64 k7, .int .i64 k8, .string m0, .string m1, .string m2] rfl (w.heap.size + 1) (St.get S_v1.out 1 rfl) rfl rfl rfl ?_) | (refine pull_cf [.int .i64 g.ia, .int .i64 g.oa, .int .i64 g.lo, .int .i64 g.hi, .int .i64 g.cp, .int .i64 g.im, .int .i64 g.om, .int .i64 g.iu, .int .i64 g.it, .int .i64 g.iq, .int .i64 g.bu, .int .i64 g.ra] rfl (w1.heap.size) (St.get S_v1.out 4 rfl) rfl rfl rfl ?_))
  refine Calls.mono (CS.out _) ?_; rintro e w2 ⟨d, rfl, hP, hb2⟩
  have S_w2 : Hid (St [(w.heap.size, (cfl c), 23), (w.heap.size + 1, #[.int .i64 k0, .int .i64 k1, .int .i64 k2, .int .i64 k3, .int .i64 k4, .int .i64 k5, .int .i64 k6, .int .i64 k7, .int .i64 k8, .string m0, .string m1, .string m2], 25), (w.heap.size + 1 + 1, #[.int .i64 l0, .int .i64 l1, .int .i64 l2, .int .i64 l3, .int .i64 l4, .int .i64 l5, .int .i64 l6, .int .i64 l7, .int .i64 l8, .string n0, .string n1, .string n2], 25), (w.heap.size + 1 + 1 + 1, (ntl n), 53), (w1.heap.size, (cfl g), 23)] w w2) := St.next S_v1.out hb2
  clear q_g6
  generalize (Value.agg #[.int .i64 k0, .int .i64 k1, .int .i64 k2, .int .i64 k3, .int .i64 k4, .int .i64 k5, .int .i64 k6, .int .i64 k7, .int .i64 k8, .string m0, .string m1, .string m2]) = B6
  generalize (Value.agg #[.int .i64 g.ia, .int .i64 g.oa, .int .i64 g.lo, .int .i64 g.hi, .int .i64 g.cp, .int .i64 g.im, .int .i64 g.om, .int .i64 g.iu, .int .i64 g.it, .int .i64 g.iq, .int .i64 g.bu, .int .i64 g.ra]) = B7
  clear S_v1
  have hz_w2 : w1.heap.size < w2.heap.size := St.lt S_w2.out (x := (w1.heap.size, (cfl g), 23)) (by simp)
  clear hb2
  rename_i KK hKK
  refine hKK _ _ ?_
  refine keep_dg [.int .i64 d.pr, .int .i64 d.kd, .bool d.ba, .int .i64 d.sa, .int .i64 d.sp, .int .i64 d.da, .int .i64 d.dp, .int .i64 d.tl, .int .i64 d.bi, .int .i64 d.sr, .string d.op, .string d.md, .string d.tx, .string d.ta] rfl rfl rfl rfl rfl (by simp [Value.oneCell']) (by simp [Act.eval, Act.put]) (by simp [Act.eval, Act.put]) ?_
  clear hKK
  clear KK
  have S_v2 : Hid (St [(w.heap.size, (cfl c), 23), (w.heap.size + 1, #[.int .i64 k0, .int .i64 k1, .int .i64 k2, .int .i64 k3, .int .i64 k4, .int .i64 k5, .int .i64 k6, .int .i64 k7, .int .i64 k8, .string m0, .string m1, .string m2], 25), (w.heap.size + 1 + 1, #[.int .i64 l0, .int .i64 l1, .int .i64 l2, .int .i64 l3, .int .i64 l4, .int .i64 l5, .int .i64 l6, .int .i64 l7, .int .i64 l8, .string n0, .string n1, .string n2], 25), (w.heap.size + 1 + 1 + 1, (ntl n), 53), (w1.heap.size, (cfl g), 23), (w2.heap.size, (dgl d), 33)] w (w2.alloc (.cells #[.int .i64 d.pr, .int .i64 d.kd, .bool d.ba, .int .i64 d.sa, .int .i64 d.sp, .int .i64 d.da, .int .i64 d.dp, .int .i64 d.tl, .int .i64 d.bi, .int .i64 d.sr, .string d.op, .string d.md, .string d.tx, .string d.ta] 33))) := St.alloc S_w2.out (dgl d) 33 (w2.heap.size) rfl
  have hs_v2 : w2.heap.size < (w2.alloc (.cells #[.int .i64 d.pr, .int .i64 d.kd, .bool d.ba, .int .i64 d.sa, .int .i64 d.sp, .int .i64 d.da, .int .i64 d.dp, .int .i64 d.tl, .int .i64 d.bi, .int .i64 d.sr, .string d.op, .string d.md, .string d.tx, .string d.ta] 33)).heap.size := by simp
  generalize w2.alloc (.cells #[.int .i64 d.pr, .int .i64 d.kd, .bool d.ba, .int .i64 d.sa, .int .i64 d.sp, .int .i64 d.da, .int .i64 d.dp, .int .i64 d.tl, .int .i64 d.bi, .int .i64 d.sr, .string d.op, .string d.md, .string d.tx, .string d.ta] 33) = v2 at S_v2 hs_v2  ⊢
  clear S_w2
  clear hs_v2
  clear CS
  obtain ⟨ext, mp, hm, hext, cT⟩ := CT.out d hP
  have HPd : Hid _ := hP
  have HM : Hid _ := hm
  have HX : Hid _ := hext
  have CT1 : Hid _ := cT
  clear CT cT hm hP hext
  have SVB : Hid _ := S_v2.out
  go_wp2_with (first | (refine pull_cf [.int .i64 g.ia, .int .i64 g.oa, .int .i64 g.lo, .int .i64 g.hi, .int .i64 g.cp, .int .i64 g.im, .int .i64 g.om, .int .i64 g.iu, .int .i64 g.it, .int .i64 g.iq, .int .i64 g.bu, .int .i64 g.ra] rfl (w1.heap.size) (St.get S_v2.out 4 rfl) rfl rfl rfl ?_) | (refine pull_dg [.int .i64 d.pr, .int .i64 d.kd, .bool d.ba, .int .i64 d.sa, .int .i64 d.sp, .int .i64 d.da, .int .i64 d.dp, .int .i64 d.tl, .int .i64 d.bi, .int .i64 d.sr, .string d.op, .string d.md, .string d.tx, .string d.ta] rfl (w2.heap.size) (St.get S_v2.out 5 rfl) rfl rfl rfl ?_))
  refine Calls.mono (CT1.out _) ?_; rintro e w3 ⟨b, v3, rfl, hT, hb3, hbb⟩
  have S_w3 : Hid (St [(w.heap.size, (cfl c), 23), (w.heap.size + 1, #[.int .i64 k0, .int .i64 k1, .int .i64 k2, .int .i64 k3, .int .i64 k4, .int .i64 k5, .int .i64 k6, .int .i64 k7, .int .i64 k8, .string m0, .string m1, .string m2], 25), (w.heap.size + 1 + 1, #[.int .i64 l0, .int .i64 l1, .int .i64 l2, .int .i64 l3, .int .i64 l4, .int .i64 l5, .int .i64 l6, .int .i64 l7, .int .i64 l8, .string n0, .string n1, .string n2], 25), (w.heap.size + 1 + 1 + 1, (ntl n), 53), (w1.heap.size, (cfl g), 23), (w2.heap.size, (dgl d), 33)] w w3) := St.next S_v2.out hb3
  generalize (Value.agg #[.int .i64 g.ia, .int .i64 g.oa, .int .i64 g.lo, .int .i64 g.hi, .int .i64 g.cp, .int .i64 g.im, .int .i64 g.om, .int .i64 g.iu, .int .i64 g.it, .int .i64 g.iq, .int .i64 g.bu, .int .i64 g.ra]) = B8
  generalize (Value.agg #[.int .i64 d.pr, .int .i64 d.kd, .bool d.ba, .int .i64 d.sa, .int .i64 d.sp, .int .i64 d.da, .int .i64 d.dp, .int .i64 d.tl, .int .i64 d.bi, .int .i64 d.sr, .string d.op, .string d.md, .string d.tx, .string d.ta]) = B9
  clear S_v2
  have hz_w3 : w2.heap.size < w3.heap.size := St.lt S_w3.out (x := (w2.heap.size, (dgl d), 33)) (by simp)
  clear hb3
  have HT : Hid _ := hT
  have hbs : v2.heap.size ≤ b := hbb
  have hzb : w2.heap.size < v2.heap.size := St.lt SVB.out (x := (w2.heap.size, (dgl d), 33)) (by simp)
  clear hT hbb CT1 SVB
  have q_p0 : w3.cell? ⟨w.heap.size + 1, 0, none⟩ = some (.int .i64 k0) := St.at 1 0 rfl rfl _ S_w3.out
  have fz := St.frz 2 rfl S_w3.out
  have q_q0 : w3.cell? ⟨w.heap.size + 1 + 1, 0, none⟩ = some (.int .i64 l0) := St.at 2 0 rfl rfl _ S_w3.out
  go_upto_region 7 with fail
  have S_u4 : Hid (St [(w.heap.size, (cfl c), 23), (w.heap.size + 1, #[.int .i64 k0, .int .i64 k1, .int .i64 k2, .int .i64 k3, .int .i64 k4, .int .i64 k5, .int .i64 k6, .int .i64 k7, .int .i64 k8, .string m0, .string m1, .string m2], 25), (w.heap.size + 1 + 1, #[.int .i64 k0, .int .i64 l1, .int .i64 l2, .int .i64 l3, .int .i64 l4, .int .i64 l5, .int .i64 l6, .int .i64 l7, .int .i64 l8, .string n0, .string n1, .string n2], 25), (w.heap.size + 1 + 1 + 1, (ntl n), 53), (w1.heap.size, (cfl g), 23), (w2.heap.size, (dgl d), 33)] w (w3.setCell ⟨w.heap.size + 1 + 1, 0, none⟩ (.int .i64 k0))) := St.setAt (L1 := [(w.heap.size, (cfl c), 23), (w.heap.size + 1, #[.int .i64 k0, .int .i64 k1, .int .i64 k2, .int .i64 k3, .int .i64 k4, .int .i64 k5, .int .i64 k6, .int .i64 k7, .int .i64 k8, .string m0, .string m1, .string m2], 25)]) (L2 := [(w.heap.size + 1 + 1 + 1, (ntl n), 53), (w1.heap.size, (cfl g), 23), (w2.heap.size, (dgl d), 33)]) S_w3.out (by omega) (by simp; omega) 0 (.int .i64 k0)
  have T_u4 : Hid _ := Tb.other3 HT.out (p := ⟨w.heap.size + 1 + 1, 0, none⟩) (by show b ≠ w.heap.size + 1 + 1; omega) (fun o e => by have := (HT.out.row.lt o e).1; show o ≠ w.heap.size + 1 + 1; omega) (.int .i64 k0)
  generalize w3.setCell ⟨w.heap.size + 1 + 1, 0, none⟩ (.int .i64 k0) = u4 at S_u4 T_u4 ⊢
  clear S_w3 fz q_p0 q_q0
  clear HT
  have HT : Hid _ := T_u4.out
  clear T_u4
  go_wp2_with (first | (refine pull_pk [.int .i64 k0, .int .i64 l1, .int .i64 l2, .int .i64 l3, .int .i64 l4, .int .i64 l5, .int .i64 l6, .int .i64 l7, .int .i64 l8, .string n0, .string n1, .string n2] rfl (w.heap.size + 1 + 1) (St.get S_u4.out 2 rfl) rfl rfl rfl ?_) | (refine pull_cf [.int .i64 g.ia, .int .i64 g.oa, .int .i64 g.lo, .int .i64 g.hi, .int .i64 g.cp, .int .i64 g.im, .int .i64 g.om, .int .i64 g.iu, .int .i64 g.it, .int .i64 g.iq, .int .i64 g.bu, .int .i64 g.ra] rfl (w1.heap.size) (St.get S_u4.out 4 rfl) rfl rfl rfl ?_))
  refine Calls.mono (CF.out d ext _ HPd.out HX.out.1 HX.out.2) ?_; rintro e w5 ⟨a, rfl, hR1, hb5⟩
  have S_w5 : Hid (St [(w.heap.size, (cfl c), 23), (w.heap.size + 1, #[.int .i64 k0, .int .i64 k1, .int .i64 k2, .int .i64 k3, .int .i64 k4, .int .i64 k5, .int .i64 k6, .int .i64 k7, .int .i64 k8, .string m0, .string m1, .string m2], 25), (w.heap.size + 1 + 1, #[.int .i64 k0, .int .i64 l1, .int .i64 l2, .int .i64 l3, .int .i64 l4, .int .i64 l5, .int .i64 l6, .int .i64 l7, .int .i64 l8, .string n0, .string n1, .string n2], 25), (w.heap.size + 1 + 1 + 1, (ntl n), 53), (w1.heap.size, (cfl g), 23), (w2.heap.size, (dgl d), 33)] w w5) := St.next S_u4.out hb5
  have HT_w5 : Hid _ := Tb.below HT.out hb5
  clear HT
  have HT : Hid _ := HT_w5.out
  clear HT_w5
  generalize (Value.agg #[.int .i64 k0, .int .i64 l1, .int .i64 l2, .int .i64 l3, .int .i64 l4, .int .i64 l5, .int .i64 l6, .int .i64 l7, .int .i64 l8, .string n0, .string n1, .string n2]) = B10
  generalize (Value.agg #[.int .i64 g.ia, .int .i64 g.oa, .int .i64 g.lo, .int .i64 g.hi, .int .i64 g.cp, .int .i64 g.im, .int .i64 g.om, .int .i64 g.iu, .int .i64 g.it, .int .i64 g.iq, .int .i64 g.bu, .int .i64 g.ra]) = B11
  clear S_u4
  have hz_w5 : w2.heap.size < w5.heap.size := St.lt S_w5.out (x := (w2.heap.size, (dgl d), 33)) (by simp)
  clear hb5
  have hbl_a : b < w5.heap.size := HT.out.lt
  have HO_a : Hid (∀ o, v3.ownBlock = some o → o < w5.heap.size) := fun o e => (HT.out.row.lt o e).2
  rename_i KK hKK
  refine hKK _ _ ?_
  refine keep_dg [.int .i64 a.pr, .int .i64 a.kd, .bool a.ba, .int .i64 a.sa, .int .i64 a.sp, .int .i64 a.da, .int .i64 a.dp, .int .i64 a.tl, .int .i64 a.bi, .int .i64 a.sr, .string a.op, .string a.md, .string a.tx, .string a.ta] rfl rfl rfl rfl rfl (by simp [Value.oneCell']) (by simp [Act.eval, Act.put]) (by simp [Act.eval, Act.put]) ?_
  clear hKK
  clear KK
  have S_v5 : Hid (St [(w.heap.size, (cfl c), 23), (w.heap.size + 1, #[.int .i64 k0, .int .i64 k1, .int .i64 k2, .int .i64 k3, .int .i64 k4, .int .i64 k5, .int .i64 k6, .int .i64 k7, .int .i64 k8, .string m0, .string m1, .string m2], 25), (w.heap.size + 1 + 1, #[.int .i64 k0, .int .i64 l1, .int .i64 l2, .int .i64 l3, .int .i64 l4, .int .i64 l5, .int .i64 l6, .int .i64 l7, .int .i64 l8, .string n0, .string n1, .string n2], 25), (w.heap.size + 1 + 1 + 1, (ntl n), 53), (w1.heap.size, (cfl g), 23), (w2.heap.size, (dgl d), 33), (w5.heap.size, (dgl a), 33)] w (w5.alloc (.cells #[.int .i64 a.pr, .int .i64 a.kd, .bool a.ba, .int .i64 a.sa, .int .i64 a.sp, .int .i64 a.da, .int .i64 a.dp, .int .i64 a.tl, .int .i64 a.bi, .int .i64 a.sr, .string a.op, .string a.md, .string a.tx, .string a.ta] 33))) := St.alloc S_w5.out (dgl a) 33 (w5.heap.size) rfl
  have HT_v5 : Hid _ := Tb.below HT.out ((Below.refl _ _).alloc (Nat.le_refl _) (.cells #[.int .i64 a.pr, .int .i64 a.kd, .bool a.ba, .int .i64 a.sa, .int .i64 a.sp, .int .i64 a.da, .int .i64 a.dp, .int .i64 a.tl, .int .i64 a.bi, .int .i64 a.sr, .string a.op, .string a.md, .string a.tx, .string a.ta] 33))
  have hs_v5 : w5.heap.size < (w5.alloc (.cells #[.int .i64 a.pr, .int .i64 a.kd, .bool a.ba, .int .i64 a.sa, .int .i64 a.sp, .int .i64 a.da, .int .i64 a.dp, .int .i64 a.tl, .int .i64 a.bi, .int .i64 a.sr, .string a.op, .string a.md, .string a.tx, .string a.ta] 33)).heap.size := by simp
  generalize w5.alloc (.cells #[.int .i64 a.pr, .int .i64 a.kd, .bool a.ba, .int .i64 a.sa, .int .i64 a.sp, .int .i64 a.da, .int .i64 a.dp, .int .i64 a.tl, .int .i64 a.bi, .int .i64 a.sr, .string a.op, .string a.md, .string a.tx, .string a.ta] 33) = v5 at S_v5 hs_v5 HT_v5 ⊢
  clear S_w5
  clear HT
  have HT : Hid _ := HT_v5.out
  clear HT_v5
  clear hs_v5
  clear CF
  obtain ⟨i0, i1, i2⟩ := CI.out d ext a hR1
  have HR1 : Hid _ := hR1
  clear CI hR1
  have q_d3 : v5.cell? ⟨w2.heap.size, 3, none⟩ = some (.int .i64 d.sa) := St.at 5 3 rfl rfl _ S_v5.out
  have q_d4 : v5.cell? ⟨w2.heap.size, 4, none⟩ = some (.int .i64 d.sp) := St.at 5 4 rfl rfl _ S_v5.out
  go_wp2_with (first | (refine pull_dg [.int .i64 a.pr, .int .i64 a.kd, .bool a.ba, .int .i64 a.sa, .int .i64 a.sp, .int .i64 a.da, .int .i64 a.dp, .int .i64 a.tl, .int .i64 a.bi, .int .i64 a.sr, .string a.op, .string a.md, .string a.tx, .string a.ta] rfl (w5.heap.size) (St.get S_v5.out 6 rfl) rfl rfl rfl ?_))
  refine Calls.mono (i0.at _) ?_; rintro e w6 ⟨rfl, hb6⟩
  have S_w6 : Hid (St [(w.heap.size, (cfl c), 23), (w.heap.size + 1, #[.int .i64 k0, .int .i64 k1, .int .i64 k2, .int .i64 k3, .int .i64 k4, .int .i64 k5, .int .i64 k6, .int .i64 k7, .int .i64 k8, .string m0, .string m1, .string m2], 25), (w.heap.size + 1 + 1, #[.int .i64 k0, .int .i64 l1, .int .i64 l2, .int .i64 l3, .int .i64 l4, .int .i64 l5, .int .i64 l6, .int .i64 l7, .int .i64 l8, .string n0, .string n1, .string n2], 25), (w.heap.size + 1 + 1 + 1, (ntl n), 53), (w1.heap.size, (cfl g), 23), (w2.heap.size, (dgl d), 33), (w5.heap.size, (dgl a), 33)] w w6) := St.next S_v5.out hb6
  have HT_w6 : Hid _ := Tb.below HT.out hb6
  clear HT
  have HT : Hid _ := HT_w6.out
  clear HT_w6
  clear q_d3 q_d4
  generalize (Value.agg #[.int .i64 a.pr, .int .i64 a.kd, .bool a.ba, .int .i64 a.sa, .int .i64 a.sp, .int .i64 a.da, .int .i64 a.dp, .int .i64 a.tl, .int .i64 a.bi, .int .i64 a.sr, .string a.op, .string a.md, .string a.tx, .string a.ta]) = B12
  clear S_v5
  have hz_w6 : w5.heap.size < w6.heap.size := St.lt S_w6.out (x := (w5.heap.size, (dgl a), 33)) (by simp)
  clear hb6
  have hbl_b : b < w6.heap.size := HT.out.lt
  have HO_b : Hid (∀ o, v3.ownBlock = some o → o < w6.heap.size) := fun o e => (HT.out.row.lt o e).2
  rename_i KK hKK
  refine hKK _ _ ?_
  refine keep_dg [.int .i64 a.pr, .int .i64 a.kd, .bool a.ba, .int .i64 a.sa, .int .i64 a.sp, .int .i64 d.sa, .int .i64 d.sp, .int .i64 (a.tl - 1), .int .i64 a.bi, .int .i64 a.sr, .string a.op, .string a.md, .string a.tx, .string a.ta] rfl rfl rfl rfl rfl (by simp [Value.oneCell']) (by simp [Act.eval, Act.put]) (by simp [Act.eval, Act.put]) ?_
  clear hKK
  clear KK
  have S_v6 : Hid (St [(w.heap.size, (cfl c), 23), (w.heap.size + 1, #[.int .i64 k0, .int .i64 k1, .int .i64 k2, .int .i64 k3, .int .i64 k4, .int .i64 k5, .int .i64 k6, .int .i64 k7, .int .i64 k8, .string m0, .string m1, .string m2], 25), (w.heap.size + 1 + 1, #[.int .i64 k0, .int .i64 l1, .int .i64 l2, .int .i64 l3, .int .i64 l4, .int .i64 l5, .int .i64 l6, .int .i64 l7, .int .i64 l8, .string n0, .string n1, .string n2], 25), (w.heap.size + 1 + 1 + 1, (ntl n), 53), (w1.heap.size, (cfl g), 23), (w2.heap.size, (dgl d), 33), (w5.heap.size, (dgl a), 33), (w6.heap.size, (dgl { a with da := d.sa, dp := d.sp, tl := a.tl - 1 }), 33)] w (w6.alloc (.cells #[.int .i64 a.pr, .int .i64 a.kd, .bool a.ba, .int .i64 a.sa, .int .i64 a.sp, .int .i64 d.sa, .int .i64 d.sp, .int .i64 (a.tl - 1), .int .i64 a.bi, .int .i64 a.sr, .string a.op, .string a.md, .string a.tx, .string a.ta] 33))) := St.alloc S_w6.out (dgl { a with da := d.sa, dp := d.sp, tl := a.tl - 1 }) 33 (w6.heap.size) rfl
  have HT_v6 : Hid _ := Tb.below HT.out ((Below.refl _ _).alloc (Nat.le_refl _) (.cells #[.int .i64 a.pr, .int .i64 a.kd, .bool a.ba, .int .i64 a.sa, .int .i64 a.sp, .int .i64 d.sa, .int .i64 d.sp, .int .i64 (a.tl - 1), .int .i64 a.bi, .int .i64 a.sr, .string a.op, .string a.md, .string a.tx, .string a.ta] 33))
  have hs_v6 : w6.heap.size < (w6.alloc (.cells #[.int .i64 a.pr, .int .i64 a.kd, .bool a.ba, .int .i64 a.sa, .int .i64 a.sp, .int .i64 d.sa, .int .i64 d.sp, .int .i64 (a.tl - 1), .int .i64 a.bi, .int .i64 a.sr, .string a.op, .string a.md, .string a.tx, .string a.ta] 33)).heap.size := by simp
  generalize w6.alloc (.cells #[.int .i64 a.pr, .int .i64 a.kd, .bool a.ba, .int .i64 a.sa, .int .i64 a.sp, .int .i64 d.sa, .int .i64 d.sp, .int .i64 (a.tl - 1), .int .i64 a.bi, .int .i64 a.sr, .string a.op, .string a.md, .string a.tx, .string a.ta] 33) = v6 at S_v6 hs_v6 HT_v6 ⊢
  clear S_w6
  clear HT
  have HT : Hid _ := HT_v6.out
  clear HT_v6
  clear hs_v6
  clear i0
  have cP1 : Hid (∀ wx, Bat wx v2.heap.size b g g.bu 0 v3 [mp] → Calls Tryz.prog 28 #[.pointer (some ⟨b, 0, none⟩), .int .i64 1, .string (kfr a), .int .i64 0, .string (kfr { a with da := d.sa, dp := d.sp, tl := a.tl - 1 })] wx fun e w' => e = .returned (.bool true) ∧ Below wx.heap.size wx w') := fun wx h =>
    (passes_yes b 1 0 _ _ (fun w1 => Below wx.heap.size wx w1) (CX1.out d ext a wx _ b _ _ _ _ HR1.out h HM.out.1 HM.out.2.1 HM.out.2.2.1 HM.out.2.2.2.1)).mono fun e w' q => ⟨q.1, by obtain ⟨w1, h1, h2⟩ := q.2; exact h1.trans (h2.mono h1.size)⟩
  clear CX1
  generalize kfr a = XA at i1 cP1
  generalize kfr { a with da := d.sa, dp := d.sp, tl := a.tl - 1 } = XB at i2 cP1
  go_upto_region 9 with fail
  try go_frame
  obtain ⟨SX, hSX⟩ : ∃ SX : World → Prop, ∀ w', Sof SX w' ↔ St [(w.heap.size, (cfl c), 23), (w.heap.size + 1, #[.int .i64 k0, .int .i64 k1, .int .i64 k2, .int .i64 k3, .int .i64 k4, .int .i64 k5, .int .i64 k6, .int .i64 k7, .int .i64 k8, .string m0, .string m1, .string m2], 25), (w.heap.size + 1 + 1, #[.int .i64 k0, .int .i64 l1, .int .i64 l2, .int .i64 l3, .int .i64 l4, .int .i64 l5, .int .i64 l6, .int .i64 l7, .int .i64 l8, .string n0, .string n1, .string n2], 25), (w.heap.size + 1 + 1 + 1, (ntl n), 53), (w1.heap.size, (cfl g), 23), (w2.heap.size, (dgl d), 33), (w5.heap.size, (dgl a), 33), (w6.heap.size, (dgl { a with da := d.sa, dp := d.sp, tl := a.tl - 1 }), 33)] w w' := ⟨_, fun _ => Iff.rfl⟩
  have HSX : Hid _ := hSX
  clear hSX
  have ss : Hid (Sof SX v6.drew) := (HSX.out _).2 (St.drew S_v6.out)
  have TD : Hid _ := Tb.drew HT.out
  go_cut [15] (fun ov wx => ov = .bool true ∧ St [(w.heap.size, (cfl c), 23), (w.heap.size + 1, #[.int .i64 k0, .int .i64 k1, .int .i64 k2, .int .i64 k3, .int .i64 k4, .int .i64 k5, .int .i64 k6, .int .i64 k7, .int .i64 k8, .string m0, .string m1, .string m2], 25), (w.heap.size + 1 + 1, #[.int .i64 k0, .int .i64 l1, .int .i64 l2, .int .i64 l3, .int .i64 l4, .int .i64 l5, .int .i64 l6, .int .i64 l7, .int .i64 l8, .string n0, .string n1, .string n2], 25), (w.heap.size + 1 + 1 + 1, (ntl n), 53), (w1.heap.size, (cfl g), 23), (w2.heap.size, (dgl d), 33), (w5.heap.size, (dgl a), 33), (w6.heap.size, (dgl { a with da := d.sa, dp := d.sp, tl := a.tl - 1 }), 33)] w wx ∧ Bat wx v2.heap.size b g g.bu 0 v3 [mp])
  case first =>
    refine wp_region_held_drew (S := fun w' => Sof SX w') (by kernel_rfl) ss.out (fun hHeld => ?_)
    refine takeL (i := 1) (v := .agg #[.int .i64 a.pr, .int .i64 a.kd, .bool a.ba, .int .i64 a.sa, .int .i64 a.sp, .int .i64 a.da, .int .i64 a.dp, .int .i64 a.tl, .int .i64 a.bi, .int .i64 a.sr, .string a.op, .string a.md, .string a.tx, .string a.ta]) rfl (by kernel_rfl) (by kernel_rfl) (by kernel_rfl) (fun _ _ _ h => h) (yields_dg (by rfl) rfl (w5.heap.size) rfl [.int .i64 a.pr, .int .i64 a.kd, .bool a.ba, .int .i64 a.sa, .int .i64 a.sp, .int .i64 a.da, .int .i64 a.dp, .int .i64 a.tl, .int .i64 a.bi, .int .i64 a.sr, .string a.op, .string a.md, .string a.tx, .string a.ta] rfl (fun w' h => ⟨33, show w'.heap[w5.heap.size]? = some (.cells #[.int .i64 a.pr, .int .i64 a.kd, .bool a.ba, .int .i64 a.sa, .int .i64 a.sp, .int .i64 a.da, .int .i64 a.dp, .int .i64 a.tl, .int .i64 a.bi, .int .i64 a.sr, .string a.op, .string a.md, .string a.tx, .string a.ta] 33 (0, 0)) from St.get ((HSX.out w').1 h) 6 rfl⟩)) (by assumption) ?_
    try simp only [Act.put, List.setIfInBounds_toArray, List.set_cons_zero, List.set_cons_succ]
    refine takeL (i := 3) (v := .agg #[.int .i64 a.pr, .int .i64 a.kd, .bool a.ba, .int .i64 a.sa, .int .i64 a.sp, .int .i64 d.sa, .int .i64 d.sp, .int .i64 (a.tl - 1), .int .i64 a.bi, .int .i64 a.sr, .string a.op, .string a.md, .string a.tx, .string a.ta]) rfl (by kernel_rfl) (by kernel_rfl) (by kernel_rfl) (fun _ _ _ h => h) (yields_dg (by rfl) rfl (w6.heap.size) rfl [.int .i64 a.pr, .int .i64 a.kd, .bool a.ba, .int .i64 a.sa, .int .i64 a.sp, .int .i64 d.sa, .int .i64 d.sp, .int .i64 (a.tl - 1), .int .i64 a.bi, .int .i64 a.sr, .string a.op, .string a.md, .string a.tx, .string a.ta] rfl (fun w' h => ⟨33, show w'.heap[w6.heap.size]? = some (.cells #[.int .i64 a.pr, .int .i64 a.kd, .bool a.ba, .int .i64 a.sa, .int .i64 a.sp, .int .i64 d.sa, .int .i64 d.sp, .int .i64 (a.tl - 1), .int .i64 a.bi, .int .i64 a.sr, .string a.op, .string a.md, .string a.tx, .string a.ta] 33 (0, 0)) from St.get ((HSX.out w').1 h) 7 rfl⟩)) (by assumption) ?_
    try simp only [Act.put, List.setIfInBounds_toArray, List.set_cons_zero, List.set_cons_succ]
    refine takeL (i := 0) (v := .pointer (some ⟨b, 0, none⟩)) rfl (by kernel_rfl) (by kernel_rfl) (by kernel_rfl) (fun _ _ _ h => h) (yields_mv (by rfl) (.inl rfl) rfl) (by assumption) ?_
    try simp only [Act.put, List.setIfInBounds_toArray, List.set_cons_zero, List.set_cons_succ]
    refine callL (i := 2) (by kernel_rfl) rfl (by rfl) (fun K hK => ?_)
    go_simp
    go_wp2_with (first | (go_at_call 14; refine Calls.mono (i1.at _) ?_; rintro e wx ⟨rfl, hbx⟩; have hkx : Sof SX wx := (HSX.out _).2 (St.next ((HSX.out _).1 ss.out) hbx); have TX : Hid _ := Tb.below TD.out hbx))
    refine hK.out _ _ ?_ (fun hHeld => ?_)
    · exact hkx
    clear hK
    clear K
    try simp only [Act.put, List.setIfInBounds_toArray, List.set_cons_zero, List.set_cons_succ]
    clear hbx TD
    refine callL (i := 4) (by kernel_rfl) rfl (by rfl) (fun K hK => ?_)
    go_simp
    go_wp2_with (first | (go_at_call 14; refine Calls.mono (i2.at _) ?_; rintro e wy ⟨rfl, hby⟩; have hky : Sof SX wy := (HSX.out _).2 (St.next ((HSX.out _).1 hkx) hby); have TY : Hid _ := Tb.below TX.out hby))
    refine hK.out _ _ ?_ (fun hHeld => ?_)
    · exact hky
    clear hK
    clear K
    try simp only [Act.put, List.setIfInBounds_toArray, List.set_cons_zero, List.set_cons_succ]
    clear hby TX
    refine callL (i := 5) (by kernel_rfl) rfl (by rfl) (fun K hK => ?_)
    go_simp
    go_wp2_with (first | (go_at_call 28; refine Calls.mono (cP1.out _ TY.out) ?_; rintro e wz ⟨rfl, hbz⟩; have hkz : Sof SX wz := (HSX.out _).2 (St.next ((HSX.out _).1 hky) hbz); have TZ : Hid _ := Tb.below TY.out hbz))
    refine hK.out _ _ ?_ (fun hHeld => ?_)
    · exact hkz
    clear hK
    clear K
    try simp only [Act.put, List.setIfInBounds_toArray, List.set_cons_zero, List.set_cons_succ]
    clear hbz TY
    refine takeL (i := 6) (v := .bool true) rfl (by kernel_rfl) (by kernel_rfl) (by kernel_rfl) (fun _ _ _ h => h) (yields_mv (by rfl) (.inr rfl) rfl) (by assumption) ?_
    try simp only [Act.put, List.setIfInBounds_toArray, List.set_cons_zero, List.set_cons_succ]
    refine wpAnyH_done (by kernel_rfl) ?_ _
    go_wp2_with fail
    go_meet
    exact ⟨rfl, (HSX.out _).1 hkz, TZ.out⟩
  case rest =>
    obtain ⟨rfl, hst0, htb0⟩ := hcut
    obtain ⟨w7, hw7⟩ : ∃ w7 : World, w7 = wc := ⟨_, rfl⟩
    subst hw7
    have S_w7 : Hid (St [(w.heap.size, (cfl c), 23), (w.heap.size + 1, #[.int .i64 k0, .int .i64 k1, .int .i64 k2, .int .i64 k3, .int .i64 k4, .int .i64 k5, .int .i64 k6, .int .i64 k7, .int .i64 k8, .string m0, .string m1, .string m2], 25), (w.heap.size + 1 + 1, #[.int .i64 k0, .int .i64 l1, .int .i64 l2, .int .i64 l3, .int .i64 l4, .int .i64 l5, .int .i64 l6, .int .i64 l7, .int .i64 l8, .string n0, .string n1, .string n2], 25), (w.heap.size + 1 + 1 + 1, (ntl n), 53), (w1.heap.size, (cfl g), 23), (w2.heap.size, (dgl d), 33), (w5.heap.size, (dgl a), 33), (w6.heap.size, (dgl { a with da := d.sa, dp := d.sp, tl := a.tl - 1 }), 33)] w w7) := hst0
    clear S_v6
    clear HT
    have HT : Hid (Bat w7 v2.heap.size b g g.bu 0 v3 [mp]) := htb0
    clear htb0 TD
    clear hst0 HSX ss cP1 i1 i2
    have q_a3 : w7.cell? ⟨w5.heap.size, 3, none⟩ = some (.int .i64 a.sa) := St.at 6 3 rfl rfl _ S_w7.out
    have q_g6 : w7.cell? ⟨w1.heap.size, 6, none⟩ = some (.int .i64 g.om) := St.at 4 6 rfl rfl _ S_w7.out
    go_wp2_with (first | (refine pull_nt [.int .i64 n.sr, .int .i64 n.ty, .int .i64 n.co, .int .i64 n.le, .int .i64 n.se, .int .i64 n.tl, .int .i64 n.op, .int .i64 n.bi, .string n.re, .string n.ta] rfl (w.heap.size + 1 + 1 + 1) (St.get S_w7.out 3 rfl) rfl rfl rfl ?_) | (refine pull_cf [.int .i64 g.ia, .int .i64 g.oa, .int .i64 g.lo, .int .i64 g.hi, .int .i64 g.cp, .int .i64 g.im, .int .i64 g.om, .int .i64 g.iu, .int .i64 g.it, .int .i64 g.iq, .int .i64 g.bu, .int .i64 g.ra] rfl (w1.heap.size) (St.get S_w7.out 4 rfl) rfl rfl rfl ?_) | (refine pull_dg [.int .i64 a.pr, .int .i64 a.kd, .bool a.ba, .int .i64 a.sa, .int .i64 a.sp, .int .i64 d.sa, .int .i64 d.sp, .int .i64 (a.tl - 1), .int .i64 a.bi, .int .i64 a.sr, .string a.op, .string a.md, .string a.tx, .string a.ta] rfl (w6.heap.size) (St.get S_w7.out 7 rfl) rfl rfl rfl ?_))
    refine Calls.mono (CN.out d ext a _ HR1.out) ?_; rintro e w8 ⟨m, rfl, hR, hb8⟩
    have S_w8 : Hid (St [(w.heap.size, (cfl c), 23), (w.heap.size + 1, #[.int .i64 k0, .int .i64 k1, .int .i64 k2, .int .i64 k3, .int .i64 k4, .int .i64 k5, .int .i64 k6, .int .i64 k7, .int .i64 k8, .string m0, .string m1, .string m2], 25), (w.heap.size + 1 + 1, #[.int .i64 k0, .int .i64 l1, .int .i64 l2, .int .i64 l3, .int .i64 l4, .int .i64 l5, .int .i64 l6, .int .i64 l7, .int .i64 l8, .string n0, .string n1, .string n2], 25), (w.heap.size + 1 + 1 + 1, (ntl n), 53), (w1.heap.size, (cfl g), 23), (w2.heap.size, (dgl d), 33), (w5.heap.size, (dgl a), 33), (w6.heap.size, (dgl { a with da := d.sa, dp := d.sp, tl := a.tl - 1 }), 33)] w w8) := St.next S_w7.out hb8
    have HT_w8 : Hid _ := Tb.below HT.out hb8
    clear HT
    have HT : Hid _ := HT_w8.out
    clear HT_w8
    clear q_a3 q_g6
    generalize (Value.agg #[.int .i64 n.sr, .int .i64 n.ty, .int .i64 n.co, .int .i64 n.le, .int .i64 n.se, .int .i64 n.tl, .int .i64 n.op, .int .i64 n.bi, .string n.re, .string n.ta]) = B13
    generalize (Value.agg #[.int .i64 g.ia, .int .i64 g.oa, .int .i64 g.lo, .int .i64 g.hi, .int .i64 g.cp, .int .i64 g.im, .int .i64 g.om, .int .i64 g.iu, .int .i64 g.it, .int .i64 g.iq, .int .i64 g.bu, .int .i64 g.ra]) = B14
    generalize (Value.agg #[.int .i64 a.pr, .int .i64 a.kd, .bool a.ba, .int .i64 a.sa, .int .i64 a.sp, .int .i64 d.sa, .int .i64 d.sp, .int .i64 (a.tl - 1), .int .i64 a.bi, .int .i64 a.sr, .string a.op, .string a.md, .string a.tx, .string a.ta]) = B15
    clear S_w7
    have hz_w8 : w6.heap.size < w8.heap.size := St.lt S_w8.out (x := (w6.heap.size, (dgl { a with da := d.sa, dp := d.sp, tl := a.tl - 1 }), 33)) (by simp)
    clear hb8
    have hbl_m : b < w8.heap.size := HT.out.lt
    have HO_m : Hid (∀ o, v3.ownBlock = some o → o < w8.heap.size) := fun o e => (HT.out.row.lt o e).2
    rename_i KK hKK
    refine hKK _ _ ?_
    refine keep_lt [.int .i64 m.d.pr, .int .i64 m.d.kd, .bool m.d.ba, .int .i64 m.d.sa, .int .i64 m.d.sp, .int .i64 m.d.da, .int .i64 m.d.dp, .int .i64 m.d.tl, .int .i64 m.d.bi, .int .i64 m.d.sr, .string m.d.op, .string m.d.md, .string m.d.tx, .string m.d.ta, .int .i64 m.ki, .int .i64 m.co, .string m.re, .string m.qu] rfl rfl rfl rfl rfl (by simp [Value.oneCell']) (by simp [Act.eval, Act.put]) (by simp [Act.eval, Act.put]) ?_
    clear hKK
    clear KK
    have S_v8 : Hid (St [(w.heap.size, (cfl c), 23), (w.heap.size + 1, #[.int .i64 k0, .int .i64 k1, .int .i64 k2, .int .i64 k3, .int .i64 k4, .int .i64 k5, .int .i64 k6, .int .i64 k7, .int .i64 k8, .string m0, .string m1, .string m2], 25), (w.heap.size + 1 + 1, #[.int .i64 k0, .int .i64 l1, .int .i64 l2, .int .i64 l3, .int .i64 l4, .int .i64 l5, .int .i64 l6, .int .i64 l7, .int .i64 l8, .string n0, .string n1, .string n2], 25), (w.heap.size + 1 + 1 + 1, (ntl n), 53), (w1.heap.size, (cfl g), 23), (w2.heap.size, (dgl d), 33), (w5.heap.size, (dgl a), 33), (w6.heap.size, (dgl { a with da := d.sa, dp := d.sp, tl := a.tl - 1 }), 33), (w8.heap.size, (ltl m), 59)] w (w8.alloc (.cells #[.int .i64 m.d.pr, .int .i64 m.d.kd, .bool m.d.ba, .int .i64 m.d.sa, .int .i64 m.d.sp, .int .i64 m.d.da, .int .i64 m.d.dp, .int .i64 m.d.tl, .int .i64 m.d.bi, .int .i64 m.d.sr, .string m.d.op, .string m.d.md, .string m.d.tx, .string m.d.ta, .int .i64 m.ki, .int .i64 m.co, .string m.re, .string m.qu] 59))) := St.alloc S_w8.out (ltl m) 59 (w8.heap.size) rfl
    have HT_v8 : Hid _ := Tb.below HT.out ((Below.refl _ _).alloc (Nat.le_refl _) (.cells #[.int .i64 m.d.pr, .int .i64 m.d.kd, .bool m.d.ba, .int .i64 m.d.sa, .int .i64 m.d.sp, .int .i64 m.d.da, .int .i64 m.d.dp, .int .i64 m.d.tl, .int .i64 m.d.bi, .int .i64 m.d.sr, .string m.d.op, .string m.d.md, .string m.d.tx, .string m.d.ta, .int .i64 m.ki, .int .i64 m.co, .string m.re, .string m.qu] 59))
    have hs_v8 : w8.heap.size < (w8.alloc (.cells #[.int .i64 m.d.pr, .int .i64 m.d.kd, .bool m.d.ba, .int .i64 m.d.sa, .int .i64 m.d.sp, .int .i64 m.d.da, .int .i64 m.d.dp, .int .i64 m.d.tl, .int .i64 m.d.bi, .int .i64 m.d.sr, .string m.d.op, .string m.d.md, .string m.d.tx, .string m.d.ta, .int .i64 m.ki, .int .i64 m.co, .string m.re, .string m.qu] 59)).heap.size := by simp
    generalize w8.alloc (.cells #[.int .i64 m.d.pr, .int .i64 m.d.kd, .bool m.d.ba, .int .i64 m.d.sa, .int .i64 m.d.sp, .int .i64 m.d.da, .int .i64 m.d.dp, .int .i64 m.d.tl, .int .i64 m.d.bi, .int .i64 m.d.sr, .string m.d.op, .string m.d.md, .string m.d.tx, .string m.d.ta, .int .i64 m.ki, .int .i64 m.co, .string m.re, .string m.qu] 59) = v8 at S_v8 hs_v8 HT_v8 ⊢
    clear S_w8
    clear HT
    have HT : Hid _ := HT_v8.out
    clear HT_v8
    clear hs_v8
    obtain ⟨j1, j2⟩ := CG.out d ext a m hR
    have cA := CA.out d ext a m hR
    have cX := fun wx base b v tk ti mp => CX.out d ext a m wx base b v tk ti mp hR
    have CX2 : Hid _ := cX
    generalize ab d ext a m = y at cA j2
    generalize X d ext a m = XX at j1 CX2
    generalize Y d ext a m = YY at j2 CX2
    clear CN CG CA CX hR cX
    go_wp2_with (first | (refine pull_lt [.int .i64 m.d.pr, .int .i64 m.d.kd, .bool m.d.ba, .int .i64 m.d.sa, .int .i64 m.d.sp, .int .i64 m.d.da, .int .i64 m.d.dp, .int .i64 m.d.tl, .int .i64 m.d.bi, .int .i64 m.d.sr, .string m.d.op, .string m.d.md, .string m.d.tx, .string m.d.ta, .int .i64 m.ki, .int .i64 m.co, .string m.re, .string m.qu] rfl (w8.heap.size) (St.get S_v8.out 8 rfl) rfl rfl rfl ?_) | (refine pull_nt [.int .i64 n.sr, .int .i64 n.ty, .int .i64 n.co, .int .i64 n.le, .int .i64 n.se, .int .i64 n.tl, .int .i64 n.op, .int .i64 n.bi, .string n.re, .string n.ta] rfl (w.heap.size + 1 + 1 + 1) (St.get S_v8.out 3 rfl) rfl rfl rfl ?_) | (refine pull_dg [.int .i64 a.pr, .int .i64 a.kd, .bool a.ba, .int .i64 a.sa, .int .i64 a.sp, .int .i64 d.sa, .int .i64 d.sp, .int .i64 (a.tl - 1), .int .i64 a.bi, .int .i64 a.sr, .string a.op, .string a.md, .string a.tx, .string a.ta] rfl (w6.heap.size) (St.get S_v8.out 7 rfl) rfl rfl rfl ?_) | (refine pull_dg [.int .i64 a.pr, .int .i64 a.kd, .bool a.ba, .int .i64 a.sa, .int .i64 a.sp, .int .i64 a.da, .int .i64 a.dp, .int .i64 a.tl, .int .i64 a.bi, .int .i64 a.sr, .string a.op, .string a.md, .string a.tx, .string a.ta] rfl (w5.heap.size) (St.get S_v8.out 6 rfl) rfl rfl rfl ?_))
    refine Calls.mono (cA.at _) ?_; rintro e w9 ⟨rfl, hb9⟩
    have S_w9 : Hid (St [(w.heap.size, (cfl c), 23), (w.heap.size + 1, #[.int .i64 k0, .int .i64 k1, .int .i64 k2, .int .i64 k3, .int .i64 k4, .int .i64 k5, .int .i64 k6, .int .i64 k7, .int .i64 k8, .string m0, .string m1, .string m2], 25), (w.heap.size + 1 + 1, #[.int .i64 k0, .int .i64 l1, .int .i64 l2, .int .i64 l3, .int .i64 l4, .int .i64 l5, .int .i64 l6, .int .i64 l7, .int .i64 l8, .string n0, .string n1, .string n2], 25), (w.heap.size + 1 + 1 + 1, (ntl n), 53), (w1.heap.size, (cfl g), 23), (w2.heap.size, (dgl d), 33), (w5.heap.size, (dgl a), 33), (w6.heap.size, (dgl { a with da := d.sa, dp := d.sp, tl := a.tl - 1 }), 33), (w8.heap.size, (ltl m), 59)] w w9) := St.next S_v8.out hb9
    have HT_w9 : Hid _ := Tb.below HT.out hb9
    clear HT
    have HT : Hid _ := HT_w9.out
    clear HT_w9
    generalize (Value.agg #[.int .i64 m.d.pr, .int .i64 m.d.kd, .bool m.d.ba, .int .i64 m.d.sa, .int .i64 m.d.sp, .int .i64 m.d.da, .int .i64 m.d.dp, .int .i64 m.d.tl, .int .i64 m.d.bi, .int .i64 m.d.sr, .string m.d.op, .string m.d.md, .string m.d.tx, .string m.d.ta, .int .i64 m.ki, .int .i64 m.co, .string m.re, .string m.qu]) = B16
    generalize (Value.agg #[.int .i64 n.sr, .int .i64 n.ty, .int .i64 n.co, .int .i64 n.le, .int .i64 n.se, .int .i64 n.tl, .int .i64 n.op, .int .i64 n.bi, .string n.re, .string n.ta]) = B17
    generalize (Value.agg #[.int .i64 a.pr, .int .i64 a.kd, .bool a.ba, .int .i64 a.sa, .int .i64 a.sp, .int .i64 d.sa, .int .i64 d.sp, .int .i64 (a.tl - 1), .int .i64 a.bi, .int .i64 a.sr, .string a.op, .string a.md, .string a.tx, .string a.ta]) = B18
    generalize (Value.agg #[.int .i64 a.pr, .int .i64 a.kd, .bool a.ba, .int .i64 a.sa, .int .i64 a.sp, .int .i64 a.da, .int .i64 a.dp, .int .i64 a.tl, .int .i64 a.bi, .int .i64 a.sr, .string a.op, .string a.md, .string a.tx, .string a.ta]) = B19
    clear S_v8
    have hz_w9 : w8.heap.size < w9.heap.size := St.lt S_w9.out (x := (w8.heap.size, (ltl m), 59)) (by simp)
    clear hb9
    have hbl_y : b < w9.heap.size := HT.out.lt
    have HO_y : Hid (∀ o, v3.ownBlock = some o → o < w9.heap.size) := fun o e => (HT.out.row.lt o e).2
    rename_i KK hKK
    refine hKK _ _ ?_
    refine keep_lt [.int .i64 y.d.pr, .int .i64 y.d.kd, .bool y.d.ba, .int .i64 y.d.sa, .int .i64 y.d.sp, .int .i64 y.d.da, .int .i64 y.d.dp, .int .i64 y.d.tl, .int .i64 y.d.bi, .int .i64 y.d.sr, .string y.d.op, .string y.d.md, .string y.d.tx, .string y.d.ta, .int .i64 y.ki, .int .i64 y.co, .string y.re, .string y.qu] rfl rfl rfl rfl rfl (by simp [Value.oneCell']) (by simp [Act.eval, Act.put]) (by simp [Act.eval, Act.put]) ?_
    clear hKK
    clear KK
    have S_v9 : Hid (St [(w.heap.size, (cfl c), 23), (w.heap.size + 1, #[.int .i64 k0, .int .i64 k1, .int .i64 k2, .int .i64 k3, .int .i64 k4, .int .i64 k5, .int .i64 k6, .int .i64 k7, .int .i64 k8, .string m0, .string m1, .string m2], 25), (w.heap.size + 1 + 1, #[.int .i64 k0, .int .i64 l1, .int .i64 l2, .int .i64 l3, .int .i64 l4, .int .i64 l5, .int .i64 l6, .int .i64 l7, .int .i64 l8, .string n0, .string n1, .string n2], 25), (w.heap.size + 1 + 1 + 1, (ntl n), 53), (w1.heap.size, (cfl g), 23), (w2.heap.size, (dgl d), 33), (w5.heap.size, (dgl a), 33), (w6.heap.size, (dgl { a with da := d.sa, dp := d.sp, tl := a.tl - 1 }), 33), (w8.heap.size, (ltl m), 59), (w9.heap.size, (ltl y), 59)] w (w9.alloc (.cells #[.int .i64 y.d.pr, .int .i64 y.d.kd, .bool y.d.ba, .int .i64 y.d.sa, .int .i64 y.d.sp, .int .i64 y.d.da, .int .i64 y.d.dp, .int .i64 y.d.tl, .int .i64 y.d.bi, .int .i64 y.d.sr, .string y.d.op, .string y.d.md, .string y.d.tx, .string y.d.ta, .int .i64 y.ki, .int .i64 y.co, .string y.re, .string y.qu] 59))) := St.alloc S_w9.out (ltl y) 59 (w9.heap.size) rfl
    have HT_v9 : Hid _ := Tb.below HT.out ((Below.refl _ _).alloc (Nat.le_refl _) (.cells #[.int .i64 y.d.pr, .int .i64 y.d.kd, .bool y.d.ba, .int .i64 y.d.sa, .int .i64 y.d.sp, .int .i64 y.d.da, .int .i64 y.d.dp, .int .i64 y.d.tl, .int .i64 y.d.bi, .int .i64 y.d.sr, .string y.d.op, .string y.d.md, .string y.d.tx, .string y.d.ta, .int .i64 y.ki, .int .i64 y.co, .string y.re, .string y.qu] 59))
    have hs_v9 : w9.heap.size < (w9.alloc (.cells #[.int .i64 y.d.pr, .int .i64 y.d.kd, .bool y.d.ba, .int .i64 y.d.sa, .int .i64 y.d.sp, .int .i64 y.d.da, .int .i64 y.d.dp, .int .i64 y.d.tl, .int .i64 y.d.bi, .int .i64 y.d.sr, .string y.d.op, .string y.d.md, .string y.d.tx, .string y.d.ta, .int .i64 y.ki, .int .i64 y.co, .string y.re, .string y.qu] 59)).heap.size := by simp
    generalize w9.alloc (.cells #[.int .i64 y.d.pr, .int .i64 y.d.kd, .bool y.d.ba, .int .i64 y.d.sa, .int .i64 y.d.sp, .int .i64 y.d.da, .int .i64 y.d.dp, .int .i64 y.d.tl, .int .i64 y.d.bi, .int .i64 y.d.sr, .string y.d.op, .string y.d.md, .string y.d.tx, .string y.d.ta, .int .i64 y.ki, .int .i64 y.co, .string y.re, .string y.qu] 59) = v9 at S_v9 hs_v9 HT_v9 ⊢
    clear S_w9
    clear HT
    have HT : Hid _ := HT_v9.out
    clear HT_v9
    clear hs_v9
    clear cA
    have q_g1 : v9.cell? ⟨w1.heap.size, 1, none⟩ = some (.int .i64 g.oa) := St.at 4 1 rfl rfl _ S_v9.out
    have fz := St.frz 9 rfl S_v9.out
    have q_y3 : v9.cell? ⟨w9.heap.size, 3, none⟩ = some (.int .i64 y.d.sa) := St.at 9 3 rfl rfl _ S_v9.out
    go_upto_region 15 with fail
    have S_u10 : Hid (St [(w.heap.size, (cfl c), 23), (w.heap.size + 1, #[.int .i64 k0, .int .i64 k1, .int .i64 k2, .int .i64 k3, .int .i64 k4, .int .i64 k5, .int .i64 k6, .int .i64 k7, .int .i64 k8, .string m0, .string m1, .string m2], 25), (w.heap.size + 1 + 1, #[.int .i64 k0, .int .i64 l1, .int .i64 l2, .int .i64 l3, .int .i64 l4, .int .i64 l5, .int .i64 l6, .int .i64 l7, .int .i64 l8, .string n0, .string n1, .string n2], 25), (w.heap.size + 1 + 1 + 1, (ntl n), 53), (w1.heap.size, (cfl g), 23), (w2.heap.size, (dgl d), 33), (w5.heap.size, (dgl a), 33), (w6.heap.size, (dgl { a with da := d.sa, dp := d.sp, tl := a.tl - 1 }), 33), (w8.heap.size, (ltl m), 59), (w9.heap.size, #[.int .i64 y.d.pr, .int .i64 y.d.kd, .bool y.d.ba, .int .i64 g.oa, .int .i64 y.d.sp, .int .i64 y.d.da, .int .i64 y.d.dp, .int .i64 y.d.tl, .int .i64 y.d.bi, .int .i64 y.d.sr, .string y.d.op, .string y.d.md, .string y.d.tx, .string y.d.ta, .int .i64 y.ki, .int .i64 y.co, .string y.re, .string y.qu], 59)] w (v9.setCell ⟨w9.heap.size, 3, none⟩ (.int .i64 g.oa))) := St.setAt (L1 := [(w.heap.size, (cfl c), 23), (w.heap.size + 1, #[.int .i64 k0, .int .i64 k1, .int .i64 k2, .int .i64 k3, .int .i64 k4, .int .i64 k5, .int .i64 k6, .int .i64 k7, .int .i64 k8, .string m0, .string m1, .string m2], 25), (w.heap.size + 1 + 1, #[.int .i64 k0, .int .i64 l1, .int .i64 l2, .int .i64 l3, .int .i64 l4, .int .i64 l5, .int .i64 l6, .int .i64 l7, .int .i64 l8, .string n0, .string n1, .string n2], 25), (w.heap.size + 1 + 1 + 1, (ntl n), 53), (w1.heap.size, (cfl g), 23), (w2.heap.size, (dgl d), 33), (w5.heap.size, (dgl a), 33), (w6.heap.size, (dgl { a with da := d.sa, dp := d.sp, tl := a.tl - 1 }), 33), (w8.heap.size, (ltl m), 59)]) (L2 := []) S_v9.out (by omega) (by simp; omega) 3 (.int .i64 g.oa)
    have T_u10 : Hid _ := Tb.other3 HT.out (p := ⟨w9.heap.size, 3, none⟩) (by show b ≠ w9.heap.size; omega) (fun o e => by have := HO_y.out o e; show o ≠ w9.heap.size; omega) (.int .i64 g.oa)
    generalize v9.setCell ⟨w9.heap.size, 3, none⟩ (.int .i64 g.oa) = u10 at S_u10 T_u10 ⊢
    clear S_v9 fz q_g1 q_y3
    clear HT
    have HT : Hid _ := T_u10.out
    clear T_u10
    have cP2 : Hid (∀ wx, Bat wx v2.heap.size b g g.bu 0 v3 [mp] → Calls Tryz.prog 28 #[.pointer (some ⟨b, 0, none⟩), .int .i64 0, .string XX, .int .i64 1, .string YY] wx fun e w' => e = .returned (.bool true) ∧ Below wx.heap.size wx w') := fun wx h =>
      (passes_yes b 0 1 _ _ (fun w1 => Below wx.heap.size wx w1) (CX2.out wx _ b _ _ _ _ h HM.out.1 HM.out.2.1 HM.out.2.2.1 HM.out.2.2.2.1 HM.out.2.2.2.2.2.2)).mono fun e w' q => ⟨q.1, by obtain ⟨w1, h1, h2⟩ := q.2; exact h1.trans (h2.mono h1.size)⟩
    clear CX2
    go_upto_region 15 with fail
    try go_frame
    obtain ⟨SX, hSX⟩ : ∃ SX : World → Prop, ∀ w', Sof SX w' ↔ St [(w.heap.size, (cfl c), 23), (w.heap.size + 1, #[.int .i64 k0, .int .i64 k1, .int .i64 k2, .int .i64 k3, .int .i64 k4, .int .i64 k5, .int .i64 k6, .int .i64 k7, .int .i64 k8, .string m0, .string m1, .string m2], 25), (w.heap.size + 1 + 1, #[.int .i64 k0, .int .i64 l1, .int .i64 l2, .int .i64 l3, .int .i64 l4, .int .i64 l5, .int .i64 l6, .int .i64 l7, .int .i64 l8, .string n0, .string n1, .string n2], 25), (w.heap.size + 1 + 1 + 1, (ntl n), 53), (w1.heap.size, (cfl g), 23), (w2.heap.size, (dgl d), 33), (w5.heap.size, (dgl a), 33), (w6.heap.size, (dgl { a with da := d.sa, dp := d.sp, tl := a.tl - 1 }), 33), (w8.heap.size, (ltl m), 59), (w9.heap.size, #[.int .i64 y.d.pr, .int .i64 y.d.kd, .bool y.d.ba, .int .i64 g.oa, .int .i64 y.d.sp, .int .i64 y.d.da, .int .i64 y.d.dp, .int .i64 y.d.tl, .int .i64 y.d.bi, .int .i64 y.d.sr, .string y.d.op, .string y.d.md, .string y.d.tx, .string y.d.ta, .int .i64 y.ki, .int .i64 y.co, .string y.re, .string y.qu], 59)] w w' := ⟨_, fun _ => Iff.rfl⟩
    have HSX : Hid _ := hSX
    clear hSX
    have ss : Hid (Sof SX u10.drew) := (HSX.out _).2 (St.drew S_u10.out)
    have TD : Hid _ := Tb.drew HT.out
    go_cut [15] (fun ov wx => ov = .bool true ∧ St [(w.heap.size, (cfl c), 23), (w.heap.size + 1, #[.int .i64 k0, .int .i64 k1, .int .i64 k2, .int .i64 k3, .int .i64 k4, .int .i64 k5, .int .i64 k6, .int .i64 k7, .int .i64 k8, .string m0, .string m1, .string m2], 25), (w.heap.size + 1 + 1, #[.int .i64 k0, .int .i64 l1, .int .i64 l2, .int .i64 l3, .int .i64 l4, .int .i64 l5, .int .i64 l6, .int .i64 l7, .int .i64 l8, .string n0, .string n1, .string n2], 25), (w.heap.size + 1 + 1 + 1, (ntl n), 53), (w1.heap.size, (cfl g), 23), (w2.heap.size, (dgl d), 33), (w5.heap.size, (dgl a), 33), (w6.heap.size, (dgl { a with da := d.sa, dp := d.sp, tl := a.tl - 1 }), 33), (w8.heap.size, (ltl m), 59), (w9.heap.size, #[.int .i64 y.d.pr, .int .i64 y.d.kd, .bool y.d.ba, .int .i64 g.oa, .int .i64 y.d.sp, .int .i64 y.d.da, .int .i64 y.d.dp, .int .i64 y.d.tl, .int .i64 y.d.bi, .int .i64 y.d.sr, .string y.d.op, .string y.d.md, .string y.d.tx, .string y.d.ta, .int .i64 y.ki, .int .i64 y.co, .string y.re, .string y.qu], 59)] w wx ∧ Bat wx v2.heap.size b g g.bu 0 v3 [mp])
    case first =>
      refine wp_region_held_drew (S := fun w' => Sof SX w') (by kernel_rfl) ss.out (fun hHeld => ?_)
      refine takeL (i := 1) (v := .agg #[.int .i64 m.d.pr, .int .i64 m.d.kd, .bool m.d.ba, .int .i64 m.d.sa, .int .i64 m.d.sp, .int .i64 m.d.da, .int .i64 m.d.dp, .int .i64 m.d.tl, .int .i64 m.d.bi, .int .i64 m.d.sr, .string m.d.op, .string m.d.md, .string m.d.tx, .string m.d.ta, .int .i64 m.ki, .int .i64 m.co, .string m.re, .string m.qu]) rfl (by kernel_rfl) (by kernel_rfl) (by kernel_rfl) (fun _ _ _ h => h) (yields_lt (by rfl) rfl (w8.heap.size) rfl [.int .i64 m.d.pr, .int .i64 m.d.kd, .bool m.d.ba, .int .i64 m.d.sa, .int .i64 m.d.sp, .int .i64 m.d.da, .int .i64 m.d.dp, .int .i64 m.d.tl, .int .i64 m.d.bi, .int .i64 m.d.sr, .string m.d.op, .string m.d.md, .string m.d.tx, .string m.d.ta, .int .i64 m.ki, .int .i64 m.co, .string m.re, .string m.qu] rfl (fun w' h => ⟨59, show w'.heap[w8.heap.size]? = some (.cells #[.int .i64 m.d.pr, .int .i64 m.d.kd, .bool m.d.ba, .int .i64 m.d.sa, .int .i64 m.d.sp, .int .i64 m.d.da, .int .i64 m.d.dp, .int .i64 m.d.tl, .int .i64 m.d.bi, .int .i64 m.d.sr, .string m.d.op, .string m.d.md, .string m.d.tx, .string m.d.ta, .int .i64 m.ki, .int .i64 m.co, .string m.re, .string m.qu] 59 (0, 0)) from St.get ((HSX.out w').1 h) 8 rfl⟩)) (by assumption) ?_
      try simp only [Act.put, List.setIfInBounds_toArray, List.set_cons_zero, List.set_cons_succ]
      refine takeL (i := 3) (v := .agg #[.int .i64 y.d.pr, .int .i64 y.d.kd, .bool y.d.ba, .int .i64 g.oa, .int .i64 y.d.sp, .int .i64 y.d.da, .int .i64 y.d.dp, .int .i64 y.d.tl, .int .i64 y.d.bi, .int .i64 y.d.sr, .string y.d.op, .string y.d.md, .string y.d.tx, .string y.d.ta, .int .i64 y.ki, .int .i64 y.co, .string y.re, .string y.qu]) rfl (by kernel_rfl) (by kernel_rfl) (by kernel_rfl) (fun _ _ _ h => h) (yields_lt (by rfl) rfl (w9.heap.size) rfl [.int .i64 y.d.pr, .int .i64 y.d.kd, .bool y.d.ba, .int .i64 g.oa, .int .i64 y.d.sp, .int .i64 y.d.da, .int .i64 y.d.dp, .int .i64 y.d.tl, .int .i64 y.d.bi, .int .i64 y.d.sr, .string y.d.op, .string y.d.md, .string y.d.tx, .string y.d.ta, .int .i64 y.ki, .int .i64 y.co, .string y.re, .string y.qu] rfl (fun w' h => ⟨59, show w'.heap[w9.heap.size]? = some (.cells #[.int .i64 y.d.pr, .int .i64 y.d.kd, .bool y.d.ba, .int .i64 g.oa, .int .i64 y.d.sp, .int .i64 y.d.da, .int .i64 y.d.dp, .int .i64 y.d.tl, .int .i64 y.d.bi, .int .i64 y.d.sr, .string y.d.op, .string y.d.md, .string y.d.tx, .string y.d.ta, .int .i64 y.ki, .int .i64 y.co, .string y.re, .string y.qu] 59 (0, 0)) from St.get ((HSX.out w').1 h) 9 rfl⟩)) (by assumption) ?_
      try simp only [Act.put, List.setIfInBounds_toArray, List.set_cons_zero, List.set_cons_succ]
      refine takeL (i := 0) (v := .pointer (some ⟨b, 0, none⟩)) rfl (by kernel_rfl) (by kernel_rfl) (by kernel_rfl) (fun _ _ _ h => h) (yields_mv (by rfl) (.inl rfl) rfl) (by assumption) ?_
      try simp only [Act.put, List.setIfInBounds_toArray, List.set_cons_zero, List.set_cons_succ]
      refine callL (i := 2) (by kernel_rfl) rfl (by rfl) (fun K hK => ?_)
      go_simp
      go_wp2_with (first | (go_at_call 29; refine Calls.mono (j1.at _) ?_; rintro e wx ⟨rfl, hbx⟩; have hkx : Sof SX wx := (HSX.out _).2 (St.next ((HSX.out _).1 ss.out) hbx); have TX : Hid _ := Tb.below TD.out hbx))
      refine hK.out _ _ ?_ (fun hHeld => ?_)
      · exact hkx
      clear hK
      clear K
      try simp only [Act.put, List.setIfInBounds_toArray, List.set_cons_zero, List.set_cons_succ]
      clear hbx TD
      refine callL (i := 4) (by kernel_rfl) rfl (by rfl) (fun K hK => ?_)
      go_simp
      go_wp2_with (first | (go_at_call 29; refine Calls.mono (j2.at _) ?_; rintro e wy ⟨rfl, hby⟩; have hky : Sof SX wy := (HSX.out _).2 (St.next ((HSX.out _).1 hkx) hby); have TY : Hid _ := Tb.below TX.out hby))
      refine hK.out _ _ ?_ (fun hHeld => ?_)
      · exact hky
      clear hK
      clear K
      try simp only [Act.put, List.setIfInBounds_toArray, List.set_cons_zero, List.set_cons_succ]
      clear hby TX
      refine callL (i := 5) (by kernel_rfl) rfl (by rfl) (fun K hK => ?_)
      go_simp
      go_wp2_with (first | (go_at_call 28; refine Calls.mono (cP2.out _ TY.out) ?_; rintro e wz ⟨rfl, hbz⟩; have hkz : Sof SX wz := (HSX.out _).2 (St.next ((HSX.out _).1 hky) hbz); have TZ : Hid _ := Tb.below TY.out hbz))
      refine hK.out _ _ ?_ (fun hHeld => ?_)
      · exact hkz
      clear hK
      clear K
      try simp only [Act.put, List.setIfInBounds_toArray, List.set_cons_zero, List.set_cons_succ]
      clear hbz TY
      refine takeL (i := 6) (v := .bool true) rfl (by kernel_rfl) (by kernel_rfl) (by kernel_rfl) (fun _ _ _ h => h) (yields_mv (by rfl) (.inr rfl) rfl) (by assumption) ?_
      try simp only [Act.put, List.setIfInBounds_toArray, List.set_cons_zero, List.set_cons_succ]
      refine wpAnyH_done (by kernel_rfl) ?_ _
      go_wp2_with fail
      go_meet
      exact ⟨rfl, (HSX.out _).1 hkz, TZ.out⟩
    case rest =>
      obtain ⟨rfl, hst0, htb0⟩ := hcut
      obtain ⟨w11, hw11⟩ : ∃ w11 : World, w11 = wc := ⟨_, rfl⟩
      subst hw11
      have S_w11 : Hid (St [(w.heap.size, (cfl c), 23), (w.heap.size + 1, #[.int .i64 k0, .int .i64 k1, .int .i64 k2, .int .i64 k3, .int .i64 k4, .int .i64 k5, .int .i64 k6, .int .i64 k7, .int .i64 k8, .string m0, .string m1, .string m2], 25), (w.heap.size + 1 + 1, #[.int .i64 k0, .int .i64 l1, .int .i64 l2, .int .i64 l3, .int .i64 l4, .int .i64 l5, .int .i64 l6, .int .i64 l7, .int .i64 l8, .string n0, .string n1, .string n2], 25), (w.heap.size + 1 + 1 + 1, (ntl n), 53), (w1.heap.size, (cfl g), 23), (w2.heap.size, (dgl d), 33), (w5.heap.size, (dgl a), 33), (w6.heap.size, (dgl { a with da := d.sa, dp := d.sp, tl := a.tl - 1 }), 33), (w8.heap.size, (ltl m), 59), (w9.heap.size, #[.int .i64 y.d.pr, .int .i64 y.d.kd, .bool y.d.ba, .int .i64 g.oa, .int .i64 y.d.sp, .int .i64 y.d.da, .int .i64 y.d.dp, .int .i64 y.d.tl, .int .i64 y.d.bi, .int .i64 y.d.sr, .string y.d.op, .string y.d.md, .string y.d.tx, .string y.d.ta, .int .i64 y.ki, .int .i64 y.co, .string y.re, .string y.qu], 59)] w w11) := hst0
      clear S_u10
      clear HT
      have HT : Hid (Bat w11 v2.heap.size b g g.bu 0 v3 [mp]) := htb0
      clear htb0 TD
      clear hst0 HSX ss cP2 j1 j2
      have cL : Hid (∀ wx, Bat wx v2.heap.size b g g.bu 0 v3 [mp] → Calls Tryz.prog 19 #[.pointer (some ⟨b, 0, none⟩)] wx fun e w' => e = .returned (.int .i64 1) ∧ w' = wx) := fun wx h => live_any h (by simp)
      have hm' : Hid (mp.pr = d.pr ∧ mp.ea = d.sa ∧ mp.ep = d.sp ∧ mp.ex = ext ∧ mp.le = g.idle d.pr ∧ mp.kn = 1) := ⟨HM.out.1, HM.out.2.1, HM.out.2.2.1, HM.out.2.2.2.1, HM.out.2.2.2.2.1, HM.out.2.2.2.2.2.1⟩
      have cH : Hid (∀ wx, Bat wx v2.heap.size b g g.bu 0 v3 [mp] → Calls Tryz.prog 30 #[.pointer (some ⟨b, 0, none⟩), .int .i64 0, .agg (dgl d), .int .i64 ext, .int .i64 (g.idle d.pr), .int .i64 1] wx fun e w' => e = .returned (.bool true) ∧ Below wx.heap.size wx w') := fun wx h => holds_yes b 0 (g.idle d.pr) 1 ext d (fun wy hx => Hid.out (holdsM h hm'.out hx))
      unfold dgl at cH
      have cJ := CJ.out d.pr
      clear CJ HM HX HPd HR1
      generalize g.idle d.pr = id at cJ cH hm'
      go_upto_region 16 with fail
      try go_frame
      obtain ⟨SX, hSX⟩ : ∃ SX : World → Prop, ∀ w', Sof SX w' ↔ St [(w.heap.size, (cfl c), 23), (w.heap.size + 1, #[.int .i64 k0, .int .i64 k1, .int .i64 k2, .int .i64 k3, .int .i64 k4, .int .i64 k5, .int .i64 k6, .int .i64 k7, .int .i64 k8, .string m0, .string m1, .string m2], 25), (w.heap.size + 1 + 1, #[.int .i64 k0, .int .i64 l1, .int .i64 l2, .int .i64 l3, .int .i64 l4, .int .i64 l5, .int .i64 l6, .int .i64 l7, .int .i64 l8, .string n0, .string n1, .string n2], 25), (w.heap.size + 1 + 1 + 1, (ntl n), 53), (w1.heap.size, (cfl g), 23), (w2.heap.size, (dgl d), 33), (w5.heap.size, (dgl a), 33), (w6.heap.size, (dgl { a with da := d.sa, dp := d.sp, tl := a.tl - 1 }), 33), (w8.heap.size, (ltl m), 59), (w9.heap.size, #[.int .i64 y.d.pr, .int .i64 y.d.kd, .bool y.d.ba, .int .i64 g.oa, .int .i64 y.d.sp, .int .i64 y.d.da, .int .i64 y.d.dp, .int .i64 y.d.tl, .int .i64 y.d.bi, .int .i64 y.d.sr, .string y.d.op, .string y.d.md, .string y.d.tx, .string y.d.ta, .int .i64 y.ki, .int .i64 y.co, .string y.re, .string y.qu], 59)] w w' := ⟨_, fun _ => Iff.rfl⟩
      have HSX : Hid _ := hSX
      clear hSX
      have ss : Hid (Sof SX w11.drew) := (HSX.out _).2 (St.drew S_w11.out)
      have TD : Hid _ := Tb.drew HT.out
      refine wp_region_held_drew (S := fun w' => Sof SX w') (by kernel_rfl) ss.out (fun hHeld => ?_)
      refine takeL (i := 0) (v := .bool true) rfl (by kernel_rfl) (by kernel_rfl) (by kernel_rfl) (fun _ _ _ h => h) (yields_mv (by rfl) (.inl rfl) rfl) (by assumption) ?_
      try simp only [Act.put, List.setIfInBounds_toArray, List.set_cons_zero, List.set_cons_succ]
      refine takeL (i := 1) (v := .bool true) rfl (by kernel_rfl) (by kernel_rfl) (by kernel_rfl) (fun _ _ _ h => h) (yields_mv (by rfl) (.inl rfl) rfl) (by assumption) ?_
      try simp only [Act.put, List.setIfInBounds_toArray, List.set_cons_zero, List.set_cons_succ]
      refine takeL (i := 2) (v := .pointer (some ⟨b, 0, none⟩)) rfl (by kernel_rfl) (by kernel_rfl) (by kernel_rfl) (fun _ _ _ h => h) (yields_mv (by rfl) (.inl rfl) rfl) (by assumption) ?_
      try simp only [Act.put, List.setIfInBounds_toArray, List.set_cons_zero, List.set_cons_succ]
      refine callL (i := 3) (by kernel_rfl) rfl (by rfl) (fun K hK => ?_)
      go_simp
      go_wp2_with (first | (go_at_call 19; refine Calls.mono (cL.out _ TD.out) ?_; rintro e w' ⟨rfl, hw⟩; replace hw := hw.symm; subst hw))
      refine hK.out _ _ ?_ (fun hHeld => ?_)
      · exact ss.out
      clear hK
      clear K
      try simp only [Act.put, List.setIfInBounds_toArray, List.set_cons_zero, List.set_cons_succ]
      refine takeL (i := 4) (v := .bool true) rfl (by kernel_rfl) (by kernel_rfl) (by kernel_rfl) (fun _ _ _ h => h) (Or.inl ⟨by rfl, fun w' hSw => by first | rfl | go_simp⟩) (by assumption) ?_
      try simp only [Act.put, List.setIfInBounds_toArray, List.set_cons_zero, List.set_cons_succ]
      refine takeL (i := 5) (v := .bool true) rfl (by kernel_rfl) (by kernel_rfl) (by kernel_rfl) (fun _ _ _ h => h) (Or.inl ⟨by rfl, fun w' hSw => by first | rfl | go_simp⟩) (by assumption) ?_
      try simp only [Act.put, List.setIfInBounds_toArray, List.set_cons_zero, List.set_cons_succ]
      refine takeL (i := 6) (v := .bool true) rfl (by kernel_rfl) (by kernel_rfl) (by kernel_rfl) (fun _ _ _ h => h) (yields_mv (by rfl) (.inl rfl) rfl) (by assumption) ?_
      try simp only [Act.put, List.setIfInBounds_toArray, List.set_cons_zero, List.set_cons_succ]
      refine takeL (i := 7) (v := .pointer (some ⟨b, 0, none⟩)) rfl (by kernel_rfl) (by kernel_rfl) (by kernel_rfl) (fun _ _ _ h => h) (yields_mv (by rfl) (.inl rfl) rfl) (by assumption) ?_
      try simp only [Act.put, List.setIfInBounds_toArray, List.set_cons_zero, List.set_cons_succ]
      refine takeL (i := 8) (v := .agg #[.int .i64 d.pr, .int .i64 d.kd, .bool d.ba, .int .i64 d.sa, .int .i64 d.sp, .int .i64 d.da, .int .i64 d.dp, .int .i64 d.tl, .int .i64 d.bi, .int .i64 d.sr, .string d.op, .string d.md, .string d.tx, .string d.ta]) rfl (by kernel_rfl) (by kernel_rfl) (by kernel_rfl) (fun _ _ _ h => h) (yields_dg (by rfl) rfl (w2.heap.size) rfl [.int .i64 d.pr, .int .i64 d.kd, .bool d.ba, .int .i64 d.sa, .int .i64 d.sp, .int .i64 d.da, .int .i64 d.dp, .int .i64 d.tl, .int .i64 d.bi, .int .i64 d.sr, .string d.op, .string d.md, .string d.tx, .string d.ta] rfl (fun w' h => ⟨33, show w'.heap[w2.heap.size]? = some (.cells #[.int .i64 d.pr, .int .i64 d.kd, .bool d.ba, .int .i64 d.sa, .int .i64 d.sp, .int .i64 d.da, .int .i64 d.dp, .int .i64 d.tl, .int .i64 d.bi, .int .i64 d.sr, .string d.op, .string d.md, .string d.tx, .string d.ta] 33 (0, 0)) from St.get ((HSX.out w').1 h) 5 rfl⟩)) (by assumption) ?_
      try simp only [Act.put, List.setIfInBounds_toArray, List.set_cons_zero, List.set_cons_succ]
      refine takeL (i := 9) (v := .int .i64 ext) rfl (by kernel_rfl) (by kernel_rfl) (by kernel_rfl) (fun _ _ _ h => h) (yields_mv (by rfl) (.inl rfl) rfl) (by assumption) ?_
      try simp only [Act.put, List.setIfInBounds_toArray, List.set_cons_zero, List.set_cons_succ]
      refine takeL (i := 10) (v := .agg #[.int .i64 g.ia, .int .i64 g.oa, .int .i64 g.lo, .int .i64 g.hi, .int .i64 g.cp, .int .i64 g.im, .int .i64 g.om, .int .i64 g.iu, .int .i64 g.it, .int .i64 g.iq, .int .i64 g.bu, .int .i64 g.ra]) rfl (by kernel_rfl) (by kernel_rfl) (by kernel_rfl) (fun _ _ _ h => h) (yields_cf (by rfl) rfl (w1.heap.size) rfl [.int .i64 g.ia, .int .i64 g.oa, .int .i64 g.lo, .int .i64 g.hi, .int .i64 g.cp, .int .i64 g.im, .int .i64 g.om, .int .i64 g.iu, .int .i64 g.it, .int .i64 g.iq, .int .i64 g.bu, .int .i64 g.ra] rfl (fun w' h => ⟨23, show w'.heap[w1.heap.size]? = some (.cells #[.int .i64 g.ia, .int .i64 g.oa, .int .i64 g.lo, .int .i64 g.hi, .int .i64 g.cp, .int .i64 g.im, .int .i64 g.om, .int .i64 g.iu, .int .i64 g.it, .int .i64 g.iq, .int .i64 g.bu, .int .i64 g.ra] 23 (0, 0)) from St.get ((HSX.out w').1 h) 4 rfl⟩)) (by assumption) ?_
      try simp only [Act.put, List.setIfInBounds_toArray, List.set_cons_zero, List.set_cons_succ]
      refine takeL (i := 11) (v := .pointer (some ⟨w2.heap.size, 0, none⟩)) rfl (by kernel_rfl) (by kernel_rfl) (by kernel_rfl) (fun _ _ _ h => h) (Or.inl ⟨by rfl, fun w' hSw => by first | rfl | go_simp⟩) (by assumption) ?_
      try simp only [Act.put, List.setIfInBounds_toArray, List.set_cons_zero, List.set_cons_succ]
      refine takeL (i := 12) (v := .int .i64 d.pr) rfl (by kernel_rfl) (by kernel_rfl) (by kernel_rfl) (fun _ _ _ h => h) (yields_in (by rfl) rfl rfl (fun w' h => St.at 5 0 rfl rfl w' ((HSX.out w').1 h))) (by assumption) ?_
      try simp only [Act.put, List.setIfInBounds_toArray, List.set_cons_zero, List.set_cons_succ]
      refine callL (i := 13) (by kernel_rfl) rfl (by rfl) (fun K hK => ?_)
      go_simp
      go_wp2_with (first | (go_at_call 24; refine Calls.mono (cJ.at _) ?_; rintro e wi ⟨rfl, hbi⟩; have hki : Sof SX wi := (HSX.out _).2 (St.next ((HSX.out _).1 ss.out) hbi); have TI : Hid _ := Tb.below TD.out hbi))
      refine hK.out _ _ ?_ (fun hHeld => ?_)
      · exact hki
      clear hK
      clear K
      try simp only [Act.put, List.setIfInBounds_toArray, List.set_cons_zero, List.set_cons_succ]
      refine callL (i := 14) (by kernel_rfl) rfl (by rfl) (fun K hK => ?_)
      go_simp
      go_wp2_with (first | (go_at_call 30; refine Calls.mono (cH.out _ TI.out) ?_; rintro e wj ⟨rfl, hbj⟩; have hkj : Sof SX wj := (HSX.out _).2 (St.next ((HSX.out _).1 hki) hbj)))
      refine hK.out _ _ ?_ (fun hHeld => ?_)
      · exact hkj
      clear hK
      clear K
      try simp only [Act.put, List.setIfInBounds_toArray, List.set_cons_zero, List.set_cons_succ]
      refine takeL (i := 15) (v := .bool true) rfl (by kernel_rfl) (by kernel_rfl) (by kernel_rfl) (fun _ _ _ h => h) (Or.inl ⟨by rfl, fun w' hSw => by first | rfl | go_simp⟩) (by assumption) ?_
      try simp only [Act.put, List.setIfInBounds_toArray, List.set_cons_zero, List.set_cons_succ]
      refine takeL (i := 16) (v := .bool true) rfl (by kernel_rfl) (by kernel_rfl) (by kernel_rfl) (fun _ _ _ h => h) (yields_mv (by rfl) (.inr rfl) rfl) (by assumption) ?_
      try simp only [Act.put, List.setIfInBounds_toArray, List.set_cons_zero, List.set_cons_succ]
      refine wpAnyH_done (by kernel_rfl) ?_ _
      go_wp2
      go_ret
      exact ⟨rfl, ((HSX.out _).1 hkj).below⟩
end Go.Proofs.YthiljpbodmajaabGreat
namespace Go.Proofs.YthiljpbodmajaabGreat
open Go.RowKit Plain
set_option linter.unusedVariables false
theorem new_facts {p a q x pa pp i : Int} {m : Mp} (h : m = (Mp.new p a q x).used pa pp i) (x1 : 1 ≤ x) (x2 : x ≤ 65535) (a0 : 0 ≤ a) (a1 : a < 4294967296) (q0 : 0 ≤ q) (q1 : q < 65536) (i0 : 1 ≤ i) (i1 : i ≤ 100000) :
    m.pr = p ∧ m.ea = a ∧ m.ep = q ∧ m.ex = x ∧ m.le = i ∧ m.kn = 1 ∧ Mok m := by
  have M := new_mok (p := p) (b := pa) (r := pp) x1 x2 a0 a1 q0 q1 i0 i1
  rw [← h] at M
  rw [new_used] at h
  subst h
  exact ⟨rfl, rfl, rfl, rfl, rfl, rfl, M⟩
theorem ktold_any (c : Cf) (W : Cfwf c) (p q : Pk) (Wp : Pkwf p) (Wq : Pkwf q) (n : Nt) (Wn : Ntwf n) (w : World) :
    Calls Tryz.prog 6 #[.agg (cfl c), .agg (pkl p), .agg (pkl q), .agg (ntl n)] w fun e w' => e = .returned (.bool true) ∧ Below w.heap.size w w' := by
  have G := cnf_ok c
  have M := cok_mtu G
  have C := cok_of G
  have hoa := us_bd C.oa
  have Wq' : Pkwf { q with kd := p.kd } := ⟨Wp.kd, Wq.sa, Wq.sp, Wq.da, Wq.dp, Wq.tl, Wq.op, Wq.sr, Wq.md, Wq.tx, Wq.ta⟩
  generalize hg : cnf c = g at *
  have hse := wth_bd n.se 0 255 (by decide)
  have hok : ∀ d a : Dg, Inok a g → Dgok d → Dgok { a with da := d.sa, dp := d.sp, tl := a.tl - 1 } ∧ (kfr { a with da := d.sa, dp := d.sp, tl := a.tl - 1 }).size ≤ 65535 := fun d a I D => by
    have A := I.ok
    have D2 : Dgok { a with da := d.sa, dp := d.sp, tl := a.tl - 1 } := ⟨A.pr, A.s0, A.s1, D.s0, D.s1, A.p0, A.p1, D.p0, D.p1, by show 0 ≤ a.tl - 1; have := I.tl; omega, by show a.tl - 1 < 256; have := A.t1; omega, A.md, A.op, A.o4, A.tx, A.ta⟩
    refine ⟨D2, ?_⟩
    have E : Ends a { a with da := d.sa, dp := d.sp } := ⟨rfl, rfl, rfl, rfl, rfl, rfl, rfl, rfl, rfl, rfl⟩
    have D3 : Dgok { a with da := d.sa, dp := d.sp } := ⟨A.pr, A.s0, A.s1, D.s0, D.s1, A.p0, A.p1, D.p0, D.p1, A.t0, A.t1, A.md, A.op, A.o4, A.tx, A.ta⟩
    have hb : (kbd { a with da := d.sa, dp := d.sp }).size = (kbd a).size := by rw [kbd_eq D3, kbd_eq A]; exact E.kbx D3 A _ _
    have h1 := kfr_size A
    have h2 := I.all
    rw [kfr_size D2]
    show 20 + a.op.size + (kbd { a with da := d.sa, dp := d.sp }).size + a.ta.size ≤ 65535
    rw [hb]; omega
  refine ktold_core c g n (fun d => Outok d g ∧ d.pr = kpr (pk p.kd 5)) (fun d ext a => Inok a g ∧ a.pr = d.pr ∧ a.dp = ext ∧ Dgok d) (fun d ext a m => (Inok a g ∧ a.pr = d.pr ∧ a.dp = ext ∧ Dgok d) ∧ ∃ k, Ntd m { a with da := d.sa, dp := d.sp, tl := a.tl - 1 } n g a.sa g.om k)
    (fun d ext a m => ⟨{ m.d with tl := m.d.tl - 1 }, m.ki, m.co, m.re, rqt { { a with da := d.sa, dp := d.sp, tl := a.tl - 1 } with tl := wth n.se 0 255 } { a with tl := wth n.se 0 255 } (m.qu.size : Int)⟩)
    (fun d ext a m => lfr m) (fun d ext a m => lfr ⟨{ m.d with sa := g.oa, tl := m.d.tl - 1 }, m.ki, m.co, m.re, rqt { { a with da := d.sa, dp := d.sp, tl := a.tl - 1 } with tl := wth n.se 0 255 } { a with tl := wth n.se 0 255 } (m.qu.size : Int)⟩)
    p.kd p.sa p.sp p.da p.dp p.tl p.op p.bi p.sr q.kd q.sa q.sp q.da q.dp q.tl q.op q.bi q.sr p.md p.tx p.ta q.md q.tx q.ta w (by rw [← hg]; exact kconf_any c W)
    (fun wx => (sentc_any p g g.om Wp M.2.2.1 M.2.2.2 wx).mono fun e w' h => ?_) (fun d hd => ?_)
    (fun d ext wx hd e0 e1 => (from_core g (fun a => Sentok a (oth q.sa g.ia g.oa) (oth q.da g.ia g.oa) (wth q.sp 0 65535) (wth q.dp 0 65535) (wth q.tl 2 255) g.im (pk p.kd 5)) ext p.kd q.sa q.sp q.da q.dp q.tl q.op q.bi q.sr q.md q.tx q.ta wx (fun wy => (sentc_any { q with kd := p.kd } g g.im Wq' M.1 M.2.1 wy).mono fun e w' h => ?_)).mono fun e w' h => ?_)
    (fun d ext a h => ?_)
    (fun d ext a wx base b v tk ti m h T h1 h2 h3 h4 => home_frame h.1 T h.2.2.2 (h1.trans h.2.1.symm) h2 h3 (h4.trans h.2.2.1.symm))
    (fun d ext a wx hR => ?_) (fun d ext a m hR => ?_) (fun d ext a m hR => ?_) (fun d ext a m wx base b v tk ti mp hR T m1 m2 m3 m4 m6 => ?_)
  · obtain ⟨⟨d, he, hS⟩, hb⟩ := h
    exact ⟨d, he, ⟨hS.out (wth_bd _ _ _ (by decide)).1, hS.pr⟩, hb⟩
  · obtain ⟨ext, m, hm, hx, hs⟩ := start_m g G d hd.1
    have hi := idle_bd G d.pr
    have D := hd.1.ok
    exact ⟨ext, m, new_facts hm hx.1 hx.2.1 D.s0 D.s1 D.p0 D.p1 hi.1 hi.2, ⟨hx.1, hx.2.1⟩, hs⟩
  · obtain ⟨⟨d, he, hS⟩, hb⟩ := h
    exact ⟨d, he, hS, hb⟩
  · obtain ⟨a, he, hS, hb⟩ := h
    exact ⟨frm a g.oa ext, he, ⟨frm_ok G hS (wth_bd _ _ _ (by decide)).1 e0 e1, hS.pr.trans hd.2.symm, rfl, hd.1.ok⟩, hb⟩
  · obtain ⟨I, hp, hx, D⟩ := h
    have A := I.ok
    obtain ⟨D2, hz⟩ := hok d a I D
    exact ⟨in_any a d.sa d.sp A.t0 (by have := A.t1; omega), kframe_any a A, kframe_any _ D2⟩
  · obtain ⟨I, hp, hx, D⟩ := hR
    obtain ⟨D2, hz⟩ := hok d a I D
    refine (noted_any n Wn g _ D2 hz a.sa g.om I.us M.2.2.1 M.2.2.2 wx).mono fun e w' h => ?_
    obtain ⟨⟨m, k, he, hN⟩, hb⟩ := h
    exact ⟨m, he, ⟨⟨I, hp, hx, D⟩, k, hN⟩, hb⟩
  · obtain ⟨⟨I, hp, hx, D⟩, k, hN⟩ := hR
    obtain ⟨D2, hz⟩ := hok d a I D
    have hk := ntd_k hN
    have := labout_any n Wn D2 I.ok ⟨rfl, rfl, rfl, rfl, rfl, rfl, rfl, rfl, rfl, rfl⟩ hN.nt
    rw [hk] at this
    exact this
  · obtain ⟨⟨I, hp, hx, D⟩, k, hN⟩ := hR
    have L := hN.nt.ok
    have hrz := ntd_rz hN I.ok ⟨rfl, rfl, rfl, rfl, rfl, rfl, rfl, rfl, rfl, rfl⟩
    exact ⟨lframe_any m L.hd (by have := L.all; have := L.re; omega), ntd_frame hN g.oa m.d.da C.oa L.ud _ hrz⟩
  · obtain ⟨⟨I, hp, hx, D⟩, k, hN⟩ := hR
    have L := hN.nt.ok
    have hk := ntd_k hN
    have hoth := oth_ne n.sr g.ia g.oa
    have n1 : ¬ m.d.sa = g.ia := by rw [hN.sa]; exact hoth.1
    have n2 : ¬ m.d.sa = g.oa := by rw [hN.sa]; exact hoth.2
    have n3 : ¬ m.d.da = g.ia := by rw [hN.da]; exact I.n1
    have n4 : ¬ m.d.da = g.oa := by rw [hN.da]; exact I.n2
    obtain ⟨D2, hz⟩ := hok d a I D
    have N := hN.nt
    obtain ⟨e1, e2, e3, e4, e5, e6⟩ := N.exam (g := g) 0 (.inl rfl) n1 n2 n3 (fun h => absurd h (by decide))
    have hf : ([mp] : List Mp)[([mp] : List Mp).findIdx (·.of a.pr d.sa d.sp)]? = some mp := by
      have hh : mp.of a.pr d.sa d.sp = true := by unfold Mp.of; rw [m1, m2, m3, hp]; simp
      simp [List.findIdx_cons, hh]
    have hR := told_R (u := { { a with da := d.sa, dp := d.sp, tl := a.tl - 1 } with tl := wth n.se 0 255 }) (tk := tk) (ms := [mp]) (mp := mp) G (dg_tl D2 _ hse.1 (by omega)) I.kd N n1 n2 n3 n4 hN.da hN.len hf m6.x1 m6.x2
    have ee : ({ { { a with da := d.sa, dp := d.sp, tl := a.tl - 1 } with tl := wth n.se 0 255 } with da := g.oa, dp := mp.ex } : Dg) = { a with tl := wth n.se 0 255 } := by rw [m4, ← hx, ← I.n4]
    have fr := frame_note T G (tok_one (by have := C.c1; omega) m6) 0 (lfr m) (by have := L.len (kcs m.d (lbx m (lck m)).size) (lck m); rw [← lfr_eq] at this; exact Nat.le_trans this (by decide)) e1 e2
    rw [hR, ee, hk] at fr
    simp only [Rp.val] at fr
    exact fr
end Go.Proofs.YthiljpbodmajaabGreat
namespace Go.Proofs.YthiljpbodmajaabGreat.told
open Go.ChangeShapes Go.WideShapes Go.ChangeAt Go.RowKit Plain
set_option linter.unusedVariables false

theorem own : ownKnob Tryz.prog.godebug = none := by kernel_rfl
theorem laidOut : laidOutB Tryz.prog = true := by kernel_rfl

set_option maxRecDepth 100000 in
theorem lifted (os : Os) (started : os.Started) (H : Type) (enc : TypeId × Value → H) :
    ReturnsInHanded {} Tryz.checked os 6 .any (Rows.toldSpec.pre6 enc Tryz.prog Tryz.f6 Rows.toldRow.domain false) (Rows.toldSpec.post enc Tryz.prog Tryz.f6 false true false false) := by
  refine returnsInHanded_of_change (C := Tryz.checked) own started (by kernel_rfl) Tryz.func6
    (ChangeSpec.witness6 (enc := enc) (C := Tryz.checked) false ⟨#[], #[.agg #[.int .i64 0, .int .i64 0, .int .i64 0, .int .i64 0, .int .i64 0, .int .i64 0, .int .i64 0, .int .i64 0, .int .i64 0, .int .i64 0, .int .i64 0, .int .i64 0], .agg #[.int .i64 0, .int .i64 0, .int .i64 0, .int .i64 0, .int .i64 0, .int .i64 0, .int .i64 0, .int .i64 0, .int .i64 0, .string ⟨#[]⟩, .string ⟨#[]⟩, .string ⟨#[]⟩], .agg #[.int .i64 0, .int .i64 0, .int .i64 0, .int .i64 0, .int .i64 0, .int .i64 0, .int .i64 0, .int .i64 0, .int .i64 0, .string ⟨#[]⟩, .string ⟨#[]⟩, .string ⟨#[]⟩], .agg #[.int .i64 0, .int .i64 0, .int .i64 0, .int .i64 0, .int .i64 0, .int .i64 0, .int .i64 0, .int .i64 0, .string ⟨#[]⟩, .string ⟨#[]⟩]], []⟩ 8 (by kernel_rfl) (by kernel_rfl) (by kernel_rfl) (by kernel_rfl)) ?_
  intro W base args ds gs before hval0 hW hcnd _
  have hval : ∀ (j : Nat) t v, Tryz.f6.params[j]? = some t → args[j]? = some v → Value.okWide Tryz.prog W .any base t v := hval0
  have hW' := hW
  obtain ⟨p, q, hA0, hV, rfl, hfz, hnd⟩ := hW
  have hA : DataW.TrodAll enc Tryz.prog W 0 (fun _ => true) true Tryz.f6.params.toList args.toList ds p := hA0
  rw [Tryz.params6] at hA hval
  obtain ⟨v0, vs0, d0, ds0, p0, q0, hargs0, rfl, rfl, h0, r0⟩ := trodAll_cons hA
  obtain ⟨v1, vs1, d1, ds1, p1, q1, hargs1, rfl, rfl, h1, r1⟩ := trodAll_cons r0
  obtain ⟨v2, vs2, d2, ds2, p2, q2, hargs2, rfl, rfl, h2, r2⟩ := trodAll_cons r1
  obtain ⟨v3, vs3, d3, ds3, p3, q3, hargs3, rfl, rfl, h3, r3⟩ := trodAll_cons r2
  obtain ⟨rfl, rfl, rfl⟩ := trodAll_nil r3
  obtain rfl : args = #[v0, v1, v2, v3] := by cases args; simp_all
  obtain ⟨rfl, rfl⟩ := trodVars_none hV
  have k0 := h0
  have lt0 : ∀ x ∈ p0, x.block < W.heap.size := by obtain ⟨m, hm⟩ := k0; exact DataW.trod_lt m _ _ _ hm
  have k1 := h1
  have lt1 : ∀ x ∈ p1, x.block < W.heap.size := by obtain ⟨m, hm⟩ := k1; exact DataW.trod_lt m _ _ _ hm
  have k2 := h2
  have lt2 : ∀ x ∈ p2, x.block < W.heap.size := by obtain ⟨m, hm⟩ := k2; exact DataW.trod_lt m _ _ _ hm
  have k3 := h3
  have lt3 : ∀ x ∈ p3, x.block < W.heap.size := by obtain ⟨m, hm⟩ := k3; exact DataW.trod_lt m _ _ _ hm
  have bd : ∀ {n : Int}, (Lit.int .i64 n).wf = true → -9223372036854775808 ≤ n ∧ n < 9223372036854775808 := fun h => by have := bounds_i64 h; omega
  obtain ⟨cs, rfl, hsz0, hz⟩ := open_struct_ints Tryz.underlying23 Tryz.underlying3 (by kernel_rfl) (by kernel_rfl) (by kernel_rfl) (hval 0 23 v0 rfl rfl) h0
  obtain ⟨c0, c1, c2, c3, c4, c5, c6, c7, c8, c9, c10, c11, rfl⟩ := array12 hsz0
  obtain ⟨a0_0, e0, w0_0⟩ := hz 0 (by decide)
  obtain ⟨a0_1, e1, w0_1⟩ := hz 1 (by decide)
  obtain ⟨a0_2, e2, w0_2⟩ := hz 2 (by decide)
  obtain ⟨a0_3, e3, w0_3⟩ := hz 3 (by decide)
  obtain ⟨a0_4, e4, w0_4⟩ := hz 4 (by decide)
  obtain ⟨a0_5, e5, w0_5⟩ := hz 5 (by decide)
  obtain ⟨a0_6, e6, w0_6⟩ := hz 6 (by decide)
  obtain ⟨a0_7, e7, w0_7⟩ := hz 7 (by decide)
  obtain ⟨a0_8, e8, w0_8⟩ := hz 8 (by decide)
  obtain ⟨a0_9, e9, w0_9⟩ := hz 9 (by decide)
  obtain ⟨a0_10, e10, w0_10⟩ := hz 10 (by decide)
  obtain ⟨a0_11, e11, w0_11⟩ := hz 11 (by decide)
  simp at e0 e1 e2 e3 e4 e5 e6 e7 e8 e9 e10 e11
  subst e0 e1 e2 e3 e4 e5 e6 e7 e8 e9 e10 e11
  have W0 : Cfwf ⟨a0_0, a0_1, a0_2, a0_3, a0_4, a0_5, a0_6, a0_7, a0_8, a0_9, a0_10, a0_11⟩ := ⟨bd w0_0, bd w0_1, bd w0_2, bd w0_3, bd w0_4, bd w0_5, bd w0_6, bd w0_7, bd w0_8, bd w0_9, bd w0_10, bd w0_11⟩
  obtain ⟨cs1, rfl, hsz1, hz1⟩ := open_struct_mixed Tryz.underlying25 (by kernel_rfl) (by kernel_rfl) (hval 1 25 v1 rfl rfl) h1
  obtain ⟨c0, c1, c2, c3, c4, c5, c6, c7, c8, c9, c10, c11, rfl⟩ := array12 hsz1
  obtain ⟨a1_0, e0, w1_0⟩ := (hz1 0 3 rfl (by kernel_rfl)).1 Tryz.underlying3
  obtain ⟨a1_1, e1, w1_1⟩ := (hz1 1 3 rfl (by kernel_rfl)).1 Tryz.underlying3
  obtain ⟨a1_2, e2, w1_2⟩ := (hz1 2 3 rfl (by kernel_rfl)).1 Tryz.underlying3
  obtain ⟨a1_3, e3, w1_3⟩ := (hz1 3 3 rfl (by kernel_rfl)).1 Tryz.underlying3
  obtain ⟨a1_4, e4, w1_4⟩ := (hz1 4 3 rfl (by kernel_rfl)).1 Tryz.underlying3
  obtain ⟨a1_5, e5, w1_5⟩ := (hz1 5 3 rfl (by kernel_rfl)).1 Tryz.underlying3
  obtain ⟨a1_6, e6, w1_6⟩ := (hz1 6 3 rfl (by kernel_rfl)).1 Tryz.underlying3
  obtain ⟨a1_7, e7, w1_7⟩ := (hz1 7 3 rfl (by kernel_rfl)).1 Tryz.underlying3
  obtain ⟨a1_8, e8, w1_8⟩ := (hz1 8 3 rfl (by kernel_rfl)).1 Tryz.underlying3
  obtain ⟨a1_9, e9, w1_9⟩ := (hz1 9 9 rfl (by kernel_rfl)).2 Tryz.underlying9
  obtain ⟨a1_10, e10, w1_10⟩ := (hz1 10 9 rfl (by kernel_rfl)).2 Tryz.underlying9
  obtain ⟨a1_11, e11, w1_11⟩ := (hz1 11 9 rfl (by kernel_rfl)).2 Tryz.underlying9
  simp at e0 e1 e2 e3 e4 e5 e6 e7 e8 e9 e10 e11
  subst e0 e1 e2 e3 e4 e5 e6 e7 e8 e9 e10 e11
  have W1 : Pkwf ⟨a1_0, a1_1, a1_2, a1_3, a1_4, a1_5, a1_6, a1_7, a1_8, a1_9, a1_10, a1_11⟩ := ⟨bd w1_0, bd w1_1, bd w1_2, bd w1_3, bd w1_4, bd w1_5, bd w1_6, bd w1_8, w1_9, w1_10, w1_11⟩
  obtain ⟨cs2, rfl, hsz2, hz2⟩ := open_struct_mixed Tryz.underlying25 (by kernel_rfl) (by kernel_rfl) (hval 2 25 v2 rfl rfl) h2
  obtain ⟨c0, c1, c2, c3, c4, c5, c6, c7, c8, c9, c10, c11, rfl⟩ := array12 hsz2
  obtain ⟨a2_0, e0, w2_0⟩ := (hz2 0 3 rfl (by kernel_rfl)).1 Tryz.underlying3
  obtain ⟨a2_1, e1, w2_1⟩ := (hz2 1 3 rfl (by kernel_rfl)).1 Tryz.underlying3
  obtain ⟨a2_2, e2, w2_2⟩ := (hz2 2 3 rfl (by kernel_rfl)).1 Tryz.underlying3
  obtain ⟨a2_3, e3, w2_3⟩ := (hz2 3 3 rfl (by kernel_rfl)).1 Tryz.underlying3
  obtain ⟨a2_4, e4, w2_4⟩ := (hz2 4 3 rfl (by kernel_rfl)).1 Tryz.underlying3
  obtain ⟨a2_5, e5, w2_5⟩ := (hz2 5 3 rfl (by kernel_rfl)).1 Tryz.underlying3
  obtain ⟨a2_6, e6, w2_6⟩ := (hz2 6 3 rfl (by kernel_rfl)).1 Tryz.underlying3
  obtain ⟨a2_7, e7, w2_7⟩ := (hz2 7 3 rfl (by kernel_rfl)).1 Tryz.underlying3
  obtain ⟨a2_8, e8, w2_8⟩ := (hz2 8 3 rfl (by kernel_rfl)).1 Tryz.underlying3
  obtain ⟨a2_9, e9, w2_9⟩ := (hz2 9 9 rfl (by kernel_rfl)).2 Tryz.underlying9
  obtain ⟨a2_10, e10, w2_10⟩ := (hz2 10 9 rfl (by kernel_rfl)).2 Tryz.underlying9
  obtain ⟨a2_11, e11, w2_11⟩ := (hz2 11 9 rfl (by kernel_rfl)).2 Tryz.underlying9
  simp at e0 e1 e2 e3 e4 e5 e6 e7 e8 e9 e10 e11
  subst e0 e1 e2 e3 e4 e5 e6 e7 e8 e9 e10 e11
  have W2 : Pkwf ⟨a2_0, a2_1, a2_2, a2_3, a2_4, a2_5, a2_6, a2_7, a2_8, a2_9, a2_10, a2_11⟩ := ⟨bd w2_0, bd w2_1, bd w2_2, bd w2_3, bd w2_4, bd w2_5, bd w2_6, bd w2_8, w2_9, w2_10, w2_11⟩
  obtain ⟨cs3, rfl, hsz3, hz3⟩ := open_struct_mixed Tryz.underlying53 (by kernel_rfl) (by kernel_rfl) (hval 3 53 v3 rfl rfl) h3
  obtain ⟨c0, c1, c2, c3, c4, c5, c6, c7, c8, c9, rfl⟩ := array10 hsz3
  obtain ⟨a3_0, e0, w3_0⟩ := (hz3 0 3 rfl (by kernel_rfl)).1 Tryz.underlying3
  obtain ⟨a3_1, e1, w3_1⟩ := (hz3 1 3 rfl (by kernel_rfl)).1 Tryz.underlying3
  obtain ⟨a3_2, e2, w3_2⟩ := (hz3 2 3 rfl (by kernel_rfl)).1 Tryz.underlying3
  obtain ⟨a3_3, e3, w3_3⟩ := (hz3 3 3 rfl (by kernel_rfl)).1 Tryz.underlying3
  obtain ⟨a3_4, e4, w3_4⟩ := (hz3 4 3 rfl (by kernel_rfl)).1 Tryz.underlying3
  obtain ⟨a3_5, e5, w3_5⟩ := (hz3 5 3 rfl (by kernel_rfl)).1 Tryz.underlying3
  obtain ⟨a3_6, e6, w3_6⟩ := (hz3 6 3 rfl (by kernel_rfl)).1 Tryz.underlying3
  obtain ⟨a3_7, e7, w3_7⟩ := (hz3 7 3 rfl (by kernel_rfl)).1 Tryz.underlying3
  obtain ⟨a3_8, e8, w3_8⟩ := (hz3 8 9 rfl (by kernel_rfl)).2 Tryz.underlying9
  obtain ⟨a3_9, e9, w3_9⟩ := (hz3 9 9 rfl (by kernel_rfl)).2 Tryz.underlying9
  simp at e0 e1 e2 e3 e4 e5 e6 e7 e8 e9
  subst e0 e1 e2 e3 e4 e5 e6 e7 e8 e9
  have W3 : Ntwf ⟨a3_0, a3_1, a3_2, a3_3, a3_4, a3_5, a3_6, a3_7, a3_8, a3_9⟩ := ⟨bd w3_0, bd w3_1, bd w3_2, bd w3_3, bd w3_4, bd w3_5, bd w3_6, bd w3_7, w3_8, w3_9⟩
  clear hA0 hval0
  refine (ktold_any _ W0 _ _ W1 W2 _ W3 W).mono fun e W' ⟨he, bel⟩ => ?_
  subst he
  exact ⟨_, rfl, _, _, _, [], _, [], hW', trodAll_mk1 (shut_bool Tryz.underlying4 _), (trodAll_cons_mk (Below.trod laidOut (by kernel_rfl) (of_decide_eq_true (by kernel_rfl)) k0 bel lt0) (trodAll_cons_mk (Below.trod laidOut (by kernel_rfl) (of_decide_eq_true (by kernel_rfl)) k1 bel lt1) (trodAll_cons_mk (Below.trod laidOut (by kernel_rfl) (of_decide_eq_true (by kernel_rfl)) k2 bel lt2) (trodAll_cons_mk (Below.trod laidOut (by kernel_rfl) (of_decide_eq_true (by kernel_rfl)) k3 bel lt3) trodAll_mk0)))), rfl, bel.frame _, fun h => by cases h⟩

theorem over : Rows.toldRow.holds Tryz.pinned (OpenSpec.ofChange Rows.toldSpec) :=
  OpenClaim.holds_of_wide 6 Tryz.f6 rfl rfl rfl rfl rfl rfl rfl ⟨rfl, rfl, rfl, rfl, rfl⟩ rfl rfl rfl rfl rfl (by kernel_rfl) Tryz.func6 (by kernel_rfl)
    (of_decide_eq_true (by kernel_rfl)) (by unfold Func.isWrapper; first | (rw [if_pos (by decide +kernel)]; kernel_rfl) | (rw [if_neg (by decide +kernel)]; exact ⟨rfl, rfl⟩))
    (fun os started H enc _ => lifted os started H enc)

theorem proved : Rows.ToldSaid := over
#print axioms proved
end Go.Proofs.YthiljpbodmajaabGreat.told
