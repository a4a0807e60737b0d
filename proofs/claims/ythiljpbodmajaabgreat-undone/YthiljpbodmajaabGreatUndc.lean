/-
  CONTRACTS: natboxkeep.Undone.
-/
import Derived.Test.YthiljpbodmajaabGreatNotb
import Derived.Test.YthiljpbodmajaabGreatKepv
import Derived.Test.YthiljpbodmajaabGreatKepg
import Derived.Deep.DeepCutAuto
import Derived.Deep.RegionHeld
namespace Go.Proofs.YthiljpbodmajaabGreat
open Go.RowKit Plain
set_option linter.unusedVariables false

set_option maxHeartbeats 16000000 in
set_option maxRecDepth 2000 in
theorem undone_core (c g : Cf) (n : Nt) (P : Dg → Prop) (R : Dg → Int → Lt → Prop) (ab : Dg → Int → Lt → Lt) (X Y : Dg → Int → Lt → ByteArray) (k0 k1 k2 k3 k4 k5 k6 k7 k8 tt : Int) (m0 m1 m2 : ByteArray) (w : World) (cC : RetB 10 #[.agg (cfl c)] (.agg (cfl g)))
    (cS : ∀ wx, Calls Tryz.prog 12 #[.agg #[.int .i64 k0, .int .i64 k1, .int .i64 k2, .int .i64 k3, .int .i64 k4, .int .i64 k5, .int .i64 k6, .int .i64 k7, .int .i64 k8, .string m0, .string m1, .string m2], .agg (cfl g), .int .i64 g.om] wx fun e w' => ∃ d, e = .returned (.agg (dgl d)) ∧ P d ∧ Below wx.heap.size wx w')
    (cT : ∀ d, P d → ∃ ext m, (m.pr = d.pr ∧ m.ea = d.sa ∧ m.ep = d.sp ∧ m.ex = ext ∧ m.le = g.idle d.pr ∧ m.kn = 1 ∧ m.knows d.da (if d.pr = 1 then 0 else d.dp) = true ∧ Mok m) ∧ (1 ≤ ext ∧ ext ≤ 65535) ∧ ∀ wx, Calls Tryz.prog 23 #[.agg (cfl g), .agg (dgl d)] wx fun e w' => ∃ b v', e = .returned (.tuple #[.pointer (some ⟨b, 0, none⟩), .int .i64 ext]) ∧ Bat w' wx.heap.size b g g.bu 0 v' [m] ∧ Below wx.heap.size wx w' ∧ wx.heap.size ≤ b)
    (hid : ∀ p, 1 ≤ g.idle p ∧ g.idle p ≤ 100000)
    (cW : ∀ id, 1 ≤ id → id ≤ 100000 → ∃ n, (0 ≤ n ∧ n ≤ id - 1) ∧ Ret 16 #[.int .i64 tt, .int .i64 0, .int .i64 (id - 1)] (.int .i64 n))
    (cK : ∀ wx base b v m n, Bat wx base b g g.bu 0 v [m] → 0 ≤ n → n < m.le → m.le ≤ 100000 → Calls Tryz.prog 17 #[.pointer (some ⟨b, 0, none⟩), .int .i64 n] wx fun e w' => e = .returned (.int .i64 0) ∧ ∃ v' tk, BL wx w' base b g v v' tk n [{ m with le := m.le - n }])
    (cO : ∀ d ext, P d → 1 ≤ ext → ext ≤ 65535 → RetB 25 #[.agg (dgl d), .agg (cfl g), .int .i64 ext] (.agg (dgl { d with sa := g.oa, sp := ext, tl := d.tl - 1 })))
    (cN : ∀ d ext wx, P d → 1 ≤ ext → ext ≤ 65535 → Calls Tryz.prog 26 #[.agg (ntl n), .agg (cfl g), .int .i64 g.oa, .agg (dgl { d with sa := g.oa, sp := ext, tl := d.tl - 1 }), .int .i64 g.im] wx fun e w' => ∃ m, e = .returned (.agg (ltl m)) ∧ R d ext m ∧ Below wx.heap.size wx w')
    (cA : ∀ d ext m, R d ext m → RetB 27 #[.agg (ltl m), .agg (ntl n), .agg (dgl { d with sa := g.oa, sp := ext, tl := d.tl - 1 }), .agg (dgl d)] (.agg (ltl (ab d ext m))))
    (cF : ∀ d ext m, R d ext m → RetB 29 #[.agg (ltl m)] (.string (X d ext m)) ∧ RetB 29 #[.agg #[.int .i64 (ab d ext m).d.pr, .int .i64 (ab d ext m).d.kd, .bool (ab d ext m).d.ba, .int .i64 (ab d ext m).d.sa, .int .i64 (ab d ext m).d.sp, .int .i64 d.sa, .int .i64 (ab d ext m).d.dp, .int .i64 (ab d ext m).d.tl, .int .i64 (ab d ext m).d.bi, .int .i64 (ab d ext m).d.sr, .string (ab d ext m).d.op, .string (ab d ext m).d.md, .string (ab d ext m).d.tx, .string (ab d ext m).d.ta, .int .i64 (ab d ext m).ki, .int .i64 (ab d ext m).co, .string (ab d ext m).re, .string (ab d ext m).qu]] (.string (Y d ext m)))
    (cX : ∀ d ext m wx base b v tk ti mp, P d → R d ext m → Bat wx base b g tk ti v [mp] → mp.pr = d.pr → mp.ea = d.sa → mp.ep = d.sp → mp.ex = ext → mp.knows d.da (if d.pr = 1 then 0 else d.dp) = true → Mok mp → Calls Tryz.prog 18 #[.pointer (some ⟨b, 0, none⟩), .int .i64 1, .string (X d ext m)] wx fun e w' => e = .returned (rpv 0 0 (Y d ext m)) ∧ Below wx.heap.size wx w') :
    Calls Tryz.prog 5 #[.agg (cfl c), .agg #[.int .i64 k0, .int .i64 k1, .int .i64 k2, .int .i64 k3, .int .i64 k4, .int .i64 k5, .int .i64 k6, .int .i64 k7, .int .i64 k8, .string m0, .string m1, .string m2], .agg (ntl n), .int .i64 tt] w fun e w' => e = .returned (.bool true) ∧ Below w.heap.size w w' := by
  have CT : Hid _ := cT
  have CW : Hid _ := cW
  have CK : Hid _ := cK
  have CX : Hid _ := cX
  have HI : Hid _ := hid
  have CO : Hid _ := cO
  have cJ : ∀ p, RetB 24 #[.agg (cfl g), .int .i64 p] (.int .i64 (g.idle p)) := fun p w => kidle_any g p w
  have CJ : Hid _ := cJ
  unfold ltl ntl dgl cfl at cN
  unfold ltl ntl dgl at cA
  unfold ltl at cF
  have CN : Hid _ := cN
  have CA : Hid _ := cA
  have CF : Hid _ := cF
  clear cT cW cK cX hid cJ cN cA cF cO
  unfold cfl at cC cS ⊢
  unfold dgl at cS
  unfold ntl
  have CS : Hid _ := cS
  clear cS
  go_enter Tryz.func5, Tryz.ntmps5
  go_upto_region 1 with fail
  have S_v0 : Hid (St [(w.heap.size, (cfl c), 23), (w.heap.size + 1, #[.int .i64 k0, .int .i64 k1, .int .i64 k2, .int .i64 k3, .int .i64 k4, .int .i64 k5, .int .i64 k6, .int .i64 k7, .int .i64 k8, .string m0, .string m1, .string m2], 25), (w.heap.size + 1 + 1, (ntl n), 53)] w (((w.alloc (.cells #[.int .i64 c.ia, .int .i64 c.oa, .int .i64 c.lo, .int .i64 c.hi, .int .i64 c.cp, .int .i64 c.im, .int .i64 c.om, .int .i64 c.iu, .int .i64 c.it, .int .i64 c.iq, .int .i64 c.bu, .int .i64 c.ra] 23)).alloc (.cells #[.int .i64 k0, .int .i64 k1, .int .i64 k2, .int .i64 k3, .int .i64 k4, .int .i64 k5, .int .i64 k6, .int .i64 k7, .int .i64 k8, .string m0, .string m1, .string m2] 25)).alloc (.cells #[.int .i64 n.sr, .int .i64 n.ty, .int .i64 n.co, .int .i64 n.le, .int .i64 n.se, .int .i64 n.tl, .int .i64 n.op, .int .i64 n.bi, .string n.re, .string n.ta] 53))) := St.alloc (St.alloc (St.alloc (St.start w) (cfl c) 23 (w.heap.size) rfl) #[.int .i64 k0, .int .i64 k1, .int .i64 k2, .int .i64 k3, .int .i64 k4, .int .i64 k5, .int .i64 k6, .int .i64 k7, .int .i64 k8, .string m0, .string m1, .string m2] 25 (w.heap.size + 1) (by simp)) (ntl n) 53 (w.heap.size + 1 + 1) (by simp)
  generalize (((w.alloc (.cells #[.int .i64 c.ia, .int .i64 c.oa, .int .i64 c.lo, .int .i64 c.hi, .int .i64 c.cp, .int .i64 c.im, .int .i64 c.om, .int .i64 c.iu, .int .i64 c.it, .int .i64 c.iq, .int .i64 c.bu, .int .i64 c.ra] 23)).alloc (.cells #[.int .i64 k0, .int .i64 k1, .int .i64 k2, .int .i64 k3, .int .i64 k4, .int .i64 k5, .int .i64 k6, .int .i64 k7, .int .i64 k8, .string m0, .string m1, .string m2] 25)).alloc (.cells #[.int .i64 n.sr, .int .i64 n.ty, .int .i64 n.co, .int .i64 n.le, .int .i64 n.se, .int .i64 n.tl, .int .i64 n.op, .int .i64 n.bi, .string n.re, .string n.ta] 53)) = v0 at S_v0 ⊢
  generalize (Value.agg #[.int .i64 c.ia, .int .i64 c.oa, .int .i64 c.lo, .int .i64 c.hi, .int .i64 c.cp, .int .i64 c.im, .int .i64 c.om, .int .i64 c.iu, .int .i64 c.it, .int .i64 c.iq, .int .i64 c.bu, .int .i64 c.ra]) = B1
  generalize (Value.agg #[.int .i64 k0, .int .i64 k1, .int .i64 k2, .int .i64 k3, .int .i64 k4, .int .i64 k5, .int .i64 k6, .int .i64 k7, .int .i64 k8, .string m0, .string m1, .string m2]) = B2
  generalize (Value.agg #[.int .i64 n.sr, .int .i64 n.ty, .int .i64 n.co, .int .i64 n.le, .int .i64 n.se, .int .i64 n.tl, .int .i64 n.op, .int .i64 n.bi, .string n.re, .string n.ta]) = B3
  go_wp2_with (first | (refine pull_cf [.int .i64 c.ia, .int .i64 c.oa, .int .i64 c.lo, .int .i64 c.hi, .int .i64 c.cp, .int .i64 c.im, .int .i64 c.om, .int .i64 c.iu, .int .i64 c.it, .int .i64 c.iq, .int .i64 c.bu, .int .i64 c.ra] rfl (w.heap.size) (St.get S_v0.out 0 rfl) rfl rfl rfl ?_))
  refine Calls.mono (cC.at _) ?_; rintro e w1 ⟨rfl, hb1⟩
  have S_w1 : Hid (St [(w.heap.size, (cfl c), 23), (w.heap.size + 1, #[.int .i64 k0, .int .i64 k1, .int .i64 k2, .int .i64 k3, .int .i64 k4, .int .i64 k5, .int .i64 k6, .int .i64 k7, .int .i64 k8, .string m0, .string m1, .string m2], 25), (w.heap.size + 1 + 1, (ntl n), 53)] w w1) := St.next S_v0.out hb1
  generalize (Value.agg #[.int .i64 c.ia, .int .i64 c.oa, .int .i64 c.lo, .int .i64 c.hi, .int .i64 c.cp, .int .i64 c.im, .int .i64 c.om, .int .i64 c.iu, .int .i64 c.it, .int .i64 c.iq, .int .i64 c.bu, .int .i64 c.ra]) = B4
  clear S_v0
  rename_i KK hKK
  refine hKK _ _ ?_
  refine keep_cf [.int .i64 g.ia, .int .i64 g.oa, .int .i64 g.lo, .int .i64 g.hi, .int .i64 g.cp, .int .i64 g.im, .int .i64 g.om, .int .i64 g.iu, .int .i64 g.it, .int .i64 g.iq, .int .i64 g.bu, .int .i64 g.ra] rfl rfl rfl rfl rfl (by simp [Value.oneCell']) (by simp [Act.eval, Act.put]) (by simp [Act.eval, Act.put]) ?_
  clear hKK
  clear KK
  have S_v1 : Hid (St [(w.heap.size, (cfl c), 23), (w.heap.size + 1, #[.int .i64 k0, .int .i64 k1, .int .i64 k2, .int .i64 k3, .int .i64 k4, .int .i64 k5, .int .i64 k6, .int .i64 k7, .int .i64 k8, .string m0, .string m1, .string m2], 25), (w.heap.size + 1 + 1, (ntl n), 53), (w1.heap.size, (cfl g), 23)] w (w1.alloc (.cells #[.int .i64 g.ia, .int .i64 g.oa, .int .i64 g.lo, .int .i64 g.hi, .int .i64 g.cp, .int .i64 g.im, .int .i64 g.om, .int .i64 g.iu, .int .i64 g.it, .int .i64 g.iq, .int .i64 g.bu, .int .i64 g.ra] 23))) := St.alloc S_w1.out (cfl g) 23 (w1.heap.size) rfl
  have hs_v1 : w1.heap.size < (w1.alloc (.cells #[.int .i64 g.ia, .int .i64 g.oa, .int .i64 g.lo, .int .i64 g.hi, .int .i64 g.cp, .int .i64 g.im, .int .i64 g.om, .int .i64 g.iu, .int .i64 g.it, .int .i64 g.iq, .int .i64 g.bu, .int .i64 g.ra] 23)).heap.size := by simp
  generalize w1.alloc (.cells #[.int .i64 g.ia, .int .i64 g.oa, .int .i64 g.lo, .int .i64 g.hi, .int .i64 g.cp, .int .i64 g.im, .int .i64 g.om, .int .i64 g.iu, .int .i64 g.it, .int .i64 g.iq, .int .i64 g.bu, .int .i64 g.ra] 23) = v1 at S_v1 hs_v1  ⊢
  clear S_w1
  clear hb1 cC
  have q_g6 : v1.cell? ⟨w1.heap.size, 6, none⟩ = some (.int .i64 g.om) := St.at 3 6 rfl rfl _ S_v1.out
  go_wp2_with (first | (refine pull_pk [.int .i64 k0, .int .i64 k1, .int .i64 k2, .int .i64 k3, .int .i64 k4, .int .i64 k5, .int .i64 k6, .int .i64 k7, .int .i64 k8, .string m0, .string m1, .string m2] rfl (w.heap.size + 1) (St.get S_v1.out 1 rfl) rfl rfl rfl ?_) | (refine pull_cf [.int .i64 g.ia, .int .i64 g.oa, .int .i64 g.lo, .int .i64 g.hi, .int .i64 g.cp, .int .i64 g.im, .int .i64 g.om, .int .i64 g.iu, .int .i64 g.it, .int .i64 g.iq, .int .i64 g.bu, .int .i64 g.ra] rfl (w1.heap.size) (St.get S_v1.out 3 rfl) rfl rfl rfl ?_))
  refine Calls.mono (CS.out _) ?_; rintro e w2 ⟨d, rfl, hP, hb2⟩
  have S_w2 : Hid (St [(w.heap.size, (cfl c), 23), (w.heap.size + 1, #[.int .i64 k0, .int .i64 k1, .int .i64 k2, .int .i64 k3, .int .i64 k4, .int .i64 k5, .int .i64 k6, .int .i64 k7, .int .i64 k8, .string m0, .string m1, .string m2], 25), (w.heap.size + 1 + 1, (ntl n), 53), (w1.heap.size, (cfl g), 23)] w w2) := St.next S_v1.out hb2
  clear q_g6
  generalize (Value.agg #[.int .i64 k0, .int .i64 k1, .int .i64 k2, .int .i64 k3, .int .i64 k4, .int .i64 k5, .int .i64 k6, .int .i64 k7, .int .i64 k8, .string m0, .string m1, .string m2]) = B5
  generalize (Value.agg #[.int .i64 g.ia, .int .i64 g.oa, .int .i64 g.lo, .int .i64 g.hi, .int .i64 g.cp, .int .i64 g.im, .int .i64 g.om, .int .i64 g.iu, .int .i64 g.it, .int .i64 g.iq, .int .i64 g.bu, .int .i64 g.ra]) = B6
  clear S_v1
  rename_i KK hKK
  refine hKK _ _ ?_
  refine keep_dg [.int .i64 d.pr, .int .i64 d.kd, .bool d.ba, .int .i64 d.sa, .int .i64 d.sp, .int .i64 d.da, .int .i64 d.dp, .int .i64 d.tl, .int .i64 d.bi, .int .i64 d.sr, .string d.op, .string d.md, .string d.tx, .string d.ta] rfl rfl rfl rfl rfl (by simp [Value.oneCell']) (by simp [Act.eval, Act.put]) (by simp [Act.eval, Act.put]) ?_
  clear hKK
  clear KK
  have S_v2 : Hid (St [(w.heap.size, (cfl c), 23), (w.heap.size + 1, #[.int .i64 k0, .int .i64 k1, .int .i64 k2, .int .i64 k3, .int .i64 k4, .int .i64 k5, .int .i64 k6, .int .i64 k7, .int .i64 k8, .string m0, .string m1, .string m2], 25), (w.heap.size + 1 + 1, (ntl n), 53), (w1.heap.size, (cfl g), 23), (w2.heap.size, (dgl d), 33)] w (w2.alloc (.cells #[.int .i64 d.pr, .int .i64 d.kd, .bool d.ba, .int .i64 d.sa, .int .i64 d.sp, .int .i64 d.da, .int .i64 d.dp, .int .i64 d.tl, .int .i64 d.bi, .int .i64 d.sr, .string d.op, .string d.md, .string d.tx, .string d.ta] 33))) := St.alloc S_w2.out (dgl d) 33 (w2.heap.size) rfl
  have hs_v2 : w2.heap.size < (w2.alloc (.cells #[.int .i64 d.pr, .int .i64 d.kd, .bool d.ba, .int .i64 d.sa, .int .i64 d.sp, .int .i64 d.da, .int .i64 d.dp, .int .i64 d.tl, .int .i64 d.bi, .int .i64 d.sr, .string d.op, .string d.md, .string d.tx, .string d.ta] 33)).heap.size := by simp
  generalize w2.alloc (.cells #[.int .i64 d.pr, .int .i64 d.kd, .bool d.ba, .int .i64 d.sa, .int .i64 d.sp, .int .i64 d.da, .int .i64 d.dp, .int .i64 d.tl, .int .i64 d.bi, .int .i64 d.sr, .string d.op, .string d.md, .string d.tx, .string d.ta] 33) = v2 at S_v2 hs_v2  ⊢
  clear S_w2
  clear hb2 CS
  obtain ⟨ext, mp, hm, hext, cT⟩ := CT.out d hP
  have cJ := CJ.out d.pr
  have hid := HI.out d.pr
  have cO := CO.out d ext hP hext.1 hext.2
  have HPd : Hid _ := hP
  have HM : Hid _ := hm
  have HX : Hid _ := hext
  have CT1 : Hid _ := cT
  have SV2 : Hid _ := S_v2.out
  clear CT cT hm hP CJ HI hext CO
  generalize g.idle d.pr = id at cJ HM hid
  obtain ⟨tn, hn, cW⟩ := CW.out id hid.1 hid.2
  clear CW
  unfold cfl at cJ cO
  unfold dgl at cO
  go_wp2_with (first | (refine pull_cf [.int .i64 g.ia, .int .i64 g.oa, .int .i64 g.lo, .int .i64 g.hi, .int .i64 g.cp, .int .i64 g.im, .int .i64 g.om, .int .i64 g.iu, .int .i64 g.it, .int .i64 g.iq, .int .i64 g.bu, .int .i64 g.ra] rfl (w1.heap.size) (St.get S_v2.out 3 rfl) rfl rfl rfl ?_) | (refine pull_dg [.int .i64 d.pr, .int .i64 d.kd, .bool d.ba, .int .i64 d.sa, .int .i64 d.sp, .int .i64 d.da, .int .i64 d.dp, .int .i64 d.tl, .int .i64 d.bi, .int .i64 d.sr, .string d.op, .string d.md, .string d.tx, .string d.ta] rfl (w2.heap.size) (St.get S_v2.out 4 rfl) rfl rfl rfl ?_))
  refine Calls.mono (CT1.out _) ?_; rintro e w3 ⟨b, v3, rfl, hT, hb3, hbb⟩
  have S_w3 : Hid (St [(w.heap.size, (cfl c), 23), (w.heap.size + 1, #[.int .i64 k0, .int .i64 k1, .int .i64 k2, .int .i64 k3, .int .i64 k4, .int .i64 k5, .int .i64 k6, .int .i64 k7, .int .i64 k8, .string m0, .string m1, .string m2], 25), (w.heap.size + 1 + 1, (ntl n), 53), (w1.heap.size, (cfl g), 23), (w2.heap.size, (dgl d), 33)] w w3) := St.next S_v2.out hb3
  generalize (Value.agg #[.int .i64 g.ia, .int .i64 g.oa, .int .i64 g.lo, .int .i64 g.hi, .int .i64 g.cp, .int .i64 g.im, .int .i64 g.om, .int .i64 g.iu, .int .i64 g.it, .int .i64 g.iq, .int .i64 g.bu, .int .i64 g.ra]) = B7
  generalize (Value.agg #[.int .i64 d.pr, .int .i64 d.kd, .bool d.ba, .int .i64 d.sa, .int .i64 d.sp, .int .i64 d.da, .int .i64 d.dp, .int .i64 d.tl, .int .i64 d.bi, .int .i64 d.sr, .string d.op, .string d.md, .string d.tx, .string d.ta]) = B8
  clear S_v2
  have HT : Hid _ := hT
  have hbs : v2.heap.size ≤ b := hbb
  have hz3 : w.heap.size + 1 + 1 < v2.heap.size ∧ w1.heap.size < v2.heap.size ∧ w2.heap.size < v2.heap.size := ⟨St.lt SV2.out (x := (w.heap.size + 1 + 1, (ntl n), 53)) (by simp), St.lt SV2.out (x := (w1.heap.size, (cfl g), 23)) (by simp), hs_v2⟩
  clear hb3 hT hbb CT1 SV2
  have q_d0 : w3.cell? ⟨w2.heap.size, 0, none⟩ = some (.int .i64 d.pr) := St.at 4 0 rfl rfl _ S_w3.out
  go_wp2_with (first | (refine pull_cf [.int .i64 g.ia, .int .i64 g.oa, .int .i64 g.lo, .int .i64 g.hi, .int .i64 g.cp, .int .i64 g.im, .int .i64 g.om, .int .i64 g.iu, .int .i64 g.it, .int .i64 g.iq, .int .i64 g.bu, .int .i64 g.ra] rfl (w1.heap.size) (St.get S_w3.out 3 rfl) rfl rfl rfl ?_))
  refine Calls.mono (cJ.at _) ?_; rintro e w4 ⟨rfl, hb4⟩
  have S_w4 : Hid (St [(w.heap.size, (cfl c), 23), (w.heap.size + 1, #[.int .i64 k0, .int .i64 k1, .int .i64 k2, .int .i64 k3, .int .i64 k4, .int .i64 k5, .int .i64 k6, .int .i64 k7, .int .i64 k8, .string m0, .string m1, .string m2], 25), (w.heap.size + 1 + 1, (ntl n), 53), (w1.heap.size, (cfl g), 23), (w2.heap.size, (dgl d), 33)] w w4) := St.next S_w3.out hb4
  have HT_w4 : Hid _ := Tb.below HT.out hb4
  clear HT
  have HT : Hid _ := HT_w4.out
  clear HT_w4
  clear q_d0
  generalize (Value.agg #[.int .i64 g.ia, .int .i64 g.oa, .int .i64 g.lo, .int .i64 g.hi, .int .i64 g.cp, .int .i64 g.im, .int .i64 g.om, .int .i64 g.iu, .int .i64 g.it, .int .i64 g.iq, .int .i64 g.bu, .int .i64 g.ra]) = B9
  clear S_w3
  clear hb4
  go_wp2_with fail
  refine Calls.mono (cW.at _) ?_; rintro e w' ⟨rfl, hw⟩; replace hw := hw.symm; subst hw
  have hmle : mp.le = id := HM.out.2.2.2.2.1
  go_wp2_with fail
  refine Calls.mono (CK.out _ _ b _ mp tn HT.out hn.1 (by omega) (by omega)) ?_; rintro e w5 ⟨rfl, v5, tk5, hBL⟩
  have S_w5 : Hid (St [(w.heap.size, (cfl c), 23), (w.heap.size + 1, #[.int .i64 k0, .int .i64 k1, .int .i64 k2, .int .i64 k3, .int .i64 k4, .int .i64 k5, .int .i64 k6, .int .i64 k7, .int .i64 k8, .string m0, .string m1, .string m2], 25), (w.heap.size + 1 + 1, (ntl n), 53), (w1.heap.size, (cfl g), 23), (w2.heap.size, (dgl d), 33)] w w5) := St.bl S_w4.out HT.out hbs hBL (by omega) (hi := max (b + 1) w4.heap.size) (by omega) (fun o e => by have := (HT.out.row.lt o e).2; omega) (by simp; omega)
  clear S_w4 HT
  have HT : Hid _ := hBL.bat
  clear hBL CK cW
  go_wp2_with (first | (refine pull_dg [.int .i64 d.pr, .int .i64 d.kd, .bool d.ba, .int .i64 d.sa, .int .i64 d.sp, .int .i64 d.da, .int .i64 d.dp, .int .i64 d.tl, .int .i64 d.bi, .int .i64 d.sr, .string d.op, .string d.md, .string d.tx, .string d.ta] rfl (w2.heap.size) (St.get S_w5.out 4 rfl) rfl rfl rfl ?_) | (refine pull_cf [.int .i64 g.ia, .int .i64 g.oa, .int .i64 g.lo, .int .i64 g.hi, .int .i64 g.cp, .int .i64 g.im, .int .i64 g.om, .int .i64 g.iu, .int .i64 g.it, .int .i64 g.iq, .int .i64 g.bu, .int .i64 g.ra] rfl (w1.heap.size) (St.get S_w5.out 3 rfl) rfl rfl rfl ?_))
  refine Calls.mono (cO.at _) ?_; rintro e w6 ⟨rfl, hb6⟩
  have S_w6 : Hid (St [(w.heap.size, (cfl c), 23), (w.heap.size + 1, #[.int .i64 k0, .int .i64 k1, .int .i64 k2, .int .i64 k3, .int .i64 k4, .int .i64 k5, .int .i64 k6, .int .i64 k7, .int .i64 k8, .string m0, .string m1, .string m2], 25), (w.heap.size + 1 + 1, (ntl n), 53), (w1.heap.size, (cfl g), 23), (w2.heap.size, (dgl d), 33)] w w6) := St.next S_w5.out hb6
  have HT_w6 : Hid _ := Tb.below HT.out hb6
  clear HT
  have HT : Hid _ := HT_w6.out
  clear HT_w6
  generalize (Value.agg #[.int .i64 d.pr, .int .i64 d.kd, .bool d.ba, .int .i64 d.sa, .int .i64 d.sp, .int .i64 d.da, .int .i64 d.dp, .int .i64 d.tl, .int .i64 d.bi, .int .i64 d.sr, .string d.op, .string d.md, .string d.tx, .string d.ta]) = B10
  generalize (Value.agg #[.int .i64 g.ia, .int .i64 g.oa, .int .i64 g.lo, .int .i64 g.hi, .int .i64 g.cp, .int .i64 g.im, .int .i64 g.om, .int .i64 g.iu, .int .i64 g.it, .int .i64 g.iq, .int .i64 g.bu, .int .i64 g.ra]) = B11
  clear S_w5
  rename_i KK hKK
  refine hKK _ _ ?_
  refine keep_dg [.int .i64 d.pr, .int .i64 d.kd, .bool d.ba, .int .i64 g.oa, .int .i64 ext, .int .i64 d.da, .int .i64 d.dp, .int .i64 (d.tl - 1), .int .i64 d.bi, .int .i64 d.sr, .string d.op, .string d.md, .string d.tx, .string d.ta] rfl rfl rfl rfl rfl (by simp [Value.oneCell']) (by simp [Act.eval, Act.put]) (by simp [Act.eval, Act.put]) ?_
  clear hKK
  clear KK
  have S_v6 : Hid (St [(w.heap.size, (cfl c), 23), (w.heap.size + 1, #[.int .i64 k0, .int .i64 k1, .int .i64 k2, .int .i64 k3, .int .i64 k4, .int .i64 k5, .int .i64 k6, .int .i64 k7, .int .i64 k8, .string m0, .string m1, .string m2], 25), (w.heap.size + 1 + 1, (ntl n), 53), (w1.heap.size, (cfl g), 23), (w2.heap.size, (dgl d), 33), (w6.heap.size, (dgl { d with sa := g.oa, sp := ext, tl := d.tl - 1 }), 33)] w (w6.alloc (.cells #[.int .i64 d.pr, .int .i64 d.kd, .bool d.ba, .int .i64 g.oa, .int .i64 ext, .int .i64 d.da, .int .i64 d.dp, .int .i64 (d.tl - 1), .int .i64 d.bi, .int .i64 d.sr, .string d.op, .string d.md, .string d.tx, .string d.ta] 33))) := St.alloc S_w6.out (dgl { d with sa := g.oa, sp := ext, tl := d.tl - 1 }) 33 (w6.heap.size) rfl
  have HT_v6 : Hid _ := Tb.below HT.out ((Below.refl _ _).alloc (Nat.le_refl _) (.cells #[.int .i64 d.pr, .int .i64 d.kd, .bool d.ba, .int .i64 g.oa, .int .i64 ext, .int .i64 d.da, .int .i64 d.dp, .int .i64 (d.tl - 1), .int .i64 d.bi, .int .i64 d.sr, .string d.op, .string d.md, .string d.tx, .string d.ta] 33))
  have hs_v6 : w6.heap.size < (w6.alloc (.cells #[.int .i64 d.pr, .int .i64 d.kd, .bool d.ba, .int .i64 g.oa, .int .i64 ext, .int .i64 d.da, .int .i64 d.dp, .int .i64 (d.tl - 1), .int .i64 d.bi, .int .i64 d.sr, .string d.op, .string d.md, .string d.tx, .string d.ta] 33)).heap.size := by simp
  generalize w6.alloc (.cells #[.int .i64 d.pr, .int .i64 d.kd, .bool d.ba, .int .i64 g.oa, .int .i64 ext, .int .i64 d.da, .int .i64 d.dp, .int .i64 (d.tl - 1), .int .i64 d.bi, .int .i64 d.sr, .string d.op, .string d.md, .string d.tx, .string d.ta] 33) = v6 at S_v6 hs_v6 HT_v6 ⊢
  clear S_w6
  clear HT
  have HT : Hid _ := HT_v6.out
  clear HT_v6
  clear hb6 cO
  have q_g1 : v6.cell? ⟨w1.heap.size, 1, none⟩ = some (.int .i64 g.oa) := St.at 3 1 rfl rfl _ S_v6.out
  have q_g5 : v6.cell? ⟨w1.heap.size, 5, none⟩ = some (.int .i64 g.im) := St.at 3 5 rfl rfl _ S_v6.out
  go_wp2_with (first | (refine pull_nt [.int .i64 n.sr, .int .i64 n.ty, .int .i64 n.co, .int .i64 n.le, .int .i64 n.se, .int .i64 n.tl, .int .i64 n.op, .int .i64 n.bi, .string n.re, .string n.ta] rfl (w.heap.size + 1 + 1) (St.get S_v6.out 2 rfl) rfl rfl rfl ?_) | (refine pull_cf [.int .i64 g.ia, .int .i64 g.oa, .int .i64 g.lo, .int .i64 g.hi, .int .i64 g.cp, .int .i64 g.im, .int .i64 g.om, .int .i64 g.iu, .int .i64 g.it, .int .i64 g.iq, .int .i64 g.bu, .int .i64 g.ra] rfl (w1.heap.size) (St.get S_v6.out 3 rfl) rfl rfl rfl ?_) | (refine pull_dg [.int .i64 d.pr, .int .i64 d.kd, .bool d.ba, .int .i64 g.oa, .int .i64 ext, .int .i64 d.da, .int .i64 d.dp, .int .i64 (d.tl - 1), .int .i64 d.bi, .int .i64 d.sr, .string d.op, .string d.md, .string d.tx, .string d.ta] rfl (w6.heap.size) (St.get S_v6.out 5 rfl) rfl rfl rfl ?_))
  refine Calls.mono (CN.out d ext _ HPd.out HX.out.1 HX.out.2) ?_; rintro e w7 ⟨m, rfl, hR, hb7⟩
  have S_w7 : Hid (St [(w.heap.size, (cfl c), 23), (w.heap.size + 1, #[.int .i64 k0, .int .i64 k1, .int .i64 k2, .int .i64 k3, .int .i64 k4, .int .i64 k5, .int .i64 k6, .int .i64 k7, .int .i64 k8, .string m0, .string m1, .string m2], 25), (w.heap.size + 1 + 1, (ntl n), 53), (w1.heap.size, (cfl g), 23), (w2.heap.size, (dgl d), 33), (w6.heap.size, (dgl { d with sa := g.oa, sp := ext, tl := d.tl - 1 }), 33)] w w7) := St.next S_v6.out hb7
  have HT_w7 : Hid _ := Tb.below HT.out hb7
  clear HT
  have HT : Hid _ := HT_w7.out
  clear HT_w7
  clear q_g1 q_g5
  generalize (Value.agg #[.int .i64 n.sr, .int .i64 n.ty, .int .i64 n.co, .int .i64 n.le, .int .i64 n.se, .int .i64 n.tl, .int .i64 n.op, .int .i64 n.bi, .string n.re, .string n.ta]) = B12
  generalize (Value.agg #[.int .i64 g.ia, .int .i64 g.oa, .int .i64 g.lo, .int .i64 g.hi, .int .i64 g.cp, .int .i64 g.im, .int .i64 g.om, .int .i64 g.iu, .int .i64 g.it, .int .i64 g.iq, .int .i64 g.bu, .int .i64 g.ra]) = B13
  generalize (Value.agg #[.int .i64 d.pr, .int .i64 d.kd, .bool d.ba, .int .i64 g.oa, .int .i64 ext, .int .i64 d.da, .int .i64 d.dp, .int .i64 (d.tl - 1), .int .i64 d.bi, .int .i64 d.sr, .string d.op, .string d.md, .string d.tx, .string d.ta]) = B14
  clear S_v6
  rename_i KK hKK
  refine hKK _ _ ?_
  refine keep_lt [.int .i64 m.d.pr, .int .i64 m.d.kd, .bool m.d.ba, .int .i64 m.d.sa, .int .i64 m.d.sp, .int .i64 m.d.da, .int .i64 m.d.dp, .int .i64 m.d.tl, .int .i64 m.d.bi, .int .i64 m.d.sr, .string m.d.op, .string m.d.md, .string m.d.tx, .string m.d.ta, .int .i64 m.ki, .int .i64 m.co, .string m.re, .string m.qu] rfl rfl rfl rfl rfl (by simp [Value.oneCell']) (by simp [Act.eval, Act.put]) (by simp [Act.eval, Act.put]) ?_
  clear hKK
  clear KK
  have S_v7 : Hid (St [(w.heap.size, (cfl c), 23), (w.heap.size + 1, #[.int .i64 k0, .int .i64 k1, .int .i64 k2, .int .i64 k3, .int .i64 k4, .int .i64 k5, .int .i64 k6, .int .i64 k7, .int .i64 k8, .string m0, .string m1, .string m2], 25), (w.heap.size + 1 + 1, (ntl n), 53), (w1.heap.size, (cfl g), 23), (w2.heap.size, (dgl d), 33), (w6.heap.size, (dgl { d with sa := g.oa, sp := ext, tl := d.tl - 1 }), 33), (w7.heap.size, (ltl m), 59)] w (w7.alloc (.cells #[.int .i64 m.d.pr, .int .i64 m.d.kd, .bool m.d.ba, .int .i64 m.d.sa, .int .i64 m.d.sp, .int .i64 m.d.da, .int .i64 m.d.dp, .int .i64 m.d.tl, .int .i64 m.d.bi, .int .i64 m.d.sr, .string m.d.op, .string m.d.md, .string m.d.tx, .string m.d.ta, .int .i64 m.ki, .int .i64 m.co, .string m.re, .string m.qu] 59))) := St.alloc S_w7.out (ltl m) 59 (w7.heap.size) rfl
  have HT_v7 : Hid _ := Tb.below HT.out ((Below.refl _ _).alloc (Nat.le_refl _) (.cells #[.int .i64 m.d.pr, .int .i64 m.d.kd, .bool m.d.ba, .int .i64 m.d.sa, .int .i64 m.d.sp, .int .i64 m.d.da, .int .i64 m.d.dp, .int .i64 m.d.tl, .int .i64 m.d.bi, .int .i64 m.d.sr, .string m.d.op, .string m.d.md, .string m.d.tx, .string m.d.ta, .int .i64 m.ki, .int .i64 m.co, .string m.re, .string m.qu] 59))
  have hs_v7 : w7.heap.size < (w7.alloc (.cells #[.int .i64 m.d.pr, .int .i64 m.d.kd, .bool m.d.ba, .int .i64 m.d.sa, .int .i64 m.d.sp, .int .i64 m.d.da, .int .i64 m.d.dp, .int .i64 m.d.tl, .int .i64 m.d.bi, .int .i64 m.d.sr, .string m.d.op, .string m.d.md, .string m.d.tx, .string m.d.ta, .int .i64 m.ki, .int .i64 m.co, .string m.re, .string m.qu] 59)).heap.size := by simp
  generalize w7.alloc (.cells #[.int .i64 m.d.pr, .int .i64 m.d.kd, .bool m.d.ba, .int .i64 m.d.sa, .int .i64 m.d.sp, .int .i64 m.d.da, .int .i64 m.d.dp, .int .i64 m.d.tl, .int .i64 m.d.bi, .int .i64 m.d.sr, .string m.d.op, .string m.d.md, .string m.d.tx, .string m.d.ta, .int .i64 m.ki, .int .i64 m.co, .string m.re, .string m.qu] 59) = v7 at S_v7 hs_v7 HT_v7 ⊢
  clear S_w7
  clear HT
  have HT : Hid _ := HT_v7.out
  clear HT_v7
  obtain ⟨i1, i2⟩ := CF.out d ext m hR
  have cA := CA.out d ext m hR
  have cX := fun wx base b v tk ti mp => CX.out d ext m wx base b v tk ti mp HPd.out hR
  have CX1 : Hid _ := cX
  generalize ab d ext m = y at cA i2
  generalize X d ext m = XX at i1 CX1
  generalize Y d ext m = YY at i2 CX1
  clear hb7 CN CF CA CX hR cX
  go_wp2_with (first | (refine pull_lt [.int .i64 m.d.pr, .int .i64 m.d.kd, .bool m.d.ba, .int .i64 m.d.sa, .int .i64 m.d.sp, .int .i64 m.d.da, .int .i64 m.d.dp, .int .i64 m.d.tl, .int .i64 m.d.bi, .int .i64 m.d.sr, .string m.d.op, .string m.d.md, .string m.d.tx, .string m.d.ta, .int .i64 m.ki, .int .i64 m.co, .string m.re, .string m.qu] rfl (w7.heap.size) (St.get S_v7.out 6 rfl) rfl rfl rfl ?_) | (refine pull_nt [.int .i64 n.sr, .int .i64 n.ty, .int .i64 n.co, .int .i64 n.le, .int .i64 n.se, .int .i64 n.tl, .int .i64 n.op, .int .i64 n.bi, .string n.re, .string n.ta] rfl (w.heap.size + 1 + 1) (St.get S_v7.out 2 rfl) rfl rfl rfl ?_) | (refine pull_dg [.int .i64 d.pr, .int .i64 d.kd, .bool d.ba, .int .i64 g.oa, .int .i64 ext, .int .i64 d.da, .int .i64 d.dp, .int .i64 (d.tl - 1), .int .i64 d.bi, .int .i64 d.sr, .string d.op, .string d.md, .string d.tx, .string d.ta] rfl (w6.heap.size) (St.get S_v7.out 5 rfl) rfl rfl rfl ?_) | (refine pull_dg [.int .i64 d.pr, .int .i64 d.kd, .bool d.ba, .int .i64 d.sa, .int .i64 d.sp, .int .i64 d.da, .int .i64 d.dp, .int .i64 d.tl, .int .i64 d.bi, .int .i64 d.sr, .string d.op, .string d.md, .string d.tx, .string d.ta] rfl (w2.heap.size) (St.get S_v7.out 4 rfl) rfl rfl rfl ?_))
  refine Calls.mono (cA.at _) ?_; rintro e w8 ⟨rfl, hb8⟩
  have S_w8 : Hid (St [(w.heap.size, (cfl c), 23), (w.heap.size + 1, #[.int .i64 k0, .int .i64 k1, .int .i64 k2, .int .i64 k3, .int .i64 k4, .int .i64 k5, .int .i64 k6, .int .i64 k7, .int .i64 k8, .string m0, .string m1, .string m2], 25), (w.heap.size + 1 + 1, (ntl n), 53), (w1.heap.size, (cfl g), 23), (w2.heap.size, (dgl d), 33), (w6.heap.size, (dgl { d with sa := g.oa, sp := ext, tl := d.tl - 1 }), 33), (w7.heap.size, (ltl m), 59)] w w8) := St.next S_v7.out hb8
  have HT_w8 : Hid _ := Tb.below HT.out hb8
  clear HT
  have HT : Hid _ := HT_w8.out
  clear HT_w8
  generalize (Value.agg #[.int .i64 m.d.pr, .int .i64 m.d.kd, .bool m.d.ba, .int .i64 m.d.sa, .int .i64 m.d.sp, .int .i64 m.d.da, .int .i64 m.d.dp, .int .i64 m.d.tl, .int .i64 m.d.bi, .int .i64 m.d.sr, .string m.d.op, .string m.d.md, .string m.d.tx, .string m.d.ta, .int .i64 m.ki, .int .i64 m.co, .string m.re, .string m.qu]) = B15
  generalize (Value.agg #[.int .i64 n.sr, .int .i64 n.ty, .int .i64 n.co, .int .i64 n.le, .int .i64 n.se, .int .i64 n.tl, .int .i64 n.op, .int .i64 n.bi, .string n.re, .string n.ta]) = B16
  generalize (Value.agg #[.int .i64 d.pr, .int .i64 d.kd, .bool d.ba, .int .i64 g.oa, .int .i64 ext, .int .i64 d.da, .int .i64 d.dp, .int .i64 (d.tl - 1), .int .i64 d.bi, .int .i64 d.sr, .string d.op, .string d.md, .string d.tx, .string d.ta]) = B17
  generalize (Value.agg #[.int .i64 d.pr, .int .i64 d.kd, .bool d.ba, .int .i64 d.sa, .int .i64 d.sp, .int .i64 d.da, .int .i64 d.dp, .int .i64 d.tl, .int .i64 d.bi, .int .i64 d.sr, .string d.op, .string d.md, .string d.tx, .string d.ta]) = B18
  clear S_v7
  have HL0 : Hid (∀ x ∈ ([(w.heap.size, (cfl c), 23), (w.heap.size + 1, #[.int .i64 k0, .int .i64 k1, .int .i64 k2, .int .i64 k3, .int .i64 k4, .int .i64 k5, .int .i64 k6, .int .i64 k7, .int .i64 k8, .string m0, .string m1, .string m2], 25), (w.heap.size + 1 + 1, (ntl n), 53), (w1.heap.size, (cfl g), 23), (w2.heap.size, (dgl d), 33), (w6.heap.size, (dgl { d with sa := g.oa, sp := ext, tl := d.tl - 1 }), 33), (w7.heap.size, (ltl m), 59)] : List (Nat × Array Value × TypeId)), x.1 < w8.heap.size) := fun x hx => St.lt S_w8.out hx
  have HW0 : Hid (w.heap.size ≤ w8.heap.size) := (St.below S_w8.out).size
  have hb8b : b < w8.heap.size := HT.out.lt
  have HO8 : Hid (∀ o, v5.ownBlock = some o → o < w8.heap.size) := fun o e => (HT.out.row.lt o e).2
  rename_i KK hKK
  refine hKK _ _ ?_
  refine keep_lt [.int .i64 y.d.pr, .int .i64 y.d.kd, .bool y.d.ba, .int .i64 y.d.sa, .int .i64 y.d.sp, .int .i64 y.d.da, .int .i64 y.d.dp, .int .i64 y.d.tl, .int .i64 y.d.bi, .int .i64 y.d.sr, .string y.d.op, .string y.d.md, .string y.d.tx, .string y.d.ta, .int .i64 y.ki, .int .i64 y.co, .string y.re, .string y.qu] rfl rfl rfl rfl rfl (by simp [Value.oneCell']) (by simp [Act.eval, Act.put]) (by simp [Act.eval, Act.put]) ?_
  clear hKK
  clear KK
  have S_v8 : Hid (St [(w.heap.size, (cfl c), 23), (w.heap.size + 1, #[.int .i64 k0, .int .i64 k1, .int .i64 k2, .int .i64 k3, .int .i64 k4, .int .i64 k5, .int .i64 k6, .int .i64 k7, .int .i64 k8, .string m0, .string m1, .string m2], 25), (w.heap.size + 1 + 1, (ntl n), 53), (w1.heap.size, (cfl g), 23), (w2.heap.size, (dgl d), 33), (w6.heap.size, (dgl { d with sa := g.oa, sp := ext, tl := d.tl - 1 }), 33), (w7.heap.size, (ltl m), 59), (w8.heap.size, (ltl y), 59)] w (w8.alloc (.cells #[.int .i64 y.d.pr, .int .i64 y.d.kd, .bool y.d.ba, .int .i64 y.d.sa, .int .i64 y.d.sp, .int .i64 y.d.da, .int .i64 y.d.dp, .int .i64 y.d.tl, .int .i64 y.d.bi, .int .i64 y.d.sr, .string y.d.op, .string y.d.md, .string y.d.tx, .string y.d.ta, .int .i64 y.ki, .int .i64 y.co, .string y.re, .string y.qu] 59))) := St.alloc S_w8.out (ltl y) 59 (w8.heap.size) rfl
  have HT_v8 : Hid _ := Tb.below HT.out ((Below.refl _ _).alloc (Nat.le_refl _) (.cells #[.int .i64 y.d.pr, .int .i64 y.d.kd, .bool y.d.ba, .int .i64 y.d.sa, .int .i64 y.d.sp, .int .i64 y.d.da, .int .i64 y.d.dp, .int .i64 y.d.tl, .int .i64 y.d.bi, .int .i64 y.d.sr, .string y.d.op, .string y.d.md, .string y.d.tx, .string y.d.ta, .int .i64 y.ki, .int .i64 y.co, .string y.re, .string y.qu] 59))
  have hs_v8 : w8.heap.size < (w8.alloc (.cells #[.int .i64 y.d.pr, .int .i64 y.d.kd, .bool y.d.ba, .int .i64 y.d.sa, .int .i64 y.d.sp, .int .i64 y.d.da, .int .i64 y.d.dp, .int .i64 y.d.tl, .int .i64 y.d.bi, .int .i64 y.d.sr, .string y.d.op, .string y.d.md, .string y.d.tx, .string y.d.ta, .int .i64 y.ki, .int .i64 y.co, .string y.re, .string y.qu] 59)).heap.size := by simp
  generalize w8.alloc (.cells #[.int .i64 y.d.pr, .int .i64 y.d.kd, .bool y.d.ba, .int .i64 y.d.sa, .int .i64 y.d.sp, .int .i64 y.d.da, .int .i64 y.d.dp, .int .i64 y.d.tl, .int .i64 y.d.bi, .int .i64 y.d.sr, .string y.d.op, .string y.d.md, .string y.d.tx, .string y.d.ta, .int .i64 y.ki, .int .i64 y.co, .string y.re, .string y.qu] 59) = v8 at S_v8 hs_v8 HT_v8 ⊢
  clear S_w8
  clear HT
  have HT : Hid _ := HT_v8.out
  clear HT_v8
  clear hb8 cA
  have q_d3 : v8.cell? ⟨w2.heap.size, 3, none⟩ = some (.int .i64 d.sa) := St.at 4 3 rfl rfl _ S_v8.out
  have fy := St.frz 7 rfl S_v8.out
  have q_y5 : v8.cell? ⟨w8.heap.size, 5, none⟩ = some (.int .i64 y.d.da) := St.at 7 5 rfl rfl _ S_v8.out
  go_upto_region 14 with fail
  have S_u8 : Hid (St [(w.heap.size, (cfl c), 23), (w.heap.size + 1, #[.int .i64 k0, .int .i64 k1, .int .i64 k2, .int .i64 k3, .int .i64 k4, .int .i64 k5, .int .i64 k6, .int .i64 k7, .int .i64 k8, .string m0, .string m1, .string m2], 25), (w.heap.size + 1 + 1, (ntl n), 53), (w1.heap.size, (cfl g), 23), (w2.heap.size, (dgl d), 33), (w6.heap.size, (dgl { d with sa := g.oa, sp := ext, tl := d.tl - 1 }), 33), (w7.heap.size, (ltl m), 59), (w8.heap.size, #[.int .i64 y.d.pr, .int .i64 y.d.kd, .bool y.d.ba, .int .i64 y.d.sa, .int .i64 y.d.sp, .int .i64 d.sa, .int .i64 y.d.dp, .int .i64 y.d.tl, .int .i64 y.d.bi, .int .i64 y.d.sr, .string y.d.op, .string y.d.md, .string y.d.tx, .string y.d.ta, .int .i64 y.ki, .int .i64 y.co, .string y.re, .string y.qu], 59)] w (v8.setCell ⟨w8.heap.size, 5, none⟩ (.int .i64 d.sa))) := St.setLast (L := [(w.heap.size, (cfl c), 23), (w.heap.size + 1, #[.int .i64 k0, .int .i64 k1, .int .i64 k2, .int .i64 k3, .int .i64 k4, .int .i64 k5, .int .i64 k6, .int .i64 k7, .int .i64 k8, .string m0, .string m1, .string m2], 25), (w.heap.size + 1 + 1, (ntl n), 53), (w1.heap.size, (cfl g), 23), (w2.heap.size, (dgl d), 33), (w6.heap.size, (dgl { d with sa := g.oa, sp := ext, tl := d.tl - 1 }), 33), (w7.heap.size, (ltl m), 59)]) S_v8.out HL0.out HW0.out 5 (.int .i64 d.sa)
  have T_u8 : Hid _ := Tb.other3 HT.out (p := ⟨w8.heap.size, 5, none⟩) (by show b ≠ w8.heap.size; omega) (fun o e => by have := HO8.out o e; show o ≠ w8.heap.size; omega) (.int .i64 d.sa)
  generalize v8.setCell ⟨w8.heap.size, 5, none⟩ (.int .i64 d.sa) = u8 at S_u8 T_u8 ⊢
  clear S_v8 HT q_d3 q_y5 fy HL0 HW0 HO8
  clear hs_v8
  have HMk : Hid (Mok { mp with le := mp.le - tn }) := (by have M := HM.out.2.2.2.2.2.2.2; exact ⟨M.k0, M.k4, M.x1, M.x2, M.a0, M.a1, M.p0, M.p1, by show 1 ≤ mp.le - tn; omega, by show mp.le - tn ≤ 100000; have := M.l1; omega⟩)
  have cP : Hid (∀ wx, Bat wx v2.heap.size b g tk5 tn v5 [{ mp with le := mp.le - tn }] → Calls Tryz.prog 28 #[.pointer (some ⟨b, 0, none⟩), .int .i64 1, .string XX, .int .i64 0, .string YY] wx fun e w' => e = .returned (.bool true) ∧ Below wx.heap.size wx w') := fun wx h =>
    (passes_yes b 1 0 _ _ (fun w1 => Below wx.heap.size wx w1) (CX1.out wx _ b _ _ _ _ h HM.out.1 HM.out.2.1 HM.out.2.2.1 HM.out.2.2.2.1 HM.out.2.2.2.2.2.2.1 HMk.out)).mono fun e w' q => ⟨q.1, by obtain ⟨w1, h1, h2⟩ := q.2; exact h1.trans (h2.mono h1.size)⟩
  clear CX1
  obtain ⟨SX, hSX⟩ : ∃ SX : World → Prop, ∀ w', Sof SX w' ↔ StB [(w.heap.size, (cfl c), 23), (w.heap.size + 1, #[.int .i64 k0, .int .i64 k1, .int .i64 k2, .int .i64 k3, .int .i64 k4, .int .i64 k5, .int .i64 k6, .int .i64 k7, .int .i64 k8, .string m0, .string m1, .string m2], 25), (w.heap.size + 1 + 1, (ntl n), 53), (w1.heap.size, (cfl g), 23), (w2.heap.size, (dgl d), 33), (w6.heap.size, (dgl { d with sa := g.oa, sp := ext, tl := d.tl - 1 }), 33), (w7.heap.size, (ltl m), 59), (w8.heap.size, #[.int .i64 y.d.pr, .int .i64 y.d.kd, .bool y.d.ba, .int .i64 y.d.sa, .int .i64 y.d.sp, .int .i64 d.sa, .int .i64 y.d.dp, .int .i64 y.d.tl, .int .i64 y.d.bi, .int .i64 y.d.sr, .string y.d.op, .string y.d.md, .string y.d.tx, .string y.d.ta, .int .i64 y.ki, .int .i64 y.co, .string y.re, .string y.qu], 59)] w v2.heap.size b g tk5 tn v5 [{ mp with le := mp.le - tn }] w' := ⟨_, fun _ => Iff.rfl⟩
  have HSX : Hid _ := hSX
  clear hSX
  have ss : Hid (Sof SX u8.drew) := (HSX.out _).2 (StB.drew ⟨S_u8.out, T_u8.out⟩)
  go_cut [18] (fun ov wx => ov = .bool true ∧ StB [(w.heap.size, (cfl c), 23), (w.heap.size + 1, #[.int .i64 k0, .int .i64 k1, .int .i64 k2, .int .i64 k3, .int .i64 k4, .int .i64 k5, .int .i64 k6, .int .i64 k7, .int .i64 k8, .string m0, .string m1, .string m2], 25), (w.heap.size + 1 + 1, (ntl n), 53), (w1.heap.size, (cfl g), 23), (w2.heap.size, (dgl d), 33), (w6.heap.size, (dgl { d with sa := g.oa, sp := ext, tl := d.tl - 1 }), 33), (w7.heap.size, (ltl m), 59), (w8.heap.size, #[.int .i64 y.d.pr, .int .i64 y.d.kd, .bool y.d.ba, .int .i64 y.d.sa, .int .i64 y.d.sp, .int .i64 d.sa, .int .i64 y.d.dp, .int .i64 y.d.tl, .int .i64 y.d.bi, .int .i64 y.d.sr, .string y.d.op, .string y.d.md, .string y.d.tx, .string y.d.ta, .int .i64 y.ki, .int .i64 y.co, .string y.re, .string y.qu], 59)] w v2.heap.size b g tk5 tn v5 [{ mp with le := mp.le - tn }] wx)
  case first =>
    refine wp_region_held_drew (S := fun w' => Sof SX w') (by kernel_rfl) ss.out (fun hHeld => ?_)
    refine wpAnyH_take (i := 1) (v := .agg #[.int .i64 m.d.pr, .int .i64 m.d.kd, .bool m.d.ba, .int .i64 m.d.sa, .int .i64 m.d.sp, .int .i64 m.d.da, .int .i64 m.d.dp, .int .i64 m.d.tl, .int .i64 m.d.bi, .int .i64 m.d.sr, .string m.d.op, .string m.d.md, .string m.d.tx, .string m.d.ta, .int .i64 m.ki, .int .i64 m.co, .string m.re, .string m.qu]) rfl (by kernel_rfl) (by kernel_rfl) (by kernel_rfl) (fun _ _ _ h => h) (yields_lt (by rfl) rfl (w7.heap.size) rfl [.int .i64 m.d.pr, .int .i64 m.d.kd, .bool m.d.ba, .int .i64 m.d.sa, .int .i64 m.d.sp, .int .i64 m.d.da, .int .i64 m.d.dp, .int .i64 m.d.tl, .int .i64 m.d.bi, .int .i64 m.d.sr, .string m.d.op, .string m.d.md, .string m.d.tx, .string m.d.ta, .int .i64 m.ki, .int .i64 m.co, .string m.re, .string m.qu] rfl (fun w' h => ⟨_, St.get ((HSX.out w').1 h).st 6 rfl⟩)) (by assumption) ?_
    refine wpAnyH_take (i := 3) (v := .agg #[.int .i64 y.d.pr, .int .i64 y.d.kd, .bool y.d.ba, .int .i64 y.d.sa, .int .i64 y.d.sp, .int .i64 d.sa, .int .i64 y.d.dp, .int .i64 y.d.tl, .int .i64 y.d.bi, .int .i64 y.d.sr, .string y.d.op, .string y.d.md, .string y.d.tx, .string y.d.ta, .int .i64 y.ki, .int .i64 y.co, .string y.re, .string y.qu]) rfl (by kernel_rfl) (by kernel_rfl) (by kernel_rfl) (fun _ _ _ h => h) (yields_lt (by rfl) rfl (w8.heap.size) rfl [.int .i64 y.d.pr, .int .i64 y.d.kd, .bool y.d.ba, .int .i64 y.d.sa, .int .i64 y.d.sp, .int .i64 d.sa, .int .i64 y.d.dp, .int .i64 y.d.tl, .int .i64 y.d.bi, .int .i64 y.d.sr, .string y.d.op, .string y.d.md, .string y.d.tx, .string y.d.ta, .int .i64 y.ki, .int .i64 y.co, .string y.re, .string y.qu] rfl (fun w' h => ⟨_, St.get ((HSX.out w').1 h).st 7 rfl⟩)) (by assumption) ?_
    refine wpAnyH_take (i := 0) (v := .pointer (some ⟨b, 0, none⟩)) rfl (by kernel_rfl) (by kernel_rfl) (by kernel_rfl) (fun _ _ _ h => h) (Or.inl ⟨by rfl, fun w' hSw => by go_simp⟩) (by assumption) ?_
    refine wpAnyH_ready (rs := [2]) (by kernel_rfl) (by simp) ?_
    refine AllReadyH.cons rfl (fun K hK => ?_) AllReadyH.nil
    go_simp
    go_wp2_with (first | (go_at_call 29; refine Calls.mono (i1.at _) ?_; rintro e wx ⟨rfl, hbx⟩; have hkx : Sof SX wx := (HSX.out _).2 (StB.next ((HSX.out _).1 ss.out) hbx)))
    refine hK.out _ _ ?_ (fun hHeld => ?_)
    · exact hkx
    clear hK
    clear K
    refine wpAnyH_ready (rs := [4]) (by kernel_rfl) (by simp) ?_
    refine AllReadyH.cons rfl (fun K hK => ?_) AllReadyH.nil
    go_simp
    go_wp2_with (first | (go_at_call 29; refine Calls.mono (i2.at _) ?_; rintro e wy ⟨rfl, hby⟩; have hky : Sof SX wy := (HSX.out _).2 (StB.next ((HSX.out _).1 hkx) hby)))
    refine hK.out _ _ ?_ (fun hHeld => ?_)
    · exact hky
    clear hK
    clear K
    refine wpAnyH_ready (rs := [5]) (by kernel_rfl) (by simp) ?_
    refine AllReadyH.cons rfl (fun K hK => ?_) AllReadyH.nil
    go_simp
    go_wp2_with (first | (go_at_call 28; refine Calls.mono (cP.out _ ((HSX.out _).1 hky).bt) ?_; rintro e wz ⟨rfl, hbz⟩; have hkz : Sof SX wz := (HSX.out _).2 (StB.next ((HSX.out _).1 hky) hbz)))
    refine hK.out _ _ ?_ (fun hHeld => ?_)
    · exact hkz
    clear hK
    clear K
    refine wpAnyH_take (i := 6) (v := .bool true) rfl (by kernel_rfl) (by kernel_rfl) (by kernel_rfl) (fun _ _ _ h => h) (Or.inl ⟨by rfl, fun w' hSw => by go_simp⟩) (by assumption) ?_
    refine wpAnyH_done (by kernel_rfl) ?_ _
    go_wp2_with fail
    go_meet
    exact ⟨rfl, (HSX.out _).1 hkz⟩
  case rest =>
    obtain ⟨rfl, hst0⟩ := hcut
    have hst := hst0.st
    have hbt := hst0.bt
    have S_x : Hid (St [(w.heap.size, (cfl c), 23), (w.heap.size + 1, #[.int .i64 k0, .int .i64 k1, .int .i64 k2, .int .i64 k3, .int .i64 k4, .int .i64 k5, .int .i64 k6, .int .i64 k7, .int .i64 k8, .string m0, .string m1, .string m2], 25), (w.heap.size + 1 + 1, (ntl n), 53), (w1.heap.size, (cfl g), 23), (w2.heap.size, (dgl d), 33), (w6.heap.size, (dgl { d with sa := g.oa, sp := ext, tl := d.tl - 1 }), 33), (w7.heap.size, (ltl m), 59), (w8.heap.size, #[.int .i64 y.d.pr, .int .i64 y.d.kd, .bool y.d.ba, .int .i64 y.d.sa, .int .i64 y.d.sp, .int .i64 d.sa, .int .i64 y.d.dp, .int .i64 y.d.tl, .int .i64 y.d.bi, .int .i64 y.d.sr, .string y.d.op, .string y.d.md, .string y.d.tx, .string y.d.ta, .int .i64 y.ki, .int .i64 y.co, .string y.re, .string y.qu], 59)] w wc) := hst
    have HT : Hid (Bat wc v2.heap.size b g tk5 tn v5 [{ mp with le := mp.le - tn }]) := hbt
    clear hst hbt hst0 HSX ss cP S_u8 T_u8 i1 i2
    have q_d0 : wc.cell? ⟨w2.heap.size, 0, none⟩ = some (.int .i64 d.pr) := St.at 4 0 rfl rfl _ S_x.out
    go_wp2_with (first | (refine pull_cf [.int .i64 g.ia, .int .i64 g.oa, .int .i64 g.lo, .int .i64 g.hi, .int .i64 g.cp, .int .i64 g.im, .int .i64 g.om, .int .i64 g.iu, .int .i64 g.it, .int .i64 g.iq, .int .i64 g.bu, .int .i64 g.ra] rfl (w1.heap.size) (St.get S_x.out 3 rfl) rfl rfl rfl ?_))
    refine Calls.mono (cJ.at _) ?_; rintro e w10 ⟨rfl, hb10⟩
    have S_w10 : Hid (St [(w.heap.size, (cfl c), 23), (w.heap.size + 1, #[.int .i64 k0, .int .i64 k1, .int .i64 k2, .int .i64 k3, .int .i64 k4, .int .i64 k5, .int .i64 k6, .int .i64 k7, .int .i64 k8, .string m0, .string m1, .string m2], 25), (w.heap.size + 1 + 1, (ntl n), 53), (w1.heap.size, (cfl g), 23), (w2.heap.size, (dgl d), 33), (w6.heap.size, (dgl { d with sa := g.oa, sp := ext, tl := d.tl - 1 }), 33), (w7.heap.size, (ltl m), 59), (w8.heap.size, #[.int .i64 y.d.pr, .int .i64 y.d.kd, .bool y.d.ba, .int .i64 y.d.sa, .int .i64 y.d.sp, .int .i64 d.sa, .int .i64 y.d.dp, .int .i64 y.d.tl, .int .i64 y.d.bi, .int .i64 y.d.sr, .string y.d.op, .string y.d.md, .string y.d.tx, .string y.d.ta, .int .i64 y.ki, .int .i64 y.co, .string y.re, .string y.qu], 59)] w w10) := St.next S_x.out hb10
    have HT_w10 : Hid _ := Tb.below HT.out hb10
    clear HT
    have HT : Hid _ := HT_w10.out
    clear HT_w10
    clear q_d0
    generalize (Value.agg #[.int .i64 g.ia, .int .i64 g.oa, .int .i64 g.lo, .int .i64 g.hi, .int .i64 g.cp, .int .i64 g.im, .int .i64 g.om, .int .i64 g.iu, .int .i64 g.it, .int .i64 g.iq, .int .i64 g.bu, .int .i64 g.ra]) = B19
    clear S_x
    have cL : Hid (Calls Tryz.prog 19 #[.pointer (some ⟨b, 0, none⟩)] w10 fun e w' => e = .returned (.int .i64 1) ∧ w' = w10) := live_any HT.out (by simp)
    have hm' : Hid (({ mp with le := mp.le - tn } : Mp).pr = d.pr ∧ ({ mp with le := mp.le - tn } : Mp).ea = d.sa ∧ ({ mp with le := mp.le - tn } : Mp).ep = d.sp ∧ ({ mp with le := mp.le - tn } : Mp).ex = ext ∧ ({ mp with le := mp.le - tn } : Mp).le = id - tn ∧ ({ mp with le := mp.le - tn } : Mp).kn = 1) := ⟨HM.out.1, HM.out.2.1, HM.out.2.2.1, HM.out.2.2.2.1, by show mp.le - tn = id - tn; rw [HM.out.2.2.2.2.1], HM.out.2.2.2.2.2.1⟩
    obtain ⟨d0, d1, d2, d3, d4, d5, d6, d7, d8, d9, d10, d11, d12, d13⟩ := cell14 (show w10.heap[w2.heap.size]? = some (.cells #[.int .i64 d.pr, .int .i64 d.kd, .bool d.ba, .int .i64 d.sa, .int .i64 d.sp, .int .i64 d.da, .int .i64 d.dp, .int .i64 d.tl, .int .i64 d.bi, .int .i64 d.sr, .string d.op, .string d.md, .string d.tx, .string d.ta] 33 (0, 0)) from St.get S_w10.out 4 rfl)
    clear hb10 cJ
    go_wp2_with fail
    refine Calls.mono cL.out ?_; rintro e w' ⟨rfl, hw⟩; replace hw := hw.symm; subst hw
    go_wp2_with fail
    refine Calls.mono (holds_yes b 0 (id - tn) 1 ext d (fun wx hx => Hid.out (holdsM HT.out hm'.out hx))) ?_; rintro e wj ⟨rfl, hbj⟩
    go_wp2
    go_ret
    exact ⟨rfl, (St.below S_w10.out).trans (hbj.mono (St.below S_w10.out).size)⟩
end Go.Proofs.YthiljpbodmajaabGreat
