/-
  natboxkeep.Fades (P9, P11).
-/
import Derived.Test.YthiljpbodmajaaaGreatRows
import Derived.WalkKit
import Derived.ProofKit
import Derived.OpenShut
import Derived.ChangeOld
import Derived.Below
import Derived.Test.YthiljpbodmajaaaGreatFadc
import Derived.Test.YthiljpbodmajaaaGreatHomd
import Derived.Test.YthiljpbodmajaaaGreatSana
import Derived.Test.YthiljpbodmajaaaGreatCfgn
namespace Go.Proofs.YthiljpbodmajaaaGreat
open Go.RowKit Plain
set_option linter.unusedVariables false
theorem start_at (g : Cf) (hg : g.ok = true) (d : Dg) (O : Outok d g) : ∃ ext m, (m.pr = d.pr ∧ m.ea = d.sa ∧ m.ep = d.sp ∧ m.ex = ext ∧ m.le = g.idle d.pr ∧ m.kn = 1) ∧ (1 ≤ ext ∧ ext ≤ 65535 ∧ ext = chs g [] d.pr d.sp) ∧ ∀ wx, Calls Tryz.prog 14 #[.agg (cfl g), .agg (dgl d)] wx fun e w' => ∃ b v', e = .returned (.tuple #[.pointer (some ⟨b, 0, none⟩), .int .i64 ext]) ∧ Bat w' wx.heap.size b g g.bu 0 v' [m] ∧ Below wx.heap.size wx w' ∧ wx.heap.size ≤ b := by
  have C := cok_of hg
  have D := O.ok
  have hoa := us_bd C.oa
  have l1 := C.l1
  have l2 := C.l2
  have h2 := C.h2
  obtain ⟨ext, hext⟩ : ∃ ext, ext = chs g [] d.pr d.sp := ⟨_, rfl⟩
  have xb : 1 ≤ ext ∧ ext ≤ 65535 := by rw [hext, chs_nil]; split <;> omega
  have hgv : gvn g.lo g.hi d.sp (-1) = ext := by rw [hext, chs_gvn g C d.pr d.sp D.p0]; rfl
  obtain ⟨F, e1, e2, e3, e4, e5, e6, e7⟩ := O.parts
  have D2 : Dgok { d with sa := g.oa, sp := ext, tl := d.tl - 1 } := ⟨D.pr, hoa.1, hoa.2, D.d0, D.d1, by show 0 ≤ ext; omega, by show ext < 65536; omega, D.q0, D.q1, by show 0 ≤ d.tl - 1; have := O.tl; omega, by show d.tl - 1 < 256; have := D.t1; omega, D.md, D.op, D.o4, D.tx, D.ta⟩
  refine ⟨ext, (Mp.new d.pr d.sa d.sp ext).used d.da (if d.pr = 1 then 0 else wd (kfr d) (ppl (kfr d) 2)) (g.idle d.pr), used_new _ _ _ _ _ _ _, ⟨xb.1, xb.2, hext⟩, fun wx => ?_⟩
  refine start_core g d ext (kfr d) (kfr { d with sa := g.oa, sp := ext, tl := d.tl - 1 }) _ wx hg (fun w => ?_) (fun w => out_any d g ext w D.t0 (by have := D.t1; omega)) (kframe_any d D) (kframe_any _ D2) (fun wy b T => ?_)
  · have := given_any g d.sp (-1) w (by omega) (by omega)
    rw [hgv] at this
    exact this
  · have := frame_first T hg (kfr d) O.all O.exam O.chk O.kinds.2.2 (by rw [e7]; simpa using O.n4) O.pss ext (by rw [e3, O.sport]; exact hext)
    rw [O.goes ext (by omega) (by omega) hoa.1 hoa.2, e3, e6, e7, O.sport] at this
    exact this
theorem tick_bu {g : Cf} (G : g.ok = true) {wx : World} {base b : Nat} {v : Value} {ms : List Mp} {n ti : Int} (T : Bat wx base b g g.bu ti v ms) (hz : ms.length ≤ 64) (n0 : 0 ≤ n) (n1 : n ≤ 100000) (t0 : 0 ≤ ti) (t1 : ti ≤ 100000) (hl : ∀ m ∈ ms, -1000000 ≤ m.le ∧ m.le ≤ 1000000) :
    Calls Tryz.prog 19 #[.pointer (some ⟨b, 0, none⟩), .int .i64 n] wx fun e w' => e = .returned (.int .i64 0) ∧ ∃ v', BL wx w' base b g v v' g.bu (ti + n) (aged n ms) := by
  have h := cok_rest G
  refine tick_yes T n g.bu n0 n1 (by omega) t0 h.1.1 h.1.2 h.2.1.1 h.2.1.2 h.1.2 ?_ (fun wy cur Ty => age_any Ty hz n n0 n1 hl)
  have : 0 ≤ n * g.ra := Int.mul_nonneg n0 h.2.1.1
  split <;> omega
theorem fades_any (c : Cf) (W : Cfwf c) (p q : Pk) (Wp : Pkwf p) (Wq : Pkwf q) (tt : Int) (t0 : -9223372036854775808 ≤ tt) (t1 : tt < 9223372036854775808) (w : World) :
    Calls Tryz.prog 8 #[.agg (cfl c), .agg (pkl p), .agg (pkl q), .int .i64 tt] w fun e w' => e = .returned (.bool true) ∧ Below w.heap.size w w' := by
  have G := cnf_ok c
  have M := cok_mtu G
  have C := cok_of G
  have hoa := us_bd C.oa
  have Wq' : Pkwf { q with kd := p.kd } := ⟨Wp.kd, Wq.sa, Wq.sp, Wq.da, Wq.dp, Wq.tl, Wq.op, Wq.sr, Wq.md, Wq.tx, Wq.ta⟩
  refine fades_core c (cnf c) (fun d => Outok d (cnf c) ∧ d.pr = kpr (pk p.kd 5)) (fun d ext a => Inok a (cnf c) ∧ a.pr = d.pr ∧ a.dp = ext ∧ Dgok d) (fun d s => Outok s (cnf c) ∧ s.pr = d.pr ∧ s.sp = d.sp) p.kd p.sa p.sp p.da p.dp p.tl p.op p.bi p.sr q.kd q.sa q.sp q.da q.dp q.tl q.op q.bi q.sr tt p.md p.tx p.ta q.md q.tx q.ta w (kconf_any c W)
    (fun wx => (sentc_any p (cnf c) (cnf c).om Wp M.2.2.1 M.2.2.2 wx).mono fun e w' h => ?_)
    (fun d h => start_at (cnf c) G d h.1) (fun p => idle_bd G p)
    (fun id h0 h1 => ⟨wth tt 0 (id - 1), wth_bd _ _ _ (by omega), fun w => kwithin_any _ _ _ w (by omega) (by omega) (by omega) t0 t1⟩)
    (fun wx base b v m n T n0 n1 hl => ?_)
    (fun d ext wx hd e0 e1 => (from_core (cnf c) (fun a => Sentok a (oth q.sa (cnf c).ia (cnf c).oa) (oth q.da (cnf c).ia (cnf c).oa) (wth q.sp 0 65535) (wth q.dp 0 65535) (wth q.tl 2 255) (cnf c).im (pk p.kd 5)) ext p.kd q.sa q.sp q.da q.dp q.tl q.op q.bi q.sr q.md q.tx q.ta wx (fun wy => (sentc_any { q with kd := p.kd } (cnf c) (cnf c).im Wq' M.1 M.2.1 wy).mono fun e w' h => ?_)).mono fun e w' h => ?_)
    (fun d ext a h => ?_)
    (fun d ext a wx base b v tk ti m h T h1 h2 h3 h4 => home_frame h.1 T h.2.2.2 (h1.trans h.2.1.symm) h2 h3 (h4.trans h.2.2.1.symm))
    (fun wx base b v m n ti T hm n0 n1 i0 i1 => ?_)
    (fun d ext a wx base b v tk ti h T => frame_none T (by simp) (kfr a) h.1.all h.1.exam h.1.kinds.2 (by simp))
    (fun d wx hd => (sentc_any { q with kd := p.kd, sp := d.sp } (cnf c) (cnf c).om ⟨Wp.kd, Wq.sa, ⟨by have := hd.1.ok.p0; show _ ≤ d.sp; omega, by have := hd.1.ok.p1; show d.sp < _; omega⟩, Wq.da, Wq.dp, Wq.tl, Wq.op, Wq.sr, Wq.md, Wq.tx, Wq.ta⟩ M.2.2.1 M.2.2.2 wx).mono fun e w' h => ?_)
    (fun d s ext h e0 e1 => ?_)
    (fun d s ext wx base b v ti h hx T => ?_)
  · obtain ⟨⟨d, he, hS⟩, hb⟩ := h
    exact ⟨d, he, ⟨hS.out (wth_bd _ _ _ (by decide)).1, hS.pr⟩, hb⟩
  · have := tick_bu G T (by simp) n0 (by omega) (by omega) (by omega) (by simp; omega)
    rw [aged_one n m n1, show (0 : Int) + n = n by omega] at this
    exact this
  · obtain ⟨⟨d, he, hS⟩, hb⟩ := h
    exact ⟨d, he, hS, hb⟩
  · obtain ⟨a, he, hS, hb⟩ := h
    exact ⟨frm a (cnf c).oa ext, he, ⟨frm_ok G hS (wth_bd _ _ _ (by decide)).1 e0 e1, hS.pr.trans hd.2.symm, rfl, hd.1.ok⟩, hb⟩
  · obtain ⟨I, hp, hx, D⟩ := h
    have A := I.ok
    have D2 : Dgok { a with da := d.sa, dp := d.sp, tl := a.tl - 1 } := ⟨A.pr, A.s0, A.s1, D.s0, D.s1, A.p0, A.p1, D.p0, D.p1, by show 0 ≤ a.tl - 1; have := I.tl; omega, by show a.tl - 1 < 256; have := A.t1; omega, A.md, A.op, A.o4, A.tx, A.ta⟩
    exact ⟨in_any a d.sa d.sp A.t0 (by have := A.t1; omega), kframe_any a A, kframe_any _ D2⟩
  · have := tick_bu G T (by simp) (by omega) n1 i0 i1 (by simp; omega)
    rw [show aged n [m] = [] by simp [aged, hm]] at this
    exact this
  · obtain ⟨⟨s, he, hS⟩, hb⟩ := h
    have e2 : wth d.sp 0 65535 = d.sp := by unfold wth; rw [if_pos ⟨hd.1.ok.p0, by have := hd.1.ok.p1; omega⟩]
    exact ⟨s, he, ⟨hS.out (wth_bd _ _ _ (by decide)).1, hS.pr.trans hd.2.symm, hS.sp.trans e2⟩, hb⟩
  · obtain ⟨O, hp, hs⟩ := h
    have D := O.ok
    have D2 : Dgok { s with sa := (cnf c).oa, sp := ext, tl := s.tl - 1 } := ⟨D.pr, hoa.1, hoa.2, D.d0, D.d1, by show 0 ≤ ext; omega, by show ext < 65536; omega, D.q0, D.q1, by show 0 ≤ s.tl - 1; have := O.tl; omega, by show s.tl - 1 < 256; have := D.t1; omega, D.md, D.op, D.o4, D.tx, D.ta⟩
    exact ⟨fun w => out_any s (cnf c) ext w D.t0 (by have := D.t1; omega), kframe_any s D, kframe_any _ D2⟩
  · obtain ⟨O, hp, hs⟩ := h
    have l1 := C.l1
    have l2 := C.l2
    have h2 := C.h2
    have xb : 1 ≤ ext ∧ ext ≤ 65535 := by rw [hx, chs_nil]; split <;> omega
    obtain ⟨F, e1, e2, e3, e4, e5, e6, e7⟩ := O.parts
    have := frame_first T G (kfr s) O.all O.exam O.chk O.kinds.2.2 (by rw [e7]; simpa using O.n4) O.pss ext (by rw [e3, O.sport, hp, hs]; exact hx)
    rw [O.goes ext (by omega) (by omega) hoa.1 hoa.2, e3, e6, e7, O.sport] at this
    refine ⟨_, ?_, this⟩
    have hu := used_new s.pr s.sa s.sp ext s.da (if s.pr = 1 then 0 else wd (kfr s) (ppl (kfr s) 2)) ((cnf c).idle s.pr)
    rw [hp] at hu ⊢
    exact hu
end Go.Proofs.YthiljpbodmajaaaGreat
namespace Go.Proofs.YthiljpbodmajaaaGreat.fades
open Go.ChangeShapes Go.WideShapes Go.ChangeAt Go.RowKit Plain
set_option linter.unusedVariables false

theorem own : ownKnob Tryz.prog.godebug = none := by kernel_rfl
theorem laidOut : laidOutB Tryz.prog = true := by kernel_rfl

set_option maxRecDepth 100000 in
theorem lifted (os : Os) (started : os.Started) (H : Type) (enc : TypeId × Value → H) :
    ReturnsInHanded {} Tryz.checked os 8 .any (Rows.fadesSpec.pre6 enc Tryz.prog Tryz.f8 Rows.fadesRow.domain false) (Rows.fadesSpec.post enc Tryz.prog Tryz.f8 false true false false) := by
  refine returnsInHanded_of_change (C := Tryz.checked) own started (by kernel_rfl) Tryz.func8
    (ChangeSpec.witness6 (enc := enc) (C := Tryz.checked) false ⟨#[], #[.agg #[.int .i64 0, .int .i64 0, .int .i64 0, .int .i64 0, .int .i64 0, .int .i64 0, .int .i64 0, .int .i64 0, .int .i64 0, .int .i64 0, .int .i64 0, .int .i64 0], .agg #[.int .i64 0, .int .i64 0, .int .i64 0, .int .i64 0, .int .i64 0, .int .i64 0, .int .i64 0, .int .i64 0, .int .i64 0, .string ⟨#[]⟩, .string ⟨#[]⟩, .string ⟨#[]⟩], .agg #[.int .i64 0, .int .i64 0, .int .i64 0, .int .i64 0, .int .i64 0, .int .i64 0, .int .i64 0, .int .i64 0, .int .i64 0, .string ⟨#[]⟩, .string ⟨#[]⟩, .string ⟨#[]⟩], .int .i64 0], []⟩ 8 (by kernel_rfl) (by kernel_rfl) (by kernel_rfl) (by kernel_rfl)) ?_
  intro W base args ds gs before hval0 hW hcnd _
  have hval : ∀ (j : Nat) t v, Tryz.f8.params[j]? = some t → args[j]? = some v → Value.okWide Tryz.prog W .any base t v := hval0
  have hW' := hW
  obtain ⟨p, q, hA0, hV, rfl, hfz, hnd⟩ := hW
  have hA : DataW.TrodAll enc Tryz.prog W 0 (fun _ => true) true Tryz.f8.params.toList args.toList ds p := hA0
  rw [Tryz.params8] at hA hval
  obtain ⟨v0, vs0, d0, ds0, p0, q0, hargs, rfl, rfl, h0, r0⟩ := trodAll_cons hA
  obtain ⟨v1, vs1, d1, ds1, p1, q1, hargs1, rfl, rfl, h1, r1⟩ := trodAll_cons r0
  obtain ⟨v2, vs2, d2, ds2, p2, q2, hargs2, rfl, rfl, h2, r2⟩ := trodAll_cons r1
  obtain ⟨v3, vs3, d3, ds3, p3, q3, hargs3, rfl, rfl, h3, r3⟩ := trodAll_cons r2
  obtain ⟨rfl, rfl, rfl⟩ := trodAll_nil r3
  obtain rfl : args = #[v0, v1, v2, v3] := by cases args; simp_all
  obtain ⟨rfl, rfl⟩ := trodVars_none hV
  have k0 := h0
  have k1 := h1
  have k2 := h2
  have lt0 : ∀ x ∈ p0, x.block < W.heap.size := by obtain ⟨m, hm⟩ := k0; exact DataW.trod_lt m _ _ _ hm
  have lt1 : ∀ x ∈ p1, x.block < W.heap.size := by obtain ⟨m, hm⟩ := k1; exact DataW.trod_lt m _ _ _ hm
  have lt2 : ∀ x ∈ p2, x.block < W.heap.size := by obtain ⟨m, hm⟩ := k2; exact DataW.trod_lt m _ _ _ hm
  obtain ⟨cs, rfl, hsz, hz⟩ := open_struct_ints Tryz.underlying28 Tryz.underlying3 (by kernel_rfl) (by kernel_rfl) (by kernel_rfl) (hval 0 28 v0 rfl rfl) h0
  obtain ⟨c0, c1, c2, c3, c4, c5, c6, c7, c8, c9, c10, c11, rfl⟩ := array12 hsz
  obtain ⟨a0, e0, w0⟩ := hz 0 (by decide)
  obtain ⟨a1, e1, w1⟩ := hz 1 (by decide)
  obtain ⟨a2, e2, w2⟩ := hz 2 (by decide)
  obtain ⟨a3, e3, w3⟩ := hz 3 (by decide)
  obtain ⟨a4, e4, w4⟩ := hz 4 (by decide)
  obtain ⟨a5, e5, w5⟩ := hz 5 (by decide)
  obtain ⟨a6, e6, w6⟩ := hz 6 (by decide)
  obtain ⟨a7, e7, w7⟩ := hz 7 (by decide)
  obtain ⟨a8, e8, w8⟩ := hz 8 (by decide)
  obtain ⟨a9, e9, w9⟩ := hz 9 (by decide)
  obtain ⟨a10, e10, w10⟩ := hz 10 (by decide)
  obtain ⟨a11, e11, w11⟩ := hz 11 (by decide)
  simp at e0 e1 e2 e3 e4 e5 e6 e7 e8 e9 e10 e11
  subst e0 e1 e2 e3 e4 e5 e6 e7 e8 e9 e10 e11
  obtain ⟨cs1, rfl, hsz1, hz1⟩ := open_struct_mixed Tryz.underlying30 (by kernel_rfl) (by kernel_rfl) (hval 1 30 v1 rfl rfl) h1
  obtain ⟨c0, c1, c2, c3, c4, c5, c6, c7, c8, c9, c10, c11, rfl⟩ := array12 hsz1
  obtain ⟨b0, e0, y0⟩ := (hz1 0 3 rfl (by kernel_rfl)).1 Tryz.underlying3
  obtain ⟨b1, e1, y1⟩ := (hz1 1 3 rfl (by kernel_rfl)).1 Tryz.underlying3
  obtain ⟨b2, e2, y2⟩ := (hz1 2 3 rfl (by kernel_rfl)).1 Tryz.underlying3
  obtain ⟨b3, e3, y3⟩ := (hz1 3 3 rfl (by kernel_rfl)).1 Tryz.underlying3
  obtain ⟨b4, e4, y4⟩ := (hz1 4 3 rfl (by kernel_rfl)).1 Tryz.underlying3
  obtain ⟨b5, e5, y5⟩ := (hz1 5 3 rfl (by kernel_rfl)).1 Tryz.underlying3
  obtain ⟨b6, e6, y6⟩ := (hz1 6 3 rfl (by kernel_rfl)).1 Tryz.underlying3
  obtain ⟨b7, e7, y7⟩ := (hz1 7 3 rfl (by kernel_rfl)).1 Tryz.underlying3
  obtain ⟨b8, e8, y8⟩ := (hz1 8 3 rfl (by kernel_rfl)).1 Tryz.underlying3
  obtain ⟨b9, e9, y9⟩ := (hz1 9 9 rfl (by kernel_rfl)).2 Tryz.underlying9
  obtain ⟨b10, e10, y10⟩ := (hz1 10 9 rfl (by kernel_rfl)).2 Tryz.underlying9
  obtain ⟨b11, e11, y11⟩ := (hz1 11 9 rfl (by kernel_rfl)).2 Tryz.underlying9
  simp at e0 e1 e2 e3 e4 e5 e6 e7 e8 e9 e10 e11
  subst e0 e1 e2 e3 e4 e5 e6 e7 e8 e9 e10 e11
  obtain ⟨cs2, rfl, hsz2, hz2⟩ := open_struct_mixed Tryz.underlying30 (by kernel_rfl) (by kernel_rfl) (hval 2 30 v2 rfl rfl) h2
  obtain ⟨c0, c1, c2, c3, c4, c5, c6, c7, c8, c9, c10, c11, rfl⟩ := array12 hsz2
  obtain ⟨f0, e0, u0⟩ := (hz2 0 3 rfl (by kernel_rfl)).1 Tryz.underlying3
  obtain ⟨f1, e1, u1⟩ := (hz2 1 3 rfl (by kernel_rfl)).1 Tryz.underlying3
  obtain ⟨f2, e2, u2⟩ := (hz2 2 3 rfl (by kernel_rfl)).1 Tryz.underlying3
  obtain ⟨f3, e3, u3⟩ := (hz2 3 3 rfl (by kernel_rfl)).1 Tryz.underlying3
  obtain ⟨f4, e4, u4⟩ := (hz2 4 3 rfl (by kernel_rfl)).1 Tryz.underlying3
  obtain ⟨f5, e5, u5⟩ := (hz2 5 3 rfl (by kernel_rfl)).1 Tryz.underlying3
  obtain ⟨f6, e6, u6⟩ := (hz2 6 3 rfl (by kernel_rfl)).1 Tryz.underlying3
  obtain ⟨f7, e7, u7⟩ := (hz2 7 3 rfl (by kernel_rfl)).1 Tryz.underlying3
  obtain ⟨f8, e8, u8⟩ := (hz2 8 3 rfl (by kernel_rfl)).1 Tryz.underlying3
  obtain ⟨f9, e9, u9⟩ := (hz2 9 9 rfl (by kernel_rfl)).2 Tryz.underlying9
  obtain ⟨f10, e10, u10⟩ := (hz2 10 9 rfl (by kernel_rfl)).2 Tryz.underlying9
  obtain ⟨f11, e11, u11⟩ := (hz2 11 9 rfl (by kernel_rfl)).2 Tryz.underlying9
  simp at e0 e1 e2 e3 e4 e5 e6 e7 e8 e9 e10 e11
  subst e0 e1 e2 e3 e4 e5 e6 e7 e8 e9 e10 e11
  obtain ⟨tt, rfl, rfl, rfl, wt⟩ := open_int Tryz.underlying3 (hval 3 3 v3 rfl rfl) h3
  have bd : ∀ {n : Int}, (Lit.int .i64 n).wf = true → -9223372036854775808 ≤ n ∧ n < 9223372036854775808 := fun h => by have := bounds_i64 h; omega
  have WC : Cfwf ⟨a0, a1, a2, a3, a4, a5, a6, a7, a8, a9, a10, a11⟩ := ⟨bd w0, bd w1, bd w2, bd w3, bd w4, bd w5, bd w6, bd w7, bd w8, bd w9, bd w10, bd w11⟩
  have WP : Pkwf ⟨b0, b1, b2, b3, b4, b5, b6, b7, b8, b9, b10, b11⟩ := ⟨bd y0, bd y1, bd y2, bd y3, bd y4, bd y5, bd y6, bd y8, y9, y10, y11⟩
  have WQ : Pkwf ⟨f0, f1, f2, f3, f4, f5, f6, f7, f8, f9, f10, f11⟩ := ⟨bd u0, bd u1, bd u2, bd u3, bd u4, bd u5, bd u6, bd u8, u9, u10, u11⟩
  clear hA0 hval0
  refine (fades_any _ WC _ _ WP WQ tt (bd wt).1 (bd wt).2 W).mono fun e W' ⟨he, bel⟩ => ?_
  subst he
  exact ⟨_, rfl, _, _, _, [], _, [], hW', trodAll_mk1 (shut_bool Tryz.underlying4 _), (trodAll_cons_mk (Below.trod laidOut (by kernel_rfl) (of_decide_eq_true (by kernel_rfl)) k0 bel lt0) (trodAll_cons_mk (Below.trod laidOut (by kernel_rfl) (of_decide_eq_true (by kernel_rfl)) k1 bel lt1) (trodAll_cons_mk (Below.trod laidOut (by kernel_rfl) (of_decide_eq_true (by kernel_rfl)) k2 bel lt2) (trodAll_cons_mk (shut_int Tryz.underlying3 wt) trodAll_mk0)))), rfl, bel.frame _, fun h => by cases h⟩

theorem over : Rows.fadesRow.holds Tryz.pinned (OpenSpec.ofChange Rows.fadesSpec) :=
  OpenClaim.holds_of_wide 8 Tryz.f8 rfl rfl rfl rfl rfl rfl rfl ⟨rfl, rfl, rfl, rfl, rfl⟩ rfl rfl rfl rfl rfl (by kernel_rfl) Tryz.func8 (by kernel_rfl)
    (of_decide_eq_true (by kernel_rfl)) (by unfold Func.isWrapper; first | (rw [if_pos (by decide +kernel)]; kernel_rfl) | (rw [if_neg (by decide +kernel)]; exact ⟨rfl, rfl⟩))
    (fun os started H enc _ => lifted os started H enc)

theorem proved : Rows.FadesSaid := over
#print axioms proved
end Go.Proofs.YthiljpbodmajaaaGreat.fades
