/-
  natboxkeep.Again (P8).
-/
import Derived.Test.YthiljpbodmajaaaGreatRows
import Derived.WalkKit
import Derived.ProofKit
import Derived.OpenShut
import Derived.ChangeOld
import Derived.Below
import Derived.Test.YthiljpbodmajaaaGreatAgnc
import Derived.Test.YthiljpbodmajaaaGreatAgnp
import Derived.Test.YthiljpbodmajaaaGreatSana
import Derived.Test.YthiljpbodmajaaaGreatCfgn
namespace Go.Proofs.YthiljpbodmajaaaGreat
open Go.RowKit Plain
set_option linter.unusedVariables false
theorem holdsN {w : World} {base b : Nat} {c : Cf} {tk ti ext id kn : Int} {v : Value} {m : Mp} {d : Dg} (T : Bat w base b c tk ti v [m]) (hm : m.pr = d.pr ∧ m.ea = d.sa ∧ m.ep = d.sp ∧ m.ex = ext ∧ m.le = id ∧ m.kn = kn) {wx : World} (hx : Below w.heap.size w wx) : Calls Tryz.prog 32 #[.pointer (some ⟨b, 0, none⟩), .int .i64 (0 : Int)] wx fun e w' => e = .returned (.tuple #[.agg #[.int .i64 d.pr, .int .i64 d.sa, .int .i64 d.sp, .int .i64 ext, .int .i64 id, .int .i64 kn], .int .i64 0]) ∧ Below wx.heap.size wx w' := by
  obtain ⟨h1, h2, h3, h4, h5, h6⟩ := hm
  have := mapping_at (k := 0) (Tb.below T hx) (by simp) (m := m) (by simp)
  rw [h1, h2, h3, h4, h5, h6] at this
  exact this
theorem again_any (c : Cf) (W : Cfwf c) (p q v : Pk) (Wp : Pkwf p) (Wq : Pkwf q) (Wv : Pkwf v) (w : World) :
    Calls Tryz.prog 6 #[.agg (cfl c), .agg (pkl p), .agg (pkl q), .agg (pkl v)] w fun e w' => e = .returned (.bool true) ∧ Below w.heap.size w w' := by
  have cC := kconf_any c W
  have G := cnf_ok c
  generalize cnf c = g at *
  have M := cok_mtu G
  have C := cok_of G
  have hoa := us_bd C.oa
  have hbu := (cok_rest G).1
  have l1 := C.l1; have l2 := C.l2; have h2 := C.h2
  have spb : ∀ (d s : Dg) (sp : Int), Outok s g → sp = (if s.sa = d.sa ∧ s.sp = d.sp then (s.sp + 1) % 65536 else s.sp) → (0 ≤ sp ∧ sp < 65536) ∧ ¬ (s.sa = d.sa ∧ sp = d.sp) := fun d s sp S h => by
    have := S.ok.p0; have := S.ok.p1
    by_cases k : s.sa = d.sa ∧ s.sp = d.sp
    · rw [if_pos k] at h
      refine ⟨by omega, fun e => ?_⟩
      have := k.2; have := e.2
      omega
    · rw [if_neg k] at h
      exact ⟨by omega, fun e => k ⟨e.1, by rw [← h]; exact e.2⟩⟩
  refine again_core c g (fun d => Outok d g ∧ d.pr = kpr (pk p.kd 5)) (fun d ext mp => mp = (Mp.new d.pr d.sa d.sp ext).used d.da (if d.pr = 1 then 0 else d.dp) (g.idle d.pr) ∧ 1 ≤ ext ∧ ext ≤ 65535 ∧ ext = chs g [] d.pr d.sp)
    (fun d a => Outok a g ∧ a.pr = d.pr ∧ a.sa = d.sa ∧ a.sp = d.sp) (fun s => Outok s g ∧ s.pr = kpr (pk p.kd 5))
    p.kd p.sa p.sp p.da p.dp p.tl p.op p.bi p.sr q.kd q.sa q.sp q.da q.dp q.tl q.op q.bi q.sr v.kd v.sa v.sp v.da v.dp v.tl v.op v.bi v.sr p.md p.tx p.ta q.md q.tx q.ta v.md v.tx v.ta w cC
    (fun wx => (sentc_any p g g.om Wp M.2.2.1 M.2.2.2 wx).mono fun e w' h => ?_) (fun d hd => ?_) (fun d wx hd => ?_)
    (fun wx => (sentc_any { v with kd := p.kd } g g.om ⟨Wp.kd, Wv.sa, Wv.sp, Wv.da, Wv.dp, Wv.tl, Wv.op, Wv.sr, Wv.md, Wv.tx, Wv.ta⟩ M.2.2.1 M.2.2.2 wx).mono fun e w' h => ?_) (fun d ext mp a hd hM hR => ?_)
  · obtain ⟨⟨d, he, hS⟩, hb⟩ := h
    exact ⟨d, he, ⟨hS.out (wth_bd _ _ _ (by decide)).1, hS.pr⟩, hb⟩
  · obtain ⟨ext, m, hm, hx, hs⟩ := start_m g G d hd.1
    exact ⟨ext, m, ⟨hm, hx.1, hx.2.1, hx.2.2⟩, hs⟩
  · have D := hd.1.ok
    refine (sentc_any { q with kd := p.kd, sa := d.sa, sp := d.sp } g g.om ⟨Wp.kd, ⟨by have := D.s0; show _ ≤ d.sa; omega, by have := D.s1; show d.sa < _; omega⟩, ⟨by have := D.p0; show _ ≤ d.sp; omega, by have := D.p1; show d.sp < _; omega⟩, Wq.da, Wq.dp, Wq.tl, Wq.op, Wq.sr, Wq.md, Wq.tx, Wq.ta⟩ M.2.2.1 M.2.2.2 wx).mono fun e w' h => ?_
    obtain ⟨⟨a, he, hS⟩, hb⟩ := h
    have e1 : oth d.sa g.ia g.oa = d.sa := oth_id _ _ _ hd.1.us hd.1.n1 hd.1.n2
    have e2 : wth d.sp 0 65535 = d.sp := wth_id _ _ _ D.p0 (by have := D.p1; omega)
    exact ⟨a, he, ⟨hS.out (wth_bd _ _ _ (by decide)).1, hS.pr.trans hd.2.symm, hS.sa.trans e1, hS.sp.trans e2⟩, hb⟩
  · obtain ⟨⟨s, he, hS⟩, hb⟩ := h
    exact ⟨s, he, ⟨hS.out (wth_bd _ _ _ (by decide)).1, hS.pr⟩, hS.ok.p0, hS.ok.p1, hb⟩
  · obtain ⟨O, hpr⟩ := hd
    obtain ⟨hm, x1, x2, hx⟩ := hM
    obtain ⟨A, hp, hs, hq⟩ := hR
    have D := O.ok
    have DA := A.ok
    have hi := idle_bd G d.pr
    obtain ⟨F, e1, e2, e3, e4, e5, e6, e7⟩ := A.parts
    have U := used_one d.pr d.sa d.sp ext d.da (if d.pr = 1 then 0 else d.dp) (g.idle d.pr) a.da (if a.pr = 1 then 0 else a.dp) (g.idle a.pr)
    have N := new_used d.pr d.sa d.sp ext d.da (if d.pr = 1 then 0 else d.dp) (g.idle d.pr)
    rw [← hm] at U N
    have ho : mp.of a.pr a.sa a.sp = true := by rw [N]; simp [Mp.of, hp, hs, hq]
    have ht : mp.takes a.da (if a.pr = 1 then 0 else a.dp) = true := by rw [N]; simp [Mp.takes]
    have hx0 : mp.ex = ext := by rw [N]
    have hu : Go.Proofs.YthiljpbodmajaaaGreat.fromB g [mp] (kfr a) = some (ext, [mp.used a.da (if a.pr = 1 then 0 else a.dp) (g.idle a.pr)]) := by rw [A.fromB, use_hit ho ht, hx0]
    have Mm : Mok mp := by rw [hm]; exact new_mok x1 x2 D.s0 D.s1 D.p0 D.p1 hi.1 hi.2
    have hkn : (mp.used a.da (if a.pr = 1 then 0 else a.dp) (g.idle a.pr)).kn = if a.da = d.da ∧ (a.dp = d.dp ∨ d.pr = 1) then 1 else 2 := by
      rw [U.2.2.2.2.2, hp]
      by_cases h1 : d.pr = 1
      · simp [h1]
        by_cases h2 : a.da = d.da
        · simp [h2]
        · rw [if_neg (fun e => h2 e.symm), if_neg h2]
      · simp [h1]
        by_cases h2 : a.da = d.da ∧ a.dp = d.dp
        · rw [if_pos ⟨h2.1.symm, h2.2.symm⟩, if_pos h2]
        · rw [if_neg (fun e => h2 ⟨e.1.symm, e.2.symm⟩), if_neg h2]
    obtain ⟨m2, hm2⟩ : ∃ m2, m2 = mp.used a.da (if a.pr = 1 then 0 else a.dp) (g.idle a.pr) := ⟨_, rfl⟩
    rw [← hm2] at U hu hkn
    have hm6 : m2.pr = d.pr ∧ m2.ea = d.sa ∧ m2.ep = d.sp ∧ m2.ex = ext ∧ m2.le = g.idle d.pr ∧ m2.kn = if a.da = d.da ∧ (a.dp = d.dp ∨ d.pr = 1) then 1 else 2 := ⟨U.1, U.2.1, U.2.2.1, U.2.2.2.1, by rw [U.2.2.2.2.1, hp], hkn⟩
    have hm7 : m2.pr = d.pr ∧ m2.ea = d.sa ∧ m2.ep = d.sp ∧ m2.ex = ext ∧ m2.le = g.idle d.pr ∧ (m2.kn = 1 ∨ m2.kn = 2) := ⟨hm6.1, hm6.2.1, hm6.2.2.1, hm6.2.2.2.1, hm6.2.2.2.2.1, by rw [hkn]; split; exact .inl rfl; exact .inr rfl⟩
    have D2 : Dgok { a with sa := g.oa, sp := ext, tl := a.tl - 1 } := ⟨DA.pr, hoa.1, hoa.2, DA.d0, DA.d1, by show 0 ≤ ext; omega, by show ext < 65536; omega, DA.q0, DA.q1, by show 0 ≤ a.tl - 1; have := A.tl; omega, by show a.tl - 1 < 256; have := DA.t1; omega, DA.md, DA.op, DA.o4, DA.tx, DA.ta⟩
    have M2 := m2_ok G D x1 x2 hm7
    refine ⟨(if a.da = d.da ∧ (a.dp = d.dp ∨ d.pr = 1) then 1 else 2), g.idle d.pr, m2, fun w => out_any a g ext w DA.t0 (by have := DA.t1; omega), kframe_any a DA, kframe_any _ D2, fun wx base b v T => ?_, fun e => by rw [if_neg (of_decide_eq_false e)], fun e => by rw [if_pos (of_decide_eq_true e)], fun w => kidle_any g d.pr w, fun wx base b v T => holds_yes b 0 _ _ ext d (fun wy hx => holdsN T hm6 hx), fun s hV => ?_⟩
    · have := frame_sends T G (tok_one C.c1 Mm) (kfr a) A.exam A.kinds.2.2 (by rw [e7]; exact A.n4) A.pss ext _ hu
      rw [A.goes ext (by omega) (by omega) hoa.1 hoa.2] at this
      exact (passes_yes b 0 1 _ _ _ this).mono fun e w' q => ⟨q.1, by obtain ⟨w1, ⟨v', h1⟩, h2⟩ := q.2; exact ⟨v', (Left.bl h1).grow h2⟩⟩
    · obtain ⟨S, hsp⟩ := hV
      have hsd : s.pr = d.pr := hsp.trans hpr.symm
      obtain ⟨sp, hspe⟩ : ∃ sp, sp = (if s.sa = d.sa ∧ s.sp = d.sp then (s.sp + 1) % 65536 else s.sp) := ⟨_, rfl⟩
      have B := spb d s sp S hspe
      have S' := S.withsp sp B.1.1 B.1.2
      have DS := S'.ok
      obtain ⟨F', f1, f2, f3, f4, f5, f6, f7⟩ := S'.parts
      have th := again_third (m := m2) G O S' hsd B.2 hx ⟨hm6.1, hm6.2.1, hm6.2.2.1, hm6.2.2.2.1⟩
      refine ⟨sp, fun e => by rw [hspe, if_neg (of_decide_eq_false e)], fun e => by rw [hspe, if_pos (of_decide_eq_true e)], kframe_any _ DS, fun e wx base b v T => ?_, fun e => ?_⟩
      · have hn := th.1 (of_decide_eq_true e)
        have fr := frame_goes T G (tok_one C.c1 M2) 0 (kfr { s with sp := sp }) S'.exam S'.kinds.2.2 hbu.2
        have hr : goR g g.bu [m2] 0 (kfr { s with sp := sp }) = rfs g 11 0 g.om g.bu [m2] (kfr { s with sp := sp }) := by
          unfold goR outR
          rw [if_neg (by decide), if_neg (by rw [f7]; exact S'.n4), if_pos S'.pss, hn]
        rw [hr, rfs_val, rfs_ms] at fr
        exact ⟨_, _, fr.mono fun e w' h => ⟨h.1, h.2.imp fun v' hv => ⟨_, hv⟩⟩⟩
      · obtain ⟨ms, hl, hu2, g1, g2⟩ := th.2 (of_decide_eq_false e)
        have D3 : Dgok { s with sa := g.oa, sp := gvn g.lo g.hi sp ext, tl := s.tl - 1 } := ⟨DS.pr, hoa.1, hoa.2, DS.d0, DS.d1, by show 0 ≤ gvn _ _ _ _; exact Int.le_trans (by decide) g1, by show gvn _ _ _ _ < 65536; exact Int.lt_of_le_of_lt g2 (by decide), DS.q0, DS.q1, by show 0 ≤ s.tl - 1; have := S.tl; omega, by show s.tl - 1 < 256; have : s.tl < 256 := DS.t1; omega, DS.md, DS.op, DS.o4, DS.tx, DS.ta⟩
        refine ⟨gvn g.lo g.hi sp ext, fun w => given_any g sp ext w (by omega) (by omega), fun w => out_any { s with sp := sp } g _ w DS.t0 (by have : s.tl < 256 := DS.t1; show s.tl ≤ 255; omega), kframe_any _ D3, fun wx base b v T => ?_⟩
        have fr := frame_sends T G (tok_one C.c1 M2) (kfr { s with sp := sp }) S'.exam S'.kinds.2.2 (by rw [f7]; exact S'.n4) S'.pss _ ms hu2
        rw [S'.goes _ (Int.le_trans (by decide) g1) (Int.lt_of_le_of_lt g2 (by decide)) hoa.1 hoa.2] at fr
        exact (passes_yes b 0 1 _ _ _ fr).mono fun e w' q => ⟨q.1, by obtain ⟨w1, ⟨v', h1⟩, h2⟩ := q.2; exact ⟨v', ms, hl, (Left.bl h1).grow h2⟩⟩
end Go.Proofs.YthiljpbodmajaaaGreat
namespace Go.Proofs.YthiljpbodmajaaaGreat.again
open Go.ChangeShapes Go.WideShapes Go.ChangeAt Go.RowKit Plain
set_option linter.unusedVariables false

theorem own : ownKnob Tryz.prog.godebug = none := by kernel_rfl
theorem laidOut : laidOutB Tryz.prog = true := by kernel_rfl

set_option maxRecDepth 100000 in
theorem lifted (os : Os) (started : os.Started) (H : Type) (enc : TypeId × Value → H) :
    ReturnsInHanded {} Tryz.checked os 6 .any (Rows.againSpec.pre6 enc Tryz.prog Tryz.f6 Rows.againRow.domain false) (Rows.againSpec.post enc Tryz.prog Tryz.f6 false true false false) := by
  refine returnsInHanded_of_change (C := Tryz.checked) own started (by kernel_rfl) Tryz.func6
    (ChangeSpec.witness6 (enc := enc) (C := Tryz.checked) false ⟨#[], #[.agg #[.int .i64 0, .int .i64 0, .int .i64 0, .int .i64 0, .int .i64 0, .int .i64 0, .int .i64 0, .int .i64 0, .int .i64 0, .int .i64 0, .int .i64 0, .int .i64 0], .agg #[.int .i64 0, .int .i64 0, .int .i64 0, .int .i64 0, .int .i64 0, .int .i64 0, .int .i64 0, .int .i64 0, .int .i64 0, .string ⟨#[]⟩, .string ⟨#[]⟩, .string ⟨#[]⟩], .agg #[.int .i64 0, .int .i64 0, .int .i64 0, .int .i64 0, .int .i64 0, .int .i64 0, .int .i64 0, .int .i64 0, .int .i64 0, .string ⟨#[]⟩, .string ⟨#[]⟩, .string ⟨#[]⟩], .agg #[.int .i64 0, .int .i64 0, .int .i64 0, .int .i64 0, .int .i64 0, .int .i64 0, .int .i64 0, .int .i64 0, .int .i64 0, .string ⟨#[]⟩, .string ⟨#[]⟩, .string ⟨#[]⟩]], []⟩ 8 (by kernel_rfl) (by kernel_rfl) (by kernel_rfl) (by kernel_rfl)) ?_
  intro W base args ds gs before hval0 hW hcnd _
  have hval : ∀ (j : Nat) t v, Tryz.f6.params[j]? = some t → args[j]? = some v → Value.okWide Tryz.prog W .any base t v := hval0
  have hW' := hW
  obtain ⟨p, q, hA0, hV, rfl, hfz, hnd⟩ := hW
  have hA : DataW.TrodAll enc Tryz.prog W 0 (fun _ => true) true Tryz.f6.params.toList args.toList ds p := hA0
  rw [Tryz.params6] at hA hval
  obtain ⟨v0, vs0, d0, ds0, p0, q0, hargs0, rfl, rfl, h0, r0⟩ := trodAll_cons hA
  obtain ⟨v1, vs1, d1, ds1, p1, q1, hargs1, rfl, rfl, h1, r1⟩ := trodAll_cons r0
  obtain ⟨v2, vs2, d2, ds2, p2, q2, hargs2, rfl, rfl, h2, r2⟩ := trodAll_cons r1
  obtain ⟨v3, vs3, d3, ds3, p3, q3, hargs3, rfl, rfl, h3, r3⟩ := trodAll_cons r2
  obtain ⟨rfl, rfl, rfl⟩ := trodAll_nil r3
  obtain rfl : args = #[v0, v1, v2, v3] := by cases args; simp_all
  obtain ⟨rfl, rfl⟩ := trodVars_none hV
  have k0 := h0
  have lt0 : ∀ x ∈ p0, x.block < W.heap.size := by obtain ⟨m, hm⟩ := k0; exact DataW.trod_lt m _ _ _ hm
  have k1 := h1
  have lt1 : ∀ x ∈ p1, x.block < W.heap.size := by obtain ⟨m, hm⟩ := k1; exact DataW.trod_lt m _ _ _ hm
  have k2 := h2
  have lt2 : ∀ x ∈ p2, x.block < W.heap.size := by obtain ⟨m, hm⟩ := k2; exact DataW.trod_lt m _ _ _ hm
  have k3 := h3
  have lt3 : ∀ x ∈ p3, x.block < W.heap.size := by obtain ⟨m, hm⟩ := k3; exact DataW.trod_lt m _ _ _ hm
  have bd : ∀ {n : Int}, (Lit.int .i64 n).wf = true → -9223372036854775808 ≤ n ∧ n < 9223372036854775808 := fun h => by have := bounds_i64 h; omega
  obtain ⟨cs, rfl, hsz0, hz⟩ := open_struct_ints Tryz.underlying28 Tryz.underlying3 (by kernel_rfl) (by kernel_rfl) (by kernel_rfl) (hval 0 28 v0 rfl rfl) h0
  obtain ⟨c0, c1, c2, c3, c4, c5, c6, c7, c8, c9, c10, c11, rfl⟩ := array12 hsz0
  obtain ⟨a0_0, e0, w0_0⟩ := hz 0 (by decide)
  obtain ⟨a0_1, e1, w0_1⟩ := hz 1 (by decide)
  obtain ⟨a0_2, e2, w0_2⟩ := hz 2 (by decide)
  obtain ⟨a0_3, e3, w0_3⟩ := hz 3 (by decide)
  obtain ⟨a0_4, e4, w0_4⟩ := hz 4 (by decide)
  obtain ⟨a0_5, e5, w0_5⟩ := hz 5 (by decide)
  obtain ⟨a0_6, e6, w0_6⟩ := hz 6 (by decide)
  obtain ⟨a0_7, e7, w0_7⟩ := hz 7 (by decide)
  obtain ⟨a0_8, e8, w0_8⟩ := hz 8 (by decide)
  obtain ⟨a0_9, e9, w0_9⟩ := hz 9 (by decide)
  obtain ⟨a0_10, e10, w0_10⟩ := hz 10 (by decide)
  obtain ⟨a0_11, e11, w0_11⟩ := hz 11 (by decide)
  simp at e0 e1 e2 e3 e4 e5 e6 e7 e8 e9 e10 e11
  subst e0 e1 e2 e3 e4 e5 e6 e7 e8 e9 e10 e11
  have W0 : Cfwf ⟨a0_0, a0_1, a0_2, a0_3, a0_4, a0_5, a0_6, a0_7, a0_8, a0_9, a0_10, a0_11⟩ := ⟨bd w0_0, bd w0_1, bd w0_2, bd w0_3, bd w0_4, bd w0_5, bd w0_6, bd w0_7, bd w0_8, bd w0_9, bd w0_10, bd w0_11⟩
  obtain ⟨cs1, rfl, hsz1, hz1⟩ := open_struct_mixed Tryz.underlying30 (by kernel_rfl) (by kernel_rfl) (hval 1 30 v1 rfl rfl) h1
  obtain ⟨c0, c1, c2, c3, c4, c5, c6, c7, c8, c9, c10, c11, rfl⟩ := array12 hsz1
  obtain ⟨a1_0, e0, w1_0⟩ := (hz1 0 3 rfl (by kernel_rfl)).1 Tryz.underlying3
  obtain ⟨a1_1, e1, w1_1⟩ := (hz1 1 3 rfl (by kernel_rfl)).1 Tryz.underlying3
  obtain ⟨a1_2, e2, w1_2⟩ := (hz1 2 3 rfl (by kernel_rfl)).1 Tryz.underlying3
  obtain ⟨a1_3, e3, w1_3⟩ := (hz1 3 3 rfl (by kernel_rfl)).1 Tryz.underlying3
  obtain ⟨a1_4, e4, w1_4⟩ := (hz1 4 3 rfl (by kernel_rfl)).1 Tryz.underlying3
  obtain ⟨a1_5, e5, w1_5⟩ := (hz1 5 3 rfl (by kernel_rfl)).1 Tryz.underlying3
  obtain ⟨a1_6, e6, w1_6⟩ := (hz1 6 3 rfl (by kernel_rfl)).1 Tryz.underlying3
  obtain ⟨a1_7, e7, w1_7⟩ := (hz1 7 3 rfl (by kernel_rfl)).1 Tryz.underlying3
  obtain ⟨a1_8, e8, w1_8⟩ := (hz1 8 3 rfl (by kernel_rfl)).1 Tryz.underlying3
  obtain ⟨a1_9, e9, w1_9⟩ := (hz1 9 9 rfl (by kernel_rfl)).2 Tryz.underlying9
  obtain ⟨a1_10, e10, w1_10⟩ := (hz1 10 9 rfl (by kernel_rfl)).2 Tryz.underlying9
  obtain ⟨a1_11, e11, w1_11⟩ := (hz1 11 9 rfl (by kernel_rfl)).2 Tryz.underlying9
  simp at e0 e1 e2 e3 e4 e5 e6 e7 e8 e9 e10 e11
  subst e0 e1 e2 e3 e4 e5 e6 e7 e8 e9 e10 e11
  have W1 : Pkwf ⟨a1_0, a1_1, a1_2, a1_3, a1_4, a1_5, a1_6, a1_7, a1_8, a1_9, a1_10, a1_11⟩ := ⟨bd w1_0, bd w1_1, bd w1_2, bd w1_3, bd w1_4, bd w1_5, bd w1_6, bd w1_8, w1_9, w1_10, w1_11⟩
  obtain ⟨cs2, rfl, hsz2, hz2⟩ := open_struct_mixed Tryz.underlying30 (by kernel_rfl) (by kernel_rfl) (hval 2 30 v2 rfl rfl) h2
  obtain ⟨c0, c1, c2, c3, c4, c5, c6, c7, c8, c9, c10, c11, rfl⟩ := array12 hsz2
  obtain ⟨a2_0, e0, w2_0⟩ := (hz2 0 3 rfl (by kernel_rfl)).1 Tryz.underlying3
  obtain ⟨a2_1, e1, w2_1⟩ := (hz2 1 3 rfl (by kernel_rfl)).1 Tryz.underlying3
  obtain ⟨a2_2, e2, w2_2⟩ := (hz2 2 3 rfl (by kernel_rfl)).1 Tryz.underlying3
  obtain ⟨a2_3, e3, w2_3⟩ := (hz2 3 3 rfl (by kernel_rfl)).1 Tryz.underlying3
  obtain ⟨a2_4, e4, w2_4⟩ := (hz2 4 3 rfl (by kernel_rfl)).1 Tryz.underlying3
  obtain ⟨a2_5, e5, w2_5⟩ := (hz2 5 3 rfl (by kernel_rfl)).1 Tryz.underlying3
  obtain ⟨a2_6, e6, w2_6⟩ := (hz2 6 3 rfl (by kernel_rfl)).1 Tryz.underlying3
  obtain ⟨a2_7, e7, w2_7⟩ := (hz2 7 3 rfl (by kernel_rfl)).1 Tryz.underlying3
  obtain ⟨a2_8, e8, w2_8⟩ := (hz2 8 3 rfl (by kernel_rfl)).1 Tryz.underlying3
  obtain ⟨a2_9, e9, w2_9⟩ := (hz2 9 9 rfl (by kernel_rfl)).2 Tryz.underlying9
  obtain ⟨a2_10, e10, w2_10⟩ := (hz2 10 9 rfl (by kernel_rfl)).2 Tryz.underlying9
  obtain ⟨a2_11, e11, w2_11⟩ := (hz2 11 9 rfl (by kernel_rfl)).2 Tryz.underlying9
  simp at e0 e1 e2 e3 e4 e5 e6 e7 e8 e9 e10 e11
  subst e0 e1 e2 e3 e4 e5 e6 e7 e8 e9 e10 e11
  have W2 : Pkwf ⟨a2_0, a2_1, a2_2, a2_3, a2_4, a2_5, a2_6, a2_7, a2_8, a2_9, a2_10, a2_11⟩ := ⟨bd w2_0, bd w2_1, bd w2_2, bd w2_3, bd w2_4, bd w2_5, bd w2_6, bd w2_8, w2_9, w2_10, w2_11⟩
  obtain ⟨cs3, rfl, hsz3, hz3⟩ := open_struct_mixed Tryz.underlying30 (by kernel_rfl) (by kernel_rfl) (hval 3 30 v3 rfl rfl) h3
  obtain ⟨c0, c1, c2, c3, c4, c5, c6, c7, c8, c9, c10, c11, rfl⟩ := array12 hsz3
  obtain ⟨a3_0, e0, w3_0⟩ := (hz3 0 3 rfl (by kernel_rfl)).1 Tryz.underlying3
  obtain ⟨a3_1, e1, w3_1⟩ := (hz3 1 3 rfl (by kernel_rfl)).1 Tryz.underlying3
  obtain ⟨a3_2, e2, w3_2⟩ := (hz3 2 3 rfl (by kernel_rfl)).1 Tryz.underlying3
  obtain ⟨a3_3, e3, w3_3⟩ := (hz3 3 3 rfl (by kernel_rfl)).1 Tryz.underlying3
  obtain ⟨a3_4, e4, w3_4⟩ := (hz3 4 3 rfl (by kernel_rfl)).1 Tryz.underlying3
  obtain ⟨a3_5, e5, w3_5⟩ := (hz3 5 3 rfl (by kernel_rfl)).1 Tryz.underlying3
  obtain ⟨a3_6, e6, w3_6⟩ := (hz3 6 3 rfl (by kernel_rfl)).1 Tryz.underlying3
  obtain ⟨a3_7, e7, w3_7⟩ := (hz3 7 3 rfl (by kernel_rfl)).1 Tryz.underlying3
  obtain ⟨a3_8, e8, w3_8⟩ := (hz3 8 3 rfl (by kernel_rfl)).1 Tryz.underlying3
  obtain ⟨a3_9, e9, w3_9⟩ := (hz3 9 9 rfl (by kernel_rfl)).2 Tryz.underlying9
  obtain ⟨a3_10, e10, w3_10⟩ := (hz3 10 9 rfl (by kernel_rfl)).2 Tryz.underlying9
  obtain ⟨a3_11, e11, w3_11⟩ := (hz3 11 9 rfl (by kernel_rfl)).2 Tryz.underlying9
  simp at e0 e1 e2 e3 e4 e5 e6 e7 e8 e9 e10 e11
  subst e0 e1 e2 e3 e4 e5 e6 e7 e8 e9 e10 e11
  have W3 : Pkwf ⟨a3_0, a3_1, a3_2, a3_3, a3_4, a3_5, a3_6, a3_7, a3_8, a3_9, a3_10, a3_11⟩ := ⟨bd w3_0, bd w3_1, bd w3_2, bd w3_3, bd w3_4, bd w3_5, bd w3_6, bd w3_8, w3_9, w3_10, w3_11⟩
  clear hA0 hval0
  refine (again_any _ W0 _ _ _ W1 W2 W3 W).mono fun e W' ⟨he, bel⟩ => ?_
  subst he
  exact ⟨_, rfl, _, _, _, [], _, [], hW', trodAll_mk1 (shut_bool Tryz.underlying4 _), (trodAll_cons_mk (Below.trod laidOut (by kernel_rfl) (of_decide_eq_true (by kernel_rfl)) k0 bel lt0) (trodAll_cons_mk (Below.trod laidOut (by kernel_rfl) (of_decide_eq_true (by kernel_rfl)) k1 bel lt1) (trodAll_cons_mk (Below.trod laidOut (by kernel_rfl) (of_decide_eq_true (by kernel_rfl)) k2 bel lt2) (trodAll_cons_mk (Below.trod laidOut (by kernel_rfl) (of_decide_eq_true (by kernel_rfl)) k3 bel lt3) trodAll_mk0)))), rfl, bel.frame _, fun h => by cases h⟩

theorem over : Rows.againRow.holds Tryz.pinned (OpenSpec.ofChange Rows.againSpec) :=
  OpenClaim.holds_of_wide 6 Tryz.f6 rfl rfl rfl rfl rfl rfl rfl ⟨rfl, rfl, rfl, rfl, rfl⟩ rfl rfl rfl rfl rfl (by kernel_rfl) Tryz.func6 (by kernel_rfl)
    (of_decide_eq_true (by kernel_rfl)) (by unfold Func.isWrapper; first | (rw [if_pos (by decide +kernel)]; kernel_rfl) | (rw [if_neg (by decide +kernel)]; exact ⟨rfl, rfl⟩))
    (fun os started H enc _ => lifted os started H enc)

theorem proved : Rows.AgainSaid := over
#print axioms proved
end Go.Proofs.YthiljpbodmajaaaGreat.again
