/-
  natboxkeep.Undone (P10, P15, P16).
-/
import Derived.Test.YthiljpbodmajaabGreatRows
import Derived.WalkKit
import Derived.ProofKit
import Derived.OpenShut
import Derived.ChangeOld
import Derived.Below
import Derived.Test.YthiljpbodmajaabGreatUndc
import Derived.Test.YthiljpbodmajaabGreatNotp
import Derived.Test.YthiljpbodmajaabGreatAgnp
namespace Go.Proofs.YthiljpbodmajaabGreat
open Go.RowKit Plain
set_option linter.unusedVariables false
theorem new_facts {p a q x pa pp i : Int} {m : Mp} (h : m = (Mp.new p a q x).used pa pp i) (x1 : 1 ≤ x) (x2 : x ≤ 65535) (a0 : 0 ≤ a) (a1 : a < 4294967296) (q0 : 0 ≤ q) (q1 : q < 65536) (i0 : 1 ≤ i) (i1 : i ≤ 100000) :
    m.pr = p ∧ m.ea = a ∧ m.ep = q ∧ m.ex = x ∧ m.le = i ∧ m.kn = 1 ∧ m.knows pa pp = true ∧ Mok m := by
  have M := new_mok (p := p) (b := pa) (r := pp) x1 x2 a0 a1 q0 q1 i0 i1
  rw [← h] at M
  rw [new_used] at h
  subst h
  exact ⟨rfl, rfl, rfl, rfl, rfl, rfl, by simp [Mp.knows], M⟩
theorem undone_any (c : Cf) (W : Cfwf c) (p : Pk) (Wp : Pkwf p) (n : Nt) (Wn : Ntwf n) (tt : Int) (t0 : -9223372036854775808 ≤ tt) (t1 : tt < 9223372036854775808) (w : World) :
    Calls Tryz.prog 5 #[.agg (cfl c), .agg (pkl p), .agg (ntl n), .int .i64 tt] w fun e w' => e = .returned (.bool true) ∧ Below w.heap.size w w' := by
  have G := cnf_ok c
  have M := cok_mtu G
  have C := cok_of G
  have hoa := us_bd C.oa
  generalize hg : cnf c = g at *
  have hse := wth_bd n.se 0 255 (by decide)
  have hok : ∀ d ext, Outok d g → 1 ≤ ext → ext ≤ 65535 → Dgok { d with sa := g.oa, sp := ext, tl := d.tl - 1 } ∧ (kfr { d with sa := g.oa, sp := ext, tl := d.tl - 1 }).size ≤ 65535 := fun d ext O x1 x2 => by
    have D := O.ok
    have ht := O.tl
    have D2 : Dgok { d with sa := g.oa, sp := ext, tl := d.tl - 1 } := ⟨D.pr, hoa.1, hoa.2, D.d0, D.d1, by show 0 ≤ ext; omega, by show ext < 65536; omega, D.q0, D.q1, by show 0 ≤ d.tl - 1; omega, by show d.tl - 1 < 256; have := D.t1; omega, D.md, D.op, D.o4, D.tx, D.ta⟩
    refine ⟨D2, ?_⟩
    have E : Ends d { d with sa := g.oa, sp := ext } := ⟨rfl, rfl, rfl, rfl, rfl, rfl, rfl, rfl, rfl, rfl⟩
    have D3 : Dgok { d with sa := g.oa, sp := ext } := ⟨D.pr, hoa.1, hoa.2, D.d0, D.d1, by show 0 ≤ ext; omega, by show ext < 65536; omega, D.q0, D.q1, D.t0, D.t1, D.md, D.op, D.o4, D.tx, D.ta⟩
    have hb : (kbd { d with sa := g.oa, sp := ext }).size = (kbd d).size := by rw [kbd_eq D3, kbd_eq D]; exact E.kbx D3 D _ _
    have h1 := kfr_size D
    have h2 := O.all
    rw [kfr_size D2]
    show 20 + d.op.size + (kbd { d with sa := g.oa, sp := ext }).size + d.ta.size ≤ 65535
    rw [hb]; omega
  refine undone_core c g n (fun d => Outok d g) (fun d ext m => Outok d g ∧ 1 ≤ ext ∧ ext ≤ 65535 ∧ ∃ k, Ntd m { d with sa := g.oa, sp := ext, tl := d.tl - 1 } n g g.oa g.im k)
    (fun d ext m => ⟨{ m.d with tl := m.d.tl - 1 }, m.ki, m.co, m.re, rqt { { d with sa := g.oa, sp := ext, tl := d.tl - 1 } with tl := wth n.se 0 255 } { d with tl := wth n.se 0 255 } (m.qu.size : Int)⟩)
    (fun d ext m => lfr m) (fun d ext m => lfr ⟨{ m.d with da := d.sa, tl := m.d.tl - 1 }, m.ki, m.co, m.re, rqt { { d with sa := g.oa, sp := ext, tl := d.tl - 1 } with tl := wth n.se 0 255 } { d with tl := wth n.se 0 255 } (m.qu.size : Int)⟩)
    p.kd p.sa p.sp p.da p.dp p.tl p.op p.bi p.sr tt p.md p.tx p.ta w (by rw [← hg]; exact kconf_any c W)
    (fun wx => (sentc_any p g g.om Wp M.2.2.1 M.2.2.2 wx).mono fun e w' h => ?_) (fun d hd => ?_) (fun p => idle_bd G p)
    (fun id h0 h1 => ⟨wth tt 0 (id - 1), wth_bd tt 0 (id - 1) (by omega), fun w => kwithin_any tt 0 (id - 1) w (by omega) (by decide) (by omega) t0 t1⟩)
    (fun wx base b v m n T n0 n1 hl => tick_one G T n0 n1 hl) (fun d ext hd x1 x2 => fun w => out_any d g ext w hd.ok.t0 (by have := hd.ok.t1; omega))
    (fun d ext wx hd x1 x2 => ?_) (fun d ext m hR => ?_) (fun d ext m hR => ?_) (fun d ext m wx base b v tk ti mp hd hR T m1 m2 m3 m4 m5 m6 => ?_)
  · obtain ⟨⟨d, he, hS⟩, hb⟩ := h
    exact ⟨d, he, hS.out (wth_bd _ _ _ (by decide)).1, hb⟩
  · obtain ⟨ext, m, hm, hx, hs⟩ := start_m g G d hd
    have hi := idle_bd G d.pr
    have D := hd.ok
    exact ⟨ext, m, new_facts hm hx.1 hx.2.1 D.s0 D.s1 D.p0 D.p1 hi.1 hi.2, ⟨hx.1, hx.2.1⟩, hs⟩
  · obtain ⟨D2, hz⟩ := hok d ext hd x1 x2
    refine (noted_any n Wn g _ D2 hz g.oa g.im C.oa M.1 M.2.1 wx).mono fun e w' h => ?_
    obtain ⟨⟨m, k, he, hN⟩, hb⟩ := h
    exact ⟨m, he, ⟨hd, x1, x2, k, hN⟩, hb⟩
  · obtain ⟨hd, x1, x2, k, hN⟩ := hR
    obtain ⟨D2, hz⟩ := hok d ext hd x1 x2
    have hk := ntd_k hN
    have := labout_any n Wn D2 hd.ok ⟨rfl, rfl, rfl, rfl, rfl, rfl, rfl, rfl, rfl, rfl⟩ hN.nt
    rw [hk] at this
    exact this
  · obtain ⟨hd, x1, x2, k, hN⟩ := hR
    obtain ⟨D2, hz⟩ := hok d ext hd x1 x2
    have L := hN.nt.ok
    have hrz := ntd_rz hN hd.ok ⟨rfl, rfl, rfl, rfl, rfl, rfl, rfl, rfl, rfl, rfl⟩
    exact ⟨lframe_any m L.hd (by have := L.all; have := L.re; omega), ntd_frame hN m.d.sa d.sa L.us hd.us _ hrz⟩
  · obtain ⟨_, x1, x2, k, hN⟩ := hR
    have L := hN.nt.ok
    have hk := ntd_k hN
    have hoth := oth_ne n.sr g.ia g.oa
    have n1 : ¬ m.d.sa = g.ia := by rw [hN.sa]; exact hoth.1
    have n2 : ¬ m.d.sa = g.oa := by rw [hN.sa]; exact hoth.2
    have hio : ¬ g.oa = g.ia := fun e => C.ne e.symm
    have N : Noted m { { d with tl := wth n.se 0 255 } with sa := g.oa, sp := mp.ex } k := by rw [m4]; exact hN.nt
    obtain ⟨e1, e2, e3, e4, e5, e6⟩ := N.exam (g := g) 1 (.inr rfl) n1 n2 (by rw [hN.da]; exact hio) (fun _ => hN.da)
    have hf : ([mp] : List Mp)[([mp] : List Mp).findIdx (·.has d.pr mp.ex)]? = some mp := by
      have hh : mp.has d.pr mp.ex = true := by unfold Mp.has; rw [m1]; simp
      simp [List.findIdx_cons, hh]
    have hR := undone_R (u := { d with tl := wth n.se 0 255 }) (tk := tk) (ex := mp.ex) (ms := [mp]) (mp := mp) G (dg_tl hd.ok _ hse.1 (by omega)) hd.kd hd.us N n1 n2 hN.da hN.len hf m2 m3 m5
    have fr := frame_note T G (tok_one (by have := C.c1; omega) m6) 1 (lfr m) (by have := L.len (kcs m.d (lbx m (lck m)).size) (lck m); rw [← lfr_eq] at this; exact Nat.le_trans this (by decide)) e1 e2
    rw [hR, hk, m4] at fr
    simp only [Rp.val] at fr
    exact fr
end Go.Proofs.YthiljpbodmajaabGreat
namespace Go.Proofs.YthiljpbodmajaabGreat.undone
open Go.ChangeShapes Go.WideShapes Go.ChangeAt Go.RowKit Plain
set_option linter.unusedVariables false

theorem own : ownKnob Tryz.prog.godebug = none := by kernel_rfl
theorem laidOut : laidOutB Tryz.prog = true := by kernel_rfl

set_option maxRecDepth 100000 in
theorem lifted (os : Os) (started : os.Started) (H : Type) (enc : TypeId × Value → H) :
    ReturnsInHanded {} Tryz.checked os 5 .any (Rows.undoneSpec.pre6 enc Tryz.prog Tryz.f5 Rows.undoneRow.domain false) (Rows.undoneSpec.post enc Tryz.prog Tryz.f5 false true false false) := by
  refine returnsInHanded_of_change (C := Tryz.checked) own started (by kernel_rfl) Tryz.func5
    (ChangeSpec.witness6 (enc := enc) (C := Tryz.checked) false ⟨#[], #[.agg #[.int .i64 0, .int .i64 0, .int .i64 0, .int .i64 0, .int .i64 0, .int .i64 0, .int .i64 0, .int .i64 0, .int .i64 0, .int .i64 0, .int .i64 0, .int .i64 0], .agg #[.int .i64 0, .int .i64 0, .int .i64 0, .int .i64 0, .int .i64 0, .int .i64 0, .int .i64 0, .int .i64 0, .int .i64 0, .string ⟨#[]⟩, .string ⟨#[]⟩, .string ⟨#[]⟩], .agg #[.int .i64 0, .int .i64 0, .int .i64 0, .int .i64 0, .int .i64 0, .int .i64 0, .int .i64 0, .int .i64 0, .string ⟨#[]⟩, .string ⟨#[]⟩], .int .i64 0], []⟩ 8 (by kernel_rfl) (by kernel_rfl) (by kernel_rfl) (by kernel_rfl)) ?_
  intro W base args ds gs before hval0 hW hcnd _
  have hval : ∀ (j : Nat) t v, Tryz.f5.params[j]? = some t → args[j]? = some v → Value.okWide Tryz.prog W .any base t v := hval0
  have hW' := hW
  obtain ⟨p, q, hA0, hV, rfl, hfz, hnd⟩ := hW
  have hA : DataW.TrodAll enc Tryz.prog W 0 (fun _ => true) true Tryz.f5.params.toList args.toList ds p := hA0
  rw [Tryz.params5] at hA hval
  obtain ⟨v0, vs0, d0, ds0, p0, q0, hargs0, rfl, rfl, h0, r0⟩ := trodAll_cons hA
  obtain ⟨v1, vs1, d1, ds1, p1, q1, hargs1, rfl, rfl, h1, r1⟩ := trodAll_cons r0
  obtain ⟨v2, vs2, d2, ds2, p2, q2, hargs2, rfl, rfl, h2, r2⟩ := trodAll_cons r1
  obtain ⟨v3, vs3, d3, ds3, p3, q3, hargs3, rfl, rfl, h3, r3⟩ := trodAll_cons r2
  obtain ⟨rfl, rfl, rfl⟩ := trodAll_nil r3
  obtain rfl : args = #[v0, v1, v2, v3] := by cases args; simp_all
  obtain ⟨rfl, rfl⟩ := trodVars_none hV
  have k0 := h0
  have lt0 : ∀ x ∈ p0, x.block < W.heap.size := by obtain ⟨m, hm⟩ := k0; exact DataW.trod_lt m _ _ _ hm
  have k1 := h1
  have lt1 : ∀ x ∈ p1, x.block < W.heap.size := by obtain ⟨m, hm⟩ := k1; exact DataW.trod_lt m _ _ _ hm
  have k2 := h2
  have lt2 : ∀ x ∈ p2, x.block < W.heap.size := by obtain ⟨m, hm⟩ := k2; exact DataW.trod_lt m _ _ _ hm
  have bd : ∀ {n : Int}, (Lit.int .i64 n).wf = true → -9223372036854775808 ≤ n ∧ n < 9223372036854775808 := fun h => by have := bounds_i64 h; omega
  obtain ⟨cs, rfl, hsz0, hz⟩ := open_struct_ints Tryz.underlying23 Tryz.underlying3 (by kernel_rfl) (by kernel_rfl) (by kernel_rfl) (hval 0 23 v0 rfl rfl) h0
  obtain ⟨c0, c1, c2, c3, c4, c5, c6, c7, c8, c9, c10, c11, rfl⟩ := array12 hsz0
  obtain ⟨a0_0, e0, w0_0⟩ := hz 0 (by decide)
  obtain ⟨a0_1, e1, w0_1⟩ := hz 1 (by decide)
  obtain ⟨a0_2, e2, w0_2⟩ := hz 2 (by decide)
  obtain ⟨a0_3, e3, w0_3⟩ := hz 3 (by decide)
  obtain ⟨a0_4, e4, w0_4⟩ := hz 4 (by decide)
  obtain ⟨a0_5, e5, w0_5⟩ := hz 5 (by decide)
  obtain ⟨a0_6, e6, w0_6⟩ := hz 6 (by decide)
  obtain ⟨a0_7, e7, w0_7⟩ := hz 7 (by decide)
  obtain ⟨a0_8, e8, w0_8⟩ := hz 8 (by decide)
  obtain ⟨a0_9, e9, w0_9⟩ := hz 9 (by decide)
  obtain ⟨a0_10, e10, w0_10⟩ := hz 10 (by decide)
  obtain ⟨a0_11, e11, w0_11⟩ := hz 11 (by decide)
  simp at e0 e1 e2 e3 e4 e5 e6 e7 e8 e9 e10 e11
  subst e0 e1 e2 e3 e4 e5 e6 e7 e8 e9 e10 e11
  have W0 : Cfwf ⟨a0_0, a0_1, a0_2, a0_3, a0_4, a0_5, a0_6, a0_7, a0_8, a0_9, a0_10, a0_11⟩ := ⟨bd w0_0, bd w0_1, bd w0_2, bd w0_3, bd w0_4, bd w0_5, bd w0_6, bd w0_7, bd w0_8, bd w0_9, bd w0_10, bd w0_11⟩
  obtain ⟨cs1, rfl, hsz1, hz1⟩ := open_struct_mixed Tryz.underlying25 (by kernel_rfl) (by kernel_rfl) (hval 1 25 v1 rfl rfl) h1
  obtain ⟨c0, c1, c2, c3, c4, c5, c6, c7, c8, c9, c10, c11, rfl⟩ := array12 hsz1
  obtain ⟨a1_0, e0, w1_0⟩ := (hz1 0 3 rfl (by kernel_rfl)).1 Tryz.underlying3
  obtain ⟨a1_1, e1, w1_1⟩ := (hz1 1 3 rfl (by kernel_rfl)).1 Tryz.underlying3
  obtain ⟨a1_2, e2, w1_2⟩ := (hz1 2 3 rfl (by kernel_rfl)).1 Tryz.underlying3
  obtain ⟨a1_3, e3, w1_3⟩ := (hz1 3 3 rfl (by kernel_rfl)).1 Tryz.underlying3
  obtain ⟨a1_4, e4, w1_4⟩ := (hz1 4 3 rfl (by kernel_rfl)).1 Tryz.underlying3
  obtain ⟨a1_5, e5, w1_5⟩ := (hz1 5 3 rfl (by kernel_rfl)).1 Tryz.underlying3
  obtain ⟨a1_6, e6, w1_6⟩ := (hz1 6 3 rfl (by kernel_rfl)).1 Tryz.underlying3
  obtain ⟨a1_7, e7, w1_7⟩ := (hz1 7 3 rfl (by kernel_rfl)).1 Tryz.underlying3
  obtain ⟨a1_8, e8, w1_8⟩ := (hz1 8 3 rfl (by kernel_rfl)).1 Tryz.underlying3
  obtain ⟨a1_9, e9, w1_9⟩ := (hz1 9 9 rfl (by kernel_rfl)).2 Tryz.underlying9
  obtain ⟨a1_10, e10, w1_10⟩ := (hz1 10 9 rfl (by kernel_rfl)).2 Tryz.underlying9
  obtain ⟨a1_11, e11, w1_11⟩ := (hz1 11 9 rfl (by kernel_rfl)).2 Tryz.underlying9
  simp at e0 e1 e2 e3 e4 e5 e6 e7 e8 e9 e10 e11
  subst e0 e1 e2 e3 e4 e5 e6 e7 e8 e9 e10 e11
  have W1 : Pkwf ⟨a1_0, a1_1, a1_2, a1_3, a1_4, a1_5, a1_6, a1_7, a1_8, a1_9, a1_10, a1_11⟩ := ⟨bd w1_0, bd w1_1, bd w1_2, bd w1_3, bd w1_4, bd w1_5, bd w1_6, bd w1_8, w1_9, w1_10, w1_11⟩
  obtain ⟨cs2, rfl, hsz2, hz2⟩ := open_struct_mixed Tryz.underlying53 (by kernel_rfl) (by kernel_rfl) (hval 2 53 v2 rfl rfl) h2
  obtain ⟨c0, c1, c2, c3, c4, c5, c6, c7, c8, c9, rfl⟩ := array10 hsz2
  obtain ⟨a2_0, e0, w2_0⟩ := (hz2 0 3 rfl (by kernel_rfl)).1 Tryz.underlying3
  obtain ⟨a2_1, e1, w2_1⟩ := (hz2 1 3 rfl (by kernel_rfl)).1 Tryz.underlying3
  obtain ⟨a2_2, e2, w2_2⟩ := (hz2 2 3 rfl (by kernel_rfl)).1 Tryz.underlying3
  obtain ⟨a2_3, e3, w2_3⟩ := (hz2 3 3 rfl (by kernel_rfl)).1 Tryz.underlying3
  obtain ⟨a2_4, e4, w2_4⟩ := (hz2 4 3 rfl (by kernel_rfl)).1 Tryz.underlying3
  obtain ⟨a2_5, e5, w2_5⟩ := (hz2 5 3 rfl (by kernel_rfl)).1 Tryz.underlying3
  obtain ⟨a2_6, e6, w2_6⟩ := (hz2 6 3 rfl (by kernel_rfl)).1 Tryz.underlying3
  obtain ⟨a2_7, e7, w2_7⟩ := (hz2 7 3 rfl (by kernel_rfl)).1 Tryz.underlying3
  obtain ⟨a2_8, e8, w2_8⟩ := (hz2 8 9 rfl (by kernel_rfl)).2 Tryz.underlying9
  obtain ⟨a2_9, e9, w2_9⟩ := (hz2 9 9 rfl (by kernel_rfl)).2 Tryz.underlying9
  simp at e0 e1 e2 e3 e4 e5 e6 e7 e8 e9
  subst e0 e1 e2 e3 e4 e5 e6 e7 e8 e9
  have W2 : Ntwf ⟨a2_0, a2_1, a2_2, a2_3, a2_4, a2_5, a2_6, a2_7, a2_8, a2_9⟩ := ⟨bd w2_0, bd w2_1, bd w2_2, bd w2_3, bd w2_4, bd w2_5, bd w2_6, bd w2_7, w2_8, w2_9⟩
  obtain ⟨t3, rfl, rfl, rfl, wt3⟩ := open_int Tryz.underlying3 (hval 3 3 v3 rfl rfl) h3
  clear hA0 hval0
  refine (undone_any _ W0 _ W1 _ W2 t3 (bd wt3).1 (bd wt3).2 W).mono fun e W' ⟨he, bel⟩ => ?_
  subst he
  exact ⟨_, rfl, _, _, _, [], _, [], hW', trodAll_mk1 (shut_bool Tryz.underlying4 _), (trodAll_cons_mk (Below.trod laidOut (by kernel_rfl) (of_decide_eq_true (by kernel_rfl)) k0 bel lt0) (trodAll_cons_mk (Below.trod laidOut (by kernel_rfl) (of_decide_eq_true (by kernel_rfl)) k1 bel lt1) (trodAll_cons_mk (Below.trod laidOut (by kernel_rfl) (of_decide_eq_true (by kernel_rfl)) k2 bel lt2) (trodAll_cons_mk (shut_int Tryz.underlying3 wt3) trodAll_mk0)))), rfl, bel.frame _, fun h => by cases h⟩

theorem over : Rows.undoneRow.holds Tryz.pinned (OpenSpec.ofChange Rows.undoneSpec) :=
  OpenClaim.holds_of_wide 5 Tryz.f5 rfl rfl rfl rfl rfl rfl rfl ⟨rfl, rfl, rfl, rfl, rfl⟩ rfl rfl rfl rfl rfl (by kernel_rfl) Tryz.func5 (by kernel_rfl)
    (of_decide_eq_true (by kernel_rfl)) (by unfold Func.isWrapper; first | (rw [if_pos (by decide +kernel)]; kernel_rfl) | (rw [if_neg (by decide +kernel)]; exact ⟨rfl, rfl⟩))
    (fun os started H enc _ => lifted os started H enc)

theorem proved : Rows.UndoneSaid := over
#print axioms proved
end Go.Proofs.YthiljpbodmajaabGreat.undone
