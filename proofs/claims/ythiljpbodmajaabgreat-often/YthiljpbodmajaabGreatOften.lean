/-
  natboxkeep.Often (P11 to P13).
-/
import Derived.Test.YthiljpbodmajaabGreatRows
import Derived.WalkKit
import Derived.ProofKit
import Derived.OpenShut
import Derived.ChangeOld
import Derived.Below
import Derived.SizedLaws
import Derived.Test.YthiljpbodmajaabGreatNewb
import Derived.Test.YthiljpbodmajaabGreatOftc
import Derived.Test.YthiljpbodmajaabGreatOftp
import Derived.Test.YthiljpbodmajaabGreatMine
namespace Go.Proofs.YthiljpbodmajaabGreat
open Go.RowKit Plain
set_option linter.unusedVariables false
theorem often_any (c : Cf) (W : Cfwf c) (p : Pk) (Wp : Pkwf p) (A off len cap : Nat) (ao : Option Addr) (zs : List Int) (w : World) (hao : 0 < len → ao = some ⟨A, off, none⟩) (hA : 0 < len → A < w.heap.size) (hzs : zs.length = len) (hc : ∀ (j : Nat) z, zs[j]? = some z → w.cell? ⟨A, off + j, none⟩ = some (.int .i64 z)) (hwf : ∀ z ∈ zs, -9223372036854775808 ≤ z ∧ z < 9223372036854775808) (hlen : len * 8 ≤ 140737488351232) :
    Calls Tryz.prog 3 #[.agg (cfl c), .agg (pkl p), .slice ao len cap] w fun e w' => e = .returned (.bool true) ∧ Below w.heap.size w w' := by
  have G := cnf_ok c
  have M := cok_mtu G
  have C := cok_of G
  have hia := us_bd C.ia
  have hr := cok_rest G
  have hx := pk_bd p.tl 2 (by decide)
  generalize hg : cnf c = g at *
  obtain ⟨x, hx'⟩ : ∃ x, x = pk p.tl 2 := ⟨_, rfl⟩
  rw [← hx'] at hx
  refine often_core c g (fun d => Outok d g) p.kd p.sa p.sp p.da p.dp p.tl p.op p.bi p.sr x p.md p.tx p.ta A off len cap ao zs w hao (by rw [← hg]; exact kconf_any c W) (fun wx => new_bat g G wx)
    (fun wx => (sentc_any p g g.om Wp M.2.2.1 M.2.2.2 wx).mono fun e w' h => ?_) (by rw [hx']; exact fun w => pick_any _ _ w (by decide) (by decide) Wp.tl.1 Wp.tl.2)
    (fun d => kfr { d with tl := x }) (fun d => lfr (mnl g.ia d.sa (prt (kfr { d with tl := x }) 0 (28 + (d.op.size : Int))))) (fun d hd => kframe_any { d with tl := x } (hd.low x hx.1 (by omega)).ok) (fun d hd => mine_any g { d with tl := x } (hd.low x hx.1 (by omega)).ok hia.1 hia.2)
    (fun d wx base b v tk ti hd T t0 t1 => low_frame G (hd.low x hx.1 (by omega)) T t0 t1) (fun wx base b v tk ti n T t0 t1 n0 n1 i0 i1 => ?_)
    (fun z hz => ⟨wth z 0 100000, wth_bd z 0 100000 (by decide), fun w => kwithin_any z 0 100000 w (by decide) (by decide) (by decide) (hwf z hz).1 (hwf z hz).2⟩) hzs hlen hA hc hr.1.1 hr.1.2 hr.2.1.1 hr.2.1.2
  · obtain ⟨⟨d, he, hS⟩, hb⟩ := h
    exact ⟨d, he, hS.out (wth_bd _ _ _ (by decide)).1, hb⟩
  · have h0 : 0 ≤ g.ra * n := Int.mul_nonneg hr.2.1.1 n0
    refine ⟨_, rfl, by split <;> omega, by split <;> omega, ?_⟩
    have := tick_yes T n _ n0 n1 (by omega) i0 t0 t1 hr.2.1.1 hr.2.1.2 hr.1.2 (show (if g.bu < tk + g.ra * n then g.bu else tk + g.ra * n) = _ by rw [Int.mul_comm]) (fun wy cur Ty => age_any Ty (by simp) n n0 n1 (by simp))
    exact this
end Go.Proofs.YthiljpbodmajaabGreat
namespace Go.Proofs.YthiljpbodmajaabGreat.often
open Go.ChangeShapes Go.WideShapes Go.ChangeAt Go.RowKit Plain
set_option linter.unusedVariables false

theorem own : ownKnob Tryz.prog.godebug = none := by kernel_rfl
theorem laidOut : laidOutB Tryz.prog = true := by kernel_rfl

set_option maxRecDepth 100000 in
theorem lifted (os : Os) (started : os.Started) (H : Type) (enc : TypeId × Value → H) :
    ReturnsInHanded {} Tryz.checked os 3 .any (Rows.oftenSpec.pre6 enc Tryz.prog Tryz.f3 Rows.oftenRow.domain false) (Rows.oftenSpec.post enc Tryz.prog Tryz.f3 false true false false) := by
  refine returnsInHanded_of_change_sized (C := Tryz.checked) own started (by kernel_rfl) Tryz.func3
    (ChangeSpec.witness6 (enc := enc) (C := Tryz.checked) false ⟨#[], #[.agg #[.int .i64 0, .int .i64 0, .int .i64 0, .int .i64 0, .int .i64 0, .int .i64 0, .int .i64 0, .int .i64 0, .int .i64 0, .int .i64 0, .int .i64 0, .int .i64 0], .agg #[.int .i64 0, .int .i64 0, .int .i64 0, .int .i64 0, .int .i64 0, .int .i64 0, .int .i64 0, .int .i64 0, .int .i64 0, .string ⟨#[]⟩, .string ⟨#[]⟩, .string ⟨#[]⟩], .slice none 0 0], []⟩ 8 (by kernel_rfl) (by kernel_rfl) (by kernel_rfl) (by kernel_rfl)) ?_
  intro W base args ds gs before hval0 hW hcnd hsz0 _
  have hsz : (DataW.weightsEach Tryz.prog (Tryz.f3.params.toList ++ Rows.oftenSpec.plain.varTypes Tryz.prog) (ds ++ gs)).all (· ≤ reachBytes) = true := hsz0
  clear hsz0
  have hval : ∀ (j : Nat) t v, Tryz.f3.params[j]? = some t → args[j]? = some v → Value.okWide Tryz.prog W .any base t v := hval0
  have hW' := hW
  obtain ⟨p, q, hA0, hV, rfl, hfz, hnd⟩ := hW
  have hA : DataW.TrodAll enc Tryz.prog W 0 (fun _ => true) true Tryz.f3.params.toList args.toList ds p := hA0
  rw [Tryz.params3] at hA hval hsz
  obtain ⟨v0, vs0, d0, ds0, p0, q0, hargs0, rfl, rfl, h0, r0⟩ := trodAll_cons hA
  obtain ⟨v1, vs1, d1, ds1, p1, q1, hargs1, rfl, rfl, h1, r1⟩ := trodAll_cons r0
  obtain ⟨v2, vs2, d2, ds2, p2, q2, hargs2, rfl, rfl, h2, r2⟩ := trodAll_cons r1
  obtain ⟨rfl, rfl, rfl⟩ := trodAll_nil r2
  obtain rfl : args = #[v0, v1, v2] := by cases args; simp_all
  obtain ⟨rfl, rfl⟩ := trodVars_none hV
  have k0 := h0
  have lt0 : ∀ x ∈ p0, x.block < W.heap.size := by obtain ⟨m, hm⟩ := k0; exact DataW.trod_lt m _ _ _ hm
  have k1 := h1
  have lt1 : ∀ x ∈ p1, x.block < W.heap.size := by obtain ⟨m, hm⟩ := k1; exact DataW.trod_lt m _ _ _ hm
  have k2 := h2
  have lt2 : ∀ x ∈ p2, x.block < W.heap.size := by obtain ⟨m, hm⟩ := k2; exact DataW.trod_lt m _ _ _ hm
  have bd : ∀ {n : Int}, (Lit.int .i64 n).wf = true → -9223372036854775808 ≤ n ∧ n < 9223372036854775808 := fun h => by have := bounds_i64 h; omega
  obtain ⟨cs, rfl, hsz0, hz⟩ := open_struct_ints Tryz.underlying23 Tryz.underlying3 (by kernel_rfl) (by kernel_rfl) (by kernel_rfl) (hval 0 23 v0 rfl rfl) h0
  obtain ⟨c0, c1, c2, c3, c4, c5, c6, c7, c8, c9, c10, c11, rfl⟩ := array12 hsz0
  obtain ⟨a0_0, e0, w0_0⟩ := hz 0 (by decide)
  obtain ⟨a0_1, e1, w0_1⟩ := hz 1 (by decide)
  obtain ⟨a0_2, e2, w0_2⟩ := hz 2 (by decide)
  obtain ⟨a0_3, e3, w0_3⟩ := hz 3 (by decide)
  obtain ⟨a0_4, e4, w0_4⟩ := hz 4 (by decide)
  obtain ⟨a0_5, e5, w0_5⟩ := hz 5 (by decide)
  obtain ⟨a0_6, e6, w0_6⟩ := hz 6 (by decide)
  obtain ⟨a0_7, e7, w0_7⟩ := hz 7 (by decide)
  obtain ⟨a0_8, e8, w0_8⟩ := hz 8 (by decide)
  obtain ⟨a0_9, e9, w0_9⟩ := hz 9 (by decide)
  obtain ⟨a0_10, e10, w0_10⟩ := hz 10 (by decide)
  obtain ⟨a0_11, e11, w0_11⟩ := hz 11 (by decide)
  simp at e0 e1 e2 e3 e4 e5 e6 e7 e8 e9 e10 e11
  subst e0 e1 e2 e3 e4 e5 e6 e7 e8 e9 e10 e11
  have W0 : Cfwf ⟨a0_0, a0_1, a0_2, a0_3, a0_4, a0_5, a0_6, a0_7, a0_8, a0_9, a0_10, a0_11⟩ := ⟨bd w0_0, bd w0_1, bd w0_2, bd w0_3, bd w0_4, bd w0_5, bd w0_6, bd w0_7, bd w0_8, bd w0_9, bd w0_10, bd w0_11⟩
  obtain ⟨cs1, rfl, hsz1, hz1⟩ := open_struct_mixed Tryz.underlying25 (by kernel_rfl) (by kernel_rfl) (hval 1 25 v1 rfl rfl) h1
  obtain ⟨c0, c1, c2, c3, c4, c5, c6, c7, c8, c9, c10, c11, rfl⟩ := array12 hsz1
  obtain ⟨a1_0, e0, w1_0⟩ := (hz1 0 3 rfl (by kernel_rfl)).1 Tryz.underlying3
  obtain ⟨a1_1, e1, w1_1⟩ := (hz1 1 3 rfl (by kernel_rfl)).1 Tryz.underlying3
  obtain ⟨a1_2, e2, w1_2⟩ := (hz1 2 3 rfl (by kernel_rfl)).1 Tryz.underlying3
  obtain ⟨a1_3, e3, w1_3⟩ := (hz1 3 3 rfl (by kernel_rfl)).1 Tryz.underlying3
  obtain ⟨a1_4, e4, w1_4⟩ := (hz1 4 3 rfl (by kernel_rfl)).1 Tryz.underlying3
  obtain ⟨a1_5, e5, w1_5⟩ := (hz1 5 3 rfl (by kernel_rfl)).1 Tryz.underlying3
  obtain ⟨a1_6, e6, w1_6⟩ := (hz1 6 3 rfl (by kernel_rfl)).1 Tryz.underlying3
  obtain ⟨a1_7, e7, w1_7⟩ := (hz1 7 3 rfl (by kernel_rfl)).1 Tryz.underlying3
  obtain ⟨a1_8, e8, w1_8⟩ := (hz1 8 3 rfl (by kernel_rfl)).1 Tryz.underlying3
  obtain ⟨a1_9, e9, w1_9⟩ := (hz1 9 9 rfl (by kernel_rfl)).2 Tryz.underlying9
  obtain ⟨a1_10, e10, w1_10⟩ := (hz1 10 9 rfl (by kernel_rfl)).2 Tryz.underlying9
  obtain ⟨a1_11, e11, w1_11⟩ := (hz1 11 9 rfl (by kernel_rfl)).2 Tryz.underlying9
  simp at e0 e1 e2 e3 e4 e5 e6 e7 e8 e9 e10 e11
  subst e0 e1 e2 e3 e4 e5 e6 e7 e8 e9 e10 e11
  have W1 : Pkwf ⟨a1_0, a1_1, a1_2, a1_3, a1_4, a1_5, a1_6, a1_7, a1_8, a1_9, a1_10, a1_11⟩ := ⟨bd w1_0, bd w1_1, bd w1_2, bd w1_3, bd w1_4, bd w1_5, bd w1_6, bd w1_8, w1_9, w1_10, w1_11⟩
  clear hA0 hval0
  obtain ⟨A, off, len, cap, ao, zs, rfl, hao, hA, hzs, hc, hwf, hd⟩ := open_slice_ints Tryz.underlying26 Tryz.underlying3 (by kernel_rfl) (hval 2 26 v2 rfl rfl) h2 lt2
  have hlen : len * 8 ≤ 140737488351232 := by
    rcases hd with ⟨_, rfl⟩ | ⟨el, sp, rfl, hel⟩
    · decide
    · have := sized_slice hsz (j := 2) (t := 26) (e := 3) rfl rfl Tryz.underlying26
      rw [show Tryz.prog.bytesOf 3 = 8 by kernel_rfl] at this
      unfold reachBytes at this
      omega
  refine (often_any _ W0 _ W1 A off len cap ao zs W hao hA hzs hc (fun z hz => bd (hwf z hz)) hlen).mono fun e W' ⟨he, bel⟩ => ?_
  subst he
  exact ⟨_, rfl, _, _, _, [], _, [], hW', trodAll_mk1 (shut_bool Tryz.underlying4 _), (trodAll_cons_mk (Below.trod laidOut (by kernel_rfl) (of_decide_eq_true (by kernel_rfl)) k0 bel lt0) (trodAll_cons_mk (Below.trod laidOut (by kernel_rfl) (of_decide_eq_true (by kernel_rfl)) k1 bel lt1) (trodAll_cons_mk (Below.trod laidOut (by kernel_rfl) (of_decide_eq_true (by kernel_rfl)) k2 bel lt2) trodAll_mk0))), rfl, bel.frame _, fun h => by cases h⟩

theorem over : Rows.oftenRow.holds Tryz.pinned (OpenSpec.ofChange Rows.oftenSpec) :=
  OpenClaim.holds_of_wide 3 Tryz.f3 rfl rfl rfl rfl rfl rfl rfl ⟨rfl, rfl, rfl, rfl, rfl⟩ rfl rfl rfl rfl rfl (by kernel_rfl) Tryz.func3 (by kernel_rfl)
    (of_decide_eq_true (by kernel_rfl)) (by unfold Func.isWrapper; first | (rw [if_pos (by decide +kernel)]; kernel_rfl) | (rw [if_neg (by decide +kernel)]; exact ⟨rfl, rfl⟩))
    (fun os started H enc _ => lifted os started H enc)

theorem proved : Rows.OftenSaid := over
#print axioms proved
end Go.Proofs.YthiljpbodmajaabGreat.often
