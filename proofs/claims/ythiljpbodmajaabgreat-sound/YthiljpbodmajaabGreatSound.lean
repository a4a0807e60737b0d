/-
  natboxkeep.Sound (P7, P10, P12).
-/
import Derived.Test.YthiljpbodmajaabGreatRows
import Derived.WalkKit
import Derived.ProofKit
import Derived.OpenShut
import Derived.ChangeOld
import Derived.Below
import Derived.SizedLaws
import Derived.Test.YthiljpbodmajaabGreatNewb
import Derived.Test.YthiljpbodmajaabGreatSndl
import Derived.Test.YthiljpbodmajaabGreatSndc
import Derived.Test.YthiljpbodmajaabGreatSoud
namespace Go.Proofs.YthiljpbodmajaabGreat
open Go.RowKit Plain
set_option linter.unusedVariables false
theorem aged_tok {c : Cf} {ms : List Mp} (K : Tok c ms) (n : Int) (n0 : 0 ≤ n) : Tok c (aged n ms) := by
  refine ⟨by have := K.len; have := aged_len n ms; omega, fun m hm => ?_⟩
  unfold aged at hm
  simp only [List.mem_map, List.mem_filter, decide_eq_true_eq] at hm
  obtain ⟨y, ⟨hy, hl⟩, rfl⟩ := hm
  have Y := K.all y hy
  exact ⟨Y.k0, Y.k4, Y.x1, Y.x2, Y.a0, Y.a1, Y.p0, Y.p1, by show 1 ≤ y.le - n; omega, by show y.le - n ≤ 100000; have := Y.l1; omega⟩
theorem sq_of {g : Cf} {ms : List Mp} {tk d : Int} {s : ByteArray} (G : g.ok = true) (S : Snd g ms d (frR g tk ms d s)) :
    Sq d (chk s) (frR g tk ms d s).er (frR g tk ms d s).sd (ms.length : Int) ((frR g tk ms d s).ms.length : Int) (frR g tk ms d s).fr := by
  unfold Sq
  by_cases hd : ¬ d = 0 ∧ ¬ d = 1
  · have e : frR g tk ms d s = ⟨2, 0, ⟨#[]⟩, tk, ms⟩ := by
      unfold frR
      have : exam g d s = 2 := by unfold exam; rw [if_pos hd]
      rw [this, if_neg (by decide)]
    rw [e]
    exact .inl ⟨by simpa using hd.1, by simpa using hd.2, rfl, rfl, rfl, rfl⟩
  have hd' : d = 0 ∨ d = 1 := by omega
  by_cases hk : chk s = 0
  · by_cases hz : (frR g tk ms d s).fr.size = 0
    · obtain ⟨h1, h2, h3⟩ := S.non hz
      have hl : ((frR g tk ms d s).ms.length : Int) = (ms.length : Int) := by
        have := S.le
        by_cases h : ms.length < (frR g tk ms d s).ms.length
        · exact absurd (S.new h).1 h1
        · omega
      exact .inr (.inr (.inl ⟨hd', hk, by simpa using h1, h2, h3, hl⟩))
    · obtain ⟨h1, h2, h3⟩ := S.out hz
      have hn := ne_empty hz
      by_cases he : (frR g tk ms d s).er = 0
      · by_cases h1' : d = 1
        · have hl : ((frR g tk ms d s).ms.length : Int) = (ms.length : Int) := by
            have := S.le
            by_cases h : ms.length < (frR g tk ms d s).ms.length
            · have := (S.new h).2; omega
            · omega
          exact .inr (.inr (.inr (.inr (.inl ⟨h1', hk, he, h3 h1' he, hn, hl⟩))))
        · refine .inr (.inr (.inr (.inr (.inr ⟨by omega, hk, he, hn, ?_⟩))))
          have := S.le
          have := S.le1
          omega
      · have hl : ((frR g tk ms d s).ms.length : Int) = (ms.length : Int) := by
          have := S.le
          by_cases h : ms.length < (frR g tk ms d s).ms.length
          · exact absurd (S.new h).1 he
          · omega
        exact .inr (.inr (.inr (.inl ⟨hd', hk, (h2 he).1, (h2 he).2, hn, hl⟩)))
  · have e : frR g tk ms d s = ⟨chk s, 0, ⟨#[]⟩, tk, ms⟩ := by
      unfold frR
      have : exam g d s = chk s := by unfold exam; rw [if_neg hd, if_pos hk]
      rw [this, if_neg hk]
    rw [e]
    exact .inr (.inl ⟨hd', by simpa using hk, rfl, rfl, rfl, rfl⟩)
theorem sound_any (c : Cf) (W : Cfwf c) (p : Pk) (Wp : Pkwf p) (A off len cap : Nat) (ao : Option Addr) (zs : List (Int × Int × ByteArray)) (w : World) (hao : 0 < len → ao = some ⟨A, off, none⟩) (hA : 0 < len → A < w.heap.size) (hzs : zs.length = len) (hc : ∀ (j : Nat) x, zs[j]? = some x → w.cell? ⟨A, off + j * 3, none⟩ = some (.int .i64 x.1) ∧ w.cell? ⟨A, off + j * 3 + 1, none⟩ = some (.int .i64 x.2.1) ∧ w.cell? ⟨A, off + j * 3 + 2, none⟩ = some (.string x.2.2) ∧ x.2.2.size ≤ maxLen) (hwf : ∀ x ∈ zs, -9223372036854775808 ≤ x.2.1 ∧ x.2.1 < 9223372036854775808) (hlen : len ≤ 9223372036854775807) :
    Calls Tryz.prog 8 #[.agg (cfl c), .slice ao len cap, .agg (pkl p)] w fun e w' => e = .returned (.bool true) ∧ Below w.heap.size w w' := by
  have G := cnf_ok c
  have M := cok_mtu G
  have C := cok_of G
  have hia := us_bd C.ia
  have hr := cok_rest G
  have c1 := C.c1
  have c2 := C.c2
  generalize hg : cnf c = g at *
  refine sndl_core c g (fun d => Outok d g) (fun tk ms => Usm ms ∧ Tok g ms ∧ 0 ≤ tk ∧ tk ≤ 100) p.kd p.sa p.sp p.da p.dp p.tl p.op p.bi p.sr p.md p.tx p.ta A off len cap ao zs w hao (by rw [← hg]; exact kconf_any c W) (fun wx => new_bat g G wx)
    (fun wx => (sentc_any p g g.om Wp M.2.2.1 M.2.2.2 wx).mono fun e w' h => ?_) (fun d => kfr d) (fun d hd => kframe_any d hd.ok)
    (fun d hd => fun w => by have := boxCheck_any (kfr d) w (Nat.le_trans hd.all (by decide)); rw [hd.chk] at this; exact this)
    (fun d hd => ?_)
    (fun wx base b v tk ti ms sd tt fs T hR hfs => ?_) (fun wx base b v tk ti ms n T hR n0 n1 i0 i1 => ?_)
    (fun x hx => ⟨wth x.2.1 0 100000, wth_bd x.2.1 0 100000 (by decide), fun w => kwithin_any x.2.1 0 100000 w (by decide) (by decide) (by decide) (hwf x hx).1 (hwf x hx).2⟩) hzs hA hc hlen ⟨fun m hm => (by simp at hm), tok_nil g (by omega), hr.1.1, hr.1.2⟩
  · obtain ⟨⟨d, he, hS⟩, hb⟩ := h
    exact ⟨d, he, hS.out (wth_bd _ _ _ (by decide)).1, hb⟩
  · obtain ⟨ext, m, _, _, hs⟩ := start_m g G d hd
    refine ⟨ext, fun wx => (hs wx).mono ?_⟩
    rintro e w' ⟨b, v', rfl, _, hb, _⟩
    exact ⟨b, rfl, hb⟩
  · obtain ⟨U, K, t0, t1⟩ := hR
    have S := frR_snd (d := sd) (s := fs) G U K t0 t1
    have hq := sq_of G S
    have hk := S.tok.len
    have hk0 := K.len
    have cF := fun wy (Ty : Bat wy base b g tk ti v ms) => frame_all Ty G K sd fs hfs t1
    have ht := S.out
    refine ⟨_, _, ⟨S.usm, S.tok, S.t0, S.t1⟩, ?_⟩
    simp only [Rp.val] at cF
    refine sound_core T (by omega) (by omega) sd tt _ _ _ _ _ fs _ rfl rfl hk c2 (fun w => boxCheck_any fs w hfs) cF (fun he => ?_) hq
    intro w
    have hz := size_ne he
    have h1 := (ht hz).1
    have := boxCheck_any _ w (Nat.le_trans (chk_sok h1).fit.n64 (by decide))
    rw [h1] at this
    exact this
  · obtain ⟨U, K, t0, t1⟩ := hR
    have h0 : 0 ≤ n * g.ra := Int.mul_nonneg n0 hr.2.1.1
    have hk0 := K.len
    have := tick_yes T n _ n0 n1 (by omega) i0 t0 t1 hr.2.1.1 hr.2.1.2 hr.1.2 rfl (fun wy cur Ty => age_any Ty (by omega) n n0 n1 (fun m hm => by have := (K.all m hm).l0; have := (K.all m hm).l1; omega))
    exact ⟨_, _, ⟨aged_usm U n, aged_tok K n n0, by split <;> omega, by split <;> omega⟩, this⟩
end Go.Proofs.YthiljpbodmajaabGreat
namespace Go.Proofs.YthiljpbodmajaabGreat.sound
open Go.ChangeShapes Go.WideShapes Go.ChangeAt Go.RowKit Plain
set_option linter.unusedVariables false

theorem own : ownKnob Tryz.prog.godebug = none := by kernel_rfl
theorem laidOut : laidOutB Tryz.prog = true := by kernel_rfl

set_option maxRecDepth 100000 in
theorem lifted (os : Os) (started : os.Started) (H : Type) (enc : TypeId × Value → H) :
    ReturnsInHanded {} Tryz.checked os 8 .any (Rows.soundSpec.pre6 enc Tryz.prog Tryz.f8 Rows.soundRow.domain false) (Rows.soundSpec.post enc Tryz.prog Tryz.f8 false true false false) := by
  refine returnsInHanded_of_change (C := Tryz.checked) own started (by kernel_rfl) Tryz.func8
    (ChangeSpec.witness6 (enc := enc) (C := Tryz.checked) false ⟨#[], #[.agg #[.int .i64 0, .int .i64 0, .int .i64 0, .int .i64 0, .int .i64 0, .int .i64 0, .int .i64 0, .int .i64 0, .int .i64 0, .int .i64 0, .int .i64 0, .int .i64 0], .slice none 0 0, .agg #[.int .i64 0, .int .i64 0, .int .i64 0, .int .i64 0, .int .i64 0, .int .i64 0, .int .i64 0, .int .i64 0, .int .i64 0, .string ⟨#[]⟩, .string ⟨#[]⟩, .string ⟨#[]⟩]], []⟩ 8 (by kernel_rfl) (by kernel_rfl) (by kernel_rfl) (by kernel_rfl)) ?_
  intro W base args ds gs before hval0 hW hcnd _
  have hval : ∀ (j : Nat) t v, Tryz.f8.params[j]? = some t → args[j]? = some v → Value.okWide Tryz.prog W .any base t v := hval0
  have hW' := hW
  obtain ⟨p, q, hA0, hV, rfl, hfz, hnd⟩ := hW
  have hA : DataW.TrodAll enc Tryz.prog W 0 (fun _ => true) true Tryz.f8.params.toList args.toList ds p := hA0
  rw [Tryz.params8] at hA hval
  obtain ⟨v0, vs0, d0, ds0, p0, q0, hargs0, rfl, rfl, h0, r0⟩ := trodAll_cons hA
  obtain ⟨v1, vs1, d1, ds1, p1, q1, hargs1, rfl, rfl, h1, r1⟩ := trodAll_cons r0
  obtain ⟨v2, vs2, d2, ds2, p2, q2, hargs2, rfl, rfl, h2, r2⟩ := trodAll_cons r1
  obtain ⟨rfl, rfl, rfl⟩ := trodAll_nil r2
  obtain rfl : args = #[v0, v1, v2] := by cases args; simp_all
  obtain ⟨rfl, rfl⟩ := trodVars_none hV
  have k0 := h0
  have lt0 : ∀ x ∈ p0, x.block < W.heap.size := by obtain ⟨m, hm⟩ := k0; exact DataW.trod_lt m _ _ _ hm
  have k1 := h1
  have lt1 : ∀ x ∈ p1, x.block < W.heap.size := by obtain ⟨m, hm⟩ := k1; exact DataW.trod_lt m _ _ _ hm
  have k2 := h2
  have lt2 : ∀ x ∈ p2, x.block < W.heap.size := by obtain ⟨m, hm⟩ := k2; exact DataW.trod_lt m _ _ _ hm
  have bd : ∀ {n : Int}, (Lit.int .i64 n).wf = true → -9223372036854775808 ≤ n ∧ n < 9223372036854775808 := fun h => by have := bounds_i64 h; omega
  obtain ⟨cs, rfl, hsz0, hz⟩ := open_struct_ints Tryz.underlying23 Tryz.underlying3 (by kernel_rfl) (by kernel_rfl) (by kernel_rfl) (hval 0 23 v0 rfl rfl) h0
  obtain ⟨c0, c1, c2, c3, c4, c5, c6, c7, c8, c9, c10, c11, rfl⟩ := array12 hsz0
  obtain ⟨a0_0, e0, w0_0⟩ := hz 0 (by decide)
  obtain ⟨a0_1, e1, w0_1⟩ := hz 1 (by decide)
  obtain ⟨a0_2, e2, w0_2⟩ := hz 2 (by decide)
  obtain ⟨a0_3, e3, w0_3⟩ := hz 3 (by decide)
  obtain ⟨a0_4, e4, w0_4⟩ := hz 4 (by decide)
  obtain ⟨a0_5, e5, w0_5⟩ := hz 5 (by decide)
  obtain ⟨a0_6, e6, w0_6⟩ := hz 6 (by decide)
  obtain ⟨a0_7, e7, w0_7⟩ := hz 7 (by decide)
  obtain ⟨a0_8, e8, w0_8⟩ := hz 8 (by decide)
  obtain ⟨a0_9, e9, w0_9⟩ := hz 9 (by decide)
  obtain ⟨a0_10, e10, w0_10⟩ := hz 10 (by decide)
  obtain ⟨a0_11, e11, w0_11⟩ := hz 11 (by decide)
  simp at e0 e1 e2 e3 e4 e5 e6 e7 e8 e9 e10 e11
  subst e0 e1 e2 e3 e4 e5 e6 e7 e8 e9 e10 e11
  have W0 : Cfwf ⟨a0_0, a0_1, a0_2, a0_3, a0_4, a0_5, a0_6, a0_7, a0_8, a0_9, a0_10, a0_11⟩ := ⟨bd w0_0, bd w0_1, bd w0_2, bd w0_3, bd w0_4, bd w0_5, bd w0_6, bd w0_7, bd w0_8, bd w0_9, bd w0_10, bd w0_11⟩
  obtain ⟨cs2, rfl, hsz2, hz2⟩ := open_struct_mixed Tryz.underlying25 (by kernel_rfl) (by kernel_rfl) (hval 2 25 v2 rfl rfl) h2
  obtain ⟨c0, c1, c2, c3, c4, c5, c6, c7, c8, c9, c10, c11, rfl⟩ := array12 hsz2
  obtain ⟨a2_0, e0, w2_0⟩ := (hz2 0 3 rfl (by kernel_rfl)).1 Tryz.underlying3
  obtain ⟨a2_1, e1, w2_1⟩ := (hz2 1 3 rfl (by kernel_rfl)).1 Tryz.underlying3
  obtain ⟨a2_2, e2, w2_2⟩ := (hz2 2 3 rfl (by kernel_rfl)).1 Tryz.underlying3
  obtain ⟨a2_3, e3, w2_3⟩ := (hz2 3 3 rfl (by kernel_rfl)).1 Tryz.underlying3
  obtain ⟨a2_4, e4, w2_4⟩ := (hz2 4 3 rfl (by kernel_rfl)).1 Tryz.underlying3
  obtain ⟨a2_5, e5, w2_5⟩ := (hz2 5 3 rfl (by kernel_rfl)).1 Tryz.underlying3
  obtain ⟨a2_6, e6, w2_6⟩ := (hz2 6 3 rfl (by kernel_rfl)).1 Tryz.underlying3
  obtain ⟨a2_7, e7, w2_7⟩ := (hz2 7 3 rfl (by kernel_rfl)).1 Tryz.underlying3
  obtain ⟨a2_8, e8, w2_8⟩ := (hz2 8 3 rfl (by kernel_rfl)).1 Tryz.underlying3
  obtain ⟨a2_9, e9, w2_9⟩ := (hz2 9 9 rfl (by kernel_rfl)).2 Tryz.underlying9
  obtain ⟨a2_10, e10, w2_10⟩ := (hz2 10 9 rfl (by kernel_rfl)).2 Tryz.underlying9
  obtain ⟨a2_11, e11, w2_11⟩ := (hz2 11 9 rfl (by kernel_rfl)).2 Tryz.underlying9
  simp at e0 e1 e2 e3 e4 e5 e6 e7 e8 e9 e10 e11
  subst e0 e1 e2 e3 e4 e5 e6 e7 e8 e9 e10 e11
  have W2 : Pkwf ⟨a2_0, a2_1, a2_2, a2_3, a2_4, a2_5, a2_6, a2_7, a2_8, a2_9, a2_10, a2_11⟩ := ⟨bd w2_0, bd w2_1, bd w2_2, bd w2_3, bd w2_4, bd w2_5, bd w2_6, bd w2_8, w2_9, w2_10, w2_11⟩
  clear hA0 hval0
  obtain ⟨A, off, len, cap, ao, zs, rfl, hao, hA, hzs, hc, hml, hd⟩ := open_slice_of (α := Int × Int × ByteArray) 3 (fun cs z => cs[0]? = some (.int .i64 z.1) ∧ cs[1]? = some (.int .i64 z.2.1) ∧ cs[2]? = some (.string z.2.2) ∧ z.2.2.size ≤ maxLen ∧ (Lit.int .i64 z.2.1).wf = true) Tryz.underlying68 (by kernel_rfl) (by decide)
    (fun n cs x hx => by
      obtain ⟨z0, e0, _⟩ := (field1 Tryz.underlying70 hx 0 0 3 (by kernel_rfl) (by kernel_rfl)).1 Tryz.underlying3
      obtain ⟨z1, e1, u1⟩ := (field1 Tryz.underlying70 hx 1 1 3 (by kernel_rfl) (by kernel_rfl)).1 Tryz.underlying3
      obtain ⟨z2, e2, u2⟩ := (field1 Tryz.underlying70 hx 2 2 9 (by kernel_rfl) (by kernel_rfl)).2.1 Tryz.underlying9
      exact ⟨(z0, z1, z2), e0, e1, e2, u2, u1⟩) (hval 1 68 v1 rfl rfl) h1 lt1
  have hcc : ∀ (j : Nat) x, zs[j]? = some x → (W.cell? ⟨A, off + j * 3, none⟩ = some (.int .i64 x.1) ∧ W.cell? ⟨A, off + j * 3 + 1, none⟩ = some (.int .i64 x.2.1) ∧ W.cell? ⟨A, off + j * 3 + 2, none⟩ = some (.string x.2.2) ∧ x.2.2.size ≤ maxLen) ∧ (Lit.int .i64 x.2.1).wf = true := fun j x hj => by
    obtain ⟨cs, hl, ⟨q0, q1, q2, q3, q4⟩, hcell⟩ := hc j x hj
    exact ⟨⟨by rw [← q0]; exact hcell 0 (by decide), by rw [← q1]; exact hcell 1 (by decide), by rw [← q2]; exact hcell 2 (by decide), q3⟩, q4⟩
  refine (sound_any _ W0 _ W2 A off len cap ao zs W hao hA hzs (fun j x hj => (hcc j x hj).1) (fun x hx => by obtain ⟨j, hj⟩ := List.getElem?_of_mem hx; exact bd (hcc j x hj).2) (by unfold maxLen at hml; omega)).mono fun e W' ⟨he, bel⟩ => ?_
  subst he
  exact ⟨_, rfl, _, _, _, [], _, [], hW', trodAll_mk1 (shut_bool Tryz.underlying4 _), (trodAll_cons_mk (Below.trod laidOut (by kernel_rfl) (of_decide_eq_true (by kernel_rfl)) k0 bel lt0) (trodAll_cons_mk (Below.trod laidOut (by kernel_rfl) (of_decide_eq_true (by kernel_rfl)) k1 bel lt1) (trodAll_cons_mk (Below.trod laidOut (by kernel_rfl) (of_decide_eq_true (by kernel_rfl)) k2 bel lt2) trodAll_mk0))), rfl, bel.frame _, fun h => by cases h⟩

theorem over : Rows.soundRow.holds Tryz.pinned (OpenSpec.ofChange Rows.soundSpec) :=
  OpenClaim.holds_of_wide 8 Tryz.f8 rfl rfl rfl rfl rfl rfl rfl ⟨rfl, rfl, rfl, rfl, rfl⟩ rfl rfl rfl rfl rfl (by kernel_rfl) Tryz.func8 (by kernel_rfl)
    (of_decide_eq_true (by kernel_rfl)) (by unfold Func.isWrapper; first | (rw [if_pos (by decide +kernel)]; kernel_rfl) | (rw [if_neg (by decide +kernel)]; exact ⟨rfl, rfl⟩))
    (fun os started H enc _ => lifted os started H enc)

theorem proved : Rows.SoundSaid := over
#print axioms proved
end Go.Proofs.YthiljpbodmajaabGreat.sound
