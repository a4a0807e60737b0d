/-
  natboxkeep.Rooms (P8, P11).
-/
import Derived.Test.YthiljpbodmajaaaGreatRows
import Derived.WalkKit
import Derived.ProofKit
import Derived.OpenShut
import Derived.ChangeOld
import Derived.Below
import Derived.Test.YthiljpbodmajaaaGreatRomc
import Derived.Test.YthiljpbodmajaaaGreatAgnp
import Derived.Test.YthiljpbodmajaaaGreatCfgn
namespace Go.Proofs.YthiljpbodmajaaaGreat
open Go.RowKit Plain
set_option linter.unusedVariables false
theorem new_bat (g : Cf) (G : g.ok = true) (wx : World) : Calls Tryz.prog 27 #[.agg (cfl g)] wx fun e w' => ∃ b, e = .returned (.tuple #[.pointer (some ⟨b, 0, none⟩), .int .i64 0]) ∧ Bat w' wx.heap.size b g g.bu 0 (.slice none 0 0) [] ∧ Below wx.heap.size wx w' ∧ wx.heap.size ≤ b := by
  have hconf : confB g.ia g.oa g.lo g.hi g.cp g.im g.om g.iu g.it g.iq g.bu g.ra = true := by rw [confB_valid]; exact G
  refine (new_yes g.ia g.oa g.lo g.hi g.cp g.im g.om g.iu g.it g.iq g.bu g.ra wx hconf).mono ?_
  rintro e w1 ⟨b, rfl, hb1, hbl, hbb⟩
  exact ⟨b, rfl, ⟨hbb, rfl, Row.nil _ _, by simp [Value.ownBlock], hb1.size⟩, hb1, hbl⟩
theorem rm_end {g : Cf} {p a bs : Int} {i : Nat} {ms : List Mp} (R : Rm g p a bs i ms) (b0 : 0 ≤ bs) (b1 : bs < 65536) (hi : i ≤ 72) :
    (∀ (k : Nat) m, ms[k]? = some m → m.pr = p ∧ m.ea = a ∧ 0 ≤ m.ep ∧ m.ep < 65536 ∧ (m.ep - bs + 65536) % 65536 < (i : Int) ∧ g.lo ≤ m.ex ∧ m.ex ≤ g.hi) ∧ (∀ (k : Nat) m m', ms[k]? = some m → ms[k + 1]? = some m' → m.ex < m'.ex) := by
  constructor
  · intro k m hm
    obtain ⟨h1, h2, ⟨j, h3, h4⟩, h5, h6⟩ := R.all m (List.mem_of_getElem? hm)
    refine ⟨h1, h2, by omega, by omega, ?_, h5, h6⟩
    rw [h4]
    omega
  · intro k m m' hm hm'
    have h1 := (R.all m (List.mem_of_getElem? hm)).1
    have h2 := (R.all m' (List.mem_of_getElem? hm')).1
    obtain ⟨l1, e1⟩ := List.getElem?_eq_some_iff.1 hm
    obtain ⟨l2, e2⟩ := List.getElem?_eq_some_iff.1 hm'
    have := List.pairwise_iff_getElem.1 R.srt k (k + 1) l1 l2 (by omega)
    rw [e1, e2] at this
    unfold lt2 at this
    omega
theorem ne_empty {s : ByteArray} (h : 20 ≤ s.size) : s.toList.isEmpty = false := by
  rw [ByteArray.toList_eq]
  cases e : s.data.toList with
  | nil =>
    have : s.data.toList.length = s.size := by simp
    rw [e] at this
    simp at this
    omega
  | cons x xs => rfl
theorem rooms_any (c : Cf) (W : Cfwf c) (p : Pk) (Wp : Pkwf p) (tt : Int) (t0 : -9223372036854775808 ≤ tt) (t1 : tt < 9223372036854775808) (w : World) :
    Calls Tryz.prog 9 #[.agg (cfl c), .agg (pkl p), .int .i64 tt] w fun e w' => e = .returned (.bool true) ∧ Below w.heap.size w w' := by
  have G := cnf_ok c
  have M := cok_mtu G
  have C := cok_of G
  have hoa := us_bd C.oa
  have hbu := (cok_rest G).1
  have hn := wth_bd tt 0 72 (by decide)
  have l1 := C.l1
  have l2 := C.l2
  have h2 := C.h2
  have c1 := C.c1
  have c2 := C.c2
  generalize hg : cnf c = g at *
  obtain ⟨room, hr⟩ : ∃ room : Int, room = (if g.cp < g.hi - g.lo + 1 then g.cp else g.hi - g.lo + 1) := ⟨_, rfl⟩
  obtain ⟨n, hn'⟩ : ∃ n : Int, n = wth tt 0 72 := ⟨_, rfl⟩
  rw [← hn'] at hn
  obtain ⟨live, hl⟩ : ∃ live : Int, live = (if n < room then n else room) := ⟨_, rfl⟩
  have rb : 1 ≤ room ∧ room ≤ 64 ∧ room ≤ g.cp ∧ room ≤ g.hi - g.lo + 1 ∧ (g.cp ≤ room ∨ g.hi - g.lo + 1 ≤ room) := by rw [hr]; split <;> omega
  have lb : 0 ≤ live ∧ live ≤ 64 := by rw [hl]; split <;> omega
  refine rooms_core c g (fun d => Outok d g) p.kd p.sa p.sp p.da p.dp p.tl p.op p.bi p.sr tt room n p.md p.tx p.ta w G (by rw [← hg]; exact kconf_any c W) (fun wx => new_bat g G wx)
    (fun wx => (sentc_any p g g.om Wp M.2.2.1 M.2.2.2 wx).mono fun e w' h => ?_) l1 l2 h2 (fun d i ms tk => Rm g d.pr d.sa d.sp (min i room.toNat) ms ∧ 0 ≤ tk ∧ tk ≤ 100)
    (fun d hd => ⟨by rw [Nat.zero_min]; exact rm_nil g _ _ _ (by omega), hbu.1, hbu.2⟩) hn.1 hn.2 (by omega) (by omega) (fun d hd => ⟨hd.ok.p0, hd.ok.p1⟩)
    (fun d sp hd s0 s1 => kframe_any _ (hd.withsp sp s0 s1).ok)
    (fun d i wx base b v tk ms hd hi hR T => ?_)
    (by have := least_any g.cp (g.hi - g.lo + 1); rw [← hr] at this; exact this) (by rw [hn']; exact fun w => kwithin_any _ _ _ w (by decide) (by decide) (by decide) t0 t1)
    live (by have := least_any n room; rw [← hl] at this; exact this) lb.1 lb.2
    (fun d i ms tk hd hi hR => ?_)
  · obtain ⟨⟨d, he, hS⟩, hb⟩ := h
    exact ⟨d, he, hS.out (wth_bd _ _ _ (by decide)).1, hb⟩
  · obtain ⟨R, k0, k1⟩ := hR
    have D := hd.ok
    have S' := hd.withsp ((d.sp + (i : Int)) % 65536) (by omega) (by omega)
    obtain ⟨F, e1, e2, e3, e4, e5, e6, e7⟩ := S'.parts
    have hid := idle_bd G d.pr
    by_cases hlt : (i : Int) < room
    · rw [show min i room.toNat = i by omega] at R
      obtain ⟨x, ms', hu, R'⟩ := rooms_yes (pa := d.da) (pp := if d.pr = 1 then 0 else d.dp) (il := g.idle d.pr) C R (by omega) (by omega) (by omega) D.s0 D.s1 hid.1 hid.2
      have hx := (use_tok R.tok l1 h2 D.s0 D.s1 (by omega) (by omega) hid.1 hid.2 hu).2
      have fr := frame_sends T G R.tok (kfr { d with sp := (d.sp + (i : Int)) % 65536 }) S'.exam S'.kinds.2.2 (by rw [e7]; exact S'.n4) S'.pss x ms' (by rw [S'.fromB]; exact hu)
      rw [S'.goes x (by omega) (by omega) hoa.1 hoa.2] at fr
      have D2 : Dgok { d with sa := g.oa, sp := x, tl := d.tl - 1 } := ⟨D.pr, hoa.1, hoa.2, D.d0, D.d1, by show 0 ≤ x; omega, by show x < 65536; omega, D.q0, D.q1, by show 0 ≤ d.tl - 1; have := hd.tl; omega, by show d.tl - 1 < 256; have := D.t1; omega, D.md, D.op, D.o4, D.tx, D.ta⟩
      refine ⟨0, 1, _, tk, ms', fun _ => ⟨rfl, rfl, ne_empty ?_⟩, fun h => absurd hlt (by omega), ⟨?_, k0, k1⟩, fr.mono fun e w' h => ⟨h.1, h.2.imp fun v' hv => Left.bl hv⟩⟩
      · have := kfr_size D2
        show 20 ≤ (kfr { d with sa := g.oa, sp := x, tl := d.tl - 1 }).size
        omega
      · rw [show min (i + 1) room.toNat = i + 1 by omega]; exact R'
    · have hm : min i room.toNat = room.toNat := by omega
      rw [hm] at R
      have hno := rooms_no (pa := d.da) (pp := if d.pr = 1 then 0 else d.dp) (il := g.idle d.pr) (n := i) C R (by omega) (by omega) (by omega)
      have fr := frame_goes T G R.tok 0 (kfr { d with sp := (d.sp + (i : Int)) % 65536 }) S'.exam S'.kinds.2.2 k1
      have hgo : goR g tk ms 0 (kfr { d with sp := (d.sp + (i : Int)) % 65536 }) = rfs g 11 0 g.om tk ms (kfr { d with sp := (d.sp + (i : Int)) % 65536 }) := by
        unfold goR outR
        rw [if_neg (by decide), if_neg (by rw [e7]; exact S'.n4), if_pos S'.pss, S'.fromB, hno]
      rw [hgo, rfs_val, rfs_ms] at fr
      refine ⟨11, _, _, _, ms, fun h => absurd h hlt, fun _ => rfl, ⟨?_, ?_⟩, fr⟩
      · rw [show min (i + 1) room.toNat = room.toNat by omega]; exact R
      · unfold rfs
        split
        · rename_i h
          have : 1 ≤ tk := by unfold telB at h; simp at h; omega
          exact ⟨by show 0 ≤ tk - 1; omega, by show tk - 1 ≤ 100; omega⟩
        · exact ⟨k0, k1⟩
  · obtain ⟨R, k0, k1⟩ := hR
    have D := hd.ok
    have he : ((min i room.toNat : Nat) : Int) = live := by rw [hl]; split <;> omega
    have E := rm_end R D.p0 D.p1 (by omega)
    rw [he] at E
    exact ⟨by rw [R.len]; exact he, E.1, E.2⟩
end Go.Proofs.YthiljpbodmajaaaGreat
namespace Go.Proofs.YthiljpbodmajaaaGreat.rooms
open Go.ChangeShapes Go.WideShapes Go.ChangeAt Go.RowKit Plain
set_option linter.unusedVariables false

theorem own : ownKnob Tryz.prog.godebug = none := by kernel_rfl
theorem laidOut : laidOutB Tryz.prog = true := by kernel_rfl

set_option maxRecDepth 100000 in
theorem lifted (os : Os) (started : os.Started) (H : Type) (enc : TypeId × Value → H) :
    ReturnsInHanded {} Tryz.checked os 9 .any (Rows.roomsSpec.pre6 enc Tryz.prog Tryz.f9 Rows.roomsRow.domain false) (Rows.roomsSpec.post enc Tryz.prog Tryz.f9 false true false false) := by
  refine returnsInHanded_of_change (C := Tryz.checked) own started (by kernel_rfl) Tryz.func9
    (ChangeSpec.witness6 (enc := enc) (C := Tryz.checked) false ⟨#[], #[.agg #[.int .i64 0, .int .i64 0, .int .i64 0, .int .i64 0, .int .i64 0, .int .i64 0, .int .i64 0, .int .i64 0, .int .i64 0, .int .i64 0, .int .i64 0, .int .i64 0], .agg #[.int .i64 0, .int .i64 0, .int .i64 0, .int .i64 0, .int .i64 0, .int .i64 0, .int .i64 0, .int .i64 0, .int .i64 0, .string ⟨#[]⟩, .string ⟨#[]⟩, .string ⟨#[]⟩], .int .i64 0], []⟩ 8 (by kernel_rfl) (by kernel_rfl) (by kernel_rfl) (by kernel_rfl)) ?_
  intro W base args ds gs before hval0 hW hcnd _
  have hval : ∀ (j : Nat) t v, Tryz.f9.params[j]? = some t → args[j]? = some v → Value.okWide Tryz.prog W .any base t v := hval0
  have hW' := hW
  obtain ⟨p, q, hA0, hV, rfl, hfz, hnd⟩ := hW
  have hA : DataW.TrodAll enc Tryz.prog W 0 (fun _ => true) true Tryz.f9.params.toList args.toList ds p := hA0
  rw [Tryz.params9] at hA hval
  obtain ⟨v0, vs0, d0, ds0, p0, q0, hargs, rfl, rfl, h0, r0⟩ := trodAll_cons hA
  obtain ⟨v1, vs1, d1, ds1, p1, q1, hargs1, rfl, rfl, h1, r1⟩ := trodAll_cons r0
  obtain ⟨v2, vs2, d2, ds2, p2, q2, hargs2, rfl, rfl, h2, r2⟩ := trodAll_cons r1
  obtain ⟨rfl, rfl, rfl⟩ := trodAll_nil r2
  obtain rfl : args = #[v0, v1, v2] := by cases args; simp_all
  obtain ⟨rfl, rfl⟩ := trodVars_none hV
  have k0 := h0
  have k1 := h1
  have lt0 : ∀ x ∈ p0, x.block < W.heap.size := by obtain ⟨m, hm⟩ := k0; exact DataW.trod_lt m _ _ _ hm
  have lt1 : ∀ x ∈ p1, x.block < W.heap.size := by obtain ⟨m, hm⟩ := k1; exact DataW.trod_lt m _ _ _ hm
  obtain ⟨cs, rfl, hsz, hz⟩ := open_struct_ints Tryz.underlying28 Tryz.underlying3 (by kernel_rfl) (by kernel_rfl) (by kernel_rfl) (hval 0 28 v0 rfl rfl) h0
  obtain ⟨c0, c1, c2, c3, c4, c5, c6, c7, c8, c9, c10, c11, rfl⟩ := array12 hsz
  obtain ⟨a0, e0, w0⟩ := hz 0 (by decide)
  obtain ⟨a1, e1, w1⟩ := hz 1 (by decide)
  obtain ⟨a2, e2, w2⟩ := hz 2 (by decide)
  obtain ⟨a3, e3, w3⟩ := hz 3 (by decide)
  obtain ⟨a4, e4, w4⟩ := hz 4 (by decide)
  obtain ⟨a5, e5, w5⟩ := hz 5 (by decide)
  obtain ⟨a6, e6, w6⟩ := hz 6 (by decide)
  obtain ⟨a7, e7, w7⟩ := hz 7 (by decide)
  obtain ⟨a8, e8, w8⟩ := hz 8 (by decide)
  obtain ⟨a9, e9, w9⟩ := hz 9 (by decide)
  obtain ⟨a10, e10, w10⟩ := hz 10 (by decide)
  obtain ⟨a11, e11, w11⟩ := hz 11 (by decide)
  simp at e0 e1 e2 e3 e4 e5 e6 e7 e8 e9 e10 e11
  subst e0 e1 e2 e3 e4 e5 e6 e7 e8 e9 e10 e11
  obtain ⟨cs1, rfl, hsz1, hz1⟩ := open_struct_mixed Tryz.underlying30 (by kernel_rfl) (by kernel_rfl) (hval 1 30 v1 rfl rfl) h1
  obtain ⟨c0, c1, c2, c3, c4, c5, c6, c7, c8, c9, c10, c11, rfl⟩ := array12 hsz1
  obtain ⟨b0, e0, y0⟩ := (hz1 0 3 rfl (by kernel_rfl)).1 Tryz.underlying3
  obtain ⟨b1, e1, y1⟩ := (hz1 1 3 rfl (by kernel_rfl)).1 Tryz.underlying3
  obtain ⟨b2, e2, y2⟩ := (hz1 2 3 rfl (by kernel_rfl)).1 Tryz.underlying3
  obtain ⟨b3, e3, y3⟩ := (hz1 3 3 rfl (by kernel_rfl)).1 Tryz.underlying3
  obtain ⟨b4, e4, y4⟩ := (hz1 4 3 rfl (by kernel_rfl)).1 Tryz.underlying3
  obtain ⟨b5, e5, y5⟩ := (hz1 5 3 rfl (by kernel_rfl)).1 Tryz.underlying3
  obtain ⟨b6, e6, y6⟩ := (hz1 6 3 rfl (by kernel_rfl)).1 Tryz.underlying3
  obtain ⟨b7, e7, y7⟩ := (hz1 7 3 rfl (by kernel_rfl)).1 Tryz.underlying3
  obtain ⟨b8, e8, y8⟩ := (hz1 8 3 rfl (by kernel_rfl)).1 Tryz.underlying3
  obtain ⟨b9, e9, y9⟩ := (hz1 9 9 rfl (by kernel_rfl)).2 Tryz.underlying9
  obtain ⟨b10, e10, y10⟩ := (hz1 10 9 rfl (by kernel_rfl)).2 Tryz.underlying9
  obtain ⟨b11, e11, y11⟩ := (hz1 11 9 rfl (by kernel_rfl)).2 Tryz.underlying9
  simp at e0 e1 e2 e3 e4 e5 e6 e7 e8 e9 e10 e11
  subst e0 e1 e2 e3 e4 e5 e6 e7 e8 e9 e10 e11
  obtain ⟨tt, rfl, rfl, rfl, wt⟩ := open_int Tryz.underlying3 (hval 2 3 v2 rfl rfl) h2
  have bd : ∀ {n : Int}, (Lit.int .i64 n).wf = true → -9223372036854775808 ≤ n ∧ n < 9223372036854775808 := fun h => by have := bounds_i64 h; omega
  have WC : Cfwf ⟨a0, a1, a2, a3, a4, a5, a6, a7, a8, a9, a10, a11⟩ := ⟨bd w0, bd w1, bd w2, bd w3, bd w4, bd w5, bd w6, bd w7, bd w8, bd w9, bd w10, bd w11⟩
  have WP : Pkwf ⟨b0, b1, b2, b3, b4, b5, b6, b7, b8, b9, b10, b11⟩ := ⟨bd y0, bd y1, bd y2, bd y3, bd y4, bd y5, bd y6, bd y8, y9, y10, y11⟩
  clear hA0 hval0
  refine (rooms_any _ WC _ WP tt (bd wt).1 (bd wt).2 W).mono fun e W' ⟨he, bel⟩ => ?_
  subst he
  exact ⟨_, rfl, _, _, _, [], _, [], hW', trodAll_mk1 (shut_bool Tryz.underlying4 _), (trodAll_cons_mk (Below.trod laidOut (by kernel_rfl) (of_decide_eq_true (by kernel_rfl)) k0 bel lt0) (trodAll_cons_mk (Below.trod laidOut (by kernel_rfl) (of_decide_eq_true (by kernel_rfl)) k1 bel lt1) (trodAll_cons_mk (shut_int Tryz.underlying3 wt) trodAll_mk0))), rfl, bel.frame _, fun h => by cases h⟩

theorem over : Rows.roomsRow.holds Tryz.pinned (OpenSpec.ofChange Rows.roomsSpec) :=
  OpenClaim.holds_of_wide 9 Tryz.f9 rfl rfl rfl rfl rfl rfl rfl ⟨rfl, rfl, rfl, rfl, rfl⟩ rfl rfl rfl rfl rfl (by kernel_rfl) Tryz.func9 (by kernel_rfl)
    (of_decide_eq_true (by kernel_rfl)) (by unfold Func.isWrapper; first | (rw [if_pos (by decide +kernel)]; kernel_rfl) | (rw [if_neg (by decide +kernel)]; exact ⟨rfl, rfl⟩))
    (fun os started H enc _ => lifted os started H enc)

theorem proved : Rows.RoomsSaid := over
#print axioms proved
end Go.Proofs.YthiljpbodmajaaaGreat.rooms
