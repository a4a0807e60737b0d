/-
  CONTRACTS: package natboxkeep: sent.
-/
import Derived.Test.YthiljpbodmajaaaGreatKepz
namespace Go.Proofs.YthiljpbodmajaaaGreat
open Go.RowKit Plain
set_option linter.unusedVariables false
set_option maxHeartbeats 12000000 in
set_option maxRecDepth 20000 in
theorem sent_core0 (Q : Ending → World → Prop) (p : Pk) (c : Cf) (most A B sp dp tl k6 k8 : Int) (w : World) (HQ : Hid (∀ e w', ((∃ d : Dg, e = .returned (.agg (dgl d)) ∧ Sentok d A B sp dp tl most k8) ∧ Below w.heap.size w w') → Q e w')) (hm0 : 100 ≤ most) (hm1 : most ≤ 65535) (a0 : 0 ≤ A) (a1 : A < 4294967296) (b0 : 0 ≤ B) (b1 : B < 4294967296) (p0 : 0 ≤ sp) (p1 : sp < 65536) (e0' : 0 ≤ dp) (e1' : dp < 65536) (t0 : 2 ≤ tl) (t1 : tl < 256) (hk : k8 = 0) (hsr0 : -9223372036854775808 ≤ p.sr) (hsr1 : p.sr < 9223372036854775808) (hta : p.ta.size ≤ maxLen) (hk0 : 0 ≤ k6) (hk1 : k6 ≤ 3) (hmd : p.md.size ≤ maxLen) (htx : p.tx.size ≤ maxLen)
    (c2 : Ret 18 #[.int .i64 p.sp, .int .i64 0, .int .i64 65535] (.int .i64 sp)) (c3 : Ret 18 #[.int .i64 p.dp, .int .i64 0, .int .i64 65535] (.int .i64 dp)) (c4 : Ret 18 #[.int .i64 p.tl, .int .i64 2, .int .i64 255] (.int .i64 tl)) (c6 : Ret 18 #[.int .i64 p.op, .int .i64 0, .int .i64 3] (.int .i64 k6)) (c8 : Ret 43 #[.int .i64 p.kd, .int .i64 5] (.int .i64 k8))
    (cA : RetB 29 #[.int .i64 p.sa, .agg (cfl c)] (.int .i64 A)) (cB : RetB 29 #[.int .i64 p.da, .agg (cfl c)] (.int .i64 B)) :
    Calls Tryz.prog 13 #[.agg (pkl p), .agg (cfl c), .int .i64 most] w Q := by
  have HH : Hid ((0 ≤ A ∧ A < 4294967296 ∧ 0 ≤ B ∧ B < 4294967296 ∧ 0 ≤ sp ∧ sp < 65536 ∧ 0 ≤ dp ∧ dp < 65536 ∧ 2 ≤ tl ∧ tl < 256) ∧ True ∧ (-9223372036854775808 ≤ p.sr ∧ p.sr < 9223372036854775808) ∧ p.ta.size ≤ maxLen) := ⟨⟨a0, a1, b0, b1, p0, p1, e0', e1', t0, t1⟩, trivial, ⟨hsr0, hsr1⟩, hta⟩
  clear a0 a1 b0 b1 p0 p1 e0' e1' t0 t1 hsr0 hsr1 hta
  have q1 := Pok.at (p := p) (c := c) (w := w) 1 (u := (.int .i64 p.sa)) rfl
  have q3 := Pok.at (p := p) (c := c) (w := w) 3 (u := (.int .i64 p.da)) rfl
  have q7 := Pok.at (p := p) (c := c) (w := w) 7 (u := (.int .i64 p.bi)) rfl
  have g0 := Pok.cf (p := p) (c := c) (w := w) 0 (u := (.int .i64 c.ia)) rfl
  have g1 := Pok.cf (p := p) (c := c) (w := w) 1 (u := (.int .i64 c.oa)) rfl
  have g2 := Pok.cf (p := p) (c := c) (w := w) 2 (u := (.int .i64 c.lo)) rfl
  have g3 := Pok.cf (p := p) (c := c) (w := w) 3 (u := (.int .i64 c.hi)) rfl
  have g4 := Pok.cf (p := p) (c := c) (w := w) 4 (u := (.int .i64 c.cp)) rfl
  have g5 := Pok.cf (p := p) (c := c) (w := w) 5 (u := (.int .i64 c.im)) rfl
  have g6 := Pok.cf (p := p) (c := c) (w := w) 6 (u := (.int .i64 c.om)) rfl
  have g7 := Pok.cf (p := p) (c := c) (w := w) 7 (u := (.int .i64 c.iu)) rfl
  have g8 := Pok.cf (p := p) (c := c) (w := w) 8 (u := (.int .i64 c.it)) rfl
  have g9 := Pok.cf (p := p) (c := c) (w := w) 9 (u := (.int .i64 c.iq)) rfl
  have g10 := Pok.cf (p := p) (c := c) (w := w) 10 (u := (.int .i64 c.bu)) rfl
  have g11 := Pok.cf (p := p) (c := c) (w := w) 11 (u := (.int .i64 c.ra)) rfl
  have ds : Hid (Pok p c w (((w.alloc (.cells (pkl p) 30)).alloc (.cells (cfl c) 28)).alloc (.cells (dgl dg0) 33))) := Pok.start p c w
  unfold pkl cfl dgl dg0 at ds
  unfold pkl cfl
  unfold cfl at cA cB
  go_enter Tryz.func13, Tryz.ntmps13
  go_upto_region 1 with fail
  go_cut [7] (fun t wx => ∃ D : Nat, t = .pointer (some ⟨D, 0, none⟩) ∧ Pok p c w wx ∧ w.heap.size + 1 + 1 + 1 ≤ D ∧ wx.heap[D]? = some (.cells (dgl { dg0 with sa := A, da := B, bi := p.bi }) 33 (0, 0)))
  case first =>
    go_region_held (fun w' => Pok p c w w') (first | (with_reducible assumption) | (with_reducible exact ds.out.drew) | (with_reducible exact Pok.alloc (by assumption) _) | (with_reducible exact Pok.drew (Pok.alloc ds.out _)) | (with_reducible exact Pok.alloc (Pok.drew ds.out) _) | (with_reducible refine Pok.chain14 (by assumption) ?_; first | (simp; done) | (have hq := Pok.lt (p := p) (c := c) (w := w) (by with_reducible assumption); simp; omega) | (have hq := hka.lt; omega)) | exact Pok.drew (by assumption)) (first
      | (go_at_call_of 29 (Value.int .i64 p.sa); refine Calls.mono (cA.at _) ?_; rintro e wa ⟨rfl, hba⟩; have hka := Pok.next (p := p) (c := c) (w := w) (by assumption) hba; have E1 := blk4 hba; have E1' : Hid _ := E1; clear E1)
      | (go_at_call_of 29 (Value.int .i64 p.sa); refine Calls.mono (cA.at _) ?_; rintro e wa ⟨rfl, hba⟩; have hka := Pok.next (p := p) (c := c) (w := w) (by assumption) hba)
      | (go_at_call_of 29 (Value.int .i64 p.da); refine Calls.mono (cB.at _) ?_; rintro e wb ⟨rfl, hbb⟩; have hkb := Pok.next (p := p) (c := c) (w := w) (by assumption) hbb; have E2 := blk1 hbb; obtain ⟨d0, d1, d2, d3, d4, d5, d6, d7, d8, d9, d10, d11, d12, d13⟩ := cell14 E2; have fD := nofrz E2; have HE2 : Hid _ := E2; clear E2)
      | (go_at_call_of 29 (Value.int .i64 p.da); refine Calls.mono (cB.at _) ?_; rintro e wb ⟨rfl, hbb⟩; have hkb := Pok.next (p := p) (c := c) (w := w) (by assumption) hbb; have E2 := blkn E1'.out hbb; obtain ⟨d0, d1, d2, d3, d4, d5, d6, d7, d8, d9, d10, d11, d12, d13⟩ := cell14 E2; have fD := nofrz E2; have HE2 : Hid _ := E2; clear E2)
      | (go_at_call_of 29 (Value.int .i64 p.da); refine Calls.mono (cB.at _) ?_; rintro e wb ⟨rfl, hbb⟩; have hkb := Pok.next (p := p) (c := c) (w := w) (by assumption) hbb))
    all_goals
      go_wp2_with fail
      go_meet
    · exact ⟨_, rfl, Pok.alloc hkb _, hkb.lt, alloc1 _ _⟩
    · exact ⟨_, rfl, Pok.chain14 hkb hka.lt, hka.lt, store14 HE2.out⟩
    · exact ⟨_, rfl, Pok.chain14 hkb (Nat.le_refl _), Nat.le_refl _, store14 HE2.out⟩
  case rest =>
    obtain ⟨D, rfl, hP, hD, hE⟩ := hcut
    clear q1 q3 q7 g0 g1 g2 g3 g4 g5 g6 g7 g8 g9 g10 g11 ds cA cB
    have hE' : wc.heap[D]? = some (.cells #[.int .i64 0, .int .i64 0, .bool false, .int .i64 A, .int .i64 0, .int .i64 B, .int .i64 0, .int .i64 0, .int .i64 p.bi, .int .i64 0, .string ⟨#[]⟩, .string ⟨#[]⟩, .string ⟨#[]⟩, .string ⟨#[]⟩] 33 (0, 0)) := hE
    have r2 := Pok.at (p := p) (c := c) (w := w) 2 (u := (.int .i64 p.sp)) rfl wc hP
    have r4 := Pok.at (p := p) (c := c) (w := w) 4 (u := (.int .i64 p.dp)) rfl wc hP
    have r5 := Pok.at (p := p) (c := c) (w := w) 5 (u := (.int .i64 p.tl)) rfl wc hP
    have r9 := Pok.at (p := p) (c := c) (w := w) 9 (u := (.string p.md)) rfl wc hP
    obtain ⟨d0, d1, d2, d3, d4, d5, d6, d7, d8, d9, d10, d11, d12, d13⟩ := cell14 hE'
    have fD := nofrz hE'
    have hDl : D < wc.heap.size := (Array.getElem?_eq_some_iff.1 hE').1
    have HP : Hid _ := hP
    have HE : Hid _ := hE'
    have hD1 : ¬ D = w.heap.size := by omega
    clear hP hE hE'
    go_wp2_with fail
    refine Calls.mono (c2.at _) ?_; rintro e w' ⟨rfl, hw⟩; replace hw := hw.symm; subst hw
    go_wp2_with fail
    refine Calls.mono (c3.at _) ?_; rintro e w' ⟨rfl, hw⟩; replace hw := hw.symm; subst hw
    go_wp2_with fail
    refine Calls.mono (c4.at _) ?_; rintro e w' ⟨rfl, hw⟩; replace hw := hw.symm; subst hw
    go_wp2_with fail
    refine Calls.mono (fill_any p.md 14 (by omega) hmd _) ?_; rintro e w5 ⟨⟨md, hmdz, rfl⟩, hb5⟩
    have hP5 : Hid (Pok p c w w5) := Pok.next (Pok.store (a := ⟨D, 7, none⟩) (Pok.store (a := ⟨D, 6, none⟩) (Pok.store (a := ⟨D, 4, none⟩) (p := p) (c := c) (w := w) HP.out hD _) hD _) hD _) hb5
    have E5 : w5.heap[D]? = some (.cells #[.int .i64 0, .int .i64 0, .bool false, .int .i64 A, .int .i64 sp, .int .i64 B, .int .i64 dp, .int .i64 tl, .int .i64 p.bi, .int .i64 0, .string ⟨#[]⟩, .string ⟨#[]⟩, .string ⟨#[]⟩, .string ⟨#[]⟩] 33 (0, 0)) := (hb5.block D (by simpa [World.setCell] using hDl)).trans (by
      have h1 := heap_setCell_same (o := 4) (Value.int .i64 sp) HE.out
      have h2 := heap_setCell_same (o := 6) (Value.int .i64 dp) h1
      have h3 := heap_setCell_same (o := 7) (Value.int .i64 tl) h2
      simpa using h3)
    clear hb5 d0 d1 d2 d3 d4 d5 d6 d7 d8 d9 d10 d11 d12 d13 fD r2 r4 r5 r9 HP HE c2 c3 c4
    obtain ⟨d0, d1, d2, d3, d4, d5, d6, d7, d8, d9, d10, d11, d12, d13⟩ := cell14 E5
    have fD := nofrz E5
    have HE5 : Hid _ := heap_setCell_same (o := 11) (Value.string md) E5
    clear E5
    have q6 := Pok.at (p := p) (c := c) (w := w) 6 (u := (.int .i64 p.op)) rfl
    have q9 := Pok.at (p := p) (c := c) (w := w) 9 (u := (.string p.md)) rfl
    have hk4 : IntKind.i64.wrap (4 * k6) = 4 * k6 := by rw [IntKind.wrap_i64]; omega
    obtain ⟨N, hN⟩ : ∃ N : Nat, 4 * k6 = (N : Int) := ⟨(4 * k6).toNat, by omega⟩
    have hkN : IntKind.i64.wrap (N : Int) = (N : Int) := by rw [IntKind.wrap_i64]; omega
    have hN14 : N ≤ 14 := by omega
    go_wp2
    go_region_held (fun w' => Pok p c w w') (first | (with_reducible assumption) | (with_reducible exact Pok.drew (Pok.store (p := p) (c := c) (w := w) hP5.out hD _)) | (with_reducible exact Pok.store (by assumption) hD _)) (first
      | (go_at_call 18; refine Calls.mono (c6.at _) ?_; rintro e wk ⟨rfl, hwk⟩; replace hwk := hwk.symm; subst hwk)
      | (go_at_call 41; refine Calls.mono (fill_any p.md N hN14 hmd _) ?_; rintro e w6 ⟨⟨op, hopz, rfl⟩, hb6⟩; have hk6 := Pok.next (p := p) (c := c) (w := w) (by assumption) hb6; have E6 : w6.heap[D]? = some (.cells #[.int .i64 0, .int .i64 0, .bool false, .int .i64 A, .int .i64 sp, .int .i64 B, .int .i64 dp, .int .i64 tl, .int .i64 p.bi, .int .i64 0, .string ⟨#[]⟩, .string md, .string ⟨#[]⟩, .string ⟨#[]⟩] 33 (0, 0)) := blkn (wa := (w5.setCell ⟨D, 11, none⟩ (.string md)).drew) HE5.out hb6; obtain ⟨e0, e1, e2, e3, e4, e5, e6, e7, e8, e9, e10, e11, e12, e13⟩ := cell14 E6; have fD6 := nofrz E6; have HE6 : Hid _ := E6; have HK6 : Hid _ := hk6; clear E6))
    clear q6 q9 d0 d1 d2 d3 d4 d5 d6 d7 d8 d9 d10 d11 d12 d13 fD
    have r10 := Pok.at (p := p) (c := c) (w := w) 10 (u := (.string p.tx)) rfl w6 HK6.out
    have r0 := Pok.at (p := p) (c := c) (w := w) 0 (u := (.int .i64 p.kd)) rfl w6 HK6.out
    have r8 := Pok.at (p := p) (c := c) (w := w) 8 (u := (.int .i64 p.sr)) rfl w6 HK6.out
    have r11 := Pok.at (p := p) (c := c) (w := w) 11 (u := (.string p.ta)) rfl w6 HK6.out
    obtain ⟨n7, hn7⟩ : ∃ n7 : Int, most - 40 - (N : Int) = n7 := ⟨_, rfl⟩
    go_wp2_with fail
    refine Calls.mono (first_any p.tx n7 _ htx) ?_; rintro e w' ⟨rfl, hw⟩; replace hw := hw.symm; subst hw
    have hX : Hid ((prt p.tx 0 n7).size ≤ 65535 ∧ ((prt p.tx 0 n7).size : Int) ≤ n7) := by
      have := prt_zero_le p.tx n7 (by omega)
      exact ⟨by omega, this⟩
    generalize prt p.tx 0 n7 = X at hX ⊢
    have hX1 : X.size ≤ 65535 := hX.out.1
    obtain ⟨s0, hs, c9⟩ : ∃ s0 : Int, Hid (0 ≤ s0 ∧ s0 ≤ X.size) ∧ Ret 18 #[.int .i64 p.sr, .int .i64 0, .int .i64 (X.size : Int)] (.int .i64 s0) :=
      ⟨wth p.sr 0 X.size, wth_bd _ _ _ (by omega), fun w => kwithin_any _ _ _ w (by omega) (by omega) (by omega) HH.out.2.2.1.1 HH.out.2.2.1.2⟩
    obtain ⟨l4, hl, cL⟩ : ∃ l4 : Int, Hid (0 ≤ l4 ∧ l4 ≤ 10 ∧ 4 * l4 ≤ X.size) ∧ Ret 33 #[.int .i64 10, .int .i64 ((X.size : Int) / 4)] (.int .i64 l4) :=
      ⟨if (10 : Int) < (X.size : Int) / 4 then 10 else (X.size : Int) / 4, ⟨by split <;> omega, by split <;> omega, by split <;> omega⟩, least_any 10 ((X.size : Int) / 4)⟩
    obtain ⟨s2, hs2', c10⟩ : ∃ s2 : Int, Hid (0 ≤ s2 ∧ s2 ≤ l4) ∧ Ret 18 #[.int .i64 p.sr, .int .i64 0, .int .i64 l4] (.int .i64 s2) :=
      ⟨wth p.sr 0 l4, wth_bd _ _ _ hl.out.1, fun w => kwithin_any _ _ _ w hl.out.1 (by omega) (by have := hl.out.2.1; omega) HH.out.2.2.1.1 HH.out.2.2.1.2⟩
    have hq4 : (X.size : Int).tdiv 4 = (X.size : Int) / 4 := Int.tdiv_eq_ediv_of_nonneg (by omega)
    have hw4 : IntKind.i64.wrap ((X.size : Int) / 4) = (X.size : Int) / 4 := by rw [IntKind.wrap_i64]; omega
    have hD2 : ¬ D = w.heap.size + 1 + 1 := by omega
    subst hk
    have D1 : Hid (Dgok ⟨17, 0, false, A, sp, B, dp, tl, p.bi, s0, op, md, X, ⟨#[]⟩⟩) := by
      obtain ⟨⟨a0, a1, b0, b1, p0, p1, e0', e1', t0, t1⟩, _, _, _⟩ := HH.out; obtain ⟨hs0, hs1⟩ := hs.out; obtain ⟨hl0, hl1, hl2⟩ := hl.out; obtain ⟨hs2, hs3⟩ := hs2'.out
      exact ⟨.inl ⟨rfl, hs0, hs1⟩, a0, a1, b0, b1, p0, p1, e0', e1', by show 0 ≤ tl; omega, t1, hmdz, by show op.size ≤ 12; omega, by show op.size % 4 = 0; omega, by show op.size + X.size ≤ 65495; have := hX.out.2; omega, by show (0 : Nat) ≤ 65535; omega⟩
    have hbl := kbd_len D1.out
    have hbs := (kbd_size D1.out).1
    have cB : RetB 44 #[.agg #[.int .i64 17, .int .i64 0, .bool false, .int .i64 A, .int .i64 sp, .int .i64 B, .int .i64 dp, .int .i64 tl, .int .i64 p.bi, .int .i64 s0, .string op, .string md, .string X, .string ⟨#[]⟩]] (.string (kbd ⟨17, 0, false, A, sp, B, dp, tl, p.bi, s0, op, md, X, ⟨#[]⟩⟩)) := body_any _ D1.out
    have hkt : Hid (∀ ta : ByteArray, kbd ⟨17, 0, false, A, sp, B, dp, tl, p.bi, s0, op, md, X, ta⟩ = kbd ⟨17, 0, false, A, sp, B, dp, tl, p.bi, s0, op, md, X, ⟨#[]⟩⟩) := fun ta => rfl
    generalize kbd ⟨17, 0, false, A, sp, B, dp, tl, p.bi, s0, op, md, X, ⟨#[]⟩⟩ = bb at hbl hbs cB hkt
    have hbl' : Hid ((bb.size : Int) ≤ 20 + X.size) := hbl
    clear hbl
    obtain ⟨n25, hn25⟩ : ∃ n25 : Int, 65515 - (N : Int) - (bb.size : Int) = n25 := ⟨_, rfl⟩
    go_wp2_with fail
    refine Calls.mono (c8.at _) ?_; rintro e w' ⟨rfl, hw⟩; replace hw := hw.symm; subst hw
    go_wp2_with fail
    refine Calls.mono (c9.at _) ?_; rintro e w' ⟨rfl, hw⟩; replace hw := hw.symm; subst hw
    go_wp2_with fail
    refine Calls.mono (cB.at _) ?_; rintro e w7 ⟨rfl, hb7⟩
    have hP7 := Pok.next (Pok.store (a := ⟨D, 9, none⟩) (p := p) (c := c) (w := w) (Pok.store (a := ⟨D, 0, none⟩) (p := p) (c := c) (w := w) (Pok.store (a := ⟨D, 12, none⟩) (p := p) (c := c) (w := w) (Pok.store (a := ⟨D, 10, none⟩) (p := p) (c := c) (w := w) HK6.out hD _) hD _) hD _) hD _) hb7
    have E7 : w7.heap[D]? = some (.cells #[.int .i64 17, .int .i64 0, .bool false, .int .i64 A, .int .i64 sp, .int .i64 B, .int .i64 dp, .int .i64 tl, .int .i64 p.bi, .int .i64 s0, .string op, .string md, .string X, .string ⟨#[]⟩] 33 (0, 0)) := (hb7.block D (by have := (Array.getElem?_eq_some_iff.1 HE6.out).1; simpa [World.setCell] using this)).trans (by
        have h1 := heap_setCell_same (o := 10) (Value.string op) HE6.out
        have h2 := heap_setCell_same (o := 12) (Value.string X) h1
        have h3 := heap_setCell_same (o := 0) (Value.int .i64 17) h2
        have h4 := heap_setCell_same (o := 9) (Value.int .i64 s0) h3
        simpa using h4)
    have R7 : w7.heap[w.heap.size + 1 + 1]? = some (.cells #[.int .i64 0, .int .i64 0, .bool false, .int .i64 0, .int .i64 0, .int .i64 0, .int .i64 0, .int .i64 0, .int .i64 0, .int .i64 0, .string ⟨#[]⟩, .string ⟨#[]⟩, .string ⟨#[]⟩, .string ⟨#[]⟩] 33 (0, 0)) := hP7.res
    obtain ⟨x0, x1, x2, x3, x4, x5, x6, x7, x8, x9, x10, x11, x12, x13⟩ := cell14 E7
    obtain ⟨y0, y1, y2, y3, y4, y5, y6, y7, y8, y9, y10, y11, y12, y13⟩ := cell14 R7
    have fE := nofrz E7
    have fR := nofrz R7
    have z11 := Pok.at (p := p) (c := c) (w := w) 11 (u := (.string p.ta)) rfl w7 hP7
    have HP7 : Hid (Below w.heap.size w w7) := hP7.below
    clear hb7 hP7 E7 R7 e0 e1 e2 e3 e4 e5 e6 e7 e8 e9 e10 e11 e12 e13 fD6 r0 r8 r10 r11
    go_wp2_with fail
    refine Calls.mono (first_any p.ta n25 _ HH.out.2.2.2) ?_; rintro e w' ⟨rfl, hw⟩; replace hw := hw.symm; subst hw
    have hT := prt_zero_le p.ta n25 (by omega)
    generalize prt p.ta 0 n25 = ta at hT ⊢
    go_wp2
    refine bodyPost_ret (v := .agg #[.int .i64 17, .int .i64 0, .bool false, .int .i64 A, .int .i64 sp, .int .i64 B, .int .i64 dp, .int .i64 tl, .int .i64 p.bi, .int .i64 s0, .string op, .string md, .string X, .string ta]) (by simp [results, Tryz.results13, go_sem, y0, y1, y2, y3, y4, y5, y6, y7, y8, y9, y10, y11, y12, y13]) rfl (HQ.out _ _ ⟨⟨⟨17, 0, false, A, sp, B, dp, tl, p.bi, s0, op, md, X, ta⟩, rfl, ?_⟩, ?_⟩)
    · obtain ⟨⟨a0, a1, b0, b1, p0, p1, e0', e1', t0, t1⟩, _, _, _⟩ := HH.out
      have D2 : Dgok ⟨17, 0, false, A, sp, B, dp, tl, p.bi, s0, op, md, X, ta⟩ := ⟨D1.out.pr, a0, a1, b0, b1, p0, p1, e0', e1', by show 0 ≤ tl; omega, t1, hmdz, D1.out.op, D1.out.o4, D1.out.tx, by show ta.size ≤ 65535; omega⟩
      have hb2 := hbl'.out
      have hx2 := hX.out.2
      refine ⟨D2, rfl, rfl, rfl, rfl, rfl, fun h => ?_, ?_, ?_, rfl⟩
      · first
        | (exact .inl rfl)
        | (exact .inr rfl)
        | (exact absurd h (by simp))
      · rw [hkt.out ta]; show 20 + (op.size : Int) + bb.size ≤ most; omega
      · rw [kfr_size D2, hkt.out ta]; show 20 + op.size + bb.size + ta.size ≤ 65535; omega
    · repeat refine Below.setCell ?_ (by simp <;> omega) _
      exact HP7.out
end Go.Proofs.YthiljpbodmajaaaGreat
