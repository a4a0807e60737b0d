/-
  Frame of an error message: nothing but new memory.
-/
import Derived.Test.YthiljpbodmajaaaGreatMsga
import Derived.Test.YthiljpbodmajaaaGreatNotd
import Derived.Test.YthiljpbodmajaaaGreatLetr
import Derived.Test.YthiljpbodmajaaaGreatSana
namespace Go.Proofs.YthiljpbodmajaaaGreat
open Go.RowKit Plain
set_option linter.unusedVariables false
theorem frame_note {w : World} {base b : Nat} {c : Cf} {tk ti : Int} {v : Value} {ms : List Mp} (T : Bat w base b c tk ti v ms) (G : c.ok = true) (K : Tok c ms) (d : Int) (s : ByteArray) (hl : s.size ≤ maxLen) (hx : exam c d s = 0) (he : isErr s = true) :
    Calls Tryz.prog 25 #[.pointer (some ⟨b, 0, none⟩), .int .i64 d, .string s] w fun e w' => e = .returned (frR c tk ms d s).val ∧ Below w.heap.size w w' := by
  unfold frR
  rw [if_pos hx, if_pos he]
  obtain ⟨hk, hd⟩ := exam_chk hx
  have cX : ∀ wx, Below w.heap.size w wx → Calls Tryz.prog 48 #[.pointer (some ⟨b, 0, none⟩), .int .i64 d, .string s] wx fun e w' => e = .returned (.int .i64 0) ∧ Below wx.heap.size wx w' := fun wx hb => by
    have := examine_any (T.below hb) d s hl; rw [hx] at this; exact this
  have cE : Ret 49 #[.string s] (.bool true) := by have := isErr_any s hl; rw [he] at this; exact this
  have cF : ∀ wx, Below w.heap.size w wx → Calls Tryz.prog 52 #[.pointer (some ⟨b, 0, none⟩), .string s] wx fun e w' => e = .returned (.bool (lg s 16 == c.oa)) ∧ Below wx.heap.size wx w' := fun wx hb =>
    isForBox_core b s (lg s 16) c.oa wx (T.below hb).lt ((T.below hb).at 1 rfl) (fun w => destination_any s w hl)
  have main : ∀ wx, Below w.heap.size w wx → Calls Tryz.prog 50 #[.pointer (some ⟨b, 0, none⟩), .int .i64 d, .string s] wx fun e w' => e = .returned (msgR c tk ms d s).val ∧ Below wx.heap.size wx w' := fun wx hb => by
    have Tx := T.below hb
    unfold msgR
    by_cases h1 : d = 1
    · rw [if_pos h1]
      subst h1
      unfold Rp.val
      exact message_in b s _ _ _ (fun wy hy => mIn_all (Tx.below hy) G K s hk he)
    · have h0 : d = 0 := by omega
      rw [if_neg h1]
      subst h0
      by_cases h2 : lg s 16 = c.oa
      · rw [if_pos h2]
        have h2' : (lg s 16 == c.oa) = true := by simpa using h2
        rw [h2'] at cF
        unfold Rp.val
        exact message_back b s _ _ _ (fun wy hy => cF wy (hb.trans (hy.mono hb.size))) (fun wy hy => mBack_all (Tx.below hy) G K s hk he)
      · rw [if_neg h2]
        have h2' : (lg s 16 == c.oa) = false := by simpa using h2
        rw [h2'] at cF
        unfold Rp.val
        exact message_out b s _ _ _ (fun wy hy => cF wy (hb.trans (hy.mono hb.size))) (fun wy hy => mOut_all (Tx.below hy) G K s hk he)
  unfold Rp.val at main ⊢
  exact frame_msg b s _ _ _ d cX cE (fun wx w' => Below wx.heap.size wx w') main
    (fun wx w' h k q1 q2 => h.block k q2) _ (fun wx w1 hx hlt h u0 u1 u2 => below_three hx h u0 u1 u2)
end Go.Proofs.YthiljpbodmajaaaGreat
namespace Go.Proofs.YthiljpbodmajaaaGreat
open Go.RowKit Plain
set_option linter.unusedVariables false

structure Ntwf (n : Nt) : Prop where
  sr : -9223372036854775808 ≤ n.sr ∧ n.sr < 9223372036854775808
  ty : -9223372036854775808 ≤ n.ty ∧ n.ty < 9223372036854775808
  co : -9223372036854775808 ≤ n.co ∧ n.co < 9223372036854775808
  le : -9223372036854775808 ≤ n.le ∧ n.le < 9223372036854775808
  se : -9223372036854775808 ≤ n.se ∧ n.se < 9223372036854775808
  tl : -9223372036854775808 ≤ n.tl ∧ n.tl < 9223372036854775808
  op : -9223372036854775808 ≤ n.op ∧ n.op < 9223372036854775808
  bi : -9223372036854775808 ≤ n.bi ∧ n.bi < 9223372036854775808
  re : n.re.size ≤ maxLen
  ta : n.ta.size ≤ maxLen
/-- what noted gives: a message about d, seen with the TTL x -/
structure Ntd (m : Lt) (d : Dg) (n : Nt) (g : Cf) (dst most : Int) (k : Int) : Prop where
  nt : Noted m { d with tl := wth n.se 0 255 } k
  sa : m.d.sa = oth n.sr g.ia g.oa
  da : m.d.da = dst
  len : 28 + (m.d.op.size : Int) + k ≤ most
theorem dg_tl {d : Dg} (D : Dgok d) (x : Int) (x0 : 0 ≤ x) (x1 : x < 256) : Dgok { d with tl := x } := ⟨D.pr, D.s0, D.s1, D.d0, D.d1, D.p0, D.p1, D.q0, D.q1, x0, x1, D.md, D.op, D.o4, D.tx, D.ta⟩
theorem kfr_tl {d : Dg} (D : Dgok d) (x : Int) (x0 : 0 ≤ x) (x1 : x < 256) : (kfr { d with tl := x }).size = (kfr d).size := by
  have h1 := kfr_size D
  have h2 : (kfr { d with tl := x }).size = 20 + d.op.size + (kbd { d with tl := x }).size + d.ta.size := kfr_size (dg_tl D x x0 x1)
  have h3 : kbd { d with tl := x } = kbd d := rfl
  rw [h2, h3]; omega
theorem noted_any (n : Nt) (W : Ntwf n) (g : Cf) (d : Dg) (D : Dgok d) (hs : (kfr d).size ≤ 65535) (dst most : Int) (hu : usB dst = true) (hm0 : 100 ≤ most) (hm1 : most ≤ 65535) (w : World) :
    Calls Tryz.prog 30 #[.agg (ntl n), .agg (cfl g), .int .i64 dst, .agg (dgl d), .int .i64 most] w fun e w' => (∃ m k, e = .returned (.agg (ltl m)) ∧ Ntd m d n g dst most k) ∧ Below w.heap.size w w' := by
  have hA := oth_us n.sr g.ia g.oa
  have hAb := us_bd hA
  have hdb := us_bd hu
  have ht := wth_bd n.tl 2 255 (by decide)
  have ho := wth_bd n.op 0 3 (by decide)
  have hse := wth_bd n.se 0 255 (by decide)
  have hty := pk_bd n.ty 3 (by decide)
  have hsz := kfr_size D
  have hb8 := kbd_size D
  have hkb : 8 ≤ (kbd d).size := by rw [kbd_eq D]; exact (kbx_big D (kfd d)).2
  have hop := D.op
  obtain ⟨k6, hk6⟩ : ∃ k6, k6 = wth n.op 0 3 := ⟨_, rfl⟩
  rw [← hk6] at ho
  obtain ⟨N, hN⟩ : ∃ N : Nat, 4 * k6 = (N : Int) := ⟨(4 * k6).toNat, by omega⟩
  obtain ⟨sz, hsz'⟩ : ∃ sz : Int, sz = 20 + (d.op.size : Int) + ((kbd d).size : Int) := ⟨_, rfl⟩
  obtain ⟨lz, hlz⟩ : ∃ lz : Int, most - 28 - (N : Int) = lz := ⟨_, rfl⟩
  obtain ⟨lm, hlm⟩ : ∃ lm : Int, lm = if sz < lz then sz else lz := ⟨_, rfl⟩
  have hlo : 28 + (d.op.size : Int) ≤ lm := by rw [hlm]; split <;> omega
  have hle := wth_bd n.le (28 + (d.op.size : Int)) lm hlo
  obtain ⟨kk, hkk⟩ : ∃ kk : Int, kk = wth n.le (28 + (d.op.size : Int)) lm := ⟨_, rfl⟩
  rw [← hkk] at hle
  have hl2 : lm ≤ sz ∧ lm ≤ lz := by rw [hlm]; split <;> omega
  obtain ⟨ki, hki⟩ : ∃ ki : Int, (pk n.ty 3 = 0 ∧ ki = 3) ∨ (pk n.ty 3 = 1 ∧ ki = 11) ∨ (pk n.ty 3 = 2 ∧ ki = 12) := by
    have : pk n.ty 3 = 0 ∨ pk n.ty 3 = 1 ∨ pk n.ty 3 = 2 := by omega
    rcases this with e | e | e
    · exact ⟨3, .inl ⟨e, rfl⟩⟩
    · exact ⟨11, .inr (.inl ⟨e, rfl⟩)⟩
    · exact ⟨12, .inr (.inr ⟨e, rfl⟩)⟩
  have cZ := ksize_any d D
  rw [← hsz'] at cZ
  have cL := least_any sz lz
  rw [← hlm] at cL
  have c6 : Ret 18 #[.int .i64 n.op, .int .i64 0, .int .i64 3] (.int .i64 k6) := fun w => by rw [hk6]; exact kwithin_any _ _ _ w (by decide) (by decide) (by decide) W.op.1 W.op.2
  have cW : Ret 18 #[.int .i64 n.le, .int .i64 (28 + (d.op.size : Int)), .int .i64 lm] (.int .i64 kk) := fun w => by rw [hkk]; exact kwithin_any _ _ _ w hlo (by omega) (by omega) W.le.1 W.le.2
  refine (noted_core n g d dst most (oth n.sr g.ia g.oa) (wth n.tl 2 255) k6 (pk n.ty 3) ki sz lm lz kk (wth n.se 0 255) (65507 - (N : Int) - kk) N (prt (kfr { d with tl := wth n.se 0 255 }) 0 kk) w hN hlz hop hm0 hm1 W.re W.ta ho.1 ho.2 (by omega) (by omega) (by omega) (by omega) rfl hki
    (other_any n.sr g W.sr.1 W.sr.2) (fun w => kwithin_any _ _ _ w (by decide) (by decide) (by decide) W.tl.1 W.tl.2) c6 (fun w => pick_any _ _ w (by decide) (by decide) W.ty.1 W.ty.2) cZ cL cW (fun w => kwithin_any _ _ _ w (by decide) (by decide) (by decide) W.se.1 W.se.2) (kaged_any d kk (wth n.se 0 255) D hse.1 (by omega))).mono ?_
  rintro e w' ⟨⟨op, re, ta, rfl, hopz, hrez, hta⟩, hb⟩
  have De := dg_tl D (wth n.se 0 255) hse.1 (by omega)
  have hkt := kfr_tl D (wth n.se 0 255) hse.1 (by omega)
  have Q : Quk { d with tl := wth n.se 0 255 } kk := ⟨De, by rw [hkt]; exact hs, hle.1, by show kk ≤ 20 + (d.op.size : Int) + (kbd d).size; omega⟩
  have hqz := Q.size
  have hqv := Q.qv
  generalize hX : prt (kfr { d with tl := wth n.se 0 255 }) 0 kk = X at hqz hqv ⊢
  have htz : ta.size ≤ 65507 - N - X.size := by rw [hta, prt_size]; omega
  refine ⟨⟨⟨⟨1, 0, false, oth n.sr g.ia g.oa, 0, dst, 0, wth n.tl 2 255, n.bi, 0, op, ⟨#[]⟩, ⟨#[]⟩, ta⟩, ki, n.co, re, X⟩, kk, rfl, ⟨⟨⟨⟨⟨(by decide : (0 : Int) ≤ 1), (by decide : (1 : Int) < 256)⟩, hAb.1, hAb.2, hdb.1, hdb.2, by show 0 ≤ wth n.tl 2 255; omega, by show wth n.tl 2 255 < 256; omega, by show op.size ≤ 12; omega, by show ta.size ≤ 65535; omega⟩, rfl, by show op.size % 4 = 0; omega, ?_, hrez, by show 28 + op.size + X.size + ta.size ≤ 65535; omega, hA, hu, hqv⟩, Q, hX.symm, by show 2 ≤ wth n.tl 2 255; omega⟩, rfl, rfl, by show 28 + (op.size : Int) + kk ≤ most; omega⟩⟩, hb⟩
  show ki = 3 ∨ ki = 11 ∨ ki = 12
  rcases hki with ⟨_, e⟩ | ⟨_, e⟩ | ⟨_, e⟩ <;> rw [e] <;> simp
theorem prt_prt (s : ByteArray) (i j k : Int) (h0 : 0 ≤ i) (h1 : j ≤ k) : prt (prt s 0 k) i j = prt s i j := by
  apply bt_ext
  · rw [prt_size, prt_size, prt_size]; omega
  · intro t ht
    rw [prt_size] at ht
    rw [bt_prt _ _ _ _ h0 (by omega) (by omega), bt_prt0 _ _ _ (by omega), bt_prt _ _ _ _ h0 (by omega) (by omega)]
theorem ntd_k {m : Lt} {d : Dg} {n : Nt} {g : Cf} {dst most k : Int} (hN : Ntd m d n g dst most k) : k = (m.qu.size : Int) := by rw [hN.nt.qu]; exact hN.nt.q.size.symm
theorem ntd_rz {m : Lt} {d e : Dg} {n : Nt} {g : Cf} {dst most k : Int} (hN : Ntd m d n g dst most k) (De : Dgok e) (E : Ends d { e with tl := d.tl }) : (rqt { d with tl := wth n.se 0 255 } { e with tl := wth n.se 0 255 } (m.qu.size : Int)).size = m.qu.size := by
  have hse := wth_bd n.se 0 255 (by decide)
  have E' : Ends { d with tl := wth n.se 0 255 } { e with tl := wth n.se 0 255 } := ⟨E.pr, E.kd, E.ba, rfl, E.bi, E.sr, E.op, E.md, E.tx, E.ta⟩
  have h := (rqt_qv hN.nt.q (dg_tl De (wth n.se 0 255) hse.1 (by omega)) E').2
  rw [← ntd_k hN, h, ← hN.nt.qu]
/-- the frame of a message with other ends and another quote -/
theorem ntd_frame {m : Lt} {d : Dg} {n : Nt} {g : Cf} {dst most k : Int} (hN : Ntd m d n g dst most k) (a b : Int) (ha : usB a = true) (hb : usB b = true) (Q : ByteArray) (hQ : Q.size = m.qu.size) : RetB 31 #[.agg (ltl ⟨{ m.d with sa := a, da := b, tl := m.d.tl - 1 }, m.ki, m.co, m.re, Q⟩)] (.string (lfr ⟨{ m.d with sa := a, da := b, tl := m.d.tl - 1 }, m.ki, m.co, m.re, Q⟩)) := by
  have L := hN.nt.ok
  have h1 := us_bd ha
  have h2 := us_bd hb
  have htl := hN.nt.tl
  have hall := L.all
  have hre := L.re
  exact lframe_any _ ⟨L.hd.pr, h1.1, h1.2, h2.1, h2.2, by show 0 ≤ m.d.tl - 1; omega, by show m.d.tl - 1 < 256; have := L.hd.t1; omega, L.hd.op, L.hd.ta⟩ (by show m.d.op.size + m.re.size + Q.size ≤ 65511; omega)
theorem array10 {α : Type} {a : Array α} (h : a.size = 10) : ∃ c0 c1 c2 c3 c4 c5 c6 c7 c8 c9, a = #[c0, c1, c2, c3, c4, c5, c6, c7, c8, c9] := by
  obtain ⟨l⟩ := a
  match l, h with
  | [c0, c1, c2, c3, c4, c5, c6, c7, c8, c9], _ => exact ⟨c0, c1, c2, c3, c4, c5, c6, c7, c8, c9, rfl⟩
end Go.Proofs.YthiljpbodmajaaaGreat
