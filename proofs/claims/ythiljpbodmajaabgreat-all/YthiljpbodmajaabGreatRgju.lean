/-
  CONTRACTS: package natboxref: inward and outward are the program's; Message, barred.
-/
import Derived.Test.YthiljpbodmajaabGreatRfow
import Derived.Test.YthiljpbodmajaabGreatRefy
import Derived.Test.YthiljpbodmajaabGreatRefz
import Derived.Test.YthiljpbodmajaabGreatRefr
import Derived.Test.YthiljpbodmajaabGreatRega
import Derived.Test.YthiljpbodmajaabGreatRgmi
import Derived.Test.YthiljpbodmajaabGreatRgms
import Derived.Test.YthiljpbodmajaabGreatRfqu
import Derived.Test.YthiljpbodmajaabGreatRfpe
import Derived.Test.YthiljpbodmajaabGreatMsga
import Derived.Laws.StructEq
import Derived.Laws.Closers25
import Derived.Test.YthiljpbodmajaabGreatRefs
namespace Go.Proofs.YthiljpbodmajaabGreat
open Go.RowKit Plain
set_option linter.unusedVariables false
/-- what a verdict changes -/
structure Jd (c : Cf) (now : Int) (us : List Us) (ms : List Mp) (tk : Int) (R : Rp) (usd : Bool) (u : Us) (td : Bool) : Prop where
  use : usd = true → u.ti = now ∧ (0 ≤ u.pr ∧ u.pr ≤ 255) ∧ Sim c now (us ++ [u]) R.ms
  ms : usd = false → R.ms = ms
  tk : R.tk = if td then tk - 1 else tk
theorem idx_none : idx none = -1 := rfl
theorem idx_some (i : Nat) : idx (some i) = (i : Int) := rfl
section
variable {w w' : World} {base b : Nat} {c : Cf} {now : Int} {us : List Us} {own : List Int} {uv ov : Value} {tk : Int} {ms : List Mp}
theorem Rx.uses (X : Rx w base b c now us own uv ov tk ms) {i : Nat} {u : Us} (hu : us[i]? = some u) : ∃ g n cap, i < n ∧ n ≤ cap ∧ cap ≤ 9223372036854775807 ∧ ∀ wx, Below w.heap.size w wx → wx.cell? ⟨b, 13, none⟩ = some (.slice (some ⟨g, 0, none⟩) n cap) ∧ (∀ k v, us[k]? = some v → k < n ∧ wx.cell? ⟨g, k * 7, none⟩ = some (.int .i64 v.pr) ∧ wx.cell? ⟨g, k * 7 + 1, none⟩ = some (.int .i64 v.ad) ∧ wx.cell? ⟨g, k * 7 + 2, none⟩ = some (.int .i64 v.po) ∧ wx.cell? ⟨g, k * 7 + 3, none⟩ = some (.int .i64 v.ex) ∧ wx.cell? ⟨g, k * 7 + 4, none⟩ = some (.int .i64 v.pa) ∧ wx.cell? ⟨g, k * 7 + 5, none⟩ = some (.int .i64 v.pp) ∧ wx.cell? ⟨g, k * 7 + 6, none⟩ = some (.int .i64 v.ti)) := by
  rcases X.rb.ur.cases with ⟨_, rfl⟩ | ⟨g, n, cap, rfl, hr⟩
  · simp at hu
  · have hl := hr.len
    have hcm := hr.cm
    unfold maxLen at hcm
    have hi : i < us.length := (List.getElem?_eq_some_iff.1 hu).1
    refine ⟨g, n, cap, by omega, hr.le, by omega, fun wx hb => ?_⟩
    have T := X.rb.below hb
    refine ⟨T.at 13 rfl, fun k v hv => ?_⟩
    have hk : k < us.length := (List.getElem?_eq_some_iff.1 hv).1
    exact ⟨by omega, (hr.kept (hb.block g hr.lt)).cells k v hv⟩
theorem Rx.hold (X : Rx w base b c now us own uv ov tk ms) (p x : Int) : ∀ wx, Below w.heap.size w wx → Calls Tryz.prog 203 #[.pointer (some ⟨b, 0, none⟩), .int .i64 p, .int .i64 x] wx fun e w' => e = .returned (.int .i64 (idx (fst? (hasI c now us p x) us.length))) ∧ Below wx.heap.size wx w' := fun wx hb => rhold_any (X.rb.below hb) X.uok X.t2 p x
theorem Rx.endp (X : Rx w base b c now us own uv ov tk ms) (p a q : Int) : ∀ wx, Below w.heap.size w wx → Calls Tryz.prog 226 #[.pointer (some ⟨b, 0, none⟩), .int .i64 p, .int .i64 a, .int .i64 q] wx fun e w' => e = .returned (.int .i64 (idx (fst? (ofI c now us p a q) us.length))) ∧ Below wx.heap.size wx w' := fun wx hb => rendp_any (X.rb.below hb) X.uok X.t2 p a q
theorem rfs_jd (c : Cf) (now : Int) (us : List Us) (k d u tk : Int) (ms : List Mp) (s : ByteArray) : Jd c now us ms tk (rfs c k d u tk ms s) false us0 (telB k tk s) := by
  refine ⟨fun h => (by cases h), fun _ => rfs_ms c k d u tk ms s, ?_⟩
  unfold rfs
  split
  · rfl
  · rfl
theorem same_jd (c : Cf) (now : Int) (us : List Us) (tk : Int) (ms : List Mp) (er sd : Int) (fr : ByteArray) : Jd c now us ms tk ⟨er, sd, fr, tk, ms⟩ false us0 false := ⟨fun h => (by cases h), fun _ => rfl, rfl⟩
/-- inward is the program's -/
theorem rin_all (X : Rx w base b c now us own uv ov tk ms) (s : ByteArray) (hk : chk s = 0) : ∃ so td, (∀ wx, Below w.heap.size w wx → Calls Tryz.prog 152 #[.pointer (some ⟨b, 0, none⟩), .string s] wx fun r w' => r = .returned (.agg (vdl (inR c tk ms s).er (inR c tk ms s).sd (inR c tk ms s).fr so false us0 td).toArray) ∧ Below wx.heap.size wx w') ∧ Jd c now us ms tk (inR c tk ms s) false us0 td := by
  have S := chk_sok hk
  have F := S.fit
  have hl : s.size ≤ maxLen := size_le F.n64
  have h8 := chk_b8 hk
  have hh8 := chk_h8 hk
  have M := cok_mtus X.ok
  have c9 : Ret 141 #[.string s, .int .i64 9, .int .i64 1] (.int .i64 (bt s 9)) := fun w => number1 s 9 w hl (by decide) (by decide)
  have cd := dport_any s hl
  unfold inR
  cases ha : askM ms s with
  | none =>
    refine ⟨0, false, fun wx hb => ?_, same_jd c now us tk ms _ _ _⟩
    have ch := (X.below hb).hold (bt s 9) (wd s (ppl s 2))
    rw [X.sim.holder0 ha] at ch
    exact rin_none b s (bt s 9) (wd s (ppl s 2)) _ wx c9 cd ch (by rw [idx_none]; decide)
  | some m =>
    obtain ⟨i, u, hf, hu, hlv, Mt⟩ := X.sim.holder1 ha
    by_cases hp : pss s c.im = 0
    · simp only [if_pos hp]
      refine ⟨0, false, fun wx hb => ?_, same_jd c now us tk ms _ _ _⟩
      have ch := (X.below hb).hold (bt s 9) (wd s (ppl s 2))
      rw [hf] at ch
      obtain ⟨g, n, cap, h1, h2, h3, hc⟩ := (X.below hb).uses hu
      have cs := rstopped_any b s c.im hl
      rw [hp] at cs
      have Mo := X.sim.tok.all m (fi_some ha).1
      have W := wdst_ok S h8 m.ea m.ep
      have cD := rdest_any s m.ea m.ep F.n20 F.n64 Mo.a0 Mo.a1 Mo.p0 Mo.p1
      rw [Mt.ea, Mt.ep] at cD W
      have cO := on_any _ W.1 (by rw [W.2.2.1]; have := pss_ttl hp; omega) (by rw [W.2.1]; exact chk_pr hk)
      have := rin_go b s (bt s 9) (wd s (ppl s 2)) _ wx c9 cd ch i g n cap (idx_some i) h1 h2 h3 u.ad u.po _ _ c.im 0 (fun wy hy => ((X.below hb).rb.below hy).at 5 rfl) cs rfl (fun wy hy => ⟨(hc wy hy).1, ((hc wy hy).2 i u hu).2.2.1, ((hc wy hy).2 i u hu).2.2.2.1⟩) cD cO
      rw [Mt.ea, Mt.ep]
      exact this
    · simp only [if_neg hp]
      have he : pss s c.im = 9 ∨ pss s c.im = 10 ∨ pss s c.im = 11 := by rcases pss_cases s c.im with h | h | h <;> omega
      refine ⟨1, telB (pss s c.im) tk s, fun wx hb => ?_, rfs_jd c now us _ _ _ tk ms s⟩
      have ch := (X.below hb).hold (bt s 9) (wd s (ppl s 2))
      rw [hf] at ch
      have co := fun wy (hy : Below wx.heap.size wx wy) => rown_any ((X.below hb).below hy) s F.n64 F.n20 hh8 (pss s c.im) 1 c.im 1 he (.inr rfl) (by omega) (by omega)
      rw [rfs_er]
      exact rin_stop b s (bt s 9) (wd s (ppl s 2)) _ wx c9 cd ch (by rw [idx_some]; omega) c.im (pss s c.im) (fun wy hy => ((X.below hb).rb.below hy).at 5 rfl) (rstopped_any b s c.im hl) (by simpa using hp) _ _ _ _ _ _ _ _ _ _ _ _ _ co
end
end Go.Proofs.YthiljpbodmajaabGreat
namespace Go.Proofs.YthiljpbodmajaabGreat
open Go.RowKit Plain
set_option linter.unusedVariables false
theorem wdst_eq {s : ByteArray} (h20 : 20 ≤ s.size) (h9 : ¬ bt s 9 = 1) (a p : Int) : wdst s a p = put (put s 16 (l4 a)) (hdv s + 2) (w2 p) := by
  have w16 : (16 : Int) + ((l4 a).size : Int) ≤ s.size := by rw [l4_size]; omega
  unfold wdst ppl
  rw [hdv_put (by decide) w16, bt_put_off (by decide) w16 (by omega), if_neg h9]
theorem wsrc_eq {s : ByteArray} (h20 : 20 ≤ s.size) (h9 : ¬ bt s 9 = 1) (a p : Int) : wsrc s a p = put (put s 12 (l4 a)) (hdv s) (w2 p) := by
  have w12 : (12 : Int) + ((l4 a).size : Int) ≤ s.size := by rw [l4_size]; omega
  unfold wsrc ppl
  rw [hdv_put (by decide) w12, bt_put_off (by decide) w12 (by omega), if_neg h9, Int.add_zero]
theorem wsd_comm {s : ByteArray} (h20 : 20 ≤ hdv s) (h4 : hdv s + 4 ≤ s.size) (h9 : ¬ bt s 9 = 1) (a p a' p' : Int) : wsrc (wdst s a p) a' p' = wdst (wsrc s a' p') a p := by
  have n20 : 20 ≤ s.size := by omega
  have w16 : (16 : Int) + ((l4 a).size : Int) ≤ s.size := by rw [l4_size]; omega
  have w12 : (12 : Int) + ((l4 a').size : Int) ≤ s.size := by rw [l4_size]; omega
  have z16 := put_size s 16 (l4 a) (by decide) w16
  have z12 := put_size s 12 (l4 a') (by decide) w12
  have e1 : ∀ p, hdv s + 2 + ((w2 p).size : Int) ≤ s.size := fun p => by rw [w2_size]; omega
  have e0 : ∀ p, hdv s + ((w2 p).size : Int) ≤ s.size := fun p => by rw [w2_size]; omega
  have zd : (put (put s 16 (l4 a)) (hdv s + 2) (w2 p)).size = s.size := by rw [put_size _ _ _ (by omega) (by rw [z16]; exact e1 p), z16]
  have zs : (put (put s 12 (l4 a')) (hdv s) (w2 p')).size = s.size := by rw [put_size _ _ _ (by omega) (by rw [z12]; exact e0 p'), z12]
  have hd1 : hdv (put (put s 16 (l4 a)) (hdv s + 2) (w2 p)) = hdv s := by rw [hdv_put (by omega) (by rw [z16]; exact e1 p), hdv_put (by decide) w16]
  have hs1 : hdv (put (put s 12 (l4 a')) (hdv s) (w2 p')) = hdv s := by rw [hdv_put (by omega) (by rw [z12]; exact e0 p'), hdv_put (by decide) w12]
  have b1 : bt (put (put s 16 (l4 a)) (hdv s + 2) (w2 p)) 9 = bt s 9 := by rw [bt_put_off (by omega) (by rw [z16]; exact e1 p) (by omega), bt_put_off (by decide) w16 (by omega)]
  have b2 : bt (put (put s 12 (l4 a')) (hdv s) (w2 p')) 9 = bt s 9 := by rw [bt_put_off (by omega) (by rw [z12]; exact e0 p') (by omega), bt_put_off (by decide) w12 (by omega)]
  rw [wdst_eq n20 h9, wsrc_eq n20 h9, wsrc_eq (by omega) (by rw [b1]; exact h9), wdst_eq (by omega) (by rw [b2]; exact h9), hd1, hs1]
  rw [← put_comm (s := put s 16 (l4 a)) (i := 12) (j := hdv s + 2) (by decide) (by rw [l4_size]; omega) (by rw [z16]; exact e1 p)]
  rw [← put_comm (s := s) (i := 12) (j := 16) (by decide) (by rw [l4_size]; omega) w16]
  have z3 : (put (put s 12 (l4 a')) 16 (l4 a)).size = s.size := by rw [put_size _ _ _ (by decide) (by rw [z12]; exact w16), z12]
  rw [← put_comm (s := put (put s 12 (l4 a')) 16 (l4 a)) (i := hdv s) (j := hdv s + 2) (by omega) (by rw [w2_size]; omega) (by rw [z3]; exact e1 p)]
  rw [put_comm (s := put s 12 (l4 a')) (i := 16) (j := hdv s) (by decide) (by rw [l4_size]; omega) (by rw [z12]; exact e0 p')]
section
variable {w w' : World} {base b : Nat} {c : Cf} {now : Int} {us : List Us} {own : List Int} {uv ov : Value} {tk : Int} {ms : List Mp}
theorem rfs_u (c : Cf) (d u u' tk : Int) (ms : List Mp) (s : ByteArray) : rfs c 11 d u tk ms s = rfs c 11 d u' tk ms s := by unfold rfs thn; rfl
set_option maxHeartbeats 1000000 in
/-- outward is the program's -/
theorem rout_all (X : Rx w base b c now us own uv ov tk ms) (s : ByteArray) (hk : chk s = 0) (hq : lg s 16 = c.oa → ¬ bt s 9 = 1) (R : Rp) (hR : R = if lg s 16 = c.oa then backR c tk ms s else outR c tk ms s) : ∃ so usd u td, (∀ wx, Below w.heap.size w wx → Calls Tryz.prog 153 #[.pointer (some ⟨b, 0, none⟩), .string s] wx fun r w' => r = .returned (.agg (vdl R.er R.sd R.fr so usd u td).toArray) ∧ Below wx.heap.size wx w') ∧ Jd c now us ms tk R usd u td := by
  have S := chk_sok hk
  have F := S.fit
  have hl : s.size ≤ maxLen := size_le F.n64
  have h8 := chk_b8 hk
  have hh8 := chk_h8 hk
  have M := cok_mtus X.ok
  have C := cok_of X.ok
  have hoa := us_bd C.oa
  have bp : 0 ≤ bt s 9 ∧ bt s 9 ≤ 255 := by have := bt_bd s 9; omega
  have c9 : Ret 141 #[.string s, .int .i64 9, .int .i64 1] (.int .i64 (bt s 9)) := fun w => number1 s 9 w hl (by decide) (by decide)
  have c16 : Ret 141 #[.string s, .int .i64 16, .int .i64 4] (.int .i64 (lg s 16)) := fun w => number4 s 16 w hl (by decide) (by decide)
  have c12 : Ret 141 #[.string s, .int .i64 12, .int .i64 4] (.int .i64 (lg s 12)) := fun w => number4 s 12 w hl (by decide) (by decide)
  have cf : Ret 208 #[.int .i64 (bt s 9), .int .i64 (wd s (ppl s 2))] (.int .i64 (ppr s)) := far_any _ _
  have key : ∀ wx, Below w.heap.size w wx → ∀ V, RoutH b s (bt s 9) (lg s 16) (lg s 12) (wd s (ppl s 0)) (wd s (ppl s 2)) (ppr s) now c.oa c.im c.om wx V → Calls Tryz.prog 153 #[.pointer (some ⟨b, 0, none⟩), .string s] wx fun r w' => r = .returned (.agg V.toArray) ∧ Below wx.heap.size wx w' := fun wx hb V H =>
    rout_any b s (bt s 9) (lg s 16) (lg s 12) (wd s (ppl s 0)) (wd s (ppl s 2)) (ppr s) now c.oa c.im c.om wx c9 c16 c12 (sport_any s hl) (dport_any s hl) cf (fun wy hy => ⟨((X.rb.below hb).below hy).at 1 rfl, ((X.rb.below hb).below hy).at 5 rfl, ((X.rb.below hb).below hy).at 6 rfl, ((X.rb.below hb).below hy).at 12 rfl⟩) V H
  have cg : ∀ wx, Below w.heap.size w wx → ∀ wy, Below wx.heap.size wx wy → Calls Tryz.prog 209 #[.pointer (some ⟨b, 0, none⟩), .agg #[.int .i64 (bt s 9), .int .i64 (lg s 12), .int .i64 (wd s (ppl s 0)), .int .i64 0, .int .i64 (lg s 16), .int .i64 (ppr s), .int .i64 now]] wy fun e w' => e = .returned (.int .i64 (gvP c ms (bt s 9) (lg s 12) (wd s (ppl s 0)) (lg s 16) (ppr s))) ∧ Below wy.heap.size wy w' := fun wx hb wy hy =>
    rgiven_any ((X.rb.below hb).below hy) X.sim X.uok X.t2 _ _ _ _ _ _ _ C.l1 C.l2 C.h2 C.c2
  have co : ∀ wx, Below w.heap.size w wx → ∀ (e mtu so : Int), (e = 9 ∨ e = 10 ∨ e = 11) → 0 ≤ mtu → mtu < 65536 → ∀ wy, Below wx.heap.size wx wy → Calls Tryz.prog 205 #[.pointer (some ⟨b, 0, none⟩), .int .i64 0, .string s, .int .i64 e, .int .i64 mtu, .int .i64 so] wy fun r w' => r = .returned (.agg (vdl e (rfs c e 0 mtu tk ms s).sd (rfs c e 0 mtu tk ms s).fr so false us0 (telB e tk s)).toArray) ∧ Below wy.heap.size wy w' := fun wx hb e mtu so he m0 m1 wy hy =>
    rown_any ((X.below hb).below hy) s F.n64 F.n20 hh8 e 0 mtu so he (.inl rfl) m0 m1
  by_cases hd : lg s 16 = c.oa
  · have hd' : (lg s 16 == c.oa) = true := by simpa using hd
    rw [if_pos hd] at hR
    unfold backR at hR
    cases ha : askM ms s with
    | none =>
      rw [ha] at hR
      subst hR
      refine ⟨2, false, us0, false, fun wx hb => ?_, same_jd c now us tk ms _ _ _⟩
      have ch := (X.below hb).hold (bt s 9) (wd s (ppl s 2))
      rw [X.sim.holder0 ha] at ch
      exact key wx hb _ (by unfold RoutH; exact .inl ⟨-1, hd', by decide, ch, rfl⟩)
    | some m =>
      rw [ha] at hR
      simp only at hR
      obtain ⟨i, u, hf, hu, hlv, Mt⟩ := X.sim.holder1 ha
      have Mo := X.sim.tok.all m (fi_some ha).1
      have W := wdst_ok S h8 m.ea m.ep
      have cD := rdest_any s m.ea m.ep F.n20 F.n64 Mo.a0 Mo.a1 Mo.p0 Mo.p1
      have cD' := cD
      rw [Mt.ea, Mt.ep] at cD'
      by_cases hp : pss s c.im = 0
      · rw [if_pos hp] at hR
        have cs := rstopped_any b s c.im hl
        rw [hp] at cs
        cases hu2 : fromB c ms s with
        | none =>
          rw [hu2] at hR
          simp only at hR
          rw [rfs_u c 0 c.im 0] at hR
          subst hR
          refine ⟨2, false, us0, telB 11 tk s, fun wx hb => ?_, rfs_jd c now us _ _ _ tk ms s⟩
          have ch := (X.below hb).hold (bt s 9) (wd s (ppl s 2))
          rw [hf] at ch
          obtain ⟨g, n, cap, h1, h2, h3, hc⟩ := (X.below hb).uses hu
          have cg' := cg wx hb
          rw [gvP_none hu2] at cg'
          rw [rfs_er]
          exact key wx hb _ (by unfold RoutH; exact .inr (.inr (.inr (.inr (.inr (.inl ⟨i, g, n, cap, u.ad, u.po, _, hd', h1, h2, h3, fun wy hy => ⟨(hc wy hy).1, ((hc wy hy).2 i u hu).2.2.1, ((hc wy hy).2 i u hu).2.2.2.1⟩, cD', ch, _, _, _, _, _, _, _, _, _, _, _, _, _, cs, cg', co wx hb 11 0 2 (.inr (.inr rfl)) (by decide) (by decide), rfl⟩))))))
        | some xm =>
          obtain ⟨x, ms'⟩ := xm
          rw [hu2] at hR
          simp only at hR
          have T := fromB_tok X.ok X.sim.tok hu2
          have hid := idle_bd X.ok (bt s 9)
          have h9 := hq hd
          have e := wsd_comm (s := s) F.h20 (by omega) h9 m.ea m.ep c.oa x
          have W2 := wsrc_ok W.1 (by rw [W.2.2.2.2.2.2]; exact h8) c.oa x
          have cS := rsource_any (wdst s m.ea m.ep) c.oa x (by rw [W.2.2.2.1]; exact F.n20) (by rw [W.2.2.2.1]; exact F.n64) hoa.1 hoa.2 (by omega) (by omega)
          have cO := on_any _ W2.1 (by rw [W2.2.2.1, W.2.2.1]; have := pss_ttl hp; omega) (by rw [W2.2.1, W.2.1]; exact chk_pr hk)
          rw [← e] at hR
          subst hR
          refine ⟨2, true, ⟨bt s 9, lg s 12, wd s (ppl s 0), x, lg s 16, ppr s, now⟩, false, fun wx hb => ?_, ⟨fun _ => ⟨rfl, bp, sim_use hid.1 X.sim T.1 hu2⟩, fun h => (by cases h), rfl⟩⟩
          have ch := (X.below hb).hold (bt s 9) (wd s (ppl s 2))
          rw [hf] at ch
          obtain ⟨g, n, cap, h1, h2, h3, hc⟩ := (X.below hb).uses hu
          have cg' := cg wx hb
          rw [gvP_some hu2] at cg'
          have cD2 : RetB 206 #[.string s, .int .i64 u.ad, .int .i64 u.po] (.string (wdst s m.ea m.ep)) := by rw [Mt.ea, Mt.ep]; exact cD'
          have hx0 : (x == 0) = false := by have := T.2.1; simp; omega
          dsimp only
          generalize snt (wsrc (wdst s m.ea m.ep) c.oa x) = Z at cO ⊢
          generalize wsrc (wdst s m.ea m.ep) c.oa x = G at cS cO
          generalize wdst s m.ea m.ep = D at cD2 cS
          refine key wx hb _ ?_
          unfold RoutH
          exact .inr (.inr (.inr (.inr (.inr (.inr ⟨i, g, n, cap, u.ad, u.po, D, hd', h1, h2, h3, fun wy hy => ⟨(hc wy hy).1, ((hc wy hy).2 i u hu).2.2.1, ((hc wy hy).2 i u hu).2.2.2.1⟩, cD2, ch, x, G, Z, cs, cg', hx0, cS, cO, rfl⟩)))))
      · rw [if_neg hp] at hR
        have he : pss s c.im = 9 ∨ pss s c.im = 10 ∨ pss s c.im = 11 := by rcases pss_cases s c.im with h | h | h <;> omega
        subst hR
        refine ⟨2, false, us0, telB (pss s c.im) tk s, fun wx hb => ?_, rfs_jd c now us _ _ _ tk ms s⟩
        have ch := (X.below hb).hold (bt s 9) (wd s (ppl s 2))
        rw [hf] at ch
        obtain ⟨g, n, cap, h1, h2, h3, hc⟩ := (X.below hb).uses hu
        rw [rfs_er]
        exact key wx hb _ (by unfold RoutH; exact .inr (.inr (.inr (.inr (.inl ⟨i, g, n, cap, u.ad, u.po, _, hd', h1, h2, h3, fun wy hy => ⟨(hc wy hy).1, ((hc wy hy).2 i u hu).2.2.1, ((hc wy hy).2 i u hu).2.2.2.1⟩, cD', ch, pss s c.im, _, _, _, _, _, _, _, _, _, _, _, _, _, rstopped_any b s c.im hl, by simpa using hp, co wx hb (pss s c.im) c.im 2 he (by omega) (by omega), rfl⟩)))))
  · have hd' : (lg s 16 == c.oa) = false := by simpa using hd
    rw [if_neg hd] at hR
    unfold outR at hR
    by_cases hp : pss s c.om = 0
    · rw [if_pos hp] at hR
      have cs := rstopped_any b s c.om hl
      rw [hp] at cs
      cases hu2 : fromB c ms s with
      | none =>
        rw [hu2] at hR
        simp only at hR
        rw [rfs_u c 0 c.om 0] at hR
        subst hR
        refine ⟨1, false, us0, telB 11 tk s, fun wx hb => ?_, rfs_jd c now us _ _ _ tk ms s⟩
        have cg' := cg wx hb
        rw [gvP_none hu2] at cg'
        rw [rfs_er]
        exact key wx hb _ (by unfold RoutH; exact .inr (.inr (.inl ⟨hd', _, _, _, _, _, _, _, _, _, _, _, _, _, cs, cg', co wx hb 11 0 1 (.inr (.inr rfl)) (by decide) (by decide), rfl⟩)))
      | some xm =>
        obtain ⟨x, ms'⟩ := xm
        rw [hu2] at hR
        simp only at hR
        have T := fromB_tok X.ok X.sim.tok hu2
        have hid := idle_bd X.ok (bt s 9)
        have W2 := wsrc_ok S h8 c.oa x
        have cS := rsource_any s c.oa x F.n20 F.n64 hoa.1 hoa.2 (by omega) (by omega)
        have cO := on_any _ W2.1 (by rw [W2.2.2.1]; have := pss_ttl hp; omega) (by rw [W2.2.1]; exact chk_pr hk)
        subst hR
        refine ⟨0, true, ⟨bt s 9, lg s 12, wd s (ppl s 0), x, lg s 16, ppr s, now⟩, false, fun wx hb => ?_, ⟨fun _ => ⟨rfl, bp, sim_use hid.1 X.sim T.1 hu2⟩, fun h => (by cases h), rfl⟩⟩
        have cg' := cg wx hb
        rw [gvP_some hu2] at cg'
        have hx0 : (x == 0) = false := by have := T.2.1; simp; omega
        dsimp only
        generalize snt (wsrc s c.oa x) = Z at cO ⊢
        generalize wsrc s c.oa x = G at cS cO
        refine key wx hb _ ?_
        unfold RoutH
        exact .inr (.inr (.inr (.inl ⟨hd', x, G, Z, cs, cg', hx0, cS, cO, rfl⟩)))
    · rw [if_neg hp] at hR
      have he : pss s c.om = 9 ∨ pss s c.om = 10 ∨ pss s c.om = 11 := by rcases pss_cases s c.om with h | h | h <;> omega
      subst hR
      refine ⟨1, false, us0, telB (pss s c.om) tk s, fun wx hb => ?_, rfs_jd c now us _ _ _ tk ms s⟩
      rw [rfs_er]
      exact key wx hb _ (by unfold RoutH; exact .inr (.inl ⟨hd', pss s c.om, _, _, _, _, _, _, _, _, _, _, _, _, _, rstopped_any b s c.om hl, by simpa using hp, co wx hb (pss s c.om) c.om 1 he (by omega) (by omega), rfl⟩))
end
end Go.Proofs.YthiljpbodmajaabGreat
namespace Go.Proofs.YthiljpbodmajaabGreat
open Go.RowKit Plain
set_option linter.unusedVariables false
set_option linter.constructorNameAsVariable false
theorem prt_quo {s : ByteArray} (F : Fits s) (h8 : 8 ≤ (bdy s).size) : prt s (hdv s + 8) (wd s 2) = quo s := by
  have hb := bdy_size F
  have hd := hdv_bd s
  have ht := F.tn
  unfold quo
  refine bt_ext (by rw [prt_size, prt_size]; omega) (fun k hk => ?_)
  rw [prt_size] at hk
  rw [bt_prt s _ _ k (by omega) (by omega) (by omega), bt_prt (bdy s) 8 _ k (by decide) (by omega) (by omega), bdy_bt F (8 + k) (by omega) (by omega), Int.add_assoc]
theorem lg_l4 (v : Int) (h0 : 0 ≤ v) (h1 : v < 4294967296) : lg (l4 v) 0 = v := by
  have e1 : wd (l4 v) 0 = v / 65536 := by
    unfold l4
    rw [wd_app_l _ _ _ (by rw [w2_size]; decide)]
    exact bt_w2 (v / 65536) (by omega) (by omega)
  have e2 : wd (l4 v) (0 + 2) = v % 65536 := by
    unfold l4
    rw [wd_app_r _ _ _ (by rw [w2_size]; decide), w2_size]
    exact bt_w2 (v % 65536) (by omega) (by omega)
  unfold lg
  rw [e1, e2]
  omega
theorem l4_ne {a b : Int} (a0 : 0 ≤ a) (a1 : a < 4294967296) (b0 : 0 ≤ b) (b1 : b < 4294967296) (h : ¬ a = b) : ¬ l4 a = l4 b := fun e => h (by rw [← lg_l4 a a0 a1, ← lg_l4 b b0 b1, e])
theorem ne_list {a b : ByteArray} (h : ¬ a = b) : (!(a.toList == b.toList)) = true := by
  have k : ¬ a.data = b.data := fun e => h (ByteArray.ext e)
  rw [ByteArray.toList_eq, ByteArray.toList_eq]
  simp [k]
theorem isEmpty_no {g : ByteArray} (h : 0 < g.size) : g.toList.isEmpty = false := by
  rw [← decide_eq_emptyBytes]
  simp only [decide_eq_false_iff_not]
  intro e
  rw [e] at h
  simp at h
theorem rqk_refl {q : ByteArray} (Q : Qok q) : Rqk q q := ⟨rfl, Q.n64, Q.h20, Q.h8, rfl, rfl, rfl, fun _ => rfl, Q.pr⟩
theorem rqk_put {q r t : ByteArray} {i : Int} (K : Rqk q r) (h12 : 12 ≤ i) (h1 : i + (t.size : Int) ≤ r.size) (hs : i + (t.size : Int) ≤ spl q ∨ spl q + 2 ≤ i) : Rqk q (put r i t) :=
  ⟨by rw [put_size _ _ _ (by omega) h1]; exact K.z, K.hz, K.h20, K.h8, by rw [hdv_put (by omega) h1]; exact K.hd, by rw [bt_put_off (by omega) h1 (by omega)]; exact K.p9, by rw [wd_put_off (by omega) h1 (by omega)]; exact K.e10, fun h => by rw [wd_put_off (by omega) h1 (by omega)]; exact K.ec h, K.hp⟩
theorem rqk_src {q r : ByteArray} (K : Rqk q r) (a x : Int) : Rqk q (wsrc r a x) := by
  have z := K.z
  have h20 := K.h20
  have h8 := K.h8
  have s0 : hdv q + 2 ≤ spl q := by unfold spl; split; omega; split <;> omega
  have K1 : Rqk q (put r 12 (l4 a)) := rqk_put K (by decide) (by rw [l4_size]; omega) (.inl (by rw [l4_size]; omega))
  have e : ppl (put r 12 (l4 a)) 0 = ppl q 0 := by unfold ppl; rw [K1.hd, K1.p9]
  have z1 := K1.z
  unfold Plain.wsrc
  rw [e]
  refine rqk_put K1 ?_ ?_ ?_
  · unfold ppl; split <;> omega
  · rw [w2_size, z1]; unfold ppl; split <;> omega
  · rw [w2_size]; unfold ppl spl; rcases K.hp with h | h | h <;> simp only [h] <;> simp <;> omega
theorem rqk_dst {q r : ByteArray} (K : Rqk q r) (a x : Int) : Rqk q (wdst r a x) := by
  have z := K.z
  have h20 := K.h20
  have h8 := K.h8
  have s0 : hdv q + 2 ≤ spl q := by unfold spl; split; omega; split <;> omega
  have K1 : Rqk q (put r 16 (l4 a)) := rqk_put K (by decide) (by rw [l4_size]; omega) (.inl (by rw [l4_size]; omega))
  have e : ppl (put r 16 (l4 a)) 2 = ppl q 2 := by unfold ppl; rw [K1.hd, K1.p9]
  have z1 := K1.z
  unfold Plain.wdst
  rw [e]
  refine rqk_put K1 ?_ ?_ ?_
  · unfold ppl; split <;> omega
  · rw [w2_size, z1]; unfold ppl; split <;> omega
  · rw [w2_size]; unfold ppl spl; rcases K.hp with h | h | h <;> simp only [h] <;> simp <;> omega
section
variable {w w' : World} {base b : Nat} {c : Cf} {now : Int} {us : List Us} {own : List Int} {uv ov : Value} {tk : Int} {ms : List Mp}
/-- the peers of a mapping, and whether one is among them -/
theorem Rx.known (X : Rx w base b c now us own uv ov tk ms) {i : Nat} {u : Us} {m : Mp} (hu : us[i]? = some u) (M : Mt c now us i u m) (Mo : Mok m) (a p : Int) : ∀ wx, Below w.heap.size w wx → Calls Tryz.prog 212 #[.pointer (some ⟨b, 0, none⟩), .int .i64 (i : Int)] wx fun e w' => ∃ lv, e = .returned lv ∧ (Calls Tryz.prog 225 #[lv, .int .i64 a, .int .i64 p] w' fun e w2 => e = .returned (.bool (m.knows a p)) ∧ w2 = w') ∧ Below wx.heap.size wx w' := fun wx hb => by
  have hl := M.pe.len
  have k4 := Mo.k4
  have e : (peersL c us i).contains (a, p) = m.knows a p := Bool.eq_iff_iff.2 (by rw [List.contains_iff_mem]; exact M.pe.mem a p)
  refine (rpeers_any (X.rb.below hb) X.uok X.t2 i u hu (by omega)).mono ?_
  rintro r w' ⟨lv, rfl, ho, hb'⟩
  have ca := ramong_any ho (by omega) a p
  rw [e] at ca
  exact ⟨lv, rfl, ca, hb'⟩
/-- told is the program's -/
theorem rtold_all (X : Rx w base b c now us own uv ov tk ms) (s q : ByteArray) (n20 : 20 ≤ s.size) (n64 : s.size ≤ 65535) (Q : Qok q) : ∃ g r, (∀ wx, Below w.heap.size w wx → Calls Tryz.prog 197 #[.pointer (some ⟨b, 0, none⟩), .string s, .string q] wx fun e w' => e = .returned (.tuple #[.string g, .string r]) ∧ Below wx.heap.size wx w') ∧
    match sndM c ms q (lg q 16) (ppr q) with
    | none => g = ⟨#[]⟩
    | some m => Mok m ∧ g = put s 16 (l4 m.ea) ∧ r = wsrc q m.ea m.ep := by
  have hl : q.size ≤ maxLen := size_le Q.n64
  have q28 := Q.n28
  have c9 : Ret 141 #[.string q, .int .i64 9, .int .i64 1] (.int .i64 (bt q 9)) := fun w => number1 q 9 w hl (by decide) (by decide)
  have c12 : Ret 141 #[.string q, .int .i64 12, .int .i64 4] (.int .i64 (lg q 12)) := fun w => number4 q 12 w hl (by decide) (by decide)
  have c16 : Ret 141 #[.string q, .int .i64 16, .int .i64 4] (.int .i64 (lg q 16)) := fun w => number4 q 16 w hl (by decide) (by decide)
  have cf : Ret 208 #[.int .i64 (bt q 9), .int .i64 (wd q (ppl q 2))] (.int .i64 (ppr q)) := far_any _ _
  have cb : ∀ wx, Below w.heap.size w wx → ∀ wy, Below wx.heap.size wx wy → wy.cell? ⟨b, 1, none⟩ = some (.int .i64 c.oa) := fun wx hx wy hy => ((X.rb.below hx).below hy).at 1 rfl
  cases ha : ms[ms.findIdx (·.has (bt q 9) (wd q (ppl q 0)))]? with
  | none =>
    have hs : sndM c ms q (lg q 16) (ppr q) = none := by unfold sndM; rw [ha]; split <;> rfl
    rw [hs]
    refine ⟨⟨#[]⟩, ⟨#[]⟩, fun wx hb => ?_, ?_⟩
    · have ch := (X.below hb).hold (bt q 9) (wd q (ppl q 0))
      rw [X.sim.holder0 ha] at ch
      exact rtold_none b s q (bt q 9) (wd q (ppl q 0)) _ wx c9 (sport_any q hl) ch (by rw [idx_none]; decide)
    · rfl
  | some m =>
    obtain ⟨i, u, hf, hu, hlv, Mt⟩ := X.sim.holder1 ha
    have Mo := X.sim.tok.all m (fi_some ha).1
    have ch : ∀ wx, Below w.heap.size w wx → ∀ wy, Below wx.heap.size wx wy → Calls Tryz.prog 203 #[.pointer (some ⟨b, 0, none⟩), .int .i64 (bt q 9), .int .i64 (wd q (ppl q 0))] wy fun e w' => e = .returned (.int .i64 (idx (some i))) ∧ Below wy.heap.size wy w' := fun wx hx => by
      have := (X.below hx).hold (bt q 9) (wd q (ppl q 0))
      rw [hf] at this
      exact this
    by_cases h1 : lg q 12 = c.oa
    · have hd : (lg q 12 != c.oa) = false := by simpa using h1
      have cP := fun wx (hx : Below w.heap.size w wx) => (X.below hx).known hu Mt Mo (lg q 16) (ppr q)
      cases hk : m.knows (lg q 16) (ppr q) with
      | false =>
        rw [hk] at cP
        have hs : sndM c ms q (lg q 16) (ppr q) = none := by unfold sndM; rw [if_pos h1, ha]; simp [hk]
        rw [hs]
        refine ⟨⟨#[]⟩, ⟨#[]⟩, fun wx hb => ?_, rfl⟩
        exact rtold_no b s q (bt q 9) (wd q (ppl q 0)) _ wx c9 (sport_any q hl) (ch wx hb) i (idx_some i) (lg q 12) c.oa c12 (cb wx hb) hd (lg q 16) (wd q (ppl q 2)) (ppr q) false c16 (dport_any q hl) cf (cP wx hb) rfl
      | true =>
        rw [hk] at cP
        have hs : sndM c ms q (lg q 16) (ppr q) = some m := by unfold sndM; rw [if_pos h1, ha]; simp [hk]
        rw [hs]
        refine ⟨put s 16 (l4 m.ea), wsrc q m.ea m.ep, fun wx hb => ?_, Mo, rfl, rfl⟩
        obtain ⟨g, n, cap, k1, k2, k3, hc⟩ := (X.below hb).uses hu
        have cT := text4 m.ea Mo.a0 Mo.a1
        have cS := rsource_any q m.ea m.ep (by omega) Q.n64 Mo.a0 Mo.a1 Mo.p0 Mo.p1
        have cW : Ret 190 #[.string s, .int .i64 16, .string (l4 m.ea)] (.string (put s 16 (l4 m.ea))) := fun w => with_any s _ 16 w (by decide) (by decide) n64 (by rw [l4_size]; decide)
        generalize put s 16 (l4 m.ea) = G at cW ⊢
        generalize l4 m.ea = L at cT cW
        generalize wsrc q m.ea m.ep = R at cS ⊢
        rw [Mt.ea] at cT cS
        rw [Mt.ep] at cS
        exact rtold_yes b s q (bt q 9) (wd q (ppl q 0)) _ wx c9 (sport_any q hl) (ch wx hb) i (idx_some i) (lg q 12) c.oa c12 (cb wx hb) hd (lg q 16) (wd q (ppl q 2)) (ppr q) true c16 (dport_any q hl) cf (cP wx hb) rfl u g n cap k1 k2 k3 (fun wy hy => ⟨(hc wy hy).1, ((hc wy hy).2 i u hu).2⟩) L G R cT cW cS
    · have hd : (lg q 12 != c.oa) = true := by simpa using h1
      have hs : sndM c ms q (lg q 16) (ppr q) = none := by unfold sndM; rw [if_neg h1]
      rw [hs]
      refine ⟨⟨#[]⟩, ⟨#[]⟩, fun wx hb => ?_, rfl⟩
      exact rtold_else b s q (bt q 9) (wd q (ppl q 0)) _ wx c9 (sport_any q hl) (ch wx hb) i (idx_some i) (lg q 12) c.oa c12 (cb wx hb) hd
/-- telling is the program's -/
theorem rtell_all (X : Rx w base b c now us own uv ov tk ms) (s q : ByteArray) (n20 : 20 ≤ s.size) (n64 : s.size ≤ 65535) (Q : Qok q) : ∃ g r, (∀ wx, Below w.heap.size w wx → Calls Tryz.prog 199 #[.pointer (some ⟨b, 0, none⟩), .string s, .string q] wx fun e w' => e = .returned (.tuple #[.string g, .string r]) ∧ Below wx.heap.size wx w') ∧
    match rcvM ms q with
    | none => g = ⟨#[]⟩
    | some m => if lg s 16 = lg q 12 then g = put s 12 (l4 c.oa) ∧ r = wdst q c.oa m.ex else g = ⟨#[]⟩ := by
  have hl : q.size ≤ maxLen := size_le Q.n64
  have q28 := Q.n28
  have hoa := us_bd (cok_of X.ok).oa
  have c9 : Ret 141 #[.string q, .int .i64 9, .int .i64 1] (.int .i64 (bt q 9)) := fun w => number1 q 9 w hl (by decide) (by decide)
  have c16 : Ret 141 #[.string q, .int .i64 16, .int .i64 4] (.int .i64 (lg q 16)) := fun w => number4 q 16 w hl (by decide) (by decide)
  have p1 : Ret 146 #[.string s, .int .i64 16, .int .i64 20] (.string (l4 (lg s 16))) := fun w => by
    rw [← prt4 s 16 (by decide) (by omega)]; exact part_any s 16 20 w (by decide) (by decide)
  have p2 : Ret 146 #[.string q, .int .i64 12, .int .i64 16] (.string (l4 (lg q 12))) := fun w => by
    rw [← prt4 q 12 (by decide) (by omega)]; exact part_any q 12 16 w (by decide) (by decide)
  have cb : ∀ wx, Below w.heap.size w wx → ∀ wy, Below wx.heap.size wx wy → wy.cell? ⟨b, 1, none⟩ = some (.int .i64 c.oa) := fun wx hx wy hy => ((X.rb.below hx).below hy).at 1 rfl
  cases ha : rcvM ms q with
  | none =>
    refine ⟨⟨#[]⟩, ⟨#[]⟩, fun wx hb => ?_, rfl⟩
    have ch := (X.below hb).endp (bt q 9) (lg q 16) (wd q (ppl q 2))
    rw [X.sim.endpoint0 ha] at ch
    exact rtell_none b s q (bt q 9) (lg q 16) (wd q (ppl q 2)) _ wx c9 c16 (dport_any q hl) ch (by rw [idx_none]; decide)
  | some m =>
    obtain ⟨i, u, hf, hu, hlv, Mt⟩ := X.sim.endpoint1 ha
    have Mo := X.sim.tok.all m (fi_some ha).1
    have ch : ∀ wx, Below w.heap.size w wx → ∀ wy, Below wx.heap.size wx wy → Calls Tryz.prog 226 #[.pointer (some ⟨b, 0, none⟩), .int .i64 (bt q 9), .int .i64 (lg q 16), .int .i64 (wd q (ppl q 2))] wy fun e w' => e = .returned (.int .i64 (idx (some i))) ∧ Below wy.heap.size wy w' := fun wx hx => by
      have := (X.below hx).endp (bt q 9) (lg q 16) (wd q (ppl q 2))
      rw [hf] at this
      exact this
    simp only
    by_cases h1 : lg s 16 = lg q 12
    · simp only [if_pos h1]
      rw [h1] at p1
      refine ⟨put s 12 (l4 c.oa), wdst q c.oa m.ex, fun wx hb => ?_, rfl, rfl⟩
      obtain ⟨g, n, cap, k1, k2, k3, hc⟩ := (X.below hb).uses hu
      have cT := text4 c.oa hoa.1 hoa.2
      have cD := rdest_any q c.oa m.ex (by omega) Q.n64 hoa.1 hoa.2 (by have := Mo.x1; omega) (by have := Mo.x2; omega)
      have cW : Ret 190 #[.string s, .int .i64 12, .string (l4 c.oa)] (.string (put s 12 (l4 c.oa))) := fun w => with_any s _ 12 w (by decide) (by decide) n64 (by rw [l4_size]; decide)
      exact rtell_yes b s q (bt q 9) (lg q 16) (wd q (ppl q 2)) _ wx c9 c16 (dport_any q hl) (ch wx hb) i (idx_some i) (l4 (lg q 12)) p1 p2 m.ex c.oa g n cap k1 k2 k3 (fun wy hy => ⟨(hc wy hy).1, by rw [Mt.ex]; exact ((hc wy hy).2 i u hu).2.2.2.2.1⟩) (cb wx hb) _ _ _ cT cW cD
    · simp only [if_neg h1]
      refine ⟨⟨#[]⟩, ⟨#[]⟩, fun wx hb => ?_, rfl⟩
      have a := lg_bd s 16
      have a' := lg_bd q 12
      exact rtell_else b s q (bt q 9) (lg q 16) (wd q (ppl q 2)) _ wx c9 c16 (dport_any q hl) (ch wx hb) i (idx_some i) _ _ p1 p2 (ne_list (l4_ne a.1 a.2 a'.1 a'.2 h1))
/-- mirrored is the program's -/
theorem rmir_all (X : Rx w base b c now us own uv ov tk ms) (s q : ByteArray) (n20 : 20 ≤ s.size) (n64 : s.size ≤ 65535) (Q : Qok q) : ∃ g r, (∀ wx, Below w.heap.size w wx → Calls Tryz.prog 198 #[.pointer (some ⟨b, 0, none⟩), .string s, .string q] wx fun e w' => e = .returned (.tuple #[.string g, .string r]) ∧ Below wx.heap.size wx w') ∧
    if bt q 9 = 1 then g = ⟨#[]⟩ else
    match rcvM ms q with
    | none => g = ⟨#[]⟩
    | some m' =>
      match sndM c ms q c.oa m'.ex with
      | none => g = ⟨#[]⟩
      | some m => Mok m ∧ Mok m' ∧ g = put (put s 12 (l4 c.oa)) 16 (l4 m.ea) ∧ r = wsrc (wdst q c.oa m'.ex) m.ea m.ep := by
  have hl : q.size ≤ maxLen := size_le Q.n64
  have q28 := Q.n28
  have hoa := us_bd (cok_of X.ok).oa
  have c9 : Ret 141 #[.string q, .int .i64 9, .int .i64 1] (.int .i64 (bt q 9)) := fun w => number1 q 9 w hl (by decide) (by decide)
  have c12 : Ret 141 #[.string q, .int .i64 12, .int .i64 4] (.int .i64 (lg q 12)) := fun w => number4 q 12 w hl (by decide) (by decide)
  have c16 : Ret 141 #[.string q, .int .i64 16, .int .i64 4] (.int .i64 (lg q 16)) := fun w => number4 q 16 w hl (by decide) (by decide)
  have cb : ∀ wx, Below w.heap.size w wx → ∀ wy, Below wx.heap.size wx wy → wy.cell? ⟨b, 1, none⟩ = some (.int .i64 c.oa) := fun wx hx wy hy => ((X.rb.below hx).below hy).at 1 rfl
  have ch := fun wx (hx : Below w.heap.size w wx) => (X.below hx).hold (bt q 9) (wd q (ppl q 0))
  have ce := fun wx (hx : Below w.heap.size w wx) => (X.below hx).endp (bt q 9) (lg q 16) (wd q (ppl q 2))
  by_cases h1 : bt q 9 = 1
  · simp only [if_pos h1]
    exact ⟨⟨#[]⟩, ⟨#[]⟩, fun wx hb => rmir_icmp b s q (bt q 9) (wd q (ppl q 0)) (lg q 16) (wd q (ppl q 2)) _ _ wx c9 (sport_any q hl) c16 (dport_any q hl) (ch wx hb) (ce wx hb) h1, rfl⟩
  · simp only [if_neg h1]
    have hp : (bt q 9 == 1) = false := by simpa using h1
    cases ha : ms[ms.findIdx (·.has (bt q 9) (wd q (ppl q 0)))]? with
    | none =>
      rw [X.sim.holder0 ha] at ch
      refine ⟨⟨#[]⟩, ⟨#[]⟩, fun wx hb => rmir_none b s q (bt q 9) (wd q (ppl q 0)) (lg q 16) (wd q (ppl q 2)) _ _ wx c9 (sport_any q hl) c16 (dport_any q hl) (ch wx hb) (ce wx hb) hp (by rw [idx_none]; decide), ?_⟩
      have hs : ∀ x, sndM c ms q c.oa x = none := fun x => by unfold sndM; rw [ha]; split <;> rfl
      cases rcvM ms q with
      | none => rfl
      | some m' => simp only [hs]
    | some m =>
      obtain ⟨i, u, hf, hu, hlv, M⟩ := X.sim.holder1 ha
      have Mo := X.sim.tok.all m (fi_some ha).1
      rw [hf] at ch
      cases hr : rcvM ms q with
      | none =>
        rw [X.sim.endpoint0 hr] at ce
        exact ⟨⟨#[]⟩, ⟨#[]⟩, fun wx hb => rmir_nobody b s q (bt q 9) (wd q (ppl q 0)) (lg q 16) (wd q (ppl q 2)) _ _ wx c9 (sport_any q hl) c16 (dport_any q hl) (ch wx hb) (ce wx hb) hp (by rw [idx_some]; omega) (by rw [idx_none]; decide), rfl⟩
      | some m' =>
        obtain ⟨k, u', hf', hu', hlv', M'⟩ := X.sim.endpoint1 hr
        have Mo' := X.sim.tok.all m' (fi_some hr).1
        rw [hf'] at ce
        simp only
        by_cases h2 : lg q 12 = c.oa
        · have hd : (lg q 12 != c.oa) = false := by simpa using h2
          have cP := fun wx (hx : Below w.heap.size w wx) => (X.below hx).known hu M Mo c.oa m'.ex
          cases hk : m.knows c.oa m'.ex with
          | false =>
            rw [hk] at cP
            have hs : sndM c ms q c.oa m'.ex = none := by unfold sndM; rw [if_pos h2, ha]; simp [hk]
            rw [hs]
            refine ⟨⟨#[]⟩, ⟨#[]⟩, fun wx hb => ?_, rfl⟩
            obtain ⟨g, n, cap, k1, k2, k3, hc⟩ := (X.below hb).uses hu
            have hkn := ((hc wx (Below.refl _ _)).2 k u' hu').1
            exact rmir_no b s q (bt q 9) (wd q (ppl q 0)) (lg q 16) (wd q (ppl q 2)) _ _ wx c9 (sport_any q hl) c16 (dport_any q hl) (ch wx hb) (ce wx hb) hp i k (idx_some i) (idx_some k) (lg q 12) c.oa c12 (cb wx hb) hd false m'.ex g n cap k1 hkn k2 k3 (cP wx hb) (fun wy hy => ⟨(hc wy hy).1, by rw [M'.ex]; exact ((hc wy hy).2 k u' hu').2.2.2.2.1⟩) rfl
          | true =>
            rw [hk] at cP
            have hs : sndM c ms q c.oa m'.ex = some m := by unfold sndM; rw [if_pos h2, ha]; simp [hk]
            rw [hs]
            have z1 : (put s 12 (l4 c.oa)).size = s.size := put_size s 12 _ (by decide) (by rw [l4_size]; omega)
            have e := wsd_comm Q.h20 (by have := Q.h8; omega) h1 c.oa m'.ex m.ea m.ep
            have Q1 := Q.src m.ea m.ep
            refine ⟨put (put s 12 (l4 c.oa)) 16 (l4 m.ea), wdst (wsrc q m.ea m.ep) c.oa m'.ex, fun wx hb => ?_, Mo, Mo', rfl, e.symm⟩
            obtain ⟨g, n, cap, k1, k2, k3, hc⟩ := (X.below hb).uses hu
            have hkn := ((hc wx (Below.refl _ _)).2 k u' hu').1
            have cT := text4 c.oa hoa.1 hoa.2
            have cT2 := text4 m.ea Mo.a0 Mo.a1
            have cS := rsource_any q m.ea m.ep (by omega) Q.n64 Mo.a0 Mo.a1 Mo.p0 Mo.p1
            have cD := rdest_any (wsrc q m.ea m.ep) c.oa m'.ex (by omega) Q1.1.n64 hoa.1 hoa.2 (by have := Mo'.x1; omega) (by have := Mo'.x2; omega)
            have cW : Ret 190 #[.string s, .int .i64 12, .string (l4 c.oa)] (.string (put s 12 (l4 c.oa))) := fun w => with_any s _ 12 w (by decide) (by decide) n64 (by rw [l4_size]; decide)
            have cW2 : Ret 190 #[.string (put s 12 (l4 c.oa)), .int .i64 16, .string (l4 m.ea)] (.string (put (put s 12 (l4 c.oa)) 16 (l4 m.ea))) := fun w => with_any _ _ 16 w (by decide) (by decide) (by omega) (by rw [l4_size]; decide)
            generalize put (put s 12 (l4 c.oa)) 16 (l4 m.ea) = G2 at cW2 ⊢
            generalize wdst (wsrc q m.ea m.ep) c.oa m'.ex = R2 at cD ⊢
            generalize wsrc q m.ea m.ep = R at cS cD
            generalize put s 12 (l4 c.oa) = G at cW cW2
            generalize l4 m.ea = L at cT2 cW2
            rw [M.ea] at cT2 cS
            rw [M.ep] at cS
            exact rmir_yes b s q (bt q 9) (wd q (ppl q 0)) (lg q 16) (wd q (ppl q 2)) _ _ wx c9 (sport_any q hl) c16 (dport_any q hl) (ch wx hb) (ce wx hb) hp i k (idx_some i) (idx_some k) (lg q 12) c.oa c12 (cb wx hb) hd true m'.ex g n cap k1 hkn k2 k3 (cP wx hb) (fun wy hy => ⟨(hc wy hy).1, by rw [M'.ex]; exact ((hc wy hy).2 k u' hu').2.2.2.2.1⟩) rfl u (fun wy hy => ⟨(hc wy hy).1, ((hc wy hy).2 i u hu).2⟩) _ G L G2 R R2 cT cW cT2 cW2 cS cD
        · have hd : (lg q 12 != c.oa) = true := by simpa using h2
          have hs : sndM c ms q c.oa m'.ex = none := by unfold sndM; rw [if_neg h2]
          rw [hs]
          exact ⟨⟨#[]⟩, ⟨#[]⟩, fun wx hb => rmir_else b s q (bt q 9) (wd q (ppl q 0)) (lg q 16) (wd q (ppl q 2)) _ _ wx c9 (sport_any q hl) c16 (dport_any q hl) (ch wx hb) (ce wx hb) hp i k (idx_some i) (idx_some k) (lg q 12) c.oa c12 (cb wx hb) hd, rfl⟩
/-- what a message that is carried comes to -/
theorem rmsg_end (b : Nat) {s g r : ByteArray} (S : Sok s) (h9 : bt s 9 = 1) (h8 : 8 ≤ (bdy s).size) (Q : Qok (quo s)) (hq : (quo s).size = (bdy s).size - 8) (G : Sok g ∧ bt g 9 = 1 ∧ bt g 8 = bt s 8 ∧ (bdy g).size = (bdy s).size ∧ quo g = quo s ∧ g.size = s.size) (gh : hdv g = hdv s) (K : Rqk (quo s) r) (tt mt : Int) (R : Rp) (hR : R = if pss s mt = 0 then ⟨0, tt, snt (wqu g r), tk, ms⟩ else ⟨pss s mt, 0, ⟨#[]⟩, tk, ms⟩) : RmsgH b s (quo s) g r (hdv s) tt mt (vdl R.er R.sd R.fr 2 false us0 false) := by
  obtain ⟨S1, g9, g8, gb, gq, gz⟩ := G
  have n20 := S1.fit.n20
  have hl : s.size ≤ maxLen := size_le S.fit.n64
  have hM := rstopped_any b s mt hl
  have hd := hdv_bd s
  have ne := isEmpty_no (g := g) (by omega)
  have Qr : Qok r := ⟨by rw [K.z]; exact Q.n64, by rw [K.z]; exact Q.n28, by rw [K.hd]; exact Q.h20, by rw [K.hd, K.z]; exact Q.h8, by rw [K.p9]; exact Q.pr⟩
  have zf : (fxb (quo s) (fxh (quo s) r)).size = (bdy s).size - 8 := by rw [fxb_size, (fxh_ok _ Qr).2, K.z]; exact hq
  by_cases hp : pss s mt = 0
  · rw [if_pos hp] at hR
    rw [hp] at hM
    subst hR
    obtain ⟨S2, j9, j8⟩ := wqu_ok (q := r) S1 g9 (by omega) (by rw [gq, gb]; exact zf)
    have e : put g (hdv s + 8) (fxb (quo s) (fxh (quo s) r)) = wqu g r := by unfold wqu; rw [gh, gq]
    have cW : Ret 190 #[.string g, .int .i64 (hdv s + 8), .string (fxb (quo s) (fxh (quo s) r))] (.string (wqu g r)) := fun w => by
      rw [← e]
      exact with_any g _ _ w (by omega) (by omega) S1.fit.n64 (by have := Q.n64; omega)
    have cR := requoted_any _ _ K
    have cO := on_any _ S2 (by rw [j8, g8]; have := pss_ttl hp; omega) (.inr (.inr j9))
    dsimp only
    clear S2 j9 j8 e zf
    generalize snt (wqu g r) = Z at cO ⊢
    generalize wqu g r = Y at cO cW
    generalize fxb (quo s) (fxh (quo s) r) = X at cR cW
    unfold RmsgH
    exact .inr (.inr ⟨X, Y, Z, ne, hM, cR, cW, cO, rfl⟩)
  · rw [if_neg hp] at hR
    subst hR
    dsimp only
    unfold RmsgH
    exact .inr (.inl ⟨pss s mt, ne, hM, by simpa using hp, rfl⟩)
set_option maxHeartbeats 1000000 in
/-- message is the program's -/
theorem rmsg_all (X : Rx w base b c now us own uv ov tk ms) (d : Int) (hd : d = 0 ∨ d = 1) (s : ByteArray) (hk : chk s = 0) (he : isErr s = true) : ∀ wx, Below w.heap.size w wx → Calls Tryz.prog 151 #[.pointer (some ⟨b, 0, none⟩), .int .i64 d, .string s] wx fun r w' => r = .returned (.agg (vdl (msgR c tk ms d s).er (msgR c tk ms d s).sd (msgR c tk ms d s).fr 2 false us0 false).toArray) ∧ Below wx.heap.size wx w' := by
  have S := chk_sok hk
  have F := S.fit
  have h8 := chk_b8 hk
  obtain ⟨Q, hq, h9⟩ := chk_quote hk he
  have hl : s.size ≤ maxLen := size_le F.n64
  have hd' := hdv_bd s
  have cH : Ret 189 #[.string s] (.int .i64 (hdv s)) := fun w => head_any s w hl
  have c2 : Ret 141 #[.string s, .int .i64 2, .int .i64 2] (.int .i64 (wd s 2)) := fun w => number2 s 2 w hl (by decide) (by decide)
  have c16 : Ret 141 #[.string s, .int .i64 16, .int .i64 4] (.int .i64 (lg s 16)) := fun w => number4 s 16 w hl (by decide) (by decide)
  have cq : Ret 146 #[.string s, .int .i64 (hdv s + 8), .int .i64 (wd s 2)] (.string (quo s)) := fun w => by
    rw [← prt_quo F h8]; exact part_any s _ _ w (by omega) (wd_bd s 2).1
  have cb : ∀ wx, Below w.heap.size w wx → ∀ wy, Below wx.heap.size wx wy → wy.cell? ⟨b, 1, none⟩ = some (.int .i64 c.oa) ∧ wy.cell? ⟨b, 5, none⟩ = some (.int .i64 c.im) ∧ wy.cell? ⟨b, 6, none⟩ = some (.int .i64 c.om) := fun wx hx wy hy => ⟨((X.rb.below hx).below hy).at 1 rfl, ((X.rb.below hx).below hy).at 5 rfl, ((X.rb.below hx).below hy).at 6 rfl⟩
  have P12 := fun a => msg_put (s := s) (t := l4 a) (i := 12) S h9 h8 (.inl rfl) (l4_size a)
  have P16 := fun a => msg_put (s := s) (t := l4 a) (i := 16) S h9 h8 (.inr rfl) (l4_size a)
  have n20 := F.n20
  have H12 : ∀ a, hdv (put s 12 (l4 a)) = hdv s := fun a => hdv_put (by decide) (by rw [l4_size]; omega)
  have H16 : ∀ a, hdv (put s 16 (l4 a)) = hdv s := fun a => hdv_put (by decide) (by rw [l4_size]; omega)
  have K0 := rqk_refl Q
  unfold msgR
  intro wx hb
  by_cases h1 : d = 1
  · simp only [if_pos h1]
    obtain ⟨g, r, ct, hg⟩ := rtold_all (X.below hb) s (quo s) F.n20 F.n64 Q
    refine rmsg_any b s (quo s) g r d (hdv s) (wd s 2) (lg s 16) c.oa c.im c.om 0 c.im true (lg s 16 == c.oa) wx hd'.1 hd'.2 cH c2 cq c16 (cb wx hb) (by simpa using h1) rfl (by simp) (by simp) (fun _ => ct) (fun h => (by cases h)) (fun h => (by cases h)) _ ?_
    unfold mInR
    cases hs : sndM c ms (quo s) (lg (quo s) 16) (ppr (quo s)) with
    | none =>
      rw [hs] at hg
      unfold RmsgH
      exact .inl ⟨hg, rfl⟩
    | some m =>
      rw [hs] at hg
      obtain ⟨Mo, rfl, rfl⟩ := hg
      exact rmsg_end b S h9 h8 Q hq (P16 m.ea) (H16 m.ea) (rqk_src K0 m.ea m.ep) 0 c.im _ rfl
  · have h0 : (d == 1) = false := by simpa using h1
    simp only [if_neg h1]
    by_cases h2 : lg s 16 = c.oa
    · have h2' : (lg s 16 == c.oa) = true := by simpa using h2
      simp only [if_pos h2]
      obtain ⟨g, r, ct, hg⟩ := rmir_all (X.below hb) s (quo s) F.n20 F.n64 Q
      refine rmsg_any b s (quo s) g r d (hdv s) (wd s 2) (lg s 16) c.oa c.im c.om 0 c.im false true wx hd'.1 hd'.2 cH c2 cq c16 (cb wx hb) h0 h2' (by simp) (by simp) (fun h => (by cases h)) (fun _ _ => ct) (fun _ h => (by cases h)) _ ?_
      unfold mBackR
      by_cases h3 : bt (quo s) 9 = 1
      · simp only [if_pos h3] at hg ⊢
        unfold RmsgH
        exact .inl ⟨hg, rfl⟩
      · simp only [if_neg h3] at hg ⊢
        cases hr : rcvM ms (quo s) with
        | none =>
          rw [hr] at hg
          unfold RmsgH
          exact .inl ⟨hg, rfl⟩
        | some m' =>
          rw [hr] at hg
          simp only at hg ⊢
          cases hs : sndM c ms (quo s) c.oa m'.ex with
          | none =>
            rw [hs] at hg
            unfold RmsgH
            exact .inl ⟨hg, rfl⟩
          | some m =>
            rw [hs] at hg
            obtain ⟨Mo, Mo', rfl, rfl⟩ := hg
            obtain ⟨S1, g9, g8, gb, gq, gz⟩ := P12 c.oa
            obtain ⟨S2, f9, f8, fb, fq, fz⟩ := msg_put (t := l4 m.ea) (i := 16) S1 g9 (by omega) (.inr rfl) (l4_size m.ea)
            exact rmsg_end b S h9 h8 Q hq ⟨S2, f9, by rw [f8, g8], by rw [fb, gb], by rw [fq, gq], by rw [fz, gz]⟩ (by rw [hdv_put (by decide) (by rw [l4_size, gz]; omega), H12]) (rqk_src (rqk_dst K0 c.oa m'.ex) m.ea m.ep) 0 c.im _ rfl
    · have h2' : (lg s 16 == c.oa) = false := by simpa using h2
      simp only [if_neg h2]
      obtain ⟨g, r, ct, hg⟩ := rtell_all (X.below hb) s (quo s) F.n20 F.n64 Q
      refine rmsg_any b s (quo s) g r d (hdv s) (wd s 2) (lg s 16) c.oa c.im c.om 1 c.om false false wx hd'.1 hd'.2 cH c2 cq c16 (cb wx hb) h0 h2' (by simp) (by simp) (fun h => (by cases h)) (fun _ h => (by cases h)) (fun _ _ => ct) _ ?_
      unfold mOutR
      cases hr : rcvM ms (quo s) with
      | none =>
        rw [hr] at hg
        unfold RmsgH
        exact .inl ⟨hg, rfl⟩
      | some m =>
        rw [hr] at hg
        simp only at hg ⊢
        by_cases h3 : lg s 16 = lg (quo s) 12
        · simp only [if_pos h3] at hg ⊢
          obtain ⟨rfl, rfl⟩ := hg
          exact rmsg_end b S h9 h8 Q hq (P12 c.oa) (H12 c.oa) (rqk_dst K0 c.oa m.ex) 1 c.om _ rfl
        · simp only [if_neg h3] at hg ⊢
          unfold RmsgH
          exact .inl ⟨hg, rfl⟩
end
end Go.Proofs.YthiljpbodmajaabGreat
namespace Go.Proofs.YthiljpbodmajaabGreat
open Go.RowKit Plain
set_option linter.unusedVariables false
theorem message_no (s b : ByteArray) (t p : Int) (w : World) (cB : Ret 142 #[.string s] (.string b)) (c0 : Ret 141 #[.string b, .int .i64 0, .int .i64 1] (.int .i64 t))
    (cP : Ret 141 #[.string s, .int .i64 9, .int .i64 1] (.int .i64 p)) (hp : (p == 1) = false) :
    Calls Tryz.prog 150 #[.string s] w fun e w' => e = .returned (.bool false) ∧ w' = w := by
  go_enter Tryz.func150, Tryz.ntmps150
  go_wp2_with fail
  refine Calls.mono (cB.at _) ?_; rintro e w' ⟨rfl, rfl⟩
  go_wp2_with fail
  refine Calls.mono (c0.at _) ?_; rintro e w' ⟨rfl, rfl⟩
  go_wp2_with fail
  refine Calls.mono (cP.at _) ?_; rintro e w' ⟨rfl, rfl⟩
  go_wp2
  go_ret
  exact ⟨rfl, rfl⟩
theorem message_any {s : ByteArray} (hk : chk s = 0) : Ret 150 #[.string s] (.bool (isErr s)) := fun w => by
  have S := chk_sok hk
  have F := S.fit
  have h8 := chk_b8 hk
  have hl : s.size ≤ maxLen := size_le F.n64
  have hz := bdy_size F
  have hb : (bdy s).size ≤ maxLen := size_le (by have := F.tn; have := F.n64; have := F.h20; omega)
  have cB : Ret 142 #[.string s] (.string (bdy s)) := fun w => refBody_any s w hl
  have c0 : Ret 141 #[.string (bdy s), .int .i64 0, .int .i64 1] (.int .i64 (bt (bdy s) 0)) := fun w => number1 _ 0 w hb (by decide) (by decide)
  have cP : Ret 141 #[.string s, .int .i64 9, .int .i64 1] (.int .i64 (bt s 9)) := fun w => number1 s 9 w hl (by decide) (by decide)
  unfold isErr
  cases h9 : (bt s 9 == 1) with
  | false => exact message_no s (bdy s) (bt (bdy s) 0) (bt s 9) w cB c0 cP h9
  | true =>
    have := message_core s (bdy s) (bt (bdy s) 0) (bt s 9) w cB c0 cP h9
    rw [bdy_bt0 F h8] at this
    exact this
theorem chk_icmp {s : ByteArray} (hk : chk s = 0) (h9 : bt s 9 = 1) : (errB (bt s (hdv s)) = true ∧ reqB (bt s (hdv s)) = false ∧ repB (bt s (hdv s)) = false) ∨ (errB (bt s (hdv s)) = false ∧ reqB (bt s (hdv s)) = true ∧ repB (bt s (hdv s)) = false) ∨ (errB (bt s (hdv s)) = false ∧ reqB (bt s (hdv s)) = false ∧ repB (bt s (hdv s)) = true) := by
  have S := chk_sok hk
  have h8 := chk_b8 hk
  have hh := chk_hdrv hk
  have hi : icv (bdy s) = 0 := by
    unfold chk at hk
    rw [if_pos hh, if_neg (by omega), if_neg (by omega), if_pos h9] at hk
    exact hk
  unfold icv icase at hi
  rw [if_neg (by omega)] at hi
  split at hi
  · omega
  · rw [bdy_bt0 S.fit h8] at hi
    generalize bt s (hdv s) = t at hi ⊢
    cases he : errB t with
    | true =>
      refine .inl ⟨rfl, ?_, ?_⟩
      · simp only [errB, Bool.or_eq_true, beq_iff_eq] at he
        simp only [reqB, Bool.or_eq_false_iff, beq_eq_false_iff_ne]
        omega
      · simp only [errB, Bool.or_eq_true, beq_iff_eq] at he
        simp only [repB, Bool.or_eq_false_iff, beq_eq_false_iff_ne]
        omega
    | false =>
      rw [he] at hi
      simp only [Bool.false_eq_true, if_false] at hi
      split at hi
      · omega
      · rename_i hn
        cases hq : reqB t with
        | true =>
          refine .inr (.inl ⟨rfl, rfl, ?_⟩)
          simp only [reqB, Bool.or_eq_true, beq_iff_eq] at hq
          simp only [repB, Bool.or_eq_false_iff, beq_eq_false_iff_ne]
          omega
        | false =>
          cases hp : repB t with
          | true => exact .inr (.inr ⟨rfl, rfl, rfl⟩)
          | false => rw [hq, hp] at hn; simp at hn
section
variable {w w' : World} {base b : Nat} {c : Cf} {now : Int} {us : List Us} {own : List Int} {uv ov : Value} {tk : Int} {ms : List Mp}
def barV (c : Cf) (d : Int) (s : ByteArray) : Int := if addrB c d s then (if kindB c d s then 0 else 7) else 6
theorem rbar_any (X : Rx w base b c now us own uv ov tk ms) (d : Int) (hd : d = 0 ∨ d = 1) (s : ByteArray) (hk : chk s = 0) : ∀ wx, Below w.heap.size w wx → Calls Tryz.prog 149 #[.pointer (some ⟨b, 0, none⟩), .int .i64 d, .string s] wx fun e' w' => e' = .returned (.int .i64 (barV c d s)) ∧ w' = wx := fun wx hb => by
  have S := chk_sok hk
  have F := S.fit
  have h8 := chk_b8 hk
  have hl : s.size ≤ maxLen := size_le F.n64
  have hz := bdy_size F
  have hbl : (bdy s).size ≤ maxLen := size_le (by have := F.tn; have := F.n64; have := F.h20; omega)
  have cB : Ret 142 #[.string s] (.string (bdy s)) := fun w => refBody_any s w hl
  have c0 : Ret 141 #[.string (bdy s), .int .i64 0, .int .i64 1] (.int .i64 (bt (bdy s) 0)) := fun w => number1 _ 0 w hbl (by decide) (by decide)
  have cP : Ret 141 #[.string s, .int .i64 9, .int .i64 1] (.int .i64 (bt s 9)) := fun w => number1 s 9 w hl (by decide) (by decide)
  have c12 : Ret 141 #[.string s, .int .i64 12, .int .i64 4] (.int .i64 (lg s 12)) := fun w => number4 s 12 w hl (by decide) (by decide)
  have c16 : Ret 141 #[.string s, .int .i64 16, .int .i64 4] (.int .i64 (lg s 16)) := fun w => number4 s 16 w hl (by decide) (by decide)
  have T := X.rb.below hb
  have hI := fun h => chk_icmp hk h
  rw [bdy_bt0 F h8] at c0
  have hreq : (bt s (hdv s) == 8 || bt s (hdv s) == 13) = reqB (bt s (hdv s)) := rfl
  rcases hd with rfl | rfl
  · refine barred0_core b s (bdy s) c.ia c.oa (lg s 12) (lg s 16) (bt s (hdv s)) (bt s 9) (isErr s) wx (T.at 0 rfl) (T.at 1 rfl) c12 c16 cB c0 (message_any hk) cP _ ?_
    unfold barV addrB kindB isReq isRep isErr
    rw [hreq]
    by_cases h9 : bt s 9 = 1
    · have h9' : (bt s 9 == 1) = true := by simpa using h9
      have h9n : (bt s 9 != 1) = false := by simpa using h9
      rw [h9', h9n]
      rcases hI h9 with ⟨i1, i2, i3⟩ | ⟨i1, i2, i3⟩ | ⟨i1, i2, i3⟩ <;> rw [i1, i2, i3] <;> cases (lg s 12 == c.ia) <;> cases (lg s 12 == c.oa) <;> cases (lg s 16 == c.ia) <;> cases (lg s 16 == c.oa) <;> decide
    · have h9' : (bt s 9 == 1) = false := by simpa using h9
      have h9n : (bt s 9 != 1) = true := by simpa using h9
      rw [h9', h9n]
      cases (lg s 12 == c.ia) <;> cases (lg s 12 == c.oa) <;> cases (lg s 16 == c.ia) <;> simp
  · refine barred1_core b s (bdy s) c.ia c.oa (lg s 12) (lg s 16) (bt s (hdv s)) (bt s 9) (isErr s) wx (T.at 0 rfl) (T.at 1 rfl) c12 c16 cB c0 (message_any hk) cP _ ?_
    unfold barV addrB kindB isReq isRep isErr
    have hn : (lg s 16 != c.oa) = !(lg s 16 == c.oa) := rfl
    rw [hn]
    rw [hreq]
    by_cases h9 : bt s 9 = 1
    · have h9' : (bt s 9 == 1) = true := by simpa using h9
      have h9n : (bt s 9 != 1) = false := by simpa using h9
      rw [h9', h9n]
      rcases hI h9 with ⟨i1, i2, i3⟩ | ⟨i1, i2, i3⟩ | ⟨i1, i2, i3⟩ <;> rw [i1, i2, i3] <;> cases (lg s 12 == c.ia) <;> cases (lg s 12 == c.oa) <;> cases (lg s 16 == c.ia) <;> cases (lg s 16 == c.oa) <;> decide
    · have h9' : (bt s 9 == 1) = false := by simpa using h9
      have h9n : (bt s 9 != 1) = true := by simpa using h9
      rw [h9', h9n]
      cases (lg s 12 == c.ia) <;> cases (lg s 12 == c.oa) <;> cases (lg s 16 == c.ia) <;> cases (lg s 16 == c.oa) <;> simp
/-- JUDGE is the program's Frame, but that nothing changes -/
theorem rjudge_all (X : Rx w base b c now us own uv ov tk ms) (d : Int) (s : ByteArray) (hl : s.size ≤ maxLen) : ∃ so usd u td, (∀ wx, Below w.heap.size w wx → Calls Tryz.prog 95 #[.pointer (some ⟨b, 0, none⟩), .int .i64 d, .string s] wx fun r w' => r = .returned (.agg (vdl (frR c tk ms d s).er (frR c tk ms d s).sd (frR c tk ms d s).fr so usd u td).toArray) ∧ Below wx.heap.size wx w') ∧ Jd c now us ms tk (frR c tk ms d s) usd u td := by
  have cc : RetB 94 #[.string s] (.int .i64 (chk s)) := fun w => refCheck_any s w hl
  unfold frR
  by_cases hd : d = 0 ∨ d = 1
  · by_cases hk : chk s = 0
    · have cb := rbar_any X d hd s hk
      have cm := message_any hk
      have hx : exam c d s = barV c d s := by
        unfold exam
        rw [if_neg (by omega), if_neg (by omega)]
        rfl
      rw [hk] at cc
      by_cases hz : barV c d s = 0
      · rw [hx, if_pos hz]
        rw [hz] at cb
        cases he : isErr s with
        | true =>
          rw [he] at cm
          simp only [if_true]
          have M := rmsg_all X d hd s hk he
          have hsm := msgR_same c tk ms d s
          refine ⟨2, false, us0, false, fun wx hb => ?_, ⟨fun h => (by cases h), fun _ => hsm.2, hsm.1⟩⟩
          rcases hd with rfl | rfl
          · exact rjudge_msg0 b s wx cc (fun wy hy => cb wy (hb.trans (hy.mono hb.size))) cm _ _ _ _ _ _ _ _ _ _ _ _ _ (fun wy hy => M wy (hb.trans (hy.mono hb.size)))
          · exact rjudge_msg1 b s wx cc (fun wy hy => cb wy (hb.trans (hy.mono hb.size))) cm _ _ _ _ _ _ _ _ _ _ _ _ _ (fun wy hy => M wy (hb.trans (hy.mono hb.size)))
        | false =>
          rw [he] at cm
          simp only [Bool.false_eq_true, if_false]
          rcases hd with rfl | rfl
          · have hq : lg s 16 = c.oa → ¬ bt s 9 = 1 := fun h1 h9 => by
              have hI := chk_icmp hk h9
              unfold isErr at he
              unfold barV kindB isReq isRep at hz
              have h9' : (bt s 9 == 1) = true := by simpa using h9
              have h1' : (lg s 16 == c.oa) = true := by simpa using h1
              rw [h9'] at he hz
              rw [h1'] at hz
              rcases hI with ⟨i1, i2, i3⟩ | ⟨i1, i2, i3⟩ | ⟨i1, i2, i3⟩
              · rw [i1] at he; cases he
              · rw [i2, i3] at hz; revert hz; cases addrB c 0 s <;> simp
              · rw [i2, i3] at hz; revert hz; cases addrB c 0 s <;> simp
            obtain ⟨so, usd, u, td, co, J⟩ := rout_all X s hk hq (goR c tk ms 0 s) rfl
            refine ⟨so, usd, u, td, fun wx hb => ?_, J⟩
            exact rjudge_go0 b s wx cc (fun wy hy => cb wy (hb.trans (hy.mono hb.size))) cm _ _ _ _ _ _ _ _ _ _ _ _ _ (fun wy hy => co wy (hb.trans (hy.mono hb.size)))
          · obtain ⟨so, td, co, J⟩ := rin_all X s hk
            refine ⟨so, false, us0, td, fun wx hb => ?_, J⟩
            exact rjudge_go1 b s wx cc (fun wy hy => cb wy (hb.trans (hy.mono hb.size))) cm _ _ _ _ _ _ _ _ _ _ _ _ _ (fun wy hy => co wy (hb.trans (hy.mono hb.size)))
      · rw [hx, if_neg hz]
        refine ⟨0, false, us0, false, fun wx hb => ?_, same_jd c now us tk ms _ _ _⟩
        rcases hd with rfl | rfl
        · exact rjudge_bar0 b s _ wx cc (fun wy hy => cb wy (hb.trans (hy.mono hb.size))) (by simpa using hz)
        · exact rjudge_bar1 b s _ wx cc (fun wy hy => cb wy (hb.trans (hy.mono hb.size))) (by simpa using hz)
    · have hx : exam c d s = chk s := by
        unfold exam
        rw [if_neg (by omega), if_pos hk]
      rw [hx, if_neg hk]
      refine ⟨0, false, us0, false, fun wx hb => ?_, same_jd c now us tk ms _ _ _⟩
      rcases hd with rfl | rfl
      · exact rjudge_check0 b s _ wx cc (by simpa using hk)
      · exact rjudge_check1 b s _ wx cc (by simpa using hk)
  · have hx : exam c d s = 2 := by
      unfold exam
      rw [if_pos (by omega)]
    rw [hx, if_neg (by decide)]
    refine ⟨0, false, us0, false, fun wx hb => ?_, same_jd c now us tk ms _ _ _⟩
    exact rjudge_side b s d wx (by simp; omega) (by simp; omega)
end
end Go.Proofs.YthiljpbodmajaabGreat
