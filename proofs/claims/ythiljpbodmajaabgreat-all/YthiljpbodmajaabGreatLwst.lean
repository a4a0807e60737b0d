/-
  CONTRACTS: package natboxlaw: framed, ticked, shown, walked; a pair's frame, a pair's ticks.
-/
import Derived.Test.YthiljpbodmajaabGreatPrfr
import Derived.Test.YthiljpbodmajaabGreatRgta
import Derived.Test.YthiljpbodmajaabGreatCfgn
import Derived.Test.YthiljpbodmajaabGreatTick
import Derived.Deep.RegionHeld
import Derived.Test.YthiljpbodmajaabGreatRefs
import Derived.Test.YthiljpbodmajaabGreatLwlo
namespace Go.Proofs.YthiljpbodmajaabGreat
open Go.RowKit Plain
set_option linter.unusedVariables false
theorem cel3 {w : World} {B : Nat} {v0 v1 v2 : Value} {t : TypeId} (h : w.heap[B]? = some (.cells #[v0, v1, v2] t (0, 0))) : w.cell? ⟨B, 0, none⟩ = some v0 ∧ w.cell? ⟨B, 1, none⟩ = some v1 ∧ w.cell? ⟨B, 2, none⟩ = some v2 :=
  ⟨cell_of_row _ _ _ _ _ _ h, cell_of_row _ _ _ _ _ _ h, cell_of_row _ _ _ _ _ _ h⟩
/-- what a call leaves of the blocks that are new since w -/
def New (w wx w1 : World) : Prop := wx.heap.size ≤ w1.heap.size ∧ ∀ k, w.heap.size ≤ k → k < wx.heap.size → w1.heap[k]? = wx.heap[k]?
theorem New.of_below {w wx w1 : World} (h : Below wx.heap.size wx w1) : New w wx w1 := ⟨h.size, fun k _ hk => h.block k hk⟩
set_option maxHeartbeats 2000000 in
set_option maxRecDepth 2000 in
theorem framed_core (x r : Nat) (d er sd : Int) (s fr : ByteArray) (w : World) (A : World → World → Prop) (Q : World → Prop)
    (cF : ∀ wx, Below w.heap.size w wx → Calls Tryz.prog 18 #[.pointer (some ⟨x, 0, none⟩), .int .i64 d, .string s] wx fun e w1 => e = .returned (.agg #[.int .i64 er, .int .i64 sd, .string fr]) ∧ A wx w1 ∧ New w wx w1)
    (cG : ∀ wx w1 w2, Below w.heap.size w wx → A wx w1 → Below w1.heap.size w1 w2 → Calls Tryz.prog 154 #[.pointer (some ⟨r, 0, none⟩), .int .i64 d, .string s] w2 fun e w3 => e = .returned (.agg #[.int .i64 er, .int .i64 sd, .string fr]) ∧ Q w3 ∧ New w w2 w3)
    (kQ : ∀ w1 w2, Q w1 → Below w1.heap.size w1 w2 → Q w2) :
    Calls Tryz.prog 97 #[.agg #[.pointer (some ⟨x, 0, none⟩), .pointer (some ⟨r, 0, none⟩)], .int .i64 d, .string s] w fun e w' => e = .returned (.bool true) ∧ Q w' := by
  have CF : Hid _ := cF
  have CG : Hid _ := cG
  have KQ : Hid _ := kQ
  clear cF cG kQ
  go_enter Tryz.func97, Tryz.ntmps97
  go_wp2_with fail
  obtain ⟨wx, hwx⟩ : ∃ wx, wx = w.alloc (.cells #[.pointer (some ⟨x, 0, none⟩), .pointer (some ⟨r, 0, none⟩)] 97) := ⟨_, rfl⟩
  have BX : Hid (wx.heap[w.heap.size]? = some (.cells #[.pointer (some ⟨x, 0, none⟩), .pointer (some ⟨r, 0, none⟩)] 97 (0, 0))) := by rw [hwx]; exact alloc1 _ _
  have HX : Hid (Below w.heap.size w wx) := by rw [hwx]; exact (Below.refl _ _).alloc (Nat.le_refl _) _
  have hzx : w.heap.size < wx.heap.size := (Array.getElem?_eq_some_iff.1 BX.out).1
  rw [← hwx]
  clear hwx
  refine Calls.mono (CF.out _ HX.out) ?_; rintro e w1 ⟨rfl, hA, hN⟩
  have B1 : Hid (w1.heap[w.heap.size]? = some (.cells #[.pointer (some ⟨x, 0, none⟩), .pointer (some ⟨r, 0, none⟩)] 97 (0, 0))) := (hN.2 _ (Nat.le_refl _) hzx).trans BX.out
  have hz1 : w.heap.size < w1.heap.size := by have := hN.1; omega
  have HA : Hid _ := hA
  clear hA hN CF BX
  go_upto_region 2 with fail
  try go_frame
  obtain ⟨w2, hw2⟩ : ∃ w2, w2 = w1.alloc (.cells #[.int .i64 er, .int .i64 sd, .string fr] 42) := ⟨_, rfl⟩
  rw [← hw2]
  have A2 : Hid (w2.heap[w1.heap.size]? = some (.cells #[.int .i64 er, .int .i64 sd, .string fr] 42 (0, 0))) := by rw [hw2]; exact alloc1 _ _
  have H2 : Hid (Below w1.heap.size w1 w2) := by rw [hw2]; exact (Below.refl _ _).alloc (Nat.le_refl _) _
  have q1 : w2.cell? ⟨w.heap.size, 1, none⟩ = some (.pointer (some ⟨r, 0, none⟩)) := cell_of_row _ _ _ _ _ _ ((H2.out.block _ hz1).trans B1.out)
  have hz2 : w1.heap.size < w2.heap.size := (Array.getElem?_eq_some_iff.1 A2.out).1
  clear hw2 B1
  generalize w1.heap.size = M at A2 hz1 hz2 ⊢
  go_wp2_with fail
  refine Calls.mono (CG.out _ _ _ HX.out HA.out H2.out) ?_; rintro e w3 ⟨rfl, hQ, hN⟩
  have A3 : Hid (w3.heap[M]? = some (.cells #[.int .i64 er, .int .i64 sd, .string fr] 42 (0, 0))) := (hN.2 _ (by omega) hz2).trans A2.out
  have hz3 : M < w3.heap.size := by have := hN.1; omega
  have HQ : Hid _ := hQ
  clear hQ hN CG HA H2 HX A2 q1 hz2 hzx w2 w1 wx
  go_upto_region 3 with fail
  try go_frame
  obtain ⟨w4, hw4⟩ : ∃ w4, w4 = w3.alloc (.cells #[.int .i64 er, .int .i64 sd, .string fr] 132) := ⟨_, rfl⟩
  rw [← hw4]
  have A4 : Hid (w4.heap[w3.heap.size]? = some (.cells #[.int .i64 er, .int .i64 sd, .string fr] 132 (0, 0))) := by rw [hw4]; exact alloc1 _ _
  have H4 : Hid (Below w3.heap.size w3 w4) := by rw [hw4]; exact (Below.refl _ _).alloc (Nat.le_refl _) _
  obtain ⟨a0, a1, a2⟩ := cel3 ((H4.out.block _ hz3).trans A3.out)
  obtain ⟨b0, b1, b2⟩ := cel3 A4.out
  have Q4 : Hid (Q w4.drew) := KQ.out _ _ HQ.out H4.out.drew
  clear hw4 A4 H4 A3 HQ KQ
  generalize w3.heap.size = L at b0 b1 b2 ⊢
  go_wp2_with fail
  go_region_held (fun w' => w'.cell? ⟨M, 0, none⟩ = some (.int .i64 er) ∧ w'.cell? ⟨M, 1, none⟩ = some (.int .i64 sd) ∧ w'.cell? ⟨M, 2, none⟩ = some (.string fr) ∧ w'.cell? ⟨L, 0, none⟩ = some (.int .i64 er) ∧ w'.cell? ⟨L, 1, none⟩ = some (.int .i64 sd) ∧ w'.cell? ⟨L, 2, none⟩ = some (.string fr)) (first | (with_reducible assumption) | simp [*]) (first | (go_at_call 91; refine (num_any _ _).mono ?_; rintro e w' ⟨rfl, hw⟩; replace hw := hw.symm; subst hw))
  all_goals
    go_wp2
    go_ret
    exact ⟨by simp, Q4.out⟩
theorem rfs_tk0 (c : Cf) (k d u : Int) {tk : Int} (ms : List Mp) (s : ByteArray) (h : 0 ≤ tk) : 0 ≤ (rfs c k d u tk ms s).tk := by
  unfold rfs
  split
  · rename_i q
    simp [telB] at q
    show 0 ≤ tk - 1
    omega
  · exact h
theorem frR_tk0 {c : Cf} {tk : Int} {ms : List Mp} (d : Int) (s : ByteArray) (h : 0 ≤ tk) : 0 ≤ (frR c tk ms d s).tk := by
  unfold frR
  split
  · split
    · rw [(msgR_same c tk ms d s).1]; exact h
    · unfold goR
      split
      · unfold inR
        repeat' (first | exact h | exact rfs_tk0 _ _ _ _ _ _ h | split)
      · split
        · unfold backR
          repeat' (first | exact h | exact rfs_tk0 _ _ _ _ _ _ h | split)
        · unfold outR
          repeat' (first | exact h | exact rfs_tk0 _ _ _ _ _ _ h | split)
  · exact h
section
variable {w w' : World} {base : Nat} {p : Ps}
theorem Pr.new_bl (h : Pr w base p) {wx w1 : World} {v' : Value} {tk ti : Int} {ms' : List Mp} (hb : Below w.heap.size w wx) (B : BL wx w1 base p.x p.c p.v v' tk ti ms') : New w wx w1 :=
  ⟨B.chg.size, fun k h1 h2 => B.chg.block k h2 (by have := h.bat.lt; omega) (fun e => by have := (h.bat.row.lt k e.symm).2; omega)⟩
theorem Pr.new_rl (h : Pr w base p) {wx w1 : World} {uv' ov' : Value} {now' : Int} {us' : List Us} {own' : List Int} (hb : w.heap.size ≤ wx.heap.size) (R : RL wx w1 base p.r p.c now' us' own' p.uv p.ov uv' ov') : New w wx w1 :=
  ⟨R.size, fun k h1 h2 => R.block k h2 (by have := h.rx.rb.lt; omega) (fun e => by have := (h.rx.rb.ur.lt k e).2; omega) (fun e => by have := (own_lt1 h.rx.rb.owr k e).2; omega)⟩
/-- a frame on a pair -/
theorem Pr.framed (h : Pr w base p) (d : Int) (s : ByteArray) (hl : s.size ≤ maxLen) (hn : (p.us.length + 1) * 56 ≤ 140737488355328) (hm : (p.own.length + 1) * 8 ≤ 140737488355328) :
    Calls Tryz.prog 97 #[.agg #[.pointer (some ⟨p.x, 0, none⟩), .pointer (some ⟨p.r, 0, none⟩)], .int .i64 d, .string s] w fun e w' => e = .returned (.bool true) ∧ ∃ p', Sl w w' base p p' := by
  have G := h.rx.ok
  have K := h.rx.sim.tok
  have hk2 : p.tk ≤ 100 := by have := h.tk1; have := (cok_rest G).1; omega
  refine framed_core p.x p.r d (frR p.c p.tk p.ms d s).er (frR p.c p.tk p.ms d s).sd s (frR p.c p.tk p.ms d s).fr w (fun wx w1 => ∃ v', BL wx w1 base p.x p.c p.v v' (frR p.c p.tk p.ms d s).tk p.now (frR p.c p.tk p.ms d s).ms) (fun w' => ∃ p', Sl w w' base p p') (fun wx hb => ?_) (fun wx w1 w2 hb hA h2 => ?_) (fun w1 w2 ⟨p', hp⟩ hb => ⟨p', hp.grow hb⟩)
  · refine (frame_all (h.bat.below hb) G K d s hl hk2).mono ?_
    rintro e w1 ⟨rfl, v', B⟩
    exact ⟨rfl, ⟨v', B⟩, h.new_bl hb B⟩
  · obtain ⟨v', B⟩ := hA
    have Px := h.below hb
    have B2 := B.grow h2
    have X2 := BL.rx Px B2
    obtain ⟨so, usd, u, td, cJ, J⟩ := rjudge_all X2 d s hl
    refine (rframe_core p.r base p.c p.now p.us p.own p.uv p.ov d s w2 X2.rb (frR p.c p.tk p.ms d s).er (frR p.c p.tk p.ms d s).sd (frR p.c p.tk p.ms d s).fr so usd u td cJ hn hm _ _ rfl rfl).mono ?_
    rintro e w3 ⟨rfl, uv', ov', R⟩
    have hsz : w.heap.size ≤ w2.heap.size := Nat.le_trans hb.size B2.chg.size
    refine ⟨rfl, ⟨_, Sl.pre hb h (Px.step B2 R (fun rb => ?_) ?_ ?_ ?_ ?_ ?_ ?_)⟩, h.new_rl hsz R⟩
    · have hIn : Inv p.c.bu p.c.ra p.now ((if td = true then p.own ++ [p.now] else p.own).reverse.map fun t => (t, true)) (frR p.c p.tk p.ms d s).tk := by
        rw [J.tk]
        cases td with
        | true => simpa using inv_told h.inv true
        | false => exact h.inv
      have hS : (if td = true then p.own ++ [p.now] else p.own).Pairwise (fun a b => a ≤ b) := by
        cases td with
        | true =>
          simp only [if_true]
          rw [List.pairwise_append]
          exact ⟨h.srt, List.pairwise_singleton _ _, fun a ha b hb => by have := (h.rx.ow a ha).2; simp at hb; omega⟩
        | false => exact h.srt
      have hW : ∀ t ∈ (if td = true then p.own ++ [p.now] else p.own), 0 ≤ t ∧ t ≤ p.now := by
        cases td with
        | true =>
          intro t ht
          simp only [if_true, List.mem_append, List.mem_singleton] at ht
          rcases ht with ht | rfl
          · exact h.rx.ow t ht
          · exact ⟨h.rx.t0, Int.le_refl _⟩
        | false => exact h.rx.ow
      refine ⟨rb, ?_, ?_, h.rx.t0, h.rx.t2, G, tok_eq (cok_rest G).2.1.1 hS (fun t ht => (hW t ht).2) hIn, hW⟩
      · cases usd with
        | true => exact (J.use rfl).2.2
        | false => rw [J.ms rfl]; exact h.rx.sim
      · cases usd with
        | true =>
          intro v hv
          simp only [if_true, List.mem_append, List.mem_singleton] at hv
          rcases hv with hv | rfl
          · exact h.rx.uok v hv
          · have := (J.use rfl).1
            rw [this]
            exact ⟨h.rx.t0, Int.le_refl _⟩
        | false => exact h.rx.uok
    · rw [J.tk]
      cases td with
      | true => simpa using inv_told h.inv true
      | false => exact h.inv
    · cases td with
      | true =>
        simp only [if_true]
        rw [List.pairwise_append]
        exact ⟨h.srt, List.pairwise_singleton _ _, fun a ha b hb => by have := (h.rx.ow a ha).2; simp at hb; omega⟩
      | false => exact h.srt
    · exact frR_tk0 d s h.k0
    · cases usd with
      | true =>
        intro v hv
        simp only [if_true, List.mem_append, List.mem_singleton] at hv
        rcases hv with hv | rfl
        · exact h.up v hv
        · exact (J.use rfl).2.1
      | false => exact h.up
    · cases usd <;> simp
    · cases td <;> simp
end
end Go.Proofs.YthiljpbodmajaabGreat
namespace Go.Proofs.YthiljpbodmajaabGreat
open Go.RowKit Plain
set_option linter.unusedVariables false
theorem ptick_no (b : Nat) (now n : Int) (w : World) (c17 : w.cell? ⟨b, 17, none⟩ = some (.int .i64 now)) (t0 : 0 ≤ now) (t2 : now ≤ 1099511627776) (h : n < 0 ∨ 100000 < n ∨ 1099511627776 < now + n) (n0 : -9223372036854775808 ≤ n) (n1 : n < 9223372036854775808) :
    Calls Tryz.prog 17 #[.pointer (some ⟨b, 0, none⟩), .int .i64 n] w fun e w' => e = .returned (.int .i64 12) ∧ w' = w := by
  by_cases h1 : n < 0
  · clear h
    go_enter Tryz.func17, Tryz.ntmps17
    go_wp2
    go_ret
    exact ⟨rfl, rfl⟩
  · have h1' : 0 ≤ n := by omega
    by_cases h2 : 100000 < n
    · clear h h1
      go_enter Tryz.func17, Tryz.ntmps17
      go_wp2
      go_ret
      exact ⟨rfl, rfl⟩
    · have h2' : n ≤ 100000 := by omega
      have h3 : 1099511627776 - n < now := by omega
      clear h h1 h2
      go_enter Tryz.func17, Tryz.ntmps17
      go_wp2
      go_ret
      exact ⟨rfl, rfl⟩
set_option maxHeartbeats 1000000 in
theorem ticked_core (x r : Nat) (n er : Int) (w : World) (A : World → World → Prop) (Q : World → Prop)
    (cT : ∀ wx, Below w.heap.size w wx → Calls Tryz.prog 17 #[.pointer (some ⟨x, 0, none⟩), .int .i64 n] wx fun e w1 => e = .returned (.int .i64 er) ∧ A wx w1 ∧ New w wx w1)
    (cU : ∀ wx w1, Below w.heap.size w wx → A wx w1 → Calls Tryz.prog 155 #[.pointer (some ⟨r, 0, none⟩), .int .i64 n] w1 fun e w3 => e = .returned (.int .i64 er) ∧ Q w3) :
    Calls Tryz.prog 98 #[.agg #[.pointer (some ⟨x, 0, none⟩), .pointer (some ⟨r, 0, none⟩)], .int .i64 n] w fun e w' => e = .returned (.bool true) ∧ Q w' := by
  have CT : Hid _ := cT
  have CU : Hid _ := cU
  clear cT cU
  go_enter Tryz.func98, Tryz.ntmps98
  go_wp2_with fail
  obtain ⟨wx, hwx⟩ : ∃ wx, wx = w.alloc (.cells #[.pointer (some ⟨x, 0, none⟩), .pointer (some ⟨r, 0, none⟩)] 97) := ⟨_, rfl⟩
  have BX : Hid (wx.heap[w.heap.size]? = some (.cells #[.pointer (some ⟨x, 0, none⟩), .pointer (some ⟨r, 0, none⟩)] 97 (0, 0))) := by rw [hwx]; exact alloc1 _ _
  have HX : Hid (Below w.heap.size w wx) := by rw [hwx]; exact (Below.refl _ _).alloc (Nat.le_refl _) _
  have hzx : w.heap.size < wx.heap.size := (Array.getElem?_eq_some_iff.1 BX.out).1
  rw [← hwx]
  clear hwx
  refine Calls.mono (CT.out _ HX.out) ?_; rintro e w1 ⟨rfl, hA, hN⟩
  have B1 : w1.heap[w.heap.size]? = some (.cells #[.pointer (some ⟨x, 0, none⟩), .pointer (some ⟨r, 0, none⟩)] 97 (0, 0)) := (hN.2 _ (Nat.le_refl _) hzx).trans BX.out
  have q1 : w1.cell? ⟨w.heap.size, 1, none⟩ = some (.pointer (some ⟨r, 0, none⟩)) := cell_of_row _ _ _ _ _ _ B1
  have HA : Hid _ := hA
  clear hA hN CT BX B1
  go_wp2_with fail
  refine Calls.mono (CU.out _ _ HX.out HA.out) ?_; rintro e w3 ⟨rfl, hQ⟩
  have HQ : Hid _ := hQ
  clear hQ CU q1
  go_wp2_with fail
  refine (num_any _ _).mono ?_; rintro e w' ⟨rfl, hw⟩; replace hw := hw.symm; subst hw
  go_wp2
  go_ret
  exact ⟨by simp, HQ.out⟩
section
variable {w w' : World} {base : Nat} {p : Ps}
theorem Pr.ticked (h : Pr w base p) (n : Int) (n0 : -9223372036854775808 ≤ n) (n1 : n < 9223372036854775808) :
    Calls Tryz.prog 98 #[.agg #[.pointer (some ⟨p.x, 0, none⟩), .pointer (some ⟨p.r, 0, none⟩)], .int .i64 n] w fun e w' => e = .returned (.bool true) ∧ ∃ p', Sl w w' base p p' := by
  have G := h.rx.ok
  have R := cok_rest G
  have t0 := h.rx.t0
  have t2 := h.rx.t2
  have k0 := h.k0
  have k1 := h.tk1
  by_cases hb : n < 0 ∨ 100000 < n ∨ 1099511627776 < p.now + n
  · refine ticked_core p.x p.r n 12 w (fun wx w1 => w1 = wx) (fun w' => ∃ p', Sl w w' base p p') (fun wx hx => ?_) (fun wx w1 hx hA => ?_)
    · refine (ptick_no p.x p.now n wx ((h.bat.below hx).at 17 rfl) t0 t2 hb n0 n1).mono ?_
      rintro e w1 ⟨rfl, rfl⟩
      exact ⟨rfl, rfl, New.of_below (Below.refl _ _)⟩
    · subst hA
      refine (rtick_no p.r p.now n w1 ((h.rx.rb.below hx).at 12 rfl) t0 t2 hb n0 n1).mono ?_
      rintro e w3 ⟨rfl, rfl⟩
      exact ⟨rfl, p, h.same hx⟩
  · have m0 : 0 ≤ n := by omega
    have m1 : n ≤ 100000 := by omega
    have m2 : p.now + n ≤ 1099511627776 := by omega
    have hP0 : 0 ≤ n * p.c.ra := Int.mul_nonneg m0 R.2.1.1
    have hIn : Inv p.c.bu p.c.ra (p.now + n) (p.own.reverse.map fun t => (t, true)) (if p.c.bu < p.tk + n * p.c.ra then p.c.bu else p.tk + n * p.c.ra) := by
      have := inv_tick (n := n) h.inv (by rw [Int.mul_comm]; exact hP0)
      rw [Int.mul_comm p.c.ra n] at this
      exact this
    refine ticked_core p.x p.r n 0 w (fun wx w1 => ∃ v', BL wx w1 base p.x p.c p.v v' (if p.c.bu < p.tk + n * p.c.ra then p.c.bu else p.tk + n * p.c.ra) (p.now + n) (aged n p.ms)) (fun w' => ∃ p', Sl w w' base p p') (fun wx hx => ?_) (fun wx w1 hx hA => ?_)
    · refine (tick_yes (h.bat.below hx) n _ m0 m1 (by omega) t0 k0 (by omega) R.2.1.1 R.2.1.2 R.1.2 rfl (fun wy cur Ty => age_any Ty (by have := h.rx.sim.tok.len; have := (cok_of G).c2; omega) n m0 m1 (fun m hm => by have Mo := h.rx.sim.tok.all m hm; have := Mo.l0; have := Mo.l1; omega))).mono ?_
      rintro e w1 ⟨rfl, v', B⟩
      exact ⟨rfl, ⟨v', B⟩, h.new_bl hx B⟩
    · obtain ⟨v', B⟩ := hA
      have Px := h.below hx
      have X1 := BL.rx Px B
      refine (rtick_yes X1.rb n t0 m0 m1 m2).mono ?_
      rintro e w3 ⟨rfl, rfl⟩
      have RR : RL w1 (w1.setCell ⟨p.r, 12, none⟩ (.int .i64 (p.now + n))) base p.r p.c (p.now + n) p.us p.own p.uv p.ov p.uv p.ov :=
        ⟨X1.rb.tick (p.now + n), fun k q => .inl q, fun k q => .inl q, rfl, rfl, rfl, by simp [World.setCell], fun k q1 q2 _ _ => Below.heap_setCell w1 _ _ _ q2⟩
      refine ⟨rfl, _, Sl.pre hx h (Px.step B RR (fun rb => ?_) hIn h.srt ?_ h.up (by omega) (by omega))⟩
      · exact ⟨rb, sim_tick h.rx.sim m0, fun u hu => by have := h.rx.uok u hu; omega, by omega, m2, G, tok_eq R.2.1.1 h.srt (fun t ht => by have := (h.rx.ow t ht).2; omega) hIn, fun t ht => by have := h.rx.ow t ht; omega⟩
      · have := R.1.1
        split <;> omega
end
theorem shown_any (b0 b1 b2 b3 : Bool) (so : Int) : ∃ v : Bool, RetB 96 #[.agg #[.bool b0, .bool b1, .bool b2, .bool b3], .int .i64 so] (.bool v) := by
  by_cases h0 : so = 0
  · refine ⟨b0, fun w => ?_⟩
    subst h0
    go_enter Tryz.func96, Tryz.ntmps96
    go_wp2
    go_ret
    exact ⟨rfl, (Below.refl _ _).alloc (Nat.le_refl _) _⟩
  · have h0' : (so == 0) = false := by simpa using h0
    by_cases h1 : so = 1
    · refine ⟨b1, fun w => ?_⟩
      subst h1
      go_enter Tryz.func96, Tryz.ntmps96
      go_wp2
      go_ret
      exact ⟨rfl, (Below.refl _ _).alloc (Nat.le_refl _) _⟩
    · have h1' : (so == 1) = false := by simpa using h1
      refine ⟨b2, fun w => ?_⟩
      go_enter Tryz.func96, Tryz.ntmps96
      go_wp2
      go_ret
      exact ⟨rfl, (Below.refl _ _).alloc (Nat.le_refl _) _⟩
end Go.Proofs.YthiljpbodmajaabGreat
namespace Go.Proofs.YthiljpbodmajaabGreat
open Go.RowKit Plain
set_option linter.unusedVariables false

set_option maxHeartbeats 4000000 in
set_option maxRecDepth 2000 in
theorem step_tick (x r : Nat) (bx n : Int) (s : ByteArray) (a0 a1 a2 a3 a4 a5 a6 a7 a8 a9 a10 a11 : Int) (see b0 b1 b2 b3 : Bool) (w : World) (Q : World → Prop) (kB : ∀ wx, Below w.heap.size w wx → Q wx) (cF : ∀ wx, Below w.heap.size w wx → Calls Tryz.prog 98 #[.agg #[.pointer (some ⟨x, 0, none⟩), .pointer (some ⟨r, 0, none⟩)], .int .i64 n] wx fun e w' => e = .returned (.bool true) ∧ Q w') :
    Calls Tryz.prog 58 #[.agg #[.pointer (some ⟨x, 0, none⟩), .pointer (some ⟨r, 0, none⟩)], .agg #[.int .i64 3, .int .i64 bx, .int .i64 n, .string s, .int .i64 a0, .int .i64 a1, .int .i64 a2, .int .i64 a3, .int .i64 a4, .int .i64 a5, .int .i64 a6, .int .i64 a7, .int .i64 a8, .int .i64 a9, .int .i64 a10, .int .i64 a11, .bool see], .agg #[.bool b0, .bool b1, .bool b2, .bool b3]] w fun e w' => e = .returned (.bool true) ∧ Q w' := by
  have KB : Hid _ := kB
  clear kB
  go_enter Tryz.func58, Tryz.ntmps58
  go_upto_region 1 with fail
  have S_v0 : Hid (St [(w.heap.size, #[.pointer (some ⟨x, 0, none⟩), .pointer (some ⟨r, 0, none⟩)], 97), (w.heap.size + 1, #[.int .i64 3, .int .i64 bx, .int .i64 n, .string s, .int .i64 a0, .int .i64 a1, .int .i64 a2, .int .i64 a3, .int .i64 a4, .int .i64 a5, .int .i64 a6, .int .i64 a7, .int .i64 a8, .int .i64 a9, .int .i64 a10, .int .i64 a11, .bool see], 94), (w.heap.size + 1 + 1, #[.bool b0, .bool b1, .bool b2, .bool b3], 50)] w (((w.alloc (.cells #[.pointer (some ⟨x, 0, none⟩), .pointer (some ⟨r, 0, none⟩)] 97)).alloc (.cells #[.int .i64 3, .int .i64 bx, .int .i64 n, .string s, .int .i64 a0, .int .i64 a1, .int .i64 a2, .int .i64 a3, .int .i64 a4, .int .i64 a5, .int .i64 a6, .int .i64 a7, .int .i64 a8, .int .i64 a9, .int .i64 a10, .int .i64 a11, .bool see] 94)).alloc (.cells #[.bool b0, .bool b1, .bool b2, .bool b3] 50))) := St.alloc (St.alloc (St.alloc (St.start w) #[.pointer (some ⟨x, 0, none⟩), .pointer (some ⟨r, 0, none⟩)] 97 (w.heap.size) rfl) #[.int .i64 3, .int .i64 bx, .int .i64 n, .string s, .int .i64 a0, .int .i64 a1, .int .i64 a2, .int .i64 a3, .int .i64 a4, .int .i64 a5, .int .i64 a6, .int .i64 a7, .int .i64 a8, .int .i64 a9, .int .i64 a10, .int .i64 a11, .bool see] 94 (w.heap.size + 1) (by simp)) #[.bool b0, .bool b1, .bool b2, .bool b3] 50 (w.heap.size + 1 + 1) (by simp)
  generalize (((w.alloc (.cells #[.pointer (some ⟨x, 0, none⟩), .pointer (some ⟨r, 0, none⟩)] 97)).alloc (.cells #[.int .i64 3, .int .i64 bx, .int .i64 n, .string s, .int .i64 a0, .int .i64 a1, .int .i64 a2, .int .i64 a3, .int .i64 a4, .int .i64 a5, .int .i64 a6, .int .i64 a7, .int .i64 a8, .int .i64 a9, .int .i64 a10, .int .i64 a11, .bool see] 94)).alloc (.cells #[.bool b0, .bool b1, .bool b2, .bool b3] 50)) = v0 at S_v0 ⊢
  generalize (Value.agg #[.pointer (some ⟨x, 0, none⟩), .pointer (some ⟨r, 0, none⟩)]) = B1
  generalize (Value.agg #[.int .i64 3, .int .i64 bx, .int .i64 n, .string s, .int .i64 a0, .int .i64 a1, .int .i64 a2, .int .i64 a3, .int .i64 a4, .int .i64 a5, .int .i64 a6, .int .i64 a7, .int .i64 a8, .int .i64 a9, .int .i64 a10, .int .i64 a11, .bool see]) = B2
  generalize (Value.agg #[.bool b0, .bool b1, .bool b2, .bool b3]) = B3
  have hz_v0 : w.heap.size + 1 + 1 < v0.heap.size := St.lt S_v0.out (x := (w.heap.size + 1 + 1, #[.bool b0, .bool b1, .bool b2, .bool b3], 50)) (by simp)
  have CF : Hid _ := cF
  clear cF
  have q_p0 : v0.cell? ⟨w.heap.size, 0, none⟩ = some (.pointer (some ⟨x, 0, none⟩)) := St.at 0 0 rfl rfl _ S_v0.out
  have q_p1 : v0.cell? ⟨w.heap.size, 1, none⟩ = some (.pointer (some ⟨r, 0, none⟩)) := St.at 0 1 rfl rfl _ S_v0.out
  have q_o0 : v0.cell? ⟨w.heap.size + 1, 0, none⟩ = some (.int .i64 3) := St.at 1 0 rfl rfl _ S_v0.out
  have q_o2 : v0.cell? ⟨w.heap.size + 1, 2, none⟩ = some (.int .i64 n) := St.at 1 2 rfl rfl _ S_v0.out
  go_wp2_with fail
  refine Calls.mono (CF.out _ (St.below S_v0.out)) ?_; rintro e w1 ⟨rfl, hq⟩
  have HQ : Hid _ := hq
  clear hq S_v0 CF q_p0 q_p1 q_o0 q_o2
  go_wp2
  go_ret
  exact ⟨rfl, HQ.out⟩

set_option maxHeartbeats 4000000 in
set_option maxRecDepth 2000 in
theorem step_look (x r : Nat) (bx n : Int) (s : ByteArray) (a0 a1 a2 a3 a4 a5 a6 a7 a8 a9 a10 a11 : Int) (see b0 b1 b2 b3 : Bool) (w : World) (Q : World → Prop) (kB : ∀ wx, Below w.heap.size w wx → Q wx) (cF : ∀ wx, Below w.heap.size w wx → Calls Tryz.prog 99 #[.agg #[.pointer (some ⟨x, 0, none⟩), .pointer (some ⟨r, 0, none⟩)], .int .i64 n] wx fun e w' => e = .returned (.bool true) ∧ Q w') :
    Calls Tryz.prog 58 #[.agg #[.pointer (some ⟨x, 0, none⟩), .pointer (some ⟨r, 0, none⟩)], .agg #[.int .i64 4, .int .i64 bx, .int .i64 n, .string s, .int .i64 a0, .int .i64 a1, .int .i64 a2, .int .i64 a3, .int .i64 a4, .int .i64 a5, .int .i64 a6, .int .i64 a7, .int .i64 a8, .int .i64 a9, .int .i64 a10, .int .i64 a11, .bool see], .agg #[.bool b0, .bool b1, .bool b2, .bool b3]] w fun e w' => e = .returned (.bool true) ∧ Q w' := by
  have KB : Hid _ := kB
  clear kB
  go_enter Tryz.func58, Tryz.ntmps58
  go_upto_region 1 with fail
  have S_v0 : Hid (St [(w.heap.size, #[.pointer (some ⟨x, 0, none⟩), .pointer (some ⟨r, 0, none⟩)], 97), (w.heap.size + 1, #[.int .i64 4, .int .i64 bx, .int .i64 n, .string s, .int .i64 a0, .int .i64 a1, .int .i64 a2, .int .i64 a3, .int .i64 a4, .int .i64 a5, .int .i64 a6, .int .i64 a7, .int .i64 a8, .int .i64 a9, .int .i64 a10, .int .i64 a11, .bool see], 94), (w.heap.size + 1 + 1, #[.bool b0, .bool b1, .bool b2, .bool b3], 50)] w (((w.alloc (.cells #[.pointer (some ⟨x, 0, none⟩), .pointer (some ⟨r, 0, none⟩)] 97)).alloc (.cells #[.int .i64 4, .int .i64 bx, .int .i64 n, .string s, .int .i64 a0, .int .i64 a1, .int .i64 a2, .int .i64 a3, .int .i64 a4, .int .i64 a5, .int .i64 a6, .int .i64 a7, .int .i64 a8, .int .i64 a9, .int .i64 a10, .int .i64 a11, .bool see] 94)).alloc (.cells #[.bool b0, .bool b1, .bool b2, .bool b3] 50))) := St.alloc (St.alloc (St.alloc (St.start w) #[.pointer (some ⟨x, 0, none⟩), .pointer (some ⟨r, 0, none⟩)] 97 (w.heap.size) rfl) #[.int .i64 4, .int .i64 bx, .int .i64 n, .string s, .int .i64 a0, .int .i64 a1, .int .i64 a2, .int .i64 a3, .int .i64 a4, .int .i64 a5, .int .i64 a6, .int .i64 a7, .int .i64 a8, .int .i64 a9, .int .i64 a10, .int .i64 a11, .bool see] 94 (w.heap.size + 1) (by simp)) #[.bool b0, .bool b1, .bool b2, .bool b3] 50 (w.heap.size + 1 + 1) (by simp)
  generalize (((w.alloc (.cells #[.pointer (some ⟨x, 0, none⟩), .pointer (some ⟨r, 0, none⟩)] 97)).alloc (.cells #[.int .i64 4, .int .i64 bx, .int .i64 n, .string s, .int .i64 a0, .int .i64 a1, .int .i64 a2, .int .i64 a3, .int .i64 a4, .int .i64 a5, .int .i64 a6, .int .i64 a7, .int .i64 a8, .int .i64 a9, .int .i64 a10, .int .i64 a11, .bool see] 94)).alloc (.cells #[.bool b0, .bool b1, .bool b2, .bool b3] 50)) = v0 at S_v0 ⊢
  generalize (Value.agg #[.pointer (some ⟨x, 0, none⟩), .pointer (some ⟨r, 0, none⟩)]) = B1
  generalize (Value.agg #[.int .i64 4, .int .i64 bx, .int .i64 n, .string s, .int .i64 a0, .int .i64 a1, .int .i64 a2, .int .i64 a3, .int .i64 a4, .int .i64 a5, .int .i64 a6, .int .i64 a7, .int .i64 a8, .int .i64 a9, .int .i64 a10, .int .i64 a11, .bool see]) = B2
  generalize (Value.agg #[.bool b0, .bool b1, .bool b2, .bool b3]) = B3
  have hz_v0 : w.heap.size + 1 + 1 < v0.heap.size := St.lt S_v0.out (x := (w.heap.size + 1 + 1, #[.bool b0, .bool b1, .bool b2, .bool b3], 50)) (by simp)
  have CF : Hid _ := cF
  clear cF
  have q_p0 : v0.cell? ⟨w.heap.size, 0, none⟩ = some (.pointer (some ⟨x, 0, none⟩)) := St.at 0 0 rfl rfl _ S_v0.out
  have q_p1 : v0.cell? ⟨w.heap.size, 1, none⟩ = some (.pointer (some ⟨r, 0, none⟩)) := St.at 0 1 rfl rfl _ S_v0.out
  have q_o0 : v0.cell? ⟨w.heap.size + 1, 0, none⟩ = some (.int .i64 4) := St.at 1 0 rfl rfl _ S_v0.out
  have q_o2 : v0.cell? ⟨w.heap.size + 1, 2, none⟩ = some (.int .i64 n) := St.at 1 2 rfl rfl _ S_v0.out
  go_wp2_with fail
  refine Calls.mono (CF.out _ (St.below S_v0.out)) ?_; rintro e w1 ⟨rfl, hq⟩
  have HQ : Hid _ := hq
  clear hq S_v0 CF q_p0 q_p1 q_o0 q_o2
  go_wp2
  go_ret
  exact ⟨rfl, HQ.out⟩

set_option maxHeartbeats 4000000 in
set_option maxRecDepth 2000 in
theorem step_live (x r : Nat) (bx n : Int) (s : ByteArray) (a0 a1 a2 a3 a4 a5 a6 a7 a8 a9 a10 a11 : Int) (see b0 b1 b2 b3 : Bool) (w : World) (Q : World → Prop) (kB : ∀ wx, Below w.heap.size w wx → Q wx) (v : Int) (cX : ∀ wx, Below w.heap.size w wx → Calls Tryz.prog 19 #[.pointer (some ⟨x, 0, none⟩)] wx fun e w' => e = .returned (.int .i64 v) ∧ w' = wx) (cR : ∀ wx, Below w.heap.size w wx → Calls Tryz.prog 100 #[.pointer (some ⟨r, 0, none⟩)] wx fun e w' => e = .returned (.int .i64 v) ∧ Below wx.heap.size wx w') :
    Calls Tryz.prog 58 #[.agg #[.pointer (some ⟨x, 0, none⟩), .pointer (some ⟨r, 0, none⟩)], .agg #[.int .i64 6, .int .i64 bx, .int .i64 n, .string s, .int .i64 a0, .int .i64 a1, .int .i64 a2, .int .i64 a3, .int .i64 a4, .int .i64 a5, .int .i64 a6, .int .i64 a7, .int .i64 a8, .int .i64 a9, .int .i64 a10, .int .i64 a11, .bool see], .agg #[.bool b0, .bool b1, .bool b2, .bool b3]] w fun e w' => e = .returned (.bool true) ∧ Q w' := by
  have KB : Hid _ := kB
  clear kB
  go_enter Tryz.func58, Tryz.ntmps58
  go_upto_region 1 with fail
  have S_v0 : Hid (St [(w.heap.size, #[.pointer (some ⟨x, 0, none⟩), .pointer (some ⟨r, 0, none⟩)], 97), (w.heap.size + 1, #[.int .i64 6, .int .i64 bx, .int .i64 n, .string s, .int .i64 a0, .int .i64 a1, .int .i64 a2, .int .i64 a3, .int .i64 a4, .int .i64 a5, .int .i64 a6, .int .i64 a7, .int .i64 a8, .int .i64 a9, .int .i64 a10, .int .i64 a11, .bool see], 94), (w.heap.size + 1 + 1, #[.bool b0, .bool b1, .bool b2, .bool b3], 50)] w (((w.alloc (.cells #[.pointer (some ⟨x, 0, none⟩), .pointer (some ⟨r, 0, none⟩)] 97)).alloc (.cells #[.int .i64 6, .int .i64 bx, .int .i64 n, .string s, .int .i64 a0, .int .i64 a1, .int .i64 a2, .int .i64 a3, .int .i64 a4, .int .i64 a5, .int .i64 a6, .int .i64 a7, .int .i64 a8, .int .i64 a9, .int .i64 a10, .int .i64 a11, .bool see] 94)).alloc (.cells #[.bool b0, .bool b1, .bool b2, .bool b3] 50))) := St.alloc (St.alloc (St.alloc (St.start w) #[.pointer (some ⟨x, 0, none⟩), .pointer (some ⟨r, 0, none⟩)] 97 (w.heap.size) rfl) #[.int .i64 6, .int .i64 bx, .int .i64 n, .string s, .int .i64 a0, .int .i64 a1, .int .i64 a2, .int .i64 a3, .int .i64 a4, .int .i64 a5, .int .i64 a6, .int .i64 a7, .int .i64 a8, .int .i64 a9, .int .i64 a10, .int .i64 a11, .bool see] 94 (w.heap.size + 1) (by simp)) #[.bool b0, .bool b1, .bool b2, .bool b3] 50 (w.heap.size + 1 + 1) (by simp)
  generalize (((w.alloc (.cells #[.pointer (some ⟨x, 0, none⟩), .pointer (some ⟨r, 0, none⟩)] 97)).alloc (.cells #[.int .i64 6, .int .i64 bx, .int .i64 n, .string s, .int .i64 a0, .int .i64 a1, .int .i64 a2, .int .i64 a3, .int .i64 a4, .int .i64 a5, .int .i64 a6, .int .i64 a7, .int .i64 a8, .int .i64 a9, .int .i64 a10, .int .i64 a11, .bool see] 94)).alloc (.cells #[.bool b0, .bool b1, .bool b2, .bool b3] 50)) = v0 at S_v0 ⊢
  generalize (Value.agg #[.pointer (some ⟨x, 0, none⟩), .pointer (some ⟨r, 0, none⟩)]) = B1
  generalize (Value.agg #[.int .i64 6, .int .i64 bx, .int .i64 n, .string s, .int .i64 a0, .int .i64 a1, .int .i64 a2, .int .i64 a3, .int .i64 a4, .int .i64 a5, .int .i64 a6, .int .i64 a7, .int .i64 a8, .int .i64 a9, .int .i64 a10, .int .i64 a11, .bool see]) = B2
  generalize (Value.agg #[.bool b0, .bool b1, .bool b2, .bool b3]) = B3
  have hz_v0 : w.heap.size + 1 + 1 < v0.heap.size := St.lt S_v0.out (x := (w.heap.size + 1 + 1, #[.bool b0, .bool b1, .bool b2, .bool b3], 50)) (by simp)
  have CX : Hid _ := cX
  have CR : Hid _ := cR
  clear cX cR
  have q_p0 : v0.cell? ⟨w.heap.size, 0, none⟩ = some (.pointer (some ⟨x, 0, none⟩)) := St.at 0 0 rfl rfl _ S_v0.out
  have q_p1 : v0.cell? ⟨w.heap.size, 1, none⟩ = some (.pointer (some ⟨r, 0, none⟩)) := St.at 0 1 rfl rfl _ S_v0.out
  have q_o0 : v0.cell? ⟨w.heap.size + 1, 0, none⟩ = some (.int .i64 6) := St.at 1 0 rfl rfl _ S_v0.out
  go_wp2_with fail
  refine Calls.mono (CX.out _ (St.below S_v0.out)) ?_; rintro e w' ⟨rfl, hw⟩; replace hw := hw.symm; subst hw
  go_wp2_with fail
  refine Calls.mono (CR.out _ (St.below S_v0.out)) ?_; rintro e w1 ⟨rfl, hb1⟩
  have HQ : Hid _ := KB.out _ ((St.below S_v0.out).trans (hb1.mono (St.below S_v0.out).size))
  clear hb1 S_v0 CX CR KB q_p0 q_p1 q_o0
  go_wp2
  go_ret
  exact ⟨by simp, HQ.out⟩

set_option maxHeartbeats 4000000 in
set_option maxRecDepth 2000 in
theorem step_coins (x r : Nat) (bx n : Int) (s : ByteArray) (a0 a1 a2 a3 a4 a5 a6 a7 a8 a9 a10 a11 : Int) (see b0 b1 b2 b3 : Bool) (w : World) (Q : World → Prop) (kB : ∀ wx, Below w.heap.size w wx → Q wx) (v : Int) (cX : ∀ wx, Below w.heap.size w wx → Calls Tryz.prog 21 #[.pointer (some ⟨x, 0, none⟩)] wx fun e w' => e = .returned (.int .i64 v) ∧ w' = wx) (cR : ∀ wx, Below w.heap.size w wx → Calls Tryz.prog 101 #[.pointer (some ⟨r, 0, none⟩)] wx fun e w' => e = .returned (.int .i64 v) ∧ Below wx.heap.size wx w') :
    Calls Tryz.prog 58 #[.agg #[.pointer (some ⟨x, 0, none⟩), .pointer (some ⟨r, 0, none⟩)], .agg #[.int .i64 7, .int .i64 bx, .int .i64 n, .string s, .int .i64 a0, .int .i64 a1, .int .i64 a2, .int .i64 a3, .int .i64 a4, .int .i64 a5, .int .i64 a6, .int .i64 a7, .int .i64 a8, .int .i64 a9, .int .i64 a10, .int .i64 a11, .bool see], .agg #[.bool b0, .bool b1, .bool b2, .bool b3]] w fun e w' => e = .returned (.bool true) ∧ Q w' := by
  have KB : Hid _ := kB
  clear kB
  go_enter Tryz.func58, Tryz.ntmps58
  go_upto_region 1 with fail
  have S_v0 : Hid (St [(w.heap.size, #[.pointer (some ⟨x, 0, none⟩), .pointer (some ⟨r, 0, none⟩)], 97), (w.heap.size + 1, #[.int .i64 7, .int .i64 bx, .int .i64 n, .string s, .int .i64 a0, .int .i64 a1, .int .i64 a2, .int .i64 a3, .int .i64 a4, .int .i64 a5, .int .i64 a6, .int .i64 a7, .int .i64 a8, .int .i64 a9, .int .i64 a10, .int .i64 a11, .bool see], 94), (w.heap.size + 1 + 1, #[.bool b0, .bool b1, .bool b2, .bool b3], 50)] w (((w.alloc (.cells #[.pointer (some ⟨x, 0, none⟩), .pointer (some ⟨r, 0, none⟩)] 97)).alloc (.cells #[.int .i64 7, .int .i64 bx, .int .i64 n, .string s, .int .i64 a0, .int .i64 a1, .int .i64 a2, .int .i64 a3, .int .i64 a4, .int .i64 a5, .int .i64 a6, .int .i64 a7, .int .i64 a8, .int .i64 a9, .int .i64 a10, .int .i64 a11, .bool see] 94)).alloc (.cells #[.bool b0, .bool b1, .bool b2, .bool b3] 50))) := St.alloc (St.alloc (St.alloc (St.start w) #[.pointer (some ⟨x, 0, none⟩), .pointer (some ⟨r, 0, none⟩)] 97 (w.heap.size) rfl) #[.int .i64 7, .int .i64 bx, .int .i64 n, .string s, .int .i64 a0, .int .i64 a1, .int .i64 a2, .int .i64 a3, .int .i64 a4, .int .i64 a5, .int .i64 a6, .int .i64 a7, .int .i64 a8, .int .i64 a9, .int .i64 a10, .int .i64 a11, .bool see] 94 (w.heap.size + 1) (by simp)) #[.bool b0, .bool b1, .bool b2, .bool b3] 50 (w.heap.size + 1 + 1) (by simp)
  generalize (((w.alloc (.cells #[.pointer (some ⟨x, 0, none⟩), .pointer (some ⟨r, 0, none⟩)] 97)).alloc (.cells #[.int .i64 7, .int .i64 bx, .int .i64 n, .string s, .int .i64 a0, .int .i64 a1, .int .i64 a2, .int .i64 a3, .int .i64 a4, .int .i64 a5, .int .i64 a6, .int .i64 a7, .int .i64 a8, .int .i64 a9, .int .i64 a10, .int .i64 a11, .bool see] 94)).alloc (.cells #[.bool b0, .bool b1, .bool b2, .bool b3] 50)) = v0 at S_v0 ⊢
  generalize (Value.agg #[.pointer (some ⟨x, 0, none⟩), .pointer (some ⟨r, 0, none⟩)]) = B1
  generalize (Value.agg #[.int .i64 7, .int .i64 bx, .int .i64 n, .string s, .int .i64 a0, .int .i64 a1, .int .i64 a2, .int .i64 a3, .int .i64 a4, .int .i64 a5, .int .i64 a6, .int .i64 a7, .int .i64 a8, .int .i64 a9, .int .i64 a10, .int .i64 a11, .bool see]) = B2
  generalize (Value.agg #[.bool b0, .bool b1, .bool b2, .bool b3]) = B3
  have hz_v0 : w.heap.size + 1 + 1 < v0.heap.size := St.lt S_v0.out (x := (w.heap.size + 1 + 1, #[.bool b0, .bool b1, .bool b2, .bool b3], 50)) (by simp)
  have CX : Hid _ := cX
  have CR : Hid _ := cR
  clear cX cR
  cases b3
  ·
    have q_o0 : v0.cell? ⟨w.heap.size + 1, 0, none⟩ = some (.int .i64 7) := St.at 1 0 rfl rfl _ S_v0.out
    have q_s3 : v0.cell? ⟨w.heap.size + 1 + 1, 3, none⟩ = some (.bool false) := St.at 2 3 rfl rfl _ S_v0.out
    go_wp2
    go_ret
    exact ⟨rfl, KB.out _ (St.below S_v0.out)⟩
  ·
    have q_p0 : v0.cell? ⟨w.heap.size, 0, none⟩ = some (.pointer (some ⟨x, 0, none⟩)) := St.at 0 0 rfl rfl _ S_v0.out
    have q_p1 : v0.cell? ⟨w.heap.size, 1, none⟩ = some (.pointer (some ⟨r, 0, none⟩)) := St.at 0 1 rfl rfl _ S_v0.out
    have q_o0 : v0.cell? ⟨w.heap.size + 1, 0, none⟩ = some (.int .i64 7) := St.at 1 0 rfl rfl _ S_v0.out
    have q_s3 : v0.cell? ⟨w.heap.size + 1 + 1, 3, none⟩ = some (.bool true) := St.at 2 3 rfl rfl _ S_v0.out
    go_wp2_with fail
    refine Calls.mono (CX.out _ (St.below S_v0.out)) ?_; rintro e w' ⟨rfl, hw⟩; replace hw := hw.symm; subst hw
    go_wp2_with fail
    refine Calls.mono (CR.out _ (St.below S_v0.out)) ?_; rintro e w1 ⟨rfl, hb1⟩
    have HQ : Hid _ := KB.out _ ((St.below S_v0.out).trans (hb1.mono (St.below S_v0.out).size))
    clear hb1 S_v0 CX CR KB q_p0 q_p1 q_o0 q_s3
    go_wp2
    go_ret
    exact ⟨by simp, HQ.out⟩

set_option maxHeartbeats 4000000 in
set_option maxRecDepth 2000 in
theorem step_else (x r : Nat) (bx n : Int) (s : ByteArray) (a0 a1 a2 a3 a4 a5 a6 a7 a8 a9 a10 a11 : Int) (see b0 b1 b2 b3 : Bool) (w : World) (Q : World → Prop) (kB : ∀ wx, Below w.heap.size w wx → Q wx) (k : Int) (h2 : (k == 2) = false) (h3 : (k == 3) = false) (h4 : (k == 4) = false) (h6 : (k == 6) = false) (h7 : (k == 7) = false) :
    Calls Tryz.prog 58 #[.agg #[.pointer (some ⟨x, 0, none⟩), .pointer (some ⟨r, 0, none⟩)], .agg #[.int .i64 k, .int .i64 bx, .int .i64 n, .string s, .int .i64 a0, .int .i64 a1, .int .i64 a2, .int .i64 a3, .int .i64 a4, .int .i64 a5, .int .i64 a6, .int .i64 a7, .int .i64 a8, .int .i64 a9, .int .i64 a10, .int .i64 a11, .bool see], .agg #[.bool b0, .bool b1, .bool b2, .bool b3]] w fun e w' => e = .returned (.bool true) ∧ Q w' := by
  have KB : Hid _ := kB
  clear kB
  go_enter Tryz.func58, Tryz.ntmps58
  go_upto_region 1 with fail
  have S_v0 : Hid (St [(w.heap.size, #[.pointer (some ⟨x, 0, none⟩), .pointer (some ⟨r, 0, none⟩)], 97), (w.heap.size + 1, #[.int .i64 k, .int .i64 bx, .int .i64 n, .string s, .int .i64 a0, .int .i64 a1, .int .i64 a2, .int .i64 a3, .int .i64 a4, .int .i64 a5, .int .i64 a6, .int .i64 a7, .int .i64 a8, .int .i64 a9, .int .i64 a10, .int .i64 a11, .bool see], 94), (w.heap.size + 1 + 1, #[.bool b0, .bool b1, .bool b2, .bool b3], 50)] w (((w.alloc (.cells #[.pointer (some ⟨x, 0, none⟩), .pointer (some ⟨r, 0, none⟩)] 97)).alloc (.cells #[.int .i64 k, .int .i64 bx, .int .i64 n, .string s, .int .i64 a0, .int .i64 a1, .int .i64 a2, .int .i64 a3, .int .i64 a4, .int .i64 a5, .int .i64 a6, .int .i64 a7, .int .i64 a8, .int .i64 a9, .int .i64 a10, .int .i64 a11, .bool see] 94)).alloc (.cells #[.bool b0, .bool b1, .bool b2, .bool b3] 50))) := St.alloc (St.alloc (St.alloc (St.start w) #[.pointer (some ⟨x, 0, none⟩), .pointer (some ⟨r, 0, none⟩)] 97 (w.heap.size) rfl) #[.int .i64 k, .int .i64 bx, .int .i64 n, .string s, .int .i64 a0, .int .i64 a1, .int .i64 a2, .int .i64 a3, .int .i64 a4, .int .i64 a5, .int .i64 a6, .int .i64 a7, .int .i64 a8, .int .i64 a9, .int .i64 a10, .int .i64 a11, .bool see] 94 (w.heap.size + 1) (by simp)) #[.bool b0, .bool b1, .bool b2, .bool b3] 50 (w.heap.size + 1 + 1) (by simp)
  generalize (((w.alloc (.cells #[.pointer (some ⟨x, 0, none⟩), .pointer (some ⟨r, 0, none⟩)] 97)).alloc (.cells #[.int .i64 k, .int .i64 bx, .int .i64 n, .string s, .int .i64 a0, .int .i64 a1, .int .i64 a2, .int .i64 a3, .int .i64 a4, .int .i64 a5, .int .i64 a6, .int .i64 a7, .int .i64 a8, .int .i64 a9, .int .i64 a10, .int .i64 a11, .bool see] 94)).alloc (.cells #[.bool b0, .bool b1, .bool b2, .bool b3] 50)) = v0 at S_v0 ⊢
  generalize (Value.agg #[.pointer (some ⟨x, 0, none⟩), .pointer (some ⟨r, 0, none⟩)]) = B1
  generalize (Value.agg #[.int .i64 k, .int .i64 bx, .int .i64 n, .string s, .int .i64 a0, .int .i64 a1, .int .i64 a2, .int .i64 a3, .int .i64 a4, .int .i64 a5, .int .i64 a6, .int .i64 a7, .int .i64 a8, .int .i64 a9, .int .i64 a10, .int .i64 a11, .bool see]) = B2
  generalize (Value.agg #[.bool b0, .bool b1, .bool b2, .bool b3]) = B3
  have hz_v0 : w.heap.size + 1 + 1 < v0.heap.size := St.lt S_v0.out (x := (w.heap.size + 1 + 1, #[.bool b0, .bool b1, .bool b2, .bool b3], 50)) (by simp)
  have q_o0 : v0.cell? ⟨w.heap.size + 1, 0, none⟩ = some (.int .i64 k) := St.at 1 0 rfl rfl _ S_v0.out
  go_wp2
  go_ret
  exact ⟨rfl, KB.out _ (St.below S_v0.out)⟩

set_option maxHeartbeats 4000000 in
set_option maxRecDepth 2000 in
theorem step_frame (x r : Nat) (bx n : Int) (s : ByteArray) (a0 a1 a2 a3 a4 a5 a6 a7 a8 a9 a10 a11 : Int) (see b0 b1 b2 b3 : Bool) (w : World) (Q : World → Prop) (kB : ∀ wx, Below w.heap.size w wx → Q wx) (c0 c1 : Int) (c2 : ByteArray) (c3 : Int) (c4 : Bool) (c5 c6 c7 c8 c9 c10 c11 : Int) (c12 : Bool) (bv : Bool) (cJ : ∀ wx, Below w.heap.size w wx → Calls Tryz.prog 95 #[.pointer (some ⟨r, 0, none⟩), .int .i64 n, .string s] wx fun r w' => r = .returned (.agg #[.int .i64 c0, .int .i64 c1, .string c2, .int .i64 c3, .bool c4, .int .i64 c5, .int .i64 c6, .int .i64 c7, .int .i64 c8, .int .i64 c9, .int .i64 c10, .int .i64 c11, .bool c12]) ∧ Below wx.heap.size wx w') (cS : RetB 96 #[.agg #[.bool b0, .bool b1, .bool b2, .bool b3], .int .i64 c3] (.bool bv)) (cF : ∀ wx, Below w.heap.size w wx → Calls Tryz.prog 97 #[.agg #[.pointer (some ⟨x, 0, none⟩), .pointer (some ⟨r, 0, none⟩)], .int .i64 n, .string s] wx fun e w' => e = .returned (.bool true) ∧ Q w') :
    Calls Tryz.prog 58 #[.agg #[.pointer (some ⟨x, 0, none⟩), .pointer (some ⟨r, 0, none⟩)], .agg #[.int .i64 2, .int .i64 bx, .int .i64 n, .string s, .int .i64 a0, .int .i64 a1, .int .i64 a2, .int .i64 a3, .int .i64 a4, .int .i64 a5, .int .i64 a6, .int .i64 a7, .int .i64 a8, .int .i64 a9, .int .i64 a10, .int .i64 a11, .bool see], .agg #[.bool b0, .bool b1, .bool b2, .bool b3]] w fun e w' => e = .returned (.bool true) ∧ Q w' := by
  have KB : Hid _ := kB
  clear kB
  go_enter Tryz.func58, Tryz.ntmps58
  go_upto_region 1 with fail
  have S_v0 : Hid (St [(w.heap.size, #[.pointer (some ⟨x, 0, none⟩), .pointer (some ⟨r, 0, none⟩)], 97), (w.heap.size + 1, #[.int .i64 2, .int .i64 bx, .int .i64 n, .string s, .int .i64 a0, .int .i64 a1, .int .i64 a2, .int .i64 a3, .int .i64 a4, .int .i64 a5, .int .i64 a6, .int .i64 a7, .int .i64 a8, .int .i64 a9, .int .i64 a10, .int .i64 a11, .bool see], 94), (w.heap.size + 1 + 1, #[.bool b0, .bool b1, .bool b2, .bool b3], 50)] w (((w.alloc (.cells #[.pointer (some ⟨x, 0, none⟩), .pointer (some ⟨r, 0, none⟩)] 97)).alloc (.cells #[.int .i64 2, .int .i64 bx, .int .i64 n, .string s, .int .i64 a0, .int .i64 a1, .int .i64 a2, .int .i64 a3, .int .i64 a4, .int .i64 a5, .int .i64 a6, .int .i64 a7, .int .i64 a8, .int .i64 a9, .int .i64 a10, .int .i64 a11, .bool see] 94)).alloc (.cells #[.bool b0, .bool b1, .bool b2, .bool b3] 50))) := St.alloc (St.alloc (St.alloc (St.start w) #[.pointer (some ⟨x, 0, none⟩), .pointer (some ⟨r, 0, none⟩)] 97 (w.heap.size) rfl) #[.int .i64 2, .int .i64 bx, .int .i64 n, .string s, .int .i64 a0, .int .i64 a1, .int .i64 a2, .int .i64 a3, .int .i64 a4, .int .i64 a5, .int .i64 a6, .int .i64 a7, .int .i64 a8, .int .i64 a9, .int .i64 a10, .int .i64 a11, .bool see] 94 (w.heap.size + 1) (by simp)) #[.bool b0, .bool b1, .bool b2, .bool b3] 50 (w.heap.size + 1 + 1) (by simp)
  generalize (((w.alloc (.cells #[.pointer (some ⟨x, 0, none⟩), .pointer (some ⟨r, 0, none⟩)] 97)).alloc (.cells #[.int .i64 2, .int .i64 bx, .int .i64 n, .string s, .int .i64 a0, .int .i64 a1, .int .i64 a2, .int .i64 a3, .int .i64 a4, .int .i64 a5, .int .i64 a6, .int .i64 a7, .int .i64 a8, .int .i64 a9, .int .i64 a10, .int .i64 a11, .bool see] 94)).alloc (.cells #[.bool b0, .bool b1, .bool b2, .bool b3] 50)) = v0 at S_v0 ⊢
  generalize (Value.agg #[.pointer (some ⟨x, 0, none⟩), .pointer (some ⟨r, 0, none⟩)]) = B1
  generalize (Value.agg #[.int .i64 2, .int .i64 bx, .int .i64 n, .string s, .int .i64 a0, .int .i64 a1, .int .i64 a2, .int .i64 a3, .int .i64 a4, .int .i64 a5, .int .i64 a6, .int .i64 a7, .int .i64 a8, .int .i64 a9, .int .i64 a10, .int .i64 a11, .bool see]) = B2
  generalize (Value.agg #[.bool b0, .bool b1, .bool b2, .bool b3]) = B3
  have hz_v0 : w.heap.size + 1 + 1 < v0.heap.size := St.lt S_v0.out (x := (w.heap.size + 1 + 1, #[.bool b0, .bool b1, .bool b2, .bool b3], 50)) (by simp)
  have CF : Hid _ := cF
  have CJ : Hid _ := cJ
  clear cF cJ
  have q_p1 : v0.cell? ⟨w.heap.size, 1, none⟩ = some (.pointer (some ⟨r, 0, none⟩)) := St.at 0 1 rfl rfl _ S_v0.out
  have q_o0 : v0.cell? ⟨w.heap.size + 1, 0, none⟩ = some (.int .i64 2) := St.at 1 0 rfl rfl _ S_v0.out
  have q_o2 : v0.cell? ⟨w.heap.size + 1, 2, none⟩ = some (.int .i64 n) := St.at 1 2 rfl rfl _ S_v0.out
  have q_o3 : v0.cell? ⟨w.heap.size + 1, 3, none⟩ = some (.string s) := St.at 1 3 rfl rfl _ S_v0.out
  go_wp2_with fail
  refine Calls.mono (CJ.out _ (St.below S_v0.out)) ?_; rintro e w1 ⟨rfl, hb1⟩
  have S_w1 : Hid (St [(w.heap.size, #[.pointer (some ⟨x, 0, none⟩), .pointer (some ⟨r, 0, none⟩)], 97), (w.heap.size + 1, #[.int .i64 2, .int .i64 bx, .int .i64 n, .string s, .int .i64 a0, .int .i64 a1, .int .i64 a2, .int .i64 a3, .int .i64 a4, .int .i64 a5, .int .i64 a6, .int .i64 a7, .int .i64 a8, .int .i64 a9, .int .i64 a10, .int .i64 a11, .bool see], 94), (w.heap.size + 1 + 1, #[.bool b0, .bool b1, .bool b2, .bool b3], 50)] w w1) := St.next S_v0.out hb1
  clear S_v0 hb1
  have hz_w1 : w.heap.size + 1 + 1 < w1.heap.size := St.lt S_w1.out (x := (w.heap.size + 1 + 1, #[.bool b0, .bool b1, .bool b2, .bool b3], 50)) (by simp)
  clear CJ q_p1 q_o0 q_o2 q_o3
  rename_i KK hKK
  refine hKK _ _ ?_
  refine keep_vd [.int .i64 c0, .int .i64 c1, .string c2, .int .i64 c3, .bool c4, .int .i64 c5, .int .i64 c6, .int .i64 c7, .int .i64 c8, .int .i64 c9, .int .i64 c10, .int .i64 c11, .bool c12] rfl rfl rfl rfl rfl (by simp [Value.oneCell']) (by simp [Act.eval, Act.put]) (by simp [Act.eval, Act.put]) ?_
  clear hKK
  clear KK
  have S_v1 : Hid (St [(w.heap.size, #[.pointer (some ⟨x, 0, none⟩), .pointer (some ⟨r, 0, none⟩)], 97), (w.heap.size + 1, #[.int .i64 2, .int .i64 bx, .int .i64 n, .string s, .int .i64 a0, .int .i64 a1, .int .i64 a2, .int .i64 a3, .int .i64 a4, .int .i64 a5, .int .i64 a6, .int .i64 a7, .int .i64 a8, .int .i64 a9, .int .i64 a10, .int .i64 a11, .bool see], 94), (w.heap.size + 1 + 1, #[.bool b0, .bool b1, .bool b2, .bool b3], 50), (w1.heap.size, #[.int .i64 c0, .int .i64 c1, .string c2, .int .i64 c3, .bool c4, .int .i64 c5, .int .i64 c6, .int .i64 c7, .int .i64 c8, .int .i64 c9, .int .i64 c10, .int .i64 c11, .bool c12], 136)] w (w1.alloc (.cells #[.int .i64 c0, .int .i64 c1, .string c2, .int .i64 c3, .bool c4, .int .i64 c5, .int .i64 c6, .int .i64 c7, .int .i64 c8, .int .i64 c9, .int .i64 c10, .int .i64 c11, .bool c12] 136))) := St.alloc S_w1.out #[.int .i64 c0, .int .i64 c1, .string c2, .int .i64 c3, .bool c4, .int .i64 c5, .int .i64 c6, .int .i64 c7, .int .i64 c8, .int .i64 c9, .int .i64 c10, .int .i64 c11, .bool c12] 136 (w1.heap.size) rfl
  have hs_v1 : w1.heap.size < (w1.alloc (.cells #[.int .i64 c0, .int .i64 c1, .string c2, .int .i64 c3, .bool c4, .int .i64 c5, .int .i64 c6, .int .i64 c7, .int .i64 c8, .int .i64 c9, .int .i64 c10, .int .i64 c11, .bool c12] 136)).heap.size := by simp
  generalize w1.alloc (.cells #[.int .i64 c0, .int .i64 c1, .string c2, .int .i64 c3, .bool c4, .int .i64 c5, .int .i64 c6, .int .i64 c7, .int .i64 c8, .int .i64 c9, .int .i64 c10, .int .i64 c11, .bool c12] 136) = v1 at S_v1 hs_v1  ⊢
  clear S_w1
  have q_s0 : v1.cell? ⟨w.heap.size + 1 + 1, 0, none⟩ = some (.bool b0) := St.at 2 0 rfl rfl _ S_v1.out
  have q_s1 : v1.cell? ⟨w.heap.size + 1 + 1, 1, none⟩ = some (.bool b1) := St.at 2 1 rfl rfl _ S_v1.out
  have q_s2 : v1.cell? ⟨w.heap.size + 1 + 1, 2, none⟩ = some (.bool b2) := St.at 2 2 rfl rfl _ S_v1.out
  have q_s3 : v1.cell? ⟨w.heap.size + 1 + 1, 3, none⟩ = some (.bool b3) := St.at 2 3 rfl rfl _ S_v1.out
  have q_v3 : v1.cell? ⟨w1.heap.size, 3, none⟩ = some (.int .i64 c3) := St.at 3 3 rfl rfl _ S_v1.out
  go_wp2_with fail
  refine Calls.mono (cS.at _) ?_; rintro e w2 ⟨rfl, hb2⟩
  have S_w2 : Hid (St [(w.heap.size, #[.pointer (some ⟨x, 0, none⟩), .pointer (some ⟨r, 0, none⟩)], 97), (w.heap.size + 1, #[.int .i64 2, .int .i64 bx, .int .i64 n, .string s, .int .i64 a0, .int .i64 a1, .int .i64 a2, .int .i64 a3, .int .i64 a4, .int .i64 a5, .int .i64 a6, .int .i64 a7, .int .i64 a8, .int .i64 a9, .int .i64 a10, .int .i64 a11, .bool see], 94), (w.heap.size + 1 + 1, #[.bool b0, .bool b1, .bool b2, .bool b3], 50), (w1.heap.size, #[.int .i64 c0, .int .i64 c1, .string c2, .int .i64 c3, .bool c4, .int .i64 c5, .int .i64 c6, .int .i64 c7, .int .i64 c8, .int .i64 c9, .int .i64 c10, .int .i64 c11, .bool c12], 136)] w w2) := St.next S_v1.out hb2
  clear S_v1 hb2
  have hz_w2 : w1.heap.size < w2.heap.size := St.lt S_w2.out (x := (w1.heap.size, #[.int .i64 c0, .int .i64 c1, .string c2, .int .i64 c3, .bool c4, .int .i64 c5, .int .i64 c6, .int .i64 c7, .int .i64 c8, .int .i64 c9, .int .i64 c10, .int .i64 c11, .bool c12], 136)) (by simp)
  clear q_s0 q_s1 q_s2 q_s3 q_v3
  cases bv
  · go_wp2
    go_ret
    exact ⟨rfl, KB.out _ (St.below S_w2.out)⟩
  ·
    have q_p0 : w2.cell? ⟨w.heap.size, 0, none⟩ = some (.pointer (some ⟨x, 0, none⟩)) := St.at 0 0 rfl rfl _ S_w2.out
    have q_p1 : w2.cell? ⟨w.heap.size, 1, none⟩ = some (.pointer (some ⟨r, 0, none⟩)) := St.at 0 1 rfl rfl _ S_w2.out
    have q_o2 : w2.cell? ⟨w.heap.size + 1, 2, none⟩ = some (.int .i64 n) := St.at 1 2 rfl rfl _ S_w2.out
    have q_o3 : w2.cell? ⟨w.heap.size + 1, 3, none⟩ = some (.string s) := St.at 1 3 rfl rfl _ S_w2.out
    go_wp2_with fail
    refine Calls.mono (CF.out _ (St.below S_w2.out)) ?_; rintro e w5 ⟨rfl, hq⟩
    have HQ : Hid _ := hq
    clear hq S_w2 CF q_p0 q_p1 q_o2 q_o3
    go_wp2
    go_ret
    exact ⟨rfl, HQ.out⟩

end Go.Proofs.YthiljpbodmajaabGreat
