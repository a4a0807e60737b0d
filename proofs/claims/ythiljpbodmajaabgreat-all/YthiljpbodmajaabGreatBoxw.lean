/-
  THE BOX IN MEMORY, and what is left of a table behind more work.
-/
import Derived.Test.YthiljpbodmajaabGreatOpnt
import Derived.Test.YthiljpbodmajaabGreatSntw
import Derived.Test.YthiljpbodmajaabGreatFrme
namespace Go.Proofs.YthiljpbodmajaabGreat
open Go.RowKit Plain
set_option linter.unusedVariables false

theorem Left.after {w w1 w2 : World} {base b o : Nat} {ty : TypeId} {cur : Array Value} {v v' : Value} {ms' : List Mp} (h : Left w w1 base b o ty cur v v' ms') (hb : b < w.heap.size)
    (e1 : w2.os = w1.os) (e2 : w2.tape = w1.tape) (e3 : w2.output = w1.output) (e4 : w1.heap.size ≤ w2.heap.size) (e5 : ∀ k, k < w1.heap.size → k < w.heap.size ∨ v'.ownBlock = some k → w2.heap[k]? = w1.heap[k]?) : Left w w2 base b o ty cur v v' ms' :=
  ⟨⟨by rw [e5 b h.tb.lt (.inl hb)]; exact h.tb.blk, h.tb.at3, h.tb.row.kept (fun g hg => e5 g (h.tb.own_lt g hg) (.inr hg)), h.tb.ne, Nat.le_trans h.tb.bs e4⟩, h.own,
    ⟨e1.trans h.chg.os, e2.trans h.chg.tape, e3.trans h.chg.output, Nat.le_trans h.chg.size e4, fun k hk h1 h2 => by rw [e5 k (Nat.lt_of_lt_of_le hk h.chg.size) (.inl hk)]; exact h.chg.block k hk h1 h2⟩⟩
/-- new memory, and stores into new memory that the table does not own -/
theorem Left.grow {w w1 w2 : World} {base b o : Nat} {ty : TypeId} {cur : Array Value} {v v' : Value} {ms' : List Mp} (h : Left w w1 base b o ty cur v v' ms') (hb : b < w.heap.size) (hB : Below w1.heap.size w1 w2) : Left w w2 base b o ty cur v v' ms' :=
  h.after hb hB.os hB.tape hB.output hB.size (fun k hk _ => hB.block k hk)
theorem Left.store {w w1 : World} {base b o : Nat} {ty : TypeId} {cur : Array Value} {v v' : Value} {ms' : List Mp} (h : Left w w1 base b o ty cur v v' ms') (hb : b < w.heap.size) {p : Addr} (hp : w.heap.size ≤ p.block) (hn : v'.ownBlock ≠ some p.block) (u : Value) : Left w (w1.setCell p u) base b o ty cur v v' ms' :=
  h.after hb rfl rfl rfl (by simp [World.setCell]) (fun k hk ho => Below.heap_setCell w1 p u k (by
    intro e
    rcases ho with ho | ho
    · omega
    · exact hn (by rw [← e]; exact ho)))
/-- the box's own cells -/
def bxc (c : Cf) (v : Value) (tk ti : Int) : Array Value :=
  #[.int .i64 c.ia, .int .i64 c.oa, .int .i64 c.lo, .int .i64 c.hi, .int .i64 c.cp, .int .i64 c.im, .int .i64 c.om, .int .i64 c.iu, .int .i64 c.it, .int .i64 c.iq, .int .i64 c.bu, .int .i64 c.ra, .int .i64 c.lo, .int .i64 c.hi, .int .i64 c.cp, v, .int .i64 tk, .int .i64 ti]
theorem bxc_nums (c : Cf) (v : Value) (tk ti : Int) : Nums (bxc c v tk ti) 12 c := ⟨rfl, rfl, rfl⟩
/-- a box in memory -/
abbrev Bat (w : World) (base b : Nat) (c : Cf) (tk ti : Int) (v : Value) (ms : List Mp) : Prop := Tb w base b 12 81 (bxc c v tk ti) v ms
theorem Tb.at {w : World} {base b o : Nat} {ty : TypeId} {cur : Array Value} {v u : Value} {ms : List Mp} (T : Tb w base b o ty cur v ms) (i : Nat) (h : cur[i]? = some u) : w.cell? ⟨b, i, none⟩ = some u := by rw [cell_of_row w b i cur ty _ T.blk, h]
/-- what a call on a box leaves -/
theorem Left.bat {w w' : World} {base b : Nat} {c : Cf} {tk ti : Int} {v v' : Value} {ms' : List Mp} (h : Left w w' base b 12 81 (bxc c v tk ti) v v' ms') : Bat w' base b c tk ti v' ms' := h.tb
/-- what a call on a box leaves -/
structure BL (w w' : World) (base b : Nat) (c : Cf) (v v' : Value) (tk ti : Int) (ms' : List Mp) : Prop where
  bat : Bat w' base b c tk ti v' ms'
  own : ∀ k, v'.ownBlock = some k → some k = v.ownBlock ∨ w.heap.size ≤ k
  chg : Chg w w' b v.ownBlock
theorem Tb.put {w : World} {base b o : Nat} {ty : TypeId} {cur : Array Value} {v : Value} {ms : List Mp} (T : Tb w base b o ty cur v ms) (i : Nat) (hi : i ≠ o + 3) (u : Value) : Tb (w.setCell ⟨b, i, none⟩ u) base b o ty (cur.setIfInBounds i u) v ms := by
  refine ⟨heap_setCell_same u T.blk, ?_, T.row.kept (fun g hg => Below.heap_setCell w _ _ _ (fun e => T.ne (by rw [hg, e]))), T.ne, by simpa [World.setCell] using T.bs⟩
  rw [Array.getElem?_setIfInBounds_ne hi]
  exact T.at3
theorem Chg.put {w w' : World} {b : Nat} {g : Option Nat} (h : Chg w w' b g) (i : Nat) (u : Value) : Chg w (w'.setCell ⟨b, i, none⟩ u) b g :=
  ⟨h.os, h.tape, h.output, by simpa [World.setCell] using h.size, fun k hk h1 h2 => (Below.heap_setCell w' _ _ _ h1).trans (h.block k hk h1 h2)⟩
theorem Chg.refl (w : World) (b : Nat) (g : Option Nat) : Chg w w b g := ⟨rfl, rfl, rfl, Nat.le_refl _, fun _ _ _ _ => rfl⟩
theorem Chg.trans {w w1 w2 : World} {b : Nat} {g g1 : Option Nat} (h : Chg w w1 b g) (k : Chg w1 w2 b g1) (hg : ∀ j, some j = g1 → some j = g ∨ w.heap.size ≤ j) : Chg w w2 b g :=
  ⟨k.os.trans h.os, k.tape.trans h.tape, k.output.trans h.output, Nat.le_trans h.size k.size, fun j hj h1 h2 => by
    rw [k.block j (Nat.lt_of_lt_of_le hj h.size) h1 (fun e => by rcases hg j e with q | q; exact h2 q; omega)]
    exact h.block j hj h1 h2⟩
theorem BL.below {w w' wb : World} {base b : Nat} {c : Cf} {v v' : Value} {tk ti tk0 ti0 : Int} {ms ms' : List Mp} (T : Bat w base b c tk0 ti0 v ms) (h : BL w w' base b c v v' tk ti ms') (hb : base ≤ b) (B : Below base wb w) : Below base wb w' :=
  ⟨h.chg.os.trans B.os, h.chg.tape.trans B.tape, h.chg.output.trans B.output, Nat.le_trans B.size h.chg.size, fun k hk => by
    rw [h.chg.block k (Nat.lt_of_lt_of_le hk T.bs) (by omega) (fun e => by have := (T.row.lt k e.symm).1; omega)]
    exact B.block k hk⟩
theorem Tb.drew {w : World} {base b o : Nat} {ty : TypeId} {cur : Array Value} {v : Value} {ms : List Mp} (T : Tb w base b o ty cur v ms) : Tb w.drew base b o ty cur v ms := ⟨T.blk, T.at3, T.row, T.ne, T.bs⟩
theorem Chg.drew {w w' : World} {b : Nat} {g : Option Nat} (h : Chg w w' b g) : Chg w w'.drew b g := ⟨h.os, h.tape, h.output, h.size, h.block⟩
theorem Tb.other2 {w : World} {base b o : Nat} {ty : TypeId} {cur : Array Value} {v : Value} {ms : List Mp} (T : Tb w base b o ty cur v ms) {p : Addr} (h1 : p.block ≠ b) (h2 : v.ownBlock ≠ some p.block) (u : Value) : Tb (w.setCell p u) base b o ty cur v ms :=
  ⟨(Below.heap_setCell w p u b (Ne.symm h1)).trans T.blk, T.at3, T.row.kept (fun g hg => Below.heap_setCell w p u g (fun e => h2 (by rw [hg, e]))), T.ne, by simpa [World.setCell] using T.bs⟩
theorem Chg.grow {w w1 w2 : World} {b : Nat} {g : Option Nat} (h : Chg w w1 b g) (B : Below w1.heap.size w1 w2) : Chg w w2 b g :=
  ⟨B.os.trans h.os, B.tape.trans h.tape, B.output.trans h.output, Nat.le_trans h.size B.size, fun k hk h1 h2 => (B.block k (Nat.lt_of_lt_of_le hk h.size)).trans (h.block k hk h1 h2)⟩
theorem Chg.new {w w1 : World} {b : Nat} {g : Option Nat} (h : Chg w w1 b g) {p : Addr} (hp : w.heap.size ≤ p.block) (u : Value) : Chg w (w1.setCell p u) b g :=
  ⟨h.os, h.tape, h.output, by simpa [World.setCell] using h.size, fun k hk h1 h2 => (Below.heap_setCell w1 p u k (by omega)).trans (h.block k hk h1 h2)⟩
theorem BL.new {w w1 : World} {base b : Nat} {c : Cf} {v v' : Value} {tk ti : Int} {ms' : List Mp} (h : BL w w1 base b c v v' tk ti ms') {p : Addr} (hp : w.heap.size ≤ p.block) (hb : b < w.heap.size) (ho : v'.ownBlock ≠ some p.block) (u : Value) : BL w (w1.setCell p u) base b c v v' tk ti ms' :=
  ⟨Tb.other2 h.bat (by omega) ho u, h.own, h.chg.new hp u⟩
theorem BL.grow {w w1 w2 : World} {base b : Nat} {c : Cf} {v v' : Value} {tk ti : Int} {ms' : List Mp} (h : BL w w1 base b c v v' tk ti ms') (B : Below w1.heap.size w1 w2) : BL w w2 base b c v v' tk ti ms' :=
  ⟨h.bat.below B, h.own, h.chg.grow B⟩
theorem BL.pre {w0 w w' : World} {base b : Nat} {c : Cf} {v v' : Value} {tk ti : Int} {ms' : List Mp} (hb : Below w0.heap.size w0 w) (h : BL w w' base b c v v' tk ti ms') : BL w0 w' base b c v v' tk ti ms' :=
  ⟨h.bat, fun k hk => by
      rcases h.own k hk with e | e
      · exact .inl e
      · exact .inr (Nat.le_trans hb.size e),
    ⟨h.chg.os.trans hb.os, h.chg.tape.trans hb.tape, h.chg.output.trans hb.output, Nat.le_trans hb.size h.chg.size, fun k hk h1 h2 => by rw [h.chg.block k (Nat.lt_of_lt_of_le hk hb.size) h1 h2, hb.block k hk]⟩⟩
theorem Left.bl {w w' : World} {base b : Nat} {c : Cf} {tk ti : Int} {v v' : Value} {ms' : List Mp} (h : Left w w' base b 12 81 (bxc c v tk ti) v v' ms') : BL w w' base b c v v' tk ti ms' := ⟨h.tb, fun k hk => by rcases h.own k hk with e | e; exact .inl e; exact .inr e, h.chg⟩
theorem Tb.bl {w w' : World} {base b : Nat} {c : Cf} {tk ti : Int} {v : Value} {ms : List Mp} (T : Bat w base b c tk ti v ms) (h : Below w.heap.size w w') : BL w w' base b c v v tk ti ms := ⟨T.below h, fun k hk => .inl hk.symm, Chg.of_below h⟩
/-- the blocks that the caller has made stay as they are -/
theorem BL.keeps {w wx w' : World} {base b : Nat} {c : Cf} {tk0 ti0 tk ti : Int} {v v' : Value} {ms ms' : List Mp} (T : Bat w base b c tk0 ti0 v ms) (h : BL wx w' base b c v v' tk ti ms') (k : Nat) (h1 : w.heap.size ≤ k) (h2 : k < wx.heap.size) : w'.heap[k]? = wx.heap[k]? :=
  h.chg.block k h2 (by have := T.lt; omega) (fun e => by have := T.own_lt k e.symm; omega)
theorem BL.own_ne {w wx w' : World} {base b r : Nat} {c : Cf} {tk0 ti0 tk ti : Int} {v v' : Value} {ms ms' : List Mp} (T : Bat w base b c tk0 ti0 v ms) (h : BL wx w' base b c v v' tk ti ms') (hr : w.heap.size ≤ r) (hr2 : r < wx.heap.size) : v'.ownBlock ≠ some r := by
  intro e
  rcases h.own r e with g | g
  · have := T.own_lt r g.symm; omega
  · omega
/-- the three cells of an answer, made ahead, behind a callee and more memory -/
theorem BL.three {w wx w1 w2 : World} {base b : Nat} {c : Cf} {tk0 ti0 tk ti : Int} {v v' : Value} {ms ms' : List Mp} (T : Bat w base b c tk0 ti0 v ms) (hy : Below w.heap.size w wx) (hlt : w.heap.size < wx.heap.size) (h : BL wx w1 base b c v v' tk ti ms') (h2 : Below w1.heap.size w1 w2) (u0 u1 u2 : Value) :
    BL w (((w2.setCell ⟨w.heap.size, 0, none⟩ u0).setCell ⟨w.heap.size, 1, none⟩ u1).setCell ⟨w.heap.size, 2, none⟩ u2) base b c v v' tk ti ms' := by
  have hne : v'.ownBlock ≠ some w.heap.size := h.own_ne T (Nat.le_refl _) hlt
  have L0 := (BL.pre hy h).grow h2
  exact ((L0.new (p := ⟨w.heap.size, 0, none⟩) (Nat.le_refl _) T.lt hne u0).new (p := ⟨w.heap.size, 1, none⟩) (Nat.le_refl _) T.lt hne u1).new (p := ⟨w.heap.size, 2, none⟩) (Nat.le_refl _) T.lt hne u2
end Go.Proofs.YthiljpbodmajaabGreat
namespace Go.Proofs.YthiljpbodmajaabGreat
open Go.RowKit Plain
set_option linter.unusedVariables false

theorem isForBox_core (b : Nat) (s : ByteArray) (da oa : Int) (w : World) (hb : b < w.heap.size) (h1 : w.cell? ⟨b, 1, none⟩ = some (.int .i64 oa)) (cD : Ret 88 #[.string s] (.int .i64 da)) :
    Calls Tryz.prog 51 #[.pointer (some ⟨b, 0, none⟩), .string s] w fun e w' => e = .returned (.bool (da == oa)) ∧ Below w.heap.size w w' := by
  go_enter Tryz.func51, Tryz.ntmps51
  go_wp2
  go_quiet (first | (go_at_call 88; refine Calls.quiet_of_same (cD.at _)))
  go_wp2
  go_ret
  exact ⟨rfl, below_drewN (Below.refl _ _) _⟩
theorem addresses_core (b : Nat) (s : ByteArray) (sa da ia oa d : Int) (w : World) (h0 : w.cell? ⟨b, 0, none⟩ = some (.int .i64 ia)) (h1 : w.cell? ⟨b, 1, none⟩ = some (.int .i64 oa)) (cS : Ret 111 #[.string s] (.int .i64 sa)) (cD : Ret 88 #[.string s] (.int .i64 da)) (r : Bool)
    (hr : r = (!(sa == ia || sa == oa || da == ia) && (d == 0 || da == oa))) :
    Calls Tryz.prog 75 #[.pointer (some ⟨b, 0, none⟩), .int .i64 d, .string s] w fun e w' => e = .returned (.bool r) ∧ w' = w := by
  have HR : Hid _ := hr
  clear hr
  cases e1 : (sa == ia)
  · cases e2 : (sa == oa)
    · cases e3 : (da == ia)
      · cases e4 : (d == 0)
        · go_enter Tryz.func75, Tryz.ntmps75
          go_wp2_with fail
          refine Calls.mono (cS.at _) ?_; rintro e w' ⟨rfl, rfl⟩
          go_wp2_with fail
          refine Calls.mono (cD.at _) ?_; rintro e w' ⟨rfl, rfl⟩
          go_wp2
          go_ret
          exact ⟨ret_bool (by rw [HR.out, e1, e2, e3, e4]; rfl), rfl⟩
        · go_enter Tryz.func75, Tryz.ntmps75
          go_wp2_with fail
          refine Calls.mono (cS.at _) ?_; rintro e w' ⟨rfl, rfl⟩
          go_wp2_with fail
          refine Calls.mono (cD.at _) ?_; rintro e w' ⟨rfl, rfl⟩
          go_wp2
          go_ret
          exact ⟨ret_bool (by rw [HR.out, e1, e2, e3, e4]; rfl), rfl⟩
      · go_enter Tryz.func75, Tryz.ntmps75
        go_wp2_with fail
        refine Calls.mono (cS.at _) ?_; rintro e w' ⟨rfl, rfl⟩
        go_wp2_with fail
        refine Calls.mono (cD.at _) ?_; rintro e w' ⟨rfl, rfl⟩
        go_wp2
        go_ret
        exact ⟨ret_bool (by rw [HR.out, e1, e2, e3]; rfl), rfl⟩
    · go_enter Tryz.func75, Tryz.ntmps75
      go_wp2_with fail
      refine Calls.mono (cS.at _) ?_; rintro e w' ⟨rfl, rfl⟩
      go_wp2_with fail
      refine Calls.mono (cD.at _) ?_; rintro e w' ⟨rfl, rfl⟩
      go_wp2
      go_ret
      exact ⟨ret_bool (by rw [HR.out, e1, e2]; rfl), rfl⟩
  · go_enter Tryz.func75, Tryz.ntmps75
    go_wp2_with fail
    refine Calls.mono (cS.at _) ?_; rintro e w' ⟨rfl, rfl⟩
    go_wp2_with fail
    refine Calls.mono (cD.at _) ?_; rintro e w' ⟨rfl, rfl⟩
    go_wp2
    go_ret
    exact ⟨ret_bool (by rw [HR.out, e1]; rfl), rfl⟩
theorem kind_core (b : Nat) (s : ByteArray) (d : Int) (rq rp fb : Bool) (w : World) (cQ : Ret 112 #[.string s] (.bool rq)) (cP : Ret 113 #[.string s] (.bool rp))
    (cF : Calls Tryz.prog 51 #[.pointer (some ⟨b, 0, none⟩), .string s] w fun e w' => e = .returned (.bool fb) ∧ Below w.heap.size w w') (r : Bool) (hr : r = if d = 1 then !rq else !rp && (!rq || !fb)) :
    Calls Tryz.prog 76 #[.pointer (some ⟨b, 0, none⟩), .int .i64 d, .string s] w fun e w' => e = .returned (.bool r) ∧ Below w.heap.size w w' := by
  have CF : Hid _ := cF
  clear cF
  by_cases h : d = 1
  · rw [if_pos h] at hr
    subst h hr
    go_enter Tryz.func76, Tryz.ntmps76
    go_wp2_with fail
    refine Calls.mono (cQ.at _) ?_; rintro e w' ⟨rfl, rfl⟩
    go_wp2
    go_ret
    exact ⟨rfl, Below.refl _ _⟩
  · have h' : (d == 1) = false := by simpa using h
    rw [if_neg h] at hr
    subst hr
    clear h
    cases rp
    · cases rq
      · go_enter Tryz.func76, Tryz.ntmps76
        go_wp2_with fail
        refine Calls.mono (cP.at _) ?_; rintro e w' ⟨rfl, rfl⟩
        go_wp2_with fail
        refine Calls.mono (cQ.at _) ?_; rintro e w' ⟨rfl, rfl⟩
        go_wp2
        go_ret
        exact ⟨rfl, Below.refl _ _⟩
      · go_enter Tryz.func76, Tryz.ntmps76
        go_wp2_with fail
        refine Calls.mono (cP.at _) ?_; rintro e w' ⟨rfl, rfl⟩
        go_wp2_with fail
        refine Calls.mono (cQ.at _) ?_; rintro e w' ⟨rfl, rfl⟩
        go_wp2_with fail
        refine Calls.mono CF.out ?_; rintro e w1 ⟨rfl, hb⟩
        go_wp2
        go_ret
        exact ⟨rfl, hb⟩
    · go_enter Tryz.func76, Tryz.ntmps76
      go_wp2_with fail
      refine Calls.mono (cP.at _) ?_; rintro e w' ⟨rfl, rfl⟩
      go_wp2
      go_ret
      exact ⟨rfl, Below.refl _ _⟩
theorem examine_core (b : Nat) (s : ByteArray) (d k : Int) (ab kb : Bool) (w : World) (cC : RetB 68 #[.string s] (.int .i64 k))
    (cA : ∀ wx, Below w.heap.size w wx → Calls Tryz.prog 75 #[.pointer (some ⟨b, 0, none⟩), .int .i64 d, .string s] wx fun e w' => e = .returned (.bool ab) ∧ w' = wx)
    (cK : ∀ wx, Below w.heap.size w wx → Calls Tryz.prog 76 #[.pointer (some ⟨b, 0, none⟩), .int .i64 d, .string s] wx fun e w' => e = .returned (.bool kb) ∧ Below wx.heap.size wx w') (r : Int)
    (hr : r = if ¬ d = 0 ∧ ¬ d = 1 then 2 else if ¬ k = 0 then k else if ab then (if kb then 0 else 7) else 6) :
    Calls Tryz.prog 47 #[.pointer (some ⟨b, 0, none⟩), .int .i64 d, .string s] w fun e w' => e = .returned (.int .i64 r) ∧ Below w.heap.size w w' := by
  have CA : Hid _ := cA
  have CK : Hid _ := cK
  clear cA cK
  by_cases h : ¬ d = 0 ∧ ¬ d = 1
  · rw [if_pos h] at hr
    subst hr
    have g0 : (d != 0) = true := by simpa using h.1
    have g1 : (d != 1) = true := by simpa using h.2
    clear h
    go_enter Tryz.func47, Tryz.ntmps47
    go_wp2
    go_ret
    exact ⟨rfl, Below.refl _ _⟩
  · rw [if_neg h] at hr
    have hd : d = 0 ∨ d = 1 := by omega
    clear h
    by_cases h : k = 0
    · rw [if_neg (by omega)] at hr
      subst h
      have HR : Hid _ := hr
      clear hr
      rcases hd with rfl | rfl
      all_goals
        cases ab
        · go_enter Tryz.func47, Tryz.ntmps47
          go_wp2_with fail
          refine Calls.mono (cC.at _) ?_; rintro e w1 ⟨rfl, hb1⟩
          go_wp2_with fail
          refine Calls.mono (CA.out _ hb1) ?_; rintro e w' ⟨rfl, rfl⟩
          go_wp2
          go_ret
          exact ⟨ret_int (by rw [HR.out]; rfl), hb1⟩
        · cases kb
          · go_enter Tryz.func47, Tryz.ntmps47
            go_wp2_with fail
            refine Calls.mono (cC.at _) ?_; rintro e w1 ⟨rfl, hb1⟩
            go_wp2_with fail
            refine Calls.mono (CA.out _ hb1) ?_; rintro e w' ⟨rfl, rfl⟩
            go_wp2_with fail
            refine Calls.mono (CK.out _ hb1) ?_; rintro e w2 ⟨rfl, hb2⟩
            go_wp2
            go_ret
            exact ⟨ret_int (by rw [HR.out]; rfl), hb1.trans (hb2.mono hb1.size)⟩
          · go_enter Tryz.func47, Tryz.ntmps47
            go_wp2_with fail
            refine Calls.mono (cC.at _) ?_; rintro e w1 ⟨rfl, hb1⟩
            go_wp2_with fail
            refine Calls.mono (CA.out _ hb1) ?_; rintro e w' ⟨rfl, rfl⟩
            go_wp2_with fail
            refine Calls.mono (CK.out _ hb1) ?_; rintro e w2 ⟨rfl, hb2⟩
            go_wp2
            go_ret
            exact ⟨ret_int (by rw [HR.out]; rfl), hb1.trans (hb2.mono hb1.size)⟩
    · rw [if_pos h] at hr
      subst hr
      have h' : (r != 0) = true := by simpa using h
      clear h
      rcases hd with rfl | rfl
      all_goals
        go_enter Tryz.func47, Tryz.ntmps47
        go_wp2_with fail
        refine Calls.mono (cC.at _) ?_; rintro e w1 ⟨rfl, hb1⟩
        go_wp2
        go_ret
        exact ⟨rfl, hb1⟩
theorem passes_core (s : ByteArray) (t n mtu : Int) (w : World) (cT : Ret 126 #[.string s] (.int .i64 t)) (cN : Ret 127 #[.string s] (.int .i64 n)) (r : Int) (hr : r = if t ≤ 1 then 9 else if mtu < n then 10 else 0) :
    Calls Tryz.prog 84 #[.string s, .int .i64 mtu] w fun e w' => e = .returned (.int .i64 r) ∧ w' = w := by
  by_cases h : t ≤ 1
  · rw [if_pos h] at hr
    subst hr
    go_enter Tryz.func84, Tryz.ntmps84
    go_wp2_with fail
    refine Calls.mono (cT.at _) ?_; rintro e w' ⟨rfl, rfl⟩
    go_wp2
    go_ret
    exact ⟨rfl, rfl⟩
  · rw [if_neg h] at hr
    by_cases h2 : mtu < n
    · rw [if_pos h2] at hr
      subst hr
      go_enter Tryz.func84, Tryz.ntmps84
      go_wp2_with fail
      refine Calls.mono (cT.at _) ?_; rintro e w' ⟨rfl, rfl⟩
      go_wp2_with fail
      refine Calls.mono (cN.at _) ?_; rintro e w' ⟨rfl, rfl⟩
      go_wp2
      go_ret
      exact ⟨rfl, rfl⟩
    · rw [if_neg h2] at hr
      subst hr
      go_enter Tryz.func84, Tryz.ntmps84
      go_wp2_with fail
      refine Calls.mono (cT.at _) ?_; rintro e w' ⟨rfl, rfl⟩
      go_wp2_with fail
      refine Calls.mono (cN.at _) ?_; rintro e w' ⟨rfl, rfl⟩
      go_wp2
      go_ret
      exact ⟨rfl, rfl⟩
theorem idle_core (b : Nat) (p u t q : Int) (w : World) (h7 : w.cell? ⟨b, 7, none⟩ = some (.int .i64 u)) (h8 : w.cell? ⟨b, 8, none⟩ = some (.int .i64 t)) (h9 : w.cell? ⟨b, 9, none⟩ = some (.int .i64 q)) (r : Int) (hr : r = if p = 17 then u else if p = 6 then t else q) :
    Calls Tryz.prog 138 #[.pointer (some ⟨b, 0, none⟩), .int .i64 p] w fun e w' => e = .returned (.int .i64 r) ∧ w' = w := by
  by_cases h : p = 17
  · rw [if_pos h] at hr
    subst h hr
    go_enter Tryz.func138, Tryz.ntmps138
    go_wp2
    go_ret
    exact ⟨rfl, rfl⟩
  · rw [if_neg h] at hr
    have h' : (p == 17) = false := by simpa using h
    by_cases h2 : p = 6
    · rw [if_pos h2] at hr
      subst h2 hr
      clear h
      go_enter Tryz.func138, Tryz.ntmps138
      go_wp2
      go_ret
      exact ⟨rfl, rfl⟩
    · rw [if_neg h2] at hr
      have h2' : (p == 6) = false := by simpa using h2
      subst hr
      clear h h2
      go_enter Tryz.func138, Tryz.ntmps138
      go_wp2
      go_ret
      exact ⟨rfl, rfl⟩
/-- examine, of a box -/
theorem examine_any {w : World} {base b : Nat} {c : Cf} {tk ti : Int} {v : Value} {ms : List Mp} (T : Bat w base b c tk ti v ms) (d : Int) (s : ByteArray) (hs : s.size ≤ maxLen) :
    Calls Tryz.prog 47 #[.pointer (some ⟨b, 0, none⟩), .int .i64 d, .string s] w fun e w' => e = .returned (.int .i64 (exam c d s)) ∧ Below w.heap.size w w' :=
  examine_core b s d (chk s) (addrB c d s) (kindB c d s) w (fun w => framesCheck_any s w hs)
    (fun wx hb => addresses_core b s (lg s 12) (lg s 16) c.ia c.oa d wx ((T.below hb).at 0 rfl) ((T.below hb).at 1 rfl) (fun w => source_any s w hs) (fun w => destination_any s w hs) _ rfl)
    (fun wx hb => kind_core b s d (isReq s) (isRep s) (lg s 16 == c.oa) wx (isReq_any s hs) (isRep_any s hs) (isForBox_core b s (lg s 16) c.oa wx (T.below hb).lt ((T.below hb).at 1 rfl) (fun w => destination_any s w hs)) _ rfl) _ rfl
end Go.Proofs.YthiljpbodmajaabGreat
