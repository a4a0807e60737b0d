/-
  THE BOX IN MEMORY, and what is left of a table behind more work.
-/
import Derived.Test.YtgpbajpeldjomaaGreatOpnt
namespace Go.Proofs.YtgpbajpeldjomaaGreat
open Go.RowKit Plain
set_option linter.unusedVariables false

theorem Left.after {w w1 w2 : World} {base b o : Nat} {ty : TypeId} {cur : Array Value} {v v' : Value} {ms' : List Mp} (h : Left w w1 base b o ty cur v v' ms') (hb : b < w.heap.size)
    (e1 : w2.os = w1.os) (e2 : w2.tape = w1.tape) (e3 : w2.output = w1.output) (e4 : w1.heap.size ≤ w2.heap.size) (e5 : ∀ k, k < w1.heap.size → k < w.heap.size ∨ v'.ownBlock = some k → w2.heap[k]? = w1.heap[k]?) : Left w w2 base b o ty cur v v' ms' :=
  ⟨⟨by rw [e5 b h.tb.lt (.inl hb)]; exact h.tb.blk, h.tb.at3, h.tb.row.kept (fun g hg => e5 g (h.tb.own_lt g hg) (.inr hg)), h.tb.ne, Nat.le_trans h.tb.bs e4⟩, h.own,
    ⟨e1.trans h.chg.os, e2.trans h.chg.tape, e3.trans h.chg.output, Nat.le_trans h.chg.size e4, fun k hk h1 h2 => by rw [e5 k (Nat.lt_of_lt_of_le hk h.chg.size) (.inl hk)]; exact h.chg.block k hk h1 h2⟩⟩
/-- new memory, and stores into new memory that the table does not own -/
theorem Left.grow {w w1 w2 : World} {base b o : Nat} {ty : TypeId} {cur : Array Value} {v v' : Value} {ms' : List Mp} (h : Left w w1 base b o ty cur v v' ms') (hb : b < w.heap.size) (hB : Below w1.heap.size w1 w2) : Left w w2 base b o ty cur v v' ms' :=
  h.after hb hB.os hB.tape hB.output hB.size (fun k hk _ => hB.block k hk)
theorem Left.store {w w1 : World} {base b o : Nat} {ty : TypeId} {cur : Array Value} {v v' : Value} {ms' : List Mp} (h : Left w w1 base b o ty cur v v' ms') (hb : b < w.heap.size) {p : Addr} (hp : w.heap.size ≤ p.block) (hn : v'.ownBlock ≠ some p.block) (u : Value) : Left w (w1.setCell p u) base b o ty cur v v' ms' :=
  h.after hb rfl rfl rfl (by simp [World.setCell]) (fun k hk ho => Below.heap_setCell w1 p u k (by
    intro e
    rcases ho with ho | ho
    · omega
    · exact hn (by rw [← e]; exact ho)))
/-- the box's own cells -/
def bxc (c : Cf) (v : Value) (tk ti : Int) : Array Value :=
  #[.int .i64 c.ia, .int .i64 c.oa, .int .i64 c.lo, .int .i64 c.hi, .int .i64 c.cp, .int .i64 c.im, .int .i64 c.om, .int .i64 c.iu, .int .i64 c.it, .int .i64 c.iq, .int .i64 c.bu, .int .i64 c.ra, .int .i64 c.lo, .int .i64 c.hi, .int .i64 c.cp, v, .int .i64 tk, .int .i64 ti]
theorem bxc_set (c : Cf) (v v' : Value) (tk ti : Int) : (bxc c v tk ti).setIfInBounds (12 + 3) v' = bxc c v' tk ti := rfl
theorem bxc_nums (c : Cf) (v : Value) (tk ti : Int) : Nums (bxc c v tk ti) 12 c := ⟨rfl, rfl, rfl⟩
/-- a box in memory -/
abbrev Bat (w : World) (base b : Nat) (c : Cf) (tk ti : Int) (v : Value) (ms : List Mp) : Prop := Tb w base b 12 90 (bxc c v tk ti) v ms
theorem Tb.at {w : World} {base b o : Nat} {ty : TypeId} {cur : Array Value} {v u : Value} {ms : List Mp} (T : Tb w base b o ty cur v ms) (i : Nat) (h : cur[i]? = some u) : w.cell? ⟨b, i, none⟩ = some u := by rw [cell_of_row w b i cur ty _ T.blk, h]
/-- what a call on a box leaves -/
theorem Left.bat {w w' : World} {base b : Nat} {c : Cf} {tk ti : Int} {v v' : Value} {ms' : List Mp} (h : Left w w' base b 12 90 (bxc c v tk ti) v v' ms') : Bat w' base b c tk ti v' ms' := h.tb
end Go.Proofs.YtgpbajpeldjomaaGreat
