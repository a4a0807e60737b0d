/-
  Regions that draw, taken by hand (as in Stal.lean; without natboxkeep).
-/
import Derived.Test.YthiljpbodmajaabGreatSumw
import Derived.Deep.RegionHeld
import Derived.Maps.RangeWalk
namespace Go.Proofs.YthiljpbodmajaabGreat
open Go.RowKit Plain
set_option linter.unusedVariables false
section
variable {P : Program} {Q : Exit → Act → World → Prop} {md : Region.Mode} {S : World → Prop} {ops : List Oper} {i : Nat} {o : Oper} {v : Value} {fuel : Nat} {listed : Array Bool} {a : Act} {w : World}
/-- take number i first; the operation is found in the LIST, so that it stands written out -/
theorem takeR (hi : ops[i]? = some o) (hs : Region.noSelect ops.toArray = true) (hf : Region.free md ops.toArray listed i = true) (hr : (Region.ready md ops.toArray listed).contains i = true)
    (hQ : ∀ c a w, Q (.panic c) (a.put o.dst v) w → Q (.panic c) a w) (hy : YieldsIf P ops.toArray S o v a) (hS : S w)
    (h : wpAnyH P md ops.toArray Q S fuel (listed.setIfInBounds i true) (a.put o.dst v) w) : wpAnyH P md ops.toArray Q S (fuel + 1) listed a w :=
  wpAnyH_take (by simpa using hi) hs hf hr hQ hy hS h
/-- a call alone may come up -/
theorem callR (hr : Region.ready md ops.toArray listed = [i]) (hi : ops[i]? = some o) (hw : Region.wanted o (yielded ops.toArray a.tmps) = true)
    (h : ∀ K' : Act → World → Prop, Shut (∀ a w, S w → (S w → wpAnyH P md ops.toArray Q S fuel (listed.setIfInBounds i true) a w) → K' a w) → Oper.wp P o a w K' Q) : wpAnyH P md ops.toArray Q S (fuel + 1) listed a w :=
  wpAnyH_ready hr (by simp) (AllReadyH.cons (by simpa using hi) (fun K' hK => by rw [if_pos hw]; exact h K' hK) AllReadyH.nil)
end
section
variable {ops : Array Oper} {S : World → Prop} {o : Oper} {a : Act} {x : Operand} {v : Value}
theorem yieldr_mv (hw : Region.wanted o (yielded ops a.tmps) = true) (ho : o.op = .move x ∨ o.op = .assign x) (hx : a.eval x = v) : YieldsIf Tryz.prog ops S o v a :=
  Or.inl ⟨hw, fun w _ => by rcases ho with e | e <;> (unfold execOp; rw [e]; simp only []; rw [hx]; rfl)⟩
theorem yieldr_in (hw : Region.wanted o (yielded ops a.tmps) = true) (ho : o.op = .load 3 x) {b i : Nat} {n : Int} (hx : a.eval x = .pointer (some ⟨b, i, none⟩)) (hS : ∀ w, S w → w.cell? ⟨b, i, none⟩ = some (.int .i64 n)) : YieldsIf Tryz.prog ops S o (.int .i64 n) a :=
  Or.inl ⟨hw, fun w h => by have hc := hS w h; unfold execOp; rw [ho]; simp only []; rw [hx]; go_simp⟩
end
theorem skipR {P : Program} {S : World → Prop} {ops : Array Oper} {o : Oper} {a : Act} (hw : Region.wanted o (yielded ops a.tmps) = false) : YieldsIf P ops S o undef a := Or.inr ⟨hw, rfl⟩
end Go.Proofs.YthiljpbodmajaabGreat
