/-
  The state of a walk: a store into a block in the midst of the list; loads of configurations.
-/
import Derived.Test.YthiljpbodmajaabGreatNotb
import Derived.Deep.RegionHeld
namespace Go.Proofs.YthiljpbodmajaabGreat
open Go.RowKit Plain
set_option linter.unusedVariables false
theorem St.setAt {L1 L2 : List (Nat × Array Value × TypeId)} {w w1 : World} {K : Nat} {cs : Array Value} {t : TypeId} (h : St (L1 ++ (K, cs, t) :: L2) w w1) (hw : w.heap.size ≤ K) (hd : ∀ x ∈ L1 ++ L2, x.1 ≠ K) (i : Nat) (u : Value) : St (L1 ++ (K, cs.setIfInBounds i u, t) :: L2) w (w1.setCell ⟨K, i, none⟩ u) := by
  refine ⟨h.1.setCell hw u, fun x hx => ?_⟩
  have other : x ∈ L1 ++ L2 → (w1.setCell ⟨K, i, none⟩ u).heap[x.1]? = some (.cells x.2.1 x.2.2 (0, 0)) := fun hm =>
    (Below.heap_setCell w1 _ _ _ (hd x hm)).trans (h.2 x (by
      rcases List.mem_append.1 hm with e | e
      · exact List.mem_append_left _ e
      · exact List.mem_append_right _ (List.mem_cons_of_mem _ e)))
  rcases List.mem_append.1 hx with e | e
  · exact other (List.mem_append_left _ e)
  · rcases List.mem_cons.1 e with e | e
    · subst e
      exact heap_setCell_same u (h.2 (K, cs, t) (by simp))
    · exact other (List.mem_append_right _ e)
theorem yields_cf {ops : Array Oper} {S : World → Prop} {op : Oper} {a : Act} (hw : Region.wanted op (yielded ops a.tmps) = true) {x : Operand} (ho : op.op = .load 23 x) (b : Nat) (hx : a.eval x = .pointer (some ⟨b, 0, none⟩)) (vs : List Value) (hl : vs.length = 12) (hS : ∀ w, S w → ∃ t, w.heap[b]? = some (.cells vs.toArray t (0, 0))) : YieldsIf Tryz.prog ops S op (.agg vs.toArray) a := by
  obtain ⟨i, hi, hz, hs⟩ := info_two info_cf
  exact yieldsIf_load_mid hw _ x ho b 0 hx vs _ (fun w h => by obtain ⟨t, hB⟩ := hS w h; exact fun j v hv => by rw [Nat.zero_add, cell_of_row w b j _ _ _ hB]; simpa using hv) Tryz.underlying23 rfl (by simp [hi, hs, hl])
section
variable {P : Program} {Q : Exit → Act → World → Prop} {md : Region.Mode} {S : World → Prop} {ops : List Oper} {i : Nat} {o : Oper} {v : Value} {fuel : Nat} {listed : Array Bool} {a : Act} {w : World}
/-- take number i first; the operation is found in the LIST, so that it stands written out -/
theorem takeL (hi : ops[i]? = some o) (hs : Region.noSelect ops.toArray = true) (hf : Region.free md ops.toArray listed i = true) (hr : (Region.ready md ops.toArray listed).contains i = true)
    (hQ : ∀ c a w, Q (.panic c) (a.put o.dst v) w → Q (.panic c) a w) (hy : YieldsIf P ops.toArray S o v a) (hS : S w)
    (h : wpAnyH P md ops.toArray Q S fuel (listed.setIfInBounds i true) (a.put o.dst v) w) : wpAnyH P md ops.toArray Q S (fuel + 1) listed a w :=
  wpAnyH_take (by simpa using hi) hs hf hr hQ hy hS h
/-- a call alone may come up -/
theorem callL (hr : Region.ready md ops.toArray listed = [i]) (hi : ops[i]? = some o) (hw : Region.wanted o (yielded ops.toArray a.tmps) = true)
    (h : ∀ K' : Act → World → Prop, Shut (∀ a w, S w → (S w → wpAnyH P md ops.toArray Q S fuel (listed.setIfInBounds i true) a w) → K' a w) → Oper.wp P o a w K' Q) : wpAnyH P md ops.toArray Q S (fuel + 1) listed a w :=
  wpAnyH_ready hr (by simp) (AllReadyH.cons (by simpa using hi) (fun K' hK => by rw [if_pos hw]; exact h K' hK) AllReadyH.nil)
end
section
variable {ops : Array Oper} {S : World → Prop} {o : Oper} {a : Act} {x : Operand} {v : Value}
theorem yields_mv (hw : Region.wanted o (yielded ops a.tmps) = true) (ho : o.op = .move x ∨ o.op = .assign x) (hx : a.eval x = v) : YieldsIf Tryz.prog ops S o v a :=
  Or.inl ⟨hw, fun w _ => by rcases ho with e | e <;> (unfold execOp; rw [e]; simp only []; rw [hx]; rfl)⟩
theorem yields_in (hw : Region.wanted o (yielded ops a.tmps) = true) (ho : o.op = .load 3 x) {b i : Nat} {n : Int} (hx : a.eval x = .pointer (some ⟨b, i, none⟩)) (hS : ∀ w, S w → w.cell? ⟨b, i, none⟩ = some (.int .i64 n)) : YieldsIf Tryz.prog ops S o (.int .i64 n) a :=
  Or.inl ⟨hw, fun w h => by have hc := hS w h; unfold execOp; rw [ho]; simp only []; rw [hx]; go_simp⟩
end
end Go.Proofs.YthiljpbodmajaabGreat
