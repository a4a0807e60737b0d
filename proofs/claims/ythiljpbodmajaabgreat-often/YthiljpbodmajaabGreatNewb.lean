/-
  New of a box that may be; texts that are not empty.
-/
import Derived.Test.YthiljpbodmajaabGreatAgnp
import Derived.Test.YthiljpbodmajaabGreatCfgn
import Derived.ProofKit
import Derived.Deep.Slices
namespace Go.Proofs.YthiljpbodmajaabGreat
open Go.RowKit Plain
set_option linter.unusedVariables false
theorem new_bat (g : Cf) (G : g.ok = true) (wx : World) : Calls Tryz.prog 11 #[.agg (cfl g)] wx fun e w' => ∃ b, e = .returned (.tuple #[.pointer (some ⟨b, 0, none⟩), .int .i64 0]) ∧ Bat w' wx.heap.size b g g.bu 0 (.slice none 0 0) [] ∧ Below wx.heap.size wx w' ∧ wx.heap.size ≤ b := by
  have hconf : confB g.ia g.oa g.lo g.hi g.cp g.im g.om g.iu g.it g.iq g.bu g.ra = true := by rw [confB_valid]; exact G
  refine (new_yes g.ia g.oa g.lo g.hi g.cp g.im g.om g.iu g.it g.iq g.bu g.ra wx hconf).mono ?_
  rintro e w1 ⟨b, rfl, hb1, hbl, hbb⟩
  exact ⟨b, rfl, ⟨hbb, rfl, Row.nil _ _, by simp [Value.ownBlock], hb1.size⟩, hb1, hbl⟩
theorem ne_empty {s : ByteArray} (h : ¬ s.size = 0) : s.toList.isEmpty = false := by
  rw [ByteArray.toList_eq]
  cases e : s.data.toList with
  | nil =>
    have : s.data.toList.length = s.size := by simp
    rw [e] at this
    simp at this
    omega
  | cons x xs => rfl
theorem size_ne {s : ByteArray} (h : s.toList.isEmpty = false) : ¬ s.size = 0 := by
  intro h0
  rw [ByteArray.toList_eq] at h
  have : s.data.toList.length = s.size := by simp
  rw [h0] at this
  rw [List.eq_nil_of_length_eq_zero this] at h
  cases h
end Go.Proofs.YthiljpbodmajaabGreat
namespace Go.Proofs.YthiljpbodmajaabGreat
open Go.ChangeShapes Go.WideShapes Go.RowKit Go.Deep
set_option linter.unusedVariables false
section
variable {H : Type} {enc : TypeId × Value → H} {P : Program} {w : World} {base : Nat} {spare : Nat → Bool} {held : Bool} {r : Reach} {b0 : Nat}
/-- a slice of ints -/
theorem open_slice_ints {t e : TypeId} {v : Value} {d : DataW H} {p : List MemPlace} (ht : P.underlying t = some (.slice e)) (he : P.underlying e = some (.int .i64)) (hc : P.cellsOf e = 1)
    (hv : Value.okWide P w r b0 t v) (h : DataW.Trod enc P w base (fun _ => true) held t v d p) (hlt : ∀ x ∈ p, x.block < w.heap.size) :
    ∃ (A off len cap : Nat) (ao : Option Addr) (zs : List Int), v = .slice ao len cap ∧ (0 < len → ao = some ⟨A, off, none⟩) ∧ (0 < len → A < w.heap.size) ∧ zs.length = len ∧ (∀ (j : Nat) z, zs[j]? = some z → w.cell? ⟨A, off + j, none⟩ = some (.int .i64 z)) ∧ (∀ z ∈ zs, (Lit.int .i64 z).wf = true) ∧
      ((d = .nil ∧ len = 0) ∨ ∃ el sp, d = .slice el sp ∧ el.length = len) := by
  obtain ⟨ao, len, cap, rfl⟩ := okWide_slice ht hv
  obtain ⟨fuel, hf⟩ := h
  rcases open_ints ht he hc hf with ⟨hcs, hx⟩ | ⟨a, len', cap', zs, hcs, _, hl, _, hz, hx, hcell, hwz⟩
  · simp [Value.cells] at hcs
    obtain ⟨rfl, rfl, rfl⟩ := hcs
    simp only [Prod.mk.injEq] at hx
    exact ⟨0, 0, 0, 0, none, [], rfl, by simp, by simp, rfl, by simp, by simp, .inl ⟨hx.1, rfl⟩⟩
  · simp [Value.cells] at hcs
    obtain ⟨rfl, rfl, rfl⟩ := hcs
    simp only [Prod.mk.injEq] at hx
    obtain ⟨rfl, rfl⟩ := hx
    simp only [if_true] at hz
    have hd : (lits (H := H) .i64 (zs.take len)).length = len := by simp [lits]; omega
    rcases Nat.eq_zero_or_pos len with h0 | hp
    · subst h0
      exact ⟨0, 0, 0, cap, some a, [], rfl, by simp, by simp, rfl, by simp, by simp, .inr ⟨_, _, rfl, hd⟩⟩
    · obtain ⟨A, off, spot⟩ := a
      have hspot : spot = none := by simpa [Addr.add] using World.cell?_spot (hcell 0 (by omega))
      subst hspot
      refine ⟨A, off, len, cap, _, zs.take len, rfl, fun _ => rfl, fun _ => ?_, by simp; omega, fun j z hj => ?_, fun z hz => hwz z (List.mem_of_mem_take hz), .inr ⟨_, _, rfl, hd⟩⟩
      · exact hlt (.cell A (off + 0)) (MemPlace.mem_row.2 ⟨0, by omega, rfl⟩)
      · have hj' := (List.getElem?_eq_some_iff.1 hj).1
        simp at hj'
        rw [← add_plain, hcell j (by omega)]
        rw [List.getElem?_take] at hj
        rw [if_pos (by omega)] at hj
        simp [List.getD, hj]
/-- a slice of structs: 'Q' is what is said of an element's cells -/
theorem open_slice_of {t e : TypeId} {v : Value} {d : DataW H} {p : List MemPlace} {α : Type} [Inhabited α] (k : Nat) (Q : List Value → α → Prop) (ht : P.underlying t = some (.slice e)) (hc : P.cellsOf e = k) (hk : 0 < k)
    (hQ : ∀ n cs x, DataW.trod enc P w base (fun _ => true) held n e cs = some x → ∃ z, Q cs z)
    (hv : Value.okWide P w r b0 t v) (h : DataW.Trod enc P w base (fun _ => true) held t v d p) (hlt : ∀ x ∈ p, x.block < w.heap.size) :
    ∃ (A off len cap : Nat) (ao : Option Addr) (zs : List α), v = .slice ao len cap ∧ (0 < len → ao = some ⟨A, off, none⟩) ∧ (0 < len → A < w.heap.size) ∧ zs.length = len ∧ (∀ (j : Nat) z, zs[j]? = some z → ∃ cs, cs.length = k ∧ Q cs z ∧ ∀ i, i < k → w.cell? ⟨A, off + j * k + i, none⟩ = cs[i]?) ∧ len ≤ maxLen ∧
      ((d = .nil ∧ len = 0) ∨ ∃ el sp, d = .slice el sp ∧ el.length = len) := by
  obtain ⟨ao, len, cap, rfl⟩ := okWide_slice ht hv
  obtain ⟨fuel, hf⟩ := h
  rcases open_slice ht hf with ⟨hcs, hx⟩ | ⟨a, len', cap', m, n, D, Pl, hcs, _, hl, hm, hmm, hx, hel⟩
  · simp [Value.cells] at hcs
    obtain ⟨rfl, rfl, rfl⟩ := hcs
    simp only [Prod.mk.injEq] at hx
    exact ⟨0, 0, 0, 0, none, [], rfl, by simp, by simp, rfl, by simp, by simp, .inl ⟨hx.1, rfl⟩⟩
  · simp [Value.cells] at hcs
    obtain ⟨rfl, rfl, rfl⟩ := hcs
    simp only [Prod.mk.injEq] at hx
    obtain ⟨rfl, rfl⟩ := hx
    simp only [if_true] at hmm
    have hml : len ≤ maxLen := Nat.le_trans hl hm
    rcases Nat.eq_zero_or_pos len with h0 | hp
    · subst h0
      exact ⟨0, 0, 0, cap, some a, [], rfl, by simp, by simp, rfl, by simp, hml, .inr ⟨_, _, rfl, by simp⟩⟩
    · rw [hc] at hel hlt
      obtain ⟨A, off, spot⟩ := a
      have hspot : spot = none := by
        obtain ⟨cs', h1, _⟩ := hel 0 (by omega)
        obtain ⟨_, hlen, h2⟩ := World.cells?_some h1
        have h3 := h2 0 hk
        rw [List.getElem?_eq_getElem (by omega)] at h3
        simpa [Addr.add] using World.cell?_spot h3
      subst hspot
      obtain ⟨Z, hZ⟩ := choose_lt (α := α) (p := fun j z => ∃ cs, cs.length = k ∧ Q cs z ∧ ∀ i, i < k → w.cell? ⟨A, off + j * k + i, none⟩ = cs[i]?) (n := len) (fun j hj => by
        obtain ⟨cs', h1, h2⟩ := hel j (by omega)
        obtain ⟨_, hlen, h3⟩ := World.cells?_some h1
        obtain ⟨z, hz⟩ := hQ _ _ _ h2
        refine ⟨z, cs', hlen, hz, fun i hi => ?_⟩
        rw [← h3 i hi, add_plain, add_plain])
      refine ⟨A, off, len, cap, _, (List.range len).map Z, rfl, fun _ => rfl, fun _ => ?_, by simp, fun j z hj => ?_, hml, .inr ⟨_, _, rfl, by simp⟩⟩
      · refine hlt (.cell A (off + 0)) (List.mem_append_left _ (MemPlace.mem_row.2 ⟨0, ?_, rfl⟩))
        have : 1 * 1 ≤ m * k := Nat.mul_le_mul (by omega) hk
        omega
      · have hj' := (List.getElem?_eq_some_iff.1 hj).1
        simp at hj'
        rw [List.getElem?_map, List.getElem?_range (by omega)] at hj
        simp at hj
        subst hj
        exact hZ j hj'
/-- a struct's field of one cell -/
theorem field1 {t : TypeId} {fs : Array Field} {cs : List Value} {x : DataW H × List MemPlace} {fuel : Nat} (hs : P.underlying t = some (.struct fs)) (h : DataW.trod enc P w base spare held fuel t cs = some x) (i o : Nat) (ty : TypeId) (hf : (fs[i]?).map (fun f => (f.type, f.offset)) = some (ty, o)) (hc : P.cellsOf ty = 1) :
    (P.underlying ty = some (.int .i64) → ∃ z, cs[o]? = some (.int .i64 z) ∧ (Lit.int .i64 z).wf = true) ∧ (P.underlying ty = some .string → ∃ s : ByteArray, cs[o]? = some (.string s) ∧ s.size ≤ maxLen) ∧ (P.underlying ty = some .bool → ∃ b, cs[o]? = some (.bool b)) := by
  obtain ⟨xs, n, rfl, hx, hl, hlen, hff⟩ := DataW.trod_struct hs h
  obtain ⟨f, hfi, hfe⟩ := Option.map_eq_some_iff.1 hf
  simp only [Prod.mk.injEq] at hfe
  obtain ⟨rfl, rfl⟩ := hfe
  have hlt : i < fs.size := (Array.getElem?_eq_some_iff.1 hfi).1
  have e := hff i f hfi
  rw [hc] at e
  have hxi : i < xs.length := by omega
  rw [List.getElem?_eq_getElem hxi] at e
  have key : ∀ u, (cs.drop f.offset).take 1 = [u] → cs[f.offset]? = some u := fun u hd => by
    have h0 : ((cs.drop f.offset).take 1)[0]? = some u := by rw [hd]; rfl
    simpa using h0
  refine ⟨fun hi => ?_, fun hi => ?_, fun hi => ?_⟩
  · obtain ⟨z, hz, _, hwz⟩ := DataW.trod_int hi e
    exact ⟨z, key _ hz, hwz⟩
  · obtain ⟨z, hz, _, hwz⟩ := DataW.trod_string hi e
    exact ⟨z, key _ hz, hwz⟩
  · obtain ⟨z, hz, _⟩ := DataW.trod_bool hi e
    exact ⟨z, key _ hz⟩
end
end Go.Proofs.YthiljpbodmajaabGreat
