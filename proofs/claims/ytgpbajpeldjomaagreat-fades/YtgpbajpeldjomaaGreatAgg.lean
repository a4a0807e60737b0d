/-
  A struct by value whose fields are all of type int, one cell each: opened.
-/
import Derived.ProofKit
import Derived.WalkKit
import Derived.OpenShut
namespace Go.Proofs.YtgpbajpeldjomaaGreat
open Go.ChangeShapes Go.WideShapes Go.RowKit

def allInts (fs : Array Field) (ti : TypeId) : Bool := fs.toList.zipIdx.all fun p => p.1.offset == p.2 && p.1.type == ti
theorem allInts_at {fs : Array Field} {ti : TypeId} (h : allInts fs ti = true) (i : Nat) (f : Field) (hf : fs[i]? = some f) : f.offset = i ∧ f.type = ti := by
  unfold allInts at h
  rw [List.all_eq_true] at h
  have hm : (f, i) ∈ fs.toList.zipIdx := by
    rw [List.mem_zipIdx_iff_getElem?]
    simpa using hf
  have := h _ hm
  simpa using this

theorem open_struct_ints {H : Type} {enc : TypeId × Value → H} {P : Program} {w : World} {base : Nat} {spare : Nat → Bool} {held : Bool} {r : Reach} {b0 : Nat} {t ti : TypeId} {fs : Array Field} {v : Value} {d : DataW H} {p : List MemPlace}
    (hs : P.underlying t = some (.struct fs)) (hi : P.underlying ti = some (.int .i64)) (hall : allInts fs ti = true) (hC : P.cellsOf t = fs.size) (hc : P.cellsOf ti = 1)
    (hv : Value.okWide P w r b0 t v) (h : DataW.Trod enc P w base spare held t v d p) :
    ∃ cs : Array Value, v = .agg cs ∧ cs.size = fs.size ∧ ∀ i, i < fs.size → ∃ z, cs[i]? = some (.int .i64 z) ∧ (Lit.int .i64 z).wf = true := by
  obtain ⟨cs, rfl, hsz⟩ := okWide_struct hs hv
  obtain ⟨fuel, hf⟩ := h
  obtain ⟨xs, n, rfl, hx, hl, hlen, hff⟩ := DataW.trod_struct hs hf
  refine ⟨cs, rfl, hsz.trans hC, fun i hlt => ?_⟩
  obtain ⟨ho, ht⟩ := allInts_at hall i fs[i] (by simp [hlt])
  have e := hff i fs[i] (by simp [hlt])
  rw [ho, ht, hc] at e
  have hxi : i < xs.length := by omega
  rw [List.getElem?_eq_getElem hxi] at e
  obtain ⟨z, hz, _, hwz⟩ := DataW.trod_int hi e
  refine ⟨z, ?_, hwz⟩
  have hd : (cs.toList.drop i).take 1 = [.int .i64 z] := by simpa [Value.cells] using hz
  have h0 : ((cs.toList.drop i).take 1)[0]? = some (.int .i64 z) := by rw [hd]; rfl
  simpa using h0

theorem array12 {α : Type} {a : Array α} (h : a.size = 12) : ∃ c0 c1 c2 c3 c4 c5 c6 c7 c8 c9 c10 c11, a = #[c0, c1, c2, c3, c4, c5, c6, c7, c8, c9, c10, c11] := by
  obtain ⟨l⟩ := a
  match l, h with
  | [c0, c1, c2, c3, c4, c5, c6, c7, c8, c9, c10, c11], _ => exact ⟨c0, c1, c2, c3, c4, c5, c6, c7, c8, c9, c10, c11, rfl⟩
end Go.Proofs.YtgpbajpeldjomaaGreat
namespace Go.Proofs.YtgpbajpeldjomaaGreat
open Go.ChangeShapes Go.WideShapes Go.RowKit

def allOff (fs : Array Field) : Bool := fs.toList.zipIdx.all fun p => p.1.offset == p.2
theorem allOff_at {fs : Array Field} (h : allOff fs = true) (i : Nat) (f : Field) (hf : fs[i]? = some f) : f.offset = i := by
  unfold allOff at h
  rw [List.all_eq_true] at h
  have hm : (f, i) ∈ fs.toList.zipIdx := by
    rw [List.mem_zipIdx_iff_getElem?]
    simpa using hf
  have := h _ hm
  simpa using this

theorem open_struct_mixed {H : Type} {enc : TypeId × Value → H} {P : Program} {w : World} {base : Nat} {spare : Nat → Bool} {held : Bool} {r : Reach} {b0 : Nat} {t : TypeId} {fs : Array Field} {v : Value} {d : DataW H} {p : List MemPlace}
    (hs : P.underlying t = some (.struct fs)) (hall : allOff fs = true) (hC : P.cellsOf t = fs.size)
    (hv : Value.okWide P w r b0 t v) (h : DataW.Trod enc P w base spare held t v d p) :
    ∃ cs : Array Value, v = .agg cs ∧ cs.size = fs.size ∧ ∀ (i : Nat) (ty : TypeId), (fs[i]?).map Field.type = some ty → P.cellsOf ty = 1 →
      (P.underlying ty = some (.int .i64) → ∃ z, cs[i]? = some (.int .i64 z) ∧ (Lit.int .i64 z).wf = true) ∧
      (P.underlying ty = some .string → ∃ s : ByteArray, cs[i]? = some (.string s) ∧ s.size ≤ maxLen) := by
  obtain ⟨cs, rfl, hsz⟩ := okWide_struct hs hv
  obtain ⟨fuel, hf⟩ := h
  obtain ⟨xs, n, rfl, hx, hl, hlen, hff⟩ := DataW.trod_struct hs hf
  refine ⟨cs, rfl, hsz.trans hC, fun i ty hty hc => ?_⟩
  obtain ⟨f, hfi, rfl⟩ := Option.map_eq_some_iff.1 hty
  have hlt : i < fs.size := (Array.getElem?_eq_some_iff.1 hfi).1
  have ho := allOff_at hall i f hfi
  have e := hff i f hfi
  rw [ho, hc] at e
  have hxi : i < xs.length := by omega
  rw [List.getElem?_eq_getElem hxi] at e
  refine ⟨fun hi => ?_, fun hi => ?_⟩
  · obtain ⟨z, hz, _, hwz⟩ := DataW.trod_int hi e
    refine ⟨z, ?_, hwz⟩
    have hd : (cs.toList.drop i).take 1 = [.int .i64 z] := by simpa [Value.cells] using hz
    have h0 : ((cs.toList.drop i).take 1)[0]? = some (.int .i64 z) := by rw [hd]; rfl
    simpa using h0
  · obtain ⟨z, hz, _, hwz⟩ := DataW.trod_string hi e
    refine ⟨z, ?_, hwz⟩
    have hd : (cs.toList.drop i).take 1 = [.string z] := by simpa [Value.cells] using hz
    have h0 : ((cs.toList.drop i).take 1)[0]? = some (.string z) := by rw [hd]; rfl
    simpa using h0
end Go.Proofs.YtgpbajpeldjomaaGreat
