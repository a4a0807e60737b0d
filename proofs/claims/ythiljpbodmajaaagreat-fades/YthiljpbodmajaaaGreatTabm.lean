/-
  THE TABLE IN MEMORY: a slice of mappings, fourteen cells each.
-/
import Derived.Test.YthiljpbodmajaaaGreatSumw
import Derived.Test.YthiljpbodmajaaaGreatPlain
import Derived.Deep.MidRow
import Derived.Deep.Draws
import Derived.Laws.OwnMore
import Derived.Laws.StructEq
namespace Go.Proofs.YthiljpbodmajaaaGreat
open Go.RowKit Plain
set_option linter.unusedVariables false

theorem below_drewN {B : Nat} {a w : World} (h : Below B a w) (n : Nat) : Below B a (w.drewN n) := ⟨h.os, h.tape, h.output, h.size, h.block⟩
theorem cell14 {w : World} {g : Nat} {t : TypeId} {fr : Nat × Nat} {v0 v1 v2 v3 v4 v5 v6 v7 v8 v9 v10 v11 v12 v13 : Value} (h : w.heap[g]? = some (.cells #[v0, v1, v2, v3, v4, v5, v6, v7, v8, v9, v10, v11, v12, v13] t fr)) : w.cell? ⟨g, 0, none⟩ = some v0 ∧ w.cell? ⟨g, 1, none⟩ = some v1 ∧ w.cell? ⟨g, 2, none⟩ = some v2 ∧ w.cell? ⟨g, 3, none⟩ = some v3 ∧ w.cell? ⟨g, 4, none⟩ = some v4 ∧ w.cell? ⟨g, 5, none⟩ = some v5 ∧ w.cell? ⟨g, 6, none⟩ = some v6 ∧ w.cell? ⟨g, 7, none⟩ = some v7 ∧ w.cell? ⟨g, 8, none⟩ = some v8 ∧ w.cell? ⟨g, 9, none⟩ = some v9 ∧ w.cell? ⟨g, 10, none⟩ = some v10 ∧ w.cell? ⟨g, 11, none⟩ = some v11 ∧ w.cell? ⟨g, 12, none⟩ = some v12 ∧ w.cell? ⟨g, 13, none⟩ = some v13 :=
  ⟨cell_of_row w g 0 _ t fr h, cell_of_row w g 1 _ t fr h, cell_of_row w g 2 _ t fr h, cell_of_row w g 3 _ t fr h, cell_of_row w g 4 _ t fr h, cell_of_row w g 5 _ t fr h, cell_of_row w g 6 _ t fr h, cell_of_row w g 7 _ t fr h, cell_of_row w g 8 _ t fr h, cell_of_row w g 9 _ t fr h, cell_of_row w g 10 _ t fr h, cell_of_row w g 11 _ t fr h, cell_of_row w g 12 _ t fr h, cell_of_row w g 13 _ t fr h⟩
theorem push_at (a : Array Obj) (x : Obj) (k : Nat) (h : k = a.size) : (a.push x)[k]? = some x := by subst h; simp
theorem push_lt (a : Array Obj) (x : Obj) (k : Nat) (h : k < a.size) : (a.push x)[k]? = a[k]? := by rw [Array.getElem?_push, if_neg (by omega)]
theorem alloc1 (w : World) (A : Obj) : (w.alloc A).heap[w.heap.size]? = some A := push_at _ _ _ rfl
theorem alloc2 (w : World) (A B : Obj) : ((w.alloc A).alloc B).heap[w.heap.size]? = some A ∧ ((w.alloc A).alloc B).heap[w.heap.size + 1]? = some B :=
  ⟨(push_lt (w.heap.push A) B _ (by simp)).trans (push_at _ _ _ rfl), push_at (w.heap.push A) B _ (by simp)⟩
theorem alloc3 (w : World) (A B C : Obj) : (((w.alloc A).alloc B).alloc C).heap[w.heap.size]? = some A ∧ (((w.alloc A).alloc B).alloc C).heap[w.heap.size + 1]? = some B ∧ (((w.alloc A).alloc B).alloc C).heap[w.heap.size + 1 + 1]? = some C :=
  ⟨(push_lt ((w.heap.push A).push B) C _ (by simp; omega)).trans (alloc2 w A B).1, (push_lt ((w.heap.push A).push B) C _ (by simp)).trans (alloc2 w A B).2, push_at ((w.heap.push A).push B) C _ (by simp)⟩
theorem cell2 {w : World} {g : Nat} {t : TypeId} {fr : Nat × Nat} {v0 v1 : Value} (h : w.heap[g]? = some (.cells #[v0, v1] t fr)) : w.cell? ⟨g, 0, none⟩ = some v0 ∧ w.cell? ⟨g, 1, none⟩ = some v1 :=
  ⟨cell_of_row w g 0 _ t fr h, cell_of_row w g 1 _ t fr h⟩
theorem nofrz {w : World} {g : Nat} {t : TypeId} {cur : Array Value} (h : w.heap[g]? = some (.cells cur t (0, 0))) (o : Nat) : w.frozen? ⟨g, o, none⟩ = false := by simp [World.frozen?, h]
def mpl (m : Mp) : List Value := [.int .i64 m.pr, .int .i64 m.ea, .int .i64 m.ep, .int .i64 m.ex, .int .i64 m.le, .int .i64 m.q0, .int .i64 m.r0, .int .i64 m.q1, .int .i64 m.r1, .int .i64 m.q2, .int .i64 m.r2, .int .i64 m.q3, .int .i64 m.r3, .int .i64 m.kn]
theorem mpl_len (m : Mp) : (mpl m).length = 14 := rfl
theorem mpl_one (m : Mp) : ∀ v ∈ mpl m, v.oneCell' = true := by intro v hv; simp [mpl] at hv; rcases hv with rfl | rfl | rfl | rfl | rfl | rfl | rfl | rfl | rfl | rfl | rfl | rfl | rfl | rfl <;> rfl
def rowOf (ms : List Mp) : List Value := ms.flatMap mpl
theorem rowOf_len (ms : List Mp) : (rowOf ms).length = ms.length * 14 := by
  induction ms with
  | nil => rfl
  | cons m ms ih => simp only [rowOf, List.flatMap_cons, List.length_append, mpl_len, List.length_cons] at *; omega
theorem rowOf_at (ms : List Mp) (i j : Nat) (hj : j < 14) : (rowOf ms)[i * 14 + j]? = (ms[i]?).bind fun m => (mpl m)[j]? := by
  induction ms generalizing i with
  | nil => simp [rowOf]
  | cons m ms ih =>
    simp only [rowOf, List.flatMap_cons] at *
    cases i with
    | zero => rw [List.getElem?_append_left (by rw [mpl_len]; omega)]; simp
    | succ i =>
      rw [List.getElem?_append_right (by rw [mpl_len]; omega), mpl_len, show (i + 1) * 14 + j - 14 = i * 14 + j by omega, ih]
      simp

/-- the value v is a slice of the call's own that holds the mappings ms -/
def Row (w : World) (base : Nat) (v : Value) (ms : List Mp) : Prop := w.ownsRow base 127 14 v ms.length (rowOf ms)

theorem row_cur {cur : Array Value} {ms : List Mp} (hs : ms.length * 14 ≤ cur.size) (h : cur.toList.take (ms.length * 14) = rowOf ms) (i j : Nat) (m : Mp) (hm : ms[i]? = some m) (hj : j < 14) : cur[i * 14 + j]? = (mpl m)[j]? := by
  have hi : i < ms.length := (List.getElem?_eq_some_iff.1 hm).1
  have e := rowOf_at ms i j hj
  rw [← h, List.getElem?_take, if_pos (by omega), hm] at e
  simpa using e
theorem row_of {cur : Array Value} {ms : List Mp} (hs : ms.length * 14 ≤ cur.size) (h : ∀ i j m, ms[i]? = some m → j < 14 → cur[i * 14 + j]? = (mpl m)[j]?) : cur.toList.take (ms.length * 14) = rowOf ms := by
  apply List.ext_getElem?
  intro k
  rw [List.getElem?_take]
  split
  · rename_i hk
    have hi : k / 14 < ms.length := by omega
    have e := h (k / 14) (k % 14) ms[k / 14] (by simp [hi]) (by omega)
    have e2 := rowOf_at ms (k / 14) (k % 14) (by omega)
    rw [show k / 14 * 14 + k % 14 = k by omega] at e e2
    rw [e2]
    simp [e, hi]
  · rw [List.getElem?_eq_none (by rw [rowOf_len]; omega)]

/-- what lies in memory, element by element -/
structure RowIn (w : World) (base g n cap : Nat) (ms : List Mp) : Prop where
  len : ms.length = n
  low : base ≤ g
  le : n ≤ cap
  cm : cap ≤ maxLen
  blk : ∃ cur : Array Value, w.heap[g]? = some (.cells cur 127 (0, 0)) ∧ cur.size = cap * 14 ∧ ∀ i j m, ms[i]? = some m → j < 14 → cur[i * 14 + j]? = (mpl m)[j]?
theorem RowIn.row {w : World} {base g n cap : Nat} {ms : List Mp} (h : RowIn w base g n cap ms) : Row w base (.slice (some ⟨g, 0, none⟩) n cap) ms := by
  obtain ⟨cur, h1, h2, h3⟩ := h.blk
  refine ⟨rowOf_len ms, .inr ⟨g, cap, cur, by rw [h.len], h.low, h1, by rw [h.len]; exact h.le, h.cm, h2, ?_⟩⟩
  have := h.le; have := h.len
  exact row_of (by omega) h3
theorem Row.cases {w : World} {base : Nat} {v : Value} {ms : List Mp} (h : Row w base v ms) : (v = .slice none 0 0 ∧ ms = []) ∨ ∃ g n cap, v = .slice (some ⟨g, 0, none⟩) n cap ∧ RowIn w base g n cap ms := by
  rcases h.2 with ⟨h1, h2⟩ | ⟨g, cap, cur, rfl, h2, h3, h4, h5, h6, h7⟩
  · exact .inl ⟨h1, List.length_eq_zero_iff.1 h2⟩
  · exact .inr ⟨g, _, cap, rfl, rfl, h2, h4, h5, cur, h3, h6, fun i j m hm hj => row_cur (by omega) h7 i j m hm hj⟩
theorem Row.nil (w : World) (base : Nat) : Row w base (.slice none 0 0) [] := World.ownsRow_nil w base _ _
theorem RowIn.range {w : World} {base g n cap : Nat} {ms : List Mp} (h : RowIn w base g n cap ms) (i : Nat) (m : Mp) (hm : ms[i]? = some m) : w.rangeAt g (i * 14) (mpl m) := by
  obtain ⟨cur, h1, h2, h3⟩ := h.blk
  intro j v hv
  have hj : j < 14 := by have := (List.getElem?_eq_some_iff.1 hv).1; rw [mpl_len] at this; exact this
  rw [cell_of_row w g (i * 14 + j) cur _ _ h1, h3 i j m hm hj, hv]
theorem RowIn.cells {w : World} {base g n cap : Nat} {ms : List Mp} (h : RowIn w base g n cap ms) (k : Nat) (m : Mp) (hm : ms[k]? = some m) : w.cell? ⟨g, k * 14, none⟩ = some (.int .i64 m.pr) ∧ w.cell? ⟨g, k * 14 + 1, none⟩ = some (.int .i64 m.ea) ∧ w.cell? ⟨g, k * 14 + 2, none⟩ = some (.int .i64 m.ep) ∧ w.cell? ⟨g, k * 14 + 3, none⟩ = some (.int .i64 m.ex) ∧ w.cell? ⟨g, k * 14 + 4, none⟩ = some (.int .i64 m.le) ∧ w.cell? ⟨g, k * 14 + 5, none⟩ = some (.int .i64 m.q0) ∧ w.cell? ⟨g, k * 14 + 6, none⟩ = some (.int .i64 m.r0) ∧ w.cell? ⟨g, k * 14 + 7, none⟩ = some (.int .i64 m.q1) ∧ w.cell? ⟨g, k * 14 + 8, none⟩ = some (.int .i64 m.r1) ∧ w.cell? ⟨g, k * 14 + 9, none⟩ = some (.int .i64 m.q2) ∧ w.cell? ⟨g, k * 14 + 10, none⟩ = some (.int .i64 m.r2) ∧ w.cell? ⟨g, k * 14 + 11, none⟩ = some (.int .i64 m.q3) ∧ w.cell? ⟨g, k * 14 + 12, none⟩ = some (.int .i64 m.r3) ∧ w.cell? ⟨g, k * 14 + 13, none⟩ = some (.int .i64 m.kn) :=
  ⟨h.range k m hm 0 _ rfl, h.range k m hm 1 _ rfl, h.range k m hm 2 _ rfl, h.range k m hm 3 _ rfl, h.range k m hm 4 _ rfl, h.range k m hm 5 _ rfl, h.range k m hm 6 _ rfl, h.range k m hm 7 _ rfl, h.range k m hm 8 _ rfl, h.range k m hm 9 _ rfl, h.range k m hm 10 _ rfl, h.range k m hm 11 _ rfl, h.range k m hm 12 _ rfl, h.range k m hm 13 _ rfl⟩
theorem RowIn.there {w : World} {base g n cap : Nat} {ms : List Mp} (h : RowIn w base g n cap ms) (i : Nat) (hi : i < cap) : w.there g (i * 14) 14 := by
  obtain ⟨cur, h1, h2, h3⟩ := h.blk
  intro j hj
  constructor
  · rw [cell_of_row w g (i * 14 + j) cur _ _ h1]
    rw [Array.getElem?_eq_getElem (by omega)]; rfl
  · simp [World.frozen?, h1]
theorem RowIn.lt {w : World} {base g n cap : Nat} {ms : List Mp} (h : RowIn w base g n cap ms) : g < w.heap.size := by
  obtain ⟨cur, h1, _⟩ := h.blk
  exact (Array.getElem?_eq_some_iff.1 h1).1
theorem RowIn.kept {w w' : World} {base g n cap : Nat} {ms : List Mp} (h : RowIn w base g n cap ms) (e : w'.heap[g]? = w.heap[g]?) : RowIn w' base g n cap ms := by
  obtain ⟨cur, h1, h2⟩ := h.blk
  exact ⟨h.len, h.low, h.le, h.cm, cur, by rw [e]; exact h1, h2⟩
theorem Row.kept {w w' : World} {base : Nat} {v : Value} {ms : List Mp} (h : Row w base v ms) (e : ∀ g, v.ownBlock = some g → w'.heap[g]? = w.heap[g]?) : Row w' base v ms := by
  rcases h.cases with ⟨rfl, rfl⟩ | ⟨g, n, cap, rfl, hr⟩
  · exact Row.nil _ _
  · exact (hr.kept (e g rfl)).row
theorem RowIn.take {w : World} {base g n cap : Nat} {ms : List Mp} (h : RowIn w base g n cap ms) (k : Nat) (hk : k ≤ n) : RowIn w base g k cap (ms.take k) := by
  obtain ⟨cur, h1, h2, h3⟩ := h.blk
  have := h.len; have := h.le
  refine ⟨by simp; omega, h.low, by omega, h.cm, cur, h1, h2, fun i j m hm hj => h3 i j m ?_ hj⟩
  rw [List.getElem?_take] at hm
  split at hm
  · exact hm
  · cases hm

theorem heap_setCell_same {w : World} {g o : Nat} {cur : Array Value} {e : TypeId} {fr : Nat × Nat} (v : Value) (h : w.heap[g]? = some (.cells cur e fr)) : (w.setCell ⟨g, o, none⟩ v).heap[g]? = some (.cells (cur.setIfInBounds o v) e fr) := by
  simp [World.setCell, Array.getElem?_modify, h]
theorem heap_setCells (g : Nat) (e : TypeId) (fr : Nat × Nat) : ∀ (vs : List Value) (o : Nat) (w : World) (cur : Array Value), w.heap[g]? = some (.cells cur e fr) →
    ∃ cur' : Array Value, (w.setCells g o vs).heap[g]? = some (.cells cur' e fr) ∧ cur'.size = cur.size ∧ ∀ j, j < cur.size → cur'[j]? = if o ≤ j ∧ j < o + vs.length then vs[j - o]? else cur[j]?
  | [], o, w, cur, h => ⟨cur, h, rfl, fun j hj => by rw [if_neg (by simp)]⟩
  | v :: r, o, w, cur, h => by
    obtain ⟨cur', h1, h2, h3⟩ := heap_setCells g e fr r (o + 1) (w.setCell ⟨g, o, none⟩ v) _ (heap_setCell_same v h)
    refine ⟨cur', h1, by rw [h2]; simp, fun j hj => ?_⟩
    rw [h3 j (by simpa using hj)]
    by_cases c : j = o
    · subst c
      rw [if_neg (by omega), if_pos (by simp)]
      simp [hj]
    · by_cases c2 : o + 1 ≤ j ∧ j < o + 1 + r.length
      · rw [if_pos c2, if_pos (by simp; omega), show j - o = j - (o + 1) + 1 by omega]
        simp
      · rw [if_neg c2, if_neg (by simp; omega)]
        simp [Ne.symm c]
theorem heap_setCells_other (g : Nat) : ∀ (vs : List Value) (o : Nat) (w : World) (k : Nat), k ≠ g → (w.setCells g o vs).heap[k]? = w.heap[k]?
  | [], _, _, _, _ => rfl
  | v :: r, o, w, k, h => by
    rw [World.setCells, heap_setCells_other g r (o + 1) _ k h]
    exact Below.heap_setCell w _ _ _ h
theorem size_setCells (g : Nat) : ∀ (vs : List Value) (o : Nat) (w : World), (w.setCells g o vs).heap.size = w.heap.size
  | [], _, _ => rfl
  | v :: r, o, w => by rw [World.setCells, size_setCells g r (o + 1)]; simp [World.setCell]
theorem RowIn.set {w : World} {base g n cap : Nat} {ms : List Mp} (h : RowIn w base g n cap ms) (i : Nat) (m' : Mp) (hi : i < n) : RowIn (w.setCells g (i * 14) (mpl m')) base g n cap (ms.set i m') := by
  obtain ⟨cur, h1, h2, h3⟩ := h.blk
  have hl := h.len
  have hle := h.le
  obtain ⟨cur', k1, k2, k3⟩ := heap_setCells g _ _ (mpl m') (i * 14) w cur h1
  refine ⟨by simpa using h.len, h.low, h.le, h.cm, cur', k1, by rw [k2]; exact h2, fun a j m hm hj => ?_⟩
  have ha : a < ms.length := by have := (List.getElem?_eq_some_iff.1 hm).1; simpa using this
  rw [k3 _ (by omega), mpl_len]
  by_cases c : i = a
  · subst c
    rw [if_pos (by omega)]
    have : m' = m := by simpa [ha] using hm
    subst this
    rw [show i * 14 + j - i * 14 = j by omega]
  · rw [if_neg (by omega)]
    rw [List.getElem?_set_ne c] at hm
    exact h3 a j m hm hj

/-- all but block b and the row g is as it was -/
structure Chg (w w' : World) (b : Nat) (g : Option Nat) : Prop where
  os : w'.os = w.os
  tape : w'.tape = w.tape
  output : w'.output = w.output
  size : w.heap.size ≤ w'.heap.size
  block : ∀ k, k < w.heap.size → k ≠ b → some k ≠ g → w'.heap[k]? = w.heap[k]?
theorem Chg.of_below {w w' : World} {b : Nat} {g : Option Nat} (h : Below w.heap.size w w') : Chg w w' b g := ⟨h.os, h.tape, h.output, h.size, fun k hk _ _ => h.block k hk⟩
/-- a table in memory: block b holds the cells cur, of which that at place o + 3 is the slice v, which holds ms -/
structure Tb (w : World) (base b o : Nat) (ty : TypeId) (cur : Array Value) (v : Value) (ms : List Mp) : Prop where
  blk : w.heap[b]? = some (.cells cur ty (0, 0))
  at3 : cur[o + 3]? = some v
  row : Row w base v ms
  ne : v.ownBlock ≠ some b
  bs : base ≤ w.heap.size
theorem Tb.lt {w : World} {base b o : Nat} {ty : TypeId} {cur : Array Value} {v : Value} {ms : List Mp} (h : Tb w base b o ty cur v ms) : b < w.heap.size := (Array.getElem?_eq_some_iff.1 h.blk).1
theorem Tb.cell {w : World} {base b o : Nat} {ty : TypeId} {cur : Array Value} {v : Value} {ms : List Mp} (h : Tb w base b o ty cur v ms) : w.cell? ⟨b, o + 3, none⟩ = some v := by rw [cell_of_row w b (o + 3) cur ty _ h.blk, h.at3]
theorem Tb.frz {w : World} {base b o : Nat} {ty : TypeId} {cur : Array Value} {v : Value} {ms : List Mp} (h : Tb w base b o ty cur v ms) (k : Nat) : w.frozen? ⟨b, k, none⟩ = false := nofrz h.blk k
theorem Tb.own_lt {w : World} {base b o : Nat} {ty : TypeId} {cur : Array Value} {v : Value} {ms : List Mp} (h : Tb w base b o ty cur v ms) : ∀ g, v.ownBlock = some g → g < w.heap.size := fun g hg => (h.row.lt g hg).2
theorem Tb.below {w w' : World} {base b o : Nat} {ty : TypeId} {cur : Array Value} {v : Value} {ms : List Mp} (h : Tb w base b o ty cur v ms) (hb : Below w.heap.size w w') : Tb w' base b o ty cur v ms :=
  ⟨by rw [hb.block b h.lt]; exact h.blk, h.at3, h.row.kept (fun g hg => hb.block g (h.own_lt g hg)), h.ne, Nat.le_trans h.bs hb.size⟩
/-- what a call on a table leaves -/
structure Left (w w' : World) (base b o : Nat) (ty : TypeId) (cur : Array Value) (v v' : Value) (ms' : List Mp) : Prop where
  tb : Tb w' base b o ty (cur.setIfInBounds (o + 3) v') v' ms'
  own : ∀ k, v'.ownBlock = some k → some k = v.ownBlock ∨ w.heap.size ≤ k
  chg : Chg w w' b v.ownBlock
theorem own_cases {w1 : World} {base : Nat} {v' : Value} {ms : List Mp} {m : Mp} (h : w1.ownsRow base 127 14 v' (ms.length + 1) (rowOf ms ++ mpl m)) :
    ∃ g cap, v' = .slice (some ⟨g, 0, none⟩) (ms.length + 1) cap ∧ RowIn w1 base g (ms.length + 1) cap (ms ++ [m]) := by
  have hr : Row w1 base v' (ms ++ [m]) := by
    have e : rowOf (ms ++ [m]) = rowOf ms ++ mpl m := by simp [rowOf]
    unfold Row
    rw [e, List.length_append]
    exact h
  rcases hr.cases with ⟨_, h2⟩ | ⟨g, n, cap, h1, h2⟩
  · simp at h2
  · have : n = ms.length + 1 := by rw [← h2.len]; simp
    subst this
    exact ⟨g, cap, h1, h2⟩
end Go.Proofs.YthiljpbodmajaaaGreat
namespace Go.Proofs.YthiljpbodmajaaaGreat
open Go.RowKit
theorem fieldsOf_end : Tryz.prog.fieldsOf 124 = #[⟨ "Address", 3, 0, false, "", "", 0⟩, ⟨ "Port", 3, 1, false, "", "", 8⟩] := by kernel_rfl
theorem under_end : Tryz.prog.underlying 124 = some (.struct (Tryz.prog.fieldsOf 124)) := by kernel_rfl
theorem under_int : Tryz.prog.underlying 3 = some (.int .i64) := by kernel_rfl
theorem stood_end : Tryz.prog.stoodInHeld 124 = false := by kernel_rfl
theorem guard_end : Tryz.prog.eqGuardType Tryz.prog.depth 124 = false := by kernel_rfl
theorem isAgg_int (w : World) : (isAgg 3).run Tryz.prog w = .ok false w := by
  unfold isAgg
  rw [Sem.run_bind, run_underlying under_int w]
  simp
theorem end_eq (w : World) (a b c d : Int) : (binOp .eql 124 (.agg #[.int .i64 a, .int .i64 b]) (.agg #[.int .i64 c, .int .i64 d])).run Tryz.prog w = .ok (.bool (a == c && b == d)) w := by
  rw [run_eql_struct, run_equalIn_struct w 9999 _ _ _ under_end stood_end, fieldsOf_end]
  have e1 := fun x y => run_equalIn_int (P := Tryz.prog) w 9998 3 .i64 .i64 x y under_int
  simp only [Op.eqFields, part, isAgg_int, Sem.run_bind, Result.andThen_ok, Sem.run_ite, Sem.run_pure]
  cases h : a == c <;> cases h2 : b == d <;> simp [h, h2, e1]
theorem end_guard (w : World) (x y : Operand) (xs ys : Array Value) : (eqGuard .eql 124 x y (.agg xs) (.agg ys)).run Tryz.prog w = .ok () w := run_eqGuard_agg w .eql _ x y xs ys guard_end
end Go.Proofs.YthiljpbodmajaaaGreat
