/-
  natboxkeep.sent: what it gives.
-/
import Derived.Test.YtgpbajpeldjomaaGreatKepb
import Derived.Test.YtgpbajpeldjomaaGreatKepk
import Derived.Test.YtgpbajpeldjomaaGreatKepm
import Derived.Deep.DeepCutAuto
namespace Go.Proofs.YtgpbajpeldjomaaGreat
open Go.RowKit Plain
set_option linter.unusedVariables false

/-- what somebody wants to say -/
structure Pk where
  kd : Int
  sa : Int
  sp : Int
  da : Int
  dp : Int
  tl : Int
  op : Int
  bi : Int
  sr : Int
  md : ByteArray
  tx : ByteArray
  ta : ByteArray
def pkl (p : Pk) : Array Value := #[.int .i64 p.kd, .int .i64 p.sa, .int .i64 p.sp, .int .i64 p.da, .int .i64 p.dp, .int .i64 p.tl, .int .i64 p.op, .int .i64 p.bi, .int .i64 p.sr, .string p.md, .string p.tx, .string p.ta]
def dg0 : Dg := ⟨0, 0, false, 0, 0, 0, 0, 0, 0, 0, ⟨#[]⟩, ⟨#[]⟩, ⟨#[]⟩, ⟨#[]⟩⟩
/-- the pack's, the configuration's and the answer's blocks, laid in w, stand in w' -/
def Pok (p : Pk) (c : Cf) (w w' : World) : Prop := Below (w.heap.size + 1 + 1 + 1) (((w.alloc (.cells (pkl p) 30)).alloc (.cells (cfl c) 28)).alloc (.cells (dgl dg0) 33)) w'
theorem Pok.start (p : Pk) (c : Cf) (w : World) : Pok p c w (((w.alloc (.cells (pkl p) 30)).alloc (.cells (cfl c) 28)).alloc (.cells (dgl dg0) 33)) := Below.refl _ _
theorem Pok.drew {p : Pk} {c : Cf} {w w' : World} (h : Pok p c w w') : Pok p c w w'.drew := Below.drew h
theorem Pok.lt {p : Pk} {c : Cf} {w w' : World} (h : Pok p c w w') : w.heap.size + 1 + 1 + 1 ≤ w'.heap.size := Nat.le_trans (by simp) h.size
theorem Pok.next {p : Pk} {c : Cf} {w w1 w2 : World} (h : Pok p c w w1) (k : Below w1.heap.size w1 w2) : Pok p c w w2 := Below.trans h (k.mono h.lt)
theorem Pok.alloc {p : Pk} {c : Cf} {w w1 : World} (h : Pok p c w w1) (o : Obj) : Pok p c w (w1.alloc o) := Below.alloc h h.lt o
theorem Pok.store {p : Pk} {c : Cf} {w w1 : World} (h : Pok p c w w1) {a : Addr} (ha : w.heap.size + 1 + 1 + 1 ≤ a.block) (u : Value) : Pok p c w (w1.setCell a u) := Below.setCell h ha u
theorem Pok.below {p : Pk} {c : Cf} {w w' : World} (h : Pok p c w w') : Below w.heap.size w w' := ((((Below.refl w.heap.size w).alloc (Nat.le_refl _) _).alloc (by simp) _).alloc (by simp; omega) _).trans (Below.mono h (by omega))
theorem Pok.at {p : Pk} {c : Cf} {w : World} (i : Nat) {u : Value} (h : (pkl p)[i]? = some u) : ∀ w', Pok p c w w' → w'.cell? ⟨w.heap.size, i, none⟩ = some u := fun w' hb =>
  (Below.cell hb (p := ⟨w.heap.size, i, none⟩) (by show w.heap.size < _; omega)).trans ((cell_of_row _ _ _ _ _ _ (alloc3 w _ _ _).1).trans h)
theorem Pok.cf {p : Pk} {c : Cf} {w : World} (i : Nat) {u : Value} (h : (cfl c)[i]? = some u) : ∀ w', Pok p c w w' → w'.cell? ⟨w.heap.size + 1, i, none⟩ = some u := fun w' hb =>
  (Below.cell hb (p := ⟨w.heap.size + 1, i, none⟩) (by show w.heap.size + 1 < _; omega)).trans ((cell_of_row _ _ _ _ _ _ (alloc3 w _ _ _).2.1).trans h)
theorem Pok.res {p : Pk} {c : Cf} {w w' : World} (h : Pok p c w w') : w'.heap[w.heap.size + 1 + 1]? = some (.cells (dgl dg0) 33 (0, 0)) :=
  (Below.block h _ (by omega)).trans (alloc3 w _ _ _).2.2

theorem Pok.chain14 {p : Pk} {c : Cf} {w w1 : World} {D : Nat} {ua ub uc ud ue uf ug uh ui uj uk ul um un : Value} (h : Pok p c w w1) (hD : w.heap.size + 1 + 1 + 1 ≤ D) : Pok p c w ((((((((((((((w1.setCell ⟨D, 0, none⟩ ua).setCell ⟨D, 1, none⟩ ub).setCell ⟨D, 2, none⟩ uc).setCell ⟨D, 3, none⟩ ud).setCell ⟨D, 4, none⟩ ue).setCell ⟨D, 5, none⟩ uf).setCell ⟨D, 6, none⟩ ug).setCell ⟨D, 7, none⟩ uh).setCell ⟨D, 8, none⟩ ui).setCell ⟨D, 9, none⟩ uj).setCell ⟨D, 10, none⟩ uk).setCell ⟨D, 11, none⟩ ul).setCell ⟨D, 12, none⟩ um).setCell ⟨D, 13, none⟩ un) :=
  Pok.store (Pok.store (Pok.store (Pok.store (Pok.store (Pok.store (Pok.store (Pok.store (Pok.store (Pok.store (Pok.store (Pok.store (Pok.store (Pok.store (h) hD _) hD _) hD _) hD _) hD _) hD _) hD _) hD _) hD _) hD _) hD _) hD _) hD _) hD _
theorem store14 {w : World} {g : Nat} {t : TypeId} {fr : Nat × Nat} {v0 v1 v2 v3 v4 v5 v6 v7 v8 v9 v10 v11 v12 v13 ua ub uc ud ue uf ug uh ui uj uk ul um un : Value} (h : w.heap[g]? = some (.cells #[v0, v1, v2, v3, v4, v5, v6, v7, v8, v9, v10, v11, v12, v13] t fr)) : ((((((((((((((w.setCell ⟨g, 0, none⟩ ua).setCell ⟨g, 1, none⟩ ub).setCell ⟨g, 2, none⟩ uc).setCell ⟨g, 3, none⟩ ud).setCell ⟨g, 4, none⟩ ue).setCell ⟨g, 5, none⟩ uf).setCell ⟨g, 6, none⟩ ug).setCell ⟨g, 7, none⟩ uh).setCell ⟨g, 8, none⟩ ui).setCell ⟨g, 9, none⟩ uj).setCell ⟨g, 10, none⟩ uk).setCell ⟨g, 11, none⟩ ul).setCell ⟨g, 12, none⟩ um).setCell ⟨g, 13, none⟩ un).heap[g]? = some (.cells #[ua, ub, uc, ud, ue, uf, ug, uh, ui, uj, uk, ul, um, un] t fr) := by
  have h0 := heap_setCell_same (o := 0) ua h
  have h1 := heap_setCell_same (o := 1) ub h0
  have h2 := heap_setCell_same (o := 2) uc h1
  have h3 := heap_setCell_same (o := 3) ud h2
  have h4 := heap_setCell_same (o := 4) ue h3
  have h5 := heap_setCell_same (o := 5) uf h4
  have h6 := heap_setCell_same (o := 6) ug h5
  have h7 := heap_setCell_same (o := 7) uh h6
  have h8 := heap_setCell_same (o := 8) ui h7
  have h9 := heap_setCell_same (o := 9) uj h8
  have h10 := heap_setCell_same (o := 10) uk h9
  have h11 := heap_setCell_same (o := 11) ul h10
  have h12 := heap_setCell_same (o := 12) um h11
  have h13 := heap_setCell_same (o := 13) un h12
  simpa using h13
/-- a kind's protocol -/
def kpr (k : Int) : Int := if k ≤ 1 then 17 else if k = 2 then 6 else 1
/-- what sent gives -/
structure Sentok (d : Dg) (A B sp dp tl most k8 : Int) : Prop where
  ok : Dgok d
  sa : d.sa = A
  da : d.da = B
  sp : d.sp = sp
  dp : d.dp = dp
  tl : d.tl = tl
  kd : d.pr = 1 → d.kd = 8 ∨ d.kd = 13
  len : 20 + (d.op.size : Int) + (kbd d).size ≤ most
  all : (kfr d).size ≤ 65535
  pr : d.pr = kpr k8
theorem kfr_size {d : Dg} (D : Dgok d) : (kfr d).size = 20 + d.op.size + (kbd d).size + d.ta.size := by
  unfold kfr kwh; simp only [ByteArray.size_append]; unfold kh; rw [hd_size]
theorem kbd_ta (d : Dg) (t : ByteArray) : kbd { d with ta := t } = kbd d := rfl
theorem kbd_len {d : Dg} (D : Dgok d) : ((kbd d).size : Int) ≤ 20 + d.tx.size := by
  rw [kbd_eq D, kbx_size D]
  have h := D.md
  have z1 : (prt d.md 0 2).size = 2 := by rw [prt_size]; omega
  have z2 : (prt d.md 2 14).size = 12 := by rw [prt_size]; omega
  have z3 : (prt d.md 12 14).size = 2 := by rw [prt_size]; omega
  unfold kfl kbs
  split
  · omega
  · split
    · rw [ByteArray.size_append, z3]; omega
    · split <;> simp only [ByteArray.size_append, w2_size, z1, z2] <;> omega
theorem prt_zero_le (s : ByteArray) (n : Int) (h : 0 ≤ n) : ((prt s 0 n).size : Int) ≤ n := by rw [prt_size]; omega
theorem blk4 {w wa : World} {A B C Z : Obj} (h : Below ((((w.alloc A).alloc B).alloc C).alloc Z).drew.heap.size ((((w.alloc A).alloc B).alloc C).alloc Z).drew wa) : wa.heap[w.heap.size + 1 + 1 + 1]? = some Z :=
  (h.block _ (by simp)).trans (push_at _ _ _ (by simp))
theorem blk1 {wa wb : World} {Z : Obj} (h : Below (wa.alloc Z).heap.size (wa.alloc Z) wb) : wb.heap[wa.heap.size]? = some Z := (h.block _ (by simp)).trans (alloc1 wa _)
theorem blkn {wa wb : World} {g : Nat} {Z : Obj} (e : wa.heap[g]? = some Z) (h : Below wa.heap.size wa wb) : wb.heap[g]? = some Z := (h.block _ (Array.getElem?_eq_some_iff.1 e).1).trans e
end Go.Proofs.YtgpbajpeldjomaaGreat
