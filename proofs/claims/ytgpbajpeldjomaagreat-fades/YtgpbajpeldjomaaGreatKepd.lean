/-
  CONTRACTS: package natboxkeep: a datagram's frame.
-/
import Derived.Test.YtgpbajpeldjomaaGreatKepw
import Derived.Deep.RegionHeld
namespace Go.Proofs.YtgpbajpeldjomaaGreat
open Go.RowKit Plain
set_option linter.unusedVariables false

/-- a datagram -/
structure Dg where
  pr : Int
  kd : Int
  ba : Bool
  sa : Int
  sp : Int
  da : Int
  dp : Int
  tl : Int
  bi : Int
  sr : Int
  op : ByteArray
  md : ByteArray
  tx : ByteArray
  ta : ByteArray
def dgl (d : Dg) : Array Value := #[.int .i64 d.pr, .int .i64 d.kd, .bool d.ba, .int .i64 d.sa, .int .i64 d.sp, .int .i64 d.da, .int .i64 d.dp, .int .i64 d.tl, .int .i64 d.bi, .int .i64 d.sr, .string d.op, .string d.md, .string d.tx, .string d.ta]

theorem below_next {B : Nat} {W w1 w2 : World} (hB : B ≤ W.heap.size) (h : Below B W w1) (k : Below w1.heap.size w1 w2) : Below B W w2 := h.trans (k.mono (Nat.le_trans hB h.size))
/-- the datagram's cells, in every world that leaves them -/
theorem dg_at (d : Dg) (w : World) (i : Nat) (u : Value) (h : (dgl d)[i]? = some u) : ∀ w', Below (w.heap.size + 1) (w.alloc (.cells (dgl d) 33)) w' → w'.cell? ⟨w.heap.size, i, none⟩ = some u := fun w' hb =>
  (hb.cell (p := ⟨w.heap.size, i, none⟩) (by simp)).trans ((cell_of_row _ _ _ _ _ _ (alloc1 w _)).trans h)
/-- the datagram's own block, laid in w, stands in w' -/
def Dok (d : Dg) (w w' : World) : Prop := Below (w.heap.size + 1) (w.alloc (.cells (dgl d) 33)) w'
theorem Dok.start (d : Dg) (w : World) : Dok d w (w.alloc (.cells (dgl d) 33)) := Below.refl _ _
theorem Dok.drew {d : Dg} {w w' : World} (h : Dok d w w') : Dok d w w'.drew := Below.drew h
theorem Dok.next {d : Dg} {w w1 w2 : World} (h : Dok d w w1) (k : Below w1.heap.size w1 w2) : Dok d w w2 := Below.trans h (k.mono (Nat.le_trans (by simp) h.size))
theorem Dok.below {d : Dg} {w w' : World} (h : Dok d w w') : Below w.heap.size w w' := ((Below.refl w.heap.size w).alloc (Nat.le_refl _) _).trans (Below.mono h (by omega))
theorem Dok.at {d : Dg} {w : World} (i : Nat) {u : Value} (h : (dgl d)[i]? = some u) : ∀ w', Dok d w w' → w'.cell? ⟨w.heap.size, i, none⟩ = some u := dg_at d w i u h
theorem ends_core (d : Dg) (A B : ByteArray) (w : World) (zA : A.size = 4) (zB : B.size = 4) (cA : RetB 121 #[.int .i64 d.sa] (.string A)) (cB : RetB 121 #[.int .i64 d.da] (.string B)) :
    Calls Tryz.prog 78 #[.agg (dgl d)] w fun e w' => e = .returned (.string (A ++ B)) ∧ Below w.heap.size w w' := by
  have hX := dg_at d w 3 (.int .i64 d.sa) rfl
  have hY := dg_at d w 5 (.int .i64 d.da) rfl
  have hB : w.heap.size + 1 ≤ (w.alloc (.cells (dgl d) 33)).heap.size := by simp
  generalize hD : dgl d = D at hX hY hB ⊢
  have HB : Hid _ := hB
  clear hB hD
  go_enter Tryz.func78, Tryz.ntmps78
  go_wp2
  go_region_held (fun w' => Below (w.heap.size + 1) (w.alloc (.cells D 33)) w') (first | assumption | exact (Below.refl _ _).drew) (first
    | (go_at_call_of 121 (Value.int .i64 d.sa); refine Calls.mono (cA.at _) ?_; rintro e w1 ⟨rfl, hb1⟩; have hk1 := below_next HB.out (by assumption) hb1)
    | (go_at_call_of 121 (Value.int .i64 d.da); refine Calls.mono (cB.at _) ?_; rintro e w2 ⟨rfl, hb2⟩; have hk2 := below_next HB.out (by assumption) hb2))
  all_goals
    go_wp2
    go_ret
    exact ⟨rfl, ((Below.refl w.heap.size w).alloc (Nat.le_refl _) _).trans (Below.mono (by assumption) (by omega))⟩
theorem ends_any (d : Dg) (s0 : 0 ≤ d.sa) (s1 : d.sa < 4294967296) (d0 : 0 ≤ d.da) (d1 : d.da < 4294967296) : RetB 78 #[.agg (dgl d)] (.string (l4 d.sa ++ l4 d.da)) := fun w =>
  ends_core d _ _ w (l4_size _) (l4_size _) (four_in _ s0 s1) (four_in _ d0 d1)
end Go.Proofs.YtgpbajpeldjomaaGreat
