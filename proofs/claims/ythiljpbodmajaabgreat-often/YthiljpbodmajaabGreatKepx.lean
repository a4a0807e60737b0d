/-
  CONTRACTS: natboxkeep.There.
-/
import Derived.Test.YthiljpbodmajaabGreatKepy
import Derived.Test.YthiljpbodmajaabGreatKepj
import Derived.Test.YthiljpbodmajaabGreatBoxa
namespace Go.Proofs.YthiljpbodmajaabGreat
open Go.RowKit Plain
set_option linter.unusedVariables false

theorem cell12 {w : World} {g : Nat} {t : TypeId} {fr : Nat × Nat} {v0 v1 v2 v3 v4 v5 v6 v7 v8 v9 v10 v11 : Value} (h : w.heap[g]? = some (.cells #[v0, v1, v2, v3, v4, v5, v6, v7, v8, v9, v10, v11] t fr)) : w.cell? ⟨g, 0, none⟩ = some v0 ∧ w.cell? ⟨g, 1, none⟩ = some v1 ∧ w.cell? ⟨g, 2, none⟩ = some v2 ∧ w.cell? ⟨g, 3, none⟩ = some v3 ∧ w.cell? ⟨g, 4, none⟩ = some v4 ∧ w.cell? ⟨g, 5, none⟩ = some v5 ∧ w.cell? ⟨g, 6, none⟩ = some v6 ∧ w.cell? ⟨g, 7, none⟩ = some v7 ∧ w.cell? ⟨g, 8, none⟩ = some v8 ∧ w.cell? ⟨g, 9, none⟩ = some v9 ∧ w.cell? ⟨g, 10, none⟩ = some v10 ∧ w.cell? ⟨g, 11, none⟩ = some v11 :=
  ⟨cell_of_row w g 0 _ t fr h, cell_of_row w g 1 _ t fr h, cell_of_row w g 2 _ t fr h, cell_of_row w g 3 _ t fr h, cell_of_row w g 4 _ t fr h, cell_of_row w g 5 _ t fr h, cell_of_row w g 6 _ t fr h, cell_of_row w g 7 _ t fr h, cell_of_row w g 8 _ t fr h, cell_of_row w g 9 _ t fr h, cell_of_row w g 10 _ t fr h, cell_of_row w g 11 _ t fr h⟩
theorem holdsM {w : World} {base b : Nat} {c : Cf} {tk ti ext id : Int} {v : Value} {m : Mp} {d : Dg} (T : Bat w base b c tk ti v [m]) (hm : m.pr = d.pr ∧ m.ea = d.sa ∧ m.ep = d.sp ∧ m.ex = ext ∧ m.le = id ∧ m.kn = 1) {wx : World} (hx : Below w.heap.size w wx) : Hid (Calls Tryz.prog 67 #[.pointer (some ⟨b, 0, none⟩), .int .i64 (0 : Int)] wx fun e w' => e = .returned (.tuple #[.agg #[.int .i64 d.pr, .int .i64 d.sa, .int .i64 d.sp, .int .i64 ext, .int .i64 id, .int .i64 1], .int .i64 0]) ∧ Below wx.heap.size wx w') := by
  obtain ⟨h1, h2, h3, h4, h5, h6⟩ := hm
  have := mapping_at (k := 0) (Tb.below T hx) (by simp) (m := m) (by simp)
  rw [h1, h2, h3, h4, h5, h6] at this
  exact this
/-- the configuration stands in block A, the datagram in block B, and nothing that stood in w has changed -/
def Tst (g : Cf) (d : Dg) (A B : Nat) (w w' : World) : Prop := Below w.heap.size w w' ∧ w'.heap[A]? = some (.cells (cfl g) 23 (0, 0)) ∧ w'.heap[B]? = some (.cells (dgl d) 33 (0, 0))
theorem Tst.cf {g : Cf} {d : Dg} {A B : Nat} {w : World} (i : Nat) {u : Value} (h : (cfl g)[i]? = some u) : ∀ w', Tst g d A B w w' → w'.cell? ⟨A, i, none⟩ = some u := fun w' hs => (cell_of_row _ _ _ _ _ _ hs.2.1).trans h
theorem Tst.dg {g : Cf} {d : Dg} {A B : Nat} {w : World} (i : Nat) {u : Value} (h : (dgl d)[i]? = some u) : ∀ w', Tst g d A B w w' → w'.cell? ⟨B, i, none⟩ = some u := fun w' hs => (cell_of_row _ _ _ _ _ _ hs.2.2).trans h
theorem Tst.drew {g : Cf} {d : Dg} {A B : Nat} {w w' : World} (h : Tst g d A B w w') : Tst g d A B w w'.drew := ⟨Below.drew h.1, h.2.1, h.2.2⟩
theorem Tst.next {g : Cf} {d : Dg} {A B : Nat} {w w1 w2 : World} (h : Tst g d A B w w1) (k : Below w1.heap.size w1 w2) : Tst g d A B w w2 := ⟨h.1.trans (k.mono h.1.size), (k.block _ (Array.getElem?_eq_some_iff.1 h.2.1).1).trans h.2.1, (k.block _ (Array.getElem?_eq_some_iff.1 h.2.2).1).trans h.2.2⟩
end Go.Proofs.YthiljpbodmajaabGreat
namespace Go.Proofs.YthiljpbodmajaabGreat
open Go.RowKit Plain
set_option linter.unusedVariables false

theorem used_new (p a q x b r i : Int) : ((Mp.new p a q x).used b r i).pr = p ∧ ((Mp.new p a q x).used b r i).ea = a ∧ ((Mp.new p a q x).used b r i).ep = q ∧ ((Mp.new p a q x).used b r i).ex = x ∧ ((Mp.new p a q x).used b r i).le = i ∧ ((Mp.new p a q x).used b r i).kn = 1 := by
  simp [Mp.used, Mp.new, Mp.knows]
theorem start_out (g : Cf) (hg : g.ok = true) (d : Dg) (O : Outok d g) : ∃ ext m, (m.pr = d.pr ∧ m.ea = d.sa ∧ m.ep = d.sp ∧ m.ex = ext ∧ m.le = g.idle d.pr ∧ m.kn = 1) ∧ (1 ≤ ext ∧ ext ≤ 65535) ∧ ∀ wx, Calls Tryz.prog 23 #[.agg (cfl g), .agg (dgl d)] wx fun e w' => ∃ b v', e = .returned (.tuple #[.pointer (some ⟨b, 0, none⟩), .int .i64 ext]) ∧ Bat w' wx.heap.size b g g.bu 0 v' [m] ∧ Below wx.heap.size wx w' ∧ wx.heap.size ≤ b := by
  have C := cok_of hg
  have D := O.ok
  have hoa := us_bd C.oa
  have l1 := C.l1
  have l2 := C.l2
  have h2 := C.h2
  obtain ⟨ext, hext⟩ : ∃ ext, ext = chs g [] d.pr d.sp := ⟨_, rfl⟩
  have xb : 1 ≤ ext ∧ ext ≤ 65535 := by rw [hext, chs_nil]; split <;> omega
  have hgv : gvn g.lo g.hi d.sp (-1) = ext := by rw [hext, chs_gvn g C d.pr d.sp D.p0]; rfl
  obtain ⟨F, e1, e2, e3, e4, e5, e6, e7⟩ := O.parts
  have D2 : Dgok { d with sa := g.oa, sp := ext, tl := d.tl - 1 } := ⟨D.pr, hoa.1, hoa.2, D.d0, D.d1, by show 0 ≤ ext; omega, by show ext < 65536; omega, D.q0, D.q1, by show 0 ≤ d.tl - 1; have := O.tl; omega, by show d.tl - 1 < 256; have := D.t1; omega, D.md, D.op, D.o4, D.tx, D.ta⟩
  refine ⟨ext, (Mp.new d.pr d.sa d.sp ext).used d.da (if d.pr = 1 then 0 else wd (kfr d) (ppl (kfr d) 2)) (g.idle d.pr), used_new _ _ _ _ _ _ _, xb, fun wx => ?_⟩
  refine start_core g d ext (kfr d) (kfr { d with sa := g.oa, sp := ext, tl := d.tl - 1 }) _ wx hg (fun w => ?_) (fun w => out_any d g ext w D.t0 (by have := D.t1; omega)) (kframe_any d D) (kframe_any _ D2) (fun wy b T => ?_)
  · have := given_any g d.sp (-1) w (by omega) (by omega)
    rw [hgv] at this
    exact this
  · have := frame_first T hg (kfr d) O.all O.exam O.chk O.kinds.2.2 (by rw [e7]; simpa using O.n4) O.pss ext (by rw [e3, O.sport]; exact hext)
    rw [O.goes ext (by omega) (by omega) hoa.1 hoa.2, e3, e6, e7, O.sport] at this
    exact this
end Go.Proofs.YthiljpbodmajaabGreat
