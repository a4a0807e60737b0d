/-
  CONTRACTS: package natboxkeep: start.
-/
import Derived.Test.YthiljpbodmajaaaGreatKepv
import Derived.Test.YthiljpbodmajaaaGreatKepb
import Derived.Test.YthiljpbodmajaaaGreatKepk
import Derived.Test.YthiljpbodmajaaaGreatCfgn
namespace Go.Proofs.YthiljpbodmajaaaGreat
open Go.RowKit Plain
set_option linter.unusedVariables false

/-- the configuration's and the datagram's blocks, laid in w, stand in w' -/
def Gok (c : Cf) (d : Dg) (w w' : World) : Prop := Below (w.heap.size + 1 + 1) ((w.alloc (.cells (cfl c) 28)).alloc (.cells (dgl d) 33)) w'
theorem Gok.start (c : Cf) (d : Dg) (w : World) : Gok c d w ((w.alloc (.cells (cfl c) 28)).alloc (.cells (dgl d) 33)) := Below.refl _ _
theorem Gok.drew {c : Cf} {d : Dg} {w w' : World} (h : Gok c d w w') : Gok c d w w'.drew := Below.drew h
theorem Gok.lt {c : Cf} {d : Dg} {w w' : World} (h : Gok c d w w') : w.heap.size + 1 + 1 ≤ w'.heap.size := Nat.le_trans (by simp) h.size
theorem Gok.next {c : Cf} {d : Dg} {w w1 w2 : World} (h : Gok c d w w1) (k : Below w1.heap.size w1 w2) : Gok c d w w2 := Below.trans h (k.mono h.lt)
theorem Gok.alloc {c : Cf} {d : Dg} {w w1 : World} (h : Gok c d w w1) (o : Obj) : Gok c d w (w1.alloc o) := Below.alloc h h.lt o
theorem Gok.below {c : Cf} {d : Dg} {w w' : World} (h : Gok c d w w') : Below w.heap.size w w' := (((Below.refl w.heap.size w).alloc (Nat.le_refl _) _).alloc (by simp) _).trans (Below.mono h (by omega))
theorem Gok.cf {c : Cf} {d : Dg} {w : World} (i : Nat) {u : Value} (h : (cfl c)[i]? = some u) : ∀ w', Gok c d w w' → w'.cell? ⟨w.heap.size, i, none⟩ = some u := fun w' hb =>
  (Below.cell hb (p := ⟨w.heap.size, i, none⟩) (by show w.heap.size < _; omega)).trans ((cell_of_row _ _ _ _ _ _ (alloc2 w _ _).1).trans h)
theorem Gok.dg {c : Cf} {d : Dg} {w : World} (i : Nat) {u : Value} (h : (dgl d)[i]? = some u) : ∀ w', Gok c d w w' → w'.cell? ⟨w.heap.size + 1, i, none⟩ = some u := fun w' hb =>
  (Below.cell hb (p := ⟨w.heap.size + 1, i, none⟩) (by show w.heap.size + 1 < _; omega)).trans ((cell_of_row _ _ _ _ _ _ (alloc2 w _ _).2).trans h)
/-- these, and a second datagram in block O -/
def Sst (c : Cf) (d d' : Dg) (w : World) (O : Nat) (w' : World) : Prop := Gok c d w w' ∧ w'.heap[O]? = some (.cells (dgl d') 33 (0, 0))
theorem Sst.d1 {c : Cf} {d d' : Dg} {w : World} {O : Nat} (i : Nat) {u : Value} (h : (dgl d)[i]? = some u) : ∀ w', Sst c d d' w O w' → w'.cell? ⟨w.heap.size + 1, i, none⟩ = some u := fun w' hs => Gok.dg i h w' hs.1
theorem Sst.d2 {c : Cf} {d d' : Dg} {w : World} {O : Nat} (i : Nat) {u : Value} (h : (dgl d')[i]? = some u) : ∀ w', Sst c d d' w O w' → w'.cell? ⟨O, i, none⟩ = some u := fun w' hs => (cell_of_row _ _ _ _ _ _ hs.2).trans h
theorem Sst.drew {c : Cf} {d d' : Dg} {w w' : World} {O : Nat} (h : Sst c d d' w O w') : Sst c d d' w O w'.drew := ⟨h.1.drew, h.2⟩
theorem Sst.next {c : Cf} {d d' : Dg} {w w1 w2 : World} {O : Nat} (h : Sst c d d' w O w1) (k : Below w1.heap.size w1 w2) : Sst c d d' w O w2 := ⟨h.1.next k, (k.block _ (Array.getElem?_eq_some_iff.1 h.2).1).trans h.2⟩
theorem sst_left {c : Cf} {d d' : Dg} {w wy wq wz : World} {O b base : Nat} {v' : Value} {ms : List Mp} {cur : Array Value} {ty : TypeId} (h : Sst c d d' w O wy) (T : Tb wy base b 12 ty cur (.slice none 0 0) []) (hL : Left wy wq base b 12 ty cur (.slice none 0 0) v' ms) (hz : Below wq.heap.size wq wz) (hb : w.heap.size + 1 + 1 ≤ b) (hO : b < O) : Sst c d d' w O wz := by
  have hOl : O < wy.heap.size := (Array.getElem?_eq_some_iff.1 h.2).1
  have hs := hL.chg.size
  have key : ∀ k, k < wy.heap.size → k ≠ b → wz.heap[k]? = wy.heap[k]? := fun k hk hn => by
    rw [hz.block k (by omega), hL.chg.block k hk hn (by simp [Value.ownBlock])]
  refine ⟨⟨?_, ?_, ?_, ?_, fun k hk => ?_⟩, ?_⟩
  · exact (hz.os.trans hL.chg.os).trans h.1.os
  · exact (hz.tape.trans hL.chg.tape).trans h.1.tape
  · exact (hz.output.trans hL.chg.output).trans h.1.output
  · exact Nat.le_trans h.1.size (Nat.le_trans hs hz.size)
  · rw [key k (Nat.lt_of_lt_of_le hk h.1.lt) (by omega)]; exact Below.block h.1 k hk
  · rw [key O hOl (by omega)]; exact h.2
set_option maxHeartbeats 8000000 in
theorem start_core (c : Cf) (d : Dg) (ext : Int) (X Y : ByteArray) (m : Mp) (w : World) (hc : c.ok = true) (cG : RetB 26 #[.agg (cfl c), .int .i64 d.sp, .int .i64 (-1)] (.int .i64 ext)) (cO : RetB 24 #[.agg (dgl d), .agg (cfl c), .int .i64 ext] (.agg (dgl { d with sa := c.oa, sp := ext, tl := d.tl - 1 })))
    (cX : RetB 23 #[.agg (dgl d)] (.string X)) (cY : RetB 23 #[.agg (dgl { d with sa := c.oa, sp := ext, tl := d.tl - 1 })] (.string Y))
    (cF : ∀ wx b, Bat wx w.heap.size b c c.bu 0 (.slice none 0 0) [] → Calls Tryz.prog 25 #[.pointer (some ⟨b, 0, none⟩), .int .i64 0, .string X] wx fun e w' => e = .returned (rpv 0 1 Y) ∧ ∃ v', Left wx w' w.heap.size b 12 90 (bxc c (.slice none 0 0) c.bu 0) (.slice none 0 0) v' [m]) :
    Calls Tryz.prog 14 #[.agg (cfl c), .agg (dgl d)] w fun e w' => ∃ b v', e = .returned (.tuple #[.pointer (some ⟨b, 0, none⟩), .int .i64 ext]) ∧ Bat w' w.heap.size b c c.bu 0 v' [m] ∧ Below w.heap.size w w' ∧ w.heap.size ≤ b := by
  have g0 := Gok.cf (c := c) (d := d) (w := w) 0 (u := (.int .i64 c.ia)) rfl
  have g1 := Gok.cf (c := c) (d := d) (w := w) 1 (u := (.int .i64 c.oa)) rfl
  have g2 := Gok.cf (c := c) (d := d) (w := w) 2 (u := (.int .i64 c.lo)) rfl
  have g3 := Gok.cf (c := c) (d := d) (w := w) 3 (u := (.int .i64 c.hi)) rfl
  have g4 := Gok.cf (c := c) (d := d) (w := w) 4 (u := (.int .i64 c.cp)) rfl
  have g5 := Gok.cf (c := c) (d := d) (w := w) 5 (u := (.int .i64 c.im)) rfl
  have g6 := Gok.cf (c := c) (d := d) (w := w) 6 (u := (.int .i64 c.om)) rfl
  have g7 := Gok.cf (c := c) (d := d) (w := w) 7 (u := (.int .i64 c.iu)) rfl
  have g8 := Gok.cf (c := c) (d := d) (w := w) 8 (u := (.int .i64 c.it)) rfl
  have g9 := Gok.cf (c := c) (d := d) (w := w) 9 (u := (.int .i64 c.iq)) rfl
  have g10 := Gok.cf (c := c) (d := d) (w := w) 10 (u := (.int .i64 c.bu)) rfl
  have g11 := Gok.cf (c := c) (d := d) (w := w) 11 (u := (.int .i64 c.ra)) rfl
  have q0 := Gok.dg (c := c) (d := d) (w := w) 0 (u := (.int .i64 d.pr)) rfl
  have q1 := Gok.dg (c := c) (d := d) (w := w) 1 (u := (.int .i64 d.kd)) rfl
  have q2 := Gok.dg (c := c) (d := d) (w := w) 2 (u := (.bool d.ba)) rfl
  have q3 := Gok.dg (c := c) (d := d) (w := w) 3 (u := (.int .i64 d.sa)) rfl
  have q4 := Gok.dg (c := c) (d := d) (w := w) 4 (u := (.int .i64 d.sp)) rfl
  have q5 := Gok.dg (c := c) (d := d) (w := w) 5 (u := (.int .i64 d.da)) rfl
  have q6 := Gok.dg (c := c) (d := d) (w := w) 6 (u := (.int .i64 d.dp)) rfl
  have q7 := Gok.dg (c := c) (d := d) (w := w) 7 (u := (.int .i64 d.tl)) rfl
  have q8 := Gok.dg (c := c) (d := d) (w := w) 8 (u := (.int .i64 d.bi)) rfl
  have q9 := Gok.dg (c := c) (d := d) (w := w) 9 (u := (.int .i64 d.sr)) rfl
  have q10 := Gok.dg (c := c) (d := d) (w := w) 10 (u := (.string d.op)) rfl
  have q11 := Gok.dg (c := c) (d := d) (w := w) 11 (u := (.string d.md)) rfl
  have q12 := Gok.dg (c := c) (d := d) (w := w) 12 (u := (.string d.tx)) rfl
  have q13 := Gok.dg (c := c) (d := d) (w := w) 13 (u := (.string d.ta)) rfl
  have gs : Hid (Gok c d w ((w.alloc (.cells (cfl c) 28)).alloc (.cells (dgl d) 33))) := Gok.start c d w
  have hconf : confB c.ia c.oa c.lo c.hi c.cp c.im c.om c.iu c.it c.iq c.bu c.ra = true := by rw [confB_valid]; exact hc
  have HC : Hid _ := hconf
  have CF : Hid _ := cF
  clear hconf cF hc
  unfold cfl dgl at gs cO ⊢
  unfold cfl at cG
  unfold dgl at cX cY
  simp only at cO cY
  go_enter Tryz.func14, Tryz.ntmps14
  go_wp2_with fail
  refine (new_yes c.ia c.oa c.lo c.hi c.cp c.im c.om c.iu c.it c.iq c.bu c.ra _ HC.out).mono ?_; rintro e w1 ⟨b, rfl, hb1, hbl, hbb⟩
  have hG1 : Gok c d w w1 := Gok.next gs.out hb1
  have T1 : Bat w1 w.heap.size b c c.bu 0 (.slice none 0 0) [] := ⟨hbb, rfl, Row.nil _ _, by simp [Value.ownBlock], by have := hG1.lt; omega⟩
  have hbs : w.heap.size + 1 + 1 ≤ b := by simpa using hbl
  have HT1 : Hid _ := T1
  clear hb1 hbl hbb T1
  go_wp2_with fail
  refine Calls.mono (cG.at _) ?_; rintro e w2 ⟨rfl, hb2⟩
  have hG2 : Gok c d w w2 := Gok.next hG1 hb2
  have HT2 : Hid _ := HT1.out.below hb2
  clear hb2
  go_wp2_with fail
  refine Calls.mono (cO.at _) ?_; rintro e w3 ⟨rfl, hb3⟩
  have hG3 : Gok c d w w3 := Gok.next hG2 hb3
  have HT3 : Hid _ := HT2.out.below hb3
  clear hb3
  go_wp2
  clear g0 g1 g2 g3 g4 g5 g6 g7 g8 g9 g10 g11 q0 q1 q2 q3 q4 q5 q6 q7 q8 q9 q10 q11 q12 q13
  have s0 := Sst.d1 (c := c) (d := d) (d' := { d with sa := c.oa, sp := ext, tl := d.tl - 1 }) (w := w) (O := w3.heap.size) 0 (u := (.int .i64 d.pr)) rfl
  have s1 := Sst.d1 (c := c) (d := d) (d' := { d with sa := c.oa, sp := ext, tl := d.tl - 1 }) (w := w) (O := w3.heap.size) 1 (u := (.int .i64 d.kd)) rfl
  have s2 := Sst.d1 (c := c) (d := d) (d' := { d with sa := c.oa, sp := ext, tl := d.tl - 1 }) (w := w) (O := w3.heap.size) 2 (u := (.bool d.ba)) rfl
  have s3 := Sst.d1 (c := c) (d := d) (d' := { d with sa := c.oa, sp := ext, tl := d.tl - 1 }) (w := w) (O := w3.heap.size) 3 (u := (.int .i64 d.sa)) rfl
  have s4 := Sst.d1 (c := c) (d := d) (d' := { d with sa := c.oa, sp := ext, tl := d.tl - 1 }) (w := w) (O := w3.heap.size) 4 (u := (.int .i64 d.sp)) rfl
  have s5 := Sst.d1 (c := c) (d := d) (d' := { d with sa := c.oa, sp := ext, tl := d.tl - 1 }) (w := w) (O := w3.heap.size) 5 (u := (.int .i64 d.da)) rfl
  have s6 := Sst.d1 (c := c) (d := d) (d' := { d with sa := c.oa, sp := ext, tl := d.tl - 1 }) (w := w) (O := w3.heap.size) 6 (u := (.int .i64 d.dp)) rfl
  have s7 := Sst.d1 (c := c) (d := d) (d' := { d with sa := c.oa, sp := ext, tl := d.tl - 1 }) (w := w) (O := w3.heap.size) 7 (u := (.int .i64 d.tl)) rfl
  have s8 := Sst.d1 (c := c) (d := d) (d' := { d with sa := c.oa, sp := ext, tl := d.tl - 1 }) (w := w) (O := w3.heap.size) 8 (u := (.int .i64 d.bi)) rfl
  have s9 := Sst.d1 (c := c) (d := d) (d' := { d with sa := c.oa, sp := ext, tl := d.tl - 1 }) (w := w) (O := w3.heap.size) 9 (u := (.int .i64 d.sr)) rfl
  have s10 := Sst.d1 (c := c) (d := d) (d' := { d with sa := c.oa, sp := ext, tl := d.tl - 1 }) (w := w) (O := w3.heap.size) 10 (u := (.string d.op)) rfl
  have s11 := Sst.d1 (c := c) (d := d) (d' := { d with sa := c.oa, sp := ext, tl := d.tl - 1 }) (w := w) (O := w3.heap.size) 11 (u := (.string d.md)) rfl
  have s12 := Sst.d1 (c := c) (d := d) (d' := { d with sa := c.oa, sp := ext, tl := d.tl - 1 }) (w := w) (O := w3.heap.size) 12 (u := (.string d.tx)) rfl
  have s13 := Sst.d1 (c := c) (d := d) (d' := { d with sa := c.oa, sp := ext, tl := d.tl - 1 }) (w := w) (O := w3.heap.size) 13 (u := (.string d.ta)) rfl
  have z0 := Sst.d2 (c := c) (d := d) (d' := { d with sa := c.oa, sp := ext, tl := d.tl - 1 }) (w := w) (O := w3.heap.size) 0 (u := (.int .i64 d.pr)) rfl
  have z1 := Sst.d2 (c := c) (d := d) (d' := { d with sa := c.oa, sp := ext, tl := d.tl - 1 }) (w := w) (O := w3.heap.size) 1 (u := (.int .i64 d.kd)) rfl
  have z2 := Sst.d2 (c := c) (d := d) (d' := { d with sa := c.oa, sp := ext, tl := d.tl - 1 }) (w := w) (O := w3.heap.size) 2 (u := (.bool d.ba)) rfl
  have z3 := Sst.d2 (c := c) (d := d) (d' := { d with sa := c.oa, sp := ext, tl := d.tl - 1 }) (w := w) (O := w3.heap.size) 3 (u := (.int .i64 c.oa)) rfl
  have z4 := Sst.d2 (c := c) (d := d) (d' := { d with sa := c.oa, sp := ext, tl := d.tl - 1 }) (w := w) (O := w3.heap.size) 4 (u := (.int .i64 ext)) rfl
  have z5 := Sst.d2 (c := c) (d := d) (d' := { d with sa := c.oa, sp := ext, tl := d.tl - 1 }) (w := w) (O := w3.heap.size) 5 (u := (.int .i64 d.da)) rfl
  have z6 := Sst.d2 (c := c) (d := d) (d' := { d with sa := c.oa, sp := ext, tl := d.tl - 1 }) (w := w) (O := w3.heap.size) 6 (u := (.int .i64 d.dp)) rfl
  have z7 := Sst.d2 (c := c) (d := d) (d' := { d with sa := c.oa, sp := ext, tl := d.tl - 1 }) (w := w) (O := w3.heap.size) 7 (u := (.int .i64 (d.tl - 1))) rfl
  have z8 := Sst.d2 (c := c) (d := d) (d' := { d with sa := c.oa, sp := ext, tl := d.tl - 1 }) (w := w) (O := w3.heap.size) 8 (u := (.int .i64 d.bi)) rfl
  have z9 := Sst.d2 (c := c) (d := d) (d' := { d with sa := c.oa, sp := ext, tl := d.tl - 1 }) (w := w) (O := w3.heap.size) 9 (u := (.int .i64 d.sr)) rfl
  have z10 := Sst.d2 (c := c) (d := d) (d' := { d with sa := c.oa, sp := ext, tl := d.tl - 1 }) (w := w) (O := w3.heap.size) 10 (u := (.string d.op)) rfl
  have z11 := Sst.d2 (c := c) (d := d) (d' := { d with sa := c.oa, sp := ext, tl := d.tl - 1 }) (w := w) (O := w3.heap.size) 11 (u := (.string d.md)) rfl
  have z12 := Sst.d2 (c := c) (d := d) (d' := { d with sa := c.oa, sp := ext, tl := d.tl - 1 }) (w := w) (O := w3.heap.size) 12 (u := (.string d.tx)) rfl
  have z13 := Sst.d2 (c := c) (d := d) (d' := { d with sa := c.oa, sp := ext, tl := d.tl - 1 }) (w := w) (O := w3.heap.size) 13 (u := (.string d.ta)) rfl
  have ss : Hid (Sst c d { d with sa := c.oa, sp := ext, tl := d.tl - 1 } w w3.heap.size (w3.alloc (.cells (dgl { d with sa := c.oa, sp := ext, tl := d.tl - 1 }) 33)).drew) := Sst.drew ⟨hG3.alloc _, alloc1 w3 _⟩
  have HTa : Hid (Bat (w3.alloc (.cells (dgl { d with sa := c.oa, sp := ext, tl := d.tl - 1 }) 33)).drew w.heap.size b c c.bu 0 (.slice none 0 0) []) := HT3.out.below (Below.drew ((Below.refl _ _).alloc (Nat.le_refl _) _))
  have hbO : b < w3.heap.size := HT3.out.lt
  unfold dgl at ss HTa
  go_region_held (fun w' => Sst c d { d with sa := c.oa, sp := ext, tl := d.tl - 1 } w w3.heap.size w') (first | (with_reducible assumption) | (with_reducible exact ss.out)) (first
    | (go_at_call_of 23 (Value.int .i64 ext); refine Calls.mono (cY.at _) ?_; rintro e wy ⟨rfl, hby⟩; have hky := Sst.next (c := c) (d := d) (w := w) (by assumption) hby; have HTy : Hid _ := Tb.below HTx.out hby)
    | (go_at_call 23; refine Calls.mono (cX.at _) ?_; rintro e wx ⟨rfl, hbx⟩; have hkx := Sst.next (c := c) (d := d) (w := w) ss.out hbx; have HTx : Hid _ := Tb.below HTa.out hbx)
    | (go_at_call 22; refine Calls.mono (passes_yes b 0 1 X Y _ (CF.out _ b HTy.out)) ?_; rintro e wz ⟨rfl, wq, ⟨v', hL⟩, hbz⟩; have hkz : Sst c d { d with sa := c.oa, sp := ext, tl := d.tl - 1 } w w3.heap.size wz := sst_left hky HTy.out hL hbz hbs hbO; have HLz : Hid _ := hL.grow HTy.out.lt hbz))
  all_goals
    go_wp2
    go_ret2
    exact ⟨b, v', rfl, HLz.out.tb, hkz.1.below, by omega⟩
end Go.Proofs.YthiljpbodmajaaaGreat
