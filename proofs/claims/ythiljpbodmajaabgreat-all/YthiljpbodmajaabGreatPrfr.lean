/-
  A PAIR: a box of the program, and the reference's box beside it.
-/
import Derived.Test.YthiljpbodmajaabGreatRgju
import Derived.Test.YthiljpbodmajaabGreatRgta
import Derived.Test.YthiljpbodmajaabGreatRfpe
import Derived.Deep.RegionLaw
import Derived.Deep.AppendLies
import Derived.Deep.DeepCutAuto
namespace Go.Proofs.YthiljpbodmajaabGreat
open Go.RowKit Plain
set_option linter.unusedVariables false

/-- a pair's numbers -/
structure Ps where
  x : Nat
  r : Nat
  c : Cf
  now : Int
  tk : Int
  ms : List Mp
  us : List Us
  own : List Int
  v : Value
  uv : Value
  ov : Value
/-- the blocks of a pair -/
def Ps.fp (p : Ps) (k : Nat) : Prop := k = p.x ∨ k = p.r ∨ p.v.ownBlock = some k ∨ p.uv.ownBlock = some k ∨ p.ov.ownBlock = some k
/-- a pair in memory -/
structure Pr (w : World) (base : Nat) (p : Ps) : Prop where
  bat : Bat w base p.x p.c p.tk p.now p.v p.ms
  rx : Rx w base p.r p.c p.now p.us p.own p.uv p.ov p.tk p.ms
  inv : Inv p.c.bu p.c.ra p.now (p.own.reverse.map fun t => (t, true)) p.tk
  srt : p.own.Pairwise (fun a b => a ≤ b)
  k0 : 0 ≤ p.tk
  up : ∀ u ∈ p.us, 0 ≤ u.pr ∧ u.pr ≤ 255
  bx : base ≤ p.x
  br : base ≤ p.r
  xr : p.x ≠ p.r
  vr : p.v.ownBlock ≠ some p.r
  ux : p.uv.ownBlock ≠ some p.x
  ox : p.ov.ownBlock ≠ some p.x
  vu : ∀ k, p.v.ownBlock = some k → p.uv.ownBlock ≠ some k ∧ p.ov.ownBlock ≠ some k
section
variable {w w' w1 : World} {base : Nat} {p p' q : Ps}
theorem Pr.fp_lt (h : Pr w base p) {k : Nat} (hk : p.fp k) : base ≤ k ∧ k < w.heap.size := by
  rcases hk with rfl | rfl | hk | hk | hk
  · exact ⟨h.bx, h.bat.lt⟩
  · exact ⟨h.br, h.rx.rb.lt⟩
  · exact h.bat.row.lt k hk
  · exact h.rx.rb.ur.lt k hk
  · exact own_lt1 h.rx.rb.owr k hk
theorem Rb.kept {b : Nat} {c : Cf} {now : Int} {us : List Us} {own : List Int} {uv ov : Value} (h : Rb w base b c now us own uv ov) (hs : w.heap.size ≤ w'.heap.size) (e : ∀ k, k = b ∨ uv.ownBlock = some k ∨ ov.ownBlock = some k → w'.heap[k]? = w.heap[k]?) : Rb w' base b c now us own uv ov :=
  ⟨(e b (.inl rfl)).trans h.blk, h.ur.kept (fun g hg => e g (.inr (.inl hg))), own_keep1 h.owr (fun g hg => e g (.inr (.inr hg))), h.nu, h.no, h.nn, Nat.le_trans h.bs hs⟩
theorem Rx.kept {b : Nat} {c : Cf} {now tk : Int} {us : List Us} {own : List Int} {uv ov : Value} {ms : List Mp} (h : Rx w base b c now us own uv ov tk ms) (hs : w.heap.size ≤ w'.heap.size) (e : ∀ k, k = b ∨ uv.ownBlock = some k ∨ ov.ownBlock = some k → w'.heap[k]? = w.heap[k]?) : Rx w' base b c now us own uv ov tk ms := ⟨h.rb.kept hs e, h.sim, h.uok, h.t0, h.t2, h.ok, h.tok, h.ow⟩
theorem Bat.kept {b : Nat} {c : Cf} {tk ti : Int} {v : Value} {ms : List Mp} (h : Bat w base b c tk ti v ms) (hs : w.heap.size ≤ w'.heap.size) (e : ∀ k, k = b ∨ v.ownBlock = some k → w'.heap[k]? = w.heap[k]?) : Bat w' base b c tk ti v ms :=
  ⟨(e b (.inl rfl)).trans h.blk, h.at3, h.row.kept (fun g hg => e g (.inr hg)), h.ne, Nat.le_trans h.bs hs⟩
/-- a pair whose blocks are as they were is as it was -/
theorem Pr.kept (h : Pr w base p) (hs : w.heap.size ≤ w'.heap.size) (e : ∀ k, p.fp k → w'.heap[k]? = w.heap[k]?) : Pr w' base p :=
  ⟨Bat.kept h.bat hs (fun k hk => e k (by rcases hk with rfl | hk; exact .inl rfl; exact .inr (.inr (.inl hk)))), h.rx.kept hs (fun k hk => e k (by rcases hk with rfl | hk | hk; exact .inr (.inl rfl); exact .inr (.inr (.inr (.inl hk))); exact .inr (.inr (.inr (.inr hk))))), h.inv, h.srt, h.k0, h.up, h.bx, h.br, h.xr, h.vr, h.ux, h.ox, h.vu⟩
theorem Pr.below (h : Pr w base p) (k : Below w.heap.size w w') : Pr w' base p := h.kept k.size (fun j hj => k.block j (h.fp_lt hj).2)
theorem Pr.tk1 (h : Pr w base p) : p.tk ≤ p.c.bu := ((h.inv p.tk).1 (Int.le_refl _)).1
/-- what a call on a pair leaves -/
structure Sl (w w' : World) (base : Nat) (p p' : Ps) : Prop where
  pr : Pr w' base p'
  ex : p'.x = p.x
  er : p'.r = p.r
  own : ∀ k, p'.fp k → p.fp k ∨ w.heap.size ≤ k
  os : w'.os = w.os
  tape : w'.tape = w.tape
  output : w'.output = w.output
  size : w.heap.size ≤ w'.heap.size
  block : ∀ k, k < w.heap.size → ¬ p.fp k → w'.heap[k]? = w.heap[k]?
  un : p'.us.length ≤ p.us.length + 1
  on : p'.own.length ≤ p.own.length + 1
theorem Pr.same (h : Pr w base p) (k : Below w.heap.size w w') : Sl w w' base p p := ⟨h.below k, rfl, rfl, fun _ q => .inl q, k.os, k.tape, k.output, k.size, fun j hj _ => k.block j hj, by omega, by omega⟩
theorem Sl.grow (h : Sl w w1 base p p') (k : Below w1.heap.size w1 w') : Sl w w' base p p' := ⟨h.pr.below k, h.ex, h.er, h.own, k.os.trans h.os, k.tape.trans h.tape, k.output.trans h.output, Nat.le_trans h.size k.size, fun j hj q => (k.block j (Nat.lt_of_lt_of_le hj h.size)).trans (h.block j hj q), h.un, h.on⟩
theorem Sl.pre (k : Below w.heap.size w w1) (P : Pr w base p) (h : Sl w1 w' base p p') : Sl w w' base p p' := ⟨h.pr, h.ex, h.er, fun j hj => by rcases h.own j hj with q | q; exact .inl q; exact .inr (Nat.le_trans k.size q), h.os.trans k.os, h.tape.trans k.tape, h.output.trans k.output, Nat.le_trans k.size h.size, fun j hj q => (h.block j (Nat.lt_of_lt_of_le hj k.size) q).trans (k.block j hj), h.un, h.on⟩
/-- what a call on the reference's box leaves -/
structure RL (w w' : World) (base b : Nat) (c : Cf) (now : Int) (us' : List Us) (own' : List Int) (uv ov uv' ov' : Value) : Prop where
  rb : Rb w' base b c now us' own' uv' ov'
  hu : ∀ k, uv'.ownBlock = some k → uv.ownBlock = some k ∨ w.heap.size ≤ k
  ho : ∀ k, ov'.ownBlock = some k → ov.ownBlock = some k ∨ w.heap.size ≤ k
  os : w'.os = w.os
  tape : w'.tape = w.tape
  output : w'.output = w.output
  size : w.heap.size ≤ w'.heap.size
  block : ∀ k, k < w.heap.size → k ≠ b → uv.ownBlock ≠ some k → ov.ownBlock ≠ some k → w'.heap[k]? = w.heap[k]?
theorem BL.rx {w1 : World} {v' : Value} {tk' ti' : Int} {ms' : List Mp} (h : Pr w base p) (B : BL w w1 base p.x p.c p.v v' tk' ti' ms') : Rx w1 base p.r p.c p.now p.us p.own p.uv p.ov p.tk p.ms :=
  h.rx.kept B.chg.size (fun k hk => by
    have hlt : k < w.heap.size := by
      rcases hk with rfl | hk | hk
      · exact h.rx.rb.lt
      · exact (h.rx.rb.ur.lt k hk).2
      · exact (own_lt1 h.rx.rb.owr k hk).2
    refine B.chg.block k hlt ?_ ?_
    · rintro rfl
      rcases hk with hk | hk | hk
      · exact h.xr hk
      · exact h.ux hk
      · exact h.ox hk
    · intro e
      rcases hk with rfl | hk | hk
      · exact h.vr e.symm
      · exact (h.vu k e.symm).1 hk
      · exact (h.vu k e.symm).2 hk)
/-- both have gone on -/
theorem Pr.step (h : Pr w base p) {v' uv' ov' : Value} {tk' now' : Int} {ms' : List Mp} {us' : List Us} {own' : List Int} (B : BL w w1 base p.x p.c p.v v' tk' now' ms') (R : RL w1 w' base p.r p.c now' us' own' p.uv p.ov uv' ov') (hx : Rb w' base p.r p.c now' us' own' uv' ov' → Rx w' base p.r p.c now' us' own' uv' ov' tk' ms')
    (hi : Inv p.c.bu p.c.ra now' (own'.reverse.map fun t => (t, true)) tk') (hs : own'.Pairwise (fun a b => a ≤ b)) (k0 : 0 ≤ tk') (hup : ∀ u ∈ us', 0 ≤ u.pr ∧ u.pr ≤ 255) (hun : us'.length ≤ p.us.length + 1) (hon : own'.length ≤ p.own.length + 1) :
    Sl w w' base p { p with now := now', tk := tk', ms := ms', us := us', own := own', v := v', uv := uv', ov := ov' } := by
  have h1 := B.chg.size
  have hxl := h.bat.lt
  have hrl := h.rx.rb.lt
  have vlt : ∀ k, v'.ownBlock = some k → k < w1.heap.size := fun k hk => (B.bat.row.lt k hk).2
  have vap : ∀ k, v'.ownBlock = some k → k ≠ p.r ∧ p.uv.ownBlock ≠ some k ∧ p.ov.ownBlock ≠ some k := fun k hk => by
    rcases B.own k hk with q | q
    · exact ⟨fun e => h.vr (by rw [← q, e]), (h.vu k q.symm).1, (h.vu k q.symm).2⟩
    · exact ⟨by omega, fun e => by have := (h.rx.rb.ur.lt k e).2; omega, fun e => by have := (own_lt1 h.rx.rb.owr k e).2; omega⟩
  have bat : Bat w' base p.x p.c tk' now' v' ms' := Bat.kept B.bat R.size (fun k hk => by
    rcases hk with rfl | hk
    · exact R.block _ (by omega) h.xr h.ux h.ox
    · exact R.block k (vlt k hk) (vap k hk).1 (vap k hk).2.1 (vap k hk).2.2)
  refine ⟨⟨bat, hx R.rb, hi, hs, k0, hup, h.bx, h.br, h.xr, fun e => (vap _ e).1 rfl, fun e => ?_, fun e => ?_, fun k hk => ⟨fun e => ?_, fun e => ?_⟩⟩, rfl, rfl, ?_, R.os.trans B.chg.os, R.tape.trans B.chg.tape, R.output.trans B.chg.output, Nat.le_trans h1 R.size, ?_, hun, hon⟩
  · rcases R.hu _ e with q | q
    · exact h.ux q
    · have q' : w1.heap.size ≤ p.x := q
      omega
  · rcases R.ho _ e with q | q
    · exact h.ox q
    · have q' : w1.heap.size ≤ p.x := q
      omega
  · rcases R.hu k e with q | q
    · exact (vap k hk).2.1 q
    · have := vlt k hk; omega
  · rcases R.ho k e with q | q
    · exact (vap k hk).2.2 q
    · have := vlt k hk; omega
  · intro k hk
    rcases hk with hk | hk | hk | hk | hk
    · exact .inl (.inl hk)
    · exact .inl (.inr (.inl hk))
    · rcases B.own k hk with q | q
      · exact .inl (.inr (.inr (.inl q.symm)))
      · exact .inr q
    · rcases R.hu k hk with q | q
      · exact .inl (.inr (.inr (.inr (.inl q))))
      · exact .inr (Nat.le_trans h1 q)
    · rcases R.ho k hk with q | q
      · exact .inl (.inr (.inr (.inr (.inr q))))
      · exact .inr (Nat.le_trans h1 q)
  · intro k hk q
    rw [R.block k (Nat.lt_of_lt_of_le hk h1) (fun e => q (.inr (.inl e))) (fun e => q (.inr (.inr (.inr (.inl e))))) (fun e => q (.inr (.inr (.inr (.inr e)))))]
    exact B.chg.block k hk (fun e => q (.inl e)) (fun e => q (.inr (.inr (.inl e.symm))))
end
end Go.Proofs.YthiljpbodmajaabGreat
namespace Go.Proofs.YthiljpbodmajaabGreat
open Go.RowKit Plain
set_option linter.unusedVariables false
/-- within Frame: the result's block and the verdict's are new, and not owned -/
structure Fst (w w1 : World) (base b : Nat) (c : Cf) (now : Int) (us : List Us) (own : List Int) (uv ov uv1 ov1 : Value) (z : Array Value) (K : Nat) (vs : Array Value) : Prop where
  rl : RL w w1 base b c now us own uv ov uv1 ov1
  r0 : w1.heap[w.heap.size]? = some (.cells z 132 (0, 0))
  r1 : w1.heap[K]? = some (.cells vs 136 (0, 0))
  hb : b < w.heap.size
  n1 : w.heap.size < K
  u0 : uv1.ownBlock ≠ some w.heap.size
  u1 : uv1.ownBlock ≠ some K
  o0 : ov1.ownBlock ≠ some w.heap.size
  o1 : ov1.ownBlock ≠ some K
section
variable {w w1 wa w' w2 : World} {base b g K : Nat} {c : Cf} {now : Int} {us : List Us} {own : List Int} {uv ov uv1 ov1 nv : Value} {z vs : Array Value} {u : Us}
theorem fst_start (T : Rb w base b c now us own uv ov) (S : St [(w.heap.size, z, 132), (K, vs, 136)] w w1) (hK : w.heap.size < K) : Fst w w1 base b c now us own uv ov uv ov z K vs := by
  have B := S.below
  have hu := T.ur.lt
  have ho := own_lt1 T.owr
  exact ⟨⟨T.below B, fun k h => .inl h, fun k h => .inl h, B.os, B.tape, B.output, B.size, fun k h _ _ _ => B.block k h⟩, S.get 0 rfl, S.get 1 rfl, T.lt, hK, fun e => by have := (hu _ e).2; omega, fun e => by have := (hu _ e).2; omega, fun e => by have := (ho _ e).2; omega, fun e => by have := (ho _ e).2; omega⟩
/-- a slice of the box has grown: the block of the slice is g, the cell's number i -/
theorem fst_grow (F : Fst w w1 base b c now us own uv ov uv1 ov1 z K vs) (row : Option Nat) (hrow : row = uv1.ownBlock ∨ row = ov1.ownBlock) (hB : Below w1.heap.size w1 wa) (hg : wa.grownBy w' row) (hat : row = some g ∨ g = wa.heap.size) (i : Nat) (e : w2.heap = (w'.setCell ⟨b, i, none⟩ nv).heap) (e1 : w2.os = w'.os) (e2 : w2.tape = w'.tape) (e3 : w2.output = w'.output) :
    (∀ k, k < w1.heap.size → k ≠ b → some k ≠ row → w2.heap[k]? = w1.heap[k]?) ∧ w2.heap[b]? = some (.cells ((rbc c now uv1 ov1).setIfInBounds i nv) 157 (0, 0)) ∧ w2.os = w.os ∧ w2.tape = w.tape ∧ w2.output = w.output ∧ w1.heap.size ≤ w2.heap.size ∧ g ≠ b ∧ g ≠ w.heap.size ∧ g ≠ K ∧
    (∀ k, k < w.heap.size → k ≠ b → uv.ownBlock ≠ some k → ov.ownBlock ≠ some k → w2.heap[k]? = w.heap[k]?) ∧ w2.heap[w.heap.size]? = some (.cells z 132 (0, 0)) ∧ w2.heap[K]? = some (.cells vs 136 (0, 0)) ∧ w2.heap[g]? = w'.heap[g]? := by
  have hb1 := F.rl.rb.lt
  have hs := F.rl.size
  have k0 : w.heap.size < w1.heap.size := (Array.getElem?_eq_some_iff.1 F.r0).1
  have k1 : K < w1.heap.size := (Array.getElem?_eq_some_iff.1 F.r1).1
  have nb : row ≠ some b := by rcases hrow with rfl | rfl; exact F.rl.rb.nu; exact F.rl.rb.no
  have n0 : row ≠ some w.heap.size := by rcases hrow with rfl | rfl; exact F.u0; exact F.o0
  have n1 : row ≠ some K := by rcases hrow with rfl | rfl; exact F.u1; exact F.o1
  have hbs := hB.size
  have gb : g ≠ b := by rcases hat with h | h; (intro q; rw [q] at h; exact nb h); omega
  have g0 : g ≠ w.heap.size := by rcases hat with h | h; (intro q; rw [q] at h; exact n0 h); omega
  have g1 : g ≠ K := by rcases hat with h | h; (intro q; rw [q] at h; exact n1 h); omega
  have all : ∀ k, k < w1.heap.size → k ≠ b → some k ≠ row → w2.heap[k]? = w1.heap[k]? := fun k h1 h2 h3 => by
    rw [e, Below.heap_setCell w' _ _ _ h2, hg.block k (by omega) h3, hB.block k h1]
  have hbe : w'.heap[b]? = some (.cells (rbc c now uv1 ov1) 157 (0, 0)) := by
    rw [hg.block b (by omega) (fun q => nb q.symm), hB.block b hb1]
    exact F.rl.rb.blk
  have sz : w2.heap.size = w'.heap.size := by rw [e]; simp [World.setCell]
  have h1 := hg.size
  refine ⟨all, by rw [e]; exact heap_setCell_same nv hbe, e1.trans (hg.os.trans (hB.os.trans F.rl.os)), e2.trans (hg.tape.trans (hB.tape.trans F.rl.tape)), e3.trans (hg.output.trans (hB.output.trans F.rl.output)), by omega, gb, g0, g1, ?_, ?_, ?_, ?_⟩
  · intro k q1 q2 q3 q4
    rw [all k (by omega) q2 ?_, F.rl.block k q1 q2 q3 q4]
    intro q
    rcases hrow with r | r
    · rcases F.rl.hu k (by rw [← r, ← q]) with x | x
      · exact q3 x
      · omega
    · rcases F.rl.ho k (by rw [← r, ← q]) with x | x
      · exact q4 x
      · omega
  · rw [all _ k0 (by have := F.hb; omega) (fun q => n0 q.symm)]; exact F.r0
  · rw [all _ k1 (by have := F.hb; have := F.n1; omega) (fun q => n1 q.symm)]; exact F.r1
  · rw [e, Below.heap_setCell w' _ _ _ gb]
theorem fst_use {n cap : Nat} (F : Fst w w1 base b c now us own uv ov uv1 ov1 z K vs) (hB : Below w1.heap.size w1 wa) (ho : w'.ownsRow base 134 7 (.slice (some ⟨g, 0, none⟩) n cap) (us.length + 1) (urowOf us ++ usl u)) (hg : wa.grownBy w' uv1.ownBlock) (hat : uv1.ownBlock = some g ∨ g = wa.heap.size) (e : w2.heap = (w'.setCell ⟨b, 13, none⟩ (.slice (some ⟨g, 0, none⟩) n cap)).heap) (e1 : w2.os = w'.os) (e2 : w2.tape = w'.tape) (e3 : w2.output = w'.output) :
    Fst w w2 base b c now (us ++ [u]) own uv ov (.slice (some ⟨g, 0, none⟩) n cap) ov1 z K vs := by
  obtain ⟨all, hb, o1, o2, o3, hs, gb, g0, g1, blk, r0, r1, hge⟩ := fst_grow F _ (.inl rfl) hB hg hat 13 e e1 e2 e3
  have go : ∀ k, (Value.slice (some ⟨g, 0, none⟩) n cap).ownBlock = some k → g = k := fun k h => by simpa [Value.ownBlock] using h
  have hbs := hB.size
  have hz := F.rl.size
  have ol := own_lt1 F.rl.rb.owr
  have gov : ov1.ownBlock ≠ some g := fun q => by
    rcases hat with h | h
    · exact F.rl.rb.nn g h q
    · have := (ol g q).2; omega
  refine ⟨⟨⟨by rw [hb]; rfl, ?_, own_keep1 F.rl.rb.owr (fun k hk => all k (ol k hk).2 (fun q => F.rl.rb.no (by rw [← q]; exact hk)) (fun q => F.rl.rb.nn k q.symm hk)), fun q => gb (go _ q), F.rl.rb.no, fun k hk => by rw [← go k hk]; exact gov, by have := F.rl.rb.bs; omega⟩, fun k hk => ?_, F.rl.ho, o1, o2, o3, by omega, blk⟩, r0, r1, F.hb, F.n1, fun q => g0 (go _ q), fun q => g1 (go _ q), F.o0, F.o1⟩
  · unfold Urow
    rw [urowOf_app, List.length_append]
    exact own_keep1 ho (fun k hk => by rw [← go k hk]; exact hge)
  · rw [← go k hk]
    rcases hat with h | h
    · exact F.rl.hu g h
    · exact .inr (by omega)
theorem fst_own {n cap : Nat} (F : Fst w w1 base b c now us own uv ov uv1 ov1 z K vs) (hB : Below w1.heap.size w1 wa) (ho : w'.ownsRow base 3 1 (.slice (some ⟨g, 0, none⟩) n cap) (own.length + 1) (ints own ++ [.int .i64 now])) (hg : wa.grownBy w' ov1.ownBlock) (hat : ov1.ownBlock = some g ∨ g = wa.heap.size) (e : w2.heap = (w'.setCell ⟨b, 14, none⟩ (.slice (some ⟨g, 0, none⟩) n cap)).heap) (e1 : w2.os = w'.os) (e2 : w2.tape = w'.tape) (e3 : w2.output = w'.output) :
    Fst w w2 base b c now us (own ++ [now]) uv ov uv1 (.slice (some ⟨g, 0, none⟩) n cap) z K vs := by
  obtain ⟨all, hb, o1, o2, o3, hs, gb, g0, g1, blk, r0, r1, hge⟩ := fst_grow F _ (.inr rfl) hB hg hat 14 e e1 e2 e3
  have go : ∀ k, (Value.slice (some ⟨g, 0, none⟩) n cap).ownBlock = some k → g = k := fun k h => by simpa [Value.ownBlock] using h
  have hbs := hB.size
  have hz := F.rl.size
  have ul := F.rl.rb.ur.lt
  have guv : uv1.ownBlock ≠ some g := fun q => by
    rcases hat with h | h
    · exact F.rl.rb.nn g q h
    · have := (ul g q).2; omega
  refine ⟨⟨⟨by rw [hb]; rfl, F.rl.rb.ur.kept (fun k hk => all k (ul k hk).2 (fun q => F.rl.rb.nu (by rw [← q]; exact hk)) (fun q => F.rl.rb.nn k hk q.symm)), ?_, F.rl.rb.nu, fun q => gb (go _ q), fun k hk q => guv (by rw [go k q]; exact hk), by have := F.rl.rb.bs; omega⟩, F.rl.hu, fun k hk => ?_, o1, o2, o3, by omega, blk⟩, r0, r1, F.hb, F.n1, F.u0, F.u1, fun q => g0 (go _ q), fun q => g1 (go _ q)⟩
  · rw [List.length_append, show ints (own ++ [now]) = ints own ++ [.int .i64 now] by simp [ints]]
    exact own_keep1 ho (fun k hk => by rw [← go k hk]; exact hge)
  · rw [← go k hk]
    rcases hat with h | h
    · exact F.rl.ho g h
    · exact .inr (by omega)
theorem RL.put (h : RL w w1 base b c now us own uv ov uv1 ov1) {K : Nat} (hK : w.heap.size ≤ K) (hb : b < w.heap.size) (hu : uv1.ownBlock ≠ some K) (ho : ov1.ownBlock ≠ some K) (i : Nat) (v : Value) : RL w (w1.setCell ⟨K, i, none⟩ v) base b c now us own uv ov uv1 ov1 :=
  ⟨h.rb.kept (by simp [World.setCell]) (fun k hk => Below.heap_setCell w1 _ _ _ (fun e => by
      rcases hk with hk | hk | hk
      · have : k = K := e
        omega
      · have q : k = K := e
        subst q
        exact hu hk
      · have q : k = K := e
        subst q
        exact ho hk)), h.hu, h.ho, h.os, h.tape, h.output, by simpa [World.setCell] using h.size, fun k q1 q2 q3 q4 => (Below.heap_setCell w1 _ _ _ (fun e => by have : k = K := e; omega)).trans (h.block k q1 q2 q3 q4)⟩
end
end Go.Proofs.YthiljpbodmajaabGreat
namespace Go.Proofs.YthiljpbodmajaabGreat
open Go.RowKit Plain
set_option linter.unusedVariables false
theorem rinfo_use : (Tryz.prog.info? 134).map (fun i => (i.zero, i.size, i.bytes)) = some (some (.agg #[.int .i64 0, .int .i64 0, .int .i64 0, .int .i64 0, .int .i64 0, .int .i64 0, .int .i64 0]), 7, 56) := by kernel_rfl

set_option maxHeartbeats 4000000 in
set_option maxRecDepth 2000 in
theorem rframe_core (b base : Nat) (c : Cf) (now : Int) (us : List Us) (own : List Int) (uv ov : Value) (d : Int) (s : ByteArray) (w : World) (T : Rb w base b c now us own uv ov) (a0 a1 : Int) (a2 : ByteArray) (a3 : Int) (a4 : Bool) (u : Us) (a12 : Bool)
    (cJ : ∀ wx, Below w.heap.size w wx → Calls Tryz.prog 95 #[.pointer (some ⟨b, 0, none⟩), .int .i64 d, .string s] wx fun r w' => r = .returned (.agg #[.int .i64 a0, .int .i64 a1, .string a2, .int .i64 a3, .bool a4, .int .i64 u.pr, .int .i64 u.ad, .int .i64 u.po, .int .i64 u.ex, .int .i64 u.pa, .int .i64 u.pp, .int .i64 u.ti, .bool a12]) ∧ Below wx.heap.size wx w') (hn : (us.length + 1) * 56 ≤ 140737488355328) (hm : (own.length + 1) * 8 ≤ 140737488355328) (us1 : List Us) (own1 : List Int) (hus : us1 = if a4 then us ++ [u] else us) (hown : own1 = if a12 then own ++ [now] else own) :
    Calls Tryz.prog 154 #[.pointer (some ⟨b, 0, none⟩), .int .i64 d, .string s] w fun r w' => r = .returned (.agg #[.int .i64 a0, .int .i64 a1, .string a2]) ∧ ∃ uv' ov', RL w w' base b c now us1 own1 uv ov uv' ov' := by
  have CJ : Hid _ := cJ
  have HT : Hid _ := T
  have HN : Hid _ := hn
  have HM : Hid _ := hm
  have HUS : Hid _ := hus
  have HOWN : Hid _ := hown
  clear cJ T hn hm hus hown
  obtain ⟨i0, hi0, z00, z01, z02⟩ := rinfo_parts rinfo_int
  obtain ⟨j0, hj0, y00, y01, y02⟩ := rinfo_parts rinfo_use
  have HI0 : Hid _ := hi0
  have Z00 : Hid _ := z00
  have Z01 : Hid _ := z01
  have Z02 : Hid _ := z02
  have HJ0 : Hid _ := hj0
  have Y00 : Hid _ := y00
  have Y01 : Hid _ := y01
  have Y02 : Hid _ := y02
  clear hi0 z00 z01 z02 hj0 y00 y01 y02
  go_enter Tryz.func154, Tryz.ntmps154
  go_upto_region 1 with fail
  have S_v0 : Hid (St [(w.heap.size, #[.int .i64 0, .int .i64 0, .string ⟨#[]⟩], 132)] w (w.alloc (.cells #[.int .i64 0, .int .i64 0, .string ⟨#[]⟩] 132))) := St.alloc (St.start w) #[.int .i64 0, .int .i64 0, .string ⟨#[]⟩] 132 (w.heap.size) rfl
  generalize (w.alloc (.cells #[.int .i64 0, .int .i64 0, .string ⟨#[]⟩] 132)) = v0 at S_v0 ⊢
  have hz_v0 : w.heap.size < v0.heap.size := St.lt S_v0.out (x := (w.heap.size, #[.int .i64 0, .int .i64 0, .string ⟨#[]⟩], 132)) (by simp)
  go_wp2_with fail
  refine Calls.mono (CJ.out _ (St.below S_v0.out)) ?_; rintro e w1 ⟨rfl, hb1⟩
  have S_w1 : Hid (St [(w.heap.size, #[.int .i64 0, .int .i64 0, .string ⟨#[]⟩], 132)] w w1) := St.next S_v0.out hb1
  clear S_v0 hb1
  have hz_w1 : w.heap.size < w1.heap.size := St.lt S_w1.out (x := (w.heap.size, #[.int .i64 0, .int .i64 0, .string ⟨#[]⟩], 132)) (by simp)
  rename_i KK hKK
  refine hKK _ _ ?_
  refine keep_vd [.int .i64 a0, .int .i64 a1, .string a2, .int .i64 a3, .bool a4, .int .i64 u.pr, .int .i64 u.ad, .int .i64 u.po, .int .i64 u.ex, .int .i64 u.pa, .int .i64 u.pp, .int .i64 u.ti, .bool a12] rfl rfl rfl rfl rfl (by simp [Value.oneCell']) (by simp [Act.eval, Act.put]) (by simp [Act.eval, Act.put]) ?_
  clear hKK
  clear KK
  have S_v1 : Hid (St [(w.heap.size, #[.int .i64 0, .int .i64 0, .string ⟨#[]⟩], 132), (w1.heap.size, #[.int .i64 a0, .int .i64 a1, .string a2, .int .i64 a3, .bool a4, .int .i64 u.pr, .int .i64 u.ad, .int .i64 u.po, .int .i64 u.ex, .int .i64 u.pa, .int .i64 u.pp, .int .i64 u.ti, .bool a12], 136)] w (w1.alloc (.cells #[.int .i64 a0, .int .i64 a1, .string a2, .int .i64 a3, .bool a4, .int .i64 u.pr, .int .i64 u.ad, .int .i64 u.po, .int .i64 u.ex, .int .i64 u.pa, .int .i64 u.pp, .int .i64 u.ti, .bool a12] 136))) := St.alloc S_w1.out #[.int .i64 a0, .int .i64 a1, .string a2, .int .i64 a3, .bool a4, .int .i64 u.pr, .int .i64 u.ad, .int .i64 u.po, .int .i64 u.ex, .int .i64 u.pa, .int .i64 u.pp, .int .i64 u.ti, .bool a12] 136 (w1.heap.size) rfl
  have hs_v1 : w1.heap.size < (w1.alloc (.cells #[.int .i64 a0, .int .i64 a1, .string a2, .int .i64 a3, .bool a4, .int .i64 u.pr, .int .i64 u.ad, .int .i64 u.po, .int .i64 u.ex, .int .i64 u.pa, .int .i64 u.pp, .int .i64 u.ti, .bool a12] 136)).heap.size := by simp
  generalize w1.alloc (.cells #[.int .i64 a0, .int .i64 a1, .string a2, .int .i64 a3, .bool a4, .int .i64 u.pr, .int .i64 u.ad, .int .i64 u.po, .int .i64 u.ex, .int .i64 u.pa, .int .i64 u.pp, .int .i64 u.ti, .bool a12] 136) = v1 at S_v1 hs_v1  ⊢
  clear S_w1
  have F0 : Hid (Fst w v1 base b c now us own uv ov uv ov #[.int .i64 0, .int .i64 0, .string ⟨#[]⟩] (w1.heap.size) #[.int .i64 a0, .int .i64 a1, .string a2, .int .i64 a3, .bool a4, .int .i64 u.pr, .int .i64 u.ad, .int .i64 u.po, .int .i64 u.ex, .int .i64 u.pa, .int .i64 u.pp, .int .i64 u.ti, .bool a12]) := fst_start HT.out S_v1.out (by have := hz_w1; omega)
  clear S_v1 CJ HT
  generalize w1.heap.size = K at F0 ⊢
  have qv4 : v1.cell? ⟨K, 4, none⟩ = some (.bool a4) := cell_of_row _ _ _ _ _ _ F0.out.r1
  go_upto_if 13 with fail
  try go_frame
  clear qv4
  go_cut [] (fun wx => ∃ uv1, Hid (Fst w wx base b c now us1 own uv ov uv1 ov #[.int .i64 0, .int .i64 0, .string ⟨#[]⟩] K #[.int .i64 a0, .int .i64 a1, .string a2, .int .i64 a3, .bool a4, .int .i64 u.pr, .int .i64 u.ad, .int .i64 u.po, .int .i64 u.ex, .int .i64 u.pa, .int .i64 u.pp, .int .i64 u.ti, .bool a12]))
  case first =>
    cases a4
    · have e : Hid (us1 = us) := HUS.out
      go_wp2_with fail
      go_meet
      exact ⟨uv, by rw [e.out]; exact F0.out⟩
    · have e : Hid (us1 = us ++ [u]) := HUS.out
      have qb13 : v1.cell? ⟨b, 13, none⟩ = some (uv) := F0.out.rl.rb.at 13 rfl
      have qv5 : v1.cell? ⟨K, 5, none⟩ = some (.int .i64 u.pr) := cell_of_row _ _ _ _ _ _ F0.out.r1
      have qv6 : v1.cell? ⟨K, 6, none⟩ = some (.int .i64 u.ad) := cell_of_row _ _ _ _ _ _ F0.out.r1
      have qv7 : v1.cell? ⟨K, 7, none⟩ = some (.int .i64 u.po) := cell_of_row _ _ _ _ _ _ F0.out.r1
      have qv8 : v1.cell? ⟨K, 8, none⟩ = some (.int .i64 u.ex) := cell_of_row _ _ _ _ _ _ F0.out.r1
      have qv9 : v1.cell? ⟨K, 9, none⟩ = some (.int .i64 u.pa) := cell_of_row _ _ _ _ _ _ F0.out.r1
      have qv10 : v1.cell? ⟨K, 10, none⟩ = some (.int .i64 u.pp) := cell_of_row _ _ _ _ _ _ F0.out.r1
      have qv11 : v1.cell? ⟨K, 11, none⟩ = some (.int .i64 u.ti) := cell_of_row _ _ _ _ _ _ F0.out.r1
      have hbl0 : b < v1.heap.size := F0.out.rl.rb.lt
      have hkl0 : K < v1.heap.size := (Array.getElem?_eq_some_iff.1 F0.out.r1).1
      have FZ : ∀ i, v1.frozen? ⟨b, i, none⟩ = false := fun i => nofrz F0.out.rl.rb.blk i
      have HLT : Hid (∀ k, uv.ownBlock = some k → base ≤ k ∧ k < v1.heap.size) := F0.out.rl.rb.ur.lt
      have HOW : Hid (v1.ownsRow base 134 7 uv us.length (urowOf us)) := F0.out.rl.rb.ur
      have HBS : Hid (base ≤ v1.heap.size) := F0.out.rl.rb.bs
      have HNB : Hid (uv.ownBlock ≠ some b) := F0.out.rl.rb.nu
      have HBL : Hid (b < v1.heap.size) := F0.out.rl.rb.lt
      have HBK : Hid _ := F0.out.rl.rb.blk
      go_wp2_with fail
      go_region_law (refine step_append_lies _ rfl _ _ 155 rfl base 134 j0 (.agg #[.int .i64 0, .int .i64 0, .int .i64 0, .int .i64 0, .int .i64 0, .int .i64 0, .int .i64 0]) 7 56 Tryz.underlying155 HJ0.out Y00.out Y01.out Y02.out rfl (by decide) uv us.length (urowOf us) rfl (own_keep1 HOW.out (fun k hk => push_lt v1.heap _ k (HLT.out k hk).2)) ⟨v1.heap.size, 0, none⟩ 1 1 (usl u) rfl rfl (World.news_of_block (B := v1.heap.size) (cs := #[.int .i64 u.pr, .int .i64 u.ad, .int .i64 u.po, .int .i64 u.ex, .int .i64 u.pa, .int .i64 u.pp, .int .i64 u.ti]) (push_at v1.heap _ _ rfl)) (usl_one u) (by decide) (by have := HN.out; unfold maxLen; omega) HN.out (Nat.le_trans HBS.out (by simp)) _ rfl ?_; intro g cap wq ho hg hl hz; have HO : Hid _ := ho; have HG : Hid _ := hg; have HL : Hid _ := hl; have HBQ : Hid (wq.heap[b]? = some (.cells (rbc c now uv ov) 157 (0, 0))) := (HG.out.block b (by have := HBL.out; simp; omega) (fun q => HNB.out q.symm)).trans ((push_lt v1.heap _ b HBL.out).trans HBK.out); have FQ : ∀ i, wq.frozen? ⟨b, i, none⟩ = false := fun i => nofrz HBQ.out i; have hbq : b < wq.heap.size := (Array.getElem?_eq_some_iff.1 HBQ.out).1; have qq : wq.cell? ⟨b, 13, none⟩ = some uv := cell_of_row _ _ _ _ _ _ HBQ.out; clear ho hg hl hz)
      all_goals
        go_wp2_with fail
        go_meet
        exact ⟨_, by rw [e.out]; exact fst_use F0.out ((Below.refl _ _).alloc (Nat.le_refl _) _).drew HO.out HG.out HL.out rfl rfl rfl rfl⟩
  case rest =>
    obtain ⟨uv1, F1⟩ := hcut
    clear F0 HUS
    obtain ⟨w2, hw2⟩ : ∃ w2 : World, w2 = wc := ⟨_, rfl⟩
    subst hw2
    have qv12 : w2.cell? ⟨K, 12, none⟩ = some (.bool a12) := cell_of_row _ _ _ _ _ _ F1.out.r1
    go_upto_if 26 with fail
    try go_frame
    clear qv12
    go_cut [] (fun wx => ∃ ov1, Hid (Fst w wx base b c now us1 own1 uv ov uv1 ov1 #[.int .i64 0, .int .i64 0, .string ⟨#[]⟩] K #[.int .i64 a0, .int .i64 a1, .string a2, .int .i64 a3, .bool a4, .int .i64 u.pr, .int .i64 u.ad, .int .i64 u.po, .int .i64 u.ex, .int .i64 u.pa, .int .i64 u.pp, .int .i64 u.ti, .bool a12]))
    case first =>
      cases a12
      · have e : Hid (own1 = own) := HOWN.out
        go_wp2_with fail
        go_meet
        exact ⟨ov, by rw [e.out]; exact F1.out⟩
      · have e : Hid (own1 = own ++ [now]) := HOWN.out
        have qb14 : w2.cell? ⟨b, 14, none⟩ = some (ov) := F1.out.rl.rb.at 14 rfl
        have qb12 : w2.cell? ⟨b, 12, none⟩ = some (.int .i64 now) := F1.out.rl.rb.at 12 rfl
        have hbl0 : b < w2.heap.size := F1.out.rl.rb.lt
        have FZ : ∀ i, w2.frozen? ⟨b, i, none⟩ = false := fun i => nofrz F1.out.rl.rb.blk i
        have HLT : Hid (∀ k, ov.ownBlock = some k → base ≤ k ∧ k < w2.heap.size) := own_lt1 F1.out.rl.rb.owr
        have HOW : Hid (w2.ownsRow base 3 1 ov own.length (ints own)) := F1.out.rl.rb.owr
        have HBS : Hid (base ≤ w2.heap.size) := F1.out.rl.rb.bs
        have HNB : Hid (ov.ownBlock ≠ some b) := F1.out.rl.rb.no
        have HBL : Hid (b < w2.heap.size) := F1.out.rl.rb.lt
        have HBK : Hid _ := F1.out.rl.rb.blk
        go_wp2_with fail
        go_region_law (refine step_append_lies _ rfl _ _ 26 rfl base 3 i0 (.int .i64 0) 1 8 Tryz.underlying26 HI0.out Z00.out Z01.out Z02.out rfl (by decide) ov own.length (ints own) rfl (own_keep1 HOW.out (fun k hk => push_lt w2.heap _ k (HLT.out k hk).2)) ⟨w2.heap.size, 0, none⟩ 1 1 [.int .i64 now] rfl rfl (World.news_of_block (B := w2.heap.size) (cs := #[.int .i64 now]) (push_at w2.heap _ _ rfl)) (by intro v hv; simp at hv; subst hv; rfl) (by decide) (by have := HM.out; unfold maxLen; omega) HM.out (Nat.le_trans HBS.out (by simp)) _ rfl ?_; intro g cap wq ho hg hl hz; have HO : Hid _ := ho; have HG : Hid _ := hg; have HL : Hid _ := hl; have HBQ : Hid (wq.heap[b]? = some (.cells (rbc c now uv1 ov) 157 (0, 0))) := (HG.out.block b (by have := HBL.out; simp; omega) (fun q => HNB.out q.symm)).trans ((push_lt w2.heap _ b HBL.out).trans HBK.out); have FQ : ∀ i, wq.frozen? ⟨b, i, none⟩ = false := fun i => nofrz HBQ.out i; have hbq : b < wq.heap.size := (Array.getElem?_eq_some_iff.1 HBQ.out).1; have qq : wq.cell? ⟨b, 14, none⟩ = some ov := cell_of_row _ _ _ _ _ _ HBQ.out; clear ho hg hl hz)
        all_goals
          go_wp2_with fail
          go_meet
          exact ⟨_, by rw [e.out]; exact fst_own F1.out ((Below.refl _ _).alloc (Nat.le_refl _) _).drew HO.out HG.out HL.out rfl rfl rfl rfl⟩
    case rest =>
      obtain ⟨ov1, F2⟩ := hcut
      clear F1 HOWN
      obtain ⟨w3, hw3⟩ : ∃ w3 : World, w3 = wc := ⟨_, rfl⟩
      subst hw3
      have qv0 : w3.cell? ⟨K, 0, none⟩ = some (.int .i64 a0) := cell_of_row _ _ _ _ _ _ F2.out.r1
      have qv1 : w3.cell? ⟨K, 1, none⟩ = some (.int .i64 a1) := cell_of_row _ _ _ _ _ _ F2.out.r1
      have qv2 : w3.cell? ⟨K, 2, none⟩ = some (.string a2) := cell_of_row _ _ _ _ _ _ F2.out.r1
      have FZ : ∀ i, w3.frozen? ⟨w.heap.size, i, none⟩ = false := fun i => nofrz F2.out.r0 i
      have qr0 : w3.cell? ⟨w.heap.size, 0, none⟩ = some (.int .i64 0) := cell_of_row _ _ _ _ _ _ F2.out.r0
      have qr1 : w3.cell? ⟨w.heap.size, 1, none⟩ = some (.int .i64 0) := cell_of_row _ _ _ _ _ _ F2.out.r0
      have qr2 : w3.cell? ⟨w.heap.size, 2, none⟩ = some (.string ⟨#[]⟩) := cell_of_row _ _ _ _ _ _ F2.out.r0
      have hlt : w.heap.size < w3.heap.size := (Array.getElem?_eq_some_iff.1 F2.out.r0).1
      have P : Hid (∀ v0 v1 v2 : Value, RL w (((w3.setCell ⟨w.heap.size, 0, none⟩ v0).setCell ⟨w.heap.size, 1, none⟩ v1).setCell ⟨w.heap.size, 2, none⟩ v2) base b c now us1 own1 uv ov uv1 ov1) := fun v0 v1 v2 => ((F2.out.rl.put (Nat.le_refl _) F2.out.hb F2.out.u0 F2.out.o0 0 v0).put (Nat.le_refl _) F2.out.hb F2.out.u0 F2.out.o0 1 v1).put (Nat.le_refl _) F2.out.hb F2.out.u0 F2.out.o0 2 v2
      go_wp2
      exact bodyPost_ret (v := .agg #[.int .i64 a0, .int .i64 a1, .string a2]) (by simp [results, Tryz.results154, go_sem, qr0, qr1, qr2]) rfl ⟨rfl, _, _, P.out _ _ _⟩

end Go.Proofs.YthiljpbodmajaabGreat
