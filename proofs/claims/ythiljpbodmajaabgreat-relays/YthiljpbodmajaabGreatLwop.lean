/-
  A LIST OF PAIRS IN MEMORY, and a script.
-/
import Derived.Test.YthiljpbodmajaabGreatLwst
import Derived.Test.YthiljpbodmajaabGreatLwbe
import Derived.ProofKit
import Derived.OpenShut
import Derived.ChangeOld
import Derived.Deep.Slices
namespace Go.Proofs.YthiljpbodmajaabGreat
open Go.RowKit Plain
set_option linter.unusedVariables false
/-- a step of a script -/
structure Op1 where
  k : Int
  bx : Int
  n : Int
  s : ByteArray
  c : Cf
  see : Bool
def opl (o : Op1) : List Value := [.int .i64 o.k, .int .i64 o.bx, .int .i64 o.n, .string o.s, .int .i64 o.c.ia, .int .i64 o.c.oa, .int .i64 o.c.lo, .int .i64 o.c.hi, .int .i64 o.c.cp, .int .i64 o.c.im, .int .i64 o.c.om, .int .i64 o.c.iu, .int .i64 o.c.it, .int .i64 o.c.iq, .int .i64 o.c.bu, .int .i64 o.c.ra, .bool o.see]
theorem opl_one (o : Op1) : ∀ v ∈ opl o, v.oneCell' = true := by simp [opl, Value.oneCell']
/-- its numbers are numbers of Go -/
structure Ok1 (o : Op1) : Prop where
  b0 : -9223372036854775808 ≤ o.bx
  b1 : o.bx < 9223372036854775808
  n0 : -9223372036854775808 ≤ o.n
  n1 : o.n < 9223372036854775808
  s : o.s.size ≤ maxLen
  a0 : o.c.ia < 9223372036854775808
  a1 : o.c.oa < 9223372036854775808
def prl (p : Ps) : List Value := [.pointer (some ⟨p.x, 0, none⟩), .pointer (some ⟨p.r, 0, none⟩)]
def prow (ps : List Ps) : List Value := ps.flatMap prl
theorem prow_at (ps : List Ps) (i j : Nat) (hj : j < 2) : (prow ps)[i * 2 + j]? = (ps[i]?).bind fun m => (prl m)[j]? := by
  induction ps generalizing i with
  | nil => simp [prow]
  | cons m ms ih =>
    simp only [prow, List.flatMap_cons] at *
    cases i with
    | zero => rw [List.getElem?_append_left (by simp [prl]; omega)]; simp
    | succ i =>
      rw [List.getElem?_append_right (by simp [prl]; omega), show (prl m).length = 2 from rfl, show (i + 1) * 2 + j - 2 = i * 2 + j by omega, ih]
      simp
theorem prow_app (ps : List Ps) (p : Ps) : prow (ps ++ [p]) = prow ps ++ prl p := by simp [prow]
theorem prow_set : ∀ (ps : List Ps) (j : Nat) (p p' : Ps), ps[j]? = some p → p'.x = p.x → p'.r = p.r → prow (ps.set j p') = prow ps
  | [], j, p, p', h, _, _ => by simp at h
  | q :: ps, 0, p, p', h, h1, h2 => by
    have e : q = p := by simpa using h
    subst e
    simp only [prow, List.set_cons_zero, List.flatMap_cons, prl, h1, h2]
  | q :: ps, j + 1, p, p', h, h1, h2 => by
    have := prow_set ps j p p' (by simpa using h) h1 h2
    simp only [prow, List.set_cons_succ, List.flatMap_cons] at this ⊢
    rw [this]
/-- the boxes that there are -/
structure Ast (w0 wr : World) (lv : Value) (ps : List Ps) (N : Nat) : Prop where
  all : ∀ p ∈ ps, Pr wr w0.heap.size p ∧ p.us.length ≤ N ∧ p.own.length ≤ N
  ap : ps.Pairwise (fun p q => ∀ k, p.fp k → ¬ q.fp k)
  row : wr.ownsRow w0.heap.size 97 2 lv ps.length (prow ps)
  nl : ∀ p ∈ ps, ∀ k, lv.ownBlock = some k → ¬ p.fp k
  below : Below w0.heap.size w0 wr
  len : ps.length ≤ N
section
variable {w0 wr w1 w' wa : World} {lv nv : Value} {ps : List Ps} {N : Nat} {p p' : Ps}
theorem Ast.start (w0 : World) : Ast w0 w0 (.slice none 0 0) [] 0 := ⟨by simp, List.Pairwise.nil, World.ownsRow_nil _ _ _ _, by simp, Below.refl _ _, Nat.le_refl _⟩
theorem Ast.lt (h : Ast w0 wr lv ps N) : ∀ k, lv.ownBlock = some k → w0.heap.size ≤ k ∧ k < wr.heap.size := own_lt1 h.row
theorem Ast.grow (h : Ast w0 wr lv ps N) (k : Below wr.heap.size wr w') : Ast w0 w' lv ps N :=
  ⟨fun p hp => ⟨(h.all p hp).1.below k, (h.all p hp).2⟩, h.ap, own_keep1 h.row (fun g hg => k.block g (h.lt g hg).2), h.nl, h.below.trans (k.mono h.below.size), h.len⟩
theorem Ast.more (h : Ast w0 wr lv ps N) : Ast w0 wr lv ps (N + 1) := ⟨fun p hp => ⟨(h.all p hp).1, by have := (h.all p hp).2; omega⟩, h.ap, h.row, h.nl, h.below, by have := h.len; omega⟩
theorem Ast.form (h : Ast w0 wr lv ps N) : ∃ gg cap, lv = .slice gg ps.length cap ∧ ∀ (j : Nat) (q : Ps), ps[j]? = some q → ∃ g, gg = some ⟨g, 0, none⟩ ∧ lv.ownBlock = some g ∧ ps.length ≤ cap ∧ cap ≤ maxLen ∧ wr.rangeAt g (j * 2) (prl q) := by
  rcases h.row.2 with ⟨h1, h2⟩ | ⟨g, cap, cur, rfl, h2, h3, h4, h5, h6, h7⟩
  · refine ⟨none, 0, by rw [h2]; exact h1, fun j q hq => ?_⟩
    rw [List.length_eq_zero_iff.1 h2] at hq
    simp at hq
  · refine ⟨_, cap, rfl, fun j q hq => ⟨g, rfl, by simp [Value.ownBlock], h4, h5, fun i v hv => ?_⟩⟩
    have hi : i < 2 := by have := (List.getElem?_eq_some_iff.1 hv).1; simpa [prl] using this
    have hj : j < ps.length := (List.getElem?_eq_some_iff.1 hq).1
    have e := prow_at ps j i hi
    rw [← h7, List.getElem?_take, if_pos (by omega), hq] at e
    rw [cell_of_row wr g (j * 2 + i) cur _ _ h3]
    simp only [Option.bind_some] at e
    rw [← hv, ← e]
    simp
theorem Ast.apart (h : Ast w0 wr lv ps N) {i j : Nat} {q : Ps} (hi : ps[i]? = some p) (hj : ps[j]? = some q) (hn : i ≠ j) : ∀ k, p.fp k → ¬ q.fp k := by
  obtain ⟨l1, e1⟩ := List.getElem?_eq_some_iff.1 hi
  obtain ⟨l2, e2⟩ := List.getElem?_eq_some_iff.1 hj
  have P := List.pairwise_iff_getElem.1 h.ap
  rcases Nat.lt_or_gt_of_ne hn with q1 | q1
  · have := P i j l1 l2 q1
    rw [e1, e2] at this
    exact this
  · have := P j i l2 l1 q1
    rw [e1, e2] at this
    exact fun k a b => this k b a
/-- a step on one of the pairs -/
theorem Ast.step (h : Ast w0 wr lv ps N) {j : Nat} (hp : ps[j]? = some p) (S : Sl wr w' w0.heap.size p p') : Ast w0 w' lv (ps.set j p') (N + 1) := by
  have hmem := List.mem_of_getElem? hp
  have P := h.all p hmem
  have key : ∀ (i : Nat) (q : Ps), ps[i]? = some q → i ≠ j → Pr w' w0.heap.size q := fun i q hq hn =>
    (h.all q (List.mem_of_getElem? hq)).1.kept S.size (fun k hk => S.block k ((h.all q (List.mem_of_getElem? hq)).1.fp_lt hk).2 (h.apart hq hp hn k hk))
  have new : ∀ (i : Nat) (q : Ps), ps[i]? = some q → i ≠ j → ∀ k, p'.fp k → ¬ q.fp k := fun i q hq hn k hk hqk => by
    rcases S.own k hk with a | a
    · exact h.apart hp hq (Ne.symm hn) k a hqk
    · have := ((h.all q (List.mem_of_getElem? hq)).1.fp_lt hqk).2; omega
  have get : ∀ (i : Nat) (q : Ps), (ps.set j p')[i]? = some q → (i = j ∧ q = p') ∨ (i ≠ j ∧ ps[i]? = some q) := fun i q hq => by
    rw [List.getElem?_set] at hq
    split at hq
    · rename_i e
      split at hq
      · exact .inl ⟨e.symm, (Option.some.inj hq).symm⟩
      · cases hq
    · rename_i e
      exact .inr ⟨fun q => e q.symm, hq⟩
  refine ⟨fun q hq => ?_, ?_, ?_, fun q hq k hk => ?_, ?_, by rw [List.length_set]; have := h.len; omega⟩
  · obtain ⟨i, hi⟩ := List.getElem?_of_mem hq
    rcases get i q hi with ⟨_, rfl⟩ | ⟨hn, hi'⟩
    · exact ⟨S.pr, by have := S.un; omega, by have := S.on; omega⟩
    · exact ⟨key i q hi' hn, by have := (h.all q (List.mem_of_getElem? hi')).2; omega⟩
  · rw [List.pairwise_iff_getElem]
    intro a b l1 l2 hab k h1 h2
    have g1 := get a _ (List.getElem?_eq_getElem l1)
    have g2 := get b _ (List.getElem?_eq_getElem l2)
    rcases g1 with ⟨rfl, e1⟩ | ⟨n1, e1⟩
    · rcases g2 with ⟨rfl, e2⟩ | ⟨n2, e2⟩
      · omega
      · rw [e1] at h1; exact new b _ e2 n2 k h1 h2
    · rcases g2 with ⟨rfl, e2⟩ | ⟨n2, e2⟩
      · rw [e2] at h2; exact new a _ e1 n1 k h2 h1
      · exact h.apart e1 e2 (by omega) k h1 h2
  · rw [List.length_set, prow_set ps j p p' hp S.ex S.er]
    exact own_keep1 h.row (fun k hk => S.block k (h.lt k hk).2 (h.nl p hmem k hk))
  · obtain ⟨i, hi⟩ := List.getElem?_of_mem hq
    rcases get i q hi with ⟨_, rfl⟩ | ⟨hn, hi'⟩
    · intro hf
      rcases S.own k hf with a | a
      · exact h.nl p hmem k hk a
      · have := (h.lt k hk).2; omega
    · exact h.nl q (List.mem_of_getElem? hi') k hk
  · refine ⟨S.os.trans h.below.os, S.tape.trans h.below.tape, S.output.trans h.below.output, Nat.le_trans h.below.size S.size, fun k hk => ?_⟩
    rw [S.block k (Nat.lt_of_lt_of_le hk h.below.size) (fun hf => by have := (P.1.fp_lt hf).1; omega)]
    exact h.below.block k hk
/-- a pair more -/
theorem Ast.add {g cap : Nat} (h : Ast w0 wr lv ps N) (B1 : Below wr.heap.size wr w1) (P : Pr w1 w0.heap.size p) (hp : ∀ k, p.fp k → wr.heap.size ≤ k) (hu : p.us.length ≤ N + 1) (ho' : p.own.length ≤ N + 1) (B2 : Below w1.heap.size w1 wa)
    (ho : w'.ownsRow w0.heap.size 97 2 (.slice (some ⟨g, 0, none⟩) (ps.length + 1) cap) (ps.length + 1) (prow ps ++ prl p)) (hg : wa.grownBy w' lv.ownBlock) (hat : lv.ownBlock = some g ∨ g = wa.heap.size) : Ast w0 w' (.slice (some ⟨g, 0, none⟩) (ps.length + 1) cap) (ps ++ [p]) (N + 1) := by
  have s1 := B1.size
  have s2 := B2.size
  have s3 := hg.size
  have go : ∀ k, (Value.slice (some ⟨g, 0, none⟩) (ps.length + 1) cap).ownBlock = some k → g = k := fun k q => by simpa [Value.ownBlock] using q
  have old : ∀ k, k < wr.heap.size → lv.ownBlock ≠ some k → w'.heap[k]? = wr.heap[k]? := fun k q1 q2 => by
    rw [hg.block k (by omega) (fun e => q2 e.symm), B2.block k (by omega), B1.block k q1]
  have P' : Pr w' w0.heap.size p := P.kept (by omega) (fun k hk => by
    have := (P.fp_lt hk).2
    rw [hg.block k (by omega) (fun e => by have := (h.lt k e.symm).2; have := hp k hk; omega), B2.block k this])
  refine ⟨fun q hq => ?_, ?_, ?_, fun q hq k hk => ?_, ?_, by rw [List.length_append]; have := h.len; simp; omega⟩
  · rcases List.mem_append.1 hq with hq | hq
    · exact ⟨(h.all q hq).1.kept (by omega) (fun k hk => old k ((h.all q hq).1.fp_lt hk).2 (fun e => h.nl q hq k e hk)), by have := (h.all q hq).2; omega⟩
    · have e : q = p := by simpa using hq
      subst e
      exact ⟨P', hu, ho'⟩
  · rw [List.pairwise_append]
    refine ⟨h.ap, List.pairwise_singleton _ _, fun a ha b hb k h1 h2 => ?_⟩
    have e : b = p := by simpa using hb
    subst e
    have := ((h.all a ha).1.fp_lt h1).2
    have := hp k h2
    omega
  · rw [List.length_append, prow_app]
    exact ho
  · rw [← go k hk]
    rcases List.mem_append.1 hq with hq | hq
    · intro hf
      rcases hat with e | e
      · exact h.nl q hq g e hf
      · have := ((h.all q hq).1.fp_lt hf).2; omega
    · have e : q = p := by simpa using hq
      subst e
      intro hf
      rcases hat with e | e
      · have := (h.lt g e).2; have := hp g hf; omega
      · have := (P.fp_lt hf).2; omega
  · refine ⟨hg.os.trans (B2.os.trans (B1.os.trans h.below.os)), hg.tape.trans (B2.tape.trans (B1.tape.trans h.below.tape)), hg.output.trans (B2.output.trans (B1.output.trans h.below.output)), by have := h.below.size; omega, fun k hk => ?_⟩
    rw [old k (Nat.lt_of_lt_of_le hk h.below.size) (fun e => by have := (h.lt k e).1; omega)]
    exact h.below.block k hk
end
/-- the show's four -/
structure Shw where
  b0 : Bool
  b1 : Bool
  b2 : Bool
  b3 : Bool
/-- a step of a script on a pair -/
theorem Pr.play {w : World} {base : Nat} {p : Ps} (h : Pr w base p) (o : Op1) (O : Ok1 o) (t : Shw) (hn : (p.us.length + 1) * 56 ≤ 140737488355328) (hm : (p.own.length + 1) * 8 ≤ 140737488355328) :
    Calls Tryz.prog 58 #[.agg #[.pointer (some ⟨p.x, 0, none⟩), .pointer (some ⟨p.r, 0, none⟩)], .agg (opl o).toArray, .agg #[.bool t.b0, .bool t.b1, .bool t.b2, .bool t.b3]] w fun e w' => e = .returned (.bool true) ∧ ∃ p', Sl w w' base p p' := by
  obtain ⟨k, bx, n, s, ⟨a0, a1, a2, a3, a4, a5, a6, a7, a8, a9, a10, a11⟩, see⟩ := o
  have kB : ∀ wx, Below w.heap.size w wx → ∃ p', Sl w wx base p p' := fun wx hb => ⟨p, h.same hb⟩
  have hs : s.size ≤ maxLen := O.s
  by_cases h2 : k = 2
  · subst h2
    obtain ⟨so, usd, u, td, cJ, J⟩ := rjudge_all h.rx n s hs
    obtain ⟨bv, cS⟩ := shown_any t.b0 t.b1 t.b2 t.b3 so
    exact step_frame p.x p.r bx n s a0 a1 a2 a3 a4 a5 a6 a7 a8 a9 a10 a11 see t.b0 t.b1 t.b2 t.b3 w _ kB _ _ _ so _ _ _ _ _ _ _ _ _ bv cJ cS (fun wx hb => ((h.below hb).framed n s hs hn hm).mono (fun e w' ⟨he, p', S⟩ => ⟨he, p', Sl.pre hb h S⟩))
  · by_cases h3 : k = 3
    · subst h3
      exact step_tick p.x p.r bx n s a0 a1 a2 a3 a4 a5 a6 a7 a8 a9 a10 a11 see t.b0 t.b1 t.b2 t.b3 w _ kB (fun wx hb => ((h.below hb).ticked n O.n0 O.n1).mono (fun e w' ⟨he, p', S⟩ => ⟨he, p', Sl.pre hb h S⟩))
    · by_cases h4 : k = 4
      · subst h4
        exact step_look p.x p.r bx n s a0 a1 a2 a3 a4 a5 a6 a7 a8 a9 a10 a11 see t.b0 t.b1 t.b2 t.b3 w _ kB (fun wx hb => ((h.below hb).mapped n).mono (fun e w' ⟨he, B⟩ => ⟨he, p, h.same (hb.trans (B.mono hb.size))⟩))
      · by_cases h6 : k = 6
        · subst h6
          exact step_live p.x p.r bx n s a0 a1 a2 a3 a4 a5 a6 a7 a8 a9 a10 a11 see t.b0 t.b1 t.b2 t.b3 w _ kB p.ms.length (fun wx hb => plive_any (h.bat.below hb) h.hz) (fun wx hb => by
            have := rlive_any (h.rx.rb.below hb) h.rx.uok h.rx.t2
            rw [h.rx.sim.seen.2.2] at this
            exact this)
        · by_cases h7 : k = 7
          · subst h7
            exact step_coins p.x p.r bx n s a0 a1 a2 a3 a4 a5 a6 a7 a8 a9 a10 a11 see t.b0 t.b1 t.b2 t.b3 w _ kB p.tk (fun wx hb => ptok_any (h.bat.below hb)) (fun wx hb => (h.rx.below hb).tokens)
          · exact step_else p.x p.r bx n s a0 a1 a2 a3 a4 a5 a6 a7 a8 a9 a10 a11 see t.b0 t.b1 t.b2 t.b3 w _ kB k (by simpa using h2) (by simpa using h3) (by simpa using h4) (by simpa using h6) (by simpa using h7)
/-- a new pair -/
theorem made_new (c : Cf) (wx : World) (g0 : c.ia < 9223372036854775808) (g1 : c.oa < 9223372036854775808) (hv : c.ok = true) (base : Nat) (hb : base ≤ wx.heap.size) : Calls Tryz.prog 56 #[.agg #[.int .i64 c.ia, .int .i64 c.oa, .int .i64 c.lo, .int .i64 c.hi, .int .i64 c.cp, .int .i64 c.im, .int .i64 c.om, .int .i64 c.iu, .int .i64 c.it, .int .i64 c.iq, .int .i64 c.bu, .int .i64 c.ra]] wx fun e w' => ∃ x r : Nat, e = .returned (.tuple #[.agg #[.pointer (some ⟨x, 0, none⟩), .pointer (some ⟨r, 0, none⟩)], .bool true]) ∧ Below wx.heap.size wx w' ∧ Pr w' base (ps0 c x r) ∧ (∀ k, (ps0 c x r).fp k → wx.heap.size ≤ k) := by
  refine (made_yes c.ia c.oa c.lo c.hi c.cp c.im c.om c.iu c.it c.iq c.bu c.ra wx g0 g1 hv).mono ?_
  rintro e w' ⟨x, r, rfl, hB, hx, hr, hn, Bx, Br⟩
  have hs := hB.size
  refine ⟨x, r, rfl, hB, pr0 hv (by omega) (by omega) (by omega) hn Bx Br, fun k hk => ?_⟩
  rcases hk with e | e | e | e | e
  · have : k = x := e
    omega
  · have : k = r := e
    omega
  · cases e
  · cases e
  · cases e
end Go.Proofs.YthiljpbodmajaabGreat
namespace Go.Proofs.YthiljpbodmajaabGreat
open Go.ChangeShapes Go.WideShapes Go.RowKit Go.Deep
set_option linter.unusedVariables false
section
variable {H : Type} {enc : TypeId × Value → H} {P : Program} {w : World} {base : Nat} {spare : Nat → Bool} {held : Bool} {r : Reach} {b0 : Nat}
/-- a slice of structs: 'Q' is what is said of an element's cells -/
theorem open_slice_of {t e : TypeId} {v : Value} {d : DataW H} {p : List MemPlace} {α : Type} [Inhabited α] (k : Nat) (Q : List Value → α → Prop) (ht : P.underlying t = some (.slice e)) (hc : P.cellsOf e = k) (hk : 0 < k)
    (hQ : ∀ n cs x, DataW.trod enc P w base (fun _ => true) held n e cs = some x → ∃ z, Q cs z)
    (hv : Value.okWide P w r b0 t v) (h : DataW.Trod enc P w base (fun _ => true) held t v d p) (hlt : ∀ x ∈ p, x.block < w.heap.size) :
    ∃ (A off len cap : Nat) (ao : Option Addr) (zs : List α), v = .slice ao len cap ∧ (0 < len → ao = some ⟨A, off, none⟩) ∧ (0 < len → A < w.heap.size) ∧ zs.length = len ∧ (∀ (j : Nat) z, zs[j]? = some z → ∃ cs, cs.length = k ∧ Q cs z ∧ ∀ i, i < k → w.cell? ⟨A, off + j * k + i, none⟩ = cs[i]?) ∧ len ≤ maxLen ∧
      ((d = .nil ∧ len = 0) ∨ ∃ el sp, d = .slice el sp ∧ el.length = len) := by
  obtain ⟨ao, len, cap, rfl⟩ := okWide_slice ht hv
  obtain ⟨fuel, hf⟩ := h
  rcases open_slice ht hf with ⟨hcs, hx⟩ | ⟨a, len', cap', m, n, D, Pl, hcs, _, hl, hm, hmm, hx, hel⟩
  · simp [Value.cells] at hcs
    obtain ⟨rfl, rfl, rfl⟩ := hcs
    simp only [Prod.mk.injEq] at hx
    exact ⟨0, 0, 0, 0, none, [], rfl, by simp, by simp, rfl, by simp, by simp, .inl ⟨hx.1, rfl⟩⟩
  · simp [Value.cells] at hcs
    obtain ⟨rfl, rfl, rfl⟩ := hcs
    simp only [Prod.mk.injEq] at hx
    obtain ⟨rfl, rfl⟩ := hx
    simp only [if_true] at hmm
    have hml : len ≤ maxLen := Nat.le_trans hl hm
    rcases Nat.eq_zero_or_pos len with h0 | hp
    · subst h0
      exact ⟨0, 0, 0, cap, some a, [], rfl, by simp, by simp, rfl, by simp, hml, .inr ⟨_, _, rfl, by simp⟩⟩
    · rw [hc] at hel hlt
      obtain ⟨A, off, spot⟩ := a
      have hspot : spot = none := by
        obtain ⟨cs', h1, _⟩ := hel 0 (by omega)
        obtain ⟨_, hlen, h2⟩ := World.cells?_some h1
        have h3 := h2 0 hk
        rw [List.getElem?_eq_getElem (by omega)] at h3
        simpa [Addr.add] using World.cell?_spot h3
      subst hspot
      obtain ⟨Z, hZ⟩ := choose_lt (α := α) (p := fun j z => ∃ cs, cs.length = k ∧ Q cs z ∧ ∀ i, i < k → w.cell? ⟨A, off + j * k + i, none⟩ = cs[i]?) (n := len) (fun j hj => by
        obtain ⟨cs', h1, h2⟩ := hel j (by omega)
        obtain ⟨_, hlen, h3⟩ := World.cells?_some h1
        obtain ⟨z, hz⟩ := hQ _ _ _ h2
        refine ⟨z, cs', hlen, hz, fun i hi => ?_⟩
        rw [← h3 i hi, add_plain, add_plain])
      refine ⟨A, off, len, cap, _, (List.range len).map Z, rfl, fun _ => rfl, fun _ => ?_, by simp, fun j z hj => ?_, hml, .inr ⟨_, _, rfl, by simp⟩⟩
      · refine hlt (.cell A (off + 0)) (List.mem_append_left _ (MemPlace.mem_row.2 ⟨0, ?_, rfl⟩))
        have : 1 * 1 ≤ m * k := Nat.mul_le_mul (by omega) hk
        omega
      · have hj' := (List.getElem?_eq_some_iff.1 hj).1
        simp at hj'
        rw [List.getElem?_map, List.getElem?_range (by omega)] at hj
        simp at hj
        subst hj
        exact hZ j hj'
/-- a struct's field of one cell -/
theorem field1 {t : TypeId} {fs : Array Field} {cs : List Value} {x : DataW H × List MemPlace} {fuel : Nat} (hs : P.underlying t = some (.struct fs)) (h : DataW.trod enc P w base spare held fuel t cs = some x) (i o : Nat) (ty : TypeId) (hf : (fs[i]?).map (fun f => (f.type, f.offset)) = some (ty, o)) (hc : P.cellsOf ty = 1) :
    (P.underlying ty = some (.int .i64) → ∃ z, cs[o]? = some (.int .i64 z) ∧ (Lit.int .i64 z).wf = true) ∧ (P.underlying ty = some .string → ∃ s : ByteArray, cs[o]? = some (.string s) ∧ s.size ≤ maxLen) ∧ (P.underlying ty = some .bool → ∃ b, cs[o]? = some (.bool b)) := by
  obtain ⟨xs, n, rfl, hx, hl, hlen, hff⟩ := DataW.trod_struct hs h
  obtain ⟨f, hfi, hfe⟩ := Option.map_eq_some_iff.1 hf
  simp only [Prod.mk.injEq] at hfe
  obtain ⟨rfl, rfl⟩ := hfe
  have hlt : i < fs.size := (Array.getElem?_eq_some_iff.1 hfi).1
  have e := hff i f hfi
  rw [hc] at e
  have hxi : i < xs.length := by omega
  rw [List.getElem?_eq_getElem hxi] at e
  have key : ∀ u, (cs.drop f.offset).take 1 = [u] → cs[f.offset]? = some u := fun u hd => by
    have h0 : ((cs.drop f.offset).take 1)[0]? = some u := by rw [hd]; rfl
    simpa using h0
  refine ⟨fun hi => ?_, fun hi => ?_, fun hi => ?_⟩
  · obtain ⟨z, hz, _, hwz⟩ := DataW.trod_int hi e
    exact ⟨z, key _ hz, hwz⟩
  · obtain ⟨z, hz, _, hwz⟩ := DataW.trod_string hi e
    exact ⟨z, key _ hz, hwz⟩
  · obtain ⟨z, hz, _⟩ := DataW.trod_bool hi e
    exact ⟨z, key _ hz⟩
/-- a struct's field that is a struct -/
theorem fieldS {t : TypeId} {fs : Array Field} {cs : List Value} {x : DataW H × List MemPlace} {fuel : Nat} (hs : P.underlying t = some (.struct fs)) (h : DataW.trod enc P w base spare held fuel t cs = some x) (i o k : Nat) (ty : TypeId) (hf : (fs[i]?).map (fun f => (f.type, f.offset)) = some (ty, o)) (hc : P.cellsOf ty = k) :
    ∃ n y, DataW.trod enc P w base spare held n ty ((cs.drop o).take k) = some y := by
  obtain ⟨xs, n, rfl, hx, hl, hlen, hff⟩ := DataW.trod_struct hs h
  obtain ⟨f, hfi, hfe⟩ := Option.map_eq_some_iff.1 hf
  simp only [Prod.mk.injEq] at hfe
  obtain ⟨rfl, rfl⟩ := hfe
  have hlt : i < fs.size := (Array.getElem?_eq_some_iff.1 hfi).1
  have e := hff i f hfi
  rw [hc] at e
  have hxi : i < xs.length := by omega
  rw [List.getElem?_eq_getElem hxi] at e
  exact ⟨n, _, e⟩
end
def op0 : Op1 := ⟨0, 0, 0, ⟨#[]⟩, ⟨0, 0, 0, 0, 0, 0, 0, 0, 0, 0, 0, 0⟩, false⟩
theorem sub_at {cs : List Value} {o k j : Nat} {u : Value} (h : ((cs.drop o).take k)[j]? = some u) : cs[o + j]? = some u := by
  rw [List.getElem?_take] at h
  split at h
  · rw [List.getElem?_drop] at h
    exact h
  · cases h
set_option maxHeartbeats 1000000 in
/-- a step of a script, out of its cells -/
theorem open_op {H : Type} {enc : TypeId × Value → H} {w : World} {base : Nat} {spare : Nat → Bool} {held : Bool} {n : Nat} {cs : List Value} {x : DataW H × List MemPlace} (hx : DataW.trod enc Tryz.prog w base spare held n 94 cs = some x) : ∃ o : Op1, (∀ (i : Nat) v, (opl o)[i]? = some v → cs[i]? = some v) ∧ Ok1 o := by
  have bd : ∀ {n : Int}, (Lit.int .i64 n).wf = true → -9223372036854775808 ≤ n ∧ n < 9223372036854775808 := fun h => by have := bounds_i64 h; omega
  obtain ⟨k, e0, _⟩ := (field1 Tryz.underlying94 hx 0 0 3 (by kernel_rfl) (by kernel_rfl)).1 Tryz.underlying3
  obtain ⟨bx, e1, u1⟩ := (field1 Tryz.underlying94 hx 1 1 3 (by kernel_rfl) (by kernel_rfl)).1 Tryz.underlying3
  obtain ⟨n', e2, u2⟩ := (field1 Tryz.underlying94 hx 2 2 3 (by kernel_rfl) (by kernel_rfl)).1 Tryz.underlying3
  obtain ⟨s, e3, u3⟩ := (field1 Tryz.underlying94 hx 3 3 9 (by kernel_rfl) (by kernel_rfl)).2.1 Tryz.underlying9
  obtain ⟨see, e16⟩ := (field1 Tryz.underlying94 hx 5 16 4 (by kernel_rfl) (by kernel_rfl)).2.2 Tryz.underlying4
  obtain ⟨m, y, hy⟩ := fieldS Tryz.underlying94 hx 4 4 12 92 (by kernel_rfl) (by kernel_rfl)
  obtain ⟨c0, f0, v0⟩ := (field1 Tryz.underlying92 hy 0 0 3 (by kernel_rfl) (by kernel_rfl)).1 Tryz.underlying3
  obtain ⟨c1, f1, v1⟩ := (field1 Tryz.underlying92 hy 1 1 3 (by kernel_rfl) (by kernel_rfl)).1 Tryz.underlying3
  obtain ⟨c2, f2, _⟩ := (field1 Tryz.underlying92 hy 2 2 3 (by kernel_rfl) (by kernel_rfl)).1 Tryz.underlying3
  obtain ⟨c3, f3, _⟩ := (field1 Tryz.underlying92 hy 3 3 3 (by kernel_rfl) (by kernel_rfl)).1 Tryz.underlying3
  obtain ⟨c4, f4, _⟩ := (field1 Tryz.underlying92 hy 4 4 3 (by kernel_rfl) (by kernel_rfl)).1 Tryz.underlying3
  obtain ⟨c5, f5, _⟩ := (field1 Tryz.underlying92 hy 5 5 3 (by kernel_rfl) (by kernel_rfl)).1 Tryz.underlying3
  obtain ⟨c6, f6, _⟩ := (field1 Tryz.underlying92 hy 6 6 3 (by kernel_rfl) (by kernel_rfl)).1 Tryz.underlying3
  obtain ⟨c7, f7, _⟩ := (field1 Tryz.underlying92 hy 7 7 3 (by kernel_rfl) (by kernel_rfl)).1 Tryz.underlying3
  obtain ⟨c8, f8, _⟩ := (field1 Tryz.underlying92 hy 8 8 3 (by kernel_rfl) (by kernel_rfl)).1 Tryz.underlying3
  obtain ⟨c9, f9, _⟩ := (field1 Tryz.underlying92 hy 9 9 3 (by kernel_rfl) (by kernel_rfl)).1 Tryz.underlying3
  obtain ⟨c10, f10, _⟩ := (field1 Tryz.underlying92 hy 10 10 3 (by kernel_rfl) (by kernel_rfl)).1 Tryz.underlying3
  obtain ⟨c11, f11, _⟩ := (field1 Tryz.underlying92 hy 11 11 3 (by kernel_rfl) (by kernel_rfl)).1 Tryz.underlying3
  refine ⟨⟨k, bx, n', s, ⟨c0, c1, c2, c3, c4, c5, c6, c7, c8, c9, c10, c11⟩, see⟩, fun i v hv => ?_, ⟨(bd u1).1, (bd u1).2, (bd u2).1, (bd u2).2, u3, (bd v0).2, (bd v1).2⟩⟩
  have hi : i < 17 := (List.getElem?_eq_some_iff.1 hv).1
  have g : ∀ j u, ((cs.drop 4).take 12)[j]? = some u → cs[4 + j]? = some u := fun j u h => sub_at h
  rcases (by omega : i = 0 ∨ i = 1 ∨ i = 2 ∨ i = 3 ∨ i = 4 ∨ i = 5 ∨ i = 6 ∨ i = 7 ∨ i = 8 ∨ i = 9 ∨ i = 10 ∨ i = 11 ∨ i = 12 ∨ i = 13 ∨ i = 14 ∨ i = 15 ∨ i = 16) with rfl | rfl | rfl | rfl | rfl | rfl | rfl | rfl | rfl | rfl | rfl | rfl | rfl | rfl | rfl | rfl | rfl
  · have q : v = _ := (Option.some.inj hv).symm
    rw [q]
    exact e0
  · have q : v = _ := (Option.some.inj hv).symm
    rw [q]
    exact e1
  · have q : v = _ := (Option.some.inj hv).symm
    rw [q]
    exact e2
  · have q : v = _ := (Option.some.inj hv).symm
    rw [q]
    exact e3
  · have q : v = _ := (Option.some.inj hv).symm
    rw [q]
    exact g 0 _ f0
  · have q : v = _ := (Option.some.inj hv).symm
    rw [q]
    exact g 1 _ f1
  · have q : v = _ := (Option.some.inj hv).symm
    rw [q]
    exact g 2 _ f2
  · have q : v = _ := (Option.some.inj hv).symm
    rw [q]
    exact g 3 _ f3
  · have q : v = _ := (Option.some.inj hv).symm
    rw [q]
    exact g 4 _ f4
  · have q : v = _ := (Option.some.inj hv).symm
    rw [q]
    exact g 5 _ f5
  · have q : v = _ := (Option.some.inj hv).symm
    rw [q]
    exact g 6 _ f6
  · have q : v = _ := (Option.some.inj hv).symm
    rw [q]
    exact g 7 _ f7
  · have q : v = _ := (Option.some.inj hv).symm
    rw [q]
    exact g 8 _ f8
  · have q : v = _ := (Option.some.inj hv).symm
    rw [q]
    exact g 9 _ f9
  · have q : v = _ := (Option.some.inj hv).symm
    rw [q]
    exact g 10 _ f10
  · have q : v = _ := (Option.some.inj hv).symm
    rw [q]
    exact g 11 _ f11
  · have q : v = _ := (Option.some.inj hv).symm
    rw [q]
    exact e16
end Go.Proofs.YthiljpbodmajaabGreat
