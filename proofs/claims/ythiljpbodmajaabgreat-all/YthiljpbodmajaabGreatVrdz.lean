/-
  Structs in blocks of their own: laws for loads, stores and results as one step; the state of a walk (a list of blocks). For the reference's Verdict, Use, Mapping.
-/
import Derived.Test.YthiljpbodmajaabGreatRefk
import Derived.Test.YthiljpbodmajaabGreatRefs
import Derived.Deep.MidRow
import Derived.Deep.RegionHeld
namespace Go.Proofs.YthiljpbodmajaabGreat
open Go.RowKit Plain
set_option linter.unusedVariables false
theorem setCells_below (K : Nat) : ∀ (vs : List Value) (o : Nat) (w : World), Below K w (w.setCells K o vs)
  | [], _, w => Below.refl K w
  | v :: r, o, w => ((Below.refl K w).setCell (Nat.le_refl _) v).trans (setCells_below K r (o + 1) _)
theorem heap_setCells_all {w : World} {K : Nat} {Z : Array Value} {t : TypeId} (vs : List Value) (h : w.heap[K]? = some (.cells Z t (0, 0))) (hn : Z.size = vs.length) : (w.setCells K 0 vs).heap[K]? = some (.cells vs.toArray t (0, 0)) := by
  obtain ⟨cur, h1, h2, h3⟩ := heap_setCells K t (0, 0) vs 0 w Z h
  have e : cur = vs.toArray := by
    apply Array.ext_getElem?
    intro k
    by_cases hk : k < Z.size
    · rw [h3 k hk, if_pos (by omega)]
      simp
    · rw [Array.getElem?_eq_none (by omega), Array.getElem?_eq_none (by simp; omega)]
  rw [h1, e]
theorem wp_copy {P : Program} {id : Nat} {o1 o2 : Oper} {Q : Exit → Act → World → Prop} {a : Act} {w : World} (ty : TypeId) (x y z : Operand) (h1 : o1.op = .load ty x) (g1 : o1.guard = none) (h2 : o2.op = .store ty y z) (g2 : o2.guard = none) (b c : Nat) (vs : List Value) (d : TypeDesc) {Z : Array Value} {t t' : TypeId}
    (hx : a.eval x = .pointer (some ⟨b, 0, none⟩)) (hy : (a.put o1.dst (.agg vs.toArray)).eval y = .pointer (some ⟨c, 0, none⟩)) (hz : (a.put o1.dst (.agg vs.toArray)).eval z = .agg vs.toArray) (hB : w.heap[b]? = some (.cells vs.toArray t (0, 0))) (hC : w.heap[c]? = some (.cells Z t' (0, 0))) (hn : Z.size = vs.length)
    (hu : P.underlying ty = some d) (hd : d.isRow = true) (hi : (P.info? ty).map (·.size) = some vs.length) (hone : ∀ v ∈ vs, v.oneCell' = true)
    (hK : ∀ W : World, W.heap[c]? = some (.cells vs.toArray t' (0, 0)) → Below c w W → Q .normal ((a.put o1.dst (.agg vs.toArray)).put o2.dst undef) W) : (Code.region id #[o1, o2] false).wp P Q a w := by
  refine wp_region_lit (l := [o1, o2]) ?_
  refine wpList_load_mid g1 ty x h1 b 0 hx vs d (fun j v hv => ?_) hu hd hi ?_
  · rw [Nat.zero_add, cell_of_row w b j _ _ _ hB]
    simpa using hv
  · refine wpList_store_mid g2 ty y z h2 c 0 vs.toArray hy hz (fun j hj => ?_) (by simpa using hi) (all_oneCell_toArray hone) ?_
    · have hj' : j < Z.size := by simp at hj; omega
      constructor
      · rw [Nat.zero_add, cell_of_row w c j _ _ _ hC, Array.getElem?_eq_getElem hj']; rfl
      · rw [Nat.zero_add]; exact nofrz hC j
    · exact hK _ (heap_setCells_all vs hC hn) (setCells_below c _ 0 w)
theorem results_cell {P : Program} {fn : Func} {slot : Tmp} {ty : TypeId} (hf : fn.results = #[.cell slot ty]) (tmps : Array Value) (W : World) (K : Nat) (vs : List Value) (d : TypeDesc) {t : TypeId} (hs : tmps[slot]?.getD undef = .pointer (some ⟨K, 0, none⟩)) (hW : W.heap[K]? = some (.cells vs.toArray t (0, 0))) (hu : P.underlying ty = some d) (hd : d.isRow = true) (hi : (P.info? ty).map (·.size) = some vs.length) :
    (results fn tmps).run P W = .ok (.agg vs.toArray) W := by
  have hL := run_loadVar_mid (P := P) W K 0 ty vs d (fun j v hv => by rw [Nat.zero_add, cell_of_row W K j _ _ _ hW]; simpa using hv) hu hd hi
  simp [results, hf, hs, asAddr, hL]
def fillc (c : Array Value) (i : Nat) : List Value → Array Value
  | [] => c
  | v :: r => fillc (c.setIfInBounds i v) (i + 1) r
theorem setCells_alloc (w : World) (t : TypeId) : ∀ (vs : List Value) (i : Nat) (c : Array Value), (w.alloc (.cells c t)).setCells w.heap.size i vs = w.alloc (.cells (fillc c i vs) t)
  | [], _, _ => rfl
  | v :: r, i, c => by
    show ((w.alloc (.cells c t)).setCell ⟨w.heap.size, i, none⟩ v).setCells w.heap.size (i + 1) r = _
    rw [World.setCell_alloc_at c t _ i v rfl, setCells_alloc w t r (i + 1)]
    rfl
theorem fillc_at : ∀ (vs : List Value) (i : Nat) (c : Array Value) (j : Nat), i + vs.length ≤ c.size → (fillc c i vs)[j]? = if i ≤ j ∧ j < i + vs.length then vs[j - i]? else c[j]?
  | [], i, c, j, h => by rw [if_neg (by simp <;> omega)]; rfl
  | v :: r, i, c, j, h => by
    simp only [List.length_cons] at h
    show (fillc (c.setIfInBounds i v) (i + 1) r)[j]? = _
    rw [fillc_at r (i + 1) _ j (by simp; omega)]
    by_cases e : j = i
    · subst e
      rw [if_neg (by omega), if_pos (by simp), Array.getElem?_setIfInBounds_self_of_lt (by omega), Nat.sub_self]
      rfl
    · by_cases h2 : i + 1 ≤ j ∧ j < i + 1 + r.length
      · rw [if_pos h2, if_pos (by simp; omega), show j - i = (j - (i + 1)) + 1 by omega]
        simp
      · rw [if_neg h2, if_neg (by simp; omega)]
        rw [Array.getElem?_setIfInBounds_ne (Ne.symm e)]
theorem fillc_all (vs : List Value) (c : Array Value) (h : c.size = vs.length) : fillc c 0 vs = vs.toArray := by
  apply Array.ext_getElem?
  intro j
  rw [fillc_at vs 0 c j (by omega)]
  by_cases hj : j < vs.length
  · rw [if_pos (by omega)]; simp
  · rw [if_neg (by omega), Array.getElem?_eq_none (by omega), Array.getElem?_eq_none (by simp; omega)]
theorem wpList_keep {P : Program} {ops : Array Oper} {rest : List Oper} {o1 o2 : Oper} {a : Act} {w : World} {Q : Exit → Act → World → Prop} (g1 : o1.guard = none) (g2 : o2.guard = none) (ty : TypeId) (h1 : o1.op = .alloc ty) (x y : Operand) (h2 : o2.op = .store ty x y) (vs : List Value) (i : TypeInfo) (Z : Value)
    (hi : P.info? ty = some i) (hz : i.zero = some Z) (hzs : Z.cells.size = vs.length) (hs : i.size = vs.length) (hone : ∀ v ∈ vs, v.oneCell' = true)
    (hx : (a.put o1.dst (.pointer (some ⟨w.heap.size, 0, none⟩))).eval x = .pointer (some ⟨w.heap.size, 0, none⟩)) (hy : (a.put o1.dst (.pointer (some ⟨w.heap.size, 0, none⟩))).eval y = .agg vs.toArray)
    (h : wpList P ops Q rest ((a.put o1.dst (.pointer (some ⟨w.heap.size, 0, none⟩))).put o2.dst undef) (w.alloc (.cells vs.toArray ty))) : wpList P ops Q (o1 :: o2 :: rest) a w := by
  refine wpList_plain g1 fun K hK => ?_
  have hr : (execOp a.eval o1).run P w = .ok (.value (.pointer (some ⟨w.heap.size, 0, none⟩))) (w.alloc (.cells Z.cells ty)) := by
    unfold execOp
    simp [h1, Instr.alloc, zeroValue, typeInfo, hi, hz, newVar, newRow]
  unfold Oper.wp
  rw [hr, Oper.upon_value]
  refine hK _ _ ?_
  have hC : (w.alloc (.cells Z.cells ty)).heap[w.heap.size]? = some (.cells Z.cells ty (0, 0)) := alloc1 w _
  refine wpList_store_mid g2 ty x y h2 w.heap.size 0 vs.toArray hx hy (fun j hj => ?_) (by simp [hi, hs]) (all_oneCell_toArray hone) ?_
  · have hj' : j < Z.cells.size := by simp at hj; omega
    constructor
    · rw [Nat.zero_add, cell_of_row _ _ j _ _ _ hC, Array.getElem?_eq_getElem hj']; rfl
    · rw [Nat.zero_add]; exact nofrz hC j
  · show wpList P ops Q rest _ ((w.alloc (.cells Z.cells ty)).setCells w.heap.size 0 vs)
    rw [setCells_alloc, fillc_all vs _ hzs]
    exact h
theorem info_two {P : Program} {t : TypeId} {z : Option Value} {n : Nat} (h : (P.info? t).map (fun i => (i.zero, i.size)) = some (z, n)) : ∃ i, P.info? t = some i ∧ i.zero = z ∧ i.size = n := by
  obtain ⟨i, hi, he⟩ := Option.map_eq_some_iff.1 h
  simp only [Prod.mk.injEq] at he
  exact ⟨i, hi, he.1, he.2⟩
theorem wpList_pull {P : Program} {ops : Array Oper} {rest : List Oper} {op : Oper} {a : Act} {w : World} {Q : Exit → Act → World → Prop} (ty : TypeId) (i : TypeInfo) (d : TypeDesc) (hi : P.info? ty = some i) (hu : P.underlying ty = some d) (hd : d.isRow = true) (vs : List Value) (hs : i.size = vs.length) (b : Nat) {t : TypeId} (hB : w.heap[b]? = some (.cells vs.toArray t (0, 0)))
    (hgd : op.guard = none) {x : Operand} (ho : op.op = .load ty x) (hx : a.eval x = .pointer (some ⟨b, 0, none⟩)) (h : wpList P ops Q rest (a.put op.dst (.agg vs.toArray)) w) : wpList P ops Q (op :: rest) a w :=
  wpList_load_mid hgd ty x ho b 0 hx vs d (fun j v hv => by rw [Nat.zero_add, cell_of_row w b j _ _ _ hB]; simpa using hv) hu hd (by simp [hi, hs]) h
def St (L : List (Nat × Array Value × TypeId)) (w w' : World) : Prop := Below w.heap.size w w' ∧ ∀ x ∈ L, w'.heap[x.1]? = some (.cells x.2.1 x.2.2 (0, 0))
section
variable {L : List (Nat × Array Value × TypeId)} {w w1 w2 : World}
theorem St.start (w : World) : St [] w w := ⟨Below.refl _ _, by simp⟩
theorem St.below (h : St L w w1) : Below w.heap.size w w1 := h.1
theorem St.drew (h : St L w w1) : St L w w1.drew := ⟨h.1.drew, h.2⟩
theorem St.lt (h : St L w w1) {x : Nat × Array Value × TypeId} (hx : x ∈ L) : x.1 < w1.heap.size := (Array.getElem?_eq_some_iff.1 (h.2 x hx)).1
theorem St.next (h : St L w w1) (k : Below w1.heap.size w1 w2) : St L w w2 :=
  ⟨h.1.trans (k.mono h.1.size), fun x hx => (k.block _ (h.lt hx)).trans (h.2 x hx)⟩
theorem St.alloc (h : St L w w1) (cs : Array Value) (t : TypeId) (K : Nat) (hK : w1.heap.size = K) : St (L ++ [(K, cs, t)]) w (w1.alloc (.cells cs t)) := by
  subst hK
  refine ⟨h.1.alloc h.1.size _, fun x hx => ?_⟩
  rcases List.mem_append.1 hx with e | e
  · exact (Below.heap_alloc w1 _ _ (h.lt e)).trans (h.2 x e)
  · simp at e
    subst e
    exact alloc1 w1 _
theorem St.get (h : St L w w1) (k : Nat) {x : Nat × Array Value × TypeId} (hk : L[k]? = some x) : w1.heap[x.1]? = some (.cells x.2.1 x.2.2 (0, 0)) := h.2 x (List.mem_of_getElem? hk)
theorem St.at (k i : Nat) {K : Nat} {cs : Array Value} {t : TypeId} {u : Value} (hk : L[k]? = some (K, cs, t)) (hi : cs[i]? = some u) : ∀ w', St L w w' → w'.cell? ⟨K, i, none⟩ = some u := fun w' h => (cell_of_row _ _ _ _ _ _ (h.get k hk)).trans hi
theorem St.frz (k : Nat) {K : Nat} {cs : Array Value} {t : TypeId} (hk : L[k]? = some (K, cs, t)) (h : St L w w1) (o : Nat) : w1.frozen? ⟨K, o, none⟩ = false := nofrz (h.get k hk) o
theorem St.set (h : St L w w1) (k i : Nat) {K : Nat} {cs : Array Value} {t : TypeId} (u : Value) (hk : L[k]? = some (K, cs, t)) (hw : w.heap.size ≤ K) (hd : ∀ j x, L[j]? = some x → j ≠ k → x.1 ≠ K) : St (L.set k (K, cs.setIfInBounds i u, t)) w (w1.setCell ⟨K, i, none⟩ u) := by
  refine ⟨h.1.setCell hw u, fun x hx => ?_⟩
  obtain ⟨j, hj⟩ := List.getElem?_of_mem hx
  by_cases e : j = k
  · subst e
    rw [List.getElem?_set] at hj
    simp only [if_true] at hj
    split at hj
    · simp at hj
      subst hj
      exact heap_setCell_same u (h.get j hk)
    · cases hj
  · rw [List.getElem?_set_ne (Ne.symm e)] at hj
    exact (Below.heap_setCell w1 _ _ _ (hd j x hj e)).trans (h.2 x (List.mem_of_getElem? hj))
end
def Sof (S : World → Prop) (w : World) : Prop := S w
theorem St.setAt {L1 L2 : List (Nat × Array Value × TypeId)} {w w1 : World} {K : Nat} {cs : Array Value} {t : TypeId} (h : St (L1 ++ (K, cs, t) :: L2) w w1) (hw : w.heap.size ≤ K) (hd : ∀ x ∈ L1 ++ L2, x.1 ≠ K) (i : Nat) (u : Value) : St (L1 ++ (K, cs.setIfInBounds i u, t) :: L2) w (w1.setCell ⟨K, i, none⟩ u) := by
  refine ⟨h.1.setCell hw u, fun x hx => ?_⟩
  have other : x ∈ L1 ++ L2 → (w1.setCell ⟨K, i, none⟩ u).heap[x.1]? = some (.cells x.2.1 x.2.2 (0, 0)) := fun hm =>
    (Below.heap_setCell w1 _ _ _ (hd x hm)).trans (h.2 x (by
      rcases List.mem_append.1 hm with e | e
      · exact List.mem_append_left _ e
      · exact List.mem_append_right _ (List.mem_cons_of_mem _ e)))
  rcases List.mem_append.1 hx with e | e
  · exact other (List.mem_append_left _ e)
  · rcases List.mem_cons.1 e with e | e
    · subst e
      exact heap_setCell_same u (h.2 (K, cs, t) (by simp))
    · exact other (List.mem_append_right _ e)
theorem info_vd : (Tryz.prog.info? 136).map (fun i => (i.zero, i.size)) = some (some (.agg #[.int .i64 0, .int .i64 0, .string ⟨#[]⟩, .int .i64 0, .bool false, .int .i64 0, .int .i64 0, .int .i64 0, .int .i64 0, .int .i64 0, .int .i64 0, .int .i64 0, .bool false]), 13) := by kernel_rfl
section
variable {ops : Array Oper} {rest : List Oper} {op o1 o2 : Oper} {a : Act} {w : World} {Q : Exit → Act → World → Prop}
theorem keep_vd (vs : List Value) (hl : vs.length = 13) (g1 : o1.guard = none) (g2 : o2.guard = none) (h1 : o1.op = .alloc 136) {x y : Operand} (h2 : o2.op = .store 136 x y) (hone : ∀ v ∈ vs, v.oneCell' = true)
    (hx : (a.put o1.dst (.pointer (some ⟨w.heap.size, 0, none⟩))).eval x = .pointer (some ⟨w.heap.size, 0, none⟩)) (hy : (a.put o1.dst (.pointer (some ⟨w.heap.size, 0, none⟩))).eval y = .agg vs.toArray)
    (h : wpList Tryz.prog ops Q rest ((a.put o1.dst (.pointer (some ⟨w.heap.size, 0, none⟩))).put o2.dst undef) (w.alloc (.cells vs.toArray 136))) : wpList Tryz.prog ops Q (o1 :: o2 :: rest) a w := by
  obtain ⟨i, hi, hz, hs⟩ := info_two info_vd
  exact wpList_keep g1 g2 _ h1 x y h2 vs i _ hi hz (by rw [hl]; rfl) (by rw [hs, hl]) hone hx hy h
/-- a struct is stored into a block that is there -/
theorem lay_vd (vs : List Value) (hl : vs.length = 13) (K : Nat) {Z : Array Value} {t : TypeId} (hC : w.heap[K]? = some (.cells Z t (0, 0))) (hZ : Z.size = 13) (hgd : op.guard = none) {x y : Operand} (ho : op.op = .store 136 x y) (hone : ∀ v ∈ vs, v.oneCell' = true) (hx : a.eval x = .pointer (some ⟨K, 0, none⟩)) (hy : a.eval y = .agg vs.toArray)
    (h : wpList Tryz.prog ops Q rest (a.put op.dst undef) (w.setCells K 0 vs)) : wpList Tryz.prog ops Q (op :: rest) a w := by
  obtain ⟨i, hi, hz, hs⟩ := info_two info_vd
  refine wpList_store_mid hgd _ x y ho K 0 vs.toArray hx hy (fun j hj => ?_) (by simp [hi, hs, hl]) (all_oneCell_toArray hone) h
  have hj' : j < Z.size := by simp at hj; omega
  constructor
  · rw [Nat.zero_add, cell_of_row w K j _ _ _ hC, Array.getElem?_eq_getElem hj']; rfl
  · rw [Nat.zero_add]; exact nofrz hC j
theorem res_vd {fn : Func} {slot : Tmp} (hf : fn.results = #[.cell slot 136]) (tmps : Array Value) (W : World) (K : Nat) (vs : List Value) (hl : vs.length = 13) {t : TypeId} (hs : tmps[slot]?.getD undef = .pointer (some ⟨K, 0, none⟩)) (hW : W.heap[K]? = some (.cells vs.toArray t (0, 0))) :
    (results fn tmps).run Tryz.prog W = .ok (.agg vs.toArray) W := by
  obtain ⟨i, hi, hz, hn⟩ := info_two info_vd
  exact results_cell hf tmps W K vs _ hs hW Tryz.underlying136 rfl (by simp [hi, hn, hl])
end
theorem info_us : (Tryz.prog.info? 134).map (fun i => (i.zero, i.size)) = some (some (.agg #[.int .i64 0, .int .i64 0, .int .i64 0, .int .i64 0, .int .i64 0, .int .i64 0, .int .i64 0]), 7) := by kernel_rfl
section
variable {ops : Array Oper} {rest : List Oper} {op o1 o2 : Oper} {a : Act} {w : World} {Q : Exit → Act → World → Prop}
theorem pull_us (vs : List Value) (hl : vs.length = 7) (b : Nat) {t : TypeId} (hB : w.heap[b]? = some (.cells vs.toArray t (0, 0))) (hgd : op.guard = none) {x : Operand} (ho : op.op = .load 134 x) (hx : a.eval x = .pointer (some ⟨b, 0, none⟩)) (h : wpList Tryz.prog ops Q rest (a.put op.dst (.agg vs.toArray)) w) : wpList Tryz.prog ops Q (op :: rest) a w := by
  obtain ⟨i, hi, hz, hs⟩ := info_two info_us
  exact wpList_pull _ i _ hi Tryz.underlying134 rfl vs (by rw [hs, hl]) b hB hgd ho hx h
end
theorem info_rm : (Tryz.prog.info? 143).map (fun i => (i.zero, i.size)) = some (some (.agg #[.int .i64 0, .int .i64 0, .int .i64 0, .int .i64 0, .int .i64 0, .int .i64 0]), 6) := by kernel_rfl
section
variable {ops : Array Oper} {rest : List Oper} {op o1 o2 : Oper} {a : Act} {w : World} {Q : Exit → Act → World → Prop}
theorem res_rm {fn : Func} {slot : Tmp} (hf : fn.results = #[.cell slot 143]) (tmps : Array Value) (W : World) (K : Nat) (vs : List Value) (hl : vs.length = 6) {t : TypeId} (hs : tmps[slot]?.getD undef = .pointer (some ⟨K, 0, none⟩)) (hW : W.heap[K]? = some (.cells vs.toArray t (0, 0))) :
    (results fn tmps).run Tryz.prog W = .ok (.agg vs.toArray) W := by
  obtain ⟨i, hi, hz, hn⟩ := info_two info_rm
  exact results_cell hf tmps W K vs _ hs hW Tryz.underlying143 rfl (by simp [hi, hn, hl])
end
def vdl (er sd : Int) (fr : ByteArray) (so : Int) (usd : Bool) (u : Us) (td : Bool) : List Value := [.int .i64 er, .int .i64 sd, .string fr, .int .i64 so, .bool usd, .int .i64 u.pr, .int .i64 u.ad, .int .i64 u.po, .int .i64 u.ex, .int .i64 u.pa, .int .i64 u.pp, .int .i64 u.ti, .bool td]
def us0 : Us := ⟨0, 0, 0, 0, 0, 0, 0⟩
end Go.Proofs.YthiljpbodmajaabGreat
namespace Go.Proofs.YthiljpbodmajaabGreat
open Go.RowKit Plain
set_option linter.unusedVariables false
theorem yieldr_us {ops : Array Oper} {S : World → Prop} {op : Oper} {a : Act} (hw : Region.wanted op (yielded ops a.tmps) = true) {x : Operand} (ho : op.op = .load 134 x) (b : Nat) (hx : a.eval x = .pointer (some ⟨b, 0, none⟩)) (vs : List Value) (hl : vs.length = 7) (hS : ∀ w, S w → ∃ t, w.heap[b]? = some (.cells vs.toArray t (0, 0))) : YieldsIf Tryz.prog ops S op (.agg vs.toArray) a := by
  obtain ⟨i, hi, hz, hs⟩ := info_two info_us
  exact yieldsIf_load_mid hw _ x ho b 0 hx vs _ (fun w h => by obtain ⟨t, hB⟩ := hS w h; exact fun j v hv => by rw [Nat.zero_add, cell_of_row w b j _ _ _ hB]; simpa using hv) Tryz.underlying134 rfl (by simp [hi, hs, hl])
theorem stow_vd {o : Oper} {a : Act} {w : World} {K : Act → World → Prop} {Q : Exit → Act → World → Prop} {x y : Operand} (ho : o.op = .store 136 x y) (b : Nat) (hx : a.eval x = .pointer (some ⟨b, 0, none⟩)) (vs : List Value) (hl : vs.length = 13) (hy : a.eval y = .agg vs.toArray)
    {z : Array Value} {t : TypeId} (hB : w.heap[b]? = some (.cells z t (0, 0))) (hz : z.size = 13) (hone : ∀ v ∈ vs, v.oneCell' = true) (h : K (a.put o.dst undef) (w.setCells b 0 vs)) : o.wp Tryz.prog a w K Q := by
  obtain ⟨i, hi, hz', hs⟩ := info_two info_vd
  refine wp_store_mid _ x y ho b 0 vs.toArray hx hy (fun j hj => ?_) (by simp [hi, hs, hl]) (all_oneCell_toArray hone) h
  have hj' : j < z.size := by simp at hj; omega
  constructor
  · rw [Nat.zero_add, cell_of_row _ _ j _ _ _ hB, Array.getElem?_eq_getElem hj']; rfl
  · rw [Nat.zero_add]; exact nofrz hB j
theorem stow_rm {o : Oper} {a : Act} {w : World} {K : Act → World → Prop} {Q : Exit → Act → World → Prop} {x y : Operand} (ho : o.op = .store 143 x y) (b : Nat) (hx : a.eval x = .pointer (some ⟨b, 0, none⟩)) (vs : List Value) (hl : vs.length = 6) (hy : a.eval y = .agg vs.toArray)
    {z : Array Value} {t : TypeId} (hB : w.heap[b]? = some (.cells z t (0, 0))) (hz : z.size = 6) (hone : ∀ v ∈ vs, v.oneCell' = true) (h : K (a.put o.dst undef) (w.setCells b 0 vs)) : o.wp Tryz.prog a w K Q := by
  obtain ⟨i, hi, hz', hs⟩ := info_two info_rm
  refine wp_store_mid _ x y ho b 0 vs.toArray hx hy (fun j hj => ?_) (by simp [hi, hs, hl]) (all_oneCell_toArray hone) h
  have hj' : j < z.size := by simp at hj; omega
  constructor
  · rw [Nat.zero_add, cell_of_row _ _ j _ _ _ hB, Array.getElem?_eq_getElem hj']; rfl
  · rw [Nat.zero_add]; exact nofrz hB j
theorem St.only {L : List (Nat × Array Value × TypeId)} {w w1 : World} (h : St L w w1) (k : Nat) {x : Nat × Array Value × TypeId} (hk : L[k]? = some x) : St [x] w w1 := ⟨h.1, fun z hz => by
  have : z = x := by simpa using hz
  subst this
  exact h.get k hk⟩
theorem St.fillO {w w1 : World} {x : Nat × Array Value × TypeId} {K : Nat} {z : Array Value} {t : TypeId} (h : St [x] w w1) (hz : w1.heap[K]? = some (.cells z t (0, 0))) (hw : w.heap.size ≤ K) (hK : x.1 ≠ K) (vs : List Value) (hs : z.size = vs.length) : St [x] w (w1.setCells K 0 vs) := by
  have key : ∀ (vs : List Value) (o : Nat) (w1 : World) (j : Nat), j ≠ K → (w1.setCells K o vs).heap[j]? = w1.heap[j]? := by
    intro vs
    induction vs with
    | nil => intro o w1 j hj; rfl
    | cons v r ih => intro o w1 j hj; exact (ih (o + 1) _ j hj).trans (Below.heap_setCell w1 _ _ _ hj)
  exact ⟨h.1.trans ((setCells_below K vs 0 w1).mono hw), fun y hy => by
    have : y = x := by simpa using hy
    subst this
    exact (key vs 0 w1 _ hK).trans (h.2 y hy)⟩
end Go.Proofs.YthiljpbodmajaabGreat
