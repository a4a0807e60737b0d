/-
  CONTRACTS: package natboxlaw: plays, walked.
-/
import Derived.Test.YthiljpbodmajaabGreatLwop
import Derived.Deep.AppendLies
import Derived.Deep.DeepCutAuto
import Derived.Deep.CutBlock
namespace Go.Proofs.YthiljpbodmajaabGreat
open Go.RowKit Plain
set_option linter.unusedVariables false
theorem info_op : (Tryz.prog.info? 94).map (fun i => (i.zero, i.size)) = some (some (.agg #[.int .i64 0, .int .i64 0, .int .i64 0, .string ⟨#[]⟩, .int .i64 0, .int .i64 0, .int .i64 0, .int .i64 0, .int .i64 0, .int .i64 0, .int .i64 0, .int .i64 0, .int .i64 0, .int .i64 0, .int .i64 0, .int .i64 0, .bool false]), 17) := by kernel_rfl
theorem info_sh : (Tryz.prog.info? 50).map (fun i => (i.zero, i.size)) = some (some (.agg #[.bool false, .bool false, .bool false, .bool false]), 4) := by kernel_rfl
theorem info_pr : (Tryz.prog.info? 97).map (fun i => (i.zero, i.size)) = some (some (.agg #[.pointer none, .pointer none]), 2) := by kernel_rfl
theorem rinfo_pr : (Tryz.prog.info? 97).map (fun i => (i.zero, i.size, i.bytes)) = some (some (.agg #[.pointer none, .pointer none]), 2, 16) := by kernel_rfl
section
variable {ops : Array Oper} {rest : List Oper} {op o1 o2 : Oper} {a : Act} {w : World} {Q : Exit → Act → World → Prop}
theorem keep_op (vs : List Value) (hl : vs.length = 17) (g1 : o1.guard = none) (g2 : o2.guard = none) (h1 : o1.op = .alloc 94) {x y : Operand} (h2 : o2.op = .store 94 x y) (hone : ∀ v ∈ vs, v.oneCell' = true)
    (hx : (a.put o1.dst (.pointer (some ⟨w.heap.size, 0, none⟩))).eval x = .pointer (some ⟨w.heap.size, 0, none⟩)) (hy : (a.put o1.dst (.pointer (some ⟨w.heap.size, 0, none⟩))).eval y = .agg vs.toArray)
    (h : wpList Tryz.prog ops Q rest ((a.put o1.dst (.pointer (some ⟨w.heap.size, 0, none⟩))).put o2.dst undef) (w.alloc (.cells vs.toArray 94))) : wpList Tryz.prog ops Q (o1 :: o2 :: rest) a w := by
  obtain ⟨i, hi, hz, hs⟩ := info_two info_op
  exact wpList_keep g1 g2 _ h1 x y h2 vs i _ hi hz (by rw [hl]; rfl) (by rw [hs, hl]) hone hx hy h
theorem pull_op (b o : Nat) (hgd : op.guard = none) {x : Operand} (ho : op.op = .load 94 x) (hx : a.eval x = .pointer (some ⟨b, o, none⟩)) (vs : List Value) (hl : vs.length = 17) (hc : w.rangeAt b o vs) (h : wpList Tryz.prog ops Q rest (a.put op.dst (.agg vs.toArray)) w) : wpList Tryz.prog ops Q (op :: rest) a w := by
  obtain ⟨i, hi, hz, hs⟩ := info_two info_op
  exact wpList_load_mid hgd _ x ho b o hx vs _ hc Tryz.underlying94 rfl (by simp [hi, hs, hl]) h
end
theorem yieldr_op {ops : Array Oper} {S : World → Prop} {op : Oper} {a : Act} (hw : Region.wanted op (yielded ops a.tmps) = true) {x : Operand} (ho : op.op = .load 94 x) (b o : Nat) (hx : a.eval x = .pointer (some ⟨b, o, none⟩)) (vs : List Value) (hl : vs.length = 17) (hS : ∀ w, S w → w.rangeAt b o vs) : YieldsIf Tryz.prog ops S op (.agg vs.toArray) a := by
  obtain ⟨i, hi, hz, hs⟩ := info_two info_op
  exact yieldsIf_load_mid hw _ x ho b o hx vs _ hS Tryz.underlying94 rfl (by simp [hi, hs, hl])
theorem yieldr_sh {ops : Array Oper} {S : World → Prop} {op : Oper} {a : Act} (hw : Region.wanted op (yielded ops a.tmps) = true) {x : Operand} (ho : op.op = .load 50 x) (b o : Nat) (hx : a.eval x = .pointer (some ⟨b, o, none⟩)) (vs : List Value) (hl : vs.length = 4) (hS : ∀ w, S w → w.rangeAt b o vs) : YieldsIf Tryz.prog ops S op (.agg vs.toArray) a := by
  obtain ⟨i, hi, hz, hs⟩ := info_two info_sh
  exact yieldsIf_load_mid hw _ x ho b o hx vs _ hS Tryz.underlying50 rfl (by simp [hi, hs, hl])
theorem yieldr_pr {ops : Array Oper} {S : World → Prop} {op : Oper} {a : Act} (hw : Region.wanted op (yielded ops a.tmps) = true) {x : Operand} (ho : op.op = .load 97 x) (b o : Nat) (hx : a.eval x = .pointer (some ⟨b, o, none⟩)) (vs : List Value) (hl : vs.length = 2) (hS : ∀ w, S w → w.rangeAt b o vs) : YieldsIf Tryz.prog ops S op (.agg vs.toArray) a := by
  obtain ⟨i, hi, hz, hs⟩ := info_two info_pr
  exact yieldsIf_load_mid hw _ x ho b o hx vs _ hS Tryz.underlying97 rfl (by simp [hi, hs, hl])
theorem yieldr_bo {ops : Array Oper} {S : World → Prop} {o : Oper} {a : Act} {x : Operand} (hw : Region.wanted o (yielded ops a.tmps) = true) (ho : o.op = .load 4 x) {b i : Nat} {n : Bool} (hx : a.eval x = .pointer (some ⟨b, i, none⟩)) (hS : ∀ w, S w → w.cell? ⟨b, i, none⟩ = some (.bool n)) : YieldsIf Tryz.prog ops S o (.bool n) a :=
  Or.inl ⟨hw, fun w h => by have hc := hS w h; unfold execOp; rw [ho]; simp only []; rw [hx]; go_simp⟩
theorem range_row {w : World} {B : Nat} {vs : List Value} {t : TypeId} (h : w.heap[B]? = some (.cells vs.toArray t (0, 0))) : w.rangeAt B 0 vs := fun j v hv => by rw [Nat.zero_add, cell_of_row w B j _ _ _ h]; simpa using hv

set_option maxHeartbeats 8000000 in
set_option maxRecDepth 2000 in
theorem plays_core (t : Shw) (A0 off len cap : Nat) (ao : Option Addr) (zs : List Op1) (w : World) (hao : 0 < len → ao = some ⟨A0, off, none⟩) (hA : 0 < len → A0 < w.heap.size) (hzs : zs.length = len) (hlen : len * 144 ≤ 140737488351232)
    (hc : ∀ (j : Nat) (o : Op1), zs[j]? = some o → ∀ (i : Nat) v, (opl o)[i]? = some v → w.cell? ⟨A0, off + j * 17 + i, none⟩ = some v) (hok : ∀ (j : Nat) (o : Op1), zs[j]? = some o → Ok1 o) :
    Calls Tryz.prog 22 #[.slice ao len cap, .agg #[.bool t.b0, .bool t.b1, .bool t.b2, .bool t.b3]] w fun e w' => e = .returned (.bool true) ∧ Below w.heap.size w w' := by
  have HC : Hid _ := hc
  have HO1 : Hid _ := hok
  have CB : Hid _ := begins_any
  clear hc hok
  obtain ⟨j0, hj0, y00, y01, y02⟩ := rinfo_parts rinfo_pr
  have HJ0 : Hid _ := hj0
  have Y00 : Hid _ := y00
  have Y01 : Hid _ := y01
  have Y02 : Hid _ := y02
  clear hj0 y00 y01 y02
  go_enter Tryz.func22, Tryz.ntmps22
  go_wp2_with fail
  refine Calls.mono (CB.out _) ?_; rintro e w0 ⟨rfl, hb0⟩
  have S0 : Hid (w0.heap[w.heap.size]? = some (.cells #[.bool t.b0, .bool t.b1, .bool t.b2, .bool t.b3] 50 (0, 0))) := (hb0.block w.heap.size (by simp)).trans (alloc1 w _)
  have H0 : Hid (Below w.heap.size w w0) := ((Below.refl _ _).alloc (Nat.le_refl _) _).trans (hb0.mono (by simp))
  have hz0 : w.heap.size < w0.heap.size := (Array.getElem?_eq_some_iff.1 S0.out).1
  have SHB : Hid (∀ wx, Below w0.heap.size w0 wx → wx.heap[w.heap.size]? = some (.cells #[.bool t.b0, .bool t.b1, .bool t.b2, .bool t.b3] 50 (0, 0))) := fun wx hx => (hx.block _ hz0).trans S0.out
  clear hb0 S0 CB
  go_wp2
  go_loopw [6, 7] (fun lv' iv wr => ∃ (lv : Value) (i : Nat) (ps : List Ps), lv = lv' ∧ i ≤ len ∧ iv = .int .i64 (i : Int) ∧ Hid (Ast w0 wr lv ps i)) (fun _ i _ => len - (intOf i).toNat)
  case atStart => exact ⟨_, 0, [], rfl, by omega, rfl, Ast.start w0⟩
  case round =>
    obtain ⟨wo, hwo⟩ : ∃ wo : World, wo = wr := ⟨_, rfl⟩
    subst hwo
    obtain ⟨lv, i, ps, hlv, hi, rfl, A⟩ := hrel
    subst hlv
    have HW : Hid (Below w.heap.size w wo) := H0.out.trans (A.out.below.mono H0.out.size)
    by_cases hil : i < len
    · obtain ⟨o, ho⟩ : ∃ o, zs[i]? = some o := ⟨zs[i]'(by omega), List.getElem?_eq_getElem _⟩
      have OK : Hid _ := HO1.out i o ho
      have hao' : ao = some ⟨A0, off, none⟩ := hao (by omega)
      have RG : Hid (wo.rangeAt A0 (off + i * 17) (opl o)) := fun j v hv => by
        rw [HW.out.cell (p := ⟨A0, off + i * 17 + j, none⟩) (hA (by omega))]
        exact HC.out i o ho j v hv
      clear ho
      subst hao'
      go_upto_block 2 with (first | (refine pull_op A0 (off + i * 17) rfl rfl rfl (opl o) rfl RG.out ?_) | (refine keep_op (opl o) rfl rfl rfl rfl rfl (opl_one o) (by simp [Act.eval, Act.put]) (by simp [Act.eval, Act.put]) ?_))
      try go_frame
      obtain ⟨wk, hwk⟩ : ∃ wk, wk = wo.alloc (.cells (opl o).toArray 94) := ⟨_, rfl⟩
      rw [← hwk]
      have OB : Hid (wk.heap[wo.heap.size]? = some (.cells (opl o).toArray 94 (0, 0))) := by rw [hwk]; exact alloc1 _ _
      have BK : Hid (Below wo.heap.size wo wk) := by rw [hwk]; exact (Below.refl _ _).alloc (Nat.le_refl _) _
      have AK : Hid (Ast w0 wk lv ps i) := A.out.grow BK.out
      have hzo : wo.heap.size < wk.heap.size := (Array.getElem?_eq_some_iff.1 OB.out).1
      have HFP : Hid (∀ p ∈ ps, ∀ k, p.fp k → w0.heap.size ≤ k ∧ k < wo.heap.size) := fun p hp k hk => (A.out.all p hp).1.fp_lt hk
      have HLV : Hid (∀ k, lv.ownBlock = some k → w0.heap.size ≤ k ∧ k < wo.heap.size) := A.out.lt
      have hz1 : w0.heap.size ≤ wo.heap.size := A.out.below.size
      clear hwk BK A HW RG
      generalize wo.heap.size = O at OB hzo HFP HLV hz1 ⊢
      generalize (Value.agg (opl o).toArray) = BB
      clear wo
      go_cut [6, 9] (fun lw okv wx => ∃ (l2 : Value) (ps2 : List Ps), l2 = lw ∧ okv = .bool true ∧ Hid (Ast w0 wx l2 ps2 (i + 1)) ∧ Hid (wx.heap[O]? = some (.cells (opl o).toArray 94 (0, 0))))
      case first =>
        have oc0 : wk.cell? ⟨O, 0, none⟩ = some (.int .i64 o.k) := cell_of_row _ _ _ _ _ _ OB.out
        by_cases h1 : o.k = 1
        · have h1' : (o.k == 1) = true := by simpa using h1
          have oc4 : wk.cell? ⟨O, 4, none⟩ = some (.int .i64 o.c.ia) := cell_of_row _ _ _ _ _ _ OB.out
          have oc5 : wk.cell? ⟨O, 5, none⟩ = some (.int .i64 o.c.oa) := cell_of_row _ _ _ _ _ _ OB.out
          have oc6 : wk.cell? ⟨O, 6, none⟩ = some (.int .i64 o.c.lo) := cell_of_row _ _ _ _ _ _ OB.out
          have oc7 : wk.cell? ⟨O, 7, none⟩ = some (.int .i64 o.c.hi) := cell_of_row _ _ _ _ _ _ OB.out
          have oc8 : wk.cell? ⟨O, 8, none⟩ = some (.int .i64 o.c.cp) := cell_of_row _ _ _ _ _ _ OB.out
          have oc9 : wk.cell? ⟨O, 9, none⟩ = some (.int .i64 o.c.im) := cell_of_row _ _ _ _ _ _ OB.out
          have oc10 : wk.cell? ⟨O, 10, none⟩ = some (.int .i64 o.c.om) := cell_of_row _ _ _ _ _ _ OB.out
          have oc11 : wk.cell? ⟨O, 11, none⟩ = some (.int .i64 o.c.iu) := cell_of_row _ _ _ _ _ _ OB.out
          have oc12 : wk.cell? ⟨O, 12, none⟩ = some (.int .i64 o.c.it) := cell_of_row _ _ _ _ _ _ OB.out
          have oc13 : wk.cell? ⟨O, 13, none⟩ = some (.int .i64 o.c.iq) := cell_of_row _ _ _ _ _ _ OB.out
          have oc14 : wk.cell? ⟨O, 14, none⟩ = some (.int .i64 o.c.bu) := cell_of_row _ _ _ _ _ _ OB.out
          have oc15 : wk.cell? ⟨O, 15, none⟩ = some (.int .i64 o.c.ra) := cell_of_row _ _ _ _ _ _ OB.out
          clear h1
          have PZ : Hid ((wk.alloc (.cells #[.pointer none, .pointer none] 97)).heap[wk.heap.size]? = some (.cells #[.pointer none, .pointer none] 97 (0, 0))) := alloc1 _ _
          have BZ : Hid (Below wk.heap.size wk (wk.alloc (.cells #[.pointer none, .pointer none] 97))) := (Below.refl _ _).alloc (Nat.le_refl _) _
          have hszz : (wk.alloc (.cells #[.pointer none, .pointer none] 97)).heap.size = wk.heap.size + 1 := by simp
          cases hv : o.c.ok
          · have CM : Hid (∀ wx, Calls Tryz.prog 56 #[.agg #[.int .i64 o.c.ia, .int .i64 o.c.oa, .int .i64 o.c.lo, .int .i64 o.c.hi, .int .i64 o.c.cp, .int .i64 o.c.im, .int .i64 o.c.om, .int .i64 o.c.iu, .int .i64 o.c.it, .int .i64 o.c.iq, .int .i64 o.c.bu, .int .i64 o.c.ra]] wx fun e w' => e = .returned (.tuple #[.agg #[.pointer none, .pointer none], .bool true]) ∧ Below wx.heap.size wx w') := fun wx => made_no o.c.ia o.c.oa o.c.lo o.c.hi o.c.cp o.c.im o.c.om o.c.iu o.c.it o.c.iq o.c.bu o.c.ra wx OK.out.a0 OK.out.a1 hv
            clear hv
            go_wp2_with fail
            refine Calls.mono (CM.out _) ?_; rintro e wm ⟨rfl, hbm⟩
            have PM : wm.heap[wk.heap.size]? = some (.cells #[.pointer none, .pointer none] 97 (0, 0)) := (hbm.block _ (by omega)).trans PZ.out
            have p0 : wm.cell? ⟨wk.heap.size, 0, none⟩ = some (.pointer none) := cell_of_row _ _ _ _ _ _ PM
            have p1 : wm.cell? ⟨wk.heap.size, 1, none⟩ = some (.pointer none) := cell_of_row _ _ _ _ _ _ PM
            have pf := nofrz PM
            have hpm : wk.heap.size < wm.heap.size := (Array.getElem?_eq_some_iff.1 PM).1
            have BM : Hid (Below wk.heap.size wk wm) := BZ.out.trans (hbm.mono (by omega))
            have FIN : Hid (∀ v0 v1 : Value, Below wk.heap.size wk ((wm.setCell ⟨wk.heap.size, 0, none⟩ v0).setCell ⟨wk.heap.size, 1, none⟩ v1)) := fun v0 v1 => (BM.out.setCell (by simp) _).setCell (by simp) _
            clear hbm PM CM
            clear oc0 oc4 oc5 oc6 oc7 oc8 oc9 oc10 oc11 oc12 oc13 oc14 oc15 PZ BZ BM
            go_wp2_with fail
            go_meet
            exact ⟨_, ps, rfl, rfl, (AK.out.grow (FIN.out _ _)).more, ((FIN.out _ _).block O hzo).trans OB.out⟩
          · have CM : Hid (∀ wx, w0.heap.size ≤ wx.heap.size → Calls Tryz.prog 56 #[.agg #[.int .i64 o.c.ia, .int .i64 o.c.oa, .int .i64 o.c.lo, .int .i64 o.c.hi, .int .i64 o.c.cp, .int .i64 o.c.im, .int .i64 o.c.om, .int .i64 o.c.iu, .int .i64 o.c.it, .int .i64 o.c.iq, .int .i64 o.c.bu, .int .i64 o.c.ra]] wx fun e w' => ∃ x r : Nat, e = .returned (.tuple #[.agg #[.pointer (some ⟨x, 0, none⟩), .pointer (some ⟨r, 0, none⟩)], .bool true]) ∧ Below wx.heap.size wx w' ∧ Pr w' w0.heap.size (ps0 o.c x r) ∧ (∀ k, (ps0 o.c x r).fp k → wx.heap.size ≤ k)) := fun wx hx => made_new o.c wx OK.out.a0 OK.out.a1 hv _ hx
            clear hv
            go_wp2_with fail
            refine Calls.mono (CM.out _ (by omega)) ?_; rintro e wm ⟨x, r, rfl, hbm, PR, hfp⟩
            have PM : wm.heap[wk.heap.size]? = some (.cells #[.pointer none, .pointer none] 97 (0, 0)) := (hbm.block _ (by omega)).trans PZ.out
            have p0 : wm.cell? ⟨wk.heap.size, 0, none⟩ = some (.pointer none) := cell_of_row _ _ _ _ _ _ PM
            have p1 : wm.cell? ⟨wk.heap.size, 1, none⟩ = some (.pointer none) := cell_of_row _ _ _ _ _ _ PM
            have pf := nofrz PM
            have hpm : wk.heap.size < wm.heap.size := (Array.getElem?_eq_some_iff.1 PM).1
            have BM : Hid (Below wk.heap.size wk wm) := BZ.out.trans (hbm.mono (by omega))
            have HPR : Hid _ := PR
            have HFN : Hid (∀ k, (ps0 o.c x r).fp k → wk.heap.size + 1 ≤ k) := fun k hk => by have := hfp k hk; omega
            have HPM : Hid _ := PM
            clear hbm PM CM PR hfp
            clear oc0 oc4 oc5 oc6 oc7 oc8 oc9 oc10 oc11 oc12 oc13 oc14 oc15 PZ BZ
            go_upto_region 14 with fail
            try go_frame
            obtain ⟨wq, hwq⟩ : ∃ wq, wq = (wm.setCell ⟨wk.heap.size, 0, none⟩ (.pointer (some ⟨x, 0, none⟩))).setCell ⟨wk.heap.size, 1, none⟩ (.pointer (some ⟨r, 0, none⟩)) := ⟨_, rfl⟩
            rw [← hwq]
            have BQ : Hid (Below wk.heap.size wk wq) := by rw [hwq]; exact (BM.out.setCell (by simp) _).setCell (by simp) _
            have PQ : Hid (wq.heap[wk.heap.size]? = some (.cells #[.pointer (some ⟨x, 0, none⟩), .pointer (some ⟨r, 0, none⟩)] 97 (0, 0))) := by rw [hwq]; exact heap_setCell_same (o := 1) (.pointer (some ⟨r, 0, none⟩)) (heap_setCell_same (o := 0) (.pointer (some ⟨x, 0, none⟩)) HPM.out)
            have RQ : Hid (Pr wq w0.heap.size (ps0 o.c x r)) := HPR.out.kept (by rw [hwq]; simp [World.setCell]) (fun k hk => by rw [hwq]; exact (Below.heap_setCell _ _ _ _ (fun e => by have := HFN.out k hk; have e' : k = wk.heap.size := e; omega)).trans (Below.heap_setCell _ _ _ _ (fun e => by have := HFN.out k hk; have e' : k = wk.heap.size := e; omega)))
            have a0 : wq.cell? ⟨wk.heap.size, 0, none⟩ = some (.pointer (some ⟨x, 0, none⟩)) := cell_of_row _ _ _ _ _ _ PQ.out
            have a1 : wq.cell? ⟨wk.heap.size, 1, none⟩ = some (.pointer (some ⟨r, 0, none⟩)) := cell_of_row _ _ _ _ _ _ PQ.out
            have AQ : Hid _ := AK.out.grow BQ.out
            clear hwq BM HPR HPM p0 p1 pf hpm PQ
            have hpl : Hid (ps.length ≤ i) := AK.out.len
            have hsq : w0.heap.size ≤ wq.heap.size := AQ.out.below.size
            have TM : Hid _ := World.ownsRow.alloc AQ.out.row (.cells #[.pointer (some ⟨x, 0, none⟩), .pointer (some ⟨r, 0, none⟩)] 97)
            have HA : Hid _ := alloc1 wq (.cells #[.pointer (some ⟨x, 0, none⟩), .pointer (some ⟨r, 0, none⟩)] 97)
            have SB : Hid (w0.heap.size ≤ (wq.alloc (.cells #[.pointer (some ⟨x, 0, none⟩), .pointer (some ⟨r, 0, none⟩)] 97)).heap.size) := by show _ ≤ _; simp; omega
            go_wp2_with (first
              | (at_builtin; refine wpList_append_lies _ rfl _ _ 91 rfl (w0.heap.size) 97 j0 (.agg #[.pointer none, .pointer none]) 2 16 Tryz.underlying91 HJ0.out Y00.out Y01.out Y02.out rfl (by decide) _ _ _ rfl TM.out ⟨wq.heap.size, 0, none⟩ 1 1 (prl (ps0 o.c x r)) rfl rfl (World.news_of_block HA.out) (by simp [prl, Value.oneCell']) (by decide) ?c3 ?c4 SB.out _ rfl ?_)
              | go_in)
            case c3 => have := hpl.out; unfold maxLen; omega
            case c4 => have := hpl.out; omega
            intro g1 cap1 w5 ho1 hg1 hl1 hz5
            have FIN : Hid (Ast w0 w5 (.slice (some ⟨g1, 0, none⟩) (ps.length + 1) cap1) (ps ++ [ps0 o.c x r]) (i + 1)) := Ast.add AK.out BQ.out RQ.out (fun k hk => by have := HFN.out k hk; omega) (Nat.zero_le _) (Nat.zero_le _) ((Below.refl _ _).alloc (Nat.le_refl _) (.cells #[.pointer (some ⟨x, 0, none⟩), .pointer (some ⟨r, 0, none⟩)] 97)) ho1 hg1 (by rcases hl1 with q | q; exact .inl q; exact .inr (by rw [q]; simp))
            have FOB : Hid (w5.heap[O]? = some (.cells (opl o).toArray 94 (0, 0))) := (hg1.block O (by have := BQ.out.size; simp; omega) (fun e => by have := (HLV.out O e.symm).2; omega)).trans ((push_lt _ _ _ (by have := BQ.out.size; omega)).trans ((BQ.out.block O hzo).trans OB.out))
            clear ho1 hg1 hl1 hz5 TM HA SB RQ AQ BQ a0 a1
            go_wp2_with fail
            go_meet
            exact ⟨_, _, rfl, rfl, FIN, FOB⟩
        · have h1' : (o.k == 1) = false := by simpa using h1
          clear h1
          by_cases h5 : o.k = 5
          · have h5' : (o.k == 5) = true := by simpa using h5
            have oc3 : wk.cell? ⟨O, 3, none⟩ = some (.string o.s) := cell_of_row _ _ _ _ _ _ OB.out
            clear h5
            have CC : Hid _ := lchecks_any o.s OK.out.s
            go_wp2_with fail
            refine Calls.mono (CC.out _) ?_; rintro e wm ⟨rfl, hbm⟩
            have BM : Hid (Below wk.heap.size wk wm) := hbm
            clear hbm CC oc0 oc3
            go_wp2_with fail
            go_meet
            exact ⟨_, ps, rfl, rfl, (AK.out.grow BM.out).more, (BM.out.block O hzo).trans OB.out⟩
          · have h5' : (o.k == 5) = false := by simpa using h5
            clear h5
            obtain ⟨gg, cp, hlv, hform⟩ := AK.out.form
            have HFM : Hid _ := hform
            clear hform
            by_cases hps : ps.length = 0
            · rw [hps] at hlv
              have HA : Hid (Ast w0 wk (.slice gg 0 cp) ps i) := by rw [← hlv]; exact AK.out
              subst hlv
              go_wp2_with fail
              go_meet
              exact ⟨_, ps, rfl, rfl, HA.out.more, OB.out⟩
            · have hpos : 0 < ps.length := by omega
              have hpl := AK.out.len
              obtain ⟨j, hj, hpick⟩ := pick_any o.bx ps.length hpos (by omega) OK.out.b0 OK.out.b1
              have CP : Hid _ := hpick
              obtain ⟨pj, hpj⟩ : ∃ pj, ps[j]? = some pj := ⟨ps[j]'hj, List.getElem?_eq_getElem _⟩
              obtain ⟨g, hg, hown, hle, hcap, hrg⟩ := HFM.out j pj hpj
              have hmem := List.mem_of_getElem? hpj
              have PD : Hid (Pr wk.drew w0.heap.size pj) := (AK.out.all pj hmem).1.below (Below.refl _ _).drew
              have hul := (AK.out.all pj hmem).2
              have CST : Hid _ := PD.out.play o OK.out t (by omega) (by omega)
              have SHK : Hid (wk.heap[w.heap.size]? = some (.cells #[.bool t.b0, .bool t.b1, .bool t.b2, .bool t.b3] 50 (0, 0))) := SHB.out wk AK.out.below
              have NO : Hid (¬ pj.fp O) := fun q => by have := (HFP.out pj hmem O q).2; omega
              have NS : Hid (¬ pj.fp w.heap.size) := fun q => by have := (HFP.out pj hmem _ q).1; omega
              have NG : Hid (¬ pj.fp g) := AK.out.nl pj hmem g hown
              have hgl : g < wk.heap.size := (AK.out.lt g hown).2
              have hsl : w.heap.size < wk.heap.size := by have := AK.out.below.size; omega
              obtain ⟨gc, hgc⟩ : ∃ gc, wk.heap[g]? = some gc := ⟨wk.heap[g]'hgl, Array.getElem?_eq_getElem _⟩
              have HGC : Hid _ := hgc
              have RGE : Hid (∀ wx : World, wx.heap[g]? = some gc → wx.rangeAt g (j * 2) [.pointer (some ⟨pj.x, 0, none⟩), .pointer (some ⟨pj.r, 0, none⟩)]) := fun wx hx i v hv => by
                have := hrg i v hv
                rw [← this]
                exact World.cell?_of_block (hx.trans hgc.symm)
              have HPJ : Hid _ := hpj
              have hcm' : cp ≤ 9223372036854775807 := by unfold maxLen at hcap; omega
              clear hpick hrg hgc hown hul hpj hmem hcap HFM
              subst hg
              have HAK : Hid (Ast w0 wk (.slice (some ⟨g, 0, none⟩) ps.length cp) ps i) := by rw [← hlv]; exact AK.out
              subst hlv
              clear AK
              obtain ⟨n, hn⟩ : ∃ n : Nat, n = ps.length := ⟨_, rfl⟩
              rw [← hn] at CP hj hle HAK hpos ⊢
              have HN : Hid _ := hn
              clear hn hps
              go_upto_region 18 with fail
              try go_frame
              obtain ⟨SX, hSX⟩ : ∃ SX : World → Prop, ∀ w', Sof SX w' ↔ w'.heap[O]? = some (.cells (opl o).toArray 94 (0, 0)) ∧ w'.heap[w.heap.size]? = some (.cells #[.bool t.b0, .bool t.b1, .bool t.b2, .bool t.b3] 50 (0, 0)) ∧ w'.heap[g]? = some gc := ⟨_, fun _ => Iff.rfl⟩
              have HSX : Hid _ := hSX
              clear hSX
              have ss : Hid (Sof SX wk.drew) := (HSX.out _).2 ⟨OB.out, SHK.out, HGC.out⟩
              refine wp_region_held_drew (S := fun w' => Sof SX w') (by kernel_rfl) ss.out (fun hHeld => ?_)
              refine takeR (i := 0) (v := .slice (some ⟨g, 0, none⟩) n cp) rfl (by kernel_rfl) (by kernel_rfl) (by kernel_rfl) (fun _ _ _ h => h) (yieldr_mv (by rfl) (.inl rfl) rfl) (by assumption) ?_
              try go_frame
              refine takeR (i := 1) (v := .pointer (some ⟨O, 1, none⟩)) rfl (by kernel_rfl) (by kernel_rfl) (by kernel_rfl) (fun _ _ _ h => h) (Or.inl ⟨by rfl, fun w' hSw => by first | rfl | go_simp⟩) (by assumption) ?_
              try go_frame
              refine takeR (i := 2) (v := .int .i64 o.bx) rfl (by kernel_rfl) (by kernel_rfl) (by kernel_rfl) (fun _ _ _ h => h) (yieldr_in (by rfl) rfl rfl (fun w' h => cell_of_row _ _ _ _ _ _ ((HSX.out w').1 h).1)) (by assumption) ?_
              try go_frame
              refine takeR (i := 3) (v := .slice (some ⟨g, 0, none⟩) n cp) rfl (by kernel_rfl) (by kernel_rfl) (by kernel_rfl) (fun _ _ _ h => h) (yieldr_mv (by rfl) (.inl rfl) rfl) (by assumption) ?_
              try go_frame
              refine takeR (i := 4) (v := .int .i64 (n : Int)) rfl (by kernel_rfl) (by kernel_rfl) (by kernel_rfl) (fun _ _ _ h => h) (Or.inl ⟨by rfl, fun w' hSw => by first | rfl | go_simp⟩) (by assumption) ?_
              try go_frame
              refine takeR (i := 8) (v := .agg (opl o).toArray) rfl (by kernel_rfl) (by kernel_rfl) (by kernel_rfl) (fun _ _ _ h => h) (yieldr_op (by rfl) rfl O 0 rfl (opl o) rfl (fun w' h => range_row ((HSX.out w').1 h).1)) (by assumption) ?_
              try go_frame
              refine takeR (i := 9) (v := .agg #[.bool t.b0, .bool t.b1, .bool t.b2, .bool t.b3]) rfl (by kernel_rfl) (by kernel_rfl) (by kernel_rfl) (fun _ _ _ h => h) (yieldr_sh (by rfl) rfl (w.heap.size) 0 rfl [.bool t.b0, .bool t.b1, .bool t.b2, .bool t.b3] rfl (fun w' h => range_row ((HSX.out w').1 h).2.1)) (by assumption) ?_
              try go_frame
              refine callR (i := 5) (by kernel_rfl) rfl (by rfl) (fun K hK => ?_)
              go_simp
              go_wp2_with (first | (go_at_call 59; refine Calls.mono (CP.out _) ?_; rintro e w' ⟨rfl, hw⟩; replace hw := hw.symm; subst hw))
              refine hK.out _ _ ?_ (fun hHeld => ?_)
              · exact ss.out
              clear hK
              clear K
              try go_frame
              refine takeR (i := 6) (v := .pointer (some ⟨g, j * 2, none⟩)) rfl (by kernel_rfl) (by kernel_rfl) (by kernel_rfl) (fun _ _ _ h => h) (Or.inl ⟨by rfl, fun w' hSw => by first | rfl | go_simp⟩) (by assumption) ?_
              try go_frame
              refine takeR (i := 7) (v := .agg #[.pointer (some ⟨pj.x, 0, none⟩), .pointer (some ⟨pj.r, 0, none⟩)]) rfl (by kernel_rfl) (by kernel_rfl) (by kernel_rfl) (fun _ _ _ h => h) (yieldr_pr (by rfl) rfl g (j * 2) rfl [.pointer (some ⟨pj.x, 0, none⟩), .pointer (some ⟨pj.r, 0, none⟩)] rfl (fun w' h => RGE.out w' ((HSX.out w').1 h).2.2)) (by assumption) ?_
              try go_frame
              refine callR (i := 10) (by kernel_rfl) rfl (by rfl) (fun K hK => ?_)
              go_simp
              go_wp2_with (first | (go_at_call 58; refine Calls.mono CST.out ?_; rintro e ws ⟨rfl, p', SL⟩; have hk_ws : Sof SX ws := (HSX.out _).2 ⟨(SL.block O hzo NO.out).trans OB.out, (SL.block _ hsl NS.out).trans SHK.out, (SL.block g hgl NG.out).trans HGC.out⟩))
              refine hK.out _ _ ?_ (fun hHeld => ?_)
              · exact hk_ws
              clear hK
              clear K
              try go_frame
              refine takeR (i := 11) (v := .bool true) rfl (by kernel_rfl) (by kernel_rfl) (by kernel_rfl) (fun _ _ _ h => h) (yieldr_mv (by rfl) (.inr rfl) rfl) (by assumption) ?_
              try go_frame
              refine wpAnyH_done (by kernel_rfl) ?_ _
              go_wp2_with fail
              go_meet
              exact ⟨_, _, rfl, rfl, Ast.step (HAK.out.grow (Below.refl _ _).drew) HPJ.out SL, ((HSX.out _).1 hk_ws).1⟩
      case rest =>
        obtain ⟨l2, ps2, hl2, hokv, A2, OB2⟩ := hcut
        subst hl2
        subst hokv
        obtain ⟨wj, hwj⟩ : ∃ wj : World, wj = wc := ⟨_, rfl⟩
        subst hwj
        clear AK OB HFP HLV
        obtain ⟨gg, cp, hlv2, hform⟩ := A2.out.form
        have HFM : Hid _ := hform
        have hcp2 : ps2.length ≤ i + 1 := A2.out.len
        obtain ⟨n, hn⟩ : ∃ n : Nat, n = ps2.length := ⟨_, rfl⟩
        rw [← hn] at hlv2 hcp2
        have HN : Hid _ := hn
        have A3 : Hid (Ast w0 wj (.slice gg n cp) ps2 (i + 1)) := by rw [← hlv2]; exact A2.out
        clear hform hn A2
        subst hlv2
        have hzj : O < wj.heap.size := (Array.getElem?_eq_some_iff.1 OB2.out).1
        have OCS : Hid (∀ wx, Below wj.heap.size wj wx → wx.cell? ⟨O, 16, none⟩ = some (.bool o.see)) := fun wx hx => cell_of_row _ _ _ _ _ _ ((hx.block O hzj).trans OB2.out)
        have SHJ : Hid (∀ wx, Below wj.heap.size wj wx → wx.cell? ⟨w.heap.size, 3, none⟩ = some (.bool t.b3)) := fun wx hx => cell_of_row _ _ _ _ _ _ (SHB.out wx (A3.out.below.trans (hx.mono A3.out.below.size)))
        clear OB2
        go_wp2
        go_loopw [9, 11] (fun okv kv wi => ∃ k : Nat, k ≤ n ∧ okv = .bool true ∧ kv = .int .i64 (k : Int) ∧ Hid (Below wj.heap.size wj wi)) (fun _ k _ => n - (intOf k).toNat)
        case atStart => exact ⟨0, by omega, rfl, rfl, Below.refl _ _⟩
        case round =>
          obtain ⟨wi, hwi'⟩ : ∃ wi : World, wi = wr := ⟨_, rfl⟩
          subst hwi'
          obtain ⟨k, hk, rfl, rfl, hbi⟩ := hrel
          have o16 := OCS.out wi hbi.out
          have AI : Hid _ := A3.out.grow hbi.out
          obtain ⟨see, hsee⟩ : ∃ see, see = o.see := ⟨_, rfl⟩
          rw [← hsee] at o16
          clear hsee
          by_cases hkn : k < n
          · cases see
            · go_wp2
              go_round
              case rel => exact ⟨_, i + 1, ps2, rfl, by omega, by go_num, AI⟩
              case measure => simp [intOf]; omega
            · obtain ⟨pk, hpk⟩ : ∃ pk, ps2[k]? = some pk := ⟨ps2[k]'(by have := HN.out; omega), List.getElem?_eq_getElem _⟩
              have hmem := List.mem_of_getElem? hpk
              obtain ⟨g, hg, hown, hle, hcap, hrg⟩ := HFM.out k pk hpk
              have PK : Hid (Pr wi.drew w0.heap.size pk) := (AI.out.all pk hmem).1.below (Below.refl _ _).drew
              have CL : Hid _ := PK.out.looks t.b3
              have RG2 : Hid (∀ wx, Below wj.heap.size wj wx → wx.rangeAt g (k * 2) [.pointer (some ⟨pk.x, 0, none⟩), .pointer (some ⟨pk.r, 0, none⟩)]) := fun wx hx i v hv => by
                have := hrg i v hv
                rw [← this]
                exact World.cell?_of_block (hx.block g (A3.out.lt g hown).2)
              have hcm' : cp ≤ 9223372036854775807 := by unfold maxLen at hcap; omega
              have hle' : n ≤ cp := by have := HN.out; omega
              have HKN : Hid (k < n) := hkn
              clear hpk hmem hown hle hcap hrg
              subst hg
              go_upto_region 24 with fail
              try go_frame
              go_cut [9] (fun okv wx => okv = .bool true ∧ Hid (Below wj.heap.size wj wx))
              case first =>
                obtain ⟨SX, hSX⟩ : ∃ SX : World → Prop, ∀ w', Sof SX w' ↔ Below wj.heap.size wj w' := ⟨_, fun _ => Iff.rfl⟩
                have HSX : Hid _ := hSX
                clear hSX
                have ss : Hid (Sof SX wi.drew) := (HSX.out _).2 hbi.out.drew
                refine wp_region_held_drew (S := fun w' => Sof SX w') (by kernel_rfl) ss.out (fun hHeld => ?_)
                refine takeR (i := 0) (v := .slice (some ⟨g, 0, none⟩) n cp) rfl (by kernel_rfl) (by kernel_rfl) (by kernel_rfl) (fun _ _ _ h => h) (yieldr_mv (by rfl) (.inl rfl) rfl) (by assumption) ?_
                try go_frame
                refine takeR (i := 1) (v := .int .i64 (k : Int)) rfl (by kernel_rfl) (by kernel_rfl) (by kernel_rfl) (fun _ _ _ h => h) (yieldr_mv (by rfl) (.inl rfl) rfl) (by assumption) ?_
                try go_frame
                refine takeR (i := 2) (v := .pointer (some ⟨g, k * 2, none⟩)) rfl (by kernel_rfl) (by kernel_rfl) (by kernel_rfl) (fun _ _ _ h => h) (Or.inl ⟨by rfl, fun w' hSw => by first | rfl | go_simp⟩) (by assumption) ?_
                try go_frame
                refine takeR (i := 3) (v := .agg #[.pointer (some ⟨pk.x, 0, none⟩), .pointer (some ⟨pk.r, 0, none⟩)]) rfl (by kernel_rfl) (by kernel_rfl) (by kernel_rfl) (fun _ _ _ h => h) (yieldr_pr (by rfl) rfl g (k * 2) rfl [.pointer (some ⟨pk.x, 0, none⟩), .pointer (some ⟨pk.r, 0, none⟩)] rfl (fun w' h => RG2.out w' ((HSX.out w').1 h))) (by assumption) ?_
                try go_frame
                refine takeR (i := 4) (v := .pointer (some ⟨w.heap.size, 3, none⟩)) rfl (by kernel_rfl) (by kernel_rfl) (by kernel_rfl) (fun _ _ _ h => h) (Or.inl ⟨by rfl, fun w' hSw => by first | rfl | go_simp⟩) (by assumption) ?_
                try go_frame
                refine takeR (i := 5) (v := .bool t.b3) rfl (by kernel_rfl) (by kernel_rfl) (by kernel_rfl) (fun _ _ _ h => h) (yieldr_bo (by rfl) rfl rfl (fun w' h => SHJ.out w' ((HSX.out w').1 h))) (by assumption) ?_
                try go_frame
                refine callR (i := 6) (by kernel_rfl) rfl (by rfl) (fun K hK => ?_)
                go_simp
                go_wp2_with (first | (go_at_call 60; refine Calls.mono CL.out ?_; rintro e ws ⟨rfl, hbs⟩; have hk_ws : Sof SX ws := (HSX.out _).2 (((HSX.out _).1 ss.out).trans (hbs.mono ((HSX.out _).1 ss.out).size))))
                refine hK.out _ _ ?_ (fun hHeld => ?_)
                · exact hk_ws
                clear hK
                clear K
                try go_frame
                refine takeR (i := 7) (v := .bool true) rfl (by kernel_rfl) (by kernel_rfl) (by kernel_rfl) (fun _ _ _ h => h) (yieldr_mv (by rfl) (.inr rfl) rfl) (by assumption) ?_
                try go_frame
                refine wpAnyH_done (by kernel_rfl) ?_ _
                go_wp2_with fail
                go_meet
                exact ⟨rfl, (HSX.out _).1 hk_ws⟩
              case rest =>
                obtain ⟨hokv, hbx⟩ := hcut
                subst hokv
                obtain ⟨wz, hwz⟩ : ∃ wz : World, wz = wc := ⟨_, rfl⟩
                subst hwz
                have hkn' := HKN.out
                go_wp2
                go_round
                case rel => exact ⟨k + 1, by omega, rfl, by go_num, hbx⟩
                case measure => simp [intOf]; omega
          · go_wp2
            go_round
            case rel => exact ⟨_, i + 1, ps2, rfl, by omega, by go_num, AI⟩
            case measure => simp [intOf]; omega
    · have hil' : i = len := by omega
      go_wp2
      go_ret
      exact ⟨rfl, HW.out⟩

end Go.Proofs.YthiljpbodmajaabGreat
