/-
  CONTRACTS: what there is to see of a pair: Mapping, Live, Tokens, Table; natboxlaw.same, mapped.
-/
import Derived.Test.YthiljpbodmajaabGreatPrfr
import Derived.Test.YthiljpbodmajaabGreatRgta
import Derived.Test.YthiljpbodmajaabGreatCfgn
import Derived.Deep.DeepCutAuto
namespace Go.Proofs.YthiljpbodmajaabGreat
open Go.RowKit Plain
set_option linter.unusedVariables false
theorem pmap_core {w : World} (b : Nat) (i m0 m1 m2 m3 m4 m5 er : Int) (cA : ∀ wx, Below w.heap.size w wx → Calls Tryz.prog 104 #[.pointer (some ⟨b, 12, none⟩), .int .i64 i] wx fun e w' => e = .returned (.tuple #[.agg #[.int .i64 m0, .int .i64 m1, .int .i64 m2, .int .i64 m3, .int .i64 m4, .int .i64 m5], .int .i64 er]) ∧ Below wx.heap.size wx w') :
    Calls Tryz.prog 67 #[.pointer (some ⟨b, 0, none⟩), .int .i64 i] w fun e w' => e = .returned (.tuple #[.agg #[.int .i64 m0, .int .i64 m1, .int .i64 m2, .int .i64 m3, .int .i64 m4, .int .i64 m5], .int .i64 er]) ∧ Below w.heap.size w w' := by
  have CA : Hid _ := cA
  clear cA
  go_enter Tryz.func67, Tryz.ntmps67
  go_wp2_with fail
  refine Calls.mono (CA.out _ ((Below.refl _ _).alloc (Nat.le_refl _) _)) ?_; rintro e w1 ⟨rfl, hb1⟩
  have B0 := (hb1.block w.heap.size (by simp)).trans (alloc1 w _)
  obtain ⟨d0, d1, d2, d3, d4, d5⟩ := cell6 B0
  have f0 := nofrz B0
  have HB : Hid (Below w.heap.size w w1) := ((Below.refl _ _).alloc (Nat.le_refl _) _).trans (hb1.mono (by simp))
  clear B0 hb1
  go_wp2
  refine bodyPost_ret (v := .tuple #[.agg #[.int .i64 m0, .int .i64 m1, .int .i64 m2, .int .i64 m3, .int .i64 m4, .int .i64 m5], .int .i64 er]) (by simp [results, Tryz.results67, go_sem, d0, d1, d2, d3, d4, d5]) rfl ⟨rfl, ?_⟩
  repeat refine Below.setCell ?_ (by simp <;> omega) _
  exact HB.out
theorem plive_any {w : World} {base b : Nat} {c : Cf} {tk ti : Int} {v : Value} {ms : List Mp} (T : Bat w base b c tk ti v ms) (hz : ms.length ≤ 64) :
    Calls Tryz.prog 19 #[.pointer (some ⟨b, 0, none⟩)] w fun e w' => e = .returned (.int .i64 ms.length) ∧ w' = w := by
  have cL := tabLive_any b 12 base v ms w T.cell T.row hz
  have CL : Hid _ := cL
  clear cL T
  generalize ms.length = n at CL
  go_enter Tryz.func19, Tryz.ntmps19
  go_wp2_with fail
  refine Calls.mono CL.out ?_; rintro e w' ⟨rfl, rfl⟩
  go_wp2
  go_ret
  exact ⟨rfl, rfl⟩
theorem ptok_any {w : World} {base b : Nat} {c : Cf} {tk ti : Int} {v : Value} {ms : List Mp} (T : Bat w base b c tk ti v ms) :
    Calls Tryz.prog 21 #[.pointer (some ⟨b, 0, none⟩)] w fun e w' => e = .returned (.int .i64 tk) ∧ w' = w := by
  have h16 : w.cell? ⟨b, 16, none⟩ = some (.int .i64 tk) := T.at 16 rfl
  clear T
  go_enter Tryz.func21, Tryz.ntmps21
  go_wp2
  go_ret
  exact ⟨rfl, rfl⟩
set_option maxHeartbeats 1000000 in
/-- the reference's Mapping: there is none -/
theorem rmap_no (b : Nat) (i : Int) (TB : List Vw) (w : World) (cT : ∀ wx, Below w.heap.size w wx → Calls Tryz.prog 102 #[.pointer (some ⟨b, 0, none⟩)] wx fun e w' => ∃ lv, e = .returned lv ∧ Vrow w' wx.heap.size lv TB ∧ Below wx.heap.size wx w') (h : i < 0 ∨ (0 ≤ i ∧ (TB.length : Int) ≤ i)) :
    Calls Tryz.prog 156 #[.pointer (some ⟨b, 0, none⟩), .int .i64 i] w fun e w' => e = .returned (.tuple #[.agg #[.int .i64 0, .int .i64 0, .int .i64 0, .int .i64 0, .int .i64 0, .int .i64 0], .int .i64 13]) ∧ Below w.heap.size w w' := by
  have CA : Hid _ := cT
  clear cT
  go_enter Tryz.func156, Tryz.ntmps156
  go_wp2_with fail
  refine Calls.mono (CA.out _ ((Below.refl _ _).alloc (Nat.le_refl _) _)) ?_; rintro e w1 ⟨lv, rfl, hrow, hb1⟩
  obtain ⟨gg, cap, rfl⟩ := vrow_form hrow
  have B0 := (hb1.block w.heap.size (by simp)).trans (alloc1 w _)
  obtain ⟨d0, d1, d2, d3, d4, d5⟩ := cell6 B0
  have f0 := nofrz B0
  have HB : Hid (Below w.heap.size w w1) := ((Below.refl _ _).alloc (Nat.le_refl _) _).trans (hb1.mono (by simp))
  clear B0 hb1 hrow CA
  generalize TB.length = N at h ⊢
  rcases h with h | ⟨h, h2⟩
  · go_wp2
    refine bodyPost_ret (v := .tuple #[.agg #[.int .i64 0, .int .i64 0, .int .i64 0, .int .i64 0, .int .i64 0, .int .i64 0], .int .i64 13]) (by simp [results, Tryz.results156, go_sem, d0, d1, d2, d3, d4, d5]) rfl ⟨rfl, ?_⟩
    repeat refine Below.setCell ?_ (by simp <;> omega) _
    exact HB.out
  · go_wp2
    refine bodyPost_ret (v := .tuple #[.agg #[.int .i64 0, .int .i64 0, .int .i64 0, .int .i64 0, .int .i64 0, .int .i64 0], .int .i64 13]) (by simp [results, Tryz.results156, go_sem, d0, d1, d2, d3, d4, d5]) rfl ⟨rfl, ?_⟩
    repeat refine Below.setCell ?_ (by simp <;> omega) _
    exact HB.out
set_option maxHeartbeats 1000000 in
/-- the reference's Mapping: there is one -/
theorem rmap_at (b k : Nat) (m : Vw) (TB : List Vw) (w : World) (cT : ∀ wx, Below w.heap.size w wx → Calls Tryz.prog 102 #[.pointer (some ⟨b, 0, none⟩)] wx fun e w' => ∃ lv, e = .returned lv ∧ Vrow w' wx.heap.size lv TB ∧ Below wx.heap.size wx w') (h : TB[k]? = some m) :
    Calls Tryz.prog 156 #[.pointer (some ⟨b, 0, none⟩), .int .i64 (k : Int)] w fun e w' => e = .returned (.tuple #[.agg #[.int .i64 m.pr, .int .i64 m.ad, .int .i64 m.po, .int .i64 m.ex, .int .i64 m.le, .int .i64 m.kn], .int .i64 0]) ∧ Below w.heap.size w w' := by
  have CA : Hid _ := cT
  clear cT
  have hk : k < TB.length := (List.getElem?_eq_some_iff.1 h).1
  have HM : Hid _ := h
  clear h
  go_enter Tryz.func156, Tryz.ntmps156
  go_wp2_with fail
  refine Calls.mono (CA.out _ ((Below.refl _ _).alloc (Nat.le_refl _) _)) ?_; rintro e w1 ⟨lv, rfl, hrow, hb1⟩
  have B0 := (hb1.block w.heap.size (by simp)).trans (alloc1 w _)
  obtain ⟨d0, d1, d2, d3, d4, d5⟩ := cell6 B0
  have f0 := nofrz B0
  have HB : Hid (Below w.heap.size w w1) := ((Below.refl _ _).alloc (Nat.le_refl _) _).trans (hb1.mono (by simp))
  rcases hrow.cases with ⟨_, e0⟩ | ⟨g, n, cap, rfl, hr⟩
  · have := HM.out; rw [e0] at this; simp at this
  obtain ⟨q0, q1, q2, q3, q4, q5⟩ := hr.cells k m HM.out
  have hln := hr.len
  rw [hln] at hk
  have hcp := hr.le
  have hcm := hr.cm
  unfold maxLen at hcm
  have hlow := hr.low
  have hne : g ≠ w.heap.size := by have : w.heap.size + 1 ≤ g := by simpa using hlow
                                   omega
  clear B0 hb1 hrow CA hr hln hlow HM
  go_wp2
  refine bodyPost_ret (v := .tuple #[.agg #[.int .i64 m.pr, .int .i64 m.ad, .int .i64 m.po, .int .i64 m.ex, .int .i64 m.le, .int .i64 m.kn], .int .i64 0]) (by simp [results, Tryz.results156, go_sem, d0, d1, d2, d3, d4, d5]) rfl ⟨rfl, ?_⟩
  repeat refine Below.setCell ?_ (by simp <;> omega) _
  exact HB.out
set_option maxHeartbeats 1000000 in
theorem same_any (m : Vw) : RetB 103 #[.agg #[.int .i64 m.pr, .int .i64 m.ad, .int .i64 m.po, .int .i64 m.ex, .int .i64 m.le, .int .i64 m.kn], .agg #[.int .i64 m.pr, .int .i64 m.ad, .int .i64 m.po, .int .i64 m.ex, .int .i64 m.le, .int .i64 m.kn]] (.bool true) := fun w => by
  go_enter Tryz.func103, Tryz.ntmps103
  go_wp2
  go_ret
  exact ⟨by simp, ((Below.refl _ _).alloc (Nat.le_refl _) _).alloc (by simp) _⟩
section
variable {w w' : World} {base : Nat} {p : Ps}
theorem Pr.hz (h : Pr w base p) : p.ms.length ≤ 64 := by
  have := h.rx.sim.tok.len
  have := (cok_of h.rx.ok).c2
  omega
/-- the reference's Table is the program's table -/
theorem Pr.table (h : Pr w base p) : ∀ wx, Below w.heap.size w wx → Calls Tryz.prog 102 #[.pointer (some ⟨p.r, 0, none⟩)] wx fun e w' => ∃ lv, e = .returned lv ∧ Vrow w' wx.heap.size lv (p.ms.map Mp.vw) ∧ Below wx.heap.size wx w' := fun wx hb => by
  have P := h.below hb
  have X := P.rx
  have S := X.sim
  obtain ⟨s1, s2, s3⟩ := S.seen
  have key : ∀ n cap gu, p.uv = .slice gu n cap → n = p.us.length → n ≤ cap → cap ≤ 9223372036854775807 → Calls Tryz.prog 102 #[.pointer (some ⟨p.r, 0, none⟩)] wx fun e w' => ∃ lv, e = .returned lv ∧ Vrow w' wx.heap.size lv (p.ms.map Mp.vw) ∧ Below wx.heap.size wx w' := fun n cap gu he hn hc hm => by
    refine rtable_core p.r n cap gu (lastB p.c p.now p.us) (seenV p.c p.now p.us) (p.ms.map Mp.vw) wx hc hm (fun wy hy => by rw [← he]; exact (X.rb.below hy).at 13 rfl) (fun k hk wy hy => ?_) (fun k hk hl wy hy => ?_) ?_ ?_ ?_ (srt_rnk S.srt S.tok) ?_
    · obtain ⟨u, hu⟩ : ∃ u, p.us[k]? = some u := ⟨p.us[k]'(by omega), List.getElem?_eq_getElem _⟩
      exact rlast_any (X.rb.below hy) X.uok X.t2 k u hu
    · obtain ⟨u, hu⟩ : ∃ u, p.us[k]? = some u := ⟨p.us[k]'(by omega), List.getElem?_eq_getElem _⟩
      obtain ⟨m, hm', M⟩ := S.bwd k u hu hl
      have Mo := S.tok.all m hm'
      have hl4 : (peersL p.c p.us k).length ≤ 4 := by have := M.pe.len; have := Mo.k4; omega
      obtain ⟨g, n', cap', k1, k2, k3, hcl⟩ := (X.below hy).uses hu
      have hid := idle_bd X.ok u.pr
      have hut := X.uok u (List.mem_of_getElem? hu)
      have e : seenV p.c p.now p.us k = ⟨u.pr, u.ad, u.po, u.ex, p.c.idle u.pr - (p.now - u.ti), (peersL p.c p.us k).length⟩ := by unfold seenV; rw [hu]
      rw [e]
      refine rseen_core p.r k g n' cap' (2 * (peersL p.c p.us k).length) (peersL p.c p.us k).length u p.now (p.c.idle u.pr) wy k1 k2 k3 hut.1 hut.2 X.t2 (by omega) hid.2 (by omega) (by omega) (fun wz hz => ⟨(hcl wz hz).1, ((hcl wz hz).2 k u hu).2⟩) (fun wz hz => ((X.rb.below hy).below hz).at 12 rfl) (fun wz hz => ?_) (fun wz hz => ridle_any ((X.rb.below hy).below hz) u.pr)
      refine (rpeers_any ((X.rb.below hy).below hz) X.uok X.t2 k u hu hl4).mono ?_
      rintro r w' ⟨lv, rfl, ho, hb'⟩
      rcases own_cases1 ho with ⟨rfl, e0⟩ | ⟨g1, c1, rfl, _, _⟩
      · have : 2 * (peersL p.c p.us k).length = 0 := by rw [← flat_len, e0]; rfl
        exact ⟨none, 0, by rw [this], hb'⟩
      · exact ⟨_, c1, by rw [flat_len], hb'⟩
    · rw [hn]; exact s2
    · rw [hn, List.length_map]; exact s3
    · rw [List.length_map]; exact P.hz
    · intro v hv
      obtain ⟨m, hm', rfl⟩ := List.mem_map.1 hv
      obtain ⟨i, u, hu, _, M⟩ := S.fwd m hm'
      have Mo := S.tok.all m hm'
      have := P.up u (List.mem_of_getElem? hu)
      have := M.pr
      unfold Mp.vw
      simp only
      refine ⟨by omega, by omega, Mo.x1, Mo.x2⟩
  rcases X.rb.ur.cases with ⟨e1, e2⟩ | ⟨g, n, cap, e1, hr⟩
  · exact key 0 0 none e1 (by rw [e2]; rfl) (by omega) (by omega)
  · have := hr.cm
    unfold maxLen at this
    exact key n cap _ e1 hr.len.symm hr.le (by omega)
/-- both give the same mapping, or none -/
theorem Pr.look (h : Pr w base p) (i : Int) : ∃ (V : Vw) (er : Int), (∀ wx, Below w.heap.size w wx → Calls Tryz.prog 67 #[.pointer (some ⟨p.x, 0, none⟩), .int .i64 i] wx fun e w' => e = .returned (.tuple #[.agg #[.int .i64 V.pr, .int .i64 V.ad, .int .i64 V.po, .int .i64 V.ex, .int .i64 V.le, .int .i64 V.kn], .int .i64 er]) ∧ Below wx.heap.size wx w') ∧
    (∀ wx, Below w.heap.size w wx → Calls Tryz.prog 156 #[.pointer (some ⟨p.r, 0, none⟩), .int .i64 i] wx fun e w' => e = .returned (.tuple #[.agg #[.int .i64 V.pr, .int .i64 V.ad, .int .i64 V.po, .int .i64 V.ex, .int .i64 V.le, .int .i64 V.kn], .int .i64 er]) ∧ Below wx.heap.size wx w') := by
  have hz := h.hz
  by_cases hi : i < 0 ∨ (0 ≤ i ∧ (p.ms.length : Int) ≤ i)
  · refine ⟨⟨0, 0, 0, 0, 0, 0⟩, 13, fun wx hb => ?_, fun wx hb => ?_⟩
    · exact pmap_core p.x i 0 0 0 0 0 0 13 (fun wy hy => at_no p.x 12 base i p.v p.ms wy ((h.bat.below hb).below hy).cell ((h.bat.below hb).below hy).row hz hi)
    · exact rmap_no p.r i (p.ms.map Mp.vw) wx (fun wy hy => h.table wy (hb.trans (hy.mono hb.size))) (by rw [List.length_map]; exact hi)
  · obtain ⟨k, rfl⟩ := Int.eq_ofNat_of_zero_le (show 0 ≤ i by omega)
    obtain ⟨m, hm⟩ : ∃ m, p.ms[k]? = some m := ⟨p.ms[k]'(by omega), List.getElem?_eq_getElem _⟩
    refine ⟨Mp.vw m, 0, fun wx hb => ?_, fun wx hb => ?_⟩
    · exact pmap_core p.x k m.pr m.ea m.ep m.ex m.le m.kn 0 (fun wy hy => at_yes p.x 12 base k m p.v p.ms wy ((h.bat.below hb).below hy).cell ((h.bat.below hb).below hy).row hz hm)
    · exact rmap_at p.r k (Mp.vw m) (p.ms.map Mp.vw) wx (fun wy hy => h.table wy (hb.trans (hy.mono hb.size))) (by rw [List.getElem?_map, hm]; rfl)
end
set_option maxHeartbeats 2000000 in
theorem mapped_core (x r : Nat) (i er : Int) (V : Vw) (w : World) (cX : ∀ wx, Below w.heap.size w wx → Calls Tryz.prog 67 #[.pointer (some ⟨x, 0, none⟩), .int .i64 i] wx fun e w' => e = .returned (.tuple #[.agg #[.int .i64 V.pr, .int .i64 V.ad, .int .i64 V.po, .int .i64 V.ex, .int .i64 V.le, .int .i64 V.kn], .int .i64 er]) ∧ Below wx.heap.size wx w')
    (cR : ∀ wx, Below w.heap.size w wx → Calls Tryz.prog 156 #[.pointer (some ⟨r, 0, none⟩), .int .i64 i] wx fun e w' => e = .returned (.tuple #[.agg #[.int .i64 V.pr, .int .i64 V.ad, .int .i64 V.po, .int .i64 V.ex, .int .i64 V.le, .int .i64 V.kn], .int .i64 er]) ∧ Below wx.heap.size wx w') :
    Calls Tryz.prog 99 #[.agg #[.pointer (some ⟨x, 0, none⟩), .pointer (some ⟨r, 0, none⟩)], .int .i64 i] w fun e w' => e = .returned (.bool true) ∧ Below w.heap.size w w' := by
  have CX : Hid _ := cX
  have CR : Hid _ := cR
  have CS : Hid _ := same_any V
  clear cX cR
  go_enter Tryz.func99, Tryz.ntmps99
  go_wp2_with fail
  refine Calls.mono (CX.out _ ((Below.refl _ _).alloc (Nat.le_refl _) _)) ?_; rintro e w1 ⟨rfl, hb1⟩
  have B0 := (hb1.block w.heap.size (by simp)).trans (alloc1 w _)
  have HB : Hid (Below w.heap.size w w1) := ((Below.refl _ _).alloc (Nat.le_refl _) _).trans (hb1.mono (by simp))
  have hz1 : w.heap.size < w1.heap.size := (Array.getElem?_eq_some_iff.1 B0).1
  have q1 : w1.cell? ⟨w.heap.size, 1, none⟩ = some (.pointer (some ⟨r, 0, none⟩)) := cell_of_row _ _ _ _ _ _ B0
  clear B0 hb1 CX
  go_wp2_with fail
  refine Calls.mono (CR.out _ (HB.out.alloc HB.out.size _)) ?_; rintro e w2 ⟨rfl, hb2⟩
  have B1 := (hb2.block w1.heap.size (by simp)).trans (alloc1 w1 _)
  have HB2 : Hid (Below w.heap.size w w2) := (HB.out.alloc HB.out.size _).trans (hb2.mono (by have := HB.out.size; simp; omega))
  have hz2 : w1.heap.size < w2.heap.size := (Array.getElem?_eq_some_iff.1 B1).1
  obtain ⟨a0, a1, a2, a3, a4, a5⟩ := cell6 B1
  clear B1 hb2 CR q1 HB
  go_wp2_with fail
  refine (num_any _ _).mono ?_; rintro e w' ⟨rfl, hw⟩; replace hw := hw.symm; subst hw
  go_wp2_with fail
  refine Calls.mono (CS.out _) ?_; rintro e w3 ⟨rfl, hb3⟩
  have HB3 : Hid (Below w.heap.size w w3) := (HB2.out.alloc HB2.out.size _).trans (hb3.mono (by have := HB2.out.size; simp; omega))
  clear hb3 HB2
  go_wp2
  go_ret
  exact ⟨by simp, HB3.out⟩
theorem Pr.mapped {w : World} {base : Nat} {p : Ps} (h : Pr w base p) (i : Int) : Calls Tryz.prog 99 #[.agg #[.pointer (some ⟨p.x, 0, none⟩), .pointer (some ⟨p.r, 0, none⟩)], .int .i64 i] w fun e w' => e = .returned (.bool true) ∧ Below w.heap.size w w' := by
  obtain ⟨V, er, cX, cR⟩ := h.look i
  exact mapped_core p.x p.r i er V w cX cR
end Go.Proofs.YthiljpbodmajaabGreat
namespace Go.Proofs.YthiljpbodmajaabGreat
open Go.RowKit Plain
set_option linter.unusedVariables false
theorem info_am : (Tryz.prog.info? 106).map (fun i => (i.zero, i.size)) = some (some (.agg #[.int .i64 0, .int .i64 0, .int .i64 0, .int .i64 0, .int .i64 0, .int .i64 0]), 6) := by kernel_rfl
theorem yieldr_am {ops : Array Oper} {S : World → Prop} {op : Oper} {a : Act} (hw : Region.wanted op (yielded ops a.tmps) = true) {x : Operand} (ho : op.op = .load 106 x) (b : Nat) (hx : a.eval x = .pointer (some ⟨b, 0, none⟩)) (vs : List Value) (hl : vs.length = 6) (hS : ∀ w, S w → ∃ t, w.heap[b]? = some (.cells vs.toArray t (0, 0))) : YieldsIf Tryz.prog ops S op (.agg vs.toArray) a := by
  obtain ⟨i, hi, hz, hs⟩ := info_two info_am
  exact yieldsIf_load_mid hw _ x ho b 0 hx vs _ (fun w h => by obtain ⟨t, hB⟩ := hS w h; exact fun j v hv => by rw [Nat.zero_add, cell_of_row w b j _ _ _ hB]; simpa using hv) Tryz.underlying106 rfl (by simp [hi, hs, hl])

set_option maxHeartbeats 4000000 in
set_option maxRecDepth 2000 in
theorem looks_core (x r : Nat) (tok : Bool) (TB : List Vw) (tk : Int) (w : World) (h64 : TB.length ≤ 64) (cT : ∀ wx, Below w.heap.size w wx → Calls Tryz.prog 102 #[.pointer (some ⟨r, 0, none⟩)] wx fun e w' => ∃ lv, e = .returned lv ∧ Vrow w' wx.heap.size lv TB ∧ Below wx.heap.size wx w')
    (cL : ∀ wx, Below w.heap.size w wx → Calls Tryz.prog 19 #[.pointer (some ⟨x, 0, none⟩)] wx fun e w' => e = .returned (.int .i64 (TB.length : Int)) ∧ w' = wx)
    (cM : ∀ (k : Nat) (v : Vw), TB[k]? = some v → ∀ wx, Below w.heap.size w wx → Calls Tryz.prog 67 #[.pointer (some ⟨x, 0, none⟩), .int .i64 (k : Int)] wx fun e w' => e = .returned (.tuple #[.agg #[.int .i64 v.pr, .int .i64 v.ad, .int .i64 v.po, .int .i64 v.ex, .int .i64 v.le, .int .i64 v.kn], .int .i64 0]) ∧ Below wx.heap.size wx w')
    (cN : ∀ wx, Below w.heap.size w wx → Calls Tryz.prog 67 #[.pointer (some ⟨x, 0, none⟩), .int .i64 (TB.length : Int)] wx fun e w' => e = .returned (.tuple #[.agg #[.int .i64 0, .int .i64 0, .int .i64 0, .int .i64 0, .int .i64 0, .int .i64 0], .int .i64 13]) ∧ Below wx.heap.size wx w')
    (cK : ∀ wx, Below w.heap.size w wx → Calls Tryz.prog 21 #[.pointer (some ⟨x, 0, none⟩)] wx fun e w' => e = .returned (.int .i64 tk) ∧ w' = wx)
    (cO : ∀ wx, Below w.heap.size w wx → Calls Tryz.prog 101 #[.pointer (some ⟨r, 0, none⟩)] wx fun e w' => e = .returned (.int .i64 tk) ∧ Below wx.heap.size wx w') :
    Calls Tryz.prog 60 #[.agg #[.pointer (some ⟨x, 0, none⟩), .pointer (some ⟨r, 0, none⟩)], .bool tok] w fun e w' => e = .returned (.bool true) ∧ Below w.heap.size w w' := by
  have CT : Hid _ := cT
  have CL : Hid _ := cL
  have CM : Hid _ := cM
  have CN : Hid _ := cN
  have CK : Hid _ := cK
  have CO : Hid _ := cO
  clear cT cL cM cN cK cO
  go_enter Tryz.func60, Tryz.ntmps60
  go_wp2_with fail
  refine Calls.mono (CT.out _ ((Below.refl _ _).alloc (Nat.le_refl _) _)) ?_; rintro e w1 ⟨lv, rfl, hrow, hb1⟩
  have B0 : Hid (w1.heap[w.heap.size]? = some (.cells #[.pointer (some ⟨x, 0, none⟩), .pointer (some ⟨r, 0, none⟩)] 97 (0, 0))) := (hb1.block w.heap.size (by simp)).trans (alloc1 w _)
  have HB : Hid (Below w.heap.size w w1) := ((Below.refl _ _).alloc (Nat.le_refl _) _).trans (hb1.mono (by simp))
  have hz1 : w.heap.size < w1.heap.size := (Array.getElem?_eq_some_iff.1 B0.out).1
  have PC : Hid (∀ wx, Below w1.heap.size w1 wx → wx.cell? ⟨w.heap.size, 0, none⟩ = some (.pointer (some ⟨x, 0, none⟩)) ∧ wx.cell? ⟨w.heap.size, 1, none⟩ = some (.pointer (some ⟨r, 0, none⟩))) := fun wx hx => by
    have B := (hx.block w.heap.size (by omega)).trans B0.out
    exact ⟨cell_of_row _ _ _ _ _ _ B, cell_of_row _ _ _ _ _ _ B⟩
  obtain ⟨gg, cap, rfl⟩ := vrow_form hrow
  obtain ⟨N, hN⟩ : ∃ N : Nat, N = TB.length := ⟨_, rfl⟩
  have HN : Hid _ := hN
  have hN64 : N ≤ 64 := by omega
  rw [← hN] at hrow CL CN ⊢
  have KEEP : Hid (∀ wx, Below w1.heap.size w1 wx → ∀ (k : Nat) (v : Vw), TB[k]? = some v → ∃ g, gg = some ⟨g, 0, none⟩ ∧ wx.rangeAt g (k * 6) (vwl v)) := fun wx hx k v hv => by
    rcases hrow.cases with ⟨_, e⟩ | ⟨g, n', cap', e, hr⟩
    · rw [e] at hv; simp at hv
    · cases e
      exact ⟨g, rfl, (hr.kept (hx.block g hr.lt)).range k v hv⟩
  clear hrow hb1 hN CT
  obtain ⟨q0, q1⟩ := PC.out w1 (Below.refl _ _)
  go_wp2_with fail
  refine Calls.mono (CL.out _ HB.out) ?_; rintro e w' ⟨rfl, hw⟩; replace hw := hw.symm; subst hw
  clear CL
  go_wp2
  clear q0 q1
  go_loopw [7] (fun iv wr => ∃ k : Nat, k ≤ N ∧ iv = .int .i64 (k : Int) ∧ Hid (Below w1.heap.size w1 wr)) (fun i _ => N - (intOf i).toNat)
  case atStart => exact ⟨0, by omega, rfl, Below.refl _ _⟩
  case round =>
    obtain ⟨wi, hwi'⟩ : ∃ wi : World, wi = wr := ⟨_, rfl⟩
    subst hwi'
    obtain ⟨k, hk, rfl, hbi⟩ := hrel
    have HWI : Hid (Below w.heap.size w wi) := HB.out.trans (hbi.out.mono HB.out.size)
    obtain ⟨q0, q1⟩ := PC.out wi hbi.out
    by_cases hkN : k < N
    · obtain ⟨v, hv⟩ : ∃ v, TB[k]? = some v := ⟨TB[k]'(by have := HN.out; omega), List.getElem?_eq_getElem _⟩
      have CMk : Hid _ := CM.out k v hv wi HWI.out
      obtain ⟨g, hgg, _⟩ := KEEP.out wi hbi.out k v hv
      subst hgg
      have RV : Hid (∀ wx, Below w1.heap.size w1 wx → wx.rangeAt g (k * 6) [.int .i64 v.pr, .int .i64 v.ad, .int .i64 v.po, .int .i64 v.ex, .int .i64 v.le, .int .i64 v.kn]) := fun wx hx => by
        obtain ⟨g', e, h⟩ := KEEP.out wx hx k v hv
        cases e
        exact h
      have CS : Hid _ := same_any v
      have HKN : Hid (k < N) := hkN
      clear hv
      go_wp2_with fail
      refine Calls.mono CMk.out ?_; rintro e w2 ⟨rfl, hb2⟩
      have hb3 : Hid (Below w1.heap.size w1 w2) := hbi.out.trans (hb2.mono hbi.out.size)
      clear hb2 CMk q0 q1
      go_upto_region 9 with fail
      try go_frame
      obtain ⟨wk, hwk⟩ : ∃ wk, wk = w2.alloc (.cells #[.int .i64 v.pr, .int .i64 v.ad, .int .i64 v.po, .int .i64 v.ex, .int .i64 v.le, .int .i64 v.kn] 106) := ⟨_, rfl⟩
      rw [← hwk]
      have HM : Hid (wk.heap[w2.heap.size]? = some (.cells #[.int .i64 v.pr, .int .i64 v.ad, .int .i64 v.po, .int .i64 v.ex, .int .i64 v.le, .int .i64 v.kn] 106 (0, 0))) := by rw [hwk]; exact alloc1 _ _
      have HK : Hid (Below w1.heap.size w1 wk) := by rw [hwk]; exact hb3.out.alloc hb3.out.size _
      have hl2 : w2.heap.size < wk.heap.size := (Array.getElem?_eq_some_iff.1 HM.out).1
      clear hwk hb3
      generalize w2.heap.size = M at HM hl2 ⊢
      clear w2
      go_cut [47] (fun bv wx => bv = .bool false ∧ Hid (Below w1.heap.size w1 wx))
      case first =>
        obtain ⟨SX, hSX⟩ : ∃ SX : World → Prop, ∀ w', Sof SX w' ↔ Below wk.heap.size wk w' := ⟨_, fun _ => Iff.rfl⟩
        have HSX : Hid _ := hSX
        clear hSX
        have ss : Hid (Sof SX wk.drew) := (HSX.out _).2 (Below.refl _ _).drew
        refine wp_region_held_drew (S := fun w' => Sof SX w') (by kernel_rfl) ss.out (fun hHeld => ?_)
        refine takeR (i := 0) (v := .int .i64 0) rfl (by kernel_rfl) (by kernel_rfl) (by kernel_rfl) (fun _ _ _ h => h) (yieldr_mv (by rfl) (.inl rfl) rfl) (by assumption) ?_
        try go_frame
        refine callR (i := 1) (by kernel_rfl) rfl (by rfl) (fun K hK => ?_)
        go_simp
        go_wp2_with (first | (go_at_call 91; refine (num_any _ _).mono ?_; rintro e w' ⟨rfl, hw⟩; replace hw := hw.symm; subst hw))
        refine hK.out _ _ ?_ (fun hHeld => ?_)
        · exact ss.out
        clear hK
        clear K
        try go_frame
        refine takeR (i := 2) (v := .bool false) rfl (by kernel_rfl) (by kernel_rfl) (by kernel_rfl) (fun _ _ _ h => h) (Or.inl ⟨by rfl, fun w' hSw => by first | rfl | go_simp⟩) (by assumption) ?_
        try go_frame
        refine takeR (i := 3) (v := .bool false) rfl (by kernel_rfl) (by kernel_rfl) (by kernel_rfl) (fun _ _ _ h => h) (yieldr_mv (by rfl) (.inl rfl) rfl) (by assumption) ?_
        try go_frame
        refine takeR (i := 4) (v := .agg #[.int .i64 v.pr, .int .i64 v.ad, .int .i64 v.po, .int .i64 v.ex, .int .i64 v.le, .int .i64 v.kn]) rfl (by kernel_rfl) (by kernel_rfl) (by kernel_rfl) (fun _ _ _ h => h) (yieldr_am (by rfl) rfl M rfl [.int .i64 v.pr, .int .i64 v.ad, .int .i64 v.po, .int .i64 v.ex, .int .i64 v.le, .int .i64 v.kn] rfl (fun w' h => ⟨106, ((((HSX.out w').1 h).block M hl2).trans HM.out)⟩)) (by assumption) ?_
        try go_frame
        refine takeR (i := 5) (v := .slice (some ⟨g, 0, none⟩) N cap) rfl (by kernel_rfl) (by kernel_rfl) (by kernel_rfl) (fun _ _ _ h => h) (yieldr_mv (by rfl) (.inl rfl) rfl) (by assumption) ?_
        try go_frame
        refine takeR (i := 6) (v := .int .i64 (k : Int)) rfl (by kernel_rfl) (by kernel_rfl) (by kernel_rfl) (fun _ _ _ h => h) (yieldr_mv (by rfl) (.inl rfl) rfl) (by assumption) ?_
        try go_frame
        refine takeR (i := 7) (v := .pointer (some ⟨g, k * 6, none⟩)) rfl (by kernel_rfl) (by kernel_rfl) (by kernel_rfl) (fun _ _ _ h => h) (Or.inl ⟨by rfl, fun w' hSw => by first | rfl | go_simp⟩) (by assumption) ?_
        try go_frame
        refine takeR (i := 8) (v := .agg #[.int .i64 v.pr, .int .i64 v.ad, .int .i64 v.po, .int .i64 v.ex, .int .i64 v.le, .int .i64 v.kn]) rfl (by kernel_rfl) (by kernel_rfl) (by kernel_rfl) (fun _ _ _ h => h) (yieldr_rm (by rfl) rfl g (k * 6) rfl [.int .i64 v.pr, .int .i64 v.ad, .int .i64 v.po, .int .i64 v.ex, .int .i64 v.le, .int .i64 v.kn] rfl (fun w' h => RV.out w' (HK.out.trans (((HSX.out w').1 h).mono HK.out.size)))) (by assumption) ?_
        try go_frame
        refine callR (i := 9) (by kernel_rfl) rfl (by rfl) (fun K hK => ?_)
        go_simp
        go_wp2_with (first | (go_at_call 103; refine Calls.mono (CS.out _) ?_; rintro e wa ⟨rfl, hba⟩; have hk_wa : Sof SX wa := (HSX.out _).2 (((HSX.out _).1 ss.out).trans (hba.mono ((HSX.out _).1 ss.out).size))))
        refine hK.out _ _ ?_ (fun hHeld => ?_)
        · exact hk_wa
        clear hK
        clear K
        try go_frame
        refine takeR (i := 10) (v := .bool false) rfl (by kernel_rfl) (by kernel_rfl) (by kernel_rfl) (fun _ _ _ h => h) (Or.inl ⟨by rfl, fun w' hSw => by first | rfl | go_simp⟩) (by assumption) ?_
        try go_frame
        refine takeR (i := 11) (v := .bool false) rfl (by kernel_rfl) (by kernel_rfl) (by kernel_rfl) (fun _ _ _ h => h) (Or.inl ⟨by rfl, fun w' hSw => by first | rfl | go_simp⟩) (by assumption) ?_
        try go_frame
        refine wpAnyH_done (by kernel_rfl) ?_ _
        go_wp2_with fail
        go_meet
        exact ⟨rfl, HK.out.trans (((HSX.out _).1 hk_wa).mono HK.out.size)⟩
      case rest =>
        obtain ⟨rfl, hbx⟩ := hcut
        obtain ⟨wj, hwj⟩ : ∃ wj : World, wj = wc := ⟨_, rfl⟩
        subst hwj
        go_wp2
        go_round
        case rel => exact ⟨k + 1, HKN.out, by go_num, hbx⟩
        case measure => have := HKN.out; simp [intOf]; omega
    · have hkN' : k = N := by omega
      subst hkN'
      have CNk : Hid _ := CN.out wi HWI.out
      have CS : Hid _ := same_any ⟨0, 0, 0, 0, 0, 0⟩
      go_wp2_with fail
      refine Calls.mono CNk.out ?_; rintro e w2 ⟨rfl, hb2⟩
      have hb3 : Hid (Below w1.heap.size w1 w2) := hbi.out.trans (hb2.mono hbi.out.size)
      clear hb2 CNk q0 q1
      go_upto_region 12 with fail
      try go_frame
      obtain ⟨wk, hwk⟩ : ∃ wk, wk = w2.alloc (.cells #[.int .i64 0, .int .i64 0, .int .i64 0, .int .i64 0, .int .i64 0, .int .i64 0] 106) := ⟨_, rfl⟩
      rw [← hwk]
      have HM : Hid (wk.heap[w2.heap.size]? = some (.cells #[.int .i64 0, .int .i64 0, .int .i64 0, .int .i64 0, .int .i64 0, .int .i64 0] 106 (0, 0))) := by rw [hwk]; exact alloc1 _ _
      have HK : Hid (Below w1.heap.size w1 wk) := by rw [hwk]; exact hb3.out.alloc hb3.out.size _
      clear hwk hb3
      obtain ⟨a0, a1, a2, a3, a4, a5⟩ := cell6 HM.out
      clear HM
      go_wp2_with fail
      refine (num_any _ _).mono ?_; rintro e w' ⟨rfl, hw⟩; replace hw := hw.symm; subst hw
      go_wp2_with fail
      refine Calls.mono (CS.out _) ?_; rintro e wa ⟨rfl, hba⟩
      have HA : Hid (Below w1.heap.size w1 wa) := HK.out.trans (hba.mono HK.out.size)
      have HWA : Hid (Below w.heap.size w wa) := HB.out.trans (HA.out.mono HB.out.size)
      clear hba a0 a1 a2 a3 a4 a5 HK
      obtain ⟨q0, q1⟩ := PC.out wa HA.out
      cases tok
      · go_wp2
        go_ret
        exact ⟨rfl, HWA.out⟩
      · go_wp2_with fail
        refine Calls.mono (CK.out wa HWA.out) ?_; rintro e w' ⟨rfl, hw⟩; replace hw := hw.symm; subst hw
        go_wp2_with fail
        refine Calls.mono (CO.out _ HWA.out) ?_; rintro e we ⟨rfl, hbe⟩
        have HE : Hid (Below w.heap.size w we) := HWA.out.trans (hbe.mono HWA.out.size)
        clear hbe
        go_wp2
        go_ret
        exact ⟨by simp, HE.out⟩

theorem Pr.looks {w : World} {base : Nat} {p : Ps} (h : Pr w base p) (tok : Bool) : Calls Tryz.prog 60 #[.agg #[.pointer (some ⟨p.x, 0, none⟩), .pointer (some ⟨p.r, 0, none⟩)], .bool tok] w fun e w' => e = .returned (.bool true) ∧ Below w.heap.size w w' := by
  have hz := h.hz
  have hlen : ((p.ms.map Mp.vw).length : Int) = (p.ms.length : Int) := by rw [List.length_map]
  refine looks_core p.x p.r tok (p.ms.map Mp.vw) p.tk w (by rw [List.length_map]; exact hz) h.table (fun wx hb => by rw [hlen]; exact plive_any (h.bat.below hb) hz) (fun k v hv wx hb => ?_) (fun wx hb => ?_) (fun wx hb => ptok_any (h.bat.below hb)) (fun wx hb => (h.rx.below hb).tokens)
  · rw [List.getElem?_map] at hv
    obtain ⟨m, hm, rfl⟩ := Option.map_eq_some_iff.1 hv
    exact pmap_core p.x k m.pr m.ea m.ep m.ex m.le m.kn 0 (fun wy hy => at_yes p.x 12 base k m p.v p.ms wy ((h.bat.below hb).below hy).cell ((h.bat.below hb).below hy).row hz hm)
  · rw [hlen]
    exact pmap_core p.x _ 0 0 0 0 0 0 13 (fun wy hy => at_no p.x 12 base _ p.v p.ms wy ((h.bat.below hb).below hy).cell ((h.bat.below hb).below hy).row hz (.inr ⟨by omega, by omega⟩))

end Go.Proofs.YthiljpbodmajaabGreat
