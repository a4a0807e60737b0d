/-
  CONTRACTS: package natboxref: given.
-/
import Derived.Test.YthiljpbodmajaabGreatRfpe
import Derived.Test.YthiljpbodmajaabGreatSimz
import Derived.Test.YthiljpbodmajaabGreatRefk
namespace Go.Proofs.YthiljpbodmajaabGreat
open Go.RowKit Plain
set_option linter.unusedVariables false

section
variable {w : World} {base b : Nat} {c : Cf} {now : Int} {us : List Us} {own : List Int} {uv ov : Value} {ms : List Mp}
set_option maxHeartbeats 4000000 in
/-- the endpoint has a mapping -/
theorem rgiven_yes (T : Rb w base b c now us own uv ov) (S : Sim c now us ms) (U : Uok now us) (t2 : now ≤ 1099511627776) (p a q x pa pp ti : Int) (m : Mp) (hm : ms[ms.findIdx (·.of p a q)]? = some m) (r : Int) (hr0 : r = if m.takes pa pp then m.ex else 0) :
    Calls Tryz.prog 209 #[.pointer (some ⟨b, 0, none⟩), .agg #[.int .i64 p, .int .i64 a, .int .i64 q, .int .i64 x, .int .i64 pa, .int .i64 pp, .int .i64 ti]] w fun e w' => e = .returned (.int .i64 r) ∧ Below w.heap.size w w' := by
  have HR0 : Hid _ := hr0
  clear hr0
  obtain ⟨i, u, hf, hu, hl, M⟩ := S.endpoint1 hm
  have Mo := S.tok.all m (fi_some hm).1
  have h4 : (peersL c us i).length ≤ 4 := by have := M.pe.len; have := Mo.k4; omega
  have hkn := M.pe.len
  have hknow : (peersL c us i).contains (pa, pp) = m.knows pa pp := by
    cases k : m.knows pa pp
    · cases k2 : (peersL c us i).contains (pa, pp)
      · rfl
      · have := (M.pe.mem pa pp).1 (by simpa using k2); rw [k] at this; cases this
    · have := (M.pe.mem pa pp).2 k; simpa using this
  have hext := M.ex
  have cE : Hid (∀ o : Obj, Calls Tryz.prog 226 #[.pointer (some ⟨b, 0, none⟩), .int .i64 p, .int .i64 a, .int .i64 q] (w.alloc o) fun e w' => e = .returned (.int .i64 (i : Int)) ∧ Below (w.alloc o).heap.size (w.alloc o) w') := fun o => by
    have := rendp_any (T.below ((Below.refl _ _).alloc (Nat.le_refl _) o)) U t2 p a q
    rw [hf] at this
    exact this
  have cP : Hid (∀ wx, Below w.heap.size w wx → Calls Tryz.prog 212 #[.pointer (some ⟨b, 0, none⟩), .int .i64 (i : Int)] wx fun e w' => ∃ lv, e = .returned lv ∧ w'.ownsRow (wx.heap.size + 1) 3 1 lv (flat (peersL c us i)).length (ints (flat (peersL c us i))) ∧ Below wx.heap.size wx w') := fun wx hb => rpeers_any (T.below hb) U t2 i u hu h4
  generalize hPL : peersL c us i = L at *
  have HK : Hid _ := hknow
  have HKN : Hid _ := hkn
  have HX : Hid _ := hext
  have HT : Hid _ := T
  have HU : Hid _ := hu
  have H4 : Hid _ := h4
  clear hf hl M Mo h4 hkn hknow hext S U hm hPL T hu
  go_enter Tryz.func209, Tryz.ntmps209
  go_wp2_with fail
  refine Calls.mono (cE.out _) ?_; rintro e w1 ⟨rfl, hb1⟩
  have A1 : Hid (w1.heap[w.heap.size]? = some (.cells #[.int .i64 p, .int .i64 a, .int .i64 q, .int .i64 x, .int .i64 pa, .int .i64 pp, .int .i64 ti] 134 (0, 0))) := (hb1.block w.heap.size (by simp)).trans (alloc1 w _)
  have B1 : Hid (Below w.heap.size w w1) := ((Below.refl _ _).alloc (Nat.le_refl _) _).trans (hb1.mono (by simp))
  clear hb1 cE
  go_wp2_with fail
  refine Calls.mono (cP.out _ B1.out) ?_; rintro e w2 ⟨lv, rfl, ho, hb2⟩
  have A2 : Hid _ := (hb2.block w.heap.size (Array.getElem?_eq_some_iff.1 A1.out).1).trans A1.out
  have B2 : Hid (Below w.heap.size w w2) := B1.out.trans (hb2.mono B1.out.size)
  obtain ⟨d0, d1, d2, d3, d4, d5, d6⟩ := cell7 A2.out
  have cA : Hid (Calls Tryz.prog 225 #[lv, .int .i64 pa, .int .i64 pp] w2 fun e w' => e = .returned (.bool (m.knows pa pp)) ∧ w' = w2) := by rw [← HK.out]; exact ramong_any ho (by have := H4.out; omega) pa pp
  obtain ⟨gg, cap2, hlv⟩ : ∃ gg cap2, lv = .slice gg (2 * L.length) cap2 := by
    rcases own_cases1 ho with ⟨rfl, e⟩ | ⟨g, cap, rfl, _, _⟩
    · have : 2 * L.length = 0 := by rw [← flat_len, e]; rfl
      exact ⟨none, 0, by rw [this]⟩
    · exact ⟨_, cap, by rw [flat_len]⟩
  have T2 : Hid _ := HT.out.below B2.out
  clear hb2 A1 B1 ho cP
  obtain ⟨N, hN⟩ : ∃ N : Nat, N = 2 * L.length := ⟨_, rfl⟩
  obtain ⟨K, hK⟩ : ∃ K : Nat, K = L.length := ⟨_, rfl⟩
  rw [← hN] at hlv
  have hq : (N : Int) / 2 = (K : Int) := by omega
  have hKN : Hid ((K : Int) = m.kn) := by rw [hK]; exact HKN.out
  have hK4 : K ≤ 4 := by rw [hK]; exact H4.out
  have hN8 : N ≤ 8 := by have := H4.out; omega
  clear hN hK
  obtain ⟨g, n, cap, huv, hr⟩ : ∃ g n cap, uv = .slice (some ⟨g, 0, none⟩) n cap ∧ UrowIn w2 base g n cap us := by
    rcases T2.out.ur.cases with ⟨_, rfl⟩ | ⟨g, n, cap, rfl, hr⟩
    · have := HU.out; simp at this
    · exact ⟨g, n, cap, rfl, hr⟩
  have hL : w2.cell? ⟨b, 13, none⟩ = some (.slice (some ⟨g, 0, none⟩) n cap) := by rw [← huv]; exact T2.out.at 13 rfl
  obtain ⟨_, _, _, c3, _, _, _⟩ := hr.cells i u HU.out
  have hin : i < n := by have := hr.len; have := (List.getElem?_eq_some_iff.1 HU.out).1; omega
  have hcm := hr.cm
  have hcl := hr.le
  unfold maxLen at hcm
  clear hr huv
  subst hlv
  cases qk : m.knows pa pp
  · rw [qk] at cA
    by_cases h4' : 4 ≤ K
    · have hfin : Hid (r = 0) := by
        show _ = _
        rw [HR0.out, if_neg]
        have := hKN.out
        simp [Mp.takes, qk]; omega
      go_wp2_with fail
      refine Calls.mono cA.out ?_; rintro e w' ⟨rfl, hw⟩; replace hw := hw.symm; subst hw
      go_wp2
      go_ret
      exact ⟨ret_int (by rw [hfin.out]), B2.out⟩
    · have hfin : Hid (r = u.ex) := by
        show _ = _
        rw [HR0.out, if_pos, HX.out]
        have := hKN.out
        simp [Mp.takes, qk]; omega
      have h4'' : K < 4 := by omega
      clear h4'
      go_wp2_with fail
      refine Calls.mono cA.out ?_; rintro e w' ⟨rfl, hw⟩; replace hw := hw.symm; subst hw
      go_wp2
      go_ret
      exact ⟨ret_int (by rw [hfin.out]), B2.out⟩
  · rw [qk] at cA
    have hfin : Hid (r = u.ex) := by
      show _ = _
      rw [HR0.out, if_pos, HX.out]
      simp [Mp.takes, qk]
    go_wp2_with fail
    refine Calls.mono cA.out ?_; rintro e w' ⟨rfl, hw⟩; replace hw := hw.symm; subst hw
    go_wp2
    go_ret
    exact ⟨ret_int (by rw [hfin.out]), B2.out⟩
set_option maxHeartbeats 4000000 in
set_option maxRecDepth 2000 in
/-- the endpoint has none -/
theorem rgiven_no (T : Rb w base b c now us own uv ov) (S : Sim c now us ms) (U : Uok now us) (t2 : now ≤ 1099511627776) (p a q x pa pp ti : Int) (l0 : 1 ≤ c.lo) (l2 : c.lo ≤ c.hi) (h2 : c.hi ≤ 65535) (hc2 : c.cp ≤ 64) (hm : ms[ms.findIdx (·.of p a q)]? = none) (r : Int) (hr0 : r = gvP c ms p a q pa pp) :
    Calls Tryz.prog 209 #[.pointer (some ⟨b, 0, none⟩), .agg #[.int .i64 p, .int .i64 a, .int .i64 q, .int .i64 x, .int .i64 pa, .int .i64 pp, .int .i64 ti]] w fun e w' => e = .returned (.int .i64 r) ∧ Below w.heap.size w w' := by
  have HR0 : Hid (r = if c.cp ≤ (ms.length : Int) then 0 else if c.lo ≤ q ∧ q ≤ c.hi ∧ ms[ms.findIdx (·.has p q)]? = none then q else if gap p ms c.lo ≤ c.hi then gap p ms c.lo else 0) := by
    show _ = _
    rw [hr0]
    unfold gvP
    rw [hm]
  clear hr0
  have cE : Hid (∀ o : Obj, Calls Tryz.prog 226 #[.pointer (some ⟨b, 0, none⟩), .int .i64 p, .int .i64 a, .int .i64 q] (w.alloc o) fun e w' => e = .returned (.int .i64 (-1)) ∧ Below (w.alloc o).heap.size (w.alloc o) w') := fun o => by
    have := rendp_any (T.below ((Below.refl _ _).alloc (Nat.le_refl _) o)) U t2 p a q
    rw [S.endpoint0 hm] at this
    exact this
  have cLv : Hid (∀ wx, Below w.heap.size w wx → Calls Tryz.prog 100 #[.pointer (some ⟨b, 0, none⟩)] wx fun e w' => e = .returned (.int .i64 (ms.length : Int)) ∧ Below wx.heap.size wx w') := fun wx hb => by
    have := rlive_any (T.below hb) U t2
    rw [S.seen.2.2] at this
    exact this
  obtain ⟨hv, hhv⟩ : ∃ hv : Int → Int, (∀ k, ms[ms.findIdx (·.has p k)]? = none → hv k = -1) ∧ (∀ k, ¬ ms[ms.findIdx (·.has p k)]? = none → 0 ≤ hv k) ∧ ∀ k wx, Below w.heap.size w wx → Calls Tryz.prog 203 #[.pointer (some ⟨b, 0, none⟩), .int .i64 p, .int .i64 k] wx fun e w' => e = .returned (.int .i64 (hv k)) ∧ Below wx.heap.size wx w' := by
    refine ⟨fun k => idx (fst? (hasI c now us p k) us.length), fun k hk => ?_, fun k hk => ?_, fun k wx hb => rhold_any (T.below hb) U t2 p k⟩
    · show idx _ = _
      rw [S.holder0 hk]; rfl
    · show 0 ≤ idx _
      cases q : ms[ms.findIdx (·.has p k)]? with
      | none => exact absurd q hk
      | some m =>
        obtain ⟨i, u, hf, _⟩ := S.holder1 q
        rw [hf]; show (0 : Int) ≤ (i : Int); omega
  have HV : Hid _ := hhv
  have HS : Hid _ := S.srt
  have HT : Hid _ := T
  have hml : ms.length ≤ 64 := by have := S.tok.len; omega
  clear hhv S U hm T
  go_enter Tryz.func209, Tryz.ntmps209
  go_wp2_with fail
  refine Calls.mono (cE.out _) ?_; rintro e w1 ⟨rfl, hb1⟩
  have A1 : Hid (w1.heap[w.heap.size]? = some (.cells #[.int .i64 p, .int .i64 a, .int .i64 q, .int .i64 x, .int .i64 pa, .int .i64 pp, .int .i64 ti] 134 (0, 0))) := (hb1.block w.heap.size (by simp)).trans (alloc1 w _)
  have B1 : Hid (Below w.heap.size w w1) := ((Below.refl _ _).alloc (Nat.le_refl _) _).trans (hb1.mono (by simp))
  clear hb1 cE
  have T1 : Hid _ := HT.out.below B1.out
  have m4 : w1.cell? ⟨b, 4, none⟩ = some (.int .i64 c.cp) := T1.out.at 4 rfl
  have hbb : b < w1.heap.size := T1.out.lt
  have LV1 : Hid _ := cLv.out w1.drew B1.out.drew
  obtain ⟨ml, hml'⟩ : ∃ ml : Nat, ml = ms.length := ⟨_, rfl⟩
  rw [← hml'] at LV1 hml HR0
  clear hml'
  go_wp2_with fail
  by_cases hcap : c.cp ≤ (ml : Int)
  · have hfin : Hid (r = 0) := by show _ = _; rw [HR0.out, if_pos hcap]
    go_region_held (fun w' => w'.cell? ⟨b, 4, none⟩ = some (.int .i64 c.cp)) (first | (with_reducible assumption) | simp [*]) (first | (go_at_call 100; refine Calls.mono LV1.out ?_; rintro e wl ⟨rfl, hbl⟩; have m4l : wl.cell? ⟨b, 4, none⟩ = some (.int .i64 c.cp) := ((T1.out.drew').below hbl).at 4 rfl))
    have hb2 : Hid (Below w.heap.size w wl) := B1.out.drew.trans (hbl.mono B1.out.size)
    clear hbl
    go_wp2
    go_ret
    exact ⟨ret_int (by rw [hfin.out]), hb2.out⟩
  · have HR2 : Hid (r = if c.lo ≤ q ∧ q ≤ c.hi ∧ ms[ms.findIdx (·.has p q)]? = none then q else if gap p ms c.lo ≤ c.hi then gap p ms c.lo else 0) := by show _ = _; rw [HR0.out, if_neg hcap]
    have hcap' : (ml : Int) < c.cp := by omega
    clear hcap
    go_region_held (fun w' => w'.cell? ⟨b, 4, none⟩ = some (.int .i64 c.cp)) (first | (with_reducible assumption) | simp [*]) (first | (go_at_call 100; refine Calls.mono LV1.out ?_; rintro e wl ⟨rfl, hbl⟩; have m4l : wl.cell? ⟨b, 4, none⟩ = some (.int .i64 c.cp) := ((T1.out.drew').below hbl).at 4 rfl))
    have B2 : Hid (Below w.heap.size w wl) := B1.out.drew.trans (hbl.mono B1.out.size)
    have A2 : Hid (wl.heap[w.heap.size]? = some (.cells #[.int .i64 p, .int .i64 a, .int .i64 q, .int .i64 x, .int .i64 pa, .int .i64 pp, .int .i64 ti] 134 (0, 0))) := (hbl.block w.heap.size (Array.getElem?_eq_some_iff.1 A1.out).1).trans A1.out
    clear hbl m4l
    have T2 : Hid _ := HT.out.below B2.out
    have B2d : Hid (Below w.heap.size w wl.drew) := B2.out.drew
    have hszd : w.heap.size < wl.drew.heap.size := (Array.getElem?_eq_some_iff.1 A2.out).1
    have hbl2 : b < wl.heap.size := T2.out.lt
    have cBt : Hid _ := between_any q c.lo c.hi wl.drew
    obtain ⟨d0, d1, d2, d3, d4, d5, d6⟩ := cell7 A2.out
    have e2 : wl.cell? ⟨b, 2, none⟩ = some (.int .i64 c.lo) := T2.out.at 2 rfl
    have e3 : wl.cell? ⟨b, 3, none⟩ = some (.int .i64 c.hi) := T2.out.at 3 rfl
    go_wp2_with fail
    by_cases hin : c.lo ≤ q ∧ q ≤ c.hi
    · have hbt : inB q c.lo c.hi = true := by simpa [inB] using hin
      rw [hbt] at cBt
      clear hbt
      by_cases hfree : ms[ms.findIdx (·.has p q)]? = none
      · have hfin : Hid (r = q) := by show _ = _; rw [HR2.out, if_pos ⟨hin.1, hin.2, hfree⟩]
        have cH : Hid _ := HV.out.2.2 q wl.drew B2d.out
        rw [HV.out.1 q hfree] at cH
        clear hfree hin
        go_region_held (fun w' => w'.cell? ⟨w.heap.size, 0, none⟩ = some (.int .i64 p) ∧ w'.cell? ⟨w.heap.size, 2, none⟩ = some (.int .i64 q) ∧ w'.cell? ⟨b, 2, none⟩ = some (.int .i64 c.lo) ∧ w'.cell? ⟨b, 3, none⟩ = some (.int .i64 c.hi)) (first | (with_reducible assumption) | simp [*]) (first | (go_at_call 188; refine Calls.mono cBt.out ?_; rintro e w' ⟨rfl, hw⟩; replace hw := hw.symm; subst hw) | (go_at_call 203; refine Calls.mono cH.out ?_; rintro e wh ⟨rfl, hbh⟩; have k0 : wh.cell? ⟨w.heap.size, 0, none⟩ = some (.int .i64 p) := (cell7 ((hbh.block w.heap.size hszd).trans A2.out)).1; have k2 : wh.cell? ⟨w.heap.size, 2, none⟩ = some (.int .i64 q) := (cell7 ((hbh.block w.heap.size hszd).trans A2.out)).2.2.1; have k3 : wh.cell? ⟨b, 2, none⟩ = some (.int .i64 c.lo) := ((T2.out.drew').below hbh).at 2 rfl; have k4 : wh.cell? ⟨b, 3, none⟩ = some (.int .i64 c.hi) := ((T2.out.drew').below hbh).at 3 rfl))
        have hb3 : Hid (Below w.heap.size w wh) := B2d.out.trans (hbh.mono B2d.out.size)
        have hb4 : Hid (wh.heap[w.heap.size]? = some (.cells #[.int .i64 p, .int .i64 a, .int .i64 q, .int .i64 x, .int .i64 pa, .int .i64 pp, .int .i64 ti] 134 (0, 0))) := (hbh.block w.heap.size hszd).trans A2.out
        clear hbh
        go_wp2
        go_ret
        exact ⟨ret_int (by rw [hfin.out]), hb3.out⟩
      · have HR1 : Hid (r = if gap p ms c.lo ≤ c.hi then gap p ms c.lo else 0) := by show _ = _; rw [HR2.out, if_neg (fun z => hfree z.2.2)]
        have cH : Hid _ := HV.out.2.2 q wl.drew B2d.out
        have e1 : 0 ≤ hv q := HV.out.2.1 q hfree
        clear hfree hin
        generalize hv q = hvq at cH e1
        go_region_held (fun w' => w'.cell? ⟨w.heap.size, 0, none⟩ = some (.int .i64 p) ∧ w'.cell? ⟨w.heap.size, 2, none⟩ = some (.int .i64 q) ∧ w'.cell? ⟨b, 2, none⟩ = some (.int .i64 c.lo) ∧ w'.cell? ⟨b, 3, none⟩ = some (.int .i64 c.hi)) (first | (with_reducible assumption) | simp [*]) (first | (go_at_call 188; refine Calls.mono cBt.out ?_; rintro e w' ⟨rfl, hw⟩; replace hw := hw.symm; subst hw) | (go_at_call 203; refine Calls.mono cH.out ?_; rintro e wh ⟨rfl, hbh⟩; have k0 : wh.cell? ⟨w.heap.size, 0, none⟩ = some (.int .i64 p) := (cell7 ((hbh.block w.heap.size hszd).trans A2.out)).1; have k2 : wh.cell? ⟨w.heap.size, 2, none⟩ = some (.int .i64 q) := (cell7 ((hbh.block w.heap.size hszd).trans A2.out)).2.2.1; have k3 : wh.cell? ⟨b, 2, none⟩ = some (.int .i64 c.lo) := ((T2.out.drew').below hbh).at 2 rfl; have k4 : wh.cell? ⟨b, 3, none⟩ = some (.int .i64 c.hi) := ((T2.out.drew').below hbh).at 3 rfl))
        have hb3 : Hid (Below w.heap.size w wh) := B2d.out.trans (hbh.mono B2d.out.size)
        have hb4 : Hid (wh.heap[w.heap.size]? = some (.cells #[.int .i64 p, .int .i64 a, .int .i64 q, .int .i64 x, .int .i64 pa, .int .i64 pp, .int .i64 ti] 134 (0, 0))) := (hbh.block w.heap.size hszd).trans A2.out
        clear hbh
        go_wp2
        go_loopw [8] (fun kv wr => ∃ k : Int, c.lo ≤ k ∧ k ≤ 65536 ∧ kv = .int .i64 k ∧ Hid (∀ j, c.lo ≤ j → j < k → ¬ ms[ms.findIdx (·.has p j)]? = none) ∧ Hid (Below w.heap.size w wr) ∧ Hid (wr.heap[w.heap.size]? = some (.cells #[.int .i64 p, .int .i64 a, .int .i64 q, .int .i64 x, .int .i64 pa, .int .i64 pp, .int .i64 ti] 134 (0, 0)))) (fun i _ => (65536 - intOf i).toNat)
        case atStart => exact ⟨c.lo, Int.le_refl _, by omega, rfl, fun j h1 h2 => by omega, hb3.out, hb4.out⟩
        case round =>
          obtain ⟨k, hlk, hk6, rfl, hf, hbel, hblk⟩ := hrel
          have TW : Hid _ := HT.out.below hbel.out
          have n3 : wr.cell? ⟨b, 3, none⟩ = some (.int .i64 c.hi) := TW.out.at 3 rfl
          obtain ⟨d0, d1, d2, d3, d4, d5, d6⟩ := cell7 hblk.out
          by_cases hlt : k ≤ c.hi
          · by_cases hfree : ms[ms.findIdx (·.has p k)]? = none
            · have hfin : Hid (r = k) := by
                show _ = _
                have e := gap_first HS.out hlk hf.out hfree
                rw [HR1.out, e, if_pos hlt]
              have e1 : hv k = -1 := HV.out.1 k hfree
              have cH : Hid _ := HV.out.2.2 k wr hbel.out
              rw [e1] at cH
              clear hfree
              go_wp2_with fail
              refine Calls.mono cH.out ?_; rintro e wh ⟨rfl, hbh⟩
              have hb2 : Hid (Below w.heap.size w wh) := hbel.out.trans (hbh.mono hbel.out.size)
              clear hbh
              go_wp2
              go_ret
              exact ⟨ret_int (by rw [hfin.out]), hb2.out⟩
            · have e1 : 0 ≤ hv k := HV.out.2.1 k hfree
              have cH : Hid _ := HV.out.2.2 k wr hbel.out
              have HF : Hid (∀ j, c.lo ≤ j → j < k + 1 → ¬ ms[ms.findIdx (·.has p j)]? = none) := fun j h1 h2 => by
                by_cases e : j = k
                · subst e; exact hfree
                · exact hf.out j h1 (by omega)
              clear hfree
              generalize hv k = hvk at cH e1
              go_wp2_with fail
              refine Calls.mono cH.out ?_; rintro e wh ⟨rfl, hbh⟩
              have hb2 : Hid (Below w.heap.size w wh) := hbel.out.trans (hbh.mono hbel.out.size)
              have hb3 : Hid _ := (hbh.block w.heap.size (Array.getElem?_eq_some_iff.1 hblk.out).1).trans hblk.out
              clear hbh
              go_wp2
              go_round
              case rel => exact ⟨k + 1, by omega, by omega, by go_num, HF.out, hb2.out, hb3.out⟩
              case measure => simp [intOf]; omega
          · have hfin : Hid (r = 0) := by
              show _ = _
              have e := gap_over HS.out (hi := c.hi) (fun j h1 h2 => hf.out j h1 (by omega))
              rw [HR1.out, if_neg e]
            have hlt' : c.hi < k := by omega
            clear hlt
            go_wp2
            go_ret
            exact ⟨ret_int (by rw [hfin.out]), hbel.out⟩
    · have hbt : inB q c.lo c.hi = false := by simpa [inB] using hin
      rw [hbt] at cBt
      clear hbt
      have HR1 : Hid (r = if gap p ms c.lo ≤ c.hi then gap p ms c.lo else 0) := by show _ = _; rw [HR2.out, if_neg (fun z => hin ⟨z.1, z.2.1⟩)]
      clear hin
      refine wp_region_held_drew (S := fun w' => w'.cell? ⟨w.heap.size, 0, none⟩ = some (.int .i64 p) ∧ w'.cell? ⟨w.heap.size, 2, none⟩ = some (.int .i64 q) ∧ w'.cell? ⟨b, 2, none⟩ = some (.int .i64 c.lo) ∧ w'.cell? ⟨b, 3, none⟩ = some (.int .i64 c.hi)) (by kernel_rfl) (by simp [*]) (fun hHeld => ?_)
      refine takeR (i := 0) (v := .pointer (some ⟨w.heap.size, 2, none⟩)) rfl (by kernel_rfl) (by kernel_rfl) (by kernel_rfl) (fun _ _ _ h => h) (Or.inl ⟨by rfl, fun w' hSw => by first | go_simp | rfl⟩) (by assumption) ?_
      try go_frame
      refine takeR (i := 1) (v := .int .i64 q) rfl (by kernel_rfl) (by kernel_rfl) (by kernel_rfl) (fun _ _ _ h => h) (yieldr_in (by rfl) rfl rfl (fun w' h => h.2.1)) (by assumption) ?_
      try go_frame
      refine takeR (i := 2) (v := .pointer (some ⟨b, 0, none⟩)) rfl (by kernel_rfl) (by kernel_rfl) (by kernel_rfl) (fun _ _ _ h => h) (yieldr_mv (by rfl) (.inl rfl) rfl) (by assumption) ?_
      try go_frame
      refine takeR (i := 3) (v := .pointer (some ⟨b, 0, none⟩)) rfl (by kernel_rfl) (by kernel_rfl) (by kernel_rfl) (fun _ _ _ h => h) (Or.inl ⟨by rfl, fun w' hSw => by first | go_simp | rfl⟩) (by assumption) ?_
      try go_frame
      refine takeR (i := 4) (v := .pointer (some ⟨b, 0, none⟩)) rfl (by kernel_rfl) (by kernel_rfl) (by kernel_rfl) (fun _ _ _ h => h) (Or.inl ⟨by rfl, fun w' hSw => by first | go_simp | rfl⟩) (by assumption) ?_
      try go_frame
      refine takeR (i := 5) (v := .pointer (some ⟨b, 2, none⟩)) rfl (by kernel_rfl) (by kernel_rfl) (by kernel_rfl) (fun _ _ _ h => h) (Or.inl ⟨by rfl, fun w' hSw => by first | go_simp | rfl⟩) (by assumption) ?_
      try go_frame
      refine takeR (i := 6) (v := .int .i64 c.lo) rfl (by kernel_rfl) (by kernel_rfl) (by kernel_rfl) (fun _ _ _ h => h) (yieldr_in (by rfl) rfl rfl (fun w' h => h.2.2.1)) (by assumption) ?_
      try go_frame
      refine takeR (i := 7) (v := .pointer (some ⟨b, 0, none⟩)) rfl (by kernel_rfl) (by kernel_rfl) (by kernel_rfl) (fun _ _ _ h => h) (yieldr_mv (by rfl) (.inl rfl) rfl) (by assumption) ?_
      try go_frame
      refine takeR (i := 8) (v := .pointer (some ⟨b, 0, none⟩)) rfl (by kernel_rfl) (by kernel_rfl) (by kernel_rfl) (fun _ _ _ h => h) (Or.inl ⟨by rfl, fun w' hSw => by first | go_simp | rfl⟩) (by assumption) ?_
      try go_frame
      refine takeR (i := 9) (v := .pointer (some ⟨b, 0, none⟩)) rfl (by kernel_rfl) (by kernel_rfl) (by kernel_rfl) (fun _ _ _ h => h) (Or.inl ⟨by rfl, fun w' hSw => by first | go_simp | rfl⟩) (by assumption) ?_
      try go_frame
      refine takeR (i := 10) (v := .pointer (some ⟨b, 3, none⟩)) rfl (by kernel_rfl) (by kernel_rfl) (by kernel_rfl) (fun _ _ _ h => h) (Or.inl ⟨by rfl, fun w' hSw => by first | go_simp | rfl⟩) (by assumption) ?_
      try go_frame
      refine takeR (i := 11) (v := .int .i64 c.hi) rfl (by kernel_rfl) (by kernel_rfl) (by kernel_rfl) (fun _ _ _ h => h) (yieldr_in (by rfl) rfl rfl (fun w' h => h.2.2.2)) (by assumption) ?_
      try go_frame
      refine callR (i := 12) (by kernel_rfl) rfl (by rfl) (fun K hK => ?_)
      go_simp
      go_wp2_with (first | (go_at_call 188; refine Calls.mono cBt.out ?_; rintro e w' ⟨rfl, hw⟩; replace hw := hw.symm; subst hw))
      refine hK.out _ _ ?_ (fun hHeld => ?_)
      · assumption
      clear hK
      clear K
      try go_frame
      refine takeR (i := 13) (v := .bool false) rfl (by kernel_rfl) (by kernel_rfl) (by kernel_rfl) (fun _ _ _ h => h) (yieldr_mv (by rfl) (.inl rfl) rfl) (by assumption) ?_
      try go_frame
      refine takeR (i := 14) (v := undef) rfl (by kernel_rfl) (by kernel_rfl) (by kernel_rfl) (fun _ _ _ h => h) (skipR (by rfl)) (by assumption) ?_
      try go_frame
      refine takeR (i := 15) (v := undef) rfl (by kernel_rfl) (by kernel_rfl) (by kernel_rfl) (fun _ _ _ h => h) (skipR (by rfl)) (by assumption) ?_
      try go_frame
      refine takeR (i := 16) (v := undef) rfl (by kernel_rfl) (by kernel_rfl) (by kernel_rfl) (fun _ _ _ h => h) (skipR (by rfl)) (by assumption) ?_
      try go_frame
      refine takeR (i := 17) (v := undef) rfl (by kernel_rfl) (by kernel_rfl) (by kernel_rfl) (fun _ _ _ h => h) (skipR (by rfl)) (by assumption) ?_
      try go_frame
      refine takeR (i := 18) (v := undef) rfl (by kernel_rfl) (by kernel_rfl) (by kernel_rfl) (fun _ _ _ h => h) (skipR (by rfl)) (by assumption) ?_
      try go_frame
      refine takeR (i := 19) (v := undef) rfl (by kernel_rfl) (by kernel_rfl) (by kernel_rfl) (fun _ _ _ h => h) (skipR (by rfl)) (by assumption) ?_
      try go_frame
      refine takeR (i := 20) (v := undef) rfl (by kernel_rfl) (by kernel_rfl) (by kernel_rfl) (fun _ _ _ h => h) (skipR (by rfl)) (by assumption) ?_
      try go_frame
      refine takeR (i := 21) (v := .bool false) rfl (by kernel_rfl) (by kernel_rfl) (by kernel_rfl) (fun _ _ _ h => h) (Or.inl ⟨by rfl, fun w' hSw => by first | go_simp | rfl⟩) (by assumption) ?_
      try go_frame
      refine wpAnyH_done (by kernel_rfl) ?_ _
      go_wp2
      go_loopw [8] (fun kv wr => ∃ k : Int, c.lo ≤ k ∧ k ≤ 65536 ∧ kv = .int .i64 k ∧ Hid (∀ j, c.lo ≤ j → j < k → ¬ ms[ms.findIdx (·.has p j)]? = none) ∧ Hid (Below w.heap.size w wr) ∧ Hid (wr.heap[w.heap.size]? = some (.cells #[.int .i64 p, .int .i64 a, .int .i64 q, .int .i64 x, .int .i64 pa, .int .i64 pp, .int .i64 ti] 134 (0, 0)))) (fun i _ => (65536 - intOf i).toNat)
      case atStart => exact ⟨c.lo, Int.le_refl _, by omega, rfl, fun j h1 h2 => by omega, B2d.out, A2.out⟩
      case round =>
        obtain ⟨k, hlk, hk6, rfl, hf, hbel, hblk⟩ := hrel
        have TW : Hid _ := HT.out.below hbel.out
        have n3 : wr.cell? ⟨b, 3, none⟩ = some (.int .i64 c.hi) := TW.out.at 3 rfl
        obtain ⟨d0, d1, d2, d3, d4, d5, d6⟩ := cell7 hblk.out
        by_cases hlt : k ≤ c.hi
        · by_cases hfree : ms[ms.findIdx (·.has p k)]? = none
          · have hfin : Hid (r = k) := by
              show _ = _
              have e := gap_first HS.out hlk hf.out hfree
              rw [HR1.out, e, if_pos hlt]
            have e1 : hv k = -1 := HV.out.1 k hfree
            have cH : Hid _ := HV.out.2.2 k wr hbel.out
            rw [e1] at cH
            clear hfree
            go_wp2_with fail
            refine Calls.mono cH.out ?_; rintro e wh ⟨rfl, hbh⟩
            have hb2 : Hid (Below w.heap.size w wh) := hbel.out.trans (hbh.mono hbel.out.size)
            clear hbh
            go_wp2
            go_ret
            exact ⟨ret_int (by rw [hfin.out]), hb2.out⟩
          · have e1 : 0 ≤ hv k := HV.out.2.1 k hfree
            have cH : Hid _ := HV.out.2.2 k wr hbel.out
            have HF : Hid (∀ j, c.lo ≤ j → j < k + 1 → ¬ ms[ms.findIdx (·.has p j)]? = none) := fun j h1 h2 => by
              by_cases e : j = k
              · subst e; exact hfree
              · exact hf.out j h1 (by omega)
            clear hfree
            generalize hv k = hvk at cH e1
            go_wp2_with fail
            refine Calls.mono cH.out ?_; rintro e wh ⟨rfl, hbh⟩
            have hb2 : Hid (Below w.heap.size w wh) := hbel.out.trans (hbh.mono hbel.out.size)
            have hb3 : Hid _ := (hbh.block w.heap.size (Array.getElem?_eq_some_iff.1 hblk.out).1).trans hblk.out
            clear hbh
            go_wp2
            go_round
            case rel => exact ⟨k + 1, by omega, by omega, by go_num, HF.out, hb2.out, hb3.out⟩
            case measure => simp [intOf]; omega
        · have hfin : Hid (r = 0) := by
            show _ = _
            have e := gap_over HS.out (hi := c.hi) (fun j h1 h2 => hf.out j h1 (by omega))
            rw [HR1.out, if_neg e]
          have hlt' : c.hi < k := by omega
          clear hlt
          go_wp2
          go_ret
          exact ⟨ret_int (by rw [hfin.out]), hbel.out⟩
theorem rgiven_any (T : Rb w base b c now us own uv ov) (S : Sim c now us ms) (U : Uok now us) (t2 : now ≤ 1099511627776) (p a q x pa pp ti : Int) (l0 : 1 ≤ c.lo) (l2 : c.lo ≤ c.hi) (h2 : c.hi ≤ 65535) (hc2 : c.cp ≤ 64) :
    Calls Tryz.prog 209 #[.pointer (some ⟨b, 0, none⟩), .agg #[.int .i64 p, .int .i64 a, .int .i64 q, .int .i64 x, .int .i64 pa, .int .i64 pp, .int .i64 ti]] w fun e w' => e = .returned (.int .i64 (gvP c ms p a q pa pp)) ∧ Below w.heap.size w w' := by
  cases hm : ms[ms.findIdx (·.of p a q)]? with
  | none => exact rgiven_no T S U t2 p a q x pa pp ti l0 l2 h2 hc2 hm _ rfl
  | some m => exact rgiven_yes T S U t2 p a q x pa pp ti m hm _ (by unfold gvP; rw [hm])
end
end Go.Proofs.YthiljpbodmajaabGreat
