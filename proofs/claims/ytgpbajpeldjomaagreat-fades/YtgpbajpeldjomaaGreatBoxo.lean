/-
  CONTRACTS: package natbox: outward, inward, Frame.
-/
import Derived.Test.YtgpbajpeldjomaaGreatBoxw
namespace Go.Proofs.YtgpbajpeldjomaaGreat
open Go.RowKit Plain
set_option linter.unusedVariables false

/-- an answer as a value -/
def rpv (e d : Int) (s : ByteArray) : Value := .agg #[.int .i64 e, .int .i64 d, .string s]
theorem cell3 {w : World} {g : Nat} {t : TypeId} {fr : Nat × Nat} {v0 v1 v2 : Value} (h : w.heap[g]? = some (.cells #[v0, v1, v2] t fr)) : w.cell? ⟨g, 0, none⟩ = some v0 ∧ w.cell? ⟨g, 1, none⟩ = some v1 ∧ w.cell? ⟨g, 2, none⟩ = some v2 :=
  ⟨cell_of_row w g 0 _ t fr h, cell_of_row w g 1 _ t fr h, cell_of_row w g 2 _ t fr h⟩
theorem outward_er (b : Nat) (s : ByteArray) (w : World) (cE : Ret 82 #[.string s] (.bool true)) :
    Calls Tryz.prog 50 #[.pointer (some ⟨b, 0, none⟩), .string s] w fun e w' => e = .returned (rpv 8 0 ⟨#[]⟩) ∧ Below w.heap.size w w' := by
  go_enter Tryz.func50, Tryz.ntmps50
  go_wp2_with fail
  refine Calls.mono (cE.at _) ?_; rintro e w' ⟨rfl, rfl⟩
  go_wp2
  exact bodyPost_ret (v := rpv 8 0 ⟨#[]⟩) (by simp [results, Tryz.results50, go_sem, rpv]) rfl ⟨rfl, (Below.refl _ _).alloc (Nat.le_refl _) _⟩
theorem outward_for (b : Nat) (s : ByteArray) (w : World) (cE : Ret 82 #[.string s] (.bool false))
    (cF : ∀ wx, Below w.heap.size w wx → Calls Tryz.prog 90 #[.pointer (some ⟨b, 0, none⟩), .string s] wx fun e w' => e = .returned (.bool true) ∧ Below wx.heap.size wx w') :
    Calls Tryz.prog 50 #[.pointer (some ⟨b, 0, none⟩), .string s] w fun e w' => e = .returned (rpv 8 0 ⟨#[]⟩) ∧ Below w.heap.size w w' := by
  have CF : Hid _ := cF
  clear cF
  go_enter Tryz.func50, Tryz.ntmps50
  go_wp2_with fail
  refine Calls.mono (cE.at _) ?_; rintro e w' ⟨rfl, hw⟩; replace hw := hw.symm; subst hw
  go_wp2_with fail
  refine Calls.mono (CF.out _ ((Below.refl _ _).alloc (Nat.le_refl _) _)) ?_; rintro e w1 ⟨rfl, hb1⟩
  have B0 := (hb1.block w.heap.size (by simp)).trans (alloc1 w _)
  obtain ⟨d0, d1, d2⟩ := cell3 B0
  have f0 := nofrz B0
  clear B0
  go_wp2
  refine bodyPost_ret (v := rpv 8 0 ⟨#[]⟩) (by simp [results, Tryz.results50, go_sem, rpv, d0, d1, d2]) rfl ⟨rfl, ?_⟩
  repeat refine Below.setCell ?_ (by simp <;> omega) _
  exact ((Below.refl _ _).alloc (Nat.le_refl _) _).trans (hb1.mono (by simp))
set_option maxHeartbeats 4000000 in
theorem outward_use {w : World} {base b : Nat} {ty : TypeId} {cur : Array Value} {v : Value} {ms : List Mp} (T : Tb w base b 12 ty cur v ms) (s s1 s2 : ByteArray) (om oa p sa sp da pp id x : Int) (h6 : cur[6]? = some (.int .i64 om)) (cE : Ret 82 #[.string s] (.bool false))
    (cF : ∀ wx, Below w.heap.size w wx → Calls Tryz.prog 90 #[.pointer (some ⟨b, 0, none⟩), .string s] wx fun e w' => e = .returned (.bool false) ∧ Below wx.heap.size wx w')
    (cM : Ret 86 #[.string s, .int .i64 om] (.int .i64 0)) (cP : Ret 85 #[.string s] (.int .i64 p)) (cS : RetB 91 #[.string s] (.agg #[.int .i64 sa, .int .i64 sp])) (cD : RetB 92 #[.string s] (.agg #[.int .i64 da, .int .i64 pp]))
    (cI : ∀ wx, Below w.heap.size w wx → Calls Tryz.prog 94 #[.pointer (some ⟨b, 0, none⟩), .int .i64 p] wx fun e w' => e = .returned (.int .i64 id) ∧ w' = wx)
    (R : World → World → Prop)
    (cU : ∀ wx, Below w.heap.size w wx → Calls Tryz.prog 93 #[.pointer (some ⟨b, 12, none⟩), .int .i64 p, .agg #[.int .i64 sa, .int .i64 sp], .agg #[.int .i64 da, .int .i64 pp], .int .i64 id] wx fun e w' => e = .returned (.tuple #[.int .i64 x, .int .i64 0]) ∧ R wx w')
    (hR : ∀ wx w', R wx w' → wx.heap.size ≤ w'.heap.size ∧ (∀ k, w.heap.size ≤ k → k < wx.heap.size → w'.heap[k]? = wx.heap[k]?) ∧ w'.cell? ⟨b, 1, none⟩ = some (.int .i64 oa))
    (hX : RetB 95 #[.string s, .agg #[.int .i64 oa, .int .i64 x]] (.string s1) ∧ RetB 89 #[.string s1] (.string s2)) (Q : World → Prop)
    (hQ : ∀ wx w1 w2, Below w.heap.size w wx → w.heap.size < wx.heap.size → R wx w1 → Below w1.heap.size w1 w2 → ∀ u0 u1 u2, Q (((w2.setCell ⟨w.heap.size, 0, none⟩ u0).setCell ⟨w.heap.size, 1, none⟩ u1).setCell ⟨w.heap.size, 2, none⟩ u2)) :
    Calls Tryz.prog 50 #[.pointer (some ⟨b, 0, none⟩), .string s] w fun e w' => e = .returned (rpv 0 1 s2) ∧ Q w' := by
  have CF : Hid _ := cF
  have CI : Hid _ := cI
  have CU : Hid _ := cU
  have HR : Hid _ := hR
  have HX : Hid _ := hX
  have HQ : Hid _ := hQ
  have hb := T.lt
  have h6' := T.at 6 h6
  clear cF cI cU hR hX hQ T h6
  go_enter Tryz.func50, Tryz.ntmps50
  go_wp2_with fail
  refine Calls.mono (cE.at _) ?_; rintro e w' ⟨rfl, hw⟩; replace hw := hw.symm; subst hw
  go_wp2_with fail
  refine Calls.mono (CF.out _ ((Below.refl _ _).alloc (Nat.le_refl _) _)) ?_; rintro e w1 ⟨rfl, hb1⟩
  have B1 := (hb1.block w.heap.size (by simp)).trans (alloc1 w _)
  have hbw1 : Below w.heap.size w w1 := ((Below.refl w.heap.size w).alloc (Nat.le_refl _) _).trans (hb1.mono (by simp))
  have hz1 : w.heap.size < w1.heap.size := by have := hb1.size; simp at this; omega
  have h6a : w1.cell? ⟨b, 6, none⟩ = some (.int .i64 om) := (hbw1.cell (p := ⟨b, 6, none⟩) hb).trans h6'
  have HB1 : Hid _ := B1
  have HW1 : Hid _ := hbw1
  clear hb1 B1 hbw1
  go_wp2_with fail
  refine Calls.mono (cM.at _) ?_; rintro e w' ⟨rfl, hw⟩; replace hw := hw.symm; subst hw
  go_wp2_with fail
  refine Calls.mono (cP.at _) ?_; rintro e w' ⟨rfl, hw⟩; replace hw := hw.symm; subst hw
  go_wp2_with fail
  refine Calls.mono (cS.at _) ?_; rintro e w2 ⟨rfl, hb2⟩
  have HW2 : Hid (Below w1.heap.size w1 w2) := hb2
  have hz2 : w1.heap.size ≤ w2.heap.size := hb2.size
  clear hb2
  go_wp2_with fail
  refine Calls.mono (cD.at _) ?_; rintro e w3 ⟨rfl, hb3⟩
  have E3 := (hb3.block w2.heap.size (by simp)).trans (alloc1 w2 _)
  have HW3 : Hid (Below w2.heap.size w2 w3) := ((Below.refl w2.heap.size w2).alloc (Nat.le_refl _) _).trans (hb3.mono (by simp))
  have hz3 : w2.heap.size < w3.heap.size := by have := hb3.size; simp at this; omega
  obtain ⟨c0, c1⟩ := cell2 E3
  clear hb3 E3
  have HW : Hid (∀ wx, Below w3.heap.size w3 wx → Below w.heap.size w wx) := fun wx hx => ((HW1.out.trans (HW2.out.mono (by omega))).trans (HW3.out.mono (by omega))).trans (hx.mono (by omega))
  have HB3 : Hid (∀ wx, Below w3.heap.size w3 wx → wx.heap[w.heap.size]? = w1.heap[w.heap.size]?) := fun wx hx => by rw [hx.block _ (by omega), HW3.out.block _ (by omega), HW2.out.block _ hz1]
  go_wp2
  go_region_with (first
    | (go_at_call 94; refine Calls.mono (CI.out _ (HW.out _ (((Below.refl _ _).alloc (Nat.le_refl _) _).drew))) ?_; rintro e w' ⟨rfl, hw⟩; replace hw := hw.symm; subst hw)
    | (go_at_call 93; refine Calls.mono (CU.out _ (HW.out _ (((Below.refl _ _).alloc (Nat.le_refl _) _).drew))) ?_; rintro e w4 ⟨rfl, hr4⟩))
  all_goals
    obtain ⟨hz4, hk4, ho4⟩ := HR.out _ _ hr4
    have B4 := (hk4 w.heap.size (Nat.le_refl _) (by simp; omega)).trans ((HB3.out _ (((Below.refl _ _).alloc (Nat.le_refl _) _).drew)).trans HB1.out)
    obtain ⟨d0, d1, d2⟩ := cell3 B4
    have f0 := nofrz B4
    have hzz : w.heap.size < w4.heap.size := by simp at hz4; omega
    have hbx := HW.out _ (((Below.refl w3.heap.size w3).alloc (Nat.le_refl _) (.cells #[.int .i64 da, .int .i64 pp] 124)).drew)
    have H4 : Hid _ := And.intro hr4 hbx
    clear B4 hk4 hr4 hz4 hbx
    obtain ⟨cW, cT⟩ := HX.out
    go_wp2_with fail
    refine Calls.mono (cW.at _) ?_; rintro e w5 ⟨rfl, hb5⟩
    go_wp2_with fail
    refine Calls.mono (cT.at _) ?_; rintro e w6 ⟨rfl, hb6⟩
    have hb46 := hb5.trans (hb6.mono hb5.size)
    have d0' := (hb46.cell (p := ⟨w.heap.size, 0, none⟩) hzz).trans d0
    have d1' := (hb46.cell (p := ⟨w.heap.size, 1, none⟩) hzz).trans d1
    have d2' := (hb46.cell (p := ⟨w.heap.size, 2, none⟩) hzz).trans d2
    have f0' : ∀ o, w6.frozen? ⟨w.heap.size, o, none⟩ = false := fun o => (hb46.frozen (p := ⟨w.heap.size, o, none⟩) hzz).trans (f0 o)
    have H6 : Hid _ := hb46
    clear hb5 hb6 hb46 d0 d1 d2 f0
    go_wp2
    exact bodyPost_ret (v := rpv 0 1 s2) (by simp [results, Tryz.results50, go_sem, rpv, d0', d1', d2']) rfl ⟨rfl, HQ.out _ _ _ H4.out.2 (by simp; omega) H4.out.1 H6.out _ _ _⟩
end Go.Proofs.YtgpbajpeldjomaaGreat
